import PyProof.Rows.All
import Wide.All
import OpenK.AllK
import Wide.FinOn
import HandS.ForMost
import HandS.IsInst
import HandS.TupAny
import HandS.Style
import HandS.Codes
import HandS.TryOnly
import HandS.TupMul
import HandS.SetKeys
import HandS.StrMore
import HandS.Zip
import KE.GoesEnum
import HandS.ForExc
import HandS.ExcInit
import HandS.ExcIs
import HandS.ExcField
import HandS.FStr
import HandS.WordsExc
import HandS.ExcValue
import KE.KIntText
import KE.IntTextText
import HandS.More
import HandS.Text
import PyProof.Rows.StrBin
import HandS.Strs
import HandS.DictComp
import HandS.Star
import HandS.Rev
import PySem.Challenge.RW_ownglass_k24_made_tree
set_option Elab.async false
set_option linter.all false
set_option maxRecDepth 100000
set_option maxHeartbeats 4000000
set_option Elab.async false
set_option linter.all false
set_option maxRecDepth 100000
/-! L0: what the proofs of all laws share: heaps that keep all but some lists, trees (words and lists of trees), the law's hand, callees. -/
namespace Og
open PySem PySem.Spec PyProof.Rows L2

/-! ### heaps: each tracked thing stays, but for lists at the places S -/
def Keep (S : List Addr) (H H' : Hp) : Prop := ∀ b o, H b = some o → H' b = some o ∨ (b ∈ S ∧ ∃ xs ys, o = .lst xs ∧ H' b = some (.lst ys))
theorem Keep.refl {S : List Addr} {H : Hp} : Keep S H H := fun _ _ e => .inl e
theorem Keep.trans {S : List Addr} {H H1 H2 : Hp} (a : Keep S H H1) (b : Keep S H1 H2) : Keep S H H2 := fun p o e => by
  rcases a p o e with h | ⟨h, xs, ys, e1, e2⟩
  · exact b p o h
  · rcases b p _ e2 with h' | ⟨_, xs', ys', e3, e4⟩
    · exact .inr ⟨h, xs, ys, e1, h'⟩
    · exact .inr ⟨h, xs, ys', e1, e4⟩
theorem Keep.mono {S S' : List Addr} {H H1 : Hp} (a : Keep S H H1) (h : ∀ x ∈ S, x ∈ S') : Keep S' H H1 := fun p o e => by
  rcases a p o e with q | ⟨q, r⟩
  · exact .inl q
  · exact .inr ⟨h _ q, r⟩
theorem Keep.new {S : List Addr} {H : Hp} {p : Addr} {o : HO} (h : H p = none) : Keep S H (upd H p o) := fun b u e => .inl (by rw [upd_ne (ne_of_none e h)]; exact e)
theorem Keep.newT {S : List Addr} {H H1 : Hp} {p : Addr} {o : HO} (a : Keep S H H1) (h : H1 p = none) : Keep S H (upd H1 p o) := a.trans (Keep.new h)
theorem Keep.set {S : List Addr} {H : Hp} {p : Addr} {xs ys : List V} (h : H p = some (.lst xs)) (m : p ∈ S) : Keep S H (upd H p (.lst ys)) := fun b u e => by
  by_cases hb : b = p
  · subst hb
    rw [h] at e
    cases e
    exact .inr ⟨m, xs, ys, rfl, upd_same⟩
  · exact .inl (by rw [upd_ne hb]; exact e)
theorem Keep.setT {S : List Addr} {H H1 : Hp} {p : Addr} {xs ys : List V} (a : Keep S H H1) (h : H1 p = some (.lst xs)) (m : p ∈ S) : Keep S H (upd H1 p (.lst ys)) := a.trans (Keep.set h m)
/-- a list that is new may change -/
theorem Keep.drop {S : List Addr} {H H1 : Hp} {p : Addr} (a : Keep (p :: S) H H1) (h : H p = none) : Keep S H H1 := fun b o e => by
  rcases a b o e with q | ⟨q, r⟩
  · exact .inl q
  · rcases List.mem_cons.mp q with q | q
    · subst q
      rw [h] at e
      cases e
    · exact .inr ⟨q, r⟩
theorem Keep.cons {S : List Addr} {H H1 : Hp} {p : Addr} (a : Keep S H H1) : Keep (p :: S) H H1 := a.mono fun _ h => List.mem_cons_of_mem _ h
theorem Keep.get {S : List Addr} {H H1 : Hp} {b : Addr} {o : HO} (a : Keep S H H1) (e : H b = some o) (h : b ∉ S) : H1 b = some o := by
  rcases a b o e with q | ⟨q, _⟩
  · exact q
  · exact absurd q h
theorem Keep.free {S : List Addr} {H H1 : Hp} {b : Addr} (a : Keep S H H1) (e : H1 b = none) : H b = none := by
  cases q : H b with
  | none => rfl
  | some o =>
    rcases a b o q with r | ⟨_, _, _, _, r⟩ <;> rw [r] at e <;> cases e
theorem Keep.rdT {S : List Addr} {H H1 : Hp} {b : Addr} {xs : List V} (a : Keep S H H1) (e : Rd H b (.tup xs)) : Rd H1 b (.tup xs) := by
  rcases e with e | ⟨o, e⟩
  · rcases a b _ e with q | ⟨_, _, _, q, _⟩
    · exact .inl q
    · cases q
  · rcases a b _ e with q | ⟨_, _, _, q, _⟩
    · exact .inr ⟨o, q⟩
    · cases q
theorem Keep.sqT {K : PySem.W.Frag} {S : List Addr} {H H1 : Hp} {b : Addr} {xs : List V} (a : Keep S H H1) (e : SqT K H b xs) : SqT K H1 b xs := by
  rcases e with e | e
  · exact .inl (a.rdT e)
  · exact .inr e
theorem Keep.sqL {K : PySem.W.Frag} {S : List Addr} {H H1 : Hp} {b : Addr} {xs : List V} (a : Keep S H H1) (h : b ∉ S) (e : SqL K H b xs) : SqL K H1 b xs := by
  rcases e with (e | ⟨o, e⟩) | e
  · exact .inl (.inl (a.get e h))
  · exact .inl (.inr ⟨o, a.get e h⟩)
  · exact .inr e
theorem Keep.tup {S : List Addr} {H H1 : Hp} {b : Addr} {xs : List V} (a : Keep S H H1) (e : H b = some (.tup xs)) : H1 b = some (.tup xs) := by
  rcases a b _ e with q | ⟨_, _, _, q, _⟩
  · exact q
  · cases q
theorem Keep.of_same {S : List Addr} {H H1 : Hp} (a : Same H H1) : Keep S H H1 := fun b o e => .inl (a b o e)
theorem Keep.same {H H1 : Hp} (a : Keep [] H H1) : Same H H1 := fun b o e => a.get e (by simp)

/-! ### texts by their codes -/
def tx (cs : List Nat) : Str := ⟨cs.toArray⟩
theorem tx_list (cs : List Nat) : (tx cs).cps.toList = cs := rfl
theorem tx_len (cs : List Nat) : (tx cs).length = cs.length := by
  show cs.toArray.size = cs.length
  simp
theorem tx_app (a b : List Nat) : tx a ++ tx b = tx (a ++ b) := by
  show Str.mk (a.toArray ++ b.toArray) = Str.mk (a ++ b).toArray
  simp
theorem tx_of (s : Str) : s = tx s.cps.toList := by
  cases s
  rfl
theorem tx_inj {a b : List Nat} (h : tx a = tx b) : a = b := by
  have q := congrArg (fun s : Str => s.cps.toList) h
  exact q
theorem tx_str {a b : List Nat} (h : V.str (tx a) = V.str (tx b)) : a = b := tx_inj (V.str.inj h)
theorem atI_tx {cs : List Nat} {z : Int} {c : Nat} (h : atI (tx cs).cps.toList z = some c) : atI cs z = some c := h
/-! ### trees -/
inductive Tree where
  | w (x : List Nat)
  | l (ts : List Tree)
mutual
def Tr (K : PySem.W.Frag) (H : Hp) : V → Tree → Prop
  | v, .w x => v = .str (tx x)
  | v, .l ts => ∃ a vs, v = .ref a ∧ SqT K H a vs ∧ Trs K H vs ts
def Trs (K : PySem.W.Frag) (H : Hp) : List V → List Tree → Prop
  | vs, [] => vs = []
  | vs, t :: ts => ∃ v r, vs = v :: r ∧ Tr K H v t ∧ Trs K H r ts
end
mutual
theorem Tr.keep {K : PySem.W.Frag} {S : List Addr} {H H1 : Hp} (a : Keep S H H1) : ∀ {v : V} {t : Tree}, Tr K H v t → Tr K H1 v t
  | v, .w x, h => by rw [Tr] at h ⊢; exact h
  | v, .l ts, h => by
    rw [Tr] at h ⊢
    obtain ⟨p, vs, e, h1, h2⟩ := h
    exact ⟨p, vs, e, a.sqT h1, Trs.keep a h2⟩
theorem Trs.keep {K : PySem.W.Frag} {S : List Addr} {H H1 : Hp} (a : Keep S H H1) : ∀ {vs : List V} {ts : List Tree}, Trs K H vs ts → Trs K H1 vs ts
  | vs, [], h => by rw [Trs] at h ⊢; exact h
  | vs, t :: ts, h => by
    rw [Trs] at h ⊢
    obtain ⟨v, r, e, h1, h2⟩ := h
    exact ⟨v, r, e, Tr.keep a h1, Trs.keep a h2⟩
end
section
variable {K : PySem.W.Frag} {H : Hp}
theorem tr_w {x : List Nat} : Tr K H (.str (tx x)) (.w x) := by rw [Tr]
theorem tr_l {a : Addr} {vs : List V} {ts : List Tree} (h : SqT K H a vs) (r : Trs K H vs ts) : Tr K H (.ref a) (.l ts) := by rw [Tr]; exact ⟨a, vs, rfl, h, r⟩
theorem trs_nil : Trs K H [] [] := by rw [Trs]
theorem trs_cons {v : V} {vs : List V} {t : Tree} {ts : List Tree} (h : Tr K H v t) (r : Trs K H vs ts) : Trs K H (v :: vs) (t :: ts) := by rw [Trs]; exact ⟨v, vs, rfl, h, r⟩
theorem Tr.word {v : V} {x : List Nat} (h : Tr K H v (.w x)) : v = .str (tx x) := by rw [Tr] at h; exact h
theorem Tr.list {v : V} {ts : List Tree} (h : Tr K H v (.l ts)) : ∃ a vs, v = .ref a ∧ SqT K H a vs ∧ Trs K H vs ts := by rw [Tr] at h; exact h
theorem Trs.nil {vs : List V} (h : Trs K H vs []) : vs = [] := by rw [Trs] at h; exact h
theorem Trs.cons {vs : List V} {t : Tree} {ts : List Tree} (h : Trs K H vs (t :: ts)) : ∃ v r, vs = v :: r ∧ Tr K H v t ∧ Trs K H r ts := by rw [Trs] at h; exact h
theorem Trs.length : ∀ {vs : List V} {ts : List Tree}, Trs K H vs ts → vs.length = ts.length
  | vs, [], h => by rw [h.nil]; rfl
  | vs, t :: ts, h => by
    obtain ⟨v, r, rfl, _, h2⟩ := h.cons
    rw [List.length_cons, List.length_cons, Trs.length h2]
theorem Trs.get : ∀ {vs : List V} {ts : List Tree} {i : Nat} {t : Tree}, Trs K H vs ts → ts[i]? = some t → ∃ v, vs[i]? = some v ∧ Tr K H v t
  | vs, [], i, t, h, e => by simp at e
  | vs, t' :: ts, 0, t, h, e => by
    obtain ⟨v, r, rfl, h1, h2⟩ := h.cons
    have e' : t' = t := Option.some.inj e
    subst e'
    exact ⟨v, rfl, h1⟩
  | vs, t' :: ts, i + 1, t, h, e => by
    obtain ⟨v, r, rfl, h1, h2⟩ := h.cons
    exact Trs.get (i := i) h2 e
theorem Trs.append : ∀ {vs ws : List V} {ts us : List Tree}, Trs K H vs ts → Trs K H ws us → Trs K H (vs ++ ws) (ts ++ us)
  | vs, ws, [], us, h, g => by rw [h.nil]; exact g
  | vs, ws, t :: ts, us, h, g => by
    obtain ⟨v, r, rfl, h1, h2⟩ := h.cons
    exact trs_cons h1 (Trs.append h2 g)
theorem Trs.take : ∀ {vs : List V} {ts : List Tree} (n : Nat), Trs K H vs ts → Trs K H (vs.take n) (ts.take n)
  | vs, ts, 0, h => trs_nil
  | vs, [], n + 1, h => by rw [h.nil]; exact trs_nil
  | vs, t :: ts, n + 1, h => by
    obtain ⟨v, r, rfl, h1, h2⟩ := h.cons
    exact trs_cons h1 (Trs.take n h2)
theorem Trs.drop : ∀ {vs : List V} {ts : List Tree} (n : Nat), Trs K H vs ts → Trs K H (vs.drop n) (ts.drop n)
  | vs, ts, 0, h => h
  | vs, [], n + 1, h => by rw [h.nil]; exact trs_nil
  | vs, t :: ts, n + 1, h => by
    obtain ⟨v, r, rfl, h1, h2⟩ := h.cons
    exact Trs.drop n h2
theorem tr_tup {a : Addr} {vs : List V} {ts : List Tree} (h : H a = some (.tup vs)) (r : Trs K H vs ts) : Tr K H (.ref a) (.l ts) := tr_l (.inl (.inl h)) r
end
theorem Trs.snoc {K : PySem.W.Frag} {H : Hp} {vs : List V} {its : List Tree} {x : Tree} (h : Trs K H vs (its ++ [x])) : ∃ vs' v, vs = vs' ++ [v] ∧ Trs K H vs' its ∧ Tr K H v x := by
  induction its generalizing vs with
  | nil =>
    obtain ⟨v, r, rfl, h1, h2⟩ := h.cons
    rw [h2.nil]
    exact ⟨[], v, rfl, trs_nil, h1⟩
  | cons t ts ih =>
    obtain ⟨v, r, rfl, h1, h2⟩ := h.cons
    obtain ⟨vs', v', rfl, h3, h4⟩ := ih h2
    exact ⟨v :: vs', v', rfl, trs_cons h1 h3, h4⟩
theorem Trs.one {K : PySem.W.Frag} {H : Hp} {v : V} {t : Tree} (h : Tr K H v t) : Trs K H [v] [t] := trs_cons h trs_nil
theorem last_get {α : Type} (xs : List α) (x : α) : (xs ++ [x])[(xs ++ [x]).length - 1]? = some x := by
  rw [List.length_append, List.length_singleton, Nat.add_sub_cancel, List.getElem?_append_right (Nat.le_refl _), Nat.sub_self]
  rfl
theorem snoc_of {α : Type} {xs : List α} (h : xs ≠ []) : ∃ ys y, xs = ys ++ [y] := ⟨xs.dropLast, xs.getLast h, (List.dropLast_concat_getLast h).symm⟩
theorem emp_iff {vs : List V} {its : List Tree} {K : PySem.W.Frag} {H : Hp} (h : Trs K H vs its) : vs.isEmpty = its.isEmpty := by
  cases its with
  | nil => rw [h.nil]; rfl
  | cons t r => obtain ⟨v, r', rfl, _⟩ := h.cons; rfl
theorem SqT.of_tup {K : PySem.W.Frag} {H : Hp} {a : Addr} {vs : List V} (h : H a = some (.tup vs)) : SqT K H a vs := .inl (.inl h)

/-- a comprehension without a test -/
theorem yes {σ : L2.St} {H : Hp} {A B : Hp → Prop} (h : A H) : tYes σ H fun b H3 => if b = true then A H3 else B H3 := by
  show (if true = true then A H else B H)
  rw [if_pos rfl]
  exact h
/-! ### lists of ints -/
theorem map_int_get {ns : List Int} {i : Nat} {x : V} (h : (ns.map V.int)[i]? = some x) : ∃ n, x = .int n ∧ ns[i]? = some n := by
  rw [List.getElem?_map] at h
  cases e : ns[i]? with
  | none => rw [e] at h; cases h
  | some n => rw [e] at h; exact ⟨n, (Option.some.inj h).symm, rfl⟩
theorem atI_of {α : Type} {xs : List α} {z : Int} (h0 : 0 ≤ z) (h : z < (xs.length : Int)) : ∃ x, atI xs z = some x ∧ xs[z.toNat]? = some x := by
  have l : z.toNat < xs.length := by omega
  refine ⟨xs[z.toNat], ?_, List.getElem?_eq_getElem l⟩
  have q := atI_nat (List.getElem?_eq_getElem l)
  rw [show ((z.toNat : Nat) : Int) = z by omega] at q
  exact q
theorem atI_zero {α : Type} (x : α) (xs : List α) : atI (x :: xs) 0 = some x := atI_nat (j := 0) rfl
theorem atI_int {ns : List Int} {z : Int} (h0 : 0 ≤ z) (h : z < (ns.length : Int)) : ∃ n, atI (ns.map V.int) z = some (.int n) := by
  obtain ⟨x, h1, h2⟩ := atI_of (xs := ns.map V.int) h0 (by rw [List.length_map]; exact h)
  obtain ⟨n, rfl, _⟩ := map_int_get h2
  exact ⟨n, h1⟩
theorem ixN_int {n : Nat} {z : Int} (h0 : 0 ≤ z) (h : z < (n : Int)) : ixN n z = some z.toNat := by
  unfold ixN
  rw [if_pos h0, if_pos h]
theorem map_int_set (ns : List Int) (j : Nat) (y : Int) : (ns.map V.int).set j (.int y) = (ns.set j y).map V.int := by
  rw [List.map_set]
theorem map_int_app (ns : List Int) (y : Int) : ns.map V.int ++ [V.int y] = (ns ++ [y]).map V.int := by
  rw [List.map_append]; rfl

/-! ### isinstance, truth -/
def Tree.isW : Tree → Bool
  | .w _ => true
  | .l _ => false
section
variable {K : PySem.W.Frag} {H : Hp}
theorem tyX_tup {a : Addr} {xs : List V} (h : SqT K H a xs) : TyX K H (.ref a) (.type "tuple") := by
  rcases h with (h | ⟨o, h⟩) | ⟨o, its, n, h, c, _⟩
  · exact .base (.tup h)
  · exact .fTuple h
  · exact .kTuple h c
theorem kit_ss : PySem.W.kitOne K (.type "str") (.type "str") = some true := kit_ty (by decide +kernel)
theorem kit_ts : PySem.W.kitOne K (.type "tuple") (.type "str") = some false := kit_ty (by decide +kernel)
theorem kit_st : PySem.W.kitOne K (.type "str") (.type "tuple") = some false := kit_ty (by decide +kernel)
theorem kit_tt : PySem.W.kitOne K (.type "tuple") (.type "tuple") = some true := kit_ty (by decide +kernel)
/-- the witnesses of isinstance(v, str), isinstance(v, tuple) for a tree v -/
theorem isi_str {v : V} {t : Tree} (h : Tr K H v t) : ∃ ty u, ClsV (.ty "str") u ∧ TyX K H v ty ∧ PySem.W.kitOne K ty u = some t.isW := by
  cases t with
  | w x => rw [h.word]; exact ⟨_, _, .ty _, .base (.str _), kit_ss⟩
  | l ts =>
    obtain ⟨a, vs, rfl, h1, _⟩ := h.list
    exact ⟨_, _, .ty _, tyX_tup h1, kit_ts⟩
theorem isi_tup {v : V} {t : Tree} (h : Tr K H v t) : ∃ ty u, ClsV (.ty "tuple") u ∧ TyX K H v ty ∧ PySem.W.kitOne K ty u = some (!t.isW) := by
  cases t with
  | w x => rw [h.word]; exact ⟨_, _, .ty _, .base (.str _), kit_st⟩
  | l ts =>
    obtain ⟨a, vs, rfl, h1, _⟩ := h.list
    exact ⟨_, _, .ty _, tyX_tup h1, kit_tt⟩
theorem isi_strS {x : Str} : ∃ ty u, ClsV (.ty "str") u ∧ TyX K H (.str x) ty ∧ PySem.W.kitOne K ty u = some true := ⟨_, _, .ty _, .base (.str _), kit_ty (by decide +kernel)⟩
theorem isi_boolB {x : Bool} : ∃ ty u, ClsV (.ty "bool") u ∧ TyX K H (.bl x) ty ∧ PySem.W.kitOne K ty u = some true := ⟨_, _, .ty _, .base (.bl _), kit_ty (by decide +kernel)⟩
/-- a test that is a value of True or False -/
theorem tru_list {p : Addr} {xs : List V} (h : H p = some (.lst xs)) : TruV K (.ref p) H (!xs.isEmpty) := .inl ⟨xs, SqL.of h, rfl⟩
end
theorem sIx0 (n : Nat) : HT.sIx n 0 none = 0 := rfl
/-- a text cut: from i to j -/
theorem cutS_nat (cs : List Nat) {i j : Nat} (h : i ≤ j) (hj : j ≤ cs.length) : cutS (tx cs) (some (i : Int)) (some (j : Int)) = tx ((cs.drop i).take (j - i)) := by
  unfold cutS
  rw [HT.sIx_nat, HT.sIx_nat, tx_len, tx_list]
  rw [Nat.min_eq_left hj, Nat.min_eq_left (Nat.le_trans h hj)]
  rfl
theorem cutS_to (cs : List Nat) {j : Nat} (hj : j ≤ cs.length) : cutS (tx cs) none (some (j : Int)) = tx (cs.take j) := by
  unfold cutS
  rw [HT.sIx_nat, tx_len, tx_list, Nat.min_eq_left hj, sIx0, Nat.sub_zero, List.drop_zero]
  rfl
theorem cutS_from (cs : List Nat) {i : Nat} (hj : i ≤ cs.length) : cutS (tx cs) (some (i : Int)) none = tx (cs.drop i) := by
  unfold cutS
  rw [HT.sIx_nat, tx_len, tx_list, Nat.min_eq_left hj, HT.sIx_none]
  show Str.mk (List.take (cs.length - i) (cs.drop i)).toArray = _
  rw [List.take_of_length_le (by rw [List.length_drop]; omega)]
  rfl

/-! ### callees -/
structure Callee (P : Program) (w : World) (K : PySem.W.Frag) (mg : Str → Option Value) (base : Heap) (CX : CXT) (k : Nat) (x : Str) (f : Addr) (fd : FuncData) (ps : List Str) (sp : Sp) : Prop where
  ok : FnOk P w K mg base CX k f fd ps sp
  mg : mg x = some (.ref f)
  kp : PySem.W.keepIn K (.ref f) = true
  bi : Binds K fd ps []
def Has (P : Program) (w : World) (K : PySem.W.Frag) (mg : Str → Option Value) (base : Heap) (k : Nat) (x : Str) (ps : List Str) (sp : Sp) : Prop := ∃ f fd, Callee P w K mg base CX0 k x f fd ps sp
theorem Has.mono {P : Program} {w : World} {K : PySem.W.Frag} {mg : Str → Option Value} {base : Heap} {j k : Nat} {x : Str} {ps : List Str} {sp : Sp} (h : Has P w K mg base j x ps sp) (l : j ≤ k) : Has P w K mg base k x ps sp := by
  obtain ⟨f, fd, c⟩ := h
  exact ⟨f, fd, c.ok.mono l, c.mg, c.kp, c.bi⟩
/-- a def with a promise for each n: one promise for all up to N -/
theorem has_upto {P : Program} {w : World} {K : PySem.W.Frag} {mg : Str → Option Value} {base : Heap} {k : Nat} {x : Str} {f : Addr} {fd : FuncData} {ps : List Str} {sp : Nat → Sp} (h : ∀ n, Callee P w K mg base CX0 (k + n + 1) x f fd ps (sp n)) (N : Nat) :
    Has P w K mg base (k + N + 1) x ps (fun vs H Q E => ∃ n, n ≤ N ∧ sp n vs H Q E) := by
  refine ⟨f, fd, ⟨fun vs H Q E q => ?_, fun A outer s H args us vs Q E hr e b v q => ?_⟩, (h 0).mg, (h 0).kp, (h 0).bi⟩
  · obtain ⟨n, _, q⟩ := q
    exact (h n).ok.len vs H Q E q
  · obtain ⟨n, hn, q⟩ := q
    exact ((h n).ok.mono (show k + n + 1 ≤ k + N + 1 by omega)).run A outer s H args us vs Q E hr e b v q
/-- a def as it stands behind the top -/
structure DefAt (K : PySem.W.Frag) (mg : Str → Option Value) (x : Str) (st : Stmt) (ps : List Str) : Prop where
  ex : ∃ f fd, Fun K x x st f fd ∧ mg x = some (.ref f) ∧ Binds K fd ps []
section
variable {X : Cx} {k : Nat} {x : Str} {f : Addr} {fd : FuncData} {ps : List Str} {sp : Sp} {p pos : Pos} {e : Expr} {es : List Expr} {t : TA}
theorem cal (C : Callee X.prog X.w X.K X.mg X.base CX0 k x f fd ps sp) (hr : Room k X.A) (hg : Gl X x) (ha : PA X (e :: es) t) (hdb : (x == ("__debug__" : Str)) = false := by decide)
    (he : starEach (e :: es) X.env = (false, eval e X.env) :: starEach es X.env := by rfl) (hpl : (backTo pos (starEach es X.env)).any (·.1) = false := by rfl) : PE X (.Call (.Name x p) (e :: es) [] pos) (tCall sp [] E0 t) :=
  pe_call C.ok hr hg C.mg C.kp C.bi .nil pass0 ha hdb he hpl
end
/-! ### the law's hand: a list of the draws (at d) and a number; all that is asked of it is that it is one -/
def Hd (H : Hp) (h d : Addr) : Prop := ∃ (n : Nat) (ds : List Int), H h = some (.lst [.ref d, .int n]) ∧ H d = some (.lst (ds.map V.int)) ∧ ds.length ≤ 100000
theorem Hd.ne {H : Hp} {h d : Addr} (a : Hd H h d) : d ≠ h := by
  intro q
  obtain ⟨n, ds, e, e2, _⟩ := a
  subst q
  rw [e] at e2
  have q := HO.lst.inj (Option.some.inj e2)
  cases ds with
  | nil => cases q
  | cons x r =>
    have := (List.cons.inj q).1
    cases this
theorem Hd.lst {H : Hp} {h d : Addr} (a : Hd H h d) : ∃ xs, H h = some (.lst xs) := by
  obtain ⟨n, ds, e, _⟩ := a
  exact ⟨_, e⟩
theorem Hd.neH {H : Hp} {h d p : Addr} (a : Hd H h d) (q : H p = none) : h ≠ p := by
  obtain ⟨n, ds, e, _⟩ := a
  exact ne_of_none e q
theorem Hd.neD {H : Hp} {h d p : Addr} (a : Hd H h d) (q : H p = none) : d ≠ p := by
  obtain ⟨n, ds, _, e, _⟩ := a
  exact ne_of_none e q
theorem Hd.keep {S : List Addr} {H H1 : Hp} {h d : Addr} (a : Hd H h d) (k : Keep S H H1) (hh : h ∉ S) (hd : d ∉ S) : Hd H1 h d := by
  obtain ⟨n, ds, e1, e2, l⟩ := a
  exact ⟨n, ds, k.get e1 hh, k.get e2 hd, l⟩
theorem Hd.keep0 {H H1 : Hp} {h d : Addr} (a : Hd H h d) (k : Keep [] H H1) : Hd H1 h d := a.keep k (by simp) (by simp)
theorem Hd.upd {H : Hp} {h d p : Addr} {o : HO} (a : Hd H h d) (q1 : h ≠ p) (q2 : d ≠ p) : Hd (upd H p o) h d := by
  obtain ⟨n, ds, e1, e2, l⟩ := a
  exact ⟨n, ds, by rw [upd_ne q1]; exact e1, by rw [upd_ne q2]; exact e2, l⟩
theorem Hd.new {H : Hp} {h d p : Addr} {o : HO} (a : Hd H h d) (q : H p = none) : Hd (L2.upd H p o) h d := a.upd (a.neH q) (a.neD q)
theorem sizeL {n : Nat} (h : n ≤ 100000) : n ≤ sizeLine := Nat.le_trans h (by decide)
theorem sizeLt {n : Nat} (h : n ≤ 100000) : n < sizeLine := Nat.lt_of_le_of_lt h (by decide)
end Og

namespace Og
open PySem PySem.Spec PyProof.Rows L2
/-! ### tuples of trees: index, slice, concatenation, length, making -/
def cutL {α : Type} (xs : List α) (lo hi : Option Int) : List α := (xs.drop (HT.sIx xs.length 0 lo)).take (HT.sIx xs.length xs.length hi - HT.sIx xs.length 0 lo)
theorem cutL_whole {α : Type} {xs : List α} {lo hi : Option Int} (h : HT.sIx xs.length 0 lo = 0 ∧ HT.sIx xs.length xs.length hi = xs.length) : cutL xs lo hi = xs := by
  unfold cutL
  rw [h.1, h.2, List.drop_zero, Nat.sub_zero, List.take_length]
theorem cutL_to {α : Type} (xs : List α) {j : Nat} (hj : j ≤ xs.length) : cutL xs none (some (j : Int)) = xs.take j := by
  unfold cutL
  rw [HT.sIx_nat, Nat.min_eq_left hj, sIx0, Nat.sub_zero, List.drop_zero]
theorem cutL_from {α : Type} (xs : List α) {i : Nat} (hj : i ≤ xs.length) : cutL xs (some (i : Int)) none = xs.drop i := by
  unfold cutL
  rw [HT.sIx_nat, Nat.min_eq_left hj, HT.sIx_none, List.take_of_length_le (by rw [List.length_drop]; exact Nat.le_refl _)]
theorem cutL_mid {α : Type} (xs : List α) {i j : Nat} (h : i ≤ j) (hj : j ≤ xs.length) : cutL xs (some (i : Int)) (some (j : Int)) = (xs.drop i).take (j - i) := by
  unfold cutL
  rw [HT.sIx_nat, HT.sIx_nat, Nat.min_eq_left hj, Nat.min_eq_left (Nat.le_trans h hj)]
theorem cutL_len {α : Type} (xs : List α) (lo hi : Option Int) : (cutL xs lo hi).length ≤ xs.length := by
  unfold cutL
  rw [List.length_take, List.length_drop]
  omega
theorem cutL_mem {α : Type} {xs : List α} {lo hi : Option Int} {x : α} (h : x ∈ cutL xs lo hi) : x ∈ xs := List.mem_of_mem_drop (List.mem_of_mem_take h)
section
variable {K : PySem.W.Frag} {H : Hp}
theorem Trs.cut {vs : List V} {ts : List Tree} (lo hi : Option Int) (h : Trs K H vs ts) : Trs K H (cutV vs lo hi) (cutL ts lo hi) := by
  unfold cutV cutL
  rw [h.length]
  exact (h.drop _).take _
theorem Tr.tup {v : V} {ts : List Tree} (h : Tr K H v (.l ts)) : ∃ a vs, v = .ref a ∧ SqT K H a vs ∧ vs.length = ts.length := by
  obtain ⟨a, vs, e, hs, r⟩ := h.list
  exact ⟨a, vs, e, hs, r.length⟩
/-- t[lo:hi] -/
theorem sl_tr {x : V} {ts : List Tree} {lo hi : Option Int} {Q : VK} (h : Tr K H x (.l ts)) (q : ∀ v H', Tr K H' v (.l (cutL ts lo hi)) → Keep [] H H' → Q v H') : rSlA K x lo hi H Q := by
  obtain ⟨a, vs, rfl, hs, r⟩ := h.list
  refine ⟨a, vs, rfl, hs, fun w => ?_, fun _ p np => ?_⟩
  · rw [r.length] at w
    exact q _ _ (by rw [cutL_whole w]; exact h) Keep.refl
  · exact q _ _ (tr_tup upd_same ((r.cut lo hi).keep (Keep.new (S := []) np))) (Keep.new np)
/-- t + u -/
theorem cat_tr {x y : V} {ts us : List Tree} {Q : VK} (hx : Tr K H x (.l ts)) (hy : Tr K H y (.l us)) (hz : ts.length + us.length ≤ sizeLine) (q : ∀ v H', Tr K H' v (.l (ts ++ us)) → Keep [] H H' → Q v H') : rCatA K x y H Q := by
  obtain ⟨a, vs, rfl, hs, r⟩ := hx.list
  obtain ⟨b, ws, rfl, hs2, r2⟩ := hy.list
  refine ⟨a, b, vs, ws, rfl, rfl, hs, hs2, by rw [r.length, r2.length]; exact hz, fun e => ?_, fun _ e => ?_, fun _ _ p np => ?_⟩
  · subst e
    have : ts = [] := List.length_eq_zero_iff.mp r.length.symm
    subst this
    exact q _ _ hy Keep.refl
  · subst e
    have : us = [] := List.length_eq_zero_iff.mp r2.length.symm
    subst this
    rw [List.append_nil] at q
    exact q _ _ hx Keep.refl
  · exact q _ _ (tr_tup upd_same ((r.append r2).keep (Keep.new (S := []) np))) (Keep.new np)
/-- t[i] -/
theorem ix_tr {x : V} {ts : List Tree} {i : Int} {t : Tree} {Q : VK} (h : Tr K H x (.l ts)) (e : atI ts i = some t) (q : ∀ v, Tr K H v t → Q v H) : rIxT K x (.int i) H Q := by
  obtain ⟨a, vs, rfl, hs, r⟩ := h.list
  unfold atI at e
  cases hi : ixN ts.length i with
  | none => rw [hi] at e; cases e
  | some j =>
    rw [hi] at e
    obtain ⟨v, hv, tv⟩ := r.get (i := j) e
    refine ⟨a, vs, i, v, rfl, rfl, hs, ?_, q v tv⟩
    unfold atI
    rw [r.length, hi]
    exact hv
/-- len(t) -/
theorem len_tr {x : V} {ts : List Tree} {Q : VK} (h : Tr K H x (.l ts)) (q : Q (.int (ts.length : Nat)) H) : ∃ p ys, [x] = [V.ref p] ∧ (SqL K H p ys ∨ SqT K H p ys) ∧ Q (.int ys.length) H := by
  obtain ⟨a, vs, rfl, hs, r⟩ := h.list
  exact ⟨a, vs, rfl, .inr hs, by rw [r.length]; exact q⟩
/-- (a, b, ..) -/
theorem mk_tr {p : Addr} {vs : List V} {ts : List Tree} (np : H p = none) (r : Trs K H vs ts) : Tr K (upd H p (.tup vs)) (.ref p) (.l ts) ∧ Keep [] H (upd H p (.tup vs)) :=
  ⟨tr_tup upd_same (r.keep (Keep.new (S := []) np)), Keep.new np⟩
end
/-- x != y, x == y of trees one of which is a word -/
def rNeTr (K : PySem.W.Frag) : R2 := fun x y H Q => ∃ t u : Tree, Tr K H x t ∧ Tr K H y u ∧ (t.isW = true ∨ u.isW = true) ∧ ∀ b : Bool, (b = true ↔ t ≠ u) → Q (.bl b) H
def rEqTr (K : PySem.W.Frag) : R2 := fun x y H Q => ∃ t u : Tree, Tr K H x t ∧ Tr K H y u ∧ (t.isW = true ∨ u.isW = true) ∧ ∀ b : Bool, (b = true ↔ t = u) → Q (.bl b) H
theorem op_neTr {X : Cx} (hu : X.A.units + 64 < cLine) : OpR X (compareOp .NotEq) (rNeTr X.K) := by
  intro pins s σ H x y v u Q I rx ry h
  obtain ⟨t, t', hx, hy, hw, q⟩ := h
  cases t with
  | w a =>
    have ex := hx.word
    subst ex
    cases t' with
    | w b =>
      have ey := hy.word
      subst ey
      refine op_ne pins s σ H _ _ v u Q I rx ry ⟨rfl, q _ ?_⟩
      by_cases e : a = b
      · subst e; simp
      · have : ¬ V.str (tx a) = V.str (tx b) := fun z => e (tx_str z)
        have e2 : ¬ Tree.w a = Tree.w b := fun z => e (Tree.w.inj z)
        simp [this, e2]
    | l us =>
      obtain ⟨p, ws, rfl, hs, _⟩ := hy.list
      obtain ⟨its, _, pt, _⟩ := I.tuple hs
      obtain ⟨tk, rfl⟩ := rx
      obtain rfl : u = Value.ref p := ry
      exact SeqAt.RcNeAt.str_tuple _ _ pt (by omega) _ _ _ _ ⟨.bl true, H, I, rfl, q true (by simp)⟩
  | l ts =>
    obtain ⟨p, ws, rfl, hs, _⟩ := hx.list
    cases t' with
    | w b =>
      have ey := hy.word
      subst ey
      obtain ⟨its, _, pt, _⟩ := I.tuple hs
      obtain ⟨tk, rfl⟩ := ry
      obtain rfl : v = Value.ref p := rx
      exact SeqAt.RcNeAt.tuple_str _ _ pt (by omega) _ _ _ _ ⟨.bl true, H, I, rfl, q true (by simp)⟩
    | l us => rcases hw with h | h <;> cases h
theorem op_eqTr {X : Cx} (hu : X.A.units + 64 < cLine) : OpR X (compareOp .Eq) (rEqTr X.K) := by
  intro pins s σ H x y v u Q I rx ry h
  obtain ⟨t, t', hx, hy, hw, q⟩ := h
  cases t with
  | w a =>
    have ex := hx.word
    subst ex
    cases t' with
    | w b =>
      have ey := hy.word
      subst ey
      refine op_eq pins s σ H _ _ v u Q I rx ry ⟨rfl, q _ ?_⟩
      by_cases e : a = b
      · subst e; simp
      · have : ¬ V.str (tx a) = V.str (tx b) := fun z => e (tx_str z)
        have e2 : ¬ Tree.w a = Tree.w b := fun z => e (Tree.w.inj z)
        simp [this, e2]
    | l us =>
      obtain ⟨p, ws, rfl, hs, _⟩ := hy.list
      obtain ⟨its, _, pt, _⟩ := I.tuple hs
      obtain ⟨tk, rfl⟩ := rx
      obtain rfl : u = Value.ref p := ry
      exact SeqAt.RcAt.str_tuple _ _ pt (by omega) _ _ _ _ ⟨.bl false, H, I, rfl, q false (by simp)⟩
  | l ts =>
    obtain ⟨p, ws, rfl, hs, _⟩ := hx.list
    cases t' with
    | w b =>
      have ey := hy.word
      subst ey
      obtain ⟨its, _, pt, _⟩ := I.tuple hs
      obtain ⟨tk, rfl⟩ := ry
      obtain rfl : v = Value.ref p := rx
      exact SeqAt.RcAt.tuple_str _ _ pt (by omega) _ _ _ _ ⟨.bl false, H, I, rfl, q false (by simp)⟩
    | l us => rcases hw with h | h <;> cases h
end Og

namespace Og
open PySem PySem.Spec PyProof.Rows L2
open AutoSeq1 (wpAny_loadPart')
/-! ### xs.extend(t), t a tuple -/
def rExtT (K : PySem.W.Frag) : V → List V → Hp → VK → Prop := fun x vs H Q => ∃ l b xs zs, x = .ref l ∧ vs = [.ref b] ∧ H l = some (.lst xs) ∧ SqT K H b zs ∧ xs.length + zs.length ≤ sizeLine ∧ Q .non (upd H l (.lst (xs ++ zs)))
theorem ext_tuple (l : Addr) (items : Array Value) (n : Nat) (b : Addr) (items2 : Array Value) (n2 : Nat) (dd : Option Addr) (sl : Array (Option Value)) (hs0 : ¬(!items.isEmpty && Builtin.List.listTooLong (items.size + items2.size)) = true) (hs1 : items.size ≤ sizeLine) (hs2 : items.size + items2.size ≤ sizeLine + 1) :
    Meets (Builtin.«list.extend» ⟨[.ref l, .ref b], []⟩) (fun _ R s => s.heap.get? l = some { cls := .type "list", dict := none, data := .seq items n, slots := #[] } ∧ s.heap.get? b = some { cls := .type "tuple", dict := dd, data := .seq items2 n2, slots := sl } ∧ R (.ok (.ret Value.none)) { s with heap := s.heap.update l (Obj.mapSeq fun x => x ++ items2), toks := s.toks }) :=
  .of_wp fun prog w A R s h => by
    obtain ⟨hp, g, d, tk, os⟩ := s; obtain ⟨hl, hb, h⟩ := h; have f1 := AutoSeq1.idx_int; have f2 := AutoSeq1.sub_tuple_tuple; have f3 := AutoSeq1.sub_list_list; have f4 := AutoSeq1.sub_tuple_list; have f5 := AutoSeq1.sub_list_tuple;
    have hz' : (items ++ items2).size ≤ sizeLine + 1 := by rw [Array.size_append]; exact hs2
    wp_walk using (wpAny_updateSeq hl rfl (hz := hs1) (_hz' := hz')), wpAny_loadPart' hl, wpAny_loadPart' hb; exact ⟨_, rfl, h⟩
theorem mt_extendT {X : Cx} : MtM X "list.extend" (rExtT X.K) := by
  intro pins s σ H x vs v us Q I rx rv h
  obtain ⟨l, b, xs, zs, rfl, rfl, hH, hB, hz, q⟩ := h
  cases rx
  obtain ⟨u, rfl, ru⟩ := rv.one
  cases ru
  obtain ⟨z, its, n, r, hl, e⟩ := I.lstM hH
  obtain ⟨its2, r2, ⟨⟨cls, dd, data, sl⟩, e2, hc2, n2, hd2⟩, hz2⟩ := I.tuple hB
  simp only at hc2 hd2
  subst hc2 hd2
  have hl2 := r2.length
  have hsz : its.toArray.size + its2.toArray.size ≤ sizeLine := by rw [List.size_toArray, List.size_toArray]; omega
  have hlong : ¬ (!its.toArray.isEmpty && Builtin.List.listTooLong (its.toArray.size + its2.toArray.size)) = true := by
    rw [notLongL hsz, Bool.and_false]
    exact Bool.false_ne_true
  refine call_meets F.slot_list_extend ⟨_, e, rfl⟩ F.entry_list_extend (F.args_list_extend_2 _ _)
    (ext_tuple l its.toArray n b its2.toArray n2 dd sl hlong (by rw [List.size_toArray]; omega) (by omega)) ⟨e, e2, ?_⟩
  refine ⟨.non, _, I.lset (its' := its ++ its2) hH e (by simp) (r.append r2) ?_, rfl, q⟩
  rw [List.length_append]
  omega
/-! ### t * n -/
theorem tuple_mul1 (l : Addr) (items : Array Value) (n : Nat) (dd : Option Addr) (sl : Array (Option Value)) (u : Tok) :
    Meets (Builtin.«tuple.__mul__» ⟨[.ref l, .int 1 u], []⟩) (fun _ R s => s.heap.get? l = some { cls := .type "tuple", dict := dd, data := .seq items n, slots := sl } ∧ R (.ok (.ret (Value.ref l))) s) :=
  .of_wp fun prog w A R s h => by
    obtain ⟨hp, g, d, tk, os⟩ := s
    obtain ⟨hl, h⟩ := h
    have f1 := AutoSeq1.idx_int
    have c1 : (items.isEmpty || (1 : Int) == 1) = true := by simp
    wp_walk using wpAny_loadPart' hl
    exact ⟨_, rfl, h⟩
theorem tuple_mul0 (l : Addr) (items : Array Value) (n : Nat) (dd : Option Addr) (sl : Array (Option Value)) (u : Tok) (hi : items.isEmpty = false) :
    Meets (Builtin.«tuple.__mul__» ⟨[.ref l, .int 0 u], []⟩) (fun _ R s => s.heap.get? l = some { cls := .type "tuple", dict := dd, data := .seq items n, slots := sl } ∧
      R (.ok (.ret (Value.ref s.heap.objs.size))) { s with heap := s.heap.push { cls := Value.type "tuple", data := Data.seq #[] }, toks := s.toks }) :=
  .of_wp fun prog w A R s h => by
    obtain ⟨hp, g, d, tk, os⟩ := s
    obtain ⟨hl, h⟩ := h
    have f1 := AutoSeq1.idx_int
    have c1 : (items.isEmpty || (0 : Int) == 1) = false := by rw [hi]; rfl
    wp_walk using wpAny_loadPart' hl
    repeat (first
      | (refine wpAny_ite_false (decide_eq_false (by rw [c1]; exact Bool.false_ne_true)) ?_; wp_walk using wpAny_loadPart' hl))
    exact ⟨_, rfl, h⟩
/-- t * k, t not empty, k from 0 -/
def rRepA (K : PySem.W.Frag) : R2 := fun x y H Q => ∃ (l : Addr) (k : Nat) (xs : List V), x = .ref l ∧ y = .int k ∧ SqT K H l xs ∧ xs ≠ [] ∧ k ≤ 1000 ∧ xs.length ≤ 1000 ∧
  (k = 1 → Q (.ref l) H) ∧ (k ≠ 1 → ∀ p, H p = none → Q (.ref p) (upd H p (.tup (List.replicate k xs).flatten)))
theorem op_repA {X : Cx} : OpR X (binaryOp .Mult) (rRepA X.K) := by
  intro pins s σ H x y v u Q I rx ry h
  obtain ⟨l, k, xs, rfl, rfl, hT, hne, h2, hz, q1, q⟩ := h
  by_cases hk2 : 2 ≤ k
  · exact op_repT pins s σ H _ _ v u Q I rx ry ⟨l, k, xs, rfl, rfl, hT, hne, by omega, by omega, hz, by rw [Int.toNat_natCast]; exact q (by omega)⟩
  cases rx
  obtain ⟨t, rfl⟩ := ry
  obtain ⟨its, r, ⟨⟨cls, dd, data, sl⟩, ho, hc, n, hd⟩, hs⟩ := I.tuple hT
  simp only at hc hd
  subst hc hd
  have hle : its.length = xs.length := r.length.symm
  have hi : its.toArray.isEmpty = false := by
    cases its with
    | nil => exact absurd (List.eq_nil_of_length_eq_zero hle.symm) hne
    | cons a b => rfl
  have c : k = 0 ∨ k = 1 := by omega
  rcases c with rfl | rfl
  · refine wpAny_binaryOp_repeat_ref (T := "tuple") (U := "int") (by decide) ⟨_, ho, rfl⟩ (fun s' => typeIs_int s' _ t) noFill_tuple_mul F.fills_int_mul F.slot_int_rmul repeat_tuple F.slot_int_index.lookup
      (call_meets F.slot_int_rmul (typeIs_int s _ t) F.entry_int_rmul (F.args_int_rmul_2 _ _) (int_rmul_tuple _ t l its.toArray n dd sl)
        ⟨ho, rfl, ⟨_, ho, rfl⟩, call_meets F.slot_tuple_mul ⟨_, ho, rfl⟩ F.entry_tuple_mul (F.args_tuple_mul_2 _ _) (tuple_mul0 l its.toArray n dd sl t hi) ⟨ho, ?_⟩⟩)
    refine ⟨.ref s.heap.objs.size, _, I.laid (t' := s.toks) (o := .tup []) (fun b ob q => Heap.get?_push_of_some _ q) (Nat.le_refl _) ?_, rfl, q (by decide) _ (I.hok.fresh (Nat.le_refl _))⟩
    exact ⟨Nat.zero_le _, [], .nil, IsTup.new _ _⟩
  · refine wpAny_binaryOp_repeat_ref (T := "tuple") (U := "int") (by decide) ⟨_, ho, rfl⟩ (fun s' => typeIs_int s' _ t) noFill_tuple_mul F.fills_int_mul F.slot_int_rmul repeat_tuple F.slot_int_index.lookup
      (call_meets F.slot_int_rmul (typeIs_int s _ t) F.entry_int_rmul (F.args_int_rmul_2 _ _) (int_rmul_tuple _ t l its.toArray n dd sl)
        ⟨ho, rfl, ⟨_, ho, rfl⟩, call_meets F.slot_tuple_mul ⟨_, ho, rfl⟩ F.entry_tuple_mul (F.args_tuple_mul_2 _ _) (tuple_mul1 l its.toArray n dd sl t) ⟨ho, ?_⟩⟩)
    exact ⟨.ref l, H, I, rfl, q1 rfl⟩
/-! ### t[::-1], t of two items -/
theorem sliceApplied_rev2 {prog : Program} {w : World} {A : Around} {E : Value → Shared → Prop} {s : Shared} {sl : Addr} {vl vu vs : Value} {Q : Int × Int × Nat → Shared → Prop} (hs : s.heap.IsSliceOf sl vl vu vs) (pl : IsPart vl none) (pu : IsPart vu none) (ps : IsPart vs (some (-1)))
    (h : Q (1, -1, 2) s) : wpAny (model prog w) A (Builtin.Slice.sliceApplied (.ref sl) (pure (2 : Int))) Q E s := by
  obtain ⟨os, hos, hcs, hds⟩ := id hs
  unfold Builtin.Slice.sliceApplied Builtin.Slice.sliceFields
  refine wpAny_bind (wpAny_bind (wpAny_field hos hds (x := vl) rfl (wpAny_bind (wpAny_field hos hds (x := vu) rfl (wpAny_bind (wpAny_field hos hds (x := vs) rfl (wpAny_pure ?_)))))))
  refine wpAny_bind (HT.slicePart_ ps ?_)
  show wpAny _ _ (if ((-1 : Int) == 0) = true then _ else _) _ _ s
  rw [if_neg (by decide)]
  refine wpAny_bind (HT.slicePart_ pl (wpAny_bind (HT.slicePart_ pu (wpAny_bind (wpAny_pure ?_)))))
  exact wpAny_pure h
theorem getItem_tuple_rev2 {prog : Program} {w : World} {A : Around} {E : Value → Shared → Prop} {s : Shared} {t sl : Addr} {u1 u2 : Value} {vl vu vs : Value} {Q : Value → Shared → Prop} (ht : IsTup s.heap t #[u1, u2]) (hs : s.heap.IsSliceOf sl vl vu vs) (pl : IsPart vl none) (pu : IsPart vu none) (ps : IsPart vs (some (-1)))
    (h : Q (.ref s.heap.objs.size) { s with heap := s.heap.push { cls := .type "tuple", data := .seq #[u2, u1] } }) : wpAny (model prog w) A (getItem (.ref t) (.ref sl)) Q E s := by
  obtain ⟨os, hos, hcs, hds⟩ := id hs
  have hTs : s.TypeIs (.ref sl) "slice" := ⟨os, hos, hcs⟩
  unfold getItem
  try with_reducible refine wpAny_holding ?_
  first | refine wpAny_bind (wpAny_pure ?_) | skip
  refine wpAny_bind (wpAny_sequenceKey ht.typeIs (by decide) ?_)
  refine wpAny_bind (wpAny_callSpecial?_slot (name := Str.ofString "__getitem__") ht.typeIs PyProof.Rows.slot_tuple_getitem
    (wpAny_call_entry PyProof.Rows.slot_tuple_getitem ht.typeIs PyProof.Rows.entry_tuple_getitem ?_ (PyProof.Rows.args_tuple_getitem _ _)))
  show wpAny _ _ (Builtin.Tuple.tupleItemsOf (.ref t) >>= _) _ _ s
  refine wpAny_bind (PyProof.Rows.tupleItemsOf_ ht ?_)
  refine wpAny_bind (wpAny_typeOf hTs ?_)
  rw [if_pos (by decide)]
  refine wpAny_bind (sliceApplied_rev2 hs pl pu ps ?_)
  show wpAny _ _ (if ((1 : Int) == 0 && (-1 : Int) == 1 && (2 : Nat) == 2) = true then _ else _) _ _ s
  rw [if_neg (by decide)]
  have e : ((List.range 2).filterMap fun (k : Nat) => (#[u1, u2] : Array Value)[((1 : Int) + (k : Int) * (-1)).toNat]?).toArray = #[u2, u1] := rfl
  rw [e]
  have htake : sizeOk (.seq #[u2, u1]) := by show 2 ≤ sizeLine; decide
  first
    | exact wpAny_bind (m := Builtin.Tuple.tupleExact _) (wpAny_newObj_type (wpAny_pure ⟨_, rfl, wpAny_pure h⟩) htake)
    | exact wpAny_bind (m := Builtin.Tuple.tupleExact _) (wpAny_newObj_type (wpAny_bind (wpAny_pure (wpAny_pure ⟨_, rfl, wpAny_pure h⟩))) htake)
    | exact wpAny_bind (wpAny_bind (m := Builtin.Tuple.tupleExact _) (wpAny_newObj_type (wpAny_pure (wpAny_pure ⟨_, rfl, wpAny_pure h⟩)) htake))
    | exact wpAny_bind (wpAny_bind (m := Builtin.Tuple.tupleExact _) (wpAny_newObj_type (wpAny_pure ⟨_, rfl, wpAny_pure h⟩) htake))
def tRevT2 (K : PySem.W.Frag) (te : TE) : TE := fun σ H Q => te σ H fun x H1 => ∃ a x1 x2, x = .ref a ∧ SqT K H1 a [x1, x2] ∧ ∀ p, H1 p = none → Q (.ref p) (upd H1 p (.tup [x2, x1]))
theorem pe_revT2 {X : Cx} {e : Expr} {te : TE} {k : Nat} {p1 p2 p3 pos : Pos} (he : PE X e te) : PE X (.Subscript e (.Slice none none (some (.UnaryOp .USub (.Constant (.int 1) k p1) p2)) p3) pos) (tRevT2 X.K te) := by
  refine ⟨fun pins s σ H Q I h => ?_⟩
  refine Subscript_ (thn (he.run pins s σ H _ I h) fun v s1 ⟨x, H1, I1, r1, q1⟩ => ?_)
  obtain ⟨a, x1, x2, ex, hx, q⟩ := q1
  subst ex
  cases r1
  have hst : PO X (some (.UnaryOp .USub (.Constant (.int 1) k p1) p2)) (tPart (tUn (rU fun i => .int (-i)) (tC (.int 1)))) := po_some (pe_un un_neg pe_int)
  refine wpAny_Slice (thn (po_none.run pins s1 σ H1 (fun o H2 => o = none ∧ H2 = H1) I1 ⟨rfl, rfl⟩) fun vl s2 ⟨l, H2, I2, pl, el, e2⟩ => ?_)
  subst el e2
  refine thn (po_none.run pins s2 σ H2 (fun o H3 => o = none ∧ H3 = H2) I2 ⟨rfl, rfl⟩) fun vu s3 ⟨u, H3, I3, pu, eu, e3⟩ => ?_
  subst eu e3
  refine thn (hst.run pins s3 σ H3 (fun o H4 => o = some (-1) ∧ H4 = H3) I3 ⟨1, rfl, -1, rfl, rfl, rfl⟩) fun vs s4 ⟨o, H4, I4, ps, eo, e4⟩ => ?_
  subst eo e4
  have I5 : Inv X pins σ H4 { s4 with heap := s4.heap.push { cls := .type "slice", data := .fields #[vl, vu, vs] } } := I4.kept (t' := s4.toks) fun b ob q => Heap.get?_push_of_some _ q
  obtain ⟨its, r, ht, hz⟩ := I5.tuple hx
  obtain ⟨w1, w2, rfl, rw1, rw2⟩ := vals2 r
  show wpAny (model X.prog X.w) X.A (subscriptTail e (.Slice none none (some (.UnaryOp .USub (.Constant (.int 1) k p1) p2)) p3) (.ref a) (.ref s4.heap.objs.size)) (EP X pins σ Q) X.xe { s4 with heap := s4.heap.push { cls := .type "slice", data := .fields #[vl, vu, vs] } }
  refine tail_any (ops := [.ref a, .ref s4.heap.objs.size]) ht.typeIs (PyProof.Rows.slot_tuple_getitem.lookup) ?_ (by with_unfolding_all rfl)
  refine getItem_tuple_rev2 ht (Heap.IsSliceOf.new _ vl vu vs) pl pu ps ?_
  refine ⟨.ref _, _, I5.laid (t' := s4.toks) (o := .tup [x2, x1]) (fun b ob q => Heap.get?_push_of_some _ q) (Nat.le_refl _) ?_, rfl, q _ (I5.hok.fresh (Nat.le_refl _))⟩
  exact ⟨by show 2 ≤ sizeLine; decide, [w2, w1], .cons rw2 (.cons rw1 .nil), IsTup.new _ _⟩
end Og

namespace Og
open PySem
theorem meets_enum1 {v : Value} {o : Obj} {H : Heap → Prop} (B : Begins v o H) :
    Meets (Builtin.«enumerate.__new__» ⟨[.type "enumerate", v], []⟩) (fun _ R s => H s.heap ∧
      R (.ok (.ret (.ref (s.heap.push o).objs.size))) { s with heap := (s.heap.push o).push { cls := .type "enumerate", data := .fields #[.none, .bool false, .ref s.heap.objs.size, rawInt 0, .none, .none] } }) :=
  .of_wp fun prog w A R s h => by
    obtain ⟨hp, g, d, tk, os⟩ := s; obtain ⟨h1, h⟩ := h
    have hsub := sub_enumerate
    have q1 : ∀ {A' : Around} {E : Value → Shared → Prop} {Q : Value → Shared → Prop}, Q (.ref hp.objs.size) ⟨hp.push o, g, d, tk, os⟩ → wpAny (model prog w) A' (pyIter v) Q E ⟨hp, g, d, tk, os⟩ :=
      fun q => B.iter prog w _ _ ⟨hp, g, d, tk, os⟩ _ h1 q
    wp_walk using q1
    refine wpAny_stack_any fun st => wpAny_pure ?_
    split
    · rename_i c _ _ _ _ _
      cases (c == Value.type "enumerate")
      · wp_walk using q1
        exact ⟨_, rfl, h⟩
      · wp_walk using q1
        exact ⟨_, rfl, h⟩
    · wp_walk using q1
      exact ⟨_, rfl, h⟩
section
variable {prog : Program} {w : World} {A : Around} {E : Value → Shared → Prop} {s : Shared}
theorem call_enum1 {v : Value} {o : Obj} {H : Heap → Prop} {Q : Value → Shared → Prop} (B : Begins v o H) (h1 : H s.heap)
    (h : ∀ h', IsEnum h' (s.heap.objs.size + 1) s.heap.objs.size 0 .none → h'.get? s.heap.objs.size = some o → h'.objs.size = s.heap.objs.size + 2 →
      (∀ b o, s.heap.get? b = some o → h'.get? b = some o) → Q (.ref (s.heap.objs.size + 1)) { s with heap := h' }) :
    wpAny (model prog w) A (call (.type "enumerate") [v]) Q E s := by
  refine callType_new F.called_enumerate (by decide) (F.typeCall_enumerate_1 _) (F.newCall_enumerate_1 _) (fun obj => F.args_object_init_2 obj _) F.entry_enumerate_new
    (meets_enum1 B) ⟨h1, ?_⟩
  have hz : (s.heap.push o).objs.size = s.heap.objs.size + 1 := Heap.size_push ..
  show _ ∧ _
  rw [hz]
  have he : IsEnum ((s.heap.push o).push { cls := .type "enumerate", data := .fields #[.none, .bool false, .ref s.heap.objs.size, rawInt 0, .none, .none] }) (s.heap.objs.size + 1) s.heap.objs.size 0 .none := by
    have := Heap.get?_push_size (s.heap.push o) (o := { cls := .type "enumerate", data := .fields #[.none, .bool false, .ref s.heap.objs.size, rawInt 0, .none, .none] }) rfl
    rw [hz] at this; exact this
  refine ⟨⟨_, he, rfl⟩, h _ he (Heap.get?_push_of_some _ (Heap.get?_push_size _ B.free)) (by rw [Heap.size_push, hz]) fun b o x => Heap.get?_push_of_some _ (Heap.get?_push_of_some _ x)⟩
end
end Og
namespace Og
open PySem PySem.Spec PyProof.Rows L2
/-- the tuple at a as it stands at each turn, each item in a new pair -/
def IteT (K : PySem.W.Frag) (a : Addr) : It :=
  ⟨fun i H => ∃ (xs : List V) (x : V), SqT K H a xs ∧ xs[i]? = some x, fun i H v H' => ∃ T x, v = .ref T ∧ H T = none ∧ H' = upd H T (.tup [.int (i : Nat), x]) ∧ ∀ xs, SqT K H a xs → xs[i]? = some x, fun i H => ∃ xs : List V, SqT K H a xs ∧ xs.length = i⟩
theorem turn_enumT {P : Program} {w : World} {K : PySem.W.Frag} {elts : List Expr} {kk : Nat} {tpos : Pos} (a e it : Addr) :
    Turn P w K (.Tuple elts kk tpos) (IteT K a) [e, it] e (fun i h => (∃ old, IsEnum h e it ((i : Nat) : Int) old) ∧ h.IsTupleIter it a i ∧ e ≠ it ∧ a ≠ it ∧ a ≠ e) where
  mem := by simp
  obj := fun i h st b hb => by
    obtain ⟨⟨old, he⟩, ⟨o, ho, hc, hd⟩, _⟩ := st
    have e' : b = e ∨ b = it := by simpa using hb
    rcases e' with z | z
    · rw [z]; exact ⟨_, he, fun v q => nomatch q⟩
    · rw [z]; exact ⟨o, ho, fun v q => by rw [hd] at q; cases q⟩
  keep := fun i h h' st k => let ⟨⟨old, he⟩, hi, hne⟩ := st; ⟨⟨old, k e (by simp) _ he⟩, hi.at fun o q => k it (by simp) o q, hne⟩
  item := by
    intro X hP hw hK hc i pins s σ H E I hf st hg
    subst hP hw hK
    obtain ⟨⟨old, he⟩, hit, hne, hai, hae⟩ := st
    obtain ⟨xs, x, hq, hx⟩ := hg
    obtain ⟨its, rv, p, hz⟩ := I.tuple hq
    obtain ⟨u, hu, ru⟩ := rv.get hx
    have hel : e < s.heap.objs.size := Heap.lt_size he
    have hil : it < s.heap.objs.size := by obtain ⟨_, q, _⟩ := hit; exact Heap.lt_size q
    have hlt : i < its.toArray.size := by
      have := (List.getElem?_eq_some_iff.mp hu).1
      simpa using this
    refine wpAny_pyNext_enum_itemC (Draws.tuple (A := X.A.in1) (show X.A.in1.handled = none from I.ok.hd hc) it a hai its.toArray) he ⟨hit, p⟩ hlt hne (by simp [hne, hae.symm]) fun y h' tk hy ho hit' hT hsz hk => ?_
    have hy' : y = u := by
      have : its.toArray[i]? = some u := by simpa using hu
      rw [this] at hy
      exact (Option.some.inj hy).symm
    subst hy'
    refine ⟨_, rfl, wpAny_letOwnedTupleGo_enum (s := { s with heap := h', toks := tk + 1 }) ho fun h'' he' sb => ?_⟩
    have hT2 : h''.get? s.heap.objs.size = some { cls := .type "tuple", data := .seq #[.int i tk, y] } := (sb.2 _ (Nat.ne_of_gt hel)).trans hT
    have new : ObjOk X.prog X.w (upd H s.heap.objs.size (.tup [.int (i : Nat), x])) h'' s.heap.objs.size (.tup [.int (i : Nat), x]) :=
      ⟨by show 2 ≤ sizeLine; decide, [.int i tk, y], .cons ⟨_, rfl⟩ (.cons ru .nil), ⟨_, hT2, rfl, _, rfl⟩⟩
    have I1 : Inv X pins σ (upd H s.heap.objs.size (.tup [.int (i : Nat), x])) { s with heap := h'', toks := tk + 1 } :=
      I.turnedNew (ch := [e, it]) (fun b ob hb q => (sb.2 b (fun z => hb (by simp [z]))).trans (hk b ob (fun z => hb (by simp [z])) (fun z => hb (by simp [z])) q)) hf (Nat.le_refl _) new
    refine ⟨.ref s.heap.objs.size, _, I1, rfl, ⟨_, x, rfl, I.hok.fresh (Nat.le_refl _), rfl, fun ys hy => by rw [I.tuple_inj hy hq]; exact hx⟩, ⟨⟨y, ?_⟩, hit'.1.at fun o q => (sb.2 it (Ne.symm hne)).trans q, hne, hai, hae⟩, fun b hb => ?_⟩
    · have e1 : ((i + 1 : Nat) : Int) = (i : Int) + 1 := by omega
      rw [e1]; exact he'
    · have hb' : b < s.heap.objs.size := by
        have e' : b = e ∨ b = it := by simpa using hb
        rcases e' with z | z
        · rw [z]; exact hel
        · rw [z]; exact hil
      rw [upd_ne (Nat.ne_of_lt hb')]
      exact (hf b hb).1
  done := by
    intro X hP hw hK hc i pins s σ H E I hf st hg
    subst hP hw hK
    obtain ⟨⟨old, he⟩, hit, hne, hai, hae⟩ := st
    obtain ⟨xs, hq, hx⟩ := hg
    obtain ⟨its, rv, p, hz⟩ := I.tuple hq
    obtain ⟨f0, f1, f2, f3, f4, f5⟩ := hf it (by simp)
    have hl := rv.length
    have hi : i = its.toArray.size := by simp; omega
    rw [hi] at hit
    exact wpAny_pyNext_enum_endD (Draws.tuple (A := X.A.in1) (show X.A.in1.handled = none from I.ok.hd hc) it a hai its.toArray) he ⟨hit, p⟩ fun h' eb => ⟨rfl, I.turned (t' := s.toks) (fun b o hb q => eb b o hb q) f0 f1 f3 f4 f5⟩
  self := fun A i s Q E st h => let ⟨⟨_, he⟩, _⟩ := st; wpAny_pyIter_enum he h
def iEnumT (K : PySem.W.Frag) (ta : TA) : TI := fun σ H R => ta σ H fun vs H1 => ∃ a xs, vs = [.ref a] ∧ SqT K H1 a xs ∧ R (IteT K a) H1
theorem pi_enumT {X : Cx} {e : Expr} {ta : TA} {p pos tpos : Pos} {elts : List Expr} {kk : Nat} (hg : Gl X "enumerate") (hm : X.mg "enumerate" = none) (ha : PA X [e] ta) (hs : starEach [e] X.env = [(false, eval e X.env)] := by rfl) :
    PI X (.Tuple elts kk tpos) (.Call (.Name "enumerate" p) [e] [] pos) (iEnumT X.K ta) := by
  refine ⟨fun pins s σ H R I h => ?_⟩
  refine Call_ (ld_blt I hg hm boot_enumerate (PyProof.Rows.callWith_type1 (thn (ha.run pos pins s σ H _ I h) fun us s1 ⟨vs, H1, I1, r1, q1⟩ => ?_) hs rfl))
  obtain ⟨a, xs, ex, hq, q⟩ := q1
  subst ex
  cases r1 with
  | cons r rr =>
    cases rr
    cases r
    obtain ⟨its, rv, p', hz⟩ := I1.tuple hq
    obtain ⟨oa, hoa, _⟩ := id p'
    have hal := Heap.lt_size hoa
    refine call_enum1 (begins_tuple a its.toArray) p' fun h' he hit hsz hk => wpAny_pyIter_enum he ?_
    have I2 : Inv X pins σ H1 { s1 with heap := h' } := I1.kept (t' := s1.toks) hk
    refine ⟨s1.heap.objs.size + 1, [s1.heap.objs.size + 1, s1.heap.objs.size], _, _, H1, rfl, I2, turn_enumT a (s1.heap.objs.size + 1) s1.heap.objs.size, ⟨⟨.none, he⟩, ⟨_, hit, rfl, rfl⟩, Nat.succ_ne_self _, Nat.ne_of_lt hal, Nat.ne_of_lt (Nat.lt_succ_of_lt hal)⟩, fun b hb => ?_, q⟩
    have e' : b = s1.heap.objs.size + 1 ∨ b = s1.heap.objs.size := by simpa using hb
    have hle : s1.heap.objs.size ≤ b := by
      rcases e' with z | z
      · rw [z]; exact Nat.le_add_right _ _
      · rw [z]; exact Nat.le_refl _
    exact I1.fpOk hle (I1.hok.fresh hle)
/-- a loop over enumerate of a tuple -/
theorem for_enumT {K : PySem.W.Frag} {a : Addr} {xs : List V} {g : TG} {tb : TS} {D : Ends} {σ : L2.St} {H : Hp} (Pv : Nat → L2.St → Hp → Prop) (h0 : Pv 0 σ H) (hq : ∀ i σ H, Pv i σ H → SqT K H a xs)
    (hs : ∀ (i : Nat) (x : V) (T : Addr) (σ : L2.St) (H : Hp), xs[i]? = some x → Pv i σ H → H T = none → g (.ref T) σ (upd H T (.tup [.int (i : Nat), x])) fun σ2 H2 => tb { D with nx := Pv (i + 1), ct := Pv (i + 1), bk := D.nx } σ2 H2) (hd : ∀ σ H, Pv xs.length σ H → D.nx σ H) :
    ∃ W : Nat → Nat → L2.St → Hp → Prop, (∃ m, W 0 m σ H) ∧ ∀ i m σ H, W i m σ H →
      ((IteT K a).stop i H ∧ D.nx σ H) ∨ ((IteT K a).go i H ∧ ∃ N : L2.St → Hp → Prop, (∀ σ' H', N σ' H' → ∃ m', m' < m ∧ W (i + 1) m' σ' H') ∧ ∀ v H', (IteT K a).yld i H v H' → g v σ H' fun σ2 H2 => tb { D with nx := N, ct := N, bk := D.nx } σ2 H2) := by
  refine ⟨fun i m σ H => m = xs.length - i ∧ i ≤ xs.length ∧ Pv i σ H, ⟨xs.length, rfl, Nat.zero_le _, h0⟩, ?_⟩
  rintro i m σ H ⟨rfl, hi, p⟩
  have qx := hq i σ H p
  by_cases hlt : i < xs.length
  · have hx : xs[i]? = some xs[i] := List.getElem?_eq_getElem hlt
    refine .inr ⟨⟨xs, _, qx, hx⟩, Pv (i + 1), fun σ' H' p' => ⟨xs.length - (i + 1), by omega, rfl, hlt, p'⟩, fun v H' y => ?_⟩
    obtain ⟨T, x', rfl, hT, rfl, f1⟩ := y
    exact hs i x' T σ H (f1 xs qx) p hT
  · have e : i = xs.length := by omega
    subst e
    exact .inl ⟨⟨xs, qx, rfl⟩, hd σ H p⟩
end Og

namespace Og
open PySem PySem.Spec PyProof.Rows L2
section
variable {X : Cx} {G : Addr} {e : Expr} {es : List Expr} {ta : TA} {x : Str} {p1 p2 pos : Pos}
/-- C.__init__(self, ..) of an own class C over ValueError that has no __init__ itself -/
theorem pe_clsinit {pl : Sem Bool} (hg : Gl X x) (hm : X.mg x = some (.ref G)) (rd : PySem.W.readsIn X.K G (.type "type") = true) (sg : PySem.W.specialIn X.K (.ref G) "__getattribute__" = some (some (.builtin "type.__getattribute__")))
    (vV : PySem.W.findCls X.K (.ref G) (.type "type") "__init__" = some (.val (.builtin "ValueError.__init__"))) (ha : PA X (e :: es) ta) (hdb : (x == ("__debug__" : Str)) = false := by decide)
    (hc : eval (.Call (.Attribute (.Name x p1) "__init__" p2) (e :: es) [] pos) X.env = (do
      let ob ← eval (.Name x p1) X.env
      standAt p2.atName
      let (fn, fst) ← holding [ob] (getMethod ob "__init__" pl)
      callWith pos fn fst (backTo pos (starEach (e :: es) X.env)) (backToKw pos (keywordEach [] X.env))) := by rfl)
    (hpl : (backTo pos (starEach es X.env)).any (·.1) = false := by rfl)
    (he : starEach (e :: es) X.env = (false, eval e X.env) :: starEach es X.env := by rfl) : PE X (.Call (.Attribute (.Name x p1) "__init__" p2) (e :: es) [] pos) (tVeI X.K ta) := by
  constructor
  intro pins s σ H Q I hQ
  refine PySem.W.methodCall_KW (ld_glob I hg hm ?_ hdb) hc
  refine PySem.W.method_cls I.kIn sg (PySem.W.cls_value I.kIn rd vV (by decide +kernel) ?_)
  refine PyProof.Rows.callWith_method1 (id := "ValueError.__init__") (thn (ha.run pos pins _ σ H _ (I.tok _) hQ) fun us s1 q => ?_) he hpl
  obtain ⟨vs, H1, I1, r1, a, C, ws, rfl, hl, T, ea, q⟩ := q
  cases r1 with
  | cons ra rw' =>
    cases ra
    have few := Paired.length rw'
    exact oinit_ok T I1 ea (by rw [← few, sizeLine_eq]; omega) fun s' J => ⟨.non, H1, J, rfl, q⟩
end
/-! ### callees that may raise -/
def HasX (P : Program) (w : World) (K : PySem.W.Frag) (mg : Str → Option Value) (base : Heap) (k : Nat) (x : Str) (ps : List Str) (sp : Sp) : Prop := ∃ f fd, Callee P w K mg base (L2.CX P w) k x f fd ps sp
theorem HasX.mono {P : Program} {w : World} {K : PySem.W.Frag} {mg : Str → Option Value} {base : Heap} {j k : Nat} {x : Str} {ps : List Str} {sp : Sp} (h : HasX P w K mg base j x ps sp) (l : j ≤ k) : HasX P w K mg base k x ps sp := by
  obtain ⟨f, fd, c⟩ := h
  exact ⟨f, fd, c.ok.mono l, c.mg, c.kp, c.bi⟩
section
variable {X : Cx} {CX : CXT} {E : XK} {k : Nat} {x : Str} {f : Addr} {fd : FuncData} {ps : List Str} {sp : Sp} {p pos : Pos} {e : Expr} {es : List Expr} {t : TA}
theorem calX (C : Callee X.prog X.w X.K X.mg X.base CX k x f fd ps sp) (hr : Room k X.A) (hg : Gl X x) (hx : Passes CX X E) (ha : PA X (e :: es) t) (hdb : (x == ("__debug__" : Str)) = false := by decide)
    (he : starEach (e :: es) X.env = (false, eval e X.env) :: starEach es X.env := by rfl) (hpl : (backTo pos (starEach es X.env)).any (·.1) = false := by rfl) : PE X (.Call (.Name x p) (e :: es) [] pos) (tCall sp [] E t) :=
  pe_call C.ok hr hg C.mg C.kp C.bi .nil hx ha hdb he hpl
end
/-- what a raise C(i) leaves: the error's own dict -/
theorem keep_raised {S : List Addr} {H : Hp} {a dx C : Addr} {f : Str} {i : Int} (na : H a = none) (nd : (upd H a (exo a C none)) dx = none) (ne : dx ≠ a) :
    Keep S H (upd (del (upd (upd (upd H a (exo a C none)) dx (exd dx [(f, .int i)])) a (exo a C (some dx))) a) dx (.xd [(f, .int i)])) := fun b o e => by
  have nd0 : H dx = none := by rw [upd_ne ne] at nd; exact nd
  have ba : b ≠ a := ne_of_none e na
  have bd : b ≠ dx := ne_of_none e nd0
  exact .inl (by rw [upd_ne bd, del_ne ba, upd_ne ba, upd_ne bd, upd_ne ba]; exact e)
/-! ### an own error class C (under GlassError, at G) with a number at one field -/
structure ErrT (K : PySem.W.Frag) (mg : Str → Option Value) (x qual field : Str) (st : Stmt) (C G fI : Addr) (fd : FuncData) : Prop where
  gC : mg x = some (.ref C)
  gG : mg "GlassError" = some (.ref G)
  ox : OexC K C
  iC : PySem.W.findIn K (.ref C) "__init__" = some (some (.ref fI))
  tI : PySem.W.typeIn K (.ref fI) = some (.type "function")
  no : PySem.W.findIn K (.ref C) field = some none
  rd : PySem.W.readsIn K G (.type "type") = true
  sg : PySem.W.specialIn K (.ref G) "__getattribute__" = some (some (.builtin "type.__getattribute__"))
  vV : PySem.W.findCls K (.ref G) (.type "type") "__init__" = some (.val (.builtin "ValueError.__init__"))
  fn : Fun K "__init__" qual st fI fd
  bi : Binds K fd ["self", field] []
structure ErrH (K : PySem.W.Frag) (C G : Addr) : Prop where
  ga : PySem.W.findIn K (.ref C) "__getattribute__" = some (some (.builtin "BaseException.__getattribute__"))
  gg : PySem.W.findIn K (.ref C) "__getattr__" = some none
  hd : PySem.W.hasDictIn K C = true
  ic : PySem.W.isClsIn K C = true
  se : PySem.W.subIn K (.ref C) (.ref C) = some true
  ck : PySem.W.findIn K (.ref C) "__class__" = some (some (.builtin "object.__class__"))
  kG : PySem.W.kitOne K (.ref C) (.ref G) = some true
  kV : PySem.W.kitOne K (.ref C) (.type "ValueError") = some true
  cg : PySem.W.specialIn K (.builtin "object.__class__") "__get__" = some (some (.builtin "getset_descriptor.__get__"))
  ct : PySem.W.takesIn K (.builtin "object.__class__") = some true
  cm : PySem.W.mroIn K C (.type "object") = some true
structure ErrAll (K : PySem.W.Frag) (mg : Str → Option Value) (x qual field : Str) (st : Stmt) : Prop where
  ex : ∃ C G fI fd, ErrT K mg x qual field st C G fI fd ∧ ErrH K C G
/-- an error of the one class is none of the other -/
structure ErrNot (K : PySem.W.Frag) (mg : Str → Option Value) (x y : Str) : Prop where
  no : ∀ a b : Addr, mg x = some (.ref a) → mg y = some (.ref b) → PySem.W.kitOne K (.ref a) (.ref b) = some false
/-- what the __init__ of such a class promises -/
def spErr (K : PySem.W.Frag) (field : Str) : Sp := fun vs H Q _ => ∃ (a C : Addr) (i : Int), vs = [.ref a, .int i] ∧ OexC K C ∧ PySem.W.findIn K (.ref C) field = some none ∧ i.natAbs < 10 ^ 9 ∧ H a = some (exo a C none) ∧
  ∀ dx : Addr, H dx = none → dx ≠ a → Q .non (upd (upd H dx (exd dx [(field, .int i)])) a (exo a C (some dx)))
end Og

namespace Og
open PySem PySem.W PySem.Calls PyProof.Rows
section
variable {prog : Program} {w : World} {A : Around} {E : Value → Shared → Prop} {s : Shared} {K : Frag} {x D : Addr} {ox : Obj} {od : Obj}
/-- e.__class__ of an error with a dict of its own -/
theorem exc_class {Q : Option Value → Shared → Prop} (g1 : findIn K (.ref D) "__getattribute__" = some (some (.builtin "BaseException.__getattribute__"))) (g2 : findIn K (.ref D) "__getattr__" = some none)
    (g3 : subIn K (.ref D) (.type "BaseException") = some true) (g4 : (clsIn K D).isSome = true) (g5 : findIn K (.ref D) "__class__" = some (some (.builtin "object.__class__")))
    (g6 : specialIn K (.builtin "object.__class__") "__get__" = some (some (.builtin "getset_descriptor.__get__"))) (g7 : takesIn K (.builtin "object.__class__") = some true) (g8 : mroIn K D (.type "object") = some true)
    (X : K.In s.heap) (I : InstAt s.heap x ox D (some od)) (fin : Q (some (.ref D)) { s with toks := s.toks + 1 }) : wpAny (model prog w) A (getAttr? (.ref x) "__class__") Q E s := by
  have found : findObj K D (some od) "__class__" = some (.bind (.builtin "getset_descriptor.__get__") (.builtin "object.__class__")) := findObj_data g4 g5 g6 g7
  obtain ⟨hp, ge, dr, tk, os⟩ := s
  have ty := I.type (M := model prog w)
  have la := looks_findIn (M := model prog w) X g1
  have lb := looks_findIn (M := model prog w) X g2
  have lc := looks_find (M := model prog w) X I found
  have isB : Looks (model prog w) hp (isInstance (.ref x) (.type "BaseException")) true := ty.andThen (looks_subIn X g3)
  have ne : (Value.builtin "BaseException.__getattribute__" == Value.builtin "object.__getattribute__") = false := by decide +kernel
  unfold getAttr? getAttrBy? getAttrBy
  refine wpAny_bind (wpAny_mkText (wpAny_bind (wpAny_attempt (wpAny_holding (wpAny_bind (ty.at (wpAny_bind (la.at ?_))))))))
  dsimp only
  rw [ne, Bool.and_false, if_neg Bool.false_ne_true]
  unfold getAttrByItsOwn hookBefore
  refine wpAny_bind ?_
  rw [if_pos (show onTheHeap (Value.ref D) = true from rfl)]
  refine lb.at ?_
  refine wpAny_bind (wpAny_attempt (wpAny_holding ?_))
  unfold callGetattribute
  rw [Bool.false_and, if_neg Bool.false_ne_true]
  unfold boundAndCalled
  rw [PySem.F.excAttr_ValueError.ga.bind (.ref x)]
  refine wpAny_bind (wpAny_pure ?_)
  refine wpAny_call (codeAny_call_builtin PySem.F.excAttr_ValueError.ga.plain PySem.F.entry_bexc_ga ?_)
  refine @check_slot (model prog w) _ _ ⟨hp, ge, dr, tk + 1, os⟩ "BaseException.__getattribute__" "BaseException" "__getattribute__" (.ref x) [.str "__class__" tk] [] _ (by decide +kernel) (by decide +kernel) isB (PySem.F.args_bexc_ga (.ref x) (.str "__class__" tk)) ?_
  unfold Builtin.«object.__getattribute__»
  refine wpAny_bind (wpAny_of_eq (a := ((Value.ref x : Value), [Value.str "__class__" tk])) (by first | rfl | (simp only [slotArgs]; rfl)) ?_)
  refine wpAny_bind (wpAny_pure (wpAny_bind (ty.at (wpAny_bind (lc.at ?_)))))
  refine wpAny_bind (wpAny_holding (wpAny_call (class_get (s := ⟨hp, ge, dr, tk + 1, os⟩) (ox := ox) (od := some od) X I g8 ?_)))
  refine wpAny_pure ?_
  show wpAny _ _ (handedOut (.ref D)) _ _ _
  rw [handedOut_of (v := .ref D) rfl]
  first
    | exact wpAny_pure (wpAny_pure fin)
    | exact wpAny_pure fin
    | exact wpAny_pure (wpAny_bind (wpAny_pure (wpAny_pure fin)))
theorem exc_kit (g1 : findIn K (.ref D) "__getattribute__" = some (some (.builtin "BaseException.__getattribute__"))) (g2 : findIn K (.ref D) "__getattr__" = some none)
    (g3 : subIn K (.ref D) (.type "BaseException") = some true) (g4 : hasDictIn K D = true) (g5 : findIn K (.ref D) "__class__" = some (some (.builtin "object.__class__")))
    (g6 : specialIn K (.builtin "object.__class__") "__get__" = some (some (.builtin "getset_descriptor.__get__"))) (g7 : takesIn K (.builtin "object.__class__") = some true) (g8 : mroIn K D (.type "object") = some true) :
    KitX K (.ref x) (.ref D) (fun h => InstAt h x ox D (some od)) where
  ty := fun _ _ _ I => I.type
  it := fun _ _ X _ => by
    obtain ⟨cd, hc, _⟩ := any_some g4
    unfold clsIn at hc
    split at hc
    · rename_i ho
      intro A' Q' E' s' k q
      unfold isType loadHead
      exact wpAny_bind (wpAny_loadPart (k _ _ (X _ _ ho)) (wpAny_pure q))
    · cases hc
  ne := fun h tp dd its n sl X htp => by
    obtain ⟨cd, hc, _⟩ := any_some g4
    refine Bool.eq_false_iff.mpr fun q => ?_
    have e : D = tp := Value.ref.inj (beq_iff_eq.mp q)
    subst e
    unfold clsIn at hc
    split at hc
    · rename_i ho
      exact nomatch (X _ _ ho).symm.trans htp
    · cases hc
  ca := fun X I k => exc_class g1 g2 g3 (by obtain ⟨cd, hc, _⟩ := any_some g4; rw [hc]; rfl) g5 g6 g7 g8 X I k
end
end Og
namespace Og
open PySem PySem.Spec PyProof.Rows L2
/-- what a suite's reading takes as given -/
theorem pss_ex {α : Type} {X : Cx} {sts : List Stmt} {t : α → TS} (h : ∀ x, PSs X sts (t x)) : PSs X sts (fun D σ H => ∃ x, t x D σ H) := ⟨fun pins s σ H D I q => by
  obtain ⟨x, q⟩ := q
  exact (h x).run pins s σ H D I q⟩
theorem pss_when {C : Prop} {X : Cx} {sts : List Stmt} {t : TS} (h : C → PSs X sts t) : PSs X sts (fun D σ H => C ∧ t D σ H) := ⟨fun pins s σ H D I q => (h q.1).run pins s σ H D I q.2⟩
/-- isinstance(e, c) of the error e that a suite holds, which has a dict of its own -/
def rIsD (K : PySem.W.Frag) (D a dd : Addr) : List V → Hp → VK → Prop := fun xs H Q => ∃ (c : V) (cv : Value) (b : Bool) (fs : List (Str × V)), xs = [.ref a, c] ∧ ClsV c cv ∧ H dd = some (.xd fs) ∧ PySem.W.kitOne K (.ref D) cv = some b ∧ Q (.bl b) H
theorem call_isD {X : Cx} {a D dd : Addr} {oe : Obj} {pn : List (Addr × Obj)} (C : ExcC X.K D) (hz : Zc (.ref D) (some dd) oe) (hf : ∃ vs, oe.data = .fields vs) : CallR (X.suite a ((a, oe) :: pn)) (.builtin "isinstance") (rIsD X.K D a dd) := by
  intro pins s σ H xs us Q I r h
  obtain ⟨c, cv, b, fs, rfl, hcv, ed, e, q⟩ := h
  obtain ⟨u1, u2, rfl, r1, r2⟩ := vals2 r
  have ec := hcv.eq r2
  subst ec
  obtain rfl : u1 = Value.ref a := r1
  obtain ⟨hget, _⟩ := I.pin (a, oe) (List.mem_append.mpr (.inl List.mem_cons_self))
  obtain ⟨vs, hv⟩ := hf
  have hx : ObjOk X.prog X.w H s.heap dd (.xd fs) := I.hok dd _ ed
  obtain ⟨mA, hns, _⟩ := hx
  obtain ⟨odd, ho, _⟩ := lookIn_ns hns
  have J : PySem.W.InstAt s.heap a oe D (some odd) := ⟨hget, hz.1, by unfold PySem.W.notCls; rw [hv], by rw [hz.2]; exact ho⟩
  exact PySem.W.kia_one (exc_kit C.hg C.hk C.hs C.hd C.ha C.hn C.ht C.hm) I.kIn J e (fun z => nomatch z) fun tk => ⟨.bl b, H, I.kept (t' := tk) fun _ _ z => z, rfl, q⟩
end Og

namespace Og
open PySem PySem.Spec PyProof.Rows L2
/-- an error of the class cls with the dict d, held as a value at a -/
def ErV (cls : Value) (d : Option Addr) (a : Addr) : HO := .ext fun h => ∃ (oe : Obj) (vs : Array Value), h.get? a = some oe ∧ Zc cls d oe ∧ oe.data = .fields vs
/-- isinstance(e, c) of such an error -/
def rIsV (K : PySem.W.Frag) : List V → Hp → VK → Prop := fun xs H Q => ∃ (a C dd : Addr) (c : V) (cv : Value) (b : Bool) (fs : List (Str × V)), xs = [.ref a, c] ∧ ClsV c cv ∧ ExcC K C ∧ H a = some (ErV (.ref C) (some dd) a) ∧ H dd = some (.xd fs) ∧ PySem.W.kitOne K (.ref C) cv = some b ∧ Q (.bl b) H
/-- e.f of such an error -/
def tXv (K : PySem.W.Frag) (f : Str) (te : TE) : TE := fun σ H Q => te σ H fun x H1 => ∃ (a C dd : Addr) (fs : List (Str × V)) (v : V), x = .ref a ∧ XfC K C ∧ PySem.W.findIn K (.ref C) f = some none ∧ H1 a = some (ErV (.ref C) (some dd) a) ∧ H1 dd = some (.xd fs) ∧ fs.lookup f = some v ∧ Q v H1
section
variable {X : Cx} {e : Expr} {te : TE} {p pos : Pos}
/-- what makes an error to raise it makes it as a value as well -/
theorem pe_made {t : L2.St → Hp → XK → Prop} (h : PMk X e t) : PE X e (fun σ H Q => t σ H fun cls d H1 => ∀ a : Addr, H1 a = none → Q (.ref a) (upd H1 a (ErV cls d a))) := by
  constructor
  intro pins s0 σ H Q I q
  refine wpAny_mono (h pins s0 σ H _ I q) (fun u s1 hu => ?_) fun _ _ no => no
  obtain ⟨a, oe, vs, sI, H', cls, d, rfl, J, grows, fresh, there, zc, dt, _, na, os, bare, _, q1⟩ := hu
  have new : ObjOk X.prog X.w (upd H' a (ErV cls d a)) s1.heap a (ErV cls d a) := ⟨⟨oe, vs, there, zc, dt⟩, ⟨oe, there⟩, fun _ _ ⟨o, w, y, r⟩ k => ⟨o, w, k o y, r⟩⟩
  exact ⟨.ref a, _, J.call' (ch := []) os (Un.laidN grows fresh na) (J.hok.laidN grows na new) bare (fun b z => absurd z (by simp)), rfl, q1 a na⟩
/-- the error and its dict, in the model's heap -/
theorem erv_at {H : Hp} {s1 : Shared} {a C dd : Addr} {fs : List (Str × V)} (hok : HOk X.prog X.w H s1.heap) (ea : H a = some (ErV (.ref C) (some dd) a)) (ed : H dd = some (.xd fs)) :
    ∃ (oe odd : Obj) (mA : Str → Option Value), PySem.W.InstAt s1.heap a oe C (some odd) ∧ (∀ f, RelO (fs.lookup f) (mA f)) ∧ ∀ f, PySem.W.lookIn f odd = some (mA f) := by
  have xa : ObjOk X.prog X.w H s1.heap a (.ext fun h => ∃ (oe : Obj) (vs : Array Value), h.get? a = some oe ∧ Zc (.ref C) (some dd) oe ∧ oe.data = .fields vs) := hok a _ ea
  have xd : ObjOk X.prog X.w H s1.heap dd (.xd fs) := hok dd _ ed
  obtain ⟨oe, vs, there, zc, dt⟩ := xa.1
  obtain ⟨mA, hns, rel⟩ := xd
  obtain ⟨odd, hd, look⟩ := lookIn_ns hns
  exact ⟨oe, odd, mA, ⟨there, zc.1, by unfold PySem.W.notCls; rw [dt], by rw [zc.2]; exact hd⟩, rel, look⟩
theorem call_isV : CallR X (.builtin "isinstance") (rIsV X.K) := by
  intro pins s1 σ H xs us Q I r h
  obtain ⟨a, C, dd, c, cv, b, fs, rfl, hcv, ec, ea, ed, z, q⟩ := h
  obtain ⟨u1, u2, rfl, v1, v2⟩ := vals2 r
  have ev := hcv.eq v2
  subst ev
  obtain rfl : u1 = Value.ref a := v1
  obtain ⟨oe, odd, mA, J, _, _⟩ := erv_at I.hok ea ed
  exact PySem.W.kia_one (exc_kit ec.hg ec.hk ec.hs ec.hd ec.ha ec.hn ec.ht ec.hm) I.kIn J z (fun y => nomatch y) fun tk => ⟨.bl b, H, I.kept (t' := tk) fun _ _ y => y, rfl, q⟩
theorem pe_xv {n : Str} (he : PE X e te) (hb : attributeBase e n X.env (eval e X.env) = eval e X.env := by rfl) : PE X (.Attribute e n pos) (tXv X.K n te) := by
  constructor
  intro pins s0 σ H Q I h
  refine attr_of hb (thn (he.run pins s0 σ H _ I h) fun u0 s1 g => ?_)
  obtain ⟨x, H1, I1, rx, a, C, dd, fs, v, ex, T, hno, ea, ed, l, q⟩ := g
  subst ex
  obtain rfl : u0 = Value.ref a := rx
  obtain ⟨oe, odd, mA, J, rel, look⟩ := erv_at I1.hok ea ed
  obtain ⟨u, hu, ru⟩ := RelO.some_of (v := v) (o := mA n) (by have := rel n; rw [l] at this; exact this)
  exact HandSPX.exc_get I1.kIn J T.ga T.gg T.exC (PySem.W.findObj_own T.hdC hno rfl (by rw [look, hu])) (handed_of ru) ⟨v, H1, I1.tok _, ru, q⟩
end
end Og

namespace Og
open PySem PySem.Spec PyProof.Rows L2
open PySem.NumText (AllDigits digitsVal)
/-! ### programs as trees, and which are good -/
def qw : List Nat := [113, 117, 111, 116, 101]
def specials : List (List Nat × Nat) := [(qw, 1), ([105, 102], 3), ([115, 97, 109, 101], 2), ([119, 111, 114, 100], 1), ([104, 101, 97, 100], 1), ([116, 97, 105, 108], 1), ([106, 111, 105, 110], 2)]
def spAr (x : List Nat) : Option Nat := (specials.find? fun p => decide (p.1 = x)).map (·.2)
def fn? : Tree → Option (List Nat × List Tree × Tree)
  | .l [.w n, .l ps, b] => some (n, ps, b)
  | _ => none
theorem fn?_iff {t : Tree} {n : List Nat} {ps : List Tree} {b : Tree} : fn? t = some (n, ps, b) ↔ t = .l [.w n, .l ps, b] := by
  unfold fn?
  split
  · rename_i n' ps' b'
    constructor
    · intro h
      have h1 := Option.some.inj h
      have h2 := (Prod.mk.inj h1).1
      have h3 := (Prod.mk.inj h1).2
      have h4 := (Prod.mk.inj h3).1
      have h5 := (Prod.mk.inj h3).2
      rw [h2, h4, h5]
    · intro h
      have h1 := Tree.l.inj h
      have h2 := Tree.w.inj (List.cons.inj h1).1
      have h3 := (List.cons.inj h1).2
      have h4 := Tree.l.inj (List.cons.inj h3).1
      have h5 := (List.cons.inj (List.cons.inj h3).2).1
      rw [h2, h4, h5]
  · rename_i no
    constructor
    · intro h; cases h
    · intro h; exact absurd h (no n ps b)
def arity : List Tree → List Nat → Option Nat
  | [], _ => none
  | t :: r, x => match fn? t with
    | some (n, ps, _) => if n = x then some ps.length else arity r x
    | none => arity r x
/-- how many parts stand behind the word x -/
def parts (fs : List Tree) (x : List Nat) : Option Nat := match spAr x with
  | some k => some k
  | none => arity fs x
mutual
def GoodE (fs ps : List Tree) : Tree → Prop
  | .w x => Tree.w x ∈ ps
  | .l [] => False
  | .l (.l _ :: _) => False
  | .l (.w n :: ts) => parts fs n = some ts.length ∧ (n = qw ∨ GoodEs fs ps ts)
def GoodEs (fs ps : List Tree) : List Tree → Prop
  | [] => True
  | t :: ts => GoodE fs ps t ∧ GoodEs fs ps ts
end
theorem goodE_w {fs ps : List Tree} {x : List Nat} : GoodE fs ps (.w x) ↔ Tree.w x ∈ ps := by rw [GoodE]
theorem goodEs_iff {fs ps : List Tree} : ∀ {ts : List Tree}, GoodEs fs ps ts ↔ ∀ t ∈ ts, GoodE fs ps t
  | [] => by rw [GoodEs]; exact ⟨fun _ t m => absurd m (List.not_mem_nil), fun _ => trivial⟩
  | u :: ts => by
    rw [GoodEs, goodEs_iff]
    constructor
    · rintro ⟨h1, h2⟩ t m
      rcases List.mem_cons.mp m with e | m
      · rw [e]; exact h1
      · exact h2 t m
    · intro h
      exact ⟨h u (List.mem_cons_self ..), fun t m => h t (List.mem_cons_of_mem _ m)⟩
/-- the list's first item is a word, with the right number of parts behind it -/
def Right (fs ts : List Tree) : Prop := ∃ n r, ts = .w n :: r ∧ parts fs n = some r.length
theorem goodE_l {fs ps ts : List Tree} : GoodE fs ps (.l ts) ↔ Right fs ts ∧ (ts.head? = some (.w qw) ∨ ∀ t ∈ ts.tail, GoodE fs ps t) := by
  cases ts with
  | nil =>
    rw [GoodE]
    constructor
    · intro h; exact h.elim
    · rintro ⟨⟨n, r, e, _⟩, _⟩; cases e
  | cons t r =>
    cases t with
    | l us =>
      rw [GoodE]
      constructor
      · intro h; exact h.elim
      · rintro ⟨⟨n, r', e, _⟩, _⟩
        have := (List.cons.inj e).1
        cases this
    | w n =>
      rw [GoodE, goodEs_iff]
      constructor
      · rintro ⟨h1, h2⟩
        refine ⟨⟨n, r, rfl, h1⟩, ?_⟩
        rcases h2 with h2 | h2
        · exact .inl (by rw [h2]; rfl)
        · exact .inr h2
      · rintro ⟨⟨n', r', e, h1⟩, h2⟩
        have e1 := Tree.w.inj (List.cons.inj e).1
        have e2 := (List.cons.inj e).2
        subst e1 e2
        refine ⟨h1, ?_⟩
        rcases h2 with h2 | h2
        · exact .inl (Tree.w.inj (Option.some.inj h2))
        · exact .inr h2
def GoodName (n : Nat) (x : List Nat) : Prop := spAr x = none ∧ ∀ ds, x = 102 :: ds → ds ≠ [] → AllDigits ds → (ds = [48] ∨ ds.head? ≠ some 48) ∧ digitsVal ds < n
def GoodPs (ps : List Tree) : Prop := ps.length ≤ 12 ∧ ∀ (i : Nat) (t : Tree), ps[i]? = some t → ∃ x, t = .w x ∧ spAr x = none ∧ ∀ j : Nat, j < i → ps[j]? ≠ some (.w x)
def Dupe (fs : List Tree) (i : Nat) (x : List Nat) : Prop := ∃ (j : Nat) (r : List Tree), j < i ∧ fs[j]? = some (.l (.w x :: r))
/-- the function is good, but for its name being used earlier -/
def GoodFn (fs : List Tree) (t : Tree) : Prop := ∃ n ps b, t = .l [.w n, .l ps, b] ∧ GoodName fs.length n ∧ GoodPs ps ∧ GoodE fs ps b
def GoodAt (fs : List Tree) (i : Nat) : Prop := ∃ n ps b, fs[i]? = some (.l [.w n, .l ps, b]) ∧ GoodName fs.length n ∧ GoodPs ps ∧ GoodE fs ps b ∧ ¬ Dupe fs i n
/-- what is found: none, or the number of the first function that is not good -/
def BadNo : Tree → Option Nat → Prop
  | .w _, o => o = some 0
  | .l fs, o => (fs = [] ∧ o = some 0) ∨ (fs ≠ [] ∧ ((o = none ∧ ∀ i, i < fs.length → GoodAt fs i) ∨ ∃ i, o = some i ∧ i < fs.length ∧ ¬ GoodAt fs i ∧ ∀ j, j < i → GoodAt fs j))
theorem BadNo.uniq {t : Tree} {a b : Option Nat} (h1 : BadNo t a) (h2 : BadNo t b) : a = b := by
  cases t with
  | w x => rw [show a = some 0 from h1, show b = some 0 from h2]
  | l fs =>
    rcases h1 with ⟨e1, o1⟩ | ⟨n1, h1⟩ <;> rcases h2 with ⟨e2, o2⟩ | ⟨n2, h2⟩
    · rw [o1, o2]
    · exact absurd e1 n2
    · exact absurd e2 n1
    · rcases h1 with ⟨o1, g1⟩ | ⟨i, o1, l1, b1, g1⟩ <;> rcases h2 with ⟨o2, g2⟩ | ⟨j, o2, l2, b2, g2⟩
      · rw [o1, o2]
      · exact absurd (g1 j l2) b2
      · exact absurd (g2 i l1) b1
      · rw [o1, o2]
        rcases Nat.lt_trichotomy i j with h | h | h
        · exact absurd (g2 i h) b1
        · rw [h]
        · exact absurd (g1 j h) b2
theorem arity_app {x : List Nat} : ∀ (a b : List Tree), arity (a ++ b) x = match arity a x with
    | some k => some k
    | none => arity b x
  | [], b => rfl
  | t :: a, b => by
    rw [List.cons_append, arity, arity, arity_app a b]
    cases fn? t with
    | none => rfl
    | some p =>
      obtain ⟨n, ps, bd⟩ := p
      show (if n = x then _ else _) = match (if n = x then _ else _) with | some k => some k | none => arity b x
      by_cases h : n = x
      · rw [if_pos h, if_pos h]
      · rw [if_neg h, if_neg h]
        cases arity a x <;> rfl
theorem arity_one_no {t : Tree} {x : List Nat} (h : fn? t = none) : arity [t] x = none := by
  rw [arity, h]; rfl
theorem arity_one {t : Tree} {n x : List Nat} {ps : List Tree} {b : Tree} (h : fn? t = some (n, ps, b)) : arity [t] x = if n = x then some ps.length else none := by
  rw [arity, h]; rfl
/-! ### numbers in names -/
theorem digitsVal_lt : ∀ (n : Nat) (ds : List Nat), ds.length = n → AllDigits ds → digitsVal ds < 10 ^ n := fun n => by
  induction n with
  | zero =>
    intro ds h _
    rw [List.length_eq_zero_iff.mp h]
    decide
  | succ n ih =>
    intro ds h a
    have ne : ds ≠ [] := by intro e; rw [e] at h; cases h
    obtain ⟨ys, y, rfl⟩ := snoc_of ne
    rw [List.length_append, List.length_singleton] at h
    have h1 := ih ys (by omega) fun c m => a c (List.mem_append.mpr (.inl m))
    have h2 := a y (List.mem_append.mpr (.inr (List.mem_singleton.mpr rfl)))
    rw [NumText.digitsVal_snoc, Nat.pow_succ]
    omega
/-- str(int(ds)) is ds just where there is no leading zero -/
theorem str_digits {ds : List Nat} (h : AllDigits ds) (ne : ds ≠ []) : Str.ofString (toString ((digitsVal ds : Nat) : Int)) = tx ds ↔ (ds = [48] ∨ ds.head? ≠ some 48) := by
  have e := PySem.W.KIN.signs_num (digitsVal ds)
  have chr : ∀ cs : List Nat, AllDigits cs → (cs.map Char.ofNat).map Char.toNat = cs := fun cs hc => by
    rw [List.map_map]
    conv => rhs; rw [← List.map_id cs]
    refine List.map_congr_left fun c m => ?_
    have := hc c m
    have v : ∀ k, k < 58 → (Char.ofNat k).toNat = k := by decide
    exact v c (by omega)
  obtain ⟨c, r, rfl⟩ : ∃ c r, ds = c :: r := by
    cases ds with
    | nil => exact absurd rfl ne
    | cons c r => exact ⟨c, r, rfl⟩
  have hc := h c (List.mem_cons_self ..)
  constructor
  · intro q
    rw [q] at e
    have e' : c :: r = (Nat.toDigits 10 (digitsVal (c :: r))).map Char.toNat := e
    by_cases z : c = 48
    · left
      subst z
      rw [NumText.toDigits_all _ h] at e'
      have d : ((48 :: r).dropWhile (· == 48)).length ≤ r.length := by
        rw [List.dropWhile_cons]
        exact (List.dropWhile_sublist _).length_le
      cases hd : (48 :: r).dropWhile (· == 48) with
      | nil =>
        rw [hd] at e'
        exact e'
      | cons a b =>
        rw [hd] at e' d
        have := congrArg List.length e'
        simp at this
        simp at d
        omega
    · right
      intro q2
      exact z (Option.some.inj q2)
  · intro q
    have key : (Nat.toDigits 10 (digitsVal (c :: r))).map Char.toNat = c :: r := by
      rcases q with q | q
      · rw [q]; decide
      · have z : c ≠ 48 := fun e => q (by rw [e]; rfl)
        rw [NumText.toDigits_digitsVal r.length (c :: r) (by rw [List.length_cons]) h (.inr ⟨c, r, rfl, by omega⟩)]
        exact chr _ h
    rw [key] at e
    rw [tx_of (Str.ofString (toString ((digitsVal (c :: r) : Nat) : Int))), e]
end Og

namespace Og
open PySem PySem.Spec PyProof.Rows L2
open PySem.NumText (AllDigits digitsVal)
/-! ### a dict of the module, of texts and numbers -/
def Ents : List DictEntry → List (List Nat × Nat) → Prop
  | [], [] => True
  | e :: r, p :: q => (∃ t, e.key = .str (tx p.1) t) ∧ (∃ t, e.val = .int (p.2 : Nat) t) ∧ Ents r q
  | _, _ => False
theorem Ents.find {z : List Nat} : ∀ {es : List DictEntry} {L : List (List Nat × Nat)}, Ents es L →
    match L.find? (fun p => decide (p.1 = z)) with
    | some p => ∃ e t, es.find? (·.key.isStr (tx z)) = some e ∧ e.val = .int (p.2 : Nat) t
    | none => es.find? (·.key.isStr (tx z)) = none ∧ es.any (·.refKey) = false
  | [], [], _ => ⟨rfl, rfl⟩
  | [], p :: q, h => h.elim
  | e :: r, [], h => h.elim
  | e :: r, p :: q, h => by
    obtain ⟨⟨t1, h1⟩, ⟨t2, h2⟩, h3⟩ := h
    have ih := Ents.find (z := z) h3
    have k1 : e.key.isStr (tx z) = decide (p.1 = z) := by
      rw [h1]
      show (tx p.1 == tx z) = _
      by_cases c : p.1 = z
      · rw [c, decide_eq_true rfl]; simp
      · rw [decide_eq_false c]
        exact beq_eq_false_iff_ne.mpr fun e => c (tx_inj e)
    have k2 : e.refKey = false := by
      unfold DictEntry.refKey
      rw [h1]
    rw [List.find?_cons, List.find?_cons, k1, List.any_cons, k2]
    by_cases c : p.1 = z
    · rw [decide_eq_true c]
      exact ⟨e, t2, rfl, h2⟩
    · rw [decide_eq_false c]
      exact ih
structure DictC (K : PySem.W.Frag) (w : World) (mg : Str → Option Value) (x : Str) (L : List (List Nat × Nat)) : Prop where
  ex : ∃ d es n, mg x = some (.ref d) ∧ KDict K w d es n ∧ Ents es.toList L
/-- the same, at d -/
structure DictD (K : PySem.W.Frag) (w : World) (L : List (List Nat × Nat)) (d : Addr) : Prop where
  ex : ∃ es n, KDict K w d es n ∧ Ents es.toList L
section
variable {K : PySem.W.Frag} {w : World} {L : List (List Nat × Nat)} {d : Addr} {X : Cx}
theorem DictD.get (D : DictD K w L d) (z : List Nat) : match L.find? (fun p => decide (p.1 = z)) with
    | some p => ∃ t, PySem.W.nsIn K d (tx z) = some (some (.int (p.2 : Nat) t))
    | none => PySem.W.nsIn K d (tx z) = some none := by
  obtain ⟨es, n, kd, en⟩ := D.ex
  have h := Ents.find (z := z) en
  cases hf : L.find? (fun p => decide (p.1 = z)) with
  | some p =>
    rw [hf] at h
    obtain ⟨e, t, h1, h2⟩ := h
    refine ⟨t, ?_⟩
    unfold PySem.W.nsIn
    rw [kd.at_]
    show (match es.toList.find? (·.key.isStr (tx z)) with | some e => some (some e.val) | none => _) = _
    rw [h1]
    show some (some e.val) = _
    rw [h2]
  | none =>
    rw [hf] at h
    unfold PySem.W.nsIn
    rw [kd.at_]
    show (match es.toList.find? (·.key.isStr (tx z)) with | some e => some (some e.val) | none => if es.toList.any (·.refKey) then none else some none) = _
    rw [h.1]
    show (if es.toList.any (·.refKey) then none else some none) = _
    rw [h.2]
    rfl
/-- x in D -/
def rInC (L : List (List Nat × Nat)) (d : Addr) : R2 := fun x y H Q => ∃ z, x = .str (tx z) ∧ y = .ref d ∧ Q (.bl (L.find? (fun p => decide (p.1 = z))).isSome) H
theorem op_inC (D : DictD X.K X.w L d) : OpR X (compareOp .In) (rInC L d) := by
  intro pins s σ H x y v u Q I rx ry h
  obtain ⟨z, rfl, rfl, q⟩ := h
  have g := D.get z
  obtain ⟨es, n, kd, en⟩ := D.ex
  cases hf : L.find? (fun p => decide (p.1 = z)) with
  | some p =>
    rw [hf] at g q
    obtain ⟨tk, g⟩ := g
    exact op_in_kd kd pins s σ H _ _ v u Q I rx ry ⟨tx z, _, rfl, rfl, g, q⟩
  | none =>
    rw [hf] at g q
    exact op_in_kd kd pins s σ H _ _ v u Q I rx ry ⟨tx z, _, rfl, rfl, g, q⟩
theorem DictD.item (D : DictD K w L d) {z : List Nat} {p : List Nat × Nat} (hf : L.find? (fun p => decide (p.1 = z)) = some p) : KDct K w d (tx z) (.int (p.2 : Nat)) := by
  have g := D.get z
  rw [hf] at g
  obtain ⟨tk, g⟩ := g
  obtain ⟨es, n, kd, en⟩ := D.ex
  exact ⟨es, n, _, kd.at_, kd.lit, g, tk, rfl⟩
end
theorem spAr_isSome (z : List Nat) : (specials.find? (fun p => decide (p.1 = z))).isSome = (spAr z).isSome := by
  unfold spAr
  cases specials.find? (fun p => decide (p.1 = z)) <;> rfl
/-! ### texts -/
theorem lit_f : ("f" : Str) = tx [102] := by decide +kernel
theorem sw_f (x : List Nat) : Txt.startswith (tx x) (tx [102]) = decide (x.head? = some 102) := by
  unfold Txt.startswith
  rw [PySem.StrLaws.subAt_eq, tx_list, tx_list, tx_len, tx_len]
  cases x with
  | nil => rfl
  | cons c r =>
    rw [List.drop_zero]
    show (decide (0 + 1 ≤ (c :: r).length) && (List.take 1 (c :: r) == [102])) = _
    have h : decide (0 + 1 ≤ (c :: r).length) = true := decide_eq_true (by rw [List.length_cons]; omega)
    rw [h, Bool.true_and]
    show ([c] == [102]) = decide (some c = some 102)
    by_cases e : c = 102
    · subst e; rfl
    · rw [decide_eq_false (fun z => e (Option.some.inj z))]
      exact beq_eq_false_iff_ne.mpr fun z => e (List.cons.inj z).1
theorem isdigit_iff {x : List Nat} (h : ∀ c ∈ x, c < 128) : Txt.isdigit (tx x) = true ↔ x ≠ [] ∧ AllDigits x := by
  unfold Txt.isdigit
  rw [tx_len, ← Array.all_toList]
  show (decide (x.length > 0) && x.all Unicode.isDigit) = true ↔ _
  rw [Bool.and_eq_true, decide_eq_true_eq, List.all_eq_true]
  have d : ∀ c, c < 128 → Unicode.isDigit c = decide (48 ≤ c ∧ c ≤ 57) := by decide +kernel
  constructor
  · rintro ⟨h1, h2⟩
    refine ⟨by intro e; rw [e] at h1; exact absurd h1 (by decide), fun c m => ?_⟩
    have := h2 c m
    rw [d c (h c m)] at this
    exact of_decide_eq_true this
  · rintro ⟨h1, h2⟩
    refine ⟨List.length_pos_iff.mpr h1, fun c m => ?_⟩
    rw [d c (h c m)]
    exact decide_eq_true (h2 c m)
end Og

namespace Og
open PySem PySem.Spec PyProof.Rows L2
def topS (i : Nat) : Stmt := PySem.Challenge.pw_ownglass_k24_made_tree.main.body.getD i (.Pass ⟨0, 0, 0, 0⟩)
abbrev s_check_program : Stmt := topS 7
abbrev n_check_program : List Str := ["value", "called", "earlier_names", "number", "function"]
abbrev p_check_program : List Str := ["value"]
theorem sc_check_program : FnScope n_check_program p_check_program (defScope s_check_program) := ⟨rfl, rfl, rfl, by decide +kernel, rfl, by decide +kernel, by decide +kernel⟩
abbrev s_inputs_of : Stmt := topS 8
abbrev n_inputs_of : List Str := ["program"]
abbrev p_inputs_of : List Str := ["program"]
theorem sc_inputs_of : FnScope n_inputs_of p_inputs_of (defScope s_inputs_of) := ⟨rfl, rfl, rfl, by decide +kernel, rfl, by decide +kernel, by decide +kernel⟩
abbrev s_called_functions : Stmt := topS 9
abbrev n_called_functions : List Str := ["program", "called", "item"]
abbrev p_called_functions : List Str := ["program"]
theorem sc_called_functions : FnScope n_called_functions p_called_functions (defScope s_called_functions) := ⟨rfl, rfl, rfl, by decide +kernel, rfl, by decide +kernel, by decide +kernel⟩
abbrev s_looks_like_function : Stmt := topS 10
abbrev n_looks_like_function : List Str := ["item"]
abbrev p_looks_like_function : List Str := ["item"]
theorem sc_looks_like_function : FnScope n_looks_like_function p_looks_like_function (defScope s_looks_like_function) := ⟨rfl, rfl, rfl, by decide +kernel, rfl, by decide +kernel, by decide +kernel⟩
abbrev s_is_good_function : Stmt := topS 11
abbrev n_is_good_function : List Str := ["function", "called", "many_items", "name", "parameters", "body"]
abbrev p_is_good_function : List Str := ["function", "called", "many_items"]
theorem sc_is_good_function : FnScope n_is_good_function p_is_good_function (defScope s_is_good_function) := ⟨rfl, rfl, rfl, by decide +kernel, rfl, by decide +kernel, by decide +kernel⟩
abbrev s_is_good_name : Stmt := topS 12
abbrev n_is_good_name : List Str := ["name", "many_items", "digits", "number"]
abbrev p_is_good_name : List Str := ["name", "many_items"]
theorem sc_is_good_name : FnScope n_is_good_name p_is_good_name (defScope s_is_good_name) := ⟨rfl, rfl, rfl, by decide +kernel, rfl, by decide +kernel, by decide +kernel⟩
abbrev s_are_good_parameters : Stmt := topS 13
abbrev n_are_good_parameters : List Str := ["parameters", "earlier", "parameter"]
abbrev p_are_good_parameters : List Str := ["parameters"]
theorem sc_are_good_parameters : FnScope n_are_good_parameters p_are_good_parameters (defScope s_are_good_parameters) := ⟨rfl, rfl, rfl, by decide +kernel, rfl, by decide +kernel, by decide +kernel⟩
abbrev s_is_good_body : Stmt := topS 14
abbrev n_is_good_body : List Str := ["body", "parameters", "called", "waiting", "part"]
abbrev p_is_good_body : List Str := ["body", "parameters", "called"]
theorem sc_is_good_body : FnScope n_is_good_body p_is_good_body (defScope s_is_good_body) := ⟨rfl, rfl, rfl, by decide +kernel, rfl, by decide +kernel, by decide +kernel⟩
abbrev s_has_right_parts : Stmt := topS 15
abbrev n_has_right_parts : List Str := ["expression", "called", "word", "many_parts"]
abbrev p_has_right_parts : List Str := ["expression", "called"]
theorem sc_has_right_parts : FnScope n_has_right_parts p_has_right_parts (defScope s_has_right_parts) := ⟨rfl, rfl, rfl, by decide +kernel, rfl, by decide +kernel, by decide +kernel⟩
abbrev s_fill : Stmt := topS 18
abbrev n_fill : List Str := ["program", "value", "many_inputs"]
abbrev p_fill : List Str := ["program", "value"]
theorem sc_fill : FnScope n_fill p_fill (defScope s_fill) := ⟨rfl, rfl, rfl, by decide +kernel, rfl, by decide +kernel, by decide +kernel⟩
abbrev s_made_name : Stmt := topS 19
abbrev n_made_name : List Str := ["number"]
abbrev p_made_name : List Str := ["number"]
theorem sc_made_name : FnScope n_made_name p_made_name (defScope s_made_name) := ⟨rfl, rfl, rfl, by decide +kernel, rfl, by decide +kernel, by decide +kernel⟩
abbrev s_made_parameters : Stmt := topS 20
abbrev n_made_parameters : List Str := ["count", "number"]
abbrev p_made_parameters : List Str := ["count"]
theorem sc_made_parameters : FnScope n_made_parameters p_made_parameters (defScope s_made_parameters) := ⟨rfl, rfl, rfl, by decide +kernel, rfl, by decide +kernel, by decide +kernel⟩
abbrev s_listing : Stmt := topS 21
abbrev n_listing : List Str := ["expressions", "expression", "item"]
abbrev p_listing : List Str := ["expressions"]
theorem sc_listing : FnScope n_listing p_listing (defScope s_listing) := ⟨rfl, rfl, rfl, by decide +kernel, rfl, by decide +kernel, by decide +kernel⟩
abbrev s_filled : Stmt := topS 22
abbrev n_filled : List Str := ["program", "value", "parameters", "body"]
abbrev p_filled : List Str := ["program", "value"]
theorem sc_filled : FnScope n_filled p_filled (defScope s_filled) := ⟨rfl, rfl, rfl, by decide +kernel, rfl, by decide +kernel, by decide +kernel⟩
abbrev s_side_by_side : Stmt := topS 23
abbrev n_side_by_side : List Str := ["programs", "functions", "mains", "program"]
abbrev p_side_by_side : List Str := ["programs"]
theorem sc_side_by_side : FnScope n_side_by_side p_side_by_side (defScope s_side_by_side) := ⟨rfl, rfl, rfl, by decide +kernel, rfl, by decide +kernel, by decide +kernel⟩
abbrev s_with_front : Stmt := topS 24
abbrev n_with_front : List Str := ["functions", "parameters", "body"]
abbrev p_with_front : List Str := ["functions", "parameters", "body"]
theorem sc_with_front : FnScope n_with_front p_with_front (defScope s_with_front) := ⟨rfl, rfl, rfl, by decide +kernel, rfl, by decide +kernel, by decide +kernel⟩
abbrev s_renamed_good : Stmt := topS 25
abbrev n_renamed_good : List Str := ["program", "start", "names", "at", "function", "functions", "name", "parameters", "body"]
abbrev p_renamed_good : List Str := ["program", "start"]
theorem sc_renamed_good : FnScope n_renamed_good p_renamed_good (defScope s_renamed_good) := ⟨rfl, rfl, rfl, by decide +kernel, rfl, by decide +kernel, by decide +kernel⟩
abbrev s_renamed_body : Stmt := topS 26
abbrev n_renamed_body : List Str := ["body", "names", "done", "expression", "word", "start", "parts"]
abbrev p_renamed_body : List Str := ["body", "names"]
theorem sc_renamed_body : FnScope n_renamed_body p_renamed_body (defScope s_renamed_body) := ⟨rfl, rfl, rfl, by decide +kernel, rfl, by decide +kernel, by decide +kernel⟩
abbrev s_expressions_of : Stmt := topS 27
abbrev n_expressions_of : List Str := ["body", "expressions", "waiting", "expression"]
abbrev p_expressions_of : List Str := ["body"]
theorem sc_expressions_of : FnScope n_expressions_of p_expressions_of (defScope s_expressions_of) := ⟨rfl, rfl, rfl, by decide +kernel, rfl, by decide +kernel, by decide +kernel⟩
abbrev s_know_own : Stmt := topS 29
abbrev n_know_own : List Str := ["program", "many_inputs", "parameters", "functions", "mains", "body", "reader"]
abbrev p_know_own : List Str := ["program"]
theorem sc_know_own : FnScope n_know_own p_know_own (defScope s_know_own) := ⟨rfl, rfl, rfl, by decide +kernel, rfl, by decide +kernel, by decide +kernel⟩
abbrev s_text_of_filled : Stmt := topS 30
abbrev n_text_of_filled : List Str := ["number", "parameters", "quoted", "call", "front"]
abbrev p_text_of_filled : List Str := ["number", "parameters"]
theorem sc_text_of_filled : FnScope n_text_of_filled p_text_of_filled (defScope s_text_of_filled) := ⟨rfl, rfl, rfl, by decide +kernel, rfl, by decide +kernel, by decide +kernel⟩
abbrev s_law_draws : Stmt := topS 32
abbrev n_law_draws : List Str := ["script", "many", "rests", "cell", "draws", "k", "at", "mixed"]
abbrev p_law_draws : List Str := ["script", "many"]
theorem sc_law_draws : FnScope n_law_draws p_law_draws (defScope s_law_draws) := ⟨rfl, rfl, rfl, by decide +kernel, rfl, by decide +kernel, by decide +kernel⟩
abbrev s_law_take : Stmt := topS 33
abbrev n_law_take : List Str := ["hand", "many", "at", "draws"]
abbrev p_law_take : List Str := ["hand", "many"]
theorem sc_law_take : FnScope n_law_take p_law_take (defScope s_law_take) := ⟨rfl, rfl, rfl, by decide +kernel, rfl, by decide +kernel, by decide +kernel⟩
abbrev s_law_value : Stmt := topS 34
abbrev n_law_value : List Str := ["hand", "depth", "k"]
abbrev p_law_value : List Str := ["hand", "depth"]
theorem sc_law_value : FnScope n_law_value p_law_value (defScope s_law_value) := ⟨rfl, rfl, rfl, by decide +kernel, rfl, by decide +kernel, by decide +kernel⟩
abbrev s_law_expression : Stmt := topS 35
abbrev n_law_expression : List Str := ["hand", "parameters", "calls", "depth", "kind", "parts", "k", "left", "name", "many"]
abbrev p_law_expression : List Str := ["hand", "parameters", "calls", "depth"]
theorem sc_law_expression : FnScope n_law_expression p_law_expression (defScope s_law_expression) := ⟨rfl, rfl, rfl, by decide +kernel, rfl, by decide +kernel, by decide +kernel⟩
abbrev s_law_renamed : Stmt := topS 36
abbrev n_law_renamed : List Str := ["expression", "names", "parts", "part"]
abbrev p_law_renamed : List Str := ["expression", "names"]
theorem sc_law_renamed : FnScope n_law_renamed p_law_renamed (defScope s_law_renamed) := ⟨rfl, rfl, rfl, by decide +kernel, rfl, by decide +kernel, by decide +kernel⟩
abbrev s_law_listed : Stmt := topS 37
abbrev n_law_listed : List Str := ["parts", "found", "k"]
abbrev p_law_listed : List Str := ["parts"]
theorem sc_law_listed : FnScope n_law_listed p_law_listed (defScope s_law_listed) := ⟨rfl, rfl, rfl, by decide +kernel, rfl, by decide +kernel, by decide +kernel⟩
abbrev s_law_known : Stmt := topS 38
abbrev n_law_known : List Str := ["program", "many", "names", "k", "functions", "name", "parameters", "body", "inputs", "main", "front", "tree", "knowing"]
abbrev p_law_known : List Str := ["program", "many"]
theorem sc_law_known : FnScope n_law_known p_law_known (defScope s_law_known) := ⟨rfl, rfl, rfl, by decide +kernel, rfl, by decide +kernel, by decide +kernel⟩
abbrev s_law_any : Stmt := topS 39
abbrev n_law_any : List Str := ["hand", "many", "names", "calls", "name", "functions", "inputs", "parameters"]
abbrev p_law_any : List Str := ["hand"]
theorem sc_law_any : FnScope n_law_any p_law_any (defScope s_law_any) := ⟨rfl, rfl, rfl, by decide +kernel, rfl, by decide +kernel, by decide +kernel⟩
abbrev s_law : Stmt := topS 40
abbrev n_law : List Str := ["script", "hand", "program", "due", "made"]
abbrev p_law : List Str := ["script"]
theorem sc_law : FnScope n_law p_law (defScope s_law) := ⟨rfl, rfl, rfl, by decide +kernel, rfl, by decide +kernel, by decide +kernel⟩
abbrev s_BadProgram_init : Stmt := inClass (topS 2) 0
abbrev n_BadProgram_init : List Str := ["self", "function"]
abbrev p_BadProgram_init : List Str := ["self", "function"]
theorem sc_BadProgram_init : FnScope n_BadProgram_init p_BadProgram_init (defScope s_BadProgram_init) := ⟨rfl, rfl, rfl, by decide +kernel, rfl, by decide +kernel, by decide +kernel⟩
/-- the constants of the module -/
structure Mc (mg : Str → Option Value) : Prop where
  MOST_PARAMETERS : ∃ t, mg "MOST_PARAMETERS" = some (.int 12 t)
  MOST_INPUTS : ∃ t, mg "MOST_INPUTS" = some (.int 8 t)
/-- the names of built-ins that no row of the program gives another meaning -/
structure Bn (mg : Str → Option Value) : Prop where
  len : mg "len" = none
  range : mg "range" = none
  int : mg "int" = none
  abs : mg "abs" = none
  str : mg "str" = none
  tuple : mg "tuple" = none
  list : mg "list" = none
  bool : mg "bool" = none
  isinstance : mg "isinstance" = none
  ValueError : mg "ValueError" = none
  enumerate : mg "enumerate" = none
  set : mg "set" = none
  reversed : mg "reversed" = none
/-- what law(script) promises: for a list of at most 63 ints the answer is True -/
def spLaw (K : PySem.W.Frag) : Sp := fun vs H Q _ => ∃ (a : Addr) (ns : List Int), vs = [.ref a] ∧ SqL K H a (ns.map V.int) ∧ ns.length ≤ 63 ∧ ∀ H', Q (.bl true) H'
end Og

namespace Og
open PySem PySem.Spec PyProof.Rows L2
section
variable {P : Program} {w : World} {K : PySem.W.Frag} {mg : Str → Option Value} {base : Heap}
def spDraws (K : PySem.W.Frag) : Sp := fun vs H Q _ => ∃ (a : Addr) (ns : List Int) (m : Nat), vs = [.ref a, .int m] ∧ SqL K H a (ns.map V.int) ∧ ns.length ≤ 63 ∧ m ≤ 100000 ∧
  ∀ (p : Addr) (ds : List Int) (H' : Hp), Keep [] H H' → H p = none → H' p = some (.lst (ds.map V.int)) → ds.length = m → Q (.ref p) H'
theorem has_draws {k : Nat} (D : DefAt K mg "_law_draws" s_law_draws p_law_draws) (B : Bn mg) : Has P w K mg base (k + 1) "_law_draws" p_law_draws (spDraws K) := by
  obtain ⟨f, fd, F, hm, hb⟩ := D.ex
  refine ⟨f, fd, F.ok sc_law_draws (fun vs H Q E h => ?_) (fun cdv A outer s H vs Q E hr h => ?_), hm, F.kp, hb⟩
  · obtain ⟨a, ns, m, rfl, _⟩ := h
    rfl
  obtain ⟨a, ns, m, rfl, hS, h63, hm1, q⟩ := h
  refine ⟨_, (pss_cons (ps_setLc (i := 2) (own := [("cell", 3)]) (g := gName 3) (tt := tYes) rfl sc_law_draws.nd rfl rfl (sw_true rfl rfl rfl (by decide +kernel)) (pi_list (pv 0)) (blkOk_by (N := n_law_draws) (sc := defScope s_law_draws) (by decide +kernel)) (fun _ _ _ _ _ => pg_name (i := 3) sc_law_draws.nd rfl (Or.inl rfl)) (fun _ _ _ _ _ => pts_nil) (fun _ _ _ _ _ => (pe_callB call_abs (by rfl) B.abs (by decide +kernel) (pa_cons (pe_callTy call_int1 (by rfl) B.int (by decide +kernel) (pa_cons (pv 3) pa_nil)) pa_nil))))
    (pss_cons (ps_set (i := 4) sc_law_draws.nd rfl (.inl rfl) (pe_lst pa_nil))
    (pss_cons (ps_for PassesOwn.never rfl (pi_range1 (by rfl) B.range (pa_cons (pv 1) pa_nil)) (pg_name (i := 5) sc_law_draws.nd rfl (.inl rfl))
      (pss_cons (ps_set (i := 3) sc_law_draws.nd rfl (.inl rfl) (pv 5))
      (C8.pss_cut (ps_if (pt_cmpR op_gt (pe_callB call_len_seq (by rfl) B.len PySem.boot_len (pa_cons (pv 0) pa_nil)) pe_int (nomark _)) (pss_cons (ps_set (i := 6) sc_law_draws.nd rfl (.inl rfl) (pe_op op_mod (pv 5) (pe_callB call_len_seq (by rfl) B.len PySem.boot_len (pa_cons (pv 0) pa_nil))))
        (pss_cons (ps_set (i := 3) sc_law_draws.nd rfl (.inl rfl) (pe_callTy call_int1 (by rfl) B.int (by decide +kernel) (pa_cons (pe_ix ix_list (pv 0) (pv 6) (fun _ _ => rfl)) pa_nil)))
        (pss_one (ps_if (PW.pt (pw_and (pt_cmpR op_ge (pv 3) (pe_op op_pow pe_int pe_int) (nomark _)) (pw_and1 (pt_cmpR op_gt (pe_ix ix_list (pv 2) (pv 6) (fun _ _ => rfl)) pe_int (nomark _))))) (pss_cons (ps_expr (pe_bm PySem.F.plainAttrs_list PySem.F.slot_list_append PySem.F.type_list_append mt_append (pv 4) (pa_cons (pe_op op_mod (pe_callTy call_int1 (by rfl) B.int (by decide +kernel) (pa_cons (pe_ix ix_list (pv 2) (pv 6) (fun _ _ => rfl)) pa_nil)) pe_int) pa_nil)))
          (pss_cons (ps_asg (pe_op op_fdiv (pe_callTy call_int1 (by rfl) B.int (by decide +kernel) (pa_cons (pe_ix ix_list (pv 2) (pv 6) (fun _ _ => rfl)) pa_nil)) pe_int) (pg_sub (pv 2) (pv 6) set_list))
          (pss_one ps_continue))) pss_nil)))) pss_nil)
      (pss_cons (ps_set (i := 7) sc_law_draws.nd rfl (.inl rfl) (pe_op op_mod (pe_callTy call_int1 (by rfl) B.int (by decide +kernel) (pa_cons (pe_op op_add (pe_op op_add (pe_op op_mul (pv 3) pe_int) (pe_op op_mul (pv 5) pe_int)) pe_int) pa_nil)) pe_int))
      (pss_cons (ps_set (i := 7) sc_law_draws.nd rfl (.inl rfl) (pe_op op_mod (pe_callTy call_int1 (by rfl) B.int (by decide +kernel) (pa_cons (pe_op op_add (pe_op op_fdiv (pe_op op_mul (pv 7) (pv 7)) pe_int) (pv 7)) pa_nil)) pe_int))
      (pss_one (ps_expr (pe_bm PySem.F.plainAttrs_list PySem.F.slot_list_append PySem.F.type_list_append mt_append (pv 4) (pa_cons (pe_op op_mod (pe_callTy call_int1 (by rfl) B.int (by decide +kernel) (pa_cons (pe_op op_add (pe_op op_fdiv (pe_op op_mul (pv 7) (pv 7)) pe_int) (pe_op op_mul (pv 5) pe_int)) pa_nil)) pe_int) pa_nil)))))))))
    (pss_one (ps_ret (pv 4)))))), ?_⟩
  -- rests
  refine ⟨_, rfl, a, rfl, ⟨_, hS⟩, fun r nr => ?_⟩
  refine lc_list (K := K) (a := a) (xs := ns.map V.int) (fun i H' => Keep [] H H' ∧ ∃ rs : List Int, rs.length = i ∧ H' r = some (.lst (rs.map V.int))) ⟨Keep.new nr, [], rfl, upd_same⟩ (fun i H' _ p => p.1.sqL (by simp) hS) (fun i x H1 hx p => ?_) (fun H1 p => ?_)
  · obtain ⟨n, rfl, hn⟩ := map_int_get hx
    obtain ⟨k1, rs, e1, e2⟩ := p
    have hi : i < ns.length := (List.getElem?_eq_some_iff.mp hn).1
    refine ⟨rfl, yes ?_⟩
    refine ⟨_, rfl, .inl ⟨_, rfl, _, rfl, _, e2, ?_, ?_⟩⟩
    · rw [List.length_map]
      exact sizeLt (by omega)
    · refine ⟨(k1.cons.setT e2 (List.mem_cons_self ..)).drop nr, rs ++ [if n < 0 then -n else n], (by rw [List.length_append, e1]; rfl), ?_⟩
      rw [upd_same, map_int_app]
  -- draws
  obtain ⟨k1, rs, e1, e2⟩ := p
  rw [List.length_map] at e1
  refine ⟨Nat.zero_le _, fun d nd => ?_⟩
  have k2 : Keep [] H (upd H1 d (.lst [])) := k1.newT nd
  have drn : d ≠ r := (ne_of_none e2 nd).symm
  have nd0 : H d = none := k1.free nd
  have nr0 : H r = none := nr
  refine ⟨_, rfl, (m : Int), rfl, by omega, by omega, ?_⟩
  refine for_range (lo := 0) (n := (m : Int).toNat) (fun i σ H' => ∃ y3 y5 y6 y7, σ = [some (.ref a), some (.int m), some (.ref r), y3, some (.ref d), y5, y6, y7] ∧ Keep [] H H' ∧ (∃ rs : List Int, rs.length = ns.length ∧ H' r = some (.lst (rs.map V.int))) ∧ ∃ ds : List Int, ds.length = i ∧ H' d = some (.lst (ds.map V.int)))
    ⟨_, _, _, _, rfl, k2, ⟨rs, e1, by rw [upd_ne drn.symm]; exact e2⟩, [], rfl, upd_same⟩ (fun i σ H2 hi p => ?_) (fun σ H2 p => ?_)
  · obtain ⟨y3, y5, y6, y7, rfl, k3, ⟨rs, e3, e4⟩, ds, e5, e6⟩ := p
    have sL : SqL K H2 a (ns.map V.int) := k3.sqL (by simp) hS
    have dsz : (ds.map V.int).length < sizeLine := by rw [List.length_map]; exact sizeLt (by omega)
    -- cell = k
    refine ⟨_, rfl, ?_⟩
    refine ⟨fun σ' H' => H' = H2 ∧ ∃ (cell : Int) (y6 y7 : Option V), σ' = [some (.ref a), some (.int m), some (.ref r), some (.int cell), some (.ref d), some (.int (0 + i)), y6, y7], ?_, fun σ' H' hmid => ?_⟩
    refine ⟨_, rfl, _, _, rfl, .inl sL, _, _, rfl, rfl, _, rfl, ?_⟩
    refine ite2 (fun c => ?_) (fun c => ?_)
    · have c0 : (0 : Int) < ((ns.map V.int).length : Nat) := of_decide_eq_true c
      rw [List.length_map] at c0
      have at0 : 0 ≤ (0 + (i : Int)) % (ns.length : Int) := Int.emod_nonneg _ (by omega)
      have at1 : (0 + (i : Int)) % (ns.length : Int) < (ns.length : Int) := Int.emod_lt_of_pos _ c0
      obtain ⟨x, hx⟩ := atI_int (ns := ns) at0 at1
      obtain ⟨y, hy⟩ := atI_int (ns := rs) at0 (by rw [e3]; exact at1)
      refine ⟨_, rfl, _, rfl, _, _, rfl, .inl sL, _, _, rfl, rfl, (by show (0 : Int) < _; rw [List.length_map]; exact c0), ?_⟩
      rw [List.length_map]
      refine ⟨_, rfl, _, rfl, _, _, _, _, rfl, rfl, sL, hx, .inl ⟨_, rfl, ?_⟩⟩
      refine ⟨_, rfl, _, _, rfl, rfl, ⟨by decide, by decide, by decide⟩, _, _, rfl, rfl, _, rfl, ?_⟩
      refine ite2 (fun c1 => ?_) (fun c1 => ?_)
      · refine ⟨_, rfl, _, rfl, _, _, _, _, rfl, rfl, SqL.of e4, hy, _, _, rfl, rfl, _, rfl, ?_⟩
        refine ite2 (fun c2 => ?_) (fun c2 => ?_)
        · -- draws.append(..), rests[at] = .., continue
          refine ⟨_, rfl, .inl ⟨rfl, _, SqL.of e6⟩, _, rfl, _, rfl, _, _, _, _, rfl, rfl, SqL.of e4, hy, .inl ⟨_, rfl, _, _, rfl, rfl, by show (0 : Int) < 1000003; decide, _, _, _, rfl, rfl, e6, dsz, ?_⟩⟩
          have e4' : (upd H2 d (.lst (ds.map V.int ++ [.int (y % 1000003)]))) r = some (.lst (rs.map V.int)) := by rw [upd_ne drn.symm]; exact e4
          refine ⟨_, rfl, _, rfl, _, _, _, _, rfl, rfl, SqL.of e4', hy, .inl ⟨_, rfl, _, _, rfl, rfl, ⟨by decide, by decide⟩, _, rfl, _, rfl, _, _, _, _, rfl, rfl, e4', ixN_int at0 (by rw [List.length_map, e3]; exact at1), ?_⟩⟩
          refine ⟨_, _, _, _, rfl, ?_, ⟨rs.set ((0 + (i : Int)) % (ns.length : Int)).toNat (y / 1000003), by rw [List.length_set]; exact e3, by rw [upd_same, map_int_set]⟩, ds ++ [y % 1000003], by rw [List.length_append, e5]; rfl, by rw [upd_ne drn, upd_same, map_int_app]⟩
          exact (((k3.cons (p := d)).setT e6 (List.mem_cons_self ..)).cons (p := r)).setT e4' (List.mem_cons_self ..) |>.drop nr0 |>.drop nd0
        · exact ⟨rfl, _, _, _, rfl⟩
      · exact ⟨rfl, _, _, _, rfl⟩
    · exact ⟨rfl, _, _, _, rfl⟩
    · obtain ⟨rfl, cell, y6, y7, rfl⟩ := hmid
      have big : ∀ z : Int, 0 ≤ z % 2147483647 ∧ z % 2147483647 < 2147483647 := fun z => ⟨Int.emod_nonneg _ (by decide), Int.emod_lt_of_pos _ (by decide)⟩
      have big2 : ∀ z : Int, 0 ≤ z % 2147483629 ∧ z % 2147483629 < 2147483629 := fun z => ⟨Int.emod_nonneg _ (by decide), Int.emod_lt_of_pos _ (by decide)⟩
      refine ⟨_, rfl, _, _, rfl, rfl, .inr ⟨by decide, by decide⟩, _, rfl, _, _, rfl, rfl, .inr ⟨by decide, by decide⟩, _, _, rfl, rfl, _, _, rfl, rfl, .inl ⟨_, rfl, _, _, rfl, rfl, by show (0 : Int) < 2147483647; decide, ?_⟩⟩
      generalize e1 : (cell * 48271 + (0 + (i : Int)) * 69621 + 11) % 2147483647 = m1
      have b1 := big (cell * 48271 + (0 + (i : Int)) * 69621 + 11)
      rw [e1] at b1
      refine ⟨_, rfl, _, rfl, _, _, rfl, rfl, .inl ⟨by omega, by omega⟩, _, _, rfl, rfl, ⟨by decide, by decide⟩, _, rfl, _, _, rfl, rfl, .inl ⟨_, rfl, _, _, rfl, rfl, by show (0 : Int) < 2147483629; decide, ?_⟩⟩
      generalize e2 : (m1 * m1 / 4096 + m1) % 2147483629 = m2
      have b2 := big2 (m1 * m1 / 4096 + m1)
      rw [e2] at b2
      refine ⟨_, rfl, .inl ⟨rfl, _, SqL.of e6⟩, _, rfl, _, rfl, _, _, rfl, rfl, .inl ⟨by omega, by omega⟩, _, _, rfl, rfl, ⟨by decide, by decide⟩, _, rfl, _, _, rfl, rfl, .inr ⟨by decide, by decide⟩, _, _, rfl, rfl, .inl ⟨_, rfl, _, _, rfl, rfl, by show (0 : Int) < 2147483629; decide, _, _, _, rfl, rfl, e6, dsz, ?_⟩⟩
      exact ⟨_, _, _, _, rfl, (k3.cons.setT e6 (List.mem_cons_self ..)).drop nd0, ⟨rs, e3, by rw [upd_ne drn.symm]; exact e4⟩, ds ++ [_], by rw [List.length_append, e5]; rfl, by rw [upd_same, map_int_app]⟩
  · obtain ⟨y3, y5, y6, y7, rfl, k3, _, ds, e5, e6⟩ := p
    refine ⟨_, rfl, ?_⟩
    exact q d ds H2 k3 nd0 e6 (by omega)
end
end Og

namespace Og
open PySem PySem.Spec PyProof.Rows L2
section
variable {P : Program} {w : World} {K : PySem.W.Frag} {mg : Str → Option Value} {base : Heap}
def spTake : Sp := fun vs H Q _ => ∃ (h d : Addr) (m : Int), vs = [.ref h, .int m] ∧ Hd H h d ∧ 0 < m ∧
  ∀ (i : Int) (H' : Hp), 0 ≤ i → i < m → Keep [h] H H' → Hd H' h d → Q (.int i) H'
theorem has_take {k : Nat} (D : DefAt K mg "_law_take" s_law_take p_law_take) (B : Bn mg) : Has P w K mg base (k + 1) "_law_take" p_law_take spTake := by
  obtain ⟨f, fd, F, hm, hb⟩ := D.ex
  refine ⟨f, fd, F.ok sc_law_take (fun vs H Q E h => ?_) (fun cdv A outer s H vs Q E hr h => ?_), hm, F.kp, hb⟩
  · obtain ⟨a, d, m, rfl, _⟩ := h
    rfl
  obtain ⟨a, d, m, rfl, hd, hm1, q⟩ := h
  refine ⟨_, (pss_cons (ps_set (i := 2) sc_law_take.nd rfl (.inl rfl) (pe_ix ix_list (pv 0) pe_int (fun _ _ => rfl)))
    (pss_cons (ps_asg (pe_op op_add (pv 2) pe_int) (pg_sub (pv 0) pe_int set_list))
    (pss_cons (ps_set (i := 3) sc_law_take.nd rfl (.inl rfl) (pe_ix ix_list (pv 0) pe_int (fun _ _ => rfl)))
    (pss_cons (ps_if (pt_cmpR op_ge (pv 2) (pe_callB call_len_seq (by rfl) B.len PySem.boot_len (pa_cons (pv 3) pa_nil)) (nomark _)) (pss_one (ps_ret pe_int)) pss_nil)
    (pss_one (ps_ret (pe_op op_mod (pe_op op_fdiv (pe_callTy call_int1 (by rfl) B.int (by decide +kernel) (pa_cons (pe_ix ix_list (pv 3) (pv 2) (fun _ _ => rfl)) pa_nil)) pe_int) (pv 1)))))))), ?_⟩
  obtain ⟨n, ds, e1, e2, l⟩ := id hd
  refine ⟨_, rfl, _, _, _, _, rfl, rfl, SqL.of e1, rfl, ?_⟩
  refine ⟨_, rfl, _, _, rfl, rfl, _, rfl, _, _, _, _, rfl, rfl, e1, rfl, ?_⟩
  have e3 : (upd H a (.lst [.ref d, .int ((n : Int) + 1)])) a = some (.lst [.ref d, .int ((n : Int) + 1)]) := upd_same
  have e4 : (upd H a (.lst [.ref d, .int ((n : Int) + 1)])) d = some (.lst (ds.map V.int)) := by rw [upd_ne hd.ne]; exact e2
  have k1 : Keep [a] H (upd H a (.lst [.ref d, .int ((n : Int) + 1)])) := Keep.set e1 (List.mem_cons_self ..)
  have hd2 : Hd (upd H a (.lst [.ref d, .int ((n : Int) + 1)])) a d := ⟨n + 1, ds, upd_same, e4, l⟩
  refine ⟨_, rfl, _, _, _, _, rfl, rfl, SqL.of e3, rfl, ?_⟩
  refine ⟨_, rfl, _, rfl, _, _, rfl, .inl (SqL.of e4), _, _, rfl, rfl, _, rfl, ?_⟩
  refine ite2 (fun c => ?_) (fun c => ?_)
  · exact q 0 _ (by omega) hm1 k1 hd2
  · have c' : ¬ (((ds.map V.int).length : Nat) : Int) ≤ (n : Int) := of_decide_eq_false (Bool.eq_false_iff.mpr c)
    rw [List.length_map] at c'
    obtain ⟨x, hx⟩ := atI_int (ns := ds) (z := (n : Int)) (by omega) (by omega)
    refine ⟨_, rfl, _, rfl, _, _, _, _, rfl, rfl, SqL.of e4, hx, .inl ⟨_, rfl, _, _, rfl, rfl, ⟨by decide, by decide⟩, _, rfl, _, _, rfl, rfl, hm1, ?_⟩⟩
    exact q _ _ (Int.emod_nonneg _ (by omega)) (Int.emod_lt_of_pos _ hm1) k1 hd2
end
end Og

namespace Og
open PySem PySem.Spec PyProof.Rows L2
section
variable {P : Program} {w : World} {K : PySem.W.Frag} {mg : Str → Option Value} {base : Heap}
theorem str_len_app (a b : Str) : (a ++ b).length = a.length + b.length := by
  show (a.cps ++ b.cps).size = a.cps.size + b.cps.size
  simp
theorem num_fits {i : Int} (h : i.natAbs < 10 ^ 9) : (toString i : String).length ≤ 10 ∧ i.natAbs.log2 < 1920 := by
  refine ⟨int_text_length_le10 (by decide) h, ?_⟩
  have : i.natAbs.log2 ≤ i.natAbs.log2 := Nat.le_refl _
  by_cases hz : i.natAbs = 0
  · rw [hz]; decide
  · exact Nat.lt_trans ((Nat.log2_lt hz).mpr (show i.natAbs < 2 ^ 30 from Nat.lt_trans h (by decide))) (by decide)
theorem ok_BadProgram' {C G fI : Addr} {fd : FuncData} (T : ErrT K mg "BadProgram" "BadProgram.__init__" "function" s_BadProgram_init C G fI fd) : FnOk P w K mg base CX0 1 fI fd ["self", "function"] (spErr K "function") := by
  refine T.fn.ok sc_BadProgram_init (fun vs H Q E h => ?_) (fun cdv A outer s H vs Q E hr h => ?_)
  · obtain ⟨_, _, _, rfl, _⟩ := h
    rfl
  obtain ⟨a, C', i, rfl, ox, no, hi, ea, q⟩ := h
  refine ⟨_, pss_cons (ps_expr (pe_clsinit rfl T.gG T.rd T.sg T.vV (pa_cons (pv 0) (pa_cons (pe_joined (.cons pe_str (.cons (pe_fmt (pv 1)) (.cons pe_str .nil)))) pa_nil)))) (pss_one (ps_ost (pv 0) (pv 1))), ?_⟩
  have nf := num_fits hi
  have l1 : (Str.ofString (toString i)).length ≤ 10 := by rw [PySem.ofString_length]; exact nf.1
  have l0 : (Str.empty ++ Str.ofString "function ").length ≤ 100 := by decide +kernel
  have l2 : (Str.ofString " of the program is not good").length ≤ 100 := by decide +kernel
  refine ⟨_, rfl, _, rfl, ?_, _, rfl, .inr ⟨i, rfl, nf.2, _, rfl, ?_, _, rfl, ?_, ?_⟩⟩
  · exact Nat.le_trans l0 (by decide)
  · rw [str_len_app]
    exact Nat.le_trans (show _ ≤ 1000 by omega) (by decide)
  · rw [str_len_app, str_len_app]
    exact Nat.le_trans (show _ ≤ 1000 by omega) (by decide)
  · refine ⟨a, C', _, rfl, by show 1 ≤ 1000; decide, ox, ea, ?_⟩
    exact ⟨_, rfl, _, rfl, a, C', rfl, ox, no, .inl ⟨ea, fun dx hd ne => q dx hd ne⟩⟩
end
end Og

namespace Og
open PySem PySem.Spec PyProof.Rows L2
/-- a small letter; a letter or a digit -/
def Letter (c : Nat) : Prop := 97 ≤ c ∧ c ≤ 122
def Sign (c : Nat) : Prop := (97 ≤ c ∧ c ≤ 122) ∨ (48 ≤ c ∧ c ≤ 57)
/-- a word of the document -/
def IsWord (x : List Nat) : Prop := ∃ c cs, x = c :: cs ∧ Letter c ∧ (∀ y ∈ cs, Sign y) ∧ cs.length ≤ 11
theorem IsWord.ne {x : List Nat} (h : IsWord x) : x ≠ [] := by
  obtain ⟨c, cs, rfl, _⟩ := h
  simp
theorem IsWord.len {x : List Nat} (h : IsWord x) : x.length ≤ 12 := by
  obtain ⟨c, cs, rfl, _, _, l⟩ := h
  rw [List.length_cons]
  omega
theorem lit_letters : ("abcdefghijklmnopqrstuvwxyz" : Str) = tx ((List.range 26).map (· + 97)) := by decide +kernel
theorem lit_digits : ("0123456789" : Str) = tx ((List.range 10).map (· + 48)) := by decide +kernel
theorem letters_at {z : Int} (h0 : 0 ≤ z) (h : z < 26) : ∃ c, atI ((List.range 26).map (· + 97)) z = some c ∧ Letter c := by
  obtain ⟨x, h1, h2⟩ := atI_of (xs := (List.range 26).map (· + 97)) h0 (by simpa using h)
  refine ⟨x, h1, ?_⟩
  have m := List.mem_of_getElem? h2
  obtain ⟨y, hy, rfl⟩ := List.mem_map.mp m
  have := List.mem_range.mp hy
  exact ⟨by omega, by omega⟩
theorem signs_at {z : Int} (h0 : 0 ≤ z) (h : z < 36) : ∃ c, atI ((List.range 26).map (· + 97) ++ (List.range 10).map (· + 48)) z = some c ∧ Sign c := by
  obtain ⟨x, h1, h2⟩ := atI_of (xs := (List.range 26).map (· + 97) ++ (List.range 10).map (· + 48)) h0 (by simpa using h)
  refine ⟨x, h1, ?_⟩
  have m := List.mem_of_getElem? h2
  rcases List.mem_append.mp m with m | m
  · obtain ⟨y, hy, rfl⟩ := List.mem_map.mp m
    have := List.mem_range.mp hy
    exact .inl ⟨by omega, by omega⟩
  · obtain ⟨y, hy, rfl⟩ := List.mem_map.mp m
    have := List.mem_range.mp hy
    exact .inr ⟨by omega, by omega⟩
theorem four {j : Int} (h0 : 0 ≤ j) (h : j < 4) : j = 0 ∨ j = 1 ∨ j = 2 ∨ j = 3 := by omega
end Og

namespace Og
open PySem PySem.Spec PyProof.Rows L2
/-! ### drawn trees -/
mutual
def WT : Tree → Prop
  | .w x => IsWord x
  | .l ts => WTs ts
def WTs : List Tree → Prop
  | [] => True
  | t :: ts => WT t ∧ WTs ts
end
mutual
def Tree.size : Tree → Nat
  | .w _ => 1
  | .l ts => sizes ts + 1
def sizes : List Tree → Nat
  | [] => 0
  | t :: ts => t.size + sizes ts
end
theorem wt_w {x : List Nat} (h : IsWord x) : WT (.w x) := by rw [WT]; exact h
theorem wt_l {ts : List Tree} (h : WTs ts) : WT (.l ts) := by rw [WT]; exact h
theorem WT.word {x : List Nat} (h : WT (.w x)) : IsWord x := by rw [WT] at h; exact h
theorem WT.list {ts : List Tree} (h : WT (.l ts)) : WTs ts := by rw [WT] at h; exact h
theorem wts_nil : WTs [] := by rw [WTs]; trivial
theorem wts_cons {t : Tree} {ts : List Tree} (h : WT t) (r : WTs ts) : WTs (t :: ts) := by rw [WTs]; exact ⟨h, r⟩
theorem WTs.head {t : Tree} {ts : List Tree} (h : WTs (t :: ts)) : WT t := by rw [WTs] at h; exact h.1
theorem WTs.tail {t : Tree} {ts : List Tree} (h : WTs (t :: ts)) : WTs ts := by rw [WTs] at h; exact h.2
theorem WTs.app : ∀ {ts us : List Tree}, WTs ts → WTs us → WTs (ts ++ us)
  | [], us, _, g => g
  | t :: ts, us, h, g => wts_cons h.head (WTs.app h.tail g)
theorem WTs.all : ∀ {ts : List Tree}, WTs ts → ∀ t ∈ ts, WT t
  | [], _, t, m => absurd m (List.not_mem_nil)
  | u :: ts, h, t, m => by
    rcases List.mem_cons.mp m with e | m
    · rw [e]; exact h.head
    · exact WTs.all h.tail t m
theorem WTs.of : ∀ {ts : List Tree}, (∀ t ∈ ts, WT t) → WTs ts
  | [], _ => wts_nil
  | u :: ts, h => wts_cons (h u (List.mem_cons_self ..)) (WTs.of fun t m => h t (List.mem_cons_of_mem _ m))
theorem size_w (x : List Nat) : (Tree.w x).size = 1 := by rw [Tree.size]
theorem size_l (ts : List Tree) : (Tree.l ts).size = sizes ts + 1 := by rw [Tree.size]
theorem sizes_nil : sizes [] = 0 := by rw [sizes]
theorem sizes_cons (t : Tree) (ts : List Tree) : sizes (t :: ts) = t.size + sizes ts := by rw [sizes]
theorem sizes_app : ∀ (ts us : List Tree), sizes (ts ++ us) = sizes ts + sizes us
  | [], us => by rw [List.nil_append, sizes_nil, Nat.zero_add]
  | t :: ts, us => by rw [List.cons_append, sizes_cons, sizes_cons, sizes_app ts us, Nat.add_assoc]
theorem size_pos : ∀ t : Tree, 0 < t.size
  | .w x => by rw [size_w]; omega
  | .l ts => by rw [size_l]; omega
theorem len_sizes : ∀ ts : List Tree, ts.length ≤ sizes ts
  | [] => by rw [sizes_nil]; exact Nat.le_refl _
  | t :: ts => by
    have h := len_sizes ts
    have h2 := size_pos t
    rw [sizes_cons, List.length_cons]
    omega
theorem sizes_take : ∀ (ts : List Tree) (n : Nat), sizes (ts.take n) ≤ sizes ts
  | ts, 0 => by rw [List.take_zero, sizes_nil]; omega
  | [], n + 1 => by rw [List.take_nil]; omega
  | t :: ts, n + 1 => by
    rw [List.take_succ_cons, sizes_cons, sizes_cons]
    have := sizes_take ts n
    omega
theorem sizes_drop : ∀ (ts : List Tree) (n : Nat), sizes (ts.drop n) ≤ sizes ts
  | ts, 0 => by rw [List.drop_zero]; omega
  | [], n + 1 => by rw [List.drop_nil]; omega
  | t :: ts, n + 1 => by
    rw [List.drop_succ_cons, sizes_cons]
    have := sizes_drop ts n
    omega
theorem size_of_get {ts : List Tree} {i : Nat} {t : Tree} (h : ts[i]? = some t) : t.size ≤ sizes ts := by
  induction ts generalizing i with
  | nil => simp at h
  | cons u r ih =>
    rw [sizes_cons]
    cases i with
    | zero =>
      have e : u = t := Option.some.inj h
      rw [e]
      omega
    | succ j =>
      have := ih (i := j) h
      omega
/-- how many parts a drawn value has at most -/
def Most : Nat → Nat
  | 0 => 1
  | n + 1 => 1 + 11 * Most n
/-- nested at most n deep -/
def Deep : Nat → Tree → Prop
  | _, .w _ => True
  | 0, .l _ => False
  | n + 1, .l ts => ∀ t ∈ ts, Deep n t
theorem deep_w (n : Nat) (x : List Nat) : Deep n (.w x) := by cases n <;> trivial
theorem Deep.mono : ∀ {m n : Nat} {t : Tree}, m ≤ n → Deep m t → Deep n t
  | _, n, .w x, _, _ => deep_w n x
  | 0, _, .l _, _, h => h.elim
  | m + 1, 0, .l _, l, _ => absurd l (by omega)
  | m + 1, n + 1, .l ts, l, h => fun t q => Deep.mono (Nat.le_of_succ_le_succ l) (h t q)
def Drawn (n : Nat) (t : Tree) : Prop := WT t ∧ t.size ≤ Most n ∧ Deep n t
theorem Most.le (n : Nat) : Most n ≤ Most (n + 1) := by rw [show Most (n + 1) = 1 + 11 * Most n from rfl]; omega
theorem Most.mono {m n : Nat} (h : m ≤ n) : Most m ≤ Most n := by
  induction h with
  | refl => exact Nat.le_refl _
  | step _ ih => exact Nat.le_trans ih (Most.le _)
theorem most_pos (n : Nat) : 1 ≤ Most n := by
  have := Most.mono (Nat.zero_le n)
  exact this
theorem sizes_le {ts : List Tree} {b : Nat} (h : ∀ t ∈ ts, t.size ≤ b) : sizes ts ≤ ts.length * b := by
  induction ts with
  | nil => rw [sizes_nil]; omega
  | cons t r ih =>
    have h1 := h t (List.mem_cons_self ..)
    have h2 := ih fun u m => h u (List.mem_cons_of_mem _ m)
    rw [sizes_cons, List.length_cons, Nat.add_mul]
    omega
theorem sizes_split : ∀ {ts : List Tree} {n : Nat} {t : Tree}, ts[n]? = some t → sizes (ts.take n) + t.size + sizes (ts.drop (n + 1)) = sizes ts
  | [], n, t, h => by simp at h
  | u :: r, 0, t, h => by
    have e : u = t := Option.some.inj h
    subst e
    rw [List.take_zero, sizes_nil, sizes_cons, List.drop_succ_cons, List.drop_zero]
    omega
  | u :: r, n + 1, t, h => by
    have ih := sizes_split (ts := r) (n := n) (t := t) h
    rw [List.take_succ_cons, sizes_cons, sizes_cons, List.drop_succ_cons]
    omega
theorem sizes_two (ts : List Tree) (n : Nat) : sizes (ts.take n) + sizes (ts.drop n) = sizes ts := by
  have h := sizes_app (ts.take n) (ts.drop n)
  rw [List.take_append_drop] at h
  exact h.symm
theorem cutS_len2 (z : Str) (lo hi : Option Int) : (cutS z lo hi).length ≤ z.length := by
  unfold cutS
  show (List.toArray _).size ≤ _
  rw [List.size_toArray, List.length_take, List.length_drop]
  have e : z.cps.toList.length = z.length := by show z.cps.toList.length = z.cps.size; simp
  omega
end Og

namespace Og
open PySem PySem.Spec PyProof.Rows L2
theorem dT {i j : Int} (h : i = j) : decide (V.int i = V.int j) = true := by rw [h]; simp
theorem dF {i j : Int} (h : i ≠ j) : decide (V.int i = V.int j) = false := decide_eq_false fun e => h (V.int.inj e)
theorem nT {i j : Int} (h : i ≠ j) : (!decide (V.int i = V.int j)) = true := by rw [dF h]; rfl
theorem nF {i j : Int} (h : i = j) : (!decide (V.int i = V.int j)) = false := by rw [dT h]; rfl
theorem sT {a b : List Nat} (h : a = b) : decide (V.str (tx a) = V.str (tx b)) = true := by rw [h]; simp
theorem sF {a b : List Nat} (h : a ≠ b) : decide (V.str (tx a) = V.str (tx b)) = false := decide_eq_false fun e => h (tx_str e)
theorem nsT {a b : List Nat} (h : a ≠ b) : (!decide (V.str (tx a) = V.str (tx b))) = true := by rw [sF h]; rfl
theorem nsF {a b : List Nat} (h : a = b) : (!decide (V.str (tx a) = V.str (tx b))) = false := by rw [sT h]; rfl
theorem three_of {α : Type} {xs : List α} (h : xs.length = 3) : ∃ a b c, xs = [a, b, c] := by
  match xs, h with
  | [a, b, c], _ => exact ⟨a, b, c, rfl⟩
theorem Trs.three {K : PySem.W.Frag} {H : Hp} {vs : List V} {a b c : Tree} (h : Trs K H vs [a, b, c]) : ∃ x y z, vs = [x, y, z] ∧ Tr K H x a ∧ Tr K H y b ∧ Tr K H z c := by
  obtain ⟨x, r, rfl, h1, h2⟩ := h.cons
  obtain ⟨y, r, rfl, h3, h4⟩ := h2.cons
  obtain ⟨z, r, rfl, h5, h6⟩ := h4.cons
  rw [h6.nil]
  exact ⟨x, y, z, rfl, h1, h3, h5⟩
theorem Keep.updNew {S : List Addr} {H H1 : Hp} {p : Addr} {o : HO} (a : Keep S H H1) (h : H p = none) : Keep S H (upd H1 p o) := fun b u e => by
  have ne : b ≠ p := fun q => by rw [q, h] at e; cases e
  rw [upd_ne ne]
  exact a b u e
end Og
namespace Og
open PySem PySem.Spec PyProof.Rows L2
section
variable {X : Cx} {k : Nat} {x : Str} {f : Addr} {fd : FuncData} {ps : List Str} {sp : Sp} {p pos : Pos}
theorem cal0 (C : Callee X.prog X.w X.K X.mg X.base CX0 k x f fd ps sp) (hr : Room k X.A) (hg : Gl X x := by rfl) (hdb : (x == ("__debug__" : Str)) = false := by decide) : PE X (.Call (.Name x p) [] [] pos) (tCall sp [] E0 tNil) :=
  pe_call0 C.ok hr hg C.mg C.kp C.bi .nil pass0 hdb
end
/-- a loop over the signs of a text -/
theorem for_str {z : Str} {g : TG} {tb : TS} {D : Ends} {σ : L2.St} {H : Hp} (Pv : Nat → L2.St → Hp → Prop) (h0 : Pv 0 σ H)
    (hs : ∀ (i : Nat) (c : Nat) (σ : L2.St) (H : Hp), z.cps.toList[i]? = some c → Pv i σ H → g (.str ⟨#[c]⟩) σ H fun σ2 H2 => tb { D with nx := Pv (i + 1), ct := Pv (i + 1), bk := D.nx } σ2 H2) (hd : ∀ σ H, Pv z.cps.toList.length σ H → D.nx σ H) :
    ∃ W : Nat → Nat → L2.St → Hp → Prop, (∃ m, W 0 m σ H) ∧ ∀ i m σ H, W i m σ H →
      ((Its z).stop i H ∧ D.nx σ H) ∨ ((Its z).go i H ∧ ∃ N : L2.St → Hp → Prop, (∀ σ' H', N σ' H' → ∃ m', m' < m ∧ W (i + 1) m' σ' H') ∧ ∀ v H', (Its z).yld i H v H' → g v σ H' fun σ2 H2 => tb { D with nx := N, ct := N, bk := D.nx } σ2 H2) := by
  refine ⟨fun i m σ H => m = z.cps.toList.length - i ∧ i ≤ z.cps.toList.length ∧ Pv i σ H, ⟨z.cps.toList.length, rfl, Nat.zero_le _, h0⟩, ?_⟩
  rintro i m σ H ⟨rfl, hi, p⟩
  by_cases hlt : i < z.cps.toList.length
  · have hx : z.cps.toList[i]? = some z.cps.toList[i] := List.getElem?_eq_getElem hlt
    refine .inr ⟨?_, Pv (i + 1), fun σ' H' p' => ⟨z.cps.toList.length - (i + 1), by omega, rfl, hlt, p'⟩, fun v H' y => ?_⟩
    · show i < z.cps.size
      simpa using hlt
    · obtain ⟨rfl, c, hc, rfl⟩ := y
      exact hs i c σ _ (by rw [Array.getElem?_toList]; exact hc) p
  · have e : i = z.cps.toList.length := by omega
    subst e
    exact .inl ⟨by show z.cps.size ≤ _; simp, hd σ H p⟩
end Og
namespace Og
open PySem PySem.Spec PyProof.Rows L2
/-- len of a list or tuple -/
def rLenK (K : PySem.W.Frag) : List V → Hp → VK → Prop := fun xs H Q => ∃ p ys, xs = [V.ref p] ∧ (SqL K H p ys ∨ SqT K H p ys) ∧ Q (.int (ys.length : Nat)) H
end Og

namespace Og
open PySem PySem.Spec PyProof.Rows L2
open PySem.NumText (AllDigits digitsVal)
theorem isi_strV {K : PySem.W.Frag} {H : Hp} {v : V} {t : Tree} (h : Tr K H v t) : ∃ ty u, ClsV (.ty "str") u ∧ TyX K H v ty ∧ PySem.W.kitOne K ty u = some t.isW := isi_str h
section
variable {P : Program} {w : World} {K : PySem.W.Frag} {mg : Str → Option Value} {base : Heap}
/-! ### _looks_like_function -/
def spLooks (K : PySem.W.Frag) : Sp := fun vs H Q _ => ∃ (v : V) (t : Tree), vs = [v] ∧ Tr K H v t ∧ ∀ b : Bool, (b = true ↔ ∃ n ps bd, t = .l [.w n, .l ps, bd]) → Q (.bl b) H
theorem has_looks {k : Nat} (D : DefAt K mg "_looks_like_function" s_looks_like_function p_looks_like_function) (B : Bn mg) : Has P w K mg base (k + 1) "_looks_like_function" p_looks_like_function (spLooks K) := by
  obtain ⟨f, fd, F, hm, hb⟩ := D.ex
  refine ⟨f, fd, F.ok sc_looks_like_function (fun vs H Q E h => ?_) (fun cdv A outer s H vs Q E hr h => ?_), hm, F.kp, hb⟩
  · obtain ⟨_, _, rfl, _⟩ := h
    rfl
  obtain ⟨v, t, rfl, tv, q⟩ := h
  refine ⟨_, (pss_cons (ps_if (PW.pt (pw_or (pt_not (pt_val (pe_callB call_isi (by rfl) B.isinstance (by decide +kernel) (pa_cons (pv 0) (pa_cons (pe_bltn (v := .ty "tuple") rfl B.tuple (by decide +kernel) rfl) pa_nil))))) (pw_or1 (pt_cmpR op_ne (pe_callB call_len_seq (by rfl) B.len PySem.boot_len (pa_cons (pv 0) pa_nil)) pe_int (nomark _))))) (pss_one (ps_ret pe_bl)) pss_nil)
    (pss_one (ps_ret (pe_and (pe_callB call_isi (by rfl) B.isinstance (by decide +kernel) (pa_cons (pe_ix ix_tup (pv 0) pe_int (fun _ _ => rfl)) (pa_cons (pe_bltn (v := .ty "str") rfl B.str (by decide +kernel) rfl) pa_nil))) (pe_one (pe_callB call_isi (by rfl) B.isinstance (by decide +kernel) (pa_cons (pe_ix ix_tup (pv 0) pe_int (fun _ _ => rfl)) (pa_cons (pe_bltn (v := .ty "tuple") rfl B.tuple (by decide +kernel) rfl) pa_nil)))))))), ?_⟩
  obtain ⟨ty, u, q1, q2, q3⟩ := isi_tup tv
  refine ⟨_, rfl, _, _, ty, u, _, rfl, q1, q2, q3, _, rfl, ?_⟩
  cases t with
  | w x => exact iteT (iteT (q false ⟨fun h => (by cases h), fun ⟨_, _, _, h⟩ => (by cases h)⟩))
  | l ts =>
    refine iteF ?_
    obtain ⟨a, vs, rfl, hS, r⟩ := tv.list
    have lv := r.length
    refine ⟨_, rfl, a, vs, rfl, .inr hS, rfl, _, rfl, ?_⟩
    by_cases l3 : ts.length = 3
    · rw [nF (by rw [lv, l3]; rfl)]
      refine iteF ?_
      obtain ⟨t0, t1, t2, rfl⟩ := three_of l3
      obtain ⟨x, y, z, rfl, r0, r1, r2⟩ := r.three
      obtain ⟨ty0, u0, p1, p2, p3⟩ := isi_str r0
      refine ⟨_, rfl, a, _, _, x, rfl, rfl, hS, rfl, _, _, ty0, u0, _, rfl, p1, p2, p3, _, rfl, ?_⟩
      cases t0 with
      | l us =>
        refine iteF ?_
        exact q false ⟨fun h => (by cases h), fun ⟨_, _, _, h⟩ => (by have := (List.cons.inj (Tree.l.inj h)).1; cases this)⟩
      | w n =>
        refine iteT ?_
        obtain ⟨ty1, u1, w1, w2, w3⟩ := isi_tup r1
        refine ⟨_, rfl, a, _, _, y, rfl, rfl, hS, rfl, _, _, ty1, u1, _, rfl, w1, w2, w3, ?_⟩
        cases t1 with
        | w m => exact q _ ⟨fun h => (by cases h), fun ⟨_, _, _, h⟩ => (by have := (List.cons.inj (List.cons.inj (Tree.l.inj h)).2).1; cases this)⟩
        | l ps => exact q _ ⟨fun _ => ⟨n, ps, t2, rfl⟩, fun _ => rfl⟩
    · rw [nT (by rw [lv]; intro e; exact l3 (by omega))]
      refine iteT ?_
      refine q false ⟨fun h => (by cases h), fun ⟨n, ps, bd, h⟩ => absurd (by rw [Tree.l.inj h]; rfl) l3⟩
end
end Og

namespace Og
open PySem PySem.Spec PyProof.Rows L2
open PySem.NumText (AllDigits digitsVal)
section
variable {P : Program} {w : World} {K : PySem.W.Frag} {mg : Str → Option Value} {base : Heap}
/-! ### _is_good_name -/
def Ascii (x : List Nat) : Prop := ∀ c ∈ x, c < 128
def spGName : Sp := fun vs H Q _ => ∃ (x : List Nat) (n : Nat), vs = [.str (tx x), .int n] ∧ Ascii x ∧ x ≠ [] ∧ x.length ≤ 12 ∧ ∀ b : Bool, (b = true ↔ GoodName n x) → Q (.bl b) H
theorem has_gname {k : Nat} {d_SPECIAL_WORDS : Addr} (m_SPECIAL_WORDS : mg "SPECIAL_WORDS" = some (.ref d_SPECIAL_WORDS)) (D_SPECIAL_WORDS : DictD K w specials d_SPECIAL_WORDS) (D : DefAt K mg "_is_good_name" s_is_good_name p_is_good_name) (B : Bn mg) : Has P w K mg base (k + 1) "_is_good_name" p_is_good_name spGName := by
  obtain ⟨f, fd, F, hm, hb⟩ := D.ex
  refine ⟨f, fd, F.ok sc_is_good_name (fun vs H Q E h => ?_) (fun cdv A outer s H vs Q E hr h => ?_), hm, F.kp, hb⟩
  · obtain ⟨_, _, rfl, _⟩ := h
    rfl
  obtain ⟨x, n, rfl, asc, ne, len, q⟩ := h
  refine ⟨_, (pss_cons (ps_if (pt_cmpR (op_inC D_SPECIAL_WORDS) (pv 0) (pe_glob (v := .ref d_SPECIAL_WORDS) rfl m_SPECIAL_WORDS rfl) (by rfl)) (pss_one (ps_ret pe_bl)) pss_nil)
    (pss_cons (ps_set (i := 2) sc_is_good_name.nd rfl (.inl rfl) (pe_slice sl_str (pv 0) (po_some pe_int) po_none))
    (pss_cons (ps_if (PW.pt (pw_or (pt_not (pt_val (pe_m1 PySem.F.slot_str_startswith PySem.F.type_str_startswith mt_startswith (pv 0) pe_str))) (pw_or1 (pt_not (pt_val (pe_m0 PySem.F.slot_str_isdigit PySem.F.type_str_isdigit mt_isdigit (pv 2))))))) (pss_one (ps_ret pe_bl)) pss_nil)
    (pss_cons (ps_set (i := 3) sc_is_good_name.nd rfl (.inl rfl) (pe_callTy call_int_str (by rfl) B.int (by decide +kernel) (pa_cons (pv 2) pa_nil)))
    (pss_one (ps_ret (pe_and (pe_cmpR op_eq (pv 2) (pe_callTy call_str_int (by rfl) B.str (by decide +kernel) (pa_cons (pv 3) pa_nil)) (nomark _)) (pe_one (pe_cmpR op_lt (pv 3) (pv 1) (nomark _)))))))))), ?_⟩
  refine ⟨_, rfl, x, rfl, rfl, _, rfl, ?_⟩
  rw [spAr_isSome]
  cases hs : spAr x with
  | some k0 => exact iteT (q false ⟨fun h => (by cases h), fun h => (by have := h.1; rw [hs] at this; cases this)⟩)
  | none =>
  refine iteF ?_
  have l1 : 1 ≤ x.length := List.length_pos_iff.mpr ne
  have e1 := cutS_from x (i := 1) l1
  refine ⟨_, rfl, _, rfl, _, rfl, by rw [tx_len]; exact sizeL (by omega), ?_⟩
  rw [show (some (1 : Int)) = some ((1 : Nat) : Int) from rfl, e1]
  have yes : (∀ ds, x = 102 :: ds → ds ≠ [] → AllDigits ds → False) → Q (.bl true) H := fun h => q true ⟨fun _ => ⟨hs, fun ds e1 e2 e3 => (h ds e1 e2 e3).elim⟩, fun _ => rfl⟩
  refine ⟨_, rfl, ⟨_, rfl⟩, _, _, rfl, rfl, _, rfl, ?_⟩
  rw [lit_f, sw_f]
  by_cases hf : x.head? = some 102
  rotate_left
  · rw [decide_eq_false hf]
    exact iteT (iteT (yes fun ds e _ _ => hf (by rw [e]; rfl)))
  rw [decide_eq_true hf]
  obtain ⟨ds, rfl⟩ : ∃ ds, x = 102 :: ds := by
    cases x with
    | nil => cases hf
    | cons c r => exact ⟨r, by rw [Option.some.inj hf]⟩
  have asc2 : ∀ c ∈ ds, c < 128 := fun c m => asc c (List.mem_cons_of_mem _ m)
  refine iteF ?_
  refine ⟨_, rfl, ⟨_, rfl⟩, _, rfl, rfl, trivial, _, rfl, ?_⟩
  rw [show List.drop 1 (102 :: ds) = ds from rfl]
  cases hd : Txt.isdigit (tx ds) with
  | false =>
    refine iteT (yes fun ds' e h1 h2 => ?_)
    have := (List.cons.inj e).2
    subst this
    rw [(isdigit_iff asc2).mpr ⟨h1, h2⟩] at hd
    cases hd
  | true =>
    obtain ⟨dn, da⟩ := (isdigit_iff asc2).mp hd
    have dl : ds.length ≤ 11 := by rw [List.length_cons] at len; omega
    have dv : digitsVal ds < 10 ^ 11 := Nat.lt_of_lt_of_le (digitsVal_lt _ ds rfl da) (Nat.pow_le_pow_right (by decide) dl)
    refine iteF ?_
    refine ⟨_, rfl, tx ds, ((digitsVal ds : Nat) : Int), rfl, intText_digits da dn (by rw [tx_len]; omega), by rw [tx_len]; omega, ?_⟩
    have gn : GoodName n (102 :: ds) ↔ (ds = [48] ∨ ds.head? ≠ some 48) ∧ digitsVal ds < n := by
      constructor
      · intro h
        exact h.2 ds rfl dn da
      · intro h
        refine ⟨hs, fun ds' e _ _ => ?_⟩
        have := (List.cons.inj e).2
        subst this
        exact h
    refine ⟨_, rfl, _, rfl, _, rfl, ?_, rfl, _, rfl, ?_⟩
    · rw [Int.natAbs_natCast]
      by_cases z : digitsVal ds = 0
      · rw [z]; decide
      · exact Nat.lt_trans ((Nat.log2_lt z).mpr (show digitsVal ds < 2 ^ 40 from Nat.lt_trans dv (by decide))) (by decide)
    by_cases hz : ds = [48] ∨ ds.head? ≠ some 48
    · rw [(str_digits da dn).mpr hz, sT rfl]
      refine iteT ⟨_, rfl, _, rfl, _, _, rfl, rfl, q _ ?_⟩
      rw [gn, decide_eq_true_eq]
      constructor
      · intro h
        exact ⟨hz, by omega⟩
      · intro h
        have := h.2
        omega
    · have : ¬ V.str (tx ds) = V.str (Str.ofString (toString ((digitsVal ds : Nat) : Int))) := fun e => hz ((str_digits da dn).mp (V.str.inj e).symm)
      rw [decide_eq_false this]
      exact iteF (q false ⟨fun h => (by cases h), fun h => absurd (gn.mp h).1 hz⟩)
end
end Og

namespace Og
open PySem PySem.Spec PyProof.Rows L2
open PySem.NumText (AllDigits digitsVal)
/-- the dict of what can be called -/
def CallD (H : Hp) (cd : Addr) (fs : List Tree) : Prop := ∃ kvs : List (L2.Key × V), H cd = some (.dK kvs) ∧ ∀ x : List Nat, valV kvs (Sum.inr (tx x)) = (arity fs x).map fun k => V.int (k : Nat)
theorem CallD.keep {S : List Addr} {H H1 : Hp} {cd : Addr} {fs : List Tree} (h : CallD H cd fs) (k : Keep S H H1) : CallD H1 cd fs := by
  obtain ⟨kvs, e, r⟩ := h
  refine ⟨kvs, ?_, r⟩
  rcases k cd _ e with q | ⟨_, _, _, q, _⟩
  · exact q
  · cases q
theorem tru_tup {K : PySem.W.Frag} {H : Hp} {p : Addr} {xs : List V} (h : SqT K H p xs) : TruV K (.ref p) H (!xs.isEmpty) := .inr (.inl ⟨xs, h, rfl⟩)
section
variable {P : Program} {w : World} {K : PySem.W.Frag} {mg : Str → Option Value} {base : Heap}
/-! ### _are_good_parameters -/
def spGPs (K : PySem.W.Frag) : Sp := fun vs H Q _ => ∃ (v : V) (ps : List Tree), vs = [v] ∧ Tr K H v (.l ps) ∧ ∀ (b : Bool) (H' : Hp), (b = true ↔ GoodPs ps) → Keep [] H H' → Q (.bl b) H'
theorem has_gps {k : Nat} {d_SPECIAL_WORDS : Addr} (m_SPECIAL_WORDS : mg "SPECIAL_WORDS" = some (.ref d_SPECIAL_WORDS)) (D_SPECIAL_WORDS : DictD K w specials d_SPECIAL_WORDS) (D : DefAt K mg "_are_good_parameters" s_are_good_parameters p_are_good_parameters) (B : Bn mg) (M : Mc mg) : Has P w K mg base (k + 1) "_are_good_parameters" p_are_good_parameters (spGPs K) := by
  obtain ⟨f, fd, F, hm, hb⟩ := D.ex
  obtain ⟨_, M_MOST_PARAMETERS⟩ := M.MOST_PARAMETERS
  refine ⟨f, fd, F.ok sc_are_good_parameters (fun vs H Q E h => ?_) (fun cdv A outer s H vs Q E hr h => ?_), hm, F.kp, hb⟩
  · obtain ⟨_, _, rfl, _⟩ := h
    rfl
  obtain ⟨v, ps, rfl, tv, q⟩ := h
  refine ⟨_, (pss_cons (ps_if (pt_cmpR op_gt (pe_callB call_len_seq (by rfl) B.len PySem.boot_len (pa_cons (pv 0) pa_nil)) (pe_glob (v := .int 12) rfl M_MOST_PARAMETERS ⟨_, rfl⟩) (nomark _)) (pss_one (ps_ret pe_bl)) pss_nil)
    (pss_cons (ps_set (i := 1) sc_are_good_parameters.nd rfl (.inl rfl) (pe_callTy0 cr_set0K (by rfl) B.set (by decide +kernel)))
    (pss_cons (ps_for PassesOwn.never rfl (pi_tup (pv 0)) (pg_name (i := 2) sc_are_good_parameters.nd rfl (.inl rfl))
      (pss_cons (ps_if (PW.pt (pw_or (pt_not (pt_val (pe_callB call_isi (by rfl) B.isinstance (by decide +kernel) (pa_cons (pv 2) (pa_cons (pe_bltn (v := .ty "str") rfl B.str (by decide +kernel) rfl) pa_nil))))) (pw_or (pt_cmpR (op_inC D_SPECIAL_WORDS) (pv 2) (pe_glob (v := .ref d_SPECIAL_WORDS) rfl m_SPECIAL_WORDS rfl) (by rfl)) (pw_or1 (pt_cmpR or_sinK (pv 2) (pv 1) (by rfl)))))) (pss_one (ps_ret pe_bl)) pss_nil)
      (pss_one (ps_expr (pe_saddK (pv 1) (pa_cons (pv 2) pa_nil))))))
    (pss_one (ps_ret pe_bl))))), ?_⟩
  obtain ⟨a, vs, rfl, hS, r⟩ := tv.list
  have lv := r.length
  refine ⟨_, rfl, a, vs, rfl, .inr hS, _, _, rfl, rfl, _, rfl, ?_⟩
  by_cases hl : ps.length ≤ 12
  rotate_left
  · rw [decide_eq_true (show (12 : Int) < ((vs.length : Nat) : Int) by omega)]
    exact iteT (q false H ⟨fun h => (by cases h), fun h => absurd h.1 hl⟩ Keep.refl)
  rw [decide_eq_false (show ¬ (12 : Int) < ((vs.length : Nat) : Int) by omega)]
  refine iteF ?_
  refine ⟨rfl, fun e ne => ?_⟩
  refine ⟨_, rfl, a, rfl, ⟨_, (Keep.new (S := []) ne).sqT hS⟩, ?_⟩
  refine for_tup (K := K) (a := a) (xs := vs) (fun i σ H' => ∃ (y2 : Option V) (S : L2.Key → Bool) (n : Nat), σ = [some (.ref a), some (.ref e), y2] ∧ Keep [] H H' ∧ H' e = some (SetK P w e S n) ∧ n ≤ i ∧
      (∀ x : List Nat, S (Sum.inr (tx x)) = true ↔ ∃ j, j < i ∧ ps[j]? = some (.w x)) ∧ ∀ (j : Nat) (t : Tree), j < i → ps[j]? = some t → ∃ x, t = .w x ∧ spAr x = none ∧ ∀ j', j' < j → ps[j']? ≠ some (.w x))
    ⟨none, _, 0, rfl, Keep.new ne, upd_same, Nat.le_refl _, fun x => ⟨fun h => (by cases h), fun ⟨j, h, _⟩ => absurd h (Nat.not_lt_zero _)⟩, fun j t h => absurd h (Nat.not_lt_zero _)⟩ (fun i σ H' _ pw => ?_) (fun i z σ H1 hz pw => ?_) (fun σ H1 pw => ?_)
  · obtain ⟨_, _, _, _, k1, _⟩ := pw
    exact k1.sqT hS
  · obtain ⟨y2, S, n, rfl, k1, eS, ni, hS1, good⟩ := pw
    have il : i < vs.length := (List.getElem?_eq_some_iff.mp hz).1
    have hg : ps[i]? = some ps[i] := List.getElem?_eq_getElem (by omega)
    obtain ⟨z', hz', tz⟩ := r.get hg
    rw [hz] at hz'
    cases hz'
    generalize ht : ps[i] = t at hg tz
    have tz1 := tz.keep k1
    have no : (¬ ∃ x, t = .w x ∧ spAr x = none ∧ ∀ j', j' < i → ps[j']? ≠ some (.w x)) → Q (.bl false) H1 := fun h => q false H1 ⟨fun h => (by cases h), fun g => absurd (g.2 i t hg) h⟩ k1
    obtain ⟨ty, u, q1, q2, q3⟩ := isi_str tz1
    refine ⟨_, rfl, _, _, ty, u, _, rfl, q1, q2, q3, _, rfl, ?_⟩
    cases t with
    | l us => exact iteT (iteT (no fun ⟨x, e, _⟩ => (by cases e)))
    | w x =>
      refine iteF ?_
      have ez := tz1.word
      subst ez
      refine ⟨_, rfl, x, rfl, rfl, _, rfl, ?_⟩
      rw [spAr_isSome]
      cases hs : spAr x with
      | some k0 => exact iteT (iteT (no fun ⟨x', e, h, _⟩ => (by have := Tree.w.inj e; subst this; rw [hs] at h; cases h)))
      | none =>
        refine iteF ?_
        refine ⟨_, rfl, _, rfl, Sum.inr (tx x), e, S, n, rfl, rfl, eS, S (Sum.inr (tx x)), rfl, ?_⟩
        cases hk : S (Sum.inr (tx x)) with
        | true =>
          obtain ⟨j, j1, j2⟩ := (hS1 x).mp hk
          exact iteT (no fun ⟨x', e', _, h⟩ => (by have := Tree.w.inj e'; subst this; exact h j j1 j2))
        | false =>
          have fresh : ∀ j', j' < i → ps[j']? ≠ some (.w x) := fun j' l h => by
            rw [(hS1 x).mpr ⟨j', l, h⟩] at hk
            cases hk
          refine iteF ?_
          refine ⟨_, rfl, ⟨_, _, _, rfl, eS⟩, _, rfl, e, Sum.inr (tx x), S, n, rfl, rfl, eS, ?_, ?_⟩
          · exact Nat.lt_of_le_of_lt (show n + 1 ≤ 1000 by omega) (by decide)
          refine ⟨_, _, _, rfl, k1.updNew ne, upd_same, ?_, fun y => ?_, fun j t h1 h2 => ?_⟩
          · split <;> omega
          · rw [Bool.or_eq_true, decide_eq_true_eq, hS1]
            constructor
            · rintro (⟨j, h1, h2⟩ | h)
              · exact ⟨j, by omega, h2⟩
              · have := tx_inj (Sum.inr.inj h)
                subst this
                exact ⟨i, Nat.lt_succ_self _, hg⟩
            · rintro ⟨j, h1, h2⟩
              by_cases ji : j < i
              · exact .inl ⟨j, ji, h2⟩
              · have : j = i := by omega
                subst this
                rw [hg] at h2
                right
                rw [Tree.w.inj (Option.some.inj h2)]
          · by_cases ji : j < i
            · exact good j t ji h2
            · have : j = i := by omega
              subst this
              rw [hg] at h2
              exact ⟨x, (Option.some.inj h2).symm, hs, fresh⟩
  · obtain ⟨y2, S, n, rfl, k1, eS, ni, hS1, good⟩ := pw
    exact q true H1 ⟨fun _ => ⟨hl, fun i t h => good i t (by have := (List.getElem?_eq_some_iff.mp h).1; omega) h⟩, fun _ => rfl⟩ k1
/-! ### _has_right_parts -/
def spRp (K : PySem.W.Frag) : Sp := fun vs H Q _ => ∃ (v : V) (cd : Addr) (ts fs : List Tree), vs = [v, .ref cd] ∧ Tr K H v (.l ts) ∧ CallD H cd fs ∧ ∀ b : Bool, (b = true ↔ Right fs ts) → Q (.bl b) H
theorem has_rp {k : Nat} {d_SPECIAL_WORDS : Addr} (m_SPECIAL_WORDS : mg "SPECIAL_WORDS" = some (.ref d_SPECIAL_WORDS)) (D_SPECIAL_WORDS : DictD K w specials d_SPECIAL_WORDS) (D : DefAt K mg "_has_right_parts" s_has_right_parts p_has_right_parts) (B : Bn mg) : Has P w K mg base (k + 1) "_has_right_parts" p_has_right_parts (spRp K) := by
  obtain ⟨f, fd, F, hm, hb⟩ := D.ex
  refine ⟨f, fd, F.ok sc_has_right_parts (fun vs H Q E h => ?_) (fun cdv A outer s H vs Q E hr h => ?_), hm, F.kp, hb⟩
  · obtain ⟨_, _, _, _, rfl, _⟩ := h
    rfl
  obtain ⟨v, cd, ts, fs, rfl, tv, cD, q⟩ := h
  refine ⟨_, (pss_cons (ps_if (PW.pt (pw_or (pt_not (pt_truth (pv 0) (by intro _; rfl))) (pw_or1 (pt_not (pt_val (pe_callB call_isi (by rfl) B.isinstance (by decide +kernel) (pa_cons (pe_ix ix_tup (pv 0) pe_int (fun _ _ => rfl)) (pa_cons (pe_bltn (v := .ty "str") rfl B.str (by decide +kernel) rfl) pa_nil)))))))) (pss_one (ps_ret pe_bl)) pss_nil)
    (pss_cons (ps_set (i := 2) sc_has_right_parts.nd rfl (.inl rfl) (pe_ix ix_tup (pv 0) pe_int (fun _ _ => rfl)))
    (pss_cons (ps_set (i := 3) sc_has_right_parts.nd rfl (.inl rfl) (pe_op op_sub (pe_callB call_len_seq (by rfl) B.len PySem.boot_len (pa_cons (pv 0) pa_nil)) pe_int))
    (pss_cons (ps_if (pt_cmpR (op_inC D_SPECIAL_WORDS) (pv 2) (pe_glob (v := .ref d_SPECIAL_WORDS) rfl m_SPECIAL_WORDS rfl) (by rfl)) (pss_one (ps_ret (pe_cmpR op_eq (pv 3) (pe_ix ix_kdict (pe_glob (v := .ref d_SPECIAL_WORDS) rfl m_SPECIAL_WORDS rfl) (pv 2) (fun _ _ => rfl)) (nomark _)))) pss_nil)
    (pss_one (ps_ret (pe_and (pe_cmp (pc_din (hu_of hr) (pv 2) (pv 1)) rfl) (pe_one (pe_cmpR op_eq (pv 3) (pe_dget (hu_of hr) (pv 1) (pv 2) (fun _ _ => rfl)) (nomark _)))))))))), ?_⟩
  obtain ⟨a, vs, rfl, hS, r⟩ := tv.list
  refine ⟨_, rfl, _, tru_tup hS, ?_⟩
  rw [emp_iff r]
  cases ts with
  | nil => exact iteT (iteT (q false ⟨fun h => (by cases h), fun ⟨n, r, e, _⟩ => (by cases e)⟩))
  | cons t0 rest =>
    refine iteF ?_
    obtain ⟨v0, vr, rfl, r0, rr⟩ := r.cons
    have lr := rr.length
    obtain ⟨ty, u, q1, q2, q3⟩ := isi_str r0
    refine ⟨_, rfl, a, _, _, v0, rfl, rfl, hS, atI_zero _ _, _, _, ty, u, _, rfl, q1, q2, q3, _, rfl, ?_⟩
    cases t0 with
    | l us => exact iteT (q false ⟨fun h => (by cases h), fun ⟨n, r, e, _⟩ => (by have := (List.cons.inj e).1; cases this)⟩)
    | w n =>
      refine iteF ?_
      have e0 := r0.word
      subst e0
      have right : Right fs (.w n :: rest) ↔ parts fs n = some rest.length := by
        constructor
        · rintro ⟨n', r', e, h⟩
          have e1 := Tree.w.inj (List.cons.inj e).1
          have e2 := (List.cons.inj e).2
          subst e1 e2
          exact h
        · intro h
          exact ⟨n, rest, rfl, h⟩
      refine ⟨_, rfl, a, _, _, _, rfl, rfl, hS, atI_zero _ _, ?_⟩
      refine ⟨_, rfl, a, _, rfl, .inr hS, _, _, rfl, rfl, ?_⟩
      refine ⟨_, rfl, n, rfl, rfl, _, rfl, ?_⟩
      rw [spAr_isSome]
      have el : (((V.str (tx n) :: vr).length : Nat) : Int) - 1 = (rest.length : Nat) := by rw [List.length_cons, lr]; omega
      cases hs : spAr n with
      | some k0 =>
        have pe : parts fs n = some k0 := by unfold parts; rw [hs]
        have hf : ∃ p, specials.find? (fun p => decide (p.1 = n)) = some p ∧ p.2 = k0 := by
          unfold spAr at hs
          cases h : specials.find? (fun p => decide (p.1 = n)) with
          | none => rw [h] at hs; cases hs
          | some p => rw [h] at hs; exact ⟨p, rfl, Option.some.inj hs⟩
        obtain ⟨p, hf1, hf2⟩ := hf
        refine iteT ⟨_, rfl, _, rfl, d_SPECIAL_WORDS, tx n, _, rfl, rfl, D_SPECIAL_WORDS.item hf1, rfl, q _ ?_⟩
        rw [right, pe, decide_eq_true_eq, hf2]
        show V.int ((((V.str (tx n) :: vr).length : Nat) : Int) - 1) = _ ↔ _
        rw [el]
        constructor
        · intro h
          have := V.int.inj h
          exact congrArg some (by omega)
        · intro h
          rw [Option.some.inj h]
      | none =>
        have pe : parts fs n = arity fs n := by unfold parts; rw [hs]
        obtain ⟨kvs, ek, rel⟩ := id cD
        have rn := rel n
        refine iteF ⟨_, rfl, _, rfl, cd, _, rfl, DGet.k (k := Sum.inr (tx n)) ek, ?_⟩
        cases ha : arity fs n with
        | none =>
          rw [rn, ha]
          exact ⟨_, rfl, iteF (q false ⟨fun h => (by cases h), fun h => (by rw [right, pe, ha] at h; cases h)⟩)⟩
        | some m =>
          have dg : DGet H cd (.str (tx n)) (some (V.int (m : Nat))) := by
            have := DGet.k (k := Sum.inr (tx n)) ek
            rw [rn, ha] at this
            exact this
          rw [rn, ha]
          refine ⟨_, rfl, iteT ⟨_, rfl, _, rfl, _, rfl, cd, _, rfl, dg, rfl, q _ ?_⟩⟩
          rw [right, pe, ha, decide_eq_true_eq]
          show V.int ((((V.str (tx n) :: vr).length : Nat) : Int) - 1) = _ ↔ _
          rw [el]
          constructor
          · intro h
            have := V.int.inj h
            exact congrArg some (by omega)
          · intro h
            rw [Option.some.inj h]
end
end Og

namespace Og
open PySem PySem.Spec PyProof.Rows L2
open PySem.NumText (AllDigits digitsVal)
/-- a text among texts -/
theorem inV_words {x : List Nat} : ∀ {ps : List Tree} {vs : List V} {K : PySem.W.Frag} {H : Hp}, Trs K H vs ps → (∀ t ∈ ps, t.isW = true) → (inV (.str (tx x)) vs = true ↔ Tree.w x ∈ ps)
  | [], vs, K, H, r, _ => by
    rw [r.nil]
    exact ⟨fun h => (by cases h), fun h => absurd h (List.not_mem_nil)⟩
  | t :: ps, vs, K, H, r, hw => by
    obtain ⟨v, vr, rfl, r0, rr⟩ := r.cons
    have ih := inV_words (x := x) rr fun u m => hw u (List.mem_cons_of_mem _ m)
    cases t with
    | l us => have := hw _ (List.mem_cons_self ..); cases this
    | w y =>
      have e := r0.word
      subst e
      show (eqV (.str (tx y)) (.str (tx x)) || inV (.str (tx x)) vr) = true ↔ _
      rw [Bool.or_eq_true, ih, List.mem_cons]
      have h1 : eqV (.str (tx y)) (.str (tx x)) = true ↔ Tree.w x = Tree.w y := by
        show (tx y == tx x) = true ↔ _
        rw [beq_iff_eq]
        exact ⟨fun e => by rw [tx_inj e], fun e => by rw [Tree.w.inj e]⟩
      rw [h1]
theorem flat_words : ∀ {ps : List Tree} {vs : List V} {K : PySem.W.Frag} {H : Hp}, Trs K H vs ps → (∀ t ∈ ps, t.isW = true) → vs.all flatV = true
  | [], vs, K, H, r, _ => by rw [r.nil]; rfl
  | t :: ps, vs, K, H, r, hw => by
    obtain ⟨v, vr, rfl, r0, rr⟩ := r.cons
    have ih := flat_words rr fun u m => hw u (List.mem_cons_of_mem _ m)
    cases t with
    | l us => have := hw _ (List.mem_cons_self ..); cases this
    | w y =>
      rw [r0.word, List.all_cons, ih]
      rfl
theorem lit_q : ("quote" : Str) = tx qw := by decide +kernel
section
variable {P : Program} {w : World} {K : PySem.W.Frag} {mg : Str → Option Value} {base : Heap}
/-! ### _is_good_body -/
def spGBody (K : PySem.W.Frag) : Sp := fun vs H Q _ => ∃ (v pv : V) (cd : Addr) (t : Tree) (ps fs : List Tree), vs = [v, pv, .ref cd] ∧ Tr K H v t ∧ Tr K H pv (.l ps) ∧ (∀ t ∈ ps, t.isW = true) ∧ CallD H cd fs ∧ t.size ≤ 300000 ∧
  ∀ (b : Bool) (H' : Hp), (b = true ↔ GoodE fs ps t) → Keep [] H H' → Q (.bl b) H'
theorem has_gbody {k : Nat} (D : DefAt K mg "_is_good_body" s_is_good_body p_is_good_body) (B : Bn mg) (c1 : Has P w K mg base k "_has_right_parts" p_has_right_parts (spRp K)) : Has P w K mg base (k + 1) "_is_good_body" p_is_good_body (spGBody K) := by
  obtain ⟨f, fd, F, hm, hb⟩ := D.ex
  obtain ⟨_, _, c_has_right_parts⟩ := c1
  refine ⟨f, fd, F.ok sc_is_good_body (fun vs H Q E h => ?_) (fun cdv A outer s H vs Q E hr h => ?_), hm, F.kp, hb⟩
  · obtain ⟨_, _, _, _, _, _, rfl, _⟩ := h
    rfl
  obtain ⟨v, pv0, cd, t, ps, fs, rfl, tv, tp, pw, cD, sz, q⟩ := h
  refine ⟨_, (pss_cons (ps_set (i := 3) sc_is_good_body.nd rfl (.inl rfl) (pe_lst (pa_cons (pv 0) pa_nil)))
    (pss_cons (ps_while PassesOwn.never (pt_truth (pv 3) (by intro _; rfl)) (pss_cons (ps_set (i := 4) sc_is_good_body.nd rfl (.inl rfl) (pe_bm0 PySem.F.plainAttrs_list PySem.F.slot_list_pop PySem.F.type_list_pop mt_pop (pv 3)))
      (pss_one (ps_if (pt_val (pe_callB call_isi (by rfl) B.isinstance (by decide +kernel) (pa_cons (pv 4) (pa_cons (pe_bltn (v := .ty "str") rfl B.str (by decide +kernel) rfl) pa_nil)))) (pss_one (ps_if (pt_cmpR op_notIn_seq (pv 4) (pv 1) (by rfl)) (pss_one (ps_ret pe_bl)) pss_nil)) (pss_one (ps_if (pt_not (pt_val (cal c_has_right_parts hr rfl (pa_cons (pv 4) (pa_cons (pv 2) pa_nil))))) (pss_one (ps_ret pe_bl)) (pss_one (ps_if (pt_cmpR op_ne (pe_ix ix_tup (pv 4) pe_int (fun _ _ => rfl)) pe_str (nomark _)) (pss_one (ps_expr (pe_bm PySem.F.plainAttrs_list PySem.F.slot_list_extend PySem.F.type_list_extend mt_extendT (pv 3) (pa_cons (pe_slice sl_tupA (pv 4) (po_some pe_int) po_none) pa_nil)))) pss_nil))))))))
    (pss_one (ps_ret pe_bl)))), ?_⟩
  refine ⟨_, rfl, by show (1 : Nat) ≤ sizeLine; decide, fun p np => ?_⟩
  have k0 : Keep [] H (upd H p (.lst [v])) := Keep.new np
  obtain ⟨W, hW⟩ : ∃ W : Nat → L2.St → Hp → Prop, W = fun m σ H' => ∃ (y4 : Option V) (vs : List V) (ts : List Tree), σ = [some v, some pv0, some (.ref cd), some (.ref p), y4] ∧ m = sizes ts ∧ Keep [] H H' ∧ H' p = some (.lst vs) ∧ Trs K H' vs ts ∧ sizes ts ≤ 300000 ∧ (GoodE fs ps t ↔ ∀ z ∈ ts, GoodE fs ps z) := ⟨_, rfl⟩
  refine ⟨W, ⟨sizes [t], ?_⟩, fun m σ H1 pw0 => ?_⟩
  · rw [hW]
    refine ⟨none, _, [t], rfl, rfl, k0, upd_same, Trs.one (tv.keep k0), by rw [sizes_cons, sizes_nil]; omega, ?_⟩
    exact ⟨fun h z m => (by rw [List.mem_singleton.mp m]; exact h), fun h => h t (List.mem_singleton.mpr rfl)⟩
  rw [hW] at pw0
  obtain ⟨y4, vs, ts, rfl, rfl, k1, e1, tr, sz1, iff⟩ := pw0
  have vl := tr.length
  have tl := len_sizes ts
  refine ⟨_, rfl, _, tru_list e1, ?_⟩
  rw [emp_iff tr]
  by_cases hne : ts = []
  · subst hne
    refine iteF ?_
    exact q true H1 ⟨fun _ => iff.mpr fun z m => absurd m (List.not_mem_nil), fun _ => rfl⟩ k1
  obtain ⟨ts', z, rfl⟩ := snoc_of hne
  have b0 : (!(ts' ++ [z]).isEmpty) = true := by cases ts' <;> rfl
  rw [b0]
  refine iteT ⟨fun σ' H' => ∃ m', m' < sizes (ts' ++ [z]) ∧ W m' σ' H', fun _ _ h => h, ?_⟩
  obtain ⟨vs', zv, rfl, tr', tz⟩ := tr.snoc
  rw [sizes_app, sizes_cons, sizes_nil] at sz1 ⊢
  refine ⟨_, rfl, .inl ⟨rfl, _, SqL.of e1⟩, p, _, _, rfl, rfl, e1, last_get _ _, ?_⟩
  rw [List.dropLast_concat]
  generalize hH2 : upd H1 p (.lst vs') = H2
  have k2 : Keep [p] H1 H2 := by rw [← hH2]; exact Keep.set e1 (List.mem_cons_self ..)
  have e2 : H2 p = some (.lst vs') := by rw [← hH2, upd_same]
  have k2' : Keep [] H H2 := (k1.cons.trans (k2.mono (by simp))).drop np
  have tz2 := tz.keep k2
  have tr2 := tr'.keep k2
  have tp2 := tp.keep k2'
  have cD2 := cD.keep k2'
  have split : (∀ y ∈ ts' ++ [z], GoodE fs ps y) ↔ (∀ y ∈ ts', GoodE fs ps y) ∧ GoodE fs ps z := by
    constructor
    · intro h
      exact ⟨fun y m => h y (List.mem_append.mpr (.inl m)), h z (by simp)⟩
    · rintro ⟨h1, h2⟩ y m
      rcases List.mem_append.mp m with m | m
      · exact h1 y m
      · rw [List.mem_singleton.mp m]; exact h2
  have no : ¬ GoodE fs ps z → Q (.bl false) H2 := fun h => q false H2 ⟨fun e => (by cases e), fun e => absurd (split.mp (iff.mp e)).2 h⟩ k2'
  have zp := size_pos z
  have go : GoodE fs ps z → ∃ m', m' < sizes ts' + (z.size + 0) ∧ W m' [some v, some pv0, some (.ref cd), some (.ref p), some zv] H2 := fun h => by
    refine ⟨sizes ts', by omega, ?_⟩
    rw [hW]
    exact ⟨_, vs', ts', rfl, rfl, k2', e2, tr2, by omega, by rw [iff, split]; exact ⟨fun h => h.1, fun h2 => ⟨h2, h⟩⟩⟩
  obtain ⟨ty, u, q1, q2, q3⟩ := isi_str tz2
  refine ⟨_, rfl, _, _, ty, u, _, rfl, q1, q2, q3, _, rfl, ?_⟩
  cases z with
  | w x =>
    refine iteT ?_
    have ez := tz2.word
    subst ez
    obtain ⟨pa, pvs, rfl, hP, rP⟩ := tp2.list
    refine ⟨_, rfl, _, rfl, pa, _, rfl, .inr hP, rfl, ?_, _, rfl, ?_⟩
    · exact flat_words rP pw
    have iv := inV_words (x := x) rP pw
    by_cases hx : Tree.w x ∈ ps
    · rw [iv.mpr hx]
      exact iteF (go (goodE_w.mpr hx))
    · rw [Bool.eq_false_iff.mpr fun h => hx (iv.mp h)]
      exact iteT (no fun h => hx (goodE_w.mp h))
  | l us =>
    refine iteF ?_
    refine ⟨_, rfl, _, rfl, zv, cd, us, fs, rfl, tz2, cD2, fun b hb1 => ?_⟩
    refine ⟨_, rfl, ?_⟩
    cases b with
    | false => exact iteT (no fun h => (by have := hb1.mpr (goodE_l.mp h).1; cases this))
    | true =>
      refine iteF ?_
      obtain ⟨n, r, rfl, hp⟩ := hb1.mp rfl
      obtain ⟨za, zvs, rfl, hZ, rZ⟩ := tz2.list
      obtain ⟨v0, vr, rfl, r0, rr⟩ := rZ.cons
      have e0 := r0.word
      subst e0
      refine ⟨_, rfl, za, _, _, _, rfl, rfl, hZ, atI_zero _ _, rfl, _, rfl, ?_⟩
      rw [lit_q]
      have lr := rr.length
      have lz := len_sizes r
      rw [size_l, sizes_cons, size_w] at sz1 zp ⊢
      by_cases hq : n = qw
      · rw [nsF hq]
        have g : GoodE fs ps (.l (.w n :: r)) := goodE_l.mpr ⟨⟨n, r, rfl, hp⟩, .inl (by rw [hq]; rfl)⟩
        refine iteF ?_
        refine ⟨sizes ts', by omega, ?_⟩
        rw [hW]
        exact ⟨_, vs', ts', rfl, rfl, k2', e2, tr2, by omega, by rw [iff, split]; exact ⟨fun h => h.1, fun h2 => ⟨h2, g⟩⟩⟩
      · rw [nsT hq]
        refine iteT ?_
        have g : GoodE fs ps (.l (.w n :: r)) ↔ ∀ y ∈ r, GoodE fs ps y := by
          rw [goodE_l]
          constructor
          · rintro ⟨_, h | h⟩
            · exact absurd (Tree.w.inj (Option.some.inj h)) hq
            · exact h
          · intro h
            exact ⟨⟨n, r, rfl, hp⟩, .inr h⟩
        refine ⟨_, rfl, .inl ⟨rfl, _, SqL.of e2⟩, _, rfl, _, rfl, ?_⟩
        dsimp only [tNoPart]
        refine sl_tr tz2 fun v3 H3 tv3 k3 => ?_
        have d1 := cutL_from (Tree.w n :: r) (i := 1) (by rw [List.length_cons]; omega)
        rw [show (some (1 : Int)) = some ((1 : Nat) : Int) from rfl, d1, show List.drop 1 (Tree.w n :: r) = r from rfl] at tv3
        obtain ⟨xa, xvs, rfl, hX, rX⟩ := tv3.list
        have e3 : H3 p = some (.lst vs') := k3.get e2 (by simp)
        have lx := rX.length
        have lts := len_sizes ts'
        have lvs := tr2.length
        refine ⟨p, xa, vs', xvs, rfl, rfl, e3, hX, ?_, ?_⟩
        · exact Nat.le_trans (show _ ≤ 600000 by omega) (by decide)
        have k4 : Keep [p] H3 (upd H3 p (.lst (vs' ++ xvs))) := Keep.set e3 (List.mem_cons_self ..)
        refine ⟨sizes (ts' ++ r), by rw [sizes_app]; omega, ?_⟩
        rw [hW]
        refine ⟨_, vs' ++ xvs, ts' ++ r, rfl, rfl, ((k2'.trans k3).cons.trans k4).drop np, upd_same, ((tr2.keep k3).append rX).keep k4, by rw [sizes_app]; omega, ?_⟩
        rw [iff, split, g]
        constructor
        · rintro ⟨h1, h2⟩ y m
          rcases List.mem_append.mp m with m | m
          · exact h1 y m
          · exact h2 y m
        · intro h
          exact ⟨fun y m => h y (List.mem_append.mpr (.inl m)), fun y m => h y (List.mem_append.mpr (.inr m))⟩
end
end Og

namespace Og
open PySem PySem.Spec PyProof.Rows L2
open PySem.NumText (AllDigits digitsVal)
theorem IsWord.ascii {x : List Nat} (h : IsWord x) : Ascii x := by
  obtain ⟨c, cs, rfl, h1, h2, _⟩ := h
  intro y m
  rcases List.mem_cons.mp m with e | m
  · have := h1.2; omega
  · rcases h2 y m with h | h <;> omega
section
variable {P : Program} {w : World} {K : PySem.W.Frag} {mg : Str → Option Value} {base : Heap}
/-! ### _is_good_function -/
def spGFn (K : PySem.W.Frag) : Sp := fun vs H Q _ => ∃ (v : V) (cd : Addr) (t : Tree) (fs : List Tree), vs = [v, .ref cd, .int (fs.length : Nat)] ∧ Tr K H v t ∧ WT t ∧ CallD H cd fs ∧ t.size ≤ 300000 ∧ ∀ (b : Bool) (H' : Hp), (b = true ↔ GoodFn fs t) → Keep [] H H' → Q (.bl b) H'
theorem has_gfn {k : Nat} (D : DefAt K mg "_is_good_function" s_is_good_function p_is_good_function) (B : Bn mg) (c1 : Has P w K mg base k "_looks_like_function" p_looks_like_function (spLooks K)) (c2 : Has P w K mg base k "_is_good_name" p_is_good_name spGName) (c3 : Has P w K mg base k "_are_good_parameters" p_are_good_parameters (spGPs K)) (c4 : Has P w K mg base k "_is_good_body" p_is_good_body (spGBody K)) :
    Has P w K mg base (k + 1) "_is_good_function" p_is_good_function (spGFn K) := by
  obtain ⟨f, fd, F, hm, hb⟩ := D.ex
  obtain ⟨_, _, c_looks_like_function⟩ := c1
  obtain ⟨_, _, c_is_good_name⟩ := c2
  obtain ⟨_, _, c_are_good_parameters⟩ := c3
  obtain ⟨_, _, c_is_good_body⟩ := c4
  refine ⟨f, fd, F.ok sc_is_good_function (fun vs H Q E h => ?_) (fun cdv A outer s H vs Q E hr h => ?_), hm, F.kp, hb⟩
  · obtain ⟨_, _, _, _, rfl, _⟩ := h
    rfl
  obtain ⟨v, cd, t, fs, rfl, tv, wt, cD, sz, q⟩ := h
  refine ⟨_, (pss_cons (ps_if (pt_not (pt_val (cal c_looks_like_function hr rfl (pa_cons (pv 0) pa_nil)))) (pss_one (ps_ret pe_bl)) pss_nil)
    (pss_cons (ps_asg (pv 0) (pg_tup (by rfl) (pgs_cons (pg_name (i := 3) sc_is_good_function.nd rfl (.inl rfl)) (pgs_cons (pg_name (i := 4) sc_is_good_function.nd rfl (.inl rfl)) (pgs_cons (pg_name (i := 5) sc_is_good_function.nd rfl (.inl rfl)) pgs_nil)))))
    (pss_cons (ps_if (PW.pt (pw_or (pt_not (pt_val (cal c_is_good_name hr rfl (pa_cons (pv 3) (pa_cons (pv 2) pa_nil))))) (pw_or1 (pt_not (pt_val (cal c_are_good_parameters hr rfl (pa_cons (pv 4) pa_nil))))))) (pss_one (ps_ret pe_bl)) pss_nil)
    (pss_one (ps_ret (cal c_is_good_body hr rfl (pa_cons (pv 5) (pa_cons (pv 4) (pa_cons (pv 1) pa_nil))))))))), ?_⟩
  refine ⟨_, rfl, v, t, rfl, tv, fun b hb1 => ⟨_, rfl, ?_⟩⟩
  cases b with
  | false => exact iteT (q false H ⟨fun h => (by cases h), fun ⟨n, ps, bd, e, _⟩ => (by have := hb1.mpr ⟨n, ps, bd, e⟩; cases this)⟩ Keep.refl)
  | true =>
    refine iteF ?_
    obtain ⟨n, ps, bd, rfl⟩ := hb1.mp rfl
    have uniq : GoodFn fs (.l [.w n, .l ps, bd]) ↔ GoodName fs.length n ∧ GoodPs ps ∧ GoodE fs ps bd := by
      constructor
      · rintro ⟨n', ps', bd', e, h⟩
        have h1 := Tree.l.inj e
        have h2 := Tree.w.inj (List.cons.inj h1).1
        have h3 := (List.cons.inj h1).2
        have h4 := Tree.l.inj (List.cons.inj h3).1
        have h5 := (List.cons.inj (List.cons.inj h3).2).1
        rw [h2, h4, h5]
        exact h
      · intro h
        exact ⟨n, ps, bd, rfl, h⟩
    obtain ⟨a, vs, rfl, hS, r⟩ := tv.list
    obtain ⟨x, y, z, rfl, r0, r1, r2⟩ := r.three
    have e0 := r0.word
    subst e0
    have wn := wt.list.head.word
    refine ⟨_, rfl, a, _, rfl, hS, rfl, _, _, rfl, y, _, rfl, z, _, rfl, rfl, ?_⟩
    refine ⟨_, rfl, _, rfl, n, fs.length, rfl, wn.ascii, wn.ne, wn.len, fun b1 hb2 => ⟨_, rfl, ?_⟩⟩
    cases b1 with
    | false => exact iteT (iteT (q false H ⟨fun h => (by cases h), fun h => (by have := hb2.mpr (uniq.mp h).1; cases this)⟩ Keep.refl))
    | true =>
      refine iteF ?_
      refine ⟨_, rfl, y, ps, rfl, r1, fun b2 H1 hb3 k1 => ⟨_, rfl, ?_⟩⟩
      cases b2 with
      | false => exact iteT (q false H1 ⟨fun h => (by cases h), fun h => (by have := hb3.mpr (uniq.mp h).2.1; cases this)⟩ k1)
      | true =>
        refine iteF ?_
        have gp := hb3.mp rfl
        rw [size_l, sizes_cons, sizes_cons, sizes_cons, sizes_nil] at sz
        refine ⟨_, rfl, _, rfl, _, rfl, z, y, cd, bd, ps, fs, rfl, r2.keep k1, r1.keep k1, fun t m => ?_, cD.keep k1, by omega, fun b3 H2 hb4 k2 => ?_⟩
        · obtain ⟨i, hi⟩ := List.mem_iff_getElem?.mp m
          obtain ⟨x', e, _⟩ := gp.2 i t hi
          rw [e]; rfl
        · refine q b3 H2 ?_ (k1.trans k2)
          rw [uniq, hb4]
          exact ⟨fun h => ⟨hb2.mp rfl, gp, h⟩, fun h => h.2.2⟩
/-! ### _called_functions -/
def spCalled (K : PySem.W.Frag) : Sp := fun vs H Q _ => ∃ (v : V) (fs : List Tree), vs = [v] ∧ Tr K H v (.l fs) ∧ fs.length ≤ 300000 ∧ ∀ (cd : Addr) (H' : Hp), CallD H' cd fs → Keep [] H H' → H cd = none → Q (.ref cd) H'
theorem has_called {k : Nat} (D : DefAt K mg "_called_functions" s_called_functions p_called_functions) (B : Bn mg) (c1 : Has P w K mg base k "_looks_like_function" p_looks_like_function (spLooks K)) :
    Has P w K mg base (k + 1) "_called_functions" p_called_functions (spCalled K) := by
  obtain ⟨f, fd, F, hm, hb⟩ := D.ex
  obtain ⟨_, _, c_looks_like_function⟩ := c1
  refine ⟨f, fd, F.ok sc_called_functions (fun vs H Q E h => ?_) (fun cdv A outer s H vs Q E hr h => ?_), hm, F.kp, hb⟩
  · obtain ⟨_, _, rfl, _⟩ := h
    rfl
  obtain ⟨v, fs, rfl, tv, hl, q⟩ := h
  refine ⟨_, (pss_cons (ps_set (i := 1) sc_called_functions.nd rfl (.inl rfl) pe_dnewK)
    (pss_cons (ps_for PassesOwn.never rfl (pi_tup (pv 0)) (pg_name (i := 2) sc_called_functions.nd rfl (.inl rfl))
      (pss_one (ps_if (PW.pt (pw_and (pt_val (cal c_looks_like_function hr rfl (pa_cons (pv 2) pa_nil))) (pw_and1 (pt_cmp (pc_dnotin (hu_of hr) (pe_ix ix_tup (pv 2) pe_int (fun _ _ => rfl)) (pv 1)))))) (pss_one (ps_dput (hu_of hr) (pv 1) (pe_ix ix_tup (pv 2) pe_int (fun _ _ => rfl)) (pe_callB call_len_seq (by rfl) B.len PySem.boot_len (pa_cons (pe_ix ix_tup (pv 2) pe_int (fun _ _ => rfl)) pa_nil)) rfl)) pss_nil)))
    (pss_one (ps_ret (pv 1))))), ?_⟩
  obtain ⟨a, vs, rfl, hS, r⟩ := tv.list
  have lv := r.length
  refine fun cd nc => ?_
  refine ⟨_, rfl, a, rfl, ⟨_, (Keep.new (S := []) nc).sqT hS⟩, ?_⟩
  refine for_tup (K := K) (a := a) (xs := vs) (fun i σ H' => ∃ (y2 : Option V) (kvs : List (L2.Key × V)), σ = [some (.ref a), some (.ref cd), y2] ∧ Keep [] H H' ∧ H' cd = some (.dK kvs) ∧ kvs.length ≤ i ∧ ∀ x : List Nat, valV kvs (Sum.inr (tx x)) = (arity (fs.take i) x).map fun k => V.int (k : Nat))
    ⟨none, [], rfl, Keep.new nc, upd_same, Nat.le_refl _, fun x => rfl⟩ (fun i σ H' _ pw => ?_) (fun i z σ H1 hz pw => ?_) (fun σ H1 pw => ?_)
  · obtain ⟨_, _, _, k1, _⟩ := pw
    exact k1.sqT hS
  · obtain ⟨y2, kvs, rfl, k1, eD, ln, rel⟩ := pw
    have il : i < vs.length := (List.getElem?_eq_some_iff.mp hz).1
    have hg : fs[i]? = some fs[i] := List.getElem?_eq_getElem (by omega)
    obtain ⟨z', hz', tz⟩ := r.get hg
    rw [hz] at hz'
    cases hz'
    have tk : fs.take (i + 1) = fs.take i ++ [fs[i]] := by rw [List.take_add_one, hg]; rfl
    generalize fs[i] = t at hg tz tk
    have tz1 := tz.keep k1
    refine ⟨_, rfl, z, t, rfl, tz1, fun b hb1 => ⟨_, rfl, ?_⟩⟩
    cases b with
    | false =>
      refine iteF ?_
      have nf : fn? t = none := by
        cases h : fn? t with
        | none => rfl
        | some p =>
          obtain ⟨n, ps, bd⟩ := p
          have := hb1.mpr ⟨n, ps, bd, fn?_iff.mp h⟩
          cases this
      refine ⟨_, _, rfl, k1, eD, by omega, fun x => ?_⟩
      rw [rel, tk, arity_app]
      cases arity (fs.take i) x with
      | some k0 => rfl
      | none =>
        show _ = (arity [t] x).map _
        rw [arity_one_no nf]
    | true =>
      refine iteT ?_
      obtain ⟨n, ps, bd, rfl⟩ := hb1.mp rfl
      have ar : ∀ x, arity [Tree.l [.w n, .l ps, bd]] x = if n = x then some ps.length else none := fun x => arity_one (fn?_iff.mpr rfl)
      obtain ⟨za, zvs, rfl, hZ, rZ⟩ := tz1.list
      obtain ⟨x0, y0, z0, rfl, r0, r1, r2⟩ := rZ.three
      have e0 := r0.word
      subst e0
      refine ⟨_, rfl, za, _, _, _, rfl, rfl, hZ, atI_zero _ _, _, rfl, cd, _, rfl, DGet.k (k := Sum.inr (tx n)) eD, ?_⟩
      have rn := rel n
      rw [rn]
      cases ha : arity (fs.take i) n with
      | some k0 =>
        refine ⟨_, rfl, iteF ?_⟩
        refine ⟨_, _, rfl, k1, eD, by omega, fun x => ?_⟩
        rw [rel, tk, arity_app]
        cases hx : arity (fs.take i) x with
        | some k1 => rfl
        | none =>
          show _ = (arity [_] x).map _
          rw [ar]
          by_cases e : n = x
          · rw [e, hx] at ha; cases ha
          · rw [if_neg e]
      | none =>
        obtain ⟨pa, pvs, rfl, hP, rP⟩ := r1.list
        refine ⟨_, rfl, iteT ?_⟩
        refine ⟨_, rfl, za, _, _, _, rfl, rfl, hZ, atI_nat (j := 1) rfl, pa, pvs, rfl, .inr hP, _, rfl, _, rfl, za, _, _, _, rfl, rfl, hZ, atI_zero _ _, cd, _, rfl, DPut.k (k := Sum.inr (tx n)) eD ?_, ?_⟩
        · exact Nat.lt_of_le_of_lt (show kvs.length ≤ 300000 by omega) (by decide)
        refine ⟨_, _, rfl, k1.updNew nc, upd_same, Nat.le_trans (length_putK _ _ _) (by omega), fun x => ?_⟩
        rw [valV_put, tk, arity_app]
        by_cases e : n = x
        · subst e
          rw [if_pos rfl, ha]
          show _ = (arity [_] n).map _
          rw [ar, if_pos rfl, rP.length]
          rfl
        · rw [if_neg (fun z => e (tx_inj (Sum.inr.inj z)).symm), rel]
          cases hx : arity (fs.take i) x with
          | some k1 => rfl
          | none =>
            show _ = (arity [_] x).map _
            rw [ar, if_neg e]
  · obtain ⟨y2, kvs, rfl, k1, eD, ln, rel⟩ := pw
    refine ⟨_, rfl, ?_⟩
    rw [lv, List.take_length] at rel
    exact q cd H1 ⟨kvs, eD, rel⟩ k1 nc
end
end Og

namespace Og
open PySem PySem.Spec PyProof.Rows L2
open PySem.NumText (AllDigits digitsVal)
section
variable {P : Program} {w : World} {K : PySem.W.Frag} {mg : Str → Option Value} {base : Heap}
/-! ### check_program -/
/-- what is wished where an error with the number n leaves -/
def Wish (f : Str) (C : Addr) (n : Nat) (H : Hp) (E : XK) : Prop := ∀ (d : Addr) (H' : Hp), H' d = some (.xd [(f, .int n)]) → Keep [] H H' → E (.ref C) (some d) H'
def spCheckX (K : PySem.W.Frag) (C : Addr) : Sp := fun vs H Q E => ∃ (v : V) (t : Tree), vs = [v] ∧ Tr K H v t ∧ WT t ∧ t.size ≤ 300000 ∧ (∀ fs, t = .l fs → fs.length ≤ 1000) ∧ (∀ n, BadNo t (some n) → Wish "function" C n H E) ∧ (∀ H' : Hp, BadNo t none → Keep [] H H' → Q .non H')
theorem has_checkX {C G fI : Addr} {fdI : FuncData} {k : Nat} (T_BadProgram : ErrT K mg "BadProgram" "BadProgram.__init__" "function" s_BadProgram_init C G fI fdI) (D : DefAt K mg "check_program" s_check_program p_check_program) (B : Bn mg)
    (c1 : Has P w K mg base (k + 3) "_called_functions" p_called_functions (spCalled K)) (c2 : Has P w K mg base (k + 3) "_is_good_function" p_is_good_function (spGFn K)) : HasX P w K mg base (k + 4) "check_program" p_check_program (spCheckX K C) := by
  obtain ⟨f, fd, F, hm, hb⟩ := D.ex
  obtain ⟨_, _, c_called_functions⟩ := c1
  obtain ⟨_, _, c_is_good_function⟩ := c2
  have ok_BadProgram := ok_BadProgram' (P := P) (w := w) (base := base) T_BadProgram
  refine ⟨f, fd, F.okX sc_check_program (fun vs H Q E h => ?_) (fun cdv A outer s H vs Q E hr h => ?_), hm, F.kp, hb⟩
  · obtain ⟨_, _, rfl, _⟩ := h
    rfl
  obtain ⟨v, t, rfl, tv, wt, sz, few, bad, q⟩ := h
  have hr_BadProgram := hr.mono (show 2 ≤ k + 3 by omega)
  refine ⟨_, (pss_cons (ps_if (PW.pt (pw_or (pt_not (pt_val (pe_callB call_isi (by rfl) B.isinstance (by decide +kernel) (pa_cons (pv 0) (pa_cons (pe_bltn (v := .ty "tuple") rfl B.tuple (by decide +kernel) rfl) pa_nil))))) (pw_or1 (pt_not (pt_truth (pv 0) (by intro _; rfl)))))) (pss_one (ps_raise rfl (takes_of rfl rfl rfl rfl) (pmk_oex T_BadProgram.ox T_BadProgram.iC T_BadProgram.tI ok_BadProgram hr_BadProgram T_BadProgram.bi .nil pass0 rfl T_BadProgram.gC (pa_cons pe_int pa_nil)))) pss_nil)
    (pss_cons (ps_set (i := 1) sc_check_program.nd rfl (.inl rfl) (cal c_called_functions hr rfl (pa_cons (pv 0) pa_nil)))
    (pss_cons (ps_set (i := 2) sc_check_program.nd rfl (.inl rfl) (pe_callTy0 cr_set0K (by rfl) B.set (by decide +kernel)))
    (pss_one (ps_for (passes_of rfl) rfl (pi_enumT (by rfl) B.enumerate (pa_cons (pv 0) pa_nil)) (pg_tup (by rfl) (pgs_cons (pg_name (i := 3) sc_check_program.nd rfl (.inl rfl)) (pgs_cons (pg_name (i := 4) sc_check_program.nd rfl (.inl rfl)) pgs_nil)))
      (pss_cons (ps_if (pt_not (pt_val (cal c_is_good_function hr rfl (pa_cons (pv 4) (pa_cons (pv 1) (pa_cons (pe_callB call_len_seq (by rfl) B.len PySem.boot_len (pa_cons (pv 0) pa_nil)) pa_nil)))))) (pss_one (ps_raise rfl (takes_of rfl rfl rfl rfl) (pmk_oex T_BadProgram.ox T_BadProgram.iC T_BadProgram.tI ok_BadProgram hr_BadProgram T_BadProgram.bi .nil pass0 rfl T_BadProgram.gC (pa_cons (pv 3) pa_nil)))) pss_nil)
      (pss_cons (ps_if (pt_cmpR or_sinK (pe_ix ix_tup (pv 4) pe_int (fun _ _ => rfl)) (pv 2) (by rfl)) (pss_one (ps_raise rfl (takes_of rfl rfl rfl rfl) (pmk_oex T_BadProgram.ox T_BadProgram.iC T_BadProgram.tI ok_BadProgram hr_BadProgram T_BadProgram.bi .nil pass0 rfl T_BadProgram.gC (pa_cons (pv 3) pa_nil)))) pss_nil)
      (pss_one (ps_expr (pe_saddK (pv 2) (pa_cons (pe_ix ix_tup (pv 4) pe_int (fun _ _ => rfl)) pa_nil))))))))))), ?_⟩
  have raise : ∀ (n : Nat) (H1 : Hp), Keep [] H H1 → n ≤ 400000 → BadNo t (some n) → ∀ a : Addr, H1 a = none → spErr K "function" [V.ref a, V.int n] (upd H1 a (exo a C none)) (fun v H2 => v = .non ∧ ∃ (d : Addr) (fs : List (Str × V)), H2 a = some (exo a C (some d)) ∧ H2 d = some (exd d fs) ∧ H1 d = none ∧ E (.ref C) (some d) (upd (del H2 a) d (.xd fs))) (fun _ _ _ => False) := by
    intro n H1 kk hn hres a na
    refine ⟨a, C, n, rfl, T_BadProgram.ox, T_BadProgram.no, by omega, upd_same, fun dx hd ne => ⟨rfl, dx, _, upd_same, by rw [upd_ne ne, upd_same], by rw [upd_ne ne] at hd; exact hd, bad n hres dx _ upd_same (kk.trans (keep_raised na hd ne))⟩⟩
  obtain ⟨ty, u, q1, q2, q3⟩ := isi_tup tv
  refine ⟨_, rfl, _, _, ty, u, _, rfl, q1, q2, q3, _, rfl, ?_⟩
  cases t with
  | w x =>
    refine iteT (iteT ⟨by show 1 ≤ 1000; decide, fun a na => ?_⟩)
    exact raise 0 H Keep.refl (by omega) rfl a na
  | l fs =>
    refine iteF ?_
    obtain ⟨a, vs, rfl, hS, r⟩ := tv.list
    have lv := r.length
    have szl := sz
    rw [size_l] at szl
    have lsz := len_sizes fs
    have few := few fs rfl
    refine ⟨_, rfl, _, tru_tup hS, ?_⟩
    rw [emp_iff r]
    by_cases hne : fs = []
    · subst hne
      refine iteT ⟨by show 1 ≤ 1000; decide, fun a na => ?_⟩
      exact raise 0 H Keep.refl (by omega) (.inl ⟨rfl, rfl⟩) a na
    have b0 : fs.isEmpty = false := by
      cases fs with
      | nil => exact absurd rfl hne
      | cons _ _ => rfl
    rw [b0]
    refine iteF ?_
    refine ⟨_, rfl, _, fs, rfl, tv, by omega, fun cd H1 cD k1 ncd => ?_⟩
    refine ⟨rfl, fun e nE => ?_⟩
    have nE0 : H e = none := k1.free nE
    have cde : cd ≠ e := let ⟨_, ek, _⟩ := cD; ne_of_none ek nE
    have k2 : Keep [] H1 (upd H1 e (SetK P w e (fun _ => false) 0)) := Keep.new nE
    refine ⟨_, rfl, a, vs, rfl, (k1.trans k2).sqT hS, ?_⟩
    refine for_enumT (K := K) (a := a) (xs := vs) (fun i σ H' => ∃ (y3 y4 : Option V) (S : L2.Key → Bool) (n : Nat), σ = [some (.ref a), some (.ref cd), some (.ref e), y3, y4] ∧ Keep [] H H' ∧ CallD H' cd fs ∧ H' e = some (SetK P w e S n) ∧ n ≤ i ∧
        (∀ x : List Nat, S (Sum.inr (tx x)) = true ↔ Dupe fs i x) ∧ ∀ j, j < i → GoodAt fs j)
      ⟨none, none, _, 0, rfl, k1.trans k2, cD.keep k2, upd_same, Nat.le_refl _, fun x => ⟨fun h => (by cases h), fun ⟨j, _, h, _⟩ => absurd h (Nat.not_lt_zero _)⟩, fun j h => absurd h (Nat.not_lt_zero _)⟩ (fun i σ H' pw => ?_) (fun i z T σ H3 hz pw nT => ?_) (fun σ H3 pw => ?_)
    · obtain ⟨_, _, _, _, _, k3, _⟩ := pw
      exact k3.sqT hS
    · obtain ⟨y3, y4, S, n, rfl, k3, cD3, eS, ni, hS1, good⟩ := pw
      have il : i < vs.length := (List.getElem?_eq_some_iff.mp hz).1
      have hg : fs[i]? = some fs[i] := List.getElem?_eq_getElem (by omega)
      have mem := List.getElem_mem (show i < fs.length by omega)
      obtain ⟨z', hz', tz⟩ := r.get hg
      rw [hz] at hz'
      cases hz'
      have wz := wt.list.all _ mem
      have sg := size_of_get hg
      generalize fs[i] = u at hg tz wz sg mem
      have k4 : Keep [] H3 (upd H3 T (.tup [.int (i : Nat), z])) := Keep.new nT
      have eS4 : (upd H3 T (.tup [.int (i : Nat), z])) e = some (SetK P w e S n) := k4.get eS (by simp)
      have eT : (upd H3 T (.tup [.int (i : Nat), z])) T = some (.tup [.int (i : Nat), z]) := upd_same
      generalize upd H3 T (.tup [.int (i : Nat), z]) = H4 at k4 eS4 eT
      have k4' := k3.trans k4
      have cD4 := cD3.keep k4
      refine ⟨T, _, rfl, SqT.of_tup eT, rfl, _, _, rfl, _, _, rfl, rfl, ?_⟩
      have badi : ¬ GoodAt fs i → BadNo (.l fs) (some i) := fun h => .inr ⟨hne, .inr ⟨i, rfl, by omega, h, good⟩⟩
      refine ⟨_, rfl, _, rfl, _, rfl, a, vs, rfl, .inr (k4'.sqT hS), z, cd, u, fs, ?_, tz.keep k4', wz, cD4, by omega, fun b H5 hb1 k5 => ⟨_, rfl, ?_⟩⟩
      · rw [lv]; rfl
      have k5' := k4'.trans k5
      cases b with
      | false =>
        refine iteT ⟨_, rfl, by show 1 ≤ 1000; decide, fun a na => ?_⟩
        refine raise i H5 k5' (by omega) (badi fun ⟨n', ps, bd, e1, g1, g2, g3, _⟩ => ?_) a na
        rw [hg] at e1
        have := hb1.mpr ⟨n', ps, bd, Option.some.inj e1, g1, g2, g3⟩
        cases this
      | true =>
        refine iteF ?_
        obtain ⟨nm, ps, bd, rfl, g1, g2, g3⟩ := hb1.mp rfl
        have tz5 := tz.keep k5'
        obtain ⟨za, zvs, rfl, hZ, rZ⟩ := tz5.list
        obtain ⟨x0, y0, z0, rfl, r0, r1, r2⟩ := rZ.three
        have e0 := r0.word
        subst e0
        have eS5 := k5.get eS4 (by simp)
        refine ⟨_, rfl, za, _, _, _, rfl, rfl, hZ, atI_zero _ _, _, rfl, Sum.inr (tx nm), e, S, n, rfl, rfl, eS5, S (Sum.inr (tx nm)), rfl, ?_⟩
        have gi : GoodAt fs i ↔ ¬ Dupe fs i nm := by
          constructor
          · rintro ⟨n', ps', bd', e1, _, _, _, h⟩
            rw [hg] at e1
            have h1 := Tree.l.inj (Option.some.inj e1)
            have h2 := Tree.w.inj (List.cons.inj h1).1
            rw [h2]; exact h
          · intro h
            exact ⟨nm, ps, bd, hg, g1, g2, g3, h⟩
        cases hk : S (Sum.inr (tx nm)) with
        | true =>
          refine iteT ⟨_, rfl, by show 1 ≤ 1000; decide, fun a na => ?_⟩
          exact raise i H5 k5' (by omega) (badi fun h => gi.mp h ((hS1 nm).mp hk)) a na
        | false =>
          refine iteF ?_
          have nd : ¬ Dupe fs i nm := fun h => by rw [(hS1 nm).mpr h] at hk; cases hk
          refine ⟨_, rfl, ⟨_, _, _, rfl, eS5⟩, _, rfl, za, _, _, _, rfl, rfl, hZ, atI_zero _ _, e, Sum.inr (tx nm), S, n, rfl, rfl, eS5, ?_, ?_⟩
          · exact Nat.lt_of_le_of_lt (show n + 1 ≤ 1001 by omega) (by decide)
          refine ⟨_, _, _, _, rfl, k5'.updNew nE0, ?_, upd_same, ?_, fun y => ?_, fun j h => ?_⟩
          · obtain ⟨kvs, ek, rel⟩ := cD4.keep k5
            exact ⟨kvs, by rw [upd_ne cde]; exact ek, rel⟩
          · split <;> omega
          · rw [Bool.or_eq_true, decide_eq_true_eq, hS1]
            constructor
            · rintro (⟨j, rr, h1, h2⟩ | h)
              · exact ⟨j, rr, by omega, h2⟩
              · have := tx_inj (Sum.inr.inj h)
                subst this
                exact ⟨i, _, Nat.lt_succ_self _, hg⟩
            · rintro ⟨j, rr, h1, h2⟩
              by_cases ji : j < i
              · exact .inl ⟨j, rr, ji, h2⟩
              · have : j = i := by omega
                subst this
                rw [hg] at h2
                right
                have := Tree.w.inj (List.cons.inj (Tree.l.inj (Option.some.inj h2))).1
                rw [this]
          · by_cases ji : j < i
            · exact good j ji
            · have : j = i := by omega
              subst this
              exact gi.mpr nd
    · obtain ⟨y3, y4, S, n, rfl, k3, cD3, eS, ni, hS1, good⟩ := pw
      exact q H3 (.inr ⟨hne, .inl ⟨rfl, fun i h => good i (by omega)⟩⟩) k3
end
end Og

namespace Og
open PySem PySem.Spec PyProof.Rows L2
/-! ### written words and tuples of such, as trees -/
def tL (K : PySem.W.Frag) (t : Tree) : TE := fun _ H Q => ∀ (v : V) (H' : Hp), Tr K H' v t → Keep [] H H' → Q v H'
def tLs (K : PySem.W.Frag) (ts : List Tree) : TA := fun _ H R => ∀ (vs : List V) (H' : Hp), Trs K H' vs ts → Keep [] H H' → R vs H'
section
variable {X : Cx} {e : Expr} {es : List Expr} {t : Tree} {ts : List Tree}
theorem pe_weak {e : Expr} {t t' : TE} (h : PE X e t) (w : ∀ σ H Q, t' σ H Q → t σ H Q) : PE X e t' := ⟨fun pins s σ H Q I q => h.run pins s σ H Q I (w σ H Q q)⟩
theorem pa_weak {es : List Expr} {t t' : TA} (h : PA X es t) (w : ∀ σ H R, t' σ H R → t σ H R) : PA X es t' := ⟨fun pos pins s σ H R I q => h.run pos pins s σ H R I (w σ H R q)⟩
theorem pe_lw {s : Str} {k : Nat} {pos : Pos} {x : List Nat} (h : s = tx x) : PE X (.Constant (.str s) k pos) (tL X.K (.w x)) :=
  pe_weak pe_str fun σ H Q q => q _ H (by rw [h]; exact tr_w) Keep.refl
theorem pl_nil : PA X [] (tLs X.K []) := pa_weak pa_nil fun σ H R q => q [] H trs_nil Keep.refl
theorem pl_cons (h : PE X e (tL X.K t)) (r : PA X es (tLs X.K ts)) (hs : starEach (e :: es) X.env = (false, eval e X.env) :: starEach es X.env := by rfl) : PA X (e :: es) (tLs X.K (t :: ts)) :=
  pa_weak (pa_cons h r hs) fun σ H R q v H1 tv k1 vs H2 tvs k2 => q (v :: vs) H2 (trs_cons (tv.keep k2) tvs) (k1.trans k2)
theorem pe_lt {k : Nat} {pos : Pos} (r : PA X es (tLs X.K ts)) (l : ts.length ≤ sizeLine) : PE X (.Tuple es k pos) (tL X.K (.l ts)) :=
  pe_weak (pe_tup r) fun σ H Q q vs H1 tvs k1 => ⟨by rw [tvs.length]; exact l, fun p np => q _ _ (tr_tup upd_same (tvs.keep (Keep.new (S := []) np))) (k1.trans (Keep.new np))⟩
end
/-! ### one of some written words -/
def isWordB : List Nat → Bool
  | [] => false
  | c :: cs => decide (97 ≤ c) && decide (c ≤ 122) && cs.all (fun y => (decide (97 ≤ y) && decide (y ≤ 122)) || (decide (48 ≤ y) && decide (y ≤ 57))) && decide (cs.length ≤ 11)
theorem isWord_of : ∀ {x : List Nat}, isWordB x = true → IsWord x
  | [], h => by cases h
  | c :: cs, h => by
    simp only [isWordB, Bool.and_eq_true, decide_eq_true_eq, List.all_eq_true, Bool.or_eq_true] at h
    exact ⟨c, cs, rfl, h.1.1, h.1.2, h.2⟩
theorem pick {L : List (List Nat)} {xs : List V} (e : xs = L.map fun c => V.str (tx c)) (w : L.all isWordB = true) {j : Int} (h0 : 0 ≤ j) (h1 : j < (L.length : Int)) : ∃ c, atI xs j = some (.str (tx c)) ∧ IsWord c ∧ c ∈ L := by
  obtain ⟨n, rfl⟩ := Int.eq_ofNat_of_zero_le h0
  have l : n < L.length := by omega
  refine ⟨L[n], ?_, isWord_of (List.all_eq_true.mp w _ (List.getElem_mem l)), List.getElem_mem l⟩
  exact atI_nat (by rw [e, List.getElem?_map, List.getElem?_eq_getElem l]; rfl)
mutual
def wtB : Tree → Bool
  | .w x => isWordB x
  | .l ts => wtsB ts
def wtsB : List Tree → Bool
  | [] => true
  | t :: ts => wtB t && wtsB ts
end
mutual
theorem wt_of : ∀ {t : Tree}, wtB t = true → WT t
  | .w x, h => by rw [wtB] at h; exact wt_w (isWord_of h)
  | .l ts, h => by rw [wtB] at h; exact wt_l (wts_of h)
theorem wts_of : ∀ {ts : List Tree}, wtsB ts = true → WTs ts
  | [], _ => wts_nil
  | t :: ts, h => by
    rw [wtsB, Bool.and_eq_true] at h
    exact wts_cons (wt_of h.1) (wts_of h.2)
end
mutual
def deepB : Nat → Tree → Bool
  | _, .w _ => true
  | 0, .l _ => false
  | n + 1, .l ts => deepsB n ts
def deepsB : Nat → List Tree → Bool
  | _, [] => true
  | n, t :: ts => deepB n t && deepsB n ts
end
mutual
theorem deep_of : ∀ {n : Nat} {t : Tree}, deepB n t = true → Deep n t
  | n, .w x, _ => deep_w n x
  | 0, .l _, h => by rw [deepB] at h; cases h
  | n + 1, .l ts, h => by rw [deepB] at h; exact deeps_of h
theorem deeps_of : ∀ {n : Nat} {ts : List Tree}, deepsB n ts = true → ∀ t ∈ ts, Deep n t
  | n, [], _ => fun t m => absurd m (List.not_mem_nil)
  | n, u :: ts, h => fun t m => by
    rw [deepsB, Bool.and_eq_true] at h
    rcases List.mem_cons.mp m with e | m
    · rw [e]; exact deep_of h.1
    · exact deeps_of h.2 t m
end
end Og

namespace Og
open PySem PySem.Spec PyProof.Rows L2
section
variable {P : Program} {w : World} {K : PySem.W.Frag} {mg : Str → Option Value} {base : Heap}
theorem pass_never {X : Cx} : Passes (L2.CX X.prog X.w) X E0 := fun _ _ _ _ _ _ _ h => by
  obtain ⟨_, _, _, _, _, _, _, _, _, _, _, _, h⟩ := h
  exact h.elim
/-- the number of parameters of the first function -/
def firstPs : Tree → Nat
  | .l (.l [_, .l ps, _] :: _) => ps.length
  | _ => 0
def nameOf : Tree → List Nat
  | .l (.w n :: _) => n
  | _ => []
def Fits (K : PySem.W.Frag) (H : Hp) (v : V) (t : Tree) : Prop := Tr K H v t ∧ WT t ∧ t.size ≤ 300000 ∧ ∀ fs, t = .l fs → fs.length ≤ 1000
def spInputsX (K : PySem.W.Frag) (C : Addr) : Sp := fun vs H Q E => ∃ (v : V) (t : Tree), vs = [v] ∧ Fits K H v t ∧ (∀ n, BadNo t (some n) → Wish "function" C n H E) ∧ (∀ H' : Hp, BadNo t none → Keep [] H H' → Q (.int (firstPs t : Nat)) H')
def spNamesX (K : PySem.W.Frag) (C : Addr) : Sp := fun vs H Q E => ∃ (v : V) (t : Tree), vs = [v] ∧ Fits K H v t ∧ (∀ n, BadNo t (some n) → Wish "function" C n H E) ∧ (∀ (fs : List Tree) (L : Addr) (H' : Hp), t = .l fs → BadNo t none → H L = none → H' L = some (.lst (fs.map fun f => V.str (tx (nameOf f)))) → Keep [] H H' → Q (.ref L) H')
theorem good_three {fs : List Tree} {i : Nat} (hi : i < fs.length) (h : BadNo (.l fs) none) : ∃ n ps b, fs[i]? = some (.l [.w n, .l ps, b]) := by
  rcases h with ⟨_, e⟩ | ⟨_, ⟨_, all⟩ | ⟨_, e, _⟩⟩
  · cases e
  · obtain ⟨n, ps, b, e, _⟩ := all i hi
    exact ⟨n, ps, b, e⟩
  · cases e
theorem good_list {t : Tree} (h : BadNo t none) : ∃ fs, t = .l fs ∧ fs ≠ [] := by
  cases t with
  | w x => cases h
  | l fs =>
    rcases h with ⟨_, e⟩ | ⟨ne, _⟩
    · cases e
    · exact ⟨fs, rfl, ne⟩
theorem has_inputsX {C : Addr} {k : Nat} (D : DefAt K mg "inputs_of" s_inputs_of p_inputs_of) (B : Bn mg) (c1 : HasX P w K mg base k "check_program" p_check_program (spCheckX K C)) :
    HasX P w K mg base (k + 1) "inputs_of" p_inputs_of (spInputsX K C) := by
  obtain ⟨f, fd, F, hm, hb⟩ := D.ex
  obtain ⟨_, _, c_check_program⟩ := c1
  refine ⟨f, fd, F.okX sc_inputs_of (fun vs H Q E h => ?_) (fun cdv A outer s H vs Q E hr h => ?_), hm, F.kp, hb⟩
  · obtain ⟨_, _, rfl, _⟩ := h
    rfl
  obtain ⟨v, t, rfl, ⟨tv, wt, sz, few⟩, bad, q⟩ := h
  refine ⟨_, (pss_cons (ps_expr (calX c_check_program hr rfl (passes_call (takes_of rfl rfl rfl rfl) (fun _ _ _ _ h => h)) (pa_cons (pv 0) pa_nil)))
    (pss_one (ps_ret (pe_callB call_len_seq (by rfl) B.len PySem.boot_len (pa_cons (pe_ix ix_tup (pe_ix ix_tup (pv 0) pe_int (fun _ _ => rfl)) pe_int (fun _ _ => rfl)) pa_nil))))), ?_⟩
  refine ⟨_, rfl, v, t, rfl, tv, wt, sz, few, bad, fun H1 good k1 => ?_⟩
  obtain ⟨fs, rfl, ne⟩ := good_list good
  have l0 : 0 < fs.length := List.length_pos_iff.mpr ne
  obtain ⟨n, ps, b, e0⟩ := good_three l0 good
  have q1 := q H1 good k1
  have ef : firstPs (.l fs) = ps.length := by
    cases fs with
    | nil => exact absurd rfl ne
    | cons f0 r =>
      rw [Option.some.inj e0]
      rfl
  rw [ef] at q1
  obtain ⟨a, vs, rfl, hS, r⟩ := (tv.keep k1).list
  obtain ⟨v0, hv0, t0⟩ := r.get e0
  obtain ⟨oa, ovs, rfl, hO, rO⟩ := t0.list
  obtain ⟨x0, y0, z0, rfl, r0, r1, r2⟩ := rO.three
  obtain ⟨pa, pvs, rfl, hP, rP⟩ := r1.list
  refine ⟨_, rfl, a, vs, _, _, rfl, rfl, hS, atI_nat (j := 0) hv0, oa, _, _, _, rfl, rfl, hO, rfl, pa, pvs, rfl, .inr hP, ?_⟩
  rw [rP.length]
  exact q1
end
end Og

namespace Og
open PySem PySem.Spec PyProof.Rows L2
/-! ### _law_value, _law_expression -/
def MV : Nat → Nat
  | 0 => 1
  | n + 1 => 1 + 3 * MV n
theorem MV.pos (n : Nat) : 1 ≤ MV n := by
  cases n with
  | zero => exact Nat.le_refl _
  | succ n => show 1 ≤ 1 + 3 * MV n; omega
def vwords : List (List Nat) := [[121, 101, 115], [97], [113, 117, 111, 116, 101], [102, 48], [98, 50], [100, 111, 110, 101], [115, 112, 105, 110], [120]]
section
variable {P : Program} {w : World} {K : PySem.W.Frag} {mg : Str → Option Value} {base : Heap}
def spVal (K : PySem.W.Frag) (n : Nat) : Sp := fun vs H Q _ => ∃ (h d : Addr), vs = [.ref h, .int n] ∧ Hd H h d ∧
  ∀ (v : V) (t : Tree) (H' : Hp), Tr K H' v t → WT t → t.size ≤ MV n → Deep n t → Keep [h] H H' → Hd H' h d → Q v H'
theorem has_val {k : Nat} (D : DefAt K mg "_law_value" s_law_value p_law_value) (B : Bn mg) (c1 : Has P w K mg base k "_law_take" p_law_take spTake) : ∀ n, Has P w K mg base (k + n + 1) "_law_value" p_law_value (spVal K n) := by
  obtain ⟨f, fd, F, hm, hb⟩ := D.ex
  have step : ∀ n sp, Callee P w K mg base CX0 (k + n) "_law_value" f fd p_law_value sp → (∀ m, n = m + 1 → ∀ vs H Q E, spVal K m vs H Q E → sp vs H Q E) → FnOk P w K mg base CX0 (k + n + 1) f fd p_law_value (spVal K n) := fun n sp c_law_value hsp => by
    obtain ⟨_, _, c_law_take⟩ := c1.mono (show k ≤ k + n by omega)
    refine F.ok sc_law_value (fun vs H Q E h => ?_) (fun cdv A outer s H vs Q E hr h => ?_)
    · obtain ⟨_, _, rfl, _⟩ := h
      rfl
    obtain ⟨a, d, rfl, hd, q⟩ := h
    refine ⟨_, (pss_cons (ps_if (PW.pt (pw_or (pt_cmpR op_eq (pv 1) pe_int (nomark _)) (pw_or1 (pt_cmpR op_eq (cal c_law_take hr rfl (pa_cons (pv 0) (pa_cons pe_int pa_nil))) pe_int (nomark _))))) (pss_one (ps_ret (pe_ix ix_list (pe_lst (pa_cons pe_str (pa_cons pe_str (pa_cons pe_str (pa_cons pe_str (pa_cons pe_str (pa_cons pe_str (pa_cons pe_str (pa_cons pe_str pa_nil))))))))) (cal c_law_take hr rfl (pa_cons (pv 0) (pa_cons pe_int pa_nil))) (fun _ _ => rfl)))) pss_nil)
    (pss_one (ps_ret (pe_callTy call_tuple_of (by rfl) B.tuple (by decide +kernel) (pa_cons (pe_lc (own := [("k", 2)]) (g := gName 2) (tt := tYes) rfl sc_law_value.nd (pi_range1 (by rfl) B.range (pa_cons (cal c_law_take hr rfl (pa_cons (pv 0) (pa_cons pe_int pa_nil))) pa_nil)) (blkOk_by (N := n_law_value) (sc := defScope s_law_value) (by decide +kernel)) (fun _ _ _ _ _ => pg_name (i := 2) sc_law_value.nd rfl (Or.inl rfl)) (fun _ _ _ _ _ => pts_nil) (fun _ _ _ _ _ => (cal c_law_value hr rfl (pa_cons (pv 0) (pa_cons (pe_op op_sub (pv 1) pe_int) pa_nil))))) pa_nil))))), ?_⟩
    have word : ∀ (p : Addr) (H1 : Hp), Keep [a] H H1 → Hd H1 a d → H1 p = none → spTake [.ref a, .int 8] (upd H1 p (.lst [.str "yes", .str "a", .str "quote", .str "f0", .str "b2", .str "done", .str "spin", .str "x"])) (fun y H2 => rIxL K (.ref p) y H2 Q) E0 := fun p H1 k1 hd1 np => by
      refine ⟨a, d, 8, rfl, hd1.new np, by decide, fun j H2 j0 j1 k2 hd2 => ?_⟩
      have pa : p ≠ a := (hd1.neH np).symm
      obtain ⟨c, hc, wc, _⟩ := pick (L := vwords) (xs := [.str "yes", .str "a", .str "quote", .str "f0", .str "b2", .str "done", .str "spin", .str "x"]) (by decide +kernel) (by decide) j0 j1
      refine ⟨p, _, j, _, rfl, rfl, SqL.of (k2.get upd_same (by simpa using pa)), hc, ?_⟩
      exact q _ _ H2 tr_w (wt_w wc) (by rw [size_w]; exact MV.pos n) (deep_w _ _) ((k1.trans (Keep.new np)).trans k2) hd2
    refine ⟨_, rfl, rfl, _, rfl, ?_⟩
    cases n with
    | zero => exact iteT (iteT ⟨by show (8 : Nat) ≤ sizeLine; decide, fun p np => ⟨_, rfl, word p H Keep.refl hd np⟩⟩)
    | succ m =>
      rw [dF (by omega)]
      refine iteF ?_
      refine ⟨_, rfl, a, d, 3, rfl, hd, by decide, fun i H1 i0 i1 k1 hd1 => ?_⟩
      refine ⟨rfl, _, rfl, ite2 (fun c => ?_) (fun c => ?_)⟩
      · exact ⟨by show (8 : Nat) ≤ sizeLine; decide, fun p np => ⟨_, rfl, word p H1 k1 hd1 np⟩⟩
      refine ⟨_, rfl, a, d, 4, rfl, hd1, by decide, fun z H2 z0 z1 k2 hd2 => ?_⟩
      refine ⟨_, rfl, by omega, by omega, fun L nL => ?_⟩
      have La : L ≠ a := (hd2.neH nL).symm
      have Ld : L ≠ d := (hd2.neD nL).symm
      have k12 := k1.trans k2
      have nL0 : H L = none := k12.free nL
      refine lc_range (lo := 0) (n := z.toNat) (fun i H' => ∃ vs ts, H' L = some (.lst vs) ∧ Trs K H' vs ts ∧ ts.length = i ∧ (∀ t ∈ ts, WT t ∧ t.size ≤ MV m ∧ Deep m t) ∧ Keep [a] H H' ∧ Hd H' a d)
        ⟨[], [], upd_same, trs_nil, rfl, by simp, k12.newT nL, hd2.new nL⟩ (fun i H5 hi p => ?_) (fun H5 p => ?_)
      · obtain ⟨vs, ts, e1, e2, e3, e4, k6, hd5⟩ := p
        refine ⟨rfl, yes ?_⟩
        refine ⟨_, rfl, _, rfl, _, _, rfl, rfl, hsp m rfl _ _ _ _ ⟨a, d, ?_, hd5, fun v t H6 tv wt sz dp k7 hd6 => ?_⟩⟩
        · show [V.ref a, V.int ((((m + 1 : Nat)) : Int) - 1)] = [V.ref a, V.int (m : Int)]
          rw [show (((m + 1 : Nat)) : Int) - 1 = (m : Int) by omega]
        have e1' : H6 L = some (.lst vs) := k7.get e1 (by simpa using La)
        have k8 : Keep [L] H6 (upd H6 L (.lst (vs ++ [v]))) := Keep.set e1' (List.mem_cons_self ..)
        refine ⟨vs, e1', ?_, vs ++ [v], ts ++ [t], upd_same, (e2.keep k7 |>.append (trs_cons tv trs_nil)).keep k8, by rw [List.length_append, e3]; rfl, ?_, ((k6.trans k7).cons.trans (k8.mono (by simp))).drop nL0, hd6.upd La.symm Ld.symm⟩
        · rw [e2.length]
          exact sizeLt (by omega)
        · intro u hu
          rcases List.mem_append.mp hu with m | m
          · exact e4 u m
          · rw [List.mem_singleton.mp m]
            exact ⟨wt, sz, dp⟩
      · obtain ⟨vs, ts, e1, e2, e3, e4, k6, hd5⟩ := p
        refine ⟨L, vs, rfl, .inl ⟨SqL.of e1, fun T nT => ?_⟩⟩
        refine q _ (.l ts) _ (tr_tup upd_same (e2.keep (Keep.new (S := []) nT))) (wt_l (WTs.of fun t m => (e4 t m).1)) ?_ (fun t m => (e4 t m).2.2) (k6.newT nT) (hd5.new nT)
        rw [size_l]
        have h1 := sizes_le fun t m => (e4 t m).2.1
        have l : ts.length ≤ 3 := by omega
        have h2 := Nat.mul_le_mul_right (MV m) l
        show _ ≤ 1 + 3 * MV m
        omega
  have all : ∀ n, FnOk P w K mg base CX0 (k + n + 1) f fd p_law_value (spVal K n) := fun n => by
    induction n with
    | zero => exact step 0 (fun _ _ _ _ => False) ⟨⟨fun _ _ _ _ h => h.elim, fun _ _ _ _ _ _ _ _ _ _ _ _ _ h => h.elim⟩, hm, F.kp, hb⟩ fun m e => by cases e
    | succ m ih => exact step (m + 1) (spVal K m) ⟨ih, hm, F.kp, hb⟩ fun m' e vs H Q E q => by cases e; exact q
  exact fun n => ⟨f, fd, all n, hm, F.kp, hb⟩
end
end Og

namespace Og
open PySem PySem.Spec PyProof.Rows L2
/-- what may be called, with how many parts -/
abbrev Cs := List (List Nat × Nat)
def CallOk (fs : List Tree) (c : List Nat × Nat) : Prop := parts fs c.1 = some c.2
/-- a good expression of a function with these parameters, in each program that holds what is called -/
def GoodIn (cs : Cs) (ps : List Tree) (t : Tree) : Prop := ∀ fs, (∀ c ∈ cs, CallOk fs c) → GoodE fs ps t
theorem good_word {cs : Cs} {ps : List Tree} {t : Tree} (m : t ∈ ps) (iw : t.isW = true) : GoodIn cs ps t := fun fs _ => by
  cases t with
  | l us => cases iw
  | w x => rw [goodE_w]; exact m
theorem good_quote {cs : Cs} {ps : List Tree} {t : Tree} : GoodIn cs ps (.l [.w qw, t]) := fun fs _ => goodE_l.mpr ⟨⟨qw, [t], rfl, by unfold parts; rw [show spAr qw = some 1 by decide +kernel]; rfl⟩, .inl rfl⟩
theorem good_sp {cs : Cs} {ps ts : List Tree} {x : List Nat} (h : spAr x = some ts.length) (all : ∀ t ∈ ts, GoodIn cs ps t) : GoodIn cs ps (.l (.w x :: ts)) := fun fs hc => goodE_l.mpr ⟨⟨x, ts, rfl, by unfold parts; rw [h]⟩, .inr fun t m => all t m fs hc⟩
theorem good_call {cs : Cs} {ps ts : List Tree} {x : List Nat} (h : (x, ts.length) ∈ cs) (all : ∀ t ∈ ts, GoodIn cs ps t) : GoodIn cs ps (.l (.w x :: ts)) := fun fs hc => goodE_l.mpr ⟨⟨x, ts, rfl, hc _ h⟩, .inr fun t m => all t m fs hc⟩
theorem gall2 {cs : Cs} {ps : List Tree} {a b : Tree} (h : GoodIn cs ps a) (k : GoodIn cs ps b) : ∀ t ∈ [a, b], GoodIn cs ps t := fun t m => by
  rcases List.mem_cons.mp m with e | m
  · rw [e]; exact h
  · rw [List.mem_singleton.mp m]; exact k
theorem GoodIn.mono {cs ds : Cs} {ps : List Tree} {t : Tree} (h : GoodIn cs ps t) (l : ∀ c ∈ cs, c ∈ ds) : GoodIn ds ps t := fun fs hc => h fs fun c m => hc c (l c m)
/-- the calls that an expression may hold -/
def Cls (H : Hp) (cl : Addr) (cs : Cs) : Prop := ∃ cvs : List V, H cl = some (.lst cvs) ∧ cvs.length ≤ 10 ∧ ∀ c ∈ cvs, ∃ (a : Addr) (nm : List Nat) (m : Nat), c = .ref a ∧ H a = some (.tup [.str (tx nm), .int m]) ∧ IsWord nm ∧ m ≤ 5 ∧ (nm, m) ∈ cs
theorem Cls.keep {S : List Addr} {H H1 : Hp} {cl : Addr} {cs : Cs} (h : Cls H cl cs) (k : Keep S H H1) (n : cl ∉ S) : Cls H1 cl cs := by
  obtain ⟨cvs, e, l, q⟩ := h
  refine ⟨cvs, k.get e n, l, fun c m => ?_⟩
  obtain ⟨a, nm, j, e1, e2, e3, e4⟩ := q c m
  exact ⟨a, nm, j, e1, k.tup e2, e3, e4⟩
end Og

namespace Og
open PySem PySem.Spec PyProof.Rows L2
def ME : Nat → Nat
  | 0 => 15
  | n + 1 => 2 + 5 * ME n
theorem ME.ge (n : Nat) : 15 ≤ ME n := by
  cases n with
  | zero => exact Nat.le_refl _
  | succ n => have := ME.ge n; show 15 ≤ 2 + 5 * ME n; omega
section
variable {P : Program} {w : World} {K : PySem.W.Frag} {mg : Str → Option Value} {base : Heap}
def spExpr (K : PySem.W.Frag) (n : Nat) : Sp := fun vs H Q _ => ∃ (h d cl : Addr) (pv : V) (ps : List Tree) (cs : Cs), vs = [.ref h, pv, .ref cl, .int n] ∧ Hd H h d ∧ Tr K H pv (.l ps) ∧ (∀ t ∈ ps, t.isW = true) ∧ WTs ps ∧ ps.length ≤ 1000 ∧ Cls H cl cs ∧ cl ≠ h ∧
  ∀ (v : V) (t : Tree) (H' : Hp), Tr K H' v t → WT t → t.size ≤ ME n → Deep (n + 3) t → GoodIn cs ps t → Keep [h] H H' → Hd H' h d → Q v H'
theorem has_expr {k : Nat} (D : DefAt K mg "_law_expression" s_law_expression p_law_expression) (B : Bn mg) (c1 : Has P w K mg base k "_law_take" p_law_take spTake) (c2 : Has P w K mg base k "_law_value" p_law_value (spVal K 2)) : ∃ f fd, ∀ n, Callee P w K mg base CX0 (k + n + 1) "_law_expression" f fd p_law_expression (spExpr K n) := by
  obtain ⟨f, fd, F, hm, hb⟩ := D.ex
  have step : ∀ n sp, Callee P w K mg base CX0 (k + n) "_law_expression" f fd p_law_expression sp → (∀ m, n = m + 1 → ∀ vs H Q E, spExpr K m vs H Q E → sp vs H Q E) → FnOk P w K mg base CX0 (k + n + 1) f fd p_law_expression (spExpr K n) := fun n sp c_law_expression hsp => by
    obtain ⟨_, _, c_law_take⟩ := c1.mono (show k ≤ k + n by omega)
    obtain ⟨_, _, c_law_value⟩ := c2.mono (show k ≤ k + n by omega)
    refine F.ok sc_law_expression (fun vs H Q E h => ?_) (fun cdv A outer s H vs Q E hr h => ?_)
    · obtain ⟨_, _, _, _, _, _, rfl, _⟩ := h
      rfl
    obtain ⟨a, d, cl, pv0, ps, cs, rfl, hd, tp, pw, wp, lps, cls, cla, q⟩ := h
    refine ⟨_, (pss_cons (ps_set (i := 4) sc_law_expression.nd rfl (.inl rfl) (cal c_law_take hr rfl (pa_cons (pv 0) (pa_cons pe_int pa_nil))))
    (pss_cons (ps_if (PW.pt (pw_or (pt_cmpR op_eq (pv 3) pe_int (nomark _)) (pw_or1 (pt_cmpR op_lt (pv 4) pe_int (nomark _))))) (pss_cons (ps_if (PW.pt (pw_and (pt_cmpR op_gt (pe_callB call_len_seq (by rfl) B.len PySem.boot_len (pa_cons (pv 1) pa_nil)) pe_int (nomark _)) (pw_and1 (pt_cmpR op_gt (cal c_law_take hr rfl (pa_cons (pv 0) (pa_cons pe_int pa_nil))) pe_int (nomark _))))) (pss_one (ps_ret (pe_ix ix_tup (pv 1) (cal c_law_take hr rfl (pa_cons (pv 0) (pa_cons (pe_callB call_len_seq (by rfl) B.len PySem.boot_len (pa_cons (pv 1) pa_nil)) pa_nil))) (fun _ _ => rfl)))) pss_nil)
      (pss_one (ps_ret (pe_tup (pa_cons pe_str (pa_cons (cal c_law_value hr rfl (pa_cons (pv 0) (pa_cons pe_int pa_nil))) pa_nil)))))) pss_nil)
    (pss_cons (ps_if (pt_cmpR op_lt (pv 4) pe_int (nomark _)) (pss_cons (ps_setLc (i := 5) (own := [("k", 6)]) (g := gName 6) (tt := tYes) rfl sc_law_expression.nd rfl rfl (sw_true rfl rfl rfl (by decide +kernel)) (pi_range1 (by rfl) B.range (pa_cons pe_int pa_nil)) (blkOk_by (N := n_law_expression) (sc := defScope s_law_expression) (by decide +kernel)) (fun _ _ _ _ _ => pg_name (i := 6) sc_law_expression.nd rfl (Or.inl rfl)) (fun _ _ _ _ _ => pts_nil) (fun _ _ _ _ _ => (cal c_law_expression hr rfl (pa_cons (pv 0) (pa_cons (pv 1) (pa_cons (pv 2) (pa_cons (pe_op op_sub (pv 3) pe_int) pa_nil)))))))
      (pss_one (ps_ret (pe_tup (pa_cons pe_str (pa_cons (pe_ix ix_list (pv 5) pe_int (fun _ _ => rfl)) (pa_cons (pe_ix ix_list (pv 5) pe_int (fun _ _ => rfl)) (pa_cons (pe_ix ix_list (pv 5) pe_int (fun _ _ => rfl)) pa_nil)))))))) pss_nil)
    (pss_cons (ps_if (PW.pt (pw_or (pt_cmpR op_eq (pv 4) pe_int (nomark _)) (pw_or1 (pt_cmpR op_eq (pv 4) pe_int (nomark _))))) (pss_cons (ps_set (i := 7) sc_law_expression.nd rfl (.inl rfl) (cal c_law_expression hr rfl (pa_cons (pv 0) (pa_cons (pv 1) (pa_cons (pv 2) (pa_cons (pe_op op_sub (pv 3) pe_int) pa_nil))))))
      (pss_one (ps_ret (pe_tup (pa_cons pe_str (pa_cons (pv 7) (pa_cons (cal c_law_expression hr rfl (pa_cons (pv 0) (pa_cons (pv 1) (pa_cons (pv 2) (pa_cons (pe_op op_sub (pv 3) pe_int) pa_nil))))) pa_nil))))))) pss_nil)
    (pss_cons (ps_if (pt_cmpR op_lt (pv 4) pe_int (nomark _)) (pss_cons (ps_set (i := 7) sc_law_expression.nd rfl (.inl rfl) (cal c_law_expression hr rfl (pa_cons (pv 0) (pa_cons (pv 1) (pa_cons (pv 2) (pa_cons (pe_op op_sub (pv 3) pe_int) pa_nil))))))
      (pss_one (ps_ret (pe_tup (pa_cons pe_str (pa_cons (pv 7) (pa_cons (cal c_law_expression hr rfl (pa_cons (pv 0) (pa_cons (pv 1) (pa_cons (pv 2) (pa_cons (pe_op op_sub (pv 3) pe_int) pa_nil))))) pa_nil))))))) pss_nil)
    (pss_cons (ps_if (pt_cmpR op_eq (pv 4) pe_int (nomark _)) (pss_one (ps_ret (pe_tup (pa_cons pe_str (pa_cons (cal c_law_expression hr rfl (pa_cons (pv 0) (pa_cons (pv 1) (pa_cons (pv 2) (pa_cons (pe_op op_sub (pv 3) pe_int) pa_nil))))) pa_nil))))) pss_nil)
    (pss_cons (ps_if (PW.pt (pw_or (pt_cmpR op_lt (pv 4) pe_int (nomark _)) (pw_or1 (pt_cmpR op_eq (pe_callB call_len_seq (by rfl) B.len PySem.boot_len (pa_cons (pv 2) pa_nil)) pe_int (nomark _))))) (pss_one (ps_ret (pe_tup (pa_cons (pe_ix ix_list (pe_lst (pa_cons pe_str (pa_cons pe_str pa_nil))) (pe_op op_mod (pv 4) pe_int) (fun _ _ => rfl)) (pa_cons (cal c_law_expression hr rfl (pa_cons (pv 0) (pa_cons (pv 1) (pa_cons (pv 2) (pa_cons (pe_op op_sub (pv 3) pe_int) pa_nil))))) pa_nil))))) pss_nil)
    (pss_cons (ps_asg (pe_ix ix_list (pv 2) (cal c_law_take hr rfl (pa_cons (pv 0) (pa_cons (pe_callB call_len_seq (by rfl) B.len PySem.boot_len (pa_cons (pv 2) pa_nil)) pa_nil))) (fun _ _ => rfl)) (pg_tup (by rfl) (pgs_cons (pg_name (i := 8) sc_law_expression.nd rfl (.inl rfl)) (pgs_cons (pg_name (i := 9) sc_law_expression.nd rfl (.inl rfl)) pgs_nil))))
    (pss_one (ps_ret (pe_op op_catA (pe_tup (pa_cons (pv 8) pa_nil)) (pe_callTy call_tuple_of (by rfl) B.tuple (by decide +kernel) (pa_cons (pe_lc (own := [("k", 6)]) (g := gName 6) (tt := tYes) rfl sc_law_expression.nd (pi_range1 (by rfl) B.range (pa_cons (pv 9) pa_nil)) (blkOk_by (N := n_law_expression) (sc := defScope s_law_expression) (by decide +kernel)) (fun _ _ _ _ _ => pg_name (i := 6) sc_law_expression.nd rfl (Or.inl rfl)) (fun _ _ _ _ _ => pts_nil) (fun _ _ _ _ _ => (cal c_law_expression hr rfl (pa_cons (pv 0) (pa_cons (pv 1) (pa_cons (pv 2) (pa_cons (pe_op op_sub (pv 3) pe_int) pa_nil))))))) pa_nil))))))))))))), ?_⟩
    obtain ⟨pa, pvs, rfl, hP, rP⟩ := tp.list
    have lp := rP.length
    -- kind
    refine ⟨_, rfl, a, d, 12, rfl, hd, by decide, fun kd H1 kd0 kd1 k1 hd1 => ?_⟩
    have tp1 := tp.keep k1
    have hP1 := k1.sqT hP
    have rP1 := rP.keep k1
    have cls1 := cls.keep k1 (by simpa using cla)
    -- a word or a quote
    have first : (tSeq (tIfS (tAnd (tTest (tOp (rI0 fun i j => V.bl (decide (j < i))) (tCB (fun xs H_1 Q => ∃ p ys, xs = [V.ref p] ∧ (SqL K H_1 p ys ∨ SqT K H_1 p ys) ∧ Q (V.int (ys.length : Nat)) H_1) (tCons (tVar 1) tNil)) (tC (V.int 0)))) (tTest (tOp (rI0 fun i j => V.bl (decide (j < i))) (tCall spTake [] E0 (tCons (tVar 0) (tCons (tC (V.int 3)) tNil))) (tC (V.int 0)))))
          (tRet (tOp (rIxT K) (tVar 1) (tCall spTake [] E0 (tCons (tVar 0) (tCons (tCB (fun xs H_1 Q => ∃ p ys, xs = [V.ref p] ∧ (SqL K H_1 p ys ∨ SqT K H_1 p ys) ∧ Q (V.int (ys.length : Nat)) H_1) (tCons (tVar 1) tNil)) tNil))))) tNext) (tRet (tTup (tCons (tC (V.str "quote")) (tCons (tCall (spVal K 2) [] E0 (tCons (tVar 0) (tCons (tC (V.int 2)) tNil))) tNil)))))
        { nx := fun _ _ => True, rt := Q } [some (.ref a), some (.ref pa), some (.ref cl), some (.int n), some (.int kd), none, none, none, none, none] H1 := by
      have quote : ∀ H2, Keep [a] H1 H2 → Hd H2 a d → (tRet (tTup (tCons (tC (V.str "quote")) (tCons (tCall (spVal K 2) [] E0 (tCons (tVar 0) (tCons (tC (V.int 2)) tNil))) tNil)))) { nx := fun _ _ => True, rt := Q } [some (.ref a), some (.ref pa), some (.ref cl), some (.int n), some (.int kd), none, none, none, none, none] H2 := fun H2 k2 hd2 => by
        refine ⟨_, rfl, a, d, rfl, hd2, fun v t H3 tv wt sz dp k3 hd3 => ?_⟩
        refine ⟨by show (2 : Nat) ≤ sizeLine; decide, fun p np => ?_⟩
        obtain ⟨tm, km⟩ := mk_tr (K := K) (H := H3) (vs := [.str "quote", v]) (ts := [.w qw, t]) np (by rw [lit_q]; exact trs_cons tr_w (Trs.one tv))
        refine q _ _ _ tm (wt_l (wts_cons (wt_w (isWord_of (by decide))) (wts_cons wt wts_nil))) ?_ ?_ good_quote (((k1.trans k2).trans k3).trans (km.mono (by simp))) (hd3.keep0 km)
        · rw [size_l, sizes_cons, sizes_cons, sizes_nil, size_w]
          have := ME.ge n
          have e : MV 2 = 13 := rfl
          omega
        · rw [show n + 3 = (n + 2) + 1 from rfl]
          intro t' m
          rcases List.mem_cons.mp m with e | m
          · rw [e]; exact deep_w _ _
          · rw [List.mem_singleton.mp m]
            exact dp.mono (by omega)
      refine ⟨_, rfl, pa, pvs, rfl, .inr hP1, _, _, rfl, rfl, _, rfl, ?_⟩
      by_cases h0 : ps.length = 0
      · rw [decide_eq_false (show ¬ (0 : Int) < ((pvs.length : Nat) : Int) by omega)]
        exact iteF (iteF (quote H1 Keep.refl hd1))
      rw [decide_eq_true (show (0 : Int) < ((pvs.length : Nat) : Int) by omega)]
      refine iteT ?_
      refine ⟨_, rfl, a, d, 3, rfl, hd1, by decide, fun i H2 i0 i1 k2 hd2 => ?_⟩
      refine ⟨_, _, rfl, rfl, _, rfl, ite2 (fun c => ?_) (fun c => quote H2 k2 hd2)⟩
      have hP2 := k2.sqT hP1
      refine ⟨_, rfl, _, rfl, _, rfl, pa, pvs, rfl, .inr hP2, a, d, _, rfl, hd2, by omega, fun j H3 j0 j1 k3 hd3 => ?_⟩
      obtain ⟨jn, rfl⟩ := Int.eq_ofNat_of_zero_le j0
      have jl : jn < ps.length := by omega
      have hg : ps[jn]? = some ps[jn] := List.getElem?_eq_getElem jl
      obtain ⟨x, hx, tx0⟩ := rP1.get hg
      have mem := List.getElem_mem jl
      have k23 := k2.trans k3
      refine ⟨pa, pvs, _, x, rfl, rfl, k3.sqT hP2, atI_nat hx, ?_⟩
      have iw := pw _ mem
      refine q x ps[jn] H3 (tx0.keep k23) (wp.all _ mem) ?_ ?_ (good_word mem iw) (k1.trans k23) hd3
      · cases h : ps[jn] with
        | l us => rw [h] at iw; cases iw
        | w y => rw [size_w]; have := ME.ge n; omega
      · cases h : ps[jn] with
        | l us => rw [h] at iw; cases iw
        | w y => exact deep_w _ _
    refine ⟨_, rfl, rfl, _, rfl, ?_⟩
    cases n with
    | zero => exact iteT (iteT first)
    | succ m =>
    rw [dF (show (((m + 1 : Nat)) : Int) ≠ 0 by omega)]
    refine iteF ?_
    refine ⟨_, rfl, _, _, rfl, rfl, _, rfl, ite2 (fun _ => first) (fun _ => ?_)⟩
    have em : (((m + 1 : Nat)) : Int) - 1 = (m : Int) := by omega
    have eME : ME (m + 1) = 2 + 5 * ME m := rfl
    have rec_ : ∀ (H2 : Hp), Keep [a] H H2 → Hd H2 a d → ∀ Q' : VK, (∀ (v : V) (t : Tree) (H3 : Hp), Tr K H3 v t → WT t → t.size ≤ ME m → Deep (m + 3) t → GoodIn cs ps t → Keep [a] H2 H3 → Hd H3 a d → Q' v H3) → sp [.ref a, .ref pa, .ref cl, .int ((((m + 1 : Nat)) : Int) - 1)] H2 Q' E0 := fun H2 k2 hd2 Q' hq =>
      hsp m rfl _ _ _ _ ⟨a, d, cl, .ref pa, ps, cs, by rw [em], hd2, tp.keep k2, pw, wp, lps, cls.keep k2 (by simpa using cla), cla, hq⟩
    -- one part, two parts behind a written word
    have one : ∀ (s : Str) (wd : List Nat) (v : V) (t : Tree) (H3 : Hp) (p : Addr), s = tx wd → IsWord wd → spAr wd = some 1 → Tr K H3 v t → WT t → t.size ≤ ME m → Deep (m + 3) t → GoodIn cs ps t → Keep [a] H H3 → Hd H3 a d → H3 p = none → Q (.ref p) (upd H3 p (.tup [.str s, v])) := fun s wd v t H3 p es ww sa tv wt sz dp gd k3 hd3 np => by
      obtain ⟨tm, km⟩ := mk_tr (K := K) (H := H3) (vs := [.str s, v]) (ts := [.w wd, t]) np (by rw [es]; exact trs_cons tr_w (Trs.one tv))
      refine q _ _ _ tm (wt_l (wts_cons (wt_w ww) (wts_cons wt wts_nil))) ?_ ?_ (good_sp sa fun t' m => by rw [List.mem_singleton.mp m]; exact gd) (k3.trans (km.mono (by simp))) (hd3.keep0 km)
      · rw [size_l, sizes_cons, sizes_cons, sizes_nil, size_w]
        omega
      · intro t' m
        rcases List.mem_cons.mp m with e | m
        · rw [e]; exact deep_w _ _
        · rw [List.mem_singleton.mp m]; exact dp
    have two : ∀ (s : Str) (wd : List Nat), s = tx wd → IsWord wd → spAr wd = some 2 → (tSeq (tAsg (tCall sp [] E0 (tCons (tVar 0) (tCons (tVar 1) (tCons (tVar 2) (tCons (tOp (rI0 fun i j => V.int (i - j)) (tVar 3) (tC (V.int 1))) tNil))))) (gName 7)) (tRet (tTup (tCons (tC (.str s)) (tCons (tVar 7) (tCons (tCall sp [] E0 (tCons (tVar 0) (tCons (tVar 1) (tCons (tVar 2) (tCons (tOp (rI0 fun i j => V.int (i - j)) (tVar 3) (tC (V.int 1))) tNil))))) tNil)))))) { nx := fun _ _ => True, rt := Q } [some (.ref a), some (.ref pa), some (.ref cl), some (.int ((m + 1 : Nat) : Int)), some (.int kd), none, none, none, none, none] H1 := fun s wd es ww sa => by
      refine ⟨_, rfl, _, rfl, _, rfl, _, rfl, _, _, rfl, rfl, rec_ H1 k1 hd1 _ fun v t H2 tv wt sz dp gd k2 hd2 => ?_⟩
      refine ⟨_, rfl, _, rfl, _, rfl, _, rfl, _, rfl, _, _, rfl, rfl, rec_ H2 (k1.trans k2) hd2 _ fun v2 t2 H3 tv2 wt2 sz2 dp2 gd2 k3 hd3 => ?_⟩
      refine ⟨by show (3 : Nat) ≤ sizeLine; decide, fun p np => ?_⟩
      obtain ⟨tm, km⟩ := mk_tr (K := K) (H := H3) (vs := [.str s, v, v2]) (ts := [.w wd, t, t2]) np (by rw [es]; exact trs_cons tr_w (trs_cons (tv.keep k3) (Trs.one tv2)))
      refine q _ _ _ tm (wt_l (wts_cons (wt_w ww) (wts_cons wt (wts_cons wt2 wts_nil)))) ?_ ?_ (good_sp sa (gall2 gd gd2)) (((k1.trans k2).trans k3).trans (km.mono (by simp))) (hd3.keep0 km)
      · rw [size_l, sizes_cons, sizes_cons, sizes_cons, sizes_nil, size_w]
        omega
      · intro t' m
        rcases List.mem_cons.mp m with e | m
        · rw [e]; exact deep_w _ _
        · rcases List.mem_cons.mp m with e | m
          · rw [e]; exact dp
          · rw [List.mem_singleton.mp m]; exact dp2
    -- if
    refine ⟨_, rfl, _, _, rfl, rfl, _, rfl, ite2 (fun _ => ?_) (fun _ => ?_)⟩
    · refine ⟨(3 : Int), rfl, by decide, by decide, fun L nL => ?_⟩
      have La : L ≠ a := (hd1.neH nL).symm
      have Ld : L ≠ d := (hd1.neD nL).symm
      have nL0 : H L = none := k1.free nL
      refine lc_range (lo := 0) (n := (3 : Int).toNat) (fun i H' => ∃ vs ts, H' L = some (.lst vs) ∧ Trs K H' vs ts ∧ ts.length = i ∧ (∀ t ∈ ts, WT t ∧ t.size ≤ ME m ∧ Deep (m + 3) t ∧ GoodIn cs ps t) ∧ Keep [a] H H' ∧ Hd H' a d)
        ⟨[], [], upd_same, trs_nil, rfl, by simp, k1.newT nL, hd1.new nL⟩ (fun i H5 hi p => ?_) (fun H5 p => ?_)
      · obtain ⟨vs, ts, e1, e2, e3, e4, k6, hd5⟩ := p
        refine ⟨rfl, yes ?_⟩
        refine ⟨_, rfl, _, rfl, _, rfl, _, rfl, _, _, rfl, rfl, rec_ H5 k6 hd5 _ fun v t H6 tv wt sz dp gd k7 hd6 => ?_⟩
        have e1' : H6 L = some (.lst vs) := k7.get e1 (by simpa using La)
        have k8 : Keep [L] H6 (upd H6 L (.lst (vs ++ [v]))) := Keep.set e1' (List.mem_cons_self ..)
        refine ⟨vs, e1', ?_, vs ++ [v], ts ++ [t], upd_same, (e2.keep k7 |>.append (trs_cons tv trs_nil)).keep k8, by rw [List.length_append, e3]; rfl, ?_, ((k6.trans k7).cons.trans (k8.mono (by simp))).drop nL0, hd6.upd La.symm Ld.symm⟩
        · rw [e2.length]
          exact sizeLt (by have : (3 : Int).toNat = 3 := rfl; omega)
        · intro u hu
          rcases List.mem_append.mp hu with m | m
          · exact e4 u m
          · rw [List.mem_singleton.mp m]
            exact ⟨wt, sz, dp, gd⟩
      · obtain ⟨vs, ts, e1, e2, e3, e4, k6, hd5⟩ := p
        obtain ⟨t0, t1, t2, rfl⟩ := three_of (show ts.length = 3 from e3)
        obtain ⟨x0, x1, x2, rfl, r0, r1, r2⟩ := e2.three
        refine ⟨_, rfl, L, _, _, _, rfl, rfl, SqL.of e1, rfl, _, rfl, L, _, _, _, rfl, rfl, SqL.of e1, rfl, _, rfl, L, _, _, _, rfl, rfl, SqL.of e1, rfl, by show (4 : Nat) ≤ sizeLine; decide, fun p np => ?_⟩
        obtain ⟨tm, km⟩ := mk_tr (K := K) (H := H5) (vs := [.str "if", x0, x1, x2]) (ts := [.w [105, 102], t0, t1, t2]) np (by rw [show ("if" : Str) = tx [105, 102] by decide +kernel]; exact trs_cons tr_w e2)
        have h0 := e4 t0 (by simp)
        have h1 := e4 t1 (by simp)
        have h2 := e4 t2 (by simp)
        refine q _ _ _ tm (wt_l (wts_cons (wt_w (isWord_of (by decide))) (wts_cons h0.1 (wts_cons h1.1 (wts_cons h2.1 wts_nil))))) ?_ ?_ (good_sp (show spAr [105, 102] = some 3 by decide +kernel) fun t m => (e4 t m).2.2.2) (k6.trans (km.mono (by simp))) (hd5.keep0 km)
        · rw [size_l, sizes_cons, sizes_cons, sizes_cons, sizes_cons, sizes_nil, size_w]
          have := h0.2.1
          have := h1.2.1
          have := h2.2.1
          omega
        · intro t' m
          rcases List.mem_cons.mp m with e | m
          · rw [e]; exact deep_w _ _
          · exact (e4 t' m).2.2.1
    refine ⟨_, rfl, rfl, _, rfl, ite2 (fun _ => iteT (two "same" [115, 97, 109, 101] (by decide +kernel) (isWord_of (by decide)) (by decide +kernel))) (fun _ => ?_)⟩
    refine ⟨_, rfl, rfl, _, rfl, ite2 (fun _ => two "same" [115, 97, 109, 101] (by decide +kernel) (isWord_of (by decide)) (by decide +kernel)) (fun _ => ?_)⟩
    refine ⟨_, rfl, _, _, rfl, rfl, _, rfl, ite2 (fun _ => two "join" [106, 111, 105, 110] (by decide +kernel) (isWord_of (by decide)) (by decide +kernel)) (fun _ => ?_)⟩
    refine ⟨_, rfl, rfl, _, rfl, ite2 (fun _ => ?_) (fun _ => ?_)⟩
    · refine ⟨_, rfl, _, rfl, _, rfl, _, rfl, _, _, rfl, rfl, rec_ H1 k1 hd1 _ fun v t H2 tv wt sz dp gd k2 hd2 => ?_⟩
      exact ⟨by show (2 : Nat) ≤ sizeLine; decide, fun p np => one "word" [119, 111, 114, 100] v t H2 p (by decide +kernel) (isWord_of (by decide)) (by decide +kernel) tv wt sz dp gd (k1.trans k2) hd2 np⟩
    have ht : (tRet (tTup (tCons (tOp (rIxL K) (tLst (tCons (tC (.str "head")) (tCons (tC (.str "tail")) tNil))) (tOp (rI (fun _ j => 0 < j) fun i j => V.int (i % j)) (tVar 4) (tC (V.int 2)))) (tCons (tCall sp [] E0 (tCons (tVar 0) (tCons (tVar 1) (tCons (tVar 2) (tCons (tOp (rI0 fun i j => V.int (i - j)) (tVar 3) (tC (V.int 1))) tNil))))) tNil)))) { nx := fun _ _ => True, rt := Q } [some (.ref a), some (.ref pa), some (.ref cl), some (.int ((m + 1 : Nat) : Int)), some (.int kd), none, none, none, none, none] H1 := by
      refine ⟨by show (2 : Nat) ≤ sizeLine; decide, fun p2 np2 => ?_⟩
      have ka : Keep [] H1 (upd H1 p2 (.lst [.str "head", .str "tail"])) := Keep.new np2
      have ep2 : (upd H1 p2 (.lst [.str "head", .str "tail"])) p2 = some (.lst [.str "head", .str "tail"]) := upd_same
      generalize upd H1 p2 (.lst [.str "head", .str "tail"]) = H2 at ka ep2
      refine ⟨_, rfl, _, _, rfl, rfl, by show (0 : Int) < 2; decide, ?_⟩
      obtain ⟨c, hc, wc, mc⟩ := pick (L := [[104, 101, 97, 100], [116, 97, 105, 108]]) (xs := [.str "head", .str "tail"]) (by decide +kernel) (by decide) (j := kd % 2) (Int.emod_nonneg _ (by decide)) (Int.emod_lt_of_pos _ (by decide))
      refine ⟨p2, _, _, _, rfl, rfl, SqL.of ep2, hc, ?_⟩
      have k12 := k1.trans (ka.mono (by simp : ∀ x ∈ ([] : List Addr), x ∈ [a]))
      refine ⟨_, rfl, _, rfl, _, rfl, _, rfl, _, _, rfl, rfl, rec_ H2 k12 (hd1.keep0 ka) _ fun v t H3 tv wt sz dp gd k3 hd3 => ?_⟩
      have sac : spAr c = some 1 := by
        simp only [List.mem_cons, List.not_mem_nil, or_false] at mc
        rcases mc with rfl | rfl <;> decide +kernel
      exact ⟨by show (2 : Nat) ≤ sizeLine; decide, fun p np => one (tx c) c v t H3 p rfl wc sac tv wt sz dp gd (k12.trans k3) hd3 np⟩
    refine ⟨_, rfl, _, _, rfl, rfl, _, rfl, ite2 (fun _ => iteT ht) (fun _ => ?_)⟩
    obtain ⟨cvs, ec, lc, each⟩ := id cls1
    refine ⟨_, rfl, cl, cvs, rfl, .inl (SqL.of ec), rfl, _, rfl, ?_⟩
    by_cases h0 : cvs.length = 0
    · rw [dT (by omega)]
      exact iteT ht
    rw [dF (by omega)]
    refine iteF ?_
    refine ⟨_, rfl, _, rfl, _, rfl, cl, cvs, rfl, .inl (SqL.of ec), a, d, _, rfl, hd1, by omega, fun j H2 j0 j1 k2 hd2 => ?_⟩
    obtain ⟨jn, rfl⟩ := Int.eq_ofNat_of_zero_le j0
    have jl : jn < cvs.length := by omega
    have hg : cvs[jn]? = some cvs[jn] := List.getElem?_eq_getElem jl
    obtain ⟨ca, nm, mm, e1, e2, e3_, e4_, e5_⟩ := each _ (List.getElem_mem jl)
    have ec2 := k2.get ec (by simpa using cla)
    have e2' := k2.tup e2
    rw [e1] at hg
    refine ⟨cl, cvs, _, _, rfl, rfl, SqL.of ec2, atI_nat hg, ?_⟩
    refine ⟨ca, _, rfl, SqT.of_tup e2', rfl, _, _, rfl, _, _, rfl, rfl, ?_⟩
    refine ⟨_, rfl, by show (1 : Nat) ≤ sizeLine; decide, fun t1 nt1 => ?_⟩
    obtain ⟨tn, kn⟩ := mk_tr (K := K) (H := H2) (vs := [.str (tx nm)]) (ts := [.w nm]) nt1 (Trs.one tr_w)
    generalize upd H2 t1 (.tup [.str (tx nm)]) = H3 at tn kn
    have k13 : Keep [a] H H3 := (k1.trans k2).trans (kn.mono (by simp))
    have hd3 := hd2.keep0 kn
    refine ⟨_, rfl, (mm : Int), rfl, by omega, by omega, fun L nL => ?_⟩
    have La : L ≠ a := (hd3.neH nL).symm
    have Ld : L ≠ d := (hd3.neD nL).symm
    have nL0 : H L = none := k13.free nL
    refine lc_range (lo := 0) (n := (mm : Int).toNat) (fun i H' => ∃ vs ts, H' L = some (.lst vs) ∧ Trs K H' vs ts ∧ ts.length = i ∧ (∀ t ∈ ts, WT t ∧ t.size ≤ ME m ∧ Deep (m + 3) t ∧ GoodIn cs ps t) ∧ Keep [a] H H' ∧ Hd H' a d ∧ Tr K H' (.ref t1) (.l [.w nm]))
      ⟨[], [], upd_same, trs_nil, rfl, by simp, k13.newT nL, hd3.new nL, tn.keep (Keep.new (S := []) nL)⟩ (fun i H5 hi p => ?_) (fun H5 p => ?_)
    · obtain ⟨vs, ts, e1, e2, e3, e4, k6, hd5, tn5⟩ := p
      refine ⟨rfl, yes ?_⟩
      refine ⟨_, rfl, _, rfl, _, rfl, _, rfl, _, _, rfl, rfl, rec_ H5 k6 hd5 _ fun v t H6 tv wt sz dp gd k7 hd6 => ?_⟩
      have e1' : H6 L = some (.lst vs) := k7.get e1 (by simpa using La)
      have k8 : Keep [L] H6 (upd H6 L (.lst (vs ++ [v]))) := Keep.set e1' (List.mem_cons_self ..)
      refine ⟨vs, e1', ?_, vs ++ [v], ts ++ [t], upd_same, (e2.keep k7 |>.append (trs_cons tv trs_nil)).keep k8, by rw [List.length_append, e3]; rfl, ?_, ((k6.trans k7).cons.trans (k8.mono (by simp))).drop nL0, hd6.upd La.symm Ld.symm, (tn5.keep k7).keep k8⟩
      · rw [e2.length]
        exact sizeLt (by omega)
      · intro u hu
        rcases List.mem_append.mp hu with m | m
        · exact e4 u m
        · rw [List.mem_singleton.mp m]
          exact ⟨wt, sz, dp, gd⟩
    · obtain ⟨vs, ts, e1, e2, e3, e4, k6, hd5, tn5⟩ := p
      refine ⟨L, vs, rfl, .inl ⟨SqL.of e1, fun T nT => ?_⟩⟩
      obtain ⟨tm, km⟩ := mk_tr (K := K) (H := H5) nT e2
      refine cat_tr (tn5.keep km) tm (Nat.le_trans (show _ ≤ 100 by rw [List.length_singleton]; omega) (by decide)) fun v7 H7 tv7 k7 => ?_
      have szs := sizes_le fun t m => (e4 t m).2.1
      have l : ts.length ≤ 5 := by omega
      have mulle := Nat.mul_le_mul_right (ME m) l
      refine q v7 _ H7 tv7 (wt_l (wts_cons (wt_w e3_) (WTs.of fun t m => (e4 t m).1))) ?_ ?_ (good_call (ts := ts) (by rw [show ts.length = mm by omega]; exact e5_) fun t m => (e4 t m).2.2.2) ((k6.trans (km.mono (by simp))).trans (k7.mono (by simp))) ((hd5.keep0 km).keep0 k7)
      · rw [size_l, List.singleton_append, sizes_cons, size_w]
        omega
      · intro t' m
        rcases List.mem_cons.mp m with e | m
        · rw [e]; exact deep_w _ _
        · exact (e4 t' m).2.2.1
  have all : ∀ n, FnOk P w K mg base CX0 (k + n + 1) f fd p_law_expression (spExpr K n) := fun n => by
    induction n with
    | zero => exact step 0 (fun _ _ _ _ => False) ⟨⟨fun _ _ _ _ h => h.elim, fun _ _ _ _ _ _ _ _ _ _ _ _ _ h => h.elim⟩, hm, F.kp, hb⟩ fun m e => by cases e
    | succ m ih => exact step (m + 1) (spExpr K m) ⟨ih, hm, F.kp, hb⟩ fun m' e vs H Q E q => by cases e; exact q
  exact ⟨f, fd, fun n => ⟨all n, hm, F.kp, hb⟩⟩
end
end Og

namespace Og
open PySem PySem.Spec PyProof.Rows L2
/-! ### programs as rows of functions: name, parameters, body -/
abbrev Fn := List Nat × List Tree × Tree
def fnt (f : Fn) : Tree := .l [.w f.1, .l f.2.1, f.2.2]
def sigs (L : List Fn) : Cs := L.map fun f => (f.1, f.2.1.length)
/-- a row of functions that is a good program -/
structure GoodL (L : List Fn) : Prop where
  nd : (L.map (·.1)).Nodup
  nm : ∀ f ∈ L, GoodName L.length f.1
  ps : ∀ f ∈ L, GoodPs f.2.1
  ex : ∀ f ∈ L, GoodIn (sigs L) f.2.1 f.2.2
/-- a name that is neither special nor f and more -/
theorem goodName_plain {n : Nat} {x : List Nat} (h : spAr x = none) (k : x.head? ≠ some 102) : GoodName n x := ⟨h, fun ds e _ _ => absurd (by rw [e]; rfl) k⟩
theorem fn?_fnt (f : Fn) : fn? (fnt f) = some f := fn?_iff.mpr rfl
theorem arity_fns : ∀ {L : List Fn} {f : Fn}, (L.map (·.1)).Nodup → f ∈ L → arity (L.map fnt) f.1 = some f.2.1.length
  | [], f, _, m => absurd m (List.not_mem_nil)
  | g :: L, f, nd, m => by
    rw [List.map_cons, List.nodup_cons] at nd
    rw [List.map_cons, arity, fn?_fnt]
    show (if g.1 = f.1 then some g.2.1.length else arity (L.map fnt) f.1) = _
    rcases List.mem_cons.mp m with e | m
    · rw [e, if_pos rfl]
    · rw [if_neg (fun e => nd.1 (by rw [e]; exact List.mem_map.mpr ⟨f, m, rfl⟩))]
      exact arity_fns nd.2 m
theorem GoodL.calls {L : List Fn} (h : GoodL L) : ∀ c ∈ sigs L, CallOk (L.map fnt) c := fun c m => by
  obtain ⟨f, mf, rfl⟩ := List.mem_map.mp m
  show parts _ f.1 = some f.2.1.length
  unfold parts
  rw [(h.nm f mf).1]
  exact arity_fns h.nd mf
theorem nodup_get : ∀ {L : List (List Nat)} {i j : Nat} {x : List Nat}, L.Nodup → L[i]? = some x → L[j]? = some x → i = j := fun {L i j x} nd hi hj => by
  have li := (List.getElem?_eq_some_iff.mp hi).1
  exact (List.getElem?_inj li nd).mp (hi.trans hj.symm)
theorem GoodL.at {L : List Fn} (h : GoodL L) {i : Nat} (hi : i < L.length) : GoodAt (L.map fnt) i := by
  have hg : L[i]? = some L[i] := List.getElem?_eq_getElem hi
  have mf := List.getElem_mem hi
  generalize L[i] = f at hg mf
  have n1 := h.nm f mf
  refine ⟨f.1, f.2.1, f.2.2, by rw [List.getElem?_map, hg]; rfl, by rw [List.length_map]; exact n1, h.ps f mf, h.ex f mf _ h.calls, ?_⟩
  · rintro ⟨j, r, lj, ej⟩
    rw [List.getElem?_map] at ej
    cases hj : L[j]? with
    | none => rw [hj] at ej; cases ej
    | some g =>
      rw [hj] at ej
      have e1 : fnt g = .l (.w f.1 :: r) := Option.some.inj ej
      have e2 := Tree.w.inj (List.cons.inj (Tree.l.inj e1)).1
      have a : (L.map (·.1))[j]? = some f.1 := by rw [List.getElem?_map, hj]; exact congrArg some e2
      have b : (L.map (·.1))[i]? = some f.1 := by rw [List.getElem?_map, hg]; rfl
      have := nodup_get h.nd a b
      omega
theorem GoodL.bad {L : List Fn} (h : GoodL L) (ne : L ≠ []) : BadNo (.l (L.map fnt)) none := by
  refine .inr ⟨fun e => ne (List.map_eq_nil_iff.mp e), .inl ⟨rfl, fun i hi => ?_⟩⟩
  rw [List.length_map] at hi
  exact h.at hi
/-! ### deciding that a written expression is good -/
mutual
def goodB (cs : Cs) (ps : List Tree) : Tree → Bool
  | .w x => ps.any fun p => match p with
    | .w y => decide (y = x)
    | .l _ => false
  | .l [] => false
  | .l (.l _ :: _) => false
  | .l (.w n :: ts) => (match spAr n with
    | some k => decide (k = ts.length)
    | none => decide ((n, ts.length) ∈ cs)) && (decide (n = qw) || goodsB cs ps ts)
def goodsB (cs : Cs) (ps : List Tree) : List Tree → Bool
  | [] => true
  | t :: ts => goodB cs ps t && goodsB cs ps ts
end
mutual
theorem good_of {cs : Cs} {ps : List Tree} : ∀ {t : Tree}, goodB cs ps t = true → GoodIn cs ps t
  | .w x, h => by
    rw [goodB, List.any_eq_true] at h
    obtain ⟨p, m, e⟩ := h
    cases p with
    | l _ => cases e
    | w y =>
      have := of_decide_eq_true e
      subst this
      exact good_word m rfl
  | .l [], h => by rw [goodB] at h; cases h
  | .l (.l _ :: _), h => by rw [goodB] at h; cases h
  | .l (.w n :: ts), h => by
    rw [goodB, Bool.and_eq_true, Bool.or_eq_true] at h
    obtain ⟨h1, h2⟩ := h
    intro fs hc
    refine goodE_l.mpr ⟨⟨n, ts, rfl, ?_⟩, ?_⟩
    · cases e : spAr n with
      | some k =>
        rw [e] at h1
        have h1 := of_decide_eq_true h1
        unfold parts
        rw [e, h1]
      | none =>
        rw [e] at h1
        exact hc _ (of_decide_eq_true h1)
    · rcases h2 with h2 | h2
      · exact .inl (by rw [of_decide_eq_true h2]; rfl)
      · exact .inr fun t m => goods_of h2 t m fs hc
theorem goods_of {cs : Cs} {ps : List Tree} : ∀ {ts : List Tree}, goodsB cs ps ts = true → ∀ t ∈ ts, GoodIn cs ps t
  | [], _ => fun t m => absurd m (List.not_mem_nil)
  | u :: ts, h => fun t m => by
    rw [goodsB, Bool.and_eq_true] at h
    rcases List.mem_cons.mp m with e | m
    · rw [e]; exact good_of h.1
    · exact goods_of h.2 t m
end
/-- plain parameters: unlike words that are not special -/
theorem goodPs_of {L : List (List Nat)} (l : L.length ≤ 12) (nd : L.Nodup) (ns : ∀ x ∈ L, spAr x = none) : GoodPs (L.map Tree.w) := by
  refine ⟨by rw [List.length_map]; exact l, fun i t hi => ?_⟩
  rw [List.getElem?_map] at hi
  cases hx : L[i]? with
  | none => rw [hx] at hi; cases hi
  | some x =>
    rw [hx] at hi
    refine ⟨x, (Option.some.inj hi).symm, ns x (List.mem_of_getElem? hx), fun j lj e => ?_⟩
    rw [List.getElem?_map] at e
    cases hy : L[j]? with
    | none => rw [hy] at e; cases e
    | some y =>
      rw [hy] at e
      have := Tree.w.inj (Option.some.inj e)
      subst this
      have := nodup_get nd hy hx
      omega
end Og

namespace Og
open PySem PySem.Spec PyProof.Rows L2
open PySem.NumText (AllDigits digitsVal)
/-! ### made names -/
def digs (n : Nat) : List Nat := (Nat.toDigits 10 n).map Char.toNat
theorem str_digs (n : Nat) : Str.ofString (toString ((n : Nat) : Int)) = tx (digs n) := by
  rw [tx_of (Str.ofString (toString ((n : Nat) : Int))), PySem.W.KIN.signs_num]
  rfl
theorem digs_all (n : Nat) : AllDigits (digs n) := by
  intro c hc
  obtain ⟨ch, hch, e⟩ := List.mem_map.mp hc
  rw [← e]
  exact digit_range (Nat.isDigit_of_mem_toDigits (by decide) (by decide) hch)
theorem digs_ne (n : Nat) : digs n ≠ [] := by
  intro e
  have h := toDigits_len_ge 10 n
  rw [List.map_eq_nil_iff.mp e] at h
  exact absurd h (by decide)
theorem digs_val (n : Nat) : digitsVal (digs n) = n := PySem.W.KIN.val_back n
theorem digs_inj {m n : Nat} (h : digs m = digs n) : m = n := by
  rw [← digs_val m, ← digs_val n, h]
theorem digs_zero (n : Nat) : digs n = [48] ∨ (digs n).head? ≠ some 48 := by
  refine (str_digits (digs_all n) (digs_ne n)).mp ?_
  rw [digs_val]
  exact str_digs n
theorem digs_len {k n : Nat} (hk : 1 ≤ k) (h : n < 10 ^ k) : (digs n).length ≤ k := by
  unfold digs
  rw [List.length_map]
  exact toDigits_len_pow (by decide) hk h
def madeN (n : Nat) : List Nat := 102 :: digs n
def madeP (n : Nat) : List Nat := 120 :: digs n
theorem madeN_inj {m n : Nat} (h : madeN m = madeN n) : m = n := digs_inj (List.cons.inj h).2
theorem madeP_inj {m n : Nat} (h : madeP m = madeP n) : m = n := digs_inj (List.cons.inj h).2
theorem spAr_none {c : Nat} {r : List Nat} (h : c ≠ 113 ∧ c ≠ 105 ∧ c ≠ 115 ∧ c ≠ 119 ∧ c ≠ 104 ∧ c ≠ 116 ∧ c ≠ 106) : spAr (c :: r) = none := by
  unfold spAr
  rw [Option.map_eq_none_iff, List.find?_eq_none]
  intro p m
  rw [decide_eq_true_eq]
  intro e
  have hd : p.1.head? = some c := by rw [e]; rfl
  simp only [specials, qw, List.mem_cons, List.not_mem_nil, or_false] at m
  rcases m with rfl | rfl | rfl | rfl | rfl | rfl | rfl <;> (have := Option.some.inj hd; omega)
theorem spAr_made (n : Nat) : spAr (madeN n) = none := spAr_none (by decide)
theorem spAr_par (n : Nat) : spAr (madeP n) = none := spAr_none (by decide)
theorem goodName_made {m n : Nat} (h : n < m) : GoodName m (madeN n) := ⟨spAr_made n, fun ds e _ _ => by
  have e2 : digs n = ds := (List.cons.inj e).2
  subst e2
  exact ⟨digs_zero n, by rw [digs_val]; exact h⟩⟩
theorem digs_sign (n : Nat) : ∀ c ∈ digs n, Sign c := fun c m => .inr (digs_all n c m)
theorem wordN {n : Nat} (h : n < 10 ^ 9) : IsWord (madeN n) := ⟨102, digs n, rfl, ⟨by decide, by decide⟩, digs_sign n, Nat.le_trans (digs_len (k := 9) (by decide) h) (by decide)⟩
theorem wordP {n : Nat} (h : n < 10 ^ 9) : IsWord (madeP n) := ⟨120, digs n, rfl, ⟨by decide, by decide⟩, digs_sign n, Nat.le_trans (digs_len (k := 9) (by decide) h) (by decide)⟩
/-- x1 .. xk -/
def mps (k : Nat) : List (List Nat) := (List.range k).map fun i => madeP (i + 1)
theorem mps_len (k : Nat) : (mps k).length = k := by unfold mps; rw [List.length_map, List.length_range]
theorem mps_nodup (k : Nat) : (mps k).Nodup := List.Pairwise.map _ (fun a b (h : a ≠ b) e => h (by have := madeP_inj e; omega)) List.nodup_range
theorem mps_mem {k : Nat} {x : List Nat} (h : x ∈ mps k) : ∃ i, i < k ∧ x = madeP (i + 1) := by
  obtain ⟨i, m, e⟩ := List.mem_map.mp h
  exact ⟨i, List.mem_range.mp m, e.symm⟩
/-! ### renaming -/
mutual
def ren (s : List Nat → List Nat) : Tree → Tree
  | .w x => .w x
  | .l [] => .l []
  | .l (.l us :: ts) => .l (.l us :: ts)
  | .l (.w n :: ts) => if n = qw then .l (.w n :: ts) else .l (.w (s n) :: rens s ts)
def rens (s : List Nat → List Nat) : List Tree → List Tree
  | [] => []
  | t :: ts => ren s t :: rens s ts
end
theorem ren_w (s : List Nat → List Nat) (x : List Nat) : ren s (.w x) = .w x := by rw [ren]
theorem ren_q (s : List Nat → List Nat) (ts : List Tree) : ren s (.l (.w qw :: ts)) = .l (.w qw :: ts) := by rw [ren, if_pos rfl]
theorem ren_c {s : List Nat → List Nat} {n : List Nat} (h : n ≠ qw) (ts : List Tree) : ren s (.l (.w n :: ts)) = .l (.w (s n) :: rens s ts) := by rw [ren, if_neg h]
theorem rens_map (s : List Nat → List Nat) : ∀ ts, rens s ts = ts.map (ren s)
  | [] => by rw [rens]; rfl
  | t :: ts => by rw [rens, rens_map s ts]; rfl
theorem rens_len (s : List Nat → List Nat) (ts : List Tree) : (rens s ts).length = ts.length := by rw [rens_map, List.length_map]
mutual
theorem ren_size (s : List Nat → List Nat) : ∀ t, (ren s t).size = t.size
  | .w x => by rw [ren_w]
  | .l [] => by rw [ren]
  | .l (.l us :: ts) => by rw [ren]
  | .l (.w n :: ts) => by
    by_cases h : n = qw
    · rw [h, ren_q]
    · rw [ren_c h, size_l, size_l, sizes_cons, sizes_cons, size_w, size_w, rens_size s ts]
theorem rens_size (s : List Nat → List Nat) : ∀ ts, sizes (rens s ts) = sizes ts
  | [] => by rw [rens]
  | t :: ts => by rw [rens, sizes_cons, sizes_cons, ren_size s t, rens_size s ts]
end
mutual
theorem ren_good {fs fs' ps : List Tree} {s : List Nat → List Nat} (hc : ∀ x k, parts fs x = some k → x ≠ qw → parts fs' (s x) = some k ∧ s x ≠ qw) (hq : ∀ k, parts fs qw = some k → parts fs' qw = some k) : ∀ t, GoodE fs ps t → GoodE fs' ps (ren s t)
  | .w x, h => by rw [ren_w]; rw [goodE_w] at h ⊢; exact h
  | .l [], h => by rw [GoodE] at h; exact h.elim
  | .l (.l us :: ts), h => by rw [GoodE] at h; exact h.elim
  | .l (.w n :: ts), h => by
    rw [GoodE] at h
    obtain ⟨h1, h2⟩ := h
    by_cases e : n = qw
    · subst e
      rw [ren_q, GoodE]
      exact ⟨hq _ h1, .inl rfl⟩
    · rw [ren_c e, GoodE, rens_len]
      exact ⟨(hc _ _ h1 e).1, .inr (rens_good hc hq ts (h2.resolve_left e))⟩
theorem rens_good {fs fs' ps : List Tree} {s : List Nat → List Nat} (hc : ∀ x k, parts fs x = some k → x ≠ qw → parts fs' (s x) = some k ∧ s x ≠ qw) (hq : ∀ k, parts fs qw = some k → parts fs' qw = some k) : ∀ ts, GoodEs fs ps ts → GoodEs fs' ps (rens s ts)
  | [], h => by rw [rens, GoodEs]; trivial
  | t :: ts, h => by
    rw [GoodEs] at h
    rw [rens, GoodEs]
    exact ⟨ren_good hc hq t h.1, rens_good hc hq ts h.2⟩
end
mutual
theorem ren_wt {s : List Nat → List Nat} (hs : ∀ x, IsWord x → IsWord (s x)) : ∀ t, WT t → WT (ren s t)
  | .w x, h => by rw [ren_w]; exact h
  | .l [], h => by rw [ren]; exact h
  | .l (.l us :: ts), h => by rw [ren]; exact h
  | .l (.w n :: ts), h => by
    by_cases e : n = qw
    · rw [e, ren_q]; rw [e] at h; exact h
    · rw [ren_c e]
      exact wt_l (wts_cons (wt_w (hs n h.list.head.word)) (rens_wt hs ts h.list.tail))
theorem rens_wt {s : List Nat → List Nat} (hs : ∀ x, IsWord x → IsWord (s x)) : ∀ ts, WTs ts → WTs (rens s ts)
  | [], h => by rw [rens]; exact wts_nil
  | t :: ts, h => by rw [rens]; exact wts_cons (ren_wt hs t h.head) (rens_wt hs ts h.tail)
end
/-- the names of a program, from a start on -/
def sig (ns : List (List Nat)) (start : Nat) (x : List Nat) : List Nat := if x ∈ ns then madeN (start + ns.idxOf x) else x
section
variable {α : Type}
def renF (ns : List (List Nat)) (start : Nat) (f : List Nat × α × Tree) : List Nat × α × Tree := (sig ns start f.1, f.2.1, ren (sig ns start) f.2.2)
/-- a program renamed -/
def renL (L : List (List Nat × α × Tree)) (start : Nat) : List (List Nat × α × Tree) := L.map (renF (L.map (·.1)) start)
theorem renL_len (L : List (List Nat × α × Tree)) (start : Nat) : (renL L start).length = L.length := List.length_map ..
theorem sig_in {ns : List (List Nat)} {start : Nat} {x : List Nat} (h : x ∈ ns) : sig ns start x = madeN (start + ns.idxOf x) := if_pos h
theorem sig_out {ns : List (List Nat)} {start : Nat} {x : List Nat} (h : x ∉ ns) : sig ns start x = x := if_neg h
theorem renL_names {L : List (List Nat × α × Tree)} (nd : (L.map (·.1)).Nodup) (start : Nat) : (renL L start).map (·.1) = (List.range L.length).map fun i => madeN (start + i) := by
  refine List.ext_getElem? fun i => ?_
  unfold renL
  rw [List.getElem?_map, List.getElem?_map, List.getElem?_map]
  by_cases h : i < L.length
  · rw [List.getElem?_eq_getElem h, List.getElem?_range h]
    show some (sig _ start L[i].1) = some (madeN (start + i))
    have hm : L[i].1 ∈ L.map (·.1) := List.mem_map.mpr ⟨_, List.getElem_mem h, rfl⟩
    rw [sig_in hm]
    have e : (L.map (·.1))[i]? = some L[i].1 := by rw [List.getElem?_map, List.getElem?_eq_getElem h]; rfl
    have l : i < (L.map (·.1)).length := by rw [List.length_map]; exact h
    have e2 : (L.map (·.1))[i] = L[i].1 := Option.some.inj ((List.getElem?_eq_getElem l).symm.trans e)
    rw [← e2, nd.idxOf_getElem i l]
  · rw [List.getElem?_eq_none (by omega), List.getElem?_eq_none (by rw [List.length_range]; omega)]
    rfl
end
theorem sig_word {ns : List (List Nat)} {start : Nat} (h : start + ns.length < 10 ^ 9) {x : List Nat} (wx : IsWord x) : IsWord (sig ns start x) := by
  by_cases m : x ∈ ns
  · rw [sig_in m]
    exact wordN (by have := List.idxOf_lt_length_of_mem m; omega)
  · rw [sig_out m]; exact wx
theorem arity_some : ∀ {L : List Fn} {x : List Nat} {k : Nat}, arity (L.map fnt) x = some k → ∃ f ∈ L, f.1 = x ∧ f.2.1.length = k
  | [], _, _, h => by cases h
  | g :: L, x, k, h => by
    rw [List.map_cons, arity, fn?_fnt] at h
    have h' : (if g.1 = x then some g.2.1.length else arity (L.map fnt) x) = some k := h
    by_cases e : g.1 = x
    · rw [if_pos e] at h'
      exact ⟨g, List.mem_cons_self .., e, Option.some.inj h'⟩
    · rw [if_neg e] at h'
      obtain ⟨f, m, a, b⟩ := arity_some h'
      exact ⟨f, List.mem_cons_of_mem _ m, a, b⟩
/-- what is renamed is good in each program that holds it -/
theorem renL_in {L F : List Fn} {start : Nat} (h : GoodL L) (sub : ∀ f ∈ renL L start, f ∈ F) : ∀ f ∈ renL L start, GoodPs f.2.1 ∧ GoodIn (sigs F) f.2.1 f.2.2 := by
  intro f m
  obtain ⟨g, mg, rfl⟩ := List.mem_map.mp m
  refine ⟨h.ps g mg, fun fs' hc => ?_⟩
  have spq : spAr qw = some 1 := by decide +kernel
  refine ren_good (fs := L.map fnt) (fun x k hx nq => ?_) (fun k hk => ?_) g.2.2 (h.ex g mg _ h.calls)
  · unfold parts at hx
    cases es : spAr x with
    | some j =>
      rw [es] at hx
      have nm : x ∉ L.map (·.1) := fun m => by
        obtain ⟨f, mf, e⟩ := List.mem_map.mp m
        have := (h.nm f mf).1
        rw [e, es] at this
        cases this
      rw [sig_out nm]
      exact ⟨by unfold parts; rw [es]; exact hx, nq⟩
    | none =>
      rw [es] at hx
      obtain ⟨f, mf, e1, e2⟩ := arity_some hx
      have mx : x ∈ L.map (·.1) := by rw [← e1]; exact List.mem_map.mpr ⟨f, mf, rfl⟩
      have mF : renF (L.map (·.1)) start f ∈ F := sub _ (List.mem_map.mpr ⟨f, mf, rfl⟩)
      have := hc (sig (L.map (·.1)) start x, k) (List.mem_map.mpr ⟨_, mF, by show (sig _ start f.1, f.2.1.length) = _; rw [e1, e2]⟩)
      refine ⟨this, fun z => ?_⟩
      rw [sig_in mx] at z
      have a := spAr_made (start + (L.map (·.1)).idxOf x)
      rw [z, spq] at a
      cases a
  · unfold parts at hk ⊢
    rw [spq] at hk ⊢
    exact hk
/-- programs side by side -/
def sides {α : Type} : List (List (List Nat × α × Tree)) → Nat → List (List Nat × α × Tree)
  | [], _ => []
  | L :: Ls, s => renL L s ++ sides Ls (s + L.length)
def tot {α : Type} : List (List (List Nat × α × Tree)) → Nat
  | [] => 0
  | L :: Ls => L.length + tot Ls
theorem sides_len {α : Type} : ∀ (Ls : List (List (List Nat × α × Tree))) (s : Nat), (sides Ls s).length = tot Ls
  | [], _ => rfl
  | L :: Ls, s => by rw [sides, List.length_append, renL_len, sides_len Ls, tot]
theorem sides_names {α : Type} : ∀ {Ls : List (List (List Nat × α × Tree))} (s : Nat), (∀ L ∈ Ls, (L.map (·.1)).Nodup) → (sides Ls s).map (·.1) = (List.range (tot Ls)).map fun i => madeN (s + i)
  | [], s, _ => rfl
  | L :: Ls, s, h => by
    rw [sides, List.map_append, renL_names (h L (List.mem_cons_self ..)), sides_names (s + L.length) fun M m => h M (List.mem_cons_of_mem _ m), tot, List.range_add, List.map_append, List.map_map]
    congr 1
    refine List.map_congr_left fun i _ => ?_
    show madeN (s + L.length + i) = madeN (s + (L.length + i))
    rw [Nat.add_assoc]
theorem sides_in : ∀ {Ls : List (List Fn)} {F : List Fn} {s : Nat}, (∀ L ∈ Ls, GoodL L) → (∀ f ∈ sides Ls s, f ∈ F) → ∀ f ∈ sides Ls s, GoodPs f.2.1 ∧ GoodIn (sigs F) f.2.1 f.2.2
  | [], F, s, _, _ => fun f m => absurd m (List.not_mem_nil)
  | L :: Ls, F, s, h, sub => fun f m => by
    rw [sides] at m sub
    rcases List.mem_append.mp m with m | m
    · exact renL_in (h L (List.mem_cons_self ..)) (fun g mg => sub g (List.mem_append_left _ mg)) f m
    · exact sides_in (fun M mM => h M (List.mem_cons_of_mem _ mM)) (fun g mg => sub g (List.mem_append_right _ mg)) f m
/-- good programs side by side, and a function in front -/
def fronted {α : Type} (Ls : List (List (List Nat × α × Tree))) (ps : α) (b : Tree) : List (List Nat × α × Tree) := (madeN (tot Ls), ps, b) :: sides Ls 0
theorem fronted_good {Ls : List (List Fn)} {ps : List Tree} {b : Tree} (h : ∀ L ∈ Ls, GoodL L) (gp : GoodPs ps) (gb : GoodIn (sigs (fronted Ls ps b)) ps b) : GoodL (fronted Ls ps b) := by
  have nms : (fronted Ls ps b).map (·.1) = madeN (tot Ls) :: (List.range (tot Ls)).map fun i => madeN (0 + i) := by
    unfold fronted
    rw [List.map_cons, sides_names 0 fun L m => (h L m).nd]
  have len : (fronted Ls ps b).length = tot Ls + 1 := by
    unfold fronted
    rw [List.length_cons, sides_len]
  have sd := sides_in (F := fronted Ls ps b) (s := 0) h fun f m => List.mem_cons_of_mem _ m
  refine ⟨?_, fun f m => ?_, fun f m => ?_, fun f m => ?_⟩
  · rw [nms, List.nodup_cons]
    refine ⟨fun m => ?_, List.Pairwise.map _ (fun a b (h : a ≠ b) e => h (by have := madeN_inj e; omega)) List.nodup_range⟩
    obtain ⟨i, mi, e⟩ := List.mem_map.mp m
    have := madeN_inj e
    have := List.mem_range.mp mi
    omega
  · rw [len]
    have : f.1 ∈ (fronted Ls ps b).map (·.1) := List.mem_map.mpr ⟨f, m, rfl⟩
    rw [nms] at this
    rcases List.mem_cons.mp this with e | m2
    · rw [e]; exact goodName_made (by omega)
    · obtain ⟨i, mi, e⟩ := List.mem_map.mp m2
      have := List.mem_range.mp mi
      rw [← e]
      exact goodName_made (by omega)
  · rcases List.mem_cons.mp m with e | m2
    · rw [e]; exact gp
    · exact (sd f m2).1
  · rcases List.mem_cons.mp m with e | m2
    · rw [e]; exact gb
    · exact (sd f m2).2
end Og

namespace Og
open PySem PySem.Spec PyProof.Rows L2
/-! ### heaps: each tracked thing stays, but for what can change at the places S -/
def Mo (o : HO) : Prop := (∃ xs, o = .lst xs) ∨ (∃ C d fs, o = .ins C d fs) ∨ (∃ kvs, o = .dK kvs) ∨ (∃ kvs, o = .dT kvs)
theorem mo_lst {xs : List V} : Mo (.lst xs) := .inl ⟨_, rfl⟩
theorem mo_ins {C d : Addr} {fs : List (Str × V)} : Mo (.ins C d fs) := .inr (.inl ⟨_, _, _, rfl⟩)
theorem mo_dK {kvs : List (Key × V)} : Mo (.dK kvs) := .inr (.inr (.inl ⟨_, rfl⟩))
theorem mo_dT {kvs : List (List Key × V)} : Mo (.dT kvs) := .inr (.inr (.inr ⟨_, rfl⟩))
theorem mo_not_tup {xs : List V} : ¬ Mo (.tup xs) := by rintro (⟨_, h⟩ | ⟨_, _, _, h⟩ | ⟨_, h⟩ | ⟨_, h⟩) <;> cases h
theorem mo_not_frz {p : Obj} {o : HO} : ¬ Mo (.frz p o) := by rintro (⟨_, h⟩ | ⟨_, _, _, h⟩ | ⟨_, h⟩ | ⟨_, h⟩) <;> cases h
def Kp (S : List Addr) (H H' : Hp) : Prop := ∀ b o, H b = some o → H' b = some o ∨ (b ∈ S ∧ Mo o ∧ ∃ o', Mo o' ∧ H' b = some o')
theorem Kp.refl {S : List Addr} {H : Hp} : Kp S H H := fun _ _ e => .inl e
theorem Kp.trans {S : List Addr} {H H1 H2 : Hp} (a : Kp S H H1) (b : Kp S H1 H2) : Kp S H H2 := fun p o e => by
  rcases a p o e with h | ⟨h, m, o', m', e2⟩
  · exact b p o h
  · rcases b p _ e2 with h' | ⟨_, _, o2, m2, e4⟩
    · exact .inr ⟨h, m, o', m', h'⟩
    · exact .inr ⟨h, m, o2, m2, e4⟩
theorem Kp.mono {S S' : List Addr} {H H1 : Hp} (a : Kp S H H1) (h : ∀ x ∈ S, x ∈ S') : Kp S' H H1 := fun p o e => by
  rcases a p o e with q | ⟨q, r⟩
  · exact .inl q
  · exact .inr ⟨h _ q, r⟩
theorem Kp.of {S : List Addr} {H H1 : Hp} (a : Keep S H H1) : Kp S H H1 := fun p o e => by
  rcases a p o e with q | ⟨q, xs, ys, rfl, r⟩
  · exact .inl q
  · exact .inr ⟨q, mo_lst, _, mo_lst, r⟩
theorem Kp.of0 {S : List Addr} {H H1 : Hp} (a : Keep [] H H1) : Kp S H H1 := (Kp.of a).mono fun _ m => absurd m (List.not_mem_nil)
theorem Kp.same {H H1 : Hp} (a : Kp [] H H1) : Same H H1 := fun b o e => by
  rcases a b o e with q | ⟨q, _⟩
  · exact q
  · exact absurd q (List.not_mem_nil)
theorem Kp.keep {H H1 : Hp} (a : Kp [] H H1) : Keep [] H H1 := Keep.of_same a.same
theorem Kp.new {S : List Addr} {H : Hp} {p : Addr} {o : HO} (h : H p = none) : Kp S H (upd H p o) := fun b u e => .inl (by rw [upd_ne (ne_of_none e h)]; exact e)
theorem Kp.newT {S : List Addr} {H H1 : Hp} {p : Addr} {o : HO} (a : Kp S H H1) (h : H1 p = none) : Kp S H (upd H1 p o) := a.trans (Kp.new h)
theorem Kp.set {S : List Addr} {H : Hp} {p : Addr} {o o' : HO} (h : H p = some o) (m : Mo o) (m' : Mo o') (i : p ∈ S) : Kp S H (upd H p o') := fun b u e => by
  by_cases hb : b = p
  · subst hb
    rw [h] at e
    cases e
    exact .inr ⟨i, m, o', m', upd_same⟩
  · exact .inl (by rw [upd_ne hb]; exact e)
theorem Kp.setT {S : List Addr} {H H1 : Hp} {p : Addr} {o o' : HO} (a : Kp S H H1) (h : H1 p = some o) (m : Mo o) (m' : Mo o') (i : p ∈ S) : Kp S H (upd H1 p o') := a.trans (Kp.set h m m' i)
theorem Kp.drop {S : List Addr} {H H1 : Hp} {p : Addr} (a : Kp (p :: S) H H1) (h : H p = none) : Kp S H H1 := fun b o e => by
  rcases a b o e with q | ⟨q, r⟩
  · exact .inl q
  · rcases List.mem_cons.mp q with q | q
    · subst q
      rw [h] at e
      cases e
    · exact .inr ⟨q, r⟩
/-- what is new may change -/
theorem Kp.drops {S T : List Addr} {H H1 : Hp} (a : Kp S H H1) (h : ∀ p ∈ S, H p = none ∨ p ∈ T) : Kp T H H1 := fun b o e => by
  rcases a b o e with q | ⟨q, r⟩
  · exact .inl q
  · rcases h b q with n | m
    · rw [n] at e; cases e
    · exact .inr ⟨m, r⟩
theorem Kp.cons {S : List Addr} {H H1 : Hp} {p : Addr} (a : Kp S H H1) : Kp (p :: S) H H1 := a.mono fun _ h => List.mem_cons_of_mem _ h
theorem Kp.get {S : List Addr} {H H1 : Hp} {b : Addr} {o : HO} (a : Kp S H H1) (e : H b = some o) (h : b ∉ S) : H1 b = some o := by
  rcases a b o e with q | ⟨q, _⟩
  · exact q
  · exact absurd q h
theorem Kp.free {S : List Addr} {H H1 : Hp} {b : Addr} (a : Kp S H H1) (e : H1 b = none) : H b = none := by
  cases q : H b with
  | none => rfl
  | some o => rcases a b o q with r | ⟨_, _, _, _, r⟩ <;> rw [r] at e <;> cases e
theorem Kp.tup {S : List Addr} {H H1 : Hp} {b : Addr} {xs : List V} (a : Kp S H H1) (e : H b = some (.tup xs)) : H1 b = some (.tup xs) := by
  rcases a b _ e with q | ⟨_, m, _⟩
  · exact q
  · exact absurd m mo_not_tup
theorem Kp.rdT {S : List Addr} {H H1 : Hp} {b : Addr} {xs : List V} (a : Kp S H H1) (e : Rd H b (.tup xs)) : Rd H1 b (.tup xs) := by
  rcases e with e | ⟨o, e⟩
  · exact .inl (a.tup e)
  · rcases a b _ e with q | ⟨_, m, _⟩
    · exact .inr ⟨o, q⟩
    · exact absurd m mo_not_frz
theorem Kp.sqT {K : PySem.W.Frag} {S : List Addr} {H H1 : Hp} {b : Addr} {xs : List V} (a : Kp S H H1) (e : SqT K H b xs) : SqT K H1 b xs := by
  rcases e with e | e
  · exact .inl (a.rdT e)
  · exact .inr e
theorem Kp.sqL {K : PySem.W.Frag} {S : List Addr} {H H1 : Hp} {b : Addr} {xs : List V} (a : Kp S H H1) (h : b ∉ S) (e : SqL K H b xs) : SqL K H1 b xs := by
  rcases e with (e | ⟨o, e⟩) | e
  · exact .inl (.inl (a.get e h))
  · exact .inl (.inr ⟨o, a.get e h⟩)
  · exact .inr e
mutual
theorem Tr.kp {K : PySem.W.Frag} {S : List Addr} {H H1 : Hp} (a : Kp S H H1) : ∀ {v : V} {t : Tree}, Tr K H v t → Tr K H1 v t
  | v, .w x, h => by rw [Tr] at h ⊢; exact h
  | v, .l ts, h => by
    rw [Tr] at h ⊢
    obtain ⟨p, vs, e, h1, h2⟩ := h
    exact ⟨p, vs, e, a.sqT h1, Trs.kp a h2⟩
theorem Trs.kp {K : PySem.W.Frag} {S : List Addr} {H H1 : Hp} (a : Kp S H H1) : ∀ {vs : List V} {ts : List Tree}, Trs K H vs ts → Trs K H1 vs ts
  | vs, [], h => by rw [Trs] at h ⊢; exact h
  | vs, t :: ts, h => by
    rw [Trs] at h ⊢
    obtain ⟨v, r, e, h1, h2⟩ := h
    exact ⟨v, r, e, Tr.kp a h1, Trs.kp a h2⟩
end
/-! ### own classes without a base -/
structure OwnC (K : PySem.W.Frag) (mg : Str → Option Value) (x : Str) (as : List Str) (C : Addr) : Prop where
  gC : mg x = some (.ref C)
  cl : L2.Cls K C
  no : ∀ f ∈ as, NoAttr K C f
/-- its __init__, as the program's top leaves it -/
structure InitAt (K : PySem.W.Frag) (C : Addr) (qual : Str) (st : Stmt) (ps : List Str) : Prop where
  ex : ∃ f fd, Fun K "__init__" qual st f fd ∧ Mk K C f ∧ Binds K fd ps []
structure MethAt (K : PySem.W.Frag) (C : Addr) (x qual : Str) (st : Stmt) (ps : List Str) : Prop where
  ex : ∃ f fd, Fun K x qual st f fd ∧ Meth K C x f ∧ Binds K fd ps []
structure MCallee (P : Program) (w : World) (K : PySem.W.Frag) (mg : Str → Option Value) (base : Heap) (k : Nat) (C : Addr) (x : Str) (f : Addr) (fd : FuncData) (ps : List Str) (sp : Sp) : Prop where
  ok : FnOk P w K mg base CX0 k f fd ps sp
  me : Meth K C x f
  cl : L2.Cls K C
  bi : Binds K fd ps []
structure KCallee (P : Program) (w : World) (K : PySem.W.Frag) (mg : Str → Option Value) (base : Heap) (k : Nat) (C : Addr) (x : Str) (f : Addr) (fd : FuncData) (ps : List Str) (sp : Sp) : Prop where
  ok : FnOk P w K mg base CX0 k f fd ps sp
  mkr : Mk K C f
  gC : mg x = some (.ref C)
  bi : Binds K fd ps []
def HasM (P : Program) (w : World) (K : PySem.W.Frag) (mg : Str → Option Value) (base : Heap) (k : Nat) (C : Addr) (x : Str) (ps : List Str) (sp : Sp) : Prop := ∃ f fd, MCallee P w K mg base k C x f fd ps sp
def HasK (P : Program) (w : World) (K : PySem.W.Frag) (mg : Str → Option Value) (base : Heap) (k : Nat) (C : Addr) (x : Str) (ps : List Str) (sp : Sp) : Prop := ∃ f fd, KCallee P w K mg base k C x f fd ps sp
theorem HasM.mono {P : Program} {w : World} {K : PySem.W.Frag} {mg : Str → Option Value} {base : Heap} {j k : Nat} {C : Addr} {x : Str} {ps : List Str} {sp : Sp} (h : HasM P w K mg base j C x ps sp) (l : j ≤ k) : HasM P w K mg base k C x ps sp := by
  obtain ⟨f, fd, c⟩ := h
  exact ⟨f, fd, c.ok.mono l, c.me, c.cl, c.bi⟩
theorem HasK.mono {P : Program} {w : World} {K : PySem.W.Frag} {mg : Str → Option Value} {base : Heap} {j k : Nat} {C : Addr} {x : Str} {ps : List Str} {sp : Sp} (h : HasK P w K mg base j C x ps sp) (l : j ≤ k) : HasK P w K mg base k C x ps sp := by
  obtain ⟨f, fd, c⟩ := h
  exact ⟨f, fd, c.ok.mono l, c.mkr, c.gC, c.bi⟩
section
variable {X : Cx} {k : Nat} {C : Addr} {x : Str} {f : Addr} {fd : FuncData} {ps : List Str} {sp : Sp} {p apos pos : Pos} {o e : Expr} {es : List Expr} {to : TE} {t : TA} {pl : Sem Bool}
theorem calM (M : MCallee X.prog X.w X.K X.mg X.base k C x f fd ps sp) (hr : Room k X.A) (ho : PE X o to) (ha : PA X (e :: es) t)
    (hst : starEach (e :: es) X.env = (false, eval e X.env) :: starEach es X.env := by rfl) (hpl : (backTo pos (starEach es X.env)).any (·.1) = false := by rfl)
    (ht : eval (.Call (.Attribute o x apos) (e :: es) [] pos) X.env = (do
      let ov ← eval o X.env
      standAt apos.atName
      let (f, first) ← holding [ov] (getMethod ov x pl)
      callWith pos f first (backTo pos (starEach (e :: es) X.env)) (backToKw pos (keywordEach [] X.env))) := by rfl) : PE X (.Call (.Attribute o x apos) (e :: es) [] pos) (tMeth C x sp [] E0 to t) :=
  pe_meth ho M.cl M.me M.ok hr M.bi .nil pass0 ha hst hpl ht
theorem calM0 (M : MCallee X.prog X.w X.K X.mg X.base k C x f fd ps sp) (hr : Room k X.A) (ho : PE X o to)
    (ht : eval (.Call (.Attribute o x apos) [] [] pos) X.env = (do
      let ov ← eval o X.env
      standAt apos.atName
      let (f, first) ← holding [ov] (getMethod ov x pl)
      callWith pos f first (backTo pos (starEach [] X.env)) (backToKw pos (keywordEach [] X.env))) := by rfl) : PE X (.Call (.Attribute o x apos) [] [] pos) (tMeth C x sp [] E0 to tNil) :=
  pe_meth0 ho M.cl M.me M.ok hr M.bi .nil pass0 ht
theorem calK (M : KCallee X.prog X.w X.K X.mg X.base k C x f fd ps sp) (hr : Room (k + 1) X.A) (ha : PA X (e :: es) t) (hg : Gl X x := by rfl) (hdb : (x == ("__debug__" : Str)) = false := by decide)
    (he : starEach (e :: es) X.env = (false, eval e X.env) :: starEach es X.env := by rfl) (hpl : (backTo pos (starEach es X.env)).any (·.1) = false := by rfl) : PE X (.Call (.Name x p) (e :: es) [] pos) (tMake C sp [] E0 t) :=
  pe_make M.mkr M.ok hr hg M.gC M.bi .nil pass0 ha hdb he hpl
theorem calK0 (M : KCallee X.prog X.w X.K X.mg X.base k C x f fd ps sp) (hr : Room (k + 1) X.A) (hg : Gl X x := by rfl) (hdb : (x == ("__debug__" : Str)) = false := by decide) : PE X (.Call (.Name x p) [] [] pos) (tMake C sp [] E0 tNil) :=
  pe_make0 M.mkr M.ok hr hg M.gC M.bi .nil pass0 hdb
end
end Og

namespace Og
open PySem PySem.Spec PyProof.Rows L2
/-! ### xs[a:] = ys and del xs[a:] -/
/-- where the tail begins -/
def tailAt (n : Nat) (a : Int) : Nat := if a < 0 then ((n : Int) + a).toNat else min a.toNat n
theorem bounds_tail {a : Int} {n : Nat} (h : -(n : Int) ≤ a) : sliceBounds (some a) none none n = (((tailAt n a : Nat) : Int), (n : Int), 1) := by
  unfold tailAt
  simp only [sliceBounds, Option.getD_none]
  by_cases h1 : a < 0
  · simp only [h1, if_true, if_pos, show (1 : Int) > 0 by decide]
    congr 1
    · omega
  · simp only [h1, if_false, show (1 : Int) > 0 by decide, if_true]
    congr 1
    · omega
theorem tailAt_le (n : Nat) (a : Int) (h : a < 0 ∨ 0 ≤ a) : tailAt n a ≤ n := by
  unfold tailAt
  split <;> omega
theorem filter_tail {α : Type} (p : Nat → Bool) (a : Nat) : ∀ (l : List α) (k : Nat), (∀ j, k ≤ j → j < k + l.length → p j = decide (a ≤ j)) → (l.zipIdx k).filterMap (fun x => if p x.2 = true then none else some x.1) = l.take (a - k)
  | [], k, _ => by simp
  | x :: l, k, h => by
    have ih := filter_tail p a l (k + 1) fun j h1 h2 => h j (by omega) (by rw [List.length_cons]; omega)
    have hk := h k (Nat.le_refl _) (by rw [List.length_cons]; omega)
    rw [List.zipIdx_cons, List.filterMap_cons]
    by_cases c : a ≤ k
    · rw [decide_eq_true c] at hk
      dsimp only
      rw [hk, if_pos rfl, ih, show a - (k + 1) = 0 by omega, show a - k = 0 by omega]
      rfl
    · rw [decide_eq_false c] at hk
      dsimp only
      rw [hk, if_neg (by decide), ih, show a - k = (a - (k + 1)) + 1 by omega, List.take_succ_cons]
section
variable {prog : Program} {w : World} {A : Around} {E : Value → Shared → Prop} {s : Shared}
theorem tail_eq (its its2 : List Value) (a : Nat) (h : a ≤ its.length) : its.toArray.extract 0 a ++ its2.toArray ++ its.toArray.extract its.toArray.size its.toArray.size = (its.take a ++ its2).toArray := by
  apply Array.toList_inj.mp
  simp
set_option maxRecDepth 100000 in
theorem setItem_tail {l b sl : Addr} {items new : Array Value} {n n2 : Nat} {vl vu : Value} {a : Int} {Q : Unit → Shared → Prop}
    (e : s.heap.get? l = some { cls := .type "list", data := .seq items n }) (e2 : s.heap.get? b = some { cls := .type "list", data := .seq new n2 }) (hne : l ≠ b)
    (hs : s.heap.IsSliceOf sl vl vu .none) (pl : IsPart vl (some a)) (pu : IsPart vu none) (ha : -(items.size : Int) ≤ a)
    (hsz : items.size + new.size ≤ sizeLine) (h : Q () { s with heap := s.heap.update l (Obj.mapSeq fun xs => xs.extract 0 (tailAt items.size a) ++ new ++ xs.extract items.size xs.size) }) :
    wpAny (model prog w) A (setItem (.ref l) (.ref sl) (.ref b)) Q E s := by
  have hl : s.heap.IsList l items := PySem.IsL.isList e
  have hb : s.heap.IsList b new := PySem.IsL.isList e2
  obtain ⟨os, hos, hcs, hds⟩ := id hs
  have hTs : s.TypeIs (.ref sl) "slice" := ⟨os, hos, hcs⟩
  have hstep : ¬ ((rawPart none == rawInt 0) = true) := Bool.false_ne_true
  have hsame : Builtin.List.listSameRef (.ref l) (.ref b) = false := by
    unfold Builtin.List.listSameRef
    exact beq_eq_false_iff_ne.mpr hne
  have hle : tailAt items.size a ≤ items.size := tailAt_le _ _ (by omega)
  have hmax : (max ((tailAt items.size a : Nat) : Int) (items.size : Int)).toNat = items.size := by omega
  have hz' : ((fun xs : Array Value => xs.extract 0 (tailAt items.size a) ++ new ++ xs.extract items.size xs.size) items).size ≤ sizeLine + 1 := by
    simp only [Array.size_append, Array.size_extract]
    omega
  unfold setItem
  try with_reducible refine wpAny_holding ?_
  first | refine wpAny_bind (wpAny_pure ?_) | skip
  refine wpAny_bind (wpAny_sequenceKey hl.typeIs (by decide) ?_)
  refine wpAny_bind (wpAny_callSpecial?_slot (name := Str.ofString "__setitem__") hl.typeIs slot_list_setitem
    (wpAny_call_entry slot_list_setitem hl.typeIs entry_list_setitem ?_ (args_list_setitem _ _ _)))
  show wpAny _ _ (Builtin.List.listSubscript? (.ref sl) >>= _) _ _ s
  refine wpAny_bind ?_
  unfold Builtin.List.listSubscript?
  refine wpAny_bind (wpAny_specialOf hTs slice_no_index ?_)
  simp only [Option.isNone_none, if_true]
  refine wpAny_pure ?_
  show wpAny _ _ (typeOf (.ref sl) >>= _) _ _ s
  refine wpAny_bind (wpAny_typeOf hTs ?_)
  first
    | rw [if_neg (by decide)]
    | refine PySem.W.KFB.if_not (by decide) ?_
  rw [listSliceParts_eq]
  refine wpAny_bind (wpAny_bind (wpAny_field hos hds (x := .none) rfl (wpAny_bind (wpAny_listPart .none ?_))))
  rw [if_neg hstep]
  refine wpAny_bind (wpAny_field hos hds (x := vl) rfl (wpAny_bind (wpAny_listPart pl ?_)))
  refine wpAny_bind (wpAny_field hos hds (x := vu) rfl (wpAny_bind (wpAny_listPart pu (wpAny_pure ?_))))
  first
    | simp only [hsame, Bool.false_eq_true, if_false]
    | refine PySem.W.KFB.if_not hsame ?_
    | (dsimp only
       rw [if_neg (by rw [hsame]; exact Bool.false_ne_true)])
  refine wpAny_bind (m := Builtin.List.listAllItems (.ref b) "must assign iterable to extended slice") ?_
  unfold Builtin.List.listAllItems
  refine wpAny_bind (wpAny_typeOf hb.typeIs ?_)
  first
    | refine PySem.W.KFB.if_so (by decide) ?_
    | rw [if_pos (by decide)]
    | simp only [beq_self_eq_true, Bool.true_or, if_true]
  unfold Builtin.List.listItems
  refine wpAny_bind (wpAny_seqItems e2 rfl (wpAny_pure ?_))
  refine wpAny_bind (wpAny_bind (wpAny_seqItems e rfl (wpAny_pure ?_)))
  refine wpAny_bind (wpAny_of_eq ((sliceIndices_raw (some a) none none items.size (by simp)).trans (congrArg (pure : Int × Int × Int → Sem (Int × Int × Int)) (bounds_tail ha))) ?_)
  show wpAny _ _ (if ((1 : Int) == 1) = true then _ else _) _ _ s
  rw [if_pos (by decide)]
  refine wpAny_bind (wpAny_rule ?_)
  first
    | simp only [notLongL hsz, Bool.false_eq_true, if_false]
    | refine PySem.W.KFB.if_not (notLongL hsz) ?_
  first | refine wpAny_bind (wpAny_pure ?_) | skip
  show wpAny _ _ (updateSeq l (fun xs => xs.extract 0 (((tailAt items.size a : Nat) : Int)).toNat ++ new ++ xs.extract (max ((tailAt items.size a : Nat) : Int) (items.size : Int)).toNat xs.size) >>= _) _ _ s
  rw [hmax, Int.toNat_natCast]
  refine wpAny_bind (wpAny_updateSeq (hz := Nat.le_trans (Nat.le_add_right _ _) hsz) (_hz' := hz') e rfl ?_)
  refine wpAny_bind (wpAny_letGo ?_)
  first
    | exact wpAny_bind (wpAny_pure (wpAny_pure ⟨.none, rfl, wpAny_pure h⟩))
    | exact wpAny_pure ⟨.none, rfl, wpAny_pure h⟩
/-- which places a slice of step one takes -/
def selB (a n : Int) (j : Nat) : Bool := if (1 : Int) > 0 then (decide (a ≤ (j : Int)) && decide ((j : Int) < n) && (((j : Int) - a) % 1 == 0)) else (decide (n < (j : Int)) && decide ((j : Int) ≤ a) && ((a - (j : Int)) % (-1) == 0))
set_option maxRecDepth 100000 in
theorem delItem_tail {l sl : Addr} {items : Array Value} {n : Nat} {vl vu : Value} {a : Int} {Q : Unit → Shared → Prop}
    (e : s.heap.get? l = some { cls := .type "list", data := .seq items n })
    (hs : s.heap.IsSliceOf sl vl vu .none) (pl : IsPart vl (some a)) (pu : IsPart vu none) (ha : -(items.size : Int) ≤ a)
    (hsz : items.size ≤ sizeLine) (h : ∀ f : Array Value → Array Value, f items = (items.toList.take (tailAt items.size a)).toArray → Q () { s with heap := s.heap.update l (Obj.mapSeq f) }) :
    wpAny (model prog w) A (delItem (.ref l) (.ref sl)) Q E s := by
  have hl : s.heap.IsList l items := PySem.IsL.isList e
  obtain ⟨os, hos, hcs, hds⟩ := id hs
  have hTs : s.TypeIs (.ref sl) "slice" := ⟨os, hos, hcs⟩
  have hstep : ¬ ((rawPart none == rawInt 0) = true) := Bool.false_ne_true
  have hle : tailAt items.size a ≤ items.size := tailAt_le _ _ (by omega)
  refine wpAny_delItem_slot hl.typeIs (by decide) PySem.F.slot_list_delitem ?_
  refine wpAny_call_entry PySem.F.slot_list_delitem hl.typeIs PySem.F.entry_list_delitem ?_ (PySem.F.args_list_delitem_2 _ _)
  show wpAny _ _ (Builtin.List.listSubscript? (.ref sl) >>= _) _ _ s
  refine wpAny_bind ?_
  unfold Builtin.List.listSubscript?
  refine wpAny_bind (wpAny_specialOf hTs slice_no_index ?_)
  simp only [Option.isNone_none, if_true]
  refine wpAny_pure ?_
  show wpAny _ _ (typeOf (.ref sl) >>= _) _ _ s
  refine wpAny_bind (wpAny_typeOf hTs ?_)
  first
    | rw [if_neg (by decide)]
    | refine PySem.W.KFB.if_not (by decide) ?_
  rw [listSliceParts_eq]
  refine wpAny_bind (wpAny_bind (wpAny_field hos hds (x := .none) rfl (wpAny_bind (wpAny_listPart .none ?_))))
  rw [if_neg hstep]
  refine wpAny_bind (wpAny_field hos hds (x := vl) rfl (wpAny_bind (wpAny_listPart pl ?_)))
  refine wpAny_bind (wpAny_field hos hds (x := vu) rfl (wpAny_bind (wpAny_listPart pu (wpAny_pure ?_))))
  unfold Builtin.List.listItems
  refine wpAny_bind (wpAny_bind (wpAny_seqItems e rfl (wpAny_pure ?_)))
  refine wpAny_bind (wpAny_of_eq ((sliceIndices_raw (some a) none none items.size (by simp)).trans (congrArg (pure : Int × Int × Int → Sem (Int × Int × Int)) (bounds_tail ha))) ?_)
  dsimp only
  refine wpAny_bind (wpAny_rule ?_)
  have key : ∀ p : Nat → Bool, (∀ j, j < items.size → p j = decide (tailAt items.size a ≤ j)) → ((items.toList.zipIdx).filterMap (fun x => if p x.2 = true then none else some x.1)).toArray = (items.toList.take (tailAt items.size a)).toArray := fun p hp => by
    have := filter_tail p (tailAt items.size a) items.toList 0 fun j _ h2 => hp j (by rw [Nat.zero_add, Array.length_toList] at h2; exact h2)
    rw [this, Nat.sub_zero]
  have sel : ∀ j, j < items.size → selB ((tailAt items.size a : Nat) : Int) (items.size : Int) j = decide (tailAt items.size a ≤ j) := fun j hj => by
    unfold selB
    rw [if_pos (by decide), Int.emod_one]
    by_cases c : tailAt items.size a ≤ j
    · rw [decide_eq_true c, decide_eq_true (show ((tailAt items.size a : Nat) : Int) ≤ (j : Int) by omega), decide_eq_true (show (j : Int) < (items.size : Int) by omega)]
      rfl
    · rw [decide_eq_false c, decide_eq_false (show ¬ ((tailAt items.size a : Nat) : Int) ≤ (j : Int) by omega)]
      rfl
  refine wpAny_bind (m := Builtin.List.listUpdate (.ref l) _) ?_
  show wpAny _ _ (updateSeq l _) _ _ s
  refine wpAny_updateSeq (hz := hsz) (_hz' := ?_) e rfl ?_
  · refine wpAny_bind (wpAny_letGo ?_)
    have fin := h (fun xs => (xs.toList.zipIdx.filterMap fun x => if selB ((tailAt items.size a : Nat) : Int) (items.size : Int) x.2 = true then none else some x.1).toArray) (key _ sel)
    first
      | exact wpAny_pure ⟨.none, rfl, wpAny_pure fin⟩
      | exact wpAny_pure ⟨.none, rfl, fin⟩
      | exact wpAny_pure fin
  · have k := key _ sel
    refine Nat.le_trans (Nat.le_of_eq (congrArg Array.size k)) ?_
    rw [List.size_toArray, List.length_take]
    have : items.toList.length = items.size := Array.length_toList
    omega
end
end Og

namespace Og
open PySem PySem.Spec PyProof.Rows L2
def sSetTail (to ti tv : TE) : TS := fun D σ H => tv σ H fun y H1 => to σ H1 fun x H2 => ti σ H2 fun z H3 => ∃ (l b : Addr) (xs ys : List V) (a : Int), x = .ref l ∧ y = .ref b ∧ z = .int a ∧ H3 l = some (.lst xs) ∧ H3 b = some (.lst ys) ∧ l ≠ b ∧ -(xs.length : Int) ≤ a ∧ xs.length + ys.length ≤ sizeLine ∧
  D.nx σ (upd H3 l (.lst (xs.take (tailAt xs.length a) ++ ys)))
def sDelTail (to ti : TE) : TS := fun D σ H => to σ H fun x H1 => ti σ H1 fun z H2 => ∃ (l : Addr) (xs : List V) (a : Int), x = .ref l ∧ z = .int a ∧ H2 l = some (.lst xs) ∧ -(xs.length : Int) ≤ a ∧ xs.length ≤ sizeLine ∧ D.nx σ (upd H2 l (.lst (xs.take (tailAt xs.length a))))
section
variable {X : Cx} {o lo value : Expr} {to ti tv : TE} {sp pos' pos tpos : Pos}
theorem ps_setTail (ho : PE X o to) (hi : PE X lo ti) (hv : PE X value tv) (hs : swapsWith value (some (.Subscript o (.Slice (some lo) none none sp) pos')) pos.line X.env = pure false) :
    PS X (.Assign [.Subscript o (.Slice (some lo) none none sp) pos'] value pos) (sSetTail to ti tv) := by
  refine ⟨fun pins s σ H D I h => ?_⟩
  refine wpAny_Assign_Subscript (thn (hv.run pins s σ H _ I h) fun r s1 ⟨y, H1, I1, ry, q1⟩ => thn (ho.run pins s1 σ H1 _ I1 q1) fun u s2 ⟨x, H2, I2, rx, q2⟩ => ?_) hs
  refine wpAny_Slice ?_
  rw [evalPart_some]
  refine thn (hi.run pins s2 σ H2 _ I2 q2) fun vl s3 ⟨z, H3, I3, rz, l, b, xs, ys, a, ex, ey, ez, hl, hb, ne, ha, hz, q3⟩ => ?_
  subst ex ey ez
  obtain rfl : u = Value.ref l := rx
  obtain rfl : r = Value.ref b := ry
  obtain ⟨ta, rfl⟩ := (show ∃ t, vl = Value.int a t from rz)
  rw [evalPart_none]
  refine wpAny_pure (wpAny_pure ?_)
  have I4 : Inv X pins σ H3 { s3 with heap := s3.heap.push { cls := .type "slice", data := .fields #[.int a ta, .none, .none] } } := I3.kept (t' := s3.toks) fun b ob q => Heap.get?_push_of_some _ q
  obtain ⟨z1, its, n, r1, hl1, e1⟩ := I4.lstM hl
  obtain ⟨z2, its2, n2, r2, hl2, e2⟩ := I4.lstM hb
  have le := tailAt_le xs.length a (by omega)
  refine setItem_tail (a := a) e1 e2 ne (Heap.IsSliceOf.new ..) (.int _ _) .none (by rw [List.size_toArray]; omega) (by rw [List.size_toArray, List.size_toArray]; omega) ⟨σ, _, ?_, q3⟩
  refine I4.lset (its' := its.take (tailAt xs.length a) ++ its2) (t' := s3.toks) hl e1 ?_ (Vals.append (r1.take _) r2) ?_
  · have := tail_eq its its2 (tailAt xs.length a) (by omega)
    rw [List.size_toArray] at this ⊢
    rw [show its.length = xs.length by omega] at this ⊢
    exact this
  · rw [List.length_append, List.length_take]
    omega
theorem ps_delTail (ho : PE X o to) (hi : PE X lo ti) : PS X (.Delete [.Subscript o (.Slice (some lo) none none sp) tpos] pos) (sDelTail to ti) := by
  refine ⟨fun pins s σ H D I h => ?_⟩
  refine wpAny_Delete (wpAny_deleteEach_cons (wpAny_delete_Subscript (thn (ho.run pins s σ H _ I h) fun u s2 ⟨x, H2, I2, rx, q2⟩ => ?_)))
  refine wpAny_Slice ?_
  rw [evalPart_some]
  refine thn (hi.run pins s2 σ H2 _ I2 q2) fun vl s3 ⟨z, H3, I3, rz, l, xs, a, ex, ez, hl, ha, hz, q3⟩ => ?_
  subst ex ez
  obtain rfl : u = Value.ref l := rx
  obtain ⟨ta, rfl⟩ := (show ∃ t, vl = Value.int a t from rz)
  rw [evalPart_none]
  refine wpAny_pure (wpAny_pure ?_)
  have I4 : Inv X pins σ H3 { s3 with heap := s3.heap.push { cls := .type "slice", data := .fields #[.int a ta, .none, .none] } } := I3.kept (t' := s3.toks) fun b ob q => Heap.get?_push_of_some _ q
  obtain ⟨z1, its, n, r1, hl1, e1⟩ := I4.lstM hl
  have le := tailAt_le xs.length a (by omega)
  refine delItem_tail (a := a) e1 (Heap.IsSliceOf.new ..) (.int _ _) .none (by rw [List.size_toArray]; omega) (by rw [List.size_toArray]; omega) fun f hf => wpAny_deleteEach_nil ⟨σ, _, ?_, q3⟩
  refine I4.lset (its' := its.take (tailAt xs.length a)) (t' := s3.toks) hl e1 ?_ (r1.take _) ?_
  · rw [hf, List.size_toArray, show its.length = xs.length by omega]
  · rw [List.length_take]
    omega
end
end Og

namespace Og
open PySem PySem.Spec PyProof.Rows L2
/-! ### methods of tuples: a tuple that is known not to have a dict of its own -/
def FzT (H : Hp) (v : V) : Prop := ∃ (p : Addr) (o : Obj) (xs : List V), v = .ref p ∧ H p = some (.frz o (.tup xs)) ∧ o.dict = none
theorem FzT.kp {S : List Addr} {H H1 : Hp} {v : V} (k : Kp S H H1) (h : FzT H v) : FzT H1 v := by
  obtain ⟨p, o, xs, rfl, e, d⟩ := h
  rcases k p _ e with q | ⟨_, m, _⟩
  · exact ⟨p, o, xs, rfl, q, d⟩
  · exact absurd m mo_not_frz
def tBMT (r : V → List V → Hp → VK → Prop) (to : TE) (t : TA) : TE := fun σ H Q => to σ H fun x H1 => FzT H1 x ∧ t σ H1 fun xs H2 => r x xs H2 Q
theorem pe_bmT {X : Cx} {o e : Expr} {es : List Expr} {to : TE} {t : TA} {name : Str} {apos cpos : Pos} {id : String} {r : V → List V → Hp → VK → Prop} (pa : PlainAttrs "tuple") (slot : Slot "tuple" name id) (hty : typeOf (.builtin id) = pure (.type "method_descriptor")) (hm : MtR X id r) (ho : PE X o to) (ha : PA X (e :: es) t)
    (hbase : attributeBase o name X.env (eval o X.env) = eval o X.env := by rfl)
    (hfew : ((backTo cpos (starEach (e :: es) X.env)).all (fun x => !x.1) && (backToKw cpos (keywordEach [] X.env)).all (fun x => x.1.isSome)
      && decide ((e :: es).length + ([] : List Keyword).length + (if ([] : List Keyword).isEmpty then 0 else 1) < 30)) = true := by rfl)
    (hline : (apos.endLine == cpos.line) = true := by rfl) (hs : starEach (e :: es) X.env = (false, eval e X.env) :: starEach es X.env := by rfl) (hplain : (backTo cpos (starEach es X.env)).any (·.1) = false := by rfl) :
    PE X (.Call (.Attribute o name apos) (e :: es) [] cpos) (tBMT r to t) := by
  refine ⟨fun pins s σ H Q I h => ?_⟩
  refine wpAny_Call_method_late hbase hfew hline rfl (thn (ho.run pins s σ H _ I h) fun v s1 ⟨x, H1, I1, r1, ty, q1⟩ => ?_)
  obtain ⟨p, ob, xs, ex, ep, dn⟩ := ty
  subst ex
  obtain rfl : v = Value.ref p := r1
  obtain ⟨eo, _, its, _, oo, eo2, oc, _⟩ := I1.hok p _ ep
  refine ⟨"tuple", id, pa, slot, hty, ⟨oo, eo2, oc⟩, fun a z => ?_, ?_⟩
  · cases z
    exact ⟨ob, eo, dn⟩
  have hA := ha.run cpos pins s1 σ H1 _ I1 q1
  rw [hs] at hA ⊢
  refine Calls.callWith_builtin (by show (false || (backTo cpos (starEach es X.env)).any (·.1)) = false; rw [hplain] <;> rfl) (Calls.evalArgs_plain ?_)
  exact thn hA fun us s2 ⟨vs, H2, I2, r2, q2⟩ => hm pins s2 σ H2 (.ref p) vs (.ref p) us Q I2 rfl r2 q2
end Og

namespace Og
open PySem PySem.Spec PyProof.Rows L2
theorem room_n {k n : Nat} {A : Around} (hr : Room k A) (hn : n ≤ 16 * k + 200) : A.units + n < cLine := by
  have := hr.un
  omega
def wordW : List Nat := [119, 111, 114, 100]
def headW : List Nat := [104, 101, 97, 100]
def tailW : List Nat := [116, 97, 105, 108]
def sameW : List Nat := [115, 97, 109, 101]
def joinW : List Nat := [106, 111, 105, 110]
def yesT : Tree := .w [121, 101, 115]
def headT : Tree → Tree
  | .l (t :: _) => t
  | _ => .l []
def tailT : Tree → Tree
  | .l (_ :: ts) => .l ts
  | _ => .l []
def consT (f : Tree) : Tree → Tree
  | .l ts => .l (f :: ts)
  | .w _ => .l [f]
/-- what word, head and tail make -/
def prim1 (w : List Nat) (l : Tree) : Tree := if w = wordW then (if l.isW then yesT else .l []) else if w = headW then headT l else tailT l
theorem prim1_word (l : Tree) : prim1 wordW l = if l.isW then yesT else .l [] := if_pos rfl
theorem prim1_head (l : Tree) : prim1 headW l = headT l := by unfold prim1; rw [if_neg (by decide), if_pos rfl]
theorem prim1_tail (l : Tree) : prim1 tailW l = tailT l := by unfold prim1; rw [if_neg (by decide), if_neg (by decide)]
open Classical in
/-- what same and join make -/
noncomputable def prim2 (w : List Nat) (f l : Tree) : Tree := if w = sameW then (if f = l then yesT else .l []) else consT f l
theorem prim2_same_eq (f l : Tree) (h : f = l) : prim2 sameW f l = yesT := by unfold prim2; rw [if_pos rfl, if_pos h]
theorem prim2_same_ne (f l : Tree) (h : ¬ f = l) : prim2 sameW f l = .l [] := by unfold prim2; rw [if_pos rfl, if_neg h]
theorem prim2_join (f l : Tree) : prim2 joinW f l = consT f l := by unfold prim2; rw [if_neg (by decide)]
end Og

namespace Og
open PySem PySem.Spec PyProof.Rows L2
/-! ### == and != of trees of any kind and size, as deep as there is room -/
mutual
def td : Tree → Nat
  | .w _ => 0
  | .l ts => tds ts + 1
def tds : List Tree → Nat
  | [] => 0
  | t :: ts => max (td t) (tds ts)
end
theorem td_mem : ∀ {ts : List Tree} {t : Tree}, t ∈ ts → td t ≤ tds ts
  | [], t, m => absurd m (List.not_mem_nil)
  | u :: ts, t, m => by
    rw [tds]
    rcases List.mem_cons.mp m with e | m
    · rw [e]; exact Nat.le_max_left ..
    · exact Nat.le_trans (td_mem m) (Nat.le_max_right ..)
section
variable {X : Cx} {pins : List (Addr × Obj)} {σ : L2.St} {H : Hp} {s : Shared}
theorem isTup_uniq {h : Heap} {a : Addr} {x y : Array Value} (p : IsTup h a x) (q : IsTup h a y) : x = y := by
  obtain ⟨o, e, _, n, d⟩ := p
  obtain ⟨o', e', _, n', d'⟩ := q
  rw [e] at e'
  have := Option.some.inj e'
  subst this
  rw [d] at d'
  injection d'
theorem tr_uniq (I : L2.Inv X pins σ H s) : ∀ (n : Nat) (t u : Tree) (x y : V) (v : Value), td t ≤ n → Tr X.K H x t → Tr X.K H y u → L2.RelV x v → L2.RelV y v → t = u := by
  have step : ∀ n : Nat, (∀ (ts us : List Tree) (vs ws : List V) (its : List Value), (∀ t ∈ ts, td t + 1 ≤ n) → Trs X.K H vs ts → Trs X.K H ws us → L2.Vals vs its → L2.Vals ws its → ts = us) → ∀ (t u : Tree) (x y : V) (v : Value), td t ≤ n → Tr X.K H x t → Tr X.K H y u → L2.RelV x v → L2.RelV y v → t = u := by
    intro n items t u x y v d hx hy rx ry
    cases t with
    | w a =>
      have ex := hx.word
      subst ex
      obtain ⟨tk, rfl⟩ := rx
      cases u with
      | w c =>
        have ey := hy.word
        subst ey
        obtain ⟨tk', e⟩ := ry
        injection e with e1 _
        exact congrArg Tree.w (tx_str (congrArg V.str e1))
      | l us =>
        obtain ⟨p, ws, rfl, _, _⟩ := hy.list
        have e : Value.str (tx a) tk = Value.ref p := ry
        cases e
    | l ts =>
      obtain ⟨p, vs, rfl, hs, r⟩ := hx.list
      have ev : v = Value.ref p := rx
      subst ev
      cases u with
      | w c =>
        have ey := hy.word
        subst ey
        obtain ⟨tk', e⟩ := ry
        cases e
      | l us =>
        obtain ⟨q, ws, rfl, hs', r'⟩ := hy.list
        have e : Value.ref p = Value.ref q := ry
        injection e with e
        subst e
        obtain ⟨i1, v1, p1, _⟩ := I.tuple hs
        obtain ⟨i2, v2, p2, _⟩ := I.tuple hs'
        have ei := isTup_uniq p1 p2
        have ei : i1 = i2 := by simpa using ei
        subst ei
        refine congrArg Tree.l (items ts us vs ws i1 (fun t m => ?_) r r' v1 v2)
        have := td_mem m
        rw [td] at d
        omega
  intro n
  induction n with
  | zero =>
    refine step 0 fun ts us vs ws its d r r' v1 v2 => ?_
    cases ts with
    | nil =>
      rw [r.nil] at v1
      cases v1
      cases us with
      | nil => rfl
      | cons u us =>
        obtain ⟨_, _, rfl, _, _⟩ := r'.cons
        cases v2
    | cons t ts => exact absurd (d t (List.mem_cons_self ..)) (by omega)
  | succ n ih =>
    refine step (n + 1) fun ts => ?_
    induction ts with
    | nil =>
      intro us vs ws its d r r' v1 v2
      rw [r.nil] at v1
      cases v1
      cases us with
      | nil => rfl
      | cons u us =>
        obtain ⟨_, _, rfl, _, _⟩ := r'.cons
        cases v2
    | cons t ts iht =>
      intro us vs ws its d r r' v1 v2
      obtain ⟨v0, vr, rfl, r0, rr⟩ := r.cons
      cases v1 with
      | cons a1 b1 =>
      cases us with
      | nil =>
        rw [r'.nil] at v2
        cases v2
      | cons u us =>
        obtain ⟨w0, wr, rfl, q0, qr⟩ := r'.cons
        cases v2 with
        | cons a2 b2 =>
        have h1 := d t (List.mem_cons_self ..)
        rw [ih t u v0 w0 _ (by omega) r0 q0 a1 a2, iht us vr wr _ (fun t m => d t (List.mem_cons_of_mem _ m)) rr qr b1 b2]
theorem paired_get {F : V → Value → Prop} : ∀ {vs : List V} {its : List Value} {j : Nat}, Paired F vs its → (h : j < its.length) → ∃ x, vs[j]? = some x ∧ F x its[j]
  | [], [], j, _, h => absurd h (Nat.not_lt_zero _)
  | x :: vs, y :: its, j, .cons a b, h => by
    cases j with
    | zero => exact ⟨x, rfl, a⟩
    | succ j => exact paired_get b (Nat.lt_of_succ_lt_succ h)
theorem paired_len {F : V → Value → Prop} : ∀ {vs : List V} {its : List Value}, Paired F vs its → vs.length = its.length
  | [], [], _ => rfl
  | x :: vs, y :: its, .cons a b => congrArg (· + 1) (paired_len b)
open Classical in
theorem all_items {ts us : List Tree} {m : Nat} {b : Bool} (hm : m = min ts.length us.length) (h : b = true ↔ ts = us) :
    ((List.range m).all (fun j => decide (ts[j]? = us[j]?)) && decide (ts.length = us.length)) = b := by
  rw [Bool.eq_iff_iff, Bool.and_eq_true, List.all_eq_true, decide_eq_true_eq, h]
  constructor
  · rintro ⟨a, l⟩
    refine List.ext_getElem? fun j => ?_
    by_cases c : j < m
    · exact of_decide_eq_true (a j (List.mem_range.mpr c))
    · rw [List.getElem?_eq_none (by omega), List.getElem?_eq_none (by omega)]
  · rintro rfl
    exact ⟨fun j _ => decide_eq_true rfl, rfl⟩
open Classical in
theorem eq_trees (I : L2.Inv X pins σ H s) : ∀ (n : Nat) (t u : Tree) (x y : V) (v w : Value) (A : Around) (b : Bool), td t ≤ n → (b = true ↔ t = u) → Tr X.K H x t → Tr X.K H y u → L2.RelV x v → L2.RelV y w → A.units + n < cLine → SeqAt.EqAt A s v w b ∧ ((t.isW = false ∧ u.isW = false) → SeqAt.RcAt A s v w b ∧ SeqAt.RcNeAt A s v w (!b)) := by
  have step : ∀ n : Nat, (∀ (t u : Tree) (x y : V) (v w : Value) (A : Around) (b : Bool), td t + 1 ≤ n → (b = true ↔ t = u) → Tr X.K H x t → Tr X.K H y u → L2.RelV x v → L2.RelV y w → A.units + n < cLine + 1 → SeqAt.EqAt A s v w b) →
      ∀ (t u : Tree) (x y : V) (v w : Value) (A : Around) (b : Bool), td t ≤ n → (b = true ↔ t = u) → Tr X.K H x t → Tr X.K H y u → L2.RelV x v → L2.RelV y w → A.units + n < cLine → SeqAt.EqAt A s v w b ∧ ((t.isW = false ∧ u.isW = false) → SeqAt.RcAt A s v w b ∧ SeqAt.RcNeAt A s v w (!b)) := by
    intro n ih t u x y v w A b d hb hx hy rx ry hu
    cases t with
    | w a =>
      refine ⟨?_, fun h => by cases h.1⟩
      have ex := hx.word
      subst ex
      obtain ⟨tk, rfl⟩ := rx
      cases u with
      | w c =>
        have ey := hy.word
        subst ey
        obtain ⟨tk', rfl⟩ := ry
        have e : b = (tx a == tx c) := by
          rw [Bool.eq_iff_iff, hb, beq_iff_eq]
          exact ⟨fun h => by rw [Tree.w.inj h], fun h => congrArg Tree.w (tx_str (congrArg V.str h))⟩
        rw [e]
        exact SeqAt.EqAt.str_str _ _ _ _
      | l us =>
        obtain ⟨p, ws, rfl, hs, _⟩ := hy.list
        obtain ⟨its, _, pt, _⟩ := I.tuple hs
        obtain rfl : w = Value.ref p := ry
        have e : b = false := by
          cases b with
          | false => rfl
          | true => have := hb.mp rfl; cases this
        rw [e]
        exact SeqAt.EqAt.str_tuple _ _ pt (by omega)
    | l ts =>
      obtain ⟨p, vs, rfl, hs, r⟩ := hx.list
      obtain ⟨i1, v1, p1, _⟩ := I.tuple hs
      obtain rfl : v = Value.ref p := rx
      cases u with
      | w c =>
        refine ⟨?_, fun h => by cases h.2⟩
        have ey := hy.word
        subst ey
        obtain ⟨tk', rfl⟩ := ry
        have e : b = false := by
          cases b with
          | false => rfl
          | true => have := hb.mp rfl; cases this
        rw [e]
        exact SeqAt.EqAt.tuple_str _ _ p1 (by omega)
      | l us =>
        obtain ⟨q, ws, rfl, hs', r'⟩ := hy.list
        obtain ⟨i2, v2, p2, _⟩ := I.tuple hs'
        obtain rfl : w = Value.ref q := ry
        have l1 : i1.length = ts.length := (paired_len v1).symm.trans r.length
        have l2 : i2.length = us.length := (paired_len v2).symm.trans r'.length
        have items : ∀ (j : Nat) (h1 : j < i1.toArray.size) (h2 : j < i2.toArray.size), SeqAt.EqAt A.in1 s i1.toArray[j] i2.toArray[j] (decide (ts[j]? = us[j]?)) := by
          intro j h1 h2
          have j1 : j < i1.length := by simpa using h1
          have j2 : j < i2.length := by simpa using h2
          obtain ⟨x1, e1, f1⟩ := paired_get v1 j1
          obtain ⟨x2, e2, f2⟩ := paired_get v2 j2
          have g1 : ts[j]? = some ts[j] := List.getElem?_eq_getElem (by omega)
          have g2 : us[j]? = some us[j] := List.getElem?_eq_getElem (by omega)
          obtain ⟨z1, h1', t1⟩ := r.get g1
          obtain ⟨z2, h2', t2⟩ := r'.get g2
          rw [e1] at h1'
          rw [e2] at h2'
          cases h1'
          cases h2'
          have dm := td_mem (List.getElem_mem (show j < ts.length by omega))
          rw [td] at d
          refine ih ts[j] us[j] x1 x2 _ _ A.in1 _ (by omega) ?_ t1 t2 (by simpa using f1) (by simpa using f2) (by rw [Around.in1_units]; omega)
          rw [decide_eq_true_eq, g1, g2, Option.some.injEq]
        have hb' : b = true ↔ ts = us := hb.trans ⟨fun h => Tree.l.inj h, fun h => congrArg Tree.l h⟩
        have eb : ((List.range (min i1.toArray.size i2.toArray.size)).all (fun j => decide (ts[j]? = us[j]?)) && i1.toArray.size == i2.toArray.size) = b := by
          have hsz : (i1.toArray.size == i2.toArray.size) = decide (ts.length = us.length) := by
            rw [Bool.eq_iff_iff, beq_iff_eq, decide_eq_true_eq, List.size_toArray, List.size_toArray, l1, l2]
          rw [hsz]
          exact all_items (by rw [List.size_toArray, List.size_toArray, l1, l2]) hb'
        have rc : SeqAt.RcAt A s (.ref p) (.ref q) b := by
          have := SeqAt.RcAt.tuples (A := A) p1 p2 (by omega) items
          rw [eb] at this
          exact this
        have rn : SeqAt.RcNeAt A s (.ref p) (.ref q) (!b) := by
          have := SeqAt.RcNeAt.tuples (A := A) p1 p2 (by omega) items
          rw [eb] at this
          exact this
        refine ⟨?_, fun _ => ⟨rc, rn⟩⟩
        by_cases hpq : p = q
        · subst hpq
          have e := tr_uniq I (td (.l ts)) (.l ts) (.l us) _ _ (.ref p) (Nat.le_refl _) hx hy rfl rfl
          rw [hb.mpr e]
          exact SeqAt.EqAt.same _
        · exact SeqAt.EqAt.of_refs hpq rc
  intro n
  induction n with
  | zero => exact step 0 fun t u x y v w A b d => absurd d (by omega)
  | succ n ih => exact step (n + 1) fun t u x y v w A b d hb hx hy rx ry hu => (ih t u x y v w A b (by omega) hb hx hy rx ry (by omega)).1
/-- x == y, x != y of trees -/
def rEqT (K : PySem.W.Frag) (n : Nat) : R2 := fun x y H Q => ∃ t u : Tree, Tr K H x t ∧ Tr K H y u ∧ td t ≤ n ∧ ∀ b : Bool, (b = true ↔ t = u) → Q (.bl b) H
def rNeT (K : PySem.W.Frag) (n : Nat) : R2 := fun x y H Q => ∃ t u : Tree, Tr K H x t ∧ Tr K H y u ∧ td t ≤ n ∧ ∀ b : Bool, (b = true ↔ t ≠ u) → Q (.bl b) H
open Classical in
theorem op_eqT {n : Nat} (hu : X.A.units + 64 < cLine) (hn : X.A.units + n < cLine) : OpR X (compareOp .Eq) (rEqT X.K n) := by
  intro pins s σ H x y v w Q I rx ry h
  obtain ⟨t, u, hx, hy, d, q⟩ := h
  by_cases hw : t.isW = false ∧ u.isW = false
  · have rc := ((eq_trees I n t u x y v w X.A (decide (t = u)) d decide_eq_true_iff hx hy rx ry hn).2 hw).1
    exact rc _ _ _ _ ⟨.bl (decide (t = u)), H, I, rfl, q _ decide_eq_true_iff⟩
  · refine op_eqTr hu pins s σ H x y v w Q I rx ry ⟨t, u, hx, hy, ?_, q⟩
    cases h1 : t.isW with
    | true => exact .inl rfl
    | false =>
      cases h2 : u.isW with
      | true => exact .inr rfl
      | false => exact absurd ⟨h1, h2⟩ hw
open Classical in
theorem op_neT {n : Nat} (hu : X.A.units + 64 < cLine) (hn : X.A.units + n < cLine) : OpR X (compareOp .NotEq) (rNeT X.K n) := by
  intro pins s σ H x y v w Q I rx ry h
  obtain ⟨t, u, hx, hy, d, q⟩ := h
  by_cases hw : t.isW = false ∧ u.isW = false
  · have rc := ((eq_trees I n t u x y v w X.A (decide (t = u)) d decide_eq_true_iff hx hy rx ry hn).2 hw).2
    refine rc _ _ _ _ ⟨.bl (!decide (t = u)), H, I, rfl, q _ ?_⟩
    rw [Bool.not_eq_true', decide_eq_false_iff_not]
  · refine op_neTr hu pins s σ H x y v w Q I rx ry ⟨t, u, hx, hy, ?_, q⟩
    cases h1 : t.isW with
    | true => exact .inl rfl
    | false =>
      cases h2 : u.isW with
      | true => exact .inr rfl
      | false => exact absurd ⟨h1, h2⟩ hw
end
end Og

namespace Og
open PySem PySem.Spec PyProof.Rows L2
/-! ### programs as values; where g, the parameters are pinned -/
theorem mp_imp {α β : Type} {R R' : α → β → Prop} (f : ∀ a b, R a b → R' a b) : ∀ {as : List α} {bs : List β}, Paired R as bs → Paired R' as bs
  | _, _, .nil => .nil
  | _, _, .cons h t => .cons (f _ _ h) (mp_imp f t)
theorem mp_len {α β : Type} {R : α → β → Prop} : ∀ {as : List α} {bs : List β}, Paired R as bs → as.length = bs.length
  | _, _, .nil => rfl
  | _, _, .cons _ t => by rw [List.length_cons, List.length_cons, mp_len t]
theorem mp_app {α β : Type} {R : α → β → Prop} : ∀ {as as' : List α} {bs bs' : List β}, Paired R as bs → Paired R as' bs' → Paired R (as ++ as') (bs ++ bs')
  | _, _, _, _, .nil, h => h
  | _, _, _, _, .cons a t, h => .cons a (mp_app t h)
theorem mp_at {α β : Type} {R : α → β → Prop} : ∀ {as : List α} {bs : List β} {i : Nat} {a : α}, Paired R as bs → as[i]? = some a → ∃ b, bs[i]? = some b ∧ R a b
  | _, _, 0, _, .cons h _, e => by cases e; exact ⟨_, rfl, h⟩
  | _, _, i + 1, _, .cons _ t, e => mp_at (i := i) t e
def MfV (g : Prop) (K : PySem.W.Frag) (H : Hp) (v : V) (f : Fn) : Prop := ∃ (a : Addr) (vp vb : V), v = .ref a ∧ SqT K H a [.str (tx f.1), vp, vb] ∧ Tr K H vp (.l f.2.1) ∧ (g → FzT H vp) ∧ Tr K H vb f.2.2
def MpV (g : Prop) (K : PySem.W.Frag) (H : Hp) (v : V) (L : List Fn) : Prop := ∃ (a : Addr) (vs : List V), v = .ref a ∧ SqT K H a vs ∧ Paired (MfV g K H) vs L
theorem MfV.keep {g : Prop} {K : PySem.W.Frag} {H H1 : Hp} {v : V} {f : Fn} (h : MfV g K H v f) (k : Keep [] H H1) : MfV g K H1 v f := by
  obtain ⟨a, vp, vb, rfl, s, tp, fz, tb⟩ := h
  exact ⟨a, vp, vb, rfl, k.sqT s, tp.keep k, fun x => (fz x).kp (Kp.of k), tb.keep k⟩
theorem MpV.keep {g : Prop} {K : PySem.W.Frag} {H H1 : Hp} {v : V} {L : List Fn} (h : MpV g K H v L) (k : Keep [] H H1) : MpV g K H1 v L := by
  obtain ⟨a, vs, rfl, s, p⟩ := h
  exact ⟨a, vs, rfl, k.sqT s, mp_imp (fun _ _ x => x.keep k) p⟩
theorem MfV.kp {g : Prop} {K : PySem.W.Frag} {S : List Addr} {H H1 : Hp} {v : V} {f : Fn} (h : MfV g K H v f) (k : Keep S H H1) : MfV g K H1 v f := by
  obtain ⟨a, vp, vb, rfl, s, tp, fz, tb⟩ := h
  exact ⟨a, vp, vb, rfl, k.sqT s, tp.keep k, fun x => (fz x).kp (Kp.of k), tb.keep k⟩
theorem MfV.tr {g : Prop} {K : PySem.W.Frag} {H : Hp} {v : V} {f : Fn} (h : MfV g K H v f) : Tr K H v (fnt f) := by
  obtain ⟨a, vp, vb, rfl, s, tp, _, tb⟩ := h
  exact tr_l s (trs_cons tr_w (trs_cons tp (Trs.one tb)))
theorem mfs_tr {g : Prop} {K : PySem.W.Frag} {H : Hp} : ∀ {vs : List V} {L : List Fn}, Paired (MfV g K H) vs L → Trs K H vs (L.map fnt)
  | _, _, .nil => trs_nil
  | _, _, .cons h t => trs_cons h.tr (mfs_tr t)
theorem MpV.tr {g : Prop} {K : PySem.W.Frag} {H : Hp} {v : V} {L : List Fn} (h : MpV g K H v L) : Tr K H v (.l (L.map fnt)) := by
  obtain ⟨a, vs, rfl, s, p⟩ := h
  exact tr_l s (mfs_tr p)
end Og

namespace L2
open PySem PySem.Spec PyProof.Rows
section
variable {X : Cx}
/-- y = {k: v for ..} -/
theorem ps_setDc {i : Nat} {y : Str} {py : Pos} {kx vx tg iter : Expr} {ifs : List Expr} {scope : Scope} {own : List (Str × Nat)} {pos spos : Pos} {wi : TI} {g : TG} {tt : TT} {tk tv : TE} (hc : X.calm = true) (hN : X.N.Nodup) (hy : X.N[i]? = some y) (hyl : X.env.scope.names.lookup y = some .local)
    (hsw : swapsWith (.DictComp kx vx [⟨tg, iter, ifs, 0⟩] scope pos) (some (.Name y py)) spos.line X.env = pure true) (hi : PI X tg iter wi) (ok : BlkOk X.N X.env.scope scope own)
    (hg : ∀ (s : Shared) (H : Hp) (C : Addr) (cl : List (Str × Addr)) (fp : List Addr), PG (X.blk s H scope (compEnvC scope cl C X.env) fp) tg g) (ht : ∀ (s : Shared) (H : Hp) (C : Addr) (cl : List (Str × Addr)) (fp : List Addr), PTs (X.blk s H scope (compEnvC scope cl C X.env) fp) ifs tt)
    (hk : ∀ (s : Shared) (H : Hp) (C : Addr) (cl : List (Str × Addr)) (fp : List Addr), PE (X.blk s H scope (compEnvC scope cl C X.env) fp) kx tk)
    (he : ∀ (s : Shared) (H : Hp) (C : Addr) (cl : List (Str × Addr)) (fp : List Addr), PE (X.blk s H scope (compEnvC scope cl C X.env) fp) vx tv) (hs : ∀ x, foldedSetIterable iter X.env x = pure x := by intro _; rfl) :
    PS X (.Assign [.Name y py] (.DictComp kx vx [⟨tg, iter, ifs, 0⟩] scope pos) spos) (tAsg (tDc wi g tt tk tv (own.map (·.2))) (gName i)) := by
  refine ⟨fun pins s σ H D I h => ?_⟩
  rw [exec_Assign_Name_used _ _ _ _ hsw]
  refine wpAny_bind (wpAny_standAt (wpAny_bind ?_))
  show wpAny _ X.A (do let _ ← comprehension (.DictComp kx vx [⟨tg, iter, ifs, 0⟩] scope pos) scope X.env (firstIterPos [⟨tg, iter, ifs, 0⟩] pos) newDict false (eval iter X.env) (some (assign (.Name y py) X.env))) _ _ s
  have h : tDc wi g tt tk tv (own.map (·.2)) σ H (fun x H1 => gName i x σ H1 D.nx) := h
  refine wpAny_bind (thn (dc_core (Qf := fun _ s' => SP X pins D .next s') hc hN I hi ok hg ht hk he hs h fun L C s' m H' I' q hn f => ?_) fun _ s' hq => wpAny_pure (wpAny_pure hq))
  show wpAny _ _ (assign (.Name y py) X.env (.ref L)) _ _ _
  refine wpAny_assign_Name (store_ok2 (v := V.ref L) I' hN hy (.inl hyl) rfl (fun s2 I2 ⟨a, sb, ha⟩ => ?_) (.inr hyl))
  obtain ⟨f0, f1, f2, f3, f4, f5⟩ := f
  have haC : C ≠ a := by
    rcases ha with z | z
    · rw [z]; exact f1
    · exact fun e => f4 y a z e.symm
  refine ⟨m, hn.sameBut sb haC, fun h3 sb3 => ?_⟩
  exact ⟨_, H', I2.turned (t' := s2.toks) (fun b o hb e => (sb3.2 b hb).trans e) f0 f1 f3 f4 f5, q⟩
theorem sw_trueD {kx vx : Expr} {gs : List Comprehension} {scope : Scope} {pos py : Pos} {y : Str} {l : Nat} {env : Env} (hk : env.scope.kind = .function) (hy : env.scope.names.lookup y = some .local) (hl : (py.line == pos.line) = true)
    (ha : (scope.names.any fun (n, k) => n == y && (k == .local || k == .cell)) = false) : swapsWith (.DictComp kx vx gs scope pos) (some (.Name y py)) l env = pure true := by
  have ky : env.kindOf y = some .local := hy
  have hb : env.blockKind = .function := by unfold Env.blockKind; rw [hk]; rfl
  unfold swapsWith
  simp only [hb, ky, ha, Expr.pos, hl]
  rfl
end
end L2

namespace L2
open PySem PySem.Spec PyProof.Rows
/-- for .. in x, x a list or a tuple -/
def iLT (K : PySem.W.Frag) (tl : TE) : TI := fun σ H R => tl σ H fun x H1 => ∃ a, x = .ref a ∧ (((∃ xs, SqL K H1 a xs) ∧ R (Itl K a) H1) ∨ ((∃ xs, SqT K H1 a xs) ∧ R (Itt K a) H1))
section
variable {X : Cx} {tg : Expr}
theorem pi_lt {l : Expr} {tl : TE} (hl : PE X l tl) : PI X tg l (iLT X.K tl) := by
  refine ⟨fun pins s σ H R I h => ?_⟩
  refine thn (hl.run pins s σ H _ I h) fun v s1 ⟨x, H1, I1, r1, q1⟩ => ?_
  obtain ⟨a, e, q⟩ := q1
  subst e
  cases r1
  have fp : ∀ b ∈ [s1.heap.objs.size], FpOk X pins H1 b := fun b hb => by
    have e : b = s1.heap.objs.size := by simpa using hb
    subst e
    exact I1.fpOk (Nat.le_refl _) (I1.hok.fresh (Nat.le_refl _))
  rcases q with ⟨⟨xs, hq⟩, q⟩ | ⟨⟨xs, hq⟩, q⟩
  · obtain ⟨its, rv, p, hz⟩ := I1.list hq
    refine wpAny_pyIter_list p.isList ?_
    exact ⟨s1.heap.objs.size, [s1.heap.objs.size], _, _, H1, rfl, I1.kept (t' := s1.toks) fun b o e => Heap.get?_push_of_some _ e, turn_list a _, ⟨_, Heap.get?_push_size _ rfl, rfl, rfl⟩, fp, q⟩
  · obtain ⟨its, rv, p, hz⟩ := I1.tuple hq
    refine wpAny_pyIter_tuple (show s1.heap.IsTuple a its.toArray from p) ?_
    exact ⟨s1.heap.objs.size, [s1.heap.objs.size], _, _, H1, rfl, I1.kept (t' := s1.toks) fun b o e => Heap.get?_push_of_some _ e, turn_tuple a _, ⟨_, Heap.get?_push_size _ rfl, rfl, rfl⟩, fp, q⟩
end
end L2

namespace Og
open PySem PySem.Spec PyProof.Rows L2
section
variable {P : Program} {w : World} {K : PySem.W.Frag} {mg : Str → Option Value} {base : Heap}
theorem lit_f1 : ("f" : Str) = tx [102] := by decide +kernel
theorem lit_x1 : ("x" : Str) = tx [120] := by decide +kernel
theorem fmt_eq (c n : Nat) : Str.empty ++ tx [c] ++ Str.ofString (toString ((n : Nat) : Int)) = tx (c :: digs n) := by
  rw [str_digs, show Str.empty = tx [] from rfl, tx_app, tx_app]
  rfl
theorem fmt_ok {n : Nat} (h : n < 100000000) : ((n : Nat) : Int).natAbs.log2 < 1920 := (num_fits (i := (n : Int)) (by rw [Int.natAbs_natCast]; omega)).2
theorem fmt_ln {c n : Nat} (h : n < 100000000) : (Str.empty ++ tx [c] ++ Str.ofString (toString ((n : Nat) : Int))).length ≤ sizeLine := by
  rw [fmt_eq, tx_len, List.length_cons]
  have := digs_len (k := 8) (by decide) h
  exact Nat.le_trans (show _ ≤ 100 by omega) (by decide)
def spMade : Sp := fun vs H Q _ => ∃ n : Nat, vs = [.int n] ∧ n < 100000000 ∧ Q (.str (tx (madeN n))) H
theorem has_madeName {k : Nat} (D : DefAt K mg "made_name" s_made_name p_made_name) (B : Bn mg) : Has P w K mg base (k + 1) "made_name" p_made_name spMade := by
  obtain ⟨f, fd, F, hm, hb⟩ := D.ex
  refine ⟨f, fd, F.ok sc_made_name (fun vs H Q E h => ?_) (fun cdv A outer s H vs Q E hr h => ?_), hm, F.kp, hb⟩
  · obtain ⟨_, rfl, _⟩ := h
    rfl
  obtain ⟨n, rfl, hn, q⟩ := h
  refine ⟨_, (pss_one (ps_ret (pe_joined (.cons pe_str (.cons (pe_fmt (pv 0)) .nil))))), ?_⟩
  rw [lit_f1]
  refine ⟨_, rfl, by decide +kernel, _, rfl, .inr ⟨_, rfl, fmt_ok hn, _, rfl, fmt_ln hn, ?_⟩⟩
  rw [fmt_eq]
  exact q
/-- a tuple made of a list, pinned -/
theorem call_tuple_ofF {X : Cx} : CallR X (.type "tuple") (fun xs H Q => ∃ p ys, xs = [.ref p] ∧ SqL X.K H p ys ∧ ∀ (l : Addr) (o : Obj), H l = none → o.dict = none → Q (.ref l) (upd H l (.frz o (.tup ys)))) := by
  intro pins s σ H xs us Q I r h
  obtain ⟨p, ys, rfl, hq, q⟩ := h
  obtain ⟨u, rfl, rx⟩ := vals1 r
  cases rx
  obtain ⟨its, r', pl, hz⟩ := I.list hq
  have hlen := r'.length
  refine call_tuple_list pl.isList (fun h' kp => ?_) (by simp only [List.size_toArray] <;> omega)
  have I1 : Inv X pins σ H { s with heap := h' } := I.kept (t' := s.toks) kp
  have I2 : Inv X pins σ (upd H h'.objs.size (.frz { cls := .type "tuple", data := .seq its.toArray } (.tup ys))) { s with heap := h'.push { cls := .type "tuple", data := .seq its.toArray } } :=
    I1.laid (t' := s.toks) (fun b o e => Heap.get?_push_of_some _ e) (Nat.le_refl _) ⟨Heap.get?_push_size _ rfl, hz, its, r', ⟨_, Heap.get?_push_size _ rfl, rfl, _, rfl⟩⟩
  exact ⟨.ref h'.objs.size, _, I2, rfl, q _ _ (I1.hok.fresh (Nat.le_refl _)) rfl⟩
theorem tr_frz {K : PySem.W.Frag} {H : Hp} {a : Addr} {o : Obj} {vs : List V} {ts : List Tree} (h : H a = some (.frz o (.tup vs))) (r : Trs K H vs ts) : Tr K H (.ref a) (.l ts) := tr_l (.inl (.inr ⟨o, h⟩)) r
theorem mps_get {k i : Nat} (h : i < k) : (mps k)[i]? = some (madeP (i + 1)) := by
  unfold mps
  rw [List.getElem?_map, List.getElem?_range h]
  rfl
def spMPars (K : PySem.W.Frag) : Sp := fun vs H Q _ => ∃ n : Nat, vs = [.int n] ∧ n < 1000 ∧ ∀ (v : V) (H' : Hp), Tr K H' v (.l ((mps n).map Tree.w)) → FzT H' v → Keep [] H H' → Q v H'
theorem has_madePars {k : Nat} (D : DefAt K mg "made_parameters" s_made_parameters p_made_parameters) (B : Bn mg) : Has P w K mg base (k + 1) "made_parameters" p_made_parameters (spMPars K) := by
  obtain ⟨f, fd, F, hm, hb⟩ := D.ex
  refine ⟨f, fd, F.ok sc_made_parameters (fun vs H Q E h => ?_) (fun cdv A outer s H vs Q E hr h => ?_), hm, F.kp, hb⟩
  · obtain ⟨_, rfl, _⟩ := h
    rfl
  obtain ⟨n, rfl, hn, q⟩ := h
  refine ⟨_, (pss_one (ps_ret (pe_callTy call_tuple_ofF (by rfl) B.tuple (by decide +kernel) (pa_cons (pe_lc (own := [("number", 1)]) (g := gName 1) (tt := tYes) rfl sc_made_parameters.nd (pi_range2 (by rfl) B.range (pa_cons pe_int (pa_cons (pe_op op_add (pv 0) pe_int) pa_nil))) (blkOk_by (N := n_made_parameters) (sc := defScope s_made_parameters) (by decide +kernel)) (fun _ _ _ _ _ => pg_name (i := 1) sc_made_parameters.nd rfl (Or.inl rfl)) (fun _ _ _ _ _ => pts_nil) (fun _ _ _ _ _ => (pe_joined (.cons pe_str (.cons (pe_fmt (pv 1)) .nil))))) pa_nil)))), ?_⟩
  rw [lit_x1]
  refine ⟨_, rfl, _, _, rfl, rfl, _, _, rfl, ⟨by omega, by omega, by omega, by omega⟩, fun L nL => ?_⟩
  have e1 : (((n : Nat) : Int) + 1 - 1).toNat = n := by omega
  refine lc_range (te := fun σ H Q => tJs [tC (.str (tx [120])), tFmt (tVar 1)] Str.empty σ H fun out H1 => Q (.str out) H1) (lo := 1) (n := (((n : Nat) : Int) + 1 - 1).toNat) (fun i H' => Keep [] H H' ∧ H' L = some (.lst (((mps n).take i).map fun x => V.str (tx x)))) ⟨Keep.new nL, upd_same⟩ (fun i H1 hi p => ?_) (fun H1 p => ?_)
  · obtain ⟨k1, eL⟩ := p
    have hi' : i < n := by omega
    refine ⟨rfl, yes ?_⟩
    have ei : (1 : Int) + (i : Int) = ((i + 1 : Nat) : Int) := by omega
    rw [ei]
    refine ⟨_, rfl, by decide +kernel, _, rfl, .inr ⟨_, rfl, fmt_ok (by omega), _, rfl, fmt_ln (by omega), ?_⟩⟩
    rw [fmt_eq]
    have kL : Keep [L] H1 (upd H1 L (.lst (((mps n).take i).map (fun x => V.str (tx x)) ++ [.str (tx (madeP (i + 1)))]))) := Keep.set eL (List.mem_cons_self ..)
    refine ⟨_, eL, Nat.lt_of_le_of_lt (show _ ≤ 1000 by rw [List.length_map, List.length_take, mps_len]; omega) (by decide), (k1.cons.trans kL).drop nL, ?_⟩
    show upd _ _ _ _ = _
    rw [upd_same, List.take_add_one, mps_get hi', List.map_append]
    rfl
  · obtain ⟨k1, eL⟩ := p
    rw [e1, List.take_of_length_le (by rw [mps_len]; exact Nat.le_refl _)] at eL
    refine ⟨L, _, rfl, SqL.of eL, fun l o nl od => ?_⟩
    have r : ∀ G : Hp, ∀ xs : List (List Nat), Trs K G (xs.map fun x => V.str (tx x)) (xs.map Tree.w) := fun G xs => by
      induction xs with
      | nil => exact trs_nil
      | cons x xs ih => exact trs_cons tr_w ih
    exact q _ _ (tr_frz upd_same (r _ _)) ⟨l, o, _, rfl, upd_same, od⟩ (k1.newT nl)
end
end Og

namespace Og
open PySem PySem.Spec PyProof.Rows L2
/-! ### the expressions of a body: each behind its parts -/
inductive Ex : Tree → Prop
  | w {x : List Nat} : Ex (.w x)
  | q {ts : List Tree} : Ex (.l (.w qw :: ts))
  | c {n : List Nat} {ts : List Tree} (h : n ≠ qw) (all : ∀ t ∈ ts, Ex t) : Ex (.l (.w n :: ts))
mutual
theorem ex_of {fs ps : List Tree} : ∀ t, GoodE fs ps t → Ex t
  | .w x, _ => .w
  | .l [], h => by rw [GoodE] at h; exact h.elim
  | .l (.l us :: ts), h => by rw [GoodE] at h; exact h.elim
  | .l (.w n :: ts), h => by
    rw [GoodE] at h
    by_cases e : n = qw
    · rw [e]; exact .q
    · exact .c e (exs_of ts (h.2.resolve_left e))
theorem exs_of {fs ps : List Tree} : ∀ ts, GoodEs fs ps ts → ∀ t ∈ ts, Ex t
  | [], _, t, m => absurd m (List.not_mem_nil)
  | u :: ts, h, t, m => by
    rw [GoodEs] at h
    rcases List.mem_cons.mp m with e | m
    · rw [e]; exact ex_of u h.1
    · exact exs_of ts h.2 t m
end
mutual
def xpost : Tree → List Tree
  | .w x => [.w x]
  | .l [] => [.l []]
  | .l (.l us :: ts) => [.l (.l us :: ts)]
  | .l (.w n :: ts) => if n = qw then [.l (.w n :: ts)] else xposts ts ++ [.l (.w n :: ts)]
def xposts : List Tree → List Tree
  | [] => []
  | t :: ts => xpost t ++ xposts ts
end
theorem xpost_w (x : List Nat) : xpost (.w x) = [.w x] := by rw [xpost]
theorem xpost_q (ts : List Tree) : xpost (.l (.w qw :: ts)) = [.l (.w qw :: ts)] := by rw [xpost, if_pos rfl]
theorem xpost_c {n : List Nat} (h : n ≠ qw) (ts : List Tree) : xpost (.l (.w n :: ts)) = xposts ts ++ [.l (.w n :: ts)] := by rw [xpost, if_neg h]
theorem xposts_app : ∀ (a b : List Tree), xposts (a ++ b) = xposts a ++ xposts b
  | [], b => by rw [List.nil_append, xposts, List.nil_append]
  | t :: a, b => by rw [List.cons_append, xposts, xposts, xposts_app a b, List.append_assoc]
mutual
theorem xpost_len : ∀ t : Tree, (xpost t).length ≤ t.size
  | .w x => by rw [xpost_w, size_w]; exact Nat.le_refl _
  | .l [] => by rw [xpost, size_l]; show 1 ≤ _; omega
  | .l (.l us :: ts) => by rw [xpost, size_l]; show 1 ≤ _; omega
  | .l (.w n :: ts) => by
    have := xposts_len ts
    rw [xpost, size_l, sizes_cons, size_w]
    split
    · show 1 ≤ _; omega
    · rw [List.length_append, List.length_singleton]; omega
theorem xposts_len : ∀ ts : List Tree, (xposts ts).length ≤ sizes ts
  | [] => by rw [xposts, sizes_nil]; exact Nat.le_refl _
  | t :: ts => by
    have := xpost_len t
    have := xposts_len ts
    rw [xposts, sizes_cons, List.length_append]
    omega
end
section
variable {P : Program} {w : World} {K : PySem.W.Frag} {mg : Str → Option Value} {base : Heap}
def spExprs (K : PySem.W.Frag) : Sp := fun vs H Q _ => ∃ (v : V) (t : Tree), vs = [v] ∧ Tr K H v t ∧ Ex t ∧ t.size ≤ 1000000 ∧ ∀ (L : Addr) (ps : List V) (H' : Hp), H L = none → H' L = some (.lst ps) → Trs K H' ps (xpost t).reverse → Keep [] H H' → Q (.ref L) H'
theorem has_exprs {k : Nat} (D : DefAt K mg "_expressions_of" s_expressions_of p_expressions_of) (B : Bn mg) : Has P w K mg base (k + 1) "_expressions_of" p_expressions_of (spExprs K) := by
  obtain ⟨f, fd, F, hm, hb⟩ := D.ex
  refine ⟨f, fd, F.ok sc_expressions_of (fun vs H Q E h => ?_) (fun cdv A outer s H vs Q E hr h => ?_), hm, F.kp, hb⟩
  · obtain ⟨_, _, rfl, _⟩ := h
    rfl
  obtain ⟨v, t, rfl, tv, ext, sz, q⟩ := h
  refine ⟨_, (pss_cons (ps_set (i := 1) sc_expressions_of.nd rfl (.inl rfl) (pe_lst pa_nil))
    (pss_cons (ps_set (i := 2) sc_expressions_of.nd rfl (.inl rfl) (pe_lst (pa_cons (pv 0) pa_nil)))
    (pss_cons (ps_while PassesOwn.never (pt_truth (pv 2) (by intro _; rfl)) (pss_cons (ps_set (i := 3) sc_expressions_of.nd rfl (.inl rfl) (pe_bm0 PySem.F.plainAttrs_list PySem.F.slot_list_pop PySem.F.type_list_pop mt_pop (pv 2)))
      (pss_cons (ps_expr (pe_bm PySem.F.plainAttrs_list PySem.F.slot_list_append PySem.F.type_list_append mt_append (pv 1) (pa_cons (pv 3) pa_nil)))
      (pss_one (ps_if (PW.pt (pw_and (pt_not (pt_val (pe_callB call_isi (by rfl) B.isinstance (by decide +kernel) (pa_cons (pv 3) (pa_cons (pe_bltn (v := .ty "str") rfl B.str (by decide +kernel) rfl) pa_nil))))) (pw_and1 (pt_cmpR (op_neTr hr.units) (pe_ix ix_tup (pv 3) pe_int (fun _ _ => rfl)) pe_str (nomark _))))) (pss_one (ps_expr (pe_bm PySem.F.plainAttrs_list PySem.F.slot_list_extend PySem.F.type_list_extend mt_extendT (pv 2) (pa_cons (pe_slice sl_tupA (pv 3) (po_some pe_int) po_none) pa_nil)))) pss_nil)))))
    (pss_one (ps_ret (pv 1)))))), ?_⟩
  refine ⟨by show (0 : Nat) ≤ sizeLine; decide, fun L nL => ?_⟩
  have eL0 : (upd H L (.lst [])) L = some (.lst []) := upd_same
  have k0 : Keep [] H (upd H L (.lst [])) := Keep.new nL
  generalize upd H L (.lst []) = H1 at eL0 k0
  refine ⟨_, rfl, by show (1 : Nat) ≤ sizeLine; decide, fun W nW => ?_⟩
  have eW0 : (upd H1 W (.lst [v])) W = some (.lst [v]) := upd_same
  have k1 : Keep [] H1 (upd H1 W (.lst [v])) := Keep.new nW
  have LW : L ≠ W := ne_of_none eL0 nW
  have eL1 := k1.same _ _ eL0
  have nW0 : H W = none := k0.free nW
  generalize upd H1 W (.lst [v]) = H2 at eW0 k1 eL1
  have tv2 := (tv.keep k0).keep k1
  have k02 := k0.trans k1
  obtain ⟨IV, hIV⟩ : ∃ IV : Nat → L2.St → Hp → Prop, IV = fun m σ H' => ∃ (y3 : Option V) (ps ws : List V) (us pt : List Tree), σ = [some v, some (.ref L), some (.ref W), y3] ∧ m = sizes us ∧ Keep [] H H' ∧ H' L = some (.lst ps) ∧ H' W = some (.lst ws) ∧ Trs K H' ps pt ∧ Trs K H' ws us ∧ (∀ u ∈ us, Ex u) ∧ pt.length + sizes us ≤ t.size ∧ (xpost t).reverse = pt ++ (xposts us).reverse := ⟨_, rfl⟩
  refine ⟨IV, ⟨sizes [t], ?_⟩, fun m σ H3 pw => ?_⟩
  · rw [hIV]
    refine ⟨none, [], [v], [t], [], rfl, rfl, k02, eL1, eW0, trs_nil, Trs.one tv2, fun u m => by rw [List.mem_singleton.mp m]; exact ext, by rw [sizes_cons, sizes_nil]; show 0 + _ ≤ _; omega, ?_⟩
    rw [xposts, xposts, List.append_nil, List.nil_append]
  rw [hIV] at pw
  obtain ⟨y3, ps, ws, us, pt, rfl, rfl, k3, eL, eW, rp, rw', exu, tot, eq⟩ := pw
  refine ⟨_, rfl, _, tru_list eW, ?_⟩
  by_cases hne : us = []
  · subst hne
    rw [rw'.nil] at eW ⊢
    refine iteF ?_
    refine ⟨_, rfl, q L ps H3 nL eL ?_ k3⟩
    rw [eq, xposts, List.reverse_nil, List.append_nil]
    exact rp
  obtain ⟨us', u, rfl⟩ := snoc_of hne
  obtain ⟨ws', x, rfl, rw2, tx1⟩ := rw'.snoc
  have b0 : (!(ws' ++ [x]).isEmpty) = true := by cases ws' <;> rfl
  rw [b0]
  have su : sizes (us' ++ [u]) = sizes us' + u.size := by rw [sizes_app, sizes_cons, sizes_nil]; omega
  have exs' : ∀ z ∈ us', Ex z := fun z m => exu z (List.mem_append_left _ m)
  have exu1 : Ex u := exu u (by simp)
  refine iteT ⟨fun σ' H' => ∃ m', m' < sizes (us' ++ [u]) ∧ IV m' σ' H', fun _ _ h => h, ?_⟩
  refine ⟨_, rfl, .inl ⟨rfl, _, SqL.of eW⟩, W, _, _, rfl, rfl, eW, last_get _ _, ?_⟩
  rw [List.dropLast_concat]
  have kk : Keep [W] H3 (upd H3 W (.lst ws')) := Keep.set eW (List.mem_cons_self ..)
  have eW4 : (upd H3 W (.lst ws')) W = some (.lst ws') := upd_same
  have eL4 : (upd H3 W (.lst ws')) L = some (.lst ps) := by rw [upd_ne LW]; exact eL
  generalize upd H3 W (.lst ws') = H4 at kk eW4 eL4
  have k4 : Keep [] H H4 := (k3.cons.trans kk).drop nW0
  have pl := rp.length
  have usz := size_pos u
  refine ⟨_, rfl, .inl ⟨rfl, _, SqL.of eL4⟩, _, rfl, L, _, _, rfl, rfl, eL4, Nat.lt_of_le_of_lt (show ps.length ≤ 1000000 by omega) (by decide), ?_⟩
  have kk5 : Keep [L] H4 (upd H4 L (.lst (ps ++ [x]))) := Keep.set eL4 (List.mem_cons_self ..)
  have eL5 : (upd H4 L (.lst (ps ++ [x]))) L = some (.lst (ps ++ [x])) := upd_same
  have eW5 : (upd H4 L (.lst (ps ++ [x]))) W = some (.lst ws') := by rw [upd_ne (Ne.symm LW)]; exact eW4
  generalize upd H4 L (.lst (ps ++ [x])) = H5 at kk5 eL5 eW5
  have k5 : Keep [] H H5 := (k4.cons.trans kk5).drop nL
  have tx5 := (tx1.keep kk).keep kk5
  have rp5 := ((rp.keep kk).keep kk5).append (Trs.one tx5)
  have rw5 := (rw2.keep kk).keep kk5
  have lpt : (pt ++ [u]).length + sizes us' ≤ t.size := by rw [List.length_append, List.length_singleton]; omega
  obtain ⟨ty, uu, q1, q2, q3⟩ := isi_str tx5
  refine ⟨_, rfl, _, _, ty, uu, _, rfl, q1, q2, q3, _, rfl, ?_⟩
  have wl := rw5.length
  have ul := len_sizes us'
  have stop : xpost u = [u] → ∀ y3 : Option V, ∃ m', m' < sizes (us' ++ [u]) ∧ IV m' [some v, some (.ref L), some (.ref W), y3] H5 := fun e y3 => by
    refine ⟨sizes us', by omega, ?_⟩
    rw [hIV]
    refine ⟨_, _, _, us', pt ++ [u], rfl, rfl, k5, eL5, eW5, rp5, rw5, exs', lpt, ?_⟩
    rw [eq, xposts_app, List.reverse_append, List.append_assoc, xposts, xposts, List.append_nil, e]
    rfl
  cases exu1 with
  | @w c => exact iteF (iteF (stop (xpost_w c) _))
  | @q ts =>
    obtain ⟨ax, wx, rfl, hX, trx⟩ := tx5.list
    obtain ⟨x0, r0, rfl, h0, rr⟩ := trx.cons
    refine iteT ⟨_, rfl, ax, _, _, x0, rfl, rfl, hX, atI_zero _ _, _, _, h0, by rw [show ("quote" : Str) = tx qw by decide +kernel]; exact tr_w, .inl rfl, fun b hb => ⟨b, rfl, ?_⟩⟩
    have eb : b = false := by
      cases b with
      | false => rfl
      | true => exact absurd rfl (hb.mp rfl)
    subst eb
    exact iteF (stop (xpost_q ts) _)
  | @c n ts hn all =>
    obtain ⟨ax, wx, rfl, hX, trx⟩ := tx5.list
    obtain ⟨x0, r0, rfl, h0, rr⟩ := trx.cons
    refine iteT ⟨_, rfl, ax, _, _, x0, rfl, rfl, hX, atI_zero _ _, _, _, h0, by rw [show ("quote" : Str) = tx qw by decide +kernel]; exact tr_w, .inl rfl, fun b hb => ⟨b, rfl, ?_⟩⟩
    have eb : b = true := hb.mpr fun e => hn (Tree.w.inj e)
    subst eb
    refine iteT ?_
    refine ⟨_, rfl, .inl ⟨rfl, _, SqL.of eW5⟩, _, rfl, _, rfl, ?_⟩
    dsimp only [tNoPart]
    refine sl_tr tx5 fun v2 H6 tv2 k6 => ?_
    rw [show cutL (Tree.w n :: ts) (some (1 : Int)) none = ts from cutL_from (Tree.w n :: ts) (i := 1) (by rw [List.length_cons]; omega)] at tv2
    obtain ⟨ay, wy, rfl, hY, try_⟩ := tv2.list
    have eW6 := k6.get eW5 (by simp)
    have eL6 := k6.get eL5 (by simp)
    have lx := try_.length
    have ll := len_sizes ts
    rw [size_l, sizes_cons, size_w] at su
    refine ⟨W, ay, ws', wy, rfl, rfl, eW6, hY, Nat.le_trans (show ws'.length + wy.length ≤ 2000000 by omega) (by decide), ?_⟩
    have kk7 : Keep [W] H6 (upd H6 W (.lst (ws' ++ wy))) := Keep.set eW6 (List.mem_cons_self ..)
    refine ⟨sizes (us' ++ ts), by rw [sizes_app]; omega, ?_⟩
    rw [hIV]
    refine ⟨_, _, _, us' ++ ts, pt ++ [.l (.w n :: ts)], rfl, rfl, ((k5.trans k6).cons.trans kk7).drop nW0, by rw [upd_ne LW]; exact eL6, upd_same, (rp5.keep k6).keep kk7, ((rw5.keep k6).append try_).keep kk7, fun z m => ?_, ?_, ?_⟩
    · rcases List.mem_append.mp m with m | m
      · exact exs' z m
      · exact all z m
    · rw [List.length_append, List.length_singleton, sizes_app]; omega
    · rw [eq, xposts_app, xposts_app, List.reverse_append, List.reverse_append, List.append_assoc]
      rw [xposts, xposts, List.append_nil, xpost_c hn, List.reverse_append]
      rfl
end
end Og

namespace Og
open PySem PySem.Spec PyProof.Rows L2
/-! ### a body renamed -/
/-- the stack of renamed expressions along the expressions, up to the last one -/
def okR (s : List Nat → List Nat) : List Tree → List Tree → List Tree → Prop
  | st, [], fin => st = fin
  | st, .w x :: r, fin => okR s (st ++ [.w x]) r fin
  | st, .l [] :: r, fin => okR s (st ++ [.l []]) r fin
  | st, .l (.l us :: ts) :: r, fin => okR s (st ++ [.l (.l us :: ts)]) r fin
  | st, .l (.w n :: ts) :: r, fin => if n = qw then okR s (st ++ [.l (.w n :: ts)]) r fin else ∃ s0, st = s0 ++ rens s ts ∧ okR s (s0 ++ [.l (.w (s n) :: rens s ts)]) r fin
mutual
theorem okR_post {s : List Nat → List Nat} : ∀ (t : Tree) (st r fin : List Tree), okR s (st ++ [ren s t]) r fin → okR s st (xpost t ++ r) fin
  | .w x, st, r, fin, h => by rw [xpost_w, List.singleton_append, okR]; rw [ren_w] at h; exact h
  | .l [], st, r, fin, h => by rw [xpost, List.singleton_append, okR]; rw [ren] at h; exact h
  | .l (.l us :: ts), st, r, fin, h => by rw [xpost, List.singleton_append, okR]; rw [ren] at h; exact h
  | .l (.w n :: ts), st, r, fin, h => by
    by_cases e : n = qw
    · rw [e, xpost_q, List.singleton_append, okR, if_pos rfl]
      rw [e, ren_q] at h
      exact h
    · rw [xpost_c e, List.append_assoc]
      rw [ren_c e] at h
      refine okR_posts ts st _ fin ?_
      rw [List.singleton_append, okR, if_neg e]
      exact ⟨st, rfl, h⟩
theorem okR_posts {s : List Nat → List Nat} : ∀ (ts : List Tree) (st r fin : List Tree), okR s (st ++ rens s ts) r fin → okR s st (xposts ts ++ r) fin
  | [], st, r, fin, h => by rw [xposts]; rw [rens, List.append_nil] at h; exact h
  | t :: ts, st, r, fin, h => by
    rw [xposts, List.append_assoc]
    refine okR_post t st _ fin (okR_posts ts _ r fin ?_)
    rw [List.append_assoc]
    rw [rens] at h
    exact h
end
theorem okR_tree (s : List Nat → List Nat) (t : Tree) : okR s [] (xpost t) [ren s t] := by
  have := okR_post (s := s) t [] [] [ren s t] (by rw [List.nil_append, okR])
  rw [List.append_nil] at this
  exact this
mutual
theorem xpost_ex : ∀ (t : Tree), Ex t → ∀ u ∈ xpost t, Ex u
  | .w x, h, u, m => by rw [xpost_w] at m; rw [List.mem_singleton.mp m]; exact h
  | .l [], h, u, m => by cases h
  | .l (.l us :: ts), h, u, m => by cases h
  | .l (.w n :: ts), h, u, m => by
    by_cases e : n = qw
    · rw [e, xpost_q] at m
      rw [List.mem_singleton.mp m]
      exact .q
    · rw [xpost_c e] at m
      rcases List.mem_append.mp m with m | m
      · cases h with
        | q => exact absurd rfl e
        | c _ all => exact xposts_ex ts all u m
      · rw [List.mem_singleton.mp m]; exact h
theorem xposts_ex : ∀ (ts : List Tree), (∀ t ∈ ts, Ex t) → ∀ u ∈ xposts ts, Ex u
  | [], _, u, m => by rw [xposts] at m; cases m
  | t :: ts, h, u, m => by
    rw [xposts] at m
    rcases List.mem_append.mp m with m | m
    · exact xpost_ex t (h t (List.mem_cons_self ..)) u m
    · exact xposts_ex ts (fun z mz => h z (List.mem_cons_of_mem _ mz)) u m
end
theorem trs_splitR {K : PySem.W.Frag} {H : Hp} {b : List Tree} : ∀ {a : List Tree} {vs : List V}, Trs K H vs (a ++ b) → ∃ d0 d1, vs = d0 ++ d1 ∧ Trs K H d0 a ∧ Trs K H d1 b
  | [], vs, h => ⟨[], vs, rfl, trs_nil, h⟩
  | t :: a, vs, h => by
    obtain ⟨v, r, rfl, h1, h2⟩ := h.cons
    obtain ⟨d0, d1, rfl, r0, r1⟩ := trs_splitR h2
    exact ⟨v :: d0, d1, rfl, trs_cons h1 r0, r1⟩
/-- the dict of the new names -/
def NmD (H : Hp) (nd : Addr) (s : List Nat → List Nat) : Prop := ∃ kvs, H nd = some (.dK kvs) ∧ ∀ x : List Nat, (valV kvs (.inr (tx x) : Key) = some (.str (tx (s x)))) ∨ (valV kvs (.inr (tx x) : Key) = none ∧ s x = x)
theorem NmD.keep {H H1 : Hp} {nd : Addr} {s : List Nat → List Nat} (h : NmD H nd s) (k : Keep [] H H1) : NmD H1 nd s := by
  obtain ⟨kvs, e, a⟩ := h
  exact ⟨kvs, k.get e (by simp), a⟩
section
variable {P : Program} {w : World} {K : PySem.W.Frag} {mg : Str → Option Value} {base : Heap}
def spRenBody (K : PySem.W.Frag) : Sp := fun vs H Q _ => ∃ (v : V) (nd : Addr) (t : Tree) (s : List Nat → List Nat), vs = [v, .ref nd] ∧ Tr K H v t ∧ Ex t ∧ t.size ≤ 1000000 ∧ NmD H nd s ∧ ∀ (v' : V) (H' : Hp), Tr K H' v' (ren s t) → Keep [] H H' → Q v' H'
theorem has_renBody {k : Nat} (D : DefAt K mg "_renamed_body" s_renamed_body p_renamed_body) (B : Bn mg) (c1 : Has P w K mg base k "_expressions_of" p_expressions_of (spExprs K)) : Has P w K mg base (k + 1) "_renamed_body" p_renamed_body (spRenBody K) := by
  obtain ⟨f, fd, F, hm, hb⟩ := D.ex
  obtain ⟨_, _, c_expressions_of⟩ := c1
  refine ⟨f, fd, F.ok sc_renamed_body (fun vs H Q E h => ?_) (fun cdv A outer s H vs Q E hr h => ?_), hm, F.kp, hb⟩
  · obtain ⟨_, _, _, _, rfl, _⟩ := h
    rfl
  obtain ⟨v, nd, t, sg, rfl, tv, ext, sz, nm, q⟩ := h
  refine ⟨_, (pss_cons (ps_set (i := 2) sc_renamed_body.nd rfl (.inl rfl) (pe_lst pa_nil))
    (pss_cons (ps_for PassesOwn.never rfl (RT.pi_revA (by rfl) B.reversed (cal c_expressions_of hr rfl (pa_cons (pv 0) pa_nil))) (pg_name (i := 3) sc_renamed_body.nd rfl (.inl rfl))
      (pss_one (ps_if (PW.pt (pw_or (pt_val (pe_callB call_isi (by rfl) B.isinstance (by decide +kernel) (pa_cons (pv 3) (pa_cons (pe_bltn (v := .ty "str") rfl B.str (by decide +kernel) rfl) pa_nil)))) (pw_or1 (pt_cmpR (op_eqTr hr.units) (pe_ix ix_tup (pv 3) pe_int (fun _ _ => rfl)) pe_str (nomark _))))) (pss_one (ps_expr (pe_bm PySem.F.plainAttrs_list PySem.F.slot_list_append PySem.F.type_list_append mt_append (pv 2) (pa_cons (pv 3) pa_nil)))) (pss_cons (ps_set (i := 4) sc_renamed_body.nd rfl (.inl rfl) (pe_ix ix_tup (pv 3) pe_int (fun _ _ => rfl)))
        (pss_cons (ps_set (i := 5) sc_renamed_body.nd rfl (.inl rfl) (pe_op op_sub (pe_op op_add (pe_callB call_len_seq (by rfl) B.len PySem.boot_len (pa_cons (pv 2) pa_nil)) pe_int) (pe_callB call_len_seq (by rfl) B.len PySem.boot_len (pa_cons (pv 3) pa_nil))))
        (pss_cons (ps_set (i := 6) sc_renamed_body.nd rfl (.inl rfl) (pe_callTy call_tuple_of (by rfl) B.tuple (by decide +kernel) (pa_cons (pe_slice sl_list (pv 2) (po_some (pv 5)) po_none) pa_nil)))
        (pss_cons (ps_delTail (pv 2) (pv 5))
        (pss_one (ps_expr (pe_bm PySem.F.plainAttrs_list PySem.F.slot_list_append PySem.F.type_list_append mt_append (pv 2) (pa_cons (pe_tup (pa_cons (pe_dget2 (hu_of hr) (pv 1) (pv 4) (pv 4) ⟨rfl, rfl, rfl, rfl⟩) (StX.pa_star (pv 6) pa_nil))) pa_nil)))))))))))
    (pss_one (ps_ret (pe_ix ix_list (pv 2) pe_int (fun _ _ => rfl)))))), ?_⟩
  refine ⟨by show (0 : Nat) ≤ sizeLine; decide, fun Dn nD => ?_⟩
  have eD0 : (upd H Dn (.lst [])) Dn = some (.lst []) := upd_same
  have k0 : Keep [] H (upd H Dn (.lst [])) := Keep.new nD
  generalize upd H Dn (.lst []) = H1 at eD0 k0
  refine ⟨_, rfl, v, t, rfl, tv.keep k0, ext, sz, fun L ps H2 nL eL rp k1 => ?_⟩
  have eD1 := k1.same _ _ eD0
  have LD : L ≠ Dn := Ne.symm (ne_of_none eD0 nL)
  have lps : ps.length = (xpost t).length := by have := rp.length; rwa [List.length_reverse] at this
  have xl := xpost_len t
  have k02 := k0.trans k1
  refine ⟨L, ps, rfl, .inl ⟨SqL.of eL, ?_⟩⟩
  refine RT.for_Itv (K := K) (a := L) (xs := ps) (fun i σ H' => ∃ (y3 y4 y5 y6 : Option V) (st : List Tree) (ds : List V), σ = [some v, some (.ref nd), some (.ref Dn), y3, y4, y5, y6] ∧ okR sg st ((xpost t).drop i) [ren sg t] ∧ H' Dn = some (.lst ds) ∧ Trs K H' ds st ∧ Keep [Dn] H2 H' ∧ st.length ≤ i)
    ⟨none, none, none, none, [], [], rfl, by rw [List.drop_zero]; exact okR_tree sg t, eD1, trs_nil, Keep.refl, Nat.le_refl _⟩ (fun i σ H' pw => ?_) (fun i x σ H3 hi hx pw => ?_) (fun σ H' pw => ?_)
  · obtain ⟨_, _, _, _, _, _, _, _, _, _, kk, _⟩ := pw
    exact kk.sqL (by simpa using LD) (SqL.of eL)
  · obtain ⟨y3, y4, y5, y6, st, ds, rfl, ok, eD3, rd, kk, sl⟩ := pw
    have il : i < (xpost t).length := by omega
    have hg : (xpost t)[i]? = some (xpost t)[i] := List.getElem?_eq_getElem il
    have hr2 : (xpost t).reverse[ps.length - 1 - i]? = some (xpost t)[i] := by
      rw [List.getElem?_reverse (by omega), lps, show (xpost t).length - 1 - ((xpost t).length - 1 - i) = i by omega]
      exact hg
    obtain ⟨x', hx', tx0⟩ := rp.get hr2
    rw [hx] at hx'
    cases hx'
    have dr : (xpost t).drop i = (xpost t)[i] :: (xpost t).drop (i + 1) := List.drop_eq_getElem_cons il
    rw [dr] at ok
    have exu := xpost_ex t ext _ (List.getElem_mem il)
    generalize (xpost t)[i] = u at hg hr2 tx0 dr ok exu
    have tx1 := tx0.keep kk
    have sds := rd.length
    obtain ⟨ty, uu, q1, q2, q3⟩ := isi_str tx1
    refine ⟨_, rfl, _, _, ty, uu, _, rfl, q1, q2, q3, _, rfl, ?_⟩
    have lq : ∀ {G : Hp}, Tr K G (.str "quote") (.w qw) := by rw [show ("quote" : Str) = tx qw by decide +kernel]; exact tr_w
    have nD0 : H Dn = none := nD
    have nmk : NmD H3 nd sg := by
      obtain ⟨kvs, en, a⟩ := nm.keep k0 |>.keep k1
      exact ⟨kvs, kk.get en (by
        intro m
        rw [List.mem_singleton.mp m, eD1] at en
        cases en), a⟩
    -- what stays as it is
    have same : ∀ (y4 y5 y6 : Option V), okR sg (st ++ [u]) ((xpost t).drop (i + 1)) [ren sg t] → ∃ (y3 y4' y5' y6' : Option V) (st' : List Tree) (ds' : List V), [some v, some (.ref nd), some (.ref Dn), some x, y4, y5, y6] = [some v, some (.ref nd), some (.ref Dn), y3, y4', y5', y6'] ∧ okR sg st' ((xpost t).drop (i + 1)) [ren sg t] ∧ (upd H3 Dn (.lst (ds ++ [x]))) Dn = some (.lst ds') ∧ Trs K (upd H3 Dn (.lst (ds ++ [x]))) ds' st' ∧ Keep [Dn] H2 (upd H3 Dn (.lst (ds ++ [x]))) ∧ st'.length ≤ i + 1 := fun y4 y5 y6 ok2 => by
      have k5 : Keep [Dn] H3 (upd H3 Dn (.lst (ds ++ [x]))) := Keep.set eD3 (List.mem_cons_self ..)
      exact ⟨_, _, _, _, st ++ [u], _, rfl, ok2, upd_same, (rd.keep k5).append (Trs.one (tx1.keep k5)), kk.trans k5, by rw [List.length_append, List.length_singleton]; omega⟩
    cases exu with
    | @w c =>
      rw [okR] at ok
      refine iteT (iteT ?_)
      exact ⟨_, rfl, .inl ⟨rfl, _, SqL.of eD3⟩, _, rfl, Dn, _, _, rfl, rfl, eD3, Nat.lt_of_le_of_lt (show _ ≤ 1000000 by omega) (by decide), same _ _ _ ok⟩
    | @q ts =>
      rw [okR, if_pos rfl] at ok
      obtain ⟨ax, wx, rfl, hX, trx⟩ := tx1.list
      obtain ⟨x0, r0, rfl, h0, rr⟩ := trx.cons
      refine iteF ⟨_, rfl, ax, _, _, x0, rfl, rfl, hX, atI_zero _ _, _, _, h0, lq, .inl rfl, fun b hb => ⟨b, rfl, ?_⟩⟩
      rw [hb.mpr rfl]
      exact iteT ⟨_, rfl, .inl ⟨rfl, _, SqL.of eD3⟩, _, rfl, Dn, _, _, rfl, rfl, eD3, Nat.lt_of_le_of_lt (show _ ≤ 1000000 by omega) (by decide), same _ _ _ ok⟩
    | @c n ts hn all =>
      rw [okR, if_neg hn] at ok
      obtain ⟨s0, e0, ok2⟩ := ok
      subst e0
      obtain ⟨ax, wx, rfl, hX, trx⟩ := tx1.list
      obtain ⟨x0, wr, rfl, h0, rr⟩ := trx.cons
      have ex0 := h0.word
      subst ex0
      refine iteF ⟨_, rfl, ax, _, _, _, rfl, rfl, hX, atI_zero _ _, _, _, h0, lq, .inl rfl, fun b hb => ⟨b, rfl, ?_⟩⟩
      have eb : b = false := by
        cases b with
        | false => rfl
        | true => exact absurd (Tree.w.inj (hb.mp rfl)) hn
      subst eb
      obtain ⟨d0, d1, rfl, r0, r1⟩ := trs_splitR rd
      have l0 := r0.length
      have l1 := r1.length
      have lr := rr.length
      rw [rens_len] at l1
      rw [List.length_append] at sl
      rw [List.length_append, List.length_append, rens_len] at sds
      rw [rens_len] at sl
      have e1 : ((d0 ++ d1).length : Int) + 1 - (((V.str (tx n)) :: wr).length : Nat) = (d0.length : Nat) := by
        rw [List.length_append, List.length_cons]
        omega
      refine iteF ⟨_, rfl, ax, _, _, _, rfl, rfl, hX, atI_zero _ _, ?_⟩
      refine ⟨_, rfl, Dn, _, rfl, .inl (SqL.of eD3), _, _, rfl, rfl, _, rfl, ax, _, rfl, .inr hX, _, _, rfl, rfl, ?_⟩
      simp only [e1]
      refine ⟨_, rfl, _, rfl, _, rfl, Dn, _, rfl, SqL.of eD3, fun C nC => ?_⟩
      have ecut : cutV (d0 ++ d1) (some (d0.length : Int)) none = d1 := by
        unfold cutV
        rw [HT.sIx_nat, HT.sIx_none, List.length_append, Nat.min_eq_left (by omega), List.drop_left' rfl, List.take_of_length_le (by omega)]
      rw [ecut]
      have kC : Keep [] H3 (upd H3 C (.lst d1)) := Keep.new nC
      have eC : (upd H3 C (.lst d1)) C = some (.lst d1) := upd_same
      have eD4 := kC.same _ _ eD3
      generalize upd H3 C (.lst d1) = H4 at kC eC eD4
      refine ⟨C, _, rfl, .inl ⟨SqL.of eC, fun T nT => ?_⟩⟩
      have kT : Keep [] H4 (upd H4 T (.tup d1)) := Keep.new nT
      have eT : (upd H4 T (.tup d1)) T = some (.tup d1) := upd_same
      have eD5 := kT.same _ _ eD4
      generalize upd H4 T (.tup d1) = H5 at kT eT eD5
      refine ⟨_, rfl, _, rfl, Dn, _, _, rfl, rfl, eD5, by omega, Nat.le_trans (show _ ≤ 1000000 by rw [List.length_append]; omega) (by decide), ?_⟩
      have et : (d0 ++ d1).take (tailAt (d0 ++ d1).length (d0.length : Int)) = d0 := by
        have : tailAt (d0 ++ d1).length (d0.length : Int) = d0.length := by
          unfold tailAt
          rw [if_neg (by omega), List.length_append]
          omega
        rw [this, List.take_left' rfl]
      rw [et]
      have k6 : Keep [Dn] H5 (upd H5 Dn (.lst d0)) := Keep.set eD5 (List.mem_cons_self ..)
      have eD6 : (upd H5 Dn (.lst d0)) Dn = some (.lst d0) := upd_same
      have eT6 := k6.tup eT
      generalize upd H5 Dn (.lst d0) = H6 at k6 eD6 eT6
      have k36 : Keep [Dn] H3 H6 := (kC.cons.trans kT.cons).trans k6
      obtain ⟨kvs, en, look⟩ := nmk
      have nDn : nd ≠ Dn := fun e => by rw [e, eD3] at en; cases en
      have en6 := k36.get en (by simpa using nDn)
      have gd : ∃ o, DGet H6 nd (.str (tx n)) o ∧ o.getD (.str (tx n)) = .str (tx (sg n)) := by
        rcases look n with e | ⟨e, e2⟩
        · exact ⟨some _, by have := DGet.k (H := H6) (k := (.inr (tx n) : Key)) en6; rw [e] at this; exact this, rfl⟩
        · exact ⟨none, by have := DGet.k (H := H6) (k := (.inr (tx n) : Key)) en6; rw [e] at this; exact this, by rw [e2]; rfl⟩
      obtain ⟨o, g1, g2⟩ := gd
      refine ⟨_, rfl, .inl ⟨rfl, _, SqL.of eD6⟩, _, rfl, nd, rfl, .inl ⟨kvs, .inl en6⟩, _, rfl, _, rfl, o, g1, _, rfl, T, _, rfl, .inl (SqT.of_tup eT6), ?_⟩
      rw [g2]
      refine ⟨by show ((V.str (tx (sg n))) :: (d1 ++ [])).length ≤ sizeLine; rw [List.append_nil, List.length_cons]; exact Nat.le_trans (show _ ≤ 1000001 by omega) (by decide), fun U nU => ?_⟩
      rw [List.append_nil]
      have kU : Keep [] H6 (upd H6 U (.tup (V.str (tx (sg n)) :: d1))) := Keep.new nU
      have eU : (upd H6 U (.tup (V.str (tx (sg n)) :: d1))) U = some (.tup (V.str (tx (sg n)) :: d1)) := upd_same
      have eD7 := kU.same _ _ eD6
      generalize upd H6 U (.tup (V.str (tx (sg n)) :: d1)) = H7 at kU eU eD7
      refine ⟨Dn, _, _, rfl, rfl, eD7, Nat.lt_of_le_of_lt (show _ ≤ 1000000 by omega) (by decide), ?_⟩
      have k7 : Keep [Dn] H7 (upd H7 Dn (.lst (d0 ++ [.ref U]))) := Keep.set eD7 (List.mem_cons_self ..)
      have kall : Keep [Dn] H3 (upd H7 Dn (.lst (d0 ++ [.ref U]))) := (k36.trans kU.cons).trans k7
      refine ⟨_, _, _, _, s0 ++ [.l (.w (sg n) :: rens sg ts)], _, rfl, ok2, upd_same, (r0.keep kall).append (Trs.one (tr_tup (k7.tup eU) (trs_cons tr_w (r1.keep kall)))), kk.trans kall, by rw [List.length_append, List.length_singleton]; omega⟩
  · obtain ⟨y3, y4, y5, y6, st, ds, rfl, ok, eD3, rd, kk, sl⟩ := pw
    rw [lps, List.drop_length] at ok
    have es : st = [ren sg t] := ok
    subst es
    obtain ⟨v', r, rfl, tv', rn⟩ := rd.cons
    refine ⟨_, rfl, Dn, _, _, _, rfl, rfl, SqL.of eD3, atI_zero _ _, ?_⟩
    exact q v' H' tv' ((k0.trans k1).cons.trans kk |>.drop nD)
end
end Og

namespace Og
open PySem PySem.Spec PyProof.Rows L2
section
variable {P : Program} {w : World} {K : PySem.W.Frag} {mg : Str → Option Value} {base : Heap}
theorem inr_injM {a b : List Nat} (h : (Sum.inr (tx a) : Key) = .inr (tx b)) : a = b := tx_inj (Sum.inr.inj h)
/-- a dict over enumerate of a tuple -/
theorem dc_enumM {K : PySem.W.Frag} {a : Addr} {xs : List V} {g : TG} {tt : TT} {tk tv : TE} {vs : List Nat} {σ : L2.St} {H1 : Hp} {D : Addr} {Qd : Hp → Prop} (Pv : Nat → Hp → Prop) (h0 : Pv 0 (upd H1 D (.dK []))) (hl : ∀ i H, i ≤ xs.length → Pv i H → SqT K H a xs)
    (hs : ∀ (i : Nat) (x : V) (T : Addr) (H : Hp), xs[i]? = some x → Pv i H → H T = none → g (.ref T) (wipe σ vs) (upd H T (.tup [.int (i : Nat), x])) fun σ2 H2 => wipe σ2 vs = wipe σ vs ∧ tt σ2 H2 fun b H3 =>
      if b = true then tk σ2 H3 fun y H4 => tv σ2 H4 fun z H5 => ∃ kvs k, y = kV k ∧ H5 D = some (.dK kvs) ∧ kvs.length < sizeLine ∧ Pv (i + 1) (upd H5 D (.dK (putK kvs k z))) else Pv (i + 1) H3) (hd : ∀ H, Pv xs.length H → Qd H) :
    ∃ W : Nat → Nat → Hp → Prop, (∃ m, W 0 m (upd H1 D (.dK []))) ∧ ∀ i m H, W i m H →
      ((IteT K a).stop i H ∧ Qd H) ∨ ((IteT K a).go i H ∧ ∃ Nx : Hp → Prop, (∀ H', Nx H' → ∃ m', m' < m ∧ W (i + 1) m' H') ∧ ∀ x H', (IteT K a).yld i H x H' → g x (wipe σ vs) H' fun σ2 H2 => wipe σ2 vs = wipe σ vs ∧ tt σ2 H2 fun b H3 =>
        if b = true then tk σ2 H3 fun y H4 => tv σ2 H4 fun z H5 => ∃ kvs k, y = kV k ∧ H5 D = some (.dK kvs) ∧ kvs.length < sizeLine ∧ Nx (upd H5 D (.dK (putK kvs k z))) else Nx H3) := by
  refine ⟨fun i m H => m = xs.length - i ∧ i ≤ xs.length ∧ Pv i H, ⟨xs.length, by simp, Nat.zero_le _, h0⟩, ?_⟩
  rintro i m H ⟨rfl, hi, p⟩
  have qx := hl i H hi p
  by_cases hlt : i < xs.length
  · have hx : xs[i]? = some xs[i] := List.getElem?_eq_getElem hlt
    refine .inr ⟨⟨xs, _, qx, hx⟩, Pv (i + 1), fun H' p' => ⟨xs.length - (i + 1), by omega, rfl, hlt, p'⟩, fun v H' y => ?_⟩
    obtain ⟨T, x', rfl, hT, rfl, f1⟩ := y
    exact hs i x' T H (f1 xs qx) p hT
  · have e : i = xs.length := by omega
    subst e
    exact .inl ⟨⟨xs, qx, rfl⟩, hd H p⟩
/-- what can be renamed -/
def RenOk (L : List Fn) : Prop := (L.map (·.1)).Nodup ∧ L.length ≤ 1000 ∧ ∀ f ∈ L, Ex f.2.2 ∧ f.2.2.size ≤ 1000000
def spRenGood (g : Prop) (K : PySem.W.Frag) : Sp := fun vs H Q _ => ∃ (v : V) (L : List Fn) (start : Nat), vs = [v, .int start] ∧ MpV g K H v L ∧ RenOk L ∧ start ≤ 1000000 ∧ ∀ (v' : V) (H' : Hp), MpV g K H' v' (renL L start) → Keep [] H H' → Q v' H'
theorem has_renGood {g : Prop} {k : Nat} (D : DefAt K mg "_renamed_good" s_renamed_good p_renamed_good) (B : Bn mg) (c1 : Has P w K mg base k "_renamed_body" p_renamed_body (spRenBody K)) (c2 : Has P w K mg base k "made_name" p_made_name spMade) : Has P w K mg base (k + 1) "_renamed_good" p_renamed_good (spRenGood g K) := by
  obtain ⟨f, fd, F, hm, hb⟩ := D.ex
  obtain ⟨_, _, c_renamed_body⟩ := c1
  obtain ⟨_, _, c_made_name⟩ := c2
  refine ⟨f, fd, F.ok sc_renamed_good (fun vs H Q E h => ?_) (fun cdv A outer s H vs Q E hr h => ?_), hm, F.kp, hb⟩
  · obtain ⟨_, _, _, rfl, _⟩ := h
    rfl
  obtain ⟨v, L, start, rfl, mv, ok, hs, q⟩ := h
  refine ⟨_, (pss_cons (ps_setDc (i := 2) (own := [("at", 3), ("function", 4)]) (tt := tYes) rfl sc_renamed_good.nd rfl rfl (sw_trueD rfl rfl rfl (by decide +kernel))  (pi_enumT (by rfl) B.enumerate (pa_cons (pv 0) pa_nil)) (blkOk_by (N := n_renamed_good) (sc := defScope s_renamed_good) (by decide +kernel)) (fun _ _ _ _ _ => (show PG _ _ (gTup K 2 _) from (pg_tup (by rfl) (pgs_cons (pg_name (i := 3) sc_renamed_good.nd rfl (.inl rfl)) (pgs_cons (pg_name (i := 4) sc_renamed_good.nd rfl (.inl rfl)) pgs_nil))))) (fun _ _ _ _ _ => pts_nil) (fun _ _ _ _ _ => (pe_ix (show IxR _ (rIxT K) from ix_tup) (pv 4) pe_int (fun _ _ => rfl))) (fun _ _ _ _ _ => (cal c_made_name hr rfl (pa_cons (pe_op op_add (pv 1) (pv 3)) pa_nil))))
    (pss_cons (ps_set (i := 5) sc_renamed_good.nd rfl (.inl rfl) (pe_lst pa_nil))
    (pss_cons (ps_for PassesOwn.never rfl (pi_tup (pv 0)) (pg_tup (by rfl) (pgs_cons (pg_name (i := 6) sc_renamed_good.nd rfl (.inl rfl)) (pgs_cons (pg_name (i := 7) sc_renamed_good.nd rfl (.inl rfl)) (pgs_cons (pg_name (i := 8) sc_renamed_good.nd rfl (.inl rfl)) pgs_nil))))
      (pss_one (ps_expr (pe_bm PySem.F.plainAttrs_list PySem.F.slot_list_append PySem.F.type_list_append mt_append (pv 5) (pa_cons (pe_tup (pa_cons (pe_dget (hu_of hr) (pv 2) (pv 6) (fun _ _ => rfl)) (pa_cons (pv 7) (pa_cons (cal c_renamed_body hr rfl (pa_cons (pv 8) (pa_cons (pv 2) pa_nil))) pa_nil)))) pa_nil)))))
    (pss_one (ps_ret (pe_callTy call_tuple_of (by rfl) B.tuple (by decide +kernel) (pa_cons (pv 5) pa_nil))))))), ?_⟩
  obtain ⟨pa, pvs, rfl, hS, pfs⟩ := mv
  obtain ⟨un, lL, okf⟩ := ok
  have lp := mp_len pfs
  refine ⟨_, rfl, pa, pvs, rfl, hS, fun nd nnd => ?_⟩
  refine dc_enumM (K := K) (a := pa) (xs := pvs) (fun i H' => Keep [] H H' ∧ ∃ kvs, H' nd = some (.dK kvs) ∧ kvs.length ≤ i ∧ ∀ x : List Nat, valV kvs (.inr (tx x)) = if x ∈ (L.map (·.1)).take i then some (.str (tx (madeN (start + (L.map (·.1)).idxOf x)))) else none) ⟨Keep.new nnd, [], upd_same, Nat.le_refl _, fun x => by rw [List.take_zero, if_neg (List.not_mem_nil)]; rfl⟩ (fun i H' _ p => p.1.sqT hS) (fun i x T H' hx p nT => ?_) (fun H7 p => ?_)
  · obtain ⟨kk, kvs, eD, lk, hk⟩ := p
    obtain ⟨fn, hf, hv⟩ := mp_at pfs hx
    obtain ⟨b, vp, vb, rfl, hSf, tp, fz, tb⟩ := hv.keep kk
    have kT : Keep [] H' (upd H' T (.tup [.int (i : Nat), .ref b])) := Keep.new nT
    have hSf2 := kT.sqT hSf
    have eD2 := kT.get eD (by simp)
    have il : i < pvs.length := (List.getElem?_eq_some_iff.mp hx).1
    refine ⟨T, _, rfl, SqT.of_tup upd_same, rfl, _, _, rfl, _, _, rfl, rfl, rfl, yes ⟨_, rfl, b, _, 0, _, rfl, rfl, hSf2, atI_zero _ _, _, rfl, _, rfl, _, _, rfl, rfl, start + i, rfl, by omega, kvs, .inr (tx fn.1), rfl, eD2, ?_, ?_, _, upd_same, ?_, fun x => ?_⟩⟩
    · exact Nat.lt_of_lt_of_le (show kvs.length < 3000000 by omega) (by decide)
    · exact Kp.keep (((Kp.of0 (S := [nd]) (kk.trans kT)).trans (Kp.set (S := [nd]) eD2 mo_dK mo_dK (List.mem_cons_self ..))).drop nnd)
    · exact Nat.le_trans (length_putK _ _ _) (by omega)
    · have hn : (L.map (·.1))[i]? = some fn.1 := by rw [List.getElem?_map, hf]; rfl
      have iln : i < (L.map (·.1)).length := (List.getElem?_eq_some_iff.mp hn).1
      have hn2 : (L.map (·.1))[i] = fn.1 := (List.getElem?_eq_some_iff.mp hn).2
      rw [valV_put, List.take_add_one, hn]
      by_cases c : x = fn.1
      · rw [if_pos (by rw [c]), if_pos (List.mem_append_right _ (by rw [c]; exact List.mem_singleton_self _)), c]
        have : (L.map (·.1)).idxOf fn.1 = i := by
          have := un.idxOf_getElem i iln
          rw [hn2] at this
          exact this
        rw [this]
      · rw [if_neg (fun z => c (inr_injM z)), hk x]
        by_cases d : x ∈ (L.map (·.1)).take i
        · rw [if_pos d, if_pos (List.mem_append_left _ d)]
        · rw [if_neg d, if_neg (fun m => by
            rcases List.mem_append.mp m with m | m
            · exact d m
            · exact c (List.mem_singleton.mp m))]
  obtain ⟨k7, kvs, eD7, lk7, hk7⟩ := p
  have nmd : NmD H7 nd (sig (L.map (·.1)) start) := by
    refine ⟨kvs, eD7, fun x => ?_⟩
    have := hk7 x
    rw [List.take_of_length_le (by rw [List.length_map, lp]; exact Nat.le_refl _)] at this
    by_cases d : x ∈ L.map (·.1)
    · rw [if_pos d] at this
      exact .inl (by rw [this, sig_in d])
    · rw [if_neg d] at this
      exact .inr ⟨this, sig_out d⟩
  refine ⟨by show (0 : Nat) ≤ sizeLine; decide, fun Fd nF => ?_⟩
  have eF8 : (upd H7 Fd (.lst [])) Fd = some (.lst []) := upd_same
  have lkn : ∀ f ∈ L, valV kvs (.inr (tx f.1)) = some (.str (tx (sig (L.map (·.1)) start f.1))) := fun f m => by
    have mm : f.1 ∈ L.map (·.1) := List.mem_map.mpr ⟨f, m, rfl⟩
    have := hk7 f.1
    rw [List.take_of_length_le (by rw [List.length_map, lp]; exact Nat.le_refl _), if_pos mm] at this
    rw [this, sig_in mm]
  refine ⟨_, rfl, pa, rfl, ⟨pvs, (k7.trans (Keep.new nF)).sqT hS⟩, ?_⟩
  refine for_tup (K := K) (a := pa) (xs := pvs) (fun i σ H' => ∃ (y6 y7 y8 : Option V) (ds : List V), σ = [some (.ref pa), some (.int start), some (.ref nd), none, none, some (.ref Fd), y6, y7, y8] ∧ Keep [] H7 H' ∧ H' Fd = some (.lst ds) ∧ Paired (MfV g K H') ds ((renL L start).take i))
    ⟨none, none, none, [], rfl, Keep.new nF, eF8, .nil⟩ (fun i σ H' _ p => ?_) (fun i x σ H' hx p => ?_) (fun σ H' p => ?_)
  · obtain ⟨_, _, _, _, _, kk, _, _⟩ := p
    exact (k7.trans kk).sqT hS
  · obtain ⟨y6, y7, y8, ds, rfl, kk, eF, pd⟩ := p
    have k0 := k7.trans kk
    obtain ⟨fn, hf, hv⟩ := mp_at pfs hx
    have il : i < pvs.length := (List.getElem?_eq_some_iff.mp hx).1
    have mf := List.mem_of_getElem? hf
    obtain ⟨b, vp, vb, rfl, hSf, tp, fz, tb⟩ := hv.keep k0
    obtain ⟨exb, szb⟩ := okf fn mf
    have eN := kk.get eD7 (by simp)
    refine ⟨b, _, rfl, hSf, rfl, ?_⟩
    have dg : DGet H' nd (.str (tx fn.1)) (some (.str (tx (sig (L.map (·.1)) start fn.1)))) := by
      have := DGet.k (H := H') (k := (.inr (tx fn.1) : Key)) eN
      rw [lkn fn mf] at this
      exact this
    refine ⟨_, _, rfl, _, _, rfl, _, _, rfl, rfl, _, rfl, .inl ⟨rfl, _, SqL.of eF⟩, ?_⟩
    have nmd2 := nmd.keep kk
    refine ⟨_, rfl, _, rfl, nd, _, rfl, dg, _, rfl, _, rfl, _, rfl, ?_⟩
    refine ⟨vb, nd, fn.2.2, _, rfl, tb, exb, szb, nmd2, fun v' H1 tv' k1 => ?_⟩
    refine ⟨by show 3 ≤ sizeLine; decide, fun T nT => ?_⟩
    have kT : Keep [] H1 (upd H1 T (.tup [.str (tx (sig (L.map (·.1)) start fn.1)), vp, v'])) := Keep.new nT
    have eT : (upd H1 T (.tup [.str (tx (sig (L.map (·.1)) start fn.1)), vp, v'])) T = some (.tup [.str (tx (sig (L.map (·.1)) start fn.1)), vp, v']) := upd_same
    have eF2 := (k1.trans kT).same _ _ eF
    generalize upd H1 T (.tup [.str (tx (sig (L.map (·.1)) start fn.1)), vp, v']) = H2 at kT eT eF2
    have lds := mp_len pd
    rw [List.length_take, renL_len] at lds
    have kA : Keep [Fd] H2 (upd H2 Fd (.lst (ds ++ [.ref T]))) := Keep.set eF2 (List.mem_cons_self ..)
    have kall : Keep [Fd] H' (upd H2 Fd (.lst (ds ++ [.ref T]))) := (k1.trans kT).cons.trans kA
    refine ⟨Fd, _, _, rfl, rfl, eF2, Nat.lt_of_le_of_lt (show _ ≤ 1000000 by omega) (by decide), ?_⟩
    refine ⟨_, _, _, _, rfl, (kk.cons.trans kall).drop nF, upd_same, ?_⟩
    have hr1 : (renL L start)[i]? = some (renF (L.map (·.1)) start fn) := by
      unfold renL
      rw [List.getElem?_map, hf]
      rfl
    rw [List.take_add_one, hr1]
    refine mp_app (mp_imp (fun _ _ x => x.kp kall) pd) (.cons ⟨T, vp, v', rfl, SqT.of_tup (kA.tup eT), tp.keep kall, fun h => (fz h).kp (Kp.of kall), tv'.keep (kT.cons.trans kA)⟩ .nil)
  · obtain ⟨y6, y7, y8, ds, rfl, kk, eF, pd⟩ := p
    rw [List.take_of_length_le (by rw [renL_len, lp]; exact Nat.le_refl _)] at pd
    refine ⟨_, rfl, Fd, _, rfl, .inl ⟨SqL.of eF, fun l nl => ?_⟩⟩
    have kl : Keep [] H' (upd H' l (.tup ds)) := Keep.new nl
    exact q _ _ ⟨l, ds, rfl, SqT.of_tup upd_same, mp_imp (fun _ _ x => x.keep kl) pd⟩ ((k7.trans kk).trans kl)
end
end Og

namespace Og
open PySem PySem.Spec PyProof.Rows L2
section
variable {P : Program} {w : World} {K : PySem.W.Frag} {mg : Str → Option Value} {base : Heap}
def spFront (g : Prop) (K : PySem.W.Frag) : Sp := fun vs H Q _ => ∃ (vF vp vb : V) (F : List Fn) (ps : List Tree) (b : Tree), vs = [vF, vp, vb] ∧ MpV g K H vF F ∧ Tr K H vp (.l ps) ∧ (g → FzT H vp) ∧ Tr K H vb b ∧ F.length ≤ 1000000 ∧ ∀ (v' : V) (H' : Hp), MpV g K H' v' ((madeN F.length, ps, b) :: F) → Keep [] H H' → Q v' H'
theorem has_front {g : Prop} {k : Nat} (D : DefAt K mg "with_front" s_with_front p_with_front) (B : Bn mg) (c2 : Has P w K mg base k "made_name" p_made_name spMade) : Has P w K mg base (k + 1) "with_front" p_with_front (spFront g K) := by
  obtain ⟨f, fd, F, hm, hb⟩ := D.ex
  obtain ⟨_, _, c_made_name⟩ := c2
  refine ⟨f, fd, F.ok sc_with_front (fun vs H Q E h => ?_) (fun cdv A outer s H vs Q E hr h => ?_), hm, F.kp, hb⟩
  · obtain ⟨_, _, _, _, _, _, rfl, _⟩ := h
    rfl
  obtain ⟨vF, vp, vb, L, ps, b, rfl, mv, tp, fz, tb, lL, q⟩ := h
  refine ⟨_, (pss_one (ps_ret (pe_tup (pa_cons (pe_tup (pa_cons (cal c_made_name hr rfl (pa_cons (pe_callB call_len_seq (by rfl) B.len PySem.boot_len (pa_cons (pv 0) pa_nil)) pa_nil)) (pa_cons (pv 1) (pa_cons (pv 2) pa_nil)))) (StX.pa_star (pv 0) pa_nil))))), ?_⟩
  obtain ⟨a, xs, rfl, hS, pf⟩ := mv
  have lx := mp_len pf
  refine ⟨_, rfl, a, xs, rfl, .inr hS, L.length, by rw [lx]; rfl, by omega, _, rfl, _, rfl, ?_⟩
  refine ⟨by show 3 ≤ sizeLine; decide, fun T nT => ?_⟩
  have kT : Keep [] H (upd H T (.tup [.str (tx (madeN L.length)), vp, vb])) := Keep.new nT
  have eT : (upd H T (.tup [.str (tx (madeN L.length)), vp, vb])) T = some (.tup [.str (tx (madeN L.length)), vp, vb]) := upd_same
  generalize upd H T (.tup [.str (tx (madeN L.length)), vp, vb]) = H1 at kT eT
  refine ⟨_, rfl, a, xs, rfl, .inl (kT.sqT hS), ?_⟩
  refine ⟨by show (V.ref T :: (xs ++ [])).length ≤ sizeLine; rw [List.append_nil, List.length_cons]; exact Nat.le_trans (show _ ≤ 1000001 by omega) (by decide), fun U nU => ?_⟩
  rw [List.append_nil]
  have kU : Keep [] H1 (upd H1 U (.tup (.ref T :: xs))) := Keep.new nU
  exact q _ _ ⟨U, _, rfl, SqT.of_tup upd_same, .cons ⟨T, vp, vb, rfl, SqT.of_tup (kU.tup eT), tp.keep (kT.trans kU), fun x => (fz x).kp (Kp.of (kT.trans kU)), tb.keep (kT.trans kU)⟩ (mp_imp (fun _ _ x => x.keep (kT.trans kU)) pf)⟩ (kT.trans kU)
def joinw : List Nat := [106, 111, 105, 110]
def lsT : List Tree → Tree
  | [] => .l [.w qw, .l []]
  | t :: ts => .l [.w joinw, t, lsT ts]
def spListing (K : PySem.W.Frag) : Sp := fun vs H Q _ => ∃ (a : Addr) (xs : List V) (ts : List Tree), vs = [.ref a] ∧ SqL K H a xs ∧ Trs K H xs ts ∧ xs.length ≤ 1000000 ∧ ∀ (v' : V) (H' : Hp), Tr K H' v' (lsT ts) → Keep [] H H' → Q v' H'
theorem has_listing {k : Nat} (D : DefAt K mg "listing" s_listing p_listing) (B : Bn mg) : Has P w K mg base (k + 1) "listing" p_listing (spListing K) := by
  obtain ⟨f, fd, F, hm, hb⟩ := D.ex
  refine ⟨f, fd, F.ok sc_listing (fun vs H Q E h => ?_) (fun cdv A outer s H vs Q E hr h => ?_), hm, F.kp, hb⟩
  · obtain ⟨_, _, _, rfl, _⟩ := h
    rfl
  obtain ⟨a, xs, ts, rfl, sl, tr, lx, q⟩ := h
  refine ⟨_, (pss_cons (ps_set (i := 1) sc_listing.nd rfl (.inl rfl) (pe_tup (pa_cons pe_str (pa_cons (pe_tup pa_nil) pa_nil))))
    (pss_cons (ps_for PassesOwn.never rfl (RT.pi_revA (by rfl) B.reversed (pv 0)) (pg_name (i := 2) sc_listing.nd rfl (.inl rfl))
      (pss_one (ps_set (i := 1) sc_listing.nd rfl (.inl rfl) (pe_tup (pa_cons pe_str (pa_cons (pv 2) (pa_cons (pv 1) pa_nil)))))))
    (pss_one (ps_ret (pv 1))))), ?_⟩
  have lq : ∀ {G : Hp}, Tr K G (.str "quote") (.w qw) := by rw [show ("quote" : Str) = tx qw by decide +kernel]; exact tr_w
  have lj : ∀ {G : Hp}, Tr K G (.str "join") (.w joinw) := by rw [show ("join" : Str) = tx joinw by decide +kernel]; exact tr_w
  have lts := tr.length
  refine ⟨by show 0 ≤ sizeLine; decide, fun T0 nT0 => ?_⟩
  have k0 : Keep [] H (upd H T0 (.tup [])) := Keep.new nT0
  have e0 : (upd H T0 (.tup [])) T0 = some (.tup []) := upd_same
  generalize upd H T0 (.tup []) = H1 at k0 e0
  refine ⟨by show 2 ≤ sizeLine; decide, fun T1 nT1 => ?_⟩
  have k1 : Keep [] H1 (upd H1 T1 (.tup [.str "quote", .ref T0])) := Keep.new nT1
  have t1 : Tr K (upd H1 T1 (.tup [.str "quote", .ref T0])) (.ref T1) (lsT []) := tr_tup upd_same (trs_cons lq (Trs.one (tr_tup (k1.tup e0) trs_nil)))
  generalize upd H1 T1 (.tup [.str "quote", .ref T0]) = H2 at k1 t1
  have k02 := k0.trans k1
  refine ⟨_, rfl, a, xs, rfl, .inl ⟨k02.sqL (by simp) sl, ?_⟩⟩
  refine RT.for_Itv (K := K) (a := a) (xs := xs) (fun i σ H' => ∃ (y2 : Option V) (v1 : V), σ = [some (.ref a), some v1, y2] ∧ Keep [] H H' ∧ Tr K H' v1 (lsT (ts.drop (ts.length - i)))) ⟨none, _, rfl, k02, by rw [Nat.sub_zero, List.drop_length]; exact t1⟩ (fun i σ H' pw => ?_) (fun i x σ H3 hi hx pw => ?_) (fun σ H' pw => ?_)
  · obtain ⟨_, _, _, kk, _⟩ := pw
    exact kk.sqL (by simp) sl
  · obtain ⟨y2, v1, rfl, kk, t1⟩ := pw
    have il : ts.length - 1 - i < ts.length := by omega
    have hg := List.getElem?_eq_getElem il
    obtain ⟨x', hx', tx0⟩ := tr.get hg
    rw [← lts] at hx'
    rw [hx] at hx'
    cases hx'
    have dr : ts.drop (ts.length - (i + 1)) = ts[ts.length - 1 - i] :: ts.drop (ts.length - i) := by
      rw [show ts.length - (i + 1) = ts.length - 1 - i by omega, List.drop_eq_getElem_cons il, show ts.length - 1 - i + 1 = ts.length - i by omega]
    refine ⟨_, rfl, _, rfl, ?_⟩
    refine ⟨by show 3 ≤ sizeLine; decide, fun T nT => ?_⟩
    have kT : Keep [] H3 (upd H3 T (.tup [.str "join", x, v1])) := Keep.new nT
    refine ⟨_, _, rfl, kk.trans kT, ?_⟩
    rw [dr]
    exact tr_tup upd_same (trs_cons lj (trs_cons (tx0.keep (kk.trans kT)) (Trs.one (t1.keep kT))))
  · obtain ⟨y2, v1, rfl, kk, t1⟩ := pw
    rw [lts, Nat.sub_self, List.drop_zero] at t1
    exact ⟨_, rfl, q _ _ t1 kk⟩
end
end Og

namespace Og
open PySem PySem.Spec PyProof.Rows L2
section
variable {P : Program} {w : World} {K : PySem.W.Frag} {mg : Str → Option Value} {base : Heap}
def mpsT (k : Nat) : List Tree := (mps k).map Tree.w
/-- the body of what fills -/
def fillB (m : List Nat) (t : Tree) (k : Nat) : Tree := .l (.w m :: .l [.w qw, t] :: mpsT k)
def fillL (L : List Fn) (m : List Nat) (k : Nat) (t : Tree) : List Fn := (madeN L.length, mpsT k, fillB m t k) :: L
def spFilled (g : Prop) (K : PySem.W.Frag) : Sp := fun vs H Q _ => ∃ (v vx : V) (L : List Fn) (f0 : Fn) (k : Nat) (t : Tree), vs = [v, vx] ∧ MpV g K H v L ∧ L[0]? = some f0 ∧ f0.2.1.length = k + 1 ∧ k ≤ 100 ∧ L.length ≤ 1000000 ∧ Tr K H vx t ∧ ∀ (v' : V) (H' : Hp), MpV g K H' v' (fillL L f0.1 k t) → Keep [] H H' → Q v' H'
theorem has_filled {g : Prop} {k : Nat} (D : DefAt K mg "filled" s_filled p_filled) (B : Bn mg) (c1 : Has P w K mg base k "made_parameters" p_made_parameters (spMPars K)) (c2 : Has P w K mg base k "with_front" p_with_front (spFront g K)) : Has P w K mg base (k + 1) "filled" p_filled (spFilled g K) := by
  obtain ⟨f, fd, F, hm, hb⟩ := D.ex
  obtain ⟨_, _, c_made_parameters⟩ := c1
  obtain ⟨_, _, c_with_front⟩ := c2
  refine ⟨f, fd, F.ok sc_filled (fun vs H Q E h => ?_) (fun cdv A outer s H vs Q E hr h => ?_), hm, F.kp, hb⟩
  · obtain ⟨_, _, _, _, _, _, rfl, _⟩ := h
    rfl
  obtain ⟨v, vx, L, f0, m, t, rfl, mv, e0, ln, hm', lL, tx0, q⟩ := h
  refine ⟨_, (pss_cons (ps_set (i := 2) sc_filled.nd rfl (.inl rfl) (cal c_made_parameters hr rfl (pa_cons (pe_op op_sub (pe_callB call_len_seq (by rfl) B.len PySem.boot_len (pa_cons (pe_ix ix_tup (pe_ix ix_tup (pv 0) pe_int (fun _ _ => rfl)) pe_int (fun _ _ => rfl)) pa_nil)) pe_int) pa_nil)))
    (pss_cons (ps_set (i := 3) sc_filled.nd rfl (.inl rfl) (pe_tup (pa_cons (pe_ix ix_tup (pe_ix ix_tup (pv 0) pe_int (fun _ _ => rfl)) pe_int (fun _ _ => rfl)) (pa_cons (pe_tup (pa_cons pe_str (pa_cons (pv 1) pa_nil))) (StX.pa_star (pv 2) pa_nil)))))
    (pss_one (ps_ret (cal c_with_front hr rfl (pa_cons (pv 0) (pa_cons (pv 2) (pa_cons (pv 3) pa_nil)))))))), ?_⟩
  have mv0 := mv
  obtain ⟨a, xs, rfl, hS, pf⟩ := mv
  have lx := mp_len pf
  obtain ⟨v0, hv0, m0⟩ : ∃ v0, xs[0]? = some v0 ∧ MfV g K H v0 f0 := by
    have l0 : 0 < xs.length := by rw [lx]; exact (List.getElem?_eq_some_iff.mp e0).1
    have e := List.getElem?_eq_getElem l0
    obtain ⟨b, hb, r⟩ := mp_at pf e
    rw [e0] at hb
    cases hb
    exact ⟨_, e, r⟩
  obtain ⟨oa, vp, vb, rfl, hO, tp, fz, tb⟩ := m0
  obtain ⟨pa, pvs, rfl, hP, rP⟩ := tp.list
  have lP := rP.length
  refine ⟨_, rfl, a, xs, _, _, rfl, rfl, hS, atI_nat (j := 0) hv0, oa, _, _, _, rfl, rfl, hO, rfl, pa, pvs, rfl, .inr hP, _, _, rfl, rfl, ?_⟩
  refine ⟨m, by rw [lP, ln]; show [V.int (((m + 1 : Nat) : Int) - 1)] = _; rw [show (((m + 1 : Nat) : Int) - 1) = (m : Nat) by omega], by omega, fun vq H1 tq fzq k1 => ?_⟩
  obtain ⟨qa, qvs, rfl, hQ, rQ⟩ := tq.list
  have lQ := rQ.length
  rw [List.length_map, mps_len] at lQ
  have lq : ∀ {G : Hp}, Tr K G (.str "quote") (.w qw) := by rw [show ("quote" : Str) = tx qw by decide +kernel]; exact tr_w
  refine ⟨_, rfl, a, xs, _, _, rfl, rfl, k1.sqT hS, atI_nat (j := 0) hv0, oa, _, _, _, rfl, rfl, k1.sqT hO, rfl, _, rfl, ?_⟩
  refine ⟨by show 2 ≤ sizeLine; decide, fun T nT => ?_⟩
  have kT : Keep [] H1 (upd H1 T (.tup [.str "quote", vx])) := Keep.new nT
  have eT : (upd H1 T (.tup [.str "quote", vx])) T = some (.tup [.str "quote", vx]) := upd_same
  generalize upd H1 T (.tup [.str "quote", vx]) = H2 at kT eT
  have k02 := k1.trans kT
  refine ⟨_, rfl, qa, qvs, rfl, .inl (kT.sqT hQ), ?_⟩
  refine ⟨by show (V.str (tx f0.1) :: V.ref T :: (qvs ++ [])).length ≤ sizeLine; rw [List.append_nil, List.length_cons, List.length_cons]; exact Nat.le_trans (show _ ≤ 1000 by omega) (by decide), fun U nU => ?_⟩
  rw [List.append_nil]
  have kU : Keep [] H2 (upd H2 U (.tup (.str (tx f0.1) :: .ref T :: qvs))) := Keep.new nU
  have k2U := kT.trans kU
  have k0U := k1.trans k2U
  refine ⟨_, rfl, _, rfl, _, rfl, ?_⟩
  refine ⟨.ref a, .ref qa, .ref U, L, mpsT m, fillB f0.1 t m, rfl, mv0.keep k0U, tq.keep k2U, fun _ => fzq.kp (Kp.of k2U), ?_, lL, fun v' H' r k => q v' H' r (k0U.trans k)⟩
  exact tr_tup upd_same (trs_cons tr_w (trs_cons (tr_tup (kU.tup eT) (trs_cons lq (Trs.one (tx0.keep k0U)))) (rQ.keep k2U)))
/-- where the programs begin -/
def mainsOf {α : Type} : List (List (List Nat × α × Tree)) → Nat → List (List Nat)
  | [], _ => []
  | L :: Ls, s => madeN s :: mainsOf Ls (s + L.length)
theorem mainsOf_len {α : Type} : ∀ (Ls : List (List (List Nat × α × Tree))) (s : Nat), (mainsOf Ls s).length = Ls.length
  | [], _ => rfl
  | L :: Ls, s => by rw [mainsOf, List.length_cons, mainsOf_len Ls, List.length_cons]
theorem mainsOf_app {α : Type} : ∀ (A B : List (List (List Nat × α × Tree))) (s : Nat), mainsOf (A ++ B) s = mainsOf A s ++ mainsOf B (s + tot A)
  | [], B, s => by rw [List.nil_append, mainsOf, List.nil_append, tot, Nat.add_zero]
  | L :: A, B, s => by rw [List.cons_append, mainsOf, mainsOf, mainsOf_app A B, tot, List.cons_append, Nat.add_assoc]
theorem sides_app {α : Type} : ∀ (A B : List (List (List Nat × α × Tree))) (s : Nat), sides (A ++ B) s = sides A s ++ sides B (s + tot A)
  | [], B, s => by rw [List.nil_append, sides, List.nil_append, tot, Nat.add_zero]
  | L :: A, B, s => by rw [List.cons_append, sides, sides, sides_app A B, tot, List.append_assoc, Nat.add_assoc]
theorem tot_take : ∀ {Ls : List (List Fn)}, (∀ L ∈ Ls, RenOk L) → ∀ i, tot (Ls.take i) ≤ 1000 * i
  | [], _, i => by rw [List.take_nil, tot]; exact Nat.zero_le _
  | L :: Ls, h, 0 => by rw [List.take_zero, tot]; exact Nat.zero_le _
  | L :: Ls, h, i + 1 => by
    have a := tot_take (fun M m => h M (List.mem_cons_of_mem _ m)) i
    have b := (h L (List.mem_cons_self ..)).2.1
    rw [List.take_succ_cons, tot]
    omega
def SInv (g : Prop) (K : PySem.W.Frag) (H : Hp) (a Fd Md : Addr) (Ls : List (List Fn)) (i : Nat) (σ : L2.St) (H' : Hp) : Prop := ∃ (y3 : Option V) (ds : List V), σ = [some (.ref a), some (.ref Fd), some (.ref Md), y3] ∧ Keep [] H H' ∧ H' Fd = some (.lst ds) ∧ Paired (MfV g K H') ds (sides (Ls.take i) 0) ∧ H' Md = some (.lst ((mainsOf (Ls.take i) 0).map fun x => V.str (tx x)))
def spSides (g : Prop) (K : PySem.W.Frag) : Sp := fun vs H Q _ => ∃ (a : Addr) (xs : List V) (Ls : List (List Fn)), vs = [.ref a] ∧ (SqL K H a xs ∨ SqT K H a xs) ∧ Paired (MpV g K H) xs Ls ∧ (∀ L ∈ Ls, RenOk L) ∧ Ls.length ≤ 100 ∧ ∀ (v' : V) (H' : Hp), (∃ (R M : Addr) (vF : V), v' = .ref R ∧ SqT K H' R [vF, .ref M] ∧ MpV g K H' vF (sides Ls 0) ∧ H' M = some (.lst ((mainsOf Ls 0).map fun x => V.str (tx x)))) → Keep [] H H' → Q v' H'
theorem has_sides {g : Prop} {k : Nat} (D : DefAt K mg "side_by_side" s_side_by_side p_side_by_side) (B : Bn mg) (c1 : Has P w K mg base k "_renamed_good" p_renamed_good (spRenGood g K)) (c2 : Has P w K mg base k "made_name" p_made_name spMade) : Has P w K mg base (k + 1) "side_by_side" p_side_by_side (spSides g K) := by
  obtain ⟨f, fd, F, hm, hb⟩ := D.ex
  obtain ⟨_, _, c_renamed_good⟩ := c1
  obtain ⟨_, _, c_made_name⟩ := c2
  refine ⟨f, fd, F.ok sc_side_by_side (fun vs H Q E h => ?_) (fun cdv A outer s H vs Q E hr h => ?_), hm, F.kp, hb⟩
  · obtain ⟨_, _, _, rfl, _⟩ := h
    rfl
  obtain ⟨a, xs, Ls, rfl, hS, pf, ok, lL, q⟩ := h
  refine ⟨_, (pss_cons (ps_set (i := 1) sc_side_by_side.nd rfl (.inl rfl) (pe_lst pa_nil))
    (pss_cons (ps_set (i := 2) sc_side_by_side.nd rfl (.inl rfl) (pe_lst pa_nil))
    (pss_cons (ps_for PassesOwn.never rfl (pi_lt (pv 0)) (pg_name (i := 3) sc_side_by_side.nd rfl (.inl rfl))
      (pss_cons (ps_expr (pe_bm PySem.F.plainAttrs_list PySem.F.slot_list_append PySem.F.type_list_append mt_append (pv 2) (pa_cons (cal c_made_name hr rfl (pa_cons (pe_callB call_len_seq (by rfl) B.len PySem.boot_len (pa_cons (pv 1) pa_nil)) pa_nil)) pa_nil)))
      (pss_one (ps_expr (pe_bm PySem.F.plainAttrs_list PySem.F.slot_list_extend PySem.F.type_list_extend mt_extendT (pv 1) (pa_cons (cal c_renamed_good hr rfl (pa_cons (pv 3) (pa_cons (pe_callB call_len_seq (by rfl) B.len PySem.boot_len (pa_cons (pv 1) pa_nil)) pa_nil))) pa_nil))))))
    (pss_one (ps_ret (pe_tup (pa_cons (pe_callTy call_tuple_of (by rfl) B.tuple (by decide +kernel) (pa_cons (pv 1) pa_nil)) (pa_cons (pv 2) pa_nil)))))))), ?_⟩
  have lx := mp_len pf
  refine ⟨by show (0 : Nat) ≤ sizeLine; decide, fun Fd nF => ?_⟩
  have eF0 : (upd H Fd (.lst [])) Fd = some (.lst []) := upd_same
  have kF : Keep [] H (upd H Fd (.lst [])) := Keep.new nF
  generalize upd H Fd (.lst []) = H1 at eF0 kF
  refine ⟨by show (0 : Nat) ≤ sizeLine; decide, fun Md nM => ?_⟩
  have MF : Md ≠ Fd := Ne.symm (ne_of_none eF0 nM)
  have kM : Keep [] H1 (upd H1 Md (.lst [])) := Keep.new nM
  have eM0 : (upd H1 Md (.lst [])) Md = some (.lst []) := upd_same
  have eF1 := kM.same _ _ eF0
  generalize upd H1 Md (.lst []) = H2 at eM0 kM eF1
  have k02 := kF.trans kM
  have nM0 : H Md = none := by
    cases e : H Md with
    | none => rfl
    | some o =>
      have := kF.same _ _ e
      rw [nM] at this
      cases this
  have step : ∀ (i : Nat) (x : V) (σ : L2.St) (H' : Hp) (D : Ends), xs[i]? = some x → SInv g K H a Fd Md Ls i σ H' → (∀ σ2 H3, SInv g K H a Fd Md Ls (i + 1) σ2 H3 → D.nx σ2 H3) →
      (gName 3) x σ H' fun σ2 H3 => (tSeq
            (tDrop
              (tBM K "list" rAppend (tVar 2)
                (tCons (tCall spMade [] E0 (tCons (tCB (rLenK K) (tCons (tVar 1) tNil)) tNil)) tNil)))
            (tDrop
              (tBM K "list" (rExtT K) (tVar 1)
                (tCons (tCall (spRenGood g K) [] E0 (tCons (tVar 3) (tCons (tCB (rLenK K) (tCons (tVar 1) tNil)) tNil))) tNil)))) D σ2 H3 := by
    rintro i x σ H' D hx ⟨y3, ds, rfl, kk, eF, pd, eM⟩ nx
    obtain ⟨L, hL, mv⟩ := mp_at pf hx
    have mL := List.mem_of_getElem? hL
    have il : i < Ls.length := (List.getElem?_eq_some_iff.mp hL).1
    have okL := ok L mL
    have lds := mp_len pd
    rw [sides_len] at lds
    have tk : Ls.take (i + 1) = Ls.take i ++ [L] := by rw [List.take_add_one, hL]; rfl
    have tb : tot (Ls.take i) ≤ 1000 * i := tot_take ok i
    have lm : (mainsOf (Ls.take i) 0).length ≤ i := by rw [mainsOf_len, List.length_take]; omega
    refine ⟨_, rfl, .inl ⟨rfl, _, SqL.of eM⟩, _, rfl, Fd, ds, rfl, .inl (SqL.of eF), ds.length, rfl, by omega, ?_⟩
    refine ⟨Md, _, _, rfl, rfl, eM, Nat.lt_of_le_of_lt (show _ ≤ 100 by rw [List.length_map]; omega) (by decide), ?_⟩
    have kA : Keep [Md] H' (upd H' Md (.lst ((mainsOf (Ls.take i) 0).map (fun x => V.str (tx x)) ++ [.str (tx (madeN ds.length))]))) := Keep.set eM (List.mem_cons_self ..)
    have eM2 : (upd H' Md (.lst ((mainsOf (Ls.take i) 0).map (fun x => V.str (tx x)) ++ [.str (tx (madeN ds.length))]))) Md = some (.lst ((mainsOf (Ls.take i) 0).map (fun x => V.str (tx x)) ++ [.str (tx (madeN ds.length))])) := upd_same
    have eF2 : (upd H' Md (.lst ((mainsOf (Ls.take i) 0).map (fun x => V.str (tx x)) ++ [.str (tx (madeN ds.length))]))) Fd = some (.lst ds) := by rw [upd_ne (Ne.symm MF)]; exact eF
    generalize upd H' Md (.lst ((mainsOf (Ls.take i) 0).map (fun x => V.str (tx x)) ++ [.str (tx (madeN ds.length))])) = H3 at kA eM2 eF2
    have k3 : Keep [] H H3 := (kk.cons.trans kA).drop nM0
    refine ⟨_, rfl, .inl ⟨rfl, _, SqL.of eF2⟩, _, rfl, _, rfl, Fd, ds, rfl, .inl (SqL.of eF2), ?_⟩
    refine ⟨x, L, ds.length, rfl, mv.keep k3, okL, by omega, fun v' H4 mv' k4 => ?_⟩
    obtain ⟨b, zs, rfl, hZ, pz⟩ := mv'
    have lz := mp_len pz
    rw [renL_len] at lz
    have hl := okL.2.1
    have eF4 := k4.same _ _ eF2
    have eM4 := k4.same _ _ eM2
    refine ⟨Fd, b, ds, zs, rfl, rfl, eF4, hZ, Nat.le_trans (show _ ≤ 1000000 by omega) (by decide), ?_⟩
    have kB : Keep [Fd] H4 (upd H4 Fd (.lst (ds ++ zs))) := Keep.set eF4 (List.mem_cons_self ..)
    refine nx _ _ ⟨_, ds ++ zs, rfl, ((k3.trans k4).cons.trans kB).drop nF, upd_same, ?_, ?_⟩
    · rw [tk, sides_app]
      refine mp_app (mp_imp (fun _ _ z => ((z.kp kA).keep k4).kp kB) pd) ?_
      rw [sides, sides, List.append_nil, Nat.zero_add, ← lds]
      exact mp_imp (fun _ _ z => z.kp kB) pz
    · rw [upd_ne MF, eM4, tk, mainsOf_app, mainsOf, mainsOf, List.map_append, Nat.zero_add, ← lds]
      rfl
  have i0 : SInv g K H a Fd Md Ls 0 [some (.ref a), some (.ref Fd), some (.ref Md), none] H2 := ⟨none, [], rfl, k02, eF1, .nil, eM0⟩
  have fin : ∀ σ H', SInv g K H a Fd Md Ls xs.length σ H' → tRet (tTup (tCons (tCB (fun xs H_1 Q =>
              ∃ p ys,
                xs = [V.ref p] ∧
                  ((SqL K H_1 p ys ∧
                      ∀ (l : Addr), H_1 l = none → Q (V.ref l) (upd H_1 l (HO.tup ys))) ∨
                    SqT K H_1 p ys ∧
                      Q (V.ref p) H_1)) (tCons (tVar 1) tNil)) (tCons (tVar 2) tNil))) { nx := fun x H' => Q V.non H', rt := Q } σ H' := by
    rintro σ H' ⟨y3, ds, rfl, kk, eF, pd, eM⟩
    rw [lx, List.take_length] at pd eM
    refine ⟨_, rfl, Fd, ds, rfl, .inl ⟨SqL.of eF, fun l nl => ?_⟩⟩
    have kl : Keep [] H' (upd H' l (.tup ds)) := Keep.new nl
    have el : (upd H' l (.tup ds)) l = some (.tup ds) := upd_same
    have eM5 := kl.same _ _ eM
    generalize upd H' l (.tup ds) = H5 at kl el eM5
    refine ⟨_, rfl, by show 2 ≤ sizeLine; decide, fun R nR => ?_⟩
    have kR : Keep [] H5 (upd H5 R (.tup [.ref l, .ref Md])) := Keep.new nR
    exact q _ _ ⟨R, Md, .ref l, rfl, SqT.of_tup upd_same, ⟨l, ds, rfl, SqT.of_tup (kR.tup el), mp_imp (fun _ _ z => z.keep (kl.trans kR)) pd⟩, kR.same _ _ eM5⟩ ((kk.trans kl).trans kR)
  rcases hS with hS | hS
  · refine ⟨_, rfl, a, rfl, .inl ⟨⟨xs, k02.sqL (by simp) hS⟩, ?_⟩⟩
    refine for_list (K := K) (a := a) (xs := xs) (SInv g K H a Fd Md Ls) i0 (fun i σ H' _ p => ?_) (fun i x σ H' hx p => ?_) (fun σ H' p => fin σ H' p)
    · obtain ⟨_, _, _, kk, _⟩ := p
      exact kk.sqL (by simp) hS
    · exact step i x σ H' _ hx p (fun _ _ z => z)
  · refine ⟨_, rfl, a, rfl, .inr ⟨⟨xs, k02.sqT hS⟩, ?_⟩⟩
    refine for_tup (K := K) (a := a) (xs := xs) (SInv g K H a Fd Md Ls) i0 (fun i σ H' _ p => ?_) (fun i x σ H' hx p => ?_) (fun σ H' p => fin σ H' p)
    · obtain ⟨_, _, _, kk, _⟩ := p
      exact kk.sqT hS
    · exact step i x σ H' _ hx p (fun _ _ z => z)
end
end Og

namespace Og
open PySem PySem.Spec PyProof.Rows L2
section
variable {P : Program} {w : World} {K : PySem.W.Frag} {mg : Str → Option Value} {base : Heap}
theorem mpsT_len (k : Nat) : (mpsT k).length = k := by unfold mpsT; rw [List.length_map, mps_len]
def spFill (g : Prop) (K : PySem.W.Frag) : Sp := fun vs H Q _ => ∃ (v vx : V) (L : List Fn) (f0 : Fn) (k : Nat) (t : Tree), vs = [v, vx] ∧ MpV g K H v L ∧ GoodL L ∧ WT (.l (L.map fnt)) ∧ (Tree.l (L.map fnt)).size ≤ 300000 ∧ L.length ≤ 1000 ∧ L[0]? = some f0 ∧ f0.2.1.length = k + 1 ∧ k ≤ 8 ∧ Tr K H vx t ∧ ∀ (v' : V) (H' : Hp), MpV g K H' v' (fillL L f0.1 k t) → Keep [] H H' → Q v' H'
theorem firstPs_of {L : List Fn} {f0 : Fn} (e : L[0]? = some f0) : firstPs (.l (L.map fnt)) = f0.2.1.length := by
  cases L with
  | nil => cases e
  | cons f r => cases e; rfl
theorem has_fill {CP : Addr} {g : Prop} {k : Nat} (D : DefAt K mg "fill" s_fill p_fill) (B : Bn mg) (M : Mc mg) (c1 : HasX P w K mg base k "inputs_of" p_inputs_of (spInputsX K CP)) (c2 : Has P w K mg base k "filled" p_filled (spFilled g K)) : Has P w K mg base (k + 1) "fill" p_fill (spFill g K) := by
  obtain ⟨f, fd, F, hm, hb⟩ := D.ex
  obtain ⟨_, _, c_inputs_of⟩ := c1
  obtain ⟨_, _, c_filled⟩ := c2
  obtain ⟨_, M_MOST_INPUTS⟩ := M.MOST_INPUTS
  refine ⟨f, fd, F.ok sc_fill (fun vs H Q E h => ?_) (fun cdv A outer s H vs Q E hr h => ?_), hm, F.kp, hb⟩
  · obtain ⟨_, _, _, _, _, _, rfl, _⟩ := h
    rfl
  obtain ⟨v, vx, L, f0, m, t, rfl, mv, gl, wt, sz, lL, e0, ln, hm', tx0, q⟩ := h
  refine ⟨_, (pss_cons (ps_set (i := 2) sc_fill.nd rfl (.inl rfl) (calX c_inputs_of hr rfl pass_never (pa_cons (pv 0) pa_nil)))
    (pss_cons (ps_if (pt_not (pt_chain op_le op_le pe_int (pv 2) (pe_op op_add (pe_glob (v := .int 8) rfl M_MOST_INPUTS ⟨_, rfl⟩) pe_int))) (pss_one ps_never) pss_nil)
    (pss_one (ps_ret (cal c_filled hr rfl (pa_cons (pv 0) (pa_cons (pv 1) pa_nil))))))), ?_⟩
  have good := gl.bad (by rintro rfl; cases e0)
  have no : ∀ n, BadNo (.l (L.map fnt)) (some n) → False := fun n h => by have := BadNo.uniq good h; cases this
  refine ⟨_, rfl, v, _, rfl, ⟨mv.tr, wt, sz, fun fs e => by rw [← Tree.l.inj e, List.length_map]; exact lL⟩, fun n hn => (no n hn).elim, fun H1 _ k1 => ?_⟩
  rw [firstPs_of e0, ln]
  refine ⟨_, rfl, _, _, rfl, rfl, true, congrArg V.bl (decide_eq_true (by omega)), ?_⟩
  rw [if_pos rfl]
  refine ⟨_, _, rfl, rfl, _, _, rfl, rfl, true, congrArg V.bl (decide_eq_true (by omega)), iteF ?_⟩
  refine ⟨_, rfl, _, rfl, v, vx, L, f0, m, t, rfl, mv.keep k1, e0, ln, by omega, by omega, tx0.keep k1, fun v' H' r k => q v' H' r (k1.trans k)⟩
end
end Og

namespace Og
open PySem PySem.Spec PyProof.Rows L2
def sw : List Nat := [115]
def qT (t : Tree) : Tree := .l [.w qw, t]
/-- the text of what fills r with r, s being r -/
def tofT (n : Nat) (ps : List Tree) : Tree := .l [.w joinw, lsT [qT (.w (madeN (n + 1))), qT (.l ps), .l [.w joinw, qT (.w (madeN n)), .l [.w joinw, lsT [qT (.w qw), .w sw], qT (.l ps)]]], .w sw]
theorem newT {K : PySem.W.Frag} {H : Hp} {T : Addr} {vs : List V} {ts : List Tree} (nT : H T = none) (r : Trs K H vs ts) : ∃ H1, upd H T (.tup vs) = H1 ∧ Keep [] H H1 ∧ Tr K H1 (.ref T) (.l ts) :=
  have k : Keep [] H (upd H T (.tup vs)) := Keep.new nT
  ⟨_, rfl, k, tr_tup upd_same (r.keep k)⟩
theorem newL {K : PySem.W.Frag} {H : Hp} {T : Addr} {vs : List V} {ts : List Tree} (nT : H T = none) (r : Trs K H vs ts) : ∃ H1, upd H T (.lst vs) = H1 ∧ Keep [] H H1 ∧ SqL K H1 T vs ∧ Trs K H1 vs ts ∧ H1 T = some (.lst vs) :=
  have k : Keep [] H (upd H T (.lst vs)) := Keep.new nT
  ⟨_, rfl, k, SqL.of upd_same, r.keep k, upd_same⟩
section
variable {P : Program} {w : World} {K : PySem.W.Frag} {mg : Str → Option Value} {base : Heap}
def spTof (K : PySem.W.Frag) : Sp := fun vs H Q _ => ∃ (n : Nat) (vp : V) (ps : List Tree), vs = [.int n, vp] ∧ n ≤ 1000000 ∧ Tr K H vp (.l ps) ∧ ∀ (v' : V) (H' : Hp), Tr K H' v' (tofT n ps) → Keep [] H H' → Q v' H'
theorem has_tof {k : Nat} (D : DefAt K mg "_text_of_filled" s_text_of_filled p_text_of_filled) (B : Bn mg) (c1 : Has P w K mg base k "made_name" p_made_name spMade) (c2 : Has P w K mg base k "listing" p_listing (spListing K)) : Has P w K mg base (k + 1) "_text_of_filled" p_text_of_filled (spTof K) := by
  obtain ⟨f, fd, F, hm, hb⟩ := D.ex
  obtain ⟨_, _, c_made_name⟩ := c1
  obtain ⟨_, _, c_listing⟩ := c2
  refine ⟨f, fd, F.ok sc_text_of_filled (fun vs H Q E h => ?_) (fun cdv A outer s H vs Q E hr h => ?_), hm, F.kp, hb⟩
  · obtain ⟨_, _, _, rfl, _⟩ := h
    rfl
  obtain ⟨n, vp, ps, rfl, hn, tp, q⟩ := h
  refine ⟨_, (pss_cons (ps_set (i := 2) sc_text_of_filled.nd rfl (.inl rfl) (pe_tup (pa_cons pe_str (pa_cons (pe_tup (pa_cons pe_str (pa_cons pe_str pa_nil))) (pa_cons (pe_tup (pa_cons pe_str (pa_cons pe_str (pa_cons (pe_tup (pa_cons pe_str (pa_cons (pe_tup pa_nil) pa_nil))) pa_nil)))) pa_nil)))))
    (pss_cons (ps_set (i := 3) sc_text_of_filled.nd rfl (.inl rfl) (pe_tup (pa_cons pe_str (pa_cons (pe_tup (pa_cons pe_str (pa_cons (cal c_made_name hr rfl (pa_cons (pv 0) pa_nil)) pa_nil))) (pa_cons (pe_tup (pa_cons pe_str (pa_cons (pv 2) (pa_cons (pe_tup (pa_cons pe_str (pa_cons (pv 1) pa_nil))) pa_nil)))) pa_nil)))))
    (pss_cons (ps_set (i := 4) sc_text_of_filled.nd rfl (.inl rfl) (cal c_listing hr rfl (pa_cons (pe_lst (pa_cons (pe_tup (pa_cons pe_str (pa_cons (cal c_made_name hr rfl (pa_cons (pe_op op_add (pv 0) pe_int) pa_nil)) pa_nil))) (pa_cons (pe_tup (pa_cons pe_str (pa_cons (pv 1) pa_nil))) (pa_cons (pv 3) pa_nil)))) pa_nil)))
    (pss_one (ps_ret (pe_tup (pa_cons pe_str (pa_cons (pv 4) (pa_cons pe_str pa_nil))))))))), ?_⟩
  have lq : ∀ {G : Hp}, Tr K G (.str "quote") (.w qw) := by rw [show ("quote" : Str) = tx qw by decide +kernel]; exact tr_w
  have lj : ∀ {G : Hp}, Tr K G (.str "join") (.w joinw) := by rw [show ("join" : Str) = tx joinw by decide +kernel]; exact tr_w
  have ls : ∀ {G : Hp}, Tr K G (.str "s") (.w sw) := by rw [show ("s" : Str) = tx sw by decide +kernel]; exact tr_w
  refine ⟨by show 2 ≤ sizeLine; decide, fun T nT => ?_⟩
  obtain ⟨H1, e1, k1, t1⟩ := newT nT (trs_cons lq (Trs.one lq))
  rw [e1]
  refine ⟨by show 0 ≤ sizeLine; decide, fun T nT => ?_⟩
  obtain ⟨H2, e2, k2, t2⟩ := newT (K := K) nT trs_nil
  rw [e2]
  refine ⟨by show 2 ≤ sizeLine; decide, fun T nT => ?_⟩
  obtain ⟨H3, e3, k3, t3⟩ := newT nT (trs_cons lq (Trs.one t2))
  rw [e3]
  refine ⟨by show 3 ≤ sizeLine; decide, fun T nT => ?_⟩
  obtain ⟨H4, e4, k4, t4⟩ := newT nT (trs_cons lj (trs_cons ls (Trs.one t3)))
  rw [e4]
  refine ⟨by show 3 ≤ sizeLine; decide, fun T nT => ?_⟩
  obtain ⟨H5, e5, k5, t5⟩ := newT nT (trs_cons lj (trs_cons (t1.keep (k2.trans (k3.trans k4))) (Trs.one t4)))
  rw [e5]
  have tp5 := tp.keep (k1.trans (k2.trans (k3.trans (k4.trans k5))))
  refine ⟨_, rfl, n, rfl, by omega, ?_⟩
  refine ⟨by show 2 ≤ sizeLine; decide, fun T nT => ?_⟩
  obtain ⟨H6, e6, k6, t6⟩ := newT nT (trs_cons lq (Trs.one tr_w))
  rw [e6]
  refine ⟨_, rfl, _, rfl, ?_⟩
  refine ⟨by show 2 ≤ sizeLine; decide, fun T nT => ?_⟩
  obtain ⟨H7, e7, k7, t7⟩ := newT nT (trs_cons lq (Trs.one (tp5.keep k6)))
  rw [e7]
  refine ⟨by show 3 ≤ sizeLine; decide, fun T nT => ?_⟩
  obtain ⟨H8, e8, k8, t8⟩ := newT nT (trs_cons lj (trs_cons (t5.keep (k6.trans k7)) (Trs.one t7)))
  rw [e8]
  refine ⟨by show 3 ≤ sizeLine; decide, fun T nT => ?_⟩
  obtain ⟨H9, e9, k9, t9⟩ := newT nT (trs_cons lj (trs_cons (t6.keep (k7.trans k8)) (Trs.one t8)))
  rw [e9]
  have tp9 := tp5.keep (k6.trans (k7.trans (k8.trans k9)))
  refine ⟨_, rfl, _, _, rfl, rfl, n + 1, rfl, by omega, ?_⟩
  refine ⟨by show 2 ≤ sizeLine; decide, fun T nT => ?_⟩
  obtain ⟨HA, eA, kA, tA⟩ := newT nT (trs_cons lq (Trs.one tr_w))
  rw [eA]
  refine ⟨_, rfl, ?_⟩
  refine ⟨by show 2 ≤ sizeLine; decide, fun T nT => ?_⟩
  obtain ⟨HB, eB, kB, tB⟩ := newT nT (trs_cons lq (Trs.one (tp9.keep kA)))
  rw [eB]
  refine ⟨_, rfl, ?_⟩
  refine ⟨by show 3 ≤ sizeLine; decide, fun Ld nL => ?_⟩
  obtain ⟨HC, eC, kC, sC, rC, _⟩ := newL nL (trs_cons (tA.keep kB) (trs_cons tB (Trs.one (t9.keep (kA.trans kB)))))
  rw [eC]
  refine ⟨Ld, _, _, rfl, sC, rC, by show 3 ≤ 1000000; decide, fun v' HD tD kD => ?_⟩
  refine ⟨_, rfl, ?_⟩
  refine ⟨by show 3 ≤ sizeLine; decide, fun T nT => ?_⟩
  obtain ⟨HE, eE, kE, tE⟩ := newT nT (trs_cons lj (trs_cons tD (Trs.one ls)))
  rw [eE]
  exact q _ _ tE (k1.trans (k2.trans (k3.trans (k4.trans (k5.trans (k6.trans (k7.trans (k8.trans (k9.trans (kA.trans (kB.trans (kC.trans (kD.trans kE)))))))))))))
end
end Og

namespace Og
open PySem PySem.Spec PyProof.Rows L2
/-- the reader -/
def kpsT (k : Nat) : List Tree := .w sw :: mpsT k
def kbody (n k : Nat) : Tree := .l (.w (madeN 0) :: tofT n (mpsT k) :: mpsT k)
def knowR (L : List Fn) (k : Nat) : List Fn := fronted [L] (kpsT k) (kbody L.length k)
def knowL (L : List Fn) (k : Nat) : List Fn := fillL (knowR L k) (madeN L.length) k (.l ((knowR L k).map fnt))
theorem fronted_cons {L : List Fn} {ps : List Tree} {b : Tree} : fronted [L] ps b = (madeN (sides [L] 0).length, ps, b) :: sides [L] 0 := by
  unfold fronted
  rw [sides_len]
theorem sides_one (L : List Fn) : sides [L] 0 = renL L 0 := by rw [sides, sides, List.append_nil]
theorem knowR_len (L : List Fn) (k : Nat) : (knowR L k).length = L.length + 1 := by
  unfold knowR
  rw [fronted_cons, sides_one, List.length_cons, renL_len]
/-! ### sizes -/
theorem fnt_size (f : Fn) : (fnt f).size = sizes f.2.1 + f.2.2.size + 3 := by
  unfold fnt
  rw [size_l, sizes_cons, sizes_cons, sizes_cons, sizes_nil, size_w, size_l]
  omega
theorem renL_size (ns : List (List Nat)) (s : Nat) : ∀ L : List Fn, sizes ((L.map (renF ns s)).map fnt) = sizes (L.map fnt)
  | [] => rfl
  | f :: L => by
    rw [List.map_cons, List.map_cons, List.map_cons, sizes_cons, sizes_cons, renL_size ns s L, fnt_size, fnt_size]
    show sizes f.2.1 + (ren _ f.2.2).size + 3 + _ = _
    rw [ren_size]
theorem sizes_ws : ∀ L : List (List Nat), sizes (L.map Tree.w) = L.length
  | [] => rfl
  | x :: L => by rw [List.map_cons, sizes_cons, size_w, sizes_ws L, List.length_cons]; omega
theorem mpsT_size (k : Nat) : sizes (mpsT k) = k := by unfold mpsT; rw [sizes_ws, mps_len]
theorem qT_size (t : Tree) : (qT t).size = t.size + 2 := by unfold qT; rw [size_l, sizes_cons, sizes_cons, sizes_nil, size_w]; omega
theorem join_size (a b : Tree) : (Tree.l [.w joinw, a, b]).size = a.size + b.size + 2 := by rw [size_l, sizes_cons, sizes_cons, sizes_cons, sizes_nil, size_w]; omega
theorem ls0_size : (lsT []).size = 3 := by rw [lsT, size_l, sizes_cons, sizes_cons, sizes_nil, size_w, size_l, sizes_nil]
theorem tofT_size (n k : Nat) : (tofT n (mpsT k)).size = 2 * k + 39 := by
  unfold tofT
  simp only [lsT, join_size, qT_size, size_l, size_w, mpsT_size, sizes_cons, sizes_nil]
  omega
theorem kbody_size (n k : Nat) : (kbody n k).size = 3 * k + 41 := by
  unfold kbody
  rw [size_l, sizes_cons, sizes_cons, size_w, tofT_size, mpsT_size]
  omega
theorem knowR_size (L : List Fn) (k : Nat) : (Tree.l ((knowR L k).map fnt)).size = (Tree.l (L.map fnt)).size + 4 * k + 45 := by
  unfold knowR
  rw [fronted_cons, sides_one, size_l, size_l, List.map_cons, sizes_cons, fnt_size]
  unfold renL
  rw [renL_size]
  show sizes (kpsT k) + (kbody L.length k).size + 3 + _ + 1 = _
  unfold kpsT
  rw [sizes_cons, size_w, mpsT_size, kbody_size]
  omega
/-! ### words -/
theorem wq (t : Tree) (h : WT t) : WT (qT t) := wt_l (wts_cons (wt_w (isWord_of (by decide))) (wts_cons h wts_nil))
theorem wj {a b : Tree} (h : WT a) (h2 : WT b) : WT (.l [.w joinw, a, b]) := wt_l (wts_cons (wt_w (isWord_of (by decide))) (wts_cons h (wts_cons h2 wts_nil)))
theorem wls : ∀ {ts : List Tree}, WTs ts → WT (lsT ts)
  | [], _ => wq _ (wt_l wts_nil)
  | t :: ts, h => by rw [lsT]; exact wj h.head (wls h.tail)
theorem mpsT_wt {k : Nat} (h : k ≤ 100) : WTs (mpsT k) := WTs.of fun t m => by
  obtain ⟨x, mx, rfl⟩ := List.mem_map.mp m
  obtain ⟨i, hi, rfl⟩ := mps_mem mx
  exact wt_w (wordP (by omega))
theorem wsw : WT (.w sw) := wt_w (isWord_of (by decide))
theorem tofT_wt {n k : Nat} (hn : n ≤ 1000000) (h : k ≤ 100) : WT (tofT n (mpsT k)) := by
  have m := mpsT_wt h
  refine wj (wls (wts_cons (wq _ (wt_w (wordN (by omega)))) (wts_cons (wq _ (wt_l m)) (wts_cons (wj (wq _ (wt_w (wordN (by omega)))) (wj (wls (wts_cons (wq _ (wt_w (isWord_of (by decide)))) (wts_cons wsw wts_nil))) (wq _ (wt_l m)))) wts_nil)))) wsw
theorem knowR_wt {L : List Fn} {k : Nat} (h : WT (.l (L.map fnt))) (ll : L.length ≤ 1000000) (hk : k ≤ 100) : WT (.l ((knowR L k).map fnt)) := by
  unfold knowR
  rw [fronted_cons, sides_one, List.map_cons]
  have m := mpsT_wt hk
  refine wt_l (wts_cons (wt_l (wts_cons (wt_w (wordN (by rw [renL_len]; omega))) (wts_cons (wt_l (wts_cons wsw m)) (wts_cons (wt_l (wts_cons (wt_w (wordN (by omega))) (wts_cons (tofT_wt ll hk) m))) wts_nil)))) (WTs.of fun t mt => ?_))
  obtain ⟨f, mf, rfl⟩ := List.mem_map.mp mt
  obtain ⟨g, mg, rfl⟩ := List.mem_map.mp mf
  have wg := (h.list.all _ (List.mem_map.mpr ⟨g, mg, rfl⟩)).list
  have sg : ∀ x, IsWord x → IsWord (sig (L.map (·.1)) 0 x) := fun x hx => sig_word (by rw [List.length_map]; omega) hx
  exact wt_l (wts_cons (wt_w (sg _ wg.head.word)) (wts_cons wg.tail.head (wts_cons (ren_wt sg _ wg.tail.tail.head) wts_nil)))
/-! ### good -/
theorem gq {fs ps : List Tree} (t : Tree) : GoodE fs ps (qT t) := by
  unfold qT
  rw [GoodE]
  exact ⟨by unfold parts; rw [show spAr qw = some 1 by decide +kernel]; rfl, .inl rfl⟩
theorem gj {fs ps : List Tree} {a b : Tree} (h : GoodE fs ps a) (h2 : GoodE fs ps b) : GoodE fs ps (.l [.w joinw, a, b]) := by
  rw [GoodE]
  refine ⟨by unfold parts; rw [show spAr joinw = some 2 by decide +kernel]; rfl, .inr ?_⟩
  rw [GoodEs, GoodEs, GoodEs]
  exact ⟨h, h2, trivial⟩
theorem gls {fs ps : List Tree} : ∀ {ts : List Tree}, (∀ t ∈ ts, GoodE fs ps t) → GoodE fs ps (lsT ts)
  | [], _ => gq _
  | t :: ts, h => by rw [lsT]; exact gj (h t (List.mem_cons_self ..)) (gls fun u m => h u (List.mem_cons_of_mem _ m))
theorem ges_of {fs ps : List Tree} : ∀ {ts : List Tree}, (∀ t ∈ ts, GoodE fs ps t) → GoodEs fs ps ts
  | [], _ => by rw [GoodEs]; trivial
  | t :: ts, h => by rw [GoodEs]; exact ⟨h t (List.mem_cons_self ..), ges_of fun u m => h u (List.mem_cons_of_mem _ m)⟩
theorem g_tof {fs ps : List Tree} {n k : Nat} (hs : .w sw ∈ ps) : GoodE fs ps (tofT n (mpsT k)) := by
  have s : GoodE fs ps (.w sw) := by rw [goodE_w]; exact hs
  refine gj (gls fun t m => ?_) s
  rcases List.mem_cons.mp m with rfl | m
  · exact gq _
  rcases List.mem_cons.mp m with rfl | m
  · exact gq _
  rw [List.mem_singleton.mp m]
  refine gj (gq _) (gj (gls fun t m => ?_) (gq _))
  rcases List.mem_cons.mp m with rfl | m
  · exact gq _
  rw [List.mem_singleton.mp m]
  exact s
theorem kps_good {k : Nat} (h : k ≤ 8) : GoodPs (kpsT k) := by
  have e : kpsT k = (sw :: mps k).map Tree.w := rfl
  rw [e]
  refine goodPs_of (by rw [List.length_cons, mps_len]; omega) (List.nodup_cons.mpr ⟨fun m => ?_, mps_nodup k⟩) fun x m => ?_
  · obtain ⟨i, _, e⟩ := mps_mem m
    cases (List.cons.inj e).1
  · rcases List.mem_cons.mp m with rfl | m
    · decide +kernel
    · obtain ⟨i, _, rfl⟩ := mps_mem m
      exact spAr_par _
theorem knowR_good {L : List Fn} {f0 : Fn} {k : Nat} (h : GoodL L) (e0 : L[0]? = some f0) (ln : f0.2.1.length = k + 1) (hk : k ≤ 8) : GoodL (knowR L k) := by
  refine fronted_good (fun M m => by rw [List.mem_singleton.mp m]; exact h) (kps_good hk) fun fs hc => ?_
  have c := hc (madeN 0, k + 1) (by
    unfold fronted
    rw [sides_one]
    cases L with
    | nil => cases e0
    | cons f r =>
      cases e0
      refine List.mem_cons_of_mem _ (List.mem_cons.mpr (.inl ?_))
      show (madeN 0, k + 1) = (sig (f0.1 :: r.map (·.1)) 0 f0.1, f0.2.1.length)
      rw [sig_in (List.mem_cons_self ..), List.idxOf_cons_self, ln])
  have c : parts fs (madeN 0) = some (k + 1) := c
  unfold kbody
  rw [GoodE]
  refine ⟨by rw [c, List.length_cons, mpsT_len], .inr (ges_of fun t m => ?_)⟩
  rcases List.mem_cons.mp m with rfl | m
  · exact g_tof (List.mem_cons_self ..)
  · have m2 := m
    unfold mpsT at m2
    obtain ⟨x, _, rfl⟩ := List.mem_map.mp m2
    rw [goodE_w]
    exact List.mem_cons_of_mem _ m
theorem ren_ok {L : List Fn} (h : GoodL L) (ll : L.length ≤ 1000) (sz : (Tree.l (L.map fnt)).size ≤ 1000000) : RenOk L := by
  refine ⟨h.nd, ll, fun f m => ⟨ex_of _ (h.ex f m _ h.calls), ?_⟩⟩
  have : (fnt f).size ≤ sizes (L.map fnt) := (by
    obtain ⟨i, e⟩ := List.getElem?_of_mem (List.mem_map.mpr ⟨f, m, rfl⟩ : fnt f ∈ L.map fnt)
    exact size_of_get e)
  rw [size_l] at sz
  rw [fnt_size] at this
  omega
end Og

namespace Og
open PySem PySem.Spec PyProof.Rows L2
section
variable {P : Program} {w : World} {K : PySem.W.Frag} {mg : Str → Option Value} {base : Heap}
def spKnow (g : Prop) (K : PySem.W.Frag) : Sp := fun vs H Q _ => ∃ (v : V) (L : List Fn) (f0 : Fn) (k : Nat), vs = [v] ∧ MpV g K H v L ∧ GoodL L ∧ WT (.l (L.map fnt)) ∧ (Tree.l (L.map fnt)).size ≤ 290000 ∧ L.length ≤ 900 ∧ L[0]? = some f0 ∧ f0.2.1.length = k + 1 ∧ k ≤ 8 ∧ ∀ (v' : V) (H' : Hp), MpV g K H' v' (knowL L k) → Keep [] H H' → Q v' H'
theorem has_know {CP : Addr} {k : Nat} (D : DefAt K mg "know_own" s_know_own p_know_own) (B : Bn mg) (M : Mc mg) (c1 : HasX P w K mg base k "inputs_of" p_inputs_of (spInputsX K CP)) (c2 : Has P w K mg base k "made_parameters" p_made_parameters (spMPars K)) (c3 : Has P w K mg base k "side_by_side" p_side_by_side (spSides False K)) (c4 : Has P w K mg base k "_text_of_filled" p_text_of_filled (spTof K)) (c5 : Has P w K mg base k "with_front" p_with_front (spFront False K)) (c6 : Has P w K mg base k "fill" p_fill (spFill False K)) : Has P w K mg base (k + 1) "know_own" p_know_own (spKnow False K) := by
  obtain ⟨f, fd, F, hm, hb⟩ := D.ex
  obtain ⟨_, _, c_inputs_of⟩ := c1
  obtain ⟨_, _, c_made_parameters⟩ := c2
  obtain ⟨_, _, c_side_by_side⟩ := c3
  obtain ⟨_, _, c_text_of_filled⟩ := c4
  obtain ⟨_, _, c_with_front⟩ := c5
  obtain ⟨_, _, c_fill⟩ := c6
  obtain ⟨_, M_MOST_INPUTS⟩ := M.MOST_INPUTS
  refine ⟨f, fd, F.ok sc_know_own (fun vs H Q E h => ?_) (fun cdv A outer s H vs Q E hr h => ?_), hm, F.kp, hb⟩
  · obtain ⟨_, _, _, _, rfl, _⟩ := h
    rfl
  obtain ⟨v, L, f0, m, rfl, mv, gl, wt, sz, lL, e0, ln, hm', q⟩ := h
  refine ⟨_, (pss_cons (ps_set (i := 1) sc_know_own.nd rfl (.inl rfl) (calX c_inputs_of hr rfl pass_never (pa_cons (pv 0) pa_nil)))
    (pss_cons (ps_if (pt_not (pt_chain op_le op_le pe_int (pv 1) (pe_op op_add (pe_glob (v := .int 8) rfl M_MOST_INPUTS ⟨_, rfl⟩) pe_int))) (pss_one ps_never) pss_nil)
    (pss_cons (ps_set (i := 2) sc_know_own.nd rfl (.inl rfl) (cal c_made_parameters hr rfl (pa_cons (pe_op op_sub (pv 1) pe_int) pa_nil)))
    (pss_cons (ps_asg (cal c_side_by_side hr rfl (pa_cons (pe_lst (pa_cons (pv 0) pa_nil)) pa_nil)) (pg_tup (by rfl) (pgs_cons (pg_name (i := 3) sc_know_own.nd rfl (.inl rfl)) (pgs_cons (pg_name (i := 4) sc_know_own.nd rfl (.inl rfl)) pgs_nil))))
    (pss_cons (ps_set (i := 5) sc_know_own.nd rfl (.inl rfl) (pe_tup (pa_cons (pe_ix ix_list (pv 4) pe_int (fun _ _ => rfl)) (pa_cons (cal c_text_of_filled hr rfl (pa_cons (pe_callB call_len_seq (by rfl) B.len PySem.boot_len (pa_cons (pv 3) pa_nil)) (pa_cons (pv 2) pa_nil))) (StX.pa_star (pv 2) pa_nil)))))
    (pss_cons (ps_set (i := 6) sc_know_own.nd rfl (.inl rfl) (cal c_with_front hr rfl (pa_cons (pv 3) (pa_cons (pe_tup (pa_cons pe_str (StX.pa_star (pv 2) pa_nil))) (pa_cons (pv 5) pa_nil)))))
    (pss_one (ps_ret (cal c_fill hr rfl (pa_cons (pv 6) (pa_cons (pv 6) pa_nil))))))))))), ?_⟩
  have good := gl.bad (by rintro rfl; cases e0)
  have no : ∀ n, BadNo (.l (L.map fnt)) (some n) → False := fun n h => by have := BadNo.uniq good h; cases this
  refine ⟨_, rfl, v, _, rfl, ⟨mv.tr, wt, by omega, fun fs e => by rw [← Tree.l.inj e, List.length_map]; omega⟩, fun n hn => (no n hn).elim, fun H1 _ k1 => ?_⟩
  rw [firstPs_of e0, ln]
  refine ⟨_, rfl, _, _, rfl, rfl, true, congrArg V.bl (decide_eq_true (by omega)), ?_⟩
  rw [if_pos rfl]
  refine ⟨_, _, rfl, rfl, _, _, rfl, rfl, true, congrArg V.bl (decide_eq_true (by omega)), iteF ?_⟩
  refine ⟨_, rfl, _, _, rfl, rfl, m, by show [V.int (((m + 1 : Nat) : Int) - 1)] = _; rw [show (((m + 1 : Nat) : Int) - 1) = (m : Nat) by omega], by omega, fun vq H2 tq fzq k2 => ?_⟩
  obtain ⟨qa, qvs, rfl, hQ, rQ⟩ := tq.list
  have lQ := rQ.length
  rw [List.length_map, mps_len] at lQ
  have k02 := k1.trans k2
  refine ⟨_, rfl, by show 1 ≤ sizeLine; decide, fun Ld nL => ?_⟩
  have kL : Keep [] H2 (upd H2 Ld (.lst [v])) := Keep.new nL
  have eL : (upd H2 Ld (.lst [v])) Ld = some (.lst [v]) := upd_same
  generalize upd H2 Ld (.lst [v]) = H3 at kL eL
  have k03 := k02.trans kL
  refine ⟨Ld, [v], [L], rfl, .inl (SqL.of eL), .cons (mv.keep k03) .nil, fun M mM => by rw [List.mem_singleton.mp mM]; exact ren_ok gl (by omega) (by omega), by show 1 ≤ 100; decide, fun v' H4 r k4 => ?_⟩
  obtain ⟨R, Mn, vF, rfl, hR, mF, eM⟩ := r
  refine ⟨R, _, rfl, hR, rfl, ?_⟩
  have mF0 := mF
  obtain ⟨fa, fxs, rfl, hF, pF⟩ := mF
  have lF := mp_len pF
  rw [sides_one, renL_len] at lF
  have tq4 := tq.keep (kL.trans k4)
  have hQ4 := (kL.trans k4).sqT hQ
  have rQ4 := rQ.keep (kL.trans k4)
  have ms : (mainsOf [L] 0).map (fun x => V.str (tx x)) = [V.str (tx (madeN 0))] := rfl
  rw [ms] at eM
  refine ⟨_, _, rfl, _, _, rfl, rfl, _, rfl, Mn, _, 0, _, rfl, rfl, SqL.of eM, atI_zero _ _, ?_⟩
  refine ⟨_, rfl, fa, fxs, rfl, .inr hF, _, rfl, L.length, .ref qa, mpsT m, by rw [lF]; rfl, by omega, tq4, fun vt H5 tt k5 => ?_⟩
  refine ⟨_, rfl, qa, qvs, rfl, .inl (k5.sqT hQ4), ?_⟩
  refine ⟨by show (V.str (tx (madeN 0)) :: vt :: (qvs ++ [])).length ≤ sizeLine; rw [List.append_nil, List.length_cons, List.length_cons]; exact Nat.le_trans (show _ ≤ 1000 by omega) (by decide), fun U nU => ?_⟩
  rw [List.append_nil]
  obtain ⟨H6, e6, k6, t6⟩ := newT nU (trs_cons tr_w (trs_cons tt (rQ4.keep k5)))
  rw [e6]
  have ls : ∀ {G : Hp}, Tr K G (.str "s") (.w sw) := by rw [show ("s" : Str) = tx sw by decide +kernel]; exact tr_w
  refine ⟨_, rfl, _, rfl, qa, qvs, rfl, .inl ((k5.trans k6).sqT hQ4), ?_⟩
  refine ⟨by show (V.str "s" :: (qvs ++ [])).length ≤ sizeLine; rw [List.append_nil, List.length_cons]; exact Nat.le_trans (show _ ≤ 1000 by omega) (by decide), fun W nW => ?_⟩
  rw [List.append_nil]
  obtain ⟨H7, e7, k7, t7⟩ := newT nW (trs_cons ls (rQ4.keep (k5.trans k6)))
  rw [e7]
  have k47 := k5.trans (k6.trans k7)
  refine ⟨_, rfl, .ref fa, .ref W, .ref U, sides [L] 0, kpsT m, kbody L.length m, rfl, mF0.keep k47, t7, fun h => h.elim, t6.keep k7, by rw [sides_one, renL_len]; omega, fun vr H8 mr k8 => ?_⟩
  have er : (madeN (sides [L] 0).length, kpsT m, kbody L.length m) :: sides [L] 0 = knowR L m := fronted_cons.symm
  rw [er] at mr
  refine ⟨_, rfl, _, rfl, vr, vr, knowR L m, (madeN L.length, kpsT m, kbody L.length m), m, _, rfl, mr, knowR_good gl e0 ln hm', knowR_wt wt (by omega) (by omega), by rw [knowR_size]; omega, by rw [knowR_len]; omega, rfl, ?_, hm', mr.tr, fun v' H' r k => q v' H' r ((k03.trans k4).trans (k47.trans (k8.trans k)))⟩
  show (kpsT m).length = _
  unfold kpsT
  rw [List.length_cons, mpsT_len]
end
end Og

namespace Og
open PySem PySem.Spec PyProof.Rows L2
/-! ### how deep what knows its own text is -/
theorem tds_le {n : Nat} : ∀ {ts : List Tree}, (∀ t ∈ ts, td t ≤ n) → tds ts ≤ n
  | [], _ => by rw [tds]; exact Nat.zero_le _
  | t :: ts, h => by
    rw [tds]
    exact Nat.max_le.mpr ⟨h t (List.mem_cons_self ..), tds_le fun u m => h u (List.mem_cons_of_mem _ m)⟩
theorem td_l {n : Nat} {ts : List Tree} (h : ∀ t ∈ ts, td t ≤ n) : td (.l ts) ≤ n + 1 := by
  rw [td]
  have := tds_le h
  omega
theorem td_w (x : List Nat) : td (.w x) = 0 := by rw [td]
theorem td_deep : ∀ (n : Nat) (t : Tree), Deep n t → td t ≤ n
  | n, .w x, _ => by rw [td_w]; exact Nat.zero_le _
  | 0, .l _, h => h.elim
  | n + 1, .l ts, h => td_l fun t m => td_deep n t (h t m)
mutual
theorem ren_td (s : List Nat → List Nat) : ∀ t, td (ren s t) = td t
  | .w x => by rw [ren_w]
  | .l [] => by rw [ren]
  | .l (.l us :: ts) => by rw [ren]
  | .l (.w n :: ts) => by
    by_cases h : n = qw
    · rw [h, ren_q]
    · rw [ren_c h, td, td, tds, tds, td_w, td_w, rens_td s ts]
theorem rens_td (s : List Nat → List Nat) : ∀ ts, tds (rens s ts) = tds ts
  | [] => by rw [rens]
  | t :: ts => by rw [rens, tds, tds, ren_td s t, rens_td s ts]
end
theorem mpsT_td (k n : Nat) : ∀ t ∈ mpsT k, td t ≤ n := fun t m => by
  obtain ⟨x, _, rfl⟩ := List.mem_map.mp m
  rw [td_w]
  exact Nat.zero_le _
theorem tof_td (n k : Nat) : td (tofT n (mpsT k)) ≤ 20 := by
  have h : tds (mpsT k) = 0 := Nat.le_zero.mp (tds_le (mpsT_td k 0))
  unfold tofT
  simp [lsT, qT, td, tds, h]
theorem fnt_td {f : Fn} {n : Nat} (hp : ∀ t ∈ f.2.1, td t = 0) (hb : td f.2.2 ≤ n) (h1 : 1 ≤ n) : td (fnt f) ≤ n + 1 := by
  refine td_l fun t m => ?_
  rcases List.mem_cons.mp m with rfl | m
  · rw [td_w]; exact Nat.zero_le _
  rcases List.mem_cons.mp m with rfl | m
  · exact Nat.le_trans (td_l (n := 0) fun t m => Nat.le_of_eq (hp t m)) h1
  rw [List.mem_singleton.mp m]
  exact hb
theorem knowR_td {L : List Fn} (k : Nat) (h : GoodL L) (hd : ∀ f ∈ L, td f.2.2 ≤ 6) : td (.l ((knowR L k).map fnt)) ≤ 40 := by
  refine td_l (n := 39) fun t m => ?_
  obtain ⟨f, mf, rfl⟩ := List.mem_map.mp m
  unfold knowR at mf
  rw [fronted_cons, sides_one] at mf
  rcases List.mem_cons.mp mf with rfl | mf
  · refine fnt_td (n := 38) (fun t m => ?_) ?_ (by decide)
    · rcases List.mem_cons.mp m with rfl | m
      · exact td_w _
      · exact Nat.le_zero.mp (mpsT_td k 0 t m)
    · refine td_l (n := 37) fun t m => ?_
      rcases List.mem_cons.mp m with rfl | m
      · rw [td_w]; exact Nat.zero_le _
      rcases List.mem_cons.mp m with rfl | m
      · exact Nat.le_trans (tof_td _ _) (by decide)
      · exact mpsT_td k 37 t m
  · obtain ⟨g, mg, rfl⟩ := List.mem_map.mp mf
    refine fnt_td (n := 38) (fun t m => ?_) ?_ (by decide)
    · obtain ⟨i, hi⟩ := List.getElem?_of_mem m
      obtain ⟨x, rfl, _⟩ := (h.ps g mg).2 i t hi
      exact td_w _
    · show td (ren _ g.2.2) ≤ 38
      rw [ren_td]
      have := hd g mg
      omega
theorem knowL_td {L : List Fn} (k : Nat) (h : GoodL L) (hd : ∀ f ∈ L, td f.2.2 ≤ 6) : td (.l ((knowL L k).map fnt)) ≤ 50 := by
  have r := knowR_td k h hd
  have e : (knowL L k).map fnt = fnt (madeN (knowR L k).length, mpsT k, fillB (madeN L.length) (.l ((knowR L k).map fnt)) k) :: (knowR L k).map fnt := rfl
  rw [e]
  refine td_l (n := 49) fun t m => ?_
  rcases List.mem_cons.mp m with rfl | m
  · refine fnt_td (n := 48) (fun t m => Nat.le_zero.mp (mpsT_td k 0 t m)) (td_l (n := 47) fun t m => ?_) (by decide)
    rcases List.mem_cons.mp m with rfl | m
    · rw [td_w]; exact Nat.zero_le _
    rcases List.mem_cons.mp m with rfl | m
    · refine Nat.le_trans (td_l (n := 40) fun t m => ?_) (by decide)
      rcases List.mem_cons.mp m with rfl | m
      · rw [td_w]; exact Nat.zero_le _
      · rw [List.mem_singleton.mp m]; exact r
    · exact mpsT_td k 47 t m
  · rw [td] at r
    have := td_mem m
    omega
theorem fnts_size {N : Nat} : ∀ {L : List Fn}, (∀ f ∈ L, GoodPs f.2.1 ∧ f.2.2.size ≤ N) → sizes (L.map fnt) ≤ L.length * (N + 15)
  | [], _ => by rw [List.map_nil, sizes_nil]; exact Nat.zero_le _
  | f :: L, h => by
    have a := fnts_size fun g m => h g (List.mem_cons_of_mem _ m)
    obtain ⟨gp, sb⟩ := h f (List.mem_cons_self ..)
    have one : ∀ {ts : List Tree}, (∀ t ∈ ts, t.size = 1) → sizes ts = ts.length := fun {ts} => by
      induction ts with
      | nil => intro _; rw [sizes_nil]; rfl
      | cons t ts ih => intro hh; rw [sizes_cons, hh t (List.mem_cons_self ..), ih fun u m => hh u (List.mem_cons_of_mem _ m), List.length_cons]; omega
    have ps := one (ts := f.2.1) fun t m => by
      obtain ⟨i, hi⟩ := List.getElem?_of_mem m
      obtain ⟨x, rfl, _⟩ := gp.2 i t hi
      exact size_w _
    have l12 := gp.1
    rw [List.map_cons, sizes_cons, fnt_size, List.length_cons, Nat.succ_mul]
    omega
end Og

namespace Og
open PySem PySem.Spec PyProof.Rows L2
section
variable {P : Program} {w : World} {K : PySem.W.Frag} {mg : Str → Option Value} {base : Heap}
def spLListed (K : PySem.W.Frag) : Sp := fun vs H Q _ => ∃ (a : Addr) (xs : List V) (ts : List Tree), vs = [.ref a] ∧ SqL K H a xs ∧ Trs K H xs ts ∧ xs.length ≤ 1000000 ∧ ∀ (v' : V) (H' : Hp), Tr K H' v' (lsT ts) → Keep [] H H' → Q v' H'
theorem has_lListed {k : Nat} (D : DefAt K mg "_law_listed" s_law_listed p_law_listed) (B : Bn mg) : Has P w K mg base (k + 1) "_law_listed" p_law_listed (spLListed K) := by
  obtain ⟨f, fd, F, hm, hb⟩ := D.ex
  refine ⟨f, fd, F.ok sc_law_listed (fun vs H Q E h => ?_) (fun cdv A outer s H vs Q E hr h => ?_), hm, F.kp, hb⟩
  · obtain ⟨_, _, _, rfl, _⟩ := h
    rfl
  obtain ⟨a, xs, ts, rfl, sl, tr, lx, q⟩ := h
  refine ⟨_, (pss_cons (ps_set (i := 1) sc_law_listed.nd rfl (.inl rfl) (pe_tup (pa_cons pe_str (pa_cons (pe_tup pa_nil) pa_nil))))
    (pss_cons (ps_for PassesOwn.never rfl (pi_range1 (by rfl) B.range (pa_cons (pe_callB call_len_seq (by rfl) B.len PySem.boot_len (pa_cons (pv 0) pa_nil)) pa_nil)) (pg_name (i := 2) sc_law_listed.nd rfl (.inl rfl))
      (pss_one (ps_set (i := 1) sc_law_listed.nd rfl (.inl rfl) (pe_tup (pa_cons pe_str (pa_cons (pe_ix ix_list (pv 0) (pe_op op_sub (pe_op op_sub (pe_callB call_len_seq (by rfl) B.len PySem.boot_len (pa_cons (pv 0) pa_nil)) pe_int) (pv 2)) (fun _ _ => rfl)) (pa_cons (pv 1) pa_nil)))))))
    (pss_one (ps_ret (pv 1))))), ?_⟩
  have lq : ∀ {G : Hp}, Tr K G (.str "quote") (.w qw) := by rw [show ("quote" : Str) = tx qw by decide +kernel]; exact tr_w
  have lj : ∀ {G : Hp}, Tr K G (.str "join") (.w joinw) := by rw [show ("join" : Str) = tx joinw by decide +kernel]; exact tr_w
  have lts := tr.length
  refine ⟨by show 0 ≤ sizeLine; decide, fun T nT => ?_⟩
  obtain ⟨H1, e1, k1, t1⟩ := newT (K := K) nT trs_nil
  rw [e1]
  refine ⟨by show 2 ≤ sizeLine; decide, fun T nT => ?_⟩
  obtain ⟨H2, e2, k2, t2⟩ := newT nT (trs_cons lq (Trs.one t1))
  rw [e2]
  have k02 := k1.trans k2
  refine ⟨_, rfl, a, xs, rfl, .inl (k02.sqL (by simp) sl), _, rfl, by omega, by omega, ?_⟩
  refine for_range (lo := 0) (n := ((xs.length : Nat) : Int).toNat) (fun i σ H' => ∃ (y2 : Option V) (v1 : V), σ = [some (.ref a), some v1, y2] ∧ Keep [] H H' ∧ Tr K H' v1 (lsT (ts.drop (ts.length - i)))) ⟨none, _, rfl, k02, by rw [Nat.sub_zero, List.drop_length]; exact t2⟩ (fun i σ H3 hi pw => ?_) (fun σ H' pw => ?_)
  · obtain ⟨y2, v1, rfl, kk, t1⟩ := pw
    rw [Int.toNat_natCast] at hi
    have il : ts.length - 1 - i < ts.length := by omega
    have hg := List.getElem?_eq_getElem il
    obtain ⟨x, hx, tx0⟩ := tr.get hg
    have dr : ts.drop (ts.length - (i + 1)) = ts[ts.length - 1 - i] :: ts.drop (ts.length - i) := by
      rw [show ts.length - (i + 1) = ts.length - 1 - i by omega, List.drop_eq_getElem_cons il, show ts.length - 1 - i + 1 = ts.length - i by omega]
    have ei : ((xs.length : Nat) : Int) - 1 - (0 + (i : Int)) = ((ts.length - 1 - i : Nat) : Int) := by omega
    refine ⟨_, rfl, _, rfl, a, xs, rfl, .inl (kk.sqL (by simp) sl), _, _, rfl, rfl, _, rfl, _, _, rfl, rfl, a, xs, _, x, rfl, rfl, kk.sqL (by simp) sl, ?_, _, rfl, ?_⟩
    · rw [ei]; exact atI_nat hx
    refine ⟨by show 3 ≤ sizeLine; decide, fun T nT => ?_⟩
    obtain ⟨H4, e4, k4, t4⟩ := newT nT (trs_cons lj (trs_cons (tx0.keep kk) (Trs.one t1)))
    rw [e4]
    refine ⟨_, _, rfl, kk.trans k4, ?_⟩
    rw [dr]
    exact t4
  · obtain ⟨y2, v1, rfl, kk, t1⟩ := pw
    rw [Int.toNat_natCast, lts, Nat.sub_self, List.drop_zero] at t1
    exact ⟨_, rfl, q _ _ t1 kk⟩
def NmLD (H : Hp) (nd : Addr) (L : List Fn) : Prop := ∃ kvs, H nd = some (.dK kvs) ∧ ∀ f ∈ L, valV kvs (.inr (tx f.1) : Key) = some (.str (tx (sig (L.map (·.1)) 0 f.1)))
def sixW : List (List Nat) := [[105, 102], [115, 97, 109, 101], [119, 111, 114, 100], [104, 101, 97, 100], [116, 97, 105, 108], [106, 111, 105, 110]]
theorem six_sp {n : List Nat} (h : n ∈ sixW) : ∃ j, spAr n = some j := by
  simp only [sixW, List.mem_cons, List.not_mem_nil, or_false] at h
  rcases h with rfl | rfl | rfl | rfl | rfl | rfl
  · exact ⟨3, by decide +kernel⟩
  · exact ⟨2, by decide +kernel⟩
  · exact ⟨1, by decide +kernel⟩
  · exact ⟨1, by decide +kernel⟩
  · exact ⟨1, by decide +kernel⟩
  · exact ⟨2, by decide +kernel⟩
theorem six_no {n : List Nat} (h : n ∉ sixW) (hq : n ≠ qw) : spAr n = none := by
  unfold spAr
  rw [Option.map_eq_none_iff, List.find?_eq_none]
  intro p m
  rw [decide_eq_true_eq]
  intro e
  simp only [specials, List.mem_cons, List.not_mem_nil, or_false] at m
  rcases m with rfl | rfl | rfl | rfl | rfl | rfl | rfl
  · exact hq e.symm
  all_goals exact h (by rw [← e]; simp [sixW])
theorem inV_strs (n : List Nat) : ∀ L : List (List Nat), inV (.str (tx n)) (L.map fun c => V.str (tx c)) = decide (n ∈ L)
  | [] => by simp [inV]
  | c :: L => by
    have ih := inV_strs n L
    unfold inV at ih ⊢
    rw [List.map_cons, List.any_cons, ih]
    have e : eqV (.str (tx c)) (.str (tx n)) = decide (tx c = tx n) := Bool.eq_iff_iff.mpr (by simp [eqV])
    rw [e]
    by_cases h : c = n
    · simp [h]
    · rw [decide_eq_false (fun z => h (tx_inj z))]
      simp [Ne.symm h, List.mem_cons, fun z : n = c => h z.symm]
theorem rens_app (s : List Nat → List Nat) : ∀ a b : List Tree, rens s (a ++ b) = rens s a ++ rens s b := fun a b => by rw [rens_map, rens_map, rens_map, List.map_append]
theorem ges_all {fs ps : List Tree} : ∀ {ts : List Tree}, GoodEs fs ps ts → ∀ t ∈ ts, GoodE fs ps t
  | [], _, t, m => absurd m (List.not_mem_nil)
  | u :: ts, h, t, m => by
    rw [GoodEs] at h
    rcases List.mem_cons.mp m with rfl | m
    · exact h.1
    · exact ges_all h.2 t m
def spLRen (K : PySem.W.Frag) (n : Nat) : Sp := fun vs H Q _ => ∃ (v : V) (nd : Addr) (t : Tree) (L : List Fn) (ps : List Tree), vs = [v, .ref nd] ∧ Tr K H v t ∧ GoodE (L.map fnt) ps t ∧ (∀ f ∈ L, spAr f.1 = none) ∧ Deep n t ∧ t.size ≤ 1000000 ∧ NmLD H nd L ∧ ∀ (v' : V) (H' : Hp), Tr K H' v' (ren (sig (L.map (·.1)) 0) t) → Keep [] H H' → Q v' H'
theorem has_lRen {k : Nat} (D : DefAt K mg "_law_renamed" s_law_renamed p_law_renamed) (B : Bn mg) : ∃ f fd, ∀ n, Callee P w K mg base CX0 (k + n + 1) "_law_renamed" f fd p_law_renamed (spLRen K n) := by
  obtain ⟨f, fd, F, hm, hb⟩ := D.ex
  have step : ∀ n sp, Callee P w K mg base CX0 (k + n) "_law_renamed" f fd p_law_renamed sp → (∀ m, n = m + 1 → ∀ vs H Q E, spLRen K m vs H Q E → sp vs H Q E) → FnOk P w K mg base CX0 (k + n + 1) f fd p_law_renamed (spLRen K n) := fun n sp c_law_renamed hsp => by
    refine F.ok sc_law_renamed (fun vs H Q E h => ?_) (fun cdv A outer s H vs Q E hr h => ?_)
    · obtain ⟨_, _, _, _, _, rfl, _⟩ := h
      rfl
    obtain ⟨v, nd, t, L, ps, rfl, tv, gd, spx, sn, sz, nm, q⟩ := h
    refine ⟨_, (pss_cons (ps_if (PW.pt (pw_or (pt_val (pe_callB call_isi (by rfl) B.isinstance (by decide +kernel) (pa_cons (pv 0) (pa_cons (pe_bltn (v := .ty "str") rfl B.str (by decide +kernel) rfl) pa_nil)))) (pw_or1 (pt_cmpR (op_eqTr hr.units) (pe_ix ix_tup (pv 0) pe_int (fun _ _ => rfl)) pe_str (nomark _))))) (pss_one (ps_ret (pv 0))) pss_nil)
    (pss_cons (ps_set (i := 2) sc_law_renamed.nd rfl (.inl rfl) (pe_callTy call_tuple_of (by rfl) B.tuple (by decide +kernel) (pa_cons (pe_lc (own := [("part", 3)]) (g := gName 3) (tt := tYes) rfl sc_law_renamed.nd (pi_tup (pe_slice sl_tupA (pv 0) (po_some pe_int) po_none)) (blkOk_by (N := n_law_renamed) (sc := defScope s_law_renamed) (by decide +kernel)) (fun _ _ _ _ _ => pg_name (i := 3) sc_law_renamed.nd rfl (Or.inl rfl)) (fun _ _ _ _ _ => pts_nil) (fun _ _ _ _ _ => (cal c_law_renamed hr rfl (pa_cons (pv 3) (pa_cons (pv 1) pa_nil))))) pa_nil)))
    (pss_cons (ps_if (pt_cmpR op_in_seq (pe_ix ix_tup (pv 0) pe_int (fun _ _ => rfl)) (pe_lst (pa_cons pe_str (pa_cons pe_str (pa_cons pe_str (pa_cons pe_str (pa_cons pe_str (pa_cons pe_str pa_nil))))))) (by rfl)) (pss_one (ps_ret (pe_op op_catA (pe_tup (pa_cons (pe_ix ix_tup (pv 0) pe_int (fun _ _ => rfl)) pa_nil)) (pv 2)))) pss_nil)
    (pss_one (ps_ret (pe_op op_catA (pe_tup (pa_cons (pe_dget (hu_of hr) (pv 1) (pe_ix ix_tup (pv 0) pe_int (fun _ _ => rfl)) (fun _ _ => rfl)) pa_nil)) (pv 2))))))), ?_⟩
    have lq : ∀ {G : Hp}, Tr K G (.str "quote") (.w qw) := by rw [show ("quote" : Str) = tx qw by decide +kernel]; exact tr_w
    obtain ⟨ty, uu, q1, q2, q3⟩ := isi_str tv
    refine ⟨_, rfl, _, _, ty, uu, _, rfl, q1, q2, q3, _, rfl, ?_⟩
    have ext := ex_of t gd
    cases ext with
    | @w c =>
      rw [ren_w] at q
      exact iteT (iteT ⟨_, rfl, q _ _ tv Keep.refl⟩)
    | @q ts =>
      rw [ren_q] at q
      obtain ⟨ax, wx, rfl, hX, trx⟩ := tv.list
      obtain ⟨x0, r0, rfl, h0, rr⟩ := trx.cons
      refine iteF ⟨_, rfl, ax, _, _, x0, rfl, rfl, hX, atI_zero _ _, _, _, h0, lq, .inl rfl, fun b hb => ⟨b, rfl, ?_⟩⟩
      rw [hb.mpr rfl]
      exact iteT ⟨_, rfl, q _ _ tv Keep.refl⟩
    | @c n0 ts hn all =>
      rw [ren_c hn] at q
      rw [GoodE] at gd
      obtain ⟨hp, hg⟩ := gd
      have hg := hg.resolve_left hn
      have sz2 := sz
      rw [size_l, sizes_cons, size_w] at sz2
      have lts0 := len_sizes ts
      obtain ⟨ax, wx, rfl, hX, trx⟩ := tv.list
      obtain ⟨x0, wr, rfl, h0, rr⟩ := trx.cons
      have ex0 := h0.word
      subst ex0
      refine iteF ⟨_, rfl, ax, _, _, _, rfl, rfl, hX, atI_zero _ _, _, _, h0, lq, .inl rfl, fun b hb => ⟨b, rfl, ?_⟩⟩
      have eb : b = false := by
        cases b with
        | false => rfl
        | true => exact absurd (Tree.w.inj (hb.mp rfl)) hn
      subst eb
      refine iteF ?_
      refine ⟨_, rfl, _, rfl, ?_⟩
      dsimp only [tNoPart]
      refine sl_tr tv fun v2 H1 tv2 k1 => ?_
      rw [show cutL (Tree.w n0 :: ts) (some (1 : Int)) none = ts from cutL_from (Tree.w n0 :: ts) (i := 1) (by rw [List.length_cons]; omega)] at tv2
      obtain ⟨ay, wy, rfl, hY, try_⟩ := tv2.list
      have ly := try_.length
      refine ⟨ay, rfl, ⟨wy, hY⟩, fun D nD => ?_⟩
      refine lc_tup (K := K) (a := ay) (xs := wy) (fun i H' => Keep [] H1 H' ∧ ∃ acc, H' D = some (.lst acc) ∧ Trs K H' acc (rens (sig (L.map (·.1)) 0) (ts.take i))) ⟨Keep.new nD, [], upd_same, by rw [List.take_zero, rens]; exact trs_nil⟩ (fun i H' _ p => p.1.sqT hY) (fun i x H' hx p => ?_) (fun H' p => ?_)
      · obtain ⟨kk, acc, eD, ra⟩ := p
        have il : i < ts.length := by rw [← ly]; exact (List.getElem?_eq_some_iff.mp hx).1
        have hu := List.getElem?_eq_getElem il
        obtain ⟨x', hx', tu⟩ := try_.get hu
        rw [hx] at hx'
        cases hx'
        have mu := List.getElem_mem il
        have zu := size_of_get hu
        generalize ts[i] = u at hu tu mu zu
        have kx := k1.trans kk
        obtain ⟨m, rfl, du⟩ : ∃ m, n = m + 1 ∧ Deep m u := by
          cases n with
          | zero => exact sn.elim
          | succ m => exact ⟨m, rfl, sn u (List.mem_cons_of_mem _ mu)⟩
        refine ⟨rfl, yes ⟨_, rfl, _, rfl, ?_⟩⟩
        have nm2 : NmLD H' nd L := by
          obtain ⟨kvs, e, al⟩ := nm
          exact ⟨kvs, kx.get e (by simp), al⟩
        have la := ra.length
        rw [rens_len, List.length_take] at la
        refine hsp m rfl _ _ _ _ ⟨x, nd, u, L, ps, rfl, tu.keep kk, ges_all hg u mu, spx, du, by omega, nm2, fun v' H3 tv' k3 => ?_⟩
        have eD3 := k3.same _ _ eD
        have kA : Keep [D] H3 (upd H3 D (.lst (acc ++ [v']))) := Keep.set eD3 (List.mem_cons_self ..)
        refine ⟨acc, eD3, Nat.lt_of_le_of_lt (show _ ≤ 1000000 by omega) (by decide), ((kk.trans k3).cons.trans kA).drop nD, _, upd_same, ?_⟩
        rw [List.take_add_one, hu, rens_app]
        refine ((ra.keep k3).keep kA).append ?_
        show Trs _ _ _ (rens _ [u])
        rw [rens, rens]
        exact Trs.one (tv'.keep kA)
      · obtain ⟨kk, acc, eD, ra⟩ := p
        rw [ly, List.take_length] at ra
        have la := ra.length
        rw [rens_len] at la
        refine ⟨D, acc, rfl, .inl ⟨SqL.of eD, fun T nT => ?_⟩⟩
        obtain ⟨H3, e3, k3, t3⟩ := newT nT ra
        rw [e3]
        have k03 := (k1.trans kk).trans k3
        refine ⟨_, rfl, ax, _, _, _, rfl, rfl, k03.sqT hX, atI_zero _ _, by show 6 ≤ sizeLine; decide, fun Ls nLs => ?_⟩
        have kL : Keep [] H3 (upd H3 Ls (.lst [.str "if", .str "same", .str "word", .str "head", .str "tail", .str "join"])) := Keep.new nLs
        have eL : (upd H3 Ls (.lst [.str "if", .str "same", .str "word", .str "head", .str "tail", .str "join"])) Ls = some (.lst [.str "if", .str "same", .str "word", .str "head", .str "tail", .str "join"]) := upd_same
        generalize upd H3 Ls (.lst [.str "if", .str "same", .str "word", .str "head", .str "tail", .str "join"]) = H4 at kL eL
        have es : [V.str "if", .str "same", .str "word", .str "head", .str "tail", .str "join"] = sixW.map (fun c => V.str (tx c)) := by decide +kernel
        refine ⟨Ls, _, rfl, .inl (SqL.of eL), rfl, rfl, ?_⟩
        rw [es]
        simp only [inV_strs]
        have k04 := k03.trans kL
        have t4 := t3.keep kL
        rw [size_l, sizes_cons, size_w] at sz
        have lts := len_sizes ts
        refine ⟨_, rfl, ?_⟩
        by_cases six : n0 ∈ sixW
        · rw [decide_eq_true six]
          obtain ⟨j, hj⟩ := six_sp six
          have out : sig (L.map (·.1)) 0 n0 = n0 := sig_out fun m => by
            obtain ⟨f, mf, e⟩ := List.mem_map.mp m
            have := spx f mf
            rw [e, hj] at this
            cases this
          rw [out] at q
          refine iteT ⟨_, rfl, ax, _, _, _, rfl, rfl, k04.sqT hX, atI_zero _ _, by show 1 ≤ sizeLine; decide, fun U nU => ?_⟩
          obtain ⟨H5, e5, k5, t5⟩ := newT (K := K) nU (Trs.one (tr_w (x := n0)))
          rw [e5]
          refine ⟨_, rfl, cat_tr t5 (t4.keep k5) (Nat.le_trans (show _ ≤ 1000001 by rw [List.length_singleton, rens_len]; omega) (by decide)) fun v7 H7 tv7 k7 => ?_⟩
          exact q _ _ tv7 ((k04.trans k5).trans k7)
        · rw [decide_eq_false six]
          have sp0 := six_no six hn
          unfold parts at hp
          rw [sp0] at hp
          obtain ⟨f0, mf, e1, e2⟩ := arity_some hp
          obtain ⟨kvs, en, al⟩ := nm
          have en4 := k04.get en (by simp)
          have dg : DGet H4 nd (.str (tx n0)) (some (.str (tx (sig (L.map (·.1)) 0 n0)))) := by
            have := DGet.k (H := H4) (k := (.inr (tx n0) : Key)) en4
            have a2 := al f0 mf
            rw [e1] at a2
            rw [a2] at this
            exact this
          refine iteF ⟨_, rfl, _, rfl, ax, _, _, _, rfl, rfl, k04.sqT hX, atI_zero _ _, nd, _, rfl, dg, by show 1 ≤ sizeLine; decide, fun U nU => ?_⟩
          obtain ⟨H5, e5, k5, t5⟩ := newT (K := K) nU (Trs.one (tr_w (x := sig (L.map (·.1)) 0 n0)))
          rw [e5]
          refine ⟨_, rfl, cat_tr t5 (t4.keep k5) (Nat.le_trans (show _ ≤ 1000001 by rw [List.length_singleton, rens_len]; omega) (by decide)) fun v7 H7 tv7 k7 => ?_⟩
          exact q _ _ tv7 ((k04.trans k5).trans k7)
  have all : ∀ n, FnOk P w K mg base CX0 (k + n + 1) f fd p_law_renamed (spLRen K n) := fun n => by
    induction n with
    | zero => exact step 0 (fun _ _ _ _ => False) ⟨⟨fun _ _ _ _ h => h.elim, fun _ _ _ _ _ _ _ _ _ _ _ _ _ h => h.elim⟩, hm, F.kp, hb⟩ fun m e => by cases e
    | succ m ih => exact step (m + 1) (spLRen K m) ⟨ih, hm, F.kp, hb⟩ fun m' e vs H Q E q => by cases e; exact q
  exact ⟨f, fd, fun n => ⟨all n, hm, F.kp, hb⟩⟩
end
end Og

namespace Og
open PySem PySem.Spec PyProof.Rows L2
section
variable {P : Program} {w : World} {K : PySem.W.Frag} {mg : Str → Option Value} {base : Heap}
theorem cat_num (c n : Nat) : tx [c] ++ Str.ofString (toString ((n : Nat) : Int)) = tx (c :: digs n) := by
  rw [str_digs, tx_app]
  rfl
theorem cat_numN (n : Nat) : tx [102] ++ Str.ofString (toString ((n : Nat) : Int)) = tx (madeN n) := cat_num 102 n
theorem cat_ok {c n : Nat} (h : n < 100000000) : (tx [c]).length + (Str.ofString (toString ((n : Nat) : Int))).length ≤ sizeLine := by
  rw [str_digs, tx_len, tx_len]
  have := digs_len (k := 8) (by decide) h
  exact Nat.le_trans (show _ ≤ 100 by show 1 + _ ≤ 100; omega) (by decide)
def spLKnown (K : PySem.W.Frag) (N : Nat) : Sp := fun vs H Q _ => ∃ (v : V) (L : List Fn) (k : Nat), vs = [v, .int k] ∧ MpV False K H v L ∧ GoodL L ∧ L.length ≤ 100 ∧ (∀ f ∈ L, f.2.2.size ≤ 1000000 ∧ Deep N f.2.2) ∧ k ≤ 100 ∧ ∀ (v' : V) (H' : Hp), Tr K H' v' (.l ((knowL L k).map fnt)) → Keep [] H H' → Q v' H'
theorem has_lKnown {k N : Nat} (D : DefAt K mg "_law_known" s_law_known p_law_known) (B : Bn mg) (c1 : Has P w K mg base k "_law_renamed" p_law_renamed (spLRen K N)) (c2 : Has P w K mg base k "_law_listed" p_law_listed (spLListed K)) : Has P w K mg base (k + 1) "_law_known" p_law_known (spLKnown K N) := by
  obtain ⟨f, fd, F, hm, hb⟩ := D.ex
  obtain ⟨_, _, c_law_renamed⟩ := c1
  obtain ⟨_, _, c_law_listed⟩ := c2
  refine ⟨f, fd, F.ok sc_law_known (fun vs H Q E h => ?_) (fun cdv A outer s H vs Q E hr h => ?_), hm, F.kp, hb⟩
  · obtain ⟨_, _, _, rfl, _⟩ := h
    rfl
  obtain ⟨v, L, m, rfl, mv, gl, lL, szs, hm', q⟩ := h
  refine ⟨_, (pss_cons (ps_set (i := 2) sc_law_known.nd rfl (.inl rfl) pe_dnewK)
    (pss_cons (ps_for PassesOwn.never rfl (pi_range1 (by rfl) B.range (pa_cons (pe_callB call_len_seq (by rfl) B.len PySem.boot_len (pa_cons (pv 0) pa_nil)) pa_nil)) (pg_name (i := 3) sc_law_known.nd rfl (.inl rfl))
      (pss_one (ps_dput (hu_of hr) (pv 2) (pe_ix ix_tup (pe_ix ix_tup (pv 0) (pv 3) (fun _ _ => rfl)) pe_int (fun _ _ => rfl)) (pe_op op_add_str pe_str (pe_callTy call_str_int (by rfl) B.str (by decide +kernel) (pa_cons (pv 3) pa_nil))) rfl)))
    (pss_cons (ps_set (i := 4) sc_law_known.nd rfl (.inl rfl) (pe_lst pa_nil))
    (pss_cons (ps_for PassesOwn.never rfl (pi_tup (pv 0)) (pg_tup (by rfl) (pgs_cons (pg_name (i := 5) sc_law_known.nd rfl (.inl rfl)) (pgs_cons (pg_name (i := 6) sc_law_known.nd rfl (.inl rfl)) (pgs_cons (pg_name (i := 7) sc_law_known.nd rfl (.inl rfl)) pgs_nil))))
      (pss_one (ps_expr (pe_bm PySem.F.plainAttrs_list PySem.F.slot_list_append PySem.F.type_list_append mt_append (pv 4) (pa_cons (pe_tup (pa_cons (pe_dget (hu_of hr) (pv 2) (pv 5) (fun _ _ => rfl)) (pa_cons (pv 6) (pa_cons (cal c_law_renamed hr rfl (pa_cons (pv 7) (pa_cons (pv 2) pa_nil))) pa_nil)))) pa_nil)))))
    (pss_cons (ps_set (i := 8) sc_law_known.nd rfl (.inl rfl) (pe_callTy call_tuple_of (by rfl) B.tuple (by decide +kernel) (pa_cons (pe_lc (own := [("k", 3)]) (g := gName 3) (tt := tYes) rfl sc_law_known.nd (pi_range1 (by rfl) B.range (pa_cons (pv 1) pa_nil)) (blkOk_by (N := n_law_known) (sc := defScope s_law_known) (by decide +kernel)) (fun _ _ _ _ _ => pg_name (i := 3) sc_law_known.nd rfl (Or.inl rfl)) (fun _ _ _ _ _ => pts_nil) (fun _ _ _ _ _ => (pe_op op_add_str pe_str (pe_callTy call_str_int (by rfl) B.str (by decide +kernel) (pa_cons (pe_op op_add (pv 3) pe_int) pa_nil))))) pa_nil)))
    (pss_cons (ps_set (i := 9) sc_law_known.nd rfl (.inl rfl) (pe_op op_add_str pe_str (pe_callTy call_str_int (by rfl) B.str (by decide +kernel) (pa_cons (pe_callB call_len_seq (by rfl) B.len PySem.boot_len (pa_cons (pv 0) pa_nil)) pa_nil))))
    (pss_cons (ps_set (i := 10) sc_law_known.nd rfl (.inl rfl) (pe_op op_add_str pe_str (pe_callTy call_str_int (by rfl) B.str (by decide +kernel) (pa_cons (pe_op op_add (pe_callB call_len_seq (by rfl) B.len PySem.boot_len (pa_cons (pv 0) pa_nil)) pe_int) pa_nil))))
    (pss_cons (ps_set (i := 7) sc_law_known.nd rfl (.inl rfl) (pe_tup (pa_cons pe_str (pa_cons (pe_tup (pa_cons pe_str (pa_cons (pv 9) pa_nil))) (pa_cons (pe_tup (pa_cons pe_str (pa_cons (cal c_law_listed hr rfl (pa_cons (pe_lst (pa_cons (pe_tup (pa_cons pe_str (pa_cons pe_str pa_nil))) (pa_cons pe_str pa_nil))) pa_nil)) (pa_cons (pe_tup (pa_cons pe_str (pa_cons (pv 8) pa_nil))) pa_nil)))) pa_nil)))))
    (pss_cons (ps_set (i := 11) sc_law_known.nd rfl (.inl rfl) (pe_tup (pa_cons pe_str (pa_cons (cal c_law_listed hr rfl (pa_cons (pe_lst (pa_cons (pe_tup (pa_cons pe_str (pa_cons (pv 10) pa_nil))) (pa_cons (pe_tup (pa_cons pe_str (pa_cons (pv 8) pa_nil))) (pa_cons (pv 7) pa_nil)))) pa_nil)) (pa_cons pe_str pa_nil)))))
    (pss_cons (ps_set (i := 12) sc_law_known.nd rfl (.inl rfl) (pe_op op_catA (pe_tup (pa_cons (pe_tup (pa_cons (pv 9) (pa_cons (pe_op op_catA (pe_tup (pa_cons pe_str pa_nil)) (pv 8)) (pa_cons (pe_op op_catA (pe_tup (pa_cons pe_str (pa_cons (pv 11) pa_nil))) (pv 8)) pa_nil)))) pa_nil)) (pe_callTy call_tuple_of (by rfl) B.tuple (by decide +kernel) (pa_cons (pv 4) pa_nil))))
    (pss_one (ps_ret (pe_op op_catA (pe_tup (pa_cons (pe_tup (pa_cons (pv 10) (pa_cons (pv 8) (pa_cons (pe_op op_catA (pe_tup (pa_cons (pv 9) (pa_cons (pe_tup (pa_cons pe_str (pa_cons (pv 12) pa_nil))) pa_nil))) (pv 8)) pa_nil)))) pa_nil)) (pv 12)))))))))))))), ?_⟩
  rw [lit_f1, lit_x1]
  obtain ⟨pa, pvs, rfl, hS, pfs⟩ := mv
  have lp := mp_len pfs
  have un := gl.nd
  refine fun nd nnd => ?_
  have k0 : Keep [] H (upd H nd (.dK [])) := Keep.new nnd
  refine ⟨_, rfl, pa, pvs, rfl, .inr (k0.sqT hS), _, rfl, by omega, by omega, ?_⟩
  refine for_range (lo := 0) (n := ((pvs.length : Nat) : Int).toNat) (fun i σ H' => ∃ (y3 : Option V) (kvs : List (Key × V)), σ = [some (.ref pa), some (.int m), some (.ref nd), y3, none, none, none, none, none, none, none, none, none] ∧ Keep [] H H' ∧ H' nd = some (.dK kvs) ∧ kvs.length ≤ i ∧ ∀ x : List Nat, valV kvs (.inr (tx x)) = if x ∈ (L.map (·.1)).take i then some (.str (tx (madeN ((L.map (·.1)).idxOf x)))) else none) ⟨none, [], rfl, k0, upd_same, Nat.le_refl _, fun x => by rw [List.take_zero, if_neg (List.not_mem_nil)]; rfl⟩ (fun i σ H' hi p => ?_) (fun σ H7 p => ?_)
  · obtain ⟨y3, kvs, rfl, kk, eD, lk, hk⟩ := p
    rw [Int.toNat_natCast] at hi
    have hx := List.getElem?_eq_getElem hi
    obtain ⟨fn, hf, hv⟩ := mp_at pfs hx
    generalize pvs[i] = x at hx hv
    obtain ⟨b, vp, vb, rfl, hSf, tp, fz, tb⟩ := hv.keep kk
    have ei : (0 : Int) + (i : Int) = ((i : Nat) : Int) := by omega
    rw [ei]
    have hn : (L.map (·.1))[i]? = some fn.1 := by rw [List.getElem?_map, hf]; rfl
    have iln : i < (L.map (·.1)).length := (List.getElem?_eq_some_iff.mp hn).1
    have hn2 : (L.map (·.1))[i] = fn.1 := (List.getElem?_eq_some_iff.mp hn).2
    refine ⟨_, rfl, _, rfl, fmt_ok (by omega), _, _, rfl, rfl, cat_ok (by omega), ?_⟩
    rw [cat_num]
    refine ⟨_, rfl, _, rfl, _, rfl, pa, pvs, _, .ref b, rfl, rfl, kk.sqT hS, atI_nat hx, b, _, 0, _, rfl, rfl, hSf, atI_zero _ _, nd, _, rfl, DPut.k (k := (.inr (tx fn.1) : Key)) eD (Nat.lt_of_lt_of_le (show kvs.length < 3000000 by omega) (by decide)), ?_⟩
    refine ⟨_, _, rfl, ?_, upd_same, ?_, fun x => ?_⟩
    · exact Kp.keep (((Kp.of0 (S := [nd]) kk).trans (Kp.set (S := [nd]) eD mo_dK mo_dK (List.mem_cons_self ..))).drop nnd)
    · exact Nat.le_trans (length_putK _ _ _) (by omega)
    · rw [valV_put, List.take_add_one, hn]
      by_cases c : x = fn.1
      · rw [if_pos (by rw [c]), if_pos (List.mem_append_right _ (by rw [c]; exact List.mem_singleton_self _)), c]
        have : (L.map (·.1)).idxOf fn.1 = i := by
          have := un.idxOf_getElem i iln
          rw [hn2] at this
          exact this
        rw [this]
        rfl
      · rw [if_neg (fun z => c (inr_injM z)), hk x]
        by_cases d : x ∈ (L.map (·.1)).take i
        · rw [if_pos d, if_pos (List.mem_append_left _ d)]
        · rw [if_neg d, if_neg (fun m => by
            rcases List.mem_append.mp m with m | m
            · exact d m
            · exact c (List.mem_singleton.mp m))]
  obtain ⟨y3, kvs, rfl, k7, eD7, lk7, hk7⟩ := p
  have nmd : ∀ f ∈ L, valV kvs (.inr (tx f.1) : Key) = some (.str (tx (sig (L.map (·.1)) 0 f.1))) := fun f mf => by
    have d : f.1 ∈ L.map (·.1) := List.mem_map.mpr ⟨f, mf, rfl⟩
    have := hk7 f.1
    rw [Int.toNat_natCast, List.take_of_length_le (by rw [List.length_map, lp]; exact Nat.le_refl _), if_pos d] at this
    rw [this, sig_in d, Nat.zero_add]
  refine ⟨by show (0 : Nat) ≤ sizeLine; decide, fun Fd nF => ?_⟩
  have eF8 : (upd H7 Fd (.lst [])) Fd = some (.lst []) := upd_same
  refine ⟨_, rfl, pa, rfl, ⟨pvs, (k7.trans (Keep.new nF)).sqT hS⟩, ?_⟩
  refine for_tup (K := K) (a := pa) (xs := pvs) (fun i σ H' => ∃ (y5 y6 y7 : Option V) (ds : List V), σ = [some (.ref pa), some (.int m), some (.ref nd), y3, some (.ref Fd), y5, y6, y7, none, none, none, none, none] ∧ Keep [] H7 H' ∧ H' Fd = some (.lst ds) ∧ Trs K H' ds (((renL L 0).take i).map fnt))
    ⟨none, none, none, [], rfl, Keep.new nF, eF8, by rw [List.take_zero, List.map_nil]; exact trs_nil⟩ (fun i σ H' _ p => ?_) (fun i x σ H' hx p => ?_) (fun σ H8 p => ?_)
  · obtain ⟨_, _, _, _, _, kk, _, _⟩ := p
    exact (k7.trans kk).sqT hS
  · obtain ⟨y5, y6, y7, ds, rfl, kk, eF, pd⟩ := p
    have k0 := k7.trans kk
    obtain ⟨fn, hf, hv⟩ := mp_at pfs hx
    have il : i < pvs.length := (List.getElem?_eq_some_iff.mp hx).1
    have mf := List.mem_of_getElem? hf
    obtain ⟨b, vp, vb, rfl, hSf, tp, fz, tb⟩ := hv.keep k0
    have eN := kk.get eD7 (by simp)
    refine ⟨b, _, rfl, hSf, rfl, ?_⟩
    have dg : DGet H' nd (.str (tx fn.1)) (some (.str (tx (sig (L.map (·.1)) 0 fn.1)))) := by
      have := DGet.k (H := H') (k := (.inr (tx fn.1) : Key)) eN
      rw [nmd fn mf] at this
      exact this
    refine ⟨_, _, rfl, _, _, rfl, _, _, rfl, rfl, _, rfl, .inl ⟨rfl, _, SqL.of eF⟩, ?_⟩
    refine ⟨_, rfl, _, rfl, nd, _, rfl, dg, _, rfl, _, rfl, _, rfl, ?_⟩
    have szf := szs fn mf
    refine ⟨vb, nd, fn.2.2, L, fn.2.1, rfl, tb, gl.ex fn mf _ gl.calls, fun g mg => (gl.nm g mg).1, szf.2, szf.1, ⟨kvs, eN, nmd⟩, fun v' H1 tv' k1 => ?_⟩
    refine ⟨by show 3 ≤ sizeLine; decide, fun T nT => ?_⟩
    obtain ⟨H2, e2, kT, tT⟩ := newT nT (trs_cons (tr_w (x := sig (L.map (·.1)) 0 fn.1)) (trs_cons (tp.keep k1) (Trs.one tv')))
    rw [e2]
    have eF2 := (k1.trans kT).same _ _ eF
    have lds := pd.length
    rw [List.length_map, List.length_take, renL_len] at lds
    have kA : Keep [Fd] H2 (upd H2 Fd (.lst (ds ++ [.ref T]))) := Keep.set eF2 (List.mem_cons_self ..)
    have kall : Keep [Fd] H' (upd H2 Fd (.lst (ds ++ [.ref T]))) := (k1.trans kT).cons.trans kA
    refine ⟨Fd, _, _, rfl, rfl, eF2, Nat.lt_of_le_of_lt (show _ ≤ 1000000 by omega) (by decide), ?_⟩
    refine ⟨_, _, _, _, rfl, (kk.cons.trans kall).drop nF, upd_same, ?_⟩
    have hr1 : (renL L 0)[i]? = some (renF (L.map (·.1)) 0 fn) := by
      unfold renL
      rw [List.getElem?_map, hf]
      rfl
    rw [List.take_add_one, hr1, List.map_append]
    exact (pd.keep kall).append (Trs.one (tT.keep kA))
  obtain ⟨y5, y6, y7, ds, rfl, k78, eF, pd⟩ := p
  rw [List.take_of_length_le (by rw [renL_len, lp]; exact Nat.le_refl _)] at pd
  have k08 := k7.trans k78
  have lq : ∀ {G : Hp}, Tr K G (.str "quote") (.w qw) := by rw [show ("quote" : Str) = tx qw by decide +kernel]; exact tr_w
  have lj : ∀ {G : Hp}, Tr K G (.str "join") (.w joinw) := by rw [show ("join" : Str) = tx joinw by decide +kernel]; exact tr_w
  have ls : ∀ {G : Hp}, Tr K G (.str "s") (.w sw) := by rw [show ("s" : Str) = tx sw by decide +kernel]; exact tr_w
  have lf : ∀ {G : Hp}, Tr K G (.str "f0") (.w (madeN 0)) := by rw [show ("f0" : Str) = tx (madeN 0) by decide +kernel]; exact tr_w
  -- inputs
  refine ⟨_, rfl, _, rfl, by omega, by omega, fun Li nLi => ?_⟩
  refine lc_range (lo := 0) (n := ((m : Nat) : Int).toNat) (fun i H' => Keep [] H8 H' ∧ H' Li = some (.lst (((mps m).take i).map fun x => V.str (tx x)))) ⟨Keep.new nLi, upd_same⟩ (fun i H1 hi p => ?_) (fun H9 p => ?_)
  · obtain ⟨k1, eL⟩ := p
    rw [Int.toNat_natCast] at hi
    refine ⟨rfl, yes ?_⟩
    refine ⟨_, rfl, _, _, rfl, rfl, ((i + 1 : Nat) : Int), by show [V.int ((0 : Int) + (i : Int) + 1)] = _; rw [show (0 : Int) + (i : Int) + 1 = ((i + 1 : Nat) : Int) by omega], fmt_ok (by omega), _, _, rfl, rfl, cat_ok (by omega), ?_⟩
    rw [cat_num]
    have kL : Keep [Li] H1 (upd H1 Li (.lst (((mps m).take i).map (fun x => V.str (tx x)) ++ [.str (tx (madeP (i + 1)))]))) := Keep.set eL (List.mem_cons_self ..)
    refine ⟨_, eL, Nat.lt_of_le_of_lt (show _ ≤ 1000 by rw [List.length_map, List.length_take, mps_len]; omega) (by decide), (k1.cons.trans kL).drop nLi, ?_⟩
    show upd _ _ _ _ = _
    rw [upd_same, List.take_add_one, mps_get hi, List.map_append]
    rfl
  obtain ⟨k89, eLi⟩ := p
  rw [Int.toNat_natCast, List.take_of_length_le (by rw [mps_len]; exact Nat.le_refl _)] at eLi
  have rin : ∀ G : Hp, ∀ xs : List (List Nat), Trs K G (xs.map fun x => V.str (tx x)) (xs.map Tree.w) := fun G xs => by
    induction xs with
    | nil => exact trs_nil
    | cons x xs ih => exact trs_cons tr_w ih
  refine ⟨Li, _, rfl, .inl ⟨SqL.of eLi, fun Ti nTi => ?_⟩⟩
  obtain ⟨HA, eA, kA, tin⟩ := newT (K := K) (ts := mpsT m) nTi (rin H9 (mps m))
  rw [eA]
  have k0A := (k08.trans k89).trans kA
  have pdA := pd.keep (k89.trans kA)
  have eFA := (k89.trans kA).get eF (by simp)
  have hSA := k0A.sqT hS
  -- main, front
  refine ⟨_, rfl, pa, pvs, rfl, .inr hSA, ((L.length : Nat) : Int), congrArg (fun n : Nat => [V.int (n : Int)]) lp, fmt_ok (by omega), _, _, rfl, rfl, cat_ok (by omega), ?_⟩
  rw [cat_numN]
  refine ⟨_, rfl, pa, pvs, rfl, .inr hSA, _, _, rfl, rfl, ((L.length + 1 : Nat) : Int), congrArg (fun n : Nat => [V.int ((n : Int) + 1)]) lp, fmt_ok (by omega), _, _, rfl, rfl, cat_ok (by omega), ?_⟩
  rw [cat_numN]
  -- body
  refine ⟨_, rfl, by show 2 ≤ sizeLine; decide, fun T nT => ?_⟩
  obtain ⟨H1, e1, k1, t1⟩ := newT nT (trs_cons lq (Trs.one (tr_w (x := madeN L.length))))
  rw [e1]
  refine ⟨by show 2 ≤ sizeLine; decide, fun T nT => ?_⟩
  obtain ⟨H2, e2, k2, t2⟩ := newT (K := K) nT (trs_cons lq (Trs.one lq))
  rw [e2]
  refine ⟨by show 2 ≤ sizeLine; decide, fun Ld nL => ?_⟩
  obtain ⟨H3, e3, k3, s3, r3, _⟩ := newL nL (trs_cons t2 (Trs.one ls))
  rw [e3]
  refine ⟨Ld, _, _, rfl, s3, r3, by show 2 ≤ 1000000; decide, fun v4 H4 t4 k4 => ?_⟩
  have k14 := k2.trans (k3.trans k4)
  refine ⟨_, rfl, by show 2 ≤ sizeLine; decide, fun T nT => ?_⟩
  obtain ⟨H5, e5, k5, t5⟩ := newT nT (trs_cons lq (Trs.one (tin.keep (k1.trans k14))))
  rw [e5]
  refine ⟨by show 3 ≤ sizeLine; decide, fun T nT => ?_⟩
  obtain ⟨H6, e6, k6, t6⟩ := newT nT (trs_cons lj (trs_cons (t4.keep k5) (Trs.one t5)))
  rw [e6]
  have k16 := k14.trans (k5.trans k6)
  refine ⟨by show 3 ≤ sizeLine; decide, fun T nT => ?_⟩
  obtain ⟨H7', e7, k7', t7⟩ := newT nT (trs_cons lj (trs_cons (t1.keep k16) (Trs.one t6)))
  rw [e7]
  have kA7 := k1.trans (k16.trans k7')
  have tin7 := tin.keep kA7
  have pd7 := pdA.keep kA7
  have eF7 := kA7.get eFA (by simp)
  have k07 := k0A.trans kA7
  -- tree
  refine ⟨_, rfl, by show 2 ≤ sizeLine; decide, fun T nT => ?_⟩
  obtain ⟨G1, g1, l1, u1⟩ := newT nT (trs_cons lq (Trs.one (tr_w (x := madeN (L.length + 1)))))
  rw [g1]
  refine ⟨_, rfl, by show 2 ≤ sizeLine; decide, fun T nT => ?_⟩
  obtain ⟨G2, g2, l2, u2⟩ := newT nT (trs_cons lq (Trs.one (tin7.keep l1)))
  rw [g2]
  refine ⟨_, rfl, by show 3 ≤ sizeLine; decide, fun Ld nL => ?_⟩
  obtain ⟨G3, g3, l3, s3, r3, _⟩ := newL nL (trs_cons (u1.keep l2) (trs_cons u2 (Trs.one (t7.keep (l1.trans l2)))))
  rw [g3]
  refine ⟨Ld, _, _, rfl, s3, r3, by show 3 ≤ 1000000; decide, fun v4 G4 u4 l4 => ?_⟩
  refine ⟨by show 3 ≤ sizeLine; decide, fun T nT => ?_⟩
  obtain ⟨G5, g5, l5, u5⟩ := newT nT (trs_cons lj (trs_cons u4 (Trs.one ls)))
  rw [g5]
  have l15 := l1.trans (l2.trans (l3.trans (l4.trans l5)))
  have tinG := tin7.keep l15
  have pdG := pd7.keep l15
  have eFG := l15.get eF7 (by simp)
  have k0G := k07.trans l15
  -- knowing
  refine ⟨_, rfl, by show 1 ≤ sizeLine; decide, fun T nT => ?_⟩
  obtain ⟨H1, e1, k1, t1⟩ := newT (K := K) nT (Trs.one ls)
  rw [e1]
  have lm : (mpsT m).length = m := mpsT_len m
  refine ⟨_, rfl, cat_tr t1 (tinG.keep k1) (Nat.le_trans (show _ ≤ 1000 by rw [lm, List.length_singleton]; omega) (by decide)) fun v2 H2 t2 k2 => ?_⟩
  refine ⟨_, rfl, by show 2 ≤ sizeLine; decide, fun T nT => ?_⟩
  obtain ⟨H3, e3, k3, t3⟩ := newT nT (trs_cons lf (Trs.one (u5.keep (k1.trans k2))))
  rw [e3]
  have k13 := k1.trans (k2.trans k3)
  refine ⟨_, rfl, cat_tr t3 (tinG.keep k13) (Nat.le_trans (show _ ≤ 1000 by rw [lm, List.length_cons, List.length_singleton]; omega) (by decide)) fun v4 H4 t4 k4 => ?_⟩
  refine ⟨by show 3 ≤ sizeLine; decide, fun T nT => ?_⟩
  obtain ⟨H5, e5, k5, t5⟩ := newT nT (trs_cons (tr_w (x := madeN L.length)) (trs_cons (t2.keep (k3.trans k4)) (Trs.one t4)))
  rw [e5]
  refine ⟨by show 1 ≤ sizeLine; decide, fun T nT => ?_⟩
  obtain ⟨H6, e6, k6, t6⟩ := newT nT (Trs.one t5)
  rw [e6]
  have k16 := k13.trans (k4.trans (k5.trans k6))
  have eF6 := k16.get eFG (by simp)
  have lds := pd.length
  rw [List.length_map, renL_len] at lds
  refine ⟨_, rfl, Fd, ds, rfl, .inl ⟨SqL.of eF6, fun T nT => ?_⟩⟩
  obtain ⟨H7', e7, k7', t7⟩ := newT nT (pdG.keep k16)
  rw [e7]
  refine cat_tr (t6.keep k7') t7 (Nat.le_trans (show _ ≤ 1000 by rw [List.length_singleton, List.length_map, renL_len]; omega) (by decide)) fun v8 H8' t8 k8' => ?_
  have k18 := k16.trans (k7'.trans k8')
  have tin8 := tinG.keep k18
  have er : [Tree.l [Tree.w (madeN L.length), Tree.l ([Tree.w sw] ++ mpsT m), Tree.l ([Tree.w (madeN 0), tofT L.length (mpsT m)] ++ mpsT m)]] ++ (renL L 0).map fnt = (knowR L m).map fnt := by
    unfold knowR
    rw [fronted_cons, sides_one, List.map_cons, renL_len]
    rfl
  have t8 : Tr K H8' v8 (.l ((knowR L m).map fnt)) := by
    rw [← er]
    exact t8
  -- what is returned
  refine ⟨_, rfl, _, rfl, _, rfl, _, rfl, by show 2 ≤ sizeLine; decide, fun T nT => ?_⟩
  obtain ⟨G1, g1, l1, u1⟩ := newT nT (trs_cons lq (Trs.one t8))
  rw [g1]
  refine ⟨by show 2 ≤ sizeLine; decide, fun T nT => ?_⟩
  obtain ⟨G2, g2, l2, u2⟩ := newT nT (trs_cons (tr_w (x := madeN L.length)) (Trs.one u1))
  rw [g2]
  refine ⟨_, rfl, cat_tr u2 (tin8.keep (l1.trans l2)) (Nat.le_trans (show _ ≤ 1000 by rw [lm, List.length_cons, List.length_singleton]; omega) (by decide)) fun v3 G3 u3 l3 => ?_⟩
  have l13 := l1.trans (l2.trans l3)
  refine ⟨by show 3 ≤ sizeLine; decide, fun T nT => ?_⟩
  obtain ⟨G4, g4, l4, u4⟩ := newT nT (trs_cons (tr_w (x := madeN (L.length + 1))) (trs_cons (tin8.keep l13) (Trs.one u3)))
  rw [g4]
  refine ⟨by show 1 ≤ sizeLine; decide, fun T nT => ?_⟩
  obtain ⟨G5, g5, l5, u5⟩ := newT nT (Trs.one u4)
  rw [g5]
  have l15 := l13.trans (l4.trans l5)
  refine ⟨_, rfl, cat_tr u5 (t8.keep l15) (Nat.le_trans (show _ ≤ 2000 by rw [List.length_singleton, List.length_map, knowR_len]; omega) (by decide)) fun v6 G6 u6 l6 => ?_⟩
  refine q _ _ ?_ (k0G.trans (k18.trans (l15.trans l6)))
  have ek : (knowL L m).map fnt = [Tree.l [Tree.w (madeN (L.length + 1)), Tree.l (mpsT m), Tree.l ([Tree.w (madeN L.length), Tree.l [Tree.w qw, .l ((knowR L m).map fnt)]] ++ mpsT m)]] ++ (knowR L m).map fnt := by
    unfold knowL fillL
    rw [List.map_cons, knowR_len]
    rfl
  rw [ek]
  exact u6
end
end Og

namespace Og
open PySem PySem.Spec PyProof.Rows L2
section
variable {P : Program} {w : World} {K : PySem.W.Frag} {mg : Str → Option Value} {base : Heap}
def nms6 : List (List Nat) := [[109, 97, 105, 110], [113], [102, 48], [122, 122], [102], [98, 57]]
def pws5 : List (List Nat) := [[113], [120, 49], [115], [122, 122], [101]]
theorem cutV_to (xs : List V) {j : Nat} (hj : j ≤ xs.length) : cutV xs none (some (j : Int)) = xs.take j := cutL_to xs hj
theorem cutV_from (xs : List V) {j : Nat} (hj : j ≤ xs.length) : cutV xs (some (j : Int)) none = xs.drop j := cutL_from xs hj
/-- a call as it stands in the list -/
def CR (H : Hp) (v : V) (c : List Nat × Nat) : Prop := ∃ a, v = .ref a ∧ H a = some (.tup [.str (tx c.1), .int (c.2 : Nat)])
theorem CR.keep {S : List Addr} {H H1 : Hp} {v : V} {c : List Nat × Nat} (h : CR H v c) (k : Keep S H H1) : CR H1 v c := by
  obtain ⟨a, e, h⟩ := h
  exact ⟨a, e, k.tup h⟩
theorem nm6 {x : List Nat} (h : x ∈ nms6) : IsWord x ∧ ∀ n, 1 ≤ n → GoodName n x := by
  simp only [nms6, List.mem_cons, List.not_mem_nil, or_false] at h
  rcases h with rfl | rfl | rfl | rfl | rfl | rfl
  · exact ⟨isWord_of (by decide), fun n _ => goodName_plain (by decide +kernel) (by decide)⟩
  · exact ⟨isWord_of (by decide), fun n _ => goodName_plain (by decide +kernel) (by decide)⟩
  · exact ⟨isWord_of (by decide), fun n hn => goodName_made (m := n) (n := 0) (by omega)⟩
  · exact ⟨isWord_of (by decide), fun n _ => goodName_plain (by decide +kernel) (by decide)⟩
  · exact ⟨isWord_of (by decide), fun n _ => ⟨by decide +kernel, fun ds e ne => absurd (List.cons.inj e).2.symm ne⟩⟩
  · exact ⟨isWord_of (by decide), fun n _ => goodName_plain (by decide +kernel) (by decide)⟩
theorem trs_wsM {K : PySem.W.Frag} {H : Hp} : ∀ {L : List (List Nat)}, Trs K H (L.map fun c => V.str (tx c)) (L.map Tree.w)
  | [] => trs_nil
  | x :: L => trs_cons tr_w (trs_wsM (L := L))
def BO (N : Nat) (L : List Fn) : Prop := GoodL L ∧ WT (.l (L.map fnt)) ∧ L.length ≤ 6 ∧ (∀ f ∈ L, f.2.2.size ≤ N ∧ Deep 6 f.2.2) ∧ ∃ (f0 : Fn) (k : Nat), L[0]? = some f0 ∧ f0.2.1.length = k + 1 ∧ k ≤ 4
def spLAny (K : PySem.W.Frag) : Sp := fun vs H Q _ => ∃ (h d : Addr), vs = [.ref h] ∧ Hd H h d ∧ ∀ (v : V) (L : List Fn) (H' : Hp), MpV False K H' v L → BO (ME 3) L → Keep [h] H H' → Hd H' h d → Q v H'
theorem has_lAny {k : Nat} (D : DefAt K mg "_law_any" s_law_any p_law_any) (B : Bn mg) (c1 : Has P w K mg base k "_law_take" p_law_take spTake) (c2 : Has P w K mg base k "_law_expression" p_law_expression (spExpr K 3)) : Has P w K mg base (k + 1) "_law_any" p_law_any (spLAny K) := by
  obtain ⟨f, fd, F, hm, hb⟩ := D.ex
  obtain ⟨_, _, c_law_take⟩ := c1
  obtain ⟨_, _, c_law_expression⟩ := c2
  refine ⟨f, fd, F.ok sc_law_any (fun vs H Q E h => ?_) (fun cdv A outer s H vs Q E hr h => ?_), hm, F.kp, hb⟩
  · obtain ⟨_, _, rfl, _⟩ := h
    rfl
  obtain ⟨h, d, rfl, hd, q⟩ := h
  refine ⟨_, (pss_cons (ps_set (i := 1) sc_law_any.nd rfl (.inl rfl) (pe_op op_add pe_int (cal c_law_take hr rfl (pa_cons (pv 0) (pa_cons pe_int pa_nil)))))
    (pss_cons (ps_set (i := 2) sc_law_any.nd rfl (.inl rfl) (pe_slice sl_list (pe_lst (pa_cons pe_str (pa_cons pe_str (pa_cons pe_str (pa_cons pe_str (pa_cons pe_str (pa_cons pe_str pa_nil))))))) po_none (po_some (pe_op op_add pe_int (cal c_law_take hr rfl (pa_cons (pv 0) (pa_cons pe_int pa_nil)))))))
    (pss_cons (ps_set (i := 3) sc_law_any.nd rfl (.inl rfl) (pe_lst (pa_cons (pe_tup (pa_cons pe_str (pa_cons (pv 1) pa_nil))) pa_nil)))
    (pss_cons (ps_for PassesOwn.never rfl (pi_list (pe_slice sl_list (pv 2) (po_some pe_int) po_none)) (pg_name (i := 4) sc_law_any.nd rfl (.inl rfl))
      (pss_one (ps_expr (pe_bm PySem.F.plainAttrs_list PySem.F.slot_list_append PySem.F.type_list_append mt_append (pv 3) (pa_cons (pe_tup (pa_cons (pv 4) (pa_cons (pe_op op_add pe_int (cal c_law_take hr rfl (pa_cons (pv 0) (pa_cons pe_int pa_nil)))) pa_nil))) pa_nil)))))
    (pss_cons (ps_set (i := 5) sc_law_any.nd rfl (.inl rfl) (pe_lst pa_nil))
    (pss_cons (ps_for PassesOwn.never rfl (pi_list (pv 3)) (pg_tup (by rfl) (pgs_cons (pg_name (i := 4) sc_law_any.nd rfl (.inl rfl)) (pgs_cons (pg_name (i := 6) sc_law_any.nd rfl (.inl rfl)) pgs_nil)))
      (pss_cons (ps_set (i := 7) sc_law_any.nd rfl (.inl rfl) (pe_slice sl_tupA (pe_tup (pa_cons pe_str (pa_cons pe_str (pa_cons pe_str (pa_cons pe_str (pa_cons pe_str pa_nil)))))) po_none (po_some (pv 6))))
      (pss_one (ps_expr (pe_bm PySem.F.plainAttrs_list PySem.F.slot_list_append PySem.F.type_list_append mt_append (pv 5) (pa_cons (pe_tup (pa_cons (pv 4) (pa_cons (pv 7) (pa_cons (cal c_law_expression hr rfl (pa_cons (pv 0) (pa_cons (pv 7) (pa_cons (pv 3) (pa_cons pe_int pa_nil))))) pa_nil)))) pa_nil))))))
    (pss_one (ps_ret (pe_callTy call_tuple_of (by rfl) B.tuple (by decide +kernel) (pa_cons (pv 5) pa_nil)))))))))), ?_⟩
  have hlst := hd.lst
  refine ⟨_, rfl, h, d, 5, rfl, hd, by decide, fun j1 H1 j10 j11 k1 hd1 => ?_⟩
  refine ⟨_, _, rfl, rfl, ?_⟩
  obtain ⟨m1, e1⟩ : ∃ m1 : Nat, (1 : Int) + j1 = (m1 : Nat) := ⟨(1 + j1).toNat, by omega⟩
  simp only [e1]
  -- names
  refine ⟨by show 6 ≤ sizeLine; decide, fun La nLa => ?_⟩
  have eLa : (upd H1 La (.lst [.str "main", .str "q", .str "f0", .str "zz", .str "f", .str "b9"])) La = some (.lst [.str "main", .str "q", .str "f0", .str "zz", .str "f", .str "b9"]) := upd_same
  have kLa : Keep [] H1 (upd H1 La (.lst [.str "main", .str "q", .str "f0", .str "zz", .str "f", .str "b9"])) := Keep.new nLa
  have es : [V.str "main", .str "q", .str "f0", .str "zz", .str "f", .str "b9"] = nms6.map (fun c => V.str (tx c)) := by decide +kernel
  rw [es] at eLa kLa ⊢
  have hd2 := hd1.keep0 kLa
  have Lah : La ≠ h := by
    intro e
    obtain ⟨xs, ea⟩ := hd1.lst
    rw [e, ea] at nLa
    cases nLa
  generalize upd H1 La (.lst (nms6.map (fun c => V.str (tx c)))) = H2 at eLa kLa hd2 ⊢
  dsimp only [tNoPart]
  refine ⟨_, rfl, h, d, 6, rfl, hd2, by decide, fun j2 H3 j20 j21 k3 hd3 => ?_⟩
  obtain ⟨m2, e2⟩ : ∃ m2 : Nat, (1 : Int) + j2 = (m2 : Nat) := ⟨(1 + j2).toNat, by omega⟩
  refine ⟨_, _, rfl, rfl, _, rfl, La, _, rfl, SqL.of (k3.get eLa (by simpa using Lah)), fun Ln nLn => ?_⟩
  rw [e2, cutV_to _ (by rw [List.length_map]; show m2 ≤ 6; omega), ← List.map_take]
  have lN : (nms6.take m2).length = m2 := by rw [List.length_take]; show min m2 6 = m2; omega
  have subN : ∀ x ∈ nms6.take m2, x ∈ nms6 := fun x m => List.mem_of_mem_take m
  have undN : (nms6.take m2).Nodup := List.Nodup.sublist (List.take_sublist ..) (by decide)
  have hN0 : (nms6.take m2)[0]? = some [109, 97, 105, 110] := by
    obtain ⟨m', rfl⟩ : ∃ m', m2 = m' + 1 := ⟨m2 - 1, by omega⟩
    rfl
  generalize nms6.take m2 = NL at lN subN undN hN0
  have eLn : (upd H3 Ln (.lst (NL.map (fun c => V.str (tx c))))) Ln = some (.lst (NL.map (fun c => V.str (tx c)))) := upd_same
  have kLn : Keep [] H3 (upd H3 Ln (.lst (NL.map (fun c => V.str (tx c))))) := Keep.new nLn
  have hd4 := hd3.keep0 kLn
  have Lnh : Ln ≠ h := by
    intro e
    obtain ⟨xs, ea⟩ := hd3.lst
    rw [e, ea] at nLn
    cases nLn
  generalize upd H3 Ln (.lst (NL.map (fun c => V.str (tx c)))) = H4 at eLn kLn hd4 ⊢
  -- calls
  refine ⟨_, rfl, by show 2 ≤ sizeLine; decide, fun T nT => ?_⟩
  have kT : Keep [] H4 (upd H4 T (.tup [.str "main", .int m1])) := Keep.new nT
  have eT : (upd H4 T (.tup [.str "main", .int m1])) T = some (.tup [.str "main", .int m1]) := upd_same
  generalize upd H4 T (.tup [.str "main", .int m1]) = H5 at kT eT ⊢
  have hd5 := hd4.keep0 kT
  have eLn5 := kT.same _ _ eLn
  refine ⟨by show 1 ≤ sizeLine; decide, fun Lc nLc => ?_⟩
  have kLc : Keep [] H5 (upd H5 Lc (.lst [.ref T])) := Keep.new nLc
  have eLc : (upd H5 Lc (.lst [.ref T])) Lc = some (.lst [.ref T]) := upd_same
  have Lch : Lc ≠ h := by
    intro e
    obtain ⟨xs, ea⟩ := hd5.lst
    rw [e, ea] at nLc
    cases nLc
  have hdL : d ≠ Lc := hd5.neD nLc
  have hd6 := hd5.keep0 kLc
  have Lcn : Lc ≠ Ln := Ne.symm (ne_of_none eLn5 nLc)
  have eLn6 := kLc.same _ _ eLn5
  have eT6 := kLc.same _ _ eT
  generalize upd H5 Lc (.lst [.ref T]) = H6 at kLc eLc hd6 eLn6 eT6 ⊢
  have k06 : Keep [h] H H6 := ((((k1.trans (kLa.mono (by simp))).trans k3).trans (kLn.mono (by simp))).trans (kT.mono (by simp))).trans (kLc.mono (by simp))
  have k16 : Keep [] H4 H6 := kT.trans kLc
  refine ⟨_, rfl, _, rfl, Ln, _, rfl, SqL.of eLn6, fun Lr nLr => ?_⟩
  rw [show cutV (NL.map (fun c => V.str (tx c))) (some (1 : Int)) none = (NL.map (fun c => V.str (tx c))).drop 1 from cutV_from (NL.map (fun c => V.str (tx c))) (j := 1) (by rw [List.length_map, lN]; omega), ← List.map_drop]
  have kLr : Keep [] H6 (upd H6 Lr (.lst ((NL.drop 1).map (fun c => V.str (tx c))))) := Keep.new nLr
  have eLr : (upd H6 Lr (.lst ((NL.drop 1).map (fun c => V.str (tx c))))) Lr = some (.lst ((NL.drop 1).map (fun c => V.str (tx c)))) := upd_same
  have hd7 := hd6.keep0 kLr
  have Lrh : Lr ≠ h := by
    intro e
    obtain ⟨xs, ea⟩ := hd6.lst
    rw [e, ea] at nLr
    cases nLr
  have Lrc : Lr ≠ Lc := Ne.symm (ne_of_none eLc nLr)
  have eLc7 := kLr.same _ _ eLc
  have eT7 := kLr.same _ _ eT6
  generalize upd H6 Lr (.lst ((NL.drop 1).map (fun c => V.str (tx c)))) = H7 at kLr eLr hd7 eLc7 eT7 ⊢
  have nLc0 : H Lc = none := by
    cases e : H Lc with
    | none => rfl
    | some o =>
      have kk : Keep [h] H H5 := (((k1.trans (kLa.mono (by simp))).trans k3).trans (kLn.mono (by simp))).trans (kT.mono (by simp))
      rcases kk Lc o e with z | ⟨z, _⟩
      · rw [nLc] at z; cases z
      · exact absurd (List.mem_singleton.mp z) Lch
  refine ⟨Lr, rfl, ⟨_, SqL.of eLr⟩, ?_⟩
  refine for_list (K := K) (a := Lr) (xs := (NL.drop 1).map (fun c => V.str (tx c))) (fun i σ H' => ∃ (y4 : Option V) (cvs : List V) (cs : Cs), σ = [some (.ref h), some (.int m1), some (.ref Ln), some (.ref Lc), y4, none, none, none] ∧ Keep [h, Lc] H7 H' ∧ Hd H' h d ∧ H' Lc = some (.lst cvs) ∧ Paired (CR H') cvs cs ∧ cs.map (·.1) = NL.take (i + 1) ∧ (∀ c ∈ cs, 1 ≤ c.2 ∧ c.2 ≤ 5))
    ⟨none, _, [([109, 97, 105, 110], m1)], rfl, Keep.refl, hd7, eLc7, .cons ⟨T, rfl, by rw [eT7]; rfl⟩ .nil, ?_, fun c m => by rw [List.mem_singleton.mp m]; show 1 ≤ m1 ∧ m1 ≤ 5; omega⟩ (fun i σ H' _ p => ?_) (fun i x σ H' hx p => ?_) (fun σ H8 p => ?_)
  · rw [List.take_add_one, List.take_zero, hN0]; rfl
  · obtain ⟨_, _, _, _, kk, _⟩ := p
    exact SqL.of (kk.get eLr (by simpa using ⟨Lrh, Lrc⟩))
  · obtain ⟨y4, cvs, cs, rfl, kk, hd', eLc', pc, ec, bc⟩ := p
    rw [List.getElem?_map, List.getElem?_drop] at hx
    cases hn : NL[1 + i]? with
    | none => rw [hn] at hx; cases hx
    | some nm =>
    rw [hn] at hx
    cases hx
    have ilt : 1 + i < NL.length := (List.getElem?_eq_some_iff.mp hn).1
    have lcs : cs.length = i + 1 := by
      have := congrArg List.length ec
      rw [List.length_map, List.length_take] at this
      omega
    have lcv := mp_len pc
    refine ⟨_, rfl, .inl ⟨rfl, _, SqL.of eLc'⟩, _, rfl, _, rfl, h, d, 3, rfl, hd', by decide, fun j3 G1 j30 j31 l1 hg1 => ?_⟩
    obtain ⟨m3, e3⟩ : ∃ m3 : Nat, (1 : Int) + j3 = (m3 : Nat) := ⟨(1 + j3).toNat, by omega⟩
    refine ⟨_, _, rfl, rfl, ?_⟩
    simp only [e3]
    refine ⟨by show 2 ≤ sizeLine; decide, fun U nU => ?_⟩
    have l2 : Keep [] G1 (upd G1 U (.tup [.str (tx nm), .int m3])) := Keep.new nU
    have eU : (upd G1 U (.tup [.str (tx nm), .int m3])) U = some (.tup [.str (tx nm), .int m3]) := upd_same
    have hg2 := hg1.keep0 l2
    have eLc2 := l2.same _ _ (l1.get eLc' (by simpa using Lch))
    generalize upd G1 U (.tup [.str (tx nm), .int m3]) = G2 at l2 eU hg2 eLc2 ⊢
    have l3 : Keep [Lc] G2 (upd G2 Lc (.lst (cvs ++ [.ref U]))) := Keep.set eLc2 (List.mem_cons_self ..)
    have l13 : Keep [h, Lc] H' (upd G2 Lc (.lst (cvs ++ [.ref U]))) := ((l1.mono (by simp)).trans (l2.mono (by simp))).trans (l3.mono (by simp))
    refine ⟨Lc, _, _, rfl, rfl, eLc2, Nat.lt_of_le_of_lt (show _ ≤ 100 by omega) (by decide), ?_⟩
    refine ⟨_, _, cs ++ [(nm, m3)], rfl, kk.trans l13, hg2.keep l3 (by simpa using Lch.symm) (by simpa using hdL), upd_same, mp_app (mp_imp (fun _ _ z => z.keep l13) pc) (.cons ⟨U, rfl, l3.tup eU⟩ .nil), ?_, fun c m => ?_⟩
    · rw [List.map_append, ec, List.take_add_one (i := i + 1), show i + 1 = 1 + i by omega, hn]; rfl
    · rcases List.mem_append.mp m with m | m
      · exact bc c m
      · rw [List.mem_singleton.mp m]; show 1 ≤ m3 ∧ m3 ≤ 5; omega
  obtain ⟨y4, cvs, cs, rfl, k78, hd8, eLc8, pc, ec, bc⟩ := p
  rw [List.length_map, List.length_drop, show NL.length - 1 + 1 = NL.length by omega, List.take_length] at ec
  have lcs : cs.length = NL.length := by rw [← ec, List.length_map]
  have lcv := mp_len pc
  have k08 : Keep [h] H H8 := by
    have a : Keep [h, Lc] H H8 := (k06.mono (by simp)).trans ((kLr.mono (by simp)).trans k78)
    have b : Keep [Lc, h] H H8 := a.mono fun x m => by simpa [or_comm] using m
    exact b.drop nLc0
  refine ⟨by show (0 : Nat) ≤ sizeLine; decide, fun Lf nLf => ?_⟩
  have eLf : (upd H8 Lf (.lst [])) Lf = some (.lst []) := upd_same
  have kLf : Keep [h] H8 (upd H8 Lf (.lst [])) := Keep.new nLf
  have Lfh : Lf ≠ h := (hd8.neH nLf).symm
  have Lfd : d ≠ Lf := hd8.neD nLf
  have Lfc : Lf ≠ Lc := Ne.symm (ne_of_none eLc8 nLf)
  have hdf : Hd (upd H8 Lf (.lst [])) h d := hd8.new nLf
  refine ⟨_, rfl, Lc, rfl, ⟨cvs, SqL.of (kLf.get eLc8 (by simpa using Lch))⟩, ?_⟩
  refine for_list (K := K) (a := Lc) (xs := cvs) (fun i σ H' => ∃ (y4 y6 y7 : Option V) (ds : List V) (L : List Fn), σ = [some (.ref h), some (.int m1), some (.ref Ln), some (.ref Lc), y4, some (.ref Lf), y6, y7] ∧ Keep [h] H8 H' ∧ Hd H' h d ∧ H' Lf = some (.lst ds) ∧ Paired (MfV False K H') ds L ∧ sigs L = cs.take i ∧ ∀ f ∈ L, GoodPs f.2.1 ∧ GoodIn cs f.2.1 f.2.2 ∧ f.2.2.size ≤ ME 3 ∧ WT (fnt f) ∧ Deep 6 f.2.2)
    ⟨_, none, none, [], [], rfl, kLf, hdf, eLf, .nil, by rw [List.take_zero]; rfl, fun f m => absurd m (List.not_mem_nil)⟩ (fun i σ H' _ p => ?_) (fun i x σ H' hx p => ?_) (fun σ H9 p => ?_)
  · obtain ⟨_, _, _, _, _, _, kk, _⟩ := p
    exact SqL.of (kk.get eLc8 (by simpa using Lch))
  · obtain ⟨y4, y6, y7, ds, L, rfl, kk, hd', eLf', pL, sg, al⟩ := p
    obtain ⟨c, hc, a, rfl, ea⟩ := mp_at pc hx
    have mc := List.mem_of_getElem? hc
    have bcc := bc c mc
    have ilt : i < cs.length := (List.getElem?_eq_some_iff.mp hc).1
    have lL : L.length = i := by
      have := congrArg List.length sg
      unfold sigs at this
      rw [List.length_map, List.length_take] at this
      omega
    have lds := mp_len pL
    have cN : c.1 ∈ NL := by rw [← ec]; exact List.mem_map.mpr ⟨c, mc, rfl⟩
    have wnm := (nm6 (subN _ cN)).1
    refine ⟨a, _, rfl, SqT.of_tup (kk.tup ea), rfl, ?_⟩
    refine ⟨_, _, rfl, _, _, rfl, rfl, by show 5 ≤ sizeLine; decide, fun T nT => ?_⟩
    have e5 : [V.str "q", .str "x1", .str "s", .str "zz", .str "e"] = pws5.map (fun c => V.str (tx c)) := by decide +kernel
    rw [e5]
    obtain ⟨G1, g1, l1, t1⟩ := newT (K := K) (ts := pws5.map Tree.w) nT trs_wsM
    rw [g1]
    dsimp only [tNoPart]
    refine ⟨_, rfl, _, rfl, ?_⟩
    refine sl_tr t1 fun v2 G2 t2 l2 => ?_
    rw [cutL_to _ (by rw [List.length_map]; show c.2 ≤ 5; omega), ← List.map_take] at t2
    have l12 := l1.trans l2
    have hg2 := hd'.keep0 l12
    have eLf2 := l12.same _ _ eLf'
    have eLc2 := l12.same _ _ (kk.get eLc8 (by simpa using Lch))
    have cls : Cls G2 Lc cs := by
      refine ⟨cvs, eLc2, by rw [lcv, lcs, lN]; omega, fun u mu => ?_⟩
      obtain ⟨j, hj⟩ := List.getElem?_of_mem mu
      obtain ⟨c2, hc2, a2, e1, e2⟩ := mp_at pc hj
      have mc2 := List.mem_of_getElem? hc2
      have cN2 : c2.1 ∈ NL := by rw [← ec]; exact List.mem_map.mpr ⟨c2, mc2, rfl⟩
      exact ⟨a2, c2.1, c2.2, e1, (kk.trans (l12.mono (by simp))).tup e2, (nm6 (subN _ cN2)).1, (bc c2 mc2).2, mc2⟩
    have psw : ∀ t ∈ (pws5.take c.2).map Tree.w, t.isW = true := fun t m => by
      obtain ⟨x, _, rfl⟩ := List.mem_map.mp m
      rfl
    have pswt : WTs ((pws5.take c.2).map Tree.w) := WTs.of fun t m => by
      obtain ⟨x, mx, rfl⟩ := List.mem_map.mp m
      exact wt_w (isWord_of (List.all_eq_true.mp (show pws5.all isWordB = true by decide) x (List.mem_of_mem_take mx)))
    have lps : ((pws5.take c.2).map Tree.w).length = c.2 := by
      rw [List.length_map, List.length_take]
      show min c.2 5 = c.2
      omega
    refine ⟨_, rfl, .inl ⟨rfl, _, SqL.of eLf2⟩, _, rfl, _, rfl, _, rfl, _, rfl, _, rfl, h, d, Lc, v2, (pws5.take c.2).map Tree.w, cs, rfl, hg2, t2, psw, pswt, by omega, cls, Lch, fun v t G3 tv wt sz dp gd l3 hg3 => ?_⟩
    refine ⟨by show 3 ≤ sizeLine; decide, fun U nU => ?_⟩
    have l4 : Keep [] G3 (upd G3 U (.tup [.str (tx c.1), v2, v])) := Keep.new nU
    have eU : (upd G3 U (.tup [.str (tx c.1), v2, v])) U = some (.tup [.str (tx c.1), v2, v]) := upd_same
    have hg4 := hg3.keep0 l4
    have eLf4 := l4.same _ _ (l3.get eLf2 (by simpa using Lfh))
    generalize upd G3 U (.tup [.str (tx c.1), v2, v]) = G4 at l4 eU hg4 eLf4 ⊢
    have l5 : Keep [Lf] G4 (upd G4 Lf (.lst (ds ++ [.ref U]))) := Keep.set eLf4 (List.mem_cons_self ..)
    have l25 : Keep [h, Lf] G2 (upd G4 Lf (.lst (ds ++ [.ref U]))) := ((l3.mono (by simp)).trans (l4.mono (by simp))).trans (l5.mono (by simp))
    have lall : Keep [h, Lf] H' (upd G4 Lf (.lst (ds ++ [.ref U]))) := (l12.mono (by simp)).trans l25
    have kall : Keep [h] H8 (upd G4 Lf (.lst (ds ++ [.ref U]))) := by
      have b : Keep [Lf, h] H8 (upd G4 Lf (.lst (ds ++ [.ref U]))) := ((kk.mono (by simp)).trans lall).mono fun x m => by simpa [or_comm] using m
      exact b.drop nLf
    refine ⟨Lf, _, _, rfl, rfl, eLf4, Nat.lt_of_le_of_lt (show _ ≤ 100 by omega) (by decide), ?_⟩
    refine ⟨_, _, _, _, L ++ [(c.1, (pws5.take c.2).map Tree.w, t)], rfl, kall, hg4.keep l5 (by simpa using Lfh.symm) (by simpa using Lfd), upd_same, mp_app (mp_imp (fun _ _ z => z.kp lall) pL) (.cons ⟨U, v2, v, rfl, SqT.of_tup (l5.tup eU), t2.keep l25, fun z => z.elim, tv.keep (l4.cons.trans l5)⟩ .nil), ?_, fun f m => ?_⟩
    · unfold sigs at sg ⊢
      rw [List.map_append, sg, List.take_add_one, hc]
      show _ ++ [(c.1, ((pws5.take c.2).map Tree.w).length)] = _
      rw [lps]
      rfl
    · rcases List.mem_append.mp m with m | m
      · exact al f m
      · rw [List.mem_singleton.mp m]
        exact ⟨goodPs_of (by rw [List.length_take]; show min c.2 5 ≤ 12; omega) (List.Nodup.sublist (List.take_sublist ..) (by decide)) (fun x mx => (show ∀ x ∈ pws5, spAr x = none by decide +kernel) x (List.mem_of_mem_take mx)), gd, sz, wt_l (wts_cons (wt_w wnm) (wts_cons (wt_l pswt) (wts_cons wt wts_nil))), dp⟩
  obtain ⟨y4, y6, y7, ds, L, rfl, kk, hd', eLf', pL, sg, al⟩ := p
  rw [lcv, List.take_length] at sg
  refine ⟨_, rfl, Lf, ds, rfl, .inl ⟨SqL.of eLf', fun T nT => ?_⟩⟩
  have kT : Keep [] H9 (upd H9 T (.tup ds)) := Keep.new nT
  have nmL : L.map (·.1) = NL := by
    rw [← ec, ← sg]
    unfold sigs
    rw [List.map_map]
    rfl
  have lL : L.length = m2 := by rw [← lN, ← nmL, List.length_map]
  refine q _ L _ ⟨T, ds, rfl, SqT.of_tup upd_same, mp_imp (fun _ _ z => z.keep kT) pL⟩ ⟨⟨by rw [nmL]; exact undN, fun f m => ?_, fun f m => (al f m).1, fun f m => by rw [sg]; exact (al f m).2.1⟩, wt_l (WTs.of fun t m => ?_), by omega, fun f m => ⟨(al f m).2.2.1, (al f m).2.2.2.2⟩, ?_⟩ ((k08.trans kk).trans (kT.mono (by simp))) (hd'.keep0 kT)
  · have : f.1 ∈ NL := by rw [← nmL]; exact List.mem_map.mpr ⟨f, m, rfl⟩
    exact (nm6 (subN _ this)).2 _ (by omega)
  · obtain ⟨f, mf, rfl⟩ := List.mem_map.mp m
    exact (al f mf).2.2.2.1
  · cases L with
    | nil => simp at lL; omega
    | cons f0 r =>
      have mc : (f0.1, f0.2.1.length) ∈ cs := by rw [← sg]; exact List.mem_cons_self ..
      have := bc _ mc
      exact ⟨f0, f0.2.1.length - 1, rfl, by have := this.1; omega, by have := this.2; omega⟩
end
end Og

namespace Og
open PySem PySem.Spec PyProof.Rows L2
theorem ok_law {P : Program} {w : World} {K : PySem.W.Frag} {mg : Str → Option Value} {base : Heap} {e : Addr} {ed : FuncData} (F : Fun K "law" "law" s_law e ed) (B : Bn mg) (M : Mc mg)
    (S_SPECIAL_WORDS : DictC K w mg "SPECIAL_WORDS" [([113, 117, 111, 116, 101], 1), ([105, 102], 3), ([115, 97, 109, 101], 2), ([119, 111, 114, 100], 1), ([104, 101, 97, 100], 1), ([116, 97, 105, 108], 1), ([106, 111, 105, 110], 2)])
    (E_BadProgram : ErrAll K mg "BadProgram" "BadProgram.__init__" "function" s_BadProgram_init)
    (C_BadInputs : ∃ a : Addr, mg "BadInputs" = some (.ref a))
    (W_BadProgram_BadInputs : ErrNot K mg "BadProgram" "BadInputs")
    (D_check_program : DefAt K mg "check_program" s_check_program p_check_program)
    (D_inputs_of : DefAt K mg "inputs_of" s_inputs_of p_inputs_of)
    (D_called_functions : DefAt K mg "_called_functions" s_called_functions p_called_functions)
    (D_looks_like_function : DefAt K mg "_looks_like_function" s_looks_like_function p_looks_like_function)
    (D_is_good_function : DefAt K mg "_is_good_function" s_is_good_function p_is_good_function)
    (D_is_good_name : DefAt K mg "_is_good_name" s_is_good_name p_is_good_name)
    (D_are_good_parameters : DefAt K mg "_are_good_parameters" s_are_good_parameters p_are_good_parameters)
    (D_is_good_body : DefAt K mg "_is_good_body" s_is_good_body p_is_good_body)
    (D_has_right_parts : DefAt K mg "_has_right_parts" s_has_right_parts p_has_right_parts)
    (D_fill : DefAt K mg "fill" s_fill p_fill)
    (D_made_name : DefAt K mg "made_name" s_made_name p_made_name)
    (D_made_parameters : DefAt K mg "made_parameters" s_made_parameters p_made_parameters)
    (D_listing : DefAt K mg "listing" s_listing p_listing)
    (D_filled : DefAt K mg "filled" s_filled p_filled)
    (D_side_by_side : DefAt K mg "side_by_side" s_side_by_side p_side_by_side)
    (D_with_front : DefAt K mg "with_front" s_with_front p_with_front)
    (D_renamed_good : DefAt K mg "_renamed_good" s_renamed_good p_renamed_good)
    (D_renamed_body : DefAt K mg "_renamed_body" s_renamed_body p_renamed_body)
    (D_expressions_of : DefAt K mg "_expressions_of" s_expressions_of p_expressions_of)
    (D_know_own : DefAt K mg "know_own" s_know_own p_know_own)
    (D_text_of_filled : DefAt K mg "_text_of_filled" s_text_of_filled p_text_of_filled)
    (D_law_draws : DefAt K mg "_law_draws" s_law_draws p_law_draws)
    (D_law_take : DefAt K mg "_law_take" s_law_take p_law_take)
    (D_law_value : DefAt K mg "_law_value" s_law_value p_law_value)
    (D_law_expression : DefAt K mg "_law_expression" s_law_expression p_law_expression)
    (D_law_renamed : DefAt K mg "_law_renamed" s_law_renamed p_law_renamed)
    (D_law_listed : DefAt K mg "_law_listed" s_law_listed p_law_listed)
    (D_law_known : DefAt K mg "_law_known" s_law_known p_law_known)
    (D_law_any : DefAt K mg "_law_any" s_law_any p_law_any) :
    FnOk P w K mg base CX0 30 e ed ["script"] (spLaw K) := by
  have hn : 100 ≤ 16 * 29 + 200 := by decide
  obtain ⟨C, G, fI, fdI, T_BadProgram, Hh⟩ := E_BadProgram.ex
  obtain ⟨d, es, n, m, kd, en⟩ := S_SPECIAL_WORDS.ex
  have DD : DictD K w specials d := ⟨⟨es, n, kd, en⟩⟩
  have h_draws := has_draws (P := P) (w := w) (base := base) (k := 0) D_law_draws B
  have h_take := has_take (P := P) (w := w) (base := base) (k := 0) D_law_take B
  have h_val := has_val (P := P) (w := w) (base := base) (k := 1) D_law_value B h_take 2
  obtain ⟨fx, fdx, hx⟩ := has_expr (P := P) (w := w) (base := base) (k := 4) D_law_expression B (h_take.mono (by decide)) (h_val.mono (by decide))
  have h_expr : Has P w K mg base 8 "_law_expression" p_law_expression (spExpr K 3) := ⟨fx, fdx, hx 3⟩
  obtain ⟨fr, fdr, hren⟩ := has_lRen (P := P) (w := w) (base := base) (k := 0) D_law_renamed B
  have h_ren : Has P w K mg base 7 "_law_renamed" p_law_renamed (spLRen K 6) := ⟨fr, fdr, hren 6⟩
  have h_listed := has_lListed (P := P) (w := w) (base := base) (k := 0) D_law_listed B
  have h_known := has_lKnown (P := P) (w := w) (base := base) (k := 7) (N := 6) D_law_known B h_ren (h_listed.mono (by decide))
  have h_any := has_lAny (P := P) (w := w) (base := base) (k := 8) D_law_any B (h_take.mono (by decide)) h_expr
  have h_looks := has_looks (P := P) (w := w) (base := base) (k := 0) D_looks_like_function B
  have h_gname := has_gname (P := P) (w := w) (base := base) (k := 0) m DD D_is_good_name B
  have h_gps := has_gps (P := P) (w := w) (base := base) (k := 0) m DD D_are_good_parameters B M
  have h_rp := has_rp (P := P) (w := w) (base := base) (k := 0) m DD D_has_right_parts B
  have h_gbody := has_gbody (P := P) (w := w) (base := base) (k := 1) D_is_good_body B h_rp
  have h_gfn := has_gfn (P := P) (w := w) (base := base) (k := 11) D_is_good_function B (h_looks.mono (by decide)) (h_gname.mono (by decide)) (h_gps.mono (by decide)) (h_gbody.mono (by decide))
  have h_called := has_called (P := P) (w := w) (base := base) (k := 11) D_called_functions B (h_looks.mono (by decide))
  have h_check := has_checkX (P := P) (w := w) (base := base) (k := 9) T_BadProgram D_check_program B h_called h_gfn
  have h_inputs := has_inputsX (P := P) (w := w) (base := base) (k := 13) D_inputs_of B h_check
  have h_name := has_madeName (P := P) (w := w) (base := base) (k := 0) D_made_name B
  have h_pars := has_madePars (P := P) (w := w) (base := base) (k := 0) D_made_parameters B
  have h_exs := has_exprs (P := P) (w := w) (base := base) (k := 0) D_expressions_of B
  have h_rb := has_renBody (P := P) (w := w) (base := base) (k := 1) D_renamed_body B h_exs
  have h_rg := has_renGood (P := P) (w := w) (base := base) (g := False) (k := 2) D_renamed_good B h_rb (h_name.mono (by decide))
  have h_front := has_front (P := P) (w := w) (base := base) (g := False) (k := 1) D_with_front B h_name
  have h_list := has_listing (P := P) (w := w) (base := base) (k := 0) D_listing B
  have h_filled := has_filled (P := P) (w := w) (base := base) (g := False) (k := 2) D_filled B (h_pars.mono (by decide)) h_front
  have h_sides := has_sides (P := P) (w := w) (base := base) (g := False) (k := 3) D_side_by_side B h_rg (h_name.mono (by decide))
  have h_fill := has_fill (P := P) (w := w) (base := base) (g := False) (k := 14) D_fill B M h_inputs (h_filled.mono (by decide))
  have h_tof := has_tof (P := P) (w := w) (base := base) (k := 1) D_text_of_filled B h_name h_list
  have h_know := has_know (P := P) (w := w) (base := base) (k := 15) D_know_own B M (h_inputs.mono (by decide)) (h_pars.mono (by decide)) (h_sides.mono (by decide)) (h_tof.mono (by decide)) (h_front.mono (by decide)) h_fill
  obtain ⟨_, _, c_law_draws⟩ := h_draws.mono (show 1 ≤ 29 by decide)
  obtain ⟨_, _, c_law_any⟩ := h_any.mono (show 9 ≤ 29 by decide)
  obtain ⟨_, _, c_law_known⟩ := h_known.mono (show 8 ≤ 29 by decide)
  obtain ⟨_, _, c_know_own⟩ := h_know.mono (show 16 ≤ 29 by decide)
  refine F.ok sc_law (fun vs H Q E h => ?_) (fun cdv A outer s H vs Q E hr h => ?_)
  · obtain ⟨a, ns, rfl, _⟩ := h
    rfl
  obtain ⟨a, ns, rfl, hS, h63, q⟩ := h
  refine ⟨_, (pss_cons (ps_set (i := 1) sc_law.nd rfl (.inl rfl) (pe_lst (pa_cons (cal c_law_draws hr rfl (pa_cons (pv 0) (pa_cons pe_int pa_nil))) (pa_cons pe_int pa_nil))))
    (pss_cons (ps_set (i := 2) sc_law.nd rfl (.inl rfl) (cal c_law_any hr rfl (pa_cons (pv 1) pa_nil)))
    (pss_cons (ps_set (i := 3) sc_law.nd rfl (.inl rfl) (cal c_law_known hr rfl (pa_cons (pv 2) (pa_cons (pe_op op_sub (pe_callB call_len_seq (by rfl) B.len PySem.boot_len (pa_cons (pe_ix ix_tup (pe_ix ix_tup (pv 2) pe_int (fun _ _ => rfl)) pe_int (fun _ _ => rfl)) pa_nil)) pe_int) pa_nil))))
    (pss_cons (ps_set (i := 4) sc_law.nd rfl (.inl rfl) (cal c_know_own hr rfl (pa_cons (pv 2) pa_nil)))
    (pss_one (ps_ret (pe_and (pe_callB call_isi (by rfl) B.isinstance (by decide +kernel) (pa_cons (pv 4) (pa_cons (pe_bltn (v := .ty "tuple") rfl B.tuple (by decide +kernel) rfl) pa_nil))) (pe_and (pe_cmpR (op_eqT hr.units (room_n hr hn)) (pv 4) (pv 3) (nomark _)) (pe_one (pe_cmpR (op_eqT hr.units (room_n hr hn)) (cal c_know_own hr rfl (pa_cons (pv 2) pa_nil)) (pv 3) (nomark _))))))))))), ?_⟩
  -- hand
  refine ⟨_, rfl, a, ns, 300, rfl, hS, h63, by decide, fun d ds H1 k1 nd ed1 dl => ?_⟩
  refine ⟨by show (2 : Nat) ≤ sizeLine; decide, fun h nh => ?_⟩
  have hd0 : Hd (upd H1 h (.lst [.ref d, .int 0])) h d := ⟨0, ds, upd_same, by rw [upd_ne (ne_of_none ed1 nh)]; exact ed1, by omega⟩
  generalize upd H1 h (.lst [.ref d, .int 0]) = H2 at hd0
  refine ⟨_, rfl, h, d, rfl, hd0, fun v L H3 mv bo k3 hd3 => ?_⟩
  obtain ⟨gl, wt, l6, bds, f0, kk0, e0, ln, hk⟩ := bo
  have mv0 := mv
  obtain ⟨pa, pvs, rfl, hSp, pf⟩ := mv
  have lx := mp_len pf
  obtain ⟨v0, hv0, m0⟩ : ∃ v0, pvs[0]? = some v0 ∧ MfV False K H3 v0 f0 := by
    have l0 : 0 < pvs.length := by rw [lx]; exact (List.getElem?_eq_some_iff.mp e0).1
    have e := List.getElem?_eq_getElem l0
    obtain ⟨b, hb, r⟩ := mp_at pf e
    rw [e0] at hb
    cases hb
    exact ⟨_, e, r⟩
  obtain ⟨oa, vp, vb, rfl, hO, tp, fz, tb⟩ := m0
  obtain ⟨qa, qvs, rfl, hP, rP⟩ := tp.list
  have lP := rP.length
  have me : ME 3 ≤ 1000000 := by decide
  refine ⟨_, rfl, _, rfl, pa, pvs, _, _, rfl, rfl, hSp, atI_nat (j := 0) hv0, oa, _, _, _, rfl, rfl, hO, rfl, qa, qvs, rfl, .inr hP, _, _, rfl, rfl, ?_⟩
  refine ⟨.ref pa, L, kk0, by rw [lP, ln]; show [V.ref pa, V.int (((kk0 + 1 : Nat) : Int) - 1)] = _; rw [show (((kk0 + 1 : Nat) : Int) - 1) = (kk0 : Nat) by omega], mv0, gl, by omega, fun f mf => ⟨Nat.le_trans (bds f mf).1 me, (bds f mf).2⟩, by omega, fun vd H4 td4 k4 => ?_⟩
  have hsz : (Tree.l (L.map fnt)).size ≤ 290000 := by
    have a := fnts_size (N := ME 3) (L := L) fun f m => ⟨gl.ps f m, (bds f m).1⟩
    have b := Nat.mul_le_mul_right (ME 3 + 15) l6
    have c : 6 * (ME 3 + 15) ≤ 200000 := by decide
    rw [size_l]
    omega
  have htd := knowL_td kk0 gl fun f m => td_deep 6 _ (bds f m).2
  refine ⟨_, rfl, .ref pa, L, f0, kk0, rfl, mv0.keep k4, gl, wt, hsz, by omega, e0, ln, by omega, fun vm H5 mm k5 => ?_⟩
  have tm := mm.tr
  have td5 := td4.keep k5
  obtain ⟨ty, uu, q1, q2, q3⟩ := isi_tup tm
  have ht : 50 ≤ 100 := by decide
  refine ⟨_, rfl, _, _, ty, uu, _, rfl, q1, q2, q3, _, rfl, ?_⟩
  rw [if_pos (show (!(Tree.l (List.map fnt (knowL L kk0))).isW) = true from rfl)]
  refine ⟨_, rfl, _, rfl, _, _, tm, td5, Nat.le_trans htd ht, fun b hb => ⟨b, rfl, ?_⟩⟩
  have eb : b = true := hb.mpr rfl
  subst eb
  rw [if_pos rfl]
  refine ⟨_, rfl, .ref pa, L, f0, kk0, rfl, mv0.keep (k4.trans k5), gl, wt, hsz, by omega, e0, ln, by omega, fun vm2 H6 mm2 k6 => ?_⟩
  refine ⟨_, rfl, _, _, mm2.tr, td5.keep k6, Nat.le_trans htd ht, fun b hb => ?_⟩
  have eb : b = true := hb.mpr rfl
  subst eb
  exact q H6
end Og

namespace Og
open PySem PySem.Spec PyProof.Rows L2
theorem all_mk {l : PySem.W.OpenLaw} {w : World} {K : PySem.W.Frag} {h : Heap} {mg : Str → Option Value} {fa f0 f1 f2 f3 f4 f5 f6 f7 f8 f9 f10 f11 f12 f13 f14 f15 f16 f17 f18 f19 f20 f21 f22 f23 f24 f25 f26 f27 f28 f29 : Addr} (X : K.In h) (G : h.Ns mainGlobals mg) (hfa : mg "law" = some (.ref fa))
    {Dd0 : Addr} {Des0 : Array DictEntry} {Dn0 : Nat}
    {PC0 : Addr}
    {CG : Addr} {C0 I0 N0 : Addr} {nm0 q0 : Str} {bs0 bm0 sub0 : List Value} {sn0 : List Str} {ab0 : Bool} {col0 : Option Bool} {dd0 eod0 ean0 : Option Addr} {u0 v0 w0 x0 y0 : Option Value} {esl0 : Array (Option Value)} {eoc0 ekV0 edc0 epm0 ecd0 ect0 : Value}
    {od0 an0 od1 an1 od2 an2 od3 an3 od4 an4 od5 an5 od6 an6 od7 an7 od8 an8 od9 an9 od10 an10 od11 an11 od12 an12 od13 an13 od14 an14 od15 an15 od16 an16 od17 an17 od18 an18 od19 an19 od20 an20 od21 an21 od22 an22 od23 an23 od24 an24 od25 an25 od26 an26 od27 an27 od28 an28 od29 an29 : Option Addr} {sl0 sl1 sl2 sl3 sl4 sl5 sl6 sl7 sl8 sl9 sl10 sl11 sl12 sl13 sl14 sl15 sl16 sl17 sl18 sl19 sl20 sl21 sl22 sl23 sl24 sl25 sl26 sl27 sl28 sl29 : Array (Option Value)} {oc0 kV0 dc0 pm0 cd0 ct0 oc1 kV1 dc1 pm1 cd1 ct1 oc2 kV2 dc2 pm2 cd2 ct2 oc3 kV3 dc3 pm3 cd3 ct3 oc4 kV4 dc4 pm4 cd4 ct4 oc5 kV5 dc5 pm5 cd5 ct5 oc6 kV6 dc6 pm6 cd6 ct6 oc7 kV7 dc7 pm7 cd7 ct7 oc8 kV8 dc8 pm8 cd8 ct8 oc9 kV9 dc9 pm9 cd9 ct9 oc10 kV10 dc10 pm10 cd10 ct10 oc11 kV11 dc11 pm11 cd11 ct11 oc12 kV12 dc12 pm12 cd12 ct12 oc13 kV13 dc13 pm13 cd13 ct13 oc14 kV14 dc14 pm14 cd14 ct14 oc15 kV15 dc15 pm15 cd15 ct15 oc16 kV16 dc16 pm16 cd16 ct16 oc17 kV17 dc17 pm17 cd17 ct17 oc18 kV18 dc18 pm18 cd18 ct18 oc19 kV19 dc19 pm19 cd19 ct19 oc20 kV20 dc20 pm20 cd20 ct20 oc21 kV21 dc21 pm21 cd21 ct21 oc22 kV22 dc22 pm22 cd22 ct22 oc23 kV23 dc23 pm23 cd23 ct23 oc24 kV24 dc24 pm24 cd24 ct24 oc25 kV25 dc25 pm25 cd25 ct25 oc26 kV26 dc26 pm26 cd26 ct26 oc27 kV27 dc27 pm27 cd27 ct27 oc28 kV28 dc28 pm28 cd28 ct28 oc29 kV29 dc29 pm29 cd29 ct29 : Value} {t0 t1 : Tok}
    (a0 : PySem.W.nsIn K mainGlobals "check_program" = some (some (.ref f0))) (l0 : K.lookup f0 = some ⟨oc0, od0, .func (PySem.W.fnOf "check_program" "check_program" (defArgs s_check_program) (defBody s_check_program) (defScope s_check_program) .none kV0 dc0 pm0 an0 cd0 ct0), sl0⟩) (c0 : PySem.W.codeIn K cd0 "check_program" = true) (k0 : PySem.W.keepIn K (.ref f0) = true)
    (a1 : PySem.W.nsIn K mainGlobals "inputs_of" = some (some (.ref f1))) (l1 : K.lookup f1 = some ⟨oc1, od1, .func (PySem.W.fnOf "inputs_of" "inputs_of" (defArgs s_inputs_of) (defBody s_inputs_of) (defScope s_inputs_of) .none kV1 dc1 pm1 an1 cd1 ct1), sl1⟩) (c1 : PySem.W.codeIn K cd1 "inputs_of" = true) (k1 : PySem.W.keepIn K (.ref f1) = true)
    (a2 : PySem.W.nsIn K mainGlobals "_called_functions" = some (some (.ref f2))) (l2 : K.lookup f2 = some ⟨oc2, od2, .func (PySem.W.fnOf "_called_functions" "_called_functions" (defArgs s_called_functions) (defBody s_called_functions) (defScope s_called_functions) .none kV2 dc2 pm2 an2 cd2 ct2), sl2⟩) (c2 : PySem.W.codeIn K cd2 "_called_functions" = true) (k2 : PySem.W.keepIn K (.ref f2) = true)
    (a3 : PySem.W.nsIn K mainGlobals "_looks_like_function" = some (some (.ref f3))) (l3 : K.lookup f3 = some ⟨oc3, od3, .func (PySem.W.fnOf "_looks_like_function" "_looks_like_function" (defArgs s_looks_like_function) (defBody s_looks_like_function) (defScope s_looks_like_function) .none kV3 dc3 pm3 an3 cd3 ct3), sl3⟩) (c3 : PySem.W.codeIn K cd3 "_looks_like_function" = true) (k3 : PySem.W.keepIn K (.ref f3) = true)
    (a4 : PySem.W.nsIn K mainGlobals "_is_good_function" = some (some (.ref f4))) (l4 : K.lookup f4 = some ⟨oc4, od4, .func (PySem.W.fnOf "_is_good_function" "_is_good_function" (defArgs s_is_good_function) (defBody s_is_good_function) (defScope s_is_good_function) .none kV4 dc4 pm4 an4 cd4 ct4), sl4⟩) (c4 : PySem.W.codeIn K cd4 "_is_good_function" = true) (k4 : PySem.W.keepIn K (.ref f4) = true)
    (a5 : PySem.W.nsIn K mainGlobals "_is_good_name" = some (some (.ref f5))) (l5 : K.lookup f5 = some ⟨oc5, od5, .func (PySem.W.fnOf "_is_good_name" "_is_good_name" (defArgs s_is_good_name) (defBody s_is_good_name) (defScope s_is_good_name) .none kV5 dc5 pm5 an5 cd5 ct5), sl5⟩) (c5 : PySem.W.codeIn K cd5 "_is_good_name" = true) (k5 : PySem.W.keepIn K (.ref f5) = true)
    (a6 : PySem.W.nsIn K mainGlobals "_are_good_parameters" = some (some (.ref f6))) (l6 : K.lookup f6 = some ⟨oc6, od6, .func (PySem.W.fnOf "_are_good_parameters" "_are_good_parameters" (defArgs s_are_good_parameters) (defBody s_are_good_parameters) (defScope s_are_good_parameters) .none kV6 dc6 pm6 an6 cd6 ct6), sl6⟩) (c6 : PySem.W.codeIn K cd6 "_are_good_parameters" = true) (k6 : PySem.W.keepIn K (.ref f6) = true)
    (a7 : PySem.W.nsIn K mainGlobals "_is_good_body" = some (some (.ref f7))) (l7 : K.lookup f7 = some ⟨oc7, od7, .func (PySem.W.fnOf "_is_good_body" "_is_good_body" (defArgs s_is_good_body) (defBody s_is_good_body) (defScope s_is_good_body) .none kV7 dc7 pm7 an7 cd7 ct7), sl7⟩) (c7 : PySem.W.codeIn K cd7 "_is_good_body" = true) (k7 : PySem.W.keepIn K (.ref f7) = true)
    (a8 : PySem.W.nsIn K mainGlobals "_has_right_parts" = some (some (.ref f8))) (l8 : K.lookup f8 = some ⟨oc8, od8, .func (PySem.W.fnOf "_has_right_parts" "_has_right_parts" (defArgs s_has_right_parts) (defBody s_has_right_parts) (defScope s_has_right_parts) .none kV8 dc8 pm8 an8 cd8 ct8), sl8⟩) (c8 : PySem.W.codeIn K cd8 "_has_right_parts" = true) (k8 : PySem.W.keepIn K (.ref f8) = true)
    (a9 : PySem.W.nsIn K mainGlobals "fill" = some (some (.ref f9))) (l9 : K.lookup f9 = some ⟨oc9, od9, .func (PySem.W.fnOf "fill" "fill" (defArgs s_fill) (defBody s_fill) (defScope s_fill) .none kV9 dc9 pm9 an9 cd9 ct9), sl9⟩) (c9 : PySem.W.codeIn K cd9 "fill" = true) (k9 : PySem.W.keepIn K (.ref f9) = true)
    (a10 : PySem.W.nsIn K mainGlobals "made_name" = some (some (.ref f10))) (l10 : K.lookup f10 = some ⟨oc10, od10, .func (PySem.W.fnOf "made_name" "made_name" (defArgs s_made_name) (defBody s_made_name) (defScope s_made_name) .none kV10 dc10 pm10 an10 cd10 ct10), sl10⟩) (c10 : PySem.W.codeIn K cd10 "made_name" = true) (k10 : PySem.W.keepIn K (.ref f10) = true)
    (a11 : PySem.W.nsIn K mainGlobals "made_parameters" = some (some (.ref f11))) (l11 : K.lookup f11 = some ⟨oc11, od11, .func (PySem.W.fnOf "made_parameters" "made_parameters" (defArgs s_made_parameters) (defBody s_made_parameters) (defScope s_made_parameters) .none kV11 dc11 pm11 an11 cd11 ct11), sl11⟩) (c11 : PySem.W.codeIn K cd11 "made_parameters" = true) (k11 : PySem.W.keepIn K (.ref f11) = true)
    (a12 : PySem.W.nsIn K mainGlobals "listing" = some (some (.ref f12))) (l12 : K.lookup f12 = some ⟨oc12, od12, .func (PySem.W.fnOf "listing" "listing" (defArgs s_listing) (defBody s_listing) (defScope s_listing) .none kV12 dc12 pm12 an12 cd12 ct12), sl12⟩) (c12 : PySem.W.codeIn K cd12 "listing" = true) (k12 : PySem.W.keepIn K (.ref f12) = true)
    (a13 : PySem.W.nsIn K mainGlobals "filled" = some (some (.ref f13))) (l13 : K.lookup f13 = some ⟨oc13, od13, .func (PySem.W.fnOf "filled" "filled" (defArgs s_filled) (defBody s_filled) (defScope s_filled) .none kV13 dc13 pm13 an13 cd13 ct13), sl13⟩) (c13 : PySem.W.codeIn K cd13 "filled" = true) (k13 : PySem.W.keepIn K (.ref f13) = true)
    (a14 : PySem.W.nsIn K mainGlobals "side_by_side" = some (some (.ref f14))) (l14 : K.lookup f14 = some ⟨oc14, od14, .func (PySem.W.fnOf "side_by_side" "side_by_side" (defArgs s_side_by_side) (defBody s_side_by_side) (defScope s_side_by_side) .none kV14 dc14 pm14 an14 cd14 ct14), sl14⟩) (c14 : PySem.W.codeIn K cd14 "side_by_side" = true) (k14 : PySem.W.keepIn K (.ref f14) = true)
    (a15 : PySem.W.nsIn K mainGlobals "with_front" = some (some (.ref f15))) (l15 : K.lookup f15 = some ⟨oc15, od15, .func (PySem.W.fnOf "with_front" "with_front" (defArgs s_with_front) (defBody s_with_front) (defScope s_with_front) .none kV15 dc15 pm15 an15 cd15 ct15), sl15⟩) (c15 : PySem.W.codeIn K cd15 "with_front" = true) (k15 : PySem.W.keepIn K (.ref f15) = true)
    (a16 : PySem.W.nsIn K mainGlobals "_renamed_good" = some (some (.ref f16))) (l16 : K.lookup f16 = some ⟨oc16, od16, .func (PySem.W.fnOf "_renamed_good" "_renamed_good" (defArgs s_renamed_good) (defBody s_renamed_good) (defScope s_renamed_good) .none kV16 dc16 pm16 an16 cd16 ct16), sl16⟩) (c16 : PySem.W.codeIn K cd16 "_renamed_good" = true) (k16 : PySem.W.keepIn K (.ref f16) = true)
    (a17 : PySem.W.nsIn K mainGlobals "_renamed_body" = some (some (.ref f17))) (l17 : K.lookup f17 = some ⟨oc17, od17, .func (PySem.W.fnOf "_renamed_body" "_renamed_body" (defArgs s_renamed_body) (defBody s_renamed_body) (defScope s_renamed_body) .none kV17 dc17 pm17 an17 cd17 ct17), sl17⟩) (c17 : PySem.W.codeIn K cd17 "_renamed_body" = true) (k17 : PySem.W.keepIn K (.ref f17) = true)
    (a18 : PySem.W.nsIn K mainGlobals "_expressions_of" = some (some (.ref f18))) (l18 : K.lookup f18 = some ⟨oc18, od18, .func (PySem.W.fnOf "_expressions_of" "_expressions_of" (defArgs s_expressions_of) (defBody s_expressions_of) (defScope s_expressions_of) .none kV18 dc18 pm18 an18 cd18 ct18), sl18⟩) (c18 : PySem.W.codeIn K cd18 "_expressions_of" = true) (k18 : PySem.W.keepIn K (.ref f18) = true)
    (a19 : PySem.W.nsIn K mainGlobals "know_own" = some (some (.ref f19))) (l19 : K.lookup f19 = some ⟨oc19, od19, .func (PySem.W.fnOf "know_own" "know_own" (defArgs s_know_own) (defBody s_know_own) (defScope s_know_own) .none kV19 dc19 pm19 an19 cd19 ct19), sl19⟩) (c19 : PySem.W.codeIn K cd19 "know_own" = true) (k19 : PySem.W.keepIn K (.ref f19) = true)
    (a20 : PySem.W.nsIn K mainGlobals "_text_of_filled" = some (some (.ref f20))) (l20 : K.lookup f20 = some ⟨oc20, od20, .func (PySem.W.fnOf "_text_of_filled" "_text_of_filled" (defArgs s_text_of_filled) (defBody s_text_of_filled) (defScope s_text_of_filled) .none kV20 dc20 pm20 an20 cd20 ct20), sl20⟩) (c20 : PySem.W.codeIn K cd20 "_text_of_filled" = true) (k20 : PySem.W.keepIn K (.ref f20) = true)
    (a21 : PySem.W.nsIn K mainGlobals "_law_draws" = some (some (.ref f21))) (l21 : K.lookup f21 = some ⟨oc21, od21, .func (PySem.W.fnOf "_law_draws" "_law_draws" (defArgs s_law_draws) (defBody s_law_draws) (defScope s_law_draws) .none kV21 dc21 pm21 an21 cd21 ct21), sl21⟩) (c21 : PySem.W.codeIn K cd21 "_law_draws" = true) (k21 : PySem.W.keepIn K (.ref f21) = true)
    (a22 : PySem.W.nsIn K mainGlobals "_law_take" = some (some (.ref f22))) (l22 : K.lookup f22 = some ⟨oc22, od22, .func (PySem.W.fnOf "_law_take" "_law_take" (defArgs s_law_take) (defBody s_law_take) (defScope s_law_take) .none kV22 dc22 pm22 an22 cd22 ct22), sl22⟩) (c22 : PySem.W.codeIn K cd22 "_law_take" = true) (k22 : PySem.W.keepIn K (.ref f22) = true)
    (a23 : PySem.W.nsIn K mainGlobals "_law_value" = some (some (.ref f23))) (l23 : K.lookup f23 = some ⟨oc23, od23, .func (PySem.W.fnOf "_law_value" "_law_value" (defArgs s_law_value) (defBody s_law_value) (defScope s_law_value) .none kV23 dc23 pm23 an23 cd23 ct23), sl23⟩) (c23 : PySem.W.codeIn K cd23 "_law_value" = true) (k23 : PySem.W.keepIn K (.ref f23) = true)
    (a24 : PySem.W.nsIn K mainGlobals "_law_expression" = some (some (.ref f24))) (l24 : K.lookup f24 = some ⟨oc24, od24, .func (PySem.W.fnOf "_law_expression" "_law_expression" (defArgs s_law_expression) (defBody s_law_expression) (defScope s_law_expression) .none kV24 dc24 pm24 an24 cd24 ct24), sl24⟩) (c24 : PySem.W.codeIn K cd24 "_law_expression" = true) (k24 : PySem.W.keepIn K (.ref f24) = true)
    (a25 : PySem.W.nsIn K mainGlobals "_law_renamed" = some (some (.ref f25))) (l25 : K.lookup f25 = some ⟨oc25, od25, .func (PySem.W.fnOf "_law_renamed" "_law_renamed" (defArgs s_law_renamed) (defBody s_law_renamed) (defScope s_law_renamed) .none kV25 dc25 pm25 an25 cd25 ct25), sl25⟩) (c25 : PySem.W.codeIn K cd25 "_law_renamed" = true) (k25 : PySem.W.keepIn K (.ref f25) = true)
    (a26 : PySem.W.nsIn K mainGlobals "_law_listed" = some (some (.ref f26))) (l26 : K.lookup f26 = some ⟨oc26, od26, .func (PySem.W.fnOf "_law_listed" "_law_listed" (defArgs s_law_listed) (defBody s_law_listed) (defScope s_law_listed) .none kV26 dc26 pm26 an26 cd26 ct26), sl26⟩) (c26 : PySem.W.codeIn K cd26 "_law_listed" = true) (k26 : PySem.W.keepIn K (.ref f26) = true)
    (a27 : PySem.W.nsIn K mainGlobals "_law_known" = some (some (.ref f27))) (l27 : K.lookup f27 = some ⟨oc27, od27, .func (PySem.W.fnOf "_law_known" "_law_known" (defArgs s_law_known) (defBody s_law_known) (defScope s_law_known) .none kV27 dc27 pm27 an27 cd27 ct27), sl27⟩) (c27 : PySem.W.codeIn K cd27 "_law_known" = true) (k27 : PySem.W.keepIn K (.ref f27) = true)
    (a28 : PySem.W.nsIn K mainGlobals "_law_any" = some (some (.ref f28))) (l28 : K.lookup f28 = some ⟨oc28, od28, .func (PySem.W.fnOf "_law_any" "_law_any" (defArgs s_law_any) (defBody s_law_any) (defScope s_law_any) .none kV28 dc28 pm28 an28 cd28 ct28), sl28⟩) (c28 : PySem.W.codeIn K cd28 "_law_any" = true) (k28 : PySem.W.keepIn K (.ref f28) = true)
    (a29 : PySem.W.nsIn K mainGlobals "law" = some (some (.ref f29))) (l29 : K.lookup f29 = some ⟨oc29, od29, .func (PySem.W.fnOf "law" "law" (defArgs s_law) (defBody s_law) (defScope s_law) .none kV29 dc29 pm29 an29 cd29 ct29), sl29⟩) (c29 : PySem.W.codeIn K cd29 "law" = true) (k29 : PySem.W.keepIn K (.ref f29) = true)
    (zlen : PySem.W.nsIn K mainGlobals "len" = some none)
    (zrange : PySem.W.nsIn K mainGlobals "range" = some none)
    (zint : PySem.W.nsIn K mainGlobals "int" = some none)
    (zabs : PySem.W.nsIn K mainGlobals "abs" = some none)
    (zstr : PySem.W.nsIn K mainGlobals "str" = some none)
    (ztuple : PySem.W.nsIn K mainGlobals "tuple" = some none)
    (zlist : PySem.W.nsIn K mainGlobals "list" = some none)
    (zbool : PySem.W.nsIn K mainGlobals "bool" = some none)
    (zisinstance : PySem.W.nsIn K mainGlobals "isinstance" = some none)
    (zValueError : PySem.W.nsIn K mainGlobals "ValueError" = some none)
    (zenumerate : PySem.W.nsIn K mainGlobals "enumerate" = some none)
    (zset : PySem.W.nsIn K mainGlobals "set" = some none)
    (zreversed : PySem.W.nsIn K mainGlobals "reversed" = some none)
    (eG : PySem.W.nsIn K mainGlobals "GlassError" = some (some (.ref CG))) (eRd : PySem.W.readsIn K CG (.type "type") = true) (eSg : PySem.W.specialIn K (.ref CG) "__getattribute__" = some (some (.builtin "type.__getattribute__"))) (eVv : PySem.W.findCls K (.ref CG) (.type "type") "__init__" = some (.val (.builtin "ValueError.__init__"))) (eGt : PySem.W.specialIn K (.builtin "object.__class__") "__get__" = some (some (.builtin "getset_descriptor.__get__"))) (eTk : PySem.W.takesIn K (.builtin "object.__class__") = some true)
    (eC0 : PySem.W.nsIn K mainGlobals "BadProgram" = some (some (.ref C0))) (eL0 : K.lookup C0 = some (excClassObj nm0 q0 C0 N0 bs0 bm0 true sn0 sub0 ab0 col0 dd0 u0 v0 w0 x0 y0 "ValueError.__new__")) (eR0 : PySem.HandSPX.refsVE bm0 = true)
    (eS0 : PySem.W.findIn K (.ref C0) "__setattr__" = some (some (.builtin "object.__setattr__"))) (eX0 : PySem.W.subIn K (.ref C0) (.type "BaseException") = some true) (eT0 : PySem.W.typeIn K (.ref C0) = some (.type "type")) (eK0 : PySem.W.keepIn K (.ref C0) = true)
    (eI0 : PySem.W.findIn K (.ref C0) "__init__" = some (some (.ref I0))) (eY0 : PySem.W.typeIn K (.ref I0) = some (.type "function")) (eN0 : PySem.W.findIn K (.ref C0) "function" = some none)
    (eF0 : K.lookup I0 = some ⟨eoc0, eod0, .func (PySem.W.fnOf "__init__" "BadProgram.__init__" (defArgs s_BadProgram_init) (defBody s_BadProgram_init) (defScope s_BadProgram_init) .none ekV0 edc0 epm0 ean0 ecd0 ect0), esl0⟩) (eD0 : PySem.W.codeIn K ecd0 "BadProgram.__init__" = true) (eP0 : PySem.W.keepIn K (.ref I0) = true)
    (eA0 : PySem.W.findIn K (.ref C0) "__getattribute__" = some (some (.builtin "BaseException.__getattribute__"))) (eB0 : PySem.W.findIn K (.ref C0) "__getattr__" = some none) (eH0 : PySem.W.hasDictIn K C0 = true) (eQ0 : PySem.W.isClsIn K C0 = true) (eZ0 : PySem.W.subIn K (.ref C0) (.ref C0) = some true)
    (eE0 : PySem.W.findIn K (.ref C0) "__class__" = some (some (.builtin "object.__class__"))) (eU0 : PySem.W.kitOne K (.ref C0) (.ref CG) = some true) (eV0 : PySem.W.kitOne K (.ref C0) (.type "ValueError") = some true) (eM0 : PySem.W.mroIn K C0 (.type "object") = some true)
    (xG0 : PySem.W.nsIn K mainGlobals "BadInputs" = some (some (.ref PC0)))
    (xK0p0 : PySem.W.kitOne K (.ref C0) (.ref PC0) = some false)
    (yg0 : PySem.W.nsIn K mainGlobals "SPECIAL_WORDS" = some (some (.ref Dd0))) (yl0 : K.lookup Dd0 = some ⟨.type "dict", none, .dict Des0 Dn0, #[]⟩) (yk0 : PySem.W.KeysLit w.params Des0.toList) (yw0 : (Dd0 == sysModules) = false) (yc0 : Ents Des0.toList [([113, 117, 111, 116, 101], 1), ([105, 102], 3), ([115, 97, 109, 101], 2), ([119, 111, 114, 100], 1), ([104, 101, 97, 100], 1), ([116, 97, 105, 108], 1), ([106, 111, 105, 110], 2)])
    (gc0 : PySem.W.nsIn K mainGlobals "MOST_PARAMETERS" = some (some (.int 12 t0)))
    (gc1 : PySem.W.nsIn K mainGlobals "MOST_INPUTS" = some (some (.int 8 t1)))
    : ∃ fd : FuncData, (∀ (s : Shared) (v : Value), BindsTo s fd ⟨[v], []⟩ [("script", v)]) ∧ ∀ base : Heap, K.In base → base.Ns mainGlobals mg → FnOk l.prog w K mg base CX0 30 fa fd ["script"] (spLaw K) := by
  have e := hfa.symm.trans (PySem.W.mg_of X G a29)
  cases e
  have B : Bn mg := ⟨PySem.W.mg_none_of X G zlen, PySem.W.mg_none_of X G zrange, PySem.W.mg_none_of X G zint, PySem.W.mg_none_of X G zabs, PySem.W.mg_none_of X G zstr, PySem.W.mg_none_of X G ztuple, PySem.W.mg_none_of X G zlist, PySem.W.mg_none_of X G zbool, PySem.W.mg_none_of X G zisinstance, PySem.W.mg_none_of X G zValueError, PySem.W.mg_none_of X G zenumerate, PySem.W.mg_none_of X G zset, PySem.W.mg_none_of X G zreversed⟩
  have M : Mc mg := ⟨⟨_, PySem.W.mg_of X G gc0⟩, ⟨_, PySem.W.mg_of X G gc1⟩⟩
  have S_SPECIAL_WORDS : DictC K w mg "SPECIAL_WORDS" [([113, 117, 111, 116, 101], 1), ([105, 102], 3), ([115, 97, 109, 101], 2), ([119, 111, 114, 100], 1), ([104, 101, 97, 100], 1), ([116, 97, 105, 108], 1), ([106, 111, 105, 110], 2)] := ⟨⟨Dd0, Des0, Dn0, PySem.W.mg_of X G yg0, ⟨yl0, yk0, yw0⟩, yc0⟩⟩
  have EF0 := fun_mk (st := s_BadProgram_init) eF0 eD0 eP0
  have Eb0 := EF0.binds (ps := ["self", "function"]) fun _ _ _ _ _ _ us hl => match us, hl with | [_, _], _ => rfl
  have E_BadProgram : ErrAll K mg "BadProgram" "BadProgram.__init__" "function" s_BadProgram_init := ⟨⟨C0, CG, I0, _, ⟨PySem.W.mg_of X G eC0, PySem.W.mg_of X G eG, ⟨⟨nm0, q0, N0, bs0, bm0, sn0, sub0, ab0, col0, dd0, u0, v0, w0, x0, y0, eL0, eR0⟩, eS0, eX0, eT0, eK0⟩, eI0, eY0, eN0, eRd, eSg, eVv, EF0, Eb0⟩, ⟨eA0, eB0, eH0, eQ0, eZ0, eE0, eU0, eV0, eGt, eTk, eM0⟩⟩⟩
  have C_BadInputs : ∃ a : Addr, mg "BadInputs" = some (.ref a) := ⟨PC0, PySem.W.mg_of X G xG0⟩
  have W_BadProgram_BadInputs : ErrNot K mg "BadProgram" "BadInputs" := ⟨fun a b ha hb => by rw [PySem.W.mg_of X G eC0] at ha; rw [PySem.W.mg_of X G xG0] at hb; cases ha; cases hb; exact xK0p0⟩
  have F0 := fun_mk (st := s_check_program) l0 c0 k0
  have b0 := F0.binds (ps := p_check_program) fun _ _ _ _ _ _ us hl => match us, hl with | [_], _ => rfl
  have D_check_program : DefAt K mg "check_program" s_check_program p_check_program := ⟨⟨f0, _, F0, PySem.W.mg_of X G a0, b0⟩⟩
  have F1 := fun_mk (st := s_inputs_of) l1 c1 k1
  have b1 := F1.binds (ps := p_inputs_of) fun _ _ _ _ _ _ us hl => match us, hl with | [_], _ => rfl
  have D_inputs_of : DefAt K mg "inputs_of" s_inputs_of p_inputs_of := ⟨⟨f1, _, F1, PySem.W.mg_of X G a1, b1⟩⟩
  have F2 := fun_mk (st := s_called_functions) l2 c2 k2
  have b2 := F2.binds (ps := p_called_functions) fun _ _ _ _ _ _ us hl => match us, hl with | [_], _ => rfl
  have D_called_functions : DefAt K mg "_called_functions" s_called_functions p_called_functions := ⟨⟨f2, _, F2, PySem.W.mg_of X G a2, b2⟩⟩
  have F3 := fun_mk (st := s_looks_like_function) l3 c3 k3
  have b3 := F3.binds (ps := p_looks_like_function) fun _ _ _ _ _ _ us hl => match us, hl with | [_], _ => rfl
  have D_looks_like_function : DefAt K mg "_looks_like_function" s_looks_like_function p_looks_like_function := ⟨⟨f3, _, F3, PySem.W.mg_of X G a3, b3⟩⟩
  have F4 := fun_mk (st := s_is_good_function) l4 c4 k4
  have b4 := F4.binds (ps := p_is_good_function) fun _ _ _ _ _ _ us hl => match us, hl with | [_, _, _], _ => rfl
  have D_is_good_function : DefAt K mg "_is_good_function" s_is_good_function p_is_good_function := ⟨⟨f4, _, F4, PySem.W.mg_of X G a4, b4⟩⟩
  have F5 := fun_mk (st := s_is_good_name) l5 c5 k5
  have b5 := F5.binds (ps := p_is_good_name) fun _ _ _ _ _ _ us hl => match us, hl with | [_, _], _ => rfl
  have D_is_good_name : DefAt K mg "_is_good_name" s_is_good_name p_is_good_name := ⟨⟨f5, _, F5, PySem.W.mg_of X G a5, b5⟩⟩
  have F6 := fun_mk (st := s_are_good_parameters) l6 c6 k6
  have b6 := F6.binds (ps := p_are_good_parameters) fun _ _ _ _ _ _ us hl => match us, hl with | [_], _ => rfl
  have D_are_good_parameters : DefAt K mg "_are_good_parameters" s_are_good_parameters p_are_good_parameters := ⟨⟨f6, _, F6, PySem.W.mg_of X G a6, b6⟩⟩
  have F7 := fun_mk (st := s_is_good_body) l7 c7 k7
  have b7 := F7.binds (ps := p_is_good_body) fun _ _ _ _ _ _ us hl => match us, hl with | [_, _, _], _ => rfl
  have D_is_good_body : DefAt K mg "_is_good_body" s_is_good_body p_is_good_body := ⟨⟨f7, _, F7, PySem.W.mg_of X G a7, b7⟩⟩
  have F8 := fun_mk (st := s_has_right_parts) l8 c8 k8
  have b8 := F8.binds (ps := p_has_right_parts) fun _ _ _ _ _ _ us hl => match us, hl with | [_, _], _ => rfl
  have D_has_right_parts : DefAt K mg "_has_right_parts" s_has_right_parts p_has_right_parts := ⟨⟨f8, _, F8, PySem.W.mg_of X G a8, b8⟩⟩
  have F9 := fun_mk (st := s_fill) l9 c9 k9
  have b9 := F9.binds (ps := p_fill) fun _ _ _ _ _ _ us hl => match us, hl with | [_, _], _ => rfl
  have D_fill : DefAt K mg "fill" s_fill p_fill := ⟨⟨f9, _, F9, PySem.W.mg_of X G a9, b9⟩⟩
  have F10 := fun_mk (st := s_made_name) l10 c10 k10
  have b10 := F10.binds (ps := p_made_name) fun _ _ _ _ _ _ us hl => match us, hl with | [_], _ => rfl
  have D_made_name : DefAt K mg "made_name" s_made_name p_made_name := ⟨⟨f10, _, F10, PySem.W.mg_of X G a10, b10⟩⟩
  have F11 := fun_mk (st := s_made_parameters) l11 c11 k11
  have b11 := F11.binds (ps := p_made_parameters) fun _ _ _ _ _ _ us hl => match us, hl with | [_], _ => rfl
  have D_made_parameters : DefAt K mg "made_parameters" s_made_parameters p_made_parameters := ⟨⟨f11, _, F11, PySem.W.mg_of X G a11, b11⟩⟩
  have F12 := fun_mk (st := s_listing) l12 c12 k12
  have b12 := F12.binds (ps := p_listing) fun _ _ _ _ _ _ us hl => match us, hl with | [_], _ => rfl
  have D_listing : DefAt K mg "listing" s_listing p_listing := ⟨⟨f12, _, F12, PySem.W.mg_of X G a12, b12⟩⟩
  have F13 := fun_mk (st := s_filled) l13 c13 k13
  have b13 := F13.binds (ps := p_filled) fun _ _ _ _ _ _ us hl => match us, hl with | [_, _], _ => rfl
  have D_filled : DefAt K mg "filled" s_filled p_filled := ⟨⟨f13, _, F13, PySem.W.mg_of X G a13, b13⟩⟩
  have F14 := fun_mk (st := s_side_by_side) l14 c14 k14
  have b14 := F14.binds (ps := p_side_by_side) fun _ _ _ _ _ _ us hl => match us, hl with | [_], _ => rfl
  have D_side_by_side : DefAt K mg "side_by_side" s_side_by_side p_side_by_side := ⟨⟨f14, _, F14, PySem.W.mg_of X G a14, b14⟩⟩
  have F15 := fun_mk (st := s_with_front) l15 c15 k15
  have b15 := F15.binds (ps := p_with_front) fun _ _ _ _ _ _ us hl => match us, hl with | [_, _, _], _ => rfl
  have D_with_front : DefAt K mg "with_front" s_with_front p_with_front := ⟨⟨f15, _, F15, PySem.W.mg_of X G a15, b15⟩⟩
  have F16 := fun_mk (st := s_renamed_good) l16 c16 k16
  have b16 := F16.binds (ps := p_renamed_good) fun _ _ _ _ _ _ us hl => match us, hl with | [_, _], _ => rfl
  have D_renamed_good : DefAt K mg "_renamed_good" s_renamed_good p_renamed_good := ⟨⟨f16, _, F16, PySem.W.mg_of X G a16, b16⟩⟩
  have F17 := fun_mk (st := s_renamed_body) l17 c17 k17
  have b17 := F17.binds (ps := p_renamed_body) fun _ _ _ _ _ _ us hl => match us, hl with | [_, _], _ => rfl
  have D_renamed_body : DefAt K mg "_renamed_body" s_renamed_body p_renamed_body := ⟨⟨f17, _, F17, PySem.W.mg_of X G a17, b17⟩⟩
  have F18 := fun_mk (st := s_expressions_of) l18 c18 k18
  have b18 := F18.binds (ps := p_expressions_of) fun _ _ _ _ _ _ us hl => match us, hl with | [_], _ => rfl
  have D_expressions_of : DefAt K mg "_expressions_of" s_expressions_of p_expressions_of := ⟨⟨f18, _, F18, PySem.W.mg_of X G a18, b18⟩⟩
  have F19 := fun_mk (st := s_know_own) l19 c19 k19
  have b19 := F19.binds (ps := p_know_own) fun _ _ _ _ _ _ us hl => match us, hl with | [_], _ => rfl
  have D_know_own : DefAt K mg "know_own" s_know_own p_know_own := ⟨⟨f19, _, F19, PySem.W.mg_of X G a19, b19⟩⟩
  have F20 := fun_mk (st := s_text_of_filled) l20 c20 k20
  have b20 := F20.binds (ps := p_text_of_filled) fun _ _ _ _ _ _ us hl => match us, hl with | [_, _], _ => rfl
  have D_text_of_filled : DefAt K mg "_text_of_filled" s_text_of_filled p_text_of_filled := ⟨⟨f20, _, F20, PySem.W.mg_of X G a20, b20⟩⟩
  have F21 := fun_mk (st := s_law_draws) l21 c21 k21
  have b21 := F21.binds (ps := p_law_draws) fun _ _ _ _ _ _ us hl => match us, hl with | [_, _], _ => rfl
  have D_law_draws : DefAt K mg "_law_draws" s_law_draws p_law_draws := ⟨⟨f21, _, F21, PySem.W.mg_of X G a21, b21⟩⟩
  have F22 := fun_mk (st := s_law_take) l22 c22 k22
  have b22 := F22.binds (ps := p_law_take) fun _ _ _ _ _ _ us hl => match us, hl with | [_, _], _ => rfl
  have D_law_take : DefAt K mg "_law_take" s_law_take p_law_take := ⟨⟨f22, _, F22, PySem.W.mg_of X G a22, b22⟩⟩
  have F23 := fun_mk (st := s_law_value) l23 c23 k23
  have b23 := F23.binds (ps := p_law_value) fun _ _ _ _ _ _ us hl => match us, hl with | [_, _], _ => rfl
  have D_law_value : DefAt K mg "_law_value" s_law_value p_law_value := ⟨⟨f23, _, F23, PySem.W.mg_of X G a23, b23⟩⟩
  have F24 := fun_mk (st := s_law_expression) l24 c24 k24
  have b24 := F24.binds (ps := p_law_expression) fun _ _ _ _ _ _ us hl => match us, hl with | [_, _, _, _], _ => rfl
  have D_law_expression : DefAt K mg "_law_expression" s_law_expression p_law_expression := ⟨⟨f24, _, F24, PySem.W.mg_of X G a24, b24⟩⟩
  have F25 := fun_mk (st := s_law_renamed) l25 c25 k25
  have b25 := F25.binds (ps := p_law_renamed) fun _ _ _ _ _ _ us hl => match us, hl with | [_, _], _ => rfl
  have D_law_renamed : DefAt K mg "_law_renamed" s_law_renamed p_law_renamed := ⟨⟨f25, _, F25, PySem.W.mg_of X G a25, b25⟩⟩
  have F26 := fun_mk (st := s_law_listed) l26 c26 k26
  have b26 := F26.binds (ps := p_law_listed) fun _ _ _ _ _ _ us hl => match us, hl with | [_], _ => rfl
  have D_law_listed : DefAt K mg "_law_listed" s_law_listed p_law_listed := ⟨⟨f26, _, F26, PySem.W.mg_of X G a26, b26⟩⟩
  have F27 := fun_mk (st := s_law_known) l27 c27 k27
  have b27 := F27.binds (ps := p_law_known) fun _ _ _ _ _ _ us hl => match us, hl with | [_, _], _ => rfl
  have D_law_known : DefAt K mg "_law_known" s_law_known p_law_known := ⟨⟨f27, _, F27, PySem.W.mg_of X G a27, b27⟩⟩
  have F28 := fun_mk (st := s_law_any) l28 c28 k28
  have b28 := F28.binds (ps := p_law_any) fun _ _ _ _ _ _ us hl => match us, hl with | [_], _ => rfl
  have D_law_any : DefAt K mg "_law_any" s_law_any p_law_any := ⟨⟨f28, _, F28, PySem.W.mg_of X G a28, b28⟩⟩
  have F29 := fun_mk (st := s_law) l29 c29 k29
  have b29 := F29.binds (ps := p_law) fun _ _ _ _ _ _ us hl => match us, hl with | [_], _ => rfl
  refine ⟨PySem.W.fnOf "law" "law" (defArgs s_law) (defBody s_law) (defScope s_law) .none kV29 dc29 pm29 an29 cd29 ct29, fun s v => .of_eq rfl, fun base _ _ => ?_⟩
  exact ok_law F29 B M S_SPECIAL_WORDS E_BadProgram C_BadInputs W_BadProgram_BadInputs D_check_program D_inputs_of D_called_functions D_looks_like_function D_is_good_function D_is_good_name D_are_good_parameters D_is_good_body D_has_right_parts D_fill D_made_name D_made_parameters D_listing D_filled D_side_by_side D_with_front D_renamed_good D_renamed_body D_expressions_of D_know_own D_text_of_filled D_law_draws D_law_take D_law_value D_law_expression D_law_renamed D_law_listed D_law_known D_law_any
theorem walk {l : PySem.W.OpenLaw} {q : Program} {loose : List Str} {XP : (Str → Option Value) → Heap → Prop} {YP : World → Heap → Prop} {d : DefRec} {K : Params → PySem.W.Frag} (hn : l.most = some 63) (hdf : d.params.defaults = [])
    (hY : ∀ (w : World) (h : Heap), YP w h → (K w.params).In h)
    (F : ∀ (w : World) (mg : Str → Option Value) (fa : Addr) (h : Heap), (K w.params).In h → h.Ns mainGlobals mg → mg d.name = some (.ref fa) →
      ∃ fd : FuncData, (∀ (s : Shared) (u : Value), BindsTo s fd ⟨[u], []⟩ [("script", u)]) ∧ ∀ base : Heap, (K w.params).In base → base.Ns mainGlobals mg → FnOk l.prog w (K w.params) mg base CX0 30 fa fd ["script"] (spLaw (K w.params))) :
    PySem.W.WalkO q loose XP YP l.row.toRowW d [] (fun f vs => PySem.call f vs) :=
  L2.walk_of (n := 63) (k := 30) (x := "script") (CX := fun _ => CX0) (sp := fun w => spLaw (K w.params)) hn (by decide) hdf ⟨rfl, by decide, by decide⟩ hY F (fun _ _ a ns hl _ hS => ⟨a, ns, rfl, hS, hl, fun _ => rfl⟩) fun _ _ _ _ _ z => z
end Og
open PySem PySem.W PyProof.Rows
set_option maxRecDepth 100000 in
set_option maxHeartbeats 0 in
theorem PySem.Challenge.cw_ownglass_k24_made_tree_holds : PySem.Challenge.rw_ownglass_k24_made_tree.Holds := by
  w_on; o_law; k_head; (case hw => w_witness2)
  k_fill
  refine Og.walk (l := PySem.Challenge.rw_ownglass_k24_made_tree) rfl rfl (fun w h Y => PySem.W.kIn_of Y) ?F
  case F =>
    intro w mg fa h KX G hmg
    refine' Og.all_mk KX G hmg ?a0 ?l0 ?c0 ?k0 ?a1 ?l1 ?c1 ?k1 ?a2 ?l2 ?c2 ?k2 ?a3 ?l3 ?c3 ?k3 ?a4 ?l4 ?c4 ?k4 ?a5 ?l5 ?c5 ?k5 ?a6 ?l6 ?c6 ?k6 ?a7 ?l7 ?c7 ?k7 ?a8 ?l8 ?c8 ?k8 ?a9 ?l9 ?c9 ?k9 ?a10 ?l10 ?c10 ?k10 ?a11 ?l11 ?c11 ?k11 ?a12 ?l12 ?c12 ?k12 ?a13 ?l13 ?c13 ?k13 ?a14 ?l14 ?c14 ?k14 ?a15 ?l15 ?c15 ?k15 ?a16 ?l16 ?c16 ?k16 ?a17 ?l17 ?c17 ?k17 ?a18 ?l18 ?c18 ?k18 ?a19 ?l19 ?c19 ?k19 ?a20 ?l20 ?c20 ?k20 ?a21 ?l21 ?c21 ?k21 ?a22 ?l22 ?c22 ?k22 ?a23 ?l23 ?c23 ?k23 ?a24 ?l24 ?c24 ?k24 ?a25 ?l25 ?c25 ?k25 ?a26 ?l26 ?c26 ?k26 ?a27 ?l27 ?c27 ?k27 ?a28 ?l28 ?c28 ?k28 ?a29 ?l29 ?c29 ?k29 ?zlen ?zrange ?zint ?zabs ?zstr ?ztuple ?zlist ?zbool ?zisinstance ?zValueError ?zenumerate ?zset ?zreversed ?eG ?eRd ?eSg ?eVv ?eGt ?eTk ?eC0 ?eL0 ?eR0 ?eS0 ?eX0 ?eT0 ?eK0 ?eI0 ?eY0 ?eN0 ?eF0 ?eD0 ?eP0 ?eA0 ?eB0 ?eH0 ?eQ0 ?eZ0 ?eE0 ?eU0 ?eV0 ?eM0 ?xG0 ?xK0p0 ?yg0 ?yl0 ?yk0 ?yw0 ?yc0 ?gc0 ?gc1
    (case a0 => first | k_is | rfl | decide +kernel)
    (case l0 => first | k_is | rfl | decide +kernel)
    (case c0 => first | k_is | rfl | decide +kernel)
    (case k0 => first | k_is | rfl | decide +kernel)
    (case a1 => first | k_is | rfl | decide +kernel)
    (case l1 => first | k_is | rfl | decide +kernel)
    (case c1 => first | k_is | rfl | decide +kernel)
    (case k1 => first | k_is | rfl | decide +kernel)
    (case a2 => first | k_is | rfl | decide +kernel)
    (case l2 => first | k_is | rfl | decide +kernel)
    (case c2 => first | k_is | rfl | decide +kernel)
    (case k2 => first | k_is | rfl | decide +kernel)
    (case a3 => first | k_is | rfl | decide +kernel)
    (case l3 => first | k_is | rfl | decide +kernel)
    (case c3 => first | k_is | rfl | decide +kernel)
    (case k3 => first | k_is | rfl | decide +kernel)
    (case a4 => first | k_is | rfl | decide +kernel)
    (case l4 => first | k_is | rfl | decide +kernel)
    (case c4 => first | k_is | rfl | decide +kernel)
    (case k4 => first | k_is | rfl | decide +kernel)
    (case a5 => first | k_is | rfl | decide +kernel)
    (case l5 => first | k_is | rfl | decide +kernel)
    (case c5 => first | k_is | rfl | decide +kernel)
    (case k5 => first | k_is | rfl | decide +kernel)
    (case a6 => first | k_is | rfl | decide +kernel)
    (case l6 => first | k_is | rfl | decide +kernel)
    (case c6 => first | k_is | rfl | decide +kernel)
    (case k6 => first | k_is | rfl | decide +kernel)
    (case a7 => first | k_is | rfl | decide +kernel)
    (case l7 => first | k_is | rfl | decide +kernel)
    (case c7 => first | k_is | rfl | decide +kernel)
    (case k7 => first | k_is | rfl | decide +kernel)
    (case a8 => first | k_is | rfl | decide +kernel)
    (case l8 => first | k_is | rfl | decide +kernel)
    (case c8 => first | k_is | rfl | decide +kernel)
    (case k8 => first | k_is | rfl | decide +kernel)
    (case a9 => first | k_is | rfl | decide +kernel)
    (case l9 => first | k_is | rfl | decide +kernel)
    (case c9 => first | k_is | rfl | decide +kernel)
    (case k9 => first | k_is | rfl | decide +kernel)
    (case a10 => first | k_is | rfl | decide +kernel)
    (case l10 => first | k_is | rfl | decide +kernel)
    (case c10 => first | k_is | rfl | decide +kernel)
    (case k10 => first | k_is | rfl | decide +kernel)
    (case a11 => first | k_is | rfl | decide +kernel)
    (case l11 => first | k_is | rfl | decide +kernel)
    (case c11 => first | k_is | rfl | decide +kernel)
    (case k11 => first | k_is | rfl | decide +kernel)
    (case a12 => first | k_is | rfl | decide +kernel)
    (case l12 => first | k_is | rfl | decide +kernel)
    (case c12 => first | k_is | rfl | decide +kernel)
    (case k12 => first | k_is | rfl | decide +kernel)
    (case a13 => first | k_is | rfl | decide +kernel)
    (case l13 => first | k_is | rfl | decide +kernel)
    (case c13 => first | k_is | rfl | decide +kernel)
    (case k13 => first | k_is | rfl | decide +kernel)
    (case a14 => first | k_is | rfl | decide +kernel)
    (case l14 => first | k_is | rfl | decide +kernel)
    (case c14 => first | k_is | rfl | decide +kernel)
    (case k14 => first | k_is | rfl | decide +kernel)
    (case a15 => first | k_is | rfl | decide +kernel)
    (case l15 => first | k_is | rfl | decide +kernel)
    (case c15 => first | k_is | rfl | decide +kernel)
    (case k15 => first | k_is | rfl | decide +kernel)
    (case a16 => first | k_is | rfl | decide +kernel)
    (case l16 => first | k_is | rfl | decide +kernel)
    (case c16 => first | k_is | rfl | decide +kernel)
    (case k16 => first | k_is | rfl | decide +kernel)
    (case a17 => first | k_is | rfl | decide +kernel)
    (case l17 => first | k_is | rfl | decide +kernel)
    (case c17 => first | k_is | rfl | decide +kernel)
    (case k17 => first | k_is | rfl | decide +kernel)
    (case a18 => first | k_is | rfl | decide +kernel)
    (case l18 => first | k_is | rfl | decide +kernel)
    (case c18 => first | k_is | rfl | decide +kernel)
    (case k18 => first | k_is | rfl | decide +kernel)
    (case a19 => first | k_is | rfl | decide +kernel)
    (case l19 => first | k_is | rfl | decide +kernel)
    (case c19 => first | k_is | rfl | decide +kernel)
    (case k19 => first | k_is | rfl | decide +kernel)
    (case a20 => first | k_is | rfl | decide +kernel)
    (case l20 => first | k_is | rfl | decide +kernel)
    (case c20 => first | k_is | rfl | decide +kernel)
    (case k20 => first | k_is | rfl | decide +kernel)
    (case a21 => first | k_is | rfl | decide +kernel)
    (case l21 => first | k_is | rfl | decide +kernel)
    (case c21 => first | k_is | rfl | decide +kernel)
    (case k21 => first | k_is | rfl | decide +kernel)
    (case a22 => first | k_is | rfl | decide +kernel)
    (case l22 => first | k_is | rfl | decide +kernel)
    (case c22 => first | k_is | rfl | decide +kernel)
    (case k22 => first | k_is | rfl | decide +kernel)
    (case a23 => first | k_is | rfl | decide +kernel)
    (case l23 => first | k_is | rfl | decide +kernel)
    (case c23 => first | k_is | rfl | decide +kernel)
    (case k23 => first | k_is | rfl | decide +kernel)
    (case a24 => first | k_is | rfl | decide +kernel)
    (case l24 => first | k_is | rfl | decide +kernel)
    (case c24 => first | k_is | rfl | decide +kernel)
    (case k24 => first | k_is | rfl | decide +kernel)
    (case a25 => first | k_is | rfl | decide +kernel)
    (case l25 => first | k_is | rfl | decide +kernel)
    (case c25 => first | k_is | rfl | decide +kernel)
    (case k25 => first | k_is | rfl | decide +kernel)
    (case a26 => first | k_is | rfl | decide +kernel)
    (case l26 => first | k_is | rfl | decide +kernel)
    (case c26 => first | k_is | rfl | decide +kernel)
    (case k26 => first | k_is | rfl | decide +kernel)
    (case a27 => first | k_is | rfl | decide +kernel)
    (case l27 => first | k_is | rfl | decide +kernel)
    (case c27 => first | k_is | rfl | decide +kernel)
    (case k27 => first | k_is | rfl | decide +kernel)
    (case a28 => first | k_is | rfl | decide +kernel)
    (case l28 => first | k_is | rfl | decide +kernel)
    (case c28 => first | k_is | rfl | decide +kernel)
    (case k28 => first | k_is | rfl | decide +kernel)
    (case a29 => first | k_is | rfl | decide +kernel)
    (case l29 => first | k_is | rfl | decide +kernel)
    (case c29 => first | k_is | rfl | decide +kernel)
    (case k29 => first | k_is | rfl | decide +kernel)
    (case zlen => first | k_is | rfl | decide +kernel)
    (case zrange => first | k_is | rfl | decide +kernel)
    (case zint => first | k_is | rfl | decide +kernel)
    (case zabs => first | k_is | rfl | decide +kernel)
    (case zstr => first | k_is | rfl | decide +kernel)
    (case ztuple => first | k_is | rfl | decide +kernel)
    (case zlist => first | k_is | rfl | decide +kernel)
    (case zbool => first | k_is | rfl | decide +kernel)
    (case zisinstance => first | k_is | rfl | decide +kernel)
    (case zValueError => first | k_is | rfl | decide +kernel)
    (case zenumerate => first | k_is | rfl | decide +kernel)
    (case zset => first | k_is | rfl | decide +kernel)
    (case zreversed => first | k_is | rfl | decide +kernel)
    (case eG => first | k_is | rfl | decide +kernel)
    (case eRd => first | k_is | rfl | decide +kernel)
    (case eSg => first | k_is | rfl | decide +kernel)
    (case eVv => first | k_is | rfl | decide +kernel)
    (case eGt => first | k_is | rfl | decide +kernel)
    (case eTk => first | k_is | rfl | decide +kernel)
    (case eC0 => first | k_is | rfl | decide +kernel)
    (case eL0 => first | k_is | rfl | decide +kernel)
    (case eR0 => decide +kernel)
    (case eS0 => first | k_is | rfl | decide +kernel)
    (case eX0 => first | k_is | rfl | decide +kernel)
    (case eT0 => first | k_is | rfl | decide +kernel)
    (case eK0 => first | k_is | rfl | decide +kernel)
    (case eI0 => first | k_is | rfl | decide +kernel)
    (case eY0 => first | k_is | rfl | decide +kernel)
    (case eN0 => first | k_is | rfl | decide +kernel)
    (case eF0 => first | k_is | rfl | decide +kernel)
    (case eD0 => first | k_is | rfl | decide +kernel)
    (case eP0 => first | k_is | rfl | decide +kernel)
    (case eA0 => first | k_is | rfl | decide +kernel)
    (case eB0 => first | k_is | rfl | decide +kernel)
    (case eH0 => first | k_is | rfl | decide +kernel)
    (case eQ0 => first | k_is | rfl | decide +kernel)
    (case eZ0 => first | k_is | rfl | decide +kernel)
    (case eE0 => first | k_is | rfl | decide +kernel)
    (case eU0 => first | k_is | rfl | decide +kernel)
    (case eV0 => first | k_is | rfl | decide +kernel)
    (case eM0 => first | k_is | rfl | decide +kernel)
    (case xG0 => first | k_is | rfl | decide +kernel)
    (case xK0p0 => first | k_is | rfl | decide +kernel)
    (case yg0 => first | k_is | rfl | decide +kernel)
    (case yl0 => first | k_is | rfl | decide +kernel)
    (case yk0 => exact ⟨⟨_, _, rfl, rfl⟩, ⟨⟨_, _, rfl, rfl⟩, ⟨⟨_, _, rfl, rfl⟩, ⟨⟨_, _, rfl, rfl⟩, ⟨⟨_, _, rfl, rfl⟩, ⟨⟨_, _, rfl, rfl⟩, ⟨⟨_, _, rfl, rfl⟩, trivial⟩⟩⟩⟩⟩⟩⟩)
    (case yw0 => first | k_is | rfl | decide +kernel)
    (case yc0 => exact ⟨⟨_, rfl⟩, ⟨_, rfl⟩, ⟨⟨_, rfl⟩, ⟨_, rfl⟩, ⟨⟨_, rfl⟩, ⟨_, rfl⟩, ⟨⟨_, rfl⟩, ⟨_, rfl⟩, ⟨⟨_, rfl⟩, ⟨_, rfl⟩, ⟨⟨_, rfl⟩, ⟨_, rfl⟩, ⟨⟨_, rfl⟩, ⟨_, rfl⟩, trivial⟩⟩⟩⟩⟩⟩⟩)
    (case gc0 => first | k_is | rfl | decide +kernel)
    (case gc1 => first | k_is | rfl | decide +kernel)
