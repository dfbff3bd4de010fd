import PyProof.Rows.All
import Wide.All
import OpenK.AllK
import Wide.FinOn
import HandS.ForMost
import HandS.IsInst
import HandS.TupAny
import HandS.Style
import HandS.Codes
import HandS.TryOnly
import HandS.TupMul
import HandS.SetKeys
import HandS.StrMore
import HandS.Zip
import KE.GoesEnum
import HandS.ForExc
import HandS.ExcInit
import HandS.ExcIs
import HandS.ExcField
import HandS.FStr
import HandS.WordsExc
import HandS.ExcValue
import KE.KIntText
import KE.IntTextText
import HandS.More
import HandS.Text
import HandS.Strs
import HandS.Rev
import PyProof.CollectIter
import PyProof.WalksMore
import HandS.DictComp
import PySem.Challenge.RW_ownglass_k51_machine_programs_that_are_r
set_option Elab.async false
set_option linter.all false
set_option maxRecDepth 100000
set_option maxHeartbeats 4000000
set_option Elab.async false
set_option linter.all false
set_option maxRecDepth 100000
/-! L0: what the proofs of all laws share: heaps that keep all but some lists, trees (words and lists of trees), the law's hand, callees. -/
namespace Og
open PySem PySem.Spec PyProof.Rows L2

/-! ### heaps: each tracked thing stays, but for lists at the places S -/
def Keep (S : List Addr) (H H' : Hp) : Prop := ∀ b o, H b = some o → H' b = some o ∨ (b ∈ S ∧ ∃ xs ys, o = .lst xs ∧ H' b = some (.lst ys))
theorem Keep.refl {S : List Addr} {H : Hp} : Keep S H H := fun _ _ e => .inl e
theorem Keep.trans {S : List Addr} {H H1 H2 : Hp} (a : Keep S H H1) (b : Keep S H1 H2) : Keep S H H2 := fun p o e => by
  rcases a p o e with h | ⟨h, xs, ys, e1, e2⟩
  · exact b p o h
  · rcases b p _ e2 with h' | ⟨_, xs', ys', e3, e4⟩
    · exact .inr ⟨h, xs, ys, e1, h'⟩
    · exact .inr ⟨h, xs, ys', e1, e4⟩
theorem Keep.mono {S S' : List Addr} {H H1 : Hp} (a : Keep S H H1) (h : ∀ x ∈ S, x ∈ S') : Keep S' H H1 := fun p o e => by
  rcases a p o e with q | ⟨q, r⟩
  · exact .inl q
  · exact .inr ⟨h _ q, r⟩
theorem Keep.new {S : List Addr} {H : Hp} {p : Addr} {o : HO} (h : H p = none) : Keep S H (upd H p o) := fun b u e => .inl (by rw [upd_ne (ne_of_none e h)]; exact e)
theorem Keep.newT {S : List Addr} {H H1 : Hp} {p : Addr} {o : HO} (a : Keep S H H1) (h : H1 p = none) : Keep S H (upd H1 p o) := a.trans (Keep.new h)
theorem Keep.set {S : List Addr} {H : Hp} {p : Addr} {xs ys : List V} (h : H p = some (.lst xs)) (m : p ∈ S) : Keep S H (upd H p (.lst ys)) := fun b u e => by
  by_cases hb : b = p
  · subst hb
    rw [h] at e
    cases e
    exact .inr ⟨m, xs, ys, rfl, upd_same⟩
  · exact .inl (by rw [upd_ne hb]; exact e)
theorem Keep.setT {S : List Addr} {H H1 : Hp} {p : Addr} {xs ys : List V} (a : Keep S H H1) (h : H1 p = some (.lst xs)) (m : p ∈ S) : Keep S H (upd H1 p (.lst ys)) := a.trans (Keep.set h m)
/-- a list that is new may change -/
theorem Keep.drop {S : List Addr} {H H1 : Hp} {p : Addr} (a : Keep (p :: S) H H1) (h : H p = none) : Keep S H H1 := fun b o e => by
  rcases a b o e with q | ⟨q, r⟩
  · exact .inl q
  · rcases List.mem_cons.mp q with q | q
    · subst q
      rw [h] at e
      cases e
    · exact .inr ⟨q, r⟩
theorem Keep.cons {S : List Addr} {H H1 : Hp} {p : Addr} (a : Keep S H H1) : Keep (p :: S) H H1 := a.mono fun _ h => List.mem_cons_of_mem _ h
theorem Keep.get {S : List Addr} {H H1 : Hp} {b : Addr} {o : HO} (a : Keep S H H1) (e : H b = some o) (h : b ∉ S) : H1 b = some o := by
  rcases a b o e with q | ⟨q, _⟩
  · exact q
  · exact absurd q h
theorem Keep.free {S : List Addr} {H H1 : Hp} {b : Addr} (a : Keep S H H1) (e : H1 b = none) : H b = none := by
  cases q : H b with
  | none => rfl
  | some o =>
    rcases a b o q with r | ⟨_, _, _, _, r⟩ <;> rw [r] at e <;> cases e
theorem Keep.rdT {S : List Addr} {H H1 : Hp} {b : Addr} {xs : List V} (a : Keep S H H1) (e : Rd H b (.tup xs)) : Rd H1 b (.tup xs) := by
  rcases e with e | ⟨o, e⟩
  · rcases a b _ e with q | ⟨_, _, _, q, _⟩
    · exact .inl q
    · cases q
  · rcases a b _ e with q | ⟨_, _, _, q, _⟩
    · exact .inr ⟨o, q⟩
    · cases q
theorem Keep.sqT {K : PySem.W.Frag} {S : List Addr} {H H1 : Hp} {b : Addr} {xs : List V} (a : Keep S H H1) (e : SqT K H b xs) : SqT K H1 b xs := by
  rcases e with e | e
  · exact .inl (a.rdT e)
  · exact .inr e
theorem Keep.sqL {K : PySem.W.Frag} {S : List Addr} {H H1 : Hp} {b : Addr} {xs : List V} (a : Keep S H H1) (h : b ∉ S) (e : SqL K H b xs) : SqL K H1 b xs := by
  rcases e with (e | ⟨o, e⟩) | e
  · exact .inl (.inl (a.get e h))
  · exact .inl (.inr ⟨o, a.get e h⟩)
  · exact .inr e
theorem Keep.tup {S : List Addr} {H H1 : Hp} {b : Addr} {xs : List V} (a : Keep S H H1) (e : H b = some (.tup xs)) : H1 b = some (.tup xs) := by
  rcases a b _ e with q | ⟨_, _, _, q, _⟩
  · exact q
  · cases q
theorem Keep.of_same {S : List Addr} {H H1 : Hp} (a : Same H H1) : Keep S H H1 := fun b o e => .inl (a b o e)
theorem Keep.same {H H1 : Hp} (a : Keep [] H H1) : Same H H1 := fun b o e => a.get e (by simp)

/-! ### texts by their codes -/
def tx (cs : List Nat) : Str := ⟨cs.toArray⟩
theorem tx_list (cs : List Nat) : (tx cs).cps.toList = cs := rfl
theorem tx_len (cs : List Nat) : (tx cs).length = cs.length := by
  show cs.toArray.size = cs.length
  simp
theorem tx_app (a b : List Nat) : tx a ++ tx b = tx (a ++ b) := by
  show Str.mk (a.toArray ++ b.toArray) = Str.mk (a ++ b).toArray
  simp
theorem tx_of (s : Str) : s = tx s.cps.toList := by
  cases s
  rfl
theorem tx_inj {a b : List Nat} (h : tx a = tx b) : a = b := by
  have q := congrArg (fun s : Str => s.cps.toList) h
  exact q
theorem tx_str {a b : List Nat} (h : V.str (tx a) = V.str (tx b)) : a = b := tx_inj (V.str.inj h)
theorem atI_tx {cs : List Nat} {z : Int} {c : Nat} (h : atI (tx cs).cps.toList z = some c) : atI cs z = some c := h
/-! ### trees -/
inductive Tree where
  | w (x : List Nat)
  | l (ts : List Tree)
mutual
def Tr (K : PySem.W.Frag) (H : Hp) : V → Tree → Prop
  | v, .w x => v = .str (tx x)
  | v, .l ts => ∃ a vs, v = .ref a ∧ SqT K H a vs ∧ Trs K H vs ts
def Trs (K : PySem.W.Frag) (H : Hp) : List V → List Tree → Prop
  | vs, [] => vs = []
  | vs, t :: ts => ∃ v r, vs = v :: r ∧ Tr K H v t ∧ Trs K H r ts
end
mutual
theorem Tr.keep {K : PySem.W.Frag} {S : List Addr} {H H1 : Hp} (a : Keep S H H1) : ∀ {v : V} {t : Tree}, Tr K H v t → Tr K H1 v t
  | v, .w x, h => by rw [Tr] at h ⊢; exact h
  | v, .l ts, h => by
    rw [Tr] at h ⊢
    obtain ⟨p, vs, e, h1, h2⟩ := h
    exact ⟨p, vs, e, a.sqT h1, Trs.keep a h2⟩
theorem Trs.keep {K : PySem.W.Frag} {S : List Addr} {H H1 : Hp} (a : Keep S H H1) : ∀ {vs : List V} {ts : List Tree}, Trs K H vs ts → Trs K H1 vs ts
  | vs, [], h => by rw [Trs] at h ⊢; exact h
  | vs, t :: ts, h => by
    rw [Trs] at h ⊢
    obtain ⟨v, r, e, h1, h2⟩ := h
    exact ⟨v, r, e, Tr.keep a h1, Trs.keep a h2⟩
end
section
variable {K : PySem.W.Frag} {H : Hp}
theorem tr_w {x : List Nat} : Tr K H (.str (tx x)) (.w x) := by rw [Tr]
theorem tr_l {a : Addr} {vs : List V} {ts : List Tree} (h : SqT K H a vs) (r : Trs K H vs ts) : Tr K H (.ref a) (.l ts) := by rw [Tr]; exact ⟨a, vs, rfl, h, r⟩
theorem trs_nil : Trs K H [] [] := by rw [Trs]
theorem trs_cons {v : V} {vs : List V} {t : Tree} {ts : List Tree} (h : Tr K H v t) (r : Trs K H vs ts) : Trs K H (v :: vs) (t :: ts) := by rw [Trs]; exact ⟨v, vs, rfl, h, r⟩
theorem Tr.word {v : V} {x : List Nat} (h : Tr K H v (.w x)) : v = .str (tx x) := by rw [Tr] at h; exact h
theorem Tr.list {v : V} {ts : List Tree} (h : Tr K H v (.l ts)) : ∃ a vs, v = .ref a ∧ SqT K H a vs ∧ Trs K H vs ts := by rw [Tr] at h; exact h
theorem Trs.nil {vs : List V} (h : Trs K H vs []) : vs = [] := by rw [Trs] at h; exact h
theorem Trs.cons {vs : List V} {t : Tree} {ts : List Tree} (h : Trs K H vs (t :: ts)) : ∃ v r, vs = v :: r ∧ Tr K H v t ∧ Trs K H r ts := by rw [Trs] at h; exact h
theorem Trs.length : ∀ {vs : List V} {ts : List Tree}, Trs K H vs ts → vs.length = ts.length
  | vs, [], h => by rw [h.nil]; rfl
  | vs, t :: ts, h => by
    obtain ⟨v, r, rfl, _, h2⟩ := h.cons
    rw [List.length_cons, List.length_cons, Trs.length h2]
theorem Trs.get : ∀ {vs : List V} {ts : List Tree} {i : Nat} {t : Tree}, Trs K H vs ts → ts[i]? = some t → ∃ v, vs[i]? = some v ∧ Tr K H v t
  | vs, [], i, t, h, e => by simp at e
  | vs, t' :: ts, 0, t, h, e => by
    obtain ⟨v, r, rfl, h1, h2⟩ := h.cons
    have e' : t' = t := Option.some.inj e
    subst e'
    exact ⟨v, rfl, h1⟩
  | vs, t' :: ts, i + 1, t, h, e => by
    obtain ⟨v, r, rfl, h1, h2⟩ := h.cons
    exact Trs.get (i := i) h2 e
theorem Trs.append : ∀ {vs ws : List V} {ts us : List Tree}, Trs K H vs ts → Trs K H ws us → Trs K H (vs ++ ws) (ts ++ us)
  | vs, ws, [], us, h, g => by rw [h.nil]; exact g
  | vs, ws, t :: ts, us, h, g => by
    obtain ⟨v, r, rfl, h1, h2⟩ := h.cons
    exact trs_cons h1 (Trs.append h2 g)
theorem Trs.take : ∀ {vs : List V} {ts : List Tree} (n : Nat), Trs K H vs ts → Trs K H (vs.take n) (ts.take n)
  | vs, ts, 0, h => trs_nil
  | vs, [], n + 1, h => by rw [h.nil]; exact trs_nil
  | vs, t :: ts, n + 1, h => by
    obtain ⟨v, r, rfl, h1, h2⟩ := h.cons
    exact trs_cons h1 (Trs.take n h2)
theorem Trs.drop : ∀ {vs : List V} {ts : List Tree} (n : Nat), Trs K H vs ts → Trs K H (vs.drop n) (ts.drop n)
  | vs, ts, 0, h => h
  | vs, [], n + 1, h => by rw [h.nil]; exact trs_nil
  | vs, t :: ts, n + 1, h => by
    obtain ⟨v, r, rfl, h1, h2⟩ := h.cons
    exact Trs.drop n h2
theorem tr_tup {a : Addr} {vs : List V} {ts : List Tree} (h : H a = some (.tup vs)) (r : Trs K H vs ts) : Tr K H (.ref a) (.l ts) := tr_l (.inl (.inl h)) r
end
theorem Trs.snoc {K : PySem.W.Frag} {H : Hp} {vs : List V} {its : List Tree} {x : Tree} (h : Trs K H vs (its ++ [x])) : ∃ vs' v, vs = vs' ++ [v] ∧ Trs K H vs' its ∧ Tr K H v x := by
  induction its generalizing vs with
  | nil =>
    obtain ⟨v, r, rfl, h1, h2⟩ := h.cons
    rw [h2.nil]
    exact ⟨[], v, rfl, trs_nil, h1⟩
  | cons t ts ih =>
    obtain ⟨v, r, rfl, h1, h2⟩ := h.cons
    obtain ⟨vs', v', rfl, h3, h4⟩ := ih h2
    exact ⟨v :: vs', v', rfl, trs_cons h1 h3, h4⟩
theorem Trs.one {K : PySem.W.Frag} {H : Hp} {v : V} {t : Tree} (h : Tr K H v t) : Trs K H [v] [t] := trs_cons h trs_nil
theorem last_get {α : Type} (xs : List α) (x : α) : (xs ++ [x])[(xs ++ [x]).length - 1]? = some x := by
  rw [List.length_append, List.length_singleton, Nat.add_sub_cancel, List.getElem?_append_right (Nat.le_refl _), Nat.sub_self]
  rfl
theorem snoc_of {α : Type} {xs : List α} (h : xs ≠ []) : ∃ ys y, xs = ys ++ [y] := ⟨xs.dropLast, xs.getLast h, (List.dropLast_concat_getLast h).symm⟩
theorem emp_iff {vs : List V} {its : List Tree} {K : PySem.W.Frag} {H : Hp} (h : Trs K H vs its) : vs.isEmpty = its.isEmpty := by
  cases its with
  | nil => rw [h.nil]; rfl
  | cons t r => obtain ⟨v, r', rfl, _⟩ := h.cons; rfl
theorem SqT.of_tup {K : PySem.W.Frag} {H : Hp} {a : Addr} {vs : List V} (h : H a = some (.tup vs)) : SqT K H a vs := .inl (.inl h)

/-- a comprehension without a test -/
theorem yes {σ : L2.St} {H : Hp} {A B : Hp → Prop} (h : A H) : tYes σ H fun b H3 => if b = true then A H3 else B H3 := by
  show (if true = true then A H else B H)
  rw [if_pos rfl]
  exact h
/-! ### lists of ints -/
theorem map_int_get {ns : List Int} {i : Nat} {x : V} (h : (ns.map V.int)[i]? = some x) : ∃ n, x = .int n ∧ ns[i]? = some n := by
  rw [List.getElem?_map] at h
  cases e : ns[i]? with
  | none => rw [e] at h; cases h
  | some n => rw [e] at h; exact ⟨n, (Option.some.inj h).symm, rfl⟩
theorem atI_of {α : Type} {xs : List α} {z : Int} (h0 : 0 ≤ z) (h : z < (xs.length : Int)) : ∃ x, atI xs z = some x ∧ xs[z.toNat]? = some x := by
  have l : z.toNat < xs.length := by omega
  refine ⟨xs[z.toNat], ?_, List.getElem?_eq_getElem l⟩
  have q := atI_nat (List.getElem?_eq_getElem l)
  rw [show ((z.toNat : Nat) : Int) = z by omega] at q
  exact q
theorem atI_zero {α : Type} (x : α) (xs : List α) : atI (x :: xs) 0 = some x := atI_nat (j := 0) rfl
theorem atI_int {ns : List Int} {z : Int} (h0 : 0 ≤ z) (h : z < (ns.length : Int)) : ∃ n, atI (ns.map V.int) z = some (.int n) := by
  obtain ⟨x, h1, h2⟩ := atI_of (xs := ns.map V.int) h0 (by rw [List.length_map]; exact h)
  obtain ⟨n, rfl, _⟩ := map_int_get h2
  exact ⟨n, h1⟩
theorem ixN_int {n : Nat} {z : Int} (h0 : 0 ≤ z) (h : z < (n : Int)) : ixN n z = some z.toNat := by
  unfold ixN
  rw [if_pos h0, if_pos h]
theorem map_int_set (ns : List Int) (j : Nat) (y : Int) : (ns.map V.int).set j (.int y) = (ns.set j y).map V.int := by
  rw [List.map_set]
theorem map_int_app (ns : List Int) (y : Int) : ns.map V.int ++ [V.int y] = (ns ++ [y]).map V.int := by
  rw [List.map_append]; rfl

/-! ### isinstance, truth -/
def Tree.isW : Tree → Bool
  | .w _ => true
  | .l _ => false
section
variable {K : PySem.W.Frag} {H : Hp}
theorem tyX_tup {a : Addr} {xs : List V} (h : SqT K H a xs) : TyX K H (.ref a) (.type "tuple") := by
  rcases h with (h | ⟨o, h⟩) | ⟨o, its, n, h, c, _⟩
  · exact .base (.tup h)
  · exact .fTuple h
  · exact .kTuple h c
theorem kit_ss : PySem.W.kitOne K (.type "str") (.type "str") = some true := kit_ty (by decide +kernel)
theorem kit_ts : PySem.W.kitOne K (.type "tuple") (.type "str") = some false := kit_ty (by decide +kernel)
theorem kit_st : PySem.W.kitOne K (.type "str") (.type "tuple") = some false := kit_ty (by decide +kernel)
theorem kit_tt : PySem.W.kitOne K (.type "tuple") (.type "tuple") = some true := kit_ty (by decide +kernel)
/-- the witnesses of isinstance(v, str), isinstance(v, tuple) for a tree v -/
theorem isi_str {v : V} {t : Tree} (h : Tr K H v t) : ∃ ty u, ClsV (.ty "str") u ∧ TyX K H v ty ∧ PySem.W.kitOne K ty u = some t.isW := by
  cases t with
  | w x => rw [h.word]; exact ⟨_, _, .ty _, .base (.str _), kit_ss⟩
  | l ts =>
    obtain ⟨a, vs, rfl, h1, _⟩ := h.list
    exact ⟨_, _, .ty _, tyX_tup h1, kit_ts⟩
theorem isi_tup {v : V} {t : Tree} (h : Tr K H v t) : ∃ ty u, ClsV (.ty "tuple") u ∧ TyX K H v ty ∧ PySem.W.kitOne K ty u = some (!t.isW) := by
  cases t with
  | w x => rw [h.word]; exact ⟨_, _, .ty _, .base (.str _), kit_st⟩
  | l ts =>
    obtain ⟨a, vs, rfl, h1, _⟩ := h.list
    exact ⟨_, _, .ty _, tyX_tup h1, kit_tt⟩
theorem isi_strS {x : Str} : ∃ ty u, ClsV (.ty "str") u ∧ TyX K H (.str x) ty ∧ PySem.W.kitOne K ty u = some true := ⟨_, _, .ty _, .base (.str _), kit_ty (by decide +kernel)⟩
theorem isi_boolB {x : Bool} : ∃ ty u, ClsV (.ty "bool") u ∧ TyX K H (.bl x) ty ∧ PySem.W.kitOne K ty u = some true := ⟨_, _, .ty _, .base (.bl _), kit_ty (by decide +kernel)⟩
/-- a test that is a value of True or False -/
theorem tru_list {p : Addr} {xs : List V} (h : H p = some (.lst xs)) : TruV K (.ref p) H (!xs.isEmpty) := .inl ⟨xs, SqL.of h, rfl⟩
end
theorem sIx0 (n : Nat) : HT.sIx n 0 none = 0 := rfl
/-- a text cut: from i to j -/
theorem cutS_nat (cs : List Nat) {i j : Nat} (h : i ≤ j) (hj : j ≤ cs.length) : cutS (tx cs) (some (i : Int)) (some (j : Int)) = tx ((cs.drop i).take (j - i)) := by
  unfold cutS
  rw [HT.sIx_nat, HT.sIx_nat, tx_len, tx_list]
  rw [Nat.min_eq_left hj, Nat.min_eq_left (Nat.le_trans h hj)]
  rfl
theorem cutS_to (cs : List Nat) {j : Nat} (hj : j ≤ cs.length) : cutS (tx cs) none (some (j : Int)) = tx (cs.take j) := by
  unfold cutS
  rw [HT.sIx_nat, tx_len, tx_list, Nat.min_eq_left hj, sIx0, Nat.sub_zero, List.drop_zero]
  rfl
theorem cutS_from (cs : List Nat) {i : Nat} (hj : i ≤ cs.length) : cutS (tx cs) (some (i : Int)) none = tx (cs.drop i) := by
  unfold cutS
  rw [HT.sIx_nat, tx_len, tx_list, Nat.min_eq_left hj, HT.sIx_none]
  show Str.mk (List.take (cs.length - i) (cs.drop i)).toArray = _
  rw [List.take_of_length_le (by rw [List.length_drop]; omega)]
  rfl

/-! ### callees -/
structure Callee (P : Program) (w : World) (K : PySem.W.Frag) (mg : Str → Option Value) (base : Heap) (CX : CXT) (k : Nat) (x : Str) (f : Addr) (fd : FuncData) (ps : List Str) (sp : Sp) : Prop where
  ok : FnOk P w K mg base CX k f fd ps sp
  mg : mg x = some (.ref f)
  kp : PySem.W.keepIn K (.ref f) = true
  bi : Binds K fd ps []
def Has (P : Program) (w : World) (K : PySem.W.Frag) (mg : Str → Option Value) (base : Heap) (k : Nat) (x : Str) (ps : List Str) (sp : Sp) : Prop := ∃ f fd, Callee P w K mg base CX0 k x f fd ps sp
theorem Has.mono {P : Program} {w : World} {K : PySem.W.Frag} {mg : Str → Option Value} {base : Heap} {j k : Nat} {x : Str} {ps : List Str} {sp : Sp} (h : Has P w K mg base j x ps sp) (l : j ≤ k) : Has P w K mg base k x ps sp := by
  obtain ⟨f, fd, c⟩ := h
  exact ⟨f, fd, c.ok.mono l, c.mg, c.kp, c.bi⟩
/-- a def with a promise for each n: one promise for all up to N -/
theorem has_upto {P : Program} {w : World} {K : PySem.W.Frag} {mg : Str → Option Value} {base : Heap} {k : Nat} {x : Str} {f : Addr} {fd : FuncData} {ps : List Str} {sp : Nat → Sp} (h : ∀ n, Callee P w K mg base CX0 (k + n + 1) x f fd ps (sp n)) (N : Nat) :
    Has P w K mg base (k + N + 1) x ps (fun vs H Q E => ∃ n, n ≤ N ∧ sp n vs H Q E) := by
  refine ⟨f, fd, ⟨fun vs H Q E q => ?_, fun A outer s H args us vs Q E hr e b v q => ?_⟩, (h 0).mg, (h 0).kp, (h 0).bi⟩
  · obtain ⟨n, _, q⟩ := q
    exact (h n).ok.len vs H Q E q
  · obtain ⟨n, hn, q⟩ := q
    exact ((h n).ok.mono (show k + n + 1 ≤ k + N + 1 by omega)).run A outer s H args us vs Q E hr e b v q
/-- a def as it stands behind the top -/
structure DefAt (K : PySem.W.Frag) (mg : Str → Option Value) (x : Str) (st : Stmt) (ps : List Str) : Prop where
  ex : ∃ f fd, Fun K x x st f fd ∧ mg x = some (.ref f) ∧ Binds K fd ps []
section
variable {X : Cx} {k : Nat} {x : Str} {f : Addr} {fd : FuncData} {ps : List Str} {sp : Sp} {p pos : Pos} {e : Expr} {es : List Expr} {t : TA}
theorem cal (C : Callee X.prog X.w X.K X.mg X.base CX0 k x f fd ps sp) (hr : Room k X.A) (hg : Gl X x) (ha : PA X (e :: es) t) (hdb : (x == ("__debug__" : Str)) = false := by decide)
    (he : starEach (e :: es) X.env = (false, eval e X.env) :: starEach es X.env := by rfl) (hpl : (backTo pos (starEach es X.env)).any (·.1) = false := by rfl) : PE X (.Call (.Name x p) (e :: es) [] pos) (tCall sp [] E0 t) :=
  pe_call C.ok hr hg C.mg C.kp C.bi .nil pass0 ha hdb he hpl
end
/-! ### the law's hand: a list of the draws (at d) and a number; all that is asked of it is that it is one -/
def Hd (H : Hp) (h d : Addr) : Prop := ∃ (n : Nat) (ds : List Int), H h = some (.lst [.ref d, .int n]) ∧ H d = some (.lst (ds.map V.int)) ∧ ds.length ≤ 100000
theorem Hd.ne {H : Hp} {h d : Addr} (a : Hd H h d) : d ≠ h := by
  intro q
  obtain ⟨n, ds, e, e2, _⟩ := a
  subst q
  rw [e] at e2
  have q := HO.lst.inj (Option.some.inj e2)
  cases ds with
  | nil => cases q
  | cons x r =>
    have := (List.cons.inj q).1
    cases this
theorem Hd.lst {H : Hp} {h d : Addr} (a : Hd H h d) : ∃ xs, H h = some (.lst xs) := by
  obtain ⟨n, ds, e, _⟩ := a
  exact ⟨_, e⟩
theorem Hd.neH {H : Hp} {h d p : Addr} (a : Hd H h d) (q : H p = none) : h ≠ p := by
  obtain ⟨n, ds, e, _⟩ := a
  exact ne_of_none e q
theorem Hd.neD {H : Hp} {h d p : Addr} (a : Hd H h d) (q : H p = none) : d ≠ p := by
  obtain ⟨n, ds, _, e, _⟩ := a
  exact ne_of_none e q
theorem Hd.keep {S : List Addr} {H H1 : Hp} {h d : Addr} (a : Hd H h d) (k : Keep S H H1) (hh : h ∉ S) (hd : d ∉ S) : Hd H1 h d := by
  obtain ⟨n, ds, e1, e2, l⟩ := a
  exact ⟨n, ds, k.get e1 hh, k.get e2 hd, l⟩
theorem Hd.keep0 {H H1 : Hp} {h d : Addr} (a : Hd H h d) (k : Keep [] H H1) : Hd H1 h d := a.keep k (by simp) (by simp)
theorem Hd.upd {H : Hp} {h d p : Addr} {o : HO} (a : Hd H h d) (q1 : h ≠ p) (q2 : d ≠ p) : Hd (upd H p o) h d := by
  obtain ⟨n, ds, e1, e2, l⟩ := a
  exact ⟨n, ds, by rw [upd_ne q1]; exact e1, by rw [upd_ne q2]; exact e2, l⟩
theorem Hd.new {H : Hp} {h d p : Addr} {o : HO} (a : Hd H h d) (q : H p = none) : Hd (L2.upd H p o) h d := a.upd (a.neH q) (a.neD q)
theorem sizeL {n : Nat} (h : n ≤ 100000) : n ≤ sizeLine := Nat.le_trans h (by decide)
theorem sizeLt {n : Nat} (h : n ≤ 100000) : n < sizeLine := Nat.lt_of_le_of_lt h (by decide)
end Og

namespace Og
open PySem PySem.Spec PyProof.Rows L2
/-! ### tuples of trees: index, slice, concatenation, length, making -/
def cutL {α : Type} (xs : List α) (lo hi : Option Int) : List α := (xs.drop (HT.sIx xs.length 0 lo)).take (HT.sIx xs.length xs.length hi - HT.sIx xs.length 0 lo)
theorem cutL_whole {α : Type} {xs : List α} {lo hi : Option Int} (h : HT.sIx xs.length 0 lo = 0 ∧ HT.sIx xs.length xs.length hi = xs.length) : cutL xs lo hi = xs := by
  unfold cutL
  rw [h.1, h.2, List.drop_zero, Nat.sub_zero, List.take_length]
theorem cutL_to {α : Type} (xs : List α) {j : Nat} (hj : j ≤ xs.length) : cutL xs none (some (j : Int)) = xs.take j := by
  unfold cutL
  rw [HT.sIx_nat, Nat.min_eq_left hj, sIx0, Nat.sub_zero, List.drop_zero]
theorem cutL_from {α : Type} (xs : List α) {i : Nat} (hj : i ≤ xs.length) : cutL xs (some (i : Int)) none = xs.drop i := by
  unfold cutL
  rw [HT.sIx_nat, Nat.min_eq_left hj, HT.sIx_none, List.take_of_length_le (by rw [List.length_drop]; exact Nat.le_refl _)]
theorem cutL_mid {α : Type} (xs : List α) {i j : Nat} (h : i ≤ j) (hj : j ≤ xs.length) : cutL xs (some (i : Int)) (some (j : Int)) = (xs.drop i).take (j - i) := by
  unfold cutL
  rw [HT.sIx_nat, HT.sIx_nat, Nat.min_eq_left hj, Nat.min_eq_left (Nat.le_trans h hj)]
theorem cutL_len {α : Type} (xs : List α) (lo hi : Option Int) : (cutL xs lo hi).length ≤ xs.length := by
  unfold cutL
  rw [List.length_take, List.length_drop]
  omega
theorem cutL_mem {α : Type} {xs : List α} {lo hi : Option Int} {x : α} (h : x ∈ cutL xs lo hi) : x ∈ xs := List.mem_of_mem_drop (List.mem_of_mem_take h)
section
variable {K : PySem.W.Frag} {H : Hp}
theorem Trs.cut {vs : List V} {ts : List Tree} (lo hi : Option Int) (h : Trs K H vs ts) : Trs K H (cutV vs lo hi) (cutL ts lo hi) := by
  unfold cutV cutL
  rw [h.length]
  exact (h.drop _).take _
theorem Tr.tup {v : V} {ts : List Tree} (h : Tr K H v (.l ts)) : ∃ a vs, v = .ref a ∧ SqT K H a vs ∧ vs.length = ts.length := by
  obtain ⟨a, vs, e, hs, r⟩ := h.list
  exact ⟨a, vs, e, hs, r.length⟩
/-- t[lo:hi] -/
theorem sl_tr {x : V} {ts : List Tree} {lo hi : Option Int} {Q : VK} (h : Tr K H x (.l ts)) (q : ∀ v H', Tr K H' v (.l (cutL ts lo hi)) → Keep [] H H' → Q v H') : rSlA K x lo hi H Q := by
  obtain ⟨a, vs, rfl, hs, r⟩ := h.list
  refine ⟨a, vs, rfl, hs, fun w => ?_, fun _ p np => ?_⟩
  · rw [r.length] at w
    exact q _ _ (by rw [cutL_whole w]; exact h) Keep.refl
  · exact q _ _ (tr_tup upd_same ((r.cut lo hi).keep (Keep.new (S := []) np))) (Keep.new np)
/-- t + u -/
theorem cat_tr {x y : V} {ts us : List Tree} {Q : VK} (hx : Tr K H x (.l ts)) (hy : Tr K H y (.l us)) (hz : ts.length + us.length ≤ sizeLine) (q : ∀ v H', Tr K H' v (.l (ts ++ us)) → Keep [] H H' → Q v H') : rCatA K x y H Q := by
  obtain ⟨a, vs, rfl, hs, r⟩ := hx.list
  obtain ⟨b, ws, rfl, hs2, r2⟩ := hy.list
  refine ⟨a, b, vs, ws, rfl, rfl, hs, hs2, by rw [r.length, r2.length]; exact hz, fun e => ?_, fun _ e => ?_, fun _ _ p np => ?_⟩
  · subst e
    have : ts = [] := List.length_eq_zero_iff.mp r.length.symm
    subst this
    exact q _ _ hy Keep.refl
  · subst e
    have : us = [] := List.length_eq_zero_iff.mp r2.length.symm
    subst this
    rw [List.append_nil] at q
    exact q _ _ hx Keep.refl
  · exact q _ _ (tr_tup upd_same ((r.append r2).keep (Keep.new (S := []) np))) (Keep.new np)
/-- t[i] -/
theorem ix_tr {x : V} {ts : List Tree} {i : Int} {t : Tree} {Q : VK} (h : Tr K H x (.l ts)) (e : atI ts i = some t) (q : ∀ v, Tr K H v t → Q v H) : rIxT K x (.int i) H Q := by
  obtain ⟨a, vs, rfl, hs, r⟩ := h.list
  unfold atI at e
  cases hi : ixN ts.length i with
  | none => rw [hi] at e; cases e
  | some j =>
    rw [hi] at e
    obtain ⟨v, hv, tv⟩ := r.get (i := j) e
    refine ⟨a, vs, i, v, rfl, rfl, hs, ?_, q v tv⟩
    unfold atI
    rw [r.length, hi]
    exact hv
/-- len(t) -/
theorem len_tr {x : V} {ts : List Tree} {Q : VK} (h : Tr K H x (.l ts)) (q : Q (.int (ts.length : Nat)) H) : ∃ p ys, [x] = [V.ref p] ∧ (SqL K H p ys ∨ SqT K H p ys) ∧ Q (.int ys.length) H := by
  obtain ⟨a, vs, rfl, hs, r⟩ := h.list
  exact ⟨a, vs, rfl, .inr hs, by rw [r.length]; exact q⟩
/-- (a, b, ..) -/
theorem mk_tr {p : Addr} {vs : List V} {ts : List Tree} (np : H p = none) (r : Trs K H vs ts) : Tr K (upd H p (.tup vs)) (.ref p) (.l ts) ∧ Keep [] H (upd H p (.tup vs)) :=
  ⟨tr_tup upd_same (r.keep (Keep.new (S := []) np)), Keep.new np⟩
end
/-- x != y, x == y of trees one of which is a word -/
def rNeTr (K : PySem.W.Frag) : R2 := fun x y H Q => ∃ t u : Tree, Tr K H x t ∧ Tr K H y u ∧ (t.isW = true ∨ u.isW = true) ∧ ∀ b : Bool, (b = true ↔ t ≠ u) → Q (.bl b) H
def rEqTr (K : PySem.W.Frag) : R2 := fun x y H Q => ∃ t u : Tree, Tr K H x t ∧ Tr K H y u ∧ (t.isW = true ∨ u.isW = true) ∧ ∀ b : Bool, (b = true ↔ t = u) → Q (.bl b) H
theorem op_neTr {X : Cx} (hu : X.A.units + 64 < cLine) : OpR X (compareOp .NotEq) (rNeTr X.K) := by
  intro pins s σ H x y v u Q I rx ry h
  obtain ⟨t, t', hx, hy, hw, q⟩ := h
  cases t with
  | w a =>
    have ex := hx.word
    subst ex
    cases t' with
    | w b =>
      have ey := hy.word
      subst ey
      refine op_ne pins s σ H _ _ v u Q I rx ry ⟨rfl, q _ ?_⟩
      by_cases e : a = b
      · subst e; simp
      · have : ¬ V.str (tx a) = V.str (tx b) := fun z => e (tx_str z)
        have e2 : ¬ Tree.w a = Tree.w b := fun z => e (Tree.w.inj z)
        simp [this, e2]
    | l us =>
      obtain ⟨p, ws, rfl, hs, _⟩ := hy.list
      obtain ⟨its, _, pt, _⟩ := I.tuple hs
      obtain ⟨tk, rfl⟩ := rx
      obtain rfl : u = Value.ref p := ry
      exact SeqAt.RcNeAt.str_tuple _ _ pt (by omega) _ _ _ _ ⟨.bl true, H, I, rfl, q true (by simp)⟩
  | l ts =>
    obtain ⟨p, ws, rfl, hs, _⟩ := hx.list
    cases t' with
    | w b =>
      have ey := hy.word
      subst ey
      obtain ⟨its, _, pt, _⟩ := I.tuple hs
      obtain ⟨tk, rfl⟩ := ry
      obtain rfl : v = Value.ref p := rx
      exact SeqAt.RcNeAt.tuple_str _ _ pt (by omega) _ _ _ _ ⟨.bl true, H, I, rfl, q true (by simp)⟩
    | l us => rcases hw with h | h <;> cases h
theorem op_eqTr {X : Cx} (hu : X.A.units + 64 < cLine) : OpR X (compareOp .Eq) (rEqTr X.K) := by
  intro pins s σ H x y v u Q I rx ry h
  obtain ⟨t, t', hx, hy, hw, q⟩ := h
  cases t with
  | w a =>
    have ex := hx.word
    subst ex
    cases t' with
    | w b =>
      have ey := hy.word
      subst ey
      refine op_eq pins s σ H _ _ v u Q I rx ry ⟨rfl, q _ ?_⟩
      by_cases e : a = b
      · subst e; simp
      · have : ¬ V.str (tx a) = V.str (tx b) := fun z => e (tx_str z)
        have e2 : ¬ Tree.w a = Tree.w b := fun z => e (Tree.w.inj z)
        simp [this, e2]
    | l us =>
      obtain ⟨p, ws, rfl, hs, _⟩ := hy.list
      obtain ⟨its, _, pt, _⟩ := I.tuple hs
      obtain ⟨tk, rfl⟩ := rx
      obtain rfl : u = Value.ref p := ry
      exact SeqAt.RcAt.str_tuple _ _ pt (by omega) _ _ _ _ ⟨.bl false, H, I, rfl, q false (by simp)⟩
  | l ts =>
    obtain ⟨p, ws, rfl, hs, _⟩ := hx.list
    cases t' with
    | w b =>
      have ey := hy.word
      subst ey
      obtain ⟨its, _, pt, _⟩ := I.tuple hs
      obtain ⟨tk, rfl⟩ := ry
      obtain rfl : v = Value.ref p := rx
      exact SeqAt.RcAt.tuple_str _ _ pt (by omega) _ _ _ _ ⟨.bl false, H, I, rfl, q false (by simp)⟩
    | l us => rcases hw with h | h <;> cases h
end Og

namespace Og
open PySem PySem.Spec PyProof.Rows L2
open AutoSeq1 (wpAny_loadPart')
/-! ### xs.extend(t), t a tuple -/
def rExtT (K : PySem.W.Frag) : V → List V → Hp → VK → Prop := fun x vs H Q => ∃ l b xs zs, x = .ref l ∧ vs = [.ref b] ∧ H l = some (.lst xs) ∧ SqT K H b zs ∧ xs.length + zs.length ≤ sizeLine ∧ Q .non (upd H l (.lst (xs ++ zs)))
theorem ext_tuple (l : Addr) (items : Array Value) (n : Nat) (b : Addr) (items2 : Array Value) (n2 : Nat) (dd : Option Addr) (sl : Array (Option Value)) (hs0 : ¬(!items.isEmpty && Builtin.List.listTooLong (items.size + items2.size)) = true) (hs1 : items.size ≤ sizeLine) (hs2 : items.size + items2.size ≤ sizeLine + 1) :
    Meets (Builtin.«list.extend» ⟨[.ref l, .ref b], []⟩) (fun _ R s => s.heap.get? l = some { cls := .type "list", dict := none, data := .seq items n, slots := #[] } ∧ s.heap.get? b = some { cls := .type "tuple", dict := dd, data := .seq items2 n2, slots := sl } ∧ R (.ok (.ret Value.none)) { s with heap := s.heap.update l (Obj.mapSeq fun x => x ++ items2), toks := s.toks }) :=
  .of_wp fun prog w A R s h => by
    obtain ⟨hp, g, d, tk, os⟩ := s; obtain ⟨hl, hb, h⟩ := h; have f1 := AutoSeq1.idx_int; have f2 := AutoSeq1.sub_tuple_tuple; have f3 := AutoSeq1.sub_list_list; have f4 := AutoSeq1.sub_tuple_list; have f5 := AutoSeq1.sub_list_tuple;
    have hz' : (items ++ items2).size ≤ sizeLine + 1 := by rw [Array.size_append]; exact hs2
    wp_walk using (wpAny_updateSeq hl rfl (hz := hs1) (_hz' := hz')), wpAny_loadPart' hl, wpAny_loadPart' hb; exact ⟨_, rfl, h⟩
theorem mt_extendT {X : Cx} : MtM X "list.extend" (rExtT X.K) := by
  intro pins s σ H x vs v us Q I rx rv h
  obtain ⟨l, b, xs, zs, rfl, rfl, hH, hB, hz, q⟩ := h
  cases rx
  obtain ⟨u, rfl, ru⟩ := rv.one
  cases ru
  obtain ⟨z, its, n, r, hl, e⟩ := I.lstM hH
  obtain ⟨its2, r2, ⟨⟨cls, dd, data, sl⟩, e2, hc2, n2, hd2⟩, hz2⟩ := I.tuple hB
  simp only at hc2 hd2
  subst hc2 hd2
  have hl2 := r2.length
  have hsz : its.toArray.size + its2.toArray.size ≤ sizeLine := by rw [List.size_toArray, List.size_toArray]; omega
  have hlong : ¬ (!its.toArray.isEmpty && Builtin.List.listTooLong (its.toArray.size + its2.toArray.size)) = true := by
    rw [notLongL hsz, Bool.and_false]
    exact Bool.false_ne_true
  refine call_meets F.slot_list_extend ⟨_, e, rfl⟩ F.entry_list_extend (F.args_list_extend_2 _ _)
    (ext_tuple l its.toArray n b its2.toArray n2 dd sl hlong (by rw [List.size_toArray]; omega) (by omega)) ⟨e, e2, ?_⟩
  refine ⟨.non, _, I.lset (its' := its ++ its2) hH e (by simp) (r.append r2) ?_, rfl, q⟩
  rw [List.length_append]
  omega
/-! ### t * n -/
theorem tuple_mul1 (l : Addr) (items : Array Value) (n : Nat) (dd : Option Addr) (sl : Array (Option Value)) (u : Tok) :
    Meets (Builtin.«tuple.__mul__» ⟨[.ref l, .int 1 u], []⟩) (fun _ R s => s.heap.get? l = some { cls := .type "tuple", dict := dd, data := .seq items n, slots := sl } ∧ R (.ok (.ret (Value.ref l))) s) :=
  .of_wp fun prog w A R s h => by
    obtain ⟨hp, g, d, tk, os⟩ := s
    obtain ⟨hl, h⟩ := h
    have f1 := AutoSeq1.idx_int
    have c1 : (items.isEmpty || (1 : Int) == 1) = true := by simp
    wp_walk using wpAny_loadPart' hl
    exact ⟨_, rfl, h⟩
theorem tuple_mul0 (l : Addr) (items : Array Value) (n : Nat) (dd : Option Addr) (sl : Array (Option Value)) (u : Tok) (hi : items.isEmpty = false) :
    Meets (Builtin.«tuple.__mul__» ⟨[.ref l, .int 0 u], []⟩) (fun _ R s => s.heap.get? l = some { cls := .type "tuple", dict := dd, data := .seq items n, slots := sl } ∧
      R (.ok (.ret (Value.ref s.heap.objs.size))) { s with heap := s.heap.push { cls := Value.type "tuple", data := Data.seq #[] }, toks := s.toks }) :=
  .of_wp fun prog w A R s h => by
    obtain ⟨hp, g, d, tk, os⟩ := s
    obtain ⟨hl, h⟩ := h
    have f1 := AutoSeq1.idx_int
    have c1 : (items.isEmpty || (0 : Int) == 1) = false := by rw [hi]; rfl
    wp_walk using wpAny_loadPart' hl
    repeat (first
      | (refine wpAny_ite_false (decide_eq_false (by rw [c1]; exact Bool.false_ne_true)) ?_; wp_walk using wpAny_loadPart' hl))
    exact ⟨_, rfl, h⟩
/-- t * k, t not empty, k from 0 -/
def rRepA (K : PySem.W.Frag) : R2 := fun x y H Q => ∃ (l : Addr) (k : Nat) (xs : List V), x = .ref l ∧ y = .int k ∧ SqT K H l xs ∧ xs ≠ [] ∧ k ≤ 1000 ∧ xs.length ≤ 1000 ∧
  (k = 1 → Q (.ref l) H) ∧ (k ≠ 1 → ∀ p, H p = none → Q (.ref p) (upd H p (.tup (List.replicate k xs).flatten)))
theorem op_repA {X : Cx} : OpR X (binaryOp .Mult) (rRepA X.K) := by
  intro pins s σ H x y v u Q I rx ry h
  obtain ⟨l, k, xs, rfl, rfl, hT, hne, h2, hz, q1, q⟩ := h
  by_cases hk2 : 2 ≤ k
  · exact op_repT pins s σ H _ _ v u Q I rx ry ⟨l, k, xs, rfl, rfl, hT, hne, by omega, by omega, hz, by rw [Int.toNat_natCast]; exact q (by omega)⟩
  cases rx
  obtain ⟨t, rfl⟩ := ry
  obtain ⟨its, r, ⟨⟨cls, dd, data, sl⟩, ho, hc, n, hd⟩, hs⟩ := I.tuple hT
  simp only at hc hd
  subst hc hd
  have hle : its.length = xs.length := r.length.symm
  have hi : its.toArray.isEmpty = false := by
    cases its with
    | nil => exact absurd (List.eq_nil_of_length_eq_zero hle.symm) hne
    | cons a b => rfl
  have c : k = 0 ∨ k = 1 := by omega
  rcases c with rfl | rfl
  · refine wpAny_binaryOp_repeat_ref (T := "tuple") (U := "int") (by decide) ⟨_, ho, rfl⟩ (fun s' => typeIs_int s' _ t) noFill_tuple_mul F.fills_int_mul F.slot_int_rmul repeat_tuple F.slot_int_index.lookup
      (call_meets F.slot_int_rmul (typeIs_int s _ t) F.entry_int_rmul (F.args_int_rmul_2 _ _) (int_rmul_tuple _ t l its.toArray n dd sl)
        ⟨ho, rfl, ⟨_, ho, rfl⟩, call_meets F.slot_tuple_mul ⟨_, ho, rfl⟩ F.entry_tuple_mul (F.args_tuple_mul_2 _ _) (tuple_mul0 l its.toArray n dd sl t hi) ⟨ho, ?_⟩⟩)
    refine ⟨.ref s.heap.objs.size, _, I.laid (t' := s.toks) (o := .tup []) (fun b ob q => Heap.get?_push_of_some _ q) (Nat.le_refl _) ?_, rfl, q (by decide) _ (I.hok.fresh (Nat.le_refl _))⟩
    exact ⟨Nat.zero_le _, [], .nil, IsTup.new _ _⟩
  · refine wpAny_binaryOp_repeat_ref (T := "tuple") (U := "int") (by decide) ⟨_, ho, rfl⟩ (fun s' => typeIs_int s' _ t) noFill_tuple_mul F.fills_int_mul F.slot_int_rmul repeat_tuple F.slot_int_index.lookup
      (call_meets F.slot_int_rmul (typeIs_int s _ t) F.entry_int_rmul (F.args_int_rmul_2 _ _) (int_rmul_tuple _ t l its.toArray n dd sl)
        ⟨ho, rfl, ⟨_, ho, rfl⟩, call_meets F.slot_tuple_mul ⟨_, ho, rfl⟩ F.entry_tuple_mul (F.args_tuple_mul_2 _ _) (tuple_mul1 l its.toArray n dd sl t) ⟨ho, ?_⟩⟩)
    exact ⟨.ref l, H, I, rfl, q1 rfl⟩
/-! ### t[::-1], t of two items -/
theorem sliceApplied_rev2 {prog : Program} {w : World} {A : Around} {E : Value → Shared → Prop} {s : Shared} {sl : Addr} {vl vu vs : Value} {Q : Int × Int × Nat → Shared → Prop} (hs : s.heap.IsSliceOf sl vl vu vs) (pl : IsPart vl none) (pu : IsPart vu none) (ps : IsPart vs (some (-1)))
    (h : Q (1, -1, 2) s) : wpAny (model prog w) A (Builtin.Slice.sliceApplied (.ref sl) (pure (2 : Int))) Q E s := by
  obtain ⟨os, hos, hcs, hds⟩ := id hs
  unfold Builtin.Slice.sliceApplied Builtin.Slice.sliceFields
  refine wpAny_bind (wpAny_bind (wpAny_field hos hds (x := vl) rfl (wpAny_bind (wpAny_field hos hds (x := vu) rfl (wpAny_bind (wpAny_field hos hds (x := vs) rfl (wpAny_pure ?_)))))))
  refine wpAny_bind (HT.slicePart_ ps ?_)
  show wpAny _ _ (if ((-1 : Int) == 0) = true then _ else _) _ _ s
  rw [if_neg (by decide)]
  refine wpAny_bind (HT.slicePart_ pl (wpAny_bind (HT.slicePart_ pu (wpAny_bind (wpAny_pure ?_)))))
  exact wpAny_pure h
theorem getItem_tuple_rev2 {prog : Program} {w : World} {A : Around} {E : Value → Shared → Prop} {s : Shared} {t sl : Addr} {u1 u2 : Value} {vl vu vs : Value} {Q : Value → Shared → Prop} (ht : IsTup s.heap t #[u1, u2]) (hs : s.heap.IsSliceOf sl vl vu vs) (pl : IsPart vl none) (pu : IsPart vu none) (ps : IsPart vs (some (-1)))
    (h : Q (.ref s.heap.objs.size) { s with heap := s.heap.push { cls := .type "tuple", data := .seq #[u2, u1] } }) : wpAny (model prog w) A (getItem (.ref t) (.ref sl)) Q E s := by
  obtain ⟨os, hos, hcs, hds⟩ := id hs
  have hTs : s.TypeIs (.ref sl) "slice" := ⟨os, hos, hcs⟩
  unfold getItem
  try with_reducible refine wpAny_holding ?_
  first | refine wpAny_bind (wpAny_pure ?_) | skip
  refine wpAny_bind (wpAny_sequenceKey ht.typeIs (by decide) ?_)
  refine wpAny_bind (wpAny_callSpecial?_slot (name := Str.ofString "__getitem__") ht.typeIs PyProof.Rows.slot_tuple_getitem
    (wpAny_call_entry PyProof.Rows.slot_tuple_getitem ht.typeIs PyProof.Rows.entry_tuple_getitem ?_ (PyProof.Rows.args_tuple_getitem _ _)))
  show wpAny _ _ (Builtin.Tuple.tupleItemsOf (.ref t) >>= _) _ _ s
  refine wpAny_bind (PyProof.Rows.tupleItemsOf_ ht ?_)
  refine wpAny_bind (wpAny_typeOf hTs ?_)
  rw [if_pos (by decide)]
  refine wpAny_bind (sliceApplied_rev2 hs pl pu ps ?_)
  show wpAny _ _ (if ((1 : Int) == 0 && (-1 : Int) == 1 && (2 : Nat) == 2) = true then _ else _) _ _ s
  rw [if_neg (by decide)]
  have e : ((List.range 2).filterMap fun (k : Nat) => (#[u1, u2] : Array Value)[((1 : Int) + (k : Int) * (-1)).toNat]?).toArray = #[u2, u1] := rfl
  rw [e]
  have htake : sizeOk (.seq #[u2, u1]) := by show 2 ≤ sizeLine; decide
  first
    | exact wpAny_bind (m := Builtin.Tuple.tupleExact _) (wpAny_newObj_type (wpAny_pure ⟨_, rfl, wpAny_pure h⟩) htake)
    | exact wpAny_bind (m := Builtin.Tuple.tupleExact _) (wpAny_newObj_type (wpAny_bind (wpAny_pure (wpAny_pure ⟨_, rfl, wpAny_pure h⟩))) htake)
    | exact wpAny_bind (wpAny_bind (m := Builtin.Tuple.tupleExact _) (wpAny_newObj_type (wpAny_pure (wpAny_pure ⟨_, rfl, wpAny_pure h⟩)) htake))
    | exact wpAny_bind (wpAny_bind (m := Builtin.Tuple.tupleExact _) (wpAny_newObj_type (wpAny_pure ⟨_, rfl, wpAny_pure h⟩) htake))
def tRevT2 (K : PySem.W.Frag) (te : TE) : TE := fun σ H Q => te σ H fun x H1 => ∃ a x1 x2, x = .ref a ∧ SqT K H1 a [x1, x2] ∧ ∀ p, H1 p = none → Q (.ref p) (upd H1 p (.tup [x2, x1]))
theorem pe_revT2 {X : Cx} {e : Expr} {te : TE} {k : Nat} {p1 p2 p3 pos : Pos} (he : PE X e te) : PE X (.Subscript e (.Slice none none (some (.UnaryOp .USub (.Constant (.int 1) k p1) p2)) p3) pos) (tRevT2 X.K te) := by
  refine ⟨fun pins s σ H Q I h => ?_⟩
  refine Subscript_ (thn (he.run pins s σ H _ I h) fun v s1 ⟨x, H1, I1, r1, q1⟩ => ?_)
  obtain ⟨a, x1, x2, ex, hx, q⟩ := q1
  subst ex
  cases r1
  have hst : PO X (some (.UnaryOp .USub (.Constant (.int 1) k p1) p2)) (tPart (tUn (rU fun i => .int (-i)) (tC (.int 1)))) := po_some (pe_un un_neg pe_int)
  refine wpAny_Slice (thn (po_none.run pins s1 σ H1 (fun o H2 => o = none ∧ H2 = H1) I1 ⟨rfl, rfl⟩) fun vl s2 ⟨l, H2, I2, pl, el, e2⟩ => ?_)
  subst el e2
  refine thn (po_none.run pins s2 σ H2 (fun o H3 => o = none ∧ H3 = H2) I2 ⟨rfl, rfl⟩) fun vu s3 ⟨u, H3, I3, pu, eu, e3⟩ => ?_
  subst eu e3
  refine thn (hst.run pins s3 σ H3 (fun o H4 => o = some (-1) ∧ H4 = H3) I3 ⟨1, rfl, -1, rfl, rfl, rfl⟩) fun vs s4 ⟨o, H4, I4, ps, eo, e4⟩ => ?_
  subst eo e4
  have I5 : Inv X pins σ H4 { s4 with heap := s4.heap.push { cls := .type "slice", data := .fields #[vl, vu, vs] } } := I4.kept (t' := s4.toks) fun b ob q => Heap.get?_push_of_some _ q
  obtain ⟨its, r, ht, hz⟩ := I5.tuple hx
  obtain ⟨w1, w2, rfl, rw1, rw2⟩ := vals2 r
  show wpAny (model X.prog X.w) X.A (subscriptTail e (.Slice none none (some (.UnaryOp .USub (.Constant (.int 1) k p1) p2)) p3) (.ref a) (.ref s4.heap.objs.size)) (EP X pins σ Q) X.xe { s4 with heap := s4.heap.push { cls := .type "slice", data := .fields #[vl, vu, vs] } }
  refine tail_any (ops := [.ref a, .ref s4.heap.objs.size]) ht.typeIs (PyProof.Rows.slot_tuple_getitem.lookup) ?_ (by with_unfolding_all rfl)
  refine getItem_tuple_rev2 ht (Heap.IsSliceOf.new _ vl vu vs) pl pu ps ?_
  refine ⟨.ref _, _, I5.laid (t' := s4.toks) (o := .tup [x2, x1]) (fun b ob q => Heap.get?_push_of_some _ q) (Nat.le_refl _) ?_, rfl, q _ (I5.hok.fresh (Nat.le_refl _))⟩
  exact ⟨by show 2 ≤ sizeLine; decide, [w2, w1], .cons rw2 (.cons rw1 .nil), IsTup.new _ _⟩
end Og

namespace Og
open PySem
theorem meets_enum1 {v : Value} {o : Obj} {H : Heap → Prop} (B : Begins v o H) :
    Meets (Builtin.«enumerate.__new__» ⟨[.type "enumerate", v], []⟩) (fun _ R s => H s.heap ∧
      R (.ok (.ret (.ref (s.heap.push o).objs.size))) { s with heap := (s.heap.push o).push { cls := .type "enumerate", data := .fields #[.none, .bool false, .ref s.heap.objs.size, rawInt 0, .none, .none] } }) :=
  .of_wp fun prog w A R s h => by
    obtain ⟨hp, g, d, tk, os⟩ := s; obtain ⟨h1, h⟩ := h
    have hsub := sub_enumerate
    have q1 : ∀ {A' : Around} {E : Value → Shared → Prop} {Q : Value → Shared → Prop}, Q (.ref hp.objs.size) ⟨hp.push o, g, d, tk, os⟩ → wpAny (model prog w) A' (pyIter v) Q E ⟨hp, g, d, tk, os⟩ :=
      fun q => B.iter prog w _ _ ⟨hp, g, d, tk, os⟩ _ h1 q
    wp_walk using q1
    refine wpAny_stack_any fun st => wpAny_pure ?_
    split
    · rename_i c _ _ _ _ _
      cases (c == Value.type "enumerate")
      · wp_walk using q1
        exact ⟨_, rfl, h⟩
      · wp_walk using q1
        exact ⟨_, rfl, h⟩
    · wp_walk using q1
      exact ⟨_, rfl, h⟩
section
variable {prog : Program} {w : World} {A : Around} {E : Value → Shared → Prop} {s : Shared}
theorem call_enum1 {v : Value} {o : Obj} {H : Heap → Prop} {Q : Value → Shared → Prop} (B : Begins v o H) (h1 : H s.heap)
    (h : ∀ h', IsEnum h' (s.heap.objs.size + 1) s.heap.objs.size 0 .none → h'.get? s.heap.objs.size = some o → h'.objs.size = s.heap.objs.size + 2 →
      (∀ b o, s.heap.get? b = some o → h'.get? b = some o) → Q (.ref (s.heap.objs.size + 1)) { s with heap := h' }) :
    wpAny (model prog w) A (call (.type "enumerate") [v]) Q E s := by
  refine callType_new F.called_enumerate (by decide) (F.typeCall_enumerate_1 _) (F.newCall_enumerate_1 _) (fun obj => F.args_object_init_2 obj _) F.entry_enumerate_new
    (meets_enum1 B) ⟨h1, ?_⟩
  have hz : (s.heap.push o).objs.size = s.heap.objs.size + 1 := Heap.size_push ..
  show _ ∧ _
  rw [hz]
  have he : IsEnum ((s.heap.push o).push { cls := .type "enumerate", data := .fields #[.none, .bool false, .ref s.heap.objs.size, rawInt 0, .none, .none] }) (s.heap.objs.size + 1) s.heap.objs.size 0 .none := by
    have := Heap.get?_push_size (s.heap.push o) (o := { cls := .type "enumerate", data := .fields #[.none, .bool false, .ref s.heap.objs.size, rawInt 0, .none, .none] }) rfl
    rw [hz] at this; exact this
  refine ⟨⟨_, he, rfl⟩, h _ he (Heap.get?_push_of_some _ (Heap.get?_push_size _ B.free)) (by rw [Heap.size_push, hz]) fun b o x => Heap.get?_push_of_some _ (Heap.get?_push_of_some _ x)⟩
end
end Og
namespace Og
open PySem PySem.Spec PyProof.Rows L2
/-- the tuple at a as it stands at each turn, each item in a new pair -/
def IteT (K : PySem.W.Frag) (a : Addr) : It :=
  ⟨fun i H => ∃ (xs : List V) (x : V), SqT K H a xs ∧ xs[i]? = some x, fun i H v H' => ∃ T x, v = .ref T ∧ H T = none ∧ H' = upd H T (.tup [.int (i : Nat), x]) ∧ ∀ xs, SqT K H a xs → xs[i]? = some x, fun i H => ∃ xs : List V, SqT K H a xs ∧ xs.length = i⟩
theorem turn_enumT {P : Program} {w : World} {K : PySem.W.Frag} {elts : List Expr} {kk : Nat} {tpos : Pos} (a e it : Addr) :
    Turn P w K (.Tuple elts kk tpos) (IteT K a) [e, it] e (fun i h => (∃ old, IsEnum h e it ((i : Nat) : Int) old) ∧ h.IsTupleIter it a i ∧ e ≠ it ∧ a ≠ it ∧ a ≠ e) where
  mem := by simp
  obj := fun i h st b hb => by
    obtain ⟨⟨old, he⟩, ⟨o, ho, hc, hd⟩, _⟩ := st
    have e' : b = e ∨ b = it := by simpa using hb
    rcases e' with z | z
    · rw [z]; exact ⟨_, he, fun v q => nomatch q⟩
    · rw [z]; exact ⟨o, ho, fun v q => by rw [hd] at q; cases q⟩
  keep := fun i h h' st k => let ⟨⟨old, he⟩, hi, hne⟩ := st; ⟨⟨old, k e (by simp) _ he⟩, hi.at fun o q => k it (by simp) o q, hne⟩
  item := by
    intro X hP hw hK hc i pins s σ H E I hf st hg
    subst hP hw hK
    obtain ⟨⟨old, he⟩, hit, hne, hai, hae⟩ := st
    obtain ⟨xs, x, hq, hx⟩ := hg
    obtain ⟨its, rv, p, hz⟩ := I.tuple hq
    obtain ⟨u, hu, ru⟩ := rv.get hx
    have hel : e < s.heap.objs.size := Heap.lt_size he
    have hil : it < s.heap.objs.size := by obtain ⟨_, q, _⟩ := hit; exact Heap.lt_size q
    have hlt : i < its.toArray.size := by
      have := (List.getElem?_eq_some_iff.mp hu).1
      simpa using this
    refine wpAny_pyNext_enum_itemC (Draws.tuple (A := X.A.in1) (show X.A.in1.handled = none from I.ok.hd hc) it a hai its.toArray) he ⟨hit, p⟩ hlt hne (by simp [hne, hae.symm]) fun y h' tk hy ho hit' hT hsz hk => ?_
    have hy' : y = u := by
      have : its.toArray[i]? = some u := by simpa using hu
      rw [this] at hy
      exact (Option.some.inj hy).symm
    subst hy'
    refine ⟨_, rfl, wpAny_letOwnedTupleGo_enum (s := { s with heap := h', toks := tk + 1 }) ho fun h'' he' sb => ?_⟩
    have hT2 : h''.get? s.heap.objs.size = some { cls := .type "tuple", data := .seq #[.int i tk, y] } := (sb.2 _ (Nat.ne_of_gt hel)).trans hT
    have new : ObjOk X.prog X.w (upd H s.heap.objs.size (.tup [.int (i : Nat), x])) h'' s.heap.objs.size (.tup [.int (i : Nat), x]) :=
      ⟨by show 2 ≤ sizeLine; decide, [.int i tk, y], .cons ⟨_, rfl⟩ (.cons ru .nil), ⟨_, hT2, rfl, _, rfl⟩⟩
    have I1 : Inv X pins σ (upd H s.heap.objs.size (.tup [.int (i : Nat), x])) { s with heap := h'', toks := tk + 1 } :=
      I.turnedNew (ch := [e, it]) (fun b ob hb q => (sb.2 b (fun z => hb (by simp [z]))).trans (hk b ob (fun z => hb (by simp [z])) (fun z => hb (by simp [z])) q)) hf (Nat.le_refl _) new
    refine ⟨.ref s.heap.objs.size, _, I1, rfl, ⟨_, x, rfl, I.hok.fresh (Nat.le_refl _), rfl, fun ys hy => by rw [I.tuple_inj hy hq]; exact hx⟩, ⟨⟨y, ?_⟩, hit'.1.at fun o q => (sb.2 it (Ne.symm hne)).trans q, hne, hai, hae⟩, fun b hb => ?_⟩
    · have e1 : ((i + 1 : Nat) : Int) = (i : Int) + 1 := by omega
      rw [e1]; exact he'
    · have hb' : b < s.heap.objs.size := by
        have e' : b = e ∨ b = it := by simpa using hb
        rcases e' with z | z
        · rw [z]; exact hel
        · rw [z]; exact hil
      rw [upd_ne (Nat.ne_of_lt hb')]
      exact (hf b hb).1
  done := by
    intro X hP hw hK hc i pins s σ H E I hf st hg
    subst hP hw hK
    obtain ⟨⟨old, he⟩, hit, hne, hai, hae⟩ := st
    obtain ⟨xs, hq, hx⟩ := hg
    obtain ⟨its, rv, p, hz⟩ := I.tuple hq
    obtain ⟨f0, f1, f2, f3, f4, f5⟩ := hf it (by simp)
    have hl := rv.length
    have hi : i = its.toArray.size := by simp; omega
    rw [hi] at hit
    exact wpAny_pyNext_enum_endD (Draws.tuple (A := X.A.in1) (show X.A.in1.handled = none from I.ok.hd hc) it a hai its.toArray) he ⟨hit, p⟩ fun h' eb => ⟨rfl, I.turned (t' := s.toks) (fun b o hb q => eb b o hb q) f0 f1 f3 f4 f5⟩
  self := fun A i s Q E st h => let ⟨⟨_, he⟩, _⟩ := st; wpAny_pyIter_enum he h
def iEnumT (K : PySem.W.Frag) (ta : TA) : TI := fun σ H R => ta σ H fun vs H1 => ∃ a xs, vs = [.ref a] ∧ SqT K H1 a xs ∧ R (IteT K a) H1
theorem pi_enumT {X : Cx} {e : Expr} {ta : TA} {p pos tpos : Pos} {elts : List Expr} {kk : Nat} (hg : Gl X "enumerate") (hm : X.mg "enumerate" = none) (ha : PA X [e] ta) (hs : starEach [e] X.env = [(false, eval e X.env)] := by rfl) :
    PI X (.Tuple elts kk tpos) (.Call (.Name "enumerate" p) [e] [] pos) (iEnumT X.K ta) := by
  refine ⟨fun pins s σ H R I h => ?_⟩
  refine Call_ (ld_blt I hg hm boot_enumerate (PyProof.Rows.callWith_type1 (thn (ha.run pos pins s σ H _ I h) fun us s1 ⟨vs, H1, I1, r1, q1⟩ => ?_) hs rfl))
  obtain ⟨a, xs, ex, hq, q⟩ := q1
  subst ex
  cases r1 with
  | cons r rr =>
    cases rr
    cases r
    obtain ⟨its, rv, p', hz⟩ := I1.tuple hq
    obtain ⟨oa, hoa, _⟩ := id p'
    have hal := Heap.lt_size hoa
    refine call_enum1 (begins_tuple a its.toArray) p' fun h' he hit hsz hk => wpAny_pyIter_enum he ?_
    have I2 : Inv X pins σ H1 { s1 with heap := h' } := I1.kept (t' := s1.toks) hk
    refine ⟨s1.heap.objs.size + 1, [s1.heap.objs.size + 1, s1.heap.objs.size], _, _, H1, rfl, I2, turn_enumT a (s1.heap.objs.size + 1) s1.heap.objs.size, ⟨⟨.none, he⟩, ⟨_, hit, rfl, rfl⟩, Nat.succ_ne_self _, Nat.ne_of_lt hal, Nat.ne_of_lt (Nat.lt_succ_of_lt hal)⟩, fun b hb => ?_, q⟩
    have e' : b = s1.heap.objs.size + 1 ∨ b = s1.heap.objs.size := by simpa using hb
    have hle : s1.heap.objs.size ≤ b := by
      rcases e' with z | z
      · rw [z]; exact Nat.le_add_right _ _
      · rw [z]; exact Nat.le_refl _
    exact I1.fpOk hle (I1.hok.fresh hle)
/-- a loop over enumerate of a tuple -/
theorem for_enumT {K : PySem.W.Frag} {a : Addr} {xs : List V} {g : TG} {tb : TS} {D : Ends} {σ : L2.St} {H : Hp} (Pv : Nat → L2.St → Hp → Prop) (h0 : Pv 0 σ H) (hq : ∀ i σ H, Pv i σ H → SqT K H a xs)
    (hs : ∀ (i : Nat) (x : V) (T : Addr) (σ : L2.St) (H : Hp), xs[i]? = some x → Pv i σ H → H T = none → g (.ref T) σ (upd H T (.tup [.int (i : Nat), x])) fun σ2 H2 => tb { D with nx := Pv (i + 1), ct := Pv (i + 1), bk := D.nx } σ2 H2) (hd : ∀ σ H, Pv xs.length σ H → D.nx σ H) :
    ∃ W : Nat → Nat → L2.St → Hp → Prop, (∃ m, W 0 m σ H) ∧ ∀ i m σ H, W i m σ H →
      ((IteT K a).stop i H ∧ D.nx σ H) ∨ ((IteT K a).go i H ∧ ∃ N : L2.St → Hp → Prop, (∀ σ' H', N σ' H' → ∃ m', m' < m ∧ W (i + 1) m' σ' H') ∧ ∀ v H', (IteT K a).yld i H v H' → g v σ H' fun σ2 H2 => tb { D with nx := N, ct := N, bk := D.nx } σ2 H2) := by
  refine ⟨fun i m σ H => m = xs.length - i ∧ i ≤ xs.length ∧ Pv i σ H, ⟨xs.length, rfl, Nat.zero_le _, h0⟩, ?_⟩
  rintro i m σ H ⟨rfl, hi, p⟩
  have qx := hq i σ H p
  by_cases hlt : i < xs.length
  · have hx : xs[i]? = some xs[i] := List.getElem?_eq_getElem hlt
    refine .inr ⟨⟨xs, _, qx, hx⟩, Pv (i + 1), fun σ' H' p' => ⟨xs.length - (i + 1), by omega, rfl, hlt, p'⟩, fun v H' y => ?_⟩
    obtain ⟨T, x', rfl, hT, rfl, f1⟩ := y
    exact hs i x' T σ H (f1 xs qx) p hT
  · have e : i = xs.length := by omega
    subst e
    exact .inl ⟨⟨xs, qx, rfl⟩, hd σ H p⟩
end Og

namespace Og
open PySem PySem.Spec PyProof.Rows L2
section
variable {X : Cx} {G : Addr} {e : Expr} {es : List Expr} {ta : TA} {x : Str} {p1 p2 pos : Pos}
/-- C.__init__(self, ..) of an own class C over ValueError that has no __init__ itself -/
theorem pe_clsinit {pl : Sem Bool} (hg : Gl X x) (hm : X.mg x = some (.ref G)) (rd : PySem.W.readsIn X.K G (.type "type") = true) (sg : PySem.W.specialIn X.K (.ref G) "__getattribute__" = some (some (.builtin "type.__getattribute__")))
    (vV : PySem.W.findCls X.K (.ref G) (.type "type") "__init__" = some (.val (.builtin "ValueError.__init__"))) (ha : PA X (e :: es) ta) (hdb : (x == ("__debug__" : Str)) = false := by decide)
    (hc : eval (.Call (.Attribute (.Name x p1) "__init__" p2) (e :: es) [] pos) X.env = (do
      let ob ← eval (.Name x p1) X.env
      standAt p2.atName
      let (fn, fst) ← holding [ob] (getMethod ob "__init__" pl)
      callWith pos fn fst (backTo pos (starEach (e :: es) X.env)) (backToKw pos (keywordEach [] X.env))) := by rfl)
    (hpl : (backTo pos (starEach es X.env)).any (·.1) = false := by rfl)
    (he : starEach (e :: es) X.env = (false, eval e X.env) :: starEach es X.env := by rfl) : PE X (.Call (.Attribute (.Name x p1) "__init__" p2) (e :: es) [] pos) (tVeI X.K ta) := by
  constructor
  intro pins s σ H Q I hQ
  refine PySem.W.methodCall_KW (ld_glob I hg hm ?_ hdb) hc
  refine PySem.W.method_cls I.kIn sg (PySem.W.cls_value I.kIn rd vV (by decide +kernel) ?_)
  refine PyProof.Rows.callWith_method1 (id := "ValueError.__init__") (thn (ha.run pos pins _ σ H _ (I.tok _) hQ) fun us s1 q => ?_) he hpl
  obtain ⟨vs, H1, I1, r1, a, C, ws, rfl, hl, T, ea, q⟩ := q
  cases r1 with
  | cons ra rw' =>
    cases ra
    have few := Paired.length rw'
    exact oinit_ok T I1 ea (by rw [← few, sizeLine_eq]; omega) fun s' J => ⟨.non, H1, J, rfl, q⟩
end
/-! ### callees that may raise -/
def HasX (P : Program) (w : World) (K : PySem.W.Frag) (mg : Str → Option Value) (base : Heap) (k : Nat) (x : Str) (ps : List Str) (sp : Sp) : Prop := ∃ f fd, Callee P w K mg base (L2.CX P w) k x f fd ps sp
theorem HasX.mono {P : Program} {w : World} {K : PySem.W.Frag} {mg : Str → Option Value} {base : Heap} {j k : Nat} {x : Str} {ps : List Str} {sp : Sp} (h : HasX P w K mg base j x ps sp) (l : j ≤ k) : HasX P w K mg base k x ps sp := by
  obtain ⟨f, fd, c⟩ := h
  exact ⟨f, fd, c.ok.mono l, c.mg, c.kp, c.bi⟩
section
variable {X : Cx} {CX : CXT} {E : XK} {k : Nat} {x : Str} {f : Addr} {fd : FuncData} {ps : List Str} {sp : Sp} {p pos : Pos} {e : Expr} {es : List Expr} {t : TA}
theorem calX (C : Callee X.prog X.w X.K X.mg X.base CX k x f fd ps sp) (hr : Room k X.A) (hg : Gl X x) (hx : Passes CX X E) (ha : PA X (e :: es) t) (hdb : (x == ("__debug__" : Str)) = false := by decide)
    (he : starEach (e :: es) X.env = (false, eval e X.env) :: starEach es X.env := by rfl) (hpl : (backTo pos (starEach es X.env)).any (·.1) = false := by rfl) : PE X (.Call (.Name x p) (e :: es) [] pos) (tCall sp [] E t) :=
  pe_call C.ok hr hg C.mg C.kp C.bi .nil hx ha hdb he hpl
end
/-- what a raise C(i) leaves: the error's own dict -/
theorem keep_raised {S : List Addr} {H : Hp} {a dx C : Addr} {f : Str} {i : Int} (na : H a = none) (nd : (upd H a (exo a C none)) dx = none) (ne : dx ≠ a) :
    Keep S H (upd (del (upd (upd (upd H a (exo a C none)) dx (exd dx [(f, .int i)])) a (exo a C (some dx))) a) dx (.xd [(f, .int i)])) := fun b o e => by
  have nd0 : H dx = none := by rw [upd_ne ne] at nd; exact nd
  have ba : b ≠ a := ne_of_none e na
  have bd : b ≠ dx := ne_of_none e nd0
  exact .inl (by rw [upd_ne bd, del_ne ba, upd_ne ba, upd_ne bd, upd_ne ba]; exact e)
/-! ### an own error class C (under GlassError, at G) with a number at one field -/
structure ErrT (K : PySem.W.Frag) (mg : Str → Option Value) (x qual field : Str) (st : Stmt) (C G fI : Addr) (fd : FuncData) : Prop where
  gC : mg x = some (.ref C)
  gG : mg "GlassError" = some (.ref G)
  ox : OexC K C
  iC : PySem.W.findIn K (.ref C) "__init__" = some (some (.ref fI))
  tI : PySem.W.typeIn K (.ref fI) = some (.type "function")
  no : PySem.W.findIn K (.ref C) field = some none
  rd : PySem.W.readsIn K G (.type "type") = true
  sg : PySem.W.specialIn K (.ref G) "__getattribute__" = some (some (.builtin "type.__getattribute__"))
  vV : PySem.W.findCls K (.ref G) (.type "type") "__init__" = some (.val (.builtin "ValueError.__init__"))
  fn : Fun K "__init__" qual st fI fd
  bi : Binds K fd ["self", field] []
structure ErrH (K : PySem.W.Frag) (C G : Addr) : Prop where
  ga : PySem.W.findIn K (.ref C) "__getattribute__" = some (some (.builtin "BaseException.__getattribute__"))
  gg : PySem.W.findIn K (.ref C) "__getattr__" = some none
  hd : PySem.W.hasDictIn K C = true
  ic : PySem.W.isClsIn K C = true
  se : PySem.W.subIn K (.ref C) (.ref C) = some true
  ck : PySem.W.findIn K (.ref C) "__class__" = some (some (.builtin "object.__class__"))
  kG : PySem.W.kitOne K (.ref C) (.ref G) = some true
  kV : PySem.W.kitOne K (.ref C) (.type "ValueError") = some true
  cg : PySem.W.specialIn K (.builtin "object.__class__") "__get__" = some (some (.builtin "getset_descriptor.__get__"))
  ct : PySem.W.takesIn K (.builtin "object.__class__") = some true
  cm : PySem.W.mroIn K C (.type "object") = some true
structure ErrAll (K : PySem.W.Frag) (mg : Str → Option Value) (x qual field : Str) (st : Stmt) : Prop where
  ex : ∃ C G fI fd, ErrT K mg x qual field st C G fI fd ∧ ErrH K C G
/-- an error of the one class is none of the other -/
structure ErrNot (K : PySem.W.Frag) (mg : Str → Option Value) (x y : Str) : Prop where
  no : ∀ a b : Addr, mg x = some (.ref a) → mg y = some (.ref b) → PySem.W.kitOne K (.ref a) (.ref b) = some false
/-- what the __init__ of such a class promises -/
def spErr (K : PySem.W.Frag) (field : Str) : Sp := fun vs H Q _ => ∃ (a C : Addr) (i : Int), vs = [.ref a, .int i] ∧ OexC K C ∧ PySem.W.findIn K (.ref C) field = some none ∧ i.natAbs < 10 ^ 9 ∧ H a = some (exo a C none) ∧
  ∀ dx : Addr, H dx = none → dx ≠ a → Q .non (upd (upd H dx (exd dx [(field, .int i)])) a (exo a C (some dx)))
end Og

namespace Og
open PySem PySem.W PySem.Calls PyProof.Rows
section
variable {prog : Program} {w : World} {A : Around} {E : Value → Shared → Prop} {s : Shared} {K : Frag} {x D : Addr} {ox : Obj} {od : Obj}
/-- e.__class__ of an error with a dict of its own -/
theorem exc_class {Q : Option Value → Shared → Prop} (g1 : findIn K (.ref D) "__getattribute__" = some (some (.builtin "BaseException.__getattribute__"))) (g2 : findIn K (.ref D) "__getattr__" = some none)
    (g3 : subIn K (.ref D) (.type "BaseException") = some true) (g4 : (clsIn K D).isSome = true) (g5 : findIn K (.ref D) "__class__" = some (some (.builtin "object.__class__")))
    (g6 : specialIn K (.builtin "object.__class__") "__get__" = some (some (.builtin "getset_descriptor.__get__"))) (g7 : takesIn K (.builtin "object.__class__") = some true) (g8 : mroIn K D (.type "object") = some true)
    (X : K.In s.heap) (I : InstAt s.heap x ox D (some od)) (fin : Q (some (.ref D)) { s with toks := s.toks + 1 }) : wpAny (model prog w) A (getAttr? (.ref x) "__class__") Q E s := by
  have found : findObj K D (some od) "__class__" = some (.bind (.builtin "getset_descriptor.__get__") (.builtin "object.__class__")) := findObj_data g4 g5 g6 g7
  obtain ⟨hp, ge, dr, tk, os⟩ := s
  have ty := I.type (M := model prog w)
  have la := looks_findIn (M := model prog w) X g1
  have lb := looks_findIn (M := model prog w) X g2
  have lc := looks_find (M := model prog w) X I found
  have isB : Looks (model prog w) hp (isInstance (.ref x) (.type "BaseException")) true := ty.andThen (looks_subIn X g3)
  have ne : (Value.builtin "BaseException.__getattribute__" == Value.builtin "object.__getattribute__") = false := by decide +kernel
  unfold getAttr? getAttrBy? getAttrBy
  refine wpAny_bind (wpAny_mkText (wpAny_bind (wpAny_attempt (wpAny_holding (wpAny_bind (ty.at (wpAny_bind (la.at ?_))))))))
  dsimp only
  rw [ne, Bool.and_false, if_neg Bool.false_ne_true]
  unfold getAttrByItsOwn hookBefore
  refine wpAny_bind ?_
  rw [if_pos (show onTheHeap (Value.ref D) = true from rfl)]
  refine lb.at ?_
  refine wpAny_bind (wpAny_attempt (wpAny_holding ?_))
  unfold callGetattribute
  rw [Bool.false_and, if_neg Bool.false_ne_true]
  unfold boundAndCalled
  rw [PySem.F.excAttr_ValueError.ga.bind (.ref x)]
  refine wpAny_bind (wpAny_pure ?_)
  refine wpAny_call (codeAny_call_builtin PySem.F.excAttr_ValueError.ga.plain PySem.F.entry_bexc_ga ?_)
  refine @check_slot (model prog w) _ _ ⟨hp, ge, dr, tk + 1, os⟩ "BaseException.__getattribute__" "BaseException" "__getattribute__" (.ref x) [.str "__class__" tk] [] _ (by decide +kernel) (by decide +kernel) isB (PySem.F.args_bexc_ga (.ref x) (.str "__class__" tk)) ?_
  unfold Builtin.«object.__getattribute__»
  refine wpAny_bind (wpAny_of_eq (a := ((Value.ref x : Value), [Value.str "__class__" tk])) (by first | rfl | (simp only [slotArgs]; rfl)) ?_)
  refine wpAny_bind (wpAny_pure (wpAny_bind (ty.at (wpAny_bind (lc.at ?_)))))
  refine wpAny_bind (wpAny_holding (wpAny_call (class_get (s := ⟨hp, ge, dr, tk + 1, os⟩) (ox := ox) (od := some od) X I g8 ?_)))
  refine wpAny_pure ?_
  show wpAny _ _ (handedOut (.ref D)) _ _ _
  rw [handedOut_of (v := .ref D) rfl]
  first
    | exact wpAny_pure (wpAny_pure fin)
    | exact wpAny_pure fin
    | exact wpAny_pure (wpAny_bind (wpAny_pure (wpAny_pure fin)))
theorem exc_kit (g1 : findIn K (.ref D) "__getattribute__" = some (some (.builtin "BaseException.__getattribute__"))) (g2 : findIn K (.ref D) "__getattr__" = some none)
    (g3 : subIn K (.ref D) (.type "BaseException") = some true) (g4 : hasDictIn K D = true) (g5 : findIn K (.ref D) "__class__" = some (some (.builtin "object.__class__")))
    (g6 : specialIn K (.builtin "object.__class__") "__get__" = some (some (.builtin "getset_descriptor.__get__"))) (g7 : takesIn K (.builtin "object.__class__") = some true) (g8 : mroIn K D (.type "object") = some true) :
    KitX K (.ref x) (.ref D) (fun h => InstAt h x ox D (some od)) where
  ty := fun _ _ _ I => I.type
  it := fun _ _ X _ => by
    obtain ⟨cd, hc, _⟩ := any_some g4
    unfold clsIn at hc
    split at hc
    · rename_i ho
      intro A' Q' E' s' k q
      unfold isType loadHead
      exact wpAny_bind (wpAny_loadPart (k _ _ (X _ _ ho)) (wpAny_pure q))
    · cases hc
  ne := fun h tp dd its n sl X htp => by
    obtain ⟨cd, hc, _⟩ := any_some g4
    refine Bool.eq_false_iff.mpr fun q => ?_
    have e : D = tp := Value.ref.inj (beq_iff_eq.mp q)
    subst e
    unfold clsIn at hc
    split at hc
    · rename_i ho
      exact nomatch (X _ _ ho).symm.trans htp
    · cases hc
  ca := fun X I k => exc_class g1 g2 g3 (by obtain ⟨cd, hc, _⟩ := any_some g4; rw [hc]; rfl) g5 g6 g7 g8 X I k
end
end Og
namespace Og
open PySem PySem.Spec PyProof.Rows L2
/-- what a suite's reading takes as given -/
theorem pss_ex {α : Type} {X : Cx} {sts : List Stmt} {t : α → TS} (h : ∀ x, PSs X sts (t x)) : PSs X sts (fun D σ H => ∃ x, t x D σ H) := ⟨fun pins s σ H D I q => by
  obtain ⟨x, q⟩ := q
  exact (h x).run pins s σ H D I q⟩
theorem pss_when {C : Prop} {X : Cx} {sts : List Stmt} {t : TS} (h : C → PSs X sts t) : PSs X sts (fun D σ H => C ∧ t D σ H) := ⟨fun pins s σ H D I q => (h q.1).run pins s σ H D I q.2⟩
/-- isinstance(e, c) of the error e that a suite holds, which has a dict of its own -/
def rIsD (K : PySem.W.Frag) (D a dd : Addr) : List V → Hp → VK → Prop := fun xs H Q => ∃ (c : V) (cv : Value) (b : Bool) (fs : List (Str × V)), xs = [.ref a, c] ∧ ClsV c cv ∧ H dd = some (.xd fs) ∧ PySem.W.kitOne K (.ref D) cv = some b ∧ Q (.bl b) H
theorem call_isD {X : Cx} {a D dd : Addr} {oe : Obj} {pn : List (Addr × Obj)} (C : ExcC X.K D) (hz : Zc (.ref D) (some dd) oe) (hf : ∃ vs, oe.data = .fields vs) : CallR (X.suite a ((a, oe) :: pn)) (.builtin "isinstance") (rIsD X.K D a dd) := by
  intro pins s σ H xs us Q I r h
  obtain ⟨c, cv, b, fs, rfl, hcv, ed, e, q⟩ := h
  obtain ⟨u1, u2, rfl, r1, r2⟩ := vals2 r
  have ec := hcv.eq r2
  subst ec
  obtain rfl : u1 = Value.ref a := r1
  obtain ⟨hget, _⟩ := I.pin (a, oe) (List.mem_append.mpr (.inl List.mem_cons_self))
  obtain ⟨vs, hv⟩ := hf
  have hx : ObjOk X.prog X.w H s.heap dd (.xd fs) := I.hok dd _ ed
  obtain ⟨mA, hns, _⟩ := hx
  obtain ⟨odd, ho, _⟩ := lookIn_ns hns
  have J : PySem.W.InstAt s.heap a oe D (some odd) := ⟨hget, hz.1, by unfold PySem.W.notCls; rw [hv], by rw [hz.2]; exact ho⟩
  exact PySem.W.kia_one (exc_kit C.hg C.hk C.hs C.hd C.ha C.hn C.ht C.hm) I.kIn J e (fun z => nomatch z) fun tk => ⟨.bl b, H, I.kept (t' := tk) fun _ _ z => z, rfl, q⟩
end Og

namespace Og
open PySem PySem.Spec PyProof.Rows L2
/-- an error of the class cls with the dict d, held as a value at a -/
def ErV (cls : Value) (d : Option Addr) (a : Addr) : HO := .ext fun h => ∃ (oe : Obj) (vs : Array Value), h.get? a = some oe ∧ Zc cls d oe ∧ oe.data = .fields vs
/-- isinstance(e, c) of such an error -/
def rIsV (K : PySem.W.Frag) : List V → Hp → VK → Prop := fun xs H Q => ∃ (a C dd : Addr) (c : V) (cv : Value) (b : Bool) (fs : List (Str × V)), xs = [.ref a, c] ∧ ClsV c cv ∧ ExcC K C ∧ H a = some (ErV (.ref C) (some dd) a) ∧ H dd = some (.xd fs) ∧ PySem.W.kitOne K (.ref C) cv = some b ∧ Q (.bl b) H
/-- e.f of such an error -/
def tXv (K : PySem.W.Frag) (f : Str) (te : TE) : TE := fun σ H Q => te σ H fun x H1 => ∃ (a C dd : Addr) (fs : List (Str × V)) (v : V), x = .ref a ∧ XfC K C ∧ PySem.W.findIn K (.ref C) f = some none ∧ H1 a = some (ErV (.ref C) (some dd) a) ∧ H1 dd = some (.xd fs) ∧ fs.lookup f = some v ∧ Q v H1
section
variable {X : Cx} {e : Expr} {te : TE} {p pos : Pos}
/-- what makes an error to raise it makes it as a value as well -/
theorem pe_made {t : L2.St → Hp → XK → Prop} (h : PMk X e t) : PE X e (fun σ H Q => t σ H fun cls d H1 => ∀ a : Addr, H1 a = none → Q (.ref a) (upd H1 a (ErV cls d a))) := by
  constructor
  intro pins s0 σ H Q I q
  refine wpAny_mono (h pins s0 σ H _ I q) (fun u s1 hu => ?_) fun _ _ no => no
  obtain ⟨a, oe, vs, sI, H', cls, d, rfl, J, grows, fresh, there, zc, dt, _, na, os, bare, _, q1⟩ := hu
  have new : ObjOk X.prog X.w (upd H' a (ErV cls d a)) s1.heap a (ErV cls d a) := ⟨⟨oe, vs, there, zc, dt⟩, ⟨oe, there⟩, fun _ _ ⟨o, w, y, r⟩ k => ⟨o, w, k o y, r⟩⟩
  exact ⟨.ref a, _, J.call' (ch := []) os (Un.laidN grows fresh na) (J.hok.laidN grows na new) bare (fun b z => absurd z (by simp)), rfl, q1 a na⟩
/-- the error and its dict, in the model's heap -/
theorem erv_at {H : Hp} {s1 : Shared} {a C dd : Addr} {fs : List (Str × V)} (hok : HOk X.prog X.w H s1.heap) (ea : H a = some (ErV (.ref C) (some dd) a)) (ed : H dd = some (.xd fs)) :
    ∃ (oe odd : Obj) (mA : Str → Option Value), PySem.W.InstAt s1.heap a oe C (some odd) ∧ (∀ f, RelO (fs.lookup f) (mA f)) ∧ ∀ f, PySem.W.lookIn f odd = some (mA f) := by
  have xa : ObjOk X.prog X.w H s1.heap a (.ext fun h => ∃ (oe : Obj) (vs : Array Value), h.get? a = some oe ∧ Zc (.ref C) (some dd) oe ∧ oe.data = .fields vs) := hok a _ ea
  have xd : ObjOk X.prog X.w H s1.heap dd (.xd fs) := hok dd _ ed
  obtain ⟨oe, vs, there, zc, dt⟩ := xa.1
  obtain ⟨mA, hns, rel⟩ := xd
  obtain ⟨odd, hd, look⟩ := lookIn_ns hns
  exact ⟨oe, odd, mA, ⟨there, zc.1, by unfold PySem.W.notCls; rw [dt], by rw [zc.2]; exact hd⟩, rel, look⟩
theorem call_isV : CallR X (.builtin "isinstance") (rIsV X.K) := by
  intro pins s1 σ H xs us Q I r h
  obtain ⟨a, C, dd, c, cv, b, fs, rfl, hcv, ec, ea, ed, z, q⟩ := h
  obtain ⟨u1, u2, rfl, v1, v2⟩ := vals2 r
  have ev := hcv.eq v2
  subst ev
  obtain rfl : u1 = Value.ref a := v1
  obtain ⟨oe, odd, mA, J, _, _⟩ := erv_at I.hok ea ed
  exact PySem.W.kia_one (exc_kit ec.hg ec.hk ec.hs ec.hd ec.ha ec.hn ec.ht ec.hm) I.kIn J z (fun y => nomatch y) fun tk => ⟨.bl b, H, I.kept (t' := tk) fun _ _ y => y, rfl, q⟩
theorem pe_xv {n : Str} (he : PE X e te) (hb : attributeBase e n X.env (eval e X.env) = eval e X.env := by rfl) : PE X (.Attribute e n pos) (tXv X.K n te) := by
  constructor
  intro pins s0 σ H Q I h
  refine attr_of hb (thn (he.run pins s0 σ H _ I h) fun u0 s1 g => ?_)
  obtain ⟨x, H1, I1, rx, a, C, dd, fs, v, ex, T, hno, ea, ed, l, q⟩ := g
  subst ex
  obtain rfl : u0 = Value.ref a := rx
  obtain ⟨oe, odd, mA, J, rel, look⟩ := erv_at I1.hok ea ed
  obtain ⟨u, hu, ru⟩ := RelO.some_of (v := v) (o := mA n) (by have := rel n; rw [l] at this; exact this)
  exact HandSPX.exc_get I1.kIn J T.ga T.gg T.exC (PySem.W.findObj_own T.hdC hno rfl (by rw [look, hu])) (handed_of ru) ⟨v, H1, I1.tok _, ru, q⟩
end
end Og

namespace Og
open PySem PySem.Spec PyProof.Rows L2
open PySem.NumText (AllDigits digitsVal)
/-! ### programs as trees, and which are good -/
def qw : List Nat := [113, 117, 111, 116, 101]
def specials : List (List Nat × Nat) := [(qw, 1), ([105, 102], 3), ([115, 97, 109, 101], 2), ([119, 111, 114, 100], 1), ([104, 101, 97, 100], 1), ([116, 97, 105, 108], 1), ([106, 111, 105, 110], 2)]
def spAr (x : List Nat) : Option Nat := (specials.find? fun p => decide (p.1 = x)).map (·.2)
def fn? : Tree → Option (List Nat × List Tree × Tree)
  | .l [.w n, .l ps, b] => some (n, ps, b)
  | _ => none
theorem fn?_iff {t : Tree} {n : List Nat} {ps : List Tree} {b : Tree} : fn? t = some (n, ps, b) ↔ t = .l [.w n, .l ps, b] := by
  unfold fn?
  split
  · rename_i n' ps' b'
    constructor
    · intro h
      have h1 := Option.some.inj h
      have h2 := (Prod.mk.inj h1).1
      have h3 := (Prod.mk.inj h1).2
      have h4 := (Prod.mk.inj h3).1
      have h5 := (Prod.mk.inj h3).2
      rw [h2, h4, h5]
    · intro h
      have h1 := Tree.l.inj h
      have h2 := Tree.w.inj (List.cons.inj h1).1
      have h3 := (List.cons.inj h1).2
      have h4 := Tree.l.inj (List.cons.inj h3).1
      have h5 := (List.cons.inj (List.cons.inj h3).2).1
      rw [h2, h4, h5]
  · rename_i no
    constructor
    · intro h; cases h
    · intro h; exact absurd h (no n ps b)
def arity : List Tree → List Nat → Option Nat
  | [], _ => none
  | t :: r, x => match fn? t with
    | some (n, ps, _) => if n = x then some ps.length else arity r x
    | none => arity r x
/-- how many parts stand behind the word x -/
def parts (fs : List Tree) (x : List Nat) : Option Nat := match spAr x with
  | some k => some k
  | none => arity fs x
mutual
def GoodE (fs ps : List Tree) : Tree → Prop
  | .w x => Tree.w x ∈ ps
  | .l [] => False
  | .l (.l _ :: _) => False
  | .l (.w n :: ts) => parts fs n = some ts.length ∧ (n = qw ∨ GoodEs fs ps ts)
def GoodEs (fs ps : List Tree) : List Tree → Prop
  | [] => True
  | t :: ts => GoodE fs ps t ∧ GoodEs fs ps ts
end
theorem goodE_w {fs ps : List Tree} {x : List Nat} : GoodE fs ps (.w x) ↔ Tree.w x ∈ ps := by rw [GoodE]
theorem goodEs_iff {fs ps : List Tree} : ∀ {ts : List Tree}, GoodEs fs ps ts ↔ ∀ t ∈ ts, GoodE fs ps t
  | [] => by rw [GoodEs]; exact ⟨fun _ t m => absurd m (List.not_mem_nil), fun _ => trivial⟩
  | u :: ts => by
    rw [GoodEs, goodEs_iff]
    constructor
    · rintro ⟨h1, h2⟩ t m
      rcases List.mem_cons.mp m with e | m
      · rw [e]; exact h1
      · exact h2 t m
    · intro h
      exact ⟨h u (List.mem_cons_self ..), fun t m => h t (List.mem_cons_of_mem _ m)⟩
/-- the list's first item is a word, with the right number of parts behind it -/
def Right (fs ts : List Tree) : Prop := ∃ n r, ts = .w n :: r ∧ parts fs n = some r.length
theorem goodE_l {fs ps ts : List Tree} : GoodE fs ps (.l ts) ↔ Right fs ts ∧ (ts.head? = some (.w qw) ∨ ∀ t ∈ ts.tail, GoodE fs ps t) := by
  cases ts with
  | nil =>
    rw [GoodE]
    constructor
    · intro h; exact h.elim
    · rintro ⟨⟨n, r, e, _⟩, _⟩; cases e
  | cons t r =>
    cases t with
    | l us =>
      rw [GoodE]
      constructor
      · intro h; exact h.elim
      · rintro ⟨⟨n, r', e, _⟩, _⟩
        have := (List.cons.inj e).1
        cases this
    | w n =>
      rw [GoodE, goodEs_iff]
      constructor
      · rintro ⟨h1, h2⟩
        refine ⟨⟨n, r, rfl, h1⟩, ?_⟩
        rcases h2 with h2 | h2
        · exact .inl (by rw [h2]; rfl)
        · exact .inr h2
      · rintro ⟨⟨n', r', e, h1⟩, h2⟩
        have e1 := Tree.w.inj (List.cons.inj e).1
        have e2 := (List.cons.inj e).2
        subst e1 e2
        refine ⟨h1, ?_⟩
        rcases h2 with h2 | h2
        · exact .inl (Tree.w.inj (Option.some.inj h2))
        · exact .inr h2
def GoodName (n : Nat) (x : List Nat) : Prop := spAr x = none ∧ ∀ ds, x = 102 :: ds → ds ≠ [] → AllDigits ds → (ds = [48] ∨ ds.head? ≠ some 48) ∧ digitsVal ds < n
def GoodPs (ps : List Tree) : Prop := ps.length ≤ 12 ∧ ∀ (i : Nat) (t : Tree), ps[i]? = some t → ∃ x, t = .w x ∧ spAr x = none ∧ ∀ j : Nat, j < i → ps[j]? ≠ some (.w x)
def Dupe (fs : List Tree) (i : Nat) (x : List Nat) : Prop := ∃ (j : Nat) (r : List Tree), j < i ∧ fs[j]? = some (.l (.w x :: r))
/-- the function is good, but for its name being used earlier -/
def GoodFn (fs : List Tree) (t : Tree) : Prop := ∃ n ps b, t = .l [.w n, .l ps, b] ∧ GoodName fs.length n ∧ GoodPs ps ∧ GoodE fs ps b
def GoodAt (fs : List Tree) (i : Nat) : Prop := ∃ n ps b, fs[i]? = some (.l [.w n, .l ps, b]) ∧ GoodName fs.length n ∧ GoodPs ps ∧ GoodE fs ps b ∧ ¬ Dupe fs i n
/-- what is found: none, or the number of the first function that is not good -/
def BadNo : Tree → Option Nat → Prop
  | .w _, o => o = some 0
  | .l fs, o => (fs = [] ∧ o = some 0) ∨ (fs ≠ [] ∧ ((o = none ∧ ∀ i, i < fs.length → GoodAt fs i) ∨ ∃ i, o = some i ∧ i < fs.length ∧ ¬ GoodAt fs i ∧ ∀ j, j < i → GoodAt fs j))
theorem BadNo.uniq {t : Tree} {a b : Option Nat} (h1 : BadNo t a) (h2 : BadNo t b) : a = b := by
  cases t with
  | w x => rw [show a = some 0 from h1, show b = some 0 from h2]
  | l fs =>
    rcases h1 with ⟨e1, o1⟩ | ⟨n1, h1⟩ <;> rcases h2 with ⟨e2, o2⟩ | ⟨n2, h2⟩
    · rw [o1, o2]
    · exact absurd e1 n2
    · exact absurd e2 n1
    · rcases h1 with ⟨o1, g1⟩ | ⟨i, o1, l1, b1, g1⟩ <;> rcases h2 with ⟨o2, g2⟩ | ⟨j, o2, l2, b2, g2⟩
      · rw [o1, o2]
      · exact absurd (g1 j l2) b2
      · exact absurd (g2 i l1) b1
      · rw [o1, o2]
        rcases Nat.lt_trichotomy i j with h | h | h
        · exact absurd (g2 i h) b1
        · rw [h]
        · exact absurd (g1 j h) b2
theorem arity_app {x : List Nat} : ∀ (a b : List Tree), arity (a ++ b) x = match arity a x with
    | some k => some k
    | none => arity b x
  | [], b => rfl
  | t :: a, b => by
    rw [List.cons_append, arity, arity, arity_app a b]
    cases fn? t with
    | none => rfl
    | some p =>
      obtain ⟨n, ps, bd⟩ := p
      show (if n = x then _ else _) = match (if n = x then _ else _) with | some k => some k | none => arity b x
      by_cases h : n = x
      · rw [if_pos h, if_pos h]
      · rw [if_neg h, if_neg h]
        cases arity a x <;> rfl
theorem arity_one_no {t : Tree} {x : List Nat} (h : fn? t = none) : arity [t] x = none := by
  rw [arity, h]; rfl
theorem arity_one {t : Tree} {n x : List Nat} {ps : List Tree} {b : Tree} (h : fn? t = some (n, ps, b)) : arity [t] x = if n = x then some ps.length else none := by
  rw [arity, h]; rfl
/-! ### numbers in names -/
theorem digitsVal_lt : ∀ (n : Nat) (ds : List Nat), ds.length = n → AllDigits ds → digitsVal ds < 10 ^ n := fun n => by
  induction n with
  | zero =>
    intro ds h _
    rw [List.length_eq_zero_iff.mp h]
    decide
  | succ n ih =>
    intro ds h a
    have ne : ds ≠ [] := by intro e; rw [e] at h; cases h
    obtain ⟨ys, y, rfl⟩ := snoc_of ne
    rw [List.length_append, List.length_singleton] at h
    have h1 := ih ys (by omega) fun c m => a c (List.mem_append.mpr (.inl m))
    have h2 := a y (List.mem_append.mpr (.inr (List.mem_singleton.mpr rfl)))
    rw [NumText.digitsVal_snoc, Nat.pow_succ]
    omega
/-- str(int(ds)) is ds just where there is no leading zero -/
theorem str_digits {ds : List Nat} (h : AllDigits ds) (ne : ds ≠ []) : Str.ofString (toString ((digitsVal ds : Nat) : Int)) = tx ds ↔ (ds = [48] ∨ ds.head? ≠ some 48) := by
  have e := PySem.W.KIN.signs_num (digitsVal ds)
  have chr : ∀ cs : List Nat, AllDigits cs → (cs.map Char.ofNat).map Char.toNat = cs := fun cs hc => by
    rw [List.map_map]
    conv => rhs; rw [← List.map_id cs]
    refine List.map_congr_left fun c m => ?_
    have := hc c m
    have v : ∀ k, k < 58 → (Char.ofNat k).toNat = k := by decide
    exact v c (by omega)
  obtain ⟨c, r, rfl⟩ : ∃ c r, ds = c :: r := by
    cases ds with
    | nil => exact absurd rfl ne
    | cons c r => exact ⟨c, r, rfl⟩
  have hc := h c (List.mem_cons_self ..)
  constructor
  · intro q
    rw [q] at e
    have e' : c :: r = (Nat.toDigits 10 (digitsVal (c :: r))).map Char.toNat := e
    by_cases z : c = 48
    · left
      subst z
      rw [NumText.toDigits_all _ h] at e'
      have d : ((48 :: r).dropWhile (· == 48)).length ≤ r.length := by
        rw [List.dropWhile_cons]
        exact (List.dropWhile_sublist _).length_le
      cases hd : (48 :: r).dropWhile (· == 48) with
      | nil =>
        rw [hd] at e'
        exact e'
      | cons a b =>
        rw [hd] at e' d
        have := congrArg List.length e'
        simp at this
        simp at d
        omega
    · right
      intro q2
      exact z (Option.some.inj q2)
  · intro q
    have key : (Nat.toDigits 10 (digitsVal (c :: r))).map Char.toNat = c :: r := by
      rcases q with q | q
      · rw [q]; decide
      · have z : c ≠ 48 := fun e => q (by rw [e]; rfl)
        rw [NumText.toDigits_digitsVal r.length (c :: r) (by rw [List.length_cons]) h (.inr ⟨c, r, rfl, by omega⟩)]
        exact chr _ h
    rw [key] at e
    rw [tx_of (Str.ofString (toString ((digitsVal (c :: r) : Nat) : Int))), e]
end Og

namespace Og
open PySem PySem.Spec PyProof.Rows L2
open PySem.NumText (AllDigits digitsVal)
/-! ### a dict of the module, of texts and numbers -/
def Ents : List DictEntry → List (List Nat × Nat) → Prop
  | [], [] => True
  | e :: r, p :: q => (∃ t, e.key = .str (tx p.1) t) ∧ (∃ t, e.val = .int (p.2 : Nat) t) ∧ Ents r q
  | _, _ => False
theorem Ents.find {z : List Nat} : ∀ {es : List DictEntry} {L : List (List Nat × Nat)}, Ents es L →
    match L.find? (fun p => decide (p.1 = z)) with
    | some p => ∃ e t, es.find? (·.key.isStr (tx z)) = some e ∧ e.val = .int (p.2 : Nat) t
    | none => es.find? (·.key.isStr (tx z)) = none ∧ es.any (·.refKey) = false
  | [], [], _ => ⟨rfl, rfl⟩
  | [], p :: q, h => h.elim
  | e :: r, [], h => h.elim
  | e :: r, p :: q, h => by
    obtain ⟨⟨t1, h1⟩, ⟨t2, h2⟩, h3⟩ := h
    have ih := Ents.find (z := z) h3
    have k1 : e.key.isStr (tx z) = decide (p.1 = z) := by
      rw [h1]
      show (tx p.1 == tx z) = _
      by_cases c : p.1 = z
      · rw [c, decide_eq_true rfl]; simp
      · rw [decide_eq_false c]
        exact beq_eq_false_iff_ne.mpr fun e => c (tx_inj e)
    have k2 : e.refKey = false := by
      unfold DictEntry.refKey
      rw [h1]
    rw [List.find?_cons, List.find?_cons, k1, List.any_cons, k2]
    by_cases c : p.1 = z
    · rw [decide_eq_true c]
      exact ⟨e, t2, rfl, h2⟩
    · rw [decide_eq_false c]
      exact ih
structure DictC (K : PySem.W.Frag) (w : World) (mg : Str → Option Value) (x : Str) (L : List (List Nat × Nat)) : Prop where
  ex : ∃ d es n, mg x = some (.ref d) ∧ KDict K w d es n ∧ Ents es.toList L
/-- the same, at d -/
structure DictD (K : PySem.W.Frag) (w : World) (L : List (List Nat × Nat)) (d : Addr) : Prop where
  ex : ∃ es n, KDict K w d es n ∧ Ents es.toList L
section
variable {K : PySem.W.Frag} {w : World} {L : List (List Nat × Nat)} {d : Addr} {X : Cx}
theorem DictD.get (D : DictD K w L d) (z : List Nat) : match L.find? (fun p => decide (p.1 = z)) with
    | some p => ∃ t, PySem.W.nsIn K d (tx z) = some (some (.int (p.2 : Nat) t))
    | none => PySem.W.nsIn K d (tx z) = some none := by
  obtain ⟨es, n, kd, en⟩ := D.ex
  have h := Ents.find (z := z) en
  cases hf : L.find? (fun p => decide (p.1 = z)) with
  | some p =>
    rw [hf] at h
    obtain ⟨e, t, h1, h2⟩ := h
    refine ⟨t, ?_⟩
    unfold PySem.W.nsIn
    rw [kd.at_]
    show (match es.toList.find? (·.key.isStr (tx z)) with | some e => some (some e.val) | none => _) = _
    rw [h1]
    show some (some e.val) = _
    rw [h2]
  | none =>
    rw [hf] at h
    unfold PySem.W.nsIn
    rw [kd.at_]
    show (match es.toList.find? (·.key.isStr (tx z)) with | some e => some (some e.val) | none => if es.toList.any (·.refKey) then none else some none) = _
    rw [h.1]
    show (if es.toList.any (·.refKey) then none else some none) = _
    rw [h.2]
    rfl
/-- x in D -/
def rInC (L : List (List Nat × Nat)) (d : Addr) : R2 := fun x y H Q => ∃ z, x = .str (tx z) ∧ y = .ref d ∧ Q (.bl (L.find? (fun p => decide (p.1 = z))).isSome) H
theorem op_inC (D : DictD X.K X.w L d) : OpR X (compareOp .In) (rInC L d) := by
  intro pins s σ H x y v u Q I rx ry h
  obtain ⟨z, rfl, rfl, q⟩ := h
  have g := D.get z
  obtain ⟨es, n, kd, en⟩ := D.ex
  cases hf : L.find? (fun p => decide (p.1 = z)) with
  | some p =>
    rw [hf] at g q
    obtain ⟨tk, g⟩ := g
    exact op_in_kd kd pins s σ H _ _ v u Q I rx ry ⟨tx z, _, rfl, rfl, g, q⟩
  | none =>
    rw [hf] at g q
    exact op_in_kd kd pins s σ H _ _ v u Q I rx ry ⟨tx z, _, rfl, rfl, g, q⟩
theorem DictD.item (D : DictD K w L d) {z : List Nat} {p : List Nat × Nat} (hf : L.find? (fun p => decide (p.1 = z)) = some p) : KDct K w d (tx z) (.int (p.2 : Nat)) := by
  have g := D.get z
  rw [hf] at g
  obtain ⟨tk, g⟩ := g
  obtain ⟨es, n, kd, en⟩ := D.ex
  exact ⟨es, n, _, kd.at_, kd.lit, g, tk, rfl⟩
end
theorem spAr_isSome (z : List Nat) : (specials.find? (fun p => decide (p.1 = z))).isSome = (spAr z).isSome := by
  unfold spAr
  cases specials.find? (fun p => decide (p.1 = z)) <;> rfl
/-! ### texts -/
theorem lit_f : ("f" : Str) = tx [102] := by decide +kernel
theorem sw_f (x : List Nat) : Txt.startswith (tx x) (tx [102]) = decide (x.head? = some 102) := by
  unfold Txt.startswith
  rw [PySem.StrLaws.subAt_eq, tx_list, tx_list, tx_len, tx_len]
  cases x with
  | nil => rfl
  | cons c r =>
    rw [List.drop_zero]
    show (decide (0 + 1 ≤ (c :: r).length) && (List.take 1 (c :: r) == [102])) = _
    have h : decide (0 + 1 ≤ (c :: r).length) = true := decide_eq_true (by rw [List.length_cons]; omega)
    rw [h, Bool.true_and]
    show ([c] == [102]) = decide (some c = some 102)
    by_cases e : c = 102
    · subst e; rfl
    · rw [decide_eq_false (fun z => e (Option.some.inj z))]
      exact beq_eq_false_iff_ne.mpr fun z => e (List.cons.inj z).1
theorem isdigit_iff {x : List Nat} (h : ∀ c ∈ x, c < 128) : Txt.isdigit (tx x) = true ↔ x ≠ [] ∧ AllDigits x := by
  unfold Txt.isdigit
  rw [tx_len, ← Array.all_toList]
  show (decide (x.length > 0) && x.all Unicode.isDigit) = true ↔ _
  rw [Bool.and_eq_true, decide_eq_true_eq, List.all_eq_true]
  have d : ∀ c, c < 128 → Unicode.isDigit c = decide (48 ≤ c ∧ c ≤ 57) := by decide +kernel
  constructor
  · rintro ⟨h1, h2⟩
    refine ⟨by intro e; rw [e] at h1; exact absurd h1 (by decide), fun c m => ?_⟩
    have := h2 c m
    rw [d c (h c m)] at this
    exact of_decide_eq_true this
  · rintro ⟨h1, h2⟩
    refine ⟨List.length_pos_iff.mpr h1, fun c m => ?_⟩
    rw [d c (h c m)]
    exact decide_eq_true (h2 c m)
end Og

namespace Og
open PySem PySem.Spec PyProof.Rows L2
def topS (i : Nat) : Stmt := PySem.Challenge.pw_ownglass_k51_machine_programs_that_are_r.main.body.getD i (.Pass ⟨0, 0, 0, 0⟩)
abbrev s_wall : Stmt := topS 0
abbrev n_wall : List Str := ["k"]
abbrev p_wall : List Str := ["k"]
theorem sc_wall : FnScope n_wall p_wall (defScope s_wall) := ⟨rfl, rfl, rfl, by decide +kernel, rfl, by decide +kernel, by decide +kernel⟩
abbrev s_parts_of : Stmt := topS 10
abbrev n_parts_of : List Str := ["value", "parts", "waiting", "part"]
abbrev p_parts_of : List Str := ["value"]
theorem sc_parts_of : FnScope n_parts_of p_parts_of (defScope s_parts_of) := ⟨rfl, rfl, rfl, by decide +kernel, rfl, by decide +kernel, by decide +kernel⟩
abbrev s_check_machine : Stmt := topS 13
abbrev n_check_machine : List Str := ["value", "nodes", "names", "item", "earlier", "number", "routine", "name", "instruction"]
abbrev p_check_machine : List Str := ["value"]
theorem sc_check_machine : FnScope n_check_machine p_check_machine (defScope s_check_machine) := ⟨rfl, rfl, rfl, by decide +kernel, rfl, by decide +kernel, by decide +kernel⟩
abbrev s_is_right_instruction : Stmt := topS 14
abbrev n_is_right_instruction : List Str := ["instruction", "names", "nodes", "word", "parts", "name"]
abbrev p_is_right_instruction : List Str := ["instruction", "names", "nodes"]
theorem sc_is_right_instruction : FnScope n_is_right_instruction p_is_right_instruction (defScope s_is_right_instruction) := ⟨rfl, rfl, rfl, by decide +kernel, rfl, by decide +kernel, by decide +kernel⟩
abbrev s_law_draws : Stmt := topS 16
abbrev n_law_draws : List Str := ["script", "many", "rests", "cell", "draws", "k", "at", "mixed"]
abbrev p_law_draws : List Str := ["script", "many"]
theorem sc_law_draws : FnScope n_law_draws p_law_draws (defScope s_law_draws) := ⟨rfl, rfl, rfl, by decide +kernel, rfl, by decide +kernel, by decide +kernel⟩
abbrev s_law_take : Stmt := topS 17
abbrev n_law_take : List Str := ["hand", "many", "at", "draws"]
abbrev p_law_take : List Str := ["hand", "many"]
theorem sc_law_take : FnScope n_law_take p_law_take (defScope s_law_take) := ⟨rfl, rfl, rfl, by decide +kernel, rfl, by decide +kernel, by decide +kernel⟩
abbrev s_law_value : Stmt := topS 18
abbrev n_law_value : List Str := ["hand", "depth", "k"]
abbrev p_law_value : List Str := ["hand", "depth"]
theorem sc_law_value : FnScope n_law_value p_law_value (defScope s_law_value) := ⟨rfl, rfl, rfl, by decide +kernel, rfl, by decide +kernel, by decide +kernel⟩
abbrev s_law_names_of : Stmt := topS 19
abbrev n_law_names_of : List Str := ["hand", "names", "k", "name"]
abbrev p_law_names_of : List Str := ["hand"]
theorem sc_law_names_of : FnScope n_law_names_of p_law_names_of (defScope s_law_names_of) := ⟨rfl, rfl, rfl, by decide +kernel, rfl, by decide +kernel, by decide +kernel⟩
abbrev s_law_list : Stmt := topS 20
abbrev n_law_list : List Str := ["hand", "many", "k"]
abbrev p_law_list : List Str := ["hand", "many"]
theorem sc_law_list : FnScope n_law_list p_law_list (defScope s_law_list) := ⟨rfl, rfl, rfl, by decide +kernel, rfl, by decide +kernel, by decide +kernel⟩
abbrev s_law_instruction : Stmt := topS 21
abbrev n_law_instruction : List Str := ["hand", "names", "kind", "one"]
abbrev p_law_instruction : List Str := ["hand", "names"]
theorem sc_law_instruction : FnScope n_law_instruction p_law_instruction (defScope s_law_instruction) := ⟨rfl, rfl, rfl, by decide +kernel, rfl, by decide +kernel, by decide +kernel⟩
abbrev s_law_machine : Stmt := topS 22
abbrev n_law_machine : List Str := ["hand", "names", "routines", "name", "many", "k"]
abbrev p_law_machine : List Str := ["hand"]
theorem sc_law_machine : FnScope n_law_machine p_law_machine (defScope s_law_machine) := ⟨rfl, rfl, rfl, by decide +kernel, rfl, by decide +kernel, by decide +kernel⟩
abbrev s_law_names_in : Stmt := topS 23
abbrev n_law_names_in : List Str := ["program", "names", "one"]
abbrev p_law_names_in : List Str := ["program"]
theorem sc_law_names_in : FnScope n_law_names_in p_law_names_in (defScope s_law_names_in) := ⟨rfl, rfl, rfl, by decide +kernel, rfl, by decide +kernel, by decide +kernel⟩
abbrev s_law_instruction_good : Stmt := topS 24
abbrev n_law_instruction_good : List Str := ["one", "names"]
abbrev p_law_instruction_good : List Str := ["one", "names"]
theorem sc_law_instruction_good : FnScope n_law_instruction_good p_law_instruction_good (defScope s_law_instruction_good) := ⟨rfl, rfl, rfl, by decide +kernel, rfl, by decide +kernel, by decide +kernel⟩
abbrev s_law_routine_good : Stmt := topS 25
abbrev n_law_routine_good : List Str := ["program", "at", "names", "routine", "one"]
abbrev p_law_routine_good : List Str := ["program", "at", "names"]
theorem sc_law_routine_good : FnScope n_law_routine_good p_law_routine_good (defScope s_law_routine_good) := ⟨rfl, rfl, rfl, by decide +kernel, rfl, by decide +kernel, by decide +kernel⟩
abbrev s_law_bad_routine : Stmt := topS 26
abbrev n_law_bad_routine : List Str := ["program", "names", "at"]
abbrev p_law_bad_routine : List Str := ["program"]
theorem sc_law_bad_routine : FnScope n_law_bad_routine p_law_bad_routine (defScope s_law_bad_routine) := ⟨rfl, rfl, rfl, by decide +kernel, rfl, by decide +kernel, by decide +kernel⟩
abbrev s_law_is_right : Stmt := topS 27
abbrev n_law_is_right : List Str := ["program", "due", "e"]
abbrev p_law_is_right : List Str := ["program"]
theorem sc_law_is_right : FnScope n_law_is_right p_law_is_right (defScope s_law_is_right) := ⟨rfl, rfl, rfl, by decide +kernel, rfl, by decide +kernel, by decide +kernel⟩
abbrev s_law_odd : Stmt := topS 28
abbrev n_law_odd : List Str := ["hand", "program", "names", "kind", "name"]
abbrev p_law_odd : List Str := ["hand", "program"]
theorem sc_law_odd : FnScope n_law_odd p_law_odd (defScope s_law_odd) := ⟨rfl, rfl, rfl, by decide +kernel, rfl, by decide +kernel, by decide +kernel⟩
abbrev s_law_bent : Stmt := topS 29
abbrev n_law_bent : List Str := ["hand", "program", "value", "depth", "kind", "at"]
abbrev p_law_bent : List Str := ["hand", "program", "value", "depth"]
theorem sc_law_bent : FnScope n_law_bent p_law_bent (defScope s_law_bent) := ⟨rfl, rfl, rfl, by decide +kernel, rfl, by decide +kernel, by decide +kernel⟩
abbrev s_law_chain : Stmt := topS 30
abbrev n_law_chain : List Str := ["hand", "value", "k"]
abbrev p_law_chain : List Str := ["hand"]
theorem sc_law_chain : FnScope n_law_chain p_law_chain (defScope s_law_chain) := ⟨rfl, rfl, rfl, by decide +kernel, rfl, by decide +kernel, by decide +kernel⟩
abbrev s_law : Stmt := topS 31
abbrev n_law : List Str := ["script", "hand", "program", "step", "at", "bent", "other", "name", "more", "one", "deep", "good", "wrong"]
abbrev p_law : List Str := ["script"]
theorem sc_law : FnScope n_law p_law (defScope s_law) := ⟨rfl, rfl, rfl, by decide +kernel, rfl, by decide +kernel, by decide +kernel⟩
abbrev s_BadText_init : Stmt := inClass (topS 3) 0
abbrev n_BadText_init : List Str := ["self", "place"]
abbrev p_BadText_init : List Str := ["self", "place"]
theorem sc_BadText_init : FnScope n_BadText_init p_BadText_init (defScope s_BadText_init) := ⟨rfl, rfl, rfl, by decide +kernel, rfl, by decide +kernel, by decide +kernel⟩
abbrev s_BadProgram_init : Stmt := inClass (topS 4) 0
abbrev n_BadProgram_init : List Str := ["self", "function"]
abbrev p_BadProgram_init : List Str := ["self", "function"]
theorem sc_BadProgram_init : FnScope n_BadProgram_init p_BadProgram_init (defScope s_BadProgram_init) := ⟨rfl, rfl, rfl, by decide +kernel, rfl, by decide +kernel, by decide +kernel⟩
abbrev s_Nodes_init : Stmt := inClass (topS 9) 0
abbrev n_Nodes_init : List Str := ["self"]
abbrev p_Nodes_init : List Str := ["self"]
theorem sc_Nodes_init : FnScope n_Nodes_init p_Nodes_init (defScope s_Nodes_init) := ⟨rfl, rfl, rfl, by decide +kernel, rfl, by decide +kernel, by decide +kernel⟩
abbrev s_Nodes_joined : Stmt := inClass (topS 9) 1
abbrev n_Nodes_joined : List Str := ["self", "first", "rest", "pair", "number"]
abbrev p_Nodes_joined : List Str := ["self", "first", "rest"]
theorem sc_Nodes_joined : FnScope n_Nodes_joined p_Nodes_joined (defScope s_Nodes_joined) := ⟨rfl, rfl, rfl, by decide +kernel, rfl, by decide +kernel, by decide +kernel⟩
abbrev s_Nodes_number_of : Stmt := inClass (topS 9) 2
abbrev n_Nodes_number_of : List Str := ["self", "value", "done", "part", "number", "_"]
abbrev p_Nodes_number_of : List Str := ["self", "value"]
theorem sc_Nodes_number_of : FnScope n_Nodes_number_of p_Nodes_number_of (defScope s_Nodes_number_of) := ⟨rfl, rfl, rfl, by decide +kernel, rfl, by decide +kernel, by decide +kernel⟩
abbrev s_Nodes_number_of_word : Stmt := inClass (topS 9) 3
abbrev n_Nodes_number_of_word : List Str := ["self", "word", "number"]
abbrev p_Nodes_number_of_word : List Str := ["self", "word"]
theorem sc_Nodes_number_of_word : FnScope n_Nodes_number_of_word p_Nodes_number_of_word (defScope s_Nodes_number_of_word) := ⟨rfl, rfl, rfl, by decide +kernel, rfl, by decide +kernel, by decide +kernel⟩
abbrev s_Nodes_value_of : Stmt := inClass (topS 9) 4
abbrev n_Nodes_value_of : List Str := ["self", "number"]
abbrev p_Nodes_value_of : List Str := ["self", "number"]
theorem sc_Nodes_value_of : FnScope n_Nodes_value_of p_Nodes_value_of (defScope s_Nodes_value_of) := ⟨rfl, rfl, rfl, by decide +kernel, rfl, by decide +kernel, by decide +kernel⟩
abbrev s_Nodes_numbers_within : Stmt := inClass (topS 9) 5
abbrev n_Nodes_numbers_within : List Str := ["self", "number"]
abbrev p_Nodes_numbers_within : List Str := ["self", "number"]
theorem sc_Nodes_numbers_within : FnScope n_Nodes_numbers_within p_Nodes_numbers_within (defScope s_Nodes_numbers_within) := ⟨rfl, rfl, rfl, by decide +kernel, rfl, by decide +kernel, by decide +kernel⟩
abbrev s_Nodes_items_of : Stmt := inClass (topS 9) 6
abbrev n_Nodes_items_of : List Str := ["self", "number"]
abbrev p_Nodes_items_of : List Str := ["self", "number"]
theorem sc_Nodes_items_of : FnScope n_Nodes_items_of p_Nodes_items_of (defScope s_Nodes_items_of) := ⟨rfl, rfl, rfl, by decide +kernel, rfl, by decide +kernel, by decide +kernel⟩
abbrev s_Nodes_is_great : Stmt := inClass (topS 9) 7
abbrev n_Nodes_is_great : List Str := ["self", "number"]
abbrev p_Nodes_is_great : List Str := ["self", "number"]
theorem sc_Nodes_is_great : FnScope n_Nodes_is_great p_Nodes_is_great (defScope s_Nodes_is_great) := ⟨rfl, rfl, rfl, by decide +kernel, rfl, by decide +kernel, by decide +kernel⟩
/-- the constants of the module -/
structure Mc (mg : Str → Option Value) : Prop where
  EMPTY : ∃ t, mg "EMPTY" = some (.int 0 t)
  YES : ∃ t, mg "YES" = some (.int 1 t)
/-- the names of built-ins that no row of the program gives another meaning -/
structure Bn (mg : Str → Option Value) : Prop where
  len : mg "len" = none
  range : mg "range" = none
  int : mg "int" = none
  abs : mg "abs" = none
  str : mg "str" = none
  tuple : mg "tuple" = none
  list : mg "list" = none
  bool : mg "bool" = none
  isinstance : mg "isinstance" = none
  ValueError : mg "ValueError" = none
  enumerate : mg "enumerate" = none
  set : mg "set" = none
  reversed : mg "reversed" = none
  all : mg "all" = none
/-- what law(script) promises: for a list of at most 63 ints the answer is True -/
def spLaw (K : PySem.W.Frag) : Sp := fun vs H Q _ => ∃ (a : Addr) (ns : List Int), vs = [.ref a] ∧ SqL K H a (ns.map V.int) ∧ ns.length ≤ 63 ∧ ∀ H', Q (.bl true) H'
end Og

namespace Og
open PySem PySem.Spec PyProof.Rows L2
section
variable {P : Program} {w : World} {K : PySem.W.Frag} {mg : Str → Option Value} {base : Heap}
def spDraws (K : PySem.W.Frag) : Sp := fun vs H Q _ => ∃ (a : Addr) (ns : List Int) (m : Nat), vs = [.ref a, .int m] ∧ SqL K H a (ns.map V.int) ∧ ns.length ≤ 63 ∧ m ≤ 100000 ∧
  ∀ (p : Addr) (ds : List Int) (H' : Hp), Keep [] H H' → H p = none → H' p = some (.lst (ds.map V.int)) → ds.length = m → Q (.ref p) H'
theorem has_draws {k : Nat} (D : DefAt K mg "_law_draws" s_law_draws p_law_draws) (B : Bn mg) : Has P w K mg base (k + 1) "_law_draws" p_law_draws (spDraws K) := by
  obtain ⟨f, fd, F, hm, hb⟩ := D.ex
  refine ⟨f, fd, F.ok sc_law_draws (fun vs H Q E h => ?_) (fun cdv A outer s H vs Q E hr h => ?_), hm, F.kp, hb⟩
  · obtain ⟨a, ns, m, rfl, _⟩ := h
    rfl
  obtain ⟨a, ns, m, rfl, hS, h63, hm1, q⟩ := h
  refine ⟨_, (pss_cons (ps_setLc (i := 2) (own := [("cell", 3)]) (g := gName 3) (tt := tYes) rfl sc_law_draws.nd rfl rfl (sw_true rfl rfl rfl (by decide +kernel)) (pi_list (pv 0)) (blkOk_by (N := n_law_draws) (sc := defScope s_law_draws) (by decide +kernel)) (fun _ _ _ _ _ => pg_name (i := 3) sc_law_draws.nd rfl (Or.inl rfl)) (fun _ _ _ _ _ => pts_nil) (fun _ _ _ _ _ => (pe_callB call_abs (by rfl) B.abs (by decide +kernel) (pa_cons (pe_callTy call_int1 (by rfl) B.int (by decide +kernel) (pa_cons (pv 3) pa_nil)) pa_nil))))
    (pss_cons (ps_set (i := 4) sc_law_draws.nd rfl (.inl rfl) (pe_lst pa_nil))
    (pss_cons (ps_for PassesOwn.never rfl (pi_range1 (by rfl) B.range (pa_cons (pv 1) pa_nil)) (pg_name (i := 5) sc_law_draws.nd rfl (.inl rfl))
      (pss_cons (ps_set (i := 3) sc_law_draws.nd rfl (.inl rfl) (pv 5))
      (C8.pss_cut (ps_if (pt_cmpR op_gt (pe_callB call_len_seq (by rfl) B.len PySem.boot_len (pa_cons (pv 0) pa_nil)) pe_int (nomark _)) (pss_cons (ps_set (i := 6) sc_law_draws.nd rfl (.inl rfl) (pe_op op_mod (pv 5) (pe_callB call_len_seq (by rfl) B.len PySem.boot_len (pa_cons (pv 0) pa_nil))))
        (pss_cons (ps_set (i := 3) sc_law_draws.nd rfl (.inl rfl) (pe_callTy call_int1 (by rfl) B.int (by decide +kernel) (pa_cons (pe_ix ix_list (pv 0) (pv 6) (fun _ _ => rfl)) pa_nil)))
        (pss_one (ps_if (PW.pt (pw_and (pt_cmpR op_ge (pv 3) (pe_op op_pow pe_int pe_int) (nomark _)) (pw_and1 (pt_cmpR op_gt (pe_ix ix_list (pv 2) (pv 6) (fun _ _ => rfl)) pe_int (nomark _))))) (pss_cons (ps_expr (pe_bm PySem.F.plainAttrs_list PySem.F.slot_list_append PySem.F.type_list_append mt_append (pv 4) (pa_cons (pe_op op_mod (pe_callTy call_int1 (by rfl) B.int (by decide +kernel) (pa_cons (pe_ix ix_list (pv 2) (pv 6) (fun _ _ => rfl)) pa_nil)) pe_int) pa_nil)))
          (pss_cons (ps_asg (pe_op op_fdiv (pe_callTy call_int1 (by rfl) B.int (by decide +kernel) (pa_cons (pe_ix ix_list (pv 2) (pv 6) (fun _ _ => rfl)) pa_nil)) pe_int) (pg_sub (pv 2) (pv 6) set_list))
          (pss_one ps_continue))) pss_nil)))) pss_nil)
      (pss_cons (ps_set (i := 7) sc_law_draws.nd rfl (.inl rfl) (pe_op op_mod (pe_callTy call_int1 (by rfl) B.int (by decide +kernel) (pa_cons (pe_op op_add (pe_op op_add (pe_op op_mul (pv 3) pe_int) (pe_op op_mul (pv 5) pe_int)) pe_int) pa_nil)) pe_int))
      (pss_cons (ps_set (i := 7) sc_law_draws.nd rfl (.inl rfl) (pe_op op_mod (pe_callTy call_int1 (by rfl) B.int (by decide +kernel) (pa_cons (pe_op op_add (pe_op op_fdiv (pe_op op_mul (pv 7) (pv 7)) pe_int) (pv 7)) pa_nil)) pe_int))
      (pss_one (ps_expr (pe_bm PySem.F.plainAttrs_list PySem.F.slot_list_append PySem.F.type_list_append mt_append (pv 4) (pa_cons (pe_op op_mod (pe_callTy call_int1 (by rfl) B.int (by decide +kernel) (pa_cons (pe_op op_add (pe_op op_fdiv (pe_op op_mul (pv 7) (pv 7)) pe_int) (pe_op op_mul (pv 5) pe_int)) pa_nil)) pe_int) pa_nil)))))))))
    (pss_one (ps_ret (pv 4)))))), ?_⟩
  -- rests
  refine ⟨_, rfl, a, rfl, ⟨_, hS⟩, fun r nr => ?_⟩
  refine lc_list (K := K) (a := a) (xs := ns.map V.int) (fun i H' => Keep [] H H' ∧ ∃ rs : List Int, rs.length = i ∧ H' r = some (.lst (rs.map V.int))) ⟨Keep.new nr, [], rfl, upd_same⟩ (fun i H' _ p => p.1.sqL (by simp) hS) (fun i x H1 hx p => ?_) (fun H1 p => ?_)
  · obtain ⟨n, rfl, hn⟩ := map_int_get hx
    obtain ⟨k1, rs, e1, e2⟩ := p
    have hi : i < ns.length := (List.getElem?_eq_some_iff.mp hn).1
    refine ⟨rfl, yes ?_⟩
    refine ⟨_, rfl, .inl ⟨_, rfl, _, rfl, _, e2, ?_, ?_⟩⟩
    · rw [List.length_map]
      exact sizeLt (by omega)
    · refine ⟨(k1.cons.setT e2 (List.mem_cons_self ..)).drop nr, rs ++ [if n < 0 then -n else n], (by rw [List.length_append, e1]; rfl), ?_⟩
      rw [upd_same, map_int_app]
  -- draws
  obtain ⟨k1, rs, e1, e2⟩ := p
  rw [List.length_map] at e1
  refine ⟨Nat.zero_le _, fun d nd => ?_⟩
  have k2 : Keep [] H (upd H1 d (.lst [])) := k1.newT nd
  have drn : d ≠ r := (ne_of_none e2 nd).symm
  have nd0 : H d = none := k1.free nd
  have nr0 : H r = none := nr
  refine ⟨_, rfl, (m : Int), rfl, by omega, by omega, ?_⟩
  refine for_range (lo := 0) (n := (m : Int).toNat) (fun i σ H' => ∃ y3 y5 y6 y7, σ = [some (.ref a), some (.int m), some (.ref r), y3, some (.ref d), y5, y6, y7] ∧ Keep [] H H' ∧ (∃ rs : List Int, rs.length = ns.length ∧ H' r = some (.lst (rs.map V.int))) ∧ ∃ ds : List Int, ds.length = i ∧ H' d = some (.lst (ds.map V.int)))
    ⟨_, _, _, _, rfl, k2, ⟨rs, e1, by rw [upd_ne drn.symm]; exact e2⟩, [], rfl, upd_same⟩ (fun i σ H2 hi p => ?_) (fun σ H2 p => ?_)
  · obtain ⟨y3, y5, y6, y7, rfl, k3, ⟨rs, e3, e4⟩, ds, e5, e6⟩ := p
    have sL : SqL K H2 a (ns.map V.int) := k3.sqL (by simp) hS
    have dsz : (ds.map V.int).length < sizeLine := by rw [List.length_map]; exact sizeLt (by omega)
    -- cell = k
    refine ⟨_, rfl, ?_⟩
    refine ⟨fun σ' H' => H' = H2 ∧ ∃ (cell : Int) (y6 y7 : Option V), σ' = [some (.ref a), some (.int m), some (.ref r), some (.int cell), some (.ref d), some (.int (0 + i)), y6, y7], ?_, fun σ' H' hmid => ?_⟩
    refine ⟨_, rfl, _, _, rfl, .inl sL, _, _, rfl, rfl, _, rfl, ?_⟩
    refine ite2 (fun c => ?_) (fun c => ?_)
    · have c0 : (0 : Int) < ((ns.map V.int).length : Nat) := of_decide_eq_true c
      rw [List.length_map] at c0
      have at0 : 0 ≤ (0 + (i : Int)) % (ns.length : Int) := Int.emod_nonneg _ (by omega)
      have at1 : (0 + (i : Int)) % (ns.length : Int) < (ns.length : Int) := Int.emod_lt_of_pos _ c0
      obtain ⟨x, hx⟩ := atI_int (ns := ns) at0 at1
      obtain ⟨y, hy⟩ := atI_int (ns := rs) at0 (by rw [e3]; exact at1)
      refine ⟨_, rfl, _, rfl, _, _, rfl, .inl sL, _, _, rfl, rfl, (by show (0 : Int) < _; rw [List.length_map]; exact c0), ?_⟩
      rw [List.length_map]
      refine ⟨_, rfl, _, rfl, _, _, _, _, rfl, rfl, sL, hx, .inl ⟨_, rfl, ?_⟩⟩
      refine ⟨_, rfl, _, _, rfl, rfl, ⟨by decide, by decide, by decide⟩, _, _, rfl, rfl, _, rfl, ?_⟩
      refine ite2 (fun c1 => ?_) (fun c1 => ?_)
      · refine ⟨_, rfl, _, rfl, _, _, _, _, rfl, rfl, SqL.of e4, hy, _, _, rfl, rfl, _, rfl, ?_⟩
        refine ite2 (fun c2 => ?_) (fun c2 => ?_)
        · -- draws.append(..), rests[at] = .., continue
          refine ⟨_, rfl, .inl ⟨rfl, _, SqL.of e6⟩, _, rfl, _, rfl, _, _, _, _, rfl, rfl, SqL.of e4, hy, .inl ⟨_, rfl, _, _, rfl, rfl, by show (0 : Int) < 1000003; decide, _, _, _, rfl, rfl, e6, dsz, ?_⟩⟩
          have e4' : (upd H2 d (.lst (ds.map V.int ++ [.int (y % 1000003)]))) r = some (.lst (rs.map V.int)) := by rw [upd_ne drn.symm]; exact e4
          refine ⟨_, rfl, _, rfl, _, _, _, _, rfl, rfl, SqL.of e4', hy, .inl ⟨_, rfl, _, _, rfl, rfl, ⟨by decide, by decide⟩, _, rfl, _, rfl, _, _, _, _, rfl, rfl, e4', ixN_int at0 (by rw [List.length_map, e3]; exact at1), ?_⟩⟩
          refine ⟨_, _, _, _, rfl, ?_, ⟨rs.set ((0 + (i : Int)) % (ns.length : Int)).toNat (y / 1000003), by rw [List.length_set]; exact e3, by rw [upd_same, map_int_set]⟩, ds ++ [y % 1000003], by rw [List.length_append, e5]; rfl, by rw [upd_ne drn, upd_same, map_int_app]⟩
          exact (((k3.cons (p := d)).setT e6 (List.mem_cons_self ..)).cons (p := r)).setT e4' (List.mem_cons_self ..) |>.drop nr0 |>.drop nd0
        · exact ⟨rfl, _, _, _, rfl⟩
      · exact ⟨rfl, _, _, _, rfl⟩
    · exact ⟨rfl, _, _, _, rfl⟩
    · obtain ⟨rfl, cell, y6, y7, rfl⟩ := hmid
      have big : ∀ z : Int, 0 ≤ z % 2147483647 ∧ z % 2147483647 < 2147483647 := fun z => ⟨Int.emod_nonneg _ (by decide), Int.emod_lt_of_pos _ (by decide)⟩
      have big2 : ∀ z : Int, 0 ≤ z % 2147483629 ∧ z % 2147483629 < 2147483629 := fun z => ⟨Int.emod_nonneg _ (by decide), Int.emod_lt_of_pos _ (by decide)⟩
      refine ⟨_, rfl, _, _, rfl, rfl, .inr ⟨by decide, by decide⟩, _, rfl, _, _, rfl, rfl, .inr ⟨by decide, by decide⟩, _, _, rfl, rfl, _, _, rfl, rfl, .inl ⟨_, rfl, _, _, rfl, rfl, by show (0 : Int) < 2147483647; decide, ?_⟩⟩
      generalize e1 : (cell * 48271 + (0 + (i : Int)) * 69621 + 11) % 2147483647 = m1
      have b1 := big (cell * 48271 + (0 + (i : Int)) * 69621 + 11)
      rw [e1] at b1
      refine ⟨_, rfl, _, rfl, _, _, rfl, rfl, .inl ⟨by omega, by omega⟩, _, _, rfl, rfl, ⟨by decide, by decide⟩, _, rfl, _, _, rfl, rfl, .inl ⟨_, rfl, _, _, rfl, rfl, by show (0 : Int) < 2147483629; decide, ?_⟩⟩
      generalize e2 : (m1 * m1 / 4096 + m1) % 2147483629 = m2
      have b2 := big2 (m1 * m1 / 4096 + m1)
      rw [e2] at b2
      refine ⟨_, rfl, .inl ⟨rfl, _, SqL.of e6⟩, _, rfl, _, rfl, _, _, rfl, rfl, .inl ⟨by omega, by omega⟩, _, _, rfl, rfl, ⟨by decide, by decide⟩, _, rfl, _, _, rfl, rfl, .inr ⟨by decide, by decide⟩, _, _, rfl, rfl, .inl ⟨_, rfl, _, _, rfl, rfl, by show (0 : Int) < 2147483629; decide, _, _, _, rfl, rfl, e6, dsz, ?_⟩⟩
      exact ⟨_, _, _, _, rfl, (k3.cons.setT e6 (List.mem_cons_self ..)).drop nd0, ⟨rs, e3, by rw [upd_ne drn.symm]; exact e4⟩, ds ++ [_], by rw [List.length_append, e5]; rfl, by rw [upd_same, map_int_app]⟩
  · obtain ⟨y3, y5, y6, y7, rfl, k3, _, ds, e5, e6⟩ := p
    refine ⟨_, rfl, ?_⟩
    exact q d ds H2 k3 nd0 e6 (by omega)
end
end Og

namespace Og
open PySem PySem.Spec PyProof.Rows L2
section
variable {P : Program} {w : World} {K : PySem.W.Frag} {mg : Str → Option Value} {base : Heap}
def spTake : Sp := fun vs H Q _ => ∃ (h d : Addr) (m : Int), vs = [.ref h, .int m] ∧ Hd H h d ∧ 0 < m ∧
  ∀ (i : Int) (H' : Hp), 0 ≤ i → i < m → Keep [h] H H' → Hd H' h d → Q (.int i) H'
theorem has_take {k : Nat} (D : DefAt K mg "_law_take" s_law_take p_law_take) (B : Bn mg) : Has P w K mg base (k + 1) "_law_take" p_law_take spTake := by
  obtain ⟨f, fd, F, hm, hb⟩ := D.ex
  refine ⟨f, fd, F.ok sc_law_take (fun vs H Q E h => ?_) (fun cdv A outer s H vs Q E hr h => ?_), hm, F.kp, hb⟩
  · obtain ⟨a, d, m, rfl, _⟩ := h
    rfl
  obtain ⟨a, d, m, rfl, hd, hm1, q⟩ := h
  refine ⟨_, (pss_cons (ps_set (i := 2) sc_law_take.nd rfl (.inl rfl) (pe_ix ix_list (pv 0) pe_int (fun _ _ => rfl)))
    (pss_cons (ps_asg (pe_op op_add (pv 2) pe_int) (pg_sub (pv 0) pe_int set_list))
    (pss_cons (ps_set (i := 3) sc_law_take.nd rfl (.inl rfl) (pe_ix ix_list (pv 0) pe_int (fun _ _ => rfl)))
    (pss_cons (ps_if (pt_cmpR op_ge (pv 2) (pe_callB call_len_seq (by rfl) B.len PySem.boot_len (pa_cons (pv 3) pa_nil)) (nomark _)) (pss_one (ps_ret pe_int)) pss_nil)
    (pss_one (ps_ret (pe_op op_mod (pe_op op_fdiv (pe_callTy call_int1 (by rfl) B.int (by decide +kernel) (pa_cons (pe_ix ix_list (pv 3) (pv 2) (fun _ _ => rfl)) pa_nil)) pe_int) (pv 1)))))))), ?_⟩
  obtain ⟨n, ds, e1, e2, l⟩ := id hd
  refine ⟨_, rfl, _, _, _, _, rfl, rfl, SqL.of e1, rfl, ?_⟩
  refine ⟨_, rfl, _, _, rfl, rfl, _, rfl, _, _, _, _, rfl, rfl, e1, rfl, ?_⟩
  have e3 : (upd H a (.lst [.ref d, .int ((n : Int) + 1)])) a = some (.lst [.ref d, .int ((n : Int) + 1)]) := upd_same
  have e4 : (upd H a (.lst [.ref d, .int ((n : Int) + 1)])) d = some (.lst (ds.map V.int)) := by rw [upd_ne hd.ne]; exact e2
  have k1 : Keep [a] H (upd H a (.lst [.ref d, .int ((n : Int) + 1)])) := Keep.set e1 (List.mem_cons_self ..)
  have hd2 : Hd (upd H a (.lst [.ref d, .int ((n : Int) + 1)])) a d := ⟨n + 1, ds, upd_same, e4, l⟩
  refine ⟨_, rfl, _, _, _, _, rfl, rfl, SqL.of e3, rfl, ?_⟩
  refine ⟨_, rfl, _, rfl, _, _, rfl, .inl (SqL.of e4), _, _, rfl, rfl, _, rfl, ?_⟩
  refine ite2 (fun c => ?_) (fun c => ?_)
  · exact q 0 _ (by omega) hm1 k1 hd2
  · have c' : ¬ (((ds.map V.int).length : Nat) : Int) ≤ (n : Int) := of_decide_eq_false (Bool.eq_false_iff.mpr c)
    rw [List.length_map] at c'
    obtain ⟨x, hx⟩ := atI_int (ns := ds) (z := (n : Int)) (by omega) (by omega)
    refine ⟨_, rfl, _, rfl, _, _, _, _, rfl, rfl, SqL.of e4, hx, .inl ⟨_, rfl, _, _, rfl, rfl, ⟨by decide, by decide⟩, _, rfl, _, _, rfl, rfl, hm1, ?_⟩⟩
    exact q _ _ (Int.emod_nonneg _ (by omega)) (Int.emod_lt_of_pos _ hm1) k1 hd2
end
end Og

namespace Og
open PySem PySem.Spec PyProof.Rows L2
section
variable {P : Program} {w : World} {K : PySem.W.Frag} {mg : Str → Option Value} {base : Heap}
theorem str_len_app (a b : Str) : (a ++ b).length = a.length + b.length := by
  show (a.cps ++ b.cps).size = a.cps.size + b.cps.size
  simp
theorem num_fits {i : Int} (h : i.natAbs < 10 ^ 9) : (toString i : String).length ≤ 10 ∧ i.natAbs.log2 < 1920 := by
  refine ⟨int_text_length_le10 (by decide) h, ?_⟩
  have : i.natAbs.log2 ≤ i.natAbs.log2 := Nat.le_refl _
  by_cases hz : i.natAbs = 0
  · rw [hz]; decide
  · exact Nat.lt_trans ((Nat.log2_lt hz).mpr (show i.natAbs < 2 ^ 30 from Nat.lt_trans h (by decide))) (by decide)
theorem ok_BadProgram' {C G fI : Addr} {fd : FuncData} (T : ErrT K mg "BadProgram" "BadProgram.__init__" "function" s_BadProgram_init C G fI fd) : FnOk P w K mg base CX0 1 fI fd ["self", "function"] (spErr K "function") := by
  refine T.fn.ok sc_BadProgram_init (fun vs H Q E h => ?_) (fun cdv A outer s H vs Q E hr h => ?_)
  · obtain ⟨_, _, _, rfl, _⟩ := h
    rfl
  obtain ⟨a, C', i, rfl, ox, no, hi, ea, q⟩ := h
  refine ⟨_, pss_cons (ps_expr (pe_clsinit rfl T.gG T.rd T.sg T.vV (pa_cons (pv 0) (pa_cons (pe_joined (.cons pe_str (.cons (pe_fmt (pv 1)) (.cons pe_str .nil)))) pa_nil)))) (pss_one (ps_ost (pv 0) (pv 1))), ?_⟩
  have nf := num_fits hi
  have l1 : (Str.ofString (toString i)).length ≤ 10 := by rw [PySem.ofString_length]; exact nf.1
  have l0 : (Str.empty ++ Str.ofString "function ").length ≤ 100 := by decide +kernel
  have l2 : (Str.ofString " of the program is not good").length ≤ 100 := by decide +kernel
  refine ⟨_, rfl, _, rfl, ?_, _, rfl, .inr ⟨i, rfl, nf.2, _, rfl, ?_, _, rfl, ?_, ?_⟩⟩
  · exact Nat.le_trans l0 (by decide)
  · rw [str_len_app]
    exact Nat.le_trans (show _ ≤ 1000 by omega) (by decide)
  · rw [str_len_app, str_len_app]
    exact Nat.le_trans (show _ ≤ 1000 by omega) (by decide)
  · refine ⟨a, C', _, rfl, by show 1 ≤ 1000; decide, ox, ea, ?_⟩
    exact ⟨_, rfl, _, rfl, a, C', rfl, ox, no, .inl ⟨ea, fun dx hd ne => q dx hd ne⟩⟩
end
end Og

namespace Og
open PySem PySem.Spec PyProof.Rows L2
/-- a small letter; a letter or a digit -/
def Letter (c : Nat) : Prop := 97 ≤ c ∧ c ≤ 122
def Sign (c : Nat) : Prop := (97 ≤ c ∧ c ≤ 122) ∨ (48 ≤ c ∧ c ≤ 57)
/-- a word of the document -/
def IsWord (x : List Nat) : Prop := ∃ c cs, x = c :: cs ∧ Letter c ∧ (∀ y ∈ cs, Sign y) ∧ cs.length ≤ 11
theorem IsWord.ne {x : List Nat} (h : IsWord x) : x ≠ [] := by
  obtain ⟨c, cs, rfl, _⟩ := h
  simp
theorem IsWord.len {x : List Nat} (h : IsWord x) : x.length ≤ 12 := by
  obtain ⟨c, cs, rfl, _, _, l⟩ := h
  rw [List.length_cons]
  omega
theorem lit_letters : ("abcdefghijklmnopqrstuvwxyz" : Str) = tx ((List.range 26).map (· + 97)) := by decide +kernel
theorem lit_digits : ("0123456789" : Str) = tx ((List.range 10).map (· + 48)) := by decide +kernel
theorem letters_at {z : Int} (h0 : 0 ≤ z) (h : z < 26) : ∃ c, atI ((List.range 26).map (· + 97)) z = some c ∧ Letter c := by
  obtain ⟨x, h1, h2⟩ := atI_of (xs := (List.range 26).map (· + 97)) h0 (by simpa using h)
  refine ⟨x, h1, ?_⟩
  have m := List.mem_of_getElem? h2
  obtain ⟨y, hy, rfl⟩ := List.mem_map.mp m
  have := List.mem_range.mp hy
  exact ⟨by omega, by omega⟩
theorem signs_at {z : Int} (h0 : 0 ≤ z) (h : z < 36) : ∃ c, atI ((List.range 26).map (· + 97) ++ (List.range 10).map (· + 48)) z = some c ∧ Sign c := by
  obtain ⟨x, h1, h2⟩ := atI_of (xs := (List.range 26).map (· + 97) ++ (List.range 10).map (· + 48)) h0 (by simpa using h)
  refine ⟨x, h1, ?_⟩
  have m := List.mem_of_getElem? h2
  rcases List.mem_append.mp m with m | m
  · obtain ⟨y, hy, rfl⟩ := List.mem_map.mp m
    have := List.mem_range.mp hy
    exact .inl ⟨by omega, by omega⟩
  · obtain ⟨y, hy, rfl⟩ := List.mem_map.mp m
    have := List.mem_range.mp hy
    exact .inr ⟨by omega, by omega⟩
theorem four {j : Int} (h0 : 0 ≤ j) (h : j < 4) : j = 0 ∨ j = 1 ∨ j = 2 ∨ j = 3 := by omega
end Og

namespace Og
open PySem PySem.Spec PyProof.Rows L2
/-! ### drawn trees -/
mutual
def WT : Tree → Prop
  | .w x => IsWord x
  | .l ts => WTs ts
def WTs : List Tree → Prop
  | [] => True
  | t :: ts => WT t ∧ WTs ts
end
mutual
def Tree.size : Tree → Nat
  | .w _ => 1
  | .l ts => sizes ts + 1
def sizes : List Tree → Nat
  | [] => 0
  | t :: ts => t.size + sizes ts
end
theorem wt_w {x : List Nat} (h : IsWord x) : WT (.w x) := by rw [WT]; exact h
theorem wt_l {ts : List Tree} (h : WTs ts) : WT (.l ts) := by rw [WT]; exact h
theorem WT.word {x : List Nat} (h : WT (.w x)) : IsWord x := by rw [WT] at h; exact h
theorem WT.list {ts : List Tree} (h : WT (.l ts)) : WTs ts := by rw [WT] at h; exact h
theorem wts_nil : WTs [] := by rw [WTs]; trivial
theorem wts_cons {t : Tree} {ts : List Tree} (h : WT t) (r : WTs ts) : WTs (t :: ts) := by rw [WTs]; exact ⟨h, r⟩
theorem WTs.head {t : Tree} {ts : List Tree} (h : WTs (t :: ts)) : WT t := by rw [WTs] at h; exact h.1
theorem WTs.tail {t : Tree} {ts : List Tree} (h : WTs (t :: ts)) : WTs ts := by rw [WTs] at h; exact h.2
theorem WTs.app : ∀ {ts us : List Tree}, WTs ts → WTs us → WTs (ts ++ us)
  | [], us, _, g => g
  | t :: ts, us, h, g => wts_cons h.head (WTs.app h.tail g)
theorem WTs.all : ∀ {ts : List Tree}, WTs ts → ∀ t ∈ ts, WT t
  | [], _, t, m => absurd m (List.not_mem_nil)
  | u :: ts, h, t, m => by
    rcases List.mem_cons.mp m with e | m
    · rw [e]; exact h.head
    · exact WTs.all h.tail t m
theorem WTs.of : ∀ {ts : List Tree}, (∀ t ∈ ts, WT t) → WTs ts
  | [], _ => wts_nil
  | u :: ts, h => wts_cons (h u (List.mem_cons_self ..)) (WTs.of fun t m => h t (List.mem_cons_of_mem _ m))
theorem size_w (x : List Nat) : (Tree.w x).size = 1 := by rw [Tree.size]
theorem size_l (ts : List Tree) : (Tree.l ts).size = sizes ts + 1 := by rw [Tree.size]
theorem sizes_nil : sizes [] = 0 := by rw [sizes]
theorem sizes_cons (t : Tree) (ts : List Tree) : sizes (t :: ts) = t.size + sizes ts := by rw [sizes]
theorem sizes_app : ∀ (ts us : List Tree), sizes (ts ++ us) = sizes ts + sizes us
  | [], us => by rw [List.nil_append, sizes_nil, Nat.zero_add]
  | t :: ts, us => by rw [List.cons_append, sizes_cons, sizes_cons, sizes_app ts us, Nat.add_assoc]
theorem size_pos : ∀ t : Tree, 0 < t.size
  | .w x => by rw [size_w]; omega
  | .l ts => by rw [size_l]; omega
theorem len_sizes : ∀ ts : List Tree, ts.length ≤ sizes ts
  | [] => by rw [sizes_nil]; exact Nat.le_refl _
  | t :: ts => by
    have h := len_sizes ts
    have h2 := size_pos t
    rw [sizes_cons, List.length_cons]
    omega
theorem sizes_take : ∀ (ts : List Tree) (n : Nat), sizes (ts.take n) ≤ sizes ts
  | ts, 0 => by rw [List.take_zero, sizes_nil]; omega
  | [], n + 1 => by rw [List.take_nil]; omega
  | t :: ts, n + 1 => by
    rw [List.take_succ_cons, sizes_cons, sizes_cons]
    have := sizes_take ts n
    omega
theorem sizes_drop : ∀ (ts : List Tree) (n : Nat), sizes (ts.drop n) ≤ sizes ts
  | ts, 0 => by rw [List.drop_zero]; omega
  | [], n + 1 => by rw [List.drop_nil]; omega
  | t :: ts, n + 1 => by
    rw [List.drop_succ_cons, sizes_cons]
    have := sizes_drop ts n
    omega
theorem size_of_get {ts : List Tree} {i : Nat} {t : Tree} (h : ts[i]? = some t) : t.size ≤ sizes ts := by
  induction ts generalizing i with
  | nil => simp at h
  | cons u r ih =>
    rw [sizes_cons]
    cases i with
    | zero =>
      have e : u = t := Option.some.inj h
      rw [e]
      omega
    | succ j =>
      have := ih (i := j) h
      omega
/-- how many parts a drawn value has at most -/
def Most : Nat → Nat
  | 0 => 1
  | n + 1 => 1 + 11 * Most n
/-- nested at most n deep -/
def Deep : Nat → Tree → Prop
  | _, .w _ => True
  | 0, .l _ => False
  | n + 1, .l ts => ∀ t ∈ ts, Deep n t
theorem deep_w (n : Nat) (x : List Nat) : Deep n (.w x) := by cases n <;> trivial
theorem Deep.mono : ∀ {m n : Nat} {t : Tree}, m ≤ n → Deep m t → Deep n t
  | _, n, .w x, _, _ => deep_w n x
  | 0, _, .l _, _, h => h.elim
  | m + 1, 0, .l _, l, _ => absurd l (by omega)
  | m + 1, n + 1, .l ts, l, h => fun t q => Deep.mono (Nat.le_of_succ_le_succ l) (h t q)
def Drawn (n : Nat) (t : Tree) : Prop := WT t ∧ t.size ≤ Most n ∧ Deep n t
theorem Most.le (n : Nat) : Most n ≤ Most (n + 1) := by rw [show Most (n + 1) = 1 + 11 * Most n from rfl]; omega
theorem Most.mono {m n : Nat} (h : m ≤ n) : Most m ≤ Most n := by
  induction h with
  | refl => exact Nat.le_refl _
  | step _ ih => exact Nat.le_trans ih (Most.le _)
theorem most_pos (n : Nat) : 1 ≤ Most n := by
  have := Most.mono (Nat.zero_le n)
  exact this
theorem sizes_le {ts : List Tree} {b : Nat} (h : ∀ t ∈ ts, t.size ≤ b) : sizes ts ≤ ts.length * b := by
  induction ts with
  | nil => rw [sizes_nil]; omega
  | cons t r ih =>
    have h1 := h t (List.mem_cons_self ..)
    have h2 := ih fun u m => h u (List.mem_cons_of_mem _ m)
    rw [sizes_cons, List.length_cons, Nat.add_mul]
    omega
theorem sizes_split : ∀ {ts : List Tree} {n : Nat} {t : Tree}, ts[n]? = some t → sizes (ts.take n) + t.size + sizes (ts.drop (n + 1)) = sizes ts
  | [], n, t, h => by simp at h
  | u :: r, 0, t, h => by
    have e : u = t := Option.some.inj h
    subst e
    rw [List.take_zero, sizes_nil, sizes_cons, List.drop_succ_cons, List.drop_zero]
    omega
  | u :: r, n + 1, t, h => by
    have ih := sizes_split (ts := r) (n := n) (t := t) h
    rw [List.take_succ_cons, sizes_cons, sizes_cons, List.drop_succ_cons]
    omega
theorem sizes_two (ts : List Tree) (n : Nat) : sizes (ts.take n) + sizes (ts.drop n) = sizes ts := by
  have h := sizes_app (ts.take n) (ts.drop n)
  rw [List.take_append_drop] at h
  exact h.symm
theorem cutS_len2 (z : Str) (lo hi : Option Int) : (cutS z lo hi).length ≤ z.length := by
  unfold cutS
  show (List.toArray _).size ≤ _
  rw [List.size_toArray, List.length_take, List.length_drop]
  have e : z.cps.toList.length = z.length := by show z.cps.toList.length = z.cps.size; simp
  omega
end Og

namespace Og
open PySem PySem.Spec PyProof.Rows L2
theorem dT {i j : Int} (h : i = j) : decide (V.int i = V.int j) = true := by rw [h]; simp
theorem dF {i j : Int} (h : i ≠ j) : decide (V.int i = V.int j) = false := decide_eq_false fun e => h (V.int.inj e)
theorem nT {i j : Int} (h : i ≠ j) : (!decide (V.int i = V.int j)) = true := by rw [dF h]; rfl
theorem nF {i j : Int} (h : i = j) : (!decide (V.int i = V.int j)) = false := by rw [dT h]; rfl
theorem sT {a b : List Nat} (h : a = b) : decide (V.str (tx a) = V.str (tx b)) = true := by rw [h]; simp
theorem sF {a b : List Nat} (h : a ≠ b) : decide (V.str (tx a) = V.str (tx b)) = false := decide_eq_false fun e => h (tx_str e)
theorem nsT {a b : List Nat} (h : a ≠ b) : (!decide (V.str (tx a) = V.str (tx b))) = true := by rw [sF h]; rfl
theorem nsF {a b : List Nat} (h : a = b) : (!decide (V.str (tx a) = V.str (tx b))) = false := by rw [sT h]; rfl
theorem three_of {α : Type} {xs : List α} (h : xs.length = 3) : ∃ a b c, xs = [a, b, c] := by
  match xs, h with
  | [a, b, c], _ => exact ⟨a, b, c, rfl⟩
theorem Trs.three {K : PySem.W.Frag} {H : Hp} {vs : List V} {a b c : Tree} (h : Trs K H vs [a, b, c]) : ∃ x y z, vs = [x, y, z] ∧ Tr K H x a ∧ Tr K H y b ∧ Tr K H z c := by
  obtain ⟨x, r, rfl, h1, h2⟩ := h.cons
  obtain ⟨y, r, rfl, h3, h4⟩ := h2.cons
  obtain ⟨z, r, rfl, h5, h6⟩ := h4.cons
  rw [h6.nil]
  exact ⟨x, y, z, rfl, h1, h3, h5⟩
theorem Keep.updNew {S : List Addr} {H H1 : Hp} {p : Addr} {o : HO} (a : Keep S H H1) (h : H p = none) : Keep S H (upd H1 p o) := fun b u e => by
  have ne : b ≠ p := fun q => by rw [q, h] at e; cases e
  rw [upd_ne ne]
  exact a b u e
end Og
namespace Og
open PySem PySem.Spec PyProof.Rows L2
section
variable {X : Cx} {k : Nat} {x : Str} {f : Addr} {fd : FuncData} {ps : List Str} {sp : Sp} {p pos : Pos}
theorem cal0 (C : Callee X.prog X.w X.K X.mg X.base CX0 k x f fd ps sp) (hr : Room k X.A) (hg : Gl X x := by rfl) (hdb : (x == ("__debug__" : Str)) = false := by decide) : PE X (.Call (.Name x p) [] [] pos) (tCall sp [] E0 tNil) :=
  pe_call0 C.ok hr hg C.mg C.kp C.bi .nil pass0 hdb
end
/-- a loop over the signs of a text -/
theorem for_str {z : Str} {g : TG} {tb : TS} {D : Ends} {σ : L2.St} {H : Hp} (Pv : Nat → L2.St → Hp → Prop) (h0 : Pv 0 σ H)
    (hs : ∀ (i : Nat) (c : Nat) (σ : L2.St) (H : Hp), z.cps.toList[i]? = some c → Pv i σ H → g (.str ⟨#[c]⟩) σ H fun σ2 H2 => tb { D with nx := Pv (i + 1), ct := Pv (i + 1), bk := D.nx } σ2 H2) (hd : ∀ σ H, Pv z.cps.toList.length σ H → D.nx σ H) :
    ∃ W : Nat → Nat → L2.St → Hp → Prop, (∃ m, W 0 m σ H) ∧ ∀ i m σ H, W i m σ H →
      ((Its z).stop i H ∧ D.nx σ H) ∨ ((Its z).go i H ∧ ∃ N : L2.St → Hp → Prop, (∀ σ' H', N σ' H' → ∃ m', m' < m ∧ W (i + 1) m' σ' H') ∧ ∀ v H', (Its z).yld i H v H' → g v σ H' fun σ2 H2 => tb { D with nx := N, ct := N, bk := D.nx } σ2 H2) := by
  refine ⟨fun i m σ H => m = z.cps.toList.length - i ∧ i ≤ z.cps.toList.length ∧ Pv i σ H, ⟨z.cps.toList.length, rfl, Nat.zero_le _, h0⟩, ?_⟩
  rintro i m σ H ⟨rfl, hi, p⟩
  by_cases hlt : i < z.cps.toList.length
  · have hx : z.cps.toList[i]? = some z.cps.toList[i] := List.getElem?_eq_getElem hlt
    refine .inr ⟨?_, Pv (i + 1), fun σ' H' p' => ⟨z.cps.toList.length - (i + 1), by omega, rfl, hlt, p'⟩, fun v H' y => ?_⟩
    · show i < z.cps.size
      simpa using hlt
    · obtain ⟨rfl, c, hc, rfl⟩ := y
      exact hs i c σ _ (by rw [Array.getElem?_toList]; exact hc) p
  · have e : i = z.cps.toList.length := by omega
    subst e
    exact .inl ⟨by show z.cps.size ≤ _; simp, hd σ H p⟩
end Og
namespace Og
open PySem PySem.Spec PyProof.Rows L2
/-- len of a list or tuple -/
def rLenK (K : PySem.W.Frag) : List V → Hp → VK → Prop := fun xs H Q => ∃ p ys, xs = [V.ref p] ∧ (SqL K H p ys ∨ SqT K H p ys) ∧ Q (.int (ys.length : Nat)) H
end Og

namespace Og
open PySem PySem.Spec PyProof.Rows L2
/-! ### written words and tuples of such, as trees -/
def tL (K : PySem.W.Frag) (t : Tree) : TE := fun _ H Q => ∀ (v : V) (H' : Hp), Tr K H' v t → Keep [] H H' → Q v H'
def tLs (K : PySem.W.Frag) (ts : List Tree) : TA := fun _ H R => ∀ (vs : List V) (H' : Hp), Trs K H' vs ts → Keep [] H H' → R vs H'
section
variable {X : Cx} {e : Expr} {es : List Expr} {t : Tree} {ts : List Tree}
theorem pe_weak {e : Expr} {t t' : TE} (h : PE X e t) (w : ∀ σ H Q, t' σ H Q → t σ H Q) : PE X e t' := ⟨fun pins s σ H Q I q => h.run pins s σ H Q I (w σ H Q q)⟩
theorem pa_weak {es : List Expr} {t t' : TA} (h : PA X es t) (w : ∀ σ H R, t' σ H R → t σ H R) : PA X es t' := ⟨fun pos pins s σ H R I q => h.run pos pins s σ H R I (w σ H R q)⟩
theorem pe_lw {s : Str} {k : Nat} {pos : Pos} {x : List Nat} (h : s = tx x) : PE X (.Constant (.str s) k pos) (tL X.K (.w x)) :=
  pe_weak pe_str fun σ H Q q => q _ H (by rw [h]; exact tr_w) Keep.refl
theorem pl_nil : PA X [] (tLs X.K []) := pa_weak pa_nil fun σ H R q => q [] H trs_nil Keep.refl
theorem pl_cons (h : PE X e (tL X.K t)) (r : PA X es (tLs X.K ts)) (hs : starEach (e :: es) X.env = (false, eval e X.env) :: starEach es X.env := by rfl) : PA X (e :: es) (tLs X.K (t :: ts)) :=
  pa_weak (pa_cons h r hs) fun σ H R q v H1 tv k1 vs H2 tvs k2 => q (v :: vs) H2 (trs_cons (tv.keep k2) tvs) (k1.trans k2)
theorem pe_lt {k : Nat} {pos : Pos} (r : PA X es (tLs X.K ts)) (l : ts.length ≤ sizeLine) : PE X (.Tuple es k pos) (tL X.K (.l ts)) :=
  pe_weak (pe_tup r) fun σ H Q q vs H1 tvs k1 => ⟨by rw [tvs.length]; exact l, fun p np => q _ _ (tr_tup upd_same (tvs.keep (Keep.new (S := []) np))) (k1.trans (Keep.new np))⟩
end
/-! ### one of some written words -/
def isWordB : List Nat → Bool
  | [] => false
  | c :: cs => decide (97 ≤ c) && decide (c ≤ 122) && cs.all (fun y => (decide (97 ≤ y) && decide (y ≤ 122)) || (decide (48 ≤ y) && decide (y ≤ 57))) && decide (cs.length ≤ 11)
theorem isWord_of : ∀ {x : List Nat}, isWordB x = true → IsWord x
  | [], h => by cases h
  | c :: cs, h => by
    simp only [isWordB, Bool.and_eq_true, decide_eq_true_eq, List.all_eq_true, Bool.or_eq_true] at h
    exact ⟨c, cs, rfl, h.1.1, h.1.2, h.2⟩
theorem pick {L : List (List Nat)} {xs : List V} (e : xs = L.map fun c => V.str (tx c)) (w : L.all isWordB = true) {j : Int} (h0 : 0 ≤ j) (h1 : j < (L.length : Int)) : ∃ c, atI xs j = some (.str (tx c)) ∧ IsWord c ∧ c ∈ L := by
  obtain ⟨n, rfl⟩ := Int.eq_ofNat_of_zero_le h0
  have l : n < L.length := by omega
  refine ⟨L[n], ?_, isWord_of (List.all_eq_true.mp w _ (List.getElem_mem l)), List.getElem_mem l⟩
  exact atI_nat (by rw [e, List.getElem?_map, List.getElem?_eq_getElem l]; rfl)
mutual
def wtB : Tree → Bool
  | .w x => isWordB x
  | .l ts => wtsB ts
def wtsB : List Tree → Bool
  | [] => true
  | t :: ts => wtB t && wtsB ts
end
mutual
theorem wt_of : ∀ {t : Tree}, wtB t = true → WT t
  | .w x, h => by rw [wtB] at h; exact wt_w (isWord_of h)
  | .l ts, h => by rw [wtB] at h; exact wt_l (wts_of h)
theorem wts_of : ∀ {ts : List Tree}, wtsB ts = true → WTs ts
  | [], _ => wts_nil
  | t :: ts, h => by
    rw [wtsB, Bool.and_eq_true] at h
    exact wts_cons (wt_of h.1) (wts_of h.2)
end
mutual
def deepB : Nat → Tree → Bool
  | _, .w _ => true
  | 0, .l _ => false
  | n + 1, .l ts => deepsB n ts
def deepsB : Nat → List Tree → Bool
  | _, [] => true
  | n, t :: ts => deepB n t && deepsB n ts
end
mutual
theorem deep_of : ∀ {n : Nat} {t : Tree}, deepB n t = true → Deep n t
  | n, .w x, _ => deep_w n x
  | 0, .l _, h => by rw [deepB] at h; cases h
  | n + 1, .l ts, h => by rw [deepB] at h; exact deeps_of h
theorem deeps_of : ∀ {n : Nat} {ts : List Tree}, deepsB n ts = true → ∀ t ∈ ts, Deep n t
  | n, [], _ => fun t m => absurd m (List.not_mem_nil)
  | n, u :: ts, h => fun t m => by
    rw [deepsB, Bool.and_eq_true] at h
    rcases List.mem_cons.mp m with e | m
    · rw [e]; exact deep_of h.1
    · exact deeps_of h.2 t m
end
end Og

namespace Og
open PySem PySem.Spec PyProof.Rows L2
/-! ### == and != of trees of any kind and size, as deep as there is room -/
mutual
def td : Tree → Nat
  | .w _ => 0
  | .l ts => tds ts + 1
def tds : List Tree → Nat
  | [] => 0
  | t :: ts => max (td t) (tds ts)
end
theorem td_mem : ∀ {ts : List Tree} {t : Tree}, t ∈ ts → td t ≤ tds ts
  | [], t, m => absurd m (List.not_mem_nil)
  | u :: ts, t, m => by
    rw [tds]
    rcases List.mem_cons.mp m with e | m
    · rw [e]; exact Nat.le_max_left ..
    · exact Nat.le_trans (td_mem m) (Nat.le_max_right ..)
section
variable {X : Cx} {pins : List (Addr × Obj)} {σ : L2.St} {H : Hp} {s : Shared}
theorem isTup_uniq {h : Heap} {a : Addr} {x y : Array Value} (p : IsTup h a x) (q : IsTup h a y) : x = y := by
  obtain ⟨o, e, _, n, d⟩ := p
  obtain ⟨o', e', _, n', d'⟩ := q
  rw [e] at e'
  have := Option.some.inj e'
  subst this
  rw [d] at d'
  injection d'
theorem tr_uniq (I : L2.Inv X pins σ H s) : ∀ (n : Nat) (t u : Tree) (x y : V) (v : Value), td t ≤ n → Tr X.K H x t → Tr X.K H y u → L2.RelV x v → L2.RelV y v → t = u := by
  have step : ∀ n : Nat, (∀ (ts us : List Tree) (vs ws : List V) (its : List Value), (∀ t ∈ ts, td t + 1 ≤ n) → Trs X.K H vs ts → Trs X.K H ws us → L2.Vals vs its → L2.Vals ws its → ts = us) → ∀ (t u : Tree) (x y : V) (v : Value), td t ≤ n → Tr X.K H x t → Tr X.K H y u → L2.RelV x v → L2.RelV y v → t = u := by
    intro n items t u x y v d hx hy rx ry
    cases t with
    | w a =>
      have ex := hx.word
      subst ex
      obtain ⟨tk, rfl⟩ := rx
      cases u with
      | w c =>
        have ey := hy.word
        subst ey
        obtain ⟨tk', e⟩ := ry
        injection e with e1 _
        exact congrArg Tree.w (tx_str (congrArg V.str e1))
      | l us =>
        obtain ⟨p, ws, rfl, _, _⟩ := hy.list
        have e : Value.str (tx a) tk = Value.ref p := ry
        cases e
    | l ts =>
      obtain ⟨p, vs, rfl, hs, r⟩ := hx.list
      have ev : v = Value.ref p := rx
      subst ev
      cases u with
      | w c =>
        have ey := hy.word
        subst ey
        obtain ⟨tk', e⟩ := ry
        cases e
      | l us =>
        obtain ⟨q, ws, rfl, hs', r'⟩ := hy.list
        have e : Value.ref p = Value.ref q := ry
        injection e with e
        subst e
        obtain ⟨i1, v1, p1, _⟩ := I.tuple hs
        obtain ⟨i2, v2, p2, _⟩ := I.tuple hs'
        have ei := isTup_uniq p1 p2
        have ei : i1 = i2 := by simpa using ei
        subst ei
        refine congrArg Tree.l (items ts us vs ws i1 (fun t m => ?_) r r' v1 v2)
        have := td_mem m
        rw [td] at d
        omega
  intro n
  induction n with
  | zero =>
    refine step 0 fun ts us vs ws its d r r' v1 v2 => ?_
    cases ts with
    | nil =>
      rw [r.nil] at v1
      cases v1
      cases us with
      | nil => rfl
      | cons u us =>
        obtain ⟨_, _, rfl, _, _⟩ := r'.cons
        cases v2
    | cons t ts => exact absurd (d t (List.mem_cons_self ..)) (by omega)
  | succ n ih =>
    refine step (n + 1) fun ts => ?_
    induction ts with
    | nil =>
      intro us vs ws its d r r' v1 v2
      rw [r.nil] at v1
      cases v1
      cases us with
      | nil => rfl
      | cons u us =>
        obtain ⟨_, _, rfl, _, _⟩ := r'.cons
        cases v2
    | cons t ts iht =>
      intro us vs ws its d r r' v1 v2
      obtain ⟨v0, vr, rfl, r0, rr⟩ := r.cons
      cases v1 with
      | cons a1 b1 =>
      cases us with
      | nil =>
        rw [r'.nil] at v2
        cases v2
      | cons u us =>
        obtain ⟨w0, wr, rfl, q0, qr⟩ := r'.cons
        cases v2 with
        | cons a2 b2 =>
        have h1 := d t (List.mem_cons_self ..)
        rw [ih t u v0 w0 _ (by omega) r0 q0 a1 a2, iht us vr wr _ (fun t m => d t (List.mem_cons_of_mem _ m)) rr qr b1 b2]
theorem paired_get {F : V → Value → Prop} : ∀ {vs : List V} {its : List Value} {j : Nat}, Paired F vs its → (h : j < its.length) → ∃ x, vs[j]? = some x ∧ F x its[j]
  | [], [], j, _, h => absurd h (Nat.not_lt_zero _)
  | x :: vs, y :: its, j, .cons a b, h => by
    cases j with
    | zero => exact ⟨x, rfl, a⟩
    | succ j => exact paired_get b (Nat.lt_of_succ_lt_succ h)
theorem paired_len {F : V → Value → Prop} : ∀ {vs : List V} {its : List Value}, Paired F vs its → vs.length = its.length
  | [], [], _ => rfl
  | x :: vs, y :: its, .cons a b => congrArg (· + 1) (paired_len b)
open Classical in
theorem all_items {ts us : List Tree} {m : Nat} {b : Bool} (hm : m = min ts.length us.length) (h : b = true ↔ ts = us) :
    ((List.range m).all (fun j => decide (ts[j]? = us[j]?)) && decide (ts.length = us.length)) = b := by
  rw [Bool.eq_iff_iff, Bool.and_eq_true, List.all_eq_true, decide_eq_true_eq, h]
  constructor
  · rintro ⟨a, l⟩
    refine List.ext_getElem? fun j => ?_
    by_cases c : j < m
    · exact of_decide_eq_true (a j (List.mem_range.mpr c))
    · rw [List.getElem?_eq_none (by omega), List.getElem?_eq_none (by omega)]
  · rintro rfl
    exact ⟨fun j _ => decide_eq_true rfl, rfl⟩
open Classical in
theorem eq_trees (I : L2.Inv X pins σ H s) : ∀ (n : Nat) (t u : Tree) (x y : V) (v w : Value) (A : Around) (b : Bool), td t ≤ n → (b = true ↔ t = u) → Tr X.K H x t → Tr X.K H y u → L2.RelV x v → L2.RelV y w → A.units + n < cLine → SeqAt.EqAt A s v w b ∧ ((t.isW = false ∧ u.isW = false) → SeqAt.RcAt A s v w b ∧ SeqAt.RcNeAt A s v w (!b)) := by
  have step : ∀ n : Nat, (∀ (t u : Tree) (x y : V) (v w : Value) (A : Around) (b : Bool), td t + 1 ≤ n → (b = true ↔ t = u) → Tr X.K H x t → Tr X.K H y u → L2.RelV x v → L2.RelV y w → A.units + n < cLine + 1 → SeqAt.EqAt A s v w b) →
      ∀ (t u : Tree) (x y : V) (v w : Value) (A : Around) (b : Bool), td t ≤ n → (b = true ↔ t = u) → Tr X.K H x t → Tr X.K H y u → L2.RelV x v → L2.RelV y w → A.units + n < cLine → SeqAt.EqAt A s v w b ∧ ((t.isW = false ∧ u.isW = false) → SeqAt.RcAt A s v w b ∧ SeqAt.RcNeAt A s v w (!b)) := by
    intro n ih t u x y v w A b d hb hx hy rx ry hu
    cases t with
    | w a =>
      refine ⟨?_, fun h => by cases h.1⟩
      have ex := hx.word
      subst ex
      obtain ⟨tk, rfl⟩ := rx
      cases u with
      | w c =>
        have ey := hy.word
        subst ey
        obtain ⟨tk', rfl⟩ := ry
        have e : b = (tx a == tx c) := by
          rw [Bool.eq_iff_iff, hb, beq_iff_eq]
          exact ⟨fun h => by rw [Tree.w.inj h], fun h => congrArg Tree.w (tx_str (congrArg V.str h))⟩
        rw [e]
        exact SeqAt.EqAt.str_str _ _ _ _
      | l us =>
        obtain ⟨p, ws, rfl, hs, _⟩ := hy.list
        obtain ⟨its, _, pt, _⟩ := I.tuple hs
        obtain rfl : w = Value.ref p := ry
        have e : b = false := by
          cases b with
          | false => rfl
          | true => have := hb.mp rfl; cases this
        rw [e]
        exact SeqAt.EqAt.str_tuple _ _ pt (by omega)
    | l ts =>
      obtain ⟨p, vs, rfl, hs, r⟩ := hx.list
      obtain ⟨i1, v1, p1, _⟩ := I.tuple hs
      obtain rfl : v = Value.ref p := rx
      cases u with
      | w c =>
        refine ⟨?_, fun h => by cases h.2⟩
        have ey := hy.word
        subst ey
        obtain ⟨tk', rfl⟩ := ry
        have e : b = false := by
          cases b with
          | false => rfl
          | true => have := hb.mp rfl; cases this
        rw [e]
        exact SeqAt.EqAt.tuple_str _ _ p1 (by omega)
      | l us =>
        obtain ⟨q, ws, rfl, hs', r'⟩ := hy.list
        obtain ⟨i2, v2, p2, _⟩ := I.tuple hs'
        obtain rfl : w = Value.ref q := ry
        have l1 : i1.length = ts.length := (paired_len v1).symm.trans r.length
        have l2 : i2.length = us.length := (paired_len v2).symm.trans r'.length
        have items : ∀ (j : Nat) (h1 : j < i1.toArray.size) (h2 : j < i2.toArray.size), SeqAt.EqAt A.in1 s i1.toArray[j] i2.toArray[j] (decide (ts[j]? = us[j]?)) := by
          intro j h1 h2
          have j1 : j < i1.length := by simpa using h1
          have j2 : j < i2.length := by simpa using h2
          obtain ⟨x1, e1, f1⟩ := paired_get v1 j1
          obtain ⟨x2, e2, f2⟩ := paired_get v2 j2
          have g1 : ts[j]? = some ts[j] := List.getElem?_eq_getElem (by omega)
          have g2 : us[j]? = some us[j] := List.getElem?_eq_getElem (by omega)
          obtain ⟨z1, h1', t1⟩ := r.get g1
          obtain ⟨z2, h2', t2⟩ := r'.get g2
          rw [e1] at h1'
          rw [e2] at h2'
          cases h1'
          cases h2'
          have dm := td_mem (List.getElem_mem (show j < ts.length by omega))
          rw [td] at d
          refine ih ts[j] us[j] x1 x2 _ _ A.in1 _ (by omega) ?_ t1 t2 (by simpa using f1) (by simpa using f2) (by rw [Around.in1_units]; omega)
          rw [decide_eq_true_eq, g1, g2, Option.some.injEq]
        have hb' : b = true ↔ ts = us := hb.trans ⟨fun h => Tree.l.inj h, fun h => congrArg Tree.l h⟩
        have eb : ((List.range (min i1.toArray.size i2.toArray.size)).all (fun j => decide (ts[j]? = us[j]?)) && i1.toArray.size == i2.toArray.size) = b := by
          have hsz : (i1.toArray.size == i2.toArray.size) = decide (ts.length = us.length) := by
            rw [Bool.eq_iff_iff, beq_iff_eq, decide_eq_true_eq, List.size_toArray, List.size_toArray, l1, l2]
          rw [hsz]
          exact all_items (by rw [List.size_toArray, List.size_toArray, l1, l2]) hb'
        have rc : SeqAt.RcAt A s (.ref p) (.ref q) b := by
          have := SeqAt.RcAt.tuples (A := A) p1 p2 (by omega) items
          rw [eb] at this
          exact this
        have rn : SeqAt.RcNeAt A s (.ref p) (.ref q) (!b) := by
          have := SeqAt.RcNeAt.tuples (A := A) p1 p2 (by omega) items
          rw [eb] at this
          exact this
        refine ⟨?_, fun _ => ⟨rc, rn⟩⟩
        by_cases hpq : p = q
        · subst hpq
          have e := tr_uniq I (td (.l ts)) (.l ts) (.l us) _ _ (.ref p) (Nat.le_refl _) hx hy rfl rfl
          rw [hb.mpr e]
          exact SeqAt.EqAt.same _
        · exact SeqAt.EqAt.of_refs hpq rc
  intro n
  induction n with
  | zero => exact step 0 fun t u x y v w A b d => absurd d (by omega)
  | succ n ih => exact step (n + 1) fun t u x y v w A b d hb hx hy rx ry hu => (ih t u x y v w A b (by omega) hb hx hy rx ry (by omega)).1
/-- x == y, x != y of trees -/
def rEqT (K : PySem.W.Frag) (n : Nat) : R2 := fun x y H Q => ∃ t u : Tree, Tr K H x t ∧ Tr K H y u ∧ td t ≤ n ∧ ∀ b : Bool, (b = true ↔ t = u) → Q (.bl b) H
def rNeT (K : PySem.W.Frag) (n : Nat) : R2 := fun x y H Q => ∃ t u : Tree, Tr K H x t ∧ Tr K H y u ∧ td t ≤ n ∧ ∀ b : Bool, (b = true ↔ t ≠ u) → Q (.bl b) H
open Classical in
theorem op_eqT {n : Nat} (hu : X.A.units + 64 < cLine) (hn : X.A.units + n < cLine) : OpR X (compareOp .Eq) (rEqT X.K n) := by
  intro pins s σ H x y v w Q I rx ry h
  obtain ⟨t, u, hx, hy, d, q⟩ := h
  by_cases hw : t.isW = false ∧ u.isW = false
  · have rc := ((eq_trees I n t u x y v w X.A (decide (t = u)) d decide_eq_true_iff hx hy rx ry hn).2 hw).1
    exact rc _ _ _ _ ⟨.bl (decide (t = u)), H, I, rfl, q _ decide_eq_true_iff⟩
  · refine op_eqTr hu pins s σ H x y v w Q I rx ry ⟨t, u, hx, hy, ?_, q⟩
    cases h1 : t.isW with
    | true => exact .inl rfl
    | false =>
      cases h2 : u.isW with
      | true => exact .inr rfl
      | false => exact absurd ⟨h1, h2⟩ hw
open Classical in
theorem op_neT {n : Nat} (hu : X.A.units + 64 < cLine) (hn : X.A.units + n < cLine) : OpR X (compareOp .NotEq) (rNeT X.K n) := by
  intro pins s σ H x y v w Q I rx ry h
  obtain ⟨t, u, hx, hy, d, q⟩ := h
  by_cases hw : t.isW = false ∧ u.isW = false
  · have rc := ((eq_trees I n t u x y v w X.A (decide (t = u)) d decide_eq_true_iff hx hy rx ry hn).2 hw).2
    refine rc _ _ _ _ ⟨.bl (!decide (t = u)), H, I, rfl, q _ ?_⟩
    rw [Bool.not_eq_true', decide_eq_false_iff_not]
  · refine op_neTr hu pins s σ H x y v w Q I rx ry ⟨t, u, hx, hy, ?_, q⟩
    cases h1 : t.isW with
    | true => exact .inl rfl
    | false =>
      cases h2 : u.isW with
      | true => exact .inr rfl
      | false => exact absurd ⟨h1, h2⟩ hw
end
end Og

namespace Og
open PySem PySem.Spec PyProof.Rows L2
/-! ### == and != of trees one of which is not nested too deep -/
section
variable {X : Cx} {pins : List (Addr × Obj)} {σ : L2.St} {H : Hp} {s : Shared}
open Classical in
theorem eq_treesM (I : L2.Inv X pins σ H s) : ∀ (n : Nat) (t u : Tree) (x y : V) (v w : Value) (A : Around) (b : Bool), min (td t) (td u) ≤ n → (b = true ↔ t = u) → Tr X.K H x t → Tr X.K H y u → L2.RelV x v → L2.RelV y w → A.units + n < cLine → SeqAt.EqAt A s v w b ∧ ((t.isW = false ∧ u.isW = false) → SeqAt.RcAt A s v w b ∧ SeqAt.RcNeAt A s v w (!b)) := by
  have step : ∀ n : Nat, (∀ (t u : Tree) (x y : V) (v w : Value) (A : Around) (b : Bool), min (td t) (td u) + 1 ≤ n → (b = true ↔ t = u) → Tr X.K H x t → Tr X.K H y u → L2.RelV x v → L2.RelV y w → A.units + n < cLine + 1 → SeqAt.EqAt A s v w b) →
      ∀ (t u : Tree) (x y : V) (v w : Value) (A : Around) (b : Bool), min (td t) (td u) ≤ n → (b = true ↔ t = u) → Tr X.K H x t → Tr X.K H y u → L2.RelV x v → L2.RelV y w → A.units + n < cLine → SeqAt.EqAt A s v w b ∧ ((t.isW = false ∧ u.isW = false) → SeqAt.RcAt A s v w b ∧ SeqAt.RcNeAt A s v w (!b)) := by
    intro n ih t u x y v w A b d hb hx hy rx ry hu
    cases t with
    | w a =>
      refine ⟨?_, fun h => by cases h.1⟩
      have ex := hx.word
      subst ex
      obtain ⟨tk, rfl⟩ := rx
      cases u with
      | w c =>
        have ey := hy.word
        subst ey
        obtain ⟨tk', rfl⟩ := ry
        have e : b = (tx a == tx c) := by
          rw [Bool.eq_iff_iff, hb, beq_iff_eq]
          exact ⟨fun h => by rw [Tree.w.inj h], fun h => congrArg Tree.w (tx_str (congrArg V.str h))⟩
        rw [e]
        exact SeqAt.EqAt.str_str _ _ _ _
      | l us =>
        obtain ⟨p, ws, rfl, hs, _⟩ := hy.list
        obtain ⟨its, _, pt, _⟩ := I.tuple hs
        obtain rfl : w = Value.ref p := ry
        have e : b = false := by
          cases b with
          | false => rfl
          | true => have := hb.mp rfl; cases this
        rw [e]
        exact SeqAt.EqAt.str_tuple _ _ pt (by omega)
    | l ts =>
      obtain ⟨p, vs, rfl, hs, r⟩ := hx.list
      obtain ⟨i1, v1, p1, _⟩ := I.tuple hs
      obtain rfl : v = Value.ref p := rx
      cases u with
      | w c =>
        refine ⟨?_, fun h => by cases h.2⟩
        have ey := hy.word
        subst ey
        obtain ⟨tk', rfl⟩ := ry
        have e : b = false := by
          cases b with
          | false => rfl
          | true => have := hb.mp rfl; cases this
        rw [e]
        exact SeqAt.EqAt.tuple_str _ _ p1 (by omega)
      | l us =>
        obtain ⟨q, ws, rfl, hs', r'⟩ := hy.list
        obtain ⟨i2, v2, p2, _⟩ := I.tuple hs'
        obtain rfl : w = Value.ref q := ry
        have l1 : i1.length = ts.length := (paired_len v1).symm.trans r.length
        have l2 : i2.length = us.length := (paired_len v2).symm.trans r'.length
        have items : ∀ (j : Nat) (h1 : j < i1.toArray.size) (h2 : j < i2.toArray.size), SeqAt.EqAt A.in1 s i1.toArray[j] i2.toArray[j] (decide (ts[j]? = us[j]?)) := by
          intro j h1 h2
          have j1 : j < i1.length := by simpa using h1
          have j2 : j < i2.length := by simpa using h2
          obtain ⟨x1, e1, f1⟩ := paired_get v1 j1
          obtain ⟨x2, e2, f2⟩ := paired_get v2 j2
          have g1 : ts[j]? = some ts[j] := List.getElem?_eq_getElem (by omega)
          have g2 : us[j]? = some us[j] := List.getElem?_eq_getElem (by omega)
          obtain ⟨z1, h1', t1⟩ := r.get g1
          obtain ⟨z2, h2', t2⟩ := r'.get g2
          rw [e1] at h1'
          rw [e2] at h2'
          cases h1'
          cases h2'
          have dm := td_mem (List.getElem_mem (show j < ts.length by omega))
          have dm2 := td_mem (List.getElem_mem (show j < us.length by omega))
          rw [td, td] at d
          refine ih ts[j] us[j] x1 x2 _ _ A.in1 _ (by omega) ?_ t1 t2 (by simpa using f1) (by simpa using f2) (by rw [Around.in1_units]; omega)
          rw [decide_eq_true_eq, g1, g2, Option.some.injEq]
        have hb' : b = true ↔ ts = us := hb.trans ⟨fun h => Tree.l.inj h, fun h => congrArg Tree.l h⟩
        have eb : ((List.range (min i1.toArray.size i2.toArray.size)).all (fun j => decide (ts[j]? = us[j]?)) && i1.toArray.size == i2.toArray.size) = b := by
          have hsz : (i1.toArray.size == i2.toArray.size) = decide (ts.length = us.length) := by
            rw [Bool.eq_iff_iff, beq_iff_eq, decide_eq_true_eq, List.size_toArray, List.size_toArray, l1, l2]
          rw [hsz]
          exact all_items (by rw [List.size_toArray, List.size_toArray, l1, l2]) hb'
        have rc : SeqAt.RcAt A s (.ref p) (.ref q) b := by
          have := SeqAt.RcAt.tuples (A := A) p1 p2 (by omega) items
          rw [eb] at this
          exact this
        have rn : SeqAt.RcNeAt A s (.ref p) (.ref q) (!b) := by
          have := SeqAt.RcNeAt.tuples (A := A) p1 p2 (by omega) items
          rw [eb] at this
          exact this
        refine ⟨?_, fun _ => ⟨rc, rn⟩⟩
        by_cases hpq : p = q
        · subst hpq
          have e := tr_uniq I (td (.l ts)) (.l ts) (.l us) _ _ (.ref p) (Nat.le_refl _) hx hy rfl rfl
          rw [hb.mpr e]
          exact SeqAt.EqAt.same _
        · exact SeqAt.EqAt.of_refs hpq rc
  intro n
  induction n with
  | zero => exact step 0 fun t u x y v w A b d => absurd d (by omega)
  | succ n ih => exact step (n + 1) fun t u x y v w A b d hb hx hy rx ry hu => (ih t u x y v w A b (by omega) hb hx hy rx ry (by omega)).1
/-- x == y, x != y of trees -/
def rEqTm (K : PySem.W.Frag) (n : Nat) : R2 := fun x y H Q => ∃ t u : Tree, Tr K H x t ∧ Tr K H y u ∧ min (td t) (td u) ≤ n ∧ ∀ b : Bool, (b = true ↔ t = u) → Q (.bl b) H
def rNeTm (K : PySem.W.Frag) (n : Nat) : R2 := fun x y H Q => ∃ t u : Tree, Tr K H x t ∧ Tr K H y u ∧ min (td t) (td u) ≤ n ∧ ∀ b : Bool, (b = true ↔ t ≠ u) → Q (.bl b) H
open Classical in
theorem op_eqTm {n : Nat} (hu : X.A.units + 64 < cLine) (hn : X.A.units + n < cLine) : OpR X (compareOp .Eq) (rEqTm X.K n) := by
  intro pins s σ H x y v w Q I rx ry h
  obtain ⟨t, u, hx, hy, d, q⟩ := h
  by_cases hw : t.isW = false ∧ u.isW = false
  · have rc := ((eq_treesM I n t u x y v w X.A (decide (t = u)) d decide_eq_true_iff hx hy rx ry hn).2 hw).1
    exact rc _ _ _ _ ⟨.bl (decide (t = u)), H, I, rfl, q _ decide_eq_true_iff⟩
  · refine op_eqTr hu pins s σ H x y v w Q I rx ry ⟨t, u, hx, hy, ?_, q⟩
    cases h1 : t.isW with
    | true => exact .inl rfl
    | false =>
      cases h2 : u.isW with
      | true => exact .inr rfl
      | false => exact absurd ⟨h1, h2⟩ hw
open Classical in
theorem op_neTm {n : Nat} (hu : X.A.units + 64 < cLine) (hn : X.A.units + n < cLine) : OpR X (compareOp .NotEq) (rNeTm X.K n) := by
  intro pins s σ H x y v w Q I rx ry h
  obtain ⟨t, u, hx, hy, d, q⟩ := h
  by_cases hw : t.isW = false ∧ u.isW = false
  · have rc := ((eq_treesM I n t u x y v w X.A (decide (t = u)) d decide_eq_true_iff hx hy rx ry hn).2 hw).2
    refine rc _ _ _ _ ⟨.bl (!decide (t = u)), H, I, rfl, q _ ?_⟩
    rw [Bool.not_eq_true', decide_eq_false_iff_not]
  · refine op_neTr hu pins s σ H x y v w Q I rx ry ⟨t, u, hx, hy, ?_, q⟩
    cases h1 : t.isW with
    | true => exact .inl rfl
    | false =>
      cases h2 : u.isW with
      | true => exact .inr rfl
      | false => exact absurd ⟨h1, h2⟩ hw
end
end Og

namespace Og
open PySem PySem.Spec PyProof.Rows L2
theorem room_n {k n : Nat} {A : Around} (hr : Room k A) (hn : n ≤ 16 * k + 200) : A.units + n < cLine := by
  have := hr.un
  omega
def wordW : List Nat := [119, 111, 114, 100]
def headW : List Nat := [104, 101, 97, 100]
def tailW : List Nat := [116, 97, 105, 108]
def sameW : List Nat := [115, 97, 109, 101]
def joinW : List Nat := [106, 111, 105, 110]
def yesT : Tree := .w [121, 101, 115]
def headT : Tree → Tree
  | .l (t :: _) => t
  | _ => .l []
def tailT : Tree → Tree
  | .l (_ :: ts) => .l ts
  | _ => .l []
def consT (f : Tree) : Tree → Tree
  | .l ts => .l (f :: ts)
  | .w _ => .l [f]
/-- what word, head and tail make -/
def prim1 (w : List Nat) (l : Tree) : Tree := if w = wordW then (if l.isW then yesT else .l []) else if w = headW then headT l else tailT l
theorem prim1_word (l : Tree) : prim1 wordW l = if l.isW then yesT else .l [] := if_pos rfl
theorem prim1_head (l : Tree) : prim1 headW l = headT l := by unfold prim1; rw [if_neg (by decide), if_pos rfl]
theorem prim1_tail (l : Tree) : prim1 tailW l = tailT l := by unfold prim1; rw [if_neg (by decide), if_neg (by decide)]
open Classical in
/-- what same and join make -/
noncomputable def prim2 (w : List Nat) (f l : Tree) : Tree := if w = sameW then (if f = l then yesT else .l []) else consT f l
theorem prim2_same_eq (f l : Tree) (h : f = l) : prim2 sameW f l = yesT := by unfold prim2; rw [if_pos rfl, if_pos h]
theorem prim2_same_ne (f l : Tree) (h : ¬ f = l) : prim2 sameW f l = .l [] := by unfold prim2; rw [if_pos rfl, if_neg h]
theorem prim2_join (f l : Tree) : prim2 joinW f l = consT f l := by unfold prim2; rw [if_neg (by decide)]
end Og

namespace Og
open PySem PySem.Spec PyProof.Rows L2
/-! ### runs: the machine of the laws, on trees -/
abbrev Env := List (List Nat × Tree)
def look (e : Env) (x : List Nat) : Option Tree := (e.find? fun p => decide (p.1 = x)).map (·.2)
inductive Task where
  | prim (w : List Nat)
  | pick (a b : Tree) (e : Env)
  | call (x : List Nat)
  | ev (t : Tree) (e : Env)
/-- what is to be done, the next first; the values found, the last first; the expressions begun -/
structure MS where
  todo : List Task
  found : List Tree
  steps : Nat
abbrev Fn0 := List Nat × List (List Nat) × Tree
def ifW : List Nat := [105, 102]
def fnOf (L : List Fn0) (x : List Nat) : Option (List (List Nat) × Tree) := (L.find? fun f => decide (f.1 = x)).map (·.2)
end Og
namespace Og
open Classical in
/-- one turn -/
noncomputable def turn (L : List Fn0) : MS → Option MS
  | ⟨[], _, _⟩ => none
  | ⟨.prim w :: td, fd, n⟩ =>
    if w ∈ [wordW, headW, tailW] then match fd with
      | l :: r => some ⟨td, prim1 w l :: r, n⟩
      | _ => none
    else match fd with
      | l :: f :: r => some ⟨td, prim2 w f l :: r, n⟩
      | _ => none
  | ⟨.pick a b e :: td, c :: fd, n⟩ => some ⟨.ev (if c = .l [] then b else a) e :: td, fd, n⟩
  | ⟨.pick _ _ _ :: _, [], _⟩ => none
  | ⟨.call x :: td, fd, n⟩ => match fnOf L x with
    | some (ps, b) => if ps.length ≤ fd.length then some ⟨.ev b (ps.zip (fd.take ps.length).reverse) :: td, fd.drop ps.length, n⟩ else none
    | none => none
  | ⟨.ev (.w x) e :: td, fd, n⟩ => match look e x with
    | some v => some ⟨td, v :: fd, n + 1⟩
    | none => none
  | ⟨.ev (.l (.w x :: ts)) e :: td, fd, n⟩ =>
    if x = qw then match ts with
      | [v] => some ⟨td, v :: fd, n + 1⟩
      | _ => none
    else if x = ifW then match ts with
      | [t, a, b] => some ⟨.ev t e :: .pick a b e :: td, fd, n + 1⟩
      | _ => none
    else some ⟨ts.map (fun t => .ev t e) ++ (if x ∈ [sameW, wordW, headW, tailW, joinW] then .prim x else .call x) :: td, fd, n + 1⟩
  | ⟨.ev _ _ :: _, _, _⟩ => none
/-- so many turns -/
noncomputable def turns (L : List Fn0) : Nat → MS → Option MS
  | 0, m => some m
  | k + 1, m => (turn L m).bind (turns L k)
end Og

namespace Og
/-! ### the store of values: nodes by number -/
inductive Nd where
  | e
  | w (x : List Nat)
  | c (f r : Nat)
  deriving DecidableEq
abbrev St0 := List Nd
def yesW : List Nat := [121, 101, 115]
/-- the value of a number -/
inductive Den (N : St0) : Nat → Tree → Prop
  | e {i : Nat} (h : N[i]? = some Nd.e) : Den N i (.l [])
  | w {i : Nat} {x : List Nat} (h : N[i]? = some (Nd.w x)) : Den N i (.w x)
  | c {i f r : Nat} {t : Tree} {ts : List Tree} (h : N[i]? = some (Nd.c f r)) (hf : Den N f t) (hr : Den N r (.l ts)) : Den N i (.l (t :: ts))
structure WF (N : St0) : Prop where
  z0 : N[0]? = some Nd.e
  z1 : N[1]? = some (Nd.w yesW)
  e0 : ∀ i : Nat, N[i]? = some Nd.e → i = 0
  cb : ∀ i f r : Nat, N[i]? = some (Nd.c f r) → f < i ∧ r < i ∧ ∀ x, N[r]? ≠ some (Nd.w x)
  nd : ∀ (i j : Nat) (n : Nd), N[i]? = some n → N[j]? = some n → i = j
def Ext (N N' : St0) : Prop := ∃ M, N' = N ++ M
theorem Ext.refl (N : St0) : Ext N N := ⟨[], (List.append_nil N).symm⟩
theorem Ext.trans {a b c : St0} (h : Ext a b) (g : Ext b c) : Ext a c := by
  obtain ⟨m, rfl⟩ := h
  obtain ⟨m', rfl⟩ := g
  exact ⟨m ++ m', by rw [List.append_assoc]⟩
theorem Ext.get {N N' : St0} (h : Ext N N') {i : Nat} {n : Nd} (e : N[i]? = some n) : N'[i]? = some n := by
  obtain ⟨m, rfl⟩ := h
  rw [List.getElem?_append_left (List.getElem?_eq_some_iff.mp e).1]
  exact e
theorem Ext.len {N N' : St0} (h : Ext N N') : N.length ≤ N'.length := by
  obtain ⟨m, rfl⟩ := h
  rw [List.length_append]
  omega
theorem Den.ext {N N' : St0} (g : Ext N N') {i : Nat} {t : Tree} (h : Den N i t) : Den N' i t := by
  induction h with
  | e h => exact .e (g.get h)
  | w h => exact .w (g.get h)
  | c h _ _ a b => exact .c (g.get h) a b
theorem Den.lt {N : St0} {i : Nat} {t : Tree} (h : Den N i t) : i < N.length := by
  cases h with
  | e h => exact (List.getElem?_eq_some_iff.mp h).1
  | w h => exact (List.getElem?_eq_some_iff.mp h).1
  | c h _ _ => exact (List.getElem?_eq_some_iff.mp h).1
theorem Den.fn {N : St0} {i : Nat} {t u : Tree} (h : Den N i t) (g : Den N i u) : t = u := by
  induction h generalizing u with
  | e h =>
    cases g with
    | e _ => rfl
    | w q => rw [h] at q; cases q
    | c q _ _ => rw [h] at q; cases q
  | w h =>
    cases g with
    | e q => rw [h] at q; cases q
    | w q => rw [h] at q; cases q; rfl
    | c q _ _ => rw [h] at q; cases q
  | c h _ _ a b =>
    cases g with
    | e q => rw [h] at q; cases q
    | w q => rw [h] at q; cases q
    | c q qf qr =>
      rw [h] at q
      cases q
      have e1 := a qf
      have e2 := Tree.l.inj (b qr)
      rw [e1, e2]
theorem Den.inj {N : St0} (wf : WF N) {i j : Nat} {t : Tree} (h : Den N i t) (g : Den N j t) : i = j := by
  induction h generalizing j with
  | e h =>
    cases g with
    | e q => rw [wf.e0 _ h, wf.e0 _ q]
  | w h =>
    cases g with
    | w q => exact wf.nd _ _ _ h q
  | c h _ _ a b =>
    cases g with
    | c q qf qr =>
      have e1 := a qf
      have e2 := b qr
      subst e1 e2
      exact wf.nd _ _ _ h q
theorem Den.all {N : St0} (wf : WF N) : ∀ (n i : Nat), i < n → i < N.length → ∃ t, Den N i t
  | 0, i, h, _ => absurd h (Nat.not_lt_zero _)
  | n + 1, i, hn, hl => by
    have e : N[i]? = some N[i] := List.getElem?_eq_getElem hl
    cases q : N[i] with
    | e => rw [q] at e; exact ⟨_, .e e⟩
    | w x => rw [q] at e; exact ⟨_, .w e⟩
    | c f r =>
      rw [q] at e
      obtain ⟨l1, l2, nw⟩ := wf.cb _ _ _ e
      obtain ⟨t, ht⟩ := Den.all wf n f (by omega) (by omega)
      obtain ⟨u, hu⟩ := Den.all wf n r (by omega) (by omega)
      cases hu with
      | e hu => exact ⟨_, .c e ht (.e hu)⟩
      | w hu => exact absurd hu (nw _)
      | c hu a b => exact ⟨_, .c e ht (.c hu a b)⟩
theorem Den.ex {N : St0} (wf : WF N) {i : Nat} (h : i < N.length) : ∃ t, Den N i t := Den.all wf (i + 1) i (Nat.lt_succ_self _) h
def isWN (N : St0) (i : Nat) : Bool := match N[i]? with
  | some (Nd.w _) => true
  | _ => false
theorem Den.isW {N : St0} {i : Nat} {t : Tree} (h : Den N i t) : isWN N i = t.isW := by
  unfold isWN
  cases h with
  | e h => rw [h]; rfl
  | w h => rw [h]; rfl
  | c h _ _ => rw [h]; rfl
theorem Den.isE {N : St0} (wf : WF N) {i : Nat} {t : Tree} (h : Den N i t) : i = 0 ↔ t = .l [] := by
  constructor
  · intro e
    subst e
    exact h.fn (.e wf.z0)
  · intro e
    subst e
    exact h.inj wf (.e wf.z0)
/-- the number behind the first value: a word has no items -/
def restN (N : St0) (r : Nat) : Nat := if isWN N r then 0 else r
theorem restN_den {N : St0} (wf : WF N) {r : Nat} {t : Tree} (h : Den N r t) : Den N (restN N r) (.l (match t with | .l ts => ts | .w _ => [])) := by
  unfold restN
  rw [h.isW]
  cases t with
  | w x => exact .e wf.z0
  | l ts => exact h
theorem WF.snoc {N : St0} (wf : WF N) {n : Nd} (ne : n ≠ Nd.e) (nw : ∀ i : Nat, N[i]? ≠ some n) (hc : ∀ f r : Nat, n = Nd.c f r → f < N.length ∧ r < N.length ∧ isWN N r = false) : WF (N ++ [n]) := by
  have l0 : 0 < N.length := (List.getElem?_eq_some_iff.mp wf.z0).1
  have l1 : 1 < N.length := (List.getElem?_eq_some_iff.mp wf.z1).1
  have get : ∀ (i : Nat) (m : Nd), (N ++ [n])[i]? = some m → N[i]? = some m ∨ (i = N.length ∧ m = n) := fun i m e => by
    by_cases h : i < N.length
    · rw [List.getElem?_append_left h] at e; exact .inl e
    · rw [List.getElem?_append_right (by omega)] at e
      by_cases h2 : i = N.length
      · subst h2
        rw [Nat.sub_self] at e
        exact .inr ⟨rfl, (Option.some.inj e).symm⟩
      · have : ([n] : List Nd)[i - N.length]? = none := List.getElem?_eq_none (by simp; omega)
        rw [this] at e; cases e
  refine ⟨by rw [List.getElem?_append_left l0]; exact wf.z0, by rw [List.getElem?_append_left l1]; exact wf.z1, fun i e => ?_, fun i f r e => ?_, fun i j m e1 e2 => ?_⟩
  · rcases get i _ e with e | ⟨_, e⟩
    · exact wf.e0 i e
    · exact absurd e.symm ne
  · rcases get i _ e with e3 | ⟨i3, e3⟩
    · obtain ⟨a, b, c⟩ := wf.cb i f r e3
      refine ⟨a, b, fun x q => ?_⟩
      rcases get r _ q with q3 | ⟨q3, _⟩
      · exact c x q3
      · have := (List.getElem?_eq_some_iff.mp e3).1; omega
    · obtain ⟨a, b, c⟩ := hc f r e3.symm
      refine ⟨by omega, by omega, fun x q => ?_⟩
      rcases get r _ q with q3 | ⟨q3, _⟩
      · unfold isWN at c; rw [q3] at c; cases c
      · omega
  · rcases get i _ e1 with e3 | ⟨i3, m3⟩ <;> rcases get j _ e2 with e4 | ⟨j4, m4⟩
    · exact wf.nd i j m e3 e4
    · rw [m4] at e3; exact absurd e3 (nw i)
    · rw [m3] at e4; exact absurd e4 (nw j)
    · rw [i3, j4]
theorem isWN_ext {N N' : St0} (g : Ext N N') {i : Nat} (h : i < N.length) : isWN N' i = isWN N i := by
  unfold isWN
  rw [g.get (List.getElem?_eq_getElem h), List.getElem?_eq_getElem h]
/-- what joined and number_of_word hand back: a number of the node, in the store with it -/
structure Put (N : St0) (n : Nd) (N' : St0) (k : Nat) : Prop where
  wf : WF N'
  how : N' = N ∨ N' = N ++ [n]
  at_ : N'[k]? = some n
theorem Put.ext {N N' : St0} {n : Nd} {k : Nat} (p : Put N n N' k) : Ext N N' := by
  rcases p.how with e | e
  · rw [e]; exact .refl _
  · exact ⟨[n], e⟩
theorem Put.len {N N' : St0} {n : Nd} {k : Nat} (p : Put N n N' k) : N'.length ≤ N.length + 1 := by
  rcases p.how with e | e <;> rw [e]
  · exact Nat.le_succ _
  · rw [List.length_append]; exact Nat.le_refl _
theorem Put.lt {N N' : St0} {n : Nd} {k : Nat} (p : Put N n N' k) : k < N'.length := (List.getElem?_eq_some_iff.mp p.at_).1
theorem Put.uniq {N N1 N2 : St0} {n : Nd} {k1 k2 : Nat} (p : Put N n N1 k1) (q : Put N n N2 k2) : N1 = N2 ∧ k1 = k2 := by
  have last : (N ++ [n])[N.length]? = some n := by rw [List.getElem?_append_right (Nat.le_refl _), Nat.sub_self]; rfl
  have no : ∀ k, N[k]? = some n → WF (N ++ [n]) → False := fun k e wf => by
    have l := (List.getElem?_eq_some_iff.mp e).1
    have := wf.nd k N.length n (by rw [List.getElem?_append_left l]; exact e) last
    omega
  have h1 := p.at_
  have h2 := q.at_
  have w1 := p.wf
  have w2 := q.wf
  rcases p.how with e1 | e1 <;> rcases q.how with e2 | e2 <;> rw [e1] at h1 w1 <;> rw [e2] at h2 w2 <;> rw [e1, e2]
  · exact ⟨rfl, w1.nd _ _ _ h1 h2⟩
  · exact (no _ h1 w2).elim
  · exact (no _ h2 w1).elim
  · exact ⟨rfl, w1.nd _ _ _ h1 h2⟩
theorem Put.old {N : St0} (wf : WF N) {n : Nd} {k : Nat} (h : N[k]? = some n) : Put N n N k := ⟨wf, .inl rfl, h⟩
theorem Put.new {N : St0} (wf : WF N) {n : Nd} (ne : n ≠ Nd.e) (nw : ∀ i : Nat, N[i]? ≠ some n) (hc : ∀ f r : Nat, n = Nd.c f r → f < N.length ∧ r < N.length ∧ isWN N r = false) : Put N n (N ++ [n]) N.length :=
  ⟨wf.snoc ne nw hc, .inr rfl, by rw [List.getElem?_append_right (Nat.le_refl _), Nat.sub_self]; rfl⟩
theorem Put.join {N N' : St0} {f r k : Nat} {t u : Tree} (wf : WF N) (p : Put N (Nd.c f (restN N r)) N' k) (hf : Den N f t) (hr : Den N r u) : Den N' k (consT t u) := by
  have h := restN_den wf hr
  cases u with
  | w x => exact .c p.at_ (hf.ext p.ext) (h.ext p.ext)
  | l ts => exact .c p.at_ (hf.ext p.ext) (h.ext p.ext)
theorem restN_ok {N : St0} (wf : WF N) {r : Nat} (h : r < N.length) : restN N r < N.length ∧ isWN N (restN N r) = false := by
  have l0 : 0 < N.length := (List.getElem?_eq_some_iff.mp wf.z0).1
  unfold restN
  by_cases q : isWN N r = true
  · rw [if_pos q]
    refine ⟨l0, ?_⟩
    unfold isWN; rw [wf.z0]
  · rw [if_neg q]
    exact ⟨h, by simpa using q⟩
theorem Put.some {N : St0} (wf : WF N) {u v : Nat} (hu : u < N.length) (hv : v < N.length) : ∃ N' k, Put N (Nd.c u (restN N v)) N' k := by
  obtain ⟨l, w⟩ := restN_ok wf hv
  by_cases h : ∃ i : Nat, N[i]? = Option.some (Nd.c u (restN N v))
  · obtain ⟨i, h⟩ := h
    exact ⟨N, i, .old wf h⟩
  · refine ⟨_, _, Put.new wf (fun e => nomatch e) (fun i e => h ⟨i, e⟩) fun f r e => ?_⟩
    cases e
    exact ⟨hu, l, w⟩
/-- what the lists heads, tails and wordness hold -/
def hdN : Nd → Nat
  | .c f _ => f
  | _ => 0
def tlN : Nd → Nat
  | .c _ r => r
  | _ => 0
def wdN : Nd → Nat
  | .w _ => 1
  | _ => 0
theorem den_head {N : St0} (wf : WF N) {i : Nat} {t : Tree} (h : Den N i t) : ∃ n, N[i]? = some n ∧ Den N (hdN n) (headT t) := by
  cases h with
  | e h => exact ⟨_, h, .e wf.z0⟩
  | w h => exact ⟨_, h, .e wf.z0⟩
  | c h a b => exact ⟨_, h, a⟩
theorem den_tail {N : St0} (wf : WF N) {i : Nat} {t : Tree} (h : Den N i t) : ∃ n, N[i]? = some n ∧ Den N (tlN n) (tailT t) := by
  cases h with
  | e h => exact ⟨_, h, .e wf.z0⟩
  | w h => exact ⟨_, h, .e wf.z0⟩
  | c h a b => exact ⟨_, h, b⟩
theorem den_word {N : St0} (wf : WF N) {i : Nat} {t : Tree} (h : Den N i t) : ∃ n, N[i]? = some n ∧ Den N (wdN n) (if t.isW then yesT else .l []) := by
  cases h with
  | e h => exact ⟨_, h, .e wf.z0⟩
  | w h => exact ⟨_, h, .w wf.z1⟩
  | c h a b => exact ⟨_, h, .e wf.z0⟩
def start0 : St0 := [.e, .w yesW]
theorem wf_start : WF start0 := by
  refine ⟨rfl, rfl, fun i h => ?_, fun i f r h => ?_, fun i j n h g => ?_⟩
  · match i, h with
    | 0, _ => rfl
    | 1, h => cases h
    | i + 2, h => simp [start0] at h
  · match i, h with
    | 0, h => cases h
    | 1, h => cases h
    | i + 2, h => simp [start0] at h
  · match i, j, h, g with
    | 0, 0, _, _ => rfl
    | 1, 1, _, _ => rfl
    | 0, 1, h, g => cases h; cases g
    | 1, 0, h, g => cases h; cases g
    | i + 2, j, h, _ => simp [start0] at h
    | i, j + 2, _, g => simp [start0] at g
end Og

namespace Og
open PySem PySem.Spec PyProof.Rows L2
/-! ### programs written as rows -/
structure Cx0 where
  fns : List Fn0
  hd : Addr
  tl : Addr
  wd : Addr
structure Fin0 where
  R : List (Nat × V × Nat)
  S : List Nat
inductive En where
  | ret (k : Nat)
  | go (b : Nat)
def enRow : En → Nat × V
  | .ret k => (9, .int (-1 - (k : Int)))
  | .go b => (7, .int (b : Nat))
def nameIx (C : Cx0) (x : List Nat) : Nat := (C.fns.map (·.1)).idxOf x
def opRow (C : Cx0) (x : List Nat) : Nat × V :=
  if x = sameW then (4, .int 0) else if x = joinW then (5, .int 0) else if x = wordW then (3, .ref C.wd) else if x = headW then (3, .ref C.hd) else if x = tailW then (3, .ref C.tl) else (8, .int (nameIx C x : Nat))
def AtIx (ps : List (List Nat)) (x : List Nat) (j : Nat) : Prop := ps[j]? = some x ∧ ∀ m : Nat, m < j → ps[m]? ≠ some x
/-- the word has so many parts -/
def OpOk (C : Cx0) (x : List Nat) (n : Nat) : Prop := (x ∈ [wordW, headW, tailW] ∧ n = 1) ∨ (x ∈ [sameW, joinW] ∧ n = 2) ∨ (spAr x = none ∧ ∃ ps b, fnOf C.fns x = some (ps, b) ∧ ps.length = n)
def ifOf : Tree → Bool
  | .l (.w x :: _) => decide (x = ifW)
  | _ => false
mutual
/-- the rows from a to a' do what the expression asks, with h values above the parameters and d expressions begun and not yet counted -/
inductive Seg (C : Cx0) (F : Fin0) (N : St0) (ps : List (List Nat)) : Tree → Nat → Nat → Nat → Nat → Prop
  | w {x : List Nat} {h d a j : Nat} (hj : AtIx ps x j) (r : F.R[a]? = some (1, .int ((j : Int) - (ps.length : Int) - (h : Int)), d + 1)) : Seg C F N ps (.w x) h d a (a + 1)
  | q {v : Tree} {h d a k : Nat} (hk : Den N k v) (r : F.R[a]? = some (2, .int (k : Nat), d + 1)) : Seg C F N ps (.l [.w qw, v]) h d a (a + 1)
  | op {x : List Nat} {ts : List Tree} {h d d' a a1 : Nat} (n1 : x ≠ qw) (n2 : x ≠ ifW) (ok : OpOk C x ts.length) (hs : Segs C F N ps ts h (d + 1) a a1 d') (r : F.R[a1]? = some ((opRow C x).1, (opRow C x).2, d')) : Seg C F N ps (.l (.w x :: ts)) h d a (a1 + 1)
  | iff {t y z : Tree} {h d a a1 a' s g p : Nat} (ht : Seg C F N ps t h (d + 1) a a1) (r : F.R[a1]? = some (6, .int (s : Nat), 0)) (hy : Seg C F N ps y h 0 (a1 + 1) a') (hg : F.S[g]? = some a') (hs : F.S[s]? = some p) (hz : SegE C F N ps z h 0 p (.go g)) :
      Seg C F N ps (.l [.w ifW, t, y, z]) h d a a'
/-- .. and then what the end asks -/
inductive SegE (C : Cx0) (F : Fin0) (N : St0) (ps : List (List Nat)) : Tree → Nat → Nat → Nat → En → Prop
  | of {e : Tree} {h d a a1 : Nat} {en : En} (ni : ifOf e = false) (he : Seg C F N ps e h d a a1) (r : F.R[a1]? = some ((enRow en).1, (enRow en).2, 0)) : SegE C F N ps e h d a en
  | iff {t y z : Tree} {h d a a1 s p : Nat} {en : En} (ht : Seg C F N ps t h (d + 1) a a1) (r : F.R[a1]? = some (6, .int (s : Nat), 0)) (hy : SegE C F N ps y h 0 (a1 + 1) en) (hs : F.S[s]? = some p) (hz : SegE C F N ps z h 0 p en) :
      SegE C F N ps (.l [.w ifW, t, y, z]) h d a en
inductive Segs (C : Cx0) (F : Fin0) (N : St0) (ps : List (List Nat)) : List Tree → Nat → Nat → Nat → Nat → Nat → Prop
  | nil {h d a : Nat} : Segs C F N ps [] h d a a d
  | cons {t : Tree} {ts : List Tree} {h d d' a a1 a2 : Nat} (ht : Seg C F N ps t h d a a1) (hs : Segs C F N ps ts (h + 1) 0 a1 a2 d') : Segs C F N ps (t :: ts) h d a a2 d'
end
/-- what stands in a plan, the next first -/
inductive Pl where
  | ex (e : Tree) (h : Nat) (en : Option En)
  | st (b : Nat)
  | row (k : Nat) (w : V)
section
variable (C : Cx0) (F : Fin0) (N : St0) (ps : List (List Nat))
/-- the plan is what the rows from n on do -/
def PSem : Nat → Nat → List Pl → Prop
  | _, _, [] => True
  | n, d, .row k w :: P => F.R[n]? = some (k, w, d) ∧ PSem (n + 1) 0 P
  | n, d, .st b :: P => F.S[b]? = some n ∧ PSem n d P
  | n, d, .ex e h none :: P => ∃ n', Seg C F N ps e h d n n' ∧ PSem n' 0 P
  | n, d, .ex e h (some en) :: P => SegE C F N ps e h d n en ∧ ∃ n', PSem n' 0 P
def enPl : Option En → List Pl
  | none => []
  | some en => [.row (enRow en).1 (enRow en).2]
def exs : List Tree → Nat → List Pl
  | [], _ => []
  | t :: ts, h => .ex t h none :: exs ts (h + 1)
end
section
variable {C : Cx0} {F : Fin0} {N : St0} {ps : List (List Nat)} {P : List Pl} {n d h : Nat} {en : Option En}
theorem psem_leaf {e : Tree} (ni : ifOf e = false) (hs : ∀ {k w}, F.R[n]? = some (k, w, d + 1) → (k, w) = (k, w) → True) (k : Nat) (w : V) (mk : F.R[n]? = some (k, w, d + 1) → Seg C F N ps e h d n (n + 1)) (g : PSem C F N ps n (d + 1) (.row k w :: (enPl en ++ P))) : PSem C F N ps n d (.ex e h en :: P) := by
  obtain ⟨r, g⟩ := g
  cases en with
  | none => exact ⟨_, mk r, g⟩
  | some en =>
    obtain ⟨r2, g⟩ := g
    exact ⟨.of ni (mk r) r2, _, g⟩
theorem psem_word {x : List Nat} {j : Nat} (hj : AtIx ps x j) (g : PSem C F N ps n (d + 1) (.row 1 (.int ((j : Int) - (ps.length : Int) - (h : Int))) :: (enPl en ++ P))) : PSem C F N ps n d (.ex (.w x) h en :: P) :=
  psem_leaf rfl (fun _ _ => trivial) _ _ (fun r => .w hj r) g
theorem psem_quote {v : Tree} {k : Nat} (hk : Den N k v) (g : PSem C F N ps n (d + 1) (.row 2 (.int (k : Nat)) :: (enPl en ++ P))) : PSem C F N ps n d (.ex (.l [.w qw, v]) h en :: P) :=
  psem_leaf (by show decide (qw = ifW) = false; decide) (fun _ _ => trivial) _ _ (fun r => .q hk r) g
theorem psem_exs : ∀ {ts : List Tree} {n d h : Nat} {P : List Pl}, PSem C F N ps n d (exs ts h ++ P) → ∃ n' d', Segs C F N ps ts h d n n' d' ∧ PSem C F N ps n' d' P
  | [], n, d, h, P, g => ⟨n, d, .nil, g⟩
  | t :: ts, n, d, h, P, g => by
    obtain ⟨n1, s1, g⟩ := g
    obtain ⟨n2, d2, s2, g⟩ := psem_exs g
    exact ⟨n2, d2, .cons s1 s2, g⟩
theorem psem_op {x : List Nat} {ts : List Tree} (n1 : x ≠ qw) (n2 : x ≠ ifW) (ok : OpOk C x ts.length) (g : PSem C F N ps n (d + 1) (exs ts h ++ .row (opRow C x).1 (opRow C x).2 :: (enPl en ++ P))) : PSem C F N ps n d (.ex (.l (.w x :: ts)) h en :: P) := by
  obtain ⟨a1, d', hs, r, g⟩ := psem_exs g
  have ni : ifOf (.l (.w x :: ts)) = false := decide_eq_false n2
  cases en with
  | none => exact ⟨_, .op n1 n2 ok hs r, g⟩
  | some en =>
    obtain ⟨r2, g⟩ := g
    exact ⟨.of ni (.op n1 n2 ok hs r) r2, _, g⟩
theorem psem_if {t y z : Tree} {s b p : Nat} (hs : F.S[s]? = some p) (hz : SegE C F N ps z h 0 p (.go b)) (g : PSem C F N ps n (d + 1) (.ex t h none :: .row 6 (.int (s : Nat)) :: .ex y h none :: .st b :: P)) : PSem C F N ps n d (.ex (.l [.w ifW, t, y, z]) h none :: P) := by
  obtain ⟨a1, ht, r, a2, hy, hb, g⟩ := g
  exact ⟨a2, .iff ht r hy hb hs hz, g⟩
theorem psem_ifE {t y z : Tree} {s p : Nat} {en : En} (hs : F.S[s]? = some p) (hz : SegE C F N ps z h 0 p en) (g : PSem C F N ps n (d + 1) (.ex t h none :: .row 6 (.int (s : Nat)) :: .ex y h (some en) :: P)) : PSem C F N ps n d (.ex (.l [.w ifW, t, y, z]) h (some en) :: P) := by
  obtain ⟨a1, ht, r, hy, g⟩ := g
  exact ⟨.iff ht r hy hs hz, g⟩
end
/-! ### the store may grow -/
mutual
theorem Seg.ext {C : Cx0} {F : Fin0} {N N' : St0} {ps : List (List Nat)} (g : Ext N N') : ∀ {e : Tree} {h d a a' : Nat}, Seg C F N ps e h d a a' → Seg C F N' ps e h d a a'
  | _, _, _, _, _, .w hj r => .w hj r
  | _, _, _, _, _, .q hk r => .q (hk.ext g) r
  | _, _, _, _, _, .op n1 n2 ok hs r => .op n1 n2 ok (Segs.ext g hs) r
  | _, _, _, _, _, .iff ht r hy hg hs hz => .iff (Seg.ext g ht) r (Seg.ext g hy) hg hs (SegE.ext g hz)
theorem SegE.ext {C : Cx0} {F : Fin0} {N N' : St0} {ps : List (List Nat)} (g : Ext N N') : ∀ {e : Tree} {h d a : Nat} {en : En}, SegE C F N ps e h d a en → SegE C F N' ps e h d a en
  | _, _, _, _, _, .of ni he r => .of ni (Seg.ext g he) r
  | _, _, _, _, _, .iff ht r hy hs hz => .iff (Seg.ext g ht) r (SegE.ext g hy) hs (SegE.ext g hz)
theorem Segs.ext {C : Cx0} {F : Fin0} {N N' : St0} {ps : List (List Nat)} (g : Ext N N') : ∀ {ts : List Tree} {h d a a' d' : Nat}, Segs C F N ps ts h d a a' d' → Segs C F N' ps ts h d a a' d'
  | _, _, _, _, _, _, .nil => .nil
  | _, _, _, _, _, _, .cons ht hs => .cons (Seg.ext g ht) (Segs.ext g hs)
end
end Og

namespace Og
open PySem PySem.Spec PyProof.Rows L2
/-! ### going along the rows -/
structure CS where
  a : Nat
  sk : List Nat
  bh : List Nat
  st : Nat
  N : St0
def lookN (x : List Nat) (n : Nd) : Nat := if x = wordW then wdN n else if x = headW then hdN n else tlN n
/-- what one row does -/
inductive RowDo (C : Cx0) (F : Fin0) (bound : Nat) (nx : CS → Prop) (Q : CS → Option Nat → Prop) (s : CS) : Nat → V → Nat → Prop
  | copy {i : Int} {j v b : Nat} (h0 : i < 0) (hj : (j : Int) = (s.sk.length : Int) + i) (hv : s.sk[j]? = some v) (n : nx ⟨s.a + 1, s.sk ++ [v], s.bh, s.st + b, s.N⟩) : RowDo C F bound nx Q s 1 (.int i) b
  | push {k b : Nat} (n : nx ⟨s.a + 1, s.sk ++ [k], s.bh, s.st + b, s.N⟩) : RowDo C F bound nx Q s 2 (.int (k : Nat)) b
  | look {x : List Nat} {sk : List Nat} {v b : Nat} {nd : Nd} (m : x ∈ [wordW, headW, tailW]) (hs : s.sk = sk ++ [v]) (hn : s.N[v]? = some nd) (n : nx ⟨s.a + 1, sk ++ [lookN x nd], s.bh, s.st, s.N⟩) : RowDo C F bound nx Q s 3 (opRow C x).2 b
  | same {sk : List Nat} {u v b : Nat} (hs : s.sk = sk ++ [u, v]) (n : nx ⟨s.a + 1, sk ++ [if u = v then 1 else 0], s.bh, s.st, s.N⟩) : RowDo C F bound nx Q s 4 (.int 0) b
  | join {sk : List Nat} {u v b k : Nat} {N' : St0} (wf : WF s.N) (hs : s.sk = sk ++ [u, v]) (hu : u < s.N.length) (hv : v < s.N.length) (hp : Put s.N (Nd.c u (restN s.N v)) N' k) (n : nx ⟨s.a + 1, sk ++ [k], s.bh, s.st, N'⟩) : RowDo C F bound nx Q s 5 (.int 0) b
  | test {i p v b : Nat} {sk : List Nat} (hs : s.sk = sk ++ [v]) (hp : F.S[i]? = some p) (n : nx ⟨if v = 0 then p else s.a + 1, sk, s.bh, s.st, s.N⟩) : RowDo C F bound nx Q s 6 (.int (i : Nat)) b
  | go {i p b : Nat} (hp : F.S[i]? = some p) (n : nx ⟨p, s.sk, s.bh, s.st, s.N⟩) : RowDo C F bound nx Q s 7 (.int (i : Nat)) b
  | call {i p b : Nat} (lt : s.st + b < bound) (hp : F.S[i]? = some p) (n : nx ⟨p, s.sk, s.bh ++ [s.a + 1], s.st + b, s.N⟩) : RowDo C F bound nx Q s 8 (.int (i : Nat)) b
  | stop {i b : Nat} (ge : bound ≤ s.st + b) (q : Q ⟨s.a + 1, s.sk, s.bh ++ [s.a + 1], s.st + b, s.N⟩ (some i)) : RowDo C F bound nx Q s 8 (.int (i : Nat)) b
  | ret {k v r b : Nat} {sk ins bh : List Nat} (hs : s.sk = sk ++ ins ++ [v]) (hk : ins.length = k) (hb : s.bh = bh ++ [r]) (n : nx ⟨r, sk ++ [v], bh, s.st, s.N⟩) : RowDo C F bound nx Q s 9 (.int (-1 - (k : Int))) b
  | fin {w : V} {b : Nat} (q : Q ⟨s.a + 1, s.sk, s.bh, s.st, s.N⟩ none) : RowDo C F bound nx Q s 0 w b
def Small (M : Nat) (s : CS) : Prop := s.N.length < M ∧ s.sk.length < M ∧ s.bh.length < M
def CRun (C : Cx0) (F : Fin0) (bound M : Nat) (Q : CS → Option Nat → Prop) : Nat → CS → Prop
  | 0, _ => False
  | m + 1, s => Small M s ∧ ∃ k w b, F.R[s.a]? = some (k, w, b) ∧ RowDo C F bound (CRun C F bound M Q m) Q s k w b
/-! ### what the rows still do, as tasks -/
inductive InF (C : Cx0) (F : Fin0) (N : St0) (ps : List (List Nat)) (e : Env) : Nat → Nat → Nat → Nat → List Task → Prop
  | ret {a : Nat} (r : F.R[a]? = some ((enRow (.ret ps.length)).1, (enRow (.ret ps.length)).2, 0)) : InF C F N ps e 0 a 1 0 []
  | go {m a b p h : Nat} {tds : List Task} (r : F.R[a]? = some ((enRow (.go b)).1, (enRow (.go b)).2, 0)) (hp : F.S[b]? = some p) (n : InF C F N ps e m p h 0 tds) : InF C F N ps e (m + 1) a h 0 tds
  | ev {t : Tree} {h d a a' m : Nat} {tds : List Task} (s : Seg C F N ps t h d a a') (n : InF C F N ps e m a' (h + 1) 0 tds) : InF C F N ps e 0 a h d (.ev t e :: tds)
  | evR {t : Tree} {d a : Nat} (s : SegE C F N ps t 0 d a (.ret ps.length)) : InF C F N ps e 0 a 0 d [.ev t e]
  | evG {t : Tree} {h d a b p m : Nat} {tds : List Task} (s : SegE C F N ps t h d a (.go b)) (hp : F.S[b]? = some p) (n : InF C F N ps e m p (h + 1) 0 tds) : InF C F N ps e 0 a h d (.ev t e :: tds)
  | p1 {w : List Nat} {h a m : Nat} {tds : List Task} (hw : w ∈ [wordW, headW, tailW]) (r : F.R[a]? = some ((opRow C w).1, (opRow C w).2, 0)) (n : InF C F N ps e m (a + 1) (h + 1) 0 tds) : InF C F N ps e 0 a (h + 1) 0 (.prim w :: tds)
  | p2 {w : List Nat} {h a m : Nat} {tds : List Task} (hw : w ∈ [sameW, joinW]) (r : F.R[a]? = some ((opRow C w).1, (opRow C w).2, 0)) (n : InF C F N ps e m (a + 1) (h + 1) 0 tds) : InF C F N ps e 0 a (h + 2) 0 (.prim w :: tds)
  | pick {y z : Tree} {h a s p m1 m2 : Nat} {tds : List Task} (r : F.R[a]? = some (6, .int (s : Nat), 0)) (hp : F.S[s]? = some p) (ny : InF C F N ps e m1 (a + 1) h 0 (.ev y e :: tds)) (nz : InF C F N ps e m2 p h 0 (.ev z e :: tds)) : InF C F N ps e 0 a (h + 1) 0 (.pick y z e :: tds)
  | call {x : List Nat} {ps' : List (List Nat)} {bd : Tree} {h d a m : Nat} {tds : List Task} (sp : spAr x = none) (hf : fnOf C.fns x = some (ps', bd)) (r : F.R[a]? = some ((opRow C x).1, (opRow C x).2, d)) (n : InF C F N ps e m (a + 1) (h + 1) 0 tds) : InF C F N ps e 0 a (h + ps'.length) d (.call x :: tds)
theorem InF.ext {C : Cx0} {F : Fin0} {N N' : St0} {ps : List (List Nat)} {e : Env} (g : Ext N N') {m a h d : Nat} {tds : List Task} (x : InF C F N ps e m a h d tds) : InF C F N' ps e m a h d tds := by
  induction x with
  | ret r => exact .ret r
  | go r hp _ ih => exact .go r hp ih
  | ev s _ ih => exact .ev (s.ext g) ih
  | evR s => exact .evR (s.ext g)
  | evG s hp _ ih => exact .evG (s.ext g) hp ih
  | p1 hw r _ ih => exact .p1 hw r ih
  | p2 hw r _ ih => exact .p2 hw r ih
  | pick r hp _ _ i1 i2 => exact .pick r hp i1 i2
  | call sp hf r _ ih => exact .call sp hf r ih
section
variable {C : Cx0} {F : Fin0} {N : St0} {ps : List (List Nat)} {e : Env}
theorem inF_segs : ∀ {ts : List Tree} {h d a a1 d' m : Nat} {tds : List Task}, Segs C F N ps ts h d a a1 d' → InF C F N ps e m a1 (h + ts.length) d' tds → ∃ m', InF C F N ps e m' a h d (ts.map (fun t => Task.ev t e) ++ tds)
  | [], h, d, a, a1, d', m, tds, s, n => by
    cases s
    exact ⟨m, n⟩
  | t :: ts, h, d, a, a1, d', m, tds, s, n => by
    cases s with
    | cons ht hs =>
      rw [List.length_cons, show h + (ts.length + 1) = h + 1 + ts.length by omega] at n
      obtain ⟨m', n'⟩ := inF_segs hs n
      exact ⟨0, .ev ht n'⟩
/-- the words that are no calls -/
def primB (x : List Nat) : Bool := decide (x ∈ [sameW, wordW, headW, tailW, joinW])
def opTask (x : List Nat) : Task := if x ∈ [sameW, wordW, headW, tailW, joinW] then .prim x else .call x
theorem segs_d : ∀ {ts : List Tree} {h d a a1 d' : Nat}, Segs C F N ps ts h d a a1 d' → ts ≠ [] → d' = 0
  | [], _, _, _, _, _, _, ne => absurd rfl ne
  | [t], _, _, _, _, _, s, _ => by
    cases s with
    | cons _ s => cases s; rfl
  | t :: u :: ts, _, _, _, _, _, s, _ => by
    cases s with
    | cons _ hs => exact segs_d hs (by simp)
theorem inF_op {x : List Nat} {ts : List Tree} {h d d' a a1 m : Nat} {tds : List Task} (ok : OpOk C x ts.length) (hs : Segs C F N ps ts h (d + 1) a a1 d') (r : F.R[a1]? = some ((opRow C x).1, (opRow C x).2, d')) (n : InF C F N ps e m (a1 + 1) (h + 1) 0 tds) :
    ∃ m', InF C F N ps e m' a h (d + 1) (ts.map (fun t => Task.ev t e) ++ opTask x :: tds) := by
  unfold opTask
  rcases ok with ⟨hx, l⟩ | ⟨hx, l⟩ | ⟨sp, ps', b, hf, l⟩
  · have d0 : d' = 0 := segs_d hs (by intro q; rw [q] at l; cases l)
    subst d0
    rw [if_pos (by simp only [List.mem_cons, List.not_mem_nil, or_false] at hx ⊢; rcases hx with h | h | h <;> simp [h])]
    exact inF_segs hs (by rw [l]; exact .p1 hx r n)
  · have d0 : d' = 0 := segs_d hs (by intro q; rw [q] at l; cases l)
    subst d0
    rw [if_pos (by simp only [List.mem_cons, List.not_mem_nil, or_false] at hx ⊢; rcases hx with h | h <;> simp [h])]
    exact inF_segs hs (by rw [l]; exact .p2 hx r n)
  · rw [if_neg (by
      intro q
      simp only [List.mem_cons, List.not_mem_nil, or_false] at q
      rcases q with q | q | q | q | q <;> rw [q] at sp <;> revert sp <;> decide)]
    exact inF_segs hs (by rw [← l]; exact .call sp hf r n)
/-- the end of a piece, as what follows it -/
theorem inF_of {t : Tree} {h d a : Nat} {tds : List Task} {m : Nat} (x : InF C F N ps e m a h d (.ev t e :: tds)) : m = 0 ∨ ∃ m' b p, m = m' + 1 ∧ d = 0 ∧ F.R[a]? = some ((enRow (.go b)).1, (enRow (.go b)).2, 0) ∧ F.S[b]? = some p ∧ InF C F N ps e m' p h 0 (.ev t e :: tds) := by
  cases x with
  | go r hp n => exact .inr ⟨_, _, _, rfl, rfl, r, hp, n⟩
  | ev s n => exact .inl rfl
  | evR s => exact .inl rfl
  | evG s hp n => exact .inl rfl
end
/-! ### the frames beneath -/
inductive Chain (C : Cx0) (F : Fin0) (N : St0) : List Nat → List Nat → List Task → List Tree → Prop
  | base : Chain C F N [0] [] [] []
  | fr {bh sk ins tmp : List Nat} {td tds : List Task} {fd insT tmpT : List Tree} {ps : List (List Nat)} {r m : Nat} (c : Chain C F N bh sk td fd) (hi : Paired (Den N) ins insT) (hl : ins.length = ps.length) (ht : Paired (Den N) tmp tmpT)
      (n : InF C F N ps (ps.zip insT) m r (tmp.length + 1) 0 tds) : Chain C F N (bh ++ [r]) (sk ++ ins ++ tmp) (tds ++ td) (tmpT.reverse ++ fd)
theorem Dens.ext {N N' : St0} (g : Ext N N') : ∀ {is : List Nat} {ts : List Tree}, Paired (Den N) is ts → Paired (Den N') is ts
  | _, _, .nil => .nil
  | _, _, .cons h r => .cons (h.ext g) (Dens.ext g r)
theorem Chain.ext {C : Cx0} {F : Fin0} {N N' : St0} (g : Ext N N') {bh sk : List Nat} {td : List Task} {fd : List Tree} (x : Chain C F N bh sk td fd) : Chain C F N' bh sk td fd := by
  induction x with
  | base => exact .base
  | fr c hi hl ht n ih => exact .fr ih (Dens.ext g hi) hl (Dens.ext g ht) (n.ext g)
theorem pr_snoc {α β : Type} {R : α → β → Prop} : ∀ {as : List α} {bs : List β} {a : α} {b : β}, Paired R as bs → R a b → Paired R (as ++ [a]) (bs ++ [b])
  | _, _, _, _, .nil, h => .cons h .nil
  | _, _, _, _, .cons g r, h => .cons g (pr_snoc r h)
theorem pr_unsnoc {α β : Type} {R : α → β → Prop} : ∀ {as : List α} {a : α} {bs : List β}, Paired R (as ++ [a]) bs → ∃ bs' b, bs = bs' ++ [b] ∧ Paired R as bs' ∧ R a b
  | [], a, _, .cons h .nil => ⟨[], _, rfl, .nil, h⟩
  | x :: as, a, _, .cons h r => by
    obtain ⟨bs', b, e, p, q⟩ := pr_unsnoc r
    exact ⟨_ :: bs', b, by rw [e]; rfl, .cons h p, q⟩
theorem pr_len {α β : Type} {R : α → β → Prop} : ∀ {as : List α} {bs : List β}, Paired R as bs → as.length = bs.length
  | _, _, .nil => rfl
  | _, _, .cons _ r => by rw [List.length_cons, List.length_cons, pr_len r]
theorem pr_get {α β : Type} {R : α → β → Prop} : ∀ {as : List α} {bs : List β} {i : Nat} {b : β}, Paired R as bs → bs[i]? = some b → ∃ a, as[i]? = some a ∧ R a b
  | _, _, i, b, .nil, e => by simp at e
  | _, _, 0, b, .cons h _, e => ⟨_, rfl, by have := Option.some.inj e; rw [← this]; exact h⟩
  | _, _, i + 1, b, .cons _ r, e => pr_get (i := i) r e
theorem pr_app {α β : Type} {R : α → β → Prop} : ∀ {as as' : List α} {bs bs' : List β}, Paired R as bs → Paired R as' bs' → Paired R (as ++ as') (bs ++ bs')
  | _, _, _, _, .nil, h => h
  | _, _, _, _, .cons g r, h => .cons g (pr_app r h)
theorem pr_split {α β : Type} {R : α → β → Prop} : ∀ {as : List α} {bs : List β} (n : Nat), Paired R as bs → Paired R (as.take n) (bs.take n) ∧ Paired R (as.drop n) (bs.drop n)
  | _, _, 0, p => ⟨.nil, p⟩
  | _, _, n + 1, .nil => ⟨.nil, .nil⟩
  | _, _, n + 1, .cons h r => ⟨.cons h (pr_split n r).1, (pr_split n r).2⟩
/-- the state of the run and that of the machine of trees -/
structure Sync (C : Cx0) (F : Fin0) (m : Nat) (s : CS) (ms : MS) : Prop where
  ex : ∃ (sk ins tmp : List Nat) (td tds : List Task) (fd insT tmpT : List Tree) (ps : List (List Nat)) (d : Nat), Chain C F s.N s.bh sk td fd ∧ Paired (Den s.N) ins insT ∧ ins.length = ps.length ∧ Paired (Den s.N) tmp tmpT ∧
    InF C F s.N ps (ps.zip insT) m s.a tmp.length d tds ∧ s.sk = sk ++ ins ++ tmp ∧ ms = ⟨tds ++ td, tmpT.reverse ++ fd, s.st + d⟩
def isEv : Task → Bool
  | .ev _ _ => true
  | _ => false
/-- how many tasks are begun -/
def pot : List Task → Nat
  | [] => 0
  | t :: td => (if isEv t = true then 0 else 1) + pot td
theorem pot_app : ∀ (a b : List Task), pot (a ++ b) = pot a + pot b
  | [], b => by rw [List.nil_append]; show _ = 0 + _; omega
  | t :: a, b => by
    rw [List.cons_append, pot, pot, pot_app a b]
    omega
theorem pot_evs {α : Type} (f : α → Task) (hf : ∀ a, isEv (f a) = true) : ∀ l : List α, pot (l.map f) = 0
  | [] => rfl
  | a :: l => by rw [List.map_cons, pot, if_pos (hf a), pot_evs f hf l]
theorem lex4 {P : Nat → Nat → Nat → Nat → Prop} (h : ∀ a b c d, (∀ a' b' c' d', (a' < a ∨ (a' = a ∧ (b' < b ∨ (b' = b ∧ (c' < c ∨ (c' = c ∧ d' < d)))))) → P a' b' c' d') → P a b c d) : ∀ a b c d, P a b c d := by
  intro a
  induction a using Nat.strongRecOn with
  | _ a ia =>
    intro b
    induction b using Nat.strongRecOn with
    | _ b ib =>
      intro c
      induction c using Nat.strongRecOn with
      | _ c ic =>
        intro d
        induction d using Nat.strongRecOn with
        | _ d id =>
          refine h a b c d fun a' b' c' d' hl => ?_
          rcases hl with l | ⟨rfl, l | ⟨rfl, l | ⟨rfl, l⟩⟩⟩
          · exact ia a' l b' c' d'
          · exact ib b' l c' d'
          · exact ic c' l d'
          · exact id d' l
theorem look_zip : ∀ {ps : List (List Nat)} {ts : List Tree} {x : List Nat} {j : Nat} {t : Tree}, AtIx ps x j → ts[j]? = some t → look (ps.zip ts) x = some t
  | [], ts, x, j, t, h, _ => by have := h.1; simp at this
  | p :: ps, [], x, j, t, h, e => by simp at e
  | p :: ps, u :: ts, x, 0, t, h, e => by
    have h1 : p = x := Option.some.inj h.1
    have h2 : u = t := Option.some.inj e
    unfold look
    rw [List.zip_cons_cons, List.find?_cons, show decide ((p, u).1 = x) = true from decide_eq_true h1, h2]
    rfl
  | p :: ps, u :: ts, x, j + 1, t, h, e => by
    have h1 : p ≠ x := fun q => h.2 0 (Nat.succ_pos _) (by rw [q]; rfl)
    have ih := look_zip (ps := ps) (ts := ts) (x := x) (j := j) (t := t) ⟨h.1, fun m hm => h.2 (m + 1) (by omega)⟩ e
    unfold look at ih ⊢
    rw [List.zip_cons_cons, List.find?_cons, show decide ((p, u).1 = x) = false from decide_eq_false h1]
    exact ih
end Og

namespace Og
open PySem PySem.Spec PyProof.Rows L2
/-! ### heaps: each tracked thing stays, but for what can change at the places S -/
def Mo (o : HO) : Prop := (∃ xs, o = .lst xs) ∨ (∃ C d fs, o = .ins C d fs) ∨ (∃ kvs, o = .dK kvs) ∨ (∃ kvs, o = .dT kvs)
theorem mo_lst {xs : List V} : Mo (.lst xs) := .inl ⟨_, rfl⟩
theorem mo_ins {C d : Addr} {fs : List (Str × V)} : Mo (.ins C d fs) := .inr (.inl ⟨_, _, _, rfl⟩)
theorem mo_dK {kvs : List (Key × V)} : Mo (.dK kvs) := .inr (.inr (.inl ⟨_, rfl⟩))
theorem mo_dT {kvs : List (List Key × V)} : Mo (.dT kvs) := .inr (.inr (.inr ⟨_, rfl⟩))
theorem mo_not_tup {xs : List V} : ¬ Mo (.tup xs) := by rintro (⟨_, h⟩ | ⟨_, _, _, h⟩ | ⟨_, h⟩ | ⟨_, h⟩) <;> cases h
theorem mo_not_frz {p : Obj} {o : HO} : ¬ Mo (.frz p o) := by rintro (⟨_, h⟩ | ⟨_, _, _, h⟩ | ⟨_, h⟩ | ⟨_, h⟩) <;> cases h
def Kp (S : List Addr) (H H' : Hp) : Prop := ∀ b o, H b = some o → H' b = some o ∨ (b ∈ S ∧ Mo o ∧ ∃ o', Mo o' ∧ H' b = some o')
theorem Kp.refl {S : List Addr} {H : Hp} : Kp S H H := fun _ _ e => .inl e
theorem Kp.trans {S : List Addr} {H H1 H2 : Hp} (a : Kp S H H1) (b : Kp S H1 H2) : Kp S H H2 := fun p o e => by
  rcases a p o e with h | ⟨h, m, o', m', e2⟩
  · exact b p o h
  · rcases b p _ e2 with h' | ⟨_, _, o2, m2, e4⟩
    · exact .inr ⟨h, m, o', m', h'⟩
    · exact .inr ⟨h, m, o2, m2, e4⟩
theorem Kp.mono {S S' : List Addr} {H H1 : Hp} (a : Kp S H H1) (h : ∀ x ∈ S, x ∈ S') : Kp S' H H1 := fun p o e => by
  rcases a p o e with q | ⟨q, r⟩
  · exact .inl q
  · exact .inr ⟨h _ q, r⟩
theorem Kp.of {S : List Addr} {H H1 : Hp} (a : Keep S H H1) : Kp S H H1 := fun p o e => by
  rcases a p o e with q | ⟨q, xs, ys, rfl, r⟩
  · exact .inl q
  · exact .inr ⟨q, mo_lst, _, mo_lst, r⟩
theorem Kp.of0 {S : List Addr} {H H1 : Hp} (a : Keep [] H H1) : Kp S H H1 := (Kp.of a).mono fun _ m => absurd m (List.not_mem_nil)
theorem Kp.same {H H1 : Hp} (a : Kp [] H H1) : Same H H1 := fun b o e => by
  rcases a b o e with q | ⟨q, _⟩
  · exact q
  · exact absurd q (List.not_mem_nil)
theorem Kp.keep {H H1 : Hp} (a : Kp [] H H1) : Keep [] H H1 := Keep.of_same a.same
theorem Kp.new {S : List Addr} {H : Hp} {p : Addr} {o : HO} (h : H p = none) : Kp S H (upd H p o) := fun b u e => .inl (by rw [upd_ne (ne_of_none e h)]; exact e)
theorem Kp.newT {S : List Addr} {H H1 : Hp} {p : Addr} {o : HO} (a : Kp S H H1) (h : H1 p = none) : Kp S H (upd H1 p o) := a.trans (Kp.new h)
theorem Kp.set {S : List Addr} {H : Hp} {p : Addr} {o o' : HO} (h : H p = some o) (m : Mo o) (m' : Mo o') (i : p ∈ S) : Kp S H (upd H p o') := fun b u e => by
  by_cases hb : b = p
  · subst hb
    rw [h] at e
    cases e
    exact .inr ⟨i, m, o', m', upd_same⟩
  · exact .inl (by rw [upd_ne hb]; exact e)
theorem Kp.setT {S : List Addr} {H H1 : Hp} {p : Addr} {o o' : HO} (a : Kp S H H1) (h : H1 p = some o) (m : Mo o) (m' : Mo o') (i : p ∈ S) : Kp S H (upd H1 p o') := a.trans (Kp.set h m m' i)
theorem Kp.drop {S : List Addr} {H H1 : Hp} {p : Addr} (a : Kp (p :: S) H H1) (h : H p = none) : Kp S H H1 := fun b o e => by
  rcases a b o e with q | ⟨q, r⟩
  · exact .inl q
  · rcases List.mem_cons.mp q with q | q
    · subst q
      rw [h] at e
      cases e
    · exact .inr ⟨q, r⟩
/-- what is new may change -/
theorem Kp.drops {S T : List Addr} {H H1 : Hp} (a : Kp S H H1) (h : ∀ p ∈ S, H p = none ∨ p ∈ T) : Kp T H H1 := fun b o e => by
  rcases a b o e with q | ⟨q, r⟩
  · exact .inl q
  · rcases h b q with n | m
    · rw [n] at e; cases e
    · exact .inr ⟨m, r⟩
theorem Kp.cons {S : List Addr} {H H1 : Hp} {p : Addr} (a : Kp S H H1) : Kp (p :: S) H H1 := a.mono fun _ h => List.mem_cons_of_mem _ h
theorem Kp.get {S : List Addr} {H H1 : Hp} {b : Addr} {o : HO} (a : Kp S H H1) (e : H b = some o) (h : b ∉ S) : H1 b = some o := by
  rcases a b o e with q | ⟨q, _⟩
  · exact q
  · exact absurd q h
theorem Kp.free {S : List Addr} {H H1 : Hp} {b : Addr} (a : Kp S H H1) (e : H1 b = none) : H b = none := by
  cases q : H b with
  | none => rfl
  | some o => rcases a b o q with r | ⟨_, _, _, _, r⟩ <;> rw [r] at e <;> cases e
theorem Kp.tup {S : List Addr} {H H1 : Hp} {b : Addr} {xs : List V} (a : Kp S H H1) (e : H b = some (.tup xs)) : H1 b = some (.tup xs) := by
  rcases a b _ e with q | ⟨_, m, _⟩
  · exact q
  · exact absurd m mo_not_tup
theorem Kp.rdT {S : List Addr} {H H1 : Hp} {b : Addr} {xs : List V} (a : Kp S H H1) (e : Rd H b (.tup xs)) : Rd H1 b (.tup xs) := by
  rcases e with e | ⟨o, e⟩
  · exact .inl (a.tup e)
  · rcases a b _ e with q | ⟨_, m, _⟩
    · exact .inr ⟨o, q⟩
    · exact absurd m mo_not_frz
theorem Kp.sqT {K : PySem.W.Frag} {S : List Addr} {H H1 : Hp} {b : Addr} {xs : List V} (a : Kp S H H1) (e : SqT K H b xs) : SqT K H1 b xs := by
  rcases e with e | e
  · exact .inl (a.rdT e)
  · exact .inr e
theorem Kp.sqL {K : PySem.W.Frag} {S : List Addr} {H H1 : Hp} {b : Addr} {xs : List V} (a : Kp S H H1) (h : b ∉ S) (e : SqL K H b xs) : SqL K H1 b xs := by
  rcases e with (e | ⟨o, e⟩) | e
  · exact .inl (.inl (a.get e h))
  · exact .inl (.inr ⟨o, a.get e h⟩)
  · exact .inr e
mutual
theorem Tr.kp {K : PySem.W.Frag} {S : List Addr} {H H1 : Hp} (a : Kp S H H1) : ∀ {v : V} {t : Tree}, Tr K H v t → Tr K H1 v t
  | v, .w x, h => by rw [Tr] at h ⊢; exact h
  | v, .l ts, h => by
    rw [Tr] at h ⊢
    obtain ⟨p, vs, e, h1, h2⟩ := h
    exact ⟨p, vs, e, a.sqT h1, Trs.kp a h2⟩
theorem Trs.kp {K : PySem.W.Frag} {S : List Addr} {H H1 : Hp} (a : Kp S H H1) : ∀ {vs : List V} {ts : List Tree}, Trs K H vs ts → Trs K H1 vs ts
  | vs, [], h => by rw [Trs] at h ⊢; exact h
  | vs, t :: ts, h => by
    rw [Trs] at h ⊢
    obtain ⟨v, r, e, h1, h2⟩ := h
    exact ⟨v, r, e, Tr.kp a h1, Trs.kp a h2⟩
end
/-! ### own classes without a base -/
structure OwnC (K : PySem.W.Frag) (mg : Str → Option Value) (x : Str) (as : List Str) (C : Addr) : Prop where
  gC : mg x = some (.ref C)
  cl : L2.Cls K C
  no : ∀ f ∈ as, NoAttr K C f
/-- its __init__, as the program's top leaves it -/
structure InitAt (K : PySem.W.Frag) (C : Addr) (qual : Str) (st : Stmt) (ps : List Str) : Prop where
  ex : ∃ f fd, Fun K "__init__" qual st f fd ∧ Mk K C f ∧ Binds K fd ps []
structure MethAt (K : PySem.W.Frag) (C : Addr) (x qual : Str) (st : Stmt) (ps : List Str) : Prop where
  ex : ∃ f fd, Fun K x qual st f fd ∧ Meth K C x f ∧ Binds K fd ps []
structure MCallee (P : Program) (w : World) (K : PySem.W.Frag) (mg : Str → Option Value) (base : Heap) (k : Nat) (C : Addr) (x : Str) (f : Addr) (fd : FuncData) (ps : List Str) (sp : Sp) : Prop where
  ok : FnOk P w K mg base CX0 k f fd ps sp
  me : Meth K C x f
  cl : L2.Cls K C
  bi : Binds K fd ps []
structure KCallee (P : Program) (w : World) (K : PySem.W.Frag) (mg : Str → Option Value) (base : Heap) (k : Nat) (C : Addr) (x : Str) (f : Addr) (fd : FuncData) (ps : List Str) (sp : Sp) : Prop where
  ok : FnOk P w K mg base CX0 k f fd ps sp
  mkr : Mk K C f
  gC : mg x = some (.ref C)
  bi : Binds K fd ps []
def HasM (P : Program) (w : World) (K : PySem.W.Frag) (mg : Str → Option Value) (base : Heap) (k : Nat) (C : Addr) (x : Str) (ps : List Str) (sp : Sp) : Prop := ∃ f fd, MCallee P w K mg base k C x f fd ps sp
def HasK (P : Program) (w : World) (K : PySem.W.Frag) (mg : Str → Option Value) (base : Heap) (k : Nat) (C : Addr) (x : Str) (ps : List Str) (sp : Sp) : Prop := ∃ f fd, KCallee P w K mg base k C x f fd ps sp
theorem HasM.mono {P : Program} {w : World} {K : PySem.W.Frag} {mg : Str → Option Value} {base : Heap} {j k : Nat} {C : Addr} {x : Str} {ps : List Str} {sp : Sp} (h : HasM P w K mg base j C x ps sp) (l : j ≤ k) : HasM P w K mg base k C x ps sp := by
  obtain ⟨f, fd, c⟩ := h
  exact ⟨f, fd, c.ok.mono l, c.me, c.cl, c.bi⟩
theorem HasK.mono {P : Program} {w : World} {K : PySem.W.Frag} {mg : Str → Option Value} {base : Heap} {j k : Nat} {C : Addr} {x : Str} {ps : List Str} {sp : Sp} (h : HasK P w K mg base j C x ps sp) (l : j ≤ k) : HasK P w K mg base k C x ps sp := by
  obtain ⟨f, fd, c⟩ := h
  exact ⟨f, fd, c.ok.mono l, c.mkr, c.gC, c.bi⟩
section
variable {X : Cx} {k : Nat} {C : Addr} {x : Str} {f : Addr} {fd : FuncData} {ps : List Str} {sp : Sp} {p apos pos : Pos} {o e : Expr} {es : List Expr} {to : TE} {t : TA} {pl : Sem Bool}
theorem calM (M : MCallee X.prog X.w X.K X.mg X.base k C x f fd ps sp) (hr : Room k X.A) (ho : PE X o to) (ha : PA X (e :: es) t)
    (hst : starEach (e :: es) X.env = (false, eval e X.env) :: starEach es X.env := by rfl) (hpl : (backTo pos (starEach es X.env)).any (·.1) = false := by rfl)
    (ht : eval (.Call (.Attribute o x apos) (e :: es) [] pos) X.env = (do
      let ov ← eval o X.env
      standAt apos.atName
      let (f, first) ← holding [ov] (getMethod ov x pl)
      callWith pos f first (backTo pos (starEach (e :: es) X.env)) (backToKw pos (keywordEach [] X.env))) := by rfl) : PE X (.Call (.Attribute o x apos) (e :: es) [] pos) (tMeth C x sp [] E0 to t) :=
  pe_meth ho M.cl M.me M.ok hr M.bi .nil pass0 ha hst hpl ht
theorem calM0 (M : MCallee X.prog X.w X.K X.mg X.base k C x f fd ps sp) (hr : Room k X.A) (ho : PE X o to)
    (ht : eval (.Call (.Attribute o x apos) [] [] pos) X.env = (do
      let ov ← eval o X.env
      standAt apos.atName
      let (f, first) ← holding [ov] (getMethod ov x pl)
      callWith pos f first (backTo pos (starEach [] X.env)) (backToKw pos (keywordEach [] X.env))) := by rfl) : PE X (.Call (.Attribute o x apos) [] [] pos) (tMeth C x sp [] E0 to tNil) :=
  pe_meth0 ho M.cl M.me M.ok hr M.bi .nil pass0 ht
theorem calK (M : KCallee X.prog X.w X.K X.mg X.base k C x f fd ps sp) (hr : Room (k + 1) X.A) (ha : PA X (e :: es) t) (hg : Gl X x := by rfl) (hdb : (x == ("__debug__" : Str)) = false := by decide)
    (he : starEach (e :: es) X.env = (false, eval e X.env) :: starEach es X.env := by rfl) (hpl : (backTo pos (starEach es X.env)).any (·.1) = false := by rfl) : PE X (.Call (.Name x p) (e :: es) [] pos) (tMake C sp [] E0 t) :=
  pe_make M.mkr M.ok hr hg M.gC M.bi .nil pass0 ha hdb he hpl
theorem calK0 (M : KCallee X.prog X.w X.K X.mg X.base k C x f fd ps sp) (hr : Room (k + 1) X.A) (hg : Gl X x := by rfl) (hdb : (x == ("__debug__" : Str)) = false := by decide) : PE X (.Call (.Name x p) [] [] pos) (tMake C sp [] E0 tNil) :=
  pe_make0 M.mkr M.ok hr hg M.gC M.bi .nil pass0 hdb
end
end Og

namespace Og
open PySem PySem.Spec PyProof.Rows L2
/-! ### xs[a:] = ys and del xs[a:] -/
/-- where the tail begins -/
def tailAt (n : Nat) (a : Int) : Nat := if a < 0 then ((n : Int) + a).toNat else min a.toNat n
theorem bounds_tail {a : Int} {n : Nat} (h : -(n : Int) ≤ a) : sliceBounds (some a) none none n = (((tailAt n a : Nat) : Int), (n : Int), 1) := by
  unfold tailAt
  simp only [sliceBounds, Option.getD_none]
  by_cases h1 : a < 0
  · simp only [h1, if_true, if_pos, show (1 : Int) > 0 by decide]
    congr 1
    · omega
  · simp only [h1, if_false, show (1 : Int) > 0 by decide, if_true]
    congr 1
    · omega
theorem tailAt_le (n : Nat) (a : Int) (h : a < 0 ∨ 0 ≤ a) : tailAt n a ≤ n := by
  unfold tailAt
  split <;> omega
theorem filter_tail {α : Type} (p : Nat → Bool) (a : Nat) : ∀ (l : List α) (k : Nat), (∀ j, k ≤ j → j < k + l.length → p j = decide (a ≤ j)) → (l.zipIdx k).filterMap (fun x => if p x.2 = true then none else some x.1) = l.take (a - k)
  | [], k, _ => by simp
  | x :: l, k, h => by
    have ih := filter_tail p a l (k + 1) fun j h1 h2 => h j (by omega) (by rw [List.length_cons]; omega)
    have hk := h k (Nat.le_refl _) (by rw [List.length_cons]; omega)
    rw [List.zipIdx_cons, List.filterMap_cons]
    by_cases c : a ≤ k
    · rw [decide_eq_true c] at hk
      dsimp only
      rw [hk, if_pos rfl, ih, show a - (k + 1) = 0 by omega, show a - k = 0 by omega]
      rfl
    · rw [decide_eq_false c] at hk
      dsimp only
      rw [hk, if_neg (by decide), ih, show a - k = (a - (k + 1)) + 1 by omega, List.take_succ_cons]
section
variable {prog : Program} {w : World} {A : Around} {E : Value → Shared → Prop} {s : Shared}
theorem tail_eq (its its2 : List Value) (a : Nat) (h : a ≤ its.length) : its.toArray.extract 0 a ++ its2.toArray ++ its.toArray.extract its.toArray.size its.toArray.size = (its.take a ++ its2).toArray := by
  apply Array.toList_inj.mp
  simp
set_option maxRecDepth 100000 in
theorem setItem_tail {l b sl : Addr} {items new : Array Value} {n n2 : Nat} {vl vu : Value} {a : Int} {Q : Unit → Shared → Prop}
    (e : s.heap.get? l = some { cls := .type "list", data := .seq items n }) (e2 : s.heap.get? b = some { cls := .type "list", data := .seq new n2 }) (hne : l ≠ b)
    (hs : s.heap.IsSliceOf sl vl vu .none) (pl : IsPart vl (some a)) (pu : IsPart vu none) (ha : -(items.size : Int) ≤ a)
    (hsz : items.size + new.size ≤ sizeLine) (h : Q () { s with heap := s.heap.update l (Obj.mapSeq fun xs => xs.extract 0 (tailAt items.size a) ++ new ++ xs.extract items.size xs.size) }) :
    wpAny (model prog w) A (setItem (.ref l) (.ref sl) (.ref b)) Q E s := by
  have hl : s.heap.IsList l items := PySem.IsL.isList e
  have hb : s.heap.IsList b new := PySem.IsL.isList e2
  obtain ⟨os, hos, hcs, hds⟩ := id hs
  have hTs : s.TypeIs (.ref sl) "slice" := ⟨os, hos, hcs⟩
  have hstep : ¬ ((rawPart none == rawInt 0) = true) := Bool.false_ne_true
  have hsame : Builtin.List.listSameRef (.ref l) (.ref b) = false := by
    unfold Builtin.List.listSameRef
    exact beq_eq_false_iff_ne.mpr hne
  have hle : tailAt items.size a ≤ items.size := tailAt_le _ _ (by omega)
  have hmax : (max ((tailAt items.size a : Nat) : Int) (items.size : Int)).toNat = items.size := by omega
  have hz' : ((fun xs : Array Value => xs.extract 0 (tailAt items.size a) ++ new ++ xs.extract items.size xs.size) items).size ≤ sizeLine + 1 := by
    simp only [Array.size_append, Array.size_extract]
    omega
  unfold setItem
  try with_reducible refine wpAny_holding ?_
  first | refine wpAny_bind (wpAny_pure ?_) | skip
  refine wpAny_bind (wpAny_sequenceKey hl.typeIs (by decide) ?_)
  refine wpAny_bind (wpAny_callSpecial?_slot (name := Str.ofString "__setitem__") hl.typeIs slot_list_setitem
    (wpAny_call_entry slot_list_setitem hl.typeIs entry_list_setitem ?_ (args_list_setitem _ _ _)))
  show wpAny _ _ (Builtin.List.listSubscript? (.ref sl) >>= _) _ _ s
  refine wpAny_bind ?_
  unfold Builtin.List.listSubscript?
  refine wpAny_bind (wpAny_specialOf hTs slice_no_index ?_)
  simp only [Option.isNone_none, if_true]
  refine wpAny_pure ?_
  show wpAny _ _ (typeOf (.ref sl) >>= _) _ _ s
  refine wpAny_bind (wpAny_typeOf hTs ?_)
  first
    | rw [if_neg (by decide)]
    | refine PySem.W.KFB.if_not (by decide) ?_
  rw [listSliceParts_eq]
  refine wpAny_bind (wpAny_bind (wpAny_field hos hds (x := .none) rfl (wpAny_bind (wpAny_listPart .none ?_))))
  rw [if_neg hstep]
  refine wpAny_bind (wpAny_field hos hds (x := vl) rfl (wpAny_bind (wpAny_listPart pl ?_)))
  refine wpAny_bind (wpAny_field hos hds (x := vu) rfl (wpAny_bind (wpAny_listPart pu (wpAny_pure ?_))))
  first
    | simp only [hsame, Bool.false_eq_true, if_false]
    | refine PySem.W.KFB.if_not hsame ?_
    | (dsimp only
       rw [if_neg (by rw [hsame]; exact Bool.false_ne_true)])
  refine wpAny_bind (m := Builtin.List.listAllItems (.ref b) "must assign iterable to extended slice") ?_
  unfold Builtin.List.listAllItems
  refine wpAny_bind (wpAny_typeOf hb.typeIs ?_)
  first
    | refine PySem.W.KFB.if_so (by decide) ?_
    | rw [if_pos (by decide)]
    | simp only [beq_self_eq_true, Bool.true_or, if_true]
  unfold Builtin.List.listItems
  refine wpAny_bind (wpAny_seqItems e2 rfl (wpAny_pure ?_))
  refine wpAny_bind (wpAny_bind (wpAny_seqItems e rfl (wpAny_pure ?_)))
  refine wpAny_bind (wpAny_of_eq ((sliceIndices_raw (some a) none none items.size (by simp)).trans (congrArg (pure : Int × Int × Int → Sem (Int × Int × Int)) (bounds_tail ha))) ?_)
  show wpAny _ _ (if ((1 : Int) == 1) = true then _ else _) _ _ s
  rw [if_pos (by decide)]
  refine wpAny_bind (wpAny_rule ?_)
  first
    | simp only [notLongL hsz, Bool.false_eq_true, if_false]
    | refine PySem.W.KFB.if_not (notLongL hsz) ?_
  first | refine wpAny_bind (wpAny_pure ?_) | skip
  show wpAny _ _ (updateSeq l (fun xs => xs.extract 0 (((tailAt items.size a : Nat) : Int)).toNat ++ new ++ xs.extract (max ((tailAt items.size a : Nat) : Int) (items.size : Int)).toNat xs.size) >>= _) _ _ s
  rw [hmax, Int.toNat_natCast]
  refine wpAny_bind (wpAny_updateSeq (hz := Nat.le_trans (Nat.le_add_right _ _) hsz) (_hz' := hz') e rfl ?_)
  refine wpAny_bind (wpAny_letGo ?_)
  first
    | exact wpAny_bind (wpAny_pure (wpAny_pure ⟨.none, rfl, wpAny_pure h⟩))
    | exact wpAny_pure ⟨.none, rfl, wpAny_pure h⟩
/-- which places a slice of step one takes -/
def selB (a n : Int) (j : Nat) : Bool := if (1 : Int) > 0 then (decide (a ≤ (j : Int)) && decide ((j : Int) < n) && (((j : Int) - a) % 1 == 0)) else (decide (n < (j : Int)) && decide ((j : Int) ≤ a) && ((a - (j : Int)) % (-1) == 0))
set_option maxRecDepth 100000 in
theorem delItem_tail {l sl : Addr} {items : Array Value} {n : Nat} {vl vu : Value} {a : Int} {Q : Unit → Shared → Prop}
    (e : s.heap.get? l = some { cls := .type "list", data := .seq items n })
    (hs : s.heap.IsSliceOf sl vl vu .none) (pl : IsPart vl (some a)) (pu : IsPart vu none) (ha : -(items.size : Int) ≤ a)
    (hsz : items.size ≤ sizeLine) (h : ∀ f : Array Value → Array Value, f items = (items.toList.take (tailAt items.size a)).toArray → Q () { s with heap := s.heap.update l (Obj.mapSeq f) }) :
    wpAny (model prog w) A (delItem (.ref l) (.ref sl)) Q E s := by
  have hl : s.heap.IsList l items := PySem.IsL.isList e
  obtain ⟨os, hos, hcs, hds⟩ := id hs
  have hTs : s.TypeIs (.ref sl) "slice" := ⟨os, hos, hcs⟩
  have hstep : ¬ ((rawPart none == rawInt 0) = true) := Bool.false_ne_true
  have hle : tailAt items.size a ≤ items.size := tailAt_le _ _ (by omega)
  refine wpAny_delItem_slot hl.typeIs (by decide) PySem.F.slot_list_delitem ?_
  refine wpAny_call_entry PySem.F.slot_list_delitem hl.typeIs PySem.F.entry_list_delitem ?_ (PySem.F.args_list_delitem_2 _ _)
  show wpAny _ _ (Builtin.List.listSubscript? (.ref sl) >>= _) _ _ s
  refine wpAny_bind ?_
  unfold Builtin.List.listSubscript?
  refine wpAny_bind (wpAny_specialOf hTs slice_no_index ?_)
  simp only [Option.isNone_none, if_true]
  refine wpAny_pure ?_
  show wpAny _ _ (typeOf (.ref sl) >>= _) _ _ s
  refine wpAny_bind (wpAny_typeOf hTs ?_)
  first
    | rw [if_neg (by decide)]
    | refine PySem.W.KFB.if_not (by decide) ?_
  rw [listSliceParts_eq]
  refine wpAny_bind (wpAny_bind (wpAny_field hos hds (x := .none) rfl (wpAny_bind (wpAny_listPart .none ?_))))
  rw [if_neg hstep]
  refine wpAny_bind (wpAny_field hos hds (x := vl) rfl (wpAny_bind (wpAny_listPart pl ?_)))
  refine wpAny_bind (wpAny_field hos hds (x := vu) rfl (wpAny_bind (wpAny_listPart pu (wpAny_pure ?_))))
  unfold Builtin.List.listItems
  refine wpAny_bind (wpAny_bind (wpAny_seqItems e rfl (wpAny_pure ?_)))
  refine wpAny_bind (wpAny_of_eq ((sliceIndices_raw (some a) none none items.size (by simp)).trans (congrArg (pure : Int × Int × Int → Sem (Int × Int × Int)) (bounds_tail ha))) ?_)
  dsimp only
  refine wpAny_bind (wpAny_rule ?_)
  have key : ∀ p : Nat → Bool, (∀ j, j < items.size → p j = decide (tailAt items.size a ≤ j)) → ((items.toList.zipIdx).filterMap (fun x => if p x.2 = true then none else some x.1)).toArray = (items.toList.take (tailAt items.size a)).toArray := fun p hp => by
    have := filter_tail p (tailAt items.size a) items.toList 0 fun j _ h2 => hp j (by rw [Nat.zero_add, Array.length_toList] at h2; exact h2)
    rw [this, Nat.sub_zero]
  have sel : ∀ j, j < items.size → selB ((tailAt items.size a : Nat) : Int) (items.size : Int) j = decide (tailAt items.size a ≤ j) := fun j hj => by
    unfold selB
    rw [if_pos (by decide), Int.emod_one]
    by_cases c : tailAt items.size a ≤ j
    · rw [decide_eq_true c, decide_eq_true (show ((tailAt items.size a : Nat) : Int) ≤ (j : Int) by omega), decide_eq_true (show (j : Int) < (items.size : Int) by omega)]
      rfl
    · rw [decide_eq_false c, decide_eq_false (show ¬ ((tailAt items.size a : Nat) : Int) ≤ (j : Int) by omega)]
      rfl
  refine wpAny_bind (m := Builtin.List.listUpdate (.ref l) _) ?_
  show wpAny _ _ (updateSeq l _) _ _ s
  refine wpAny_updateSeq (hz := hsz) (_hz' := ?_) e rfl ?_
  · refine wpAny_bind (wpAny_letGo ?_)
    have fin := h (fun xs => (xs.toList.zipIdx.filterMap fun x => if selB ((tailAt items.size a : Nat) : Int) (items.size : Int) x.2 = true then none else some x.1).toArray) (key _ sel)
    first
      | exact wpAny_pure ⟨.none, rfl, wpAny_pure fin⟩
      | exact wpAny_pure ⟨.none, rfl, fin⟩
      | exact wpAny_pure fin
  · have k := key _ sel
    refine Nat.le_trans (Nat.le_of_eq (congrArg Array.size k)) ?_
    rw [List.size_toArray, List.length_take]
    have : items.toList.length = items.size := Array.length_toList
    omega
end
end Og

namespace Og
open PySem PySem.Spec PyProof.Rows L2
def sSetTail (to ti tv : TE) : TS := fun D σ H => tv σ H fun y H1 => to σ H1 fun x H2 => ti σ H2 fun z H3 => ∃ (l b : Addr) (xs ys : List V) (a : Int), x = .ref l ∧ y = .ref b ∧ z = .int a ∧ H3 l = some (.lst xs) ∧ H3 b = some (.lst ys) ∧ l ≠ b ∧ -(xs.length : Int) ≤ a ∧ xs.length + ys.length ≤ sizeLine ∧
  D.nx σ (upd H3 l (.lst (xs.take (tailAt xs.length a) ++ ys)))
def sDelTail (to ti : TE) : TS := fun D σ H => to σ H fun x H1 => ti σ H1 fun z H2 => ∃ (l : Addr) (xs : List V) (a : Int), x = .ref l ∧ z = .int a ∧ H2 l = some (.lst xs) ∧ -(xs.length : Int) ≤ a ∧ xs.length ≤ sizeLine ∧ D.nx σ (upd H2 l (.lst (xs.take (tailAt xs.length a))))
section
variable {X : Cx} {o lo value : Expr} {to ti tv : TE} {sp pos' pos tpos : Pos}
theorem ps_setTail (ho : PE X o to) (hi : PE X lo ti) (hv : PE X value tv) (hs : swapsWith value (some (.Subscript o (.Slice (some lo) none none sp) pos')) pos.line X.env = pure false) :
    PS X (.Assign [.Subscript o (.Slice (some lo) none none sp) pos'] value pos) (sSetTail to ti tv) := by
  refine ⟨fun pins s σ H D I h => ?_⟩
  refine wpAny_Assign_Subscript (thn (hv.run pins s σ H _ I h) fun r s1 ⟨y, H1, I1, ry, q1⟩ => thn (ho.run pins s1 σ H1 _ I1 q1) fun u s2 ⟨x, H2, I2, rx, q2⟩ => ?_) hs
  refine wpAny_Slice ?_
  rw [evalPart_some]
  refine thn (hi.run pins s2 σ H2 _ I2 q2) fun vl s3 ⟨z, H3, I3, rz, l, b, xs, ys, a, ex, ey, ez, hl, hb, ne, ha, hz, q3⟩ => ?_
  subst ex ey ez
  obtain rfl : u = Value.ref l := rx
  obtain rfl : r = Value.ref b := ry
  obtain ⟨ta, rfl⟩ := (show ∃ t, vl = Value.int a t from rz)
  rw [evalPart_none]
  refine wpAny_pure (wpAny_pure ?_)
  have I4 : Inv X pins σ H3 { s3 with heap := s3.heap.push { cls := .type "slice", data := .fields #[.int a ta, .none, .none] } } := I3.kept (t' := s3.toks) fun b ob q => Heap.get?_push_of_some _ q
  obtain ⟨z1, its, n, r1, hl1, e1⟩ := I4.lstM hl
  obtain ⟨z2, its2, n2, r2, hl2, e2⟩ := I4.lstM hb
  have le := tailAt_le xs.length a (by omega)
  refine setItem_tail (a := a) e1 e2 ne (Heap.IsSliceOf.new ..) (.int _ _) .none (by rw [List.size_toArray]; omega) (by rw [List.size_toArray, List.size_toArray]; omega) ⟨σ, _, ?_, q3⟩
  refine I4.lset (its' := its.take (tailAt xs.length a) ++ its2) (t' := s3.toks) hl e1 ?_ (Vals.append (r1.take _) r2) ?_
  · have := tail_eq its its2 (tailAt xs.length a) (by omega)
    rw [List.size_toArray] at this ⊢
    rw [show its.length = xs.length by omega] at this ⊢
    exact this
  · rw [List.length_append, List.length_take]
    omega
theorem ps_delTail (ho : PE X o to) (hi : PE X lo ti) : PS X (.Delete [.Subscript o (.Slice (some lo) none none sp) tpos] pos) (sDelTail to ti) := by
  refine ⟨fun pins s σ H D I h => ?_⟩
  refine wpAny_Delete (wpAny_deleteEach_cons (wpAny_delete_Subscript (thn (ho.run pins s σ H _ I h) fun u s2 ⟨x, H2, I2, rx, q2⟩ => ?_)))
  refine wpAny_Slice ?_
  rw [evalPart_some]
  refine thn (hi.run pins s2 σ H2 _ I2 q2) fun vl s3 ⟨z, H3, I3, rz, l, xs, a, ex, ez, hl, ha, hz, q3⟩ => ?_
  subst ex ez
  obtain rfl : u = Value.ref l := rx
  obtain ⟨ta, rfl⟩ := (show ∃ t, vl = Value.int a t from rz)
  rw [evalPart_none]
  refine wpAny_pure (wpAny_pure ?_)
  have I4 : Inv X pins σ H3 { s3 with heap := s3.heap.push { cls := .type "slice", data := .fields #[.int a ta, .none, .none] } } := I3.kept (t' := s3.toks) fun b ob q => Heap.get?_push_of_some _ q
  obtain ⟨z1, its, n, r1, hl1, e1⟩ := I4.lstM hl
  have le := tailAt_le xs.length a (by omega)
  refine delItem_tail (a := a) e1 (Heap.IsSliceOf.new ..) (.int _ _) .none (by rw [List.size_toArray]; omega) (by rw [List.size_toArray]; omega) fun f hf => wpAny_deleteEach_nil ⟨σ, _, ?_, q3⟩
  refine I4.lset (its' := its.take (tailAt xs.length a)) (t' := s3.toks) hl e1 ?_ (r1.take _) ?_
  · rw [hf, List.size_toArray, show its.length = xs.length by omega]
  · rw [List.length_take]
    omega
end
end Og

namespace Og
open PySem PySem.Spec PyProof.Rows L2
/-! ### methods of tuples: a tuple that is known not to have a dict of its own -/
def FzT (H : Hp) (v : V) : Prop := ∃ (p : Addr) (o : Obj) (xs : List V), v = .ref p ∧ H p = some (.frz o (.tup xs)) ∧ o.dict = none
theorem FzT.kp {S : List Addr} {H H1 : Hp} {v : V} (k : Kp S H H1) (h : FzT H v) : FzT H1 v := by
  obtain ⟨p, o, xs, rfl, e, d⟩ := h
  rcases k p _ e with q | ⟨_, m, _⟩
  · exact ⟨p, o, xs, rfl, q, d⟩
  · exact absurd m mo_not_frz
def tBMT (r : V → List V → Hp → VK → Prop) (to : TE) (t : TA) : TE := fun σ H Q => to σ H fun x H1 => FzT H1 x ∧ t σ H1 fun xs H2 => r x xs H2 Q
theorem pe_bmT {X : Cx} {o e : Expr} {es : List Expr} {to : TE} {t : TA} {name : Str} {apos cpos : Pos} {id : String} {r : V → List V → Hp → VK → Prop} (pa : PlainAttrs "tuple") (slot : Slot "tuple" name id) (hty : typeOf (.builtin id) = pure (.type "method_descriptor")) (hm : MtR X id r) (ho : PE X o to) (ha : PA X (e :: es) t)
    (hbase : attributeBase o name X.env (eval o X.env) = eval o X.env := by rfl)
    (hfew : ((backTo cpos (starEach (e :: es) X.env)).all (fun x => !x.1) && (backToKw cpos (keywordEach [] X.env)).all (fun x => x.1.isSome)
      && decide ((e :: es).length + ([] : List Keyword).length + (if ([] : List Keyword).isEmpty then 0 else 1) < 30)) = true := by rfl)
    (hline : (apos.endLine == cpos.line) = true := by rfl) (hs : starEach (e :: es) X.env = (false, eval e X.env) :: starEach es X.env := by rfl) (hplain : (backTo cpos (starEach es X.env)).any (·.1) = false := by rfl) :
    PE X (.Call (.Attribute o name apos) (e :: es) [] cpos) (tBMT r to t) := by
  refine ⟨fun pins s σ H Q I h => ?_⟩
  refine wpAny_Call_method_late hbase hfew hline rfl (thn (ho.run pins s σ H _ I h) fun v s1 ⟨x, H1, I1, r1, ty, q1⟩ => ?_)
  obtain ⟨p, ob, xs, ex, ep, dn⟩ := ty
  subst ex
  obtain rfl : v = Value.ref p := r1
  obtain ⟨eo, _, its, _, oo, eo2, oc, _⟩ := I1.hok p _ ep
  refine ⟨"tuple", id, pa, slot, hty, ⟨oo, eo2, oc⟩, fun a z => ?_, ?_⟩
  · cases z
    exact ⟨ob, eo, dn⟩
  have hA := ha.run cpos pins s1 σ H1 _ I1 q1
  rw [hs] at hA ⊢
  refine Calls.callWith_builtin (by show (false || (backTo cpos (starEach es X.env)).any (·.1)) = false; rw [hplain] <;> rfl) (Calls.evalArgs_plain ?_)
  exact thn hA fun us s2 ⟨vs, H2, I2, r2, q2⟩ => hm pins s2 σ H2 (.ref p) vs (.ref p) us Q I2 rfl r2 q2
end Og

namespace Og
open PySem PySem.Spec PyProof.Rows L2
/-! ### the object of the class Nodes, with its lists and dicts -/
structure NA where
  no : Addr
  dx : Addr
  hd : Addr
  tl : Addr
  wd : Addr
  sp : Addr
  nw : Addr
  nl : Addr
def NA.all (A : NA) : List Addr := [A.hd, A.tl, A.wd, A.sp, A.nw, A.nl]
def fldsN (A : NA) : List (Str × V) := [("heads", .ref A.hd), ("tails", .ref A.tl), ("wordness", .ref A.wd), ("spellings", .ref A.sp), ("numbers_of_words", .ref A.nw), ("numbers_of_lists", .ref A.nl)]
def ntab (f : Nd → Nat) (N : St0) : List V := N.map fun n => V.int (f n : Nat)
structure SpOk (kvs : List (Key × V)) (N : St0) : Prop where
  yes : ∀ (i : Nat) (x : List Nat), N[i]? = some (Nd.w x) → valV kvs (.inl (i : Int)) = some (.str (tx x))
  no : ∀ i : Nat, (∀ x, N[i]? ≠ some (Nd.w x)) → valV kvs (.inl (i : Int)) = none
  len : kvs.length ≤ N.length
structure NwOk (kvs : List (Key × V)) (N : St0) : Prop where
  yes : ∀ (i : Nat) (x : List Nat), N[i]? = some (Nd.w x) → valV kvs (.inr (tx x)) = some (.int (i : Nat))
  no : ∀ x : List Nat, (∀ i : Nat, N[i]? ≠ some (Nd.w x)) → valV kvs (.inr (tx x)) = none
  len : kvs.length ≤ N.length
def pairK (f r : Nat) : List Key := [.inl (f : Int), .inl (r : Int)]
structure NlOk (kvs : List (List Key × V)) (N : St0) : Prop where
  yes : ∀ i f r : Nat, N[i]? = some (Nd.c f r) → valV kvs (pairK f r) = some (.int (i : Nat))
  no : ∀ f r : Nat, (∀ i : Nat, N[i]? ≠ some (Nd.c f r)) → valV kvs (pairK f r) = none
  len : kvs.length ≤ N.length
structure NdOK (H : Hp) (Cn : Addr) (A : NA) (N : St0) : Prop where
  no : H A.no = some (.ins Cn A.dx (fldsN A))
  hd : H A.hd = some (.lst (ntab hdN N))
  tl : H A.tl = some (.lst (ntab tlN N))
  wd : H A.wd = some (.lst (ntab wdN N))
  sp : ∃ kvs, H A.sp = some (.dK kvs) ∧ SpOk kvs N
  nw : ∃ kvs, H A.nw = some (.dK kvs) ∧ NwOk kvs N
  nl : ∃ kvs, H A.nl = some (.dT kvs) ∧ NlOk kvs N
  nd : A.all.Nodup
theorem NdOK.kp {S : List Addr} {H H1 : Hp} {Cn : Addr} {A : NA} {N : St0} (h : NdOK H Cn A N) (k : Kp S H H1) (n0 : A.no ∉ S) (n1 : ∀ p ∈ A.all, p ∉ S) : NdOK H1 Cn A N := by
  obtain ⟨a1, e1, q1⟩ := h.sp
  obtain ⟨a2, e2, q2⟩ := h.nw
  obtain ⟨a3, e3, q3⟩ := h.nl
  exact ⟨k.get h.no n0, k.get h.hd (n1 _ (by simp [NA.all])), k.get h.tl (n1 _ (by simp [NA.all])), k.get h.wd (n1 _ (by simp [NA.all])), ⟨a1, k.get e1 (n1 _ (by simp [NA.all])), q1⟩, ⟨a2, k.get e2 (n1 _ (by simp [NA.all])), q2⟩, ⟨a3, k.get e3 (n1 _ (by simp [NA.all])), q3⟩, h.nd⟩
theorem NdOK.new {H : Hp} {Cn p : Addr} {A : NA} {N : St0} {o : HO} (h : NdOK H Cn A N) (np : H p = none) : NdOK (upd H p o) Cn A N := h.kp (S := []) (Kp.new np) (by simp) (fun _ _ => by simp)
theorem NdOK.kp0 {H H1 : Hp} {Cn : Addr} {A : NA} {N : St0} (h : NdOK H Cn A N) (k : Kp [] H H1) : NdOK H1 Cn A N := h.kp k (by simp) (fun _ _ => by simp)
theorem NdOK.ne {H : Hp} {Cn p : Addr} {A : NA} {N : St0} (h : NdOK H Cn A N) (np : H p = none) : p ≠ A.no ∧ ∀ q ∈ A.all, p ≠ q := by
  obtain ⟨a1, e1, q1⟩ := h.sp
  obtain ⟨a2, e2, q2⟩ := h.nw
  obtain ⟨a3, e3, q3⟩ := h.nl
  refine ⟨Ne.symm (ne_of_none h.no np), fun q m => ?_⟩
  simp only [NA.all, List.mem_cons, List.not_mem_nil, or_false] at m
  rcases m with rfl | rfl | rfl | rfl | rfl | rfl
  · exact Ne.symm (ne_of_none h.hd np)
  · exact Ne.symm (ne_of_none h.tl np)
  · exact Ne.symm (ne_of_none h.wd np)
  · exact Ne.symm (ne_of_none e1 np)
  · exact Ne.symm (ne_of_none e2 np)
  · exact Ne.symm (ne_of_none e3 np)
theorem ntab_get {f : Nd → Nat} {N : St0} {i : Nat} {n : Nd} (h : N[i]? = some n) : (ntab f N)[i]? = some (.int (f n : Nat)) := by
  unfold ntab
  rw [List.getElem?_map, h]
  rfl
theorem ntab_at {f : Nd → Nat} {N : St0} {i : Nat} {n : Nd} (h : N[i]? = some n) : atI (ntab f N) (i : Int) = some (.int (f n : Nat)) := atI_nat (ntab_get h)
theorem ntab_snoc (f : Nd → Nat) (N : St0) (n : Nd) : ntab f N ++ [.int (f n : Nat)] = ntab f (N ++ [n]) := by
  unfold ntab
  rw [List.map_append]
  rfl
theorem ntab_len (f : Nd → Nat) (N : St0) : (ntab f N).length = N.length := List.length_map ..
theorem snoc_get {N : St0} {n m : Nd} {i : Nat} (h : (N ++ [n])[i]? = some m) : N[i]? = some m ∨ (i = N.length ∧ m = n) := by
  by_cases l : i < N.length
  · rw [List.getElem?_append_left l] at h; exact .inl h
  · rw [List.getElem?_append_right (by omega)] at h
    by_cases l2 : i = N.length
    · subst l2
      rw [Nat.sub_self] at h
      exact .inr ⟨rfl, (Option.some.inj h).symm⟩
    · rw [List.getElem?_eq_none (by simp; omega)] at h; cases h
theorem snoc_old {N : St0} {n m : Nd} {i : Nat} (h : N[i]? = some m) : (N ++ [n])[i]? = some m := by
  rw [List.getElem?_append_left (List.getElem?_eq_some_iff.mp h).1]; exact h
theorem snoc_new {N : St0} {n : Nd} : (N ++ [n])[N.length]? = some n := by rw [List.getElem?_append_right (Nat.le_refl _), Nat.sub_self]; rfl
theorem nat_inl {i j : Nat} : (Sum.inl (i : Int) : Key) = .inl (j : Int) ↔ i = j := ⟨fun h => by have := Sum.inl.inj h; omega, fun h => by rw [h]⟩
theorem pairK_inj {f r g s : Nat} (h : pairK f r = pairK g s) : f = g ∧ r = s := by
  have h1 := (List.cons.inj h).1
  have h2 := (List.cons.inj (List.cons.inj h).2).1
  exact ⟨nat_inl.mp h1, nat_inl.mp h2⟩
theorem put_len {κ : Type} [DecidableEq κ] {kvs : List (κ × V)} {k : κ} {v : V} (h : valV kvs k = none) : (putK kvs k v).length = kvs.length + 1 := by
  rw [putK_new v h, List.length_append]; rfl
theorem SpOk.other {kvs : List (Key × V)} {N : St0} {n : Nd} (h : SpOk kvs N) (nw : ∀ x, n ≠ Nd.w x) : SpOk kvs (N ++ [n]) := by
  refine ⟨fun i x e => ?_, fun i e => ?_, by rw [List.length_append]; have := h.len; omega⟩
  · rcases snoc_get e with q | ⟨_, q⟩
    · exact h.yes i x q
    · exact absurd q.symm (nw x)
  · exact h.no i fun x q => e x (snoc_old q)
theorem NwOk.other {kvs : List (Key × V)} {N : St0} {n : Nd} (h : NwOk kvs N) (nw : ∀ x, n ≠ Nd.w x) : NwOk kvs (N ++ [n]) := by
  refine ⟨fun i x e => ?_, fun x e => ?_, by rw [List.length_append]; have := h.len; omega⟩
  · rcases snoc_get e with q | ⟨_, q⟩
    · exact h.yes i x q
    · exact absurd q.symm (nw x)
  · exact h.no x fun i q => e i (snoc_old q)
theorem NlOk.other {kvs : List (List Key × V)} {N : St0} {n : Nd} (h : NlOk kvs N) (nw : ∀ f r, n ≠ Nd.c f r) : NlOk kvs (N ++ [n]) := by
  refine ⟨fun i f r e => ?_, fun f r e => ?_, by rw [List.length_append]; have := h.len; omega⟩
  · rcases snoc_get e with q | ⟨_, q⟩
    · exact h.yes i f r q
    · exact absurd q.symm (nw f r)
  · exact h.no f r fun i q => e i (snoc_old q)
theorem NlOk.put {kvs : List (List Key × V)} {N : St0} {f r : Nat} (h : NlOk kvs N) (nw : ∀ i : Nat, N[i]? ≠ some (Nd.c f r)) : NlOk (putK kvs (pairK f r) (.int (N.length : Nat))) (N ++ [Nd.c f r]) := by
  refine ⟨fun i g s e => ?_, fun g s e => ?_, ?_⟩
  · rw [valV_put]
    rcases snoc_get e with q | ⟨q1, q⟩
    · rw [if_neg (fun z => by obtain ⟨rfl, rfl⟩ := pairK_inj z; exact nw i q)]
      exact h.yes i g s q
    · cases q
      rw [if_pos rfl, q1]
  · rw [valV_put, if_neg (fun z => by obtain ⟨rfl, rfl⟩ := pairK_inj z; exact e N.length snoc_new)]
    exact h.no g s fun i q => e i (snoc_old q)
  · rw [put_len (h.no f r nw), List.length_append, List.length_singleton]
    have := h.len
    omega
theorem SpOk.put {kvs : List (Key × V)} {N : St0} {x : List Nat} (h : SpOk kvs N) : SpOk (putK kvs (.inl (N.length : Int)) (.str (tx x))) (N ++ [Nd.w x]) := by
  have none_ : valV kvs (.inl (N.length : Int)) = none := h.no N.length fun x q => by have := (List.getElem?_eq_some_iff.mp q).1; omega
  refine ⟨fun i y e => ?_, fun i e => ?_, ?_⟩
  · rw [valV_put]
    rcases snoc_get e with q | ⟨q1, q⟩
    · rw [if_neg (fun z => by have := nat_inl.mp z; have := (List.getElem?_eq_some_iff.mp q).1; omega)]
      exact h.yes i y q
    · cases q
      rw [q1, if_pos rfl]
  · rw [valV_put, if_neg (fun z => by have := nat_inl.mp z; subst this; exact e x snoc_new)]
    exact h.no i fun y q => e y (snoc_old q)
  · rw [put_len none_, List.length_append, List.length_singleton]
    have := h.len
    omega
theorem inr_inj {a b : List Nat} (h : (Sum.inr (tx a) : Key) = .inr (tx b)) : a = b := tx_inj (Sum.inr.inj h)
theorem NwOk.put {kvs : List (Key × V)} {N : St0} {x : List Nat} (h : NwOk kvs N) (nw : ∀ i : Nat, N[i]? ≠ some (Nd.w x)) : NwOk (putK kvs (.inr (tx x)) (.int (N.length : Nat))) (N ++ [Nd.w x]) := by
  refine ⟨fun i y e => ?_, fun y e => ?_, ?_⟩
  · rw [valV_put]
    rcases snoc_get e with q | ⟨q1, q⟩
    · rw [if_neg (fun z => by have := inr_inj z; subst this; exact nw i q)]
      exact h.yes i y q
    · cases q
      rw [q1, if_pos rfl]
  · rw [valV_put, if_neg (fun z => by have := inr_inj z; subst this; exact e N.length snoc_new)]
    exact h.no y fun i q => e i (snoc_old q)
  · rw [put_len (h.no x nw), List.length_append, List.length_singleton]
    have := h.len
    omega
theorem NdOK.nes {H : Hp} {Cn : Addr} {A : NA} {N : St0} (h : NdOK H Cn A N) : A.hd ≠ A.tl ∧ A.hd ≠ A.wd ∧ A.hd ≠ A.sp ∧ A.hd ≠ A.nw ∧ A.hd ≠ A.nl ∧ A.tl ≠ A.wd ∧ A.tl ≠ A.sp ∧ A.tl ≠ A.nw ∧ A.tl ≠ A.nl ∧ A.wd ≠ A.sp ∧ A.wd ≠ A.nw ∧ A.wd ≠ A.nl ∧ A.sp ≠ A.nw ∧ A.sp ≠ A.nl ∧ A.nw ≠ A.nl := by
  have nd := h.nd
  simp only [NA.all, List.nodup_cons, List.mem_cons, List.not_mem_nil, or_false, not_or, not_false_eq_true, List.nodup_nil, and_true] at nd
  obtain ⟨⟨a1, a2, a3, a4, a5⟩, ⟨b1, b2, b3, b4⟩, ⟨c1, c2, c3⟩, ⟨d1, d2⟩, e1⟩ := nd
  exact ⟨a1, a2, a3, a4, a5, b1, b2, b3, b4, c1, c2, c3, d1, d2, e1⟩
theorem NdOK.neI {H : Hp} {Cn : Addr} {A : NA} {N : St0} (h : NdOK H Cn A N) : ∀ q ∈ A.all, A.no ≠ q := by
  obtain ⟨a1, e1, q1⟩ := h.sp
  obtain ⟨a2, e2, q2⟩ := h.nw
  obtain ⟨a3, e3, q3⟩ := h.nl
  intro q m z
  simp only [NA.all, List.mem_cons, List.not_mem_nil, or_false] at m
  have hn := h.no
  rcases m with rfl | rfl | rfl | rfl | rfl | rfl <;> rw [z] at hn
  · rw [h.hd] at hn; cases hn
  · rw [h.tl] at hn; cases hn
  · rw [h.wd] at hn; cases hn
  · rw [e1] at hn; cases hn
  · rw [e2] at hn; cases hn
  · rw [e3] at hn; cases hn
end Og

namespace Og
open PySem PySem.Spec PyProof.Rows L2
def attrsN : List Str := ["heads", "tails", "wordness", "spellings", "numbers_of_words", "numbers_of_lists"]
theorem start_at {i : Nat} {n : Nd} (h : start0[i]? = some n) : (i = 0 ∧ n = Nd.e) ∨ (i = 1 ∧ n = Nd.w yesW) := by
  match i, h with
  | 0, h => exact .inl ⟨rfl, (Option.some.inj h).symm⟩
  | 1, h => exact .inr ⟨rfl, (Option.some.inj h).symm⟩
  | i + 2, h => simp [start0] at h
theorem yes_tx : ("yes" : Str) = tx yesW := by decide +kernel
theorem sp_start : SpOk (mergeK [] [(.inl 1, .str "yes")]) start0 := by
  have e : mergeK [] [(.inl 1, .str "yes")] = ([(.inl 1, .str "yes")] : List (Key × V)) := rfl
  rw [e]
  refine ⟨fun i x h => ?_, fun i h => ?_, by decide⟩
  · rcases start_at h with ⟨_, q⟩ | ⟨rfl, q⟩
    · cases q
    · cases q
      rw [show (Sum.inl ((1 : Nat) : Int) : Key) = .inl 1 from rfl, valV_pos (p := ((.inl 1, .str "yes") : Key × V)) rfl, yes_tx]
  · rw [valV_neg, valV_nil]
    intro z
    have := nat_inl (i := 1) (j := i) |>.mp z
    subst this
    exact h yesW rfl
theorem nw_start : NwOk (mergeK [] [(.inr "yes", .int 1)]) start0 := by
  have e : mergeK [] [(.inr "yes", .int 1)] = ([(.inr (tx yesW), .int 1)] : List (Key × V)) := by rw [← yes_tx]; rfl
  rw [e]
  refine ⟨fun i x h => ?_, fun x h => ?_, by decide⟩
  · rcases start_at h with ⟨_, q⟩ | ⟨rfl, q⟩
    · cases q
    · cases q
      rw [valV_pos (p := ((.inr (tx yesW), .int 1) : Key × V)) rfl]
      rfl
  · rw [valV_neg, valV_nil]
    intro z
    have := inr_inj z
    subst this
    exact h 1 rfl
theorem nl_start : NlOk [] start0 := by
  refine ⟨fun i f r h => ?_, fun f r h => rfl, by decide⟩
  rcases start_at h with ⟨_, q⟩ | ⟨rfl, q⟩ <;> cases q
theorem upd2 {H : Hp} {p : Addr} {o o' : HO} : upd (upd H p o) p o' = upd H p o' := by
  funext b
  by_cases h : b = p
  · subst h; rw [upd_same, upd_same]
  · rw [upd_ne h, upd_ne h, upd_ne h]
theorem putF_new {f : Str} {v : V} : ∀ {fs : List (Str × V)}, (fs.map (·.1)).contains f = false → putF f v fs = fs ++ [(f, v)]
  | [], _ => rfl
  | (g, x) :: r, h => by
    rw [List.map_cons, List.contains_cons, Bool.or_eq_false_iff] at h
    have ne : g ≠ f := fun e => by rw [e] at h; simp at h
    show (if g = f then _ else _) = _
    rw [if_neg ne, putF_new h.2]
    rfl
theorem put_attr {H : Hp} {a p Cn dx : Addr} {fs : List (Str × V)} {o : HO} {f : Str} {ns : List Str} (ea : H a = some (.ins Cn dx fs)) (np : H p = none) (hn : fs.map (·.1) = ns) (hf : ns.contains f = false) :
    ∃ H', upd (upd H p o) a (.ins Cn dx (putF f (.ref p) fs)) = H' ∧ H' a = some (.ins Cn dx (fs ++ [(f, .ref p)])) ∧ H' p = some o ∧ Kp [a] H H' ∧ (∀ b o2, b ≠ a → H b = some o2 → H' b = some o2) ∧ (fs ++ [(f, V.ref p)]).map (·.1) = ns ++ [f] := by
  have pa : p ≠ a := Ne.symm (ne_of_none ea np)
  refine ⟨_, rfl, by rw [upd_same, putF_new (by rw [hn]; exact hf)], by rw [upd_ne pa, upd_same], (Kp.new np).trans (Kp.set (o := .ins Cn dx fs) (by rw [upd_ne (Ne.symm pa)]; exact ea) mo_ins mo_ins (List.mem_cons_self ..)), fun b o2 ne e => ?_, by rw [List.map_append, hn]; rfl⟩
  rw [upd_ne ne, upd_ne (ne_of_none e np)]
  exact e
theorem few_of {fs : List (Str × V)} {ns : List Str} (hn : fs.map (·.1) = ns) (h : ns.length < 1000) : fs.length < 1000 := by
  rw [← hn, List.length_map] at h
  exact h
section
variable {P : Program} {w : World} {K : PySem.W.Frag} {mg : Str → Option Value} {base : Heap}
def spNodesInit (Cn : Addr) : Sp := fun vs H Q _ => ∃ (a dx : Addr), vs = [.ref a] ∧ H a = some (.ins Cn dx []) ∧ ∀ (A : NA) (H' : Hp), A.no = a → A.dx = dx → NdOK H' Cn A start0 → Kp [a] H H' → (∀ p ∈ A.all, H p = none) → Q .non H'
theorem has_NodesInit {Cn : Addr} (O : OwnC K mg "Nodes" attrsN Cn) (D : InitAt K Cn "Nodes.__init__" s_Nodes_init p_Nodes_init) (B : Bn mg) (M : Mc mg) : HasK P w K mg base 1 Cn "Nodes" p_Nodes_init (spNodesInit Cn) := by
  obtain ⟨f, fd, F, mk, hb⟩ := D.ex
  obtain ⟨_, M_EMPTY⟩ := M.EMPTY
  obtain ⟨_, M_YES⟩ := M.YES
  refine ⟨f, fd, F.ok sc_Nodes_init (fun vs H Q E h => ?_) (fun cdv A outer s H vs Q E hr h => ?_), mk, O.gC, hb⟩
  · obtain ⟨_, _, rfl, _⟩ := h
    rfl
  obtain ⟨a, dx, rfl, ea, q⟩ := h
  refine ⟨_, (pss_cons (ps_fld (pv 0) (pe_lst (pa_cons (pe_glob (v := .int 0) rfl M_EMPTY ⟨_, rfl⟩) (pa_cons (pe_glob (v := .int 0) rfl M_EMPTY ⟨_, rfl⟩) pa_nil))) rfl)
    (pss_cons (ps_fld (pv 0) (pe_lst (pa_cons (pe_glob (v := .int 0) rfl M_EMPTY ⟨_, rfl⟩) (pa_cons (pe_glob (v := .int 0) rfl M_EMPTY ⟨_, rfl⟩) pa_nil))) rfl)
    (pss_cons (ps_fld (pv 0) (pe_lst (pa_cons (pe_glob (v := .int 0) rfl M_EMPTY ⟨_, rfl⟩) (pa_cons (pe_glob (v := .int 1) rfl M_YES ⟨_, rfl⟩) pa_nil))) rfl)
    (pss_cons (ps_fld (pv 0) (pe_disp (pps_cons (pe_glob (v := .int 1) rfl M_YES ⟨_, rfl⟩) pe_str pps_nil) rfl rfl (by simp) (by decide)) rfl)
    (pss_cons (ps_fld (pv 0) (pe_disp (pps_cons pe_str (pe_glob (v := .int 1) rfl M_YES ⟨_, rfl⟩) pps_nil) rfl rfl (by simp) (by decide)) rfl)
    (pss_one (ps_fld (pv 0) pe_dnewT rfl))))))), ?_⟩
  refine ⟨by show (2 : Nat) ≤ sizeLine; decide, fun p1 n1 => ?_⟩
  refine ⟨_, rfl, a, Cn, dx, _, rfl, (by rw [upd_ne (ne_of_none ea n1)]; exact ea), O.cl, O.no _ (by decide +kernel), by decide, ?_⟩
  obtain ⟨H1, g1, ea1, ep1, k1, s1, m1⟩ := put_attr (o := .lst [.int 0, .int 0]) ea n1 (f := "heads") rfl rfl
  rw [g1]
  refine ⟨by show (2 : Nat) ≤ sizeLine; decide, fun p2 n2 => ?_⟩
  refine ⟨_, rfl, a, Cn, dx, _, rfl, (by rw [upd_ne (ne_of_none ea1 n2)]; exact ea1), O.cl, O.no _ (by decide +kernel), few_of m1 (by decide), ?_⟩
  obtain ⟨H2, g2, ea2, ep2, k2, s2, m2⟩ := put_attr (o := .lst [.int 0, .int 0]) ea1 n2 (f := "tails") m1 (by decide +kernel)
  rw [g2]
  refine ⟨by show (2 : Nat) ≤ sizeLine; decide, fun p3 n3 => ?_⟩
  refine ⟨_, rfl, a, Cn, dx, _, rfl, (by rw [upd_ne (ne_of_none ea2 n3)]; exact ea2), O.cl, O.no _ (by decide +kernel), few_of m2 (by decide), ?_⟩
  obtain ⟨H3, g3, ea3, ep3, k3, s3, m3⟩ := put_attr (o := .lst [.int 0, .int 1]) ea2 n3 (f := "wordness") m2 (by decide +kernel)
  rw [g3]
  refine fun p4 n4 => ⟨upd_same, [(.inl 1, .str "yes")], rfl, by decide, ?_⟩
  rw [upd2]
  refine ⟨_, rfl, a, Cn, dx, _, rfl, (by rw [upd_ne (ne_of_none ea3 n4)]; exact ea3), O.cl, O.no _ (by decide +kernel), few_of m3 (by decide), ?_⟩
  obtain ⟨H4, g4, ea4, ep4, k4, s4, m4⟩ := put_attr (o := .dK (mergeK [] [(.inl 1, .str "yes")])) ea3 n4 (f := "spellings") m3 (by decide +kernel)
  rw [g4]
  refine fun p5 n5 => ⟨upd_same, [(.inr "yes", .int 1)], rfl, by decide, ?_⟩
  rw [upd2]
  refine ⟨_, rfl, a, Cn, dx, _, rfl, (by rw [upd_ne (ne_of_none ea4 n5)]; exact ea4), O.cl, O.no _ (by decide +kernel), few_of m4 (by decide), ?_⟩
  obtain ⟨H5, g5, ea5, ep5, k5, s5, m5⟩ := put_attr (o := .dK (mergeK [] [(.inr "yes", .int 1)])) ea4 n5 (f := "numbers_of_words") m4 (by decide +kernel)
  rw [g5]
  refine fun p6 n6 => ?_
  refine ⟨_, rfl, a, Cn, dx, _, rfl, (by rw [upd_ne (ne_of_none ea5 n6)]; exact ea5), O.cl, O.no _ (by decide +kernel), few_of m5 (by decide), ?_⟩
  obtain ⟨H6, g6, ea6, ep6, k6, s6, m6⟩ := put_attr (o := .dT []) ea5 n6 (f := "numbers_of_lists") m5 (by decide +kernel)
  rw [g6]
  have na : ∀ {H' : Hp} {p : Addr} {fs : List (Str × V)}, H' a = some (.ins Cn dx fs) → H' p = none → p ≠ a := fun e n => Ne.symm (ne_of_none e n)
  have x1 := na ea n1
  have x2 := na ea1 n2
  have x3 := na ea2 n3
  have x4 := na ea3 n4
  have x5 := na ea4 n5
  have x6 := na ea5 n6
  have h2 := s2 _ _ x1 ep1
  have h3 := s3 _ _ x1 h2
  have h3' := s3 _ _ x2 ep2
  have h4 := s4 _ _ x1 h3
  have h4' := s4 _ _ x2 h3'
  have h4'' := s4 _ _ x3 ep3
  have h5 := s5 _ _ x1 h4
  have h5' := s5 _ _ x2 h4'
  have h5'' := s5 _ _ x3 h4''
  have h5x := s5 _ _ x4 ep4
  refine q ⟨a, dx, p1, p2, p3, p4, p5, p6⟩ H6 rfl rfl ⟨ea6, s6 _ _ x1 h5, s6 _ _ x2 h5', s6 _ _ x3 h5'', ⟨_, s6 _ _ x4 h5x, ?_⟩, ⟨_, s6 _ _ x5 ep5, ?_⟩, ⟨_, ep6, ?_⟩, ?_⟩ (((((k1.trans k2).trans k3).trans k4).trans k5).trans k6) ?_
  · exact sp_start
  · exact nw_start
  · exact nl_start
  · have y2 := Ne.symm (ne_of_none ep1 n2)
    have y3 := Ne.symm (ne_of_none h2 n3)
    have y3' := Ne.symm (ne_of_none ep2 n3)
    have y4 := Ne.symm (ne_of_none h3 n4)
    have y4' := Ne.symm (ne_of_none h3' n4)
    have y4'' := Ne.symm (ne_of_none ep3 n4)
    have y5 := Ne.symm (ne_of_none h4 n5)
    have y5' := Ne.symm (ne_of_none h4' n5)
    have y5'' := Ne.symm (ne_of_none h4'' n5)
    have y5x := Ne.symm (ne_of_none ep4 n5)
    have y6 := Ne.symm (ne_of_none h5 n6)
    have y6' := Ne.symm (ne_of_none h5' n6)
    have y6'' := Ne.symm (ne_of_none h5'' n6)
    have y6x := Ne.symm (ne_of_none h5x n6)
    have y6z := Ne.symm (ne_of_none ep5 n6)
    simp only [NA.all, List.nodup_cons, List.mem_cons, List.not_mem_nil, or_false, not_or, not_false_eq_true, List.nodup_nil, and_true]
    exact ⟨⟨Ne.symm y2, Ne.symm y3, Ne.symm y4, Ne.symm y5, Ne.symm y6⟩, ⟨Ne.symm y3', Ne.symm y4', Ne.symm y5', Ne.symm y6'⟩, ⟨Ne.symm y4'', Ne.symm y5'', Ne.symm y6''⟩, ⟨Ne.symm y5x, Ne.symm y6x⟩, Ne.symm y6z⟩
  · intro p m
    simp only [NA.all, List.mem_cons, List.not_mem_nil, or_false] at m
    have z2 := k1.free n2
    have z3 := k1.free (k2.free n3)
    have z4 := k1.free (k2.free (k3.free n4))
    have z5 := k1.free (k2.free (k3.free (k4.free n5)))
    have z6 := k1.free (k2.free (k3.free (k4.free (k5.free n6))))
    rcases m with rfl | rfl | rfl | rfl | rfl | rfl
    · exact n1
    · exact z2
    · exact z3
    · exact z4
    · exact z5
    · exact z6
end
end Og

namespace Og
open PySem PySem.Spec PyProof.Rows L2
section
variable {P : Program} {w : World} {K : PySem.W.Frag} {mg : Str → Option Value} {base : Heap}
theorem lkN {A : NA} : (fldsN A).lookup ("heads" : Str) = some (V.ref A.hd) ∧ (fldsN A).lookup ("tails" : Str) = some (V.ref A.tl) ∧ (fldsN A).lookup ("wordness" : Str) = some (V.ref A.wd) ∧ (fldsN A).lookup ("spellings" : Str) = some (V.ref A.sp) ∧ (fldsN A).lookup ("numbers_of_words" : Str) = some (V.ref A.nw) ∧ (fldsN A).lookup ("numbers_of_lists" : Str) = some (V.ref A.nl) :=
  ⟨rfl, rfl, rfl, rfl, rfl, rfl⟩
def spJoined (Cn : Addr) : Sp := fun vs H Q _ => ∃ (A : NA) (N : St0) (f r : Nat), vs = [.ref A.no, .int (f : Nat), .int (r : Nat)] ∧ NdOK H Cn A N ∧ WF N ∧ f < N.length ∧ r < N.length ∧ N.length < 10000000 ∧
  ∀ (N' : St0) (k : Nat) (H' : Hp), Put N (Nd.c f (restN N r)) N' k → NdOK H' Cn A N' → Kp A.all H H' → Q (.int (k : Nat)) H'
theorem has_joined {Cn : Addr} (O : OwnC K mg "Nodes" attrsN Cn) (D : MethAt K Cn "joined" "Nodes.joined" s_Nodes_joined p_Nodes_joined) (B : Bn mg) (M : Mc mg) : HasM P w K mg base 1 Cn "joined" p_Nodes_joined (spJoined Cn) := by
  obtain ⟨fa, fd, F, me, hb⟩ := D.ex
  obtain ⟨_, M_EMPTY⟩ := M.EMPTY
  refine ⟨fa, fd, F.ok sc_Nodes_joined (fun vs H Q E h => ?_) (fun cdv A outer s H vs Q E hr h => ?_), me, O.cl, hb⟩
  · obtain ⟨_, _, _, _, rfl, _⟩ := h
    rfl
  obtain ⟨A, N, f, r, rfl, nd, wf, lf, lr, ln, q⟩ := h
  refine ⟨_, (C8.pss_cut (ps_if (pt_truth (pe_ix ix_list (pe_fld (pv 0) rfl) (pv 2) (fun _ _ => rfl)) (by intro _; rfl)) (pss_one (ps_set (i := 2) sc_Nodes_joined.nd rfl (.inl rfl) (pe_glob (v := .int 0) rfl M_EMPTY ⟨_, rfl⟩))) pss_nil)
    (pss_cons (ps_set (i := 3) sc_Nodes_joined.nd rfl (.inl rfl) (pe_tup (pa_cons (pv 1) (pa_cons (pv 2) pa_nil))))
    (pss_cons (ps_set (i := 4) sc_Nodes_joined.nd rfl (.inl rfl) (pe_dget1 (hu_of hr) (pe_fld (pv 0) rfl) (pv 3) ⟨rfl, rfl, rfl, rfl⟩))
    (C8.pss_cut (ps_if (pt_cmpR op_isN (pv 4) pe_non (nomark _)) (pss_cons (ps_set (i := 4) sc_Nodes_joined.nd rfl (.inl rfl) (pe_callB call_len_seq (by rfl) B.len PySem.boot_len (pa_cons (pe_fld (pv 0) rfl) pa_nil)))
      (pss_cons (ps_dput (hu_of hr) (pe_fld (pv 0) rfl) (pv 3) (pv 4) rfl)
      (pss_cons (ps_expr (pe_bm PySem.F.plainAttrs_list PySem.F.slot_list_append PySem.F.type_list_append mt_append (pe_fld (pv 0) rfl) (pa_cons (pv 1) pa_nil)))
      (pss_cons (ps_expr (pe_bm PySem.F.plainAttrs_list PySem.F.slot_list_append PySem.F.type_list_append mt_append (pe_fld (pv 0) rfl) (pa_cons (pv 2) pa_nil)))
      (pss_one (ps_expr (pe_bm PySem.F.plainAttrs_list PySem.F.slot_list_append PySem.F.type_list_append mt_append (pe_fld (pv 0) rfl) (pa_cons (pe_glob (v := .int 0) rfl M_EMPTY ⟨_, rfl⟩) pa_nil)))))))) pss_nil)
    (pss_one (ps_ret (pv 4))))))), ?_⟩
  have isw : ∀ n, N[r]? = some n → (((wdN n : Nat) : Int) ≠ 0 ↔ isWN N r = true) := fun n e => by
    unfold isWN
    rw [e]
    cases n <;> simp [wdN]
  obtain ⟨n, en⟩ : ∃ n, N[r]? = some n := ⟨_, List.getElem?_eq_getElem lr⟩
  refine ⟨fun σ' H' => H' = H ∧ σ' = [some (.ref A.no), some (.int (f : Nat)), some (.int (restN N r : Nat)), none, none], ?_, ?_⟩
  · refine ⟨_, rfl, _, _, _, _, _, rfl, nd.no, O.cl, O.no _ (by decide +kernel), lkN.2.2.1, _, rfl, A.wd, _, _, _, rfl, rfl, SqL.of nd.wd, ntab_at en, ?_⟩
    refine ⟨_, rfl, ?_⟩
    have isn := isw n en
    by_cases c : isWN N r = true
    · rw [show (((wdN n : Nat) : Int) != 0) = true by simpa using isn.mpr c]
      refine iteT ⟨rfl, ?_⟩
      rw [show restN N r = 0 from if_pos c]
      rfl
    · rw [show (((wdN n : Nat) : Int) != 0) = false by
        have : ¬ (((wdN n : Nat) : Int) ≠ 0) := fun z => c (isn.mp z)
        simpa using this]
      refine iteF ⟨rfl, ?_⟩
      rw [show restN N r = r from if_neg c]
      rfl
  rintro σ' H' ⟨rfl, rfl⟩
  obtain ⟨lr0, nw0⟩ := restN_ok wf lr
  generalize restN N r = r0 at *
  refine ⟨_, rfl, _, rfl, by show (2 : Nat) ≤ sizeLine; decide, fun pp np => ?_⟩
  have nd1 := nd.new (o := .tup [.int (f : Nat), .int (r0 : Nat)]) np
  have ep : (upd H' pp (.tup [.int (f : Nat), .int (r0 : Nat)])) pp = some (.tup ((pairK f r0).map kV)) := upd_same
  have k1 : Kp A.all H' (upd H' pp (.tup [.int (f : Nat), .int (r0 : Nat)])) := Kp.new np
  generalize upd H' pp (.tup [.int (f : Nat), .int (r0 : Nat)]) = H1 at nd1 ep k1
  obtain ⟨kvs, el, hl⟩ := nd1.nl
  refine ⟨_, rfl, _, _, _, _, _, rfl, nd1.no, O.cl, O.no _ (by decide +kernel), lkN.2.2.2.2.2, A.nl, rfl, .inr ⟨kvs, .inl el⟩, _, rfl, _, DGet.t el ep, ?_⟩
  refine ⟨fun σ2 H2 => ∃ (N' : St0) (k : Nat), Put N (Nd.c f r0) N' k ∧ NdOK H2 Cn A N' ∧ Kp A.all H' H2 ∧ σ2 = [some (.ref A.no), some (.int (f : Nat)), some (.int (r0 : Nat)), some (.ref pp), some (.int (k : Nat))], ?_, ?_⟩
  · by_cases old : ∃ i : Nat, N[i]? = some (Nd.c f r0)
    · obtain ⟨i, ei⟩ := old
      rw [hl.yes i f r0 ei]
      refine ⟨_, rfl, rfl, _, rfl, ?_⟩
      rw [show decide ((some (V.int (i : Nat))).getD V.non = V.non) = false from decide_eq_false (fun z => nomatch z)]
      exact iteF ⟨N, i, .old wf ei, nd1, k1, rfl⟩
    · have nw : ∀ i : Nat, N[i]? ≠ some (Nd.c f r0) := fun i e => old ⟨i, e⟩
      rw [hl.no f r0 nw]
      refine ⟨_, rfl, rfl, _, rfl, ?_⟩
      rw [show decide ((none : Option V).getD V.non = V.non) = true from decide_eq_true rfl]
      refine iteT ?_
      obtain ⟨x1, x2, x3, x4, x5, x6, x7, x8, x9, x10, x11, x12, x13, x14, x15⟩ := nd1.nes
      have nI := nd1.neI
      have i1 := nI A.hd (by simp [NA.all])
      have i2 := nI A.tl (by simp [NA.all])
      have i3 := nI A.wd (by simp [NA.all])
      have i6 := nI A.nl (by simp [NA.all])
      obtain ⟨ks, es, hs⟩ := nd1.sp
      obtain ⟨kw, ew, hw⟩ := nd1.nw
      have sz : ∀ {n : Nat}, n ≤ N.length → n < sizeLine := fun h => Nat.lt_of_le_of_lt (Nat.le_trans h (Nat.le_of_lt ln)) (by decide)
      refine ⟨_, rfl, _, _, _, _, _, rfl, nd1.no, O.cl, O.no _ (by decide +kernel), lkN.1, A.hd, _, rfl, .inl (SqL.of nd1.hd), ?_⟩
      rw [ntab_len]
      refine ⟨_, rfl, _, rfl, _, _, _, _, _, rfl, nd1.no, O.cl, O.no _ (by decide +kernel), lkN.2.2.2.2.2, _, rfl, A.nl, _, rfl, DPut.t el ep (sz hl.len), ?_⟩
      have no2 : (upd H1 A.nl (.dT (putK kvs (pairK f r0) (.int (N.length : Nat))))) A.no = some (.ins Cn A.dx (fldsN A)) := by rw [upd_ne i6]; exact nd1.no
      have hd2 : (upd H1 A.nl (.dT (putK kvs (pairK f r0) (.int (N.length : Nat))))) A.hd = some (.lst (ntab hdN N)) := by rw [upd_ne x5]; exact nd1.hd
      have tl2 : (upd H1 A.nl (.dT (putK kvs (pairK f r0) (.int (N.length : Nat))))) A.tl = some (.lst (ntab tlN N)) := by rw [upd_ne x9]; exact nd1.tl
      have wd2 : (upd H1 A.nl (.dT (putK kvs (pairK f r0) (.int (N.length : Nat))))) A.wd = some (.lst (ntab wdN N)) := by rw [upd_ne x12]; exact nd1.wd
      have sp2 : (upd H1 A.nl (.dT (putK kvs (pairK f r0) (.int (N.length : Nat))))) A.sp = some (.dK ks) := by rw [upd_ne x14]; exact es
      have nw2 : (upd H1 A.nl (.dT (putK kvs (pairK f r0) (.int (N.length : Nat))))) A.nw = some (.dK kw) := by rw [upd_ne x15]; exact ew
      have nl2 : (upd H1 A.nl (.dT (putK kvs (pairK f r0) (.int (N.length : Nat))))) A.nl = some (.dT (putK kvs (pairK f r0) (.int (N.length : Nat)))) := upd_same
      have k2 : Kp A.all H' (upd H1 A.nl (.dT (putK kvs (pairK f r0) (.int (N.length : Nat))))) := k1.setT el mo_dT mo_dT (by simp [NA.all])
      generalize upd H1 A.nl (.dT (putK kvs (pairK f r0) (.int (N.length : Nat)))) = H2 at no2 hd2 tl2 wd2 sp2 nw2 nl2 k2
      -- heads
      refine ⟨_, rfl, _, _, _, _, _, rfl, no2, O.cl, O.no _ (by decide +kernel), lkN.1, .inl ⟨rfl, _, SqL.of hd2⟩, _, rfl, A.hd, _, _, rfl, rfl, hd2, sz (by rw [ntab_len]; exact Nat.le_refl _), ?_⟩
      have no3 : (upd H2 A.hd (.lst (ntab hdN N ++ [.int (f : Nat)]))) A.no = some (.ins Cn A.dx (fldsN A)) := by rw [upd_ne i1]; exact no2
      have hd3 : (upd H2 A.hd (.lst (ntab hdN N ++ [.int (f : Nat)]))) A.hd = some (.lst (ntab hdN (N ++ [Nd.c f r0]))) := by rw [upd_same, ← ntab_snoc]; rfl
      have tl3 : (upd H2 A.hd (.lst (ntab hdN N ++ [.int (f : Nat)]))) A.tl = some (.lst (ntab tlN N)) := by rw [upd_ne (Ne.symm x1)]; exact tl2
      have wd3 : (upd H2 A.hd (.lst (ntab hdN N ++ [.int (f : Nat)]))) A.wd = some (.lst (ntab wdN N)) := by rw [upd_ne (Ne.symm x2)]; exact wd2
      have sp3 : (upd H2 A.hd (.lst (ntab hdN N ++ [.int (f : Nat)]))) A.sp = some (.dK ks) := by rw [upd_ne (Ne.symm x3)]; exact sp2
      have nw3 : (upd H2 A.hd (.lst (ntab hdN N ++ [.int (f : Nat)]))) A.nw = some (.dK kw) := by rw [upd_ne (Ne.symm x4)]; exact nw2
      have nl3 : (upd H2 A.hd (.lst (ntab hdN N ++ [.int (f : Nat)]))) A.nl = some (.dT (putK kvs (pairK f r0) (.int (N.length : Nat)))) := by rw [upd_ne (Ne.symm x5)]; exact nl2
      have k3 : Kp A.all H' (upd H2 A.hd (.lst (ntab hdN N ++ [.int (f : Nat)]))) := k2.setT hd2 mo_lst mo_lst (by simp [NA.all])
      generalize upd H2 A.hd (.lst (ntab hdN N ++ [.int (f : Nat)])) = H3 at no3 hd3 tl3 wd3 sp3 nw3 nl3 k3
      -- tails
      refine ⟨_, rfl, _, _, _, _, _, rfl, no3, O.cl, O.no _ (by decide +kernel), lkN.2.1, .inl ⟨rfl, _, SqL.of tl3⟩, _, rfl, A.tl, _, _, rfl, rfl, tl3, sz (by rw [ntab_len]; exact Nat.le_refl _), ?_⟩
      have no4 : (upd H3 A.tl (.lst (ntab tlN N ++ [.int (r0 : Nat)]))) A.no = some (.ins Cn A.dx (fldsN A)) := by rw [upd_ne i2]; exact no3
      have hd4 : (upd H3 A.tl (.lst (ntab tlN N ++ [.int (r0 : Nat)]))) A.hd = some (.lst (ntab hdN (N ++ [Nd.c f r0]))) := by rw [upd_ne x1]; exact hd3
      have tl4 : (upd H3 A.tl (.lst (ntab tlN N ++ [.int (r0 : Nat)]))) A.tl = some (.lst (ntab tlN (N ++ [Nd.c f r0]))) := by rw [upd_same, ← ntab_snoc]; rfl
      have wd4 : (upd H3 A.tl (.lst (ntab tlN N ++ [.int (r0 : Nat)]))) A.wd = some (.lst (ntab wdN N)) := by rw [upd_ne (Ne.symm x6)]; exact wd3
      have sp4 : (upd H3 A.tl (.lst (ntab tlN N ++ [.int (r0 : Nat)]))) A.sp = some (.dK ks) := by rw [upd_ne (Ne.symm x7)]; exact sp3
      have nw4 : (upd H3 A.tl (.lst (ntab tlN N ++ [.int (r0 : Nat)]))) A.nw = some (.dK kw) := by rw [upd_ne (Ne.symm x8)]; exact nw3
      have nl4 : (upd H3 A.tl (.lst (ntab tlN N ++ [.int (r0 : Nat)]))) A.nl = some (.dT (putK kvs (pairK f r0) (.int (N.length : Nat)))) := by rw [upd_ne (Ne.symm x9)]; exact nl3
      have k4 : Kp A.all H' (upd H3 A.tl (.lst (ntab tlN N ++ [.int (r0 : Nat)]))) := k3.setT tl3 mo_lst mo_lst (by simp [NA.all])
      generalize upd H3 A.tl (.lst (ntab tlN N ++ [.int (r0 : Nat)])) = H4 at no4 hd4 tl4 wd4 sp4 nw4 nl4 k4
      -- wordness
      refine ⟨_, rfl, _, _, _, _, _, rfl, no4, O.cl, O.no _ (by decide +kernel), lkN.2.2.1, .inl ⟨rfl, _, SqL.of wd4⟩, A.wd, _, _, rfl, rfl, wd4, sz (by rw [ntab_len]; exact Nat.le_refl _), ?_⟩
      refine ⟨N ++ [Nd.c f r0], N.length, .new wf (fun z => nomatch z) nw (fun g s e => by cases e; exact ⟨lf, lr0, nw0⟩), ⟨?_, ?_, ?_, ?_, ⟨ks, ?_, hs.other fun x z => nomatch z⟩, ⟨kw, ?_, hw.other fun x z => nomatch z⟩, ⟨_, ?_, hl.put nw⟩, nd1.nd⟩, k4.setT wd4 mo_lst mo_lst (by simp [NA.all]), rfl⟩
      · rw [upd_ne i3]; exact no4
      · rw [upd_ne x2]; exact hd4
      · rw [upd_ne x6]; exact tl4
      · rw [upd_same, ← ntab_snoc]; rfl
      · rw [upd_ne (Ne.symm x10)]; exact sp4
      · rw [upd_ne (Ne.symm x11)]; exact nw4
      · rw [upd_ne (Ne.symm x12)]; exact nl4
  · rintro σ2 H2 ⟨N', k, hp, nd2, k2, rfl⟩
    exact ⟨_, rfl, q N' k H2 hp nd2 k2⟩
end
end Og

namespace Og
open PySem PySem.Spec PyProof.Rows L2
section
variable {P : Program} {w : World} {K : PySem.W.Frag} {mg : Str → Option Value} {base : Heap}
def spNumWord (Cn : Addr) : Sp := fun vs H Q _ => ∃ (A : NA) (N : St0) (x : List Nat), vs = [.ref A.no, .str (tx x)] ∧ NdOK H Cn A N ∧ WF N ∧ N.length < 10000000 ∧
  ∀ (N' : St0) (k : Nat) (H' : Hp), Put N (Nd.w x) N' k → NdOK H' Cn A N' → Kp A.all H H' → Q (.int (k : Nat)) H'
theorem has_numWord {Cn : Addr} (O : OwnC K mg "Nodes" attrsN Cn) (D : MethAt K Cn "_number_of_word" "Nodes._number_of_word" s_Nodes_number_of_word p_Nodes_number_of_word) (B : Bn mg) (M : Mc mg) : HasM P w K mg base 1 Cn "_number_of_word" p_Nodes_number_of_word (spNumWord Cn) := by
  obtain ⟨fa, fd, F, me, hb⟩ := D.ex
  obtain ⟨_, M_EMPTY⟩ := M.EMPTY
  obtain ⟨_, M_YES⟩ := M.YES
  refine ⟨fa, fd, F.ok sc_Nodes_number_of_word (fun vs H Q E h => ?_) (fun cdv A outer s H vs Q E hr h => ?_), me, O.cl, hb⟩
  · obtain ⟨_, _, _, rfl, _⟩ := h
    rfl
  obtain ⟨A, N, x, rfl, nd1, wf, ln, q⟩ := h
  refine ⟨_, (pss_cons (ps_set (i := 2) sc_Nodes_number_of_word.nd rfl (.inl rfl) (pe_dget1 (hu_of hr) (pe_fld (pv 0) rfl) (pv 1) ⟨rfl, rfl, rfl, rfl⟩))
    (C8.pss_cut (ps_if (pt_cmpR op_isN (pv 2) pe_non (nomark _)) (pss_cons (ps_set (i := 2) sc_Nodes_number_of_word.nd rfl (.inl rfl) (pe_callB call_len_seq (by rfl) B.len PySem.boot_len (pa_cons (pe_fld (pv 0) rfl) pa_nil)))
      (pss_cons (ps_dput (hu_of hr) (pe_fld (pv 0) rfl) (pv 1) (pv 2) rfl)
      (pss_cons (ps_dput (hu_of hr) (pe_fld (pv 0) rfl) (pv 2) (pv 1) rfl)
      (pss_cons (ps_expr (pe_bm PySem.F.plainAttrs_list PySem.F.slot_list_append PySem.F.type_list_append mt_append (pe_fld (pv 0) rfl) (pa_cons (pe_glob (v := .int 0) rfl M_EMPTY ⟨_, rfl⟩) pa_nil)))
      (pss_cons (ps_expr (pe_bm PySem.F.plainAttrs_list PySem.F.slot_list_append PySem.F.type_list_append mt_append (pe_fld (pv 0) rfl) (pa_cons (pe_glob (v := .int 0) rfl M_EMPTY ⟨_, rfl⟩) pa_nil)))
      (pss_one (ps_expr (pe_bm PySem.F.plainAttrs_list PySem.F.slot_list_append PySem.F.type_list_append mt_append (pe_fld (pv 0) rfl) (pa_cons (pe_glob (v := .int 1) rfl M_YES ⟨_, rfl⟩) pa_nil))))))))) pss_nil)
    (pss_one (ps_ret (pv 2))))), ?_⟩
  obtain ⟨kw, ew, hw⟩ := nd1.nw
  refine ⟨_, rfl, _, _, _, _, _, rfl, nd1.no, O.cl, O.no _ (by decide +kernel), lkN.2.2.2.2.1, A.nw, rfl, .inl ⟨kw, .inl ew⟩, _, rfl, _, DGet.k (k := .inr (tx x)) ew, ?_⟩
  refine ⟨fun σ2 H2 => ∃ (N' : St0) (k : Nat), Put N (Nd.w x) N' k ∧ NdOK H2 Cn A N' ∧ Kp A.all H H2 ∧ σ2 = [some (.ref A.no), some (.str (tx x)), some (.int (k : Nat))], ?_, ?_⟩
  · by_cases old : ∃ i : Nat, N[i]? = some (Nd.w x)
    · obtain ⟨i, ei⟩ := old
      rw [hw.yes i x ei]
      refine ⟨_, rfl, rfl, _, rfl, ?_⟩
      rw [show decide ((some (V.int (i : Nat))).getD V.non = V.non) = false from decide_eq_false (fun z => nomatch z)]
      exact iteF ⟨N, i, .old wf ei, nd1, Kp.refl, rfl⟩
    · have nw : ∀ i : Nat, N[i]? ≠ some (Nd.w x) := fun i e => old ⟨i, e⟩
      rw [hw.no x nw]
      refine ⟨_, rfl, rfl, _, rfl, ?_⟩
      rw [show decide ((none : Option V).getD V.non = V.non) = true from decide_eq_true rfl]
      refine iteT ?_
      obtain ⟨x1, x2, x3, x4, x5, x6, x7, x8, x9, x10, x11, x12, x13, x14, x15⟩ := nd1.nes
      have nI := nd1.neI
      have i1 := nI A.hd (by simp [NA.all])
      have i2 := nI A.tl (by simp [NA.all])
      have i3 := nI A.wd (by simp [NA.all])
      have i4 := nI A.sp (by simp [NA.all])
      have i5 := nI A.nw (by simp [NA.all])
      obtain ⟨ks, es, hs⟩ := nd1.sp
      obtain ⟨kl, el, hl⟩ := nd1.nl
      have sz : ∀ {n : Nat}, n ≤ N.length → n < sizeLine := fun h => Nat.lt_of_le_of_lt (Nat.le_trans h (Nat.le_of_lt ln)) (by decide)
      refine ⟨_, rfl, _, _, _, _, _, rfl, nd1.no, O.cl, O.no _ (by decide +kernel), lkN.1, A.hd, _, rfl, .inl (SqL.of nd1.hd), ?_⟩
      rw [ntab_len]
      refine ⟨_, rfl, _, rfl, _, _, _, _, _, rfl, nd1.no, O.cl, O.no _ (by decide +kernel), lkN.2.2.2.2.1, _, rfl, A.nw, _, rfl, DPut.k (k := .inr (tx x)) ew (sz hw.len), ?_⟩
      have k0 : Kp A.all H H := Kp.refl
      have no1 : (upd H A.nw (.dK (putK kw (.inr (tx x)) (.int (N.length : Nat))))) A.no = some (.ins Cn A.dx (fldsN A)) := by rw [upd_ne i5]; exact nd1.no
      have hd1 : (upd H A.nw (.dK (putK kw (.inr (tx x)) (.int (N.length : Nat))))) A.hd = some (.lst (ntab hdN N)) := by rw [upd_ne x4]; exact nd1.hd
      have tl1 : (upd H A.nw (.dK (putK kw (.inr (tx x)) (.int (N.length : Nat))))) A.tl = some (.lst (ntab tlN N)) := by rw [upd_ne x8]; exact nd1.tl
      have wd1 : (upd H A.nw (.dK (putK kw (.inr (tx x)) (.int (N.length : Nat))))) A.wd = some (.lst (ntab wdN N)) := by rw [upd_ne x11]; exact nd1.wd
      have sp1 : (upd H A.nw (.dK (putK kw (.inr (tx x)) (.int (N.length : Nat))))) A.sp = some (.dK ks) := by rw [upd_ne x13]; exact es
      have nw1 : (upd H A.nw (.dK (putK kw (.inr (tx x)) (.int (N.length : Nat))))) A.nw = some (.dK (putK kw (.inr (tx x)) (.int (N.length : Nat)))) := upd_same
      have nl1 : (upd H A.nw (.dK (putK kw (.inr (tx x)) (.int (N.length : Nat))))) A.nl = some (.dT kl) := by rw [upd_ne (Ne.symm x15)]; exact el
      have k1 : Kp A.all H (upd H A.nw (.dK (putK kw (.inr (tx x)) (.int (N.length : Nat))))) := k0.setT ew mo_dK mo_dK (by simp [NA.all])
      generalize upd H A.nw (.dK (putK kw (.inr (tx x)) (.int (N.length : Nat)))) = H1 at no1 hd1 tl1 wd1 sp1 nw1 nl1 k1
      refine ⟨_, rfl, _, rfl, _, _, _, _, _, rfl, no1, O.cl, O.no _ (by decide +kernel), lkN.2.2.2.1, _, rfl, A.sp, _, rfl, DPut.k (k := .inl (N.length : Int)) sp1 (sz hs.len), ?_⟩
      have no2 : (upd H1 A.sp (.dK (putK ks (.inl (N.length : Int)) (.str (tx x))))) A.no = some (.ins Cn A.dx (fldsN A)) := by rw [upd_ne i4]; exact no1
      have hd2 : (upd H1 A.sp (.dK (putK ks (.inl (N.length : Int)) (.str (tx x))))) A.hd = some (.lst (ntab hdN N)) := by rw [upd_ne x3]; exact hd1
      have tl2 : (upd H1 A.sp (.dK (putK ks (.inl (N.length : Int)) (.str (tx x))))) A.tl = some (.lst (ntab tlN N)) := by rw [upd_ne x7]; exact tl1
      have wd2 : (upd H1 A.sp (.dK (putK ks (.inl (N.length : Int)) (.str (tx x))))) A.wd = some (.lst (ntab wdN N)) := by rw [upd_ne x10]; exact wd1
      have sp2 : (upd H1 A.sp (.dK (putK ks (.inl (N.length : Int)) (.str (tx x))))) A.sp = some (.dK (putK ks (.inl (N.length : Int)) (.str (tx x)))) := upd_same
      have nw2 : (upd H1 A.sp (.dK (putK ks (.inl (N.length : Int)) (.str (tx x))))) A.nw = some (.dK (putK kw (.inr (tx x)) (.int (N.length : Nat)))) := by rw [upd_ne (Ne.symm x13)]; exact nw1
      have nl2 : (upd H1 A.sp (.dK (putK ks (.inl (N.length : Int)) (.str (tx x))))) A.nl = some (.dT kl) := by rw [upd_ne (Ne.symm x14)]; exact nl1
      have k2 : Kp A.all H (upd H1 A.sp (.dK (putK ks (.inl (N.length : Int)) (.str (tx x))))) := k1.setT sp1 mo_dK mo_dK (by simp [NA.all])
      generalize upd H1 A.sp (.dK (putK ks (.inl (N.length : Int)) (.str (tx x)))) = H2 at no2 hd2 tl2 wd2 sp2 nw2 nl2 k2
      refine ⟨_, rfl, _, _, _, _, _, rfl, no2, O.cl, O.no _ (by decide +kernel), lkN.1, .inl ⟨rfl, _, SqL.of hd2⟩, A.hd, _, _, rfl, rfl, hd2, sz (by rw [ntab_len]; exact Nat.le_refl _), ?_⟩
      have no3 : (upd H2 A.hd (.lst (ntab hdN N ++ [.int 0]))) A.no = some (.ins Cn A.dx (fldsN A)) := by rw [upd_ne i1]; exact no2
      have hd3 : (upd H2 A.hd (.lst (ntab hdN N ++ [.int 0]))) A.hd = some (.lst (ntab hdN (N ++ [Nd.w x]))) := by rw [upd_same, ← ntab_snoc]; rfl
      have tl3 : (upd H2 A.hd (.lst (ntab hdN N ++ [.int 0]))) A.tl = some (.lst (ntab tlN N)) := by rw [upd_ne (Ne.symm x1)]; exact tl2
      have wd3 : (upd H2 A.hd (.lst (ntab hdN N ++ [.int 0]))) A.wd = some (.lst (ntab wdN N)) := by rw [upd_ne (Ne.symm x2)]; exact wd2
      have sp3 : (upd H2 A.hd (.lst (ntab hdN N ++ [.int 0]))) A.sp = some (.dK (putK ks (.inl (N.length : Int)) (.str (tx x)))) := by rw [upd_ne (Ne.symm x3)]; exact sp2
      have nw3 : (upd H2 A.hd (.lst (ntab hdN N ++ [.int 0]))) A.nw = some (.dK (putK kw (.inr (tx x)) (.int (N.length : Nat)))) := by rw [upd_ne (Ne.symm x4)]; exact nw2
      have nl3 : (upd H2 A.hd (.lst (ntab hdN N ++ [.int 0]))) A.nl = some (.dT kl) := by rw [upd_ne (Ne.symm x5)]; exact nl2
      have k3 : Kp A.all H (upd H2 A.hd (.lst (ntab hdN N ++ [.int 0]))) := k2.setT hd2 mo_lst mo_lst (by simp [NA.all])
      generalize upd H2 A.hd (.lst (ntab hdN N ++ [.int 0])) = H3 at no3 hd3 tl3 wd3 sp3 nw3 nl3 k3
      refine ⟨_, rfl, _, _, _, _, _, rfl, no3, O.cl, O.no _ (by decide +kernel), lkN.2.1, .inl ⟨rfl, _, SqL.of tl3⟩, A.tl, _, _, rfl, rfl, tl3, sz (by rw [ntab_len]; exact Nat.le_refl _), ?_⟩
      have no4 : (upd H3 A.tl (.lst (ntab tlN N ++ [.int 0]))) A.no = some (.ins Cn A.dx (fldsN A)) := by rw [upd_ne i2]; exact no3
      have hd4 : (upd H3 A.tl (.lst (ntab tlN N ++ [.int 0]))) A.hd = some (.lst (ntab hdN (N ++ [Nd.w x]))) := by rw [upd_ne x1]; exact hd3
      have tl4 : (upd H3 A.tl (.lst (ntab tlN N ++ [.int 0]))) A.tl = some (.lst (ntab tlN (N ++ [Nd.w x]))) := by rw [upd_same, ← ntab_snoc]; rfl
      have wd4 : (upd H3 A.tl (.lst (ntab tlN N ++ [.int 0]))) A.wd = some (.lst (ntab wdN N)) := by rw [upd_ne (Ne.symm x6)]; exact wd3
      have sp4 : (upd H3 A.tl (.lst (ntab tlN N ++ [.int 0]))) A.sp = some (.dK (putK ks (.inl (N.length : Int)) (.str (tx x)))) := by rw [upd_ne (Ne.symm x7)]; exact sp3
      have nw4 : (upd H3 A.tl (.lst (ntab tlN N ++ [.int 0]))) A.nw = some (.dK (putK kw (.inr (tx x)) (.int (N.length : Nat)))) := by rw [upd_ne (Ne.symm x8)]; exact nw3
      have nl4 : (upd H3 A.tl (.lst (ntab tlN N ++ [.int 0]))) A.nl = some (.dT kl) := by rw [upd_ne (Ne.symm x9)]; exact nl3
      have k4 : Kp A.all H (upd H3 A.tl (.lst (ntab tlN N ++ [.int 0]))) := k3.setT tl3 mo_lst mo_lst (by simp [NA.all])
      generalize upd H3 A.tl (.lst (ntab tlN N ++ [.int 0])) = H4 at no4 hd4 tl4 wd4 sp4 nw4 nl4 k4
      refine ⟨_, rfl, _, _, _, _, _, rfl, no4, O.cl, O.no _ (by decide +kernel), lkN.2.2.1, .inl ⟨rfl, _, SqL.of wd4⟩, A.wd, _, _, rfl, rfl, wd4, sz (by rw [ntab_len]; exact Nat.le_refl _), ?_⟩
      refine ⟨N ++ [Nd.w x], N.length, .new wf (fun z => nomatch z) nw (fun g s e => by cases e), ⟨?_, ?_, ?_, ?_, ⟨_, ?_, hs.put⟩, ⟨_, ?_, hw.put nw⟩, ⟨kl, ?_, hl.other fun f r z => nomatch z⟩, nd1.nd⟩, k4.setT wd4 mo_lst mo_lst (by simp [NA.all]), rfl⟩
      · rw [upd_ne i3]; exact no4
      · rw [upd_ne x2]; exact hd4
      · rw [upd_ne x6]; exact tl4
      · rw [upd_same, ← ntab_snoc]; rfl
      · rw [upd_ne (Ne.symm x10)]; exact sp4
      · rw [upd_ne (Ne.symm x11)]; exact nw4
      · rw [upd_ne (Ne.symm x12)]; exact nl4
  · rintro σ2 H2 ⟨N', k, hp, nd2, k2, rfl⟩
    exact ⟨_, rfl, q N' k H2 hp nd2 k2⟩
end
end Og

namespace Og
open PySem PySem.Spec PyProof.Rows L2
/-! ### the parts of a tree: each list behind its items -/
mutual
def post : Tree → List Tree
  | .w x => [.w x]
  | .l ts => posts ts ++ [.l ts]
def posts : List Tree → List Tree
  | [] => []
  | t :: ts => post t ++ posts ts
end
theorem posts_app : ∀ (a b : List Tree), posts (a ++ b) = posts a ++ posts b
  | [], b => by rw [List.nil_append, posts, List.nil_append]
  | t :: a, b => by rw [List.cons_append, posts, posts, posts_app a b, List.append_assoc]
mutual
theorem post_len : ∀ t : Tree, (post t).length = t.size
  | .w x => by rw [post, size_w]; rfl
  | .l ts => by rw [post, size_l, List.length_append, posts_len ts]; rfl
theorem posts_len : ∀ ts : List Tree, (posts ts).length = sizes ts
  | [] => by rw [posts, sizes_nil]; rfl
  | t :: ts => by rw [posts, sizes_cons, List.length_append, post_len t, posts_len ts]
end
theorem trs_rev {K : PySem.W.Frag} {H : Hp} : ∀ {vs : List V} {ts : List Tree}, Trs K H vs ts → Trs K H vs.reverse ts.reverse
  | vs, [], h => by rw [h.nil]; exact trs_nil
  | vs, t :: ts, h => by
    obtain ⟨v, r, rfl, h1, h2⟩ := h.cons
    rw [List.reverse_cons, List.reverse_cons]
    exact (trs_rev h2).append (Trs.one h1)
section
variable {P : Program} {w : World} {K : PySem.W.Frag} {mg : Str → Option Value} {base : Heap}
def spParts (K : PySem.W.Frag) : Sp := fun vs H Q _ => ∃ (v : V) (t : Tree), vs = [v] ∧ Tr K H v t ∧ t.size ≤ 1000000 ∧ ∀ (L : Addr) (ps : List V) (H' : Hp), H L = none → H' L = some (.lst ps) → Trs K H' ps (post t).reverse → Keep [] H H' → Q (.ref L) H'
theorem has_parts (D : DefAt K mg "_parts_of" s_parts_of p_parts_of) (B : Bn mg) : Has P w K mg base 1 "_parts_of" p_parts_of (spParts K) := by
  obtain ⟨f, fd, F, hm, hb⟩ := D.ex
  refine ⟨f, fd, F.ok sc_parts_of (fun vs H Q E h => ?_) (fun cdv A outer s H vs Q E hr h => ?_), hm, F.kp, hb⟩
  · obtain ⟨_, _, rfl, _⟩ := h
    rfl
  obtain ⟨v, t, rfl, tv, sz, q⟩ := h
  refine ⟨_, (pss_cons (ps_set (i := 1) sc_parts_of.nd rfl (.inl rfl) (pe_lst pa_nil))
    (pss_cons (ps_set (i := 2) sc_parts_of.nd rfl (.inl rfl) (pe_lst (pa_cons (pv 0) pa_nil)))
    (pss_cons (ps_while PassesOwn.never (pt_truth (pv 2) (by intro _; rfl)) (pss_cons (ps_set (i := 3) sc_parts_of.nd rfl (.inl rfl) (pe_bm0 PySem.F.plainAttrs_list PySem.F.slot_list_pop PySem.F.type_list_pop mt_pop (pv 2)))
      (pss_cons (ps_expr (pe_bm PySem.F.plainAttrs_list PySem.F.slot_list_append PySem.F.type_list_append mt_append (pv 1) (pa_cons (pv 3) pa_nil)))
      (pss_one (ps_if (pt_val (pe_callB call_isi (by rfl) B.isinstance (by decide +kernel) (pa_cons (pv 3) (pa_cons (pe_bltn (v := .ty "tuple") rfl B.tuple (by decide +kernel) rfl) pa_nil)))) (pss_one (ps_expr (pe_bm PySem.F.plainAttrs_list PySem.F.slot_list_extend PySem.F.type_list_extend mt_extendT (pv 2) (pa_cons (pv 3) pa_nil)))) pss_nil)))))
    (pss_one (ps_ret (pv 1)))))), ?_⟩
  refine ⟨by show (0 : Nat) ≤ sizeLine; decide, fun L nL => ?_⟩
  have eL0 : (upd H L (.lst [])) L = some (.lst []) := upd_same
  have k0 : Keep [] H (upd H L (.lst [])) := Keep.new nL
  generalize upd H L (.lst []) = H1 at eL0 k0
  refine ⟨_, rfl, by show (1 : Nat) ≤ sizeLine; decide, fun W nW => ?_⟩
  have eW0 : (upd H1 W (.lst [v])) W = some (.lst [v]) := upd_same
  have k1 : Keep [] H1 (upd H1 W (.lst [v])) := Keep.new nW
  have LW : L ≠ W := ne_of_none eL0 nW
  have eL1 := k1.same _ _ eL0
  have nW0 : H W = none := k0.free nW
  generalize upd H1 W (.lst [v]) = H2 at eW0 k1 eL1
  have tv2 := (tv.keep k0).keep k1
  have k02 := k0.trans k1
  obtain ⟨IV, hIV⟩ : ∃ IV : Nat → L2.St → Hp → Prop, IV = fun m σ H' => ∃ (y3 : Option V) (ps ws : List V) (us pt : List Tree), σ = [some v, some (.ref L), some (.ref W), y3] ∧ m = sizes us ∧ Keep [] H H' ∧ H' L = some (.lst ps) ∧ H' W = some (.lst ws) ∧ Trs K H' ps pt ∧ Trs K H' ws us ∧ (post t).reverse = pt ++ (posts us).reverse := ⟨_, rfl⟩
  refine ⟨IV, ⟨sizes [t], ?_⟩, fun m σ H3 pw => ?_⟩
  · rw [hIV]
    refine ⟨none, [], [v], [t], [], rfl, rfl, k02, eL1, eW0, trs_nil, Trs.one tv2, ?_⟩
    rw [posts, posts, List.append_nil, List.nil_append]
  rw [hIV] at pw
  obtain ⟨y3, ps, ws, us, pt, rfl, rfl, k3, eL, eW, rp, rw', eq⟩ := pw
  have tot : pt.length + sizes us = t.size := by
    have := congrArg List.length eq
    rw [List.length_append, List.length_reverse, List.length_reverse, post_len, posts_len] at this
    omega
  refine ⟨_, rfl, _, tru_list eW, ?_⟩
  by_cases hne : us = []
  · subst hne
    rw [rw'.nil] at eW ⊢
    refine iteF ?_
    refine ⟨_, rfl, q L ps H3 nL eL ?_ k3⟩
    rw [eq, posts, List.reverse_nil, List.append_nil]
    exact rp
  obtain ⟨us', u, rfl⟩ := snoc_of hne
  obtain ⟨ws', x, rfl, rw2, tx1⟩ := rw'.snoc
  have b0 : (!(ws' ++ [x]).isEmpty) = true := by cases ws' <;> rfl
  rw [b0]
  have su : sizes (us' ++ [u]) = sizes us' + u.size := by rw [sizes_app, sizes_cons, sizes_nil]; omega
  refine iteT ⟨fun σ' H' => ∃ m', m' < sizes (us' ++ [u]) ∧ IV m' σ' H', fun _ _ h => h, ?_⟩
  refine ⟨_, rfl, .inl ⟨rfl, _, SqL.of eW⟩, W, _, _, rfl, rfl, eW, last_get _ _, ?_⟩
  rw [List.dropLast_concat]
  have kk : Keep [W] H3 (upd H3 W (.lst ws')) := Keep.set eW (List.mem_cons_self ..)
  have eW4 : (upd H3 W (.lst ws')) W = some (.lst ws') := upd_same
  have eL4 : (upd H3 W (.lst ws')) L = some (.lst ps) := by rw [upd_ne LW]; exact eL
  generalize upd H3 W (.lst ws') = H4 at kk eW4 eL4
  have k4 : Keep [] H H4 := (k3.cons.trans kk).drop nW0
  have pl := rp.length
  have usz := size_pos u
  refine ⟨_, rfl, .inl ⟨rfl, _, SqL.of eL4⟩, _, rfl, L, _, _, rfl, rfl, eL4, Nat.lt_of_le_of_lt (show ps.length ≤ 1000000 by omega) (by decide), ?_⟩
  have kk5 : Keep [L] H4 (upd H4 L (.lst (ps ++ [x]))) := Keep.set eL4 (List.mem_cons_self ..)
  have eL5 : (upd H4 L (.lst (ps ++ [x]))) L = some (.lst (ps ++ [x])) := upd_same
  have eW5 : (upd H4 L (.lst (ps ++ [x]))) W = some (.lst ws') := by rw [upd_ne (Ne.symm LW)]; exact eW4
  generalize upd H4 L (.lst (ps ++ [x])) = H5 at kk5 eL5 eW5
  have k5 : Keep [] H H5 := (k4.cons.trans kk5).drop nL
  have tx5 := (tx1.keep kk).keep kk5
  have rp5 := ((rp.keep kk).keep kk5).append (Trs.one tx5)
  have rw5 := (rw2.keep kk).keep kk5
  obtain ⟨ty, uu, q1, q2, q3⟩ := isi_tup tx5
  refine ⟨_, rfl, _, _, ty, uu, _, rfl, q1, q2, q3, _, rfl, ?_⟩
  have wl := rw5.length
  have ul := len_sizes us'
  cases u with
  | w c =>
    refine iteF ?_
    refine ⟨sizes us', by omega, ?_⟩
    rw [hIV]
    refine ⟨_, _, _, us', pt ++ [.w c], rfl, rfl, k5, eL5, eW5, rp5, rw5, ?_⟩
    rw [eq, posts_app, List.reverse_append, List.append_assoc]
    rw [posts, posts, List.append_nil, post]
    rfl
  | l ts =>
    refine iteT ?_
    obtain ⟨ax, wx, rfl, hX, trx⟩ := tx5.list
    have lx := trx.length
    have ll := len_sizes ts
    rw [size_l] at su
    refine ⟨_, rfl, .inl ⟨rfl, _, SqL.of eW5⟩, _, rfl, W, ax, ws', wx, rfl, rfl, eW5, hX, Nat.le_trans (show ws'.length + wx.length ≤ 2000000 by omega) (by decide), ?_⟩
    have kk6 : Keep [W] H5 (upd H5 W (.lst (ws' ++ wx))) := Keep.set eW5 (List.mem_cons_self ..)
    refine ⟨sizes (us' ++ ts), by rw [sizes_app]; omega, ?_⟩
    rw [hIV]
    refine ⟨_, _, _, us' ++ ts, pt ++ [.l ts], rfl, rfl, (k5.cons.trans kk6).drop nW0, by rw [upd_ne LW]; exact eL5, upd_same, rp5.keep kk6, (rw5.keep kk6).append (trx.keep kk6), ?_⟩
    rw [eq, posts_app, posts_app, List.reverse_append, List.reverse_append, List.append_assoc]
    rw [posts, posts, List.append_nil, post, List.reverse_append]
    rfl
end
end Og

namespace Og
open PySem PySem.Spec PyProof.Rows L2
/-! ### number_of -/
/-- the stack of values along the parts, up to the last one -/
def okB : List Tree → List Tree → List Tree → Prop
  | s, [], fin => s = fin
  | s, .w x :: r, fin => okB (s ++ [.w x]) r fin
  | s, .l ts :: r, fin => ∃ s0, s = s0 ++ ts ∧ okB (s0 ++ [.l ts]) r fin
mutual
theorem okB_post : ∀ (t : Tree) (s r fin : List Tree), okB (s ++ [t]) r fin → okB s (post t ++ r) fin
  | .w x, s, r, fin, h => by rw [post]; exact h
  | .l ts, s, r, fin, h => by
    rw [post, List.append_assoc]
    exact okB_posts ts s _ fin ⟨s, rfl, h⟩
theorem okB_posts : ∀ (ts : List Tree) (s r fin : List Tree), okB (s ++ ts) r fin → okB s (posts ts ++ r) fin
  | [], s, r, fin, h => by rw [posts]; rw [List.append_nil] at h; exact h
  | t :: ts, s, r, fin, h => by
    rw [posts, List.append_assoc]
    refine okB_post t s _ fin (okB_posts ts _ r fin ?_)
    rw [List.append_assoc]
    exact h
end
theorem okB_tree (t : Tree) : okB [] (post t) [t] := by
  have := okB_post t [] [] [t] rfl
  rw [List.append_nil] at this
  exact this
def cst : Tree → Nat
  | .w _ => 1
  | .l ts => ts.length
def csts : List Tree → Nat
  | [] => 0
  | t :: r => cst t + csts r
theorem csts_app : ∀ (a b : List Tree), csts (a ++ b) = csts a + csts b
  | [], b => by rw [List.nil_append, csts, Nat.zero_add]
  | t :: a, b => by rw [List.cons_append, csts, csts, csts_app a b]; omega
mutual
theorem cst_post : ∀ t : Tree, csts (post t) + 1 ≤ 2 * t.size
  | .w x => by rw [post, size_w]; show 1 + 0 + 1 ≤ 2 * 1; decide
  | .l ts => by
    have := cst_posts ts
    rw [post, csts_app, size_l]
    show csts (posts ts) + (ts.length + 0) + 1 ≤ _
    omega
theorem cst_posts : ∀ ts : List Tree, csts (posts ts) + ts.length ≤ 2 * sizes ts
  | [] => by rw [posts, sizes_nil]; decide
  | t :: ts => by
    have a := cst_post t
    have b := cst_posts ts
    rw [posts, csts_app, sizes_cons, List.length_cons]
    omega
end
def vints (ds : List Nat) : List V := ds.map fun d => V.int (d : Nat)
theorem vints_app (a b : List Nat) : vints (a ++ b) = vints a ++ vints b := List.map_append ..
theorem vints_len (a : List Nat) : (vints a).length = a.length := List.length_map ..
section
variable {P : Program} {w : World} {K : PySem.W.Frag} {mg : Str → Option Value} {base : Heap}
def spNumberOf (K : PySem.W.Frag) (Cn : Addr) : Sp := fun vs H Q _ => ∃ (A : NA) (N : St0) (v : V) (t : Tree), vs = [.ref A.no, v] ∧ NdOK H Cn A N ∧ WF N ∧ Tr K H v t ∧ t.size ≤ 1000000 ∧ N.length + 2 * t.size ≤ 9000000 ∧
  ∀ (N' : St0) (k : Nat) (H' : Hp), WF N' → Ext N N' → N'.length ≤ N.length + 2 * t.size → Den N' k t → NdOK H' Cn A N' → Kp A.all H H' → Q (.int (k : Nat)) H'
theorem has_numberOf {Cn : Addr} (O : OwnC K mg "Nodes" attrsN Cn) (D : MethAt K Cn "number_of" "Nodes.number_of" s_Nodes_number_of p_Nodes_number_of) (B : Bn mg) (M : Mc mg)
    (c1 : HasM P w K mg base 1 Cn "joined" p_Nodes_joined (spJoined Cn)) (c2 : HasM P w K mg base 1 Cn "_number_of_word" p_Nodes_number_of_word (spNumWord Cn)) (c3 : Has P w K mg base 1 "_parts_of" p_parts_of (spParts K)) :
    HasM P w K mg base 2 Cn "number_of" p_Nodes_number_of (spNumberOf K Cn) := by
  obtain ⟨fa, fd, F, me, hb⟩ := D.ex
  obtain ⟨_, _, m_Nodes_joined⟩ := c1
  obtain ⟨_, _, m_Nodes_number_of_word⟩ := c2
  obtain ⟨_, _, c_parts_of⟩ := c3
  obtain ⟨_, M_EMPTY⟩ := M.EMPTY
  refine ⟨fa, fd, F.ok sc_Nodes_number_of (fun vs H Q E h => ?_) (fun cdv A outer s H vs Q E hr h => ?_), me, O.cl, hb⟩
  · obtain ⟨_, _, _, _, rfl, _⟩ := h
    rfl
  obtain ⟨A, N, v, t, rfl, nd, wf, tv, sz, cap, q⟩ := h
  refine ⟨_, (pss_cons (ps_set (i := 2) sc_Nodes_number_of.nd rfl (.inl rfl) (pe_lst pa_nil))
    (pss_cons (ps_for PassesOwn.never rfl (RT.pi_revA (by rfl) B.reversed (cal c_parts_of hr rfl (pa_cons (pv 1) pa_nil))) (pg_name (i := 3) sc_Nodes_number_of.nd rfl (.inl rfl))
      (pss_one (ps_if (pt_val (pe_callB call_isi (by rfl) B.isinstance (by decide +kernel) (pa_cons (pv 3) (pa_cons (pe_bltn (v := .ty "str") rfl B.str (by decide +kernel) rfl) pa_nil)))) (pss_one (ps_expr (pe_bm PySem.F.plainAttrs_list PySem.F.slot_list_append PySem.F.type_list_append mt_append (pv 2) (pa_cons (calM m_Nodes_number_of_word hr (pv 0) (pa_cons (pv 3) pa_nil)) pa_nil)))) (pss_cons (ps_set (i := 4) sc_Nodes_number_of.nd rfl (.inl rfl) (pe_glob (v := .int 0) rfl M_EMPTY ⟨_, rfl⟩))
        (pss_cons (ps_for PassesOwn.never rfl (pi_tup (pv 3)) (pg_name (i := 5) sc_Nodes_number_of.nd rfl (.inl rfl))
          (pss_one (ps_set (i := 4) sc_Nodes_number_of.nd rfl (.inl rfl) (calM m_Nodes_joined hr (pv 0) (pa_cons (pe_bm0 PySem.F.plainAttrs_list PySem.F.slot_list_pop PySem.F.type_list_pop mt_pop (pv 2)) (pa_cons (pv 4) pa_nil))))))
        (pss_one (ps_expr (pe_bm PySem.F.plainAttrs_list PySem.F.slot_list_append PySem.F.type_list_append mt_append (pv 2) (pa_cons (pv 4) pa_nil)))))))))
    (pss_one (ps_ret (pe_ix ix_list (pv 2) pe_int (fun _ _ => rfl)))))), ?_⟩
  refine ⟨by show (0 : Nat) ≤ sizeLine; decide, fun Dn nD => ?_⟩
  have eD0 : (upd H Dn (.lst [])) Dn = some (.lst []) := upd_same
  have k0 : Kp [] H (upd H Dn (.lst [])) := Kp.new nD
  have nd0 := nd.new (o := .lst []) nD
  have dA := nd.ne nD
  generalize upd H Dn (.lst []) = H1 at eD0 k0 nd0
  refine ⟨_, rfl, v, t, rfl, tv.kp k0, sz, fun L ps H2 nL eL rp k1 => ?_⟩
  have eD1 := k1.same _ _ eD0
  have nd1 := nd0.kp0 (Kp.of k1)
  have LD : L ≠ Dn := Ne.symm (ne_of_none eD0 nL)
  have lA := nd0.ne nL
  have lps : ps.length = (post t).length := by have := rp.length; rwa [List.length_reverse] at this
  have tsz := size_pos t
  have pl := post_len t
  have cp := cst_post t
  refine ⟨L, ps, rfl, .inl ⟨SqL.of eL, ?_⟩⟩
  refine RT.for_Itv (K := K) (a := L) (xs := ps) (fun i σ H' => ∃ (y3 y4 y5 : Option V) (N' : St0) (s : List Tree) (ds : List Nat), σ = [some (.ref A.no), some v, some (.ref Dn), y3, y4, y5] ∧ okB s ((post t).drop i) [t] ∧ NdOK H' Cn A N' ∧ WF N' ∧ Ext N N' ∧
    N'.length + csts ((post t).drop i) ≤ N.length + csts (post t) ∧ H' Dn = some (.lst (vints ds)) ∧ Paired (Den N') ds s ∧ Kp (Dn :: A.all) H2 H' ∧ s.length ≤ i)
    ⟨none, none, none, N, [], [], rfl, okB_tree t, nd1, wf, .refl N, by rw [List.drop_zero]; exact Nat.le_refl _, eD1, .nil, Kp.refl, Nat.le_refl _⟩ (fun i σ H' pw => ?_) (fun i x σ H3 hi hx pw => ?_) (fun σ H' pw => ?_)
  · obtain ⟨_, _, _, _, _, _, _, _, _, _, _, _, _, _, kk, _⟩ := pw
    refine kk.sqL ?_ (SqL.of eL)
    intro m
    rcases List.mem_cons.mp m with e | m
    · exact LD e
    · exact lA.2 _ m rfl
  · obtain ⟨y3, y4, y5, N', s, ds, rfl, ok, nd3, wf3, ex3, cap3, eD3, pd, kk, sl⟩ := pw
    have il : i < (post t).length := by omega
    have hg : (post t)[i]? = some (post t)[i] := List.getElem?_eq_getElem il
    have hr2 : (post t).reverse[ps.length - 1 - i]? = some (post t)[i] := by
      rw [List.getElem?_reverse (by omega), lps, show (post t).length - 1 - ((post t).length - 1 - i) = i by omega]
      exact hg
    obtain ⟨x', hx', tx0⟩ := rp.get hr2
    rw [hx] at hx'
    cases hx'
    have dr : (post t).drop i = (post t)[i] :: (post t).drop (i + 1) := List.drop_eq_getElem_cons il
    rw [dr] at ok cap3
    generalize (post t)[i] = u at hg hr2 tx0 dr ok cap3
    have tx := tx0.kp kk
    have sds := pr_len pd
    obtain ⟨ty, uu, q1, q2, q3⟩ := isi_str tx
    refine ⟨_, rfl, _, _, ty, uu, _, rfl, q1, q2, q3, _, rfl, ?_⟩
    have DA : Dn ∉ A.all := fun m => dA.2 _ m rfl
    cases u with
    | w c =>
      refine iteT ?_
      have ex := tx.word
      subst ex
      refine ⟨_, rfl, .inl ⟨rfl, _, SqL.of eD3⟩, _, rfl, A.no, A.dx, _, rfl, nd3.no, rfl, _, rfl, A, N', c, rfl, nd3, wf3, by omega, fun N2 k H4 hp nd4 k4 => ?_⟩
      have eD4 := k4.get eD3 DA
      refine ⟨Dn, _, _, rfl, rfl, eD4, Nat.lt_of_le_of_lt (show _ ≤ 1000000 by rw [vints_len]; omega) (by decide), ?_⟩
      have k5 : Kp [Dn] H4 (upd H4 Dn (.lst (vints ds ++ [.int (k : Nat)]))) := Kp.set eD4 mo_lst mo_lst (List.mem_cons_self ..)
      refine ⟨_, _, _, N2, s ++ [.w c], ds ++ [k], rfl, ok, nd4.kp k5 (fun m => dA.1 (List.mem_singleton.mp m).symm) (fun p m z => DA (by rw [← List.mem_singleton.mp z]; exact m)), hp.wf, ex3.trans hp.ext, ?_, ?_, pr_snoc (Dens.ext hp.ext pd) (.w hp.at_), kk.trans ((k4.mono fun _ m => List.mem_cons_of_mem _ m).trans (k5.mono fun _ m => by rw [List.mem_singleton.mp m]; exact List.mem_cons_self ..)), by rw [List.length_append, List.length_singleton]; omega⟩
      · have := hp.len
        show N2.length + _ ≤ _
        rw [csts] at cap3
        show N2.length + csts ((post t).drop (i + 1)) ≤ N.length + csts (post t)
        simp only [cst] at cap3
        omega
      · rw [upd_same, vints_app]; rfl
    | l ts =>
      refine iteF ?_
      obtain ⟨s0, es, ok2⟩ := ok
      subst es
      obtain ⟨ax, wx, rfl, hX, trx⟩ := tx.list
      have lx := trx.length
      have hs := pr_split s0.length pd
      rw [List.take_left' rfl, List.drop_left' rfl] at hs
      have eds : ds = ds.take s0.length ++ ds.drop s0.length := (List.take_append_drop ..).symm
      generalize ds.take s0.length = d0 at hs eds
      generalize ds.drop s0.length = d1 at hs eds
      subst eds
      obtain ⟨pd0, pd1⟩ := hs
      have l0 := pr_len pd0
      have l1 := pr_len pd1
      rw [csts] at cap3
      simp only [cst] at cap3
      refine ⟨_, rfl, ax, rfl, ⟨_, hX⟩, ?_⟩
      refine for_tup (K := K) (a := ax) (xs := wx) (fun j σ H' => ∃ (y5' : Option V) (N2 : St0) (k : Nat), σ = [some (.ref A.no), some v, some (.ref Dn), some (.ref ax), some (.int (k : Nat)), y5'] ∧ NdOK H' Cn A N2 ∧ WF N2 ∧ Ext N' N2 ∧ N2.length ≤ N'.length + j ∧
        H' Dn = some (.lst (vints (d0 ++ d1.take (ts.length - j)))) ∧ Den N2 k (.l (ts.drop (ts.length - j))) ∧ Kp (Dn :: A.all) H3 H')
        ⟨y5, N', 0, rfl, nd3, wf3, .refl _, Nat.le_refl _, by rw [Nat.sub_zero, ← l1, List.take_length]; exact eD3, by rw [Nat.sub_zero, List.drop_length]; exact .e wf3.z0, Kp.refl⟩ (fun j σ H' _ pw => ?_) (fun j z σ H4 hz pw => ?_) (fun σ H4 pw => ?_)
      · obtain ⟨_, _, _, _, _, _, _, _, _, _, k4⟩ := pw
        exact k4.sqT hX
      · obtain ⟨y5', N2, k, rfl, nd4, wf4, ex4, ln4, eD4, dk, k4⟩ := pw
        have jl : j < ts.length := by have := (List.getElem?_eq_some_iff.mp hz).1; omega
        -- done.pop()
        obtain ⟨m, hm⟩ : ∃ m, ts.length - j = m + 1 := ⟨ts.length - j - 1, by omega⟩
        have hm2 : ts.length - (j + 1) = m := by omega
        have ml : m < d1.length := by omega
        have tk : d1.take (m + 1) = d1.take m ++ [d1[m]] := by rw [List.take_add_one, List.getElem?_eq_getElem ml]; rfl
        have mt : m < ts.length := by omega
        have dd : Den N' d1[m] ts[m] := by
          obtain ⟨a, ea, da⟩ := pr_get pd1 (List.getElem?_eq_getElem mt)
          rw [List.getElem?_eq_getElem ml] at ea
          rw [Option.some.inj ea]; exact da
        rw [hm] at eD4 dk
        rw [tk, ← List.append_assoc, vints_app] at eD4
        refine ⟨_, rfl, A.no, A.dx, _, rfl, nd4.no, rfl, _, rfl, .inl ⟨rfl, _, SqL.of eD4⟩, Dn, _, _, rfl, rfl, eD4, last_get _ _, ?_⟩
        rw [show (vints (d0 ++ d1.take m) ++ vints [d1[m]]).dropLast = vints (d0 ++ d1.take m) from List.dropLast_concat]
        have k5 : Kp [Dn] H4 (upd H4 Dn (.lst (vints (d0 ++ d1.take m)))) := Kp.set eD4 mo_lst mo_lst (List.mem_cons_self ..)
        have eD5 : (upd H4 Dn (.lst (vints (d0 ++ d1.take m)))) Dn = some (.lst (vints (d0 ++ d1.take m))) := upd_same
        have nd5 := nd4.kp k5 (fun m => dA.1 (List.mem_singleton.mp m).symm) (fun p m z => DA (by rw [← List.mem_singleton.mp z]; exact m))
        generalize upd H4 Dn (.lst (vints (d0 ++ d1.take m))) = H5 at k5 eD5 nd5
        have d2 := dd.ext ex4
        refine ⟨_, rfl, A, N2, d1[m], k, rfl, nd5, wf4, d2.lt, dk.lt, by omega, fun N3 k3 H6 hp nd6 k6 => ?_⟩
        refine ⟨_, N3, k3, rfl, nd6, hp.wf, ex4.trans hp.ext, by have := hp.len; omega, ?_, ?_, k4.trans ((k5.mono fun _ m => by rw [List.mem_singleton.mp m]; exact List.mem_cons_self ..).trans (k6.mono fun _ m => List.mem_cons_of_mem _ m))⟩
        · rw [hm2]; exact k6.get eD5 DA
        · rw [hm2, List.drop_eq_getElem_cons mt]
          exact hp.join wf4 d2 dk
      · obtain ⟨y5', N2, k, rfl, nd4, wf4, ex4, ln4, eD4, dk, k4⟩ := pw
        rw [lx, Nat.sub_self] at eD4 dk
        rw [List.take_zero, List.append_nil] at eD4
        rw [List.drop_zero] at dk
        refine ⟨_, rfl, .inl ⟨rfl, _, SqL.of eD4⟩, _, rfl, Dn, _, _, rfl, rfl, eD4, Nat.lt_of_le_of_lt (show _ ≤ 1000000 by rw [vints_len]; rw [List.length_append] at sl; omega) (by decide), ?_⟩
        have k5 : Kp [Dn] H4 (upd H4 Dn (.lst (vints d0 ++ [.int (k : Nat)]))) := Kp.set eD4 mo_lst mo_lst (List.mem_cons_self ..)
        refine ⟨_, _, _, N2, s0 ++ [.l ts], d0 ++ [k], rfl, ok2, nd4.kp k5 (fun m => dA.1 (List.mem_singleton.mp m).symm) (fun p m z => DA (by rw [← List.mem_singleton.mp z]; exact m)), wf4, ex3.trans ex4, by omega, ?_, pr_snoc (Dens.ext ex4 pd0) dk, kk.trans (k4.trans (k5.mono fun _ m => by rw [List.mem_singleton.mp m]; exact List.mem_cons_self ..)), ?_⟩
        · rw [upd_same, vints_app]; rfl
        · rw [List.length_append] at sl ⊢
          rw [List.length_singleton]
          omega
  · obtain ⟨y3, y4, y5, N', s, ds, rfl, ok, nd3, wf3, ex3, cap3, eD3, pd, kk, sl⟩ := pw
    rw [lps, List.drop_length] at ok cap3
    have es : s = [t] := ok
    subst es
    cases pd with
    | cons dk pn =>
      cases pn
      rename_i k
      refine ⟨_, rfl, Dn, _, _, _, rfl, rfl, SqL.of eD3, atI_zero _ _, ?_⟩
      rw [csts] at cap3
      refine q N' k H' wf3 ex3 (by omega) dk nd3 ?_
      exact ((k0.mono (by simp)).trans ((Kp.of0 k1).trans kk)).drop nD
end
end Og

namespace Og
open PySem PySem.Spec PyProof.Rows L2
/-! ### a, *b = a tuple -/
theorem walks_rest {prog : Program} {w : World} {A : Around} (hh : A.handled = none) (I ax : Addr) (hne : ax ≠ I) (items : Array Value) {n : Nat} (hn : items.size = n + 1) :
    WalksS prog w A I [I, ax] [I] (fun a b => b = a) n (fun i v => items[i + 1]? = some v) (fun i s => s.heap.IsTupleIter I ax (i + 1) ∧ s.heap.IsTuple ax items) := by
  have W := (Walks.tuple (prog := prog) (w := w) hh I ax hne items).toS
  exact ⟨W.sub, W.grefl, W.gtrans, fun i => W.frame (i + 1), fun i s Q E hi st hQ => W.item (i + 1) s Q E (by omega) st hQ, fun s Q E st hQ => W.done s Q E (by rw [hn]; exact st) hQ, fun i => W.self (i + 1)⟩
theorem moved_as {s s' : Shared} {h1 : Heap} {a : Addr} (m : Moved [a] (fun a b => b = a) { s with heap := h1 } s') : ∃ h' tk, s' = { s with heap := h', toks := tk } ∧ (∀ b o, b ≠ a → h1.get? b = some o → h'.get? b = some o) := by
  refine ⟨s'.heap, s'.toks, ?_, fun b o hb e => m.heap b o (by simpa using hb) e⟩
  obtain ⟨hp, g, d, tk, os⟩ := s'
  have h1 : g = s.gens := m.gens
  have h2 : d = s.drawn := m.drawn
  have h3 : os = s.os := m.os
  subst h1
  subst h2
  subst h3
  rfl
def gStar (K : PySem.W.Frag) (t : TGs) : TG := fun v σ H Q => ∃ a x xs, v = .ref a ∧ SqT K H a (x :: xs) ∧ ∀ L, H L = none → t [x, .ref L] σ (upd H L (.lst xs)) Q
theorem pg_star {X : Cx} {e1 e2 : Expr} {k : Nat} {p pos : Pos} {t : TGs} (hc : X.calm = true) (h : PGs X [e1, e2] t)
    (hs : assignEach [e1, .Starred e2 p] X.env = [(false, assign e1 X.env), (true, assign e2 X.env)] := by rfl)
    (h2 : (assignEach [e1, e2] X.env).map (·.2) = [assign e1 X.env, assign e2 X.env] := by rfl) : PG X (.Tuple [e1, .Starred e2 p] k pos) (gStar X.K t) := by
  refine ⟨fun pins s σ H v u Q I r hw => ?_⟩
  obtain ⟨a, x, xs, e, hq, hw⟩ := hw
  subst e
  cases r
  obtain ⟨its, rv, ht, hz⟩ := I.tuple hq
  cases rv with
  | cons r1 rr =>
  rename_i u1 us
  have hh := I.ok.hd hc
  have ht' : s.heap.IsTuple a (u1 :: us).toArray := ht
  have hlt : a ≠ s.heap.objs.size := by obtain ⟨o, ho, _⟩ := ht'; exact Nat.ne_of_lt (Heap.lt_size ho)
  have lr := rr.length
  rw [PyProof.Rows.assign_Tuple, hs]
  refine wpAny_bind (wpAny_standAt ?_)
  unfold unpack
  show wpAny _ _ (holding [.ref a] (unpackItems (.ref a) 2 (some 1)) >>= fun vs => assignInOrder [assign e1 X.env, assign e2 X.env] vs) _ _ _
  refine wpAny_bind (wpAny_holding ?_)
  unfold unpackItems
  refine wpAny_bind ?_
  unfold notIterableAtAll
  refine wpAny_bind (wpAny_specialOf ht'.typeIs F.slot_tuple_iter.lookup ?_)
  refine wpAny_pure ?_
  simp only [Bool.false_eq_true, if_false]
  refine wpAny_bind (wpAny_holding (wpAny_pyIter_tuple ht' ?_))
  refine wpAny_bind (wpAny_holding (wpAny_draw_tuple hlt 1 0 _ _ ⟨_, Heap.get?_push_size _ rfl, rfl, rfl⟩ (ht'.push _) (by simp) fun h₁ hit₁ hs₁ => ?_))
  have ht₁ : h₁.IsTuple a (u1 :: us).toArray := (ht'.push _).extBut hs₁.extBut hlt
  show wpAny _ _ (if [u1].length < 1 then _ else _) _ _ _
  rw [if_neg (by simp)]
  refine wpAny_bind (wpAny_holding (wpAny_collect_iter (T := "tuple_iterator") (.inr (.inr (.inr rfl))) (walks_rest (A := X.A.in1) hh _ a hlt (u1 :: us).toArray (n := us.length) (by simp)) (fun i s st => st.1.typeIs) ⟨hit₁, ht₁⟩ (fun b hb => ?_) (List.mem_cons_self ..) (fun s' acc m io => ?_) (by rw [← lr]; exact Nat.le_trans (Nat.le_succ _) hz)))
  · rcases List.mem_cons.mp hb with rfl | hb
    · obtain ⟨o, ho, _⟩ := hit₁; exact Heap.lt_size ho
    · rcases List.mem_cons.mp hb with rfl | hb
      · obtain ⟨o, ho, _⟩ := ht₁; exact Heap.lt_size ho
      · cases hb
  have eacc : acc.toList = us := by
    refine List.ext_getElem? fun j => ?_
    rcases Nat.lt_or_ge j us.length with l | l
    · have hj : acc[j]? = some (acc[j]'(by rw [io.1]; exact l)) := by simp [io.1, l]
      have := io.2 j _ hj
      rw [Array.getElem?_toList, hj, ← this]
      simp
    · rw [List.getElem?_eq_none (by simpa [io.1] using l), List.getElem?_eq_none l]
  rw [eacc]
  obtain ⟨h', tk, rfl, hk⟩ := moved_as m
  dsimp only
  rw [if_neg (by simp)]
  rw [show us.length - (2 - 1 - 1) = us.length by omega, List.take_length, List.drop_length]
  have I1 : Inv X pins σ H { s with heap := h', toks := tk } := I.kept fun b o e => hk b o (Nat.ne_of_lt (Heap.lt_size e)) (hs₁.extBut b o (Nat.ne_of_lt (Heap.lt_size e)) (Heap.get?_push_of_some _ e))
  have lu : us.length ≤ sizeLine := by rw [← lr]; exact Nat.le_trans (Nat.le_succ _) hz
  refine wpAny_bind (wpAny_newObj_type ?_ (by show us.toArray.size ≤ sizeLine; rw [List.size_toArray]; exact lu))
  refine wpAny_pure ?_
  have hf : H h'.objs.size = none := I1.hok.fresh (Nat.le_refl _)
  have I2 := I1.laid (t' := tk) (o := .lst xs) (fun b u e => Heap.get?_push_of_some _ e) (Nat.le_refl _) ⟨by rw [lr]; exact lu, us, 0, rr, Heap.get?_push_size _ rfl⟩
  have hr := h.run pins _ σ _ [x, .ref h'.objs.size] [u1, .ref h'.objs.size] Q I2 (.cons r1 (.cons rfl .nil)) (hw _ hf)
  rw [h2] at hr
  exact hr
end Og

namespace Og
open PySem PySem.Spec PyProof.Rows L2
/-! ### x in a list or tuple of trees, as deep as there is room -/
def rInTm (K : PySem.W.Frag) (n : Nat) (neg : Bool) : R2 := fun x y H Q => ∃ (t : Tree) (p : Addr) (xs : List V) (us : List Tree), Tr K H x t ∧ y = .ref p ∧ (SqL K H p xs ∨ SqT K H p xs) ∧ Trs K H xs us ∧ (∀ u ∈ us, min (td u) (td t) ≤ n) ∧ ∀ b : Bool, (b = true ↔ t ∈ us) → Q (.bl (if neg then !b else b)) H
section
variable {X : Cx} {pins : List (Addr × Obj)} {σ : L2.St} {H : Hp} {s : Shared}
open Classical in
noncomputable def eqTv (K : PySem.W.Frag) (H : Hp) (t : Tree) (u : Value) : Bool := decide (∃ z, L2.RelV z u ∧ Tr K H z t)
open Classical in
theorem eqTv_of (I : L2.Inv X pins σ H s) {t t' : Tree} {z : V} {u : Value} (r : L2.RelV z u) (h : Tr X.K H z t') : eqTv X.K H t u = decide (t' = t) := by
  unfold eqTv
  by_cases e : t' = t
  · subst e
    rw [decide_eq_true rfl, decide_eq_true ⟨z, r, h⟩]
  · rw [decide_eq_false e]
    exact decide_eq_false fun ⟨z', r', h'⟩ => e (tr_uniq I (td t') t' t z z' u (Nat.le_refl _) h h' r r')
open Classical in
theorem items_any (I : L2.Inv X pins σ H s) {t : Tree} : ∀ {xs : List V} {its : List Value} {us : List Tree}, L2.Vals xs its → Trs X.K H xs us → its.any (eqTv X.K H t) = decide (t ∈ us)
  | _, _, us, .nil, h => by
    cases us with
    | nil => simp
    | cons u us => obtain ⟨_, _, e, _⟩ := h.cons; cases e
  | _, _, us, .cons r rr, h => by
    cases us with
    | nil => have := h.nil; cases this
    | cons u us =>
      obtain ⟨_, _, e, h1, h2⟩ := h.cons
      cases e
      rw [List.any_cons, eqTv_of I r h1, items_any I rr h2]
      by_cases e : u = t
      · subst e; simp
      · rw [decide_eq_false e, Bool.false_or]
        have e2 : ¬ t = u := fun z => e z.symm
        simp [e2]
open Classical in
theorem items_eq (I : L2.Inv X pins σ H s) {n : Nat} {t : Tree} {x : V} {v : Value} {A : Around} (hx : Tr X.K H x t) (rx : L2.RelV x v) (hn : A.units + n < cLine) : ∀ {xs : List V} {its : List Value} {us : List Tree}, L2.Vals xs its → Trs X.K H xs us → (∀ u ∈ us, min (td u) (td t) ≤ n) → ∀ y ∈ its, SeqAt.EqAt A s y v (eqTv X.K H t y)
  | _, _, us, .nil, h, _ => fun y m => absurd m (List.not_mem_nil)
  | _, _, us, .cons r rr, h, d => fun y m => by
    cases us with
    | nil => have := h.nil; cases this
    | cons u us =>
      obtain ⟨_, _, e, h1, h2⟩ := h.cons
      cases e
      rcases List.mem_cons.mp m with rfl | m
      · rw [eqTv_of I r h1]
        exact (eq_treesM I n u t _ x _ v A _ (d u (List.mem_cons_self ..)) decide_eq_true_iff h1 hx r rx hn).1
      · exact items_eq I hx rx hn rr h2 (fun u m => d u (List.mem_cons_of_mem _ m)) y m
open Classical in
theorem op_inTm {n : Nat} (hn : X.A.units + (n + 1) < cLine) : OpR X (compareOp .In) (rInTm X.K n false) := by
  intro pins s σ H x y v u Q I rx ry h
  obtain ⟨t, p, xs, us, hx, rfl, hq, r, d, q⟩ := h
  cases ry
  rcases hq with hq | hq
  · obtain ⟨its, rv, pl, hz⟩ := I.list hq
    refine SeqAt.in_listAt (eqTv X.K H t) pl.isList (fun w hw => items_eq I hx rx (by rw [Around.in1_units]; omega) rv r d w (by simpa using hw)) ⟨.bl _, H, I, rfl, ?_⟩
    rw [show its.toArray.any (eqTv X.K H t) = its.any (eqTv X.K H t) by simp, items_any I rv r]
    exact q _ decide_eq_true_iff
  · obtain ⟨its, rv, pl, hz⟩ := I.tuple hq
    refine SeqAt.in_tupleAt (eqTv X.K H t) pl (fun w hw => items_eq I hx rx (by rw [Around.in1_units]; omega) rv r d w (by simpa using hw)) ⟨.bl _, H, I, rfl, ?_⟩
    rw [show its.toArray.any (eqTv X.K H t) = its.any (eqTv X.K H t) by simp, items_any I rv r]
    exact q _ decide_eq_true_iff
open Classical in
theorem op_notInTm {n : Nat} (hn : X.A.units + (n + 1) < cLine) : OpR X (compareOp .NotIn) (rInTm X.K n true) := by
  intro pins s σ H x y v u Q I rx ry h
  obtain ⟨t, p, xs, us, hx, rfl, hq, r, d, q⟩ := h
  cases ry
  rcases hq with hq | hq
  · obtain ⟨its, rv, pl, hz⟩ := I.list hq
    refine SeqAt.notIn_listAt (eqTv X.K H t) pl.isList (fun w hw => items_eq I hx rx (by rw [Around.in1_units]; omega) rv r d w (by simpa using hw)) ⟨.bl _, H, I, rfl, ?_⟩
    rw [show its.toArray.any (eqTv X.K H t) = its.any (eqTv X.K H t) by simp, items_any I rv r]
    exact q _ decide_eq_true_iff
  · obtain ⟨its, rv, pl, hz⟩ := I.tuple hq
    refine SeqAt.notIn_tupleAt (eqTv X.K H t) pl (fun w hw => items_eq I hx rx (by rw [Around.in1_units]; omega) rv r d w (by simpa using hw)) ⟨.bl _, H, I, rfl, ?_⟩
    rw [show its.toArray.any (eqTv X.K H t) = its.any (eqTv X.K H t) by simp, items_any I rv r]
    exact q _ decide_eq_true_iff
end
section
variable {K : PySem.W.Frag} {w : World} {L : List (List Nat × Nat)} {d : Addr} {X : Cx}
/-- x not in D -/
def rNotInC (L : List (List Nat × Nat)) (d : Addr) : R2 := fun x y H Q => ∃ z, x = .str (tx z) ∧ y = .ref d ∧ Q (.bl (!(L.find? (fun p => decide (p.1 = z))).isSome)) H
theorem op_notInC (D : DictD X.K X.w L d) : OpR X (compareOp .NotIn) (rNotInC L d) := by
  intro pins s σ H x y v u Q I rx ry h
  obtain ⟨z, rfl, rfl, q⟩ := h
  have g := D.get z
  obtain ⟨es, n, kd, en⟩ := D.ex
  cases hf : L.find? (fun p => decide (p.1 = z)) with
  | some p =>
    rw [hf] at g q
    obtain ⟨tk, g⟩ := g
    exact op_notIn_kd kd pins s σ H _ _ v u Q I rx ry ⟨tx z, _, rfl, rfl, g, q⟩
  | none =>
    rw [hf] at g q
    exact op_notIn_kd kd pins s σ H _ _ v u Q I rx ry ⟨tx z, _, rfl, rfl, g, q⟩
end
end Og

namespace L2
open PySem PySem.Spec PyProof.Rows
section
variable {X : Cx}
/-- y = {k: v for ..} -/
theorem ps_setDc {i : Nat} {y : Str} {py : Pos} {kx vx tg iter : Expr} {ifs : List Expr} {scope : Scope} {own : List (Str × Nat)} {pos spos : Pos} {wi : TI} {g : TG} {tt : TT} {tk tv : TE} (hc : X.calm = true) (hN : X.N.Nodup) (hy : X.N[i]? = some y) (hyl : X.env.scope.names.lookup y = some .local)
    (hsw : swapsWith (.DictComp kx vx [⟨tg, iter, ifs, 0⟩] scope pos) (some (.Name y py)) spos.line X.env = pure true) (hi : PI X tg iter wi) (ok : BlkOk X.N X.env.scope scope own)
    (hg : ∀ (s : Shared) (H : Hp) (C : Addr) (cl : List (Str × Addr)) (fp : List Addr), PG (X.blk s H scope (compEnvC scope cl C X.env) fp) tg g) (ht : ∀ (s : Shared) (H : Hp) (C : Addr) (cl : List (Str × Addr)) (fp : List Addr), PTs (X.blk s H scope (compEnvC scope cl C X.env) fp) ifs tt)
    (hk : ∀ (s : Shared) (H : Hp) (C : Addr) (cl : List (Str × Addr)) (fp : List Addr), PE (X.blk s H scope (compEnvC scope cl C X.env) fp) kx tk)
    (he : ∀ (s : Shared) (H : Hp) (C : Addr) (cl : List (Str × Addr)) (fp : List Addr), PE (X.blk s H scope (compEnvC scope cl C X.env) fp) vx tv) (hs : ∀ x, foldedSetIterable iter X.env x = pure x := by intro _; rfl) :
    PS X (.Assign [.Name y py] (.DictComp kx vx [⟨tg, iter, ifs, 0⟩] scope pos) spos) (tAsg (tDc wi g tt tk tv (own.map (·.2))) (gName i)) := by
  refine ⟨fun pins s σ H D I h => ?_⟩
  rw [exec_Assign_Name_used _ _ _ _ hsw]
  refine wpAny_bind (wpAny_standAt (wpAny_bind ?_))
  show wpAny _ X.A (do let _ ← comprehension (.DictComp kx vx [⟨tg, iter, ifs, 0⟩] scope pos) scope X.env (firstIterPos [⟨tg, iter, ifs, 0⟩] pos) newDict false (eval iter X.env) (some (assign (.Name y py) X.env))) _ _ s
  have h : tDc wi g tt tk tv (own.map (·.2)) σ H (fun x H1 => gName i x σ H1 D.nx) := h
  refine wpAny_bind (thn (dc_core (Qf := fun _ s' => SP X pins D .next s') hc hN I hi ok hg ht hk he hs h fun L C s' m H' I' q hn f => ?_) fun _ s' hq => wpAny_pure (wpAny_pure hq))
  show wpAny _ _ (assign (.Name y py) X.env (.ref L)) _ _ _
  refine wpAny_assign_Name (store_ok2 (v := V.ref L) I' hN hy (.inl hyl) rfl (fun s2 I2 ⟨a, sb, ha⟩ => ?_) (.inr hyl))
  obtain ⟨f0, f1, f2, f3, f4, f5⟩ := f
  have haC : C ≠ a := by
    rcases ha with z | z
    · rw [z]; exact f1
    · exact fun e => f4 y a z e.symm
  refine ⟨m, hn.sameBut sb haC, fun h3 sb3 => ?_⟩
  exact ⟨_, H', I2.turned (t' := s2.toks) (fun b o hb e => (sb3.2 b hb).trans e) f0 f1 f3 f4 f5, q⟩
theorem sw_trueD {kx vx : Expr} {gs : List Comprehension} {scope : Scope} {pos py : Pos} {y : Str} {l : Nat} {env : Env} (hk : env.scope.kind = .function) (hy : env.scope.names.lookup y = some .local) (hl : (py.line == pos.line) = true)
    (ha : (scope.names.any fun (n, k) => n == y && (k == .local || k == .cell)) = false) : swapsWith (.DictComp kx vx gs scope pos) (some (.Name y py)) l env = pure true := by
  have ky : env.kindOf y = some .local := hy
  have hb : env.blockKind = .function := by unfold Env.blockKind; rw [hk]; rfl
  unfold swapsWith
  simp only [hb, ky, ha, Expr.pos, hl]
  rfl
end
end L2

namespace Og
open PySem PySem.Spec PyProof.Rows L2
/-! ### machine programs as trees, and which are right -/
def pushW : List Nat := [112, 117, 115, 104]
def copyW : List Nat := [99, 111, 112, 121]
def slideW : List Nat := [115, 108, 105, 100, 101]
def callW : List Nat := [99, 97, 108, 108]
def instrs : List (List Nat × Nat) := [(pushW, 2), (copyW, 2), (slideW, 2), (sameW, 1), (wordW, 1), (headW, 1), (tailW, 1), (joinW, 1), (callW, 2), (ifW, 3)]
def arI (x : List Nat) : Option Nat := (instrs.find? fun p => decide (p.1 = x)).map (·.2)
theorem arI_mem {x : List Nat} {k : Nat} (h : arI x = some k) : (x, k) ∈ instrs := by
  unfold arI at h
  cases hf : instrs.find? (fun p => decide (p.1 = x)) with
  | none => rw [hf] at h; cases h
  | some p =>
    rw [hf] at h
    have h1 := List.mem_of_find?_eq_some hf
    have h2 := List.find?_some hf
    have e1 : p.1 = x := of_decide_eq_true h2
    have e2 : p.2 = k := Option.some.inj h
    rw [← e1, ← e2]
    exact h1
theorem arI_none {x : List Nat} (h : ∀ k, (x, k) ∉ instrs) : arI x = none := by
  cases e : arI x with
  | none => rfl
  | some k => exact absurd (arI_mem e) (h k)
def InsOk (ns : List Tree) : Tree → Prop
  | .l (.w x :: ps) => arI x = some (ps.length + 1) ∧ ((x = copyW ∨ x = slideW) → ∀ p ∈ ps, p.isW = false) ∧ ((x = callW ∨ x = ifW) → ∀ p ∈ ps, p ∈ ns)
  | _ => False
theorem insOk_c {ns : List Tree} {x : List Nat} {ps : List Tree} : InsOk ns (.l (.w x :: ps)) ↔ arI x = some (ps.length + 1) ∧ ((x = copyW ∨ x = slideW) → ∀ p ∈ ps, p.isW = false) ∧ ((x = callW ∨ x = ifW) → ∀ p ∈ ps, p ∈ ns) := Iff.rfl
def hdOf : Tree → Option Tree
  | .l (n :: _) => some n
  | _ => none
def heads (fs : List Tree) : List Tree := fs.filterMap hdOf
theorem heads_nil : heads [] = [] := rfl
theorem heads_cons (t : Tree) (ts : List Tree) : heads (t :: ts) = heads [t] ++ heads ts := by
  unfold heads
  rw [List.filterMap_cons, List.filterMap_cons, List.filterMap_nil]
  cases hdOf t <;> rfl
theorem heads_app (a b : List Tree) : heads (a ++ b) = heads a ++ heads b := List.filterMap_append ..
theorem heads_l (n : Tree) (is : List Tree) : heads [.l (n :: is)] = [n] := rfl
theorem heads_mem {n : Tree} {fs : List Tree} : n ∈ heads fs ↔ ∃ is, Tree.l (n :: is) ∈ fs := by
  unfold heads
  rw [List.mem_filterMap]
  constructor
  · rintro ⟨t, m, e⟩
    match t, e with
    | .l (a :: as), e => cases e; exact ⟨as, m⟩
  · rintro ⟨is, m⟩
    exact ⟨_, m, rfl⟩
theorem heads_len : ∀ fs : List Tree, (heads fs).length ≤ fs.length := fun fs => List.length_filterMap_le ..
def ROk (fs : List Tree) (i : Nat) : Prop := ∃ n is, fs[i]? = some (.l (n :: is)) ∧ n ∉ heads (fs.take i) ∧ ∀ t ∈ is, InsOk (heads fs) t
def BadM : Tree → Option Nat → Prop
  | .w _, o => o = some 0
  | .l fs, o => (fs = [] ∧ o = some 0) ∨ (fs ≠ [] ∧ ((o = none ∧ ∀ i, i < fs.length → ROk fs i) ∨ ∃ i, o = some i ∧ i < fs.length ∧ ¬ ROk fs i ∧ ∀ j, j < i → ROk fs j))
theorem BadM.uniq {t : Tree} {a b : Option Nat} (h1 : BadM t a) (h2 : BadM t b) : a = b := by
  cases t with
  | w x => rw [show a = some 0 from h1, show b = some 0 from h2]
  | l fs =>
    rcases h1 with ⟨e1, o1⟩ | ⟨n1, h1⟩ <;> rcases h2 with ⟨e2, o2⟩ | ⟨n2, h2⟩
    · rw [o1, o2]
    · exact absurd e1 n2
    · exact absurd e2 n1
    · rcases h1 with ⟨o1, g1⟩ | ⟨i, o1, l1, b1, g1⟩ <;> rcases h2 with ⟨o2, g2⟩ | ⟨j, o2, l2, b2, g2⟩
      · rw [o1, o2]
      · exact absurd (g1 j l2) b2
      · exact absurd (g2 i l1) b1
      · rw [o1, o2]
        rcases Nat.lt_trichotomy i j with h | h | h
        · exact absurd (g2 i h) b1
        · rw [h]
        · exact absurd (g1 j h) b2
/-! ### a dict of the numbers of names -/
def NamesD (H : Hp) (cd : Addr) (N : St0) (hs : List Tree) : Prop := ∃ kvs : List (Key × V), H cd = some (.dK kvs) ∧ kvs.length ≤ 10000 ∧ (∀ k : Nat, (valV kvs (Sum.inl (k : Int))).isSome = true ↔ ∃ u ∈ hs, Den N k u) ∧ ∀ u ∈ hs, ∃ k, Den N k u
theorem den_same {N N' : St0} (wf : WF N') (g : Ext N N') {hs : List Tree} (all : ∀ u ∈ hs, ∃ k, Den N k u) (k : Nat) : (∃ u ∈ hs, Den N' k u) ↔ ∃ u ∈ hs, Den N k u := by
  constructor
  · rintro ⟨u, m, d⟩
    obtain ⟨k0, d0⟩ := all u m
    have := Den.inj wf d (d0.ext g)
    rw [this]
    exact ⟨u, m, d0⟩
  · rintro ⟨u, m, d⟩
    exact ⟨u, m, d.ext g⟩
theorem NamesD.ext {H : Hp} {cd : Addr} {N N' : St0} {hs : List Tree} (h : NamesD H cd N hs) (wf : WF N') (g : Ext N N') : NamesD H cd N' hs := by
  obtain ⟨kvs, e, l, r, all⟩ := h
  exact ⟨kvs, e, l, fun k => (r k).trans (den_same wf g all k).symm, fun u m => let ⟨k, d⟩ := all u m; ⟨k, d.ext g⟩⟩
theorem NamesD.kp {S : List Addr} {H H' : Hp} {cd : Addr} {N : St0} {hs : List Tree} (h : NamesD H cd N hs) (k : Kp S H H') (no : cd ∉ S) : NamesD H' cd N hs := by
  obtain ⟨kvs, e, r⟩ := h
  exact ⟨kvs, k.get e no, r⟩
theorem NamesD.mem {H : Hp} {cd : Addr} {N : St0} {hs : List Tree} (h : NamesD H cd N hs) {k : Nat} {u : Tree} (d : Den N k u) : ∃ kvs : List (Key × V), H cd = some (.dK kvs) ∧ ((valV kvs (Sum.inl (k : Int))).isSome = true ↔ u ∈ hs) := by
  obtain ⟨kvs, e, l, r, all⟩ := h
  exact ⟨kvs, e, (r k).trans ⟨fun ⟨u', m, d'⟩ => by rw [d.fn d']; exact m, fun m => ⟨u, m, d⟩⟩⟩
end Og

namespace Og
open PySem PySem.Spec PyProof.Rows L2
theorem arI_isSome (z : List Nat) : (instrs.find? (fun p => decide (p.1 = z))).isSome = (arI z).isSome := by
  unfold arI
  cases instrs.find? (fun p => decide (p.1 = z)) <;> rfl
theorem tru_tup {K : PySem.W.Frag} {H : Hp} {p : Addr} {xs : List V} (h : SqT K H p xs) : TruV K (.ref p) H (!xs.isEmpty) := .inr (.inl ⟨xs, h, rfl⟩)
theorem trs_vals_all {K : PySem.W.Frag} {H : Hp} {v : V} {vs : List V} {t : Tree} {ts : List Tree} (h : Trs K H (v :: vs) (t :: ts)) : Tr K H v t ∧ Trs K H vs ts := by
  obtain ⟨_, _, e, h1, h2⟩ := h.cons
  cases e
  exact ⟨h1, h2⟩
theorem inV_strsM (n : List Nat) : ∀ L : List (List Nat), inV (.str (tx n)) (L.map fun c => V.str (tx c)) = decide (n ∈ L)
  | [] => by simp [inV]
  | c :: L => by
    have ih := inV_strsM n L
    unfold inV at ih ⊢
    rw [List.map_cons, List.any_cons, ih]
    by_cases e : c = n
    · subst e
      simp [eqV]
    · have : ¬ (tx c = tx n) := fun q => e (tx_inj q)
      have e2 : ¬ n = c := fun q => e q.symm
      simp [eqV, this, e2]
theorem inV_cs (x : List Nat) : inV (.str (tx x)) [V.str "copy", .str "slide"] = decide (x ∈ [copyW, slideW]) := by
  rw [← inV_strsM x [copyW, slideW], show [V.str "copy", V.str "slide"] = [copyW, slideW].map (fun c => V.str (tx c)) by decide +kernel]
theorem inV_ci (x : List Nat) : inV (.str (tx x)) [V.str "call", .str "if"] = decide (x ∈ [callW, ifW]) := by
  rw [← inV_strsM x [callW, ifW], show [V.str "call", V.str "if"] = [callW, ifW].map (fun c => V.str (tx c)) by decide +kernel]
section
variable {P : Program} {w : World} {K : PySem.W.Frag} {mg : Str → Option Value} {base : Heap}
/-! ### _is_right_instruction -/
def spRI (K : PySem.W.Frag) (Cn : Addr) : Sp := fun vs H Q _ => ∃ (A : NA) (N : St0) (v : V) (t : Tree) (cd : Addr) (hs : List Tree), vs = [v, .ref cd, .ref A.no] ∧ Tr K H v t ∧ NdOK H Cn A N ∧ WF N ∧ NamesD H cd N hs ∧ cd ∉ A.all ∧ t.size ≤ 100000 ∧ N.length + 2 * t.size ≤ 8000000 ∧
  ∀ (b : Bool) (N' : St0) (H' : Hp), (b = true ↔ InsOk hs t) → WF N' → Ext N N' → N'.length ≤ N.length + 2 * t.size → NdOK H' Cn A N' → Kp A.all H H' → Q (.bl b) H'
theorem has_rightIns {Cn : Addr} {k : Nat} {d_INSTRUCTIONS : Addr} (m_INSTRUCTIONS : mg "INSTRUCTIONS" = some (.ref d_INSTRUCTIONS)) (D_INSTRUCTIONS : DictD K w instrs d_INSTRUCTIONS) (D : DefAt K mg "_is_right_instruction" s_is_right_instruction p_is_right_instruction) (B : Bn mg)
    (c1 : HasM P w K mg base (k + 1) Cn "number_of" p_Nodes_number_of (spNumberOf K Cn)) : Has P w K mg base (k + 2) "_is_right_instruction" p_is_right_instruction (spRI K Cn) := by
  obtain ⟨f, fd, F, hm, hb⟩ := D.ex
  obtain ⟨_, _, m_Nodes_number_of⟩ := c1
  refine ⟨f, fd, F.ok sc_is_right_instruction (fun vs H Q E h => ?_) (fun cdv A' outer s H vs Q E hr h => ?_), hm, F.kp, hb⟩
  · obtain ⟨_, _, _, _, _, _, rfl, _⟩ := h
    rfl
  obtain ⟨A, N, v, t, cd, hs, rfl, tv, nd, wf, nm, nocd, sz, ln, q⟩ := h
  refine ⟨_, (pss_cons (ps_if (PW.pt (pw_or (pt_not (pt_val (pe_callB call_isi (by rfl) B.isinstance (by decide +kernel) (pa_cons (pv 0) (pa_cons (pe_bltn (v := .ty "tuple") rfl B.tuple (by decide +kernel) rfl) pa_nil))))) (pw_or (pt_not (pt_truth (pv 0) (by intro _; rfl))) (pw_or1 (pt_not (pt_val (pe_callB call_isi (by rfl) B.isinstance (by decide +kernel) (pa_cons (pe_ix ix_tup (pv 0) pe_int (fun _ _ => rfl)) (pa_cons (pe_bltn (v := .ty "str") rfl B.str (by decide +kernel) rfl) pa_nil))))))))) (pss_one (ps_ret pe_bl)) pss_nil)
    (pss_cons (ps_asg (pv 0) (pg_star (by rfl) (pgs_cons (pg_name (i := 3) sc_is_right_instruction.nd rfl (Or.inl rfl)) (pgs_cons (pg_name (i := 4) sc_is_right_instruction.nd rfl (Or.inl rfl)) pgs_nil))))
    (pss_cons (ps_if (PW.pt (pw_or (pt_cmpR (op_notInC D_INSTRUCTIONS) (pv 3) (pe_glob (v := .ref d_INSTRUCTIONS) rfl m_INSTRUCTIONS rfl) (by rfl)) (pw_or1 (pt_cmpR op_ne (pe_callB call_len_seq (by rfl) B.len PySem.boot_len (pa_cons (pv 0) pa_nil)) (pe_ix ix_kdict (pe_glob (v := .ref d_INSTRUCTIONS) rfl m_INSTRUCTIONS rfl) (pv 3) (fun _ _ => rfl)) (nomark _))))) (pss_one (ps_ret pe_bl)) pss_nil)
    (pss_cons (ps_if (pt_cmpR op_in_seq (pv 3) (pe_tup (pa_cons pe_str (pa_cons pe_str pa_nil))) (by rfl)) (pss_one (ps_ret (pe_callB call_isi (by rfl) B.isinstance (by decide +kernel) (pa_cons (pe_ix ix_list (pv 4) pe_int (fun _ _ => rfl)) (pa_cons (pe_bltn (v := .ty "tuple") rfl B.tuple (by decide +kernel) rfl) pa_nil))))) pss_nil)
    (pss_cons (ps_if (pt_cmpR op_in_seq (pv 3) (pe_tup (pa_cons pe_str (pa_cons pe_str pa_nil))) (by rfl)) (pss_one (ps_ret (pe_callB (cr_all (by rfl)) (by rfl) B.all (by decide +kernel) (pa_cons (pe_lc (own := [("name", 5)]) (g := gName 5) (tt := tYes) rfl sc_is_right_instruction.nd (pi_list (pv 4)) (blkOk_by (N := n_is_right_instruction) (sc := defScope s_is_right_instruction) (by decide +kernel)) (fun _ _ _ _ _ => pg_name (i := 5) sc_is_right_instruction.nd rfl (Or.inl rfl)) (fun _ _ _ _ _ => pts_nil) (fun _ _ _ _ _ => (pe_cmp (pc_din (hu_of hr) (calM m_Nodes_number_of hr (pv 2) (pa_cons (pv 5) pa_nil)) (pv 1)) rfl))) pa_nil)))) pss_nil)
    (pss_one (ps_ret pe_bl))))))), ?_⟩
  have no : ∀ {b : Bool}, b = false → ¬ InsOk hs t → Q (.bl b) H := fun e h => q _ N H ⟨fun z => (by rw [e] at z; cases z), fun z => absurd z h⟩ wf (Ext.refl N) (by omega) nd Kp.refl
  obtain ⟨ty, u, q1, q2, q3⟩ := isi_tup tv
  refine ⟨_, rfl, _, _, ty, u, _, rfl, q1, q2, q3, _, rfl, ?_⟩
  cases t with
  | w x => exact iteT (iteT (no rfl fun h => h))
  | l fs =>
  refine iteF ?_
  obtain ⟨a, vs, rfl, hS, r⟩ := tv.list
  have lv := r.length
  refine ⟨_, rfl, _, tru_tup hS, ?_⟩
  rw [emp_iff r]
  cases fs with
  | nil => exact iteT (iteT (no rfl fun h => h))
  | cons t0 ps =>
  refine iteF ?_
  obtain ⟨v0, r0, rfl, h0, rr⟩ := r.cons
  obtain ⟨ty, u, q1, q2, q3⟩ := isi_str h0
  refine ⟨_, rfl, a, _, _, v0, rfl, rfl, hS, atI_zero _ _, _, _, ty, u, _, rfl, q1, q2, q3, _, rfl, ?_⟩
  cases t0 with
  | l us => exact iteT (no rfl fun h => h)
  | w x =>
  refine iteF ?_
  have e0 := h0.word
  subst e0
  refine ⟨_, rfl, a, _, _, rfl, hS, fun L nL => ?_⟩
  have kL : Kp [] H (upd H L (.lst r0)) := Kp.new nL
  have eL : (upd H L (.lst r0)) L = some (.lst r0) := upd_same
  have nd1 := nd.new (o := .lst r0) nL
  have LA := nd.ne nL
  generalize upd H L (.lst r0) = H1 at kL eL nd1
  refine ⟨_, _, rfl, _, _, rfl, rfl, ?_⟩
  have rps : Trs K H1 r0 ps := rr.kp kL
  have lps : r0.length = ps.length := rps.length
  have no1 : ∀ {b : Bool}, b = false → ¬ InsOk hs (.l (.w x :: ps)) → Q (.bl b) H1 := fun e h => q _ N H1 ⟨fun z => (by rw [e] at z; cases z), fun z => absurd z h⟩ wf (Ext.refl N) (by omega) nd1 (kL.mono (fun _ m => absurd m (List.not_mem_nil)))
  have q1 : ∀ (b : Bool) (N' : St0) (H' : Hp), (b = true ↔ InsOk hs (.l (.w x :: ps))) → WF N' → Ext N N' → N'.length ≤ N.length + 2 * (Tree.l (.w x :: ps)).size → NdOK H' Cn A N' → Kp A.all H1 H' → Q (.bl b) H' := fun b N' H' e1 e2 e3 e4 e5 e6 => q b N' H' e1 e2 e3 e4 e5 ((kL.mono (fun _ m => absurd m (List.not_mem_nil))).trans e6)
  have nm1 := nm.kp kL (List.not_mem_nil)
  have hS1 := kL.sqT hS
  refine ⟨_, rfl, x, rfl, rfl, _, rfl, ?_⟩
  rw [arI_isSome]
  cases ha : arI x with
  | none => exact iteT (iteT (no1 rfl fun h => by have := h.1; rw [ha] at this; cases this))
  | some m =>
  refine iteF ?_
  obtain ⟨p0, hf0, ep0⟩ : ∃ p0, instrs.find? (fun p => decide (p.1 = x)) = some p0 ∧ p0.2 = m := by
    unfold arI at ha
    cases hf : instrs.find? (fun p => decide (p.1 = x)) with
    | none => rw [hf] at ha; cases ha
    | some p0 => rw [hf] at ha; exact ⟨p0, rfl, Option.some.inj ha⟩
  refine ⟨_, rfl, a, _, rfl, .inr hS1, _, rfl, d_INSTRUCTIONS, tx x, _, rfl, rfl, D_INSTRUCTIONS.item hf0, rfl, _, rfl, ?_⟩
  rw [ep0]
  by_cases hm : ps.length + 1 = m
  rotate_left
  · rw [nT (by simp only [List.length_cons]; omega)]
    exact iteT (no1 rfl fun h => by have := h.1; rw [ha] at this; have := Option.some.inj this; omega)
  rw [nF (by simp only [List.length_cons]; omega)]
  refine iteF ?_
  subst hm
  have eL1 : H1 L = some (.lst r0) := eL
  refine ⟨_, rfl, by show (2 : Nat) ≤ sizeLine; decide, fun p np => ?_⟩
  have k2 : Kp [] H1 (upd H1 p (.tup [V.str "copy", .str "slide"])) := Kp.new np
  have ep : (upd H1 p (.tup [V.str "copy", .str "slide"])) p = some (.tup [V.str "copy", .str "slide"]) := upd_same
  have nd2 := nd1.new (o := .tup [V.str "copy", .str "slide"]) np
  generalize upd H1 p (.tup [V.str "copy", .str "slide"]) = H2 at k2 ep nd2
  refine ⟨p, _, rfl, .inr (SqT.of_tup ep), rfl, rfl, _, rfl, ?_⟩
  rw [show (if (false : Bool) = true then !inV (V.str (tx x)) [V.str "copy", .str "slide"] else inV (V.str (tx x)) [V.str "copy", .str "slide"]) = decide (x ∈ [copyW, slideW]) from inV_cs x]
  have up : ∀ {G : Hp}, Kp [] H1 G → Kp A.all H1 G := fun kk => kk.mono (fun _ m => absurd m (List.not_mem_nil))
  by_cases hx : x ∈ [copyW, slideW]
  · rw [decide_eq_true hx]
    refine iteT ?_
    have hx' : x = copyW ∨ x = slideW := by simpa using hx
    have l1 : ps.length = 1 := by
      rcases hx' with rfl | rfl
      · have : arI copyW = some 2 := by decide +kernel
        rw [this] at ha; have := Option.some.inj ha; omega
      · have : arI slideW = some 2 := by decide +kernel
        rw [this] at ha; have := Option.some.inj ha; omega
    match ps, l1, rps with
    | [p1], _, rps =>
    obtain ⟨v1, rest, rfl, t1, r1⟩ := rps.cons
    have := r1.nil
    subst this
    obtain ⟨ty, u, g1, g2, g3⟩ := isi_tup (t1.kp k2)
    refine ⟨_, rfl, L, _, _, v1, rfl, rfl, SqL.of (k2.get eL1 (List.not_mem_nil)), atI_zero _ _, _, _, ty, u, _, rfl, g1, g2, g3, ?_⟩
    refine q1 _ N H2 ?_ wf (Ext.refl N) (by omega) nd2 (up k2)
    rw [insOk_c]
    constructor
    · intro h
      refine ⟨ha, fun _ p m => ?_, fun h => ?_⟩
      · rw [List.mem_singleton.mp m]
        cases hw : p1.isW with
        | false => rfl
        | true => rw [hw] at h; cases h
      · rcases hx' with rfl | rfl <;> rcases h with h | h <;> exact absurd h (by decide)
    · rintro ⟨_, h, _⟩
      rw [h hx' p1 (List.mem_singleton.mpr rfl)]
      rfl
  rw [decide_eq_false hx]
  refine iteF ?_
  refine ⟨_, rfl, by show (2 : Nat) ≤ sizeLine; decide, fun p' np' => ?_⟩
  have k3 : Kp [] H2 (upd H2 p' (.tup [V.str "call", .str "if"])) := Kp.new np'
  have ep' : (upd H2 p' (.tup [V.str "call", .str "if"])) p' = some (.tup [V.str "call", .str "if"]) := upd_same
  have nd3 := nd2.new (o := .tup [V.str "call", .str "if"]) np'
  generalize upd H2 p' (.tup [V.str "call", .str "if"]) = H3 at k3 ep' nd3
  refine ⟨p', _, rfl, .inr (SqT.of_tup ep'), rfl, rfl, _, rfl, ?_⟩
  rw [show (if (false : Bool) = true then !inV (V.str (tx x)) [V.str "call", .str "if"] else inV (V.str (tx x)) [V.str "call", .str "if"]) = decide (x ∈ [callW, ifW]) from inV_ci x]
  have k13 := k2.trans k3
  have hxn : ¬ (x = copyW ∨ x = slideW) := by simpa using hx
  by_cases hy : x ∈ [callW, ifW]
  rotate_left
  · rw [decide_eq_false hy]
    refine iteF ?_
    have hyn : ¬ (x = callW ∨ x = ifW) := by simpa using hy
    exact q1 true N H3 ⟨fun _ => ⟨ha, fun h => absurd h hxn, fun h => absurd h hyn⟩, fun _ => rfl⟩ wf (Ext.refl N) (by omega) nd3 (up k13)
  rw [decide_eq_true hy]
  refine iteT ?_
  have hy' : x = callW ∨ x = ifW := by simpa using hy
  have nm3 := nm1.kp k13 (List.not_mem_nil)
  have eL3 := k13.get eL1 (List.not_mem_nil)
  have rps3 := rps.kp k13
  have LAll : L ∉ A.all := fun m => LA.2 L m rfl
  refine ⟨_, rfl, L, rfl, ⟨_, SqL.of eL3⟩, fun D nD => ?_⟩
  have DA := nd3.ne nD
  have DL : D ≠ L := fun e => by rw [e, eL3] at nD; cases nD
  have Dcd : D ≠ cd := fun e => by
    obtain ⟨_, ek, _⟩ := nm3
    rw [e, ek] at nD; cases nD
  rw [size_l, sizes_cons, size_w] at sz ln
  have lsz := len_sizes ps
  refine lc_list (K := K) (a := L) (xs := r0) (fun i H' => ∃ (N' : St0) (bs : List Bool), H' D = some (.lst (bs.map V.bl)) ∧ H' L = some (.lst r0) ∧ WF N' ∧ Ext N N' ∧ N'.length + 2 * sizes (ps.drop i) ≤ N.length + 2 * sizes ps ∧ NdOK H' Cn A N' ∧ Kp (D :: A.all) H3 H' ∧ bs.length = i ∧ (bs.all id = true ↔ ∀ u ∈ ps.take i, u ∈ hs))
    ⟨N, [], upd_same, by rw [upd_ne DL.symm]; exact eL3, wf, Ext.refl N, Nat.le_refl _, nd3.new nD, Kp.new nD, rfl, by simp⟩ (fun i H' _ pw => ?_) (fun i z H' hz pw => ?_) (fun H' pw => ?_)
  · obtain ⟨_, _, _, eL', _⟩ := pw
    exact SqL.of eL'
  · obtain ⟨N', bs, eD, eL', wf', ex', cap, nd', kk, lb, hall⟩ := pw
    have il : i < ps.length := by rw [← lps]; exact (List.getElem?_eq_some_iff.mp hz).1
    have hg : ps[i]? = some ps[i] := List.getElem?_eq_getElem il
    have dr : ps.drop i = ps[i] :: ps.drop (i + 1) := List.drop_eq_getElem_cons il
    have tk : ps.take (i + 1) = ps.take i ++ [ps[i]] := by rw [List.take_succ, hg]; rfl
    rw [dr, sizes_cons] at cap
    have xl := ex'.len
    obtain ⟨z', hz', tz⟩ := (rps3.kp kk).get hg
    rw [hz] at hz'
    cases hz'
    generalize ps[i] = u at hg dr tk cap tz
    have nmk := (nm3.kp kk (fun m => by
      rcases List.mem_cons.mp m with m | m
      · exact Dcd m.symm
      · exact nocd m)).ext wf' ex'
    refine ⟨rfl, yes ⟨_, rfl, A.no, A.dx, _, rfl, nd'.no, rfl, _, rfl, A, N', z, u, rfl, nd', wf', tz, by omega, by omega, fun N6 kn H6 wf6 ex6 ln6 dn6 nd6 k6 => ?_⟩⟩
    have nm6 := (nmk.kp k6 nocd).ext wf6 ex6
    obtain ⟨kvs, ek, rel⟩ := nm6.mem dn6
    refine ⟨_, rfl, cd, _, rfl, DGet.k (k := Sum.inl (kn : Int)) ek, ?_⟩
    have dAll : ∀ p ∈ A.all, p ≠ D := fun p m e => DA.2 p m e.symm
    have eD6 := k6.get eD (fun m => dAll _ m rfl)
    have k7 : ∀ {xs : List V}, Kp [D] H6 (upd H6 D (.lst xs)) := fun {xs} => Kp.set eD6 mo_lst mo_lst (List.mem_cons_self ..)
    refine ⟨_, eD6, ?_, N6, bs ++ [(valV kvs (Sum.inl (kn : Int))).isSome], ?_, ?_, wf6, ex'.trans ex6, by omega, nd6.kp k7 (fun m => DA.1 (List.mem_singleton.mp m).symm) (fun p m z => dAll p m (List.mem_singleton.mp z)), (kk.trans k6.cons).trans (k7.mono fun x m => by rw [List.mem_singleton.mp m]; exact List.mem_cons_self ..), by rw [List.length_append, lb]; rfl, ?_⟩
    · rw [List.length_map, lb]
      exact Nat.lt_of_lt_of_le (show i < 1000000 by omega) (by decide)
    · rw [upd_same, List.map_append]; rfl
    · rw [upd_ne DL.symm]
      exact k6.get eL' LAll
    · rw [List.all_append, Bool.and_eq_true, hall, tk]
      show _ ∧ ((valV kvs (Sum.inl (kn : Int))).isSome && true) = true ↔ _
      rw [Bool.and_true, rel]
      constructor
      · rintro ⟨h1, h2⟩ y m
        rcases List.mem_append.mp m with m | m
        · exact h1 y m
        · rw [List.mem_singleton.mp m]; exact h2
      · intro h
        exact ⟨fun y m => h y (List.mem_append_left _ m), h u (List.mem_append_right _ (List.mem_singleton.mpr rfl))⟩
  · obtain ⟨N', bs, eD, eL', wf', ex', cap, nd', kk, lb, hall⟩ := pw
    rw [lps, List.take_length] at hall
    rw [lps, List.drop_length, sizes_nil] at cap
    refine ⟨D, bs, rfl, SqL.of eD, ?_⟩
    refine q1 _ N' H' ?_ wf' ex' (by rw [size_l, sizes_cons]; omega) nd' ((up k13).trans (kk.drop nD))
    rw [hall, insOk_c]
    exact ⟨fun h => ⟨ha, fun h' => absurd h' hxn, fun _ => h⟩, fun h => h.2.2 hy'⟩
end
end Og

namespace Og
open PySem PySem.Spec PyProof.Rows L2
theorem NdOK.updN {H : Hp} {Cn p : Addr} {A : NA} {N : St0} {o : HO} (h : NdOK H Cn A N) (n0 : A.no ≠ p) (n1 : ∀ q ∈ A.all, q ≠ p) : NdOK (upd H p o) Cn A N := by
  obtain ⟨a1, e1, q1⟩ := h.sp
  obtain ⟨a2, e2, q2⟩ := h.nw
  obtain ⟨a3, e3, q3⟩ := h.nl
  exact ⟨by rw [upd_ne n0]; exact h.no, by rw [upd_ne (n1 _ (by simp [NA.all]))]; exact h.hd, by rw [upd_ne (n1 _ (by simp [NA.all]))]; exact h.tl, by rw [upd_ne (n1 _ (by simp [NA.all]))]; exact h.wd, ⟨a1, by rw [upd_ne (n1 _ (by simp [NA.all]))]; exact e1, q1⟩, ⟨a2, by rw [upd_ne (n1 _ (by simp [NA.all]))]; exact e2, q2⟩, ⟨a3, by rw [upd_ne (n1 _ (by simp [NA.all]))]; exact e3, q3⟩, h.nd⟩
theorem NamesD.updN {H : Hp} {cd p : Addr} {N : St0} {hs : List Tree} {o : HO} (h : NamesD H cd N hs) (n0 : cd ≠ p) : NamesD (upd H p o) cd N hs := by
  obtain ⟨kvs, e, r⟩ := h
  exact ⟨kvs, by rw [upd_ne n0]; exact e, r⟩
theorem Kp.updNew {S : List Addr} {H H1 : Hp} {p : Addr} {o : HO} (a : Kp S H H1) (h : H p = none) : Kp S H (upd H1 p o) := fun b u e => by
  have ne : b ≠ p := fun q => by rw [q, h] at e; cases e
  rw [upd_ne ne]
  exact a b u e
theorem Kp.into {S : List Addr} {H H1 H2 : Hp} (a : Kp [] H H1) (b : Kp S H1 H2) (fr : ∀ p ∈ S, H p = none) : Kp [] H H2 :=
  ((a.mono (fun _ m => absurd m (List.not_mem_nil))).trans b).drops (T := []) fun p m => .inl (fr p m)
/-- whether a value is true -/
def tTru (K : PySem.W.Frag) (te : TE) : TT := fun σ H Q => te σ H fun x H' => ∃ k, TruV K x H' k ∧ Q k H'
section
variable {P : Program} {w : World} {K : PySem.W.Frag} {mg : Str → Option Value} {base : Heap}
/-! ### check_machine -/
def WishM (C : Addr) (n : Nat) (H : Hp) (E : XK) : Prop := ∀ (d : Addr) (H' : Hp), H' d = some (.xd [("function", .int n)]) → Keep [] H H' → E (.ref C) (some d) H'
def spCheckM (K : PySem.W.Frag) (C : Addr) : Sp := fun vs H Q E => ∃ (v : V) (t : Tree), vs = [v] ∧ Tr K H v t ∧ t.size ≤ 100000 ∧ (∀ fs, t = .l fs → fs.length ≤ 1000) ∧ (∀ n, BadM t (some n) → WishM C n H E) ∧ (∀ H' : Hp, BadM t none → Keep [] H H' → Q .non H')
theorem has_checkM {C G fI Cn : Addr} {fdI : FuncData} {k : Nat} (T_BadProgram : ErrT K mg "BadProgram" "BadProgram.__init__" "function" s_BadProgram_init C G fI fdI) (D : DefAt K mg "check_machine" s_check_machine p_check_machine) (B : Bn mg)
    (c1 : HasM P w K mg base (k + 3) Cn "number_of" p_Nodes_number_of (spNumberOf K Cn)) (c2 : Has P w K mg base (k + 3) "_is_right_instruction" p_is_right_instruction (spRI K Cn)) (c3 : HasK P w K mg base (k + 2) Cn "Nodes" p_Nodes_init (spNodesInit Cn)) : HasX P w K mg base (k + 4) "check_machine" p_check_machine (spCheckM K C) := by
  obtain ⟨f, fd, F, hm, hb⟩ := D.ex
  obtain ⟨_, _, m_Nodes_number_of⟩ := c1
  obtain ⟨_, _, c_is_right_instruction⟩ := c2
  obtain ⟨_, _, k_Nodes⟩ := c3
  have ok_BadProgram := ok_BadProgram' (P := P) (w := w) (base := base) T_BadProgram
  refine ⟨f, fd, F.okX sc_check_machine (fun vs H Q E h => ?_) (fun cdv A' outer s H vs Q E hr h => ?_), hm, F.kp, hb⟩
  · obtain ⟨_, _, rfl, _⟩ := h
    rfl
  obtain ⟨v, t, rfl, tv, sz, few, bad, q⟩ := h
  have hr_BadProgram := hr.mono (show 2 ≤ k + 3 by omega)
  refine ⟨_, (pss_cons (ps_if (PW.pt (pw_or (pt_not (pt_val (pe_callB call_isi (by rfl) B.isinstance (by decide +kernel) (pa_cons (pv 0) (pa_cons (pe_bltn (v := .ty "tuple") rfl B.tuple (by decide +kernel) rfl) pa_nil))))) (pw_or1 (pt_not (pt_truth (pv 0) (by intro _; rfl)))))) (pss_one (ps_raise rfl (takes_of rfl rfl rfl rfl) (pmk_oex T_BadProgram.ox T_BadProgram.iC T_BadProgram.tI ok_BadProgram hr_BadProgram T_BadProgram.bi .nil pass0 rfl T_BadProgram.gC (pa_cons pe_int pa_nil)))) pss_nil)
    (pss_cons (ps_set (i := 1) sc_check_machine.nd rfl (.inr rfl) (calK0 k_Nodes hr))
    (pss_cons (ps_setDc (i := 2) (own := [("item", 3)]) rfl sc_check_machine.nd rfl rfl (sw_trueD rfl rfl rfl (by decide +kernel))  (pi_tup (pv 0)) (blkOk_by (N := n_check_machine) (sc := defScope s_check_machine) (by decide +kernel)) (fun _ _ _ _ _ => (pg_name (i := 3) sc_check_machine.nd rfl (.inl rfl))) (fun _ _ _ _ _ => pts_one (PW.pt (pw_and (pt_val (pe_callB (show CallR _ _ (rIsi K) from call_isi) (by rfl) B.isinstance (by decide +kernel) (pa_cons (pv 3) (pa_cons (pe_bltn (v := .ty "tuple") rfl B.tuple (by decide +kernel) rfl) pa_nil)))) (pw_and1 (show PT _ _ (tTru K (tVar 3)) from pt_truth (pv 3) (by intro _; rfl)))))) (fun _ _ _ _ _ => (calM m_Nodes_number_of hr (pv 1) (pa_cons (pe_ix (show IxR _ (rIxT K) from ix_tup) (pv 3) pe_int (fun _ _ => rfl)) pa_nil))) (fun _ _ _ _ _ => pe_bl))
    (pss_cons (ps_set (i := 4) sc_check_machine.nd rfl (.inl rfl) (pe_callTy0 cr_set0K (by rfl) B.set (by decide +kernel)))
    (pss_one (ps_for (passes_of rfl) rfl (pi_enumT (by rfl) B.enumerate (pa_cons (pv 0) pa_nil)) (pg_tup (by rfl) (pgs_cons (pg_name (i := 5) sc_check_machine.nd rfl (.inl rfl)) (pgs_cons (pg_name (i := 6) sc_check_machine.nd rfl (.inl rfl)) pgs_nil)))
      (pss_cons (ps_if (PW.pt (pw_or (pt_not (pt_val (pe_callB call_isi (by rfl) B.isinstance (by decide +kernel) (pa_cons (pv 6) (pa_cons (pe_bltn (v := .ty "tuple") rfl B.tuple (by decide +kernel) rfl) pa_nil))))) (pw_or1 (pt_not (pt_truth (pv 6) (by intro _; rfl)))))) (pss_one (ps_raise rfl (takes_of rfl rfl rfl rfl) (pmk_oex T_BadProgram.ox T_BadProgram.iC T_BadProgram.tI ok_BadProgram hr_BadProgram T_BadProgram.bi .nil pass0 rfl T_BadProgram.gC (pa_cons (pv 5) pa_nil)))) pss_nil)
      (pss_cons (ps_set (i := 7) sc_check_machine.nd rfl (.inl rfl) (calM m_Nodes_number_of hr (pv 1) (pa_cons (pe_ix ix_tup (pv 6) pe_int (fun _ _ => rfl)) pa_nil)))
      (pss_cons (ps_if (pt_cmpR or_sinK (pv 7) (pv 4) (by rfl)) (pss_one (ps_raise rfl (takes_of rfl rfl rfl rfl) (pmk_oex T_BadProgram.ox T_BadProgram.iC T_BadProgram.tI ok_BadProgram hr_BadProgram T_BadProgram.bi .nil pass0 rfl T_BadProgram.gC (pa_cons (pv 5) pa_nil)))) pss_nil)
      (pss_cons (ps_expr (pe_saddK (pv 4) (pa_cons (pv 7) pa_nil)))
      (pss_one (ps_for (passes_of rfl) rfl (pi_tup (pe_slice sl_tupA (pv 6) (po_some pe_int) po_none)) (pg_name (i := 8) sc_check_machine.nd rfl (.inl rfl))
        (pss_one (ps_if (pt_not (pt_val (cal c_is_right_instruction hr rfl (pa_cons (pv 8) (pa_cons (pv 2) (pa_cons (pv 1) pa_nil)))))) (pss_one (ps_raise rfl (takes_of rfl rfl rfl rfl) (pmk_oex T_BadProgram.ox T_BadProgram.iC T_BadProgram.tI ok_BadProgram hr_BadProgram T_BadProgram.bi .nil pass0 rfl T_BadProgram.gC (pa_cons (pv 5) pa_nil)))) pss_nil)))))))))))))), ?_⟩
  have raise : ∀ (n : Nat) (H1 : Hp), Keep [] H H1 → n ≤ 400000 → BadM t (some n) → ∀ a : Addr, H1 a = none → spErr K "function" [V.ref a, V.int n] (upd H1 a (exo a C none)) (fun v H2 => v = .non ∧ ∃ (d : Addr) (fs : List (Str × V)), H2 a = some (exo a C (some d)) ∧ H2 d = some (exd d fs) ∧ H1 d = none ∧ E (.ref C) (some d) (upd (del H2 a) d (.xd fs))) (fun _ _ _ => False) := by
    intro n H1 kk hn hres a na
    refine ⟨a, C, n, rfl, T_BadProgram.ox, T_BadProgram.no, by omega, upd_same, fun dx hd ne => ⟨rfl, dx, _, upd_same, by rw [upd_ne ne, upd_same], by rw [upd_ne ne] at hd; exact hd, bad n hres dx _ upd_same (kk.trans (keep_raised na hd ne))⟩⟩
  obtain ⟨ty, u, q1, q2, q3⟩ := isi_tup tv
  refine ⟨_, rfl, _, _, ty, u, _, rfl, q1, q2, q3, _, rfl, ?_⟩
  cases t with
  | w x =>
    refine iteT (iteT ⟨by show 1 ≤ 1000; decide, fun a na => ?_⟩)
    exact raise 0 H Keep.refl (by omega) rfl a na
  | l fs =>
    refine iteF ?_
    obtain ⟨a, vs, rfl, hS, r⟩ := tv.list
    have lv := r.length
    have szl := sz
    rw [size_l] at szl
    have lsz := len_sizes fs
    have few := few fs rfl
    refine ⟨_, rfl, _, tru_tup hS, ?_⟩
    rw [emp_iff r]
    by_cases hne : fs = []
    · subst hne
      refine iteT ⟨by show 1 ≤ 1000; decide, fun a na => ?_⟩
      exact raise 0 H Keep.refl (by omega) (.inl ⟨rfl, rfl⟩) a na
    have b0 : fs.isEmpty = false := by
      cases fs with
      | nil => exact absurd rfl hne
      | cons _ _ => rfl
    rw [b0]
    refine iteF ?_
    -- nodes
    refine fun x dx nx nd0 ne => ⟨x, dx, rfl, upd_same, fun A H1 eA eB nd1 k1' fr => ⟨rfl, ?_⟩⟩
    subst eA
    have z1 : Kp [] H (upd (upd H dx (.own A.no)) A.no (.ins Cn dx [])) := (Kp.new nd0).trans (Kp.new (by rw [upd_ne (Ne.symm ne)]; exact nx))
    have k1 : Kp [] H H1 := ((z1.mono fun _ m => absurd m (List.not_mem_nil)).trans k1').drop nx
    have frA : ∀ p ∈ A.all, H p = none := fun p m => z1.free (fr p m)
    -- names
    refine ⟨_, rfl, a, rfl, ⟨_, k1.sqT hS⟩, fun D nD => ?_⟩
    have DA := nd1.ne nD
    have nD0 : H D = none := k1.free nD
    have dAll : ∀ p ∈ A.all, p ≠ D := fun p m e => DA.2 p m e.symm
    refine dc_tup (K := K) (a := a) (xs := vs) (fun i H' => ∃ (N' : St0) (kvs : List (Key × V)), H' D = some (.dK kvs) ∧ kvs.length ≤ i ∧ WF N' ∧ N'.length + 2 * sizes (fs.drop i) ≤ 2 + 2 * sizes fs ∧ NdOK H' Cn A N' ∧ Kp (D :: A.all) H1 H' ∧ (∀ k : Nat, (valV kvs (Sum.inl (k : Int))).isSome = true ↔ ∃ u ∈ heads (fs.take i), Den N' k u) ∧ ∀ u ∈ heads (fs.take i), ∃ k, Den N' k u)
      ⟨start0, [], upd_same, Nat.le_refl _, wf_start, by show 2 + _ ≤ _; rw [List.drop_zero]; omega, nd1.new nD, Kp.new nD, fun k => ⟨fun h => (by cases h), fun ⟨u, m, _⟩ => absurd m (List.not_mem_nil)⟩, fun u m => absurd m (List.not_mem_nil)⟩ (fun i H' _ pw => ?_) (fun i z H' hz pw => ?_) (fun H' pw => ?_)
    · obtain ⟨_, _, _, _, _, _, _, kk, _⟩ := pw
      exact kk.sqT (k1.sqT hS)
    · obtain ⟨N', kvs, eD, lk, wf', cap, nd', kk, rel, alln⟩ := pw
      have il : i < fs.length := by rw [← lv]; exact (List.getElem?_eq_some_iff.mp hz).1
      have hg : fs[i]? = some fs[i] := List.getElem?_eq_getElem il
      have dr : fs.drop i = fs[i] :: fs.drop (i + 1) := List.drop_eq_getElem_cons il
      have tk : heads (fs.take (i + 1)) = heads (fs.take i) ++ heads [fs[i]] := by rw [List.take_succ, hg, heads_app]; rfl
      rw [dr, sizes_cons] at cap
      obtain ⟨z', hz', tz⟩ := ((r.kp k1).kp kk).get hg
      rw [hz] at hz'
      cases hz'
      generalize fs[i] = u at hg dr tk cap tz
      refine ⟨rfl, ?_⟩
      have skip : heads [u] = [] → ∃ (N' : St0) (kvs : List (Key × V)), H' D = some (.dK kvs) ∧ kvs.length ≤ i + 1 ∧ WF N' ∧ N'.length + 2 * sizes (fs.drop (i + 1)) ≤ 2 + 2 * sizes fs ∧ NdOK H' Cn A N' ∧ Kp (D :: A.all) H1 H' ∧ (∀ k : Nat, (valV kvs (Sum.inl (k : Int))).isSome = true ↔ ∃ u ∈ heads (fs.take (i + 1)), Den N' k u) ∧ ∀ u ∈ heads (fs.take (i + 1)), ∃ k, Den N' k u := fun e => by
        rw [tk, e, List.append_nil]
        exact ⟨N', kvs, eD, by omega, wf', by omega, nd', kk, rel, alln⟩
      obtain ⟨ty, uu, q1, q2, q3⟩ := isi_tup tz
      refine ⟨_, rfl, _, _, ty, uu, _, rfl, q1, q2, q3, _, rfl, ?_⟩
      cases u with
      | w x => exact iteF (iteF (skip rfl))
      | l us =>
      refine iteT ?_
      obtain ⟨za, zvs, rfl, hZ, rZ⟩ := tz.list
      refine ⟨_, rfl, _, tru_tup hZ, ?_⟩
      rw [emp_iff rZ]
      cases us with
      | nil => exact iteF (skip rfl)
      | cons n0 is =>
      refine iteT ?_
      obtain ⟨z0, zr, rfl, t0, tr⟩ := rZ.cons
      rw [size_l, sizes_cons] at cap
      have xs0 := sizes_cons n0 is
      have su := size_of_get hg
      rw [size_l, sizes_cons] at su
      refine ⟨_, rfl, A.no, A.dx, _, rfl, nd'.no, rfl, _, rfl, za, _, _, z0, rfl, rfl, hZ, atI_zero _ _, A, N', z0, n0, rfl, nd', wf', t0, by omega, by omega, fun N6 kn H6 wf6 ex6 ln6 dn6 nd6 k6 => ?_⟩
      have eD6 := k6.get eD (fun m => dAll _ m rfl)
      have k7 : ∀ {xs : List (Key × V)}, Kp [D] H6 (upd H6 D (.dK xs)) := fun {xs} => Kp.set eD6 mo_dK mo_dK (List.mem_cons_self ..)
      refine ⟨kvs, Sum.inl (kn : Int), rfl, eD6, Nat.lt_of_le_of_lt (show kvs.length ≤ 100000 by omega) (by decide), N6, _, upd_same, Nat.le_trans (length_putK _ _ _) (by omega), wf6, by omega, nd6.kp k7 (fun m => DA.1 (List.mem_singleton.mp m).symm) (fun p m z => dAll p m (List.mem_singleton.mp z)), (kk.trans k6.cons).trans (k7.mono fun x m => by rw [List.mem_singleton.mp m]; exact List.mem_cons_self ..), fun j => ?_, fun y m => ?_⟩
      · rw [valV_put, tk, heads_l]
        by_cases e : j = kn
        · subst e
          rw [if_pos rfl]
          exact ⟨fun _ => ⟨n0, List.mem_append_right _ (List.mem_singleton.mpr rfl), dn6⟩, fun _ => rfl⟩
        · rw [if_neg (fun z => e (nat_inl.mp z)), rel]
          constructor
          · rintro ⟨y, m, d⟩
            exact ⟨y, List.mem_append_left _ m, d.ext ex6⟩
          · rintro ⟨y, m, d⟩
            rcases List.mem_append.mp m with m | m
            · obtain ⟨k0, d0⟩ := alln y m
              have := Den.inj wf6 d (d0.ext ex6)
              rw [this]
              exact ⟨y, m, d0⟩
            · rw [List.mem_singleton.mp m] at d
              exact absurd (Den.inj wf6 d dn6) e
      · rw [tk, heads_l] at m
        rcases List.mem_append.mp m with m | m
        · obtain ⟨k0, d0⟩ := alln y m
          exact ⟨k0, d0.ext ex6⟩
        · rw [List.mem_singleton.mp m]; exact ⟨kn, dn6⟩
    obtain ⟨N1, kvs, eD, lk, wf1, cap1, nd2, kk, rel, alln⟩ := pw
    rw [lv, List.take_length] at rel alln
    rw [lv, List.drop_length, sizes_nil] at cap1
    have nm1 : NamesD H' D N1 (heads fs) := ⟨kvs, eD, by omega, rel, alln⟩
    have k2 : Kp [] H H' := k1.into kk fun p m => by
      rcases List.mem_cons.mp m with m | m
      · rw [m]; exact nD0
      · exact frA p m
    generalize H' = H2 at nd2 nm1 k2
    -- earlier
    refine ⟨rfl, fun e nE => ?_⟩
    have nE0 : H e = none := k2.free nE
    have eA0 := nd2.ne nE
    have eAll : ∀ p ∈ A.all, p ≠ e := fun p m z => eA0.2 p m z.symm
    have De : D ≠ e := by
      obtain ⟨_, ek, _⟩ := nm1
      exact ne_of_none ek nE
    refine ⟨_, rfl, a, vs, rfl, (k2.newT nE).sqT hS, ?_⟩
    refine for_enumT (K := K) (a := a) (xs := vs) (fun i σ H' => ∃ (y5 y6 y7 y8 : Option V) (S : L2.Key → Bool) (n : Nat) (N' : St0), σ = [some (.ref a), some (.ref A.no), some (.ref D), none, some (.ref e), y5, y6, y7, y8] ∧ Kp [] H H' ∧ NdOK H' Cn A N' ∧ WF N' ∧ NamesD H' D N' (heads fs) ∧ H' e = some (SetK P w e S n) ∧ n ≤ i ∧ N'.length + 2 * sizes (fs.drop i) ≤ 2 + 4 * sizes fs ∧
        (∀ k : Nat, S (Sum.inl (k : Int)) = true ↔ ∃ u ∈ heads (fs.take i), Den N' k u) ∧ ∀ j, j < i → ROk fs j)
      ⟨none, none, none, none, _, 0, N1, rfl, k2.newT nE, nd2.new nE, wf1, nm1.updN De, upd_same, Nat.le_refl _, by rw [List.drop_zero]; omega, fun k => ⟨fun h => (by cases h), fun ⟨u, m, _⟩ => absurd m (List.not_mem_nil)⟩, fun j h => absurd h (Nat.not_lt_zero _)⟩ (fun i σ H' pw => ?_) (fun i z T σ H3 hz pw nT => ?_) (fun σ H3 pw => ?_)
    · obtain ⟨_, _, _, _, _, _, _, _, k3, _⟩ := pw
      exact k3.sqT hS
    · obtain ⟨y5, y6, y7, y8, S, n, N', rfl, k3, nd3, wf3, nm3, eS, ni, cap, hS1, good⟩ := pw
      have il : i < fs.length := by rw [← lv]; exact (List.getElem?_eq_some_iff.mp hz).1
      have hg : fs[i]? = some fs[i] := List.getElem?_eq_getElem il
      have mem := List.getElem_mem il
      have dr : fs.drop i = fs[i] :: fs.drop (i + 1) := List.drop_eq_getElem_cons il
      have tk : heads (fs.take (i + 1)) = heads (fs.take i) ++ heads [fs[i]] := by rw [List.take_succ, hg, heads_app]; rfl
      rw [dr, sizes_cons] at cap
      obtain ⟨z', hz', tz⟩ := r.get hg
      rw [hz] at hz'
      cases hz'
      have sg := size_of_get hg
      generalize fs[i] = u at hg tz sg mem dr tk cap
      have k4 : Kp [] H3 (upd H3 T (.tup [.int (i : Nat), z])) := Kp.new nT
      have eS4 : (upd H3 T (.tup [.int (i : Nat), z])) e = some (SetK P w e S n) := k4.get eS (by simp)
      have eT : (upd H3 T (.tup [.int (i : Nat), z])) T = some (.tup [.int (i : Nat), z]) := upd_same
      have nd4 := nd3.new (o := .tup [.int (i : Nat), z]) nT
      generalize upd H3 T (.tup [.int (i : Nat), z]) = H4 at k4 eS4 eT nd4
      have k4' := k3.trans k4
      have nm4 := nm3.kp k4 (List.not_mem_nil)
      have tz4 := tz.kp k4'
      refine ⟨T, _, rfl, SqT.of_tup eT, rfl, _, _, rfl, _, _, rfl, rfl, ?_⟩
      have badi : ¬ ROk fs i → BadM (.l fs) (some i) := fun h => .inr ⟨hne, .inr ⟨i, rfl, by omega, h, good⟩⟩
      obtain ⟨ty, uu, q1, q2, q3⟩ := isi_tup tz4
      refine ⟨_, rfl, _, _, ty, uu, _, rfl, q1, q2, q3, _, rfl, ?_⟩
      cases u with
      | w x =>
        refine iteT (iteT ⟨_, rfl, by show 1 ≤ 1000; decide, fun a na => ?_⟩)
        exact raise i H4 k4'.keep (by omega) (badi fun ⟨n', is, e1, _⟩ => by rw [hg] at e1; cases e1) a na
      | l us =>
      refine iteF ?_
      obtain ⟨za, zvs, rfl, hZ, rZ⟩ := tz4.list
      refine ⟨_, rfl, _, tru_tup hZ, ?_⟩
      rw [emp_iff rZ]
      cases us with
      | nil =>
        refine iteT ⟨_, rfl, by show 1 ≤ 1000; decide, fun a na => ?_⟩
        exact raise i H4 k4'.keep (by omega) (badi fun ⟨n', is, e1, _⟩ => by rw [hg] at e1; cases e1) a na
      | cons n0 is =>
      refine iteF ?_
      obtain ⟨z0, zr, rfl, t0, tr⟩ := rZ.cons
      rw [size_l, sizes_cons] at cap sg
      refine ⟨_, rfl, A.no, A.dx, _, rfl, nd4.no, rfl, _, rfl, za, _, _, z0, rfl, rfl, hZ, atI_zero _ _, A, N', z0, n0, rfl, nd4, wf3, t0, by omega, by omega, fun N6 kn H6 wf6 ex6 ln6 dn6 nd6 k6 => ?_⟩
      have k6' := k4'.into k6 frA
      have eS6 := k6.get eS4 (fun m => eAll _ m rfl)
      have noD : D ∉ A.all := fun m => dAll _ m rfl
      have nm6 := (nm4.kp k6 noD).ext wf6 ex6
      have alln : ∀ u ∈ heads fs, ∃ k, Den N' k u := let ⟨_, _, _, _, al⟩ := nm4; al
      have hS6 : ∀ k : Nat, S (Sum.inl (k : Int)) = true ↔ ∃ u ∈ heads (fs.take i), Den N6 k u := fun k =>
        (hS1 k).trans (den_same wf6 ex6 (fun u m => alln u (by
          obtain ⟨is', m'⟩ := heads_mem.mp m
          exact heads_mem.mpr ⟨is', List.mem_of_mem_take m'⟩)) k).symm
      refine ⟨_, rfl, _, rfl, Sum.inl (kn : Int), e, S, n, rfl, rfl, eS6, S (Sum.inl (kn : Int)), rfl, ?_⟩
      have dup : S (Sum.inl (kn : Int)) = true ↔ n0 ∈ heads (fs.take i) := (hS6 kn).trans ⟨fun ⟨u, m, d⟩ => by rw [← d.fn dn6]; exact m, fun m => ⟨n0, m, dn6⟩⟩
      cases hk : S (Sum.inl (kn : Int)) with
      | true =>
        refine iteT ⟨_, rfl, by show 1 ≤ 1000; decide, fun a na => ?_⟩
        refine raise i H6 k6'.keep (by omega) (badi fun ⟨n', is', e1, h2, _⟩ => ?_) a na
        rw [hg] at e1
        have e2 := (List.cons.inj (Tree.l.inj (Option.some.inj e1))).1
        rw [← e2] at h2
        exact h2 (dup.mp hk)
      | false =>
      refine iteF ?_
      have nodup : n0 ∉ heads (fs.take i) := fun h => by rw [dup.mpr h] at hk; cases hk
      refine ⟨_, rfl, ⟨_, _, _, rfl, eS6⟩, _, rfl, e, Sum.inl (kn : Int), S, n, rfl, rfl, eS6, Nat.lt_of_le_of_lt (show n + 1 ≤ 1001 by omega) (by decide), ?_⟩
      have nd7 := nd6.updN (o := SetK P w e (fun x => S x || decide (x = Sum.inl (kn : Int))) (if S (Sum.inl (kn : Int)) = true then n else n + 1)) (fun z => eA0.1 z.symm) eAll
      have nm7 := nm6.updN (o := SetK P w e (fun x => S x || decide (x = Sum.inl (kn : Int))) (if S (Sum.inl (kn : Int)) = true then n else n + 1)) De
      have k7 := k6'.updNew (o := SetK P w e (fun x => S x || decide (x = Sum.inl (kn : Int))) (if S (Sum.inl (kn : Int)) = true then n else n + 1)) nE0
      have eS7 : (upd H6 e (SetK P w e (fun x => S x || decide (x = Sum.inl (kn : Int))) (if S (Sum.inl (kn : Int)) = true then n else n + 1))) e = some (SetK P w e (fun x => S x || decide (x = Sum.inl (kn : Int))) (if S (Sum.inl (kn : Int)) = true then n else n + 1)) := upd_same
      refine ⟨_, rfl, ?_⟩
      dsimp only [tNoPart]
      refine ⟨_, rfl, ?_⟩
      refine sl_tr (tz.kp k7) fun v2 H8 tv2 k8 => ?_
      rw [show cutL (n0 :: is) (some (1 : Int)) none = is from cutL_from (n0 :: is) (i := 1) (by rw [List.length_cons]; omega)] at tv2
      obtain ⟨ay, wy, rfl, hY, try_⟩ := tv2.list
      have ly := try_.length
      have kk8 := Kp.of k8
      have k08 := k7.trans kk8
      have nd8 := nd7.kp0 kk8
      have nm8 := nm7.kp kk8 (List.not_mem_nil)
      have eS8 := k8.get eS7 (List.not_mem_nil)
      have hS8 : ∀ k : Nat, (S (Sum.inl (k : Int)) || decide ((Sum.inl (k : Int) : L2.Key) = Sum.inl (kn : Int))) = true ↔ ∃ u ∈ heads (fs.take (i + 1)), Den N6 k u := fun k => by
        rw [Bool.or_eq_true, decide_eq_true_eq, hS6, tk, heads_l]
        constructor
        · rintro (⟨u, m, d⟩ | h)
          · exact ⟨u, List.mem_append_left _ m, d⟩
          · rw [nat_inl.mp h]
            exact ⟨n0, List.mem_append_right _ (List.mem_singleton.mpr rfl), dn6⟩
        · rintro ⟨u, m, d⟩
          rcases List.mem_append.mp m with m | m
          · exact .inl ⟨u, m, d⟩
          · rw [List.mem_singleton.mp m] at d
            exact .inr (nat_inl.mpr (Den.inj wf6 d dn6))
      have nn : (if S (Sum.inl (kn : Int)) = true then n else n + 1) ≤ i + 1 := by split <;> omega
      generalize (if S (Sum.inl (kn : Int)) = true then n else n + 1) = n' at eS8 nn
      generalize hS' : (fun x => S x || decide (x = Sum.inl (kn : Int))) = S' at eS8
      have hS9 : ∀ k : Nat, S' (Sum.inl (k : Int)) = true ↔ ∃ u ∈ heads (fs.take (i + 1)), Den N6 k u := fun k => by rw [← hS']; exact hS8 k
      refine ⟨ay, rfl, ⟨wy, hY⟩, ?_⟩
      refine for_tup (K := K) (a := ay) (xs := wy) (D := { nx := _, rt := Q }) (fun j σ H' => ∃ (y8 : Option V) (N7 : St0), σ = [some (.ref a), some (.ref A.no), some (.ref D), none, some (.ref e), some (.int (i : Nat)), some (.ref za), some (.int (kn : Nat)), y8] ∧ Kp [] H H' ∧ Kp A.all H8 H' ∧ NdOK H' Cn A N7 ∧ WF N7 ∧ Ext N6 N7 ∧ NamesD H' D N7 (heads fs) ∧ N7.length + 2 * sizes (is.drop j) + 2 * sizes (fs.drop (i + 1)) ≤ 2 + 4 * sizes fs ∧ ∀ t ∈ is.take j, InsOk (heads fs) t)
        ⟨y8, N6, rfl, k08, Kp.refl, nd8, wf6, Ext.refl _, nm8, by rw [List.drop_zero]; omega, fun t m => absurd m (List.not_mem_nil)⟩ (fun j σ H' _ pw => ?_) (fun j z2 σ H9 hz2 pw => ?_) (fun σ H9 pw => ?_)
      · obtain ⟨_, _, _, _, kk, _⟩ := pw
        exact kk.sqT hY
      · obtain ⟨y8', N7, rfl, k09, k89, nd9, wf9, ex9, nm9, cap9, good9⟩ := pw
        have jl : j < is.length := by rw [← ly]; exact (List.getElem?_eq_some_iff.mp hz2).1
        have hg2 : is[j]? = some is[j] := List.getElem?_eq_getElem jl
        have mem2 := List.getElem_mem jl
        have dr2 : is.drop j = is[j] :: is.drop (j + 1) := List.drop_eq_getElem_cons jl
        have tk2 : is.take (j + 1) = is.take j ++ [is[j]] := by rw [List.take_succ, hg2]; rfl
        rw [dr2, sizes_cons] at cap9
        obtain ⟨z2', hz2', tz2⟩ := (try_.kp k89).get hg2
        rw [hz2] at hz2'
        cases hz2'
        have sg2 := size_of_get hg2
        generalize is[j] = u2 at hg2 dr2 tk2 cap9 tz2 mem2 sg2
        refine ⟨_, rfl, _, rfl, _, rfl, A, N7, z2, u2, D, heads fs, rfl, tz2, nd9, wf9, nm9, noD, by omega, by omega, fun b N8 H10 hb wf10 ex10 ln10 nd10 k10 => ⟨_, rfl, ?_⟩⟩
        have k010 := k09.into k10 frA
        cases b with
        | false =>
          refine iteT ⟨_, rfl, by show 1 ≤ 1000; decide, fun a na => ?_⟩
          refine raise i H10 k010.keep (by omega) (badi fun ⟨n', is', e1, _, h3⟩ => ?_) a na
          rw [hg] at e1
          have e2 := (List.cons.inj (Tree.l.inj (Option.some.inj e1))).2
          rw [← e2] at h3
          have := hb.mpr (h3 u2 mem2)
          cases this
        | true =>
          refine iteF ?_
          refine ⟨_, N8, rfl, k010, k89.trans k10, nd10, wf10, ex9.trans ex10, (nm9.kp k10 noD).ext wf10 ex10, by omega, fun t m => ?_⟩
          rw [tk2] at m
          rcases List.mem_append.mp m with m | m
          · exact good9 t m
          · rw [List.mem_singleton.mp m]; exact hb.mp rfl
      · obtain ⟨y8', N7, rfl, k09, k89, nd9, wf9, ex9, nm9, cap9, good9⟩ := pw
        rw [ly, List.take_length] at good9
        rw [ly, List.drop_length, sizes_nil] at cap9
        refine ⟨_, _, _, _, S', n', N7, rfl, k09, nd9, wf9, nm9, k89.get eS8 (fun m => eAll _ m rfl), nn, by omega, fun k => ?_, fun j' h => ?_⟩
        · rw [hS9]
          exact (den_same wf9 ex9 (fun u m => by
            obtain ⟨is', m'⟩ := heads_mem.mp m
            obtain ⟨k0, d0⟩ := alln u (heads_mem.mpr ⟨is', List.mem_of_mem_take m'⟩)
            exact ⟨k0, d0.ext ex6⟩) k).symm
        · by_cases ji : j' < i
          · exact good j' ji
          · have : j' = i := by omega
            subst this
            exact ⟨n0, is, hg, nodup, good9⟩
    · obtain ⟨y5, y6, y7, y8, S, n, N', rfl, k3, nd3, wf3, nm3, eS, ni, cap, hS1, good⟩ := pw
      exact q H3 (.inr ⟨hne, .inl ⟨rfl, fun i h => good i (by omega)⟩⟩) k3.keep
end
end Og

namespace Og
open PySem PySem.Spec PyProof.Rows L2
/-! ### _law_value, _law_expression -/
def MV : Nat → Nat
  | 0 => 1
  | n + 1 => 1 + 3 * MV n
theorem MV.pos (n : Nat) : 1 ≤ MV n := by
  cases n with
  | zero => exact Nat.le_refl _
  | succ n => show 1 ≤ 1 + 3 * MV n; omega
def vwords : List (List Nat) := [[121, 101, 115], [97], [112, 117, 115, 104], [102, 48], [98, 50], [99, 111, 112, 121], [112, 49], [120]]
section
variable {P : Program} {w : World} {K : PySem.W.Frag} {mg : Str → Option Value} {base : Heap}
def spVal (K : PySem.W.Frag) (n : Nat) : Sp := fun vs H Q _ => ∃ (h d : Addr), vs = [.ref h, .int n] ∧ Hd H h d ∧
  ∀ (v : V) (t : Tree) (H' : Hp), Tr K H' v t → WT t → t.size ≤ MV n → Deep n t → Keep [h] H H' → Hd H' h d → Q v H'
theorem has_val {k : Nat} (D : DefAt K mg "_law_value" s_law_value p_law_value) (B : Bn mg) (c1 : Has P w K mg base k "_law_take" p_law_take spTake) : ∀ n, Has P w K mg base (k + n + 1) "_law_value" p_law_value (spVal K n) := by
  obtain ⟨f, fd, F, hm, hb⟩ := D.ex
  have step : ∀ n sp, Callee P w K mg base CX0 (k + n) "_law_value" f fd p_law_value sp → (∀ m, n = m + 1 → ∀ vs H Q E, spVal K m vs H Q E → sp vs H Q E) → FnOk P w K mg base CX0 (k + n + 1) f fd p_law_value (spVal K n) := fun n sp c_law_value hsp => by
    obtain ⟨_, _, c_law_take⟩ := c1.mono (show k ≤ k + n by omega)
    refine F.ok sc_law_value (fun vs H Q E h => ?_) (fun cdv A outer s H vs Q E hr h => ?_)
    · obtain ⟨_, _, rfl, _⟩ := h
      rfl
    obtain ⟨a, d, rfl, hd, q⟩ := h
    refine ⟨_, (pss_cons (ps_if (PW.pt (pw_or (pt_cmpR op_eq (pv 1) pe_int (nomark _)) (pw_or1 (pt_cmpR op_eq (cal c_law_take hr rfl (pa_cons (pv 0) (pa_cons pe_int pa_nil))) pe_int (nomark _))))) (pss_one (ps_ret (pe_ix ix_list (pe_lst (pa_cons pe_str (pa_cons pe_str (pa_cons pe_str (pa_cons pe_str (pa_cons pe_str (pa_cons pe_str (pa_cons pe_str (pa_cons pe_str pa_nil))))))))) (cal c_law_take hr rfl (pa_cons (pv 0) (pa_cons pe_int pa_nil))) (fun _ _ => rfl)))) pss_nil)
    (pss_one (ps_ret (pe_callTy call_tuple_of (by rfl) B.tuple (by decide +kernel) (pa_cons (pe_lc (own := [("k", 2)]) (g := gName 2) (tt := tYes) rfl sc_law_value.nd (pi_range1 (by rfl) B.range (pa_cons (cal c_law_take hr rfl (pa_cons (pv 0) (pa_cons pe_int pa_nil))) pa_nil)) (blkOk_by (N := n_law_value) (sc := defScope s_law_value) (by decide +kernel)) (fun _ _ _ _ _ => pg_name (i := 2) sc_law_value.nd rfl (Or.inl rfl)) (fun _ _ _ _ _ => pts_nil) (fun _ _ _ _ _ => (cal c_law_value hr rfl (pa_cons (pv 0) (pa_cons (pe_op op_sub (pv 1) pe_int) pa_nil))))) pa_nil))))), ?_⟩
    have word : ∀ (p : Addr) (H1 : Hp), Keep [a] H H1 → Hd H1 a d → H1 p = none → spTake [.ref a, .int 8] (upd H1 p (.lst [.str "yes", .str "a", .str "push", .str "f0", .str "b2", .str "copy", .str "p1", .str "x"])) (fun y H2 => rIxL K (.ref p) y H2 Q) E0 := fun p H1 k1 hd1 np => by
      refine ⟨a, d, 8, rfl, hd1.new np, by decide, fun j H2 j0 j1 k2 hd2 => ?_⟩
      have pa : p ≠ a := (hd1.neH np).symm
      obtain ⟨c, hc, wc, _⟩ := pick (L := vwords) (xs := [.str "yes", .str "a", .str "push", .str "f0", .str "b2", .str "copy", .str "p1", .str "x"]) (by decide +kernel) (by decide) j0 j1
      refine ⟨p, _, j, _, rfl, rfl, SqL.of (k2.get upd_same (by simpa using pa)), hc, ?_⟩
      exact q _ _ H2 tr_w (wt_w wc) (by rw [size_w]; exact MV.pos n) (deep_w _ _) ((k1.trans (Keep.new np)).trans k2) hd2
    refine ⟨_, rfl, rfl, _, rfl, ?_⟩
    cases n with
    | zero => exact iteT (iteT ⟨by show (8 : Nat) ≤ sizeLine; decide, fun p np => ⟨_, rfl, word p H Keep.refl hd np⟩⟩)
    | succ m =>
      rw [dF (by omega)]
      refine iteF ?_
      refine ⟨_, rfl, a, d, 3, rfl, hd, by decide, fun i H1 i0 i1 k1 hd1 => ?_⟩
      refine ⟨rfl, _, rfl, ite2 (fun c => ?_) (fun c => ?_)⟩
      · exact ⟨by show (8 : Nat) ≤ sizeLine; decide, fun p np => ⟨_, rfl, word p H1 k1 hd1 np⟩⟩
      refine ⟨_, rfl, a, d, 4, rfl, hd1, by decide, fun z H2 z0 z1 k2 hd2 => ?_⟩
      refine ⟨_, rfl, by omega, by omega, fun L nL => ?_⟩
      have La : L ≠ a := (hd2.neH nL).symm
      have Ld : L ≠ d := (hd2.neD nL).symm
      have k12 := k1.trans k2
      have nL0 : H L = none := k12.free nL
      refine lc_range (lo := 0) (n := z.toNat) (fun i H' => ∃ vs ts, H' L = some (.lst vs) ∧ Trs K H' vs ts ∧ ts.length = i ∧ (∀ t ∈ ts, WT t ∧ t.size ≤ MV m ∧ Deep m t) ∧ Keep [a] H H' ∧ Hd H' a d)
        ⟨[], [], upd_same, trs_nil, rfl, by simp, k12.newT nL, hd2.new nL⟩ (fun i H5 hi p => ?_) (fun H5 p => ?_)
      · obtain ⟨vs, ts, e1, e2, e3, e4, k6, hd5⟩ := p
        refine ⟨rfl, yes ?_⟩
        refine ⟨_, rfl, _, rfl, _, _, rfl, rfl, hsp m rfl _ _ _ _ ⟨a, d, ?_, hd5, fun v t H6 tv wt sz dp k7 hd6 => ?_⟩⟩
        · show [V.ref a, V.int ((((m + 1 : Nat)) : Int) - 1)] = [V.ref a, V.int (m : Int)]
          rw [show (((m + 1 : Nat)) : Int) - 1 = (m : Int) by omega]
        have e1' : H6 L = some (.lst vs) := k7.get e1 (by simpa using La)
        have k8 : Keep [L] H6 (upd H6 L (.lst (vs ++ [v]))) := Keep.set e1' (List.mem_cons_self ..)
        refine ⟨vs, e1', ?_, vs ++ [v], ts ++ [t], upd_same, (e2.keep k7 |>.append (trs_cons tv trs_nil)).keep k8, by rw [List.length_append, e3]; rfl, ?_, ((k6.trans k7).cons.trans (k8.mono (by simp))).drop nL0, hd6.upd La.symm Ld.symm⟩
        · rw [e2.length]
          exact sizeLt (by omega)
        · intro u hu
          rcases List.mem_append.mp hu with m | m
          · exact e4 u m
          · rw [List.mem_singleton.mp m]
            exact ⟨wt, sz, dp⟩
      · obtain ⟨vs, ts, e1, e2, e3, e4, k6, hd5⟩ := p
        refine ⟨L, vs, rfl, .inl ⟨SqL.of e1, fun T nT => ?_⟩⟩
        refine q _ (.l ts) _ (tr_tup upd_same (e2.keep (Keep.new (S := []) nT))) (wt_l (WTs.of fun t m => (e4 t m).1)) ?_ (fun t m => (e4 t m).2.2) (k6.newT nT) (hd5.new nT)
        rw [size_l]
        have h1 := sizes_le fun t m => (e4 t m).2.1
        have l : ts.length ≤ 3 := by omega
        have h2 := Nat.mul_le_mul_right (MV m) l
        show _ ≤ 1 + 3 * MV m
        omega
  have all : ∀ n, FnOk P w K mg base CX0 (k + n + 1) f fd p_law_value (spVal K n) := fun n => by
    induction n with
    | zero => exact step 0 (fun _ _ _ _ => False) ⟨⟨fun _ _ _ _ h => h.elim, fun _ _ _ _ _ _ _ _ _ _ _ _ _ h => h.elim⟩, hm, F.kp, hb⟩ fun m e => by cases e
    | succ m ih => exact step (m + 1) (spVal K m) ⟨ih, hm, F.kp, hb⟩ fun m' e vs H Q E q => by cases e; exact q
  exact fun n => ⟨f, fd, all n, hm, F.kp, hb⟩
end
end Og

namespace Og
open PySem PySem.Spec PyProof.Rows L2
section
variable {P : Program} {w : World} {K : PySem.W.Frag} {mg : Str → Option Value} {base : Heap}
/-! ### the law's own check -/
def spNamesIn (K : PySem.W.Frag) : Sp := fun vs H Q _ => ∃ (v : V) (fs : List Tree), vs = [v] ∧ Tr K H v (.l fs) ∧ fs.length ≤ 10000 ∧
  ∀ (L : Addr) (ns : List V) (H' : Hp), H L = none → H' L = some (.lst ns) → Trs K H' ns (heads fs) → Keep [] H H' → Q (.ref L) H'
theorem has_namesIn {k : Nat} (D : DefAt K mg "_law_names_in" s_law_names_in p_law_names_in) (B : Bn mg) : Has P w K mg base (k + 1) "_law_names_in" p_law_names_in (spNamesIn K) := by
  obtain ⟨f, fd, F, hm, hb⟩ := D.ex
  refine ⟨f, fd, F.ok sc_law_names_in (fun vs H Q E h => ?_) (fun cdv A outer s H vs Q E hr h => ?_), hm, F.kp, hb⟩
  · obtain ⟨_, _, rfl, _⟩ := h
    rfl
  obtain ⟨v, fs, rfl, tv, few, q⟩ := h
  refine ⟨_, (pss_cons (ps_set (i := 1) sc_law_names_in.nd rfl (.inl rfl) (pe_lst pa_nil))
    (pss_cons (ps_for PassesOwn.never rfl (pi_tup (pv 0)) (pg_name (i := 2) sc_law_names_in.nd rfl (.inl rfl))
      (pss_one (ps_if (PW.pt (pw_and (pt_val (pe_callB call_isi (by rfl) B.isinstance (by decide +kernel) (pa_cons (pv 2) (pa_cons (pe_bltn (v := .ty "tuple") rfl B.tuple (by decide +kernel) rfl) pa_nil)))) (pw_and1 (pt_cmpR op_gt (pe_callB call_len_seq (by rfl) B.len PySem.boot_len (pa_cons (pv 2) pa_nil)) pe_int (nomark _))))) (pss_one (ps_expr (pe_bm PySem.F.plainAttrs_list PySem.F.slot_list_append PySem.F.type_list_append mt_append (pv 1) (pa_cons (pe_ix ix_tup (pv 2) pe_int (fun _ _ => rfl)) pa_nil)))) pss_nil)))
    (pss_one (ps_ret (pv 1))))), ?_⟩
  obtain ⟨a, vs, rfl, hS, r⟩ := tv.list
  have lv := r.length
  refine ⟨Nat.zero_le _, fun L nL => ?_⟩
  refine ⟨_, rfl, a, rfl, ⟨_, (Keep.new (S := []) nL).sqT hS⟩, ?_⟩
  refine for_tup (K := K) (a := a) (xs := vs) (fun i σ H' => ∃ (y2 : Option V) (ns : List V), σ = [some (.ref a), some (.ref L), y2] ∧ Keep [] H H' ∧ H' L = some (.lst ns) ∧ Trs K H' ns (heads (fs.take i)))
    ⟨none, [], rfl, Keep.new nL, upd_same, trs_nil⟩ (fun i σ H' _ pw => ?_) (fun i z σ H1 hz pw => ?_) (fun σ H1 pw => ?_)
  · obtain ⟨_, _, _, k1, _⟩ := pw
    exact k1.sqT hS
  · obtain ⟨y2, ns, rfl, k1, eL, rn⟩ := pw
    have il : i < fs.length := by rw [← lv]; exact (List.getElem?_eq_some_iff.mp hz).1
    have hg : fs[i]? = some fs[i] := List.getElem?_eq_getElem il
    have tk : heads (fs.take (i + 1)) = heads (fs.take i) ++ heads [fs[i]] := by rw [List.take_succ, hg, heads_app]; rfl
    obtain ⟨z', hz', tz⟩ := (r.keep k1).get hg
    rw [hz] at hz'
    cases hz'
    generalize fs[i] = u at hg tk tz
    have skip : heads [u] = [] → ∃ (y2 : Option V) (ns : List V), [some (.ref a), some (.ref L), some z] = [some (.ref a), some (.ref L), y2] ∧ Keep [] H H1 ∧ H1 L = some (.lst ns) ∧ Trs K H1 ns (heads (fs.take (i + 1))) := fun e => by
      rw [tk, e, List.append_nil]
      exact ⟨_, ns, rfl, k1, eL, rn⟩
    obtain ⟨ty, uu, q1, q2, q3⟩ := isi_tup tz
    refine ⟨_, rfl, _, _, ty, uu, _, rfl, q1, q2, q3, _, rfl, ?_⟩
    cases u with
    | w x => exact iteF (iteF (skip rfl))
    | l us =>
    refine iteT ?_
    obtain ⟨za, zvs, rfl, hZ, rZ⟩ := tz.list
    have lz := rZ.length
    refine ⟨_, rfl, za, zvs, rfl, .inr hZ, _, _, rfl, rfl, _, rfl, ?_⟩
    cases us with
    | nil =>
      rw [decide_eq_false (show ¬ ((0 : Int) < (zvs.length : Int)) by rw [lz]; show ¬ (0 : Int) < 0; omega)]
      exact iteF (skip rfl)
    | cons n0 is =>
    rw [decide_eq_true (show (0 : Int) < (zvs.length : Int) by rw [lz, List.length_cons]; omega)]
    refine iteT ?_
    obtain ⟨z0, zr, rfl, t0, tr⟩ := rZ.cons
    have ln : ns.length ≤ 10000 := by rw [rn.length]; exact Nat.le_trans (heads_len _) (by rw [List.length_take]; omega)
    have kL : Keep [L] H1 (upd H1 L (.lst (ns ++ [z0]))) := Keep.set eL (List.mem_cons_self ..)
    refine ⟨_, rfl, .inl ⟨rfl, _, SqL.of eL⟩, _, rfl, za, _, _, z0, rfl, rfl, hZ, atI_zero _ _, L, ns, _, rfl, rfl, eL, Nat.lt_of_le_of_lt ln (by decide), ?_⟩
    refine ⟨_, ns ++ [z0], rfl, (k1.cons.trans kL).drop nL, upd_same, ?_⟩
    rw [tk, heads_l]
    exact (rn.append (Trs.one t0)).keep kL
  · obtain ⟨y2, ns, rfl, k1, eL, rn⟩ := pw
    rw [lv, List.take_length] at rn
    exact ⟨_, rfl, q L ns H1 nL eL rn k1⟩
/-- one of the instructions -/
theorem ar_one {x : List Nat} (h : x ∈ [sameW, wordW, headW, tailW, joinW]) : arI x = some 1 := by
  simp only [List.mem_cons, List.not_mem_nil, or_false] at h
  rcases h with rfl | rfl | rfl | rfl | rfl <;> decide +kernel
theorem plain_one {x : List Nat} (h : x ∈ [sameW, wordW, headW, tailW, joinW]) : ¬ (x = copyW ∨ x = slideW) ∧ ¬ (x = callW ∨ x = ifW) := by
  simp only [List.mem_cons, List.not_mem_nil, or_false] at h
  rcases h with rfl | rfl | rfl | rfl | rfl <;> decide +kernel
theorem inV_ones (x : List Nat) : inV (.str (tx x)) [V.str "same", .str "word", .str "head", .str "tail", .str "join"] = decide (x ∈ [sameW, wordW, headW, tailW, joinW]) := by
  rw [← inV_strsM x [sameW, wordW, headW, tailW, joinW], show [V.str "same", V.str "word", V.str "head", V.str "tail", V.str "join"] = [sameW, wordW, headW, tailW, joinW].map (fun c => V.str (tx c)) by decide +kernel]
theorem lit_push : ("push" : Str) = tx pushW := by decide +kernel
theorem lit_copy : ("copy" : Str) = tx copyW := by decide +kernel
theorem lit_slide : ("slide" : Str) = tx slideW := by decide +kernel
theorem lit_call : ("call" : Str) = tx callW := by decide +kernel
theorem lit_if : ("if" : Str) = tx ifW := by decide +kernel
def NL (K : PySem.W.Frag) (H : Hp) (L : Addr) (hs : List Tree) : Prop := ∃ ns, H L = some (.lst ns) ∧ Trs K H ns hs
theorem NL.keep {S : List Addr} {H H1 : Hp} {L : Addr} {hs : List Tree} (h : NL K H L hs) (k : Keep S H H1) (no : L ∉ S) : NL K H1 L hs := by
  obtain ⟨ns, e, r⟩ := h
  exact ⟨ns, k.get e no, r.keep k⟩
def spIG (K : PySem.W.Frag) : Sp := fun vs H Q _ => ∃ (v : V) (L : Addr) (t : Tree) (hs : List Tree), vs = [v, .ref L] ∧ Tr K H v t ∧ NL K H L hs ∧ (∀ u ∈ hs, td u ≤ 200) ∧ ∀ (b : Bool) (H' : Hp), (b = true ↔ InsOk hs t) → Keep [] H H' → Q (.bl b) H'
theorem has_insGood {k : Nat} (D : DefAt K mg "_law_instruction_good" s_law_instruction_good p_law_instruction_good) (B : Bn mg) : Has P w K mg base (k + 2) "_law_instruction_good" p_law_instruction_good (spIG K) := by
  obtain ⟨f, fd, F, hm, hb⟩ := D.ex
  refine ⟨f, fd, F.ok sc_law_instruction_good (fun vs H Q E h => ?_) (fun cdv A outer s H vs Q E hr h => ?_), hm, F.kp, hb⟩
  · obtain ⟨_, _, _, _, rfl, _⟩ := h
    rfl
  obtain ⟨v, L, t, hs, rfl, tv, nl, dp, q⟩ := h
  have hn : 200 + 1 ≤ 16 * (k + 1) + 200 := by omega
  refine ⟨_, (pss_cons (ps_if (PW.pt (pw_or (pt_not (pt_val (pe_callB call_isi (by rfl) B.isinstance (by decide +kernel) (pa_cons (pv 0) (pa_cons (pe_bltn (v := .ty "tuple") rfl B.tuple (by decide +kernel) rfl) pa_nil))))) (pw_or (pt_cmpR op_eq (pe_callB call_len_seq (by rfl) B.len PySem.boot_len (pa_cons (pv 0) pa_nil)) pe_int (nomark _)) (pw_or1 (pt_not (pt_val (pe_callB call_isi (by rfl) B.isinstance (by decide +kernel) (pa_cons (pe_ix ix_tup (pv 0) pe_int (fun _ _ => rfl)) (pa_cons (pe_bltn (v := .ty "str") rfl B.str (by decide +kernel) rfl) pa_nil))))))))) (pss_one (ps_ret pe_bl)) pss_nil)
    (pss_cons (ps_if (pt_cmpR op_in_seq (pe_ix ix_tup (pv 0) pe_int (fun _ _ => rfl)) (pe_lst (pa_cons pe_str (pa_cons pe_str (pa_cons pe_str (pa_cons pe_str (pa_cons pe_str pa_nil)))))) (by rfl)) (pss_one (ps_ret (pe_cmpR op_eq (pe_callB call_len_seq (by rfl) B.len PySem.boot_len (pa_cons (pv 0) pa_nil)) pe_int (nomark _)))) pss_nil)
    (pss_cons (ps_if (pt_cmpR op_eq (pe_ix ix_tup (pv 0) pe_int (fun _ _ => rfl)) pe_str (nomark _)) (pss_one (ps_ret (pe_cmpR op_eq (pe_callB call_len_seq (by rfl) B.len PySem.boot_len (pa_cons (pv 0) pa_nil)) pe_int (nomark _)))) pss_nil)
    (pss_cons (ps_if (PW.pt (pw_or (pt_cmpR op_eq (pe_ix ix_tup (pv 0) pe_int (fun _ _ => rfl)) pe_str (nomark _)) (pw_or1 (pt_cmpR op_eq (pe_ix ix_tup (pv 0) pe_int (fun _ _ => rfl)) pe_str (nomark _))))) (pss_one (ps_ret (pe_and (pe_cmpR op_eq (pe_callB call_len_seq (by rfl) B.len PySem.boot_len (pa_cons (pv 0) pa_nil)) pe_int (nomark _)) (pe_one (pe_callB call_isi (by rfl) B.isinstance (by decide +kernel) (pa_cons (pe_ix ix_tup (pv 0) pe_int (fun _ _ => rfl)) (pa_cons (pe_bltn (v := .ty "tuple") rfl B.tuple (by decide +kernel) rfl) pa_nil))))))) pss_nil)
    (pss_cons (ps_if (pt_cmpR op_eq (pe_ix ix_tup (pv 0) pe_int (fun _ _ => rfl)) pe_str (nomark _)) (pss_one (ps_ret (pe_and (pe_cmpR op_eq (pe_callB call_len_seq (by rfl) B.len PySem.boot_len (pa_cons (pv 0) pa_nil)) pe_int (nomark _)) (pe_one (pe_cmpR (op_inTm (n := 200) (room_n hr hn)) (pe_ix ix_tup (pv 0) pe_int (fun _ _ => rfl)) (pv 1) (by rfl)))))) pss_nil)
    (pss_one (ps_ret (pe_and (pe_cmpR op_eq (pe_ix ix_tup (pv 0) pe_int (fun _ _ => rfl)) pe_str (nomark _)) (pe_and (pe_cmpR op_eq (pe_callB call_len_seq (by rfl) B.len PySem.boot_len (pa_cons (pv 0) pa_nil)) pe_int (nomark _)) (pe_and (pe_cmpR (op_inTm (n := 200) (room_n hr hn)) (pe_ix ix_tup (pv 0) pe_int (fun _ _ => rfl)) (pv 1) (by rfl)) (pe_one (pe_cmpR (op_inTm (n := 200) (room_n hr hn)) (pe_ix ix_tup (pv 0) pe_int (fun _ _ => rfl)) (pv 1) (by rfl))))))))))))), ?_⟩
  have no : ∀ {G : Hp}, Keep [] H G → ¬ InsOk hs t → Q (.bl false) G := fun kk h => q false _ ⟨fun z => (by cases z), fun z => absurd z h⟩ kk
  obtain ⟨ty, u, q1, q2, q3⟩ := isi_tup tv
  refine ⟨_, rfl, _, _, ty, u, _, rfl, q1, q2, q3, _, rfl, ?_⟩
  cases t with
  | w x => exact iteT (iteT (no Keep.refl fun h => h))
  | l fs =>
  refine iteF ?_
  obtain ⟨a, vs, rfl, hS, r⟩ := tv.list
  have lv := r.length
  refine ⟨_, rfl, a, vs, rfl, .inr hS, rfl, _, rfl, ?_⟩
  cases fs with
  | nil =>
    rw [dT (by rw [lv]; rfl)]
    exact iteT (iteT (no Keep.refl fun h => h))
  | cons t0 ps =>
  rw [dF (by rw [lv, List.length_cons]; omega)]
  refine iteF ?_
  obtain ⟨v0, r0, rfl, h0, rr⟩ := r.cons
  have lr : r0.length = ps.length := rr.length
  obtain ⟨ty, u, q1, q2, q3⟩ := isi_str h0
  refine ⟨_, rfl, a, _, _, v0, rfl, rfl, hS, atI_zero _ _, _, _, ty, u, _, rfl, q1, q2, q3, _, rfl, ?_⟩
  cases t0 with
  | l us => exact iteT (no Keep.refl fun h => h)
  | w x =>
  refine iteF ?_
  have e0 := h0.word
  subst e0
  have ki : ∀ {n m : Nat}, decide (V.int (n : Int) = V.int (m : Int)) = true ↔ n = m := fun {n m} => by
    rw [decide_eq_true_eq]
    constructor
    · intro h; have := V.int.inj h; omega
    · intro h; rw [h]
  have lv' : (V.str (tx x) :: r0).length = ps.length + 1 := by rw [List.length_cons, lr]
  refine ⟨_, rfl, a, _, _, _, rfl, rfl, hS, atI_zero _ _, by show (5 : Nat) ≤ sizeLine; decide, fun p np => ?_⟩
  have k1 : Keep [] H (upd H p (.lst [V.str "same", .str "word", .str "head", .str "tail", .str "join"])) := Keep.new np
  have ep : (upd H p (.lst [V.str "same", .str "word", .str "head", .str "tail", .str "join"])) p = some (.lst [V.str "same", .str "word", .str "head", .str "tail", .str "join"]) := upd_same
  generalize upd H p (.lst [V.str "same", .str "word", .str "head", .str "tail", .str "join"]) = H1 at k1 ep
  have hS1 := k1.sqT hS
  have nl1 := nl.keep k1 (List.not_mem_nil)
  have rr1 := rr.keep k1
  refine ⟨p, _, rfl, .inl (SqL.of ep), rfl, rfl, _, rfl, ?_⟩
  rw [show (if (false : Bool) = true then !inV (V.str (tx x)) [V.str "same", .str "word", .str "head", .str "tail", .str "join"] else inV (V.str (tx x)) [V.str "same", .str "word", .str "head", .str "tail", .str "join"]) = decide (x ∈ [sameW, wordW, headW, tailW, joinW]) from inV_ones x]
  by_cases hx : x ∈ [sameW, wordW, headW, tailW, joinW]
  · rw [decide_eq_true hx]
    refine iteT ⟨_, rfl, a, _, rfl, .inr hS1, rfl, q _ _ ?_ k1⟩
    rw [lv']
    refine (ki (m := 1)).trans ?_
    rw [insOk_c, ar_one hx]
    constructor
    · intro h
      rw [h]
      exact ⟨rfl, fun z => absurd z (plain_one hx).1, fun z => absurd z (plain_one hx).2⟩
    · intro h
      exact (Option.some.inj h.1).symm
  rw [decide_eq_false hx]
  refine iteF ?_
  refine ⟨_, rfl, a, _, _, _, rfl, rfl, hS1, atI_zero _ _, rfl, _, rfl, ?_⟩
  rw [lit_push]
  by_cases h1 : x = pushW
  · rw [sT h1]
    refine iteT ⟨_, rfl, a, _, rfl, .inr hS1, rfl, q _ _ ?_ k1⟩
    rw [lv']
    refine (ki (m := 2)).trans ?_
    rw [insOk_c, h1, show arI pushW = some 2 by decide +kernel]
    constructor
    · intro h
      rw [h]
      exact ⟨rfl, fun z => absurd z (by decide), fun z => absurd z (by decide)⟩
    · intro h
      exact (Option.some.inj h.1).symm
  rw [sF h1]
  refine iteF ?_
  have second : ∀ {Z : Prop}, ps.length = 1 → (∀ (p1 : Tree) (v1 : V), ps = [p1] → r0 = [v1] → Tr K H1 v1 p1 → SqT K H1 a [.str (tx x), v1] → Z) → Z := fun {Z} l k => by
    match ps, l, rr1 with
    | [p1], _, rr1 =>
    obtain ⟨v1, rest, rfl, t1, r1⟩ := rr1.cons
    have := r1.nil
    subst this
    exact k p1 v1 rfl rfl t1 hS1
  have cs : ∀ {Z : Bool → Prop}, (x = copyW ∨ x = slideW) → tAndV (tOp rEq (tCB (rLenK K) (tCons (tVar 0) tNil)) (tC (.int 2))) (tCB (rIsi K) (tCons (tOp (rIxT K) (tVar 0) (tC (.int 1))) (tCons (tC (.ty "tuple")) tNil))) [some (.ref a), some (.ref L)] H1 Q := fun {Z} hc => by
    have ar : arI x = some 2 := by rcases hc with h | h <;> rw [h] <;> decide +kernel
    refine ⟨_, rfl, a, _, rfl, .inr hS1, rfl, _, rfl, ?_⟩
    by_cases l : ps.length = 1
    · refine second l fun p1 v1 e1 e2 t1 hS2 => ?_
      rw [show decide (V.int (((V.str (tx x) :: r0).length : Nat) : Int) = V.int 2) = true from (ki (n := (V.str (tx x) :: r0).length) (m := 2)).mpr (by rw [lv', l])]
      obtain ⟨ty, u, g1, g2, g3⟩ := isi_tup t1
      refine iteT ⟨_, rfl, a, _, _, v1, rfl, rfl, hS2, atI_nat (j := 1) rfl, _, _, ty, u, _, rfl, g1, g2, g3, q _ _ ?_ k1⟩
      rw [insOk_c, ar, e1]
      constructor
      · intro h
        refine ⟨rfl, fun _ p m => ?_, fun z => ?_⟩
        · rw [List.mem_singleton.mp m]
          cases hw : p1.isW with
          | false => rfl
          | true => rw [hw] at h; cases h
        · rcases hc with rfl | rfl <;> exact absurd z (by decide)
      · intro h
        rw [h.2.1 hc p1 (List.mem_singleton.mpr rfl)]
        rfl
    · have e2 : decide (V.int (((V.str (tx x) :: r0).length : Nat) : Int) = V.int ((2 : Nat) : Int)) = false := by
        rw [← Bool.not_eq_true, ki, lv']; omega
      rw [show (decide (V.int (((V.str (tx x) :: r0).length : Nat) : Int) = V.int 2)) = false from e2]
      refine iteF (no k1 fun h => ?_)
      have := h.1
      rw [ar] at this
      have := Option.some.inj this
      omega
  refine ⟨_, rfl, a, _, _, _, rfl, rfl, hS1, atI_zero _ _, rfl, _, rfl, ?_⟩
  rw [lit_copy]
  by_cases h2 : x = copyW
  · rw [sT h2]
    exact iteT (iteT (cs (Z := fun _ => True) (.inl h2)))
  rw [sF h2]
  refine iteF ⟨_, rfl, a, _, _, _, rfl, rfl, hS1, atI_zero _ _, rfl, _, rfl, ?_⟩
  rw [lit_slide]
  by_cases h3 : x = slideW
  · rw [sT h3]
    exact iteT (cs (Z := fun _ => True) (.inr h3))
  rw [sF h3]
  refine iteF ?_
  have ncs : ¬ (x = copyW ∨ x = slideW) := fun h => h.elim h2 h3
  refine ⟨_, rfl, a, _, _, _, rfl, rfl, hS1, atI_zero _ _, rfl, _, rfl, ?_⟩
  rw [lit_call]
  obtain ⟨ns, eL, rn⟩ := nl1
  by_cases h4 : x = callW
  · rw [sT h4]
    have ar : arI x = some 2 := by rw [h4]; decide +kernel
    refine iteT ⟨_, rfl, a, _, rfl, .inr hS1, rfl, _, rfl, ?_⟩
    by_cases l : ps.length = 1
    · refine second l fun p1 v1 e1 e2 t1 hS2 => ?_
      rw [show decide (V.int (((V.str (tx x) :: r0).length : Nat) : Int) = V.int 2) = true from (ki (n := (V.str (tx x) :: r0).length) (m := 2)).mpr (by rw [lv', l])]
      refine iteT ⟨_, rfl, a, _, _, v1, rfl, rfl, hS2, atI_nat (j := 1) rfl, _, rfl, p1, L, ns, hs, t1, rfl, .inl (SqL.of eL), rn, fun u m => Nat.le_trans (Nat.min_le_left ..) (dp u m), fun b hb => q b _ ?_ k1⟩
      rw [insOk_c, ar, e1, hb]
      exact ⟨fun h => ⟨rfl, fun z => absurd z ncs, fun _ p m => by rw [List.mem_singleton.mp m]; exact h⟩, fun h => h.2.2 (.inl h4) p1 (List.mem_singleton.mpr rfl)⟩
    · have e2 : decide (V.int (((V.str (tx x) :: r0).length : Nat) : Int) = V.int ((2 : Nat) : Int)) = false := by
        rw [← Bool.not_eq_true, ki, lv']; omega
      rw [show (decide (V.int (((V.str (tx x) :: r0).length : Nat) : Int) = V.int 2)) = false from e2]
      refine iteF (no k1 fun h => ?_)
      have := h.1
      rw [ar] at this
      have := Option.some.inj this
      omega
  rw [sF h4]
  refine iteF ?_
  refine ⟨_, rfl, a, _, _, _, rfl, rfl, hS1, atI_zero _ _, rfl, _, rfl, ?_⟩
  rw [lit_if]
  by_cases h5 : x = ifW
  rotate_left
  · rw [sF h5]
    refine iteF (no k1 fun h => ?_)
    have := h.1
    rw [arI_none (fun k m => ?_)] at this
    · cases this
    · simp only [instrs, List.mem_cons, Prod.mk.injEq, List.not_mem_nil, or_false] at m
      simp only [List.mem_cons, List.not_mem_nil, or_false] at hx
      rcases m with m | m | m | m | m | m | m | m | m | m
      · exact h1 m.1
      · exact h2 m.1
      · exact h3 m.1
      · exact hx (.inl m.1)
      · exact hx (.inr (.inl m.1))
      · exact hx (.inr (.inr (.inl m.1)))
      · exact hx (.inr (.inr (.inr (.inl m.1))))
      · exact hx (.inr (.inr (.inr (.inr m.1))))
      · exact h4 m.1
      · exact h5 m.1
  rw [sT h5]
  have ar : arI x = some 3 := by rw [h5]; decide +kernel
  refine iteT ⟨_, rfl, a, _, rfl, .inr hS1, rfl, _, rfl, ?_⟩
  by_cases l : ps.length = 2
  · rw [show decide (V.int (((V.str (tx x) :: r0).length : Nat) : Int) = V.int 3) = true from (ki (n := (V.str (tx x) :: r0).length) (m := 3)).mpr (by rw [lv', l])]
    match ps, l, rr1 with
    | [p1, p2], _, rr1 =>
    obtain ⟨v1, rest, rfl, t1, r1⟩ := rr1.cons
    obtain ⟨v2, rest, rfl, t2, r2⟩ := r1.cons
    have := r2.nil
    subst this
    refine iteT ⟨_, rfl, a, _, _, v1, rfl, rfl, hS1, atI_nat (j := 1) rfl, _, rfl, p1, L, ns, hs, t1, rfl, .inl (SqL.of eL), rn, fun u m => Nat.le_trans (Nat.min_le_left ..) (dp u m), fun b hb => ⟨_, rfl, ?_⟩⟩
    cases b with
    | false =>
      refine iteF (no k1 fun h => ?_)
      have := hb.mpr (h.2.2 (.inr h5) p1 (List.mem_cons_self ..))
      cases this
    | true =>
      refine iteT ⟨_, rfl, a, _, _, v2, rfl, rfl, hS1, atI_nat (j := 2) rfl, _, rfl, p2, L, ns, hs, t2, rfl, .inl (SqL.of eL), rn, fun u m => Nat.le_trans (Nat.min_le_left ..) (dp u m), fun b2 hb2 => q b2 _ ?_ k1⟩
      rw [insOk_c, ar, hb2]
      refine ⟨fun h => ⟨rfl, fun z => absurd z ncs, fun _ p m => ?_⟩, fun h => h.2.2 (.inr h5) p2 (by simp)⟩
      rcases List.mem_cons.mp m with m | m
      · rw [m]; exact hb.mp rfl
      · rw [List.mem_singleton.mp m]; exact h
  · have e2 : decide (V.int (((V.str (tx x) :: r0).length : Nat) : Int) = V.int ((3 : Nat) : Int)) = false := by
      rw [← Bool.not_eq_true, ki, lv']; omega
    rw [show (decide (V.int (((V.str (tx x) :: r0).length : Nat) : Int) = V.int 3)) = false from e2]
    refine iteF (no k1 fun h => ?_)
    have := h.1
    rw [ar] at this
    have := Option.some.inj this
    omega
end
end Og

namespace Og
open PySem PySem.Spec PyProof.Rows L2
section
variable {P : Program} {w : World} {K : PySem.W.Frag} {mg : Str → Option Value} {base : Heap}
def spRG (K : PySem.W.Frag) : Sp := fun vs H Q _ => ∃ (v : V) (L : Addr) (i : Nat) (fs : List Tree), vs = [v, .int i, .ref L] ∧ Tr K H v (.l fs) ∧ NL K H L (heads fs) ∧ i < fs.length ∧ fs.length ≤ 1000 ∧ (∀ u ∈ heads fs, td u ≤ 200) ∧ ∀ (b : Bool) (H' : Hp), (b = true ↔ ROk fs i) → Keep [] H H' → Q (.bl b) H'
theorem has_routGood {k : Nat} (D : DefAt K mg "_law_routine_good" s_law_routine_good p_law_routine_good) (B : Bn mg) (c1 : Has P w K mg base (k + 2) "_law_names_in" p_law_names_in (spNamesIn K)) (c2 : Has P w K mg base (k + 2) "_law_instruction_good" p_law_instruction_good (spIG K)) : Has P w K mg base (k + 3) "_law_routine_good" p_law_routine_good (spRG K) := by
  obtain ⟨f, fd, F, hm, hb⟩ := D.ex
  obtain ⟨_, _, c_law_names_in⟩ := c1
  obtain ⟨_, _, c_law_instruction_good⟩ := c2
  refine ⟨f, fd, F.ok sc_law_routine_good (fun vs H Q E h => ?_) (fun cdv A outer s H vs Q E hr h => ?_), hm, F.kp, hb⟩
  · obtain ⟨_, _, _, _, rfl, _⟩ := h
    rfl
  obtain ⟨v, L, i, fs, rfl, tv, nl, il, few, dp, q⟩ := h
  have hn : 200 + 1 ≤ 16 * (k + 2) + 200 := by omega
  refine ⟨_, (pss_cons (ps_set (i := 3) sc_law_routine_good.nd rfl (.inl rfl) (pe_ix ix_tup (pv 0) (pv 1) (fun _ _ => rfl)))
    (pss_cons (ps_if (PW.pt (pw_or (pt_not (pt_val (pe_callB call_isi (by rfl) B.isinstance (by decide +kernel) (pa_cons (pv 3) (pa_cons (pe_bltn (v := .ty "tuple") rfl B.tuple (by decide +kernel) rfl) pa_nil))))) (pw_or (pt_cmpR op_eq (pe_callB call_len_seq (by rfl) B.len PySem.boot_len (pa_cons (pv 3) pa_nil)) pe_int (nomark _)) (pw_or1 (pt_cmpR (op_inTm (n := 200) (room_n hr hn)) (pe_ix ix_tup (pv 3) pe_int (fun _ _ => rfl)) (cal c_law_names_in hr rfl (pa_cons (pe_slice sl_tupA (pv 0) po_none (po_some (pv 1))) pa_nil)) (by rfl)))))) (pss_one (ps_ret pe_bl)) pss_nil)
    (pss_cons (ps_for PassesOwn.never rfl (pi_tup (pe_slice sl_tupA (pv 3) (po_some pe_int) po_none)) (pg_name (i := 4) sc_law_routine_good.nd rfl (.inl rfl))
      (pss_one (ps_if (pt_not (pt_val (cal c_law_instruction_good hr rfl (pa_cons (pv 4) (pa_cons (pv 2) pa_nil))))) (pss_one (ps_ret pe_bl)) pss_nil)))
    (pss_one (ps_ret pe_bl))))), ?_⟩
  have hg : fs[i]? = some fs[i] := List.getElem?_eq_getElem il
  refine ⟨_, rfl, _, rfl, ix_tr tv (atI_nat hg) fun vr tr => ?_⟩
  generalize fs[i] = u at hg tr
  obtain ⟨ty, uu, q1, q2, q3⟩ := isi_tup tr
  refine ⟨_, rfl, _, _, ty, uu, _, rfl, q1, q2, q3, _, rfl, ?_⟩
  have no : ∀ {G : Hp}, Keep [] H G → ¬ ROk fs i → Q (.bl false) G := fun kk h => q false _ ⟨fun z => (by cases z), fun z => absurd z h⟩ kk
  cases u with
  | w x => exact iteT (iteT (no Keep.refl fun ⟨n', is, e1, _⟩ => by rw [hg] at e1; cases e1))
  | l us =>
  refine iteF ?_
  obtain ⟨za, zvs, rfl, hZ, rZ⟩ := tr.list
  have lz := rZ.length
  refine ⟨_, rfl, za, zvs, rfl, .inr hZ, rfl, _, rfl, ?_⟩
  cases us with
  | nil =>
    rw [dT (by rw [lz]; rfl)]
    exact iteT (iteT (no Keep.refl fun ⟨n', is, e1, _⟩ => by rw [hg] at e1; cases e1))
  | cons n0 is =>
  rw [dF (by rw [lz, List.length_cons]; omega)]
  refine iteF ?_
  obtain ⟨z0, zr, rfl, t0, tzr⟩ := rZ.cons
  refine ⟨_, rfl, za, _, _, z0, rfl, rfl, hZ, atI_zero _ _, ?_⟩
  refine ⟨_, rfl, ?_⟩
  dsimp only [tNoPart]
  refine ⟨_, rfl, _, rfl, ?_⟩
  refine sl_tr tv fun v1 H1 tv1 k1 => ?_
  rw [cutL_to fs (j := i) (by omega)] at tv1
  refine ⟨v1, fs.take i, rfl, tv1, by rw [List.length_take]; omega, fun N ns H2 nN eN rn k2 => ?_⟩
  have k12 := k1.trans k2
  refine ⟨n0, N, ns, _, t0.keep k12, rfl, .inl (SqL.of eN), rn, fun u m => ?_, fun b hb => ?_⟩
  · obtain ⟨is', m'⟩ := heads_mem.mp m
    exact Nat.le_trans (Nat.min_le_left ..) (dp u (heads_mem.mpr ⟨is', List.mem_of_mem_take m'⟩))
  refine ⟨_, rfl, ?_⟩
  show if b = true then _ else _
  cases b with
  | true =>
    refine iteT (no k12 fun ⟨n', is', e1, h2, _⟩ => ?_)
    rw [hg] at e1
    have e2 := (List.cons.inj (Tree.l.inj (Option.some.inj e1))).1
    rw [← e2] at h2
    exact h2 (hb.mp rfl)
  | false =>
  refine iteF ?_
  have nodup : n0 ∉ heads (fs.take i) := fun h => by have := hb.mpr h; cases this
  have nl2 := nl.keep k12 (List.not_mem_nil)
  refine ⟨_, rfl, ?_⟩
  dsimp only [tNoPart]
  refine ⟨_, rfl, ?_⟩
  refine sl_tr (tr.keep k12) fun v3 H3 tv3 k3 => ?_
  rw [show cutL (n0 :: is) (some (1 : Int)) none = is from cutL_from (n0 :: is) (i := 1) (by rw [List.length_cons]; omega)] at tv3
  obtain ⟨ay, wy, rfl, hY, try_⟩ := tv3.list
  have ly := try_.length
  have k13 := k12.trans k3
  refine ⟨ay, rfl, ⟨wy, hY⟩, ?_⟩
  refine for_tup (K := K) (a := ay) (xs := wy) (D := { nx := _, rt := Q }) (fun j σ H' => ∃ (y4 : Option V), σ = [some v, some (.int (i : Nat)), some (.ref L), some (.ref za), y4] ∧ Keep [] H3 H' ∧ ∀ t ∈ is.take j, InsOk (heads fs) t)
    ⟨none, rfl, Keep.refl, fun t m => absurd m (List.not_mem_nil)⟩ (fun j σ H' _ pw => ?_) (fun j z2 σ H4 hz2 pw => ?_) (fun σ H4 pw => ?_)
  · obtain ⟨_, _, kk, _⟩ := pw
    exact kk.sqT hY
  · obtain ⟨y4, rfl, k34, good⟩ := pw
    have jl : j < is.length := by rw [← ly]; exact (List.getElem?_eq_some_iff.mp hz2).1
    have hg2 : is[j]? = some is[j] := List.getElem?_eq_getElem jl
    have mem2 := List.getElem_mem jl
    have tk2 : is.take (j + 1) = is.take j ++ [is[j]] := by rw [List.take_succ, hg2]; rfl
    obtain ⟨z2', hz2', tz2⟩ := (try_.keep k34).get hg2
    rw [hz2] at hz2'
    cases hz2'
    generalize is[j] = u2 at hg2 tk2 tz2 mem2
    refine ⟨_, rfl, _, rfl, z2, L, u2, heads fs, rfl, tz2, (nl2.keep k3 (List.not_mem_nil)).keep k34 (List.not_mem_nil), dp, fun b H5 hb5 k5 => ⟨_, rfl, ?_⟩⟩
    cases b with
    | false =>
      refine iteT (no ((k13.trans k34).trans k5) fun ⟨n', is', e1, _, h3⟩ => ?_)
      rw [hg] at e1
      have e2 := (List.cons.inj (Tree.l.inj (Option.some.inj e1))).2
      rw [← e2] at h3
      have := hb5.mpr (h3 u2 mem2)
      cases this
    | true =>
      refine iteF ⟨_, rfl, k34.trans k5, fun t m => ?_⟩
      rw [tk2] at m
      rcases List.mem_append.mp m with m | m
      · exact good t m
      · rw [List.mem_singleton.mp m]; exact hb5.mp rfl
  · obtain ⟨y4, rfl, k34, good⟩ := pw
    rw [ly, List.take_length] at good
    exact q true H4 ⟨fun _ => ⟨n0, is, hg, nodup, good⟩, fun _ => rfl⟩ (k13.trans k34)
def outM : Option Nat → Int
  | some n => n
  | none => -1
def spBadR (K : PySem.W.Frag) : Sp := fun vs H Q _ => ∃ (v : V) (t : Tree), vs = [v] ∧ Tr K H v t ∧ (∀ fs, t = .l fs → fs.length ≤ 1000 ∧ ∀ u ∈ heads fs, td u ≤ 200) ∧ ∀ (o : Option Nat) (H' : Hp), BadM t o → Keep [] H H' → Q (.int (outM o)) H'
theorem has_badR {k : Nat} (D : DefAt K mg "_law_bad_routine" s_law_bad_routine p_law_bad_routine) (B : Bn mg) (c1 : Has P w K mg base (k + 1) "_law_names_in" p_law_names_in (spNamesIn K)) (c2 : Has P w K mg base (k + 1) "_law_routine_good" p_law_routine_good (spRG K)) : Has P w K mg base (k + 2) "_law_bad_routine" p_law_bad_routine (spBadR K) := by
  obtain ⟨f, fd, F, hm, hb⟩ := D.ex
  obtain ⟨_, _, c_law_names_in⟩ := c1
  obtain ⟨_, _, c_law_routine_good⟩ := c2
  refine ⟨f, fd, F.ok sc_law_bad_routine (fun vs H Q E h => ?_) (fun cdv A outer s H vs Q E hr h => ?_), hm, F.kp, hb⟩
  · obtain ⟨_, _, rfl, _⟩ := h
    rfl
  obtain ⟨v, t, rfl, tv, okt, q⟩ := h
  refine ⟨_, (pss_cons (ps_if (PW.pt (pw_or (pt_not (pt_val (pe_callB call_isi (by rfl) B.isinstance (by decide +kernel) (pa_cons (pv 0) (pa_cons (pe_bltn (v := .ty "tuple") rfl B.tuple (by decide +kernel) rfl) pa_nil))))) (pw_or1 (pt_cmpR op_eq (pe_callB call_len_seq (by rfl) B.len PySem.boot_len (pa_cons (pv 0) pa_nil)) pe_int (nomark _))))) (pss_one (ps_ret pe_int)) pss_nil)
    (pss_cons (ps_set (i := 1) sc_law_bad_routine.nd rfl (.inl rfl) (cal c_law_names_in hr rfl (pa_cons (pv 0) pa_nil)))
    (pss_cons (ps_for PassesOwn.never rfl (pi_range1 (by rfl) B.range (pa_cons (pe_callB call_len_seq (by rfl) B.len PySem.boot_len (pa_cons (pv 0) pa_nil)) pa_nil)) (pg_name (i := 2) sc_law_bad_routine.nd rfl (.inl rfl))
      (pss_one (ps_if (pt_not (pt_val (cal c_law_routine_good hr rfl (pa_cons (pv 0) (pa_cons (pv 2) (pa_cons (pv 1) pa_nil)))))) (pss_one (ps_ret (pe_callTy call_int1 (by rfl) B.int (by decide +kernel) (pa_cons (pv 2) pa_nil)))) pss_nil)))
    (pss_one (ps_ret (pe_un un_neg pe_int)))))), ?_⟩
  obtain ⟨ty, uu, q1, q2, q3⟩ := isi_tup tv
  refine ⟨_, rfl, _, _, ty, uu, _, rfl, q1, q2, q3, _, rfl, ?_⟩
  cases t with
  | w x => exact iteT (iteT (q (some 0) H rfl Keep.refl))
  | l fs =>
  refine iteF ?_
  obtain ⟨few, dp⟩ := okt fs rfl
  obtain ⟨a, vs, rfl, hS, r⟩ := tv.list
  have lv := r.length
  refine ⟨_, rfl, a, vs, rfl, .inr hS, rfl, _, rfl, ?_⟩
  by_cases hne : fs = []
  · subst hne
    rw [dT (by rw [lv]; rfl)]
    exact iteT (q (some 0) H (.inl ⟨rfl, rfl⟩) Keep.refl)
  have lpos : 0 < fs.length := List.length_pos_iff.mpr hne
  rw [dF (by rw [lv]; omega)]
  refine iteF ?_
  refine ⟨_, rfl, .ref a, fs, rfl, tv, by omega, fun L ns H1 nL eL rn k1 => ?_⟩
  have nl1 : NL K H1 L (heads fs) := ⟨ns, eL, rn⟩
  refine ⟨_, rfl, a, vs, rfl, .inr (k1.sqT hS), ?_⟩
  refine ⟨_, rfl, by omega, by omega, ?_⟩
  refine for_range (lo := 0) (n := (vs.length : Int).toNat) (fun i σ H' => ∃ (y2 : Option V), σ = [some (.ref a), some (.ref L), y2] ∧ Keep [] H1 H' ∧ ∀ j, j < i → ROk fs j)
    ⟨none, rfl, Keep.refl, fun j h => absurd h (Nat.not_lt_zero _)⟩ (fun i σ H2 hi pw => ?_) (fun σ H2 pw => ?_)
  · obtain ⟨y2, rfl, k2, good⟩ := pw
    have il : i < fs.length := by omega
    have ei : (0 : Int) + (i : Int) = (i : Int) := by omega
    rw [ei]
    have k12 := k1.trans k2
    refine ⟨_, rfl, _, rfl, _, rfl, .ref a, L, i, fs, rfl, tv.keep k12, nl1.keep k2 (List.not_mem_nil), il, few, dp, fun b H3 hb k3 => ⟨_, rfl, ?_⟩⟩
    have k13 := k12.trans k3
    cases b with
    | false =>
      refine iteT ⟨_, rfl, .inl ⟨_, rfl, q (some i) H3 (.inr ⟨hne, .inr ⟨i, rfl, il, fun h => ?_, good⟩⟩) k13⟩⟩
      have := hb.mpr h
      cases this
    | true =>
      refine iteF ⟨_, rfl, k2.trans k3, fun j h => ?_⟩
      by_cases ji : j < i
      · exact good j ji
      · have : j = i := by omega
        subst this
        exact hb.mp rfl
  · obtain ⟨y2, rfl, k2, good⟩ := pw
    exact ⟨_, rfl, q none H2 (.inr ⟨hne, .inl ⟨rfl, fun j h => good j (by omega)⟩⟩) (k1.trans k2)⟩
end
end Og

namespace Og
open PySem PySem.Spec PyProof.Rows L2
section
variable {P : Program} {w : World} {K : PySem.W.Frag} {mg : Str → Option Value} {base : Heap}
/-- the except suite of the law -/
def suiteP (K : PySem.W.Frag) (C G CT CI a dd : Addr) (d : Option Addr) : TS :=
  tSeq (tIfS (tOr (tNot (tB (tCB (rIsD K C a dd) (tCons (tVar 2) (tCons (tC (.ref G)) tNil))))) (tOr (tB (tCB (rIsD K C a dd) (tCons (tVar 2) (tCons (tC (.ref CT)) tNil)))) (tB (tCB (rIsD K C a dd) (tCons (tVar 2) (tCons (tC (.ref CI)) tNil)))))) (tRet (tC (.bl false))) tNext)
    (tRet (tAndV (tOp (rI0 fun i j => V.bl (decide (j ≤ i))) (tVar 1) (tC (.int 0))) (tAndV (tCB (rIsi K) (tCons (tXf a (.ref C) d C "function" (tVar 2)) (tCons (tC (.ty "int")) tNil)))
      (tAndV (tNotV (tCB (rIsi K) (tCons (tXf a (.ref C) d C "function" (tVar 2)) (tCons (tC (.ty "bool")) tNil)))) (tOp rEq (tXf a (.ref C) d C "function" (tVar 2)) (tVar 1))))))
theorem isi_int {K : PySem.W.Frag} {H : Hp} {i : Int} : ∃ ty u, ClsV (.ty "int") u ∧ TyX K H (.int i) ty ∧ PySem.W.kitOne K ty u = some true := ⟨_, _, .ty _, .base (.int _), kit_ty (by decide +kernel)⟩
theorem isi_intbool {K : PySem.W.Frag} {H : Hp} {i : Int} : ∃ ty u, ClsV (.ty "bool") u ∧ TyX K H (.int i) ty ∧ PySem.W.kitOne K ty u = some false := ⟨_, _, .ty _, .base (.int _), kit_ty (by decide +kernel)⟩
def OkM (t : Tree) : Prop := t.size ≤ 100000 ∧ ∀ fs, t = .l fs → fs.length ≤ 1000 ∧ ∀ u ∈ heads fs, td u ≤ 200
def spRight (K : PySem.W.Frag) : Sp := fun vs H Q _ => ∃ (v : V) (t : Tree), vs = [v] ∧ Tr K H v t ∧ OkM t ∧ ∀ H', Keep [] H H' → Q (.bl true) H'
theorem has_isright {C G fI CT CI : Addr} {fdI : FuncData} {k : Nat} (T_BadProgram : ErrT K mg "BadProgram" "BadProgram.__init__" "function" s_BadProgram_init C G fI fdI) (Hh : ErrH K C G) (gT : mg "BadText" = some (.ref CT)) (nT : PySem.W.kitOne K (.ref C) (.ref CT) = some false) (gI : mg "BadInputs" = some (.ref CI)) (nI : PySem.W.kitOne K (.ref C) (.ref CI) = some false)
    (D : DefAt K mg "_law_is_right" s_law_is_right p_law_is_right) (B : Bn mg) (c1 : Has P w K mg base k "_law_bad_routine" p_law_bad_routine (spBadR K)) (c2 : HasX P w K mg base k "check_machine" p_check_machine (spCheckM K C)) :
    Has P w K mg base (k + 1) "_law_is_right" p_law_is_right (spRight K) := by
  obtain ⟨f, fd, F, hm, hb⟩ := D.ex
  obtain ⟨_, _, c_law_bad_routine⟩ := c1
  obtain ⟨_, _, c_check_machine⟩ := c2
  have ec : ExcC K C := ⟨Hh.ga, Hh.gg, T_BadProgram.ox.exC, Hh.hd, Hh.ck, Hh.cg, Hh.ct, Hh.cm⟩
  have xf : XfC K C := xfB_ok (by unfold xfB; rw [decide_eq_true Hh.ga, decide_eq_true Hh.gg, decide_eq_true T_BadProgram.ox.exC, Hh.hd]; rfl)
  have exm : PySem.W.exmOne K (.ref C) (.ref C) = some true := PySem.W.exm_ref T_BadProgram.ox.exC Hh.hd T_BadProgram.ox.tyC Hh.se
  refine ⟨f, fd, F.ok sc_law_is_right (fun vs H Q E h => ?_) (fun cdv A outer s H vs Q E hr h => ?_), hm, F.kp, hb⟩
  · obtain ⟨_, _, rfl, _⟩ := h
    rfl
  obtain ⟨v, t, rfl, tv, okm, q⟩ := h
  refine ⟨_, pss_cons (ps_set (i := 1) sc_law_is_right.nd rfl (.inl rfl) (cal c_law_bad_routine hr rfl (pa_cons (pv 0) pa_nil)))
    (pss_one (ps_try_as (i := 2) (tb := fun W => tRet (tAndV (tOp (fun x y H Q => y = .non ∧ Q (.bl (decide (x = .non))) H) (tCallS (spCheckM K C) (WE W) (tCons (tVar 0) tNil)) (tC .non)) (tOp (rI0 fun i j => V.bl (decide (i < j))) (tVar 1) (tC (.int 0))))) (ts := fun a cls d D σ H => ∃ dd : Addr, (cls = .ref C ∧ d = some dd) ∧ suiteP K C G CT CI a dd d D σ H) (Wout := fun _ _ _ _ => False) rfl rfl sc_law_is_right.nd rfl rfl ⟨rfl, by decide, Or.inl T_BadProgram.gC⟩ takes0
      (fun W pn xe tk _ => pss_one (ps_ret (pe_and (pe_cmpR op_isN (by exact (pe_callS c_check_machine.ok hr rfl c_check_machine.mg c_check_machine.kp c_check_machine.bi (fun σ => passAt tk σ) (pa_cons (pv 0) pa_nil))) pe_non (nomark _)) (pe_one (pe_cmpR op_lt (pv 1) pe_int (nomark _))))))
      (fun a oe cls d pn hz hf => pss_ex fun dd => pss_when fun hcd => by
        obtain ⟨rfl, rfl⟩ := hcd
        exact (pss_cons (ps_if (PW.pt (pw_or (pt_not (pt_val (pe_callB (call_isD ec hz hf) (by rfl) B.isinstance (by decide +kernel) (pa_cons (pv 2) (pa_cons (pe_glob rfl T_BadProgram.gG rfl) pa_nil))))) (pw_or (pt_val (pe_callB (call_isD ec hz hf) (by rfl) B.isinstance (by decide +kernel) (pa_cons (pv 2) (pa_cons (pe_glob rfl gT rfl) pa_nil)))) (pw_or1 (pt_val (pe_callB (call_isD ec hz hf) (by rfl) B.isinstance (by decide +kernel) (pa_cons (pv 2) (pa_cons (pe_glob rfl gI rfl) pa_nil)))))))) (pss_one (ps_ret pe_bl)) pss_nil)
          (pss_one (ps_ret (pe_and (pe_cmpR op_ge (pv 1) pe_int (nomark _)) (pe_and (pe_callB call_isi (by rfl) B.isinstance (by decide +kernel) (pa_cons (pe_xf xf T_BadProgram.no hz hf (pv 2)) (pa_cons (pe_bltn (v := .ty "int") rfl B.int (by decide +kernel) rfl) pa_nil)))
            (pe_and (pe_not (pe_callB call_isi (by rfl) B.isinstance (by decide +kernel) (pa_cons (pe_xf xf T_BadProgram.no hz hf (pv 2)) (pa_cons (pe_bltn (v := .ty "bool") rfl B.bool (by decide +kernel) rfl) pa_nil)))) (pe_one (pe_cmpR op_eq (pe_xf xf T_BadProgram.no hz hf (pv 2)) (pv 1) (nomark _)))))))))))), ?_⟩
  refine ⟨_, rfl, v, t, rfl, tv, okm.2, fun o H1 out k1 => ?_⟩
  refine ⟨_, rfl, v, t, rfl, tv.keep k1, okm.1, fun fs e => (okm.2 fs e).1, fun n hn => ?_, fun H2 hn k2 => ?_⟩
  · -- an error with the number n
    have e := BadM.uniq out hn
    subst e
    intro d H2 ed k2
    refine ⟨true, exm, fun _ a ha => ⟨d, ⟨rfl, rfl⟩, ?_⟩, fun q => nomatch q⟩
    refine ⟨_, rfl, _, _, true, _, rfl, .own G, ed, Hh.kG, _, rfl, iteF ?_⟩
    refine ⟨_, rfl, _, _, false, _, rfl, .own CT, ed, nT, _, rfl, iteF ?_⟩
    refine ⟨_, rfl, _, _, false, _, rfl, .own CI, ed, nI, _, rfl, iteF ?_⟩
    obtain ⟨ty, u, q1, q2, q3⟩ := isi_int (K := K) (H := H2) (i := (n : Int))
    obtain ⟨ty', u', q1', q2', q3'⟩ := isi_intbool (K := K) (H := H2) (i := (n : Int))
    refine ⟨_, rfl, _, _, rfl, rfl, _, rfl, ?_⟩
    rw [decide_eq_true (show (0 : Int) ≤ outM (some n) by show (0 : Int) ≤ (n : Int); omega)]
    refine iteT ⟨_, rfl, rfl, rfl, d, _, _, rfl, ed, rfl, _, _, ty, u, _, rfl, q1, q2, q3, _, rfl, iteT ?_⟩
    refine ⟨_, rfl, rfl, rfl, d, _, _, rfl, ed, rfl, _, _, ty', u', _, rfl, q1', q2', q3', _, rfl, _, rfl, iteT ?_⟩
    refine ⟨_, rfl, rfl, rfl, d, _, _, rfl, ed, rfl, _, rfl, rfl, ?_⟩
    rw [show decide (V.int ((n : Nat) : Int) = V.int (outM (some n))) = true from dT rfl]
    exact q H2 (k1.trans k2)
  · have e := BadM.uniq out hn
    subst e
    refine ⟨rfl, _, rfl, ?_⟩
    rw [decide_eq_true rfl]
    refine iteT ⟨_, rfl, _, _, rfl, rfl, ?_⟩
    exact q H2 (k1.trans k2)
end
end Og

namespace Og
open PySem PySem.Spec PyProof.Rows L2
theorem deep_td : ∀ (n : Nat) (t : Tree), Deep n t → td t ≤ n
  | n, .w x, _ => by rw [td]; omega
  | 0, .l ts, h => h.elim
  | n + 1, .l ts, h => by
    rw [td]
    have : ∀ us : List Tree, (∀ t ∈ us, Deep n t) → tds us ≤ n := fun us => by
      induction us with
      | nil => intro _; rw [tds]; omega
      | cons u us ih =>
        intro hh
        rw [tds]
        have h1 := deep_td n u (hh u (List.mem_cons_self ..))
        have h2 := ih fun t m => hh t (List.mem_cons_of_mem _ m)
        omega
    have := this ts h
    omega
/-- a tree of so many parts, so deep -/
def Bd (s d : Nat) (t : Tree) : Prop := t.size ≤ s ∧ td t ≤ d
theorem Bd.mono {s d s' d' : Nat} {t : Tree} (h : Bd s d t) (a : s ≤ s') (b : d ≤ d') : Bd s' d' t := ⟨Nat.le_trans h.1 a, Nat.le_trans h.2 b⟩
theorem pickT {K : PySem.W.Frag} {H : Hp} {xs : List V} {us : List Tree} {j : Int} (r : Trs K H xs us) (h0 : 0 ≤ j) (h1 : j < (us.length : Int)) : ∃ z u, atI xs j = some z ∧ Tr K H z u ∧ u ∈ us := by
  obtain ⟨n, rfl⟩ := Int.eq_ofNat_of_zero_le h0
  have l : n < us.length := by omega
  obtain ⟨z, hz, tz⟩ := r.get (List.getElem?_eq_getElem l)
  exact ⟨z, _, atI_nat hz, tz, List.getElem_mem l⟩
theorem str_tr {K : PySem.W.Frag} {H : Hp} {s : Str} {x : List Nat} (h : s = tx x) : Tr K H (.str s) (.w x) := by rw [h]; exact tr_w
section
variable {P : Program} {w : World} {K : PySem.W.Frag} {mg : Str → Option Value} {base : Heap}
/-- names of routines: unlike, at least one -/
def NamesOk (hs : List Tree) : Prop := hs ≠ [] ∧ hs.Nodup ∧ hs.length ≤ 5 ∧ ∀ u ∈ hs, Bd 13 2 u
def spNamesOf (K : PySem.W.Frag) : Sp := fun vs H Q _ => ∃ (h d : Addr), vs = [.ref h] ∧ Hd H h d ∧ ∀ (N : Addr) (hs : List Tree) (H' : Hp), H N = none → NL K H' N hs → NamesOk hs → Keep [h] H H' → Hd H' h d → Q (.ref N) H'
theorem has_namesOf {k : Nat} (D : DefAt K mg "_law_names_of" s_law_names_of p_law_names_of) (B : Bn mg) (c1 : Has P w K mg base (k + 1) "_law_take" p_law_take spTake) (c2 : Has P w K mg base (k + 1) "_law_value" p_law_value (spVal K 2)) : Has P w K mg base (k + 2) "_law_names_of" p_law_names_of (spNamesOf K) := by
  obtain ⟨f, fd, F, hm, hb⟩ := D.ex
  obtain ⟨_, _, c_law_take⟩ := c1
  obtain ⟨_, _, c_law_value⟩ := c2
  refine ⟨f, fd, F.ok sc_law_names_of (fun vs H Q E h => ?_) (fun cdv A outer s H vs Q E hr h => ?_), hm, F.kp, hb⟩
  · obtain ⟨_, _, rfl, _⟩ := h
    rfl
  obtain ⟨a, d, rfl, hd, q⟩ := h
  have hn : 10 + 1 ≤ 16 * (k + 1) + 200 := by omega
  refine ⟨_, (pss_cons (ps_set (i := 1) sc_law_names_of.nd rfl (.inl rfl) (pe_lst pa_nil))
    (pss_cons (ps_for PassesOwn.never rfl (pi_range1 (by rfl) B.range (pa_cons (pe_op op_add pe_int (cal c_law_take hr rfl (pa_cons (pv 0) (pa_cons pe_int pa_nil)))) pa_nil)) (pg_name (i := 2) sc_law_names_of.nd rfl (.inl rfl))
      (pss_cons (ps_set (i := 3) sc_law_names_of.nd rfl (.inl rfl) (pe_ix ix_list (pe_lst (pa_cons pe_str (pa_cons pe_str (pa_cons (pe_lt (pl_cons (pe_lw (x := [112, 50]) (by decide +kernel)) (pl_cons (pe_lw (x := [109, 97, 105, 110]) (by decide +kernel)) pl_nil)) (by show 2 ≤ sizeLine; decide)) (pa_cons (pe_lt pl_nil (by show 0 ≤ sizeLine; decide)) (pa_cons (pe_lt (pl_cons (pe_lw (x := [97]) (by decide +kernel)) (pl_cons (pe_lt (pl_cons (pe_lw (x := [98]) (by decide +kernel)) pl_nil) (by show 1 ≤ sizeLine; decide)) pl_nil)) (by show 2 ≤ sizeLine; decide)) (pa_cons pe_str (pa_cons (cal c_law_value hr rfl (pa_cons (pv 0) (pa_cons pe_int pa_nil))) pa_nil)))))))) (cal c_law_take hr rfl (pa_cons (pv 0) (pa_cons pe_int pa_nil))) (fun _ _ => rfl)))
      (pss_one (ps_if (pt_cmpR (op_notInTm (n := 10) (room_n hr hn)) (pv 3) (pv 1) (by rfl)) (pss_one (ps_expr (pe_bm PySem.F.plainAttrs_list PySem.F.slot_list_append PySem.F.type_list_append mt_append (pv 1) (pa_cons (pv 3) pa_nil)))) pss_nil))))
    (pss_one (ps_ret (pv 1))))), ?_⟩
  refine ⟨Nat.zero_le _, fun N nN => ?_⟩
  have Na : N ≠ a := (hd.neH nN).symm
  have Nd : N ≠ d := (hd.neD nN).symm
  refine ⟨_, rfl, a, d, 5, rfl, hd.new nN, by decide, fun j H1 j0 j1 k1 hd1 => ?_⟩
  obtain ⟨n, rfl⟩ := Int.eq_ofNat_of_zero_le j0
  refine ⟨_, _, rfl, rfl, ?_⟩
  refine ⟨_, rfl, by omega, by omega, ?_⟩
  refine for_range (lo := 0) (n := (1 + (n : Int)).toNat) (fun i σ H' => ∃ (y2 y3 : Option V) (hs : List Tree), σ = [some (.ref a), some (.ref N), y2, y3] ∧ Keep [a] H H' ∧ Hd H' a d ∧ NL K H' N hs ∧ (0 < i → hs ≠ []) ∧ hs.Nodup ∧ hs.length ≤ i ∧ ∀ u ∈ hs, Bd 13 2 u)
    ⟨none, none, [], rfl, ((Keep.new (S := []) nN).mono (by simp)).trans k1, hd1, ⟨[], k1.get upd_same (by simpa using Na), trs_nil⟩, fun h => absurd h (Nat.lt_irrefl _), List.nodup_nil, Nat.le_refl _, fun u m => absurd m (List.not_mem_nil)⟩ (fun i σ H2 hi pw => ?_) (fun σ H2 pw => ?_)
  · obtain ⟨y2, y3, hs, rfl, k2, hd2, nl2, ne, ndp, lh, bd⟩ := pw
    refine fun v2 G2 t2 g2 => ?_
    refine fun v3 G3 t3 g3 => ?_
    refine fun v4 G4 t4 g4 => ?_
    have hdG := ((hd2.keep0 g2).keep0 g3).keep0 g4
    refine ⟨_, rfl, a, d, rfl, hdG, fun v5 u5 G5 t5 _ sz5 dp5 g5 hd5 => ?_⟩
    refine ⟨by show (7 : Nat) ≤ sizeLine; decide, fun p np => ?_⟩
    have kp : Keep [] G5 (upd G5 p (.lst [.str "main", .str "go", v2, v3, v4, .str "push", v5])) := Keep.new np
    have ep : (upd G5 p (.lst [.str "main", .str "go", v2, v3, v4, .str "push", v5])) p = some (.lst [.str "main", .str "go", v2, v3, v4, .str "push", v5]) := upd_same
    have pa : p ≠ a := (hd5.neH np).symm
    have hd6 := hd5.new (o := .lst [.str "main", .str "go", v2, v3, v4, .str "push", v5]) np
    have rows : Trs K (upd G5 p (.lst [.str "main", .str "go", v2, v3, v4, .str "push", v5])) [.str "main", .str "go", v2, v3, v4, .str "push", v5] [.w [109, 97, 105, 110], .w [103, 111], .l [.w [112, 50], .w [109, 97, 105, 110]], .l [], .l [.w [97], .l [.w [98]]], .w pushW, u5] :=
      trs_cons (str_tr (by decide +kernel)) (trs_cons (str_tr (by decide +kernel)) (trs_cons ((((t2.keep g3).keep g4).keep g5).keep kp) (trs_cons (((t3.keep g4).keep g5).keep kp) (trs_cons ((t4.keep g5).keep kp) (trs_cons (str_tr lit_push) (Trs.one (t5.keep kp)))))))
    generalize upd G5 p (.lst [.str "main", .str "go", v2, v3, v4, .str "push", v5]) = G6 at kp ep hd6 rows
    refine ⟨_, rfl, a, d, 7, rfl, hd6, by decide, fun j H3 j0 j1 k3 hd3 => ?_⟩
    obtain ⟨z, u, hz, tz, mu⟩ := pickT (rows.keep k3) j0 (by show j < ((7 : Nat) : Int); omega)
    have bu : Bd 13 2 u := by
      simp only [List.mem_cons, List.not_mem_nil, or_false] at mu
      rcases mu with rfl | rfl | rfl | rfl | rfl | rfl | rfl
      · exact ⟨by decide +kernel, by decide +kernel⟩
      · exact ⟨by decide +kernel, by decide +kernel⟩
      · exact ⟨by decide +kernel, by decide +kernel⟩
      · exact ⟨by decide +kernel, by decide +kernel⟩
      · exact ⟨by decide +kernel, by decide +kernel⟩
      · exact ⟨by decide +kernel, by decide +kernel⟩
      · exact ⟨sz5, deep_td 2 _ dp5⟩
    have k23 : Keep [a] H2 H3 := ((((((g2.trans g3).trans g4).mono (S' := [a]) (by simp)).trans g5).trans (kp.mono (by simp))).trans k3)
    refine ⟨p, _, _, z, rfl, rfl, SqL.of (k3.get ep (by simpa using pa)), hz, ?_⟩
    obtain ⟨ns, eN, rn⟩ := nl2.keep k23 (by simpa using Na)
    refine ⟨_, rfl, _, rfl, u, N, ns, hs, tz, rfl, .inl (SqL.of eN), rn, fun u' m => Nat.le_trans (Nat.min_le_left ..) (Nat.le_trans (bd u' m).2 (by decide)), fun b hb => ⟨_, rfl, ?_⟩⟩
    rw [if_pos rfl]
    cases b with
    | true =>
      refine iteF ⟨_, _, hs, rfl, k2.trans k23, hd3, ⟨ns, eN, rn⟩, fun _ h => ?_, ndp, by omega, bd⟩
      have := hb.mp rfl
      rw [h] at this
      exact absurd this (List.not_mem_nil)
    | false =>
      have nu : u ∉ hs := fun h => by have := hb.mpr h; cases this
      have lns : ns.length ≤ 100 := by rw [rn.length]; omega
      have kN : Keep [N] H3 (upd H3 N (.lst (ns ++ [z]))) := Keep.set eN (List.mem_cons_self ..)
      refine iteT ⟨_, rfl, .inl ⟨rfl, _, SqL.of eN⟩, _, rfl, N, ns, _, rfl, rfl, eN, Nat.lt_of_le_of_lt lns (by decide), ?_⟩
      refine ⟨_, _, hs ++ [u], rfl, ((k2.trans k23).cons.trans (kN.mono (by simp))).drop nN, hd3.upd Na.symm Nd.symm, ⟨ns ++ [z], upd_same, (rn.append (Trs.one tz)).keep kN⟩, fun _ h => ?_, ?_, by rw [List.length_append, List.length_singleton]; omega, fun u' m => ?_⟩
      · have := congrArg List.length h
        rw [List.length_append] at this
        simp at this
      · rw [List.nodup_append]
        refine ⟨ndp, by simp, fun x hx y hy e => ?_⟩
        rw [List.mem_singleton.mp hy] at e
        rw [e] at hx
        exact nu hx
      · rcases List.mem_append.mp m with m | m
        · exact bd u' m
        · rw [List.mem_singleton.mp m]; exact bu
  · obtain ⟨y2, y3, hs, rfl, k2, hd2, nl2, ne, ndp, lh, bd⟩ := pw
    exact ⟨_, rfl, q N hs H2 nN nl2 ⟨ne (by omega), ndp, by omega, bd⟩ k2 hd2⟩
end
end Og

namespace Og
open PySem PySem.Spec PyProof.Rows L2
section
variable {P : Program} {w : World} {K : PySem.W.Frag} {mg : Str → Option Value} {base : Heap}
def spLawList (K : PySem.W.Frag) : Sp := fun vs H Q _ => ∃ (h d : Addr) (n : Nat), vs = [.ref h, .int n] ∧ Hd H h d ∧ n ≤ 4 ∧ ∀ (v : V) (ts : List Tree) (H' : Hp), Tr K H' v (.l ts) → Bd 17 2 (.l ts) → Keep [h] H H' → Hd H' h d → Q v H'
theorem tds_le {n : Nat} : ∀ {ts : List Tree}, (∀ t ∈ ts, td t ≤ n) → tds ts ≤ n
  | [], _ => by rw [tds]; omega
  | t :: ts, h => by
    rw [tds]
    have h1 := h t (List.mem_cons_self ..)
    have h2 := tds_le (n := n) (ts := ts) fun u m => h u (List.mem_cons_of_mem _ m)
    omega
theorem bd_l {s d n : Nat} {ts : List Tree} (h : ∀ t ∈ ts, Bd s d t) (l : ts.length ≤ n) : Bd (1 + n * s) (d + 1) (.l ts) := by
  refine ⟨?_, ?_⟩
  · rw [size_l]
    have h1 := sizes_le fun t m => (h t m).1
    have h2 := Nat.mul_le_mul_right s l
    omega
  · rw [td]
    have := tds_le fun t m => (h t m).2
    omega
theorem has_lawList {k : Nat} (D : DefAt K mg "_law_list" s_law_list p_law_list) (B : Bn mg) (c2 : Has P w K mg base (k + 1) "_law_value" p_law_value (spVal K 1)) : Has P w K mg base (k + 2) "_law_list" p_law_list (spLawList K) := by
  obtain ⟨f, fd, F, hm, hb⟩ := D.ex
  obtain ⟨_, _, c_law_value⟩ := c2
  refine ⟨f, fd, F.ok sc_law_list (fun vs H Q E h => ?_) (fun cdv A outer s H vs Q E hr h => ?_), hm, F.kp, hb⟩
  · obtain ⟨_, _, _, rfl, _⟩ := h
    rfl
  obtain ⟨a, d, n, rfl, hd, n4, q⟩ := h
  refine ⟨_, (pss_one (ps_ret (pe_callTy call_tuple_of (by rfl) B.tuple (by decide +kernel) (pa_cons (pe_lc (own := [("k", 2)]) (g := gName 2) (tt := tYes) rfl sc_law_list.nd (pi_range1 (by rfl) B.range (pa_cons (pv 1) pa_nil)) (blkOk_by (N := n_law_list) (sc := defScope s_law_list) (by decide +kernel)) (fun _ _ _ _ _ => pg_name (i := 2) sc_law_list.nd rfl (Or.inl rfl)) (fun _ _ _ _ _ => pts_nil) (fun _ _ _ _ _ => (cal c_law_value hr rfl (pa_cons (pv 0) (pa_cons pe_int pa_nil))))) pa_nil)))), ?_⟩
  refine ⟨_, rfl, _, rfl, by omega, by omega, fun L nL => ?_⟩
  have La : L ≠ a := (hd.neH nL).symm
  have Ld : L ≠ d := (hd.neD nL).symm
  refine lc_range (lo := 0) (n := (n : Int).toNat) (fun i H' => ∃ vs ts, H' L = some (.lst vs) ∧ Trs K H' vs ts ∧ ts.length = i ∧ (∀ t ∈ ts, Bd 4 1 t) ∧ Keep [a] H H' ∧ Hd H' a d)
    ⟨[], [], upd_same, trs_nil, rfl, by simp, (Keep.new (S := [a]) nL), hd.new nL⟩ (fun i H5 hi p => ?_) (fun H5 p => ?_)
  · obtain ⟨vs, ts, e1, e2, e3, e4, k6, hd5⟩ := p
    refine ⟨rfl, yes ?_⟩
    refine ⟨_, rfl, a, d, rfl, hd5, fun v t H6 tv _ sz dp k7 hd6 => ?_⟩
    have e1' : H6 L = some (.lst vs) := k7.get e1 (by simpa using La)
    have k8 : Keep [L] H6 (upd H6 L (.lst (vs ++ [v]))) := Keep.set e1' (List.mem_cons_self ..)
    refine ⟨vs, e1', ?_, vs ++ [v], ts ++ [t], upd_same, (e2.keep k7 |>.append (trs_cons tv trs_nil)).keep k8, by rw [List.length_append, e3]; rfl, ?_, ((k6.trans k7).cons.trans (k8.mono (by simp))).drop nL, hd6.upd La.symm Ld.symm⟩
    · rw [e2.length]
      exact sizeLt (by omega)
    · intro u hu
      rcases List.mem_append.mp hu with m | m
      · exact e4 u m
      · rw [List.mem_singleton.mp m]
        exact ⟨sz, deep_td 1 _ dp⟩
  · obtain ⟨vs, ts, e1, e2, e3, e4, k6, hd5⟩ := p
    refine ⟨L, vs, rfl, .inl ⟨SqL.of e1, fun T nT => ?_⟩⟩
    exact q _ ts _ (tr_tup upd_same (e2.keep (Keep.new (S := []) nT))) (bd_l (n := 4) e4 (by omega)) (k6.newT nT) (hd5.new nT)
def spIns (K : PySem.W.Frag) : Sp := fun vs H Q _ => ∃ (h d N : Addr) (hs : List Tree), vs = [.ref h, .ref N] ∧ Hd H h d ∧ NL K H N hs ∧ NamesOk hs ∧ N ≠ h ∧ N ≠ d ∧ ∀ (v : V) (t : Tree) (H' : Hp), Tr K H' v t → InsOk hs t → Bd 40 4 t → Keep [h] H H' → Hd H' h d → Q v H'
theorem bd_two {x : List Nat} {t : Tree} {s d : Nat} (h : Bd s d t) : Bd (s + 2) (d + 1) (.l [.w x, t]) := by
  refine ⟨?_, ?_⟩
  · rw [size_l, sizes_cons, sizes_cons, sizes_nil, size_w]; have := h.1; omega
  · simp only [td, tds]; have := h.2; omega
theorem has_lawIns {k : Nat} (D : DefAt K mg "_law_instruction" s_law_instruction p_law_instruction) (B : Bn mg) (c1 : Has P w K mg base (k + 1) "_law_take" p_law_take spTake) (c2 : Has P w K mg base (k + 1) "_law_value" p_law_value (spVal K 2)) (c3 : Has P w K mg base (k + 1) "_law_list" p_law_list (spLawList K)) : Has P w K mg base (k + 2) "_law_instruction" p_law_instruction (spIns K) := by
  obtain ⟨f, fd, F, hm, hb⟩ := D.ex
  obtain ⟨_, _, c_law_take⟩ := c1
  obtain ⟨_, _, c_law_value⟩ := c2
  obtain ⟨_, _, c_law_list⟩ := c3
  refine ⟨f, fd, F.ok sc_law_instruction (fun vs H Q E h => ?_) (fun cdv A outer s H vs Q E hr h => ?_), hm, F.kp, hb⟩
  · obtain ⟨_, _, _, _, rfl, _⟩ := h
    rfl
  obtain ⟨a, d, N, hs, rfl, hd, nl, nok, Na, Nd, q⟩ := h
  refine ⟨_, (pss_cons (ps_set (i := 2) sc_law_instruction.nd rfl (.inl rfl) (cal c_law_take hr rfl (pa_cons (pv 0) (pa_cons pe_int pa_nil))))
    (pss_cons (ps_if (pt_cmpR op_lt (pv 2) pe_int (nomark _)) (pss_one (ps_ret (pe_tup (pa_cons pe_str (pa_cons (cal c_law_value hr rfl (pa_cons (pv 0) (pa_cons pe_int pa_nil))) pa_nil))))) pss_nil)
    (pss_cons (ps_if (pt_cmpR op_lt (pv 2) pe_int (nomark _)) (pss_one (ps_ret (pe_tup (pa_cons pe_str (pa_cons (cal c_law_list hr rfl (pa_cons (pv 0) (pa_cons (pe_ix ix_list (pe_lst (pa_cons pe_int (pa_cons pe_int (pa_cons pe_int (pa_cons (cal c_law_take hr rfl (pa_cons (pv 0) (pa_cons pe_int pa_nil))) pa_nil))))) (cal c_law_take hr rfl (pa_cons (pv 0) (pa_cons pe_int pa_nil))) (fun _ _ => rfl)) pa_nil))) pa_nil))))) pss_nil)
    (pss_cons (ps_if (pt_cmpR op_eq (pv 2) pe_int (nomark _)) (pss_one (ps_ret (pe_tup (pa_cons pe_str (pa_cons (cal c_law_list hr rfl (pa_cons (pv 0) (pa_cons (cal c_law_take hr rfl (pa_cons (pv 0) (pa_cons pe_int pa_nil))) pa_nil))) pa_nil))))) pss_nil)
    (pss_cons (ps_if (pt_cmpR op_lt (pv 2) pe_int (nomark _)) (pss_one (ps_ret (pe_tup (pa_cons (pe_ix ix_list (pe_lst (pa_cons pe_str (pa_cons pe_str (pa_cons pe_str (pa_cons pe_str (pa_cons pe_str pa_nil)))))) (pe_op op_sub (pv 2) pe_int) (fun _ _ => rfl)) pa_nil)))) pss_nil)
    (pss_cons (ps_set (i := 3) sc_law_instruction.nd rfl (.inl rfl) (pe_ix ix_list (pv 1) (cal c_law_take hr rfl (pa_cons (pv 0) (pa_cons (pe_callB call_len_seq (by rfl) B.len PySem.boot_len (pa_cons (pv 1) pa_nil)) pa_nil))) (fun _ _ => rfl)))
    (pss_cons (ps_if (pt_cmpR op_eq (pv 2) pe_int (nomark _)) (pss_one (ps_ret (pe_tup (pa_cons pe_str (pa_cons (pv 3) pa_nil))))) pss_nil)
    (pss_one (ps_ret (pe_tup (pa_cons pe_str (pa_cons (pv 3) (pa_cons (pe_ix ix_list (pv 1) (cal c_law_take hr rfl (pa_cons (pv 0) (pa_cons (pe_callB call_len_seq (by rfl) B.len PySem.boot_len (pa_cons (pv 1) pa_nil)) pa_nil))) (fun _ _ => rfl)) pa_nil))))))))))))), ?_⟩
  refine ⟨_, rfl, a, d, 13, rfl, hd, by decide, fun kd H1 kd0 kd1 k1 hd1 => ?_⟩
  have two : ∀ {G : Hp} {s : Str} {x : List Nat} {v : V} {t : Tree} {p : Addr}, s = tx x → Keep [a] H G → Hd G a d → Tr K G v t → InsOk hs (.l [.w x, t]) → Bd 17 2 t → G p = none → Q (.ref p) (upd G p (.tup [.str s, v])) := fun {G s x v t p} es kk hdG tv ok bd np => by
    obtain ⟨tm, km⟩ := mk_tr (K := K) (H := G) np (trs_cons (str_tr es) (Trs.one tv))
    exact q _ _ _ tm ok ((bd_two bd).mono (by decide) (by decide)) (kk.newT np) (hdG.new np)
  refine ⟨_, rfl, _, _, rfl, rfl, _, rfl, ite2 (fun c => ?_) (fun c => ?_)⟩
  · refine ⟨_, rfl, a, d, rfl, hd1, fun v t H2 tv _ sz dp k2 hd2 => ?_⟩
    refine ⟨by show (2 : Nat) ≤ sizeLine; decide, fun p np => ?_⟩
    exact two lit_push (k1.trans k2) hd2 tv ⟨show arI pushW = some 2 by decide +kernel, fun z => absurd z (by decide), fun z => absurd z (by decide)⟩ ⟨Nat.le_trans sz (by decide), deep_td 2 _ dp⟩ np
  refine ⟨_, rfl, _, _, rfl, rfl, _, rfl, ite2 (fun c2 => ?_) (fun c2 => ?_)⟩
  · refine ⟨_, rfl, _, rfl, a, d, 5, rfl, hd1, by decide, fun j5 H2 j50 j51 k2 hd2 => ?_⟩
    refine ⟨by show (4 : Nat) ≤ sizeLine; decide, fun p np => ?_⟩
    have pa : p ≠ a := (hd2.neH np).symm
    have kp : Keep [] H2 (upd H2 p (.lst [.int 0, .int 1, .int 2, .int j5])) := Keep.new np
    have ep : (upd H2 p (.lst [.int 0, .int 1, .int 2, .int j5])) p = some (.lst [.int 0, .int 1, .int 2, .int j5]) := upd_same
    have hdp := hd2.new (o := .lst [.int 0, .int 1, .int 2, .int j5]) np
    generalize upd H2 p (.lst [.int 0, .int 1, .int 2, .int j5]) = H2b at kp ep hdp
    refine ⟨_, rfl, a, d, 4, rfl, hdp, by decide, fun j4 H3 j40 j41 k3 hd3 => ?_⟩
    obtain ⟨n, hz, n4⟩ : ∃ n : Nat, atI [V.int 0, .int 1, .int 2, .int j5] j4 = some (.int (n : Nat)) ∧ n ≤ 4 := by
      have c : j4 = 0 ∨ j4 = 1 ∨ j4 = 2 ∨ j4 = 3 := by omega
      rcases c with rfl | rfl | rfl | rfl
      · exact ⟨0, rfl, by decide⟩
      · exact ⟨1, rfl, by decide⟩
      · exact ⟨2, rfl, by decide⟩
      · refine ⟨j5.toNat, ?_, by omega⟩
        rw [show ((j5.toNat : Nat) : Int) = j5 by omega]
        rfl
    refine ⟨p, _, _, _, rfl, rfl, SqL.of (k3.get ep (by simpa using pa)), hz, ?_⟩
    refine ⟨a, d, n, rfl, hd3, n4, fun v ts H4 tv bd k4 hd4 => ?_⟩
    refine ⟨by show (2 : Nat) ≤ sizeLine; decide, fun p np => ?_⟩
    exact two lit_copy ((((k1.trans k2).trans (kp.mono (by simp))).trans k3).trans k4) hd4 tv ⟨show arI copyW = some 2 by decide +kernel, fun _ p m => by rw [List.mem_singleton.mp m]; rfl, fun z => absurd z (by decide)⟩ bd np
  refine ⟨_, rfl, rfl, _, rfl, ite2 (fun c3 => ?_) (fun c3 => ?_)⟩
  · refine ⟨_, rfl, _, rfl, a, d, 4, rfl, hd1, by decide, fun j5 H2 j50 j51 k2 hd2 => ?_⟩
    obtain ⟨n, rfl⟩ := Int.eq_ofNat_of_zero_le j50
    refine ⟨a, d, n, rfl, hd2, by omega, fun v ts H4 tv bd k4 hd4 => ?_⟩
    refine ⟨by show (2 : Nat) ≤ sizeLine; decide, fun p np => ?_⟩
    exact two lit_slide ((k1.trans k2).trans k4) hd4 tv ⟨show arI slideW = some 2 by decide +kernel, fun _ p m => by rw [List.mem_singleton.mp m]; rfl, fun z => absurd z (by decide)⟩ bd np
  rw [decide_eq_true_eq] at c c2
  have c3' : kd ≠ 5 := fun e => c3 (by rw [e]; decide)
  refine ⟨_, rfl, _, _, rfl, rfl, _, rfl, ite2 (fun c4 => ?_) (fun c4 => ?_)⟩
  · rw [decide_eq_true_eq] at c4
    refine ⟨by show (5 : Nat) ≤ sizeLine; decide, fun p np => ?_⟩
    have kp : Keep [] H1 (upd H1 p (.lst [V.str "same", .str "word", .str "head", .str "tail", .str "join"])) := Keep.new np
    have ep : (upd H1 p (.lst [V.str "same", .str "word", .str "head", .str "tail", .str "join"])) p = some (.lst [V.str "same", .str "word", .str "head", .str "tail", .str "join"]) := upd_same
    have hdp := hd1.new (o := .lst [V.str "same", .str "word", .str "head", .str "tail", .str "join"]) np
    generalize upd H1 p (.lst [V.str "same", .str "word", .str "head", .str "tail", .str "join"]) = H2 at kp ep hdp
    obtain ⟨x, hz, wx⟩ : ∃ x, atI [V.str "same", .str "word", .str "head", .str "tail", .str "join"] (kd - 6) = some (.str (tx x)) ∧ x ∈ [sameW, wordW, headW, tailW, joinW] := by
      rw [show [V.str "same", V.str "word", V.str "head", V.str "tail", V.str "join"] = [sameW, wordW, headW, tailW, joinW].map (fun c => V.str (tx c)) by decide +kernel]
      obtain ⟨n, e⟩ := Int.eq_ofNat_of_zero_le (show 0 ≤ kd - 6 by omega)
      have l : n < [sameW, wordW, headW, tailW, joinW].length := by show n < 5; omega
      rw [e]
      exact ⟨[sameW, wordW, headW, tailW, joinW][n], atI_nat (by rw [List.getElem?_map, List.getElem?_eq_getElem l]; rfl), List.getElem_mem l⟩
    refine ⟨_, rfl, _, _, rfl, rfl, p, _, _, _, rfl, rfl, SqL.of ep, hz, ?_⟩
    refine ⟨by show (1 : Nat) ≤ sizeLine; decide, fun T nT => ?_⟩
    obtain ⟨tm, km⟩ := mk_tr (K := K) (H := H2) nT (Trs.one (tr_w (x := x)))
    refine q _ _ _ tm ⟨by rw [ar_one wx]; rfl, fun z => absurd z (plain_one wx).1, fun z => absurd z (plain_one wx).2⟩ ⟨by rw [size_l, sizes_cons, sizes_nil, size_w]; decide, by simp only [td, tds]; omega⟩ ((k1.trans (kp.mono (by simp))).newT nT) (hdp.new nT)
  obtain ⟨ns, eN, rn⟩ := nl
  have ln := rn.length
  have lpos : 0 < hs.length := List.length_pos_iff.mpr nok.1
  have eN1 := k1.get eN (by simpa using Na)
  refine ⟨_, rfl, _, rfl, _, rfl, N, ns, rfl, .inl (SqL.of eN1), a, d, _, rfl, hd1, by omega, fun j H2 j0 j1 k2 hd2 => ?_⟩
  have k12 := k1.trans k2
  obtain ⟨z, u, hz, tz, mu⟩ := pickT (rn.keep k12) j0 (by rw [← ln]; exact j1)
  have bu := nok.2.2.2 u mu
  have eN2 := k12.get eN (by simpa using Na)
  refine ⟨N, ns, _, z, rfl, rfl, SqL.of eN2, hz, ?_⟩
  refine ⟨_, rfl, rfl, _, rfl, ite2 (fun c5 => ?_) (fun c5 => ?_)⟩
  · refine ⟨_, rfl, by show (2 : Nat) ≤ sizeLine; decide, fun p np => ?_⟩
    exact two lit_call k12 hd2 tz ⟨show arI callW = some 2 by decide +kernel, fun z => absurd z (by decide), fun _ p m => by rw [List.mem_singleton.mp m]; exact mu⟩ (bu.mono (by decide) (by decide)) np
  · refine ⟨_, rfl, _, rfl, _, rfl, _, rfl, N, ns, rfl, .inl (SqL.of eN2), a, d, _, rfl, hd2, by omega, fun j H3 j0 j1 k3 hd3 => ?_⟩
    obtain ⟨z2, u2, hz2, tz2, mu2⟩ := pickT (rn.keep (k12.trans k3)) j0 (by rw [← ln]; exact j1)
    have bu2 := nok.2.2.2 u2 mu2
    refine ⟨N, ns, _, z2, rfl, rfl, SqL.of ((k12.trans k3).get eN (by simpa using Na)), hz2, ?_⟩
    refine ⟨by show (3 : Nat) ≤ sizeLine; decide, fun p np => ?_⟩
    obtain ⟨tm, km⟩ := mk_tr (K := K) (H := H3) np (trs_cons (str_tr lit_if) (trs_cons (tz.keep k3) (Trs.one tz2)))
    refine q _ _ _ tm ⟨by show arI ifW = some 3; decide +kernel, fun z => absurd z (by decide), fun _ p m => ?_⟩ ⟨?_, ?_⟩ ((k12.trans k3).newT np) (hd3.new np)
    · rcases List.mem_cons.mp m with m | m
      · rw [m]; exact mu
      · rw [List.mem_singleton.mp m]; exact mu2
    · rw [size_l, sizes_cons, sizes_cons, sizes_cons, sizes_nil, size_w]; have := bu.1; have := bu2.1; omega
    · simp only [td, tds]; have := bu.2; have := bu2.2; omega
end
end Og

namespace Og
open PySem PySem.Spec PyProof.Rows L2
theorem heads_out {fs : List Tree} (h : (heads fs).Nodup) {i : Nat} {n : Tree} {is : List Tree} (e : fs[i]? = some (.l (n :: is))) : n ∉ heads (fs.take i) := by
  intro m
  have il := (List.getElem?_eq_some_iff.mp e).1
  have sp : fs = fs.take i ++ (.l (n :: is) :: fs.drop (i + 1)) := by
    have h1 := (List.take_append_drop i fs).symm
    rw [List.drop_eq_getElem_cons il] at h1
    have h2 : fs[i] = .l (n :: is) := (List.getElem?_eq_some_iff.mp e).2
    rw [h2] at h1
    exact h1
  rw [sp, heads_app, heads_cons, heads_l, List.nodup_append] at h
  exact h.2.2 n m n (List.mem_append_left _ (List.mem_singleton.mpr rfl)) rfl
/-- a drawn machine program -/
def MachOk (fs : List Tree) : Prop := fs ≠ [] ∧ fs.length ≤ 5 ∧ (∀ t ∈ fs, Bd 1200 6 t ∧ ∃ n is, t = .l (n :: is)) ∧ BadM (.l fs) none ∧ (∀ u ∈ heads fs, Bd 13 2 u)
section
variable {P : Program} {w : World} {K : PySem.W.Frag} {mg : Str → Option Value} {base : Heap}
def spMachine (K : PySem.W.Frag) : Sp := fun vs H Q _ => ∃ (h d : Addr), vs = [.ref h] ∧ Hd H h d ∧ ∀ (v : V) (fs : List Tree) (H' : Hp), Tr K H' v (.l fs) → MachOk fs → Keep [h] H H' → Hd H' h d → Q v H'
theorem has_machine {k : Nat} (D : DefAt K mg "_law_machine" s_law_machine p_law_machine) (B : Bn mg) (c1 : Has P w K mg base (k + 1) "_law_take" p_law_take spTake) (c2 : Has P w K mg base (k + 1) "_law_names_of" p_law_names_of (spNamesOf K)) (c3 : Has P w K mg base (k + 1) "_law_instruction" p_law_instruction (spIns K)) : Has P w K mg base (k + 2) "_law_machine" p_law_machine (spMachine K) := by
  obtain ⟨f, fd, F, hm, hb⟩ := D.ex
  obtain ⟨_, _, c_law_take⟩ := c1
  obtain ⟨_, _, c_law_names_of⟩ := c2
  obtain ⟨_, _, c_law_instruction⟩ := c3
  refine ⟨f, fd, F.ok sc_law_machine (fun vs H Q E h => ?_) (fun cdv A outer s H vs Q E hr h => ?_), hm, F.kp, hb⟩
  · obtain ⟨_, _, rfl, _⟩ := h
    rfl
  obtain ⟨a, d, rfl, hd, q⟩ := h
  refine ⟨_, (pss_cons (ps_set (i := 1) sc_law_machine.nd rfl (.inr rfl) (cal c_law_names_of hr rfl (pa_cons (pv 0) pa_nil)))
    (pss_cons (ps_set (i := 2) sc_law_machine.nd rfl (.inl rfl) (pe_lst pa_nil))
    (pss_cons (ps_for PassesOwn.never rfl (pi_list (pv 1)) (pg_name (i := 3) sc_law_machine.nd rfl (.inl rfl))
      (pss_cons (ps_set (i := 4) sc_law_machine.nd rfl (.inl rfl) (pe_ix ix_list (pe_lst (pa_cons (cal c_law_take hr rfl (pa_cons (pv 0) (pa_cons pe_int pa_nil))) (pa_cons (cal c_law_take hr rfl (pa_cons (pv 0) (pa_cons pe_int pa_nil))) pa_nil))) (pe_op op_fdiv (cal c_law_take hr rfl (pa_cons (pv 0) (pa_cons pe_int pa_nil))) pe_int) (fun _ _ => rfl)))
      (pss_one (ps_expr (pe_bm PySem.F.plainAttrs_list PySem.F.slot_list_append PySem.F.type_list_append mt_append (pv 2) (pa_cons (pe_op op_catA (pe_tup (pa_cons (pv 3) pa_nil)) (pe_callTy call_tuple_of (by rfl) B.tuple (by decide +kernel) (pa_cons (pe_lc (own := [("k", 5)]) (g := gName 5) (tt := tYes) rfl sc_law_machine.nd (pi_range1 (by rfl) B.range (pa_cons (pv 4) pa_nil)) (blkOk_by (N := n_law_machine) (sc := defScope s_law_machine) (by decide +kernel)) (fun _ _ _ _ _ => pg_name (i := 5) sc_law_machine.nd rfl (Or.inl rfl)) (fun _ _ _ _ _ => pts_nil) (fun _ _ _ _ _ => (cal c_law_instruction hr rfl (pa_cons (pv 0) (pa_cons (pv 1) pa_nil))))) pa_nil))) pa_nil))))))
    (pss_one (ps_ret (pe_callTy call_tuple_of (by rfl) B.tuple (by decide +kernel) (pa_cons (pv 2) pa_nil))))))), ?_⟩
  refine ⟨_, rfl, a, d, rfl, hd, fun N hs H1 nN nl nok k1 hd1 => ?_⟩
  have Na : N ≠ a := (hd.neH nN).symm
  have Nd : N ≠ d := (hd.neD nN).symm
  obtain ⟨ns, eN, rn⟩ := nl
  have ln := rn.length
  refine ⟨Nat.zero_le _, fun R nR => ?_⟩
  have Ra : R ≠ a := (hd1.neH nR).symm
  have Rd : R ≠ d := (hd1.neD nR).symm
  have RN : N ≠ R := ne_of_none eN nR
  have nR0 : H R = none := k1.free nR
  have k2 : Keep [] H1 (upd H1 R (.lst [])) := Keep.new nR
  refine ⟨_, rfl, N, rfl, ⟨_, SqL.of (k2.get eN (by simp))⟩, ?_⟩
  refine for_list (K := K) (a := N) (xs := ns) (fun i σ H' => ∃ (y3 y4 y5 : Option V) (rs : List V) (fs : List Tree), σ = [some (.ref a), some (.ref N), some (.ref R), y3, y4, y5] ∧ Keep [a] H H' ∧ Keep [a, R] H1 H' ∧ Hd H' a d ∧ H' R = some (.lst rs) ∧ Trs K H' rs fs ∧ fs.length = i ∧ heads fs = hs.take i ∧ ∀ t ∈ fs, Bd 1200 6 t ∧ ∃ n is, t = .l (n :: is) ∧ ∀ x ∈ is, InsOk hs x)
    ⟨none, none, none, [], [], rfl, k1.trans (k2.mono (by simp)), k2.mono (by simp), hd1.new nR, upd_same, trs_nil, rfl, by rw [List.take_zero]; rfl, fun t m => absurd m (List.not_mem_nil)⟩ (fun i σ H' _ pw => ?_) (fun i z σ H2 hz pw => ?_) (fun σ H2 pw => ?_)
  · obtain ⟨_, _, _, _, _, _, _, kk, _⟩ := pw
    exact SqL.of (kk.get eN (by simp [Na, RN]))
  · obtain ⟨y3, y4, y5, rs, fs, rfl, k02, k12, hd2, eR, rr, lf, hh, all⟩ := pw
    have il : i < hs.length := by rw [← ln]; exact (List.getElem?_eq_some_iff.mp hz).1
    have hg : hs[i]? = some hs[i] := List.getElem?_eq_getElem il
    have tk : hs.take (i + 1) = hs.take i ++ [hs[i]] := by rw [List.take_succ, hg]; rfl
    obtain ⟨z', hz', tz⟩ := (rn.keep k12).get hg
    rw [hz] at hz'
    cases hz'
    have bn := nok.2.2.2 _ (List.getElem_mem il)
    generalize hs[i] = nm at hg tk tz bn
    refine ⟨_, rfl, a, d, 12, rfl, hd2, by decide, fun ja H3 ja0 ja1 k3 hd3 => ?_⟩
    refine ⟨_, rfl, a, d, 30, rfl, hd3, by decide, fun jb H4 jb0 jb1 k4 hd4 => ?_⟩
    refine ⟨by show (2 : Nat) ≤ sizeLine; decide, fun p np => ?_⟩
    have pa : p ≠ a := (hd4.neH np).symm
    have kp : Keep [] H4 (upd H4 p (.lst [.int ja, .int jb])) := Keep.new np
    have ep : (upd H4 p (.lst [.int ja, .int jb])) p = some (.lst [.int ja, .int jb]) := upd_same
    have hdp := hd4.new (o := .lst [.int ja, .int jb]) np
    generalize upd H4 p (.lst [.int ja, .int jb]) = H5 at kp ep hdp
    refine ⟨_, rfl, a, d, 5, rfl, hdp, by decide, fun j H6 j0 j1 k6 hd6 => ?_⟩
    refine ⟨_, _, rfl, rfl, ⟨by decide, by omega⟩, ?_⟩
    obtain ⟨many, hz2, m30⟩ : ∃ many : Nat, atI [V.int ja, .int jb] (j / 4) = some (.int (many : Nat)) ∧ many ≤ 29 := by
      have c : j / 4 = 0 ∨ j / 4 = 1 := by omega
      rcases c with e | e
      · refine ⟨ja.toNat, ?_, by omega⟩
        rw [e, show ((ja.toNat : Nat) : Int) = ja by omega]
        rfl
      · refine ⟨jb.toNat, ?_, by omega⟩
        rw [e, show ((jb.toNat : Nat) : Int) = jb by omega]
        rfl
    refine ⟨p, _, _, _, rfl, rfl, SqL.of (k6.get ep (by simpa using pa)), hz2, ?_⟩
    have k26 : Keep [a] H2 H6 := (((k3.trans k4).trans (kp.mono (by simp))).trans k6)
    have eR6 := k26.get eR (by simpa using Ra)
    refine ⟨_, rfl, .inl ⟨rfl, _, SqL.of eR6⟩, _, rfl, by show (1 : Nat) ≤ sizeLine; decide, fun T nT => ?_⟩
    have kT : Keep [] H6 (upd H6 T (.tup [z])) := Keep.new nT
    obtain ⟨tT, _⟩ := mk_tr (K := K) (H := H6) nT (Trs.one (tz.keep k26))
    have hd7 := hd6.new (o := .tup [z]) nT
    generalize upd H6 T (.tup [z]) = H7 at kT tT hd7
    have k27 := k26.trans (kT.mono (S' := [a]) (by simp))
    have k127 : Keep [a, R] H1 H7 := k12.trans (k27.mono (by simp))
    refine ⟨_, rfl, _, rfl, by omega, by omega, fun L nL => ?_⟩
    have La : L ≠ a := (hd7.neH nL).symm
    have Ld : L ≠ d := (hd7.neD nL).symm
    refine lc_range (lo := 0) (n := (many : Int).toNat) (fun i H' => ∃ vs ts, H' L = some (.lst vs) ∧ Trs K H' vs ts ∧ ts.length = i ∧ (∀ t ∈ ts, Bd 40 4 t ∧ InsOk hs t) ∧ Keep [a] H7 H' ∧ Hd H' a d)
      ⟨[], [], upd_same, trs_nil, rfl, by simp, (Keep.new (S := [a]) nL), hd7.new nL⟩ (fun i H8 hi p => ?_) (fun H8 p => ?_)
    · obtain ⟨vs, ts, e1, e2, e3, e4, k8, hd8⟩ := p
      refine ⟨rfl, yes ?_⟩
      have k128 := k127.trans (k8.mono (S' := [a, R]) (by simp))
      refine ⟨_, rfl, _, rfl, a, d, N, hs, rfl, hd8, ⟨ns, k128.get eN (by simp [Na, RN]), rn.keep k128⟩, nok, Na, Nd, fun v t H9 tv ok bd k9 hd9 => ?_⟩
      have e1' : H9 L = some (.lst vs) := k9.get e1 (by simpa using La)
      have kL : Keep [L] H9 (upd H9 L (.lst (vs ++ [v]))) := Keep.set e1' (List.mem_cons_self ..)
      refine ⟨vs, e1', ?_, vs ++ [v], ts ++ [t], upd_same, (e2.keep k9 |>.append (trs_cons tv trs_nil)).keep kL, by rw [List.length_append, e3]; rfl, ?_, ((k8.trans k9).cons.trans (kL.mono (by simp))).drop nL, hd9.upd La.symm Ld.symm⟩
      · rw [e2.length]
        exact sizeLt (by omega)
      · intro u hu
        rcases List.mem_append.mp hu with m | m
        · exact e4 u m
        · rw [List.mem_singleton.mp m]
          exact ⟨bd, ok⟩
    · obtain ⟨vs, ts, e1, e2, e3, e4, k8, hd8⟩ := p
      have lts : ts.length ≤ 29 := by omega
      refine ⟨L, vs, rfl, .inl ⟨SqL.of e1, fun T2 nT2 => ?_⟩⟩
      obtain ⟨tT2, kT2⟩ := mk_tr (K := K) (H := H8) nT2 e2
      have hd9 := hd8.new (o := .tup vs) nT2
      generalize upd H8 T2 (.tup vs) = H9 at tT2 kT2 hd9
      refine cat_tr ((tT.keep k8).keep kT2) tT2 (Nat.le_trans (show _ ≤ 100 by rw [List.length_singleton]; omega) (by decide)) fun v H10 tv k10 => ?_
      have k2x : Keep [a] H2 H10 := ((k27.trans k8).trans (kT2.mono (by simp))).trans (k10.mono (by simp))
      have hd10 := hd9.keep0 k10
      have eR10 := k2x.get eR (by simpa using Ra)
      have lrs := rr.length
      refine ⟨R, rs, _, rfl, rfl, eR10, Nat.lt_of_le_of_lt (show rs.length ≤ 100 by have := nok.2.2.1; omega) (by decide), ?_⟩
      have kR : Keep [R] H10 (upd H10 R (.lst (rs ++ [v]))) := Keep.set eR10 (List.mem_cons_self ..)
      refine ⟨_, _, _, rs ++ [v], fs ++ [.l (nm :: ts)], rfl, ((k02.trans k2x).cons.trans (kR.mono (by simp))).drop nR0, (k12.trans (k2x.mono (by simp))).trans (kR.mono (by simp)), hd10.upd Ra.symm Rd.symm, upd_same, ((rr.keep k2x).append (Trs.one tv)).keep kR, by rw [List.length_append, lf]; rfl, by rw [heads_app, hh, tk, heads_l], fun t m => ?_⟩
      rcases List.mem_append.mp m with m | m
      · exact all t m
      · rw [List.mem_singleton.mp m]
        refine ⟨⟨?_, ?_⟩, nm, ts, rfl, fun x hx => (e4 x hx).2⟩
        · rw [size_l, sizes_cons]
          have h1 := bn.1
          have h2 := sizes_le fun t m => (e4 t m).1.1
          have h3 := Nat.mul_le_mul_right 40 lts
          omega
        · rw [td, tds]
          have h1 := bn.2
          have h2 := tds_le fun t m => (e4 t m).1.2
          omega
  · obtain ⟨y3, y4, y5, rs, fs, rfl, k02, k12, hd2, eR, rr, lf, hh, all⟩ := pw
    rw [ln, List.take_length] at hh
    rw [ln] at lf
    refine ⟨_, rfl, R, rs, rfl, .inl ⟨SqL.of eR, fun T nT => ?_⟩⟩
    obtain ⟨tT, kT⟩ := mk_tr (K := K) (H := H2) nT rr
    have lpos : 0 < hs.length := List.length_pos_iff.mpr nok.1
    have l5 := nok.2.2.1
    have hne : fs ≠ [] := fun e => by rw [e] at lf; rw [← lf] at lpos; exact absurd lpos (by decide)
    refine q _ fs _ tT ⟨hne, by omega, fun t m => ?_, .inr ⟨hne, .inl ⟨rfl, fun i il => ?_⟩⟩, by rw [hh]; exact nok.2.2.2⟩ (k02.newT nT) (hd2.new nT)
    · obtain ⟨b, n, is, e, _⟩ := all t m
      exact ⟨b, n, is, e⟩
    · obtain ⟨b, n, is, e, ok⟩ := all _ (List.getElem_mem il)
      have e2 : fs[i]? = some (.l (n :: is)) := by rw [List.getElem?_eq_getElem il, e]
      exact ⟨n, is, e2, heads_out (by rw [hh]; exact nok.2.1) e2, by rw [hh]; exact ok⟩
end
end Og

namespace Og
open PySem PySem.Spec PyProof.Rows L2
theorem bd_w {x : List Nat} {s d : Nat} (h : 1 ≤ s) : Bd s d (.w x) := ⟨by rw [size_w]; exact h, by rw [td]; omega⟩
theorem repT {K : PySem.W.Frag} {H : Hp} {vs : List V} {ts : List Tree} (r : Trs K H vs ts) : ∀ n : Nat, Trs K H (List.replicate n vs).flatten (List.replicate n ts).flatten
  | 0 => trs_nil
  | n + 1 => by
    rw [List.replicate_succ, List.replicate_succ, List.flatten_cons, List.flatten_cons]
    exact r.append (repT r n)
theorem sizes_cut (ts : List Tree) (lo hi : Option Int) : sizes (cutL ts lo hi) ≤ sizes ts := Nat.le_trans (sizes_take _ _) (sizes_drop _ _)
section
variable {P : Program} {w : World} {K : PySem.W.Frag} {mg : Str → Option Value} {base : Heap}
def spOdd (K : PySem.W.Frag) : Sp := fun vs H Q _ => ∃ (h d : Addr) (vp : V) (fs : List Tree), vs = [.ref h, vp] ∧ Hd H h d ∧ Tr K H vp (.l fs) ∧ fs.length ≤ 1000 ∧ (∀ u ∈ heads fs, Bd 13 2 u) ∧ ∀ (v : V) (t : Tree) (H' : Hp), Tr K H' v t → Bd 40 5 t → Keep [h] H H' → Hd H' h d → Q v H'
theorem has_odd {k : Nat} (D : DefAt K mg "_law_odd" s_law_odd p_law_odd) (B : Bn mg) (c1 : Has P w K mg base (k + 1) "_law_take" p_law_take spTake) (c2 : Has P w K mg base (k + 1) "_law_names_in" p_law_names_in (spNamesIn K)) : Has P w K mg base (k + 2) "_law_odd" p_law_odd (spOdd K) := by
  obtain ⟨f, fd, F, hm, hb⟩ := D.ex
  obtain ⟨_, _, c_law_take⟩ := c1
  obtain ⟨_, _, c_law_names_in⟩ := c2
  refine ⟨f, fd, F.ok sc_law_odd (fun vs H Q E h => ?_) (fun cdv A outer s H vs Q E hr h => ?_), hm, F.kp, hb⟩
  · obtain ⟨_, _, _, _, rfl, _⟩ := h
    rfl
  obtain ⟨a, d, vp, fs, rfl, hd, tv, few, bd, q⟩ := h
  refine ⟨_, (pss_cons (ps_set (i := 2) sc_law_odd.nd rfl (.inl rfl) (cal c_law_names_in hr rfl (pa_cons (pv 1) pa_nil)))
    (pss_cons (ps_set (i := 3) sc_law_odd.nd rfl (.inl rfl) (cal c_law_take hr rfl (pa_cons (pv 0) (pa_cons pe_int pa_nil))))
    (pss_cons (ps_if (PW.pt (pw_or (pt_cmpR op_eq (pv 3) pe_int (nomark _)) (pw_or1 (pt_cmpR op_eq (pe_callB call_len_seq (by rfl) B.len PySem.boot_len (pa_cons (pv 2) pa_nil)) pe_int (nomark _))))) (pss_one (ps_ret (pe_ix ix_list (pe_lst (pa_cons pe_str (pa_cons pe_str (pa_cons pe_str (pa_cons pe_str (pa_cons pe_str (pa_cons pe_str (pa_cons pe_str (pa_cons pe_str (pa_cons pe_str pa_nil)))))))))) (cal c_law_take hr rfl (pa_cons (pv 0) (pa_cons pe_int pa_nil))) (fun _ _ => rfl)))) pss_nil)
    (pss_cons (ps_if (pt_cmpR op_eq (pv 3) pe_int (nomark _)) (pss_one (ps_ret (pe_ix ix_list (pe_lst (pl_cons (pe_lt pl_nil (by show 0 ≤ sizeLine; decide)) (pl_cons (pe_lt (pl_cons (pe_lw (x := [112, 117, 115, 104]) (by decide +kernel)) pl_nil) (by show 1 ≤ sizeLine; decide)) (pl_cons (pe_lt (pl_cons (pe_lt (pl_cons (pe_lw (x := [112, 117, 115, 104]) (by decide +kernel)) (pl_cons (pe_lw (x := [97]) (by decide +kernel)) pl_nil)) (by show 2 ≤ sizeLine; decide)) pl_nil) (by show 1 ≤ sizeLine; decide)) (pl_cons (pe_lt (pl_cons (pe_lw (x := [122, 122]) (by decide +kernel)) (pl_cons (pe_lw (x := [97]) (by decide +kernel)) pl_nil)) (by show 2 ≤ sizeLine; decide)) (pl_cons (pe_lt (pl_cons (pe_lw (x := [115, 97, 109, 101]) (by decide +kernel)) (pl_cons (pe_lt pl_nil (by show 0 ≤ sizeLine; decide)) pl_nil)) (by show 2 ≤ sizeLine; decide)) (pl_cons (pe_lt (pl_cons (pe_lw (x := [112, 117, 115, 104]) (by decide +kernel)) (pl_cons (pe_lw (x := [97]) (by decide +kernel)) (pl_cons (pe_lw (x := [98]) (by decide +kernel)) pl_nil))) (by show 3 ≤ sizeLine; decide)) pl_nil))))))) (cal c_law_take hr rfl (pa_cons (pv 0) (pa_cons pe_int pa_nil))) (fun _ _ => rfl)))) pss_nil)
    (pss_cons (ps_set (i := 4) sc_law_odd.nd rfl (.inl rfl) (pe_ix ix_list (pv 2) (cal c_law_take hr rfl (pa_cons (pv 0) (pa_cons (pe_callB call_len_seq (by rfl) B.len PySem.boot_len (pa_cons (pv 2) pa_nil)) pa_nil))) (fun _ _ => rfl)))
    (pss_cons (ps_if (pt_cmpR op_eq (pv 3) pe_int (nomark _)) (pss_one (ps_ret (pe_ix ix_list (pe_lst (pa_cons (pv 4) (pa_cons (pe_tup (pa_cons (pv 4) pa_nil)) (pa_cons (pe_tup (pa_cons pe_str (pa_cons (pe_tup (pa_cons (pv 4) pa_nil)) pa_nil))) (pa_cons (pe_lt (pl_cons (pe_lw (x := [99, 97, 108, 108]) (by decide +kernel)) pl_nil) (by show 1 ≤ sizeLine; decide)) (pa_cons (pe_tup (pa_cons pe_str (pa_cons (pv 4) (pa_cons (pv 4) pa_nil)))) pa_nil)))))) (cal c_law_take hr rfl (pa_cons (pv 0) (pa_cons pe_int pa_nil))) (fun _ _ => rfl)))) pss_nil)
    (pss_cons (ps_if (pt_cmpR op_eq (pv 3) pe_int (nomark _)) (pss_one (ps_ret (pe_tup (pa_cons (pe_ix ix_list (pe_lst (pa_cons pe_str (pa_cons pe_str pa_nil))) (cal c_law_take hr rfl (pa_cons (pv 0) (pa_cons pe_int pa_nil))) (fun _ _ => rfl)) (pa_cons (pe_ix ix_list (pe_lst (pa_cons pe_str (pa_cons (pe_lt pl_nil (by show 0 ≤ sizeLine; decide)) (pa_cons (pe_lt (pl_cons (pe_lw (x := [97]) (by decide +kernel)) pl_nil) (by show 1 ≤ sizeLine; decide)) (pa_cons (pv 4) pa_nil))))) (cal c_law_take hr rfl (pa_cons (pv 0) (pa_cons pe_int pa_nil))) (fun _ _ => rfl)) pa_nil))))) pss_nil)
    (pss_cons (ps_if (pt_cmpR op_eq (pv 3) pe_int (nomark _)) (pss_one (ps_ret (pe_op op_catA (pe_lt (pl_cons (pe_lw (x := [105, 102]) (by decide +kernel)) pl_nil) (by show 1 ≤ sizeLine; decide)) (pe_slice sl_tupA (pe_tup (pa_cons (pv 4) (pa_cons pe_str (pa_cons (pv 4) pa_nil)))) po_none (po_some (cal c_law_take hr rfl (pa_cons (pv 0) (pa_cons pe_int pa_nil)))))))) pss_nil)
    (pss_cons (ps_if (pt_cmpR op_eq (pv 3) pe_int (nomark _)) (pss_one (ps_ret (pe_tup (pa_cons pe_str (pa_cons (pv 4) (pa_cons (pv 4) pa_nil)))))) pss_nil)
    (pss_one (ps_ret (pe_op op_catA (pe_tup (pa_cons (pe_ix ix_list (pe_lst (pa_cons pe_str (pa_cons pe_str (pa_cons pe_str (pa_cons pe_str (pa_cons pe_str (pa_cons pe_str (pa_cons pe_str pa_nil)))))))) (cal c_law_take hr rfl (pa_cons (pv 0) (pa_cons pe_int pa_nil))) (fun _ _ => rfl)) pa_nil)) (pe_op op_repA (pe_lt (pl_cons (pe_lt pl_nil (by show 0 ≤ sizeLine; decide)) pl_nil) (by show 1 ≤ sizeLine; decide)) (cal c_law_take hr rfl (pa_cons (pv 0) (pa_cons pe_int pa_nil)))))))))))))))), ?_⟩
  refine ⟨_, rfl, vp, fs, rfl, tv, by omega, fun L ns H1 nL eL rn k1 => ?_⟩
  have La : L ≠ a := (hd.neH nL).symm
  have ln := rn.length
  refine ⟨_, rfl, a, d, 7, rfl, hd.keep0 k1, by decide, fun kd H2 kd0 kd1 k2 hd2 => ?_⟩
  have k12 : Keep [a] H H2 := (k1.mono (by simp)).trans k2
  have eL2 := k2.get eL (by simpa using La)
  have rn2 := rn.keep k2
  refine ⟨_, rfl, rfl, _, rfl, ?_⟩
  have words : ∀ (xs : List V) (M : List (List Nat)), xs = M.map (fun c => V.str (tx c)) → M.all isWordB = true → ∀ (G : Hp), Keep [a] H G → Hd G a d → ∀ (p : Addr), G p = none → spTake [.ref a, .int (M.length : Nat)] (upd G p (.lst xs)) (fun y H2 => rIxL K (.ref p) y H2 Q) E0 ∨ M = [] := fun xs M e wM G kk hdG p np => by
    by_cases hM : M = []
    · exact .inr hM
    · have lM : 0 < M.length := List.length_pos_iff.mpr hM
      have pa : p ≠ a := (hdG.neH np).symm
      refine .inl ⟨a, d, _, rfl, hdG.new np, by omega, fun j H2 j0 j1 k2 hd2 => ?_⟩
      obtain ⟨c, hc, _, _⟩ := pick e wM j0 j1
      exact ⟨p, _, j, _, rfl, rfl, SqL.of (k2.get upd_same (by simpa using pa)), hc, q _ _ H2 tr_w (bd_w (by decide)) ((kk.trans (Keep.new np)).trans k2) hd2⟩
  have word : ∀ (p : Addr), H2 p = none → spTake [.ref a, .int 9] (upd H2 p (.lst [.str "push", .str "copy", .str "slide", .str "call", .str "if", .str "same", .str "zz", .str "main", .str "join"])) (fun y H2 => rIxL K (.ref p) y H2 Q) E0 := fun p np =>
    (words [.str "push", .str "copy", .str "slide", .str "call", .str "if", .str "same", .str "zz", .str "main", .str "join"] [pushW, copyW, slideW, callW, ifW, sameW, [122, 122], [109, 97, 105, 110], joinW] (by decide +kernel) (by decide) H2 k12 hd2 p np).resolve_right (by decide)
  by_cases z0 : kd = 0
  · rw [dT z0]
    exact iteT (iteT ⟨by show (9 : Nat) ≤ sizeLine; decide, fun p np => ⟨_, rfl, word p np⟩⟩)
  rw [dF z0]
  refine iteF ⟨_, rfl, L, ns, rfl, .inl (SqL.of eL2), rfl, _, rfl, ?_⟩
  by_cases z1 : heads fs = []
  · rw [dT (by rw [ln, z1]; rfl)]
    exact iteT ⟨by show (9 : Nat) ≤ sizeLine; decide, fun p np => ⟨_, rfl, word p np⟩⟩
  have lpos : 0 < (heads fs).length := List.length_pos_iff.mpr z1
  rw [dF (by omega)]
  refine iteF ?_
  refine ⟨_, rfl, rfl, _, rfl, ite2 (fun c1 => ?_) (fun c1 => ?_)⟩
  · refine fun vs1 H3 r3 k3 => ⟨by rw [r3.length]; show (6 : Nat) ≤ sizeLine; decide, fun p np => ?_⟩
    have hd3 := hd2.keep0 k3
    have pa : p ≠ a := (hd3.neH np).symm
    refine ⟨_, rfl, a, d, 6, rfl, hd3.new np, by decide, fun j H4 j0 j1 k4 hd4 => ?_⟩
    obtain ⟨z, u, hz, tz, mu⟩ := pickT ((r3.keep (Keep.new (S := []) np)).keep k4) j0 (by show j < ((6 : Nat) : Int); omega)
    refine ⟨p, _, _, z, rfl, rfl, SqL.of (k4.get upd_same (by simpa using pa)), hz, q _ u _ tz ?_ (((k12.trans (k3.mono (by simp))).trans (Keep.new np)).trans k4) hd4⟩
    simp only [List.mem_cons, List.not_mem_nil, or_false] at mu
    rcases mu with rfl | rfl | rfl | rfl | rfl | rfl <;> exact ⟨by decide +kernel, by decide +kernel⟩
  -- name
  refine ⟨_, rfl, _, rfl, _, rfl, L, ns, rfl, .inl (SqL.of eL2), a, d, _, rfl, hd2, by omega, fun j H3 j0 j1 k3 hd3 => ?_⟩
  obtain ⟨z, u, hz, tz, mu⟩ := pickT (rn2.keep k3) j0 (by rw [← ln]; exact j1)
  have bu := bd u mu
  have k13 := k12.trans k3
  refine ⟨L, ns, _, z, rfl, rfl, SqL.of (k3.get eL2 (by simpa using La)), hz, ?_⟩
  refine ⟨_, rfl, rfl, _, rfl, ite2 (fun c2 => ?_) (fun c2 => ?_)⟩
  · refine ⟨_, rfl, _, rfl, by show (1 : Nat) ≤ sizeLine; decide, fun p1 n1 => ?_⟩
    obtain ⟨t1, g1⟩ := mk_tr (K := K) (H := H3) n1 (Trs.one tz)
    generalize upd H3 p1 (.tup [z]) = G1 at t1 g1
    refine ⟨_, rfl, by show (1 : Nat) ≤ sizeLine; decide, fun p2 n2 => ?_⟩
    obtain ⟨t2, g2⟩ := mk_tr (K := K) (H := G1) n2 (Trs.one (tz.keep g1))
    generalize upd G1 p2 (.tup [z]) = G2 at t2 g2
    refine ⟨by show (2 : Nat) ≤ sizeLine; decide, fun p3 n3 => ?_⟩
    obtain ⟨t3, g3⟩ := mk_tr (K := K) (H := G2) n3 (trs_cons (str_tr lit_call) (Trs.one t2))
    generalize upd G2 p3 (.tup [.str "call", .ref p2]) = G3 at t3 g3
    refine fun v4 G4 t4 g4 => ?_
    refine ⟨_, rfl, _, rfl, by show (3 : Nat) ≤ sizeLine; decide, fun p5 n5 => ?_⟩
    have g04 := ((g1.trans g2).trans g3).trans g4
    obtain ⟨t5, g5⟩ := mk_tr (K := K) (H := G4) n5 (trs_cons (str_tr lit_call) (trs_cons (tz.keep g04) (Trs.one (tz.keep g04))))
    generalize upd G4 p5 (.tup [.str "call", z, z]) = G5 at t5 g5
    have g05 := g04.trans g5
    have hd5 := hd3.keep0 g05
    refine ⟨by show (5 : Nat) ≤ sizeLine; decide, fun p np => ?_⟩
    have pa : p ≠ a := (hd5.neH np).symm
    have kp : Keep [] G5 (upd G5 p (.lst [z, .ref p1, .ref p3, v4, .ref p5])) := Keep.new np
    have rows : Trs K (upd G5 p (.lst [z, .ref p1, .ref p3, v4, .ref p5])) [z, .ref p1, .ref p3, v4, .ref p5] [u, .l [u], .l [.w callW, .l [u]], .l [.w callW], .l [.w callW, u, u]] :=
      (trs_cons (tz.keep g05) (trs_cons ((((t1.keep g2).keep g3).keep g4).keep g5) (trs_cons ((t3.keep g4).keep g5) (trs_cons (t4.keep g5) (Trs.one t5))))).keep kp
    refine ⟨_, rfl, a, d, 5, rfl, hd5.new np, by decide, fun j H4 j0 j1 k4 hd4 => ?_⟩
    obtain ⟨y, t, hy, ty, mt⟩ := pickT (rows.keep k4) j0 (by show j < ((5 : Nat) : Int); omega)
    refine ⟨p, _, _, y, rfl, rfl, SqL.of (k4.get upd_same (by simpa using pa)), hy, q _ t _ ty ?_ (((k13.trans (g05.mono (by simp))).trans (kp.mono (by simp))).trans k4) hd4⟩
    have b1 := bu.1
    have b2 := bu.2
    simp only [List.mem_cons, List.not_mem_nil, or_false] at mt
    rcases mt with rfl | rfl | rfl | rfl | rfl <;> refine ⟨?_, ?_⟩ <;> (try simp only [size_l, sizes_cons, sizes_nil, size_w, td, tds]) <;> omega
  have b1 := bu.1
  have b2 := bu.2
  refine ⟨_, rfl, rfl, _, rfl, ite2 (fun c3 => ?_) (fun c3 => ?_)⟩
  · refine ⟨by show (2 : Nat) ≤ sizeLine; decide, fun p np => ?_⟩
    have pa : p ≠ a := (hd3.neH np).symm
    have kp : Keep [] H3 (upd H3 p (.lst [V.str "copy", .str "slide"])) := Keep.new np
    have ep : (upd H3 p (.lst [V.str "copy", .str "slide"])) p = some (.lst [V.str "copy", .str "slide"]) := upd_same
    have hdp := hd3.new (o := .lst [V.str "copy", .str "slide"]) np
    generalize upd H3 p (.lst [V.str "copy", .str "slide"]) = G0 at kp ep hdp
    refine ⟨_, rfl, a, d, 2, rfl, hdp, by decide, fun j4 H4 j40 j41 k4 hd4 => ?_⟩
    obtain ⟨c, hc, _, _⟩ := pick (L := [copyW, slideW]) (xs := [V.str "copy", .str "slide"]) (by decide +kernel) (by decide) j40 j41
    refine ⟨p, _, _, _, rfl, rfl, SqL.of (k4.get ep (by simpa using pa)), hc, ?_⟩
    refine fun v1 G1 t1 g1 => ?_
    refine fun v2 G2 t2 g2 => ?_
    have hdG := (hd4.keep0 g1).keep0 g2
    have kG : Keep [a] H3 G2 := ((kp.mono (S' := [a]) (by simp)).trans k4).trans ((g1.trans g2).mono (by simp))
    refine ⟨_, rfl, by show (4 : Nat) ≤ sizeLine; decide, fun p' np' => ?_⟩
    have pa' : p' ≠ a := (hdG.neH np').symm
    have kp' : Keep [] G2 (upd G2 p' (.lst [V.str "a", v1, v2, z])) := Keep.new np'
    have ep' : (upd G2 p' (.lst [V.str "a", v1, v2, z])) p' = some (.lst [V.str "a", v1, v2, z]) := upd_same
    have rows : Trs K (upd G2 p' (.lst [V.str "a", v1, v2, z])) [V.str "a", v1, v2, z] [.w [97], .l [], .l [.w [97]], u] :=
      (trs_cons (str_tr (by decide +kernel)) (trs_cons (t1.keep g2) (trs_cons t2 (Trs.one (tz.keep kG))))).keep kp'
    have hdp' := hdG.new (o := .lst [V.str "a", v1, v2, z]) np'
    generalize upd G2 p' (.lst [V.str "a", v1, v2, z]) = G3 at kp' ep' rows hdp'
    refine ⟨_, rfl, a, d, 4, rfl, hdp', by decide, fun j5 H5 j50 j51 k5 hd5 => ?_⟩
    obtain ⟨y, t, hy, ty, mt⟩ := pickT (rows.keep k5) j50 (by show j5 < ((4 : Nat) : Int); omega)
    refine ⟨p', _, _, y, rfl, rfl, SqL.of (k5.get ep' (by simpa using pa')), hy, ?_⟩
    refine ⟨by show (2 : Nat) ≤ sizeLine; decide, fun T nT => ?_⟩
    obtain ⟨tm, km⟩ := mk_tr (K := K) (H := H5) nT (trs_cons (tr_w (x := c)) (Trs.one ty))
    refine q _ _ _ tm ?_ (((k13.trans kG).trans ((kp'.mono (by simp)).trans k5)).newT nT) (hd5.new nT)
    simp only [List.mem_cons, List.not_mem_nil, or_false] at mt
    rcases mt with rfl | rfl | rfl | rfl <;> refine ⟨?_, ?_⟩ <;> (try simp only [size_l, sizes_cons, sizes_nil, size_w, td, tds]) <;> omega
  refine ⟨_, rfl, rfl, _, rfl, ite2 (fun c4 => ?_) (fun c4 => ?_)⟩
  · refine fun v1 G1 t1 g1 => ?_
    refine ⟨_, rfl, _, rfl, by show (3 : Nat) ≤ sizeLine; decide, fun p np => ?_⟩
    obtain ⟨tp, kp⟩ := mk_tr (K := K) (H := G1) (vs := [z, .str "nobody", z]) (ts := [u, .w [110, 111, 98, 111, 100, 121], u]) np (trs_cons (tz.keep g1) (trs_cons (str_tr (by decide +kernel)) (Trs.one (tz.keep g1))))
    have hdp := (hd3.keep0 g1).new (o := .tup [z, .str "nobody", z]) np
    generalize upd G1 p (.tup [z, .str "nobody", z]) = G2 at tp kp hdp
    dsimp only [tNoPart]
    refine ⟨_, rfl, a, d, 4, rfl, hdp, by decide, fun j4 H4 j40 j41 k4 hd4 => ⟨_, rfl, ?_⟩⟩
    refine sl_tr (tp.keep k4) fun v5 H5 t5 k5 => ?_
    have lc := cutL_len [u, .w [110, 111, 98, 111, 100, 121], u] none (some j4)
    have sc := sizes_cut [u, .w [110, 111, 98, 111, 100, 121], u] none (some j4)
    have dc : tds (cutL [u, .w [110, 111, 98, 111, 100, 121], u] none (some j4)) ≤ 2 := tds_le fun t m => by
      have := cutL_mem m
      simp only [List.mem_cons, List.not_mem_nil, or_false] at this
      rcases this with e | e | e <;> rw [e]
      · exact b2
      · rw [td]; omega
      · exact b2
    generalize cutL [u, .w [110, 111, 98, 111, 100, 121], u] none (some j4) = cs at t5 lc sc dc
    refine cat_tr (((t1.keep kp).keep k4).keep k5) t5 (Nat.le_trans (show _ ≤ 10 by rw [List.length_singleton]; simp only [List.length_cons, List.length_nil] at lc; omega) (by decide)) fun v9 H9 tv9 k9 => ?_
    refine q _ _ _ tv9 ⟨?_, ?_⟩ ((k13.trans ((g1.trans kp).mono (by simp))).trans (k4.trans ((k5.trans k9).mono (by simp)))) ((hd4.keep0 k5).keep0 k9)
    · simp only [sizes_cons, sizes_nil, size_w] at sc
      rw [size_l, List.singleton_append, sizes_cons, size_w]
      omega
    · rw [td, List.singleton_append, tds, td]
      omega
  refine ⟨_, rfl, rfl, _, rfl, ite2 (fun c5 => ?_) (fun c5 => ?_)⟩
  · refine ⟨_, rfl, _, rfl, by show (3 : Nat) ≤ sizeLine; decide, fun p np => ?_⟩
    obtain ⟨tp, kp⟩ := mk_tr (K := K) (H := H3) (vs := [.str "if", z, z]) (ts := [.w ifW, u, u]) np (trs_cons (str_tr lit_if) (trs_cons tz (Trs.one tz)))
    refine q _ _ _ tp ⟨?_, ?_⟩ (k13.newT np) (hd3.new np)
    · simp only [size_l, sizes_cons, sizes_nil, size_w]; omega
    · simp only [td, tds]; omega
  refine ⟨by show (7 : Nat) ≤ sizeLine; decide, fun p np => ?_⟩
  have pa : p ≠ a := (hd3.neH np).symm
  refine ⟨_, rfl, a, d, 7, rfl, hd3.new np, by decide, fun j4 H4 j40 j41 k4 hd4 => ?_⟩
  obtain ⟨c, hc, _, _⟩ := pick (L := [sameW, wordW, headW, tailW, joinW, [113, 117, 111, 116, 101], pushW]) (xs := [V.str "same", .str "word", .str "head", .str "tail", .str "join", .str "quote", .str "push"]) (by decide +kernel) (by decide) j40 j41
  refine ⟨p, _, _, _, rfl, rfl, SqL.of (k4.get upd_same (by simpa using pa)), hc, ?_⟩
  have k34 : Keep [a] H3 H4 := (Keep.new np).trans k4
  refine ⟨by show (1 : Nat) ≤ sizeLine; decide, fun T nT => ?_⟩
  obtain ⟨tm, km⟩ := mk_tr (K := K) (H := H4) nT (Trs.one (tr_w (x := c)))
  generalize upd H4 T (.tup [.str (tx c)]) = H5 at tm km
  refine fun v1 H6 tv1 k6 => ?_
  refine ⟨_, rfl, a, d, 3, rfl, (hd4.keep0 km).keep0 k6, by decide, fun j3 H8 j30 j31 k8 hd8 => ?_⟩
  obtain ⟨n3, rfl⟩ := Int.eq_ofNat_of_zero_le j30
  obtain ⟨l, vs, rfl, hS, r⟩ := (tv1.keep k8).list
  have lr := r.length
  have fin : ∀ v9 H9, Tr K H9 v9 (.l (List.replicate n3 (.l []))) → Keep [] H8 H9 → rCatA K (.ref T) v9 H9 Q := fun v9 H9 tv9 k9 => by
    refine cat_tr (((tm.keep k6).keep k8).keep k9) tv9 (Nat.le_trans (show _ ≤ 10 by rw [List.length_singleton, List.length_replicate]; omega) (by decide)) fun v10 H10 tv10 k10 => ?_
    refine q v10 _ H10 tv10 ⟨?_, ?_⟩ ((k13.trans k34).trans (((km.trans k6).mono (by simp)).trans (k8.trans ((k9.trans k10).mono (by simp))))) ((hd8.keep0 k9).keep0 k10)
    · rw [size_l, List.singleton_append, sizes_cons, size_w]
      have := sizes_le (ts := List.replicate n3 (Tree.l [])) (b := 1) fun t m => by rw [List.eq_of_mem_replicate m]; decide +kernel
      rw [List.length_replicate] at this
      omega
    · rw [td, List.singleton_append, tds, td]
      have := tds_le (n := 1) (ts := List.replicate n3 (Tree.l [])) fun t m => by rw [List.eq_of_mem_replicate m]; decide +kernel
      omega
  refine ⟨l, n3, vs, rfl, rfl, hS, (fun e => by rw [e] at lr; cases lr), by omega, by rw [lr]; decide, fun e1 => ?_, fun e1 p np => ?_⟩
  · subst e1
    exact fin _ _ (tv1.keep k8) Keep.refl
  · have rr := repT r n3
    rw [List.flatten_replicate_singleton] at rr
    obtain ⟨tm2, km2⟩ := mk_tr np rr
    exact fin _ _ tm2 km2
end
end Og

namespace Og
open PySem PySem.Spec PyProof.Rows L2
section
variable {P : Program} {w : World} {K : PySem.W.Frag} {mg : Str → Option Value} {base : Heap}
def spBent (K : PySem.W.Frag) (n : Nat) : Sp := fun vs H Q _ => ∃ (h d : Addr) (v x : V) (fs : List Tree) (t : Tree), vs = [.ref h, v, x, .int n] ∧ Hd H h d ∧ Tr K H v (.l fs) ∧ fs.length ≤ 1000 ∧ (∀ u ∈ heads fs, Bd 13 2 u) ∧ Tr K H x t ∧ t.size ≤ 20000 ∧
  ∀ (v' : V) (t' : Tree) (H' : Hp), Tr K H' v' t' → td t' ≤ max (td t) (5 + n) → t'.size ≤ 2 * t.size + 40 → (∀ ts', t' = .l ts' → ts'.length ≤ 40 ∨ ∃ ts, t = .l ts ∧ ts'.length ≤ ts.length + 1) → Keep [h] H H' → Hd H' h d → Q v' H'
theorem has_bent {k : Nat} (D : DefAt K mg "_law_bent" s_law_bent p_law_bent) (B : Bn mg) (c1 : Has P w K mg base k "_law_take" p_law_take spTake) (c2 : Has P w K mg base k "_law_odd" p_law_odd (spOdd K)) : ∃ f fd, ∀ n, Callee P w K mg base CX0 (k + n + 1) "_law_bent" f fd p_law_bent (spBent K n) := by
  obtain ⟨f, fd, F, hm, hb⟩ := D.ex
  have step : ∀ n sp, Callee P w K mg base CX0 (k + n) "_law_bent" f fd p_law_bent sp → (∀ m, n = m + 1 → ∀ vs H Q E, spBent K m vs H Q E → sp vs H Q E) → FnOk P w K mg base CX0 (k + n + 1) f fd p_law_bent (spBent K n) := fun n sp c_law_bent hsp => by
    obtain ⟨_, _, c_law_take⟩ := c1.mono (show k ≤ k + n by omega)
    obtain ⟨_, _, c_law_odd⟩ := c2.mono (show k ≤ k + n by omega)
    refine F.ok sc_law_bent (fun vs H Q E h => ?_) (fun cdv A outer s H vs Q E hr h => ?_)
    · obtain ⟨_, _, _, _, _, _, rfl, _⟩ := h
      rfl
    obtain ⟨a, d, v, x, fs, t, rfl, hd, tv, few, bdh, tx0, sz, q⟩ := h
    refine ⟨_, (pss_cons (ps_set (i := 4) sc_law_bent.nd rfl (.inl rfl) (cal c_law_take hr rfl (pa_cons (pv 0) (pa_cons pe_int pa_nil))))
    (pss_cons (ps_if (PW.pt (pw_or (pt_val (pe_callB call_isi (by rfl) B.isinstance (by decide +kernel) (pa_cons (pv 2) (pa_cons (pe_bltn (v := .ty "str") rfl B.str (by decide +kernel) rfl) pa_nil)))) (pw_or (pt_cmpR op_eq (pv 4) pe_int (nomark _)) (pw_or (pt_cmpR op_eq (pe_callB call_len_seq (by rfl) B.len PySem.boot_len (pa_cons (pv 2) pa_nil)) pe_int (nomark _)) (pw_or1 (pt_cmpR op_eq (pv 3) pe_int (nomark _))))))) (pss_one (ps_ret (cal c_law_odd hr rfl (pa_cons (pv 0) (pa_cons (pv 1) pa_nil))))) pss_nil)
    (pss_cons (ps_set (i := 5) sc_law_bent.nd rfl (.inl rfl) (cal c_law_take hr rfl (pa_cons (pv 0) (pa_cons (pe_callB call_len_seq (by rfl) B.len PySem.boot_len (pa_cons (pv 2) pa_nil)) pa_nil))))
    (pss_cons (ps_if (pt_cmpR op_eq (pv 4) pe_int (nomark _)) (pss_one (ps_ret (pe_op op_catA (pe_slice sl_tupA (pv 2) po_none (po_some (pv 5))) (pe_slice sl_tupA (pv 2) (po_some (pe_op op_add (pv 5) pe_int)) po_none)))) pss_nil)
    (pss_cons (ps_if (pt_cmpR op_eq (pv 4) pe_int (nomark _)) (pss_one (ps_ret (pe_op op_catA (pe_op op_catA (pe_slice sl_tupA (pv 2) po_none (po_some (pv 5))) (pe_tup (pa_cons (cal c_law_odd hr rfl (pa_cons (pv 0) (pa_cons (pv 1) pa_nil))) pa_nil))) (pe_slice sl_tupA (pv 2) (po_some (pv 5)) po_none)))) pss_nil)
    (pss_cons (ps_if (pt_cmpR op_eq (pv 4) pe_int (nomark _)) (pss_one (ps_ret (pe_op op_catA (pe_op op_catA (pe_slice sl_tupA (pv 2) po_none (po_some (pv 5))) (pe_slice sl_tupA (pv 2) (po_some (pv 5)) (po_some (pe_op op_add (pv 5) pe_int)))) (pe_slice sl_tupA (pv 2) (po_some (pv 5)) po_none)))) pss_nil)
    (pss_one (ps_ret (pe_op op_catA (pe_op op_catA (pe_slice sl_tupA (pv 2) po_none (po_some (pv 5))) (pe_tup (pa_cons (cal c_law_bent hr rfl (pa_cons (pv 0) (pa_cons (pv 1) (pa_cons (pe_ix ix_tup (pv 2) (pv 5) (fun _ _ => rfl)) (pa_cons (pe_op op_sub (pv 3) pe_int) pa_nil))))) pa_nil))) (pe_slice sl_tupA (pv 2) (po_some (pe_op op_add (pv 5) pe_int)) po_none)))))))))), ?_⟩
    refine ⟨_, rfl, a, d, 9, rfl, hd, by decide, fun kd H1 kd0 kd1 k1 hd1 => ?_⟩
    have odd : ∀ H1, Keep [a] H H1 → Hd H1 a d → tRet (tCall (spOdd K) [] E0 (tCons (tVar 0) (tCons (tVar 1) tNil))) { nx := fun _ _ => True, rt := Q } [some (.ref a), some v, some x, some (.int n), some (.int kd), none] H1 := fun H1 k1 hd1 => by
      refine ⟨_, rfl, _, rfl, a, d, v, fs, rfl, hd1, tv.keep k1, few, bdh, fun v2 t2 H2 tv2 bd2 k2 hd2 => ?_⟩
      have sz2 := bd2.1
      have dp2 := bd2.2
      refine q v2 t2 H2 tv2 (by omega) (by omega) (fun ts e => .inl ?_) (k1.trans k2) hd2
      subst e
      rw [size_l] at sz2
      have := len_sizes ts
      omega
    obtain ⟨ty, u, q1, q2, q3⟩ := isi_str (tx0.keep k1)
    refine ⟨_, rfl, _, _, ty, u, _, rfl, q1, q2, q3, _, rfl, ?_⟩
    cases t with
    | w y => exact iteT (iteT (odd H1 k1 hd1))
    | l ts =>
    refine iteF ?_
    refine ⟨_, rfl, rfl, _, rfl, ite2 (fun _ => iteT (odd H1 k1 hd1)) (fun _ => ?_)⟩
    have lsz := len_sizes ts
    have sz2 := sz
    rw [size_l] at sz2
    have tv1 := tx0.keep k1
    obtain ⟨av, vs, rfl, hS, lv⟩ := tv1.tup
    refine ⟨_, rfl, av, vs, rfl, .inr hS, rfl, _, rfl, ite2 (fun _ => iteT (odd H1 k1 hd1)) (fun c => ?_)⟩
    have ne : 0 < ts.length := by
      have : ¬ V.int ((vs.length : Nat) : Int) = V.int 0 := of_decide_eq_false (Bool.eq_false_iff.mpr c)
      rw [lv] at this
      have : ts.length ≠ 0 := fun z => this (by rw [z]; rfl)
      omega
    refine ⟨_, rfl, rfl, _, rfl, ?_⟩
    cases n with
    | zero => exact iteT (odd H1 k1 hd1)
    | succ m =>
    rw [dF (by omega)]
    refine iteF ?_
    refine ⟨_, rfl, _, rfl, av, vs, rfl, .inr hS, a, d, _, rfl, hd1, by omega, fun at' H2 at0 at1 k2 hd2 => ?_⟩
    rw [lv] at at1
    obtain ⟨n', rfl⟩ := Int.eq_ofNat_of_zero_le at0
    have nl : n' < ts.length := by omega
    have hg : ts[n']? = some ts[n'] := List.getElem?_eq_getElem nl
    have sp1 := sizes_split hg
    have sp2 := sizes_two ts n'
    have tv2 := tv1.keep k2
    have en : (some ((n' : Int) + 1)) = some ((n' + 1 : Nat) : Int) := by rw [show ((n' + 1 : Nat) : Int) = (n' : Int) + 1 by omega]
    have c1 := cutL_to ts (j := n') (by omega)
    have c2 := cutL_from ts (i := n' + 1) (by omega)
    have c3 := cutL_from ts (i := n') (by omega)
    have c4 := cutL_mid ts (i := n') (j := n' + 1) (by omega) (by omega)
    rw [← en] at c2 c4
    have k12 : Keep [a] H H2 := k1.trans k2
    have lt1 : (ts.take n').length = n' := by rw [List.length_take]; omega
    have ld1 : (ts.drop n').length = ts.length - n' := List.length_drop ..
    have ld2 : (ts.drop (n' + 1)).length = ts.length - (n' + 1) := List.length_drop ..
    have wtk : ∀ t ∈ ts.take n', td t ≤ max (tds ts) (5 + m) := fun t mm => by have := td_mem (List.mem_of_mem_take mm); omega
    have wdk : ∀ j, ∀ t ∈ ts.drop j, td t ≤ max (tds ts) (5 + m) := fun j t mm => by have := td_mem (List.mem_of_mem_drop mm); omega
    have small : ∀ {z : Nat}, z ≤ 100000 → z ≤ sizeLine := fun h => Nat.le_trans h (by decide)
    have fin : ∀ (us : List Tree) (v5 : V) (H5 : Hp), Tr K H5 v5 (.l us) → Keep [a] H2 H5 → Hd H5 a d → (∀ u ∈ us, td u ≤ max (tds ts) (5 + m)) → sizes us ≤ 2 * sizes ts + 40 → us.length ≤ ts.length + 1 → Q v5 H5 := fun us v5 H5 t5 k5 hd5 w5 s5 l5 => by
      have h5 := tds_le w5
      refine q v5 _ H5 t5 (by rw [td, td]; omega) (by rw [size_l, size_l]; omega) (fun ts' e => .inr ⟨ts, rfl, ?_⟩) (k12.trans k5) hd5
      cases e
      exact l5
    refine ⟨_, rfl, rfl, _, rfl, ite2 (fun _ => ?_) (fun _ => ?_)⟩
    · refine ⟨_, rfl, _, rfl, _, rfl, sl_tr tv2 fun v3 H3 tv3 k3 => ⟨_, rfl, _, rfl, _, _, rfl, rfl, _, rfl, ?_⟩⟩
      dsimp only [tNoPart]
      refine sl_tr (tv2.keep k3) fun v4 H4 tv4 k4 => ?_
      rw [c1] at tv3
      rw [c2] at tv4
      refine cat_tr (tv3.keep k4) tv4 (small (by omega)) fun v5 H5 tv5 k5 => ?_
      refine fin _ v5 H5 tv5 (((k3.trans k4).trans k5).mono (by simp)) (((hd2.keep0 k3).keep0 k4).keep0 k5) (fun t mm => ?_) (by rw [sizes_app]; omega) (by rw [List.length_append]; omega)
      rcases List.mem_append.mp mm with mm | mm
      · exact wtk t mm
      · exact wdk _ t mm
    refine ⟨_, rfl, rfl, _, rfl, ite2 (fun _ => ?_) (fun _ => ?_)⟩
    · refine ⟨_, rfl, _, rfl, _, rfl, sl_tr tv2 fun v3 H3 tv3 k3 => ?_⟩
      rw [c1] at tv3
      have hd3 := hd2.keep0 k3
      refine ⟨_, rfl, _, rfl, a, d, v, fs, rfl, hd3, (tv.keep k12).keep k3, few, bdh, fun v6 t6 H6 tv6 bd6 k6 hd6 => ?_⟩
      have sz6 := bd6.1
      have wt6 : td t6 ≤ max (tds ts) (5 + m) := by have := bd6.2; omega
      refine ⟨by show (1 : Nat) ≤ sizeLine; decide, fun t1 nt1 => ?_⟩
      obtain ⟨tm, km⟩ := mk_tr (K := K) (H := H6) nt1 (Trs.one tv6)
      refine cat_tr ((tv3.keep k6).keep km) tm (small (by rw [List.length_singleton]; omega)) fun v7 H7 tv7 k7 => ?_
      have kk : Keep [a] H2 H7 := (((k3.mono (by simp)).trans k6).trans (km.mono (by simp))).trans (k7.mono (by simp))
      refine ⟨_, rfl, _, rfl, _, rfl, ?_⟩
      dsimp only [tNoPart]
      refine sl_tr (tv2.keep kk) fun v8 H8 tv8 k8 => ?_
      rw [c3] at tv8
      refine cat_tr (tv7.keep k8) tv8 (small (by rw [List.length_append, List.length_singleton]; omega)) fun v9 H9 tv9 k9 => ?_
      refine fin _ v9 H9 tv9 (kk.trans ((k8.trans k9).mono (by simp))) (((hd6.keep0 km).keep0 k7).keep0 (k8.trans k9)) (fun t mm => ?_) (by rw [sizes_app, sizes_app, sizes_cons, sizes_nil]; omega) (by rw [List.length_append, List.length_append, List.length_singleton]; omega)
      rcases List.mem_append.mp mm with mm | mm
      · rcases List.mem_append.mp mm with mm | mm
        · exact wtk t mm
        · rw [List.mem_singleton.mp mm]; exact wt6
      · exact wdk _ t mm
    refine ⟨_, rfl, rfl, _, rfl, ite2 (fun _ => ?_) (fun _ => ?_)⟩
    · refine ⟨_, rfl, _, rfl, _, rfl, sl_tr tv2 fun v3 H3 tv3 k3 => ?_⟩
      rw [c1] at tv3
      refine ⟨_, rfl, _, rfl, _, rfl, _, rfl, _, _, rfl, rfl, _, rfl, ?_⟩
      refine sl_tr (tv2.keep k3) fun v4 H4 tv4 k4 => ?_
      rw [c4] at tv4
      have l4 : ((ts.drop n').take (n' + 1 - n')).length ≤ 1 := by rw [List.length_take]; omega
      have s4 := sizes_take (ts.drop n') (n' + 1 - n')
      refine cat_tr (tv3.keep k4) tv4 (small (by omega)) fun v7 H7 tv7 k7 => ?_
      have kk : Keep [a] H2 H7 := ((k3.trans k4).trans k7).mono (by simp)
      refine ⟨_, rfl, _, rfl, _, rfl, ?_⟩
      dsimp only [tNoPart]
      refine sl_tr (tv2.keep kk) fun v8 H8 tv8 k8 => ?_
      rw [c3] at tv8
      refine cat_tr (tv7.keep k8) tv8 (small (by rw [List.length_append]; omega)) fun v9 H9 tv9 k9 => ?_
      refine fin _ v9 H9 tv9 (kk.trans ((k8.trans k9).mono (by simp))) ((hd2.keep0 ((k3.trans k4).trans k7)).keep0 (k8.trans k9)) (fun t mm => ?_) (by rw [sizes_app, sizes_app]; omega) (by rw [List.length_append, List.length_append]; omega)
      rcases List.mem_append.mp mm with mm | mm
      · rcases List.mem_append.mp mm with mm | mm
        · exact wtk t mm
        · exact wdk _ t (List.mem_of_mem_take mm)
      · exact wdk _ t mm
    have mem := List.getElem_mem nl
    refine ⟨_, rfl, _, rfl, _, rfl, sl_tr tv2 fun v3 H3 tv3 k3 => ?_⟩
    rw [c1] at tv3
    have hd3 := hd2.keep0 k3
    refine ⟨_, rfl, _, rfl, _, rfl, _, rfl, ix_tr (t := ts[n']) (tv2.keep k3) (atI_nat hg) fun vb tvb => ?_⟩
    refine ⟨_, rfl, _, _, rfl, rfl, hsp m rfl _ _ _ _ ⟨a, d, v, vb, fs, ts[n'], ?_, hd3, (tv.keep k12).keep k3, few, bdh, tvb, by omega, fun v6 t6 H6 tv6 wt6' sz6 _ k6 hd6 => ?_⟩⟩
    · show [V.ref a, v, vb, V.int (((m + 1 : Nat) : Int) - 1)] = _
      rw [show ((m + 1 : Nat) : Int) - 1 = (m : Int) by omega]
    have wt6 : td t6 ≤ max (tds ts) (5 + m) := by have := td_mem mem; omega
    refine ⟨by show (1 : Nat) ≤ sizeLine; decide, fun t1 nt1 => ?_⟩
    obtain ⟨tm, km⟩ := mk_tr (K := K) (H := H6) nt1 (Trs.one tv6)
    refine cat_tr ((tv3.keep k6).keep km) tm (small (by rw [List.length_singleton]; omega)) fun v7 H7 tv7 k7 => ?_
    have kk : Keep [a] H2 H7 := (((k3.mono (by simp)).trans k6).trans (km.mono (by simp))).trans (k7.mono (by simp))
    refine ⟨_, rfl, _, rfl, _, _, rfl, rfl, _, rfl, ?_⟩
    dsimp only [tNoPart]
    refine sl_tr (tv2.keep kk) fun v8 H8 tv8 k8 => ?_
    rw [c2] at tv8
    refine cat_tr (tv7.keep k8) tv8 (small (by rw [List.length_append, List.length_singleton]; omega)) fun v9 H9 tv9 k9 => ?_
    refine fin _ v9 H9 tv9 (kk.trans ((k8.trans k9).mono (by simp))) (((hd6.keep0 km).keep0 k7).keep0 (k8.trans k9)) (fun t mm => ?_) (by rw [sizes_app, sizes_app, sizes_cons, sizes_nil]; omega) (by rw [List.length_append, List.length_append, List.length_singleton]; omega)
    rcases List.mem_append.mp mm with mm | mm
    · rcases List.mem_append.mp mm with mm | mm
      · exact wtk t mm
      · rw [List.mem_singleton.mp mm]; exact wt6
    · exact wdk _ t mm
  have all : ∀ n, FnOk P w K mg base CX0 (k + n + 1) f fd p_law_bent (spBent K n) := fun n => by
    induction n with
    | zero => exact step 0 (fun _ _ _ _ => False) ⟨⟨fun _ _ _ _ h => h.elim, fun _ _ _ _ _ _ _ _ _ _ _ _ _ h => h.elim⟩, hm, F.kp, hb⟩ fun m e => by cases e
    | succ m ih => exact step (m + 1) (spBent K m) ⟨ih, hm, F.kp, hb⟩ fun m' e vs H Q E q => by cases e; exact q
  exact ⟨f, fd, fun n => ⟨all n, hm, F.kp, hb⟩⟩
end
end Og

namespace Og
open PySem PySem.Spec PyProof.Rows L2
section
variable {P : Program} {w : World} {K : PySem.W.Frag} {mg : Str → Option Value} {base : Heap}
def spChain (K : PySem.W.Frag) : Sp := fun vs H Q _ => ∃ (h d : Addr), vs = [.ref h] ∧ Hd H h d ∧ ∀ (v : V) (t : Tree) (H' : Hp), Tr K H' v t → Bd 361 180 t → Keep [h] H H' → Hd H' h d → Q v H'
theorem has_chain {k : Nat} (D : DefAt K mg "_law_chain" s_law_chain p_law_chain) (B : Bn mg) (c1 : Has P w K mg base (k + 1) "_law_take" p_law_take spTake) : Has P w K mg base (k + 2) "_law_chain" p_law_chain (spChain K) := by
  obtain ⟨f, fd, F, hm, hb⟩ := D.ex
  obtain ⟨_, _, c_law_take⟩ := c1
  refine ⟨f, fd, F.ok sc_law_chain (fun vs H Q E h => ?_) (fun cdv A outer s H vs Q E hr h => ?_), hm, F.kp, hb⟩
  · obtain ⟨_, _, rfl, _⟩ := h
    rfl
  obtain ⟨a, d, rfl, hd, q⟩ := h
  refine ⟨_, (pss_cons (ps_set (i := 1) sc_law_chain.nd rfl (.inl rfl) pe_str)
    (pss_cons (ps_for PassesOwn.never rfl (pi_range1 (by rfl) B.range (pa_cons (pe_op op_add pe_int (cal c_law_take hr rfl (pa_cons (pv 0) (pa_cons pe_int pa_nil)))) pa_nil)) (pg_name (i := 2) sc_law_chain.nd rfl (.inl rfl))
      (pss_one (ps_set (i := 1) sc_law_chain.nd rfl (.inl rfl) (pe_ix ix_list (pe_lst (pa_cons (pe_tup (pa_cons (pv 1) pa_nil)) (pa_cons (pe_tup (pa_cons (pv 1) (pa_cons pe_str pa_nil))) (pa_cons (pe_tup (pa_cons pe_str (pa_cons (pv 1) pa_nil))) pa_nil)))) (pe_op op_mod (pe_callTy call_int1 (by rfl) B.int (by decide +kernel) (pa_cons (pe_op op_mul (pv 2) (pv 2)) pa_nil)) pe_int) (fun _ _ => rfl)))))
    (pss_one (ps_ret (pv 1))))), ?_⟩
  refine ⟨_, rfl, a, d, 121, rfl, hd, by decide, fun j H1 j0 j1 k1 hd1 => ?_⟩
  refine ⟨_, _, rfl, rfl, ?_⟩
  obtain ⟨n, rfl⟩ := Int.eq_ofNat_of_zero_le j0
  refine ⟨_, rfl, by omega, by omega, ?_⟩
  refine for_range (lo := 0) (n := (60 + (n : Int)).toNat) (fun i σ H' => ∃ (v1 : V) (y2 : Option V) (t1 : Tree), σ = [some (.ref a), some v1, y2] ∧ Keep [a] H H' ∧ Hd H' a d ∧ Tr K H' v1 t1 ∧ Bd (1 + 2 * i) i t1)
    ⟨.str "a", none, .w [97], rfl, k1, hd1, str_tr (by decide +kernel), bd_w (by omega)⟩ (fun i σ H3 hi pw => ?_) (fun σ H3 pw => ?_)
  · obtain ⟨v1, y2, t1, rfl, k3, hd3, tv, bd⟩ := pw
    have ei : (0 : Int) + (i : Int) = (i : Int) := by omega
    rw [ei]
    refine ⟨_, rfl, by show (1 : Nat) ≤ sizeLine; decide, fun p0 n0 => ?_⟩
    obtain ⟨m0, q0⟩ := mk_tr (K := K) (H := H3) (vs := [v1]) (ts := [t1]) n0 (Trs.one tv)
    generalize upd H3 p0 (.tup [v1]) = B0 at m0 q0
    refine ⟨_, rfl, by show (2 : Nat) ≤ sizeLine; decide, fun p1 n1 => ?_⟩
    obtain ⟨m1, q1⟩ := mk_tr (K := K) (H := B0) (vs := [v1, .str "b"]) (ts := [t1, .w [98]]) n1 (trs_cons (tv.keep q0) (Trs.one (str_tr (by decide +kernel))))
    generalize upd B0 p1 (.tup [v1, .str "b"]) = B1 at m1 q1
    have q01 := q0.trans q1
    refine ⟨_, rfl, by show (2 : Nat) ≤ sizeLine; decide, fun p2 n2 => ?_⟩
    obtain ⟨m2, q2⟩ := mk_tr (K := K) (H := B1) (vs := [.str "b", v1]) (ts := [.w [98], t1]) n2 (trs_cons (str_tr (by decide +kernel)) (Trs.one (tv.keep q01)))
    generalize upd B1 p2 (.tup [.str "b", v1]) = B2 at m2 q2
    have q02 := q01.trans q2
    refine ⟨by show (3 : Nat) ≤ sizeLine; decide, fun p np => ?_⟩
    have kp : Keep [] B2 (upd B2 p (.lst [.ref p0, .ref p1, .ref p2])) := Keep.new np
    have ep : (upd B2 p (.lst [.ref p0, .ref p1, .ref p2])) p = some (.lst [.ref p0, .ref p1, .ref p2]) := upd_same
    have rows : Trs K (upd B2 p (.lst [.ref p0, .ref p1, .ref p2])) [.ref p0, .ref p1, .ref p2] [.l [t1], .l [t1, .w [98]], .l [.w [98], t1]] := (trs_cons ((m0.keep q1).keep q2) (trs_cons (m1.keep q2) (Trs.one m2))).keep kp
    generalize upd B2 p (.lst [.ref p0, .ref p1, .ref p2]) = B3 at kp ep rows
    have q03 := q02.trans kp
    refine ⟨_, rfl, _, rfl, _, _, rfl, rfl, .inl ⟨by omega, by omega⟩, .inl ⟨_, rfl, ?_⟩⟩
    refine ⟨_, _, rfl, rfl, by show (0 : Int) < 3; decide, ?_⟩
    obtain ⟨z, u, hz, tz, mu⟩ := pickT rows (j := ((i : Int) * (i : Int)) % 3) (by omega) (by show _ < ((3 : Nat) : Int); omega)
    refine ⟨p, _, _, z, rfl, rfl, SqL.of ep, hz, ?_⟩
    refine ⟨z, _, u, rfl, k3.trans (q03.mono (by simp)), hd3.keep0 q03, tz, ?_⟩
    have b1 := bd.1
    have b2 := bd.2
    simp only [List.mem_cons, List.not_mem_nil, or_false] at mu
    rcases mu with rfl | rfl | rfl <;> refine ⟨?_, ?_⟩ <;> simp only [size_l, sizes_cons, sizes_nil, size_w, td, tds] <;> omega
  · obtain ⟨v1, y2, t1, rfl, k3, hd3, tv, bd⟩ := pw
    exact ⟨_, rfl, q _ _ H3 tv (bd.mono (by omega) (by omega)) k3 hd3⟩
end
end Og

namespace Og
open PySem PySem.Spec PyProof.Rows L2
theorem heads_td {fs : List Tree} {u : Tree} (m : u ∈ heads fs) : td u + 2 ≤ td (.l fs) := by
  obtain ⟨is, m'⟩ := heads_mem.mp m
  have h := td_mem m'
  rw [td, tds] at h
  rw [td]
  omega
theorem okM {t : Tree} (s : t.size ≤ 100000) (d : td t ≤ 200) (l : ∀ fs, t = .l fs → fs.length ≤ 1000) : OkM t := ⟨s, fun fs e => ⟨l fs e, fun u m => by subst e; have := heads_td m; omega⟩⟩
theorem okMl {ts : List Tree} (s : sizes ts ≤ 90000) (d : tds ts ≤ 190) (l : ts.length ≤ 1000) : OkM (.l ts) := okM (by rw [size_l]; omega) (by rw [td]; omega) fun fs e => by cases e; exact l
theorem tds_app : ∀ a b : List Tree, tds (a ++ b) = max (tds a) (tds b)
  | [], b => by rw [List.nil_append, tds]; omega
  | t :: a, b => by rw [List.cons_append, tds, tds, tds_app a b]; omega
theorem nat_of {i : Int} {m : Nat} (h0 : 0 ≤ i) (h : i < (m : Int)) : ∃ n : Nat, n < m ∧ i = (n : Int) := ⟨i.toNat, by omega, by omega⟩
section
variable {P : Program} {w : World} {K : PySem.W.Frag} {mg : Str → Option Value} {base : Heap}
theorem ok_law51 {e : Addr} {ed : FuncData} (F : Fun K "law" "law" s_law e ed) (B : Bn mg)
    (c_draws : Has P w K mg base 29 "_law_draws" p_law_draws (spDraws K)) (c_take : Has P w K mg base 29 "_law_take" p_law_take spTake) (c_mach : Has P w K mg base 29 "_law_machine" p_law_machine (spMachine K))
    (c_badr : Has P w K mg base 29 "_law_bad_routine" p_law_bad_routine (spBadR K)) (c_right : Has P w K mg base 29 "_law_is_right" p_law_is_right (spRight K)) (c_bent : Has P w K mg base 29 "_law_bent" p_law_bent (fun vs H Q E => ∃ n, n ≤ 4 ∧ spBent K n vs H Q E)) (c_chain : Has P w K mg base 29 "_law_chain" p_law_chain (spChain K)) :
    FnOk P w K mg base CX0 30 e ed ["script"] (spLaw K) := by
  obtain ⟨_, _, c_law_draws⟩ := c_draws
  obtain ⟨_, _, c_law_take⟩ := c_take
  obtain ⟨_, _, c_law_machine⟩ := c_mach
  obtain ⟨_, _, c_law_bad_routine⟩ := c_badr
  obtain ⟨_, _, c_law_is_right⟩ := c_right
  obtain ⟨_, _, c_law_bent⟩ := c_bent
  obtain ⟨_, _, c_law_chain⟩ := c_chain
  refine F.ok sc_law (fun vs H Q E h => ?_) (fun cdv A outer s H vs Q E hr h => ?_)
  · obtain ⟨a, ns, rfl, _⟩ := h
    rfl
  obtain ⟨a, ns, rfl, hS, h63, q⟩ := h
  refine ⟨_, (pss_cons (ps_set (i := 1) sc_law.nd rfl (.inl rfl) (pe_lst (pa_cons (cal c_law_draws hr rfl (pa_cons (pv 0) (pa_cons pe_int pa_nil))) (pa_cons pe_int pa_nil))))
    (pss_cons (ps_set (i := 2) sc_law.nd rfl (.inl rfl) (cal c_law_machine hr rfl (pa_cons (pv 1) pa_nil)))
    (pss_cons (ps_if (PW.pt (pw_or (pt_cmpR op_ne (cal c_law_bad_routine hr rfl (pa_cons (pv 2) pa_nil)) (pe_un un_neg pe_int) (nomark _)) (pw_or1 (pt_not (pt_val (cal c_law_is_right hr rfl (pa_cons (pv 2) pa_nil))))))) (pss_one (ps_ret pe_bl)) pss_nil)
    (pss_cons (ps_for PassesOwn.never rfl (pi_range1 (by rfl) B.range (pa_cons pe_int pa_nil)) (pg_name (i := 3) sc_law.nd rfl (.inl rfl))
      (pss_cons (ps_set (i := 4) sc_law.nd rfl (.inl rfl) (cal c_law_take hr rfl (pa_cons (pv 1) (pa_cons (pe_callB call_len_seq (by rfl) B.len PySem.boot_len (pa_cons (pv 2) pa_nil)) pa_nil))))
      (pss_cons (ps_set (i := 5) sc_law.nd rfl (.inl rfl) (pe_op op_catA (pe_op op_catA (pe_slice sl_tupA (pv 2) po_none (po_some (pv 4))) (pe_tup (pa_cons (cal c_law_bent hr rfl (pa_cons (pv 1) (pa_cons (pv 2) (pa_cons (pe_ix ix_tup (pv 2) (pv 4) (fun _ _ => rfl)) (pa_cons pe_int pa_nil))))) pa_nil))) (pe_slice sl_tupA (pv 2) (po_some (pe_op op_add (pv 4) pe_int)) po_none)))
      (pss_cons (ps_if (pt_not (pt_val (cal c_law_is_right hr rfl (pa_cons (pv 5) pa_nil)))) (pss_one (ps_ret pe_bl)) pss_nil)
      (pss_cons (ps_set (i := 4) sc_law.nd rfl (.inl rfl) (cal c_law_take hr rfl (pa_cons (pv 1) (pa_cons (pe_callB call_len_seq (by rfl) B.len PySem.boot_len (pa_cons (pv 2) pa_nil)) pa_nil))))
      (pss_cons (ps_set (i := 6) sc_law.nd rfl (.inl rfl) (pe_op op_catA (pe_op op_catA (pe_slice sl_tupA (pv 5) po_none (po_some (pv 4))) (pe_tup (pa_cons (cal c_law_bent hr rfl (pa_cons (pv 1) (pa_cons (pv 2) (pa_cons (pe_ix ix_tup (pv 2) (pv 4) (fun _ _ => rfl)) (pa_cons pe_int pa_nil))))) pa_nil))) (pe_slice sl_tupA (pv 5) (po_some (pe_op op_add (pv 4) pe_int)) po_none)))
      (pss_one (ps_if (PW.pt (pw_or (pt_not (pt_val (cal c_law_is_right hr rfl (pa_cons (pv 6) pa_nil)))) (pw_or1 (pt_not (pt_val (cal c_law_is_right hr rfl (pa_cons (cal c_law_bent hr rfl (pa_cons (pv 1) (pa_cons (pv 2) (pa_cons (pv 2) (pa_cons pe_int pa_nil))))) pa_nil))))))) (pss_one (ps_ret pe_bl)) pss_nil))))))))
    (pss_cons (ps_set (i := 7) sc_law.nd rfl (.inl rfl) (pe_ix ix_tup (pe_ix ix_tup (pv 2) pe_int (fun _ _ => rfl)) pe_int (fun _ _ => rfl)))
    (pss_cons (ps_set (i := 8) sc_law.nd rfl (.inl rfl) (pe_lst (pa_cons (pe_op op_catA (pv 2) (pe_slice sl_tupA (pv 2) po_none (po_some pe_int))) (pa_cons (pe_op op_catA (pv 2) (pe_tup (pa_cons (pe_tup (pa_cons (pv 7) pa_nil)) pa_nil))) (pa_cons (pe_op op_catA (pv 2) (pe_lt (pl_cons (pe_lt pl_nil (by show 0 ≤ sizeLine; decide)) pl_nil) (by show 1 ≤ sizeLine; decide))) (pa_cons (pe_op op_catA (pv 2) (pe_lt (pl_cons (pe_lw (x := [109, 97, 105, 110]) (by decide +kernel)) pl_nil) (by show 1 ≤ sizeLine; decide))) (pa_cons (pe_slice sl_tupA (pv 2) (po_some pe_int) po_none) (pa_cons (pe_tup (pa_cons (pe_tup (pa_cons (pv 7) (pa_cons (pe_lt (pl_cons (pe_lw (x := [112, 117, 115, 104]) (by decide +kernel)) pl_nil) (by show 1 ≤ sizeLine; decide)) pa_nil))) (pa_cons (pe_tup (pa_cons (pv 7) pa_nil)) pa_nil))) pa_nil))))))))
    (pss_cons (ps_for PassesOwn.never rfl (pi_list (pe_op op_cat (pv 8) (pe_lst (pa_cons (pe_lt pl_nil (by show 0 ≤ sizeLine; decide)) (pa_cons pe_str (pa_cons (pe_lt (pl_cons (pe_lt pl_nil (by show 0 ≤ sizeLine; decide)) pl_nil) (by show 1 ≤ sizeLine; decide)) (pa_cons (pe_lt (pl_cons (pe_lw (x := [109, 97, 105, 110]) (by decide +kernel)) (pl_cons (pe_lw (x := [103, 111]) (by decide +kernel)) pl_nil)) (by show 2 ≤ sizeLine; decide)) (pa_cons (pe_lt (pl_cons (pe_lt (pl_cons (pe_lw (x := [103, 111]) (by decide +kernel)) pl_nil) (by show 1 ≤ sizeLine; decide)) pl_nil) (by show 1 ≤ sizeLine; decide)) (pa_cons (pe_lt (pl_cons (pe_lt (pl_cons (pe_lt (pl_cons (pe_lw (x := [103, 111]) (by decide +kernel)) pl_nil) (by show 1 ≤ sizeLine; decide)) pl_nil) (by show 1 ≤ sizeLine; decide)) pl_nil) (by show 1 ≤ sizeLine; decide)) (pa_cons (pe_op op_catA (pv 2) (pe_tup (pa_cons (pe_tup (pa_cons (pe_tup (pa_cons pe_str (pa_cons (pv 7) pa_nil))) (pa_cons (pe_tup (pa_cons pe_str (pa_cons (pv 7) pa_nil))) pa_nil))) pa_nil))) pa_nil)))))))))) (pg_name (i := 9) sc_law.nd rfl (.inl rfl))
      (pss_one (ps_if (pt_not (pt_val (cal c_law_is_right hr rfl (pa_cons (pv 9) pa_nil)))) (pss_one (ps_ret pe_bl)) pss_nil)))
    (pss_cons (ps_set (i := 10) sc_law.nd rfl (.inl rfl) (cal c_law_chain hr rfl (pa_cons (pv 1) pa_nil)))
    (pss_cons (ps_set (i := 11) sc_law.nd rfl (.inl rfl) (pe_tup (pa_cons (pe_tup (pa_cons (pv 10) (pa_cons (pe_tup (pa_cons pe_str (pa_cons (pv 10) pa_nil))) (pa_cons (pe_tup (pa_cons pe_str (pa_cons (pe_tup (pa_cons (pv 10) (pa_cons (pv 10) pa_nil))) pa_nil))) (pa_cons (pe_tup (pa_cons pe_str (pa_cons pe_str (pa_cons (pv 10) pa_nil)))) pa_nil))))) (pa_cons (pe_tup (pa_cons pe_str (pa_cons (pe_tup (pa_cons pe_str (pa_cons (pv 10) pa_nil))) pa_nil))) pa_nil))))
    (pss_cons (ps_set (i := 12) sc_law.nd rfl (.inl rfl) (pe_tup (pa_cons (pe_tup (pa_cons (pv 10) (pa_cons (pe_tup (pa_cons pe_str (pa_cons (pv 10) pa_nil))) pa_nil))) (pa_cons (pe_tup (pa_cons pe_str (pa_cons (pe_tup (pa_cons pe_str (pa_cons (pe_tup (pa_cons (pv 10) pa_nil)) pa_nil))) (pa_cons (pe_tup (pa_cons pe_str (pa_cons (pv 10) pa_nil))) pa_nil)))) pa_nil))))
    (pss_one (ps_ret (pe_and (cal c_law_is_right hr rfl (pa_cons (pv 11) pa_nil)) (pe_one (cal c_law_is_right hr rfl (pa_cons (pv 12) pa_nil)))))))))))))))), ?_⟩
  -- hand
  refine ⟨_, rfl, a, ns, 700, rfl, hS, h63, by decide, fun d ds H1 k1 nd ed1 dl => ?_⟩
  refine ⟨by show (2 : Nat) ≤ sizeLine; decide, fun h nh => ?_⟩
  have hd0 : Hd (upd H1 h (.lst [.ref d, .int 0])) h d := ⟨0, ds, upd_same, by rw [upd_ne (ne_of_none ed1 nh)]; exact ed1, by omega⟩
  generalize upd H1 h (.lst [.ref d, .int 0]) = H2 at hd0
  -- program
  refine ⟨_, rfl, h, d, rfl, hd0, fun v fs H3 tv mok k3 hd3 => ?_⟩
  obtain ⟨hne, f5, all, bad0, bdh⟩ := mok
  have f1 : 1 ≤ fs.length := List.length_pos_iff.mpr hne
  have sfs := sizes_le (b := 1200) fun t m => (all t m).1.1
  have sfs6 : sizes fs ≤ 6000 := by have := Nat.mul_le_mul_right 1200 f5; omega
  have dfs : tds fs ≤ 6 := tds_le fun t m => (all t m).1.2
  have okfs : OkM (.l fs) := okMl (by omega) (by omega) (by omega)
  refine ⟨_, rfl, v, .l fs, rfl, tv, okfs.2, fun o H4 out k4 => ?_⟩
  obtain rfl := BadM.uniq out bad0
  refine ⟨_, rfl, rfl, _, rfl, ?_⟩
  rw [show (!decide (V.int (outM none) = V.int (-1))) = false from nF rfl]
  refine iteF ⟨_, rfl, v, .l fs, rfl, tv.keep k4, okfs, fun H6 k5 => ⟨_, rfl, iteF ?_⟩⟩
  have k46 := k4.trans k5
  have hd6 := hd3.keep0 k46
  have tv6 := tv.keep k46
  have small : ∀ {z : Nat}, z ≤ 100000 → z ≤ sizeLine := fun h => Nat.le_trans h (by decide)
  have lsz := len_sizes fs
  refine ⟨_, rfl, by decide, by decide, ?_⟩
  refine for_range (lo := 0) (n := (4 : Int).toNat) (fun i σ H' => ∃ (y3 y4 y5 y6 : Option V), σ = [some (.ref a), some (.ref h), some v, y3, y4, y5, y6, none, none, none, none, none, none] ∧ Keep [h] H6 H' ∧ Hd H' h d)
    ⟨none, none, none, none, rfl, Keep.refl, hd6⟩ (fun i σ H7 hi pw => ?_) (fun σ H7 pw => ?_)
  · obtain ⟨y3, y4, y5, y6, rfl, k7, hd7⟩ := pw
    have tv7 := tv6.keep k7
    obtain ⟨pa, pvs, rfl, hP, rP⟩ := tv6.list
    have lp := rP.length
    -- at
    refine ⟨_, rfl, _, rfl, pa, pvs, rfl, .inr (k7.sqT hP), h, d, _, rfl, hd7, by omega, fun at' H8 at0 at1 k8 hd8 => ?_⟩
    obtain ⟨n', rfl⟩ := Int.eq_ofNat_of_zero_le at0
    have nl : n' < fs.length := by omega
    have hg : fs[n']? = some fs[n'] := List.getElem?_eq_getElem nl
    have mem := List.getElem_mem nl
    have b1 := (all _ mem).1
    have sp1 := sizes_split hg
    have en : (some ((n' : Int) + 1)) = some ((n' + 1 : Nat) : Int) := by rw [show ((n' + 1 : Nat) : Int) = (n' : Int) + 1 by omega]
    have c1 := cutL_to fs (j := n') (by omega)
    have c2 := cutL_from fs (i := n' + 1) (by omega)
    rw [← en] at c2
    have tv8 := tv7.keep k8
    refine ⟨_, rfl, _, rfl, _, rfl, sl_tr tv8 fun v3 H9 tv3 k9 => ?_⟩
    rw [c1] at tv3
    have hd9 := hd8.keep0 k9
    have tv9 := tv8.keep k9
    refine ⟨_, rfl, _, rfl, _, rfl, _, rfl, ix_tr (t := fs[n']) tv9 (atI_nat hg) fun vb tvb => ?_⟩
    refine ⟨3, by decide, h, d, .ref pa, vb, fs, fs[n'], rfl, hd9, tv9, by omega, bdh, tvb, Nat.le_trans b1.1 (by decide), fun v6 t6 H10 tv6' dp6 sz6 _ k10 hd10 => ?_⟩
    have sz6' : t6.size ≤ 2440 := by have := b1.1; omega
    have dp6' : td t6 ≤ 8 := by have := b1.2; omega
    refine ⟨by show (1 : Nat) ≤ sizeLine; decide, fun T1 nT1 => ?_⟩
    obtain ⟨tm, km⟩ := mk_tr (K := K) (H := H10) nT1 (Trs.one tv6')
    refine cat_tr ((tv3.keep k10).keep km) tm (small (by rw [List.length_take, List.length_singleton]; omega)) fun v7 H11 tv7' k11 => ?_
    have kk : Keep [h] H9 H11 := (k10.trans (km.mono (by simp))).trans (k11.mono (by simp))
    refine ⟨_, rfl, _, rfl, _, _, rfl, rfl, _, rfl, ?_⟩
    dsimp only [tNoPart]
    refine sl_tr (tv9.keep kk) fun v8 H12 tv8' k12 => ?_
    rw [c2] at tv8'
    refine cat_tr (tv7'.keep k12) tv8' (small (by rw [List.length_append, List.length_take, List.length_drop, List.length_singleton]; omega)) fun v9 H13 tv9' k13 => ?_
    have k1113 := k12.trans k13
    have k913 := kk.trans (k1113.mono (by simp))
    have hd13 := ((hd10.keep0 km).keep0 k11).keep0 k1113
    obtain ⟨us, eus⟩ : ∃ us, us = List.take n' fs ++ [t6] ++ List.drop (n' + 1) fs := ⟨_, rfl⟩
    have us_l : us.length = fs.length := by rw [eus, List.length_append, List.length_append, List.length_take, List.length_drop, List.length_singleton]; omega
    have us_s : sizes us ≤ 8440 := by rw [eus, sizes_app, sizes_app, sizes_cons, sizes_nil]; omega
    have us_d : tds us ≤ 8 := tds_le fun t m => by
      rw [eus] at m
      rcases List.mem_append.mp m with m | m
      · rcases List.mem_append.mp m with m | m
        · have := (all t (List.mem_of_mem_take m)).1.2; omega
        · rw [List.mem_singleton.mp m]; exact dp6'
      · have := (all t (List.mem_of_mem_drop m)).1.2; omega
    rw [← eus] at tv9'
    clear eus
    refine ⟨_, rfl, v9, .l us, rfl, tv9', okMl (by omega) (by omega) (by omega), fun H14 k14 => ?_⟩
    refine ⟨_, rfl, iteF ?_⟩
    have hd14 := hd13.keep0 k14
    have tu14 := tv9'.keep k14
    have k914 : Keep [h] H9 H14 := k913.trans (k14.mono (by simp))
    have tv14 := tv9.keep k914
    have k714 : Keep [h] H7 H14 := (k8.trans (k9.mono (by simp))).trans k914
    -- the other
    refine ⟨_, rfl, _, rfl, pa, pvs, rfl, .inr ((k7.trans k714).sqT hP), h, d, _, rfl, hd14, by omega, fun bt H15 bt0 bt1 k15 hd15 => ?_⟩
    obtain ⟨m', rfl⟩ := Int.eq_ofNat_of_zero_le bt0
    have ml : m' < fs.length := by omega
    have hgm : fs[m']? = some fs[m'] := List.getElem?_eq_getElem ml
    have memm := List.getElem_mem ml
    have b2 := (all _ memm).1
    have hgu : us[m']? = some us[m'] := List.getElem?_eq_getElem (by omega)
    have sp2 := sizes_split hgu
    have en2 : (some ((m' : Int) + 1)) = some ((m' + 1 : Nat) : Int) := by rw [show ((m' + 1 : Nat) : Int) = (m' : Int) + 1 by omega]
    have d1 := cutL_to us (j := m') (by omega)
    have d2 := cutL_from us (i := m' + 1) (by omega)
    rw [← en2] at d2
    have tv15 := tv14.keep k15
    refine ⟨_, rfl, _, rfl, _, rfl, sl_tr (tu14.keep k15) fun w3 H16 tw3 k16 => ?_⟩
    rw [d1] at tw3
    have hd16 := hd15.keep0 k16
    have tv16 := tv15.keep k16
    have tu16 := (tu14.keep k15).keep k16
    refine ⟨_, rfl, _, rfl, _, rfl, _, rfl, ix_tr (t := fs[m']) tv16 (atI_nat hgm) fun vb2 tvb2 => ?_⟩
    refine ⟨3, by decide, h, d, .ref pa, vb2, fs, fs[m'], rfl, hd16, tv16, by omega, bdh, tvb2, Nat.le_trans b2.1 (by decide), fun v16 t16 H17 tv17 dp16 sz16 _ k17 hd17 => ?_⟩
    have sz16' : t16.size ≤ 2440 := by have := b2.1; omega
    have dp16' : td t16 ≤ 8 := by have := b2.2; omega
    refine ⟨by show (1 : Nat) ≤ sizeLine; decide, fun T2 nT2 => ?_⟩
    obtain ⟨tm2, km2⟩ := mk_tr (K := K) (H := H17) nT2 (Trs.one tv17)
    refine cat_tr ((tw3.keep k17).keep km2) tm2 (small (by rw [List.length_take, List.length_singleton]; omega)) fun w7 H18 tw7 k18 => ?_
    have kk2 : Keep [h] H16 H18 := (k17.trans (km2.mono (by simp))).trans (k18.mono (by simp))
    refine ⟨_, rfl, _, rfl, _, _, rfl, rfl, _, rfl, ?_⟩
    dsimp only [tNoPart]
    refine sl_tr (tu16.keep kk2) fun w8 H19 tw8 k19 => ?_
    rw [d2] at tw8
    refine cat_tr (tw7.keep k19) tw8 (small (by rw [List.length_append, List.length_take, List.length_drop, List.length_singleton]; omega)) fun w9 H20 tw9 k20 => ?_
    have k1820 := k19.trans k20
    have k1620 := kk2.trans (k1820.mono (by simp))
    have hd20 := ((hd17.keep0 km2).keep0 k18).keep0 k1820
    obtain ⟨xs, exs⟩ : ∃ xs, xs = List.take m' us ++ [t16] ++ List.drop (m' + 1) us := ⟨_, rfl⟩
    have xs_l : xs.length = us.length := by rw [exs, List.length_append, List.length_append, List.length_take, List.length_drop, List.length_singleton]; omega
    have xs_s : sizes xs ≤ 10880 := by rw [exs, sizes_app, sizes_app, sizes_cons, sizes_nil]; omega
    have xs_d : tds xs ≤ 8 := tds_le fun t m => by
      rw [exs] at m
      rcases List.mem_append.mp m with m | m
      · rcases List.mem_append.mp m with m | m
        · have := td_mem (List.mem_of_mem_take m); omega
        · rw [List.mem_singleton.mp m]; exact dp16'
      · have := td_mem (List.mem_of_mem_drop m); omega
    rw [← exs] at tw9
    clear exs
    refine ⟨_, rfl, w9, .l xs, rfl, tw9, okMl (by omega) (by omega) (by omega), fun H21 k21 => ?_⟩
    refine ⟨_, rfl, iteF ?_⟩
    have hd21 := hd20.keep0 k21
    have k1621 : Keep [h] H16 H21 := k1620.trans (k21.mono (by simp))
    have tv21 := tv16.keep k1621
    refine ⟨_, rfl, _, rfl, _, rfl, 4, by decide, h, d, .ref pa, .ref pa, fs, .l fs, rfl, hd21, tv21, by omega, bdh, tv21, by rw [size_l]; omega, fun v22 t22 H22 tv22 dp22 sz22 few22 k22 hd22 => ?_⟩
    rw [td] at dp22
    rw [size_l] at sz22
    refine ⟨v22, t22, rfl, tv22, okM (by omega) (by omega) (fun ts e => ?_), fun H23 k23 => ?_⟩
    · rcases few22 ts e with l | ⟨ts0, e0, l⟩
      · omega
      · cases e0
        omega
    refine ⟨_, rfl, iteF ?_⟩
    refine ⟨_, _, _, _, rfl, ?_, hd22.keep0 k23⟩
    exact k7.trans (k714.trans (((k15.trans (k16.mono (by simp))).trans k1621).trans (k22.trans (k23.mono (by simp)))))
  · obtain ⟨y3, y4, y5, y6, rfl, k7, hd7⟩ := pw
    have tv7 := tv6.keep k7
    obtain ⟨f0, frest, rfl⟩ : ∃ f0 frest, fs = f0 :: frest := by
      cases fs with
      | nil => exact absurd rfl hne
      | cons f0 frest => exact ⟨f0, frest, rfl⟩
    obtain ⟨n, is, rfl⟩ := (all f0 (List.mem_cons_self ..)).2
    have bn := bdh n (heads_mem.mpr ⟨is, List.mem_cons_self ..⟩)
    have bn1 := bn.1
    have bn2 := bn.2
    refine ⟨_, rfl, ?_⟩
    obtain ⟨qa, qvs, rfl, hQ, rQ⟩ := tv7.list
    obtain ⟨v1, qr, rfl, tv1, _⟩ := rQ.cons
    obtain ⟨qb, qws, rfl, hB, rB⟩ := tv1.list
    obtain ⟨vn, qs, rfl, tn, _⟩ := rB.cons
    refine ⟨qa, _, _, _, rfl, rfl, hQ, atI_zero _ _, ?_⟩
    refine ⟨qb, _, _, vn, rfl, rfl, hB, atI_zero _ _, ?_⟩
    generalize hfs : (Tree.l (n :: is) :: frest) = fs at *
    have c1 := cutL_to fs (j := 1) f1
    have c2 := cutL_from fs (i := 1) f1
    have s1 := sizes_take fs 1
    have s2 := sizes_drop fs 1
    have l1 : (fs.take 1).length ≤ 1 := by rw [List.length_take]; omega
    have l2 : (fs.drop 1).length ≤ 5 := by rw [List.length_drop]; omega
    -- e1
    refine ⟨_, rfl, _, rfl, ?_⟩
    dsimp only [tNoPart]
    refine ⟨_, rfl, sl_tr tv7 fun u1 G1 t1 g1 => ?_⟩
    rw [show (some (1 : Int)) = some ((1 : Nat) : Int) from rfl, c1] at t1
    refine cat_tr (tv7.keep g1) t1 (small (by omega)) fun e1 G2 te1 g2 => ?_
    have h2 := g1.trans g2
    -- e2
    refine ⟨_, rfl, _, rfl, by show (1 : Nat) ≤ sizeLine; decide, fun p1 n1 => ?_⟩
    obtain ⟨m1, q1⟩ := mk_tr (K := K) (H := G2) n1 (Trs.one (tn.keep h2))
    generalize upd G2 p1 (.tup [vn]) = G3 at m1 q1
    refine ⟨by show (1 : Nat) ≤ sizeLine; decide, fun p2 n2 => ?_⟩
    obtain ⟨m2, q2⟩ := mk_tr (K := K) (H := G3) n2 (Trs.one m1)
    generalize upd G3 p2 (.tup [.ref p1]) = G4 at m2 q2
    have h4 := (h2.trans q1).trans q2
    refine cat_tr (tv7.keep h4) m2 (small (by rw [List.length_singleton]; omega)) fun e2 G5 te2 g5 => ?_
    have h5 := h4.trans g5
    -- e3
    refine ⟨_, rfl, fun u3 G6 t3 g6 => ?_⟩
    refine cat_tr ((tv7.keep h5).keep g6) t3 (small (by rw [List.length_singleton]; omega)) fun e3 G7 te3 g7 => ?_
    have h7 := (h5.trans g6).trans g7
    -- e4
    refine ⟨_, rfl, fun u4 G8 t4 g8 => ?_⟩
    refine cat_tr ((tv7.keep h7).keep g8) t4 (small (by rw [List.length_singleton]; omega)) fun e4 G9 te4 g9 => ?_
    have h9 := (h7.trans g8).trans g9
    -- e5
    refine ⟨_, rfl, ?_⟩
    dsimp only [tNoPart]
    refine ⟨_, rfl, sl_tr (tv7.keep h9) fun e5 G10 te5 g10 => ?_⟩
    rw [show (some (1 : Int)) = some ((1 : Nat) : Int) from rfl, c2] at te5
    have h10 := h9.trans g10
    -- e6
    refine ⟨_, rfl, fun u6 G11 t6 g11 => ⟨by show (2 : Nat) ≤ sizeLine; decide, fun p3 n3 => ?_⟩⟩
    have h11 := h10.trans g11
    obtain ⟨m3, q3⟩ := mk_tr (K := K) (H := G11) n3 (trs_cons (tn.keep h11) (Trs.one t6))
    generalize upd G11 p3 (.tup [vn, u6]) = G12 at m3 q3
    have h12 := h11.trans q3
    refine ⟨_, rfl, by show (1 : Nat) ≤ sizeLine; decide, fun p4 n4 => ?_⟩
    obtain ⟨m4, q4⟩ := mk_tr (K := K) (H := G12) n4 (Trs.one (tn.keep h12))
    generalize upd G12 p4 (.tup [vn]) = G13 at m4 q4
    refine ⟨by show (2 : Nat) ≤ sizeLine; decide, fun p5 n5 => ?_⟩
    obtain ⟨m5, q5⟩ := mk_tr (K := K) (H := G13) n5 (trs_cons (m3.keep q4) (Trs.one m4))
    generalize upd G13 p5 (.tup [.ref p3, .ref p4]) = G14 at m5 q5
    have k1114 := (q3.trans q4).trans q5
    have h14 := h11.trans k1114
    refine ⟨by show (6 : Nat) ≤ sizeLine; decide, fun M nM => ?_⟩
    have kM : Keep [] G14 (upd G14 M (.lst [e1, e2, e3, e4, e5, .ref p5])) := Keep.new nM
    have eM : (upd G14 M (.lst [e1, e2, e3, e4, e5, .ref p5])) M = some (.lst [e1, e2, e3, e4, e5, .ref p5]) := upd_same
    have rM : Trs K G14 [e1, e2, e3, e4, e5, .ref p5] [.l (fs ++ fs.take 1), .l (fs ++ [.l [n]]), .l (fs ++ [.l []]), .l (fs ++ [.w [109, 97, 105, 110]]), .l (fs.drop 1), .l [.l [n, .l [.w [112, 117, 115, 104]]], .l [n]]] := by
      have k25 : Keep [] G2 G5 := ((q1.trans q2).trans g5)
      have k57 : Keep [] G5 G7 := g6.trans g7
      have k79 : Keep [] G7 G9 := g8.trans g9
      have k914 : Keep [] G9 G14 := (g10.trans g11).trans k1114
      exact trs_cons ((((te1.keep k25).keep k57).keep k79).keep k914) (trs_cons (((te2.keep k57).keep k79).keep k914) (trs_cons ((te3.keep k79).keep k914) (trs_cons (te4.keep k914) (trs_cons (te5.keep (g11.trans k1114)) (Trs.one m5)))))
    have rM := rM.keep kM
    have h15 := h14.trans kM
    generalize upd G14 M (.lst [e1, e2, e3, e4, e5, .ref p5]) = G15 at kM eM rM h15
    generalize [e1, e2, e3, e4, e5, V.ref p5] = xsM at eM rM
    -- the second list
    refine ⟨_, rfl, ?_⟩
    refine fun z1 J1 a1 b1 => ?_
    refine fun z3 J2 a3 b3 => ?_
    refine fun z4 J3 a4 b4 => ?_
    refine fun z5 J4 a5 b5 => ?_
    refine fun z6 J5 a6 b6 => ?_
    have jj := (((b1.trans b3).trans b4).trans b5).trans b6
    have h16 := h15.trans jj
    refine ⟨_, rfl, _, rfl, by show (2 : Nat) ≤ sizeLine; decide, fun p6 n6 => ?_⟩
    obtain ⟨m6, q6⟩ := mk_tr (K := K) (H := J5) (vs := [.str "x", vn]) (ts := [.w [120], n]) n6 (trs_cons (str_tr (by decide +kernel)) (Trs.one (tn.keep h16)))
    generalize upd J5 p6 (.tup [.str "x", vn]) = J6 at m6 q6
    have h17 := h16.trans q6
    refine ⟨_, rfl, by show (2 : Nat) ≤ sizeLine; decide, fun p7 n7 => ?_⟩
    obtain ⟨m7, q7⟩ := mk_tr (K := K) (H := J6) (vs := [.str "call", vn]) (ts := [.w callW, n]) n7 (trs_cons (str_tr lit_call) (Trs.one (tn.keep h17)))
    generalize upd J6 p7 (.tup [.str "call", vn]) = J7 at m7 q7
    refine ⟨by show (2 : Nat) ≤ sizeLine; decide, fun p8 n8 => ?_⟩
    obtain ⟨m8, q8⟩ := mk_tr (K := K) (H := J7) n8 (trs_cons (m6.keep q7) (Trs.one m7))
    generalize upd J7 p8 (.tup [.ref p6, .ref p7]) = J8 at m8 q8
    refine ⟨by show (1 : Nat) ≤ sizeLine; decide, fun p9 n9 => ?_⟩
    obtain ⟨m9, q9⟩ := mk_tr (K := K) (H := J8) n9 (Trs.one m8)
    generalize upd J8 p9 (.tup [.ref p8]) = J9 at m9 q9
    have k59 := ((q6.trans q7).trans q8).trans q9
    have h19 := h16.trans k59
    refine cat_tr (tv7.keep h19) m9 (small (by rw [List.length_singleton]; omega)) fun z7 J10 a7 b7 => ?_
    have k510 := k59.trans b7
    refine ⟨by show (7 : Nat) ≤ sizeLine; decide, fun L nL => ?_⟩
    have kL : Keep [] J10 (upd J10 L (.lst [z1, .str "main", z3, z4, z5, z6, z7])) := Keep.new nL
    have eL : (upd J10 L (.lst [z1, .str "main", z3, z4, z5, z6, z7])) L = some (.lst [z1, .str "main", z3, z4, z5, z6, z7]) := upd_same
    have rL : Trs K J10 [z1, .str "main", z3, z4, z5, z6, z7] [.l [], .w [109, 97, 105, 110], .l [.l []], .l [.w [109, 97, 105, 110], .w [103, 111]], .l [.l [.w [103, 111]]], .l [.l [.l [.w [103, 111]]]], .l (fs ++ [.l [.l [.w [120], n], .l [.w callW, n]]])] :=
      trs_cons (((((a1.keep b3).keep b4).keep b5).keep b6).keep k510) (trs_cons (str_tr (by decide +kernel)) (trs_cons ((((a3.keep b4).keep b5).keep b6).keep k510) (trs_cons (((a4.keep b5).keep b6).keep k510) (trs_cons ((a5.keep b6).keep k510) (trs_cons (a6.keep k510) (Trs.one a7))))))
    have rL := rL.keep kL
    have kMall := (jj.trans k510).trans kL
    have h20 := h15.trans kMall
    have rM := rM.keep kMall
    have eM := kMall.get eM (List.not_mem_nil)
    have rows := rM.append rL
    have lens : xsM.length + [z1, V.str "main", z3, z4, z5, z6, z7].length ≤ 100 := by rw [rM.length]; show (6 : Nat) + 7 ≤ 100; decide
    have okall : ∀ t ∈ ([.l (fs ++ fs.take 1), .l (fs ++ [.l [n]]), .l (fs ++ [.l []]), .l (fs ++ [.w [109, 97, 105, 110]]), .l (fs.drop 1), .l [.l [n, .l [.w [112, 117, 115, 104]]], .l [n]]] : List Tree) ++ [.l [], .w [109, 97, 105, 110], .l [.l []], .l [.w [109, 97, 105, 110], .w [103, 111]], .l [.l [.w [103, 111]]], .l [.l [.l [.w [103, 111]]]], .l (fs ++ [.l [.l [.w [120], n], .l [.w callW, n]]])], OkM t := by
      have dt : tds (fs.take 1) ≤ 6 := tds_le fun t m => by have := td_mem (List.mem_of_mem_take m); omega
      have dd : tds (fs.drop 1) ≤ 6 := tds_le fun t m => by have := td_mem (List.mem_of_mem_drop m); omega
      intro t m
      simp only [List.cons_append, List.nil_append, List.mem_cons, List.not_mem_nil, or_false] at m
      rcases m with rfl | rfl | rfl | rfl | rfl | rfl | rfl | rfl | rfl | rfl | rfl | rfl | rfl
      · exact okMl (by rw [sizes_app]; omega) (by rw [tds_app]; omega) (by rw [List.length_append]; omega)
      · exact okMl (by rw [sizes_app]; simp only [sizes_cons, sizes_nil, size_l]; omega) (by rw [tds_app]; simp only [td, tds]; omega) (by rw [List.length_append, List.length_singleton]; omega)
      · exact okMl (by rw [sizes_app]; simp only [sizes_cons, sizes_nil, size_l]; omega) (by rw [tds_app]; simp only [td, tds]; omega) (by rw [List.length_append, List.length_singleton]; omega)
      · exact okMl (by rw [sizes_app]; simp only [sizes_cons, sizes_nil, size_w]; omega) (by rw [tds_app]; simp only [td, tds]; omega) (by rw [List.length_append, List.length_singleton]; omega)
      · exact okMl (by omega) (by omega) (by omega)
      · exact okMl (by simp only [sizes_cons, sizes_nil, size_w, size_l]; omega) (by simp only [td, tds]; omega) (by show (2 : Nat) ≤ 1000; decide)
      · exact okMl (by decide +kernel) (by decide +kernel) (by decide)
      · exact okM (by decide +kernel) (by decide +kernel) (fun fs e => by cases e)
      · exact okMl (by decide +kernel) (by decide +kernel) (by decide)
      · exact okMl (by decide +kernel) (by decide +kernel) (by decide)
      · exact okMl (by decide +kernel) (by decide +kernel) (by decide)
      · exact okMl (by decide +kernel) (by decide +kernel) (by decide)
      · exact okMl (by rw [sizes_app]; simp only [sizes_cons, sizes_nil, size_w, size_l]; omega) (by rw [tds_app]; simp only [td, tds]; omega) (by rw [List.length_append, List.length_singleton]; omega)
    generalize ([.l (fs ++ fs.take 1), .l (fs ++ [.l [n]]), .l (fs ++ [.l []]), .l (fs ++ [.w [109, 97, 105, 110]]), .l (fs.drop 1), .l [.l [n, .l [.w [112, 117, 115, 104]]], .l [n]]] : List Tree) = tsM at rM rows okall
    generalize upd J10 L (.lst [z1, .str "main", z3, z4, z5, z6, z7]) = J11 at eL rL h20 rM eM rows
    generalize hzs : [z1, V.str "main", z3, z4, z5, z6, z7] = zsL at eL rL rows lens
    generalize hts : ([.l [], .w [109, 97, 105, 110], .l [.l []], .l [.w [109, 97, 105, 110], .w [103, 111]], .l [.l [.w [103, 111]]], .l [.l [.l [.w [103, 111]]]], .l (fs ++ [.l [.l [.w [120], n], .l [.w callW, n]]])] : List Tree) = tsL at rL rows okall
    refine ⟨M, L, xsM, zsL, rfl, rfl, eM, eL, Nat.le_trans lens (by decide), fun p np => ?_⟩
    have kp : Keep [] J11 (upd J11 p (.lst (xsM ++ zsL))) := Keep.new np
    have ep : (upd J11 p (.lst (xsM ++ zsL))) p = some (.lst (xsM ++ zsL)) := upd_same
    have rows := rows.keep kp
    have h21 := h20.trans kp
    generalize upd J11 p (.lst (xsM ++ zsL)) = J12 at kp ep rows h21
    generalize xsM ++ zsL = xs at ep rows
    generalize tsM ++ tsL = ys at rows okall
    refine ⟨p, rfl, ⟨_, SqL.of ep⟩, ?_⟩
    refine for_list (K := K) (a := p) (xs := xs) (D := { nx := _, rt := Q }) (fun i σ H' => ∃ y9 : Option V, σ = [some (.ref a), some (.ref h), some (.ref qa), y3, y4, y5, y6, some vn, some (.ref M), y9, none, none, none] ∧ Keep [] J12 H') ⟨none, rfl, Keep.refl⟩ (fun i σ H' _ pw => ?_) (fun i z σ H23 hz pw => ?_) (fun σ H23 pw => ?_)
    · obtain ⟨_, rfl, kk⟩ := pw
      exact SqL.of (kk.get ep (by simp))
    · obtain ⟨y9, rfl, kk⟩ := pw
      have lr := rows.length
      have il : i < xs.length := (List.getElem?_eq_some_iff.mp hz).1
      obtain ⟨z', hz', tz⟩ := rows.get (List.getElem?_eq_getElem (show i < ys.length by omega))
      rw [hz] at hz'
      cases hz'
      refine ⟨_, rfl, z, _, rfl, tz.keep kk, okall _ (List.getElem_mem (show i < ys.length by omega)), fun H24 k24 => ?_⟩
      refine ⟨_, rfl, iteF ?_⟩
      exact ⟨_, rfl, kk.trans k24⟩
    · obtain ⟨y9, rfl, kk⟩ := pw
      have hd23 := hd7.keep0 (h21.trans kk)
      refine ⟨_, rfl, h, d, rfl, hd23, fun vd td' H24 tvd bdd k24 hd24 => ?_⟩
      have s3 := bdd.1
      have d3 := bdd.2
      -- good
      refine ⟨_, rfl, _, rfl, by show (2 : Nat) ≤ sizeLine; decide, fun a1 n1' => ?_⟩
      obtain ⟨w1, x1⟩ := mk_tr (K := K) (H := H24) n1' (trs_cons (str_tr lit_push) (Trs.one tvd))
      generalize upd H24 a1 (.tup [.str "push", vd]) = B1 at w1 x1
      refine ⟨_, rfl, _, rfl, by show (2 : Nat) ≤ sizeLine; decide, fun a2 n2' => ?_⟩
      obtain ⟨w2, x2⟩ := mk_tr (K := K) (H := B1) n2' (trs_cons (tvd.keep x1) (Trs.one (tvd.keep x1)))
      generalize upd B1 a2 (.tup [vd, vd]) = B2 at w2 x2
      refine ⟨by show (2 : Nat) ≤ sizeLine; decide, fun a3 n3' => ?_⟩
      obtain ⟨w3, x3⟩ := mk_tr (K := K) (H := B2) n3' (trs_cons (str_tr lit_copy) (Trs.one w2))
      generalize upd B2 a3 (.tup [.str "copy", .ref a2]) = B3 at w3 x3
      have x13 := (x1.trans x2).trans x3
      refine ⟨_, rfl, by show (3 : Nat) ≤ sizeLine; decide, fun a4 n4' => ?_⟩
      obtain ⟨w4, x4⟩ := mk_tr (K := K) (H := B3) (vs := [.str "if", .str "end", vd]) (ts := [.w ifW, .w [101, 110, 100], td']) n4' (trs_cons (str_tr lit_if) (trs_cons (str_tr (by decide +kernel)) (Trs.one (tvd.keep x13))))
      generalize upd B3 a4 (.tup [.str "if", .str "end", vd]) = B4 at w4 x4
      have x14 := x13.trans x4
      refine ⟨by show (4 : Nat) ≤ sizeLine; decide, fun a5 n5' => ?_⟩
      obtain ⟨w5, x5⟩ := mk_tr (K := K) (H := B4) n5' (trs_cons (tvd.keep x14) (trs_cons (w1.keep ((x2.trans x3).trans x4)) (trs_cons (w3.keep x4) (Trs.one w4))))
      generalize upd B4 a5 (.tup [vd, .ref a1, .ref a3, .ref a4]) = B5 at w5 x5
      have x15 := x14.trans x5
      refine ⟨_, rfl, by show (2 : Nat) ≤ sizeLine; decide, fun a6 n6' => ?_⟩
      obtain ⟨w6, x6⟩ := mk_tr (K := K) (H := B5) n6' (trs_cons (str_tr lit_call) (Trs.one (tvd.keep x15)))
      generalize upd B5 a6 (.tup [.str "call", vd]) = B6 at w6 x6
      refine ⟨by show (2 : Nat) ≤ sizeLine; decide, fun a7 n7' => ?_⟩
      obtain ⟨w7, x7⟩ := mk_tr (K := K) (H := B6) (vs := [.str "end", .ref a6]) (ts := [.w [101, 110, 100], .l [.w callW, td']]) n7' (trs_cons (str_tr (by decide +kernel)) (Trs.one w6))
      generalize upd B6 a7 (.tup [.str "end", .ref a6]) = B7 at w7 x7
      refine ⟨by show (2 : Nat) ≤ sizeLine; decide, fun a8 n8' => ?_⟩
      obtain ⟨w8, x8⟩ := mk_tr (K := K) (H := B7) n8' (trs_cons (w5.keep (x6.trans x7)) (Trs.one w7))
      generalize upd B7 a8 (.tup [.ref a5, .ref a7]) = B8 at w8 x8
      have x18 := ((x15.trans x6).trans x7).trans x8
      -- wrong
      refine ⟨_, rfl, _, rfl, by show (2 : Nat) ≤ sizeLine; decide, fun b1' m1' => ?_⟩
      obtain ⟨y1, g1'⟩ := mk_tr (K := K) (H := B8) m1' (trs_cons (str_tr lit_push) (Trs.one (tvd.keep x18)))
      generalize upd B8 b1' (.tup [.str "push", vd]) = C1 at y1 g1'
      refine ⟨by show (2 : Nat) ≤ sizeLine; decide, fun b2' m2' => ?_⟩
      obtain ⟨y2, g2'⟩ := mk_tr (K := K) (H := C1) m2' (trs_cons ((tvd.keep x18).keep g1') (Trs.one y1))
      generalize upd C1 b2' (.tup [vd, .ref b1']) = C2 at y2 g2'
      have x20 := (x18.trans g1').trans g2'
      refine ⟨_, rfl, by show (1 : Nat) ≤ sizeLine; decide, fun b3' m3' => ?_⟩
      obtain ⟨y3', g3'⟩ := mk_tr (K := K) (H := C2) m3' (Trs.one (tvd.keep x20))
      generalize upd C2 b3' (.tup [vd]) = C3 at y3' g3'
      refine ⟨by show (2 : Nat) ≤ sizeLine; decide, fun b4' m4' => ?_⟩
      obtain ⟨y4', g4'⟩ := mk_tr (K := K) (H := C3) m4' (trs_cons (str_tr lit_call) (Trs.one y3'))
      generalize upd C3 b4' (.tup [.str "call", .ref b3']) = C4 at y4' g4'
      have x22 := (x20.trans g3').trans g4'
      refine ⟨_, rfl, by show (2 : Nat) ≤ sizeLine; decide, fun b5' m5' => ?_⟩
      obtain ⟨y5', g5'⟩ := mk_tr (K := K) (H := C4) m5' (trs_cons (str_tr lit_slide) (Trs.one (tvd.keep x22)))
      generalize upd C4 b5' (.tup [.str "slide", vd]) = C5 at y5' g5'
      refine ⟨by show (3 : Nat) ≤ sizeLine; decide, fun b6' m6' => ?_⟩
      obtain ⟨y6', g6'⟩ := mk_tr (K := K) (H := C5) (vs := [.str "end", .ref b4', .ref b5']) (ts := [.w [101, 110, 100], .l [.w callW, .l [td']], .l [.w slideW, td']]) m6' (trs_cons (str_tr (by decide +kernel)) (trs_cons (y4'.keep g5') (Trs.one y5')))
      generalize upd C5 b6' (.tup [.str "end", .ref b4', .ref b5']) = C6 at y6' g6'
      refine ⟨by show (2 : Nat) ≤ sizeLine; decide, fun b7' m7' => ?_⟩
      obtain ⟨y7', g7'⟩ := mk_tr (K := K) (H := C6) m7' (trs_cons ((((y2.keep g3').keep g4').keep g5').keep g6') (Trs.one y6'))
      generalize upd C6 b7' (.tup [.ref b2', .ref b6']) = C7 at y7' g7'
      have x818 : Keep [] B8 C7 := (((((g1'.trans g2').trans g3').trans g4').trans g5').trans g6').trans g7'
      refine ⟨_, rfl, .ref a8, _, rfl, w8.keep x818, okMl (by simp only [sizes_cons, sizes_nil, size_w, size_l]; omega) (by simp only [td, tds]; omega) (by show (2 : Nat) ≤ 1000; decide), fun H25 k25 => ⟨_, rfl, iteT ?_⟩⟩
      exact ⟨_, rfl, .ref b7', _, rfl, y7'.keep k25, okMl (by simp only [sizes_cons, sizes_nil, size_w, size_l]; omega) (by simp only [td, tds]; omega) (by show (2 : Nat) ≤ 1000; decide), fun H26 k26 => q H26⟩
end
end Og

namespace Og
open PySem PySem.Spec PyProof.Rows L2
theorem ok_law {P : Program} {w : World} {K : PySem.W.Frag} {mg : Str → Option Value} {base : Heap} {e : Addr} {ed : FuncData} (F : Fun K "law" "law" s_law e ed) (B : Bn mg) (M : Mc mg)
    (Q_Nodes : ∃ C : Addr, OwnC K mg "Nodes" ["heads", "tails", "wordness", "spellings", "numbers_of_words", "numbers_of_lists"] C ∧ InitAt K C "Nodes.__init__" s_Nodes_init p_Nodes_init ∧ MethAt K C "joined" "Nodes.joined" s_Nodes_joined p_Nodes_joined ∧ MethAt K C "number_of" "Nodes.number_of" s_Nodes_number_of p_Nodes_number_of ∧ MethAt K C "_number_of_word" "Nodes._number_of_word" s_Nodes_number_of_word p_Nodes_number_of_word ∧ MethAt K C "value_of" "Nodes.value_of" s_Nodes_value_of p_Nodes_value_of ∧ MethAt K C "_numbers_within" "Nodes._numbers_within" s_Nodes_numbers_within p_Nodes_numbers_within ∧ MethAt K C "_items_of" "Nodes._items_of" s_Nodes_items_of p_Nodes_items_of ∧ MethAt K C "is_great" "Nodes.is_great" s_Nodes_is_great p_Nodes_is_great)
    (S_INSTRUCTIONS : DictC K w mg "INSTRUCTIONS" [([112, 117, 115, 104], 2), ([99, 111, 112, 121], 2), ([115, 108, 105, 100, 101], 2), ([115, 97, 109, 101], 1), ([119, 111, 114, 100], 1), ([104, 101, 97, 100], 1), ([116, 97, 105, 108], 1), ([106, 111, 105, 110], 1), ([99, 97, 108, 108], 2), ([105, 102], 3)])
    (E_BadText : ErrAll K mg "BadText" "BadText.__init__" "place" s_BadText_init)
    (E_BadProgram : ErrAll K mg "BadProgram" "BadProgram.__init__" "function" s_BadProgram_init)
    (W_BadText_BadProgram : ErrNot K mg "BadText" "BadProgram")
    (W_BadProgram_BadText : ErrNot K mg "BadProgram" "BadText")
    (C_BadInputs : ∃ a : Addr, mg "BadInputs" = some (.ref a))
    (W_BadText_BadInputs : ErrNot K mg "BadText" "BadInputs")
    (W_BadProgram_BadInputs : ErrNot K mg "BadProgram" "BadInputs")
    (D_wall : DefAt K mg "_wall" s_wall p_wall)
    (D_parts_of : DefAt K mg "_parts_of" s_parts_of p_parts_of)
    (D_check_machine : DefAt K mg "check_machine" s_check_machine p_check_machine)
    (D_is_right_instruction : DefAt K mg "_is_right_instruction" s_is_right_instruction p_is_right_instruction)
    (D_law_draws : DefAt K mg "_law_draws" s_law_draws p_law_draws)
    (D_law_take : DefAt K mg "_law_take" s_law_take p_law_take)
    (D_law_value : DefAt K mg "_law_value" s_law_value p_law_value)
    (D_law_names_of : DefAt K mg "_law_names_of" s_law_names_of p_law_names_of)
    (D_law_list : DefAt K mg "_law_list" s_law_list p_law_list)
    (D_law_instruction : DefAt K mg "_law_instruction" s_law_instruction p_law_instruction)
    (D_law_machine : DefAt K mg "_law_machine" s_law_machine p_law_machine)
    (D_law_names_in : DefAt K mg "_law_names_in" s_law_names_in p_law_names_in)
    (D_law_instruction_good : DefAt K mg "_law_instruction_good" s_law_instruction_good p_law_instruction_good)
    (D_law_routine_good : DefAt K mg "_law_routine_good" s_law_routine_good p_law_routine_good)
    (D_law_bad_routine : DefAt K mg "_law_bad_routine" s_law_bad_routine p_law_bad_routine)
    (D_law_is_right : DefAt K mg "_law_is_right" s_law_is_right p_law_is_right)
    (D_law_odd : DefAt K mg "_law_odd" s_law_odd p_law_odd)
    (D_law_bent : DefAt K mg "_law_bent" s_law_bent p_law_bent)
    (D_law_chain : DefAt K mg "_law_chain" s_law_chain p_law_chain) :
    FnOk P w K mg base CX0 30 e ed ["script"] (spLaw K) := by
  obtain ⟨C, G, fI, fdI, T_BadProgram, Hh⟩ := E_BadProgram.ex
  obtain ⟨CT, GT, fT, fdT, T_BadText, _⟩ := E_BadText.ex
  obtain ⟨CI, gI⟩ := C_BadInputs
  obtain ⟨d, es, n, m, kd, en⟩ := S_INSTRUCTIONS.ex
  have DD : DictD K w instrs d := ⟨⟨es, n, kd, en⟩⟩
  obtain ⟨Cn, On, n_init, n_joined, n_numberOf, n_numWord, _⟩ := Q_Nodes
  have h_parts := has_parts (P := P) (w := w) (base := base) D_parts_of B
  have m_init := has_NodesInit (P := P) (w := w) (base := base) On n_init B M
  have m_joined := has_joined (P := P) (w := w) (base := base) On n_joined B M
  have m_numWord := has_numWord (P := P) (w := w) (base := base) On n_numWord B M
  have m_numberOf := has_numberOf (P := P) (w := w) (base := base) On n_numberOf B M m_joined m_numWord h_parts
  have h_ri := has_rightIns (P := P) (w := w) (base := base) (k := 1) m DD D_is_right_instruction B m_numberOf
  have h_check := has_checkM (P := P) (w := w) (base := base) (k := 1) T_BadProgram D_check_machine B (m_numberOf.mono (by decide)) (h_ri.mono (by decide)) (m_init.mono (by decide))
  have h_draws := has_draws (P := P) (w := w) (base := base) (k := 0) D_law_draws B
  have h_take := has_take (P := P) (w := w) (base := base) (k := 0) D_law_take B
  have h_val := has_val (P := P) (w := w) (base := base) (k := 1) D_law_value B h_take
  have h_namesOf := has_namesOf (P := P) (w := w) (base := base) (k := 3) D_law_names_of B (h_take.mono (by decide)) ((h_val 2).mono (by decide))
  have h_list := has_lawList (P := P) (w := w) (base := base) (k := 3) D_law_list B ((h_val 1).mono (by decide))
  have h_ins := has_lawIns (P := P) (w := w) (base := base) (k := 4) D_law_instruction B (h_take.mono (by decide)) ((h_val 2).mono (by decide)) (h_list.mono (by decide))
  have h_mach := has_machine (P := P) (w := w) (base := base) (k := 5) D_law_machine B (h_take.mono (by decide)) (h_namesOf.mono (by decide)) (h_ins.mono (by decide))
  have h_namesIn := has_namesIn (P := P) (w := w) (base := base) (k := 0) D_law_names_in B
  have h_insGood := has_insGood (P := P) (w := w) (base := base) (k := 0) D_law_instruction_good B
  have h_routGood := has_routGood (P := P) (w := w) (base := base) (k := 0) D_law_routine_good B (h_namesIn.mono (by decide)) (h_insGood.mono (by decide))
  have h_badR := has_badR (P := P) (w := w) (base := base) (k := 2) D_law_bad_routine B (h_namesIn.mono (by decide)) (h_routGood.mono (by decide))
  have h_isright := has_isright (P := P) (w := w) (base := base) (k := 5) T_BadProgram Hh T_BadText.gC (W_BadProgram_BadText.no _ _ T_BadProgram.gC T_BadText.gC) gI (W_BadProgram_BadInputs.no _ _ T_BadProgram.gC gI) D_law_is_right B (h_badR.mono (by decide)) h_check
  have h_odd := has_odd (P := P) (w := w) (base := base) (k := 0) D_law_odd B h_take h_namesIn
  obtain ⟨fb, fdb, hb⟩ := has_bent (P := P) (w := w) (base := base) (k := 2) D_law_bent B (h_take.mono (by decide)) h_odd
  have h_bent := has_upto hb 4
  have h_chain := has_chain (P := P) (w := w) (base := base) (k := 0) D_law_chain B h_take
  exact ok_law51 F B (h_draws.mono (by decide)) (h_take.mono (by decide)) (h_mach.mono (by decide)) (h_badR.mono (by decide)) (h_isright.mono (by decide)) (h_bent.mono (by decide)) (h_chain.mono (by decide))
end Og

namespace Og
open PySem PySem.Spec PyProof.Rows L2
theorem all_mk {l : PySem.W.OpenLaw} {w : World} {K : PySem.W.Frag} {h : Heap} {mg : Str → Option Value} {fa f0 f1 f2 f3 f4 f5 f6 f7 f8 f9 f10 f11 f12 f13 f14 f15 f16 f17 f18 f19 : Addr} (X : K.In h) (G : h.Ns mainGlobals mg) (hfa : mg "law" = some (.ref fa))
    {tF0x7 : Addr} {tod0x7 tan0x7 : Option Addr} {tsl0x7 : Array (Option Value)} {toc0x7 tkV0x7 tdc0x7 tpm0x7 tcd0x7 tct0x7 : Value}
    {tF0x6 : Addr} {tod0x6 tan0x6 : Option Addr} {tsl0x6 : Array (Option Value)} {toc0x6 tkV0x6 tdc0x6 tpm0x6 tcd0x6 tct0x6 : Value}
    {tF0x5 : Addr} {tod0x5 tan0x5 : Option Addr} {tsl0x5 : Array (Option Value)} {toc0x5 tkV0x5 tdc0x5 tpm0x5 tcd0x5 tct0x5 : Value}
    {tF0x4 : Addr} {tod0x4 tan0x4 : Option Addr} {tsl0x4 : Array (Option Value)} {toc0x4 tkV0x4 tdc0x4 tpm0x4 tcd0x4 tct0x4 : Value}
    {tF0x3 : Addr} {tod0x3 tan0x3 : Option Addr} {tsl0x3 : Array (Option Value)} {toc0x3 tkV0x3 tdc0x3 tpm0x3 tcd0x3 tct0x3 : Value}
    {tF0x2 : Addr} {tod0x2 tan0x2 : Option Addr} {tsl0x2 : Array (Option Value)} {toc0x2 tkV0x2 tdc0x2 tpm0x2 tcd0x2 tct0x2 : Value}
    {tF0x1 : Addr} {tod0x1 tan0x1 : Option Addr} {tsl0x1 : Array (Option Value)} {toc0x1 tkV0x1 tdc0x1 tpm0x1 tcd0x1 tct0x1 : Value}
    {tF0x0 : Addr} {tod0x0 tan0x0 : Option Addr} {tsl0x0 : Array (Option Value)} {toc0x0 tkV0x0 tdc0x0 tpm0x0 tcd0x0 tct0x0 : Value}
    {oC0 : Addr}
    {Dd0 : Addr} {Des0 : Array DictEntry} {Dn0 : Nat}
    {PC0 : Addr}
    {CG : Addr} {C0 I0 N0 C1 I1 N1 : Addr} {nm0 q0 nm1 q1 : Str} {bs0 bm0 sub0 bs1 bm1 sub1 : List Value} {sn0 sn1 : List Str} {ab0 ab1 : Bool} {col0 col1 : Option Bool} {dd0 eod0 ean0 dd1 eod1 ean1 : Option Addr} {u0 v0 w0 x0 y0 u1 v1 w1 x1 y1 : Option Value} {esl0 esl1 : Array (Option Value)} {eoc0 ekV0 edc0 epm0 ecd0 ect0 eoc1 ekV1 edc1 epm1 ecd1 ect1 : Value}
    {od0 an0 od1 an1 od2 an2 od3 an3 od4 an4 od5 an5 od6 an6 od7 an7 od8 an8 od9 an9 od10 an10 od11 an11 od12 an12 od13 an13 od14 an14 od15 an15 od16 an16 od17 an17 od18 an18 od19 an19 : Option Addr} {sl0 sl1 sl2 sl3 sl4 sl5 sl6 sl7 sl8 sl9 sl10 sl11 sl12 sl13 sl14 sl15 sl16 sl17 sl18 sl19 : Array (Option Value)} {oc0 kV0 dc0 pm0 cd0 ct0 oc1 kV1 dc1 pm1 cd1 ct1 oc2 kV2 dc2 pm2 cd2 ct2 oc3 kV3 dc3 pm3 cd3 ct3 oc4 kV4 dc4 pm4 cd4 ct4 oc5 kV5 dc5 pm5 cd5 ct5 oc6 kV6 dc6 pm6 cd6 ct6 oc7 kV7 dc7 pm7 cd7 ct7 oc8 kV8 dc8 pm8 cd8 ct8 oc9 kV9 dc9 pm9 cd9 ct9 oc10 kV10 dc10 pm10 cd10 ct10 oc11 kV11 dc11 pm11 cd11 ct11 oc12 kV12 dc12 pm12 cd12 ct12 oc13 kV13 dc13 pm13 cd13 ct13 oc14 kV14 dc14 pm14 cd14 ct14 oc15 kV15 dc15 pm15 cd15 ct15 oc16 kV16 dc16 pm16 cd16 ct16 oc17 kV17 dc17 pm17 cd17 ct17 oc18 kV18 dc18 pm18 cd18 ct18 oc19 kV19 dc19 pm19 cd19 ct19 : Value} {t0 t1 : Tok}
    (a0 : PySem.W.nsIn K mainGlobals "_wall" = some (some (.ref f0))) (l0 : K.lookup f0 = some ⟨oc0, od0, .func (PySem.W.fnOf "_wall" "_wall" (defArgs s_wall) (defBody s_wall) (defScope s_wall) .none kV0 dc0 pm0 an0 cd0 ct0), sl0⟩) (c0 : PySem.W.codeIn K cd0 "_wall" = true) (k0 : PySem.W.keepIn K (.ref f0) = true)
    (a1 : PySem.W.nsIn K mainGlobals "_parts_of" = some (some (.ref f1))) (l1 : K.lookup f1 = some ⟨oc1, od1, .func (PySem.W.fnOf "_parts_of" "_parts_of" (defArgs s_parts_of) (defBody s_parts_of) (defScope s_parts_of) .none kV1 dc1 pm1 an1 cd1 ct1), sl1⟩) (c1 : PySem.W.codeIn K cd1 "_parts_of" = true) (k1 : PySem.W.keepIn K (.ref f1) = true)
    (a2 : PySem.W.nsIn K mainGlobals "check_machine" = some (some (.ref f2))) (l2 : K.lookup f2 = some ⟨oc2, od2, .func (PySem.W.fnOf "check_machine" "check_machine" (defArgs s_check_machine) (defBody s_check_machine) (defScope s_check_machine) .none kV2 dc2 pm2 an2 cd2 ct2), sl2⟩) (c2 : PySem.W.codeIn K cd2 "check_machine" = true) (k2 : PySem.W.keepIn K (.ref f2) = true)
    (a3 : PySem.W.nsIn K mainGlobals "_is_right_instruction" = some (some (.ref f3))) (l3 : K.lookup f3 = some ⟨oc3, od3, .func (PySem.W.fnOf "_is_right_instruction" "_is_right_instruction" (defArgs s_is_right_instruction) (defBody s_is_right_instruction) (defScope s_is_right_instruction) .none kV3 dc3 pm3 an3 cd3 ct3), sl3⟩) (c3 : PySem.W.codeIn K cd3 "_is_right_instruction" = true) (k3 : PySem.W.keepIn K (.ref f3) = true)
    (a4 : PySem.W.nsIn K mainGlobals "_law_draws" = some (some (.ref f4))) (l4 : K.lookup f4 = some ⟨oc4, od4, .func (PySem.W.fnOf "_law_draws" "_law_draws" (defArgs s_law_draws) (defBody s_law_draws) (defScope s_law_draws) .none kV4 dc4 pm4 an4 cd4 ct4), sl4⟩) (c4 : PySem.W.codeIn K cd4 "_law_draws" = true) (k4 : PySem.W.keepIn K (.ref f4) = true)
    (a5 : PySem.W.nsIn K mainGlobals "_law_take" = some (some (.ref f5))) (l5 : K.lookup f5 = some ⟨oc5, od5, .func (PySem.W.fnOf "_law_take" "_law_take" (defArgs s_law_take) (defBody s_law_take) (defScope s_law_take) .none kV5 dc5 pm5 an5 cd5 ct5), sl5⟩) (c5 : PySem.W.codeIn K cd5 "_law_take" = true) (k5 : PySem.W.keepIn K (.ref f5) = true)
    (a6 : PySem.W.nsIn K mainGlobals "_law_value" = some (some (.ref f6))) (l6 : K.lookup f6 = some ⟨oc6, od6, .func (PySem.W.fnOf "_law_value" "_law_value" (defArgs s_law_value) (defBody s_law_value) (defScope s_law_value) .none kV6 dc6 pm6 an6 cd6 ct6), sl6⟩) (c6 : PySem.W.codeIn K cd6 "_law_value" = true) (k6 : PySem.W.keepIn K (.ref f6) = true)
    (a7 : PySem.W.nsIn K mainGlobals "_law_names_of" = some (some (.ref f7))) (l7 : K.lookup f7 = some ⟨oc7, od7, .func (PySem.W.fnOf "_law_names_of" "_law_names_of" (defArgs s_law_names_of) (defBody s_law_names_of) (defScope s_law_names_of) .none kV7 dc7 pm7 an7 cd7 ct7), sl7⟩) (c7 : PySem.W.codeIn K cd7 "_law_names_of" = true) (k7 : PySem.W.keepIn K (.ref f7) = true)
    (a8 : PySem.W.nsIn K mainGlobals "_law_list" = some (some (.ref f8))) (l8 : K.lookup f8 = some ⟨oc8, od8, .func (PySem.W.fnOf "_law_list" "_law_list" (defArgs s_law_list) (defBody s_law_list) (defScope s_law_list) .none kV8 dc8 pm8 an8 cd8 ct8), sl8⟩) (c8 : PySem.W.codeIn K cd8 "_law_list" = true) (k8 : PySem.W.keepIn K (.ref f8) = true)
    (a9 : PySem.W.nsIn K mainGlobals "_law_instruction" = some (some (.ref f9))) (l9 : K.lookup f9 = some ⟨oc9, od9, .func (PySem.W.fnOf "_law_instruction" "_law_instruction" (defArgs s_law_instruction) (defBody s_law_instruction) (defScope s_law_instruction) .none kV9 dc9 pm9 an9 cd9 ct9), sl9⟩) (c9 : PySem.W.codeIn K cd9 "_law_instruction" = true) (k9 : PySem.W.keepIn K (.ref f9) = true)
    (a10 : PySem.W.nsIn K mainGlobals "_law_machine" = some (some (.ref f10))) (l10 : K.lookup f10 = some ⟨oc10, od10, .func (PySem.W.fnOf "_law_machine" "_law_machine" (defArgs s_law_machine) (defBody s_law_machine) (defScope s_law_machine) .none kV10 dc10 pm10 an10 cd10 ct10), sl10⟩) (c10 : PySem.W.codeIn K cd10 "_law_machine" = true) (k10 : PySem.W.keepIn K (.ref f10) = true)
    (a11 : PySem.W.nsIn K mainGlobals "_law_names_in" = some (some (.ref f11))) (l11 : K.lookup f11 = some ⟨oc11, od11, .func (PySem.W.fnOf "_law_names_in" "_law_names_in" (defArgs s_law_names_in) (defBody s_law_names_in) (defScope s_law_names_in) .none kV11 dc11 pm11 an11 cd11 ct11), sl11⟩) (c11 : PySem.W.codeIn K cd11 "_law_names_in" = true) (k11 : PySem.W.keepIn K (.ref f11) = true)
    (a12 : PySem.W.nsIn K mainGlobals "_law_instruction_good" = some (some (.ref f12))) (l12 : K.lookup f12 = some ⟨oc12, od12, .func (PySem.W.fnOf "_law_instruction_good" "_law_instruction_good" (defArgs s_law_instruction_good) (defBody s_law_instruction_good) (defScope s_law_instruction_good) .none kV12 dc12 pm12 an12 cd12 ct12), sl12⟩) (c12 : PySem.W.codeIn K cd12 "_law_instruction_good" = true) (k12 : PySem.W.keepIn K (.ref f12) = true)
    (a13 : PySem.W.nsIn K mainGlobals "_law_routine_good" = some (some (.ref f13))) (l13 : K.lookup f13 = some ⟨oc13, od13, .func (PySem.W.fnOf "_law_routine_good" "_law_routine_good" (defArgs s_law_routine_good) (defBody s_law_routine_good) (defScope s_law_routine_good) .none kV13 dc13 pm13 an13 cd13 ct13), sl13⟩) (c13 : PySem.W.codeIn K cd13 "_law_routine_good" = true) (k13 : PySem.W.keepIn K (.ref f13) = true)
    (a14 : PySem.W.nsIn K mainGlobals "_law_bad_routine" = some (some (.ref f14))) (l14 : K.lookup f14 = some ⟨oc14, od14, .func (PySem.W.fnOf "_law_bad_routine" "_law_bad_routine" (defArgs s_law_bad_routine) (defBody s_law_bad_routine) (defScope s_law_bad_routine) .none kV14 dc14 pm14 an14 cd14 ct14), sl14⟩) (c14 : PySem.W.codeIn K cd14 "_law_bad_routine" = true) (k14 : PySem.W.keepIn K (.ref f14) = true)
    (a15 : PySem.W.nsIn K mainGlobals "_law_is_right" = some (some (.ref f15))) (l15 : K.lookup f15 = some ⟨oc15, od15, .func (PySem.W.fnOf "_law_is_right" "_law_is_right" (defArgs s_law_is_right) (defBody s_law_is_right) (defScope s_law_is_right) .none kV15 dc15 pm15 an15 cd15 ct15), sl15⟩) (c15 : PySem.W.codeIn K cd15 "_law_is_right" = true) (k15 : PySem.W.keepIn K (.ref f15) = true)
    (a16 : PySem.W.nsIn K mainGlobals "_law_odd" = some (some (.ref f16))) (l16 : K.lookup f16 = some ⟨oc16, od16, .func (PySem.W.fnOf "_law_odd" "_law_odd" (defArgs s_law_odd) (defBody s_law_odd) (defScope s_law_odd) .none kV16 dc16 pm16 an16 cd16 ct16), sl16⟩) (c16 : PySem.W.codeIn K cd16 "_law_odd" = true) (k16 : PySem.W.keepIn K (.ref f16) = true)
    (a17 : PySem.W.nsIn K mainGlobals "_law_bent" = some (some (.ref f17))) (l17 : K.lookup f17 = some ⟨oc17, od17, .func (PySem.W.fnOf "_law_bent" "_law_bent" (defArgs s_law_bent) (defBody s_law_bent) (defScope s_law_bent) .none kV17 dc17 pm17 an17 cd17 ct17), sl17⟩) (c17 : PySem.W.codeIn K cd17 "_law_bent" = true) (k17 : PySem.W.keepIn K (.ref f17) = true)
    (a18 : PySem.W.nsIn K mainGlobals "_law_chain" = some (some (.ref f18))) (l18 : K.lookup f18 = some ⟨oc18, od18, .func (PySem.W.fnOf "_law_chain" "_law_chain" (defArgs s_law_chain) (defBody s_law_chain) (defScope s_law_chain) .none kV18 dc18 pm18 an18 cd18 ct18), sl18⟩) (c18 : PySem.W.codeIn K cd18 "_law_chain" = true) (k18 : PySem.W.keepIn K (.ref f18) = true)
    (a19 : PySem.W.nsIn K mainGlobals "law" = some (some (.ref f19))) (l19 : K.lookup f19 = some ⟨oc19, od19, .func (PySem.W.fnOf "law" "law" (defArgs s_law) (defBody s_law) (defScope s_law) .none kV19 dc19 pm19 an19 cd19 ct19), sl19⟩) (c19 : PySem.W.codeIn K cd19 "law" = true) (k19 : PySem.W.keepIn K (.ref f19) = true)
    (zlen : PySem.W.nsIn K mainGlobals "len" = some none)
    (zrange : PySem.W.nsIn K mainGlobals "range" = some none)
    (zint : PySem.W.nsIn K mainGlobals "int" = some none)
    (zabs : PySem.W.nsIn K mainGlobals "abs" = some none)
    (zstr : PySem.W.nsIn K mainGlobals "str" = some none)
    (ztuple : PySem.W.nsIn K mainGlobals "tuple" = some none)
    (zlist : PySem.W.nsIn K mainGlobals "list" = some none)
    (zbool : PySem.W.nsIn K mainGlobals "bool" = some none)
    (zisinstance : PySem.W.nsIn K mainGlobals "isinstance" = some none)
    (zValueError : PySem.W.nsIn K mainGlobals "ValueError" = some none)
    (zenumerate : PySem.W.nsIn K mainGlobals "enumerate" = some none)
    (zset : PySem.W.nsIn K mainGlobals "set" = some none)
    (zreversed : PySem.W.nsIn K mainGlobals "reversed" = some none)
    (zall : PySem.W.nsIn K mainGlobals "all" = some none)
    (eG : PySem.W.nsIn K mainGlobals "GlassError" = some (some (.ref CG))) (eRd : PySem.W.readsIn K CG (.type "type") = true) (eSg : PySem.W.specialIn K (.ref CG) "__getattribute__" = some (some (.builtin "type.__getattribute__"))) (eVv : PySem.W.findCls K (.ref CG) (.type "type") "__init__" = some (.val (.builtin "ValueError.__init__"))) (eGt : PySem.W.specialIn K (.builtin "object.__class__") "__get__" = some (some (.builtin "getset_descriptor.__get__"))) (eTk : PySem.W.takesIn K (.builtin "object.__class__") = some true)
    (eC0 : PySem.W.nsIn K mainGlobals "BadText" = some (some (.ref C0))) (eL0 : K.lookup C0 = some (excClassObj nm0 q0 C0 N0 bs0 bm0 true sn0 sub0 ab0 col0 dd0 u0 v0 w0 x0 y0 "ValueError.__new__")) (eR0 : PySem.HandSPX.refsVE bm0 = true)
    (eS0 : PySem.W.findIn K (.ref C0) "__setattr__" = some (some (.builtin "object.__setattr__"))) (eX0 : PySem.W.subIn K (.ref C0) (.type "BaseException") = some true) (eT0 : PySem.W.typeIn K (.ref C0) = some (.type "type")) (eK0 : PySem.W.keepIn K (.ref C0) = true)
    (eI0 : PySem.W.findIn K (.ref C0) "__init__" = some (some (.ref I0))) (eY0 : PySem.W.typeIn K (.ref I0) = some (.type "function")) (eN0 : PySem.W.findIn K (.ref C0) "place" = some none)
    (eF0 : K.lookup I0 = some ⟨eoc0, eod0, .func (PySem.W.fnOf "__init__" "BadText.__init__" (defArgs s_BadText_init) (defBody s_BadText_init) (defScope s_BadText_init) .none ekV0 edc0 epm0 ean0 ecd0 ect0), esl0⟩) (eD0 : PySem.W.codeIn K ecd0 "BadText.__init__" = true) (eP0 : PySem.W.keepIn K (.ref I0) = true)
    (eA0 : PySem.W.findIn K (.ref C0) "__getattribute__" = some (some (.builtin "BaseException.__getattribute__"))) (eB0 : PySem.W.findIn K (.ref C0) "__getattr__" = some none) (eH0 : PySem.W.hasDictIn K C0 = true) (eQ0 : PySem.W.isClsIn K C0 = true) (eZ0 : PySem.W.subIn K (.ref C0) (.ref C0) = some true)
    (eE0 : PySem.W.findIn K (.ref C0) "__class__" = some (some (.builtin "object.__class__"))) (eU0 : PySem.W.kitOne K (.ref C0) (.ref CG) = some true) (eV0 : PySem.W.kitOne K (.ref C0) (.type "ValueError") = some true) (eM0 : PySem.W.mroIn K C0 (.type "object") = some true)
    (eC1 : PySem.W.nsIn K mainGlobals "BadProgram" = some (some (.ref C1))) (eL1 : K.lookup C1 = some (excClassObj nm1 q1 C1 N1 bs1 bm1 true sn1 sub1 ab1 col1 dd1 u1 v1 w1 x1 y1 "ValueError.__new__")) (eR1 : PySem.HandSPX.refsVE bm1 = true)
    (eS1 : PySem.W.findIn K (.ref C1) "__setattr__" = some (some (.builtin "object.__setattr__"))) (eX1 : PySem.W.subIn K (.ref C1) (.type "BaseException") = some true) (eT1 : PySem.W.typeIn K (.ref C1) = some (.type "type")) (eK1 : PySem.W.keepIn K (.ref C1) = true)
    (eI1 : PySem.W.findIn K (.ref C1) "__init__" = some (some (.ref I1))) (eY1 : PySem.W.typeIn K (.ref I1) = some (.type "function")) (eN1 : PySem.W.findIn K (.ref C1) "function" = some none)
    (eF1 : K.lookup I1 = some ⟨eoc1, eod1, .func (PySem.W.fnOf "__init__" "BadProgram.__init__" (defArgs s_BadProgram_init) (defBody s_BadProgram_init) (defScope s_BadProgram_init) .none ekV1 edc1 epm1 ean1 ecd1 ect1), esl1⟩) (eD1 : PySem.W.codeIn K ecd1 "BadProgram.__init__" = true) (eP1 : PySem.W.keepIn K (.ref I1) = true)
    (eA1 : PySem.W.findIn K (.ref C1) "__getattribute__" = some (some (.builtin "BaseException.__getattribute__"))) (eB1 : PySem.W.findIn K (.ref C1) "__getattr__" = some none) (eH1 : PySem.W.hasDictIn K C1 = true) (eQ1 : PySem.W.isClsIn K C1 = true) (eZ1 : PySem.W.subIn K (.ref C1) (.ref C1) = some true)
    (eE1 : PySem.W.findIn K (.ref C1) "__class__" = some (some (.builtin "object.__class__"))) (eU1 : PySem.W.kitOne K (.ref C1) (.ref CG) = some true) (eV1 : PySem.W.kitOne K (.ref C1) (.type "ValueError") = some true) (eM1 : PySem.W.mroIn K C1 (.type "object") = some true)
    (eW0x1 : PySem.W.kitOne K (.ref C0) (.ref C1) = some false)
    (eW1x0 : PySem.W.kitOne K (.ref C1) (.ref C0) = some false)
    (xG0 : PySem.W.nsIn K mainGlobals "BadInputs" = some (some (.ref PC0)))
    (xK0p0 : PySem.W.kitOne K (.ref C0) (.ref PC0) = some false)
    (xK1p0 : PySem.W.kitOne K (.ref C1) (.ref PC0) = some false)
    (yg0 : PySem.W.nsIn K mainGlobals "INSTRUCTIONS" = some (some (.ref Dd0))) (yl0 : K.lookup Dd0 = some ⟨.type "dict", none, .dict Des0 Dn0, #[]⟩) (yk0 : PySem.W.KeysLit w.params Des0.toList) (yw0 : (Dd0 == sysModules) = false) (yc0 : Ents Des0.toList [([112, 117, 115, 104], 2), ([99, 111, 112, 121], 2), ([115, 108, 105, 100, 101], 2), ([115, 97, 109, 101], 1), ([119, 111, 114, 100], 1), ([104, 101, 97, 100], 1), ([116, 97, 105, 108], 1), ([106, 111, 105, 110], 1), ([99, 97, 108, 108], 2), ([105, 102], 3)])
    (gc0 : PySem.W.nsIn K mainGlobals "EMPTY" = some (some (.int 0 t0)))
    (gc1 : PySem.W.nsIn K mainGlobals "YES" = some (some (.int 1 t1)))
    (oG0 : PySem.W.nsIn K mainGlobals "Nodes" = some (some (.ref oC0))) (oP0 : PySem.W.plainGet K oC0 Str.empty = true) (oH0 : PySem.W.hasDictIn K oC0 = true) (oO0 : PySem.W.plainOver K oC0 = true) (oS0 : PySem.W.findIn K (.ref oC0) "__setattr__" = some (some (.builtin "object.__setattr__"))) (oM0 : PySem.W.makesIn K oC0 = true) (oK0 : PySem.W.keepIn K (.ref oC0) = true)
    (oN0x0 : PySem.W.findIn K (.ref oC0) "heads" = some none)
    (oN0x1 : PySem.W.findIn K (.ref oC0) "tails" = some none)
    (oN0x2 : PySem.W.findIn K (.ref oC0) "wordness" = some none)
    (oN0x3 : PySem.W.findIn K (.ref oC0) "spellings" = some none)
    (oN0x4 : PySem.W.findIn K (.ref oC0) "numbers_of_words" = some none)
    (oN0x5 : PySem.W.findIn K (.ref oC0) "numbers_of_lists" = some none)
    (tA0x0 : PySem.W.findIn K (.ref oC0) "__init__" = some (some (.ref tF0x0))) (tI0x0 : PySem.W.isFn K (.ref tF0x0) = true) (tL0x0 : K.lookup tF0x0 = some ⟨toc0x0, tod0x0, .func (PySem.W.fnOf "__init__" "Nodes.__init__" (defArgs s_Nodes_init) (defBody s_Nodes_init) (defScope s_Nodes_init) .none tkV0x0 tdc0x0 tpm0x0 tan0x0 tcd0x0 tct0x0), tsl0x0⟩) (tC0x0 : PySem.W.codeIn K tcd0x0 "Nodes.__init__" = true) (tK0x0 : PySem.W.keepIn K (.ref tF0x0) = true)
    (tA0x1 : PySem.W.findIn K (.ref oC0) "joined" = some (some (.ref tF0x1))) (tI0x1 : PySem.W.isFn K (.ref tF0x1) = true) (tL0x1 : K.lookup tF0x1 = some ⟨toc0x1, tod0x1, .func (PySem.W.fnOf "joined" "Nodes.joined" (defArgs s_Nodes_joined) (defBody s_Nodes_joined) (defScope s_Nodes_joined) .none tkV0x1 tdc0x1 tpm0x1 tan0x1 tcd0x1 tct0x1), tsl0x1⟩) (tC0x1 : PySem.W.codeIn K tcd0x1 "Nodes.joined" = true) (tK0x1 : PySem.W.keepIn K (.ref tF0x1) = true)
    (tA0x2 : PySem.W.findIn K (.ref oC0) "number_of" = some (some (.ref tF0x2))) (tI0x2 : PySem.W.isFn K (.ref tF0x2) = true) (tL0x2 : K.lookup tF0x2 = some ⟨toc0x2, tod0x2, .func (PySem.W.fnOf "number_of" "Nodes.number_of" (defArgs s_Nodes_number_of) (defBody s_Nodes_number_of) (defScope s_Nodes_number_of) .none tkV0x2 tdc0x2 tpm0x2 tan0x2 tcd0x2 tct0x2), tsl0x2⟩) (tC0x2 : PySem.W.codeIn K tcd0x2 "Nodes.number_of" = true) (tK0x2 : PySem.W.keepIn K (.ref tF0x2) = true)
    (tA0x3 : PySem.W.findIn K (.ref oC0) "_number_of_word" = some (some (.ref tF0x3))) (tI0x3 : PySem.W.isFn K (.ref tF0x3) = true) (tL0x3 : K.lookup tF0x3 = some ⟨toc0x3, tod0x3, .func (PySem.W.fnOf "_number_of_word" "Nodes._number_of_word" (defArgs s_Nodes_number_of_word) (defBody s_Nodes_number_of_word) (defScope s_Nodes_number_of_word) .none tkV0x3 tdc0x3 tpm0x3 tan0x3 tcd0x3 tct0x3), tsl0x3⟩) (tC0x3 : PySem.W.codeIn K tcd0x3 "Nodes._number_of_word" = true) (tK0x3 : PySem.W.keepIn K (.ref tF0x3) = true)
    (tA0x4 : PySem.W.findIn K (.ref oC0) "value_of" = some (some (.ref tF0x4))) (tI0x4 : PySem.W.isFn K (.ref tF0x4) = true) (tL0x4 : K.lookup tF0x4 = some ⟨toc0x4, tod0x4, .func (PySem.W.fnOf "value_of" "Nodes.value_of" (defArgs s_Nodes_value_of) (defBody s_Nodes_value_of) (defScope s_Nodes_value_of) .none tkV0x4 tdc0x4 tpm0x4 tan0x4 tcd0x4 tct0x4), tsl0x4⟩) (tC0x4 : PySem.W.codeIn K tcd0x4 "Nodes.value_of" = true) (tK0x4 : PySem.W.keepIn K (.ref tF0x4) = true)
    (tA0x5 : PySem.W.findIn K (.ref oC0) "_numbers_within" = some (some (.ref tF0x5))) (tI0x5 : PySem.W.isFn K (.ref tF0x5) = true) (tL0x5 : K.lookup tF0x5 = some ⟨toc0x5, tod0x5, .func (PySem.W.fnOf "_numbers_within" "Nodes._numbers_within" (defArgs s_Nodes_numbers_within) (defBody s_Nodes_numbers_within) (defScope s_Nodes_numbers_within) .none tkV0x5 tdc0x5 tpm0x5 tan0x5 tcd0x5 tct0x5), tsl0x5⟩) (tC0x5 : PySem.W.codeIn K tcd0x5 "Nodes._numbers_within" = true) (tK0x5 : PySem.W.keepIn K (.ref tF0x5) = true)
    (tA0x6 : PySem.W.findIn K (.ref oC0) "_items_of" = some (some (.ref tF0x6))) (tI0x6 : PySem.W.isFn K (.ref tF0x6) = true) (tL0x6 : K.lookup tF0x6 = some ⟨toc0x6, tod0x6, .func (PySem.W.fnOf "_items_of" "Nodes._items_of" (defArgs s_Nodes_items_of) (defBody s_Nodes_items_of) (defScope s_Nodes_items_of) .none tkV0x6 tdc0x6 tpm0x6 tan0x6 tcd0x6 tct0x6), tsl0x6⟩) (tC0x6 : PySem.W.codeIn K tcd0x6 "Nodes._items_of" = true) (tK0x6 : PySem.W.keepIn K (.ref tF0x6) = true)
    (tA0x7 : PySem.W.findIn K (.ref oC0) "is_great" = some (some (.ref tF0x7))) (tI0x7 : PySem.W.isFn K (.ref tF0x7) = true) (tL0x7 : K.lookup tF0x7 = some ⟨toc0x7, tod0x7, .func (PySem.W.fnOf "is_great" "Nodes.is_great" (defArgs s_Nodes_is_great) (defBody s_Nodes_is_great) (defScope s_Nodes_is_great) .none tkV0x7 tdc0x7 tpm0x7 tan0x7 tcd0x7 tct0x7), tsl0x7⟩) (tC0x7 : PySem.W.codeIn K tcd0x7 "Nodes.is_great" = true) (tK0x7 : PySem.W.keepIn K (.ref tF0x7) = true)
    : ∃ fd : FuncData, (∀ (s : Shared) (v : Value), BindsTo s fd ⟨[v], []⟩ [("script", v)]) ∧ ∀ base : Heap, K.In base → base.Ns mainGlobals mg → FnOk l.prog w K mg base CX0 30 fa fd ["script"] (spLaw K) := by
  have e := hfa.symm.trans (PySem.W.mg_of X G a19)
  cases e
  have B : Bn mg := ⟨PySem.W.mg_none_of X G zlen, PySem.W.mg_none_of X G zrange, PySem.W.mg_none_of X G zint, PySem.W.mg_none_of X G zabs, PySem.W.mg_none_of X G zstr, PySem.W.mg_none_of X G ztuple, PySem.W.mg_none_of X G zlist, PySem.W.mg_none_of X G zbool, PySem.W.mg_none_of X G zisinstance, PySem.W.mg_none_of X G zValueError, PySem.W.mg_none_of X G zenumerate, PySem.W.mg_none_of X G zset, PySem.W.mg_none_of X G zreversed, PySem.W.mg_none_of X G zall⟩
  have M : Mc mg := ⟨⟨_, PySem.W.mg_of X G gc0⟩, ⟨_, PySem.W.mg_of X G gc1⟩⟩
  have S_INSTRUCTIONS : DictC K w mg "INSTRUCTIONS" [([112, 117, 115, 104], 2), ([99, 111, 112, 121], 2), ([115, 108, 105, 100, 101], 2), ([115, 97, 109, 101], 1), ([119, 111, 114, 100], 1), ([104, 101, 97, 100], 1), ([116, 97, 105, 108], 1), ([106, 111, 105, 110], 1), ([99, 97, 108, 108], 2), ([105, 102], 3)] := ⟨⟨Dd0, Des0, Dn0, PySem.W.mg_of X G yg0, ⟨yl0, yk0, yw0⟩, yc0⟩⟩
  have EF0 := fun_mk (st := s_BadText_init) eF0 eD0 eP0
  have Eb0 := EF0.binds (ps := ["self", "place"]) fun _ _ _ _ _ _ us hl => match us, hl with | [_, _], _ => rfl
  have E_BadText : ErrAll K mg "BadText" "BadText.__init__" "place" s_BadText_init := ⟨⟨C0, CG, I0, _, ⟨PySem.W.mg_of X G eC0, PySem.W.mg_of X G eG, ⟨⟨nm0, q0, N0, bs0, bm0, sn0, sub0, ab0, col0, dd0, u0, v0, w0, x0, y0, eL0, eR0⟩, eS0, eX0, eT0, eK0⟩, eI0, eY0, eN0, eRd, eSg, eVv, EF0, Eb0⟩, ⟨eA0, eB0, eH0, eQ0, eZ0, eE0, eU0, eV0, eGt, eTk, eM0⟩⟩⟩
  have EF1 := fun_mk (st := s_BadProgram_init) eF1 eD1 eP1
  have Eb1 := EF1.binds (ps := ["self", "function"]) fun _ _ _ _ _ _ us hl => match us, hl with | [_, _], _ => rfl
  have E_BadProgram : ErrAll K mg "BadProgram" "BadProgram.__init__" "function" s_BadProgram_init := ⟨⟨C1, CG, I1, _, ⟨PySem.W.mg_of X G eC1, PySem.W.mg_of X G eG, ⟨⟨nm1, q1, N1, bs1, bm1, sn1, sub1, ab1, col1, dd1, u1, v1, w1, x1, y1, eL1, eR1⟩, eS1, eX1, eT1, eK1⟩, eI1, eY1, eN1, eRd, eSg, eVv, EF1, Eb1⟩, ⟨eA1, eB1, eH1, eQ1, eZ1, eE1, eU1, eV1, eGt, eTk, eM1⟩⟩⟩
  have W_BadText_BadProgram : ErrNot K mg "BadText" "BadProgram" := ⟨fun a b ha hb => by rw [PySem.W.mg_of X G eC0] at ha; rw [PySem.W.mg_of X G eC1] at hb; cases ha; cases hb; exact eW0x1⟩
  have W_BadProgram_BadText : ErrNot K mg "BadProgram" "BadText" := ⟨fun a b ha hb => by rw [PySem.W.mg_of X G eC1] at ha; rw [PySem.W.mg_of X G eC0] at hb; cases ha; cases hb; exact eW1x0⟩
  have C_BadInputs : ∃ a : Addr, mg "BadInputs" = some (.ref a) := ⟨PC0, PySem.W.mg_of X G xG0⟩
  have W_BadText_BadInputs : ErrNot K mg "BadText" "BadInputs" := ⟨fun a b ha hb => by rw [PySem.W.mg_of X G eC0] at ha; rw [PySem.W.mg_of X G xG0] at hb; cases ha; cases hb; exact xK0p0⟩
  have W_BadProgram_BadInputs : ErrNot K mg "BadProgram" "BadInputs" := ⟨fun a b ha hb => by rw [PySem.W.mg_of X G eC1] at ha; rw [PySem.W.mg_of X G xG0] at hb; cases ha; cases hb; exact xK1p0⟩
  have F0 := fun_mk (st := s_wall) l0 c0 k0
  have b0 := F0.binds (ps := p_wall) fun _ _ _ _ _ _ us hl => match us, hl with | [_], _ => rfl
  have D_wall : DefAt K mg "_wall" s_wall p_wall := ⟨⟨f0, _, F0, PySem.W.mg_of X G a0, b0⟩⟩
  have F1 := fun_mk (st := s_parts_of) l1 c1 k1
  have b1 := F1.binds (ps := p_parts_of) fun _ _ _ _ _ _ us hl => match us, hl with | [_], _ => rfl
  have D_parts_of : DefAt K mg "_parts_of" s_parts_of p_parts_of := ⟨⟨f1, _, F1, PySem.W.mg_of X G a1, b1⟩⟩
  have F2 := fun_mk (st := s_check_machine) l2 c2 k2
  have b2 := F2.binds (ps := p_check_machine) fun _ _ _ _ _ _ us hl => match us, hl with | [_], _ => rfl
  have D_check_machine : DefAt K mg "check_machine" s_check_machine p_check_machine := ⟨⟨f2, _, F2, PySem.W.mg_of X G a2, b2⟩⟩
  have F3 := fun_mk (st := s_is_right_instruction) l3 c3 k3
  have b3 := F3.binds (ps := p_is_right_instruction) fun _ _ _ _ _ _ us hl => match us, hl with | [_, _, _], _ => rfl
  have D_is_right_instruction : DefAt K mg "_is_right_instruction" s_is_right_instruction p_is_right_instruction := ⟨⟨f3, _, F3, PySem.W.mg_of X G a3, b3⟩⟩
  have F4 := fun_mk (st := s_law_draws) l4 c4 k4
  have b4 := F4.binds (ps := p_law_draws) fun _ _ _ _ _ _ us hl => match us, hl with | [_, _], _ => rfl
  have D_law_draws : DefAt K mg "_law_draws" s_law_draws p_law_draws := ⟨⟨f4, _, F4, PySem.W.mg_of X G a4, b4⟩⟩
  have F5 := fun_mk (st := s_law_take) l5 c5 k5
  have b5 := F5.binds (ps := p_law_take) fun _ _ _ _ _ _ us hl => match us, hl with | [_, _], _ => rfl
  have D_law_take : DefAt K mg "_law_take" s_law_take p_law_take := ⟨⟨f5, _, F5, PySem.W.mg_of X G a5, b5⟩⟩
  have F6 := fun_mk (st := s_law_value) l6 c6 k6
  have b6 := F6.binds (ps := p_law_value) fun _ _ _ _ _ _ us hl => match us, hl with | [_, _], _ => rfl
  have D_law_value : DefAt K mg "_law_value" s_law_value p_law_value := ⟨⟨f6, _, F6, PySem.W.mg_of X G a6, b6⟩⟩
  have F7 := fun_mk (st := s_law_names_of) l7 c7 k7
  have b7 := F7.binds (ps := p_law_names_of) fun _ _ _ _ _ _ us hl => match us, hl with | [_], _ => rfl
  have D_law_names_of : DefAt K mg "_law_names_of" s_law_names_of p_law_names_of := ⟨⟨f7, _, F7, PySem.W.mg_of X G a7, b7⟩⟩
  have F8 := fun_mk (st := s_law_list) l8 c8 k8
  have b8 := F8.binds (ps := p_law_list) fun _ _ _ _ _ _ us hl => match us, hl with | [_, _], _ => rfl
  have D_law_list : DefAt K mg "_law_list" s_law_list p_law_list := ⟨⟨f8, _, F8, PySem.W.mg_of X G a8, b8⟩⟩
  have F9 := fun_mk (st := s_law_instruction) l9 c9 k9
  have b9 := F9.binds (ps := p_law_instruction) fun _ _ _ _ _ _ us hl => match us, hl with | [_, _], _ => rfl
  have D_law_instruction : DefAt K mg "_law_instruction" s_law_instruction p_law_instruction := ⟨⟨f9, _, F9, PySem.W.mg_of X G a9, b9⟩⟩
  have F10 := fun_mk (st := s_law_machine) l10 c10 k10
  have b10 := F10.binds (ps := p_law_machine) fun _ _ _ _ _ _ us hl => match us, hl with | [_], _ => rfl
  have D_law_machine : DefAt K mg "_law_machine" s_law_machine p_law_machine := ⟨⟨f10, _, F10, PySem.W.mg_of X G a10, b10⟩⟩
  have F11 := fun_mk (st := s_law_names_in) l11 c11 k11
  have b11 := F11.binds (ps := p_law_names_in) fun _ _ _ _ _ _ us hl => match us, hl with | [_], _ => rfl
  have D_law_names_in : DefAt K mg "_law_names_in" s_law_names_in p_law_names_in := ⟨⟨f11, _, F11, PySem.W.mg_of X G a11, b11⟩⟩
  have F12 := fun_mk (st := s_law_instruction_good) l12 c12 k12
  have b12 := F12.binds (ps := p_law_instruction_good) fun _ _ _ _ _ _ us hl => match us, hl with | [_, _], _ => rfl
  have D_law_instruction_good : DefAt K mg "_law_instruction_good" s_law_instruction_good p_law_instruction_good := ⟨⟨f12, _, F12, PySem.W.mg_of X G a12, b12⟩⟩
  have F13 := fun_mk (st := s_law_routine_good) l13 c13 k13
  have b13 := F13.binds (ps := p_law_routine_good) fun _ _ _ _ _ _ us hl => match us, hl with | [_, _, _], _ => rfl
  have D_law_routine_good : DefAt K mg "_law_routine_good" s_law_routine_good p_law_routine_good := ⟨⟨f13, _, F13, PySem.W.mg_of X G a13, b13⟩⟩
  have F14 := fun_mk (st := s_law_bad_routine) l14 c14 k14
  have b14 := F14.binds (ps := p_law_bad_routine) fun _ _ _ _ _ _ us hl => match us, hl with | [_], _ => rfl
  have D_law_bad_routine : DefAt K mg "_law_bad_routine" s_law_bad_routine p_law_bad_routine := ⟨⟨f14, _, F14, PySem.W.mg_of X G a14, b14⟩⟩
  have F15 := fun_mk (st := s_law_is_right) l15 c15 k15
  have b15 := F15.binds (ps := p_law_is_right) fun _ _ _ _ _ _ us hl => match us, hl with | [_], _ => rfl
  have D_law_is_right : DefAt K mg "_law_is_right" s_law_is_right p_law_is_right := ⟨⟨f15, _, F15, PySem.W.mg_of X G a15, b15⟩⟩
  have F16 := fun_mk (st := s_law_odd) l16 c16 k16
  have b16 := F16.binds (ps := p_law_odd) fun _ _ _ _ _ _ us hl => match us, hl with | [_, _], _ => rfl
  have D_law_odd : DefAt K mg "_law_odd" s_law_odd p_law_odd := ⟨⟨f16, _, F16, PySem.W.mg_of X G a16, b16⟩⟩
  have F17 := fun_mk (st := s_law_bent) l17 c17 k17
  have b17 := F17.binds (ps := p_law_bent) fun _ _ _ _ _ _ us hl => match us, hl with | [_, _, _, _], _ => rfl
  have D_law_bent : DefAt K mg "_law_bent" s_law_bent p_law_bent := ⟨⟨f17, _, F17, PySem.W.mg_of X G a17, b17⟩⟩
  have F18 := fun_mk (st := s_law_chain) l18 c18 k18
  have b18 := F18.binds (ps := p_law_chain) fun _ _ _ _ _ _ us hl => match us, hl with | [_], _ => rfl
  have D_law_chain : DefAt K mg "_law_chain" s_law_chain p_law_chain := ⟨⟨f18, _, F18, PySem.W.mg_of X G a18, b18⟩⟩
  have F19 := fun_mk (st := s_law) l19 c19 k19
  have b19 := F19.binds (ps := p_law) fun _ _ _ _ _ _ us hl => match us, hl with | [_], _ => rfl
  have tf0x0 := fun_mk (st := s_Nodes_init) tL0x0 tC0x0 tK0x0
  have tb0x0 := tf0x0.binds (ps := p_Nodes_init) fun _ _ _ _ _ _ us hl => match us, hl with | [_], _ => rfl
  have tf0x1 := fun_mk (st := s_Nodes_joined) tL0x1 tC0x1 tK0x1
  have tb0x1 := tf0x1.binds (ps := p_Nodes_joined) fun _ _ _ _ _ _ us hl => match us, hl with | [_, _, _], _ => rfl
  have tf0x2 := fun_mk (st := s_Nodes_number_of) tL0x2 tC0x2 tK0x2
  have tb0x2 := tf0x2.binds (ps := p_Nodes_number_of) fun _ _ _ _ _ _ us hl => match us, hl with | [_, _], _ => rfl
  have tf0x3 := fun_mk (st := s_Nodes_number_of_word) tL0x3 tC0x3 tK0x3
  have tb0x3 := tf0x3.binds (ps := p_Nodes_number_of_word) fun _ _ _ _ _ _ us hl => match us, hl with | [_, _], _ => rfl
  have tf0x4 := fun_mk (st := s_Nodes_value_of) tL0x4 tC0x4 tK0x4
  have tb0x4 := tf0x4.binds (ps := p_Nodes_value_of) fun _ _ _ _ _ _ us hl => match us, hl with | [_, _], _ => rfl
  have tf0x5 := fun_mk (st := s_Nodes_numbers_within) tL0x5 tC0x5 tK0x5
  have tb0x5 := tf0x5.binds (ps := p_Nodes_numbers_within) fun _ _ _ _ _ _ us hl => match us, hl with | [_, _], _ => rfl
  have tf0x6 := fun_mk (st := s_Nodes_items_of) tL0x6 tC0x6 tK0x6
  have tb0x6 := tf0x6.binds (ps := p_Nodes_items_of) fun _ _ _ _ _ _ us hl => match us, hl with | [_, _], _ => rfl
  have tf0x7 := fun_mk (st := s_Nodes_is_great) tL0x7 tC0x7 tK0x7
  have tb0x7 := tf0x7.binds (ps := p_Nodes_is_great) fun _ _ _ _ _ _ us hl => match us, hl with | [_, _], _ => rfl
  have O_Nodes : OwnC K mg "Nodes" ["heads", "tails", "wordness", "spellings", "numbers_of_words", "numbers_of_lists"] oC0 := ⟨PySem.W.mg_of X G oG0, ⟨oP0, oH0, oO0, oS0⟩, fun f m => (List.mem_cons.mp m).elim (fun e => by rw [e]; exact oN0x0) fun m => (List.mem_cons.mp m).elim (fun e => by rw [e]; exact oN0x1) fun m => (List.mem_cons.mp m).elim (fun e => by rw [e]; exact oN0x2) fun m => (List.mem_cons.mp m).elim (fun e => by rw [e]; exact oN0x3) fun m => (List.mem_cons.mp m).elim (fun e => by rw [e]; exact oN0x4) fun m => (List.mem_cons.mp m).elim (fun e => by rw [e]; exact oN0x5) fun m => absurd m (List.not_mem_nil)⟩
  have Q_Nodes : ∃ C : Addr, OwnC K mg "Nodes" ["heads", "tails", "wordness", "spellings", "numbers_of_words", "numbers_of_lists"] C ∧ InitAt K C "Nodes.__init__" s_Nodes_init p_Nodes_init ∧ MethAt K C "joined" "Nodes.joined" s_Nodes_joined p_Nodes_joined ∧ MethAt K C "number_of" "Nodes.number_of" s_Nodes_number_of p_Nodes_number_of ∧ MethAt K C "_number_of_word" "Nodes._number_of_word" s_Nodes_number_of_word p_Nodes_number_of_word ∧ MethAt K C "value_of" "Nodes.value_of" s_Nodes_value_of p_Nodes_value_of ∧ MethAt K C "_numbers_within" "Nodes._numbers_within" s_Nodes_numbers_within p_Nodes_numbers_within ∧ MethAt K C "_items_of" "Nodes._items_of" s_Nodes_items_of p_Nodes_items_of ∧ MethAt K C "is_great" "Nodes.is_great" s_Nodes_is_great p_Nodes_is_great := ⟨oC0, O_Nodes, ⟨⟨tF0x0, _, tf0x0, ⟨oM0, tA0x0, tI0x0, oK0⟩, tb0x0⟩⟩, ⟨⟨tF0x1, _, tf0x1, ⟨tA0x1, tI0x1, tK0x1⟩, tb0x1⟩⟩, ⟨⟨tF0x2, _, tf0x2, ⟨tA0x2, tI0x2, tK0x2⟩, tb0x2⟩⟩, ⟨⟨tF0x3, _, tf0x3, ⟨tA0x3, tI0x3, tK0x3⟩, tb0x3⟩⟩, ⟨⟨tF0x4, _, tf0x4, ⟨tA0x4, tI0x4, tK0x4⟩, tb0x4⟩⟩, ⟨⟨tF0x5, _, tf0x5, ⟨tA0x5, tI0x5, tK0x5⟩, tb0x5⟩⟩, ⟨⟨tF0x6, _, tf0x6, ⟨tA0x6, tI0x6, tK0x6⟩, tb0x6⟩⟩, ⟨⟨tF0x7, _, tf0x7, ⟨tA0x7, tI0x7, tK0x7⟩, tb0x7⟩⟩⟩
  refine ⟨PySem.W.fnOf "law" "law" (defArgs s_law) (defBody s_law) (defScope s_law) .none kV19 dc19 pm19 an19 cd19 ct19, fun s v => .of_eq rfl, fun base _ _ => ?_⟩
  exact ok_law F19 B M Q_Nodes S_INSTRUCTIONS E_BadText E_BadProgram W_BadText_BadProgram W_BadProgram_BadText C_BadInputs W_BadText_BadInputs W_BadProgram_BadInputs D_wall D_parts_of D_check_machine D_is_right_instruction D_law_draws D_law_take D_law_value D_law_names_of D_law_list D_law_instruction D_law_machine D_law_names_in D_law_instruction_good D_law_routine_good D_law_bad_routine D_law_is_right D_law_odd D_law_bent D_law_chain
theorem walk {l : PySem.W.OpenLaw} {q : Program} {loose : List Str} {XP : (Str → Option Value) → Heap → Prop} {YP : World → Heap → Prop} {d : DefRec} {K : Params → PySem.W.Frag} (hn : l.most = some 63) (hdf : d.params.defaults = [])
    (hY : ∀ (w : World) (h : Heap), YP w h → (K w.params).In h)
    (F : ∀ (w : World) (mg : Str → Option Value) (fa : Addr) (h : Heap), (K w.params).In h → h.Ns mainGlobals mg → mg d.name = some (.ref fa) →
      ∃ fd : FuncData, (∀ (s : Shared) (u : Value), BindsTo s fd ⟨[u], []⟩ [("script", u)]) ∧ ∀ base : Heap, (K w.params).In base → base.Ns mainGlobals mg → FnOk l.prog w (K w.params) mg base CX0 30 fa fd ["script"] (spLaw (K w.params))) :
    PySem.W.WalkO q loose XP YP l.row.toRowW d [] (fun f vs => PySem.call f vs) :=
  L2.walk_of (n := 63) (k := 30) (x := "script") (CX := fun _ => CX0) (sp := fun w => spLaw (K w.params)) hn (by decide) hdf ⟨rfl, by decide, by decide⟩ hY F (fun _ _ a ns hl _ hS => ⟨a, ns, rfl, hS, hl, fun _ => rfl⟩) fun _ _ _ _ _ z => z
end Og
open PySem PySem.W PyProof.Rows
set_option maxRecDepth 100000 in
set_option maxHeartbeats 0 in
theorem PySem.Challenge.cw_ownglass_k51_machine_programs_that_are_r_holds : PySem.Challenge.rw_ownglass_k51_machine_programs_that_are_r.Holds := by
  w_on; o_law; k_head; (case hw => w_witness2)
  k_fill
  refine Og.walk (l := PySem.Challenge.rw_ownglass_k51_machine_programs_that_are_r) rfl rfl (fun w h Y => PySem.W.kIn_of Y) ?F
  case F =>
    intro w mg fa h KX G hmg
    refine' Og.all_mk KX G hmg ?a0 ?l0 ?c0 ?k0 ?a1 ?l1 ?c1 ?k1 ?a2 ?l2 ?c2 ?k2 ?a3 ?l3 ?c3 ?k3 ?a4 ?l4 ?c4 ?k4 ?a5 ?l5 ?c5 ?k5 ?a6 ?l6 ?c6 ?k6 ?a7 ?l7 ?c7 ?k7 ?a8 ?l8 ?c8 ?k8 ?a9 ?l9 ?c9 ?k9 ?a10 ?l10 ?c10 ?k10 ?a11 ?l11 ?c11 ?k11 ?a12 ?l12 ?c12 ?k12 ?a13 ?l13 ?c13 ?k13 ?a14 ?l14 ?c14 ?k14 ?a15 ?l15 ?c15 ?k15 ?a16 ?l16 ?c16 ?k16 ?a17 ?l17 ?c17 ?k17 ?a18 ?l18 ?c18 ?k18 ?a19 ?l19 ?c19 ?k19 ?zlen ?zrange ?zint ?zabs ?zstr ?ztuple ?zlist ?zbool ?zisinstance ?zValueError ?zenumerate ?zset ?zreversed ?zall ?eG ?eRd ?eSg ?eVv ?eGt ?eTk ?eC0 ?eL0 ?eR0 ?eS0 ?eX0 ?eT0 ?eK0 ?eI0 ?eY0 ?eN0 ?eF0 ?eD0 ?eP0 ?eA0 ?eB0 ?eH0 ?eQ0 ?eZ0 ?eE0 ?eU0 ?eV0 ?eM0 ?eC1 ?eL1 ?eR1 ?eS1 ?eX1 ?eT1 ?eK1 ?eI1 ?eY1 ?eN1 ?eF1 ?eD1 ?eP1 ?eA1 ?eB1 ?eH1 ?eQ1 ?eZ1 ?eE1 ?eU1 ?eV1 ?eM1 ?eW0x1 ?eW1x0 ?xG0 ?xK0p0 ?xK1p0 ?yg0 ?yl0 ?yk0 ?yw0 ?yc0 ?gc0 ?gc1 ?oG0 ?oP0 ?oH0 ?oO0 ?oS0 ?oM0 ?oK0 ?oN0x0 ?oN0x1 ?oN0x2 ?oN0x3 ?oN0x4 ?oN0x5 ?tA0x0 ?tI0x0 ?tL0x0 ?tC0x0 ?tK0x0 ?tA0x1 ?tI0x1 ?tL0x1 ?tC0x1 ?tK0x1 ?tA0x2 ?tI0x2 ?tL0x2 ?tC0x2 ?tK0x2 ?tA0x3 ?tI0x3 ?tL0x3 ?tC0x3 ?tK0x3 ?tA0x4 ?tI0x4 ?tL0x4 ?tC0x4 ?tK0x4 ?tA0x5 ?tI0x5 ?tL0x5 ?tC0x5 ?tK0x5 ?tA0x6 ?tI0x6 ?tL0x6 ?tC0x6 ?tK0x6 ?tA0x7 ?tI0x7 ?tL0x7 ?tC0x7 ?tK0x7
    (case a0 => first | k_is | rfl | decide +kernel)
    (case l0 => first | k_is | rfl | decide +kernel)
    (case c0 => first | k_is | rfl | decide +kernel)
    (case k0 => first | k_is | rfl | decide +kernel)
    (case a1 => first | k_is | rfl | decide +kernel)
    (case l1 => first | k_is | rfl | decide +kernel)
    (case c1 => first | k_is | rfl | decide +kernel)
    (case k1 => first | k_is | rfl | decide +kernel)
    (case a2 => first | k_is | rfl | decide +kernel)
    (case l2 => first | k_is | rfl | decide +kernel)
    (case c2 => first | k_is | rfl | decide +kernel)
    (case k2 => first | k_is | rfl | decide +kernel)
    (case a3 => first | k_is | rfl | decide +kernel)
    (case l3 => first | k_is | rfl | decide +kernel)
    (case c3 => first | k_is | rfl | decide +kernel)
    (case k3 => first | k_is | rfl | decide +kernel)
    (case a4 => first | k_is | rfl | decide +kernel)
    (case l4 => first | k_is | rfl | decide +kernel)
    (case c4 => first | k_is | rfl | decide +kernel)
    (case k4 => first | k_is | rfl | decide +kernel)
    (case a5 => first | k_is | rfl | decide +kernel)
    (case l5 => first | k_is | rfl | decide +kernel)
    (case c5 => first | k_is | rfl | decide +kernel)
    (case k5 => first | k_is | rfl | decide +kernel)
    (case a6 => first | k_is | rfl | decide +kernel)
    (case l6 => first | k_is | rfl | decide +kernel)
    (case c6 => first | k_is | rfl | decide +kernel)
    (case k6 => first | k_is | rfl | decide +kernel)
    (case a7 => first | k_is | rfl | decide +kernel)
    (case l7 => first | k_is | rfl | decide +kernel)
    (case c7 => first | k_is | rfl | decide +kernel)
    (case k7 => first | k_is | rfl | decide +kernel)
    (case a8 => first | k_is | rfl | decide +kernel)
    (case l8 => first | k_is | rfl | decide +kernel)
    (case c8 => first | k_is | rfl | decide +kernel)
    (case k8 => first | k_is | rfl | decide +kernel)
    (case a9 => first | k_is | rfl | decide +kernel)
    (case l9 => first | k_is | rfl | decide +kernel)
    (case c9 => first | k_is | rfl | decide +kernel)
    (case k9 => first | k_is | rfl | decide +kernel)
    (case a10 => first | k_is | rfl | decide +kernel)
    (case l10 => first | k_is | rfl | decide +kernel)
    (case c10 => first | k_is | rfl | decide +kernel)
    (case k10 => first | k_is | rfl | decide +kernel)
    (case a11 => first | k_is | rfl | decide +kernel)
    (case l11 => first | k_is | rfl | decide +kernel)
    (case c11 => first | k_is | rfl | decide +kernel)
    (case k11 => first | k_is | rfl | decide +kernel)
    (case a12 => first | k_is | rfl | decide +kernel)
    (case l12 => first | k_is | rfl | decide +kernel)
    (case c12 => first | k_is | rfl | decide +kernel)
    (case k12 => first | k_is | rfl | decide +kernel)
    (case a13 => first | k_is | rfl | decide +kernel)
    (case l13 => first | k_is | rfl | decide +kernel)
    (case c13 => first | k_is | rfl | decide +kernel)
    (case k13 => first | k_is | rfl | decide +kernel)
    (case a14 => first | k_is | rfl | decide +kernel)
    (case l14 => first | k_is | rfl | decide +kernel)
    (case c14 => first | k_is | rfl | decide +kernel)
    (case k14 => first | k_is | rfl | decide +kernel)
    (case a15 => first | k_is | rfl | decide +kernel)
    (case l15 => first | k_is | rfl | decide +kernel)
    (case c15 => first | k_is | rfl | decide +kernel)
    (case k15 => first | k_is | rfl | decide +kernel)
    (case a16 => first | k_is | rfl | decide +kernel)
    (case l16 => first | k_is | rfl | decide +kernel)
    (case c16 => first | k_is | rfl | decide +kernel)
    (case k16 => first | k_is | rfl | decide +kernel)
    (case a17 => first | k_is | rfl | decide +kernel)
    (case l17 => first | k_is | rfl | decide +kernel)
    (case c17 => first | k_is | rfl | decide +kernel)
    (case k17 => first | k_is | rfl | decide +kernel)
    (case a18 => first | k_is | rfl | decide +kernel)
    (case l18 => first | k_is | rfl | decide +kernel)
    (case c18 => first | k_is | rfl | decide +kernel)
    (case k18 => first | k_is | rfl | decide +kernel)
    (case a19 => first | k_is | rfl | decide +kernel)
    (case l19 => first | k_is | rfl | decide +kernel)
    (case c19 => first | k_is | rfl | decide +kernel)
    (case k19 => first | k_is | rfl | decide +kernel)
    (case zlen => first | k_is | rfl | decide +kernel)
    (case zrange => first | k_is | rfl | decide +kernel)
    (case zint => first | k_is | rfl | decide +kernel)
    (case zabs => first | k_is | rfl | decide +kernel)
    (case zstr => first | k_is | rfl | decide +kernel)
    (case ztuple => first | k_is | rfl | decide +kernel)
    (case zlist => first | k_is | rfl | decide +kernel)
    (case zbool => first | k_is | rfl | decide +kernel)
    (case zisinstance => first | k_is | rfl | decide +kernel)
    (case zValueError => first | k_is | rfl | decide +kernel)
    (case zenumerate => first | k_is | rfl | decide +kernel)
    (case zset => first | k_is | rfl | decide +kernel)
    (case zreversed => first | k_is | rfl | decide +kernel)
    (case zall => first | k_is | rfl | decide +kernel)
    (case eG => first | k_is | rfl | decide +kernel)
    (case eRd => first | k_is | rfl | decide +kernel)
    (case eSg => first | k_is | rfl | decide +kernel)
    (case eVv => first | k_is | rfl | decide +kernel)
    (case eGt => first | k_is | rfl | decide +kernel)
    (case eTk => first | k_is | rfl | decide +kernel)
    (case eC0 => first | k_is | rfl | decide +kernel)
    (case eL0 => first | k_is | rfl | decide +kernel)
    (case eR0 => decide +kernel)
    (case eS0 => first | k_is | rfl | decide +kernel)
    (case eX0 => first | k_is | rfl | decide +kernel)
    (case eT0 => first | k_is | rfl | decide +kernel)
    (case eK0 => first | k_is | rfl | decide +kernel)
    (case eI0 => first | k_is | rfl | decide +kernel)
    (case eY0 => first | k_is | rfl | decide +kernel)
    (case eN0 => first | k_is | rfl | decide +kernel)
    (case eF0 => first | k_is | rfl | decide +kernel)
    (case eD0 => first | k_is | rfl | decide +kernel)
    (case eP0 => first | k_is | rfl | decide +kernel)
    (case eA0 => first | k_is | rfl | decide +kernel)
    (case eB0 => first | k_is | rfl | decide +kernel)
    (case eH0 => first | k_is | rfl | decide +kernel)
    (case eQ0 => first | k_is | rfl | decide +kernel)
    (case eZ0 => first | k_is | rfl | decide +kernel)
    (case eE0 => first | k_is | rfl | decide +kernel)
    (case eU0 => first | k_is | rfl | decide +kernel)
    (case eV0 => first | k_is | rfl | decide +kernel)
    (case eM0 => first | k_is | rfl | decide +kernel)
    (case eC1 => first | k_is | rfl | decide +kernel)
    (case eL1 => first | k_is | rfl | decide +kernel)
    (case eR1 => decide +kernel)
    (case eS1 => first | k_is | rfl | decide +kernel)
    (case eX1 => first | k_is | rfl | decide +kernel)
    (case eT1 => first | k_is | rfl | decide +kernel)
    (case eK1 => first | k_is | rfl | decide +kernel)
    (case eI1 => first | k_is | rfl | decide +kernel)
    (case eY1 => first | k_is | rfl | decide +kernel)
    (case eN1 => first | k_is | rfl | decide +kernel)
    (case eF1 => first | k_is | rfl | decide +kernel)
    (case eD1 => first | k_is | rfl | decide +kernel)
    (case eP1 => first | k_is | rfl | decide +kernel)
    (case eA1 => first | k_is | rfl | decide +kernel)
    (case eB1 => first | k_is | rfl | decide +kernel)
    (case eH1 => first | k_is | rfl | decide +kernel)
    (case eQ1 => first | k_is | rfl | decide +kernel)
    (case eZ1 => first | k_is | rfl | decide +kernel)
    (case eE1 => first | k_is | rfl | decide +kernel)
    (case eU1 => first | k_is | rfl | decide +kernel)
    (case eV1 => first | k_is | rfl | decide +kernel)
    (case eM1 => first | k_is | rfl | decide +kernel)
    (case eW0x1 => first | k_is | rfl | decide +kernel)
    (case eW1x0 => first | k_is | rfl | decide +kernel)
    (case xG0 => first | k_is | rfl | decide +kernel)
    (case xK0p0 => first | k_is | rfl | decide +kernel)
    (case xK1p0 => first | k_is | rfl | decide +kernel)
    (case yg0 => first | k_is | rfl | decide +kernel)
    (case yl0 => first | k_is | rfl | decide +kernel)
    (case yk0 => exact ⟨⟨_, _, rfl, rfl⟩, ⟨⟨_, _, rfl, rfl⟩, ⟨⟨_, _, rfl, rfl⟩, ⟨⟨_, _, rfl, rfl⟩, ⟨⟨_, _, rfl, rfl⟩, ⟨⟨_, _, rfl, rfl⟩, ⟨⟨_, _, rfl, rfl⟩, ⟨⟨_, _, rfl, rfl⟩, ⟨⟨_, _, rfl, rfl⟩, ⟨⟨_, _, rfl, rfl⟩, trivial⟩⟩⟩⟩⟩⟩⟩⟩⟩⟩)
    (case yw0 => first | k_is | rfl | decide +kernel)
    (case yc0 => exact ⟨⟨_, rfl⟩, ⟨_, rfl⟩, ⟨⟨_, rfl⟩, ⟨_, rfl⟩, ⟨⟨_, rfl⟩, ⟨_, rfl⟩, ⟨⟨_, rfl⟩, ⟨_, rfl⟩, ⟨⟨_, rfl⟩, ⟨_, rfl⟩, ⟨⟨_, rfl⟩, ⟨_, rfl⟩, ⟨⟨_, rfl⟩, ⟨_, rfl⟩, ⟨⟨_, rfl⟩, ⟨_, rfl⟩, ⟨⟨_, rfl⟩, ⟨_, rfl⟩, ⟨⟨_, rfl⟩, ⟨_, rfl⟩, trivial⟩⟩⟩⟩⟩⟩⟩⟩⟩⟩)
    (case gc0 => first | k_is | rfl | decide +kernel)
    (case gc1 => first | k_is | rfl | decide +kernel)
    (case oG0 => first | k_is | rfl | decide +kernel)
    (case oP0 => first | k_is | rfl | decide +kernel)
    (case oH0 => first | k_is | rfl | decide +kernel)
    (case oO0 => first | k_is | rfl | decide +kernel)
    (case oS0 => first | k_is | rfl | decide +kernel)
    (case oM0 => first | k_is | rfl | decide +kernel)
    (case oK0 => first | k_is | rfl | decide +kernel)
    (case oN0x0 => first | k_is | rfl | decide +kernel)
    (case oN0x1 => first | k_is | rfl | decide +kernel)
    (case oN0x2 => first | k_is | rfl | decide +kernel)
    (case oN0x3 => first | k_is | rfl | decide +kernel)
    (case oN0x4 => first | k_is | rfl | decide +kernel)
    (case oN0x5 => first | k_is | rfl | decide +kernel)
    (case tA0x0 => first | k_is | rfl | decide +kernel)
    (case tI0x0 => first | k_is | rfl | decide +kernel)
    (case tL0x0 => first | k_is | rfl | decide +kernel)
    (case tC0x0 => first | k_is | rfl | decide +kernel)
    (case tK0x0 => first | k_is | rfl | decide +kernel)
    (case tA0x1 => first | k_is | rfl | decide +kernel)
    (case tI0x1 => first | k_is | rfl | decide +kernel)
    (case tL0x1 => first | k_is | rfl | decide +kernel)
    (case tC0x1 => first | k_is | rfl | decide +kernel)
    (case tK0x1 => first | k_is | rfl | decide +kernel)
    (case tA0x2 => first | k_is | rfl | decide +kernel)
    (case tI0x2 => first | k_is | rfl | decide +kernel)
    (case tL0x2 => first | k_is | rfl | decide +kernel)
    (case tC0x2 => first | k_is | rfl | decide +kernel)
    (case tK0x2 => first | k_is | rfl | decide +kernel)
    (case tA0x3 => first | k_is | rfl | decide +kernel)
    (case tI0x3 => first | k_is | rfl | decide +kernel)
    (case tL0x3 => first | k_is | rfl | decide +kernel)
    (case tC0x3 => first | k_is | rfl | decide +kernel)
    (case tK0x3 => first | k_is | rfl | decide +kernel)
    (case tA0x4 => first | k_is | rfl | decide +kernel)
    (case tI0x4 => first | k_is | rfl | decide +kernel)
    (case tL0x4 => first | k_is | rfl | decide +kernel)
    (case tC0x4 => first | k_is | rfl | decide +kernel)
    (case tK0x4 => first | k_is | rfl | decide +kernel)
    (case tA0x5 => first | k_is | rfl | decide +kernel)
    (case tI0x5 => first | k_is | rfl | decide +kernel)
    (case tL0x5 => first | k_is | rfl | decide +kernel)
    (case tC0x5 => first | k_is | rfl | decide +kernel)
    (case tK0x5 => first | k_is | rfl | decide +kernel)
    (case tA0x6 => first | k_is | rfl | decide +kernel)
    (case tI0x6 => first | k_is | rfl | decide +kernel)
    (case tL0x6 => first | k_is | rfl | decide +kernel)
    (case tC0x6 => first | k_is | rfl | decide +kernel)
    (case tK0x6 => first | k_is | rfl | decide +kernel)
    (case tA0x7 => first | k_is | rfl | decide +kernel)
    (case tI0x7 => first | k_is | rfl | decide +kernel)
    (case tL0x7 => first | k_is | rfl | decide +kernel)
    (case tC0x7 => first | k_is | rfl | decide +kernel)
    (case tK0x7 => first | k_is | rfl | decide +kernel)
