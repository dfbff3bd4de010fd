import PyProof.Rows.All
import Wide.All
import OpenK.AllK
import Wide.FinOn
import HandS.ForMost
import HandS.IsInst
import HandS.TupAny
import HandS.Style
import HandS.Codes
import HandS.TryOnly
import HandS.TupMul
import HandS.SetKeys
import HandS.StrMore
import HandS.Zip
import KE.GoesEnum
import HandS.ForExc
import HandS.ExcInit
import HandS.ExcIs
import HandS.ExcField
import HandS.FStr
import HandS.WordsExc
import HandS.ExcValue
import KE.KIntText
import KE.IntTextText
import HandS.More
import HandS.Text
import HandS.Strs
import PyProof.ReprRoads
import PyProof.ReprReads
import PyProof.Rows.StrBin
import HandS.DictComp
import HandS.Star
import HandS.Rev
import PySem.Challenge.RW_ownglass_k25_rings
set_option Elab.async false
set_option linter.all false
set_option maxRecDepth 100000
set_option maxHeartbeats 4000000
set_option Elab.async false
set_option linter.all false
set_option maxRecDepth 100000
/-! L0: what the proofs of all laws share: heaps that keep all but some lists, trees (words and lists of trees), the law's hand, callees. -/
namespace Og
open PySem PySem.Spec PyProof.Rows L2

/-! ### heaps: each tracked thing stays, but for lists at the places S -/
def Keep (S : List Addr) (H H' : Hp) : Prop := ∀ b o, H b = some o → H' b = some o ∨ (b ∈ S ∧ ∃ xs ys, o = .lst xs ∧ H' b = some (.lst ys))
theorem Keep.refl {S : List Addr} {H : Hp} : Keep S H H := fun _ _ e => .inl e
theorem Keep.trans {S : List Addr} {H H1 H2 : Hp} (a : Keep S H H1) (b : Keep S H1 H2) : Keep S H H2 := fun p o e => by
  rcases a p o e with h | ⟨h, xs, ys, e1, e2⟩
  · exact b p o h
  · rcases b p _ e2 with h' | ⟨_, xs', ys', e3, e4⟩
    · exact .inr ⟨h, xs, ys, e1, h'⟩
    · exact .inr ⟨h, xs, ys', e1, e4⟩
theorem Keep.mono {S S' : List Addr} {H H1 : Hp} (a : Keep S H H1) (h : ∀ x ∈ S, x ∈ S') : Keep S' H H1 := fun p o e => by
  rcases a p o e with q | ⟨q, r⟩
  · exact .inl q
  · exact .inr ⟨h _ q, r⟩
theorem Keep.new {S : List Addr} {H : Hp} {p : Addr} {o : HO} (h : H p = none) : Keep S H (upd H p o) := fun b u e => .inl (by rw [upd_ne (ne_of_none e h)]; exact e)
theorem Keep.newT {S : List Addr} {H H1 : Hp} {p : Addr} {o : HO} (a : Keep S H H1) (h : H1 p = none) : Keep S H (upd H1 p o) := a.trans (Keep.new h)
theorem Keep.set {S : List Addr} {H : Hp} {p : Addr} {xs ys : List V} (h : H p = some (.lst xs)) (m : p ∈ S) : Keep S H (upd H p (.lst ys)) := fun b u e => by
  by_cases hb : b = p
  · subst hb
    rw [h] at e
    cases e
    exact .inr ⟨m, xs, ys, rfl, upd_same⟩
  · exact .inl (by rw [upd_ne hb]; exact e)
theorem Keep.setT {S : List Addr} {H H1 : Hp} {p : Addr} {xs ys : List V} (a : Keep S H H1) (h : H1 p = some (.lst xs)) (m : p ∈ S) : Keep S H (upd H1 p (.lst ys)) := a.trans (Keep.set h m)
/-- a list that is new may change -/
theorem Keep.drop {S : List Addr} {H H1 : Hp} {p : Addr} (a : Keep (p :: S) H H1) (h : H p = none) : Keep S H H1 := fun b o e => by
  rcases a b o e with q | ⟨q, r⟩
  · exact .inl q
  · rcases List.mem_cons.mp q with q | q
    · subst q
      rw [h] at e
      cases e
    · exact .inr ⟨q, r⟩
theorem Keep.cons {S : List Addr} {H H1 : Hp} {p : Addr} (a : Keep S H H1) : Keep (p :: S) H H1 := a.mono fun _ h => List.mem_cons_of_mem _ h
theorem Keep.get {S : List Addr} {H H1 : Hp} {b : Addr} {o : HO} (a : Keep S H H1) (e : H b = some o) (h : b ∉ S) : H1 b = some o := by
  rcases a b o e with q | ⟨q, _⟩
  · exact q
  · exact absurd q h
theorem Keep.free {S : List Addr} {H H1 : Hp} {b : Addr} (a : Keep S H H1) (e : H1 b = none) : H b = none := by
  cases q : H b with
  | none => rfl
  | some o =>
    rcases a b o q with r | ⟨_, _, _, _, r⟩ <;> rw [r] at e <;> cases e
theorem Keep.rdT {S : List Addr} {H H1 : Hp} {b : Addr} {xs : List V} (a : Keep S H H1) (e : Rd H b (.tup xs)) : Rd H1 b (.tup xs) := by
  rcases e with e | ⟨o, e⟩
  · rcases a b _ e with q | ⟨_, _, _, q, _⟩
    · exact .inl q
    · cases q
  · rcases a b _ e with q | ⟨_, _, _, q, _⟩
    · exact .inr ⟨o, q⟩
    · cases q
theorem Keep.sqT {K : PySem.W.Frag} {S : List Addr} {H H1 : Hp} {b : Addr} {xs : List V} (a : Keep S H H1) (e : SqT K H b xs) : SqT K H1 b xs := by
  rcases e with e | e
  · exact .inl (a.rdT e)
  · exact .inr e
theorem Keep.sqL {K : PySem.W.Frag} {S : List Addr} {H H1 : Hp} {b : Addr} {xs : List V} (a : Keep S H H1) (h : b ∉ S) (e : SqL K H b xs) : SqL K H1 b xs := by
  rcases e with (e | ⟨o, e⟩) | e
  · exact .inl (.inl (a.get e h))
  · exact .inl (.inr ⟨o, a.get e h⟩)
  · exact .inr e
theorem Keep.tup {S : List Addr} {H H1 : Hp} {b : Addr} {xs : List V} (a : Keep S H H1) (e : H b = some (.tup xs)) : H1 b = some (.tup xs) := by
  rcases a b _ e with q | ⟨_, _, _, q, _⟩
  · exact q
  · cases q
theorem Keep.of_same {S : List Addr} {H H1 : Hp} (a : Same H H1) : Keep S H H1 := fun b o e => .inl (a b o e)
theorem Keep.same {H H1 : Hp} (a : Keep [] H H1) : Same H H1 := fun b o e => a.get e (by simp)

/-! ### texts by their codes -/
def tx (cs : List Nat) : Str := ⟨cs.toArray⟩
theorem tx_list (cs : List Nat) : (tx cs).cps.toList = cs := rfl
theorem tx_len (cs : List Nat) : (tx cs).length = cs.length := by
  show cs.toArray.size = cs.length
  simp
theorem tx_app (a b : List Nat) : tx a ++ tx b = tx (a ++ b) := by
  show Str.mk (a.toArray ++ b.toArray) = Str.mk (a ++ b).toArray
  simp
theorem tx_of (s : Str) : s = tx s.cps.toList := by
  cases s
  rfl
theorem tx_inj {a b : List Nat} (h : tx a = tx b) : a = b := by
  have q := congrArg (fun s : Str => s.cps.toList) h
  exact q
theorem tx_str {a b : List Nat} (h : V.str (tx a) = V.str (tx b)) : a = b := tx_inj (V.str.inj h)
theorem atI_tx {cs : List Nat} {z : Int} {c : Nat} (h : atI (tx cs).cps.toList z = some c) : atI cs z = some c := h
/-! ### trees -/
inductive Tree where
  | w (x : List Nat)
  | l (ts : List Tree)
mutual
def Tr (K : PySem.W.Frag) (H : Hp) : V → Tree → Prop
  | v, .w x => v = .str (tx x)
  | v, .l ts => ∃ a vs, v = .ref a ∧ SqT K H a vs ∧ Trs K H vs ts
def Trs (K : PySem.W.Frag) (H : Hp) : List V → List Tree → Prop
  | vs, [] => vs = []
  | vs, t :: ts => ∃ v r, vs = v :: r ∧ Tr K H v t ∧ Trs K H r ts
end
mutual
theorem Tr.keep {K : PySem.W.Frag} {S : List Addr} {H H1 : Hp} (a : Keep S H H1) : ∀ {v : V} {t : Tree}, Tr K H v t → Tr K H1 v t
  | v, .w x, h => by rw [Tr] at h ⊢; exact h
  | v, .l ts, h => by
    rw [Tr] at h ⊢
    obtain ⟨p, vs, e, h1, h2⟩ := h
    exact ⟨p, vs, e, a.sqT h1, Trs.keep a h2⟩
theorem Trs.keep {K : PySem.W.Frag} {S : List Addr} {H H1 : Hp} (a : Keep S H H1) : ∀ {vs : List V} {ts : List Tree}, Trs K H vs ts → Trs K H1 vs ts
  | vs, [], h => by rw [Trs] at h ⊢; exact h
  | vs, t :: ts, h => by
    rw [Trs] at h ⊢
    obtain ⟨v, r, e, h1, h2⟩ := h
    exact ⟨v, r, e, Tr.keep a h1, Trs.keep a h2⟩
end
section
variable {K : PySem.W.Frag} {H : Hp}
theorem tr_w {x : List Nat} : Tr K H (.str (tx x)) (.w x) := by rw [Tr]
theorem tr_l {a : Addr} {vs : List V} {ts : List Tree} (h : SqT K H a vs) (r : Trs K H vs ts) : Tr K H (.ref a) (.l ts) := by rw [Tr]; exact ⟨a, vs, rfl, h, r⟩
theorem trs_nil : Trs K H [] [] := by rw [Trs]
theorem trs_cons {v : V} {vs : List V} {t : Tree} {ts : List Tree} (h : Tr K H v t) (r : Trs K H vs ts) : Trs K H (v :: vs) (t :: ts) := by rw [Trs]; exact ⟨v, vs, rfl, h, r⟩
theorem Tr.word {v : V} {x : List Nat} (h : Tr K H v (.w x)) : v = .str (tx x) := by rw [Tr] at h; exact h
theorem Tr.list {v : V} {ts : List Tree} (h : Tr K H v (.l ts)) : ∃ a vs, v = .ref a ∧ SqT K H a vs ∧ Trs K H vs ts := by rw [Tr] at h; exact h
theorem Trs.nil {vs : List V} (h : Trs K H vs []) : vs = [] := by rw [Trs] at h; exact h
theorem Trs.cons {vs : List V} {t : Tree} {ts : List Tree} (h : Trs K H vs (t :: ts)) : ∃ v r, vs = v :: r ∧ Tr K H v t ∧ Trs K H r ts := by rw [Trs] at h; exact h
theorem Trs.length : ∀ {vs : List V} {ts : List Tree}, Trs K H vs ts → vs.length = ts.length
  | vs, [], h => by rw [h.nil]; rfl
  | vs, t :: ts, h => by
    obtain ⟨v, r, rfl, _, h2⟩ := h.cons
    rw [List.length_cons, List.length_cons, Trs.length h2]
theorem Trs.get : ∀ {vs : List V} {ts : List Tree} {i : Nat} {t : Tree}, Trs K H vs ts → ts[i]? = some t → ∃ v, vs[i]? = some v ∧ Tr K H v t
  | vs, [], i, t, h, e => by simp at e
  | vs, t' :: ts, 0, t, h, e => by
    obtain ⟨v, r, rfl, h1, h2⟩ := h.cons
    have e' : t' = t := Option.some.inj e
    subst e'
    exact ⟨v, rfl, h1⟩
  | vs, t' :: ts, i + 1, t, h, e => by
    obtain ⟨v, r, rfl, h1, h2⟩ := h.cons
    exact Trs.get (i := i) h2 e
theorem Trs.append : ∀ {vs ws : List V} {ts us : List Tree}, Trs K H vs ts → Trs K H ws us → Trs K H (vs ++ ws) (ts ++ us)
  | vs, ws, [], us, h, g => by rw [h.nil]; exact g
  | vs, ws, t :: ts, us, h, g => by
    obtain ⟨v, r, rfl, h1, h2⟩ := h.cons
    exact trs_cons h1 (Trs.append h2 g)
theorem Trs.take : ∀ {vs : List V} {ts : List Tree} (n : Nat), Trs K H vs ts → Trs K H (vs.take n) (ts.take n)
  | vs, ts, 0, h => trs_nil
  | vs, [], n + 1, h => by rw [h.nil]; exact trs_nil
  | vs, t :: ts, n + 1, h => by
    obtain ⟨v, r, rfl, h1, h2⟩ := h.cons
    exact trs_cons h1 (Trs.take n h2)
theorem Trs.drop : ∀ {vs : List V} {ts : List Tree} (n : Nat), Trs K H vs ts → Trs K H (vs.drop n) (ts.drop n)
  | vs, ts, 0, h => h
  | vs, [], n + 1, h => by rw [h.nil]; exact trs_nil
  | vs, t :: ts, n + 1, h => by
    obtain ⟨v, r, rfl, h1, h2⟩ := h.cons
    exact Trs.drop n h2
theorem tr_tup {a : Addr} {vs : List V} {ts : List Tree} (h : H a = some (.tup vs)) (r : Trs K H vs ts) : Tr K H (.ref a) (.l ts) := tr_l (.inl (.inl h)) r
end
theorem Trs.snoc {K : PySem.W.Frag} {H : Hp} {vs : List V} {its : List Tree} {x : Tree} (h : Trs K H vs (its ++ [x])) : ∃ vs' v, vs = vs' ++ [v] ∧ Trs K H vs' its ∧ Tr K H v x := by
  induction its generalizing vs with
  | nil =>
    obtain ⟨v, r, rfl, h1, h2⟩ := h.cons
    rw [h2.nil]
    exact ⟨[], v, rfl, trs_nil, h1⟩
  | cons t ts ih =>
    obtain ⟨v, r, rfl, h1, h2⟩ := h.cons
    obtain ⟨vs', v', rfl, h3, h4⟩ := ih h2
    exact ⟨v :: vs', v', rfl, trs_cons h1 h3, h4⟩
theorem Trs.one {K : PySem.W.Frag} {H : Hp} {v : V} {t : Tree} (h : Tr K H v t) : Trs K H [v] [t] := trs_cons h trs_nil
theorem last_get {α : Type} (xs : List α) (x : α) : (xs ++ [x])[(xs ++ [x]).length - 1]? = some x := by
  rw [List.length_append, List.length_singleton, Nat.add_sub_cancel, List.getElem?_append_right (Nat.le_refl _), Nat.sub_self]
  rfl
theorem snoc_of {α : Type} {xs : List α} (h : xs ≠ []) : ∃ ys y, xs = ys ++ [y] := ⟨xs.dropLast, xs.getLast h, (List.dropLast_concat_getLast h).symm⟩
theorem emp_iff {vs : List V} {its : List Tree} {K : PySem.W.Frag} {H : Hp} (h : Trs K H vs its) : vs.isEmpty = its.isEmpty := by
  cases its with
  | nil => rw [h.nil]; rfl
  | cons t r => obtain ⟨v, r', rfl, _⟩ := h.cons; rfl
theorem SqT.of_tup {K : PySem.W.Frag} {H : Hp} {a : Addr} {vs : List V} (h : H a = some (.tup vs)) : SqT K H a vs := .inl (.inl h)

/-- a comprehension without a test -/
theorem yes {σ : L2.St} {H : Hp} {A B : Hp → Prop} (h : A H) : tYes σ H fun b H3 => if b = true then A H3 else B H3 := by
  show (if true = true then A H else B H)
  rw [if_pos rfl]
  exact h
/-! ### lists of ints -/
theorem map_int_get {ns : List Int} {i : Nat} {x : V} (h : (ns.map V.int)[i]? = some x) : ∃ n, x = .int n ∧ ns[i]? = some n := by
  rw [List.getElem?_map] at h
  cases e : ns[i]? with
  | none => rw [e] at h; cases h
  | some n => rw [e] at h; exact ⟨n, (Option.some.inj h).symm, rfl⟩
theorem atI_of {α : Type} {xs : List α} {z : Int} (h0 : 0 ≤ z) (h : z < (xs.length : Int)) : ∃ x, atI xs z = some x ∧ xs[z.toNat]? = some x := by
  have l : z.toNat < xs.length := by omega
  refine ⟨xs[z.toNat], ?_, List.getElem?_eq_getElem l⟩
  have q := atI_nat (List.getElem?_eq_getElem l)
  rw [show ((z.toNat : Nat) : Int) = z by omega] at q
  exact q
theorem atI_zero {α : Type} (x : α) (xs : List α) : atI (x :: xs) 0 = some x := atI_nat (j := 0) rfl
theorem atI_int {ns : List Int} {z : Int} (h0 : 0 ≤ z) (h : z < (ns.length : Int)) : ∃ n, atI (ns.map V.int) z = some (.int n) := by
  obtain ⟨x, h1, h2⟩ := atI_of (xs := ns.map V.int) h0 (by rw [List.length_map]; exact h)
  obtain ⟨n, rfl, _⟩ := map_int_get h2
  exact ⟨n, h1⟩
theorem ixN_int {n : Nat} {z : Int} (h0 : 0 ≤ z) (h : z < (n : Int)) : ixN n z = some z.toNat := by
  unfold ixN
  rw [if_pos h0, if_pos h]
theorem map_int_set (ns : List Int) (j : Nat) (y : Int) : (ns.map V.int).set j (.int y) = (ns.set j y).map V.int := by
  rw [List.map_set]
theorem map_int_app (ns : List Int) (y : Int) : ns.map V.int ++ [V.int y] = (ns ++ [y]).map V.int := by
  rw [List.map_append]; rfl

/-! ### isinstance, truth -/
def Tree.isW : Tree → Bool
  | .w _ => true
  | .l _ => false
section
variable {K : PySem.W.Frag} {H : Hp}
theorem tyX_tup {a : Addr} {xs : List V} (h : SqT K H a xs) : TyX K H (.ref a) (.type "tuple") := by
  rcases h with (h | ⟨o, h⟩) | ⟨o, its, n, h, c, _⟩
  · exact .base (.tup h)
  · exact .fTuple h
  · exact .kTuple h c
theorem kit_ss : PySem.W.kitOne K (.type "str") (.type "str") = some true := kit_ty (by decide +kernel)
theorem kit_ts : PySem.W.kitOne K (.type "tuple") (.type "str") = some false := kit_ty (by decide +kernel)
theorem kit_st : PySem.W.kitOne K (.type "str") (.type "tuple") = some false := kit_ty (by decide +kernel)
theorem kit_tt : PySem.W.kitOne K (.type "tuple") (.type "tuple") = some true := kit_ty (by decide +kernel)
/-- the witnesses of isinstance(v, str), isinstance(v, tuple) for a tree v -/
theorem isi_str {v : V} {t : Tree} (h : Tr K H v t) : ∃ ty u, ClsV (.ty "str") u ∧ TyX K H v ty ∧ PySem.W.kitOne K ty u = some t.isW := by
  cases t with
  | w x => rw [h.word]; exact ⟨_, _, .ty _, .base (.str _), kit_ss⟩
  | l ts =>
    obtain ⟨a, vs, rfl, h1, _⟩ := h.list
    exact ⟨_, _, .ty _, tyX_tup h1, kit_ts⟩
theorem isi_tup {v : V} {t : Tree} (h : Tr K H v t) : ∃ ty u, ClsV (.ty "tuple") u ∧ TyX K H v ty ∧ PySem.W.kitOne K ty u = some (!t.isW) := by
  cases t with
  | w x => rw [h.word]; exact ⟨_, _, .ty _, .base (.str _), kit_st⟩
  | l ts =>
    obtain ⟨a, vs, rfl, h1, _⟩ := h.list
    exact ⟨_, _, .ty _, tyX_tup h1, kit_tt⟩
theorem isi_strS {x : Str} : ∃ ty u, ClsV (.ty "str") u ∧ TyX K H (.str x) ty ∧ PySem.W.kitOne K ty u = some true := ⟨_, _, .ty _, .base (.str _), kit_ty (by decide +kernel)⟩
theorem isi_boolB {x : Bool} : ∃ ty u, ClsV (.ty "bool") u ∧ TyX K H (.bl x) ty ∧ PySem.W.kitOne K ty u = some true := ⟨_, _, .ty _, .base (.bl _), kit_ty (by decide +kernel)⟩
/-- a test that is a value of True or False -/
theorem tru_list {p : Addr} {xs : List V} (h : H p = some (.lst xs)) : TruV K (.ref p) H (!xs.isEmpty) := .inl ⟨xs, SqL.of h, rfl⟩
end
theorem sIx0 (n : Nat) : HT.sIx n 0 none = 0 := rfl
/-- a text cut: from i to j -/
theorem cutS_nat (cs : List Nat) {i j : Nat} (h : i ≤ j) (hj : j ≤ cs.length) : cutS (tx cs) (some (i : Int)) (some (j : Int)) = tx ((cs.drop i).take (j - i)) := by
  unfold cutS
  rw [HT.sIx_nat, HT.sIx_nat, tx_len, tx_list]
  rw [Nat.min_eq_left hj, Nat.min_eq_left (Nat.le_trans h hj)]
  rfl
theorem cutS_to (cs : List Nat) {j : Nat} (hj : j ≤ cs.length) : cutS (tx cs) none (some (j : Int)) = tx (cs.take j) := by
  unfold cutS
  rw [HT.sIx_nat, tx_len, tx_list, Nat.min_eq_left hj, sIx0, Nat.sub_zero, List.drop_zero]
  rfl
theorem cutS_from (cs : List Nat) {i : Nat} (hj : i ≤ cs.length) : cutS (tx cs) (some (i : Int)) none = tx (cs.drop i) := by
  unfold cutS
  rw [HT.sIx_nat, tx_len, tx_list, Nat.min_eq_left hj, HT.sIx_none]
  show Str.mk (List.take (cs.length - i) (cs.drop i)).toArray = _
  rw [List.take_of_length_le (by rw [List.length_drop]; omega)]
  rfl

/-! ### callees -/
structure Callee (P : Program) (w : World) (K : PySem.W.Frag) (mg : Str → Option Value) (base : Heap) (CX : CXT) (k : Nat) (x : Str) (f : Addr) (fd : FuncData) (ps : List Str) (sp : Sp) : Prop where
  ok : FnOk P w K mg base CX k f fd ps sp
  mg : mg x = some (.ref f)
  kp : PySem.W.keepIn K (.ref f) = true
  bi : Binds K fd ps []
def Has (P : Program) (w : World) (K : PySem.W.Frag) (mg : Str → Option Value) (base : Heap) (k : Nat) (x : Str) (ps : List Str) (sp : Sp) : Prop := ∃ f fd, Callee P w K mg base CX0 k x f fd ps sp
theorem Has.mono {P : Program} {w : World} {K : PySem.W.Frag} {mg : Str → Option Value} {base : Heap} {j k : Nat} {x : Str} {ps : List Str} {sp : Sp} (h : Has P w K mg base j x ps sp) (l : j ≤ k) : Has P w K mg base k x ps sp := by
  obtain ⟨f, fd, c⟩ := h
  exact ⟨f, fd, c.ok.mono l, c.mg, c.kp, c.bi⟩
/-- a def with a promise for each n: one promise for all up to N -/
theorem has_upto {P : Program} {w : World} {K : PySem.W.Frag} {mg : Str → Option Value} {base : Heap} {k : Nat} {x : Str} {f : Addr} {fd : FuncData} {ps : List Str} {sp : Nat → Sp} (h : ∀ n, Callee P w K mg base CX0 (k + n + 1) x f fd ps (sp n)) (N : Nat) :
    Has P w K mg base (k + N + 1) x ps (fun vs H Q E => ∃ n, n ≤ N ∧ sp n vs H Q E) := by
  refine ⟨f, fd, ⟨fun vs H Q E q => ?_, fun A outer s H args us vs Q E hr e b v q => ?_⟩, (h 0).mg, (h 0).kp, (h 0).bi⟩
  · obtain ⟨n, _, q⟩ := q
    exact (h n).ok.len vs H Q E q
  · obtain ⟨n, hn, q⟩ := q
    exact ((h n).ok.mono (show k + n + 1 ≤ k + N + 1 by omega)).run A outer s H args us vs Q E hr e b v q
/-- a def as it stands behind the top -/
structure DefAt (K : PySem.W.Frag) (mg : Str → Option Value) (x : Str) (st : Stmt) (ps : List Str) : Prop where
  ex : ∃ f fd, Fun K x x st f fd ∧ mg x = some (.ref f) ∧ Binds K fd ps []
section
variable {X : Cx} {k : Nat} {x : Str} {f : Addr} {fd : FuncData} {ps : List Str} {sp : Sp} {p pos : Pos} {e : Expr} {es : List Expr} {t : TA}
theorem cal (C : Callee X.prog X.w X.K X.mg X.base CX0 k x f fd ps sp) (hr : Room k X.A) (hg : Gl X x) (ha : PA X (e :: es) t) (hdb : (x == ("__debug__" : Str)) = false := by decide)
    (he : starEach (e :: es) X.env = (false, eval e X.env) :: starEach es X.env := by rfl) (hpl : (backTo pos (starEach es X.env)).any (·.1) = false := by rfl) : PE X (.Call (.Name x p) (e :: es) [] pos) (tCall sp [] E0 t) :=
  pe_call C.ok hr hg C.mg C.kp C.bi .nil pass0 ha hdb he hpl
end
/-! ### the law's hand: a list of the draws (at d) and a number; all that is asked of it is that it is one -/
def Hd (H : Hp) (h d : Addr) : Prop := ∃ (n : Nat) (ds : List Int), H h = some (.lst [.ref d, .int n]) ∧ H d = some (.lst (ds.map V.int)) ∧ ds.length ≤ 100000
theorem Hd.ne {H : Hp} {h d : Addr} (a : Hd H h d) : d ≠ h := by
  intro q
  obtain ⟨n, ds, e, e2, _⟩ := a
  subst q
  rw [e] at e2
  have q := HO.lst.inj (Option.some.inj e2)
  cases ds with
  | nil => cases q
  | cons x r =>
    have := (List.cons.inj q).1
    cases this
theorem Hd.lst {H : Hp} {h d : Addr} (a : Hd H h d) : ∃ xs, H h = some (.lst xs) := by
  obtain ⟨n, ds, e, _⟩ := a
  exact ⟨_, e⟩
theorem Hd.neH {H : Hp} {h d p : Addr} (a : Hd H h d) (q : H p = none) : h ≠ p := by
  obtain ⟨n, ds, e, _⟩ := a
  exact ne_of_none e q
theorem Hd.neD {H : Hp} {h d p : Addr} (a : Hd H h d) (q : H p = none) : d ≠ p := by
  obtain ⟨n, ds, _, e, _⟩ := a
  exact ne_of_none e q
theorem Hd.keep {S : List Addr} {H H1 : Hp} {h d : Addr} (a : Hd H h d) (k : Keep S H H1) (hh : h ∉ S) (hd : d ∉ S) : Hd H1 h d := by
  obtain ⟨n, ds, e1, e2, l⟩ := a
  exact ⟨n, ds, k.get e1 hh, k.get e2 hd, l⟩
theorem Hd.keep0 {H H1 : Hp} {h d : Addr} (a : Hd H h d) (k : Keep [] H H1) : Hd H1 h d := a.keep k (by simp) (by simp)
theorem Hd.upd {H : Hp} {h d p : Addr} {o : HO} (a : Hd H h d) (q1 : h ≠ p) (q2 : d ≠ p) : Hd (upd H p o) h d := by
  obtain ⟨n, ds, e1, e2, l⟩ := a
  exact ⟨n, ds, by rw [upd_ne q1]; exact e1, by rw [upd_ne q2]; exact e2, l⟩
theorem Hd.new {H : Hp} {h d p : Addr} {o : HO} (a : Hd H h d) (q : H p = none) : Hd (L2.upd H p o) h d := a.upd (a.neH q) (a.neD q)
theorem sizeL {n : Nat} (h : n ≤ 100000) : n ≤ sizeLine := Nat.le_trans h (by decide)
theorem sizeLt {n : Nat} (h : n ≤ 100000) : n < sizeLine := Nat.lt_of_le_of_lt h (by decide)
end Og

namespace Og
open PySem PySem.Spec PyProof.Rows L2
/-! ### tuples of trees: index, slice, concatenation, length, making -/
def cutL {α : Type} (xs : List α) (lo hi : Option Int) : List α := (xs.drop (HT.sIx xs.length 0 lo)).take (HT.sIx xs.length xs.length hi - HT.sIx xs.length 0 lo)
theorem cutL_whole {α : Type} {xs : List α} {lo hi : Option Int} (h : HT.sIx xs.length 0 lo = 0 ∧ HT.sIx xs.length xs.length hi = xs.length) : cutL xs lo hi = xs := by
  unfold cutL
  rw [h.1, h.2, List.drop_zero, Nat.sub_zero, List.take_length]
theorem cutL_to {α : Type} (xs : List α) {j : Nat} (hj : j ≤ xs.length) : cutL xs none (some (j : Int)) = xs.take j := by
  unfold cutL
  rw [HT.sIx_nat, Nat.min_eq_left hj, sIx0, Nat.sub_zero, List.drop_zero]
theorem cutL_from {α : Type} (xs : List α) {i : Nat} (hj : i ≤ xs.length) : cutL xs (some (i : Int)) none = xs.drop i := by
  unfold cutL
  rw [HT.sIx_nat, Nat.min_eq_left hj, HT.sIx_none, List.take_of_length_le (by rw [List.length_drop]; exact Nat.le_refl _)]
theorem cutL_mid {α : Type} (xs : List α) {i j : Nat} (h : i ≤ j) (hj : j ≤ xs.length) : cutL xs (some (i : Int)) (some (j : Int)) = (xs.drop i).take (j - i) := by
  unfold cutL
  rw [HT.sIx_nat, HT.sIx_nat, Nat.min_eq_left hj, Nat.min_eq_left (Nat.le_trans h hj)]
theorem cutL_len {α : Type} (xs : List α) (lo hi : Option Int) : (cutL xs lo hi).length ≤ xs.length := by
  unfold cutL
  rw [List.length_take, List.length_drop]
  omega
theorem cutL_mem {α : Type} {xs : List α} {lo hi : Option Int} {x : α} (h : x ∈ cutL xs lo hi) : x ∈ xs := List.mem_of_mem_drop (List.mem_of_mem_take h)
section
variable {K : PySem.W.Frag} {H : Hp}
theorem Trs.cut {vs : List V} {ts : List Tree} (lo hi : Option Int) (h : Trs K H vs ts) : Trs K H (cutV vs lo hi) (cutL ts lo hi) := by
  unfold cutV cutL
  rw [h.length]
  exact (h.drop _).take _
theorem Tr.tup {v : V} {ts : List Tree} (h : Tr K H v (.l ts)) : ∃ a vs, v = .ref a ∧ SqT K H a vs ∧ vs.length = ts.length := by
  obtain ⟨a, vs, e, hs, r⟩ := h.list
  exact ⟨a, vs, e, hs, r.length⟩
/-- t[lo:hi] -/
theorem sl_tr {x : V} {ts : List Tree} {lo hi : Option Int} {Q : VK} (h : Tr K H x (.l ts)) (q : ∀ v H', Tr K H' v (.l (cutL ts lo hi)) → Keep [] H H' → Q v H') : rSlA K x lo hi H Q := by
  obtain ⟨a, vs, rfl, hs, r⟩ := h.list
  refine ⟨a, vs, rfl, hs, fun w => ?_, fun _ p np => ?_⟩
  · rw [r.length] at w
    exact q _ _ (by rw [cutL_whole w]; exact h) Keep.refl
  · exact q _ _ (tr_tup upd_same ((r.cut lo hi).keep (Keep.new (S := []) np))) (Keep.new np)
/-- t + u -/
theorem cat_tr {x y : V} {ts us : List Tree} {Q : VK} (hx : Tr K H x (.l ts)) (hy : Tr K H y (.l us)) (hz : ts.length + us.length ≤ sizeLine) (q : ∀ v H', Tr K H' v (.l (ts ++ us)) → Keep [] H H' → Q v H') : rCatA K x y H Q := by
  obtain ⟨a, vs, rfl, hs, r⟩ := hx.list
  obtain ⟨b, ws, rfl, hs2, r2⟩ := hy.list
  refine ⟨a, b, vs, ws, rfl, rfl, hs, hs2, by rw [r.length, r2.length]; exact hz, fun e => ?_, fun _ e => ?_, fun _ _ p np => ?_⟩
  · subst e
    have : ts = [] := List.length_eq_zero_iff.mp r.length.symm
    subst this
    exact q _ _ hy Keep.refl
  · subst e
    have : us = [] := List.length_eq_zero_iff.mp r2.length.symm
    subst this
    rw [List.append_nil] at q
    exact q _ _ hx Keep.refl
  · exact q _ _ (tr_tup upd_same ((r.append r2).keep (Keep.new (S := []) np))) (Keep.new np)
/-- t[i] -/
theorem ix_tr {x : V} {ts : List Tree} {i : Int} {t : Tree} {Q : VK} (h : Tr K H x (.l ts)) (e : atI ts i = some t) (q : ∀ v, Tr K H v t → Q v H) : rIxT K x (.int i) H Q := by
  obtain ⟨a, vs, rfl, hs, r⟩ := h.list
  unfold atI at e
  cases hi : ixN ts.length i with
  | none => rw [hi] at e; cases e
  | some j =>
    rw [hi] at e
    obtain ⟨v, hv, tv⟩ := r.get (i := j) e
    refine ⟨a, vs, i, v, rfl, rfl, hs, ?_, q v tv⟩
    unfold atI
    rw [r.length, hi]
    exact hv
/-- len(t) -/
theorem len_tr {x : V} {ts : List Tree} {Q : VK} (h : Tr K H x (.l ts)) (q : Q (.int (ts.length : Nat)) H) : ∃ p ys, [x] = [V.ref p] ∧ (SqL K H p ys ∨ SqT K H p ys) ∧ Q (.int ys.length) H := by
  obtain ⟨a, vs, rfl, hs, r⟩ := h.list
  exact ⟨a, vs, rfl, .inr hs, by rw [r.length]; exact q⟩
/-- (a, b, ..) -/
theorem mk_tr {p : Addr} {vs : List V} {ts : List Tree} (np : H p = none) (r : Trs K H vs ts) : Tr K (upd H p (.tup vs)) (.ref p) (.l ts) ∧ Keep [] H (upd H p (.tup vs)) :=
  ⟨tr_tup upd_same (r.keep (Keep.new (S := []) np)), Keep.new np⟩
end
/-- x != y, x == y of trees one of which is a word -/
def rNeTr (K : PySem.W.Frag) : R2 := fun x y H Q => ∃ t u : Tree, Tr K H x t ∧ Tr K H y u ∧ (t.isW = true ∨ u.isW = true) ∧ ∀ b : Bool, (b = true ↔ t ≠ u) → Q (.bl b) H
def rEqTr (K : PySem.W.Frag) : R2 := fun x y H Q => ∃ t u : Tree, Tr K H x t ∧ Tr K H y u ∧ (t.isW = true ∨ u.isW = true) ∧ ∀ b : Bool, (b = true ↔ t = u) → Q (.bl b) H
theorem op_neTr {X : Cx} (hu : X.A.units + 64 < cLine) : OpR X (compareOp .NotEq) (rNeTr X.K) := by
  intro pins s σ H x y v u Q I rx ry h
  obtain ⟨t, t', hx, hy, hw, q⟩ := h
  cases t with
  | w a =>
    have ex := hx.word
    subst ex
    cases t' with
    | w b =>
      have ey := hy.word
      subst ey
      refine op_ne pins s σ H _ _ v u Q I rx ry ⟨rfl, q _ ?_⟩
      by_cases e : a = b
      · subst e; simp
      · have : ¬ V.str (tx a) = V.str (tx b) := fun z => e (tx_str z)
        have e2 : ¬ Tree.w a = Tree.w b := fun z => e (Tree.w.inj z)
        simp [this, e2]
    | l us =>
      obtain ⟨p, ws, rfl, hs, _⟩ := hy.list
      obtain ⟨its, _, pt, _⟩ := I.tuple hs
      obtain ⟨tk, rfl⟩ := rx
      obtain rfl : u = Value.ref p := ry
      exact SeqAt.RcNeAt.str_tuple _ _ pt (by omega) _ _ _ _ ⟨.bl true, H, I, rfl, q true (by simp)⟩
  | l ts =>
    obtain ⟨p, ws, rfl, hs, _⟩ := hx.list
    cases t' with
    | w b =>
      have ey := hy.word
      subst ey
      obtain ⟨its, _, pt, _⟩ := I.tuple hs
      obtain ⟨tk, rfl⟩ := ry
      obtain rfl : v = Value.ref p := rx
      exact SeqAt.RcNeAt.tuple_str _ _ pt (by omega) _ _ _ _ ⟨.bl true, H, I, rfl, q true (by simp)⟩
    | l us => rcases hw with h | h <;> cases h
theorem op_eqTr {X : Cx} (hu : X.A.units + 64 < cLine) : OpR X (compareOp .Eq) (rEqTr X.K) := by
  intro pins s σ H x y v u Q I rx ry h
  obtain ⟨t, t', hx, hy, hw, q⟩ := h
  cases t with
  | w a =>
    have ex := hx.word
    subst ex
    cases t' with
    | w b =>
      have ey := hy.word
      subst ey
      refine op_eq pins s σ H _ _ v u Q I rx ry ⟨rfl, q _ ?_⟩
      by_cases e : a = b
      · subst e; simp
      · have : ¬ V.str (tx a) = V.str (tx b) := fun z => e (tx_str z)
        have e2 : ¬ Tree.w a = Tree.w b := fun z => e (Tree.w.inj z)
        simp [this, e2]
    | l us =>
      obtain ⟨p, ws, rfl, hs, _⟩ := hy.list
      obtain ⟨its, _, pt, _⟩ := I.tuple hs
      obtain ⟨tk, rfl⟩ := rx
      obtain rfl : u = Value.ref p := ry
      exact SeqAt.RcAt.str_tuple _ _ pt (by omega) _ _ _ _ ⟨.bl false, H, I, rfl, q false (by simp)⟩
  | l ts =>
    obtain ⟨p, ws, rfl, hs, _⟩ := hx.list
    cases t' with
    | w b =>
      have ey := hy.word
      subst ey
      obtain ⟨its, _, pt, _⟩ := I.tuple hs
      obtain ⟨tk, rfl⟩ := ry
      obtain rfl : v = Value.ref p := rx
      exact SeqAt.RcAt.tuple_str _ _ pt (by omega) _ _ _ _ ⟨.bl false, H, I, rfl, q false (by simp)⟩
    | l us => rcases hw with h | h <;> cases h
end Og

namespace Og
open PySem PySem.Spec PyProof.Rows L2
open AutoSeq1 (wpAny_loadPart')
/-! ### xs.extend(t), t a tuple -/
def rExtT (K : PySem.W.Frag) : V → List V → Hp → VK → Prop := fun x vs H Q => ∃ l b xs zs, x = .ref l ∧ vs = [.ref b] ∧ H l = some (.lst xs) ∧ SqT K H b zs ∧ xs.length + zs.length ≤ sizeLine ∧ Q .non (upd H l (.lst (xs ++ zs)))
theorem ext_tuple (l : Addr) (items : Array Value) (n : Nat) (b : Addr) (items2 : Array Value) (n2 : Nat) (dd : Option Addr) (sl : Array (Option Value)) (hs0 : ¬(!items.isEmpty && Builtin.List.listTooLong (items.size + items2.size)) = true) (hs1 : items.size ≤ sizeLine) (hs2 : items.size + items2.size ≤ sizeLine + 1) :
    Meets (Builtin.«list.extend» ⟨[.ref l, .ref b], []⟩) (fun _ R s => s.heap.get? l = some { cls := .type "list", dict := none, data := .seq items n, slots := #[] } ∧ s.heap.get? b = some { cls := .type "tuple", dict := dd, data := .seq items2 n2, slots := sl } ∧ R (.ok (.ret Value.none)) { s with heap := s.heap.update l (Obj.mapSeq fun x => x ++ items2), toks := s.toks }) :=
  .of_wp fun prog w A R s h => by
    obtain ⟨hp, g, d, tk, os⟩ := s; obtain ⟨hl, hb, h⟩ := h; have f1 := AutoSeq1.idx_int; have f2 := AutoSeq1.sub_tuple_tuple; have f3 := AutoSeq1.sub_list_list; have f4 := AutoSeq1.sub_tuple_list; have f5 := AutoSeq1.sub_list_tuple;
    have hz' : (items ++ items2).size ≤ sizeLine + 1 := by rw [Array.size_append]; exact hs2
    wp_walk using (wpAny_updateSeq hl rfl (hz := hs1) (_hz' := hz')), wpAny_loadPart' hl, wpAny_loadPart' hb; exact ⟨_, rfl, h⟩
theorem mt_extendT {X : Cx} : MtM X "list.extend" (rExtT X.K) := by
  intro pins s σ H x vs v us Q I rx rv h
  obtain ⟨l, b, xs, zs, rfl, rfl, hH, hB, hz, q⟩ := h
  cases rx
  obtain ⟨u, rfl, ru⟩ := rv.one
  cases ru
  obtain ⟨z, its, n, r, hl, e⟩ := I.lstM hH
  obtain ⟨its2, r2, ⟨⟨cls, dd, data, sl⟩, e2, hc2, n2, hd2⟩, hz2⟩ := I.tuple hB
  simp only at hc2 hd2
  subst hc2 hd2
  have hl2 := r2.length
  have hsz : its.toArray.size + its2.toArray.size ≤ sizeLine := by rw [List.size_toArray, List.size_toArray]; omega
  have hlong : ¬ (!its.toArray.isEmpty && Builtin.List.listTooLong (its.toArray.size + its2.toArray.size)) = true := by
    rw [notLongL hsz, Bool.and_false]
    exact Bool.false_ne_true
  refine call_meets F.slot_list_extend ⟨_, e, rfl⟩ F.entry_list_extend (F.args_list_extend_2 _ _)
    (ext_tuple l its.toArray n b its2.toArray n2 dd sl hlong (by rw [List.size_toArray]; omega) (by omega)) ⟨e, e2, ?_⟩
  refine ⟨.non, _, I.lset (its' := its ++ its2) hH e (by simp) (r.append r2) ?_, rfl, q⟩
  rw [List.length_append]
  omega
/-! ### t * n -/
theorem tuple_mul1 (l : Addr) (items : Array Value) (n : Nat) (dd : Option Addr) (sl : Array (Option Value)) (u : Tok) :
    Meets (Builtin.«tuple.__mul__» ⟨[.ref l, .int 1 u], []⟩) (fun _ R s => s.heap.get? l = some { cls := .type "tuple", dict := dd, data := .seq items n, slots := sl } ∧ R (.ok (.ret (Value.ref l))) s) :=
  .of_wp fun prog w A R s h => by
    obtain ⟨hp, g, d, tk, os⟩ := s
    obtain ⟨hl, h⟩ := h
    have f1 := AutoSeq1.idx_int
    have c1 : (items.isEmpty || (1 : Int) == 1) = true := by simp
    wp_walk using wpAny_loadPart' hl
    exact ⟨_, rfl, h⟩
theorem tuple_mul0 (l : Addr) (items : Array Value) (n : Nat) (dd : Option Addr) (sl : Array (Option Value)) (u : Tok) (hi : items.isEmpty = false) :
    Meets (Builtin.«tuple.__mul__» ⟨[.ref l, .int 0 u], []⟩) (fun _ R s => s.heap.get? l = some { cls := .type "tuple", dict := dd, data := .seq items n, slots := sl } ∧
      R (.ok (.ret (Value.ref s.heap.objs.size))) { s with heap := s.heap.push { cls := Value.type "tuple", data := Data.seq #[] }, toks := s.toks }) :=
  .of_wp fun prog w A R s h => by
    obtain ⟨hp, g, d, tk, os⟩ := s
    obtain ⟨hl, h⟩ := h
    have f1 := AutoSeq1.idx_int
    have c1 : (items.isEmpty || (0 : Int) == 1) = false := by rw [hi]; rfl
    wp_walk using wpAny_loadPart' hl
    repeat (first
      | (refine wpAny_ite_false (decide_eq_false (by rw [c1]; exact Bool.false_ne_true)) ?_; wp_walk using wpAny_loadPart' hl))
    exact ⟨_, rfl, h⟩
/-- t * k, t not empty, k from 0 -/
def rRepA (K : PySem.W.Frag) : R2 := fun x y H Q => ∃ (l : Addr) (k : Nat) (xs : List V), x = .ref l ∧ y = .int k ∧ SqT K H l xs ∧ xs ≠ [] ∧ k ≤ 1000 ∧ xs.length ≤ 1000 ∧
  (k = 1 → Q (.ref l) H) ∧ (k ≠ 1 → ∀ p, H p = none → Q (.ref p) (upd H p (.tup (List.replicate k xs).flatten)))
theorem op_repA {X : Cx} : OpR X (binaryOp .Mult) (rRepA X.K) := by
  intro pins s σ H x y v u Q I rx ry h
  obtain ⟨l, k, xs, rfl, rfl, hT, hne, h2, hz, q1, q⟩ := h
  by_cases hk2 : 2 ≤ k
  · exact op_repT pins s σ H _ _ v u Q I rx ry ⟨l, k, xs, rfl, rfl, hT, hne, by omega, by omega, hz, by rw [Int.toNat_natCast]; exact q (by omega)⟩
  cases rx
  obtain ⟨t, rfl⟩ := ry
  obtain ⟨its, r, ⟨⟨cls, dd, data, sl⟩, ho, hc, n, hd⟩, hs⟩ := I.tuple hT
  simp only at hc hd
  subst hc hd
  have hle : its.length = xs.length := r.length.symm
  have hi : its.toArray.isEmpty = false := by
    cases its with
    | nil => exact absurd (List.eq_nil_of_length_eq_zero hle.symm) hne
    | cons a b => rfl
  have c : k = 0 ∨ k = 1 := by omega
  rcases c with rfl | rfl
  · refine wpAny_binaryOp_repeat_ref (T := "tuple") (U := "int") (by decide) ⟨_, ho, rfl⟩ (fun s' => typeIs_int s' _ t) noFill_tuple_mul F.fills_int_mul F.slot_int_rmul repeat_tuple F.slot_int_index.lookup
      (call_meets F.slot_int_rmul (typeIs_int s _ t) F.entry_int_rmul (F.args_int_rmul_2 _ _) (int_rmul_tuple _ t l its.toArray n dd sl)
        ⟨ho, rfl, ⟨_, ho, rfl⟩, call_meets F.slot_tuple_mul ⟨_, ho, rfl⟩ F.entry_tuple_mul (F.args_tuple_mul_2 _ _) (tuple_mul0 l its.toArray n dd sl t hi) ⟨ho, ?_⟩⟩)
    refine ⟨.ref s.heap.objs.size, _, I.laid (t' := s.toks) (o := .tup []) (fun b ob q => Heap.get?_push_of_some _ q) (Nat.le_refl _) ?_, rfl, q (by decide) _ (I.hok.fresh (Nat.le_refl _))⟩
    exact ⟨Nat.zero_le _, [], .nil, IsTup.new _ _⟩
  · refine wpAny_binaryOp_repeat_ref (T := "tuple") (U := "int") (by decide) ⟨_, ho, rfl⟩ (fun s' => typeIs_int s' _ t) noFill_tuple_mul F.fills_int_mul F.slot_int_rmul repeat_tuple F.slot_int_index.lookup
      (call_meets F.slot_int_rmul (typeIs_int s _ t) F.entry_int_rmul (F.args_int_rmul_2 _ _) (int_rmul_tuple _ t l its.toArray n dd sl)
        ⟨ho, rfl, ⟨_, ho, rfl⟩, call_meets F.slot_tuple_mul ⟨_, ho, rfl⟩ F.entry_tuple_mul (F.args_tuple_mul_2 _ _) (tuple_mul1 l its.toArray n dd sl t) ⟨ho, ?_⟩⟩)
    exact ⟨.ref l, H, I, rfl, q1 rfl⟩
/-! ### t[::-1], t of two items -/
theorem sliceApplied_rev2 {prog : Program} {w : World} {A : Around} {E : Value → Shared → Prop} {s : Shared} {sl : Addr} {vl vu vs : Value} {Q : Int × Int × Nat → Shared → Prop} (hs : s.heap.IsSliceOf sl vl vu vs) (pl : IsPart vl none) (pu : IsPart vu none) (ps : IsPart vs (some (-1)))
    (h : Q (1, -1, 2) s) : wpAny (model prog w) A (Builtin.Slice.sliceApplied (.ref sl) (pure (2 : Int))) Q E s := by
  obtain ⟨os, hos, hcs, hds⟩ := id hs
  unfold Builtin.Slice.sliceApplied Builtin.Slice.sliceFields
  refine wpAny_bind (wpAny_bind (wpAny_field hos hds (x := vl) rfl (wpAny_bind (wpAny_field hos hds (x := vu) rfl (wpAny_bind (wpAny_field hos hds (x := vs) rfl (wpAny_pure ?_)))))))
  refine wpAny_bind (HT.slicePart_ ps ?_)
  show wpAny _ _ (if ((-1 : Int) == 0) = true then _ else _) _ _ s
  rw [if_neg (by decide)]
  refine wpAny_bind (HT.slicePart_ pl (wpAny_bind (HT.slicePart_ pu (wpAny_bind (wpAny_pure ?_)))))
  exact wpAny_pure h
theorem getItem_tuple_rev2 {prog : Program} {w : World} {A : Around} {E : Value → Shared → Prop} {s : Shared} {t sl : Addr} {u1 u2 : Value} {vl vu vs : Value} {Q : Value → Shared → Prop} (ht : IsTup s.heap t #[u1, u2]) (hs : s.heap.IsSliceOf sl vl vu vs) (pl : IsPart vl none) (pu : IsPart vu none) (ps : IsPart vs (some (-1)))
    (h : Q (.ref s.heap.objs.size) { s with heap := s.heap.push { cls := .type "tuple", data := .seq #[u2, u1] } }) : wpAny (model prog w) A (getItem (.ref t) (.ref sl)) Q E s := by
  obtain ⟨os, hos, hcs, hds⟩ := id hs
  have hTs : s.TypeIs (.ref sl) "slice" := ⟨os, hos, hcs⟩
  unfold getItem
  try with_reducible refine wpAny_holding ?_
  first | refine wpAny_bind (wpAny_pure ?_) | skip
  refine wpAny_bind (wpAny_sequenceKey ht.typeIs (by decide) ?_)
  refine wpAny_bind (wpAny_callSpecial?_slot (name := Str.ofString "__getitem__") ht.typeIs PyProof.Rows.slot_tuple_getitem
    (wpAny_call_entry PyProof.Rows.slot_tuple_getitem ht.typeIs PyProof.Rows.entry_tuple_getitem ?_ (PyProof.Rows.args_tuple_getitem _ _)))
  show wpAny _ _ (Builtin.Tuple.tupleItemsOf (.ref t) >>= _) _ _ s
  refine wpAny_bind (PyProof.Rows.tupleItemsOf_ ht ?_)
  refine wpAny_bind (wpAny_typeOf hTs ?_)
  rw [if_pos (by decide)]
  refine wpAny_bind (sliceApplied_rev2 hs pl pu ps ?_)
  show wpAny _ _ (if ((1 : Int) == 0 && (-1 : Int) == 1 && (2 : Nat) == 2) = true then _ else _) _ _ s
  rw [if_neg (by decide)]
  have e : ((List.range 2).filterMap fun (k : Nat) => (#[u1, u2] : Array Value)[((1 : Int) + (k : Int) * (-1)).toNat]?).toArray = #[u2, u1] := rfl
  rw [e]
  have htake : sizeOk (.seq #[u2, u1]) := by show 2 ≤ sizeLine; decide
  first
    | exact wpAny_bind (m := Builtin.Tuple.tupleExact _) (wpAny_newObj_type (wpAny_pure ⟨_, rfl, wpAny_pure h⟩) htake)
    | exact wpAny_bind (m := Builtin.Tuple.tupleExact _) (wpAny_newObj_type (wpAny_bind (wpAny_pure (wpAny_pure ⟨_, rfl, wpAny_pure h⟩))) htake)
    | exact wpAny_bind (wpAny_bind (m := Builtin.Tuple.tupleExact _) (wpAny_newObj_type (wpAny_pure (wpAny_pure ⟨_, rfl, wpAny_pure h⟩)) htake))
    | exact wpAny_bind (wpAny_bind (m := Builtin.Tuple.tupleExact _) (wpAny_newObj_type (wpAny_pure ⟨_, rfl, wpAny_pure h⟩) htake))
def tRevT2 (K : PySem.W.Frag) (te : TE) : TE := fun σ H Q => te σ H fun x H1 => ∃ a x1 x2, x = .ref a ∧ SqT K H1 a [x1, x2] ∧ ∀ p, H1 p = none → Q (.ref p) (upd H1 p (.tup [x2, x1]))
theorem pe_revT2 {X : Cx} {e : Expr} {te : TE} {k : Nat} {p1 p2 p3 pos : Pos} (he : PE X e te) : PE X (.Subscript e (.Slice none none (some (.UnaryOp .USub (.Constant (.int 1) k p1) p2)) p3) pos) (tRevT2 X.K te) := by
  refine ⟨fun pins s σ H Q I h => ?_⟩
  refine Subscript_ (thn (he.run pins s σ H _ I h) fun v s1 ⟨x, H1, I1, r1, q1⟩ => ?_)
  obtain ⟨a, x1, x2, ex, hx, q⟩ := q1
  subst ex
  cases r1
  have hst : PO X (some (.UnaryOp .USub (.Constant (.int 1) k p1) p2)) (tPart (tUn (rU fun i => .int (-i)) (tC (.int 1)))) := po_some (pe_un un_neg pe_int)
  refine wpAny_Slice (thn (po_none.run pins s1 σ H1 (fun o H2 => o = none ∧ H2 = H1) I1 ⟨rfl, rfl⟩) fun vl s2 ⟨l, H2, I2, pl, el, e2⟩ => ?_)
  subst el e2
  refine thn (po_none.run pins s2 σ H2 (fun o H3 => o = none ∧ H3 = H2) I2 ⟨rfl, rfl⟩) fun vu s3 ⟨u, H3, I3, pu, eu, e3⟩ => ?_
  subst eu e3
  refine thn (hst.run pins s3 σ H3 (fun o H4 => o = some (-1) ∧ H4 = H3) I3 ⟨1, rfl, -1, rfl, rfl, rfl⟩) fun vs s4 ⟨o, H4, I4, ps, eo, e4⟩ => ?_
  subst eo e4
  have I5 : Inv X pins σ H4 { s4 with heap := s4.heap.push { cls := .type "slice", data := .fields #[vl, vu, vs] } } := I4.kept (t' := s4.toks) fun b ob q => Heap.get?_push_of_some _ q
  obtain ⟨its, r, ht, hz⟩ := I5.tuple hx
  obtain ⟨w1, w2, rfl, rw1, rw2⟩ := vals2 r
  show wpAny (model X.prog X.w) X.A (subscriptTail e (.Slice none none (some (.UnaryOp .USub (.Constant (.int 1) k p1) p2)) p3) (.ref a) (.ref s4.heap.objs.size)) (EP X pins σ Q) X.xe { s4 with heap := s4.heap.push { cls := .type "slice", data := .fields #[vl, vu, vs] } }
  refine tail_any (ops := [.ref a, .ref s4.heap.objs.size]) ht.typeIs (PyProof.Rows.slot_tuple_getitem.lookup) ?_ (by with_unfolding_all rfl)
  refine getItem_tuple_rev2 ht (Heap.IsSliceOf.new _ vl vu vs) pl pu ps ?_
  refine ⟨.ref _, _, I5.laid (t' := s4.toks) (o := .tup [x2, x1]) (fun b ob q => Heap.get?_push_of_some _ q) (Nat.le_refl _) ?_, rfl, q _ (I5.hok.fresh (Nat.le_refl _))⟩
  exact ⟨by show 2 ≤ sizeLine; decide, [w2, w1], .cons rw2 (.cons rw1 .nil), IsTup.new _ _⟩
end Og

namespace Og
open PySem
theorem meets_enum1 {v : Value} {o : Obj} {H : Heap → Prop} (B : Begins v o H) :
    Meets (Builtin.«enumerate.__new__» ⟨[.type "enumerate", v], []⟩) (fun _ R s => H s.heap ∧
      R (.ok (.ret (.ref (s.heap.push o).objs.size))) { s with heap := (s.heap.push o).push { cls := .type "enumerate", data := .fields #[.none, .bool false, .ref s.heap.objs.size, rawInt 0, .none, .none] } }) :=
  .of_wp fun prog w A R s h => by
    obtain ⟨hp, g, d, tk, os⟩ := s; obtain ⟨h1, h⟩ := h
    have hsub := sub_enumerate
    have q1 : ∀ {A' : Around} {E : Value → Shared → Prop} {Q : Value → Shared → Prop}, Q (.ref hp.objs.size) ⟨hp.push o, g, d, tk, os⟩ → wpAny (model prog w) A' (pyIter v) Q E ⟨hp, g, d, tk, os⟩ :=
      fun q => B.iter prog w _ _ ⟨hp, g, d, tk, os⟩ _ h1 q
    wp_walk using q1
    refine wpAny_stack_any fun st => wpAny_pure ?_
    split
    · rename_i c _ _ _ _ _
      cases (c == Value.type "enumerate")
      · wp_walk using q1
        exact ⟨_, rfl, h⟩
      · wp_walk using q1
        exact ⟨_, rfl, h⟩
    · wp_walk using q1
      exact ⟨_, rfl, h⟩
section
variable {prog : Program} {w : World} {A : Around} {E : Value → Shared → Prop} {s : Shared}
theorem call_enum1 {v : Value} {o : Obj} {H : Heap → Prop} {Q : Value → Shared → Prop} (B : Begins v o H) (h1 : H s.heap)
    (h : ∀ h', IsEnum h' (s.heap.objs.size + 1) s.heap.objs.size 0 .none → h'.get? s.heap.objs.size = some o → h'.objs.size = s.heap.objs.size + 2 →
      (∀ b o, s.heap.get? b = some o → h'.get? b = some o) → Q (.ref (s.heap.objs.size + 1)) { s with heap := h' }) :
    wpAny (model prog w) A (call (.type "enumerate") [v]) Q E s := by
  refine callType_new F.called_enumerate (by decide) (F.typeCall_enumerate_1 _) (F.newCall_enumerate_1 _) (fun obj => F.args_object_init_2 obj _) F.entry_enumerate_new
    (meets_enum1 B) ⟨h1, ?_⟩
  have hz : (s.heap.push o).objs.size = s.heap.objs.size + 1 := Heap.size_push ..
  show _ ∧ _
  rw [hz]
  have he : IsEnum ((s.heap.push o).push { cls := .type "enumerate", data := .fields #[.none, .bool false, .ref s.heap.objs.size, rawInt 0, .none, .none] }) (s.heap.objs.size + 1) s.heap.objs.size 0 .none := by
    have := Heap.get?_push_size (s.heap.push o) (o := { cls := .type "enumerate", data := .fields #[.none, .bool false, .ref s.heap.objs.size, rawInt 0, .none, .none] }) rfl
    rw [hz] at this; exact this
  refine ⟨⟨_, he, rfl⟩, h _ he (Heap.get?_push_of_some _ (Heap.get?_push_size _ B.free)) (by rw [Heap.size_push, hz]) fun b o x => Heap.get?_push_of_some _ (Heap.get?_push_of_some _ x)⟩
end
end Og
namespace Og
open PySem PySem.Spec PyProof.Rows L2
/-- the tuple at a as it stands at each turn, each item in a new pair -/
def IteT (K : PySem.W.Frag) (a : Addr) : It :=
  ⟨fun i H => ∃ (xs : List V) (x : V), SqT K H a xs ∧ xs[i]? = some x, fun i H v H' => ∃ T x, v = .ref T ∧ H T = none ∧ H' = upd H T (.tup [.int (i : Nat), x]) ∧ ∀ xs, SqT K H a xs → xs[i]? = some x, fun i H => ∃ xs : List V, SqT K H a xs ∧ xs.length = i⟩
theorem turn_enumT {P : Program} {w : World} {K : PySem.W.Frag} {elts : List Expr} {kk : Nat} {tpos : Pos} (a e it : Addr) :
    Turn P w K (.Tuple elts kk tpos) (IteT K a) [e, it] e (fun i h => (∃ old, IsEnum h e it ((i : Nat) : Int) old) ∧ h.IsTupleIter it a i ∧ e ≠ it ∧ a ≠ it ∧ a ≠ e) where
  mem := by simp
  obj := fun i h st b hb => by
    obtain ⟨⟨old, he⟩, ⟨o, ho, hc, hd⟩, _⟩ := st
    have e' : b = e ∨ b = it := by simpa using hb
    rcases e' with z | z
    · rw [z]; exact ⟨_, he, fun v q => nomatch q⟩
    · rw [z]; exact ⟨o, ho, fun v q => by rw [hd] at q; cases q⟩
  keep := fun i h h' st k => let ⟨⟨old, he⟩, hi, hne⟩ := st; ⟨⟨old, k e (by simp) _ he⟩, hi.at fun o q => k it (by simp) o q, hne⟩
  item := by
    intro X hP hw hK hc i pins s σ H E I hf st hg
    subst hP hw hK
    obtain ⟨⟨old, he⟩, hit, hne, hai, hae⟩ := st
    obtain ⟨xs, x, hq, hx⟩ := hg
    obtain ⟨its, rv, p, hz⟩ := I.tuple hq
    obtain ⟨u, hu, ru⟩ := rv.get hx
    have hel : e < s.heap.objs.size := Heap.lt_size he
    have hil : it < s.heap.objs.size := by obtain ⟨_, q, _⟩ := hit; exact Heap.lt_size q
    have hlt : i < its.toArray.size := by
      have := (List.getElem?_eq_some_iff.mp hu).1
      simpa using this
    refine wpAny_pyNext_enum_itemC (Draws.tuple (A := X.A.in1) (show X.A.in1.handled = none from I.ok.hd hc) it a hai its.toArray) he ⟨hit, p⟩ hlt hne (by simp [hne, hae.symm]) fun y h' tk hy ho hit' hT hsz hk => ?_
    have hy' : y = u := by
      have : its.toArray[i]? = some u := by simpa using hu
      rw [this] at hy
      exact (Option.some.inj hy).symm
    subst hy'
    refine ⟨_, rfl, wpAny_letOwnedTupleGo_enum (s := { s with heap := h', toks := tk + 1 }) ho fun h'' he' sb => ?_⟩
    have hT2 : h''.get? s.heap.objs.size = some { cls := .type "tuple", data := .seq #[.int i tk, y] } := (sb.2 _ (Nat.ne_of_gt hel)).trans hT
    have new : ObjOk X.prog X.w (upd H s.heap.objs.size (.tup [.int (i : Nat), x])) h'' s.heap.objs.size (.tup [.int (i : Nat), x]) :=
      ⟨by show 2 ≤ sizeLine; decide, [.int i tk, y], .cons ⟨_, rfl⟩ (.cons ru .nil), ⟨_, hT2, rfl, _, rfl⟩⟩
    have I1 : Inv X pins σ (upd H s.heap.objs.size (.tup [.int (i : Nat), x])) { s with heap := h'', toks := tk + 1 } :=
      I.turnedNew (ch := [e, it]) (fun b ob hb q => (sb.2 b (fun z => hb (by simp [z]))).trans (hk b ob (fun z => hb (by simp [z])) (fun z => hb (by simp [z])) q)) hf (Nat.le_refl _) new
    refine ⟨.ref s.heap.objs.size, _, I1, rfl, ⟨_, x, rfl, I.hok.fresh (Nat.le_refl _), rfl, fun ys hy => by rw [I.tuple_inj hy hq]; exact hx⟩, ⟨⟨y, ?_⟩, hit'.1.at fun o q => (sb.2 it (Ne.symm hne)).trans q, hne, hai, hae⟩, fun b hb => ?_⟩
    · have e1 : ((i + 1 : Nat) : Int) = (i : Int) + 1 := by omega
      rw [e1]; exact he'
    · have hb' : b < s.heap.objs.size := by
        have e' : b = e ∨ b = it := by simpa using hb
        rcases e' with z | z
        · rw [z]; exact hel
        · rw [z]; exact hil
      rw [upd_ne (Nat.ne_of_lt hb')]
      exact (hf b hb).1
  done := by
    intro X hP hw hK hc i pins s σ H E I hf st hg
    subst hP hw hK
    obtain ⟨⟨old, he⟩, hit, hne, hai, hae⟩ := st
    obtain ⟨xs, hq, hx⟩ := hg
    obtain ⟨its, rv, p, hz⟩ := I.tuple hq
    obtain ⟨f0, f1, f2, f3, f4, f5⟩ := hf it (by simp)
    have hl := rv.length
    have hi : i = its.toArray.size := by simp; omega
    rw [hi] at hit
    exact wpAny_pyNext_enum_endD (Draws.tuple (A := X.A.in1) (show X.A.in1.handled = none from I.ok.hd hc) it a hai its.toArray) he ⟨hit, p⟩ fun h' eb => ⟨rfl, I.turned (t' := s.toks) (fun b o hb q => eb b o hb q) f0 f1 f3 f4 f5⟩
  self := fun A i s Q E st h => let ⟨⟨_, he⟩, _⟩ := st; wpAny_pyIter_enum he h
def iEnumT (K : PySem.W.Frag) (ta : TA) : TI := fun σ H R => ta σ H fun vs H1 => ∃ a xs, vs = [.ref a] ∧ SqT K H1 a xs ∧ R (IteT K a) H1
theorem pi_enumT {X : Cx} {e : Expr} {ta : TA} {p pos tpos : Pos} {elts : List Expr} {kk : Nat} (hg : Gl X "enumerate") (hm : X.mg "enumerate" = none) (ha : PA X [e] ta) (hs : starEach [e] X.env = [(false, eval e X.env)] := by rfl) :
    PI X (.Tuple elts kk tpos) (.Call (.Name "enumerate" p) [e] [] pos) (iEnumT X.K ta) := by
  refine ⟨fun pins s σ H R I h => ?_⟩
  refine Call_ (ld_blt I hg hm boot_enumerate (PyProof.Rows.callWith_type1 (thn (ha.run pos pins s σ H _ I h) fun us s1 ⟨vs, H1, I1, r1, q1⟩ => ?_) hs rfl))
  obtain ⟨a, xs, ex, hq, q⟩ := q1
  subst ex
  cases r1 with
  | cons r rr =>
    cases rr
    cases r
    obtain ⟨its, rv, p', hz⟩ := I1.tuple hq
    obtain ⟨oa, hoa, _⟩ := id p'
    have hal := Heap.lt_size hoa
    refine call_enum1 (begins_tuple a its.toArray) p' fun h' he hit hsz hk => wpAny_pyIter_enum he ?_
    have I2 : Inv X pins σ H1 { s1 with heap := h' } := I1.kept (t' := s1.toks) hk
    refine ⟨s1.heap.objs.size + 1, [s1.heap.objs.size + 1, s1.heap.objs.size], _, _, H1, rfl, I2, turn_enumT a (s1.heap.objs.size + 1) s1.heap.objs.size, ⟨⟨.none, he⟩, ⟨_, hit, rfl, rfl⟩, Nat.succ_ne_self _, Nat.ne_of_lt hal, Nat.ne_of_lt (Nat.lt_succ_of_lt hal)⟩, fun b hb => ?_, q⟩
    have e' : b = s1.heap.objs.size + 1 ∨ b = s1.heap.objs.size := by simpa using hb
    have hle : s1.heap.objs.size ≤ b := by
      rcases e' with z | z
      · rw [z]; exact Nat.le_add_right _ _
      · rw [z]; exact Nat.le_refl _
    exact I1.fpOk hle (I1.hok.fresh hle)
/-- a loop over enumerate of a tuple -/
theorem for_enumT {K : PySem.W.Frag} {a : Addr} {xs : List V} {g : TG} {tb : TS} {D : Ends} {σ : L2.St} {H : Hp} (Pv : Nat → L2.St → Hp → Prop) (h0 : Pv 0 σ H) (hq : ∀ i σ H, Pv i σ H → SqT K H a xs)
    (hs : ∀ (i : Nat) (x : V) (T : Addr) (σ : L2.St) (H : Hp), xs[i]? = some x → Pv i σ H → H T = none → g (.ref T) σ (upd H T (.tup [.int (i : Nat), x])) fun σ2 H2 => tb { D with nx := Pv (i + 1), ct := Pv (i + 1), bk := D.nx } σ2 H2) (hd : ∀ σ H, Pv xs.length σ H → D.nx σ H) :
    ∃ W : Nat → Nat → L2.St → Hp → Prop, (∃ m, W 0 m σ H) ∧ ∀ i m σ H, W i m σ H →
      ((IteT K a).stop i H ∧ D.nx σ H) ∨ ((IteT K a).go i H ∧ ∃ N : L2.St → Hp → Prop, (∀ σ' H', N σ' H' → ∃ m', m' < m ∧ W (i + 1) m' σ' H') ∧ ∀ v H', (IteT K a).yld i H v H' → g v σ H' fun σ2 H2 => tb { D with nx := N, ct := N, bk := D.nx } σ2 H2) := by
  refine ⟨fun i m σ H => m = xs.length - i ∧ i ≤ xs.length ∧ Pv i σ H, ⟨xs.length, rfl, Nat.zero_le _, h0⟩, ?_⟩
  rintro i m σ H ⟨rfl, hi, p⟩
  have qx := hq i σ H p
  by_cases hlt : i < xs.length
  · have hx : xs[i]? = some xs[i] := List.getElem?_eq_getElem hlt
    refine .inr ⟨⟨xs, _, qx, hx⟩, Pv (i + 1), fun σ' H' p' => ⟨xs.length - (i + 1), by omega, rfl, hlt, p'⟩, fun v H' y => ?_⟩
    obtain ⟨T, x', rfl, hT, rfl, f1⟩ := y
    exact hs i x' T σ H (f1 xs qx) p hT
  · have e : i = xs.length := by omega
    subst e
    exact .inl ⟨⟨xs, qx, rfl⟩, hd σ H p⟩
end Og

namespace Og
open PySem PySem.Spec PyProof.Rows L2
section
variable {X : Cx} {G : Addr} {e : Expr} {es : List Expr} {ta : TA} {x : Str} {p1 p2 pos : Pos}
/-- C.__init__(self, ..) of an own class C over ValueError that has no __init__ itself -/
theorem pe_clsinit {pl : Sem Bool} (hg : Gl X x) (hm : X.mg x = some (.ref G)) (rd : PySem.W.readsIn X.K G (.type "type") = true) (sg : PySem.W.specialIn X.K (.ref G) "__getattribute__" = some (some (.builtin "type.__getattribute__")))
    (vV : PySem.W.findCls X.K (.ref G) (.type "type") "__init__" = some (.val (.builtin "ValueError.__init__"))) (ha : PA X (e :: es) ta) (hdb : (x == ("__debug__" : Str)) = false := by decide)
    (hc : eval (.Call (.Attribute (.Name x p1) "__init__" p2) (e :: es) [] pos) X.env = (do
      let ob ← eval (.Name x p1) X.env
      standAt p2.atName
      let (fn, fst) ← holding [ob] (getMethod ob "__init__" pl)
      callWith pos fn fst (backTo pos (starEach (e :: es) X.env)) (backToKw pos (keywordEach [] X.env))) := by rfl)
    (hpl : (backTo pos (starEach es X.env)).any (·.1) = false := by rfl)
    (he : starEach (e :: es) X.env = (false, eval e X.env) :: starEach es X.env := by rfl) : PE X (.Call (.Attribute (.Name x p1) "__init__" p2) (e :: es) [] pos) (tVeI X.K ta) := by
  constructor
  intro pins s σ H Q I hQ
  refine PySem.W.methodCall_KW (ld_glob I hg hm ?_ hdb) hc
  refine PySem.W.method_cls I.kIn sg (PySem.W.cls_value I.kIn rd vV (by decide +kernel) ?_)
  refine PyProof.Rows.callWith_method1 (id := "ValueError.__init__") (thn (ha.run pos pins _ σ H _ (I.tok _) hQ) fun us s1 q => ?_) he hpl
  obtain ⟨vs, H1, I1, r1, a, C, ws, rfl, hl, T, ea, q⟩ := q
  cases r1 with
  | cons ra rw' =>
    cases ra
    have few := Paired.length rw'
    exact oinit_ok T I1 ea (by rw [← few, sizeLine_eq]; omega) fun s' J => ⟨.non, H1, J, rfl, q⟩
end
/-! ### callees that may raise -/
def HasX (P : Program) (w : World) (K : PySem.W.Frag) (mg : Str → Option Value) (base : Heap) (k : Nat) (x : Str) (ps : List Str) (sp : Sp) : Prop := ∃ f fd, Callee P w K mg base (L2.CX P w) k x f fd ps sp
theorem HasX.mono {P : Program} {w : World} {K : PySem.W.Frag} {mg : Str → Option Value} {base : Heap} {j k : Nat} {x : Str} {ps : List Str} {sp : Sp} (h : HasX P w K mg base j x ps sp) (l : j ≤ k) : HasX P w K mg base k x ps sp := by
  obtain ⟨f, fd, c⟩ := h
  exact ⟨f, fd, c.ok.mono l, c.mg, c.kp, c.bi⟩
section
variable {X : Cx} {CX : CXT} {E : XK} {k : Nat} {x : Str} {f : Addr} {fd : FuncData} {ps : List Str} {sp : Sp} {p pos : Pos} {e : Expr} {es : List Expr} {t : TA}
theorem calX (C : Callee X.prog X.w X.K X.mg X.base CX k x f fd ps sp) (hr : Room k X.A) (hg : Gl X x) (hx : Passes CX X E) (ha : PA X (e :: es) t) (hdb : (x == ("__debug__" : Str)) = false := by decide)
    (he : starEach (e :: es) X.env = (false, eval e X.env) :: starEach es X.env := by rfl) (hpl : (backTo pos (starEach es X.env)).any (·.1) = false := by rfl) : PE X (.Call (.Name x p) (e :: es) [] pos) (tCall sp [] E t) :=
  pe_call C.ok hr hg C.mg C.kp C.bi .nil hx ha hdb he hpl
end
/-- what a raise C(i) leaves: the error's own dict -/
theorem keep_raised {S : List Addr} {H : Hp} {a dx C : Addr} {f : Str} {i : Int} (na : H a = none) (nd : (upd H a (exo a C none)) dx = none) (ne : dx ≠ a) :
    Keep S H (upd (del (upd (upd (upd H a (exo a C none)) dx (exd dx [(f, .int i)])) a (exo a C (some dx))) a) dx (.xd [(f, .int i)])) := fun b o e => by
  have nd0 : H dx = none := by rw [upd_ne ne] at nd; exact nd
  have ba : b ≠ a := ne_of_none e na
  have bd : b ≠ dx := ne_of_none e nd0
  exact .inl (by rw [upd_ne bd, del_ne ba, upd_ne ba, upd_ne bd, upd_ne ba]; exact e)
/-! ### an own error class C (under GlassError, at G) with a number at one field -/
structure ErrT (K : PySem.W.Frag) (mg : Str → Option Value) (x qual field : Str) (st : Stmt) (C G fI : Addr) (fd : FuncData) : Prop where
  gC : mg x = some (.ref C)
  gG : mg "GlassError" = some (.ref G)
  ox : OexC K C
  iC : PySem.W.findIn K (.ref C) "__init__" = some (some (.ref fI))
  tI : PySem.W.typeIn K (.ref fI) = some (.type "function")
  no : PySem.W.findIn K (.ref C) field = some none
  rd : PySem.W.readsIn K G (.type "type") = true
  sg : PySem.W.specialIn K (.ref G) "__getattribute__" = some (some (.builtin "type.__getattribute__"))
  vV : PySem.W.findCls K (.ref G) (.type "type") "__init__" = some (.val (.builtin "ValueError.__init__"))
  fn : Fun K "__init__" qual st fI fd
  bi : Binds K fd ["self", field] []
structure ErrH (K : PySem.W.Frag) (C G : Addr) : Prop where
  ga : PySem.W.findIn K (.ref C) "__getattribute__" = some (some (.builtin "BaseException.__getattribute__"))
  gg : PySem.W.findIn K (.ref C) "__getattr__" = some none
  hd : PySem.W.hasDictIn K C = true
  ic : PySem.W.isClsIn K C = true
  se : PySem.W.subIn K (.ref C) (.ref C) = some true
  ck : PySem.W.findIn K (.ref C) "__class__" = some (some (.builtin "object.__class__"))
  kG : PySem.W.kitOne K (.ref C) (.ref G) = some true
  kV : PySem.W.kitOne K (.ref C) (.type "ValueError") = some true
  cg : PySem.W.specialIn K (.builtin "object.__class__") "__get__" = some (some (.builtin "getset_descriptor.__get__"))
  ct : PySem.W.takesIn K (.builtin "object.__class__") = some true
  cm : PySem.W.mroIn K C (.type "object") = some true
structure ErrAll (K : PySem.W.Frag) (mg : Str → Option Value) (x qual field : Str) (st : Stmt) : Prop where
  ex : ∃ C G fI fd, ErrT K mg x qual field st C G fI fd ∧ ErrH K C G
/-- an error of the one class is none of the other -/
structure ErrNot (K : PySem.W.Frag) (mg : Str → Option Value) (x y : Str) : Prop where
  no : ∀ a b : Addr, mg x = some (.ref a) → mg y = some (.ref b) → PySem.W.kitOne K (.ref a) (.ref b) = some false
/-- what the __init__ of such a class promises -/
def spErr (K : PySem.W.Frag) (field : Str) : Sp := fun vs H Q _ => ∃ (a C : Addr) (i : Int), vs = [.ref a, .int i] ∧ OexC K C ∧ PySem.W.findIn K (.ref C) field = some none ∧ i.natAbs < 10 ^ 9 ∧ H a = some (exo a C none) ∧
  ∀ dx : Addr, H dx = none → dx ≠ a → Q .non (upd (upd H dx (exd dx [(field, .int i)])) a (exo a C (some dx)))
end Og

namespace Og
open PySem PySem.W PySem.Calls PyProof.Rows
section
variable {prog : Program} {w : World} {A : Around} {E : Value → Shared → Prop} {s : Shared} {K : Frag} {x D : Addr} {ox : Obj} {od : Obj}
/-- e.__class__ of an error with a dict of its own -/
theorem exc_class {Q : Option Value → Shared → Prop} (g1 : findIn K (.ref D) "__getattribute__" = some (some (.builtin "BaseException.__getattribute__"))) (g2 : findIn K (.ref D) "__getattr__" = some none)
    (g3 : subIn K (.ref D) (.type "BaseException") = some true) (g4 : (clsIn K D).isSome = true) (g5 : findIn K (.ref D) "__class__" = some (some (.builtin "object.__class__")))
    (g6 : specialIn K (.builtin "object.__class__") "__get__" = some (some (.builtin "getset_descriptor.__get__"))) (g7 : takesIn K (.builtin "object.__class__") = some true) (g8 : mroIn K D (.type "object") = some true)
    (X : K.In s.heap) (I : InstAt s.heap x ox D (some od)) (fin : Q (some (.ref D)) { s with toks := s.toks + 1 }) : wpAny (model prog w) A (getAttr? (.ref x) "__class__") Q E s := by
  have found : findObj K D (some od) "__class__" = some (.bind (.builtin "getset_descriptor.__get__") (.builtin "object.__class__")) := findObj_data g4 g5 g6 g7
  obtain ⟨hp, ge, dr, tk, os⟩ := s
  have ty := I.type (M := model prog w)
  have la := looks_findIn (M := model prog w) X g1
  have lb := looks_findIn (M := model prog w) X g2
  have lc := looks_find (M := model prog w) X I found
  have isB : Looks (model prog w) hp (isInstance (.ref x) (.type "BaseException")) true := ty.andThen (looks_subIn X g3)
  have ne : (Value.builtin "BaseException.__getattribute__" == Value.builtin "object.__getattribute__") = false := by decide +kernel
  unfold getAttr? getAttrBy? getAttrBy
  refine wpAny_bind (wpAny_mkText (wpAny_bind (wpAny_attempt (wpAny_holding (wpAny_bind (ty.at (wpAny_bind (la.at ?_))))))))
  dsimp only
  rw [ne, Bool.and_false, if_neg Bool.false_ne_true]
  unfold getAttrByItsOwn hookBefore
  refine wpAny_bind ?_
  rw [if_pos (show onTheHeap (Value.ref D) = true from rfl)]
  refine lb.at ?_
  refine wpAny_bind (wpAny_attempt (wpAny_holding ?_))
  unfold callGetattribute
  rw [Bool.false_and, if_neg Bool.false_ne_true]
  unfold boundAndCalled
  rw [PySem.F.excAttr_ValueError.ga.bind (.ref x)]
  refine wpAny_bind (wpAny_pure ?_)
  refine wpAny_call (codeAny_call_builtin PySem.F.excAttr_ValueError.ga.plain PySem.F.entry_bexc_ga ?_)
  refine @check_slot (model prog w) _ _ ⟨hp, ge, dr, tk + 1, os⟩ "BaseException.__getattribute__" "BaseException" "__getattribute__" (.ref x) [.str "__class__" tk] [] _ (by decide +kernel) (by decide +kernel) isB (PySem.F.args_bexc_ga (.ref x) (.str "__class__" tk)) ?_
  unfold Builtin.«object.__getattribute__»
  refine wpAny_bind (wpAny_of_eq (a := ((Value.ref x : Value), [Value.str "__class__" tk])) (by first | rfl | (simp only [slotArgs]; rfl)) ?_)
  refine wpAny_bind (wpAny_pure (wpAny_bind (ty.at (wpAny_bind (lc.at ?_)))))
  refine wpAny_bind (wpAny_holding (wpAny_call (class_get (s := ⟨hp, ge, dr, tk + 1, os⟩) (ox := ox) (od := some od) X I g8 ?_)))
  refine wpAny_pure ?_
  show wpAny _ _ (handedOut (.ref D)) _ _ _
  rw [handedOut_of (v := .ref D) rfl]
  first
    | exact wpAny_pure (wpAny_pure fin)
    | exact wpAny_pure fin
    | exact wpAny_pure (wpAny_bind (wpAny_pure (wpAny_pure fin)))
theorem exc_kit (g1 : findIn K (.ref D) "__getattribute__" = some (some (.builtin "BaseException.__getattribute__"))) (g2 : findIn K (.ref D) "__getattr__" = some none)
    (g3 : subIn K (.ref D) (.type "BaseException") = some true) (g4 : hasDictIn K D = true) (g5 : findIn K (.ref D) "__class__" = some (some (.builtin "object.__class__")))
    (g6 : specialIn K (.builtin "object.__class__") "__get__" = some (some (.builtin "getset_descriptor.__get__"))) (g7 : takesIn K (.builtin "object.__class__") = some true) (g8 : mroIn K D (.type "object") = some true) :
    KitX K (.ref x) (.ref D) (fun h => InstAt h x ox D (some od)) where
  ty := fun _ _ _ I => I.type
  it := fun _ _ X _ => by
    obtain ⟨cd, hc, _⟩ := any_some g4
    unfold clsIn at hc
    split at hc
    · rename_i ho
      intro A' Q' E' s' k q
      unfold isType loadHead
      exact wpAny_bind (wpAny_loadPart (k _ _ (X _ _ ho)) (wpAny_pure q))
    · cases hc
  ne := fun h tp dd its n sl X htp => by
    obtain ⟨cd, hc, _⟩ := any_some g4
    refine Bool.eq_false_iff.mpr fun q => ?_
    have e : D = tp := Value.ref.inj (beq_iff_eq.mp q)
    subst e
    unfold clsIn at hc
    split at hc
    · rename_i ho
      exact nomatch (X _ _ ho).symm.trans htp
    · cases hc
  ca := fun X I k => exc_class g1 g2 g3 (by obtain ⟨cd, hc, _⟩ := any_some g4; rw [hc]; rfl) g5 g6 g7 g8 X I k
end
end Og
namespace Og
open PySem PySem.Spec PyProof.Rows L2
/-- what a suite's reading takes as given -/
theorem pss_ex {α : Type} {X : Cx} {sts : List Stmt} {t : α → TS} (h : ∀ x, PSs X sts (t x)) : PSs X sts (fun D σ H => ∃ x, t x D σ H) := ⟨fun pins s σ H D I q => by
  obtain ⟨x, q⟩ := q
  exact (h x).run pins s σ H D I q⟩
theorem pss_when {C : Prop} {X : Cx} {sts : List Stmt} {t : TS} (h : C → PSs X sts t) : PSs X sts (fun D σ H => C ∧ t D σ H) := ⟨fun pins s σ H D I q => (h q.1).run pins s σ H D I q.2⟩
/-- isinstance(e, c) of the error e that a suite holds, which has a dict of its own -/
def rIsD (K : PySem.W.Frag) (D a dd : Addr) : List V → Hp → VK → Prop := fun xs H Q => ∃ (c : V) (cv : Value) (b : Bool) (fs : List (Str × V)), xs = [.ref a, c] ∧ ClsV c cv ∧ H dd = some (.xd fs) ∧ PySem.W.kitOne K (.ref D) cv = some b ∧ Q (.bl b) H
theorem call_isD {X : Cx} {a D dd : Addr} {oe : Obj} {pn : List (Addr × Obj)} (C : ExcC X.K D) (hz : Zc (.ref D) (some dd) oe) (hf : ∃ vs, oe.data = .fields vs) : CallR (X.suite a ((a, oe) :: pn)) (.builtin "isinstance") (rIsD X.K D a dd) := by
  intro pins s σ H xs us Q I r h
  obtain ⟨c, cv, b, fs, rfl, hcv, ed, e, q⟩ := h
  obtain ⟨u1, u2, rfl, r1, r2⟩ := vals2 r
  have ec := hcv.eq r2
  subst ec
  obtain rfl : u1 = Value.ref a := r1
  obtain ⟨hget, _⟩ := I.pin (a, oe) (List.mem_append.mpr (.inl List.mem_cons_self))
  obtain ⟨vs, hv⟩ := hf
  have hx : ObjOk X.prog X.w H s.heap dd (.xd fs) := I.hok dd _ ed
  obtain ⟨mA, hns, _⟩ := hx
  obtain ⟨odd, ho, _⟩ := lookIn_ns hns
  have J : PySem.W.InstAt s.heap a oe D (some odd) := ⟨hget, hz.1, by unfold PySem.W.notCls; rw [hv], by rw [hz.2]; exact ho⟩
  exact PySem.W.kia_one (exc_kit C.hg C.hk C.hs C.hd C.ha C.hn C.ht C.hm) I.kIn J e (fun z => nomatch z) fun tk => ⟨.bl b, H, I.kept (t' := tk) fun _ _ z => z, rfl, q⟩
end Og

namespace Og
open PySem PySem.Spec PyProof.Rows L2
/-- an error of the class cls with the dict d, held as a value at a -/
def ErV (cls : Value) (d : Option Addr) (a : Addr) : HO := .ext fun h => ∃ (oe : Obj) (vs : Array Value), h.get? a = some oe ∧ Zc cls d oe ∧ oe.data = .fields vs
/-- isinstance(e, c) of such an error -/
def rIsV (K : PySem.W.Frag) : List V → Hp → VK → Prop := fun xs H Q => ∃ (a C dd : Addr) (c : V) (cv : Value) (b : Bool) (fs : List (Str × V)), xs = [.ref a, c] ∧ ClsV c cv ∧ ExcC K C ∧ H a = some (ErV (.ref C) (some dd) a) ∧ H dd = some (.xd fs) ∧ PySem.W.kitOne K (.ref C) cv = some b ∧ Q (.bl b) H
/-- e.f of such an error -/
def tXv (K : PySem.W.Frag) (f : Str) (te : TE) : TE := fun σ H Q => te σ H fun x H1 => ∃ (a C dd : Addr) (fs : List (Str × V)) (v : V), x = .ref a ∧ XfC K C ∧ PySem.W.findIn K (.ref C) f = some none ∧ H1 a = some (ErV (.ref C) (some dd) a) ∧ H1 dd = some (.xd fs) ∧ fs.lookup f = some v ∧ Q v H1
section
variable {X : Cx} {e : Expr} {te : TE} {p pos : Pos}
/-- what makes an error to raise it makes it as a value as well -/
theorem pe_made {t : L2.St → Hp → XK → Prop} (h : PMk X e t) : PE X e (fun σ H Q => t σ H fun cls d H1 => ∀ a : Addr, H1 a = none → Q (.ref a) (upd H1 a (ErV cls d a))) := by
  constructor
  intro pins s0 σ H Q I q
  refine wpAny_mono (h pins s0 σ H _ I q) (fun u s1 hu => ?_) fun _ _ no => no
  obtain ⟨a, oe, vs, sI, H', cls, d, rfl, J, grows, fresh, there, zc, dt, _, na, os, bare, _, q1⟩ := hu
  have new : ObjOk X.prog X.w (upd H' a (ErV cls d a)) s1.heap a (ErV cls d a) := ⟨⟨oe, vs, there, zc, dt⟩, ⟨oe, there⟩, fun _ _ ⟨o, w, y, r⟩ k => ⟨o, w, k o y, r⟩⟩
  exact ⟨.ref a, _, J.call' (ch := []) os (Un.laidN grows fresh na) (J.hok.laidN grows na new) bare (fun b z => absurd z (by simp)), rfl, q1 a na⟩
/-- the error and its dict, in the model's heap -/
theorem erv_at {H : Hp} {s1 : Shared} {a C dd : Addr} {fs : List (Str × V)} (hok : HOk X.prog X.w H s1.heap) (ea : H a = some (ErV (.ref C) (some dd) a)) (ed : H dd = some (.xd fs)) :
    ∃ (oe odd : Obj) (mA : Str → Option Value), PySem.W.InstAt s1.heap a oe C (some odd) ∧ (∀ f, RelO (fs.lookup f) (mA f)) ∧ ∀ f, PySem.W.lookIn f odd = some (mA f) := by
  have xa : ObjOk X.prog X.w H s1.heap a (.ext fun h => ∃ (oe : Obj) (vs : Array Value), h.get? a = some oe ∧ Zc (.ref C) (some dd) oe ∧ oe.data = .fields vs) := hok a _ ea
  have xd : ObjOk X.prog X.w H s1.heap dd (.xd fs) := hok dd _ ed
  obtain ⟨oe, vs, there, zc, dt⟩ := xa.1
  obtain ⟨mA, hns, rel⟩ := xd
  obtain ⟨odd, hd, look⟩ := lookIn_ns hns
  exact ⟨oe, odd, mA, ⟨there, zc.1, by unfold PySem.W.notCls; rw [dt], by rw [zc.2]; exact hd⟩, rel, look⟩
theorem call_isV : CallR X (.builtin "isinstance") (rIsV X.K) := by
  intro pins s1 σ H xs us Q I r h
  obtain ⟨a, C, dd, c, cv, b, fs, rfl, hcv, ec, ea, ed, z, q⟩ := h
  obtain ⟨u1, u2, rfl, v1, v2⟩ := vals2 r
  have ev := hcv.eq v2
  subst ev
  obtain rfl : u1 = Value.ref a := v1
  obtain ⟨oe, odd, mA, J, _, _⟩ := erv_at I.hok ea ed
  exact PySem.W.kia_one (exc_kit ec.hg ec.hk ec.hs ec.hd ec.ha ec.hn ec.ht ec.hm) I.kIn J z (fun y => nomatch y) fun tk => ⟨.bl b, H, I.kept (t' := tk) fun _ _ y => y, rfl, q⟩
theorem pe_xv {n : Str} (he : PE X e te) (hb : attributeBase e n X.env (eval e X.env) = eval e X.env := by rfl) : PE X (.Attribute e n pos) (tXv X.K n te) := by
  constructor
  intro pins s0 σ H Q I h
  refine attr_of hb (thn (he.run pins s0 σ H _ I h) fun u0 s1 g => ?_)
  obtain ⟨x, H1, I1, rx, a, C, dd, fs, v, ex, T, hno, ea, ed, l, q⟩ := g
  subst ex
  obtain rfl : u0 = Value.ref a := rx
  obtain ⟨oe, odd, mA, J, rel, look⟩ := erv_at I1.hok ea ed
  obtain ⟨u, hu, ru⟩ := RelO.some_of (v := v) (o := mA n) (by have := rel n; rw [l] at this; exact this)
  exact HandSPX.exc_get I1.kIn J T.ga T.gg T.exC (PySem.W.findObj_own T.hdC hno rfl (by rw [look, hu])) (handed_of ru) ⟨v, H1, I1.tok _, ru, q⟩
end
end Og

namespace Og
open PySem PySem.Spec PyProof.Rows L2
open PySem.NumText (AllDigits digitsVal)
/-! ### programs as trees, and which are good -/
def qw : List Nat := [113, 117, 111, 116, 101]
def specials : List (List Nat × Nat) := [(qw, 1), ([105, 102], 3), ([115, 97, 109, 101], 2), ([119, 111, 114, 100], 1), ([104, 101, 97, 100], 1), ([116, 97, 105, 108], 1), ([106, 111, 105, 110], 2)]
def spAr (x : List Nat) : Option Nat := (specials.find? fun p => decide (p.1 = x)).map (·.2)
def fn? : Tree → Option (List Nat × List Tree × Tree)
  | .l [.w n, .l ps, b] => some (n, ps, b)
  | _ => none
theorem fn?_iff {t : Tree} {n : List Nat} {ps : List Tree} {b : Tree} : fn? t = some (n, ps, b) ↔ t = .l [.w n, .l ps, b] := by
  unfold fn?
  split
  · rename_i n' ps' b'
    constructor
    · intro h
      have h1 := Option.some.inj h
      have h2 := (Prod.mk.inj h1).1
      have h3 := (Prod.mk.inj h1).2
      have h4 := (Prod.mk.inj h3).1
      have h5 := (Prod.mk.inj h3).2
      rw [h2, h4, h5]
    · intro h
      have h1 := Tree.l.inj h
      have h2 := Tree.w.inj (List.cons.inj h1).1
      have h3 := (List.cons.inj h1).2
      have h4 := Tree.l.inj (List.cons.inj h3).1
      have h5 := (List.cons.inj (List.cons.inj h3).2).1
      rw [h2, h4, h5]
  · rename_i no
    constructor
    · intro h; cases h
    · intro h; exact absurd h (no n ps b)
def arity : List Tree → List Nat → Option Nat
  | [], _ => none
  | t :: r, x => match fn? t with
    | some (n, ps, _) => if n = x then some ps.length else arity r x
    | none => arity r x
/-- how many parts stand behind the word x -/
def parts (fs : List Tree) (x : List Nat) : Option Nat := match spAr x with
  | some k => some k
  | none => arity fs x
mutual
def GoodE (fs ps : List Tree) : Tree → Prop
  | .w x => Tree.w x ∈ ps
  | .l [] => False
  | .l (.l _ :: _) => False
  | .l (.w n :: ts) => parts fs n = some ts.length ∧ (n = qw ∨ GoodEs fs ps ts)
def GoodEs (fs ps : List Tree) : List Tree → Prop
  | [] => True
  | t :: ts => GoodE fs ps t ∧ GoodEs fs ps ts
end
theorem goodE_w {fs ps : List Tree} {x : List Nat} : GoodE fs ps (.w x) ↔ Tree.w x ∈ ps := by rw [GoodE]
theorem goodEs_iff {fs ps : List Tree} : ∀ {ts : List Tree}, GoodEs fs ps ts ↔ ∀ t ∈ ts, GoodE fs ps t
  | [] => by rw [GoodEs]; exact ⟨fun _ t m => absurd m (List.not_mem_nil), fun _ => trivial⟩
  | u :: ts => by
    rw [GoodEs, goodEs_iff]
    constructor
    · rintro ⟨h1, h2⟩ t m
      rcases List.mem_cons.mp m with e | m
      · rw [e]; exact h1
      · exact h2 t m
    · intro h
      exact ⟨h u (List.mem_cons_self ..), fun t m => h t (List.mem_cons_of_mem _ m)⟩
/-- the list's first item is a word, with the right number of parts behind it -/
def Right (fs ts : List Tree) : Prop := ∃ n r, ts = .w n :: r ∧ parts fs n = some r.length
theorem goodE_l {fs ps ts : List Tree} : GoodE fs ps (.l ts) ↔ Right fs ts ∧ (ts.head? = some (.w qw) ∨ ∀ t ∈ ts.tail, GoodE fs ps t) := by
  cases ts with
  | nil =>
    rw [GoodE]
    constructor
    · intro h; exact h.elim
    · rintro ⟨⟨n, r, e, _⟩, _⟩; cases e
  | cons t r =>
    cases t with
    | l us =>
      rw [GoodE]
      constructor
      · intro h; exact h.elim
      · rintro ⟨⟨n, r', e, _⟩, _⟩
        have := (List.cons.inj e).1
        cases this
    | w n =>
      rw [GoodE, goodEs_iff]
      constructor
      · rintro ⟨h1, h2⟩
        refine ⟨⟨n, r, rfl, h1⟩, ?_⟩
        rcases h2 with h2 | h2
        · exact .inl (by rw [h2]; rfl)
        · exact .inr h2
      · rintro ⟨⟨n', r', e, h1⟩, h2⟩
        have e1 := Tree.w.inj (List.cons.inj e).1
        have e2 := (List.cons.inj e).2
        subst e1 e2
        refine ⟨h1, ?_⟩
        rcases h2 with h2 | h2
        · exact .inl (Tree.w.inj (Option.some.inj h2))
        · exact .inr h2
def GoodName (n : Nat) (x : List Nat) : Prop := spAr x = none ∧ ∀ ds, x = 102 :: ds → ds ≠ [] → AllDigits ds → (ds = [48] ∨ ds.head? ≠ some 48) ∧ digitsVal ds < n
def GoodPs (ps : List Tree) : Prop := ps.length ≤ 12 ∧ ∀ (i : Nat) (t : Tree), ps[i]? = some t → ∃ x, t = .w x ∧ spAr x = none ∧ ∀ j : Nat, j < i → ps[j]? ≠ some (.w x)
def Dupe (fs : List Tree) (i : Nat) (x : List Nat) : Prop := ∃ (j : Nat) (r : List Tree), j < i ∧ fs[j]? = some (.l (.w x :: r))
/-- the function is good, but for its name being used earlier -/
def GoodFn (fs : List Tree) (t : Tree) : Prop := ∃ n ps b, t = .l [.w n, .l ps, b] ∧ GoodName fs.length n ∧ GoodPs ps ∧ GoodE fs ps b
def GoodAt (fs : List Tree) (i : Nat) : Prop := ∃ n ps b, fs[i]? = some (.l [.w n, .l ps, b]) ∧ GoodName fs.length n ∧ GoodPs ps ∧ GoodE fs ps b ∧ ¬ Dupe fs i n
/-- what is found: none, or the number of the first function that is not good -/
def BadNo : Tree → Option Nat → Prop
  | .w _, o => o = some 0
  | .l fs, o => (fs = [] ∧ o = some 0) ∨ (fs ≠ [] ∧ ((o = none ∧ ∀ i, i < fs.length → GoodAt fs i) ∨ ∃ i, o = some i ∧ i < fs.length ∧ ¬ GoodAt fs i ∧ ∀ j, j < i → GoodAt fs j))
theorem BadNo.uniq {t : Tree} {a b : Option Nat} (h1 : BadNo t a) (h2 : BadNo t b) : a = b := by
  cases t with
  | w x => rw [show a = some 0 from h1, show b = some 0 from h2]
  | l fs =>
    rcases h1 with ⟨e1, o1⟩ | ⟨n1, h1⟩ <;> rcases h2 with ⟨e2, o2⟩ | ⟨n2, h2⟩
    · rw [o1, o2]
    · exact absurd e1 n2
    · exact absurd e2 n1
    · rcases h1 with ⟨o1, g1⟩ | ⟨i, o1, l1, b1, g1⟩ <;> rcases h2 with ⟨o2, g2⟩ | ⟨j, o2, l2, b2, g2⟩
      · rw [o1, o2]
      · exact absurd (g1 j l2) b2
      · exact absurd (g2 i l1) b1
      · rw [o1, o2]
        rcases Nat.lt_trichotomy i j with h | h | h
        · exact absurd (g2 i h) b1
        · rw [h]
        · exact absurd (g1 j h) b2
theorem arity_app {x : List Nat} : ∀ (a b : List Tree), arity (a ++ b) x = match arity a x with
    | some k => some k
    | none => arity b x
  | [], b => rfl
  | t :: a, b => by
    rw [List.cons_append, arity, arity, arity_app a b]
    cases fn? t with
    | none => rfl
    | some p =>
      obtain ⟨n, ps, bd⟩ := p
      show (if n = x then _ else _) = match (if n = x then _ else _) with | some k => some k | none => arity b x
      by_cases h : n = x
      · rw [if_pos h, if_pos h]
      · rw [if_neg h, if_neg h]
        cases arity a x <;> rfl
theorem arity_one_no {t : Tree} {x : List Nat} (h : fn? t = none) : arity [t] x = none := by
  rw [arity, h]; rfl
theorem arity_one {t : Tree} {n x : List Nat} {ps : List Tree} {b : Tree} (h : fn? t = some (n, ps, b)) : arity [t] x = if n = x then some ps.length else none := by
  rw [arity, h]; rfl
/-! ### numbers in names -/
theorem digitsVal_lt : ∀ (n : Nat) (ds : List Nat), ds.length = n → AllDigits ds → digitsVal ds < 10 ^ n := fun n => by
  induction n with
  | zero =>
    intro ds h _
    rw [List.length_eq_zero_iff.mp h]
    decide
  | succ n ih =>
    intro ds h a
    have ne : ds ≠ [] := by intro e; rw [e] at h; cases h
    obtain ⟨ys, y, rfl⟩ := snoc_of ne
    rw [List.length_append, List.length_singleton] at h
    have h1 := ih ys (by omega) fun c m => a c (List.mem_append.mpr (.inl m))
    have h2 := a y (List.mem_append.mpr (.inr (List.mem_singleton.mpr rfl)))
    rw [NumText.digitsVal_snoc, Nat.pow_succ]
    omega
/-- str(int(ds)) is ds just where there is no leading zero -/
theorem str_digits {ds : List Nat} (h : AllDigits ds) (ne : ds ≠ []) : Str.ofString (toString ((digitsVal ds : Nat) : Int)) = tx ds ↔ (ds = [48] ∨ ds.head? ≠ some 48) := by
  have e := PySem.W.KIN.signs_num (digitsVal ds)
  have chr : ∀ cs : List Nat, AllDigits cs → (cs.map Char.ofNat).map Char.toNat = cs := fun cs hc => by
    rw [List.map_map]
    conv => rhs; rw [← List.map_id cs]
    refine List.map_congr_left fun c m => ?_
    have := hc c m
    have v : ∀ k, k < 58 → (Char.ofNat k).toNat = k := by decide
    exact v c (by omega)
  obtain ⟨c, r, rfl⟩ : ∃ c r, ds = c :: r := by
    cases ds with
    | nil => exact absurd rfl ne
    | cons c r => exact ⟨c, r, rfl⟩
  have hc := h c (List.mem_cons_self ..)
  constructor
  · intro q
    rw [q] at e
    have e' : c :: r = (Nat.toDigits 10 (digitsVal (c :: r))).map Char.toNat := e
    by_cases z : c = 48
    · left
      subst z
      rw [NumText.toDigits_all _ h] at e'
      have d : ((48 :: r).dropWhile (· == 48)).length ≤ r.length := by
        rw [List.dropWhile_cons]
        exact (List.dropWhile_sublist _).length_le
      cases hd : (48 :: r).dropWhile (· == 48) with
      | nil =>
        rw [hd] at e'
        exact e'
      | cons a b =>
        rw [hd] at e' d
        have := congrArg List.length e'
        simp at this
        simp at d
        omega
    · right
      intro q2
      exact z (Option.some.inj q2)
  · intro q
    have key : (Nat.toDigits 10 (digitsVal (c :: r))).map Char.toNat = c :: r := by
      rcases q with q | q
      · rw [q]; decide
      · have z : c ≠ 48 := fun e => q (by rw [e]; rfl)
        rw [NumText.toDigits_digitsVal r.length (c :: r) (by rw [List.length_cons]) h (.inr ⟨c, r, rfl, by omega⟩)]
        exact chr _ h
    rw [key] at e
    rw [tx_of (Str.ofString (toString ((digitsVal (c :: r) : Nat) : Int))), e]
end Og

namespace Og
open PySem PySem.Spec PyProof.Rows L2
open PySem.NumText (AllDigits digitsVal)
/-! ### a dict of the module, of texts and numbers -/
def Ents : List DictEntry → List (List Nat × Nat) → Prop
  | [], [] => True
  | e :: r, p :: q => (∃ t, e.key = .str (tx p.1) t) ∧ (∃ t, e.val = .int (p.2 : Nat) t) ∧ Ents r q
  | _, _ => False
theorem Ents.find {z : List Nat} : ∀ {es : List DictEntry} {L : List (List Nat × Nat)}, Ents es L →
    match L.find? (fun p => decide (p.1 = z)) with
    | some p => ∃ e t, es.find? (·.key.isStr (tx z)) = some e ∧ e.val = .int (p.2 : Nat) t
    | none => es.find? (·.key.isStr (tx z)) = none ∧ es.any (·.refKey) = false
  | [], [], _ => ⟨rfl, rfl⟩
  | [], p :: q, h => h.elim
  | e :: r, [], h => h.elim
  | e :: r, p :: q, h => by
    obtain ⟨⟨t1, h1⟩, ⟨t2, h2⟩, h3⟩ := h
    have ih := Ents.find (z := z) h3
    have k1 : e.key.isStr (tx z) = decide (p.1 = z) := by
      rw [h1]
      show (tx p.1 == tx z) = _
      by_cases c : p.1 = z
      · rw [c, decide_eq_true rfl]; simp
      · rw [decide_eq_false c]
        exact beq_eq_false_iff_ne.mpr fun e => c (tx_inj e)
    have k2 : e.refKey = false := by
      unfold DictEntry.refKey
      rw [h1]
    rw [List.find?_cons, List.find?_cons, k1, List.any_cons, k2]
    by_cases c : p.1 = z
    · rw [decide_eq_true c]
      exact ⟨e, t2, rfl, h2⟩
    · rw [decide_eq_false c]
      exact ih
structure DictC (K : PySem.W.Frag) (w : World) (mg : Str → Option Value) (x : Str) (L : List (List Nat × Nat)) : Prop where
  ex : ∃ d es n, mg x = some (.ref d) ∧ KDict K w d es n ∧ Ents es.toList L
/-- the same, at d -/
structure DictD (K : PySem.W.Frag) (w : World) (L : List (List Nat × Nat)) (d : Addr) : Prop where
  ex : ∃ es n, KDict K w d es n ∧ Ents es.toList L
section
variable {K : PySem.W.Frag} {w : World} {L : List (List Nat × Nat)} {d : Addr} {X : Cx}
theorem DictD.get (D : DictD K w L d) (z : List Nat) : match L.find? (fun p => decide (p.1 = z)) with
    | some p => ∃ t, PySem.W.nsIn K d (tx z) = some (some (.int (p.2 : Nat) t))
    | none => PySem.W.nsIn K d (tx z) = some none := by
  obtain ⟨es, n, kd, en⟩ := D.ex
  have h := Ents.find (z := z) en
  cases hf : L.find? (fun p => decide (p.1 = z)) with
  | some p =>
    rw [hf] at h
    obtain ⟨e, t, h1, h2⟩ := h
    refine ⟨t, ?_⟩
    unfold PySem.W.nsIn
    rw [kd.at_]
    show (match es.toList.find? (·.key.isStr (tx z)) with | some e => some (some e.val) | none => _) = _
    rw [h1]
    show some (some e.val) = _
    rw [h2]
  | none =>
    rw [hf] at h
    unfold PySem.W.nsIn
    rw [kd.at_]
    show (match es.toList.find? (·.key.isStr (tx z)) with | some e => some (some e.val) | none => if es.toList.any (·.refKey) then none else some none) = _
    rw [h.1]
    show (if es.toList.any (·.refKey) then none else some none) = _
    rw [h.2]
    rfl
/-- x in D -/
def rInC (L : List (List Nat × Nat)) (d : Addr) : R2 := fun x y H Q => ∃ z, x = .str (tx z) ∧ y = .ref d ∧ Q (.bl (L.find? (fun p => decide (p.1 = z))).isSome) H
theorem op_inC (D : DictD X.K X.w L d) : OpR X (compareOp .In) (rInC L d) := by
  intro pins s σ H x y v u Q I rx ry h
  obtain ⟨z, rfl, rfl, q⟩ := h
  have g := D.get z
  obtain ⟨es, n, kd, en⟩ := D.ex
  cases hf : L.find? (fun p => decide (p.1 = z)) with
  | some p =>
    rw [hf] at g q
    obtain ⟨tk, g⟩ := g
    exact op_in_kd kd pins s σ H _ _ v u Q I rx ry ⟨tx z, _, rfl, rfl, g, q⟩
  | none =>
    rw [hf] at g q
    exact op_in_kd kd pins s σ H _ _ v u Q I rx ry ⟨tx z, _, rfl, rfl, g, q⟩
theorem DictD.item (D : DictD K w L d) {z : List Nat} {p : List Nat × Nat} (hf : L.find? (fun p => decide (p.1 = z)) = some p) : KDct K w d (tx z) (.int (p.2 : Nat)) := by
  have g := D.get z
  rw [hf] at g
  obtain ⟨tk, g⟩ := g
  obtain ⟨es, n, kd, en⟩ := D.ex
  exact ⟨es, n, _, kd.at_, kd.lit, g, tk, rfl⟩
end
theorem spAr_isSome (z : List Nat) : (specials.find? (fun p => decide (p.1 = z))).isSome = (spAr z).isSome := by
  unfold spAr
  cases specials.find? (fun p => decide (p.1 = z)) <;> rfl
/-! ### texts -/
theorem lit_f : ("f" : Str) = tx [102] := by decide +kernel
theorem sw_f (x : List Nat) : Txt.startswith (tx x) (tx [102]) = decide (x.head? = some 102) := by
  unfold Txt.startswith
  rw [PySem.StrLaws.subAt_eq, tx_list, tx_list, tx_len, tx_len]
  cases x with
  | nil => rfl
  | cons c r =>
    rw [List.drop_zero]
    show (decide (0 + 1 ≤ (c :: r).length) && (List.take 1 (c :: r) == [102])) = _
    have h : decide (0 + 1 ≤ (c :: r).length) = true := decide_eq_true (by rw [List.length_cons]; omega)
    rw [h, Bool.true_and]
    show ([c] == [102]) = decide (some c = some 102)
    by_cases e : c = 102
    · subst e; rfl
    · rw [decide_eq_false (fun z => e (Option.some.inj z))]
      exact beq_eq_false_iff_ne.mpr fun z => e (List.cons.inj z).1
theorem isdigit_iff {x : List Nat} (h : ∀ c ∈ x, c < 128) : Txt.isdigit (tx x) = true ↔ x ≠ [] ∧ AllDigits x := by
  unfold Txt.isdigit
  rw [tx_len, ← Array.all_toList]
  show (decide (x.length > 0) && x.all Unicode.isDigit) = true ↔ _
  rw [Bool.and_eq_true, decide_eq_true_eq, List.all_eq_true]
  have d : ∀ c, c < 128 → Unicode.isDigit c = decide (48 ≤ c ∧ c ≤ 57) := by decide +kernel
  constructor
  · rintro ⟨h1, h2⟩
    refine ⟨by intro e; rw [e] at h1; exact absurd h1 (by decide), fun c m => ?_⟩
    have := h2 c m
    rw [d c (h c m)] at this
    exact of_decide_eq_true this
  · rintro ⟨h1, h2⟩
    refine ⟨List.length_pos_iff.mpr h1, fun c m => ?_⟩
    rw [d c (h c m)]
    exact decide_eq_true (h2 c m)
end Og

namespace Og
open PySem PySem.Spec PyProof.Rows L2
def topS (i : Nat) : Stmt := PySem.Challenge.pw_ownglass_k25_rings.main.body.getD i (.Pass ⟨0, 0, 0, 0⟩)
abbrev s_check_program : Stmt := topS 7
abbrev n_check_program : List Str := ["value", "called", "earlier_names", "number", "function"]
abbrev p_check_program : List Str := ["value"]
theorem sc_check_program : FnScope n_check_program p_check_program (defScope s_check_program) := ⟨rfl, rfl, rfl, by decide +kernel, rfl, by decide +kernel, by decide +kernel⟩
abbrev s_inputs_of : Stmt := topS 8
abbrev n_inputs_of : List Str := ["program"]
abbrev p_inputs_of : List Str := ["program"]
theorem sc_inputs_of : FnScope n_inputs_of p_inputs_of (defScope s_inputs_of) := ⟨rfl, rfl, rfl, by decide +kernel, rfl, by decide +kernel, by decide +kernel⟩
abbrev s_called_functions : Stmt := topS 9
abbrev n_called_functions : List Str := ["program", "called", "item"]
abbrev p_called_functions : List Str := ["program"]
theorem sc_called_functions : FnScope n_called_functions p_called_functions (defScope s_called_functions) := ⟨rfl, rfl, rfl, by decide +kernel, rfl, by decide +kernel, by decide +kernel⟩
abbrev s_looks_like_function : Stmt := topS 10
abbrev n_looks_like_function : List Str := ["item"]
abbrev p_looks_like_function : List Str := ["item"]
theorem sc_looks_like_function : FnScope n_looks_like_function p_looks_like_function (defScope s_looks_like_function) := ⟨rfl, rfl, rfl, by decide +kernel, rfl, by decide +kernel, by decide +kernel⟩
abbrev s_is_good_function : Stmt := topS 11
abbrev n_is_good_function : List Str := ["function", "called", "many_items", "name", "parameters", "body"]
abbrev p_is_good_function : List Str := ["function", "called", "many_items"]
theorem sc_is_good_function : FnScope n_is_good_function p_is_good_function (defScope s_is_good_function) := ⟨rfl, rfl, rfl, by decide +kernel, rfl, by decide +kernel, by decide +kernel⟩
abbrev s_is_good_name : Stmt := topS 12
abbrev n_is_good_name : List Str := ["name", "many_items", "digits", "number"]
abbrev p_is_good_name : List Str := ["name", "many_items"]
theorem sc_is_good_name : FnScope n_is_good_name p_is_good_name (defScope s_is_good_name) := ⟨rfl, rfl, rfl, by decide +kernel, rfl, by decide +kernel, by decide +kernel⟩
abbrev s_are_good_parameters : Stmt := topS 13
abbrev n_are_good_parameters : List Str := ["parameters", "earlier", "parameter"]
abbrev p_are_good_parameters : List Str := ["parameters"]
theorem sc_are_good_parameters : FnScope n_are_good_parameters p_are_good_parameters (defScope s_are_good_parameters) := ⟨rfl, rfl, rfl, by decide +kernel, rfl, by decide +kernel, by decide +kernel⟩
abbrev s_is_good_body : Stmt := topS 14
abbrev n_is_good_body : List Str := ["body", "parameters", "called", "waiting", "part"]
abbrev p_is_good_body : List Str := ["body", "parameters", "called"]
theorem sc_is_good_body : FnScope n_is_good_body p_is_good_body (defScope s_is_good_body) := ⟨rfl, rfl, rfl, by decide +kernel, rfl, by decide +kernel, by decide +kernel⟩
abbrev s_has_right_parts : Stmt := topS 15
abbrev n_has_right_parts : List Str := ["expression", "called", "word", "many_parts"]
abbrev p_has_right_parts : List Str := ["expression", "called"]
theorem sc_has_right_parts : FnScope n_has_right_parts p_has_right_parts (defScope s_has_right_parts) := ⟨rfl, rfl, rfl, by decide +kernel, rfl, by decide +kernel, by decide +kernel⟩
abbrev s_fill : Stmt := topS 18
abbrev n_fill : List Str := ["program", "value", "many_inputs"]
abbrev p_fill : List Str := ["program", "value"]
theorem sc_fill : FnScope n_fill p_fill (defScope s_fill) := ⟨rfl, rfl, rfl, by decide +kernel, rfl, by decide +kernel, by decide +kernel⟩
abbrev s_made_name : Stmt := topS 19
abbrev n_made_name : List Str := ["number"]
abbrev p_made_name : List Str := ["number"]
theorem sc_made_name : FnScope n_made_name p_made_name (defScope s_made_name) := ⟨rfl, rfl, rfl, by decide +kernel, rfl, by decide +kernel, by decide +kernel⟩
abbrev s_made_parameters : Stmt := topS 20
abbrev n_made_parameters : List Str := ["count", "number"]
abbrev p_made_parameters : List Str := ["count"]
theorem sc_made_parameters : FnScope n_made_parameters p_made_parameters (defScope s_made_parameters) := ⟨rfl, rfl, rfl, by decide +kernel, rfl, by decide +kernel, by decide +kernel⟩
abbrev s_listing : Stmt := topS 21
abbrev n_listing : List Str := ["expressions", "expression", "item"]
abbrev p_listing : List Str := ["expressions"]
theorem sc_listing : FnScope n_listing p_listing (defScope s_listing) := ⟨rfl, rfl, rfl, by decide +kernel, rfl, by decide +kernel, by decide +kernel⟩
abbrev s_filled : Stmt := topS 22
abbrev n_filled : List Str := ["program", "value", "parameters", "body"]
abbrev p_filled : List Str := ["program", "value"]
theorem sc_filled : FnScope n_filled p_filled (defScope s_filled) := ⟨rfl, rfl, rfl, by decide +kernel, rfl, by decide +kernel, by decide +kernel⟩
abbrev s_side_by_side : Stmt := topS 23
abbrev n_side_by_side : List Str := ["programs", "functions", "mains", "program"]
abbrev p_side_by_side : List Str := ["programs"]
theorem sc_side_by_side : FnScope n_side_by_side p_side_by_side (defScope s_side_by_side) := ⟨rfl, rfl, rfl, by decide +kernel, rfl, by decide +kernel, by decide +kernel⟩
abbrev s_with_front : Stmt := topS 24
abbrev n_with_front : List Str := ["functions", "parameters", "body"]
abbrev p_with_front : List Str := ["functions", "parameters", "body"]
theorem sc_with_front : FnScope n_with_front p_with_front (defScope s_with_front) := ⟨rfl, rfl, rfl, by decide +kernel, rfl, by decide +kernel, by decide +kernel⟩
abbrev s_renamed_good : Stmt := topS 25
abbrev n_renamed_good : List Str := ["program", "start", "names", "at", "function", "functions", "name", "parameters", "body"]
abbrev p_renamed_good : List Str := ["program", "start"]
theorem sc_renamed_good : FnScope n_renamed_good p_renamed_good (defScope s_renamed_good) := ⟨rfl, rfl, rfl, by decide +kernel, rfl, by decide +kernel, by decide +kernel⟩
abbrev s_renamed_body : Stmt := topS 26
abbrev n_renamed_body : List Str := ["body", "names", "done", "expression", "word", "start", "parts"]
abbrev p_renamed_body : List Str := ["body", "names"]
theorem sc_renamed_body : FnScope n_renamed_body p_renamed_body (defScope s_renamed_body) := ⟨rfl, rfl, rfl, by decide +kernel, rfl, by decide +kernel, by decide +kernel⟩
abbrev s_expressions_of : Stmt := topS 27
abbrev n_expressions_of : List Str := ["body", "expressions", "waiting", "expression"]
abbrev p_expressions_of : List Str := ["body"]
theorem sc_expressions_of : FnScope n_expressions_of p_expressions_of (defScope s_expressions_of) := ⟨rfl, rfl, rfl, by decide +kernel, rfl, by decide +kernel, by decide +kernel⟩
abbrev s_know_own : Stmt := topS 30
abbrev n_know_own : List Str := ["program", "many_inputs", "parameters", "functions", "mains", "body", "reader"]
abbrev p_know_own : List Str := ["program"]
theorem sc_know_own : FnScope n_know_own p_know_own (defScope s_know_own) := ⟨rfl, rfl, rfl, by decide +kernel, rfl, by decide +kernel, by decide +kernel⟩
abbrev s_ring : Stmt := topS 31
abbrev n_ring : List Str := ["programs", "counts", "program", "many_inputs", "_", "words", "number", "parameters", "functions", "mains", "texts", "body", "main", "chooser", "word"]
abbrev p_ring : List Str := ["programs"]
theorem sc_ring : FnScope n_ring p_ring (defScope s_ring) := ⟨rfl, rfl, rfl, by decide +kernel, rfl, by decide +kernel, by decide +kernel⟩
abbrev s_text_of_filled : Stmt := topS 32
abbrev n_text_of_filled : List Str := ["number", "parameters", "quoted", "call", "front"]
abbrev p_text_of_filled : List Str := ["number", "parameters"]
theorem sc_text_of_filled : FnScope n_text_of_filled p_text_of_filled (defScope s_text_of_filled) := ⟨rfl, rfl, rfl, by decide +kernel, rfl, by decide +kernel, by decide +kernel⟩
abbrev s_texts_of_ring : Stmt := topS 33
abbrev n_texts_of_ring : List Str := ["number", "words", "parameters", "texts", "word", "front"]
abbrev p_texts_of_ring : List Str := ["number", "words", "parameters"]
theorem sc_texts_of_ring : FnScope n_texts_of_ring p_texts_of_ring (defScope s_texts_of_ring) := ⟨rfl, rfl, rfl, by decide +kernel, rfl, by decide +kernel, by decide +kernel⟩
abbrev s_choice_by_word : Stmt := topS 34
abbrev n_choice_by_word : List Str := ["words", "calls", "body", "at"]
abbrev p_choice_by_word : List Str := ["words", "calls"]
theorem sc_choice_by_word : FnScope n_choice_by_word p_choice_by_word (defScope s_choice_by_word) := ⟨rfl, rfl, rfl, by decide +kernel, rfl, by decide +kernel, by decide +kernel⟩
abbrev s_law_draws : Stmt := topS 36
abbrev n_law_draws : List Str := ["script", "many", "rests", "cell", "draws", "k", "at", "mixed"]
abbrev p_law_draws : List Str := ["script", "many"]
theorem sc_law_draws : FnScope n_law_draws p_law_draws (defScope s_law_draws) := ⟨rfl, rfl, rfl, by decide +kernel, rfl, by decide +kernel, by decide +kernel⟩
abbrev s_law_take : Stmt := topS 37
abbrev n_law_take : List Str := ["hand", "many", "at", "draws"]
abbrev p_law_take : List Str := ["hand", "many"]
theorem sc_law_take : FnScope n_law_take p_law_take (defScope s_law_take) := ⟨rfl, rfl, rfl, by decide +kernel, rfl, by decide +kernel, by decide +kernel⟩
abbrev s_law_value : Stmt := topS 38
abbrev n_law_value : List Str := ["hand", "depth", "k"]
abbrev p_law_value : List Str := ["hand", "depth"]
theorem sc_law_value : FnScope n_law_value p_law_value (defScope s_law_value) := ⟨rfl, rfl, rfl, by decide +kernel, rfl, by decide +kernel, by decide +kernel⟩
abbrev s_law_expression : Stmt := topS 39
abbrev n_law_expression : List Str := ["hand", "parameters", "calls", "depth", "kind", "parts", "k", "left", "name", "many"]
abbrev p_law_expression : List Str := ["hand", "parameters", "calls", "depth"]
theorem sc_law_expression : FnScope n_law_expression p_law_expression (defScope s_law_expression) := ⟨rfl, rfl, rfl, by decide +kernel, rfl, by decide +kernel, by decide +kernel⟩
abbrev s_law_library : Stmt := topS 40
abbrev n_law_library : List Str := ["has", "within", "put", "turn"]
abbrev p_law_library : List Str := []
theorem sc_law_library : FnScope n_law_library p_law_library (defScope s_law_library) := ⟨rfl, rfl, rfl, by decide +kernel, rfl, by decide +kernel, by decide +kernel⟩
abbrev s_law_program : Stmt := topS 41
abbrev n_law_program : List Str := ["hand", "inputs", "more", "calls", "one", "functions", "k", "name", "parameters", "main"]
abbrev p_law_program : List Str := ["hand", "inputs"]
theorem sc_law_program : FnScope n_law_program p_law_program (defScope s_law_program) := ⟨rfl, rfl, rfl, by decide +kernel, rfl, by decide +kernel, by decide +kernel⟩
abbrev s_law_do : Stmt := topS 42
abbrev n_law_do : List Str := ["word", "found", "last", "first"]
abbrev p_law_do : List Str := ["word", "found"]
theorem sc_law_do : FnScope n_law_do p_law_do (defScope s_law_do) := ⟨rfl, rfl, rfl, by decide +kernel, rfl, by decide +kernel, by decide +kernel⟩
abbrev s_law_small : Stmt := topS 43
abbrev n_law_small : List Str := ["value", "waiting", "turn", "one", "item"]
abbrev p_law_small : List Str := ["value"]
theorem sc_law_small : FnScope n_law_small p_law_small (defScope s_law_small) := ⟨rfl, rfl, rfl, by decide +kernel, rfl, by decide +kernel, by decide +kernel⟩
abbrev s_law_run : Stmt := topS 44
abbrev n_law_run : List Str := ["program", "inputs", "limit", "bodies", "name", "parameters", "body", "names", "k", "todo", "found", "steps", "turn", "task", "branch", "one", "word"]
abbrev p_law_run : List Str := ["program", "inputs", "limit"]
theorem sc_law_run : FnScope n_law_run p_law_run (defScope s_law_run) := ⟨rfl, rfl, rfl, by decide +kernel, rfl, by decide +kernel, by decide +kernel⟩
abbrev s_law : Stmt := topS 45
abbrev n_law : List Str := ["script", "hand", "many", "programs", "k", "kept", "made", "inputs", "due", "found"]
abbrev p_law : List Str := ["script"]
theorem sc_law : FnScope n_law p_law (defScope s_law) := ⟨rfl, rfl, rfl, by decide +kernel, rfl, by decide +kernel, by decide +kernel⟩
abbrev s_BadProgram_init : Stmt := inClass (topS 2) 0
abbrev n_BadProgram_init : List Str := ["self", "function"]
abbrev p_BadProgram_init : List Str := ["self", "function"]
theorem sc_BadProgram_init : FnScope n_BadProgram_init p_BadProgram_init (defScope s_BadProgram_init) := ⟨rfl, rfl, rfl, by decide +kernel, rfl, by decide +kernel, by decide +kernel⟩
/-- the constants of the module -/
structure Mc (mg : Str → Option Value) : Prop where
  MOST_PARAMETERS : ∃ t, mg "MOST_PARAMETERS" = some (.int 12 t)
  MOST_INPUTS : ∃ t, mg "MOST_INPUTS" = some (.int 8 t)
  MOST_PROGRAMS : ∃ t, mg "MOST_PROGRAMS" = some (.int 12 t)
/-- the names of built-ins that no row of the program gives another meaning -/
structure Bn (mg : Str → Option Value) : Prop where
  len : mg "len" = none
  range : mg "range" = none
  int : mg "int" = none
  abs : mg "abs" = none
  str : mg "str" = none
  tuple : mg "tuple" = none
  list : mg "list" = none
  bool : mg "bool" = none
  isinstance : mg "isinstance" = none
  ValueError : mg "ValueError" = none
  enumerate : mg "enumerate" = none
  set : mg "set" = none
  reversed : mg "reversed" = none
/-- what law(script) promises: for a list of at most 63 ints the answer is True -/
def spLaw (K : PySem.W.Frag) : Sp := fun vs H Q _ => ∃ (a : Addr) (ns : List Int), vs = [.ref a] ∧ SqL K H a (ns.map V.int) ∧ ns.length ≤ 63 ∧ ∀ H', Q (.bl true) H'
end Og

namespace Og
open PySem PySem.Spec PyProof.Rows L2
section
variable {P : Program} {w : World} {K : PySem.W.Frag} {mg : Str → Option Value} {base : Heap}
def spDraws (K : PySem.W.Frag) : Sp := fun vs H Q _ => ∃ (a : Addr) (ns : List Int) (m : Nat), vs = [.ref a, .int m] ∧ SqL K H a (ns.map V.int) ∧ ns.length ≤ 63 ∧ m ≤ 100000 ∧
  ∀ (p : Addr) (ds : List Int) (H' : Hp), Keep [] H H' → H p = none → H' p = some (.lst (ds.map V.int)) → ds.length = m → Q (.ref p) H'
theorem has_draws {k : Nat} (D : DefAt K mg "_law_draws" s_law_draws p_law_draws) (B : Bn mg) : Has P w K mg base (k + 1) "_law_draws" p_law_draws (spDraws K) := by
  obtain ⟨f, fd, F, hm, hb⟩ := D.ex
  refine ⟨f, fd, F.ok sc_law_draws (fun vs H Q E h => ?_) (fun cdv A outer s H vs Q E hr h => ?_), hm, F.kp, hb⟩
  · obtain ⟨a, ns, m, rfl, _⟩ := h
    rfl
  obtain ⟨a, ns, m, rfl, hS, h63, hm1, q⟩ := h
  refine ⟨_, (pss_cons (ps_setLc (i := 2) (own := [("cell", 3)]) (g := gName 3) (tt := tYes) rfl sc_law_draws.nd rfl rfl (sw_true rfl rfl rfl (by decide +kernel)) (pi_list (pv 0)) (blkOk_by (N := n_law_draws) (sc := defScope s_law_draws) (by decide +kernel)) (fun _ _ _ _ _ => pg_name (i := 3) sc_law_draws.nd rfl (Or.inl rfl)) (fun _ _ _ _ _ => pts_nil) (fun _ _ _ _ _ => (pe_callB call_abs (by rfl) B.abs (by decide +kernel) (pa_cons (pe_callTy call_int1 (by rfl) B.int (by decide +kernel) (pa_cons (pv 3) pa_nil)) pa_nil))))
    (pss_cons (ps_set (i := 4) sc_law_draws.nd rfl (.inl rfl) (pe_lst pa_nil))
    (pss_cons (ps_for PassesOwn.never rfl (pi_range1 (by rfl) B.range (pa_cons (pv 1) pa_nil)) (pg_name (i := 5) sc_law_draws.nd rfl (.inl rfl))
      (pss_cons (ps_set (i := 3) sc_law_draws.nd rfl (.inl rfl) (pv 5))
      (C8.pss_cut (ps_if (pt_cmpR op_gt (pe_callB call_len_seq (by rfl) B.len PySem.boot_len (pa_cons (pv 0) pa_nil)) pe_int (nomark _)) (pss_cons (ps_set (i := 6) sc_law_draws.nd rfl (.inl rfl) (pe_op op_mod (pv 5) (pe_callB call_len_seq (by rfl) B.len PySem.boot_len (pa_cons (pv 0) pa_nil))))
        (pss_cons (ps_set (i := 3) sc_law_draws.nd rfl (.inl rfl) (pe_callTy call_int1 (by rfl) B.int (by decide +kernel) (pa_cons (pe_ix ix_list (pv 0) (pv 6) (fun _ _ => rfl)) pa_nil)))
        (pss_one (ps_if (PW.pt (pw_and (pt_cmpR op_ge (pv 3) (pe_op op_pow pe_int pe_int) (nomark _)) (pw_and1 (pt_cmpR op_gt (pe_ix ix_list (pv 2) (pv 6) (fun _ _ => rfl)) pe_int (nomark _))))) (pss_cons (ps_expr (pe_bm PySem.F.plainAttrs_list PySem.F.slot_list_append PySem.F.type_list_append mt_append (pv 4) (pa_cons (pe_op op_mod (pe_callTy call_int1 (by rfl) B.int (by decide +kernel) (pa_cons (pe_ix ix_list (pv 2) (pv 6) (fun _ _ => rfl)) pa_nil)) pe_int) pa_nil)))
          (pss_cons (ps_asg (pe_op op_fdiv (pe_callTy call_int1 (by rfl) B.int (by decide +kernel) (pa_cons (pe_ix ix_list (pv 2) (pv 6) (fun _ _ => rfl)) pa_nil)) pe_int) (pg_sub (pv 2) (pv 6) set_list))
          (pss_one ps_continue))) pss_nil)))) pss_nil)
      (pss_cons (ps_set (i := 7) sc_law_draws.nd rfl (.inl rfl) (pe_op op_mod (pe_callTy call_int1 (by rfl) B.int (by decide +kernel) (pa_cons (pe_op op_add (pe_op op_add (pe_op op_mul (pv 3) pe_int) (pe_op op_mul (pv 5) pe_int)) pe_int) pa_nil)) pe_int))
      (pss_cons (ps_set (i := 7) sc_law_draws.nd rfl (.inl rfl) (pe_op op_mod (pe_callTy call_int1 (by rfl) B.int (by decide +kernel) (pa_cons (pe_op op_add (pe_op op_fdiv (pe_op op_mul (pv 7) (pv 7)) pe_int) (pv 7)) pa_nil)) pe_int))
      (pss_one (ps_expr (pe_bm PySem.F.plainAttrs_list PySem.F.slot_list_append PySem.F.type_list_append mt_append (pv 4) (pa_cons (pe_op op_mod (pe_callTy call_int1 (by rfl) B.int (by decide +kernel) (pa_cons (pe_op op_add (pe_op op_fdiv (pe_op op_mul (pv 7) (pv 7)) pe_int) (pe_op op_mul (pv 5) pe_int)) pa_nil)) pe_int) pa_nil)))))))))
    (pss_one (ps_ret (pv 4)))))), ?_⟩
  -- rests
  refine ⟨_, rfl, a, rfl, ⟨_, hS⟩, fun r nr => ?_⟩
  refine lc_list (K := K) (a := a) (xs := ns.map V.int) (fun i H' => Keep [] H H' ∧ ∃ rs : List Int, rs.length = i ∧ H' r = some (.lst (rs.map V.int))) ⟨Keep.new nr, [], rfl, upd_same⟩ (fun i H' _ p => p.1.sqL (by simp) hS) (fun i x H1 hx p => ?_) (fun H1 p => ?_)
  · obtain ⟨n, rfl, hn⟩ := map_int_get hx
    obtain ⟨k1, rs, e1, e2⟩ := p
    have hi : i < ns.length := (List.getElem?_eq_some_iff.mp hn).1
    refine ⟨rfl, yes ?_⟩
    refine ⟨_, rfl, .inl ⟨_, rfl, _, rfl, _, e2, ?_, ?_⟩⟩
    · rw [List.length_map]
      exact sizeLt (by omega)
    · refine ⟨(k1.cons.setT e2 (List.mem_cons_self ..)).drop nr, rs ++ [if n < 0 then -n else n], (by rw [List.length_append, e1]; rfl), ?_⟩
      rw [upd_same, map_int_app]
  -- draws
  obtain ⟨k1, rs, e1, e2⟩ := p
  rw [List.length_map] at e1
  refine ⟨Nat.zero_le _, fun d nd => ?_⟩
  have k2 : Keep [] H (upd H1 d (.lst [])) := k1.newT nd
  have drn : d ≠ r := (ne_of_none e2 nd).symm
  have nd0 : H d = none := k1.free nd
  have nr0 : H r = none := nr
  refine ⟨_, rfl, (m : Int), rfl, by omega, by omega, ?_⟩
  refine for_range (lo := 0) (n := (m : Int).toNat) (fun i σ H' => ∃ y3 y5 y6 y7, σ = [some (.ref a), some (.int m), some (.ref r), y3, some (.ref d), y5, y6, y7] ∧ Keep [] H H' ∧ (∃ rs : List Int, rs.length = ns.length ∧ H' r = some (.lst (rs.map V.int))) ∧ ∃ ds : List Int, ds.length = i ∧ H' d = some (.lst (ds.map V.int)))
    ⟨_, _, _, _, rfl, k2, ⟨rs, e1, by rw [upd_ne drn.symm]; exact e2⟩, [], rfl, upd_same⟩ (fun i σ H2 hi p => ?_) (fun σ H2 p => ?_)
  · obtain ⟨y3, y5, y6, y7, rfl, k3, ⟨rs, e3, e4⟩, ds, e5, e6⟩ := p
    have sL : SqL K H2 a (ns.map V.int) := k3.sqL (by simp) hS
    have dsz : (ds.map V.int).length < sizeLine := by rw [List.length_map]; exact sizeLt (by omega)
    -- cell = k
    refine ⟨_, rfl, ?_⟩
    refine ⟨fun σ' H' => H' = H2 ∧ ∃ (cell : Int) (y6 y7 : Option V), σ' = [some (.ref a), some (.int m), some (.ref r), some (.int cell), some (.ref d), some (.int (0 + i)), y6, y7], ?_, fun σ' H' hmid => ?_⟩
    refine ⟨_, rfl, _, _, rfl, .inl sL, _, _, rfl, rfl, _, rfl, ?_⟩
    refine ite2 (fun c => ?_) (fun c => ?_)
    · have c0 : (0 : Int) < ((ns.map V.int).length : Nat) := of_decide_eq_true c
      rw [List.length_map] at c0
      have at0 : 0 ≤ (0 + (i : Int)) % (ns.length : Int) := Int.emod_nonneg _ (by omega)
      have at1 : (0 + (i : Int)) % (ns.length : Int) < (ns.length : Int) := Int.emod_lt_of_pos _ c0
      obtain ⟨x, hx⟩ := atI_int (ns := ns) at0 at1
      obtain ⟨y, hy⟩ := atI_int (ns := rs) at0 (by rw [e3]; exact at1)
      refine ⟨_, rfl, _, rfl, _, _, rfl, .inl sL, _, _, rfl, rfl, (by show (0 : Int) < _; rw [List.length_map]; exact c0), ?_⟩
      rw [List.length_map]
      refine ⟨_, rfl, _, rfl, _, _, _, _, rfl, rfl, sL, hx, .inl ⟨_, rfl, ?_⟩⟩
      refine ⟨_, rfl, _, _, rfl, rfl, ⟨by decide, by decide, by decide⟩, _, _, rfl, rfl, _, rfl, ?_⟩
      refine ite2 (fun c1 => ?_) (fun c1 => ?_)
      · refine ⟨_, rfl, _, rfl, _, _, _, _, rfl, rfl, SqL.of e4, hy, _, _, rfl, rfl, _, rfl, ?_⟩
        refine ite2 (fun c2 => ?_) (fun c2 => ?_)
        · -- draws.append(..), rests[at] = .., continue
          refine ⟨_, rfl, .inl ⟨rfl, _, SqL.of e6⟩, _, rfl, _, rfl, _, _, _, _, rfl, rfl, SqL.of e4, hy, .inl ⟨_, rfl, _, _, rfl, rfl, by show (0 : Int) < 1000003; decide, _, _, _, rfl, rfl, e6, dsz, ?_⟩⟩
          have e4' : (upd H2 d (.lst (ds.map V.int ++ [.int (y % 1000003)]))) r = some (.lst (rs.map V.int)) := by rw [upd_ne drn.symm]; exact e4
          refine ⟨_, rfl, _, rfl, _, _, _, _, rfl, rfl, SqL.of e4', hy, .inl ⟨_, rfl, _, _, rfl, rfl, ⟨by decide, by decide⟩, _, rfl, _, rfl, _, _, _, _, rfl, rfl, e4', ixN_int at0 (by rw [List.length_map, e3]; exact at1), ?_⟩⟩
          refine ⟨_, _, _, _, rfl, ?_, ⟨rs.set ((0 + (i : Int)) % (ns.length : Int)).toNat (y / 1000003), by rw [List.length_set]; exact e3, by rw [upd_same, map_int_set]⟩, ds ++ [y % 1000003], by rw [List.length_append, e5]; rfl, by rw [upd_ne drn, upd_same, map_int_app]⟩
          exact (((k3.cons (p := d)).setT e6 (List.mem_cons_self ..)).cons (p := r)).setT e4' (List.mem_cons_self ..) |>.drop nr0 |>.drop nd0
        · exact ⟨rfl, _, _, _, rfl⟩
      · exact ⟨rfl, _, _, _, rfl⟩
    · exact ⟨rfl, _, _, _, rfl⟩
    · obtain ⟨rfl, cell, y6, y7, rfl⟩ := hmid
      have big : ∀ z : Int, 0 ≤ z % 2147483647 ∧ z % 2147483647 < 2147483647 := fun z => ⟨Int.emod_nonneg _ (by decide), Int.emod_lt_of_pos _ (by decide)⟩
      have big2 : ∀ z : Int, 0 ≤ z % 2147483629 ∧ z % 2147483629 < 2147483629 := fun z => ⟨Int.emod_nonneg _ (by decide), Int.emod_lt_of_pos _ (by decide)⟩
      refine ⟨_, rfl, _, _, rfl, rfl, .inr ⟨by decide, by decide⟩, _, rfl, _, _, rfl, rfl, .inr ⟨by decide, by decide⟩, _, _, rfl, rfl, _, _, rfl, rfl, .inl ⟨_, rfl, _, _, rfl, rfl, by show (0 : Int) < 2147483647; decide, ?_⟩⟩
      generalize e1 : (cell * 48271 + (0 + (i : Int)) * 69621 + 11) % 2147483647 = m1
      have b1 := big (cell * 48271 + (0 + (i : Int)) * 69621 + 11)
      rw [e1] at b1
      refine ⟨_, rfl, _, rfl, _, _, rfl, rfl, .inl ⟨by omega, by omega⟩, _, _, rfl, rfl, ⟨by decide, by decide⟩, _, rfl, _, _, rfl, rfl, .inl ⟨_, rfl, _, _, rfl, rfl, by show (0 : Int) < 2147483629; decide, ?_⟩⟩
      generalize e2 : (m1 * m1 / 4096 + m1) % 2147483629 = m2
      have b2 := big2 (m1 * m1 / 4096 + m1)
      rw [e2] at b2
      refine ⟨_, rfl, .inl ⟨rfl, _, SqL.of e6⟩, _, rfl, _, rfl, _, _, rfl, rfl, .inl ⟨by omega, by omega⟩, _, _, rfl, rfl, ⟨by decide, by decide⟩, _, rfl, _, _, rfl, rfl, .inr ⟨by decide, by decide⟩, _, _, rfl, rfl, .inl ⟨_, rfl, _, _, rfl, rfl, by show (0 : Int) < 2147483629; decide, _, _, _, rfl, rfl, e6, dsz, ?_⟩⟩
      exact ⟨_, _, _, _, rfl, (k3.cons.setT e6 (List.mem_cons_self ..)).drop nd0, ⟨rs, e3, by rw [upd_ne drn.symm]; exact e4⟩, ds ++ [_], by rw [List.length_append, e5]; rfl, by rw [upd_same, map_int_app]⟩
  · obtain ⟨y3, y5, y6, y7, rfl, k3, _, ds, e5, e6⟩ := p
    refine ⟨_, rfl, ?_⟩
    exact q d ds H2 k3 nd0 e6 (by omega)
end
end Og

namespace Og
open PySem PySem.Spec PyProof.Rows L2
section
variable {P : Program} {w : World} {K : PySem.W.Frag} {mg : Str → Option Value} {base : Heap}
def spTake : Sp := fun vs H Q _ => ∃ (h d : Addr) (m : Int), vs = [.ref h, .int m] ∧ Hd H h d ∧ 0 < m ∧
  ∀ (i : Int) (H' : Hp), 0 ≤ i → i < m → Keep [h] H H' → Hd H' h d → Q (.int i) H'
theorem has_take {k : Nat} (D : DefAt K mg "_law_take" s_law_take p_law_take) (B : Bn mg) : Has P w K mg base (k + 1) "_law_take" p_law_take spTake := by
  obtain ⟨f, fd, F, hm, hb⟩ := D.ex
  refine ⟨f, fd, F.ok sc_law_take (fun vs H Q E h => ?_) (fun cdv A outer s H vs Q E hr h => ?_), hm, F.kp, hb⟩
  · obtain ⟨a, d, m, rfl, _⟩ := h
    rfl
  obtain ⟨a, d, m, rfl, hd, hm1, q⟩ := h
  refine ⟨_, (pss_cons (ps_set (i := 2) sc_law_take.nd rfl (.inl rfl) (pe_ix ix_list (pv 0) pe_int (fun _ _ => rfl)))
    (pss_cons (ps_asg (pe_op op_add (pv 2) pe_int) (pg_sub (pv 0) pe_int set_list))
    (pss_cons (ps_set (i := 3) sc_law_take.nd rfl (.inl rfl) (pe_ix ix_list (pv 0) pe_int (fun _ _ => rfl)))
    (pss_cons (ps_if (pt_cmpR op_ge (pv 2) (pe_callB call_len_seq (by rfl) B.len PySem.boot_len (pa_cons (pv 3) pa_nil)) (nomark _)) (pss_one (ps_ret pe_int)) pss_nil)
    (pss_one (ps_ret (pe_op op_mod (pe_op op_fdiv (pe_callTy call_int1 (by rfl) B.int (by decide +kernel) (pa_cons (pe_ix ix_list (pv 3) (pv 2) (fun _ _ => rfl)) pa_nil)) pe_int) (pv 1)))))))), ?_⟩
  obtain ⟨n, ds, e1, e2, l⟩ := id hd
  refine ⟨_, rfl, _, _, _, _, rfl, rfl, SqL.of e1, rfl, ?_⟩
  refine ⟨_, rfl, _, _, rfl, rfl, _, rfl, _, _, _, _, rfl, rfl, e1, rfl, ?_⟩
  have e3 : (upd H a (.lst [.ref d, .int ((n : Int) + 1)])) a = some (.lst [.ref d, .int ((n : Int) + 1)]) := upd_same
  have e4 : (upd H a (.lst [.ref d, .int ((n : Int) + 1)])) d = some (.lst (ds.map V.int)) := by rw [upd_ne hd.ne]; exact e2
  have k1 : Keep [a] H (upd H a (.lst [.ref d, .int ((n : Int) + 1)])) := Keep.set e1 (List.mem_cons_self ..)
  have hd2 : Hd (upd H a (.lst [.ref d, .int ((n : Int) + 1)])) a d := ⟨n + 1, ds, upd_same, e4, l⟩
  refine ⟨_, rfl, _, _, _, _, rfl, rfl, SqL.of e3, rfl, ?_⟩
  refine ⟨_, rfl, _, rfl, _, _, rfl, .inl (SqL.of e4), _, _, rfl, rfl, _, rfl, ?_⟩
  refine ite2 (fun c => ?_) (fun c => ?_)
  · exact q 0 _ (by omega) hm1 k1 hd2
  · have c' : ¬ (((ds.map V.int).length : Nat) : Int) ≤ (n : Int) := of_decide_eq_false (Bool.eq_false_iff.mpr c)
    rw [List.length_map] at c'
    obtain ⟨x, hx⟩ := atI_int (ns := ds) (z := (n : Int)) (by omega) (by omega)
    refine ⟨_, rfl, _, rfl, _, _, _, _, rfl, rfl, SqL.of e4, hx, .inl ⟨_, rfl, _, _, rfl, rfl, ⟨by decide, by decide⟩, _, rfl, _, _, rfl, rfl, hm1, ?_⟩⟩
    exact q _ _ (Int.emod_nonneg _ (by omega)) (Int.emod_lt_of_pos _ hm1) k1 hd2
end
end Og

namespace Og
open PySem PySem.Spec PyProof.Rows L2
section
variable {P : Program} {w : World} {K : PySem.W.Frag} {mg : Str → Option Value} {base : Heap}
theorem str_len_app (a b : Str) : (a ++ b).length = a.length + b.length := by
  show (a.cps ++ b.cps).size = a.cps.size + b.cps.size
  simp
theorem num_fits {i : Int} (h : i.natAbs < 10 ^ 9) : (toString i : String).length ≤ 10 ∧ i.natAbs.log2 < 1920 := by
  refine ⟨int_text_length_le10 (by decide) h, ?_⟩
  have : i.natAbs.log2 ≤ i.natAbs.log2 := Nat.le_refl _
  by_cases hz : i.natAbs = 0
  · rw [hz]; decide
  · exact Nat.lt_trans ((Nat.log2_lt hz).mpr (show i.natAbs < 2 ^ 30 from Nat.lt_trans h (by decide))) (by decide)
theorem ok_BadProgram' {C G fI : Addr} {fd : FuncData} (T : ErrT K mg "BadProgram" "BadProgram.__init__" "function" s_BadProgram_init C G fI fd) : FnOk P w K mg base CX0 1 fI fd ["self", "function"] (spErr K "function") := by
  refine T.fn.ok sc_BadProgram_init (fun vs H Q E h => ?_) (fun cdv A outer s H vs Q E hr h => ?_)
  · obtain ⟨_, _, _, rfl, _⟩ := h
    rfl
  obtain ⟨a, C', i, rfl, ox, no, hi, ea, q⟩ := h
  refine ⟨_, pss_cons (ps_expr (pe_clsinit rfl T.gG T.rd T.sg T.vV (pa_cons (pv 0) (pa_cons (pe_joined (.cons pe_str (.cons (pe_fmt (pv 1)) (.cons pe_str .nil)))) pa_nil)))) (pss_one (ps_ost (pv 0) (pv 1))), ?_⟩
  have nf := num_fits hi
  have l1 : (Str.ofString (toString i)).length ≤ 10 := by rw [PySem.ofString_length]; exact nf.1
  have l0 : (Str.empty ++ Str.ofString "function ").length ≤ 100 := by decide +kernel
  have l2 : (Str.ofString " of the program is not good").length ≤ 100 := by decide +kernel
  refine ⟨_, rfl, _, rfl, ?_, _, rfl, .inr ⟨i, rfl, nf.2, _, rfl, ?_, _, rfl, ?_, ?_⟩⟩
  · exact Nat.le_trans l0 (by decide)
  · rw [str_len_app]
    exact Nat.le_trans (show _ ≤ 1000 by omega) (by decide)
  · rw [str_len_app, str_len_app]
    exact Nat.le_trans (show _ ≤ 1000 by omega) (by decide)
  · refine ⟨a, C', _, rfl, by show 1 ≤ 1000; decide, ox, ea, ?_⟩
    exact ⟨_, rfl, _, rfl, a, C', rfl, ox, no, .inl ⟨ea, fun dx hd ne => q dx hd ne⟩⟩
end
end Og

namespace Og
open PySem PySem.Spec PyProof.Rows L2
/-- a small letter; a letter or a digit -/
def Letter (c : Nat) : Prop := 97 ≤ c ∧ c ≤ 122
def Sign (c : Nat) : Prop := (97 ≤ c ∧ c ≤ 122) ∨ (48 ≤ c ∧ c ≤ 57)
/-- a word of the document -/
def IsWord (x : List Nat) : Prop := ∃ c cs, x = c :: cs ∧ Letter c ∧ (∀ y ∈ cs, Sign y) ∧ cs.length ≤ 11
theorem IsWord.ne {x : List Nat} (h : IsWord x) : x ≠ [] := by
  obtain ⟨c, cs, rfl, _⟩ := h
  simp
theorem IsWord.len {x : List Nat} (h : IsWord x) : x.length ≤ 12 := by
  obtain ⟨c, cs, rfl, _, _, l⟩ := h
  rw [List.length_cons]
  omega
theorem lit_letters : ("abcdefghijklmnopqrstuvwxyz" : Str) = tx ((List.range 26).map (· + 97)) := by decide +kernel
theorem lit_digits : ("0123456789" : Str) = tx ((List.range 10).map (· + 48)) := by decide +kernel
theorem letters_at {z : Int} (h0 : 0 ≤ z) (h : z < 26) : ∃ c, atI ((List.range 26).map (· + 97)) z = some c ∧ Letter c := by
  obtain ⟨x, h1, h2⟩ := atI_of (xs := (List.range 26).map (· + 97)) h0 (by simpa using h)
  refine ⟨x, h1, ?_⟩
  have m := List.mem_of_getElem? h2
  obtain ⟨y, hy, rfl⟩ := List.mem_map.mp m
  have := List.mem_range.mp hy
  exact ⟨by omega, by omega⟩
theorem signs_at {z : Int} (h0 : 0 ≤ z) (h : z < 36) : ∃ c, atI ((List.range 26).map (· + 97) ++ (List.range 10).map (· + 48)) z = some c ∧ Sign c := by
  obtain ⟨x, h1, h2⟩ := atI_of (xs := (List.range 26).map (· + 97) ++ (List.range 10).map (· + 48)) h0 (by simpa using h)
  refine ⟨x, h1, ?_⟩
  have m := List.mem_of_getElem? h2
  rcases List.mem_append.mp m with m | m
  · obtain ⟨y, hy, rfl⟩ := List.mem_map.mp m
    have := List.mem_range.mp hy
    exact .inl ⟨by omega, by omega⟩
  · obtain ⟨y, hy, rfl⟩ := List.mem_map.mp m
    have := List.mem_range.mp hy
    exact .inr ⟨by omega, by omega⟩
theorem four {j : Int} (h0 : 0 ≤ j) (h : j < 4) : j = 0 ∨ j = 1 ∨ j = 2 ∨ j = 3 := by omega
end Og

namespace Og
open PySem PySem.Spec PyProof.Rows L2
/-! ### drawn trees -/
mutual
def WT : Tree → Prop
  | .w x => IsWord x
  | .l ts => WTs ts
def WTs : List Tree → Prop
  | [] => True
  | t :: ts => WT t ∧ WTs ts
end
mutual
def Tree.size : Tree → Nat
  | .w _ => 1
  | .l ts => sizes ts + 1
def sizes : List Tree → Nat
  | [] => 0
  | t :: ts => t.size + sizes ts
end
theorem wt_w {x : List Nat} (h : IsWord x) : WT (.w x) := by rw [WT]; exact h
theorem wt_l {ts : List Tree} (h : WTs ts) : WT (.l ts) := by rw [WT]; exact h
theorem WT.word {x : List Nat} (h : WT (.w x)) : IsWord x := by rw [WT] at h; exact h
theorem WT.list {ts : List Tree} (h : WT (.l ts)) : WTs ts := by rw [WT] at h; exact h
theorem wts_nil : WTs [] := by rw [WTs]; trivial
theorem wts_cons {t : Tree} {ts : List Tree} (h : WT t) (r : WTs ts) : WTs (t :: ts) := by rw [WTs]; exact ⟨h, r⟩
theorem WTs.head {t : Tree} {ts : List Tree} (h : WTs (t :: ts)) : WT t := by rw [WTs] at h; exact h.1
theorem WTs.tail {t : Tree} {ts : List Tree} (h : WTs (t :: ts)) : WTs ts := by rw [WTs] at h; exact h.2
theorem WTs.app : ∀ {ts us : List Tree}, WTs ts → WTs us → WTs (ts ++ us)
  | [], us, _, g => g
  | t :: ts, us, h, g => wts_cons h.head (WTs.app h.tail g)
theorem WTs.all : ∀ {ts : List Tree}, WTs ts → ∀ t ∈ ts, WT t
  | [], _, t, m => absurd m (List.not_mem_nil)
  | u :: ts, h, t, m => by
    rcases List.mem_cons.mp m with e | m
    · rw [e]; exact h.head
    · exact WTs.all h.tail t m
theorem WTs.of : ∀ {ts : List Tree}, (∀ t ∈ ts, WT t) → WTs ts
  | [], _ => wts_nil
  | u :: ts, h => wts_cons (h u (List.mem_cons_self ..)) (WTs.of fun t m => h t (List.mem_cons_of_mem _ m))
theorem size_w (x : List Nat) : (Tree.w x).size = 1 := by rw [Tree.size]
theorem size_l (ts : List Tree) : (Tree.l ts).size = sizes ts + 1 := by rw [Tree.size]
theorem sizes_nil : sizes [] = 0 := by rw [sizes]
theorem sizes_cons (t : Tree) (ts : List Tree) : sizes (t :: ts) = t.size + sizes ts := by rw [sizes]
theorem sizes_app : ∀ (ts us : List Tree), sizes (ts ++ us) = sizes ts + sizes us
  | [], us => by rw [List.nil_append, sizes_nil, Nat.zero_add]
  | t :: ts, us => by rw [List.cons_append, sizes_cons, sizes_cons, sizes_app ts us, Nat.add_assoc]
theorem size_pos : ∀ t : Tree, 0 < t.size
  | .w x => by rw [size_w]; omega
  | .l ts => by rw [size_l]; omega
theorem len_sizes : ∀ ts : List Tree, ts.length ≤ sizes ts
  | [] => by rw [sizes_nil]; exact Nat.le_refl _
  | t :: ts => by
    have h := len_sizes ts
    have h2 := size_pos t
    rw [sizes_cons, List.length_cons]
    omega
theorem sizes_take : ∀ (ts : List Tree) (n : Nat), sizes (ts.take n) ≤ sizes ts
  | ts, 0 => by rw [List.take_zero, sizes_nil]; omega
  | [], n + 1 => by rw [List.take_nil]; omega
  | t :: ts, n + 1 => by
    rw [List.take_succ_cons, sizes_cons, sizes_cons]
    have := sizes_take ts n
    omega
theorem sizes_drop : ∀ (ts : List Tree) (n : Nat), sizes (ts.drop n) ≤ sizes ts
  | ts, 0 => by rw [List.drop_zero]; omega
  | [], n + 1 => by rw [List.drop_nil]; omega
  | t :: ts, n + 1 => by
    rw [List.drop_succ_cons, sizes_cons]
    have := sizes_drop ts n
    omega
theorem size_of_get {ts : List Tree} {i : Nat} {t : Tree} (h : ts[i]? = some t) : t.size ≤ sizes ts := by
  induction ts generalizing i with
  | nil => simp at h
  | cons u r ih =>
    rw [sizes_cons]
    cases i with
    | zero =>
      have e : u = t := Option.some.inj h
      rw [e]
      omega
    | succ j =>
      have := ih (i := j) h
      omega
/-- how many parts a drawn value has at most -/
def Most : Nat → Nat
  | 0 => 1
  | n + 1 => 1 + 11 * Most n
/-- nested at most n deep -/
def Deep : Nat → Tree → Prop
  | _, .w _ => True
  | 0, .l _ => False
  | n + 1, .l ts => ∀ t ∈ ts, Deep n t
theorem deep_w (n : Nat) (x : List Nat) : Deep n (.w x) := by cases n <;> trivial
theorem Deep.mono : ∀ {m n : Nat} {t : Tree}, m ≤ n → Deep m t → Deep n t
  | _, n, .w x, _, _ => deep_w n x
  | 0, _, .l _, _, h => h.elim
  | m + 1, 0, .l _, l, _ => absurd l (by omega)
  | m + 1, n + 1, .l ts, l, h => fun t q => Deep.mono (Nat.le_of_succ_le_succ l) (h t q)
def Drawn (n : Nat) (t : Tree) : Prop := WT t ∧ t.size ≤ Most n ∧ Deep n t
theorem Most.le (n : Nat) : Most n ≤ Most (n + 1) := by rw [show Most (n + 1) = 1 + 11 * Most n from rfl]; omega
theorem Most.mono {m n : Nat} (h : m ≤ n) : Most m ≤ Most n := by
  induction h with
  | refl => exact Nat.le_refl _
  | step _ ih => exact Nat.le_trans ih (Most.le _)
theorem most_pos (n : Nat) : 1 ≤ Most n := by
  have := Most.mono (Nat.zero_le n)
  exact this
theorem sizes_le {ts : List Tree} {b : Nat} (h : ∀ t ∈ ts, t.size ≤ b) : sizes ts ≤ ts.length * b := by
  induction ts with
  | nil => rw [sizes_nil]; omega
  | cons t r ih =>
    have h1 := h t (List.mem_cons_self ..)
    have h2 := ih fun u m => h u (List.mem_cons_of_mem _ m)
    rw [sizes_cons, List.length_cons, Nat.add_mul]
    omega
theorem sizes_split : ∀ {ts : List Tree} {n : Nat} {t : Tree}, ts[n]? = some t → sizes (ts.take n) + t.size + sizes (ts.drop (n + 1)) = sizes ts
  | [], n, t, h => by simp at h
  | u :: r, 0, t, h => by
    have e : u = t := Option.some.inj h
    subst e
    rw [List.take_zero, sizes_nil, sizes_cons, List.drop_succ_cons, List.drop_zero]
    omega
  | u :: r, n + 1, t, h => by
    have ih := sizes_split (ts := r) (n := n) (t := t) h
    rw [List.take_succ_cons, sizes_cons, sizes_cons, List.drop_succ_cons]
    omega
theorem sizes_two (ts : List Tree) (n : Nat) : sizes (ts.take n) + sizes (ts.drop n) = sizes ts := by
  have h := sizes_app (ts.take n) (ts.drop n)
  rw [List.take_append_drop] at h
  exact h.symm
theorem cutS_len2 (z : Str) (lo hi : Option Int) : (cutS z lo hi).length ≤ z.length := by
  unfold cutS
  show (List.toArray _).size ≤ _
  rw [List.size_toArray, List.length_take, List.length_drop]
  have e : z.cps.toList.length = z.length := by show z.cps.toList.length = z.cps.size; simp
  omega
end Og

namespace Og
open PySem PySem.Spec PyProof.Rows L2
theorem dT {i j : Int} (h : i = j) : decide (V.int i = V.int j) = true := by rw [h]; simp
theorem dF {i j : Int} (h : i ≠ j) : decide (V.int i = V.int j) = false := decide_eq_false fun e => h (V.int.inj e)
theorem nT {i j : Int} (h : i ≠ j) : (!decide (V.int i = V.int j)) = true := by rw [dF h]; rfl
theorem nF {i j : Int} (h : i = j) : (!decide (V.int i = V.int j)) = false := by rw [dT h]; rfl
theorem sT {a b : List Nat} (h : a = b) : decide (V.str (tx a) = V.str (tx b)) = true := by rw [h]; simp
theorem sF {a b : List Nat} (h : a ≠ b) : decide (V.str (tx a) = V.str (tx b)) = false := decide_eq_false fun e => h (tx_str e)
theorem nsT {a b : List Nat} (h : a ≠ b) : (!decide (V.str (tx a) = V.str (tx b))) = true := by rw [sF h]; rfl
theorem nsF {a b : List Nat} (h : a = b) : (!decide (V.str (tx a) = V.str (tx b))) = false := by rw [sT h]; rfl
theorem three_of {α : Type} {xs : List α} (h : xs.length = 3) : ∃ a b c, xs = [a, b, c] := by
  match xs, h with
  | [a, b, c], _ => exact ⟨a, b, c, rfl⟩
theorem Trs.three {K : PySem.W.Frag} {H : Hp} {vs : List V} {a b c : Tree} (h : Trs K H vs [a, b, c]) : ∃ x y z, vs = [x, y, z] ∧ Tr K H x a ∧ Tr K H y b ∧ Tr K H z c := by
  obtain ⟨x, r, rfl, h1, h2⟩ := h.cons
  obtain ⟨y, r, rfl, h3, h4⟩ := h2.cons
  obtain ⟨z, r, rfl, h5, h6⟩ := h4.cons
  rw [h6.nil]
  exact ⟨x, y, z, rfl, h1, h3, h5⟩
theorem Keep.updNew {S : List Addr} {H H1 : Hp} {p : Addr} {o : HO} (a : Keep S H H1) (h : H p = none) : Keep S H (upd H1 p o) := fun b u e => by
  have ne : b ≠ p := fun q => by rw [q, h] at e; cases e
  rw [upd_ne ne]
  exact a b u e
end Og
namespace Og
open PySem PySem.Spec PyProof.Rows L2
section
variable {X : Cx} {k : Nat} {x : Str} {f : Addr} {fd : FuncData} {ps : List Str} {sp : Sp} {p pos : Pos}
theorem cal0 (C : Callee X.prog X.w X.K X.mg X.base CX0 k x f fd ps sp) (hr : Room k X.A) (hg : Gl X x := by rfl) (hdb : (x == ("__debug__" : Str)) = false := by decide) : PE X (.Call (.Name x p) [] [] pos) (tCall sp [] E0 tNil) :=
  pe_call0 C.ok hr hg C.mg C.kp C.bi .nil pass0 hdb
end
/-- a loop over the signs of a text -/
theorem for_str {z : Str} {g : TG} {tb : TS} {D : Ends} {σ : L2.St} {H : Hp} (Pv : Nat → L2.St → Hp → Prop) (h0 : Pv 0 σ H)
    (hs : ∀ (i : Nat) (c : Nat) (σ : L2.St) (H : Hp), z.cps.toList[i]? = some c → Pv i σ H → g (.str ⟨#[c]⟩) σ H fun σ2 H2 => tb { D with nx := Pv (i + 1), ct := Pv (i + 1), bk := D.nx } σ2 H2) (hd : ∀ σ H, Pv z.cps.toList.length σ H → D.nx σ H) :
    ∃ W : Nat → Nat → L2.St → Hp → Prop, (∃ m, W 0 m σ H) ∧ ∀ i m σ H, W i m σ H →
      ((Its z).stop i H ∧ D.nx σ H) ∨ ((Its z).go i H ∧ ∃ N : L2.St → Hp → Prop, (∀ σ' H', N σ' H' → ∃ m', m' < m ∧ W (i + 1) m' σ' H') ∧ ∀ v H', (Its z).yld i H v H' → g v σ H' fun σ2 H2 => tb { D with nx := N, ct := N, bk := D.nx } σ2 H2) := by
  refine ⟨fun i m σ H => m = z.cps.toList.length - i ∧ i ≤ z.cps.toList.length ∧ Pv i σ H, ⟨z.cps.toList.length, rfl, Nat.zero_le _, h0⟩, ?_⟩
  rintro i m σ H ⟨rfl, hi, p⟩
  by_cases hlt : i < z.cps.toList.length
  · have hx : z.cps.toList[i]? = some z.cps.toList[i] := List.getElem?_eq_getElem hlt
    refine .inr ⟨?_, Pv (i + 1), fun σ' H' p' => ⟨z.cps.toList.length - (i + 1), by omega, rfl, hlt, p'⟩, fun v H' y => ?_⟩
    · show i < z.cps.size
      simpa using hlt
    · obtain ⟨rfl, c, hc, rfl⟩ := y
      exact hs i c σ _ (by rw [Array.getElem?_toList]; exact hc) p
  · have e : i = z.cps.toList.length := by omega
    subst e
    exact .inl ⟨by show z.cps.size ≤ _; simp, hd σ H p⟩
end Og
namespace Og
open PySem PySem.Spec PyProof.Rows L2
/-- len of a list or tuple -/
def rLenK (K : PySem.W.Frag) : List V → Hp → VK → Prop := fun xs H Q => ∃ p ys, xs = [V.ref p] ∧ (SqL K H p ys ∨ SqT K H p ys) ∧ Q (.int (ys.length : Nat)) H
end Og

namespace Og
open PySem PySem.Spec PyProof.Rows L2
open PySem.NumText (AllDigits digitsVal)
theorem isi_strV {K : PySem.W.Frag} {H : Hp} {v : V} {t : Tree} (h : Tr K H v t) : ∃ ty u, ClsV (.ty "str") u ∧ TyX K H v ty ∧ PySem.W.kitOne K ty u = some t.isW := isi_str h
section
variable {P : Program} {w : World} {K : PySem.W.Frag} {mg : Str → Option Value} {base : Heap}
/-! ### _looks_like_function -/
def spLooks (K : PySem.W.Frag) : Sp := fun vs H Q _ => ∃ (v : V) (t : Tree), vs = [v] ∧ Tr K H v t ∧ ∀ b : Bool, (b = true ↔ ∃ n ps bd, t = .l [.w n, .l ps, bd]) → Q (.bl b) H
theorem has_looks {k : Nat} (D : DefAt K mg "_looks_like_function" s_looks_like_function p_looks_like_function) (B : Bn mg) : Has P w K mg base (k + 1) "_looks_like_function" p_looks_like_function (spLooks K) := by
  obtain ⟨f, fd, F, hm, hb⟩ := D.ex
  refine ⟨f, fd, F.ok sc_looks_like_function (fun vs H Q E h => ?_) (fun cdv A outer s H vs Q E hr h => ?_), hm, F.kp, hb⟩
  · obtain ⟨_, _, rfl, _⟩ := h
    rfl
  obtain ⟨v, t, rfl, tv, q⟩ := h
  refine ⟨_, (pss_cons (ps_if (PW.pt (pw_or (pt_not (pt_val (pe_callB call_isi (by rfl) B.isinstance (by decide +kernel) (pa_cons (pv 0) (pa_cons (pe_bltn (v := .ty "tuple") rfl B.tuple (by decide +kernel) rfl) pa_nil))))) (pw_or1 (pt_cmpR op_ne (pe_callB call_len_seq (by rfl) B.len PySem.boot_len (pa_cons (pv 0) pa_nil)) pe_int (nomark _))))) (pss_one (ps_ret pe_bl)) pss_nil)
    (pss_one (ps_ret (pe_and (pe_callB call_isi (by rfl) B.isinstance (by decide +kernel) (pa_cons (pe_ix ix_tup (pv 0) pe_int (fun _ _ => rfl)) (pa_cons (pe_bltn (v := .ty "str") rfl B.str (by decide +kernel) rfl) pa_nil))) (pe_one (pe_callB call_isi (by rfl) B.isinstance (by decide +kernel) (pa_cons (pe_ix ix_tup (pv 0) pe_int (fun _ _ => rfl)) (pa_cons (pe_bltn (v := .ty "tuple") rfl B.tuple (by decide +kernel) rfl) pa_nil)))))))), ?_⟩
  obtain ⟨ty, u, q1, q2, q3⟩ := isi_tup tv
  refine ⟨_, rfl, _, _, ty, u, _, rfl, q1, q2, q3, _, rfl, ?_⟩
  cases t with
  | w x => exact iteT (iteT (q false ⟨fun h => (by cases h), fun ⟨_, _, _, h⟩ => (by cases h)⟩))
  | l ts =>
    refine iteF ?_
    obtain ⟨a, vs, rfl, hS, r⟩ := tv.list
    have lv := r.length
    refine ⟨_, rfl, a, vs, rfl, .inr hS, rfl, _, rfl, ?_⟩
    by_cases l3 : ts.length = 3
    · rw [nF (by rw [lv, l3]; rfl)]
      refine iteF ?_
      obtain ⟨t0, t1, t2, rfl⟩ := three_of l3
      obtain ⟨x, y, z, rfl, r0, r1, r2⟩ := r.three
      obtain ⟨ty0, u0, p1, p2, p3⟩ := isi_str r0
      refine ⟨_, rfl, a, _, _, x, rfl, rfl, hS, rfl, _, _, ty0, u0, _, rfl, p1, p2, p3, _, rfl, ?_⟩
      cases t0 with
      | l us =>
        refine iteF ?_
        exact q false ⟨fun h => (by cases h), fun ⟨_, _, _, h⟩ => (by have := (List.cons.inj (Tree.l.inj h)).1; cases this)⟩
      | w n =>
        refine iteT ?_
        obtain ⟨ty1, u1, w1, w2, w3⟩ := isi_tup r1
        refine ⟨_, rfl, a, _, _, y, rfl, rfl, hS, rfl, _, _, ty1, u1, _, rfl, w1, w2, w3, ?_⟩
        cases t1 with
        | w m => exact q _ ⟨fun h => (by cases h), fun ⟨_, _, _, h⟩ => (by have := (List.cons.inj (List.cons.inj (Tree.l.inj h)).2).1; cases this)⟩
        | l ps => exact q _ ⟨fun _ => ⟨n, ps, t2, rfl⟩, fun _ => rfl⟩
    · rw [nT (by rw [lv]; intro e; exact l3 (by omega))]
      refine iteT ?_
      refine q false ⟨fun h => (by cases h), fun ⟨n, ps, bd, h⟩ => absurd (by rw [Tree.l.inj h]; rfl) l3⟩
end
end Og

namespace Og
open PySem PySem.Spec PyProof.Rows L2
open PySem.NumText (AllDigits digitsVal)
section
variable {P : Program} {w : World} {K : PySem.W.Frag} {mg : Str → Option Value} {base : Heap}
/-! ### _is_good_name -/
def Ascii (x : List Nat) : Prop := ∀ c ∈ x, c < 128
def spGName : Sp := fun vs H Q _ => ∃ (x : List Nat) (n : Nat), vs = [.str (tx x), .int n] ∧ Ascii x ∧ x ≠ [] ∧ x.length ≤ 12 ∧ ∀ b : Bool, (b = true ↔ GoodName n x) → Q (.bl b) H
theorem has_gname {k : Nat} {d_SPECIAL_WORDS : Addr} (m_SPECIAL_WORDS : mg "SPECIAL_WORDS" = some (.ref d_SPECIAL_WORDS)) (D_SPECIAL_WORDS : DictD K w specials d_SPECIAL_WORDS) (D : DefAt K mg "_is_good_name" s_is_good_name p_is_good_name) (B : Bn mg) : Has P w K mg base (k + 1) "_is_good_name" p_is_good_name spGName := by
  obtain ⟨f, fd, F, hm, hb⟩ := D.ex
  refine ⟨f, fd, F.ok sc_is_good_name (fun vs H Q E h => ?_) (fun cdv A outer s H vs Q E hr h => ?_), hm, F.kp, hb⟩
  · obtain ⟨_, _, rfl, _⟩ := h
    rfl
  obtain ⟨x, n, rfl, asc, ne, len, q⟩ := h
  refine ⟨_, (pss_cons (ps_if (pt_cmpR (op_inC D_SPECIAL_WORDS) (pv 0) (pe_glob (v := .ref d_SPECIAL_WORDS) rfl m_SPECIAL_WORDS rfl) (by rfl)) (pss_one (ps_ret pe_bl)) pss_nil)
    (pss_cons (ps_set (i := 2) sc_is_good_name.nd rfl (.inl rfl) (pe_slice sl_str (pv 0) (po_some pe_int) po_none))
    (pss_cons (ps_if (PW.pt (pw_or (pt_not (pt_val (pe_m1 PySem.F.slot_str_startswith PySem.F.type_str_startswith mt_startswith (pv 0) pe_str))) (pw_or1 (pt_not (pt_val (pe_m0 PySem.F.slot_str_isdigit PySem.F.type_str_isdigit mt_isdigit (pv 2))))))) (pss_one (ps_ret pe_bl)) pss_nil)
    (pss_cons (ps_set (i := 3) sc_is_good_name.nd rfl (.inl rfl) (pe_callTy call_int_str (by rfl) B.int (by decide +kernel) (pa_cons (pv 2) pa_nil)))
    (pss_one (ps_ret (pe_and (pe_cmpR op_eq (pv 2) (pe_callTy call_str_int (by rfl) B.str (by decide +kernel) (pa_cons (pv 3) pa_nil)) (nomark _)) (pe_one (pe_cmpR op_lt (pv 3) (pv 1) (nomark _)))))))))), ?_⟩
  refine ⟨_, rfl, x, rfl, rfl, _, rfl, ?_⟩
  rw [spAr_isSome]
  cases hs : spAr x with
  | some k0 => exact iteT (q false ⟨fun h => (by cases h), fun h => (by have := h.1; rw [hs] at this; cases this)⟩)
  | none =>
  refine iteF ?_
  have l1 : 1 ≤ x.length := List.length_pos_iff.mpr ne
  have e1 := cutS_from x (i := 1) l1
  refine ⟨_, rfl, _, rfl, _, rfl, by rw [tx_len]; exact sizeL (by omega), ?_⟩
  rw [show (some (1 : Int)) = some ((1 : Nat) : Int) from rfl, e1]
  have yes : (∀ ds, x = 102 :: ds → ds ≠ [] → AllDigits ds → False) → Q (.bl true) H := fun h => q true ⟨fun _ => ⟨hs, fun ds e1 e2 e3 => (h ds e1 e2 e3).elim⟩, fun _ => rfl⟩
  refine ⟨_, rfl, ⟨_, rfl⟩, _, _, rfl, rfl, _, rfl, ?_⟩
  rw [lit_f, sw_f]
  by_cases hf : x.head? = some 102
  rotate_left
  · rw [decide_eq_false hf]
    exact iteT (iteT (yes fun ds e _ _ => hf (by rw [e]; rfl)))
  rw [decide_eq_true hf]
  obtain ⟨ds, rfl⟩ : ∃ ds, x = 102 :: ds := by
    cases x with
    | nil => cases hf
    | cons c r => exact ⟨r, by rw [Option.some.inj hf]⟩
  have asc2 : ∀ c ∈ ds, c < 128 := fun c m => asc c (List.mem_cons_of_mem _ m)
  refine iteF ?_
  refine ⟨_, rfl, ⟨_, rfl⟩, _, rfl, rfl, trivial, _, rfl, ?_⟩
  rw [show List.drop 1 (102 :: ds) = ds from rfl]
  cases hd : Txt.isdigit (tx ds) with
  | false =>
    refine iteT (yes fun ds' e h1 h2 => ?_)
    have := (List.cons.inj e).2
    subst this
    rw [(isdigit_iff asc2).mpr ⟨h1, h2⟩] at hd
    cases hd
  | true =>
    obtain ⟨dn, da⟩ := (isdigit_iff asc2).mp hd
    have dl : ds.length ≤ 11 := by rw [List.length_cons] at len; omega
    have dv : digitsVal ds < 10 ^ 11 := Nat.lt_of_lt_of_le (digitsVal_lt _ ds rfl da) (Nat.pow_le_pow_right (by decide) dl)
    refine iteF ?_
    refine ⟨_, rfl, tx ds, ((digitsVal ds : Nat) : Int), rfl, intText_digits da dn (by rw [tx_len]; omega), by rw [tx_len]; omega, ?_⟩
    have gn : GoodName n (102 :: ds) ↔ (ds = [48] ∨ ds.head? ≠ some 48) ∧ digitsVal ds < n := by
      constructor
      · intro h
        exact h.2 ds rfl dn da
      · intro h
        refine ⟨hs, fun ds' e _ _ => ?_⟩
        have := (List.cons.inj e).2
        subst this
        exact h
    refine ⟨_, rfl, _, rfl, _, rfl, ?_, rfl, _, rfl, ?_⟩
    · rw [Int.natAbs_natCast]
      by_cases z : digitsVal ds = 0
      · rw [z]; decide
      · exact Nat.lt_trans ((Nat.log2_lt z).mpr (show digitsVal ds < 2 ^ 40 from Nat.lt_trans dv (by decide))) (by decide)
    by_cases hz : ds = [48] ∨ ds.head? ≠ some 48
    · rw [(str_digits da dn).mpr hz, sT rfl]
      refine iteT ⟨_, rfl, _, rfl, _, _, rfl, rfl, q _ ?_⟩
      rw [gn, decide_eq_true_eq]
      constructor
      · intro h
        exact ⟨hz, by omega⟩
      · intro h
        have := h.2
        omega
    · have : ¬ V.str (tx ds) = V.str (Str.ofString (toString ((digitsVal ds : Nat) : Int))) := fun e => hz ((str_digits da dn).mp (V.str.inj e).symm)
      rw [decide_eq_false this]
      exact iteF (q false ⟨fun h => (by cases h), fun h => absurd (gn.mp h).1 hz⟩)
end
end Og

namespace Og
open PySem PySem.Spec PyProof.Rows L2
open PySem.NumText (AllDigits digitsVal)
/-- the dict of what can be called -/
def CallD (H : Hp) (cd : Addr) (fs : List Tree) : Prop := ∃ kvs : List (L2.Key × V), H cd = some (.dK kvs) ∧ ∀ x : List Nat, valV kvs (Sum.inr (tx x)) = (arity fs x).map fun k => V.int (k : Nat)
theorem CallD.keep {S : List Addr} {H H1 : Hp} {cd : Addr} {fs : List Tree} (h : CallD H cd fs) (k : Keep S H H1) : CallD H1 cd fs := by
  obtain ⟨kvs, e, r⟩ := h
  refine ⟨kvs, ?_, r⟩
  rcases k cd _ e with q | ⟨_, _, _, q, _⟩
  · exact q
  · cases q
theorem tru_tup {K : PySem.W.Frag} {H : Hp} {p : Addr} {xs : List V} (h : SqT K H p xs) : TruV K (.ref p) H (!xs.isEmpty) := .inr (.inl ⟨xs, h, rfl⟩)
section
variable {P : Program} {w : World} {K : PySem.W.Frag} {mg : Str → Option Value} {base : Heap}
/-! ### _are_good_parameters -/
def spGPs (K : PySem.W.Frag) : Sp := fun vs H Q _ => ∃ (v : V) (ps : List Tree), vs = [v] ∧ Tr K H v (.l ps) ∧ ∀ (b : Bool) (H' : Hp), (b = true ↔ GoodPs ps) → Keep [] H H' → Q (.bl b) H'
theorem has_gps {k : Nat} {d_SPECIAL_WORDS : Addr} (m_SPECIAL_WORDS : mg "SPECIAL_WORDS" = some (.ref d_SPECIAL_WORDS)) (D_SPECIAL_WORDS : DictD K w specials d_SPECIAL_WORDS) (D : DefAt K mg "_are_good_parameters" s_are_good_parameters p_are_good_parameters) (B : Bn mg) (M : Mc mg) : Has P w K mg base (k + 1) "_are_good_parameters" p_are_good_parameters (spGPs K) := by
  obtain ⟨f, fd, F, hm, hb⟩ := D.ex
  obtain ⟨_, M_MOST_PARAMETERS⟩ := M.MOST_PARAMETERS
  refine ⟨f, fd, F.ok sc_are_good_parameters (fun vs H Q E h => ?_) (fun cdv A outer s H vs Q E hr h => ?_), hm, F.kp, hb⟩
  · obtain ⟨_, _, rfl, _⟩ := h
    rfl
  obtain ⟨v, ps, rfl, tv, q⟩ := h
  refine ⟨_, (pss_cons (ps_if (pt_cmpR op_gt (pe_callB call_len_seq (by rfl) B.len PySem.boot_len (pa_cons (pv 0) pa_nil)) (pe_glob (v := .int 12) rfl M_MOST_PARAMETERS ⟨_, rfl⟩) (nomark _)) (pss_one (ps_ret pe_bl)) pss_nil)
    (pss_cons (ps_set (i := 1) sc_are_good_parameters.nd rfl (.inl rfl) (pe_callTy0 cr_set0K (by rfl) B.set (by decide +kernel)))
    (pss_cons (ps_for PassesOwn.never rfl (pi_tup (pv 0)) (pg_name (i := 2) sc_are_good_parameters.nd rfl (.inl rfl))
      (pss_cons (ps_if (PW.pt (pw_or (pt_not (pt_val (pe_callB call_isi (by rfl) B.isinstance (by decide +kernel) (pa_cons (pv 2) (pa_cons (pe_bltn (v := .ty "str") rfl B.str (by decide +kernel) rfl) pa_nil))))) (pw_or (pt_cmpR (op_inC D_SPECIAL_WORDS) (pv 2) (pe_glob (v := .ref d_SPECIAL_WORDS) rfl m_SPECIAL_WORDS rfl) (by rfl)) (pw_or1 (pt_cmpR or_sinK (pv 2) (pv 1) (by rfl)))))) (pss_one (ps_ret pe_bl)) pss_nil)
      (pss_one (ps_expr (pe_saddK (pv 1) (pa_cons (pv 2) pa_nil))))))
    (pss_one (ps_ret pe_bl))))), ?_⟩
  obtain ⟨a, vs, rfl, hS, r⟩ := tv.list
  have lv := r.length
  refine ⟨_, rfl, a, vs, rfl, .inr hS, _, _, rfl, rfl, _, rfl, ?_⟩
  by_cases hl : ps.length ≤ 12
  rotate_left
  · rw [decide_eq_true (show (12 : Int) < ((vs.length : Nat) : Int) by omega)]
    exact iteT (q false H ⟨fun h => (by cases h), fun h => absurd h.1 hl⟩ Keep.refl)
  rw [decide_eq_false (show ¬ (12 : Int) < ((vs.length : Nat) : Int) by omega)]
  refine iteF ?_
  refine ⟨rfl, fun e ne => ?_⟩
  refine ⟨_, rfl, a, rfl, ⟨_, (Keep.new (S := []) ne).sqT hS⟩, ?_⟩
  refine for_tup (K := K) (a := a) (xs := vs) (fun i σ H' => ∃ (y2 : Option V) (S : L2.Key → Bool) (n : Nat), σ = [some (.ref a), some (.ref e), y2] ∧ Keep [] H H' ∧ H' e = some (SetK P w e S n) ∧ n ≤ i ∧
      (∀ x : List Nat, S (Sum.inr (tx x)) = true ↔ ∃ j, j < i ∧ ps[j]? = some (.w x)) ∧ ∀ (j : Nat) (t : Tree), j < i → ps[j]? = some t → ∃ x, t = .w x ∧ spAr x = none ∧ ∀ j', j' < j → ps[j']? ≠ some (.w x))
    ⟨none, _, 0, rfl, Keep.new ne, upd_same, Nat.le_refl _, fun x => ⟨fun h => (by cases h), fun ⟨j, h, _⟩ => absurd h (Nat.not_lt_zero _)⟩, fun j t h => absurd h (Nat.not_lt_zero _)⟩ (fun i σ H' _ pw => ?_) (fun i z σ H1 hz pw => ?_) (fun σ H1 pw => ?_)
  · obtain ⟨_, _, _, _, k1, _⟩ := pw
    exact k1.sqT hS
  · obtain ⟨y2, S, n, rfl, k1, eS, ni, hS1, good⟩ := pw
    have il : i < vs.length := (List.getElem?_eq_some_iff.mp hz).1
    have hg : ps[i]? = some ps[i] := List.getElem?_eq_getElem (by omega)
    obtain ⟨z', hz', tz⟩ := r.get hg
    rw [hz] at hz'
    cases hz'
    generalize ht : ps[i] = t at hg tz
    have tz1 := tz.keep k1
    have no : (¬ ∃ x, t = .w x ∧ spAr x = none ∧ ∀ j', j' < i → ps[j']? ≠ some (.w x)) → Q (.bl false) H1 := fun h => q false H1 ⟨fun h => (by cases h), fun g => absurd (g.2 i t hg) h⟩ k1
    obtain ⟨ty, u, q1, q2, q3⟩ := isi_str tz1
    refine ⟨_, rfl, _, _, ty, u, _, rfl, q1, q2, q3, _, rfl, ?_⟩
    cases t with
    | l us => exact iteT (iteT (no fun ⟨x, e, _⟩ => (by cases e)))
    | w x =>
      refine iteF ?_
      have ez := tz1.word
      subst ez
      refine ⟨_, rfl, x, rfl, rfl, _, rfl, ?_⟩
      rw [spAr_isSome]
      cases hs : spAr x with
      | some k0 => exact iteT (iteT (no fun ⟨x', e, h, _⟩ => (by have := Tree.w.inj e; subst this; rw [hs] at h; cases h)))
      | none =>
        refine iteF ?_
        refine ⟨_, rfl, _, rfl, Sum.inr (tx x), e, S, n, rfl, rfl, eS, S (Sum.inr (tx x)), rfl, ?_⟩
        cases hk : S (Sum.inr (tx x)) with
        | true =>
          obtain ⟨j, j1, j2⟩ := (hS1 x).mp hk
          exact iteT (no fun ⟨x', e', _, h⟩ => (by have := Tree.w.inj e'; subst this; exact h j j1 j2))
        | false =>
          have fresh : ∀ j', j' < i → ps[j']? ≠ some (.w x) := fun j' l h => by
            rw [(hS1 x).mpr ⟨j', l, h⟩] at hk
            cases hk
          refine iteF ?_
          refine ⟨_, rfl, ⟨_, _, _, rfl, eS⟩, _, rfl, e, Sum.inr (tx x), S, n, rfl, rfl, eS, ?_, ?_⟩
          · exact Nat.lt_of_le_of_lt (show n + 1 ≤ 1000 by omega) (by decide)
          refine ⟨_, _, _, rfl, k1.updNew ne, upd_same, ?_, fun y => ?_, fun j t h1 h2 => ?_⟩
          · split <;> omega
          · rw [Bool.or_eq_true, decide_eq_true_eq, hS1]
            constructor
            · rintro (⟨j, h1, h2⟩ | h)
              · exact ⟨j, by omega, h2⟩
              · have := tx_inj (Sum.inr.inj h)
                subst this
                exact ⟨i, Nat.lt_succ_self _, hg⟩
            · rintro ⟨j, h1, h2⟩
              by_cases ji : j < i
              · exact .inl ⟨j, ji, h2⟩
              · have : j = i := by omega
                subst this
                rw [hg] at h2
                right
                rw [Tree.w.inj (Option.some.inj h2)]
          · by_cases ji : j < i
            · exact good j t ji h2
            · have : j = i := by omega
              subst this
              rw [hg] at h2
              exact ⟨x, (Option.some.inj h2).symm, hs, fresh⟩
  · obtain ⟨y2, S, n, rfl, k1, eS, ni, hS1, good⟩ := pw
    exact q true H1 ⟨fun _ => ⟨hl, fun i t h => good i t (by have := (List.getElem?_eq_some_iff.mp h).1; omega) h⟩, fun _ => rfl⟩ k1
/-! ### _has_right_parts -/
def spRp (K : PySem.W.Frag) : Sp := fun vs H Q _ => ∃ (v : V) (cd : Addr) (ts fs : List Tree), vs = [v, .ref cd] ∧ Tr K H v (.l ts) ∧ CallD H cd fs ∧ ∀ b : Bool, (b = true ↔ Right fs ts) → Q (.bl b) H
theorem has_rp {k : Nat} {d_SPECIAL_WORDS : Addr} (m_SPECIAL_WORDS : mg "SPECIAL_WORDS" = some (.ref d_SPECIAL_WORDS)) (D_SPECIAL_WORDS : DictD K w specials d_SPECIAL_WORDS) (D : DefAt K mg "_has_right_parts" s_has_right_parts p_has_right_parts) (B : Bn mg) : Has P w K mg base (k + 1) "_has_right_parts" p_has_right_parts (spRp K) := by
  obtain ⟨f, fd, F, hm, hb⟩ := D.ex
  refine ⟨f, fd, F.ok sc_has_right_parts (fun vs H Q E h => ?_) (fun cdv A outer s H vs Q E hr h => ?_), hm, F.kp, hb⟩
  · obtain ⟨_, _, _, _, rfl, _⟩ := h
    rfl
  obtain ⟨v, cd, ts, fs, rfl, tv, cD, q⟩ := h
  refine ⟨_, (pss_cons (ps_if (PW.pt (pw_or (pt_not (pt_truth (pv 0) (by intro _; rfl))) (pw_or1 (pt_not (pt_val (pe_callB call_isi (by rfl) B.isinstance (by decide +kernel) (pa_cons (pe_ix ix_tup (pv 0) pe_int (fun _ _ => rfl)) (pa_cons (pe_bltn (v := .ty "str") rfl B.str (by decide +kernel) rfl) pa_nil)))))))) (pss_one (ps_ret pe_bl)) pss_nil)
    (pss_cons (ps_set (i := 2) sc_has_right_parts.nd rfl (.inl rfl) (pe_ix ix_tup (pv 0) pe_int (fun _ _ => rfl)))
    (pss_cons (ps_set (i := 3) sc_has_right_parts.nd rfl (.inl rfl) (pe_op op_sub (pe_callB call_len_seq (by rfl) B.len PySem.boot_len (pa_cons (pv 0) pa_nil)) pe_int))
    (pss_cons (ps_if (pt_cmpR (op_inC D_SPECIAL_WORDS) (pv 2) (pe_glob (v := .ref d_SPECIAL_WORDS) rfl m_SPECIAL_WORDS rfl) (by rfl)) (pss_one (ps_ret (pe_cmpR op_eq (pv 3) (pe_ix ix_kdict (pe_glob (v := .ref d_SPECIAL_WORDS) rfl m_SPECIAL_WORDS rfl) (pv 2) (fun _ _ => rfl)) (nomark _)))) pss_nil)
    (pss_one (ps_ret (pe_and (pe_cmp (pc_din (hu_of hr) (pv 2) (pv 1)) rfl) (pe_one (pe_cmpR op_eq (pv 3) (pe_dget (hu_of hr) (pv 1) (pv 2) (fun _ _ => rfl)) (nomark _)))))))))), ?_⟩
  obtain ⟨a, vs, rfl, hS, r⟩ := tv.list
  refine ⟨_, rfl, _, tru_tup hS, ?_⟩
  rw [emp_iff r]
  cases ts with
  | nil => exact iteT (iteT (q false ⟨fun h => (by cases h), fun ⟨n, r, e, _⟩ => (by cases e)⟩))
  | cons t0 rest =>
    refine iteF ?_
    obtain ⟨v0, vr, rfl, r0, rr⟩ := r.cons
    have lr := rr.length
    obtain ⟨ty, u, q1, q2, q3⟩ := isi_str r0
    refine ⟨_, rfl, a, _, _, v0, rfl, rfl, hS, atI_zero _ _, _, _, ty, u, _, rfl, q1, q2, q3, _, rfl, ?_⟩
    cases t0 with
    | l us => exact iteT (q false ⟨fun h => (by cases h), fun ⟨n, r, e, _⟩ => (by have := (List.cons.inj e).1; cases this)⟩)
    | w n =>
      refine iteF ?_
      have e0 := r0.word
      subst e0
      have right : Right fs (.w n :: rest) ↔ parts fs n = some rest.length := by
        constructor
        · rintro ⟨n', r', e, h⟩
          have e1 := Tree.w.inj (List.cons.inj e).1
          have e2 := (List.cons.inj e).2
          subst e1 e2
          exact h
        · intro h
          exact ⟨n, rest, rfl, h⟩
      refine ⟨_, rfl, a, _, _, _, rfl, rfl, hS, atI_zero _ _, ?_⟩
      refine ⟨_, rfl, a, _, rfl, .inr hS, _, _, rfl, rfl, ?_⟩
      refine ⟨_, rfl, n, rfl, rfl, _, rfl, ?_⟩
      rw [spAr_isSome]
      have el : (((V.str (tx n) :: vr).length : Nat) : Int) - 1 = (rest.length : Nat) := by rw [List.length_cons, lr]; omega
      cases hs : spAr n with
      | some k0 =>
        have pe : parts fs n = some k0 := by unfold parts; rw [hs]
        have hf : ∃ p, specials.find? (fun p => decide (p.1 = n)) = some p ∧ p.2 = k0 := by
          unfold spAr at hs
          cases h : specials.find? (fun p => decide (p.1 = n)) with
          | none => rw [h] at hs; cases hs
          | some p => rw [h] at hs; exact ⟨p, rfl, Option.some.inj hs⟩
        obtain ⟨p, hf1, hf2⟩ := hf
        refine iteT ⟨_, rfl, _, rfl, d_SPECIAL_WORDS, tx n, _, rfl, rfl, D_SPECIAL_WORDS.item hf1, rfl, q _ ?_⟩
        rw [right, pe, decide_eq_true_eq, hf2]
        show V.int ((((V.str (tx n) :: vr).length : Nat) : Int) - 1) = _ ↔ _
        rw [el]
        constructor
        · intro h
          have := V.int.inj h
          exact congrArg some (by omega)
        · intro h
          rw [Option.some.inj h]
      | none =>
        have pe : parts fs n = arity fs n := by unfold parts; rw [hs]
        obtain ⟨kvs, ek, rel⟩ := id cD
        have rn := rel n
        refine iteF ⟨_, rfl, _, rfl, cd, _, rfl, DGet.k (k := Sum.inr (tx n)) ek, ?_⟩
        cases ha : arity fs n with
        | none =>
          rw [rn, ha]
          exact ⟨_, rfl, iteF (q false ⟨fun h => (by cases h), fun h => (by rw [right, pe, ha] at h; cases h)⟩)⟩
        | some m =>
          have dg : DGet H cd (.str (tx n)) (some (V.int (m : Nat))) := by
            have := DGet.k (k := Sum.inr (tx n)) ek
            rw [rn, ha] at this
            exact this
          rw [rn, ha]
          refine ⟨_, rfl, iteT ⟨_, rfl, _, rfl, _, rfl, cd, _, rfl, dg, rfl, q _ ?_⟩⟩
          rw [right, pe, ha, decide_eq_true_eq]
          show V.int ((((V.str (tx n) :: vr).length : Nat) : Int) - 1) = _ ↔ _
          rw [el]
          constructor
          · intro h
            have := V.int.inj h
            exact congrArg some (by omega)
          · intro h
            rw [Option.some.inj h]
end
end Og

namespace Og
open PySem PySem.Spec PyProof.Rows L2
open PySem.NumText (AllDigits digitsVal)
/-- a text among texts -/
theorem inV_words {x : List Nat} : ∀ {ps : List Tree} {vs : List V} {K : PySem.W.Frag} {H : Hp}, Trs K H vs ps → (∀ t ∈ ps, t.isW = true) → (inV (.str (tx x)) vs = true ↔ Tree.w x ∈ ps)
  | [], vs, K, H, r, _ => by
    rw [r.nil]
    exact ⟨fun h => (by cases h), fun h => absurd h (List.not_mem_nil)⟩
  | t :: ps, vs, K, H, r, hw => by
    obtain ⟨v, vr, rfl, r0, rr⟩ := r.cons
    have ih := inV_words (x := x) rr fun u m => hw u (List.mem_cons_of_mem _ m)
    cases t with
    | l us => have := hw _ (List.mem_cons_self ..); cases this
    | w y =>
      have e := r0.word
      subst e
      show (eqV (.str (tx y)) (.str (tx x)) || inV (.str (tx x)) vr) = true ↔ _
      rw [Bool.or_eq_true, ih, List.mem_cons]
      have h1 : eqV (.str (tx y)) (.str (tx x)) = true ↔ Tree.w x = Tree.w y := by
        show (tx y == tx x) = true ↔ _
        rw [beq_iff_eq]
        exact ⟨fun e => by rw [tx_inj e], fun e => by rw [Tree.w.inj e]⟩
      rw [h1]
theorem flat_words : ∀ {ps : List Tree} {vs : List V} {K : PySem.W.Frag} {H : Hp}, Trs K H vs ps → (∀ t ∈ ps, t.isW = true) → vs.all flatV = true
  | [], vs, K, H, r, _ => by rw [r.nil]; rfl
  | t :: ps, vs, K, H, r, hw => by
    obtain ⟨v, vr, rfl, r0, rr⟩ := r.cons
    have ih := flat_words rr fun u m => hw u (List.mem_cons_of_mem _ m)
    cases t with
    | l us => have := hw _ (List.mem_cons_self ..); cases this
    | w y =>
      rw [r0.word, List.all_cons, ih]
      rfl
theorem lit_q : ("quote" : Str) = tx qw := by decide +kernel
section
variable {P : Program} {w : World} {K : PySem.W.Frag} {mg : Str → Option Value} {base : Heap}
/-! ### _is_good_body -/
def spGBody (K : PySem.W.Frag) : Sp := fun vs H Q _ => ∃ (v pv : V) (cd : Addr) (t : Tree) (ps fs : List Tree), vs = [v, pv, .ref cd] ∧ Tr K H v t ∧ Tr K H pv (.l ps) ∧ (∀ t ∈ ps, t.isW = true) ∧ CallD H cd fs ∧ t.size ≤ 300000 ∧
  ∀ (b : Bool) (H' : Hp), (b = true ↔ GoodE fs ps t) → Keep [] H H' → Q (.bl b) H'
theorem has_gbody {k : Nat} (D : DefAt K mg "_is_good_body" s_is_good_body p_is_good_body) (B : Bn mg) (c1 : Has P w K mg base k "_has_right_parts" p_has_right_parts (spRp K)) : Has P w K mg base (k + 1) "_is_good_body" p_is_good_body (spGBody K) := by
  obtain ⟨f, fd, F, hm, hb⟩ := D.ex
  obtain ⟨_, _, c_has_right_parts⟩ := c1
  refine ⟨f, fd, F.ok sc_is_good_body (fun vs H Q E h => ?_) (fun cdv A outer s H vs Q E hr h => ?_), hm, F.kp, hb⟩
  · obtain ⟨_, _, _, _, _, _, rfl, _⟩ := h
    rfl
  obtain ⟨v, pv0, cd, t, ps, fs, rfl, tv, tp, pw, cD, sz, q⟩ := h
  refine ⟨_, (pss_cons (ps_set (i := 3) sc_is_good_body.nd rfl (.inl rfl) (pe_lst (pa_cons (pv 0) pa_nil)))
    (pss_cons (ps_while PassesOwn.never (pt_truth (pv 3) (by intro _; rfl)) (pss_cons (ps_set (i := 4) sc_is_good_body.nd rfl (.inl rfl) (pe_bm0 PySem.F.plainAttrs_list PySem.F.slot_list_pop PySem.F.type_list_pop mt_pop (pv 3)))
      (pss_one (ps_if (pt_val (pe_callB call_isi (by rfl) B.isinstance (by decide +kernel) (pa_cons (pv 4) (pa_cons (pe_bltn (v := .ty "str") rfl B.str (by decide +kernel) rfl) pa_nil)))) (pss_one (ps_if (pt_cmpR op_notIn_seq (pv 4) (pv 1) (by rfl)) (pss_one (ps_ret pe_bl)) pss_nil)) (pss_one (ps_if (pt_not (pt_val (cal c_has_right_parts hr rfl (pa_cons (pv 4) (pa_cons (pv 2) pa_nil))))) (pss_one (ps_ret pe_bl)) (pss_one (ps_if (pt_cmpR op_ne (pe_ix ix_tup (pv 4) pe_int (fun _ _ => rfl)) pe_str (nomark _)) (pss_one (ps_expr (pe_bm PySem.F.plainAttrs_list PySem.F.slot_list_extend PySem.F.type_list_extend mt_extendT (pv 3) (pa_cons (pe_slice sl_tupA (pv 4) (po_some pe_int) po_none) pa_nil)))) pss_nil))))))))
    (pss_one (ps_ret pe_bl)))), ?_⟩
  refine ⟨_, rfl, by show (1 : Nat) ≤ sizeLine; decide, fun p np => ?_⟩
  have k0 : Keep [] H (upd H p (.lst [v])) := Keep.new np
  obtain ⟨W, hW⟩ : ∃ W : Nat → L2.St → Hp → Prop, W = fun m σ H' => ∃ (y4 : Option V) (vs : List V) (ts : List Tree), σ = [some v, some pv0, some (.ref cd), some (.ref p), y4] ∧ m = sizes ts ∧ Keep [] H H' ∧ H' p = some (.lst vs) ∧ Trs K H' vs ts ∧ sizes ts ≤ 300000 ∧ (GoodE fs ps t ↔ ∀ z ∈ ts, GoodE fs ps z) := ⟨_, rfl⟩
  refine ⟨W, ⟨sizes [t], ?_⟩, fun m σ H1 pw0 => ?_⟩
  · rw [hW]
    refine ⟨none, _, [t], rfl, rfl, k0, upd_same, Trs.one (tv.keep k0), by rw [sizes_cons, sizes_nil]; omega, ?_⟩
    exact ⟨fun h z m => (by rw [List.mem_singleton.mp m]; exact h), fun h => h t (List.mem_singleton.mpr rfl)⟩
  rw [hW] at pw0
  obtain ⟨y4, vs, ts, rfl, rfl, k1, e1, tr, sz1, iff⟩ := pw0
  have vl := tr.length
  have tl := len_sizes ts
  refine ⟨_, rfl, _, tru_list e1, ?_⟩
  rw [emp_iff tr]
  by_cases hne : ts = []
  · subst hne
    refine iteF ?_
    exact q true H1 ⟨fun _ => iff.mpr fun z m => absurd m (List.not_mem_nil), fun _ => rfl⟩ k1
  obtain ⟨ts', z, rfl⟩ := snoc_of hne
  have b0 : (!(ts' ++ [z]).isEmpty) = true := by cases ts' <;> rfl
  rw [b0]
  refine iteT ⟨fun σ' H' => ∃ m', m' < sizes (ts' ++ [z]) ∧ W m' σ' H', fun _ _ h => h, ?_⟩
  obtain ⟨vs', zv, rfl, tr', tz⟩ := tr.snoc
  rw [sizes_app, sizes_cons, sizes_nil] at sz1 ⊢
  refine ⟨_, rfl, .inl ⟨rfl, _, SqL.of e1⟩, p, _, _, rfl, rfl, e1, last_get _ _, ?_⟩
  rw [List.dropLast_concat]
  generalize hH2 : upd H1 p (.lst vs') = H2
  have k2 : Keep [p] H1 H2 := by rw [← hH2]; exact Keep.set e1 (List.mem_cons_self ..)
  have e2 : H2 p = some (.lst vs') := by rw [← hH2, upd_same]
  have k2' : Keep [] H H2 := (k1.cons.trans (k2.mono (by simp))).drop np
  have tz2 := tz.keep k2
  have tr2 := tr'.keep k2
  have tp2 := tp.keep k2'
  have cD2 := cD.keep k2'
  have split : (∀ y ∈ ts' ++ [z], GoodE fs ps y) ↔ (∀ y ∈ ts', GoodE fs ps y) ∧ GoodE fs ps z := by
    constructor
    · intro h
      exact ⟨fun y m => h y (List.mem_append.mpr (.inl m)), h z (by simp)⟩
    · rintro ⟨h1, h2⟩ y m
      rcases List.mem_append.mp m with m | m
      · exact h1 y m
      · rw [List.mem_singleton.mp m]; exact h2
  have no : ¬ GoodE fs ps z → Q (.bl false) H2 := fun h => q false H2 ⟨fun e => (by cases e), fun e => absurd (split.mp (iff.mp e)).2 h⟩ k2'
  have zp := size_pos z
  have go : GoodE fs ps z → ∃ m', m' < sizes ts' + (z.size + 0) ∧ W m' [some v, some pv0, some (.ref cd), some (.ref p), some zv] H2 := fun h => by
    refine ⟨sizes ts', by omega, ?_⟩
    rw [hW]
    exact ⟨_, vs', ts', rfl, rfl, k2', e2, tr2, by omega, by rw [iff, split]; exact ⟨fun h => h.1, fun h2 => ⟨h2, h⟩⟩⟩
  obtain ⟨ty, u, q1, q2, q3⟩ := isi_str tz2
  refine ⟨_, rfl, _, _, ty, u, _, rfl, q1, q2, q3, _, rfl, ?_⟩
  cases z with
  | w x =>
    refine iteT ?_
    have ez := tz2.word
    subst ez
    obtain ⟨pa, pvs, rfl, hP, rP⟩ := tp2.list
    refine ⟨_, rfl, _, rfl, pa, _, rfl, .inr hP, rfl, ?_, _, rfl, ?_⟩
    · exact flat_words rP pw
    have iv := inV_words (x := x) rP pw
    by_cases hx : Tree.w x ∈ ps
    · rw [iv.mpr hx]
      exact iteF (go (goodE_w.mpr hx))
    · rw [Bool.eq_false_iff.mpr fun h => hx (iv.mp h)]
      exact iteT (no fun h => hx (goodE_w.mp h))
  | l us =>
    refine iteF ?_
    refine ⟨_, rfl, _, rfl, zv, cd, us, fs, rfl, tz2, cD2, fun b hb1 => ?_⟩
    refine ⟨_, rfl, ?_⟩
    cases b with
    | false => exact iteT (no fun h => (by have := hb1.mpr (goodE_l.mp h).1; cases this))
    | true =>
      refine iteF ?_
      obtain ⟨n, r, rfl, hp⟩ := hb1.mp rfl
      obtain ⟨za, zvs, rfl, hZ, rZ⟩ := tz2.list
      obtain ⟨v0, vr, rfl, r0, rr⟩ := rZ.cons
      have e0 := r0.word
      subst e0
      refine ⟨_, rfl, za, _, _, _, rfl, rfl, hZ, atI_zero _ _, rfl, _, rfl, ?_⟩
      rw [lit_q]
      have lr := rr.length
      have lz := len_sizes r
      rw [size_l, sizes_cons, size_w] at sz1 zp ⊢
      by_cases hq : n = qw
      · rw [nsF hq]
        have g : GoodE fs ps (.l (.w n :: r)) := goodE_l.mpr ⟨⟨n, r, rfl, hp⟩, .inl (by rw [hq]; rfl)⟩
        refine iteF ?_
        refine ⟨sizes ts', by omega, ?_⟩
        rw [hW]
        exact ⟨_, vs', ts', rfl, rfl, k2', e2, tr2, by omega, by rw [iff, split]; exact ⟨fun h => h.1, fun h2 => ⟨h2, g⟩⟩⟩
      · rw [nsT hq]
        refine iteT ?_
        have g : GoodE fs ps (.l (.w n :: r)) ↔ ∀ y ∈ r, GoodE fs ps y := by
          rw [goodE_l]
          constructor
          · rintro ⟨_, h | h⟩
            · exact absurd (Tree.w.inj (Option.some.inj h)) hq
            · exact h
          · intro h
            exact ⟨⟨n, r, rfl, hp⟩, .inr h⟩
        refine ⟨_, rfl, .inl ⟨rfl, _, SqL.of e2⟩, _, rfl, _, rfl, ?_⟩
        dsimp only [tNoPart]
        refine sl_tr tz2 fun v3 H3 tv3 k3 => ?_
        have d1 := cutL_from (Tree.w n :: r) (i := 1) (by rw [List.length_cons]; omega)
        rw [show (some (1 : Int)) = some ((1 : Nat) : Int) from rfl, d1, show List.drop 1 (Tree.w n :: r) = r from rfl] at tv3
        obtain ⟨xa, xvs, rfl, hX, rX⟩ := tv3.list
        have e3 : H3 p = some (.lst vs') := k3.get e2 (by simp)
        have lx := rX.length
        have lts := len_sizes ts'
        have lvs := tr2.length
        refine ⟨p, xa, vs', xvs, rfl, rfl, e3, hX, ?_, ?_⟩
        · exact Nat.le_trans (show _ ≤ 600000 by omega) (by decide)
        have k4 : Keep [p] H3 (upd H3 p (.lst (vs' ++ xvs))) := Keep.set e3 (List.mem_cons_self ..)
        refine ⟨sizes (ts' ++ r), by rw [sizes_app]; omega, ?_⟩
        rw [hW]
        refine ⟨_, vs' ++ xvs, ts' ++ r, rfl, rfl, ((k2'.trans k3).cons.trans k4).drop np, upd_same, ((tr2.keep k3).append rX).keep k4, by rw [sizes_app]; omega, ?_⟩
        rw [iff, split, g]
        constructor
        · rintro ⟨h1, h2⟩ y m
          rcases List.mem_append.mp m with m | m
          · exact h1 y m
          · exact h2 y m
        · intro h
          exact ⟨fun y m => h y (List.mem_append.mpr (.inl m)), fun y m => h y (List.mem_append.mpr (.inr m))⟩
end
end Og

namespace Og
open PySem PySem.Spec PyProof.Rows L2
open PySem.NumText (AllDigits digitsVal)
theorem IsWord.ascii {x : List Nat} (h : IsWord x) : Ascii x := by
  obtain ⟨c, cs, rfl, h1, h2, _⟩ := h
  intro y m
  rcases List.mem_cons.mp m with e | m
  · have := h1.2; omega
  · rcases h2 y m with h | h <;> omega
section
variable {P : Program} {w : World} {K : PySem.W.Frag} {mg : Str → Option Value} {base : Heap}
/-! ### _is_good_function -/
def spGFn (K : PySem.W.Frag) : Sp := fun vs H Q _ => ∃ (v : V) (cd : Addr) (t : Tree) (fs : List Tree), vs = [v, .ref cd, .int (fs.length : Nat)] ∧ Tr K H v t ∧ WT t ∧ CallD H cd fs ∧ t.size ≤ 300000 ∧ ∀ (b : Bool) (H' : Hp), (b = true ↔ GoodFn fs t) → Keep [] H H' → Q (.bl b) H'
theorem has_gfn {k : Nat} (D : DefAt K mg "_is_good_function" s_is_good_function p_is_good_function) (B : Bn mg) (c1 : Has P w K mg base k "_looks_like_function" p_looks_like_function (spLooks K)) (c2 : Has P w K mg base k "_is_good_name" p_is_good_name spGName) (c3 : Has P w K mg base k "_are_good_parameters" p_are_good_parameters (spGPs K)) (c4 : Has P w K mg base k "_is_good_body" p_is_good_body (spGBody K)) :
    Has P w K mg base (k + 1) "_is_good_function" p_is_good_function (spGFn K) := by
  obtain ⟨f, fd, F, hm, hb⟩ := D.ex
  obtain ⟨_, _, c_looks_like_function⟩ := c1
  obtain ⟨_, _, c_is_good_name⟩ := c2
  obtain ⟨_, _, c_are_good_parameters⟩ := c3
  obtain ⟨_, _, c_is_good_body⟩ := c4
  refine ⟨f, fd, F.ok sc_is_good_function (fun vs H Q E h => ?_) (fun cdv A outer s H vs Q E hr h => ?_), hm, F.kp, hb⟩
  · obtain ⟨_, _, _, _, rfl, _⟩ := h
    rfl
  obtain ⟨v, cd, t, fs, rfl, tv, wt, cD, sz, q⟩ := h
  refine ⟨_, (pss_cons (ps_if (pt_not (pt_val (cal c_looks_like_function hr rfl (pa_cons (pv 0) pa_nil)))) (pss_one (ps_ret pe_bl)) pss_nil)
    (pss_cons (ps_asg (pv 0) (pg_tup (by rfl) (pgs_cons (pg_name (i := 3) sc_is_good_function.nd rfl (.inl rfl)) (pgs_cons (pg_name (i := 4) sc_is_good_function.nd rfl (.inl rfl)) (pgs_cons (pg_name (i := 5) sc_is_good_function.nd rfl (.inl rfl)) pgs_nil)))))
    (pss_cons (ps_if (PW.pt (pw_or (pt_not (pt_val (cal c_is_good_name hr rfl (pa_cons (pv 3) (pa_cons (pv 2) pa_nil))))) (pw_or1 (pt_not (pt_val (cal c_are_good_parameters hr rfl (pa_cons (pv 4) pa_nil))))))) (pss_one (ps_ret pe_bl)) pss_nil)
    (pss_one (ps_ret (cal c_is_good_body hr rfl (pa_cons (pv 5) (pa_cons (pv 4) (pa_cons (pv 1) pa_nil))))))))), ?_⟩
  refine ⟨_, rfl, v, t, rfl, tv, fun b hb1 => ⟨_, rfl, ?_⟩⟩
  cases b with
  | false => exact iteT (q false H ⟨fun h => (by cases h), fun ⟨n, ps, bd, e, _⟩ => (by have := hb1.mpr ⟨n, ps, bd, e⟩; cases this)⟩ Keep.refl)
  | true =>
    refine iteF ?_
    obtain ⟨n, ps, bd, rfl⟩ := hb1.mp rfl
    have uniq : GoodFn fs (.l [.w n, .l ps, bd]) ↔ GoodName fs.length n ∧ GoodPs ps ∧ GoodE fs ps bd := by
      constructor
      · rintro ⟨n', ps', bd', e, h⟩
        have h1 := Tree.l.inj e
        have h2 := Tree.w.inj (List.cons.inj h1).1
        have h3 := (List.cons.inj h1).2
        have h4 := Tree.l.inj (List.cons.inj h3).1
        have h5 := (List.cons.inj (List.cons.inj h3).2).1
        rw [h2, h4, h5]
        exact h
      · intro h
        exact ⟨n, ps, bd, rfl, h⟩
    obtain ⟨a, vs, rfl, hS, r⟩ := tv.list
    obtain ⟨x, y, z, rfl, r0, r1, r2⟩ := r.three
    have e0 := r0.word
    subst e0
    have wn := wt.list.head.word
    refine ⟨_, rfl, a, _, rfl, hS, rfl, _, _, rfl, y, _, rfl, z, _, rfl, rfl, ?_⟩
    refine ⟨_, rfl, _, rfl, n, fs.length, rfl, wn.ascii, wn.ne, wn.len, fun b1 hb2 => ⟨_, rfl, ?_⟩⟩
    cases b1 with
    | false => exact iteT (iteT (q false H ⟨fun h => (by cases h), fun h => (by have := hb2.mpr (uniq.mp h).1; cases this)⟩ Keep.refl))
    | true =>
      refine iteF ?_
      refine ⟨_, rfl, y, ps, rfl, r1, fun b2 H1 hb3 k1 => ⟨_, rfl, ?_⟩⟩
      cases b2 with
      | false => exact iteT (q false H1 ⟨fun h => (by cases h), fun h => (by have := hb3.mpr (uniq.mp h).2.1; cases this)⟩ k1)
      | true =>
        refine iteF ?_
        have gp := hb3.mp rfl
        rw [size_l, sizes_cons, sizes_cons, sizes_cons, sizes_nil] at sz
        refine ⟨_, rfl, _, rfl, _, rfl, z, y, cd, bd, ps, fs, rfl, r2.keep k1, r1.keep k1, fun t m => ?_, cD.keep k1, by omega, fun b3 H2 hb4 k2 => ?_⟩
        · obtain ⟨i, hi⟩ := List.mem_iff_getElem?.mp m
          obtain ⟨x', e, _⟩ := gp.2 i t hi
          rw [e]; rfl
        · refine q b3 H2 ?_ (k1.trans k2)
          rw [uniq, hb4]
          exact ⟨fun h => ⟨hb2.mp rfl, gp, h⟩, fun h => h.2.2⟩
/-! ### _called_functions -/
def spCalled (K : PySem.W.Frag) : Sp := fun vs H Q _ => ∃ (v : V) (fs : List Tree), vs = [v] ∧ Tr K H v (.l fs) ∧ fs.length ≤ 300000 ∧ ∀ (cd : Addr) (H' : Hp), CallD H' cd fs → Keep [] H H' → H cd = none → Q (.ref cd) H'
theorem has_called {k : Nat} (D : DefAt K mg "_called_functions" s_called_functions p_called_functions) (B : Bn mg) (c1 : Has P w K mg base k "_looks_like_function" p_looks_like_function (spLooks K)) :
    Has P w K mg base (k + 1) "_called_functions" p_called_functions (spCalled K) := by
  obtain ⟨f, fd, F, hm, hb⟩ := D.ex
  obtain ⟨_, _, c_looks_like_function⟩ := c1
  refine ⟨f, fd, F.ok sc_called_functions (fun vs H Q E h => ?_) (fun cdv A outer s H vs Q E hr h => ?_), hm, F.kp, hb⟩
  · obtain ⟨_, _, rfl, _⟩ := h
    rfl
  obtain ⟨v, fs, rfl, tv, hl, q⟩ := h
  refine ⟨_, (pss_cons (ps_set (i := 1) sc_called_functions.nd rfl (.inl rfl) pe_dnewK)
    (pss_cons (ps_for PassesOwn.never rfl (pi_tup (pv 0)) (pg_name (i := 2) sc_called_functions.nd rfl (.inl rfl))
      (pss_one (ps_if (PW.pt (pw_and (pt_val (cal c_looks_like_function hr rfl (pa_cons (pv 2) pa_nil))) (pw_and1 (pt_cmp (pc_dnotin (hu_of hr) (pe_ix ix_tup (pv 2) pe_int (fun _ _ => rfl)) (pv 1)))))) (pss_one (ps_dput (hu_of hr) (pv 1) (pe_ix ix_tup (pv 2) pe_int (fun _ _ => rfl)) (pe_callB call_len_seq (by rfl) B.len PySem.boot_len (pa_cons (pe_ix ix_tup (pv 2) pe_int (fun _ _ => rfl)) pa_nil)) rfl)) pss_nil)))
    (pss_one (ps_ret (pv 1))))), ?_⟩
  obtain ⟨a, vs, rfl, hS, r⟩ := tv.list
  have lv := r.length
  refine fun cd nc => ?_
  refine ⟨_, rfl, a, rfl, ⟨_, (Keep.new (S := []) nc).sqT hS⟩, ?_⟩
  refine for_tup (K := K) (a := a) (xs := vs) (fun i σ H' => ∃ (y2 : Option V) (kvs : List (L2.Key × V)), σ = [some (.ref a), some (.ref cd), y2] ∧ Keep [] H H' ∧ H' cd = some (.dK kvs) ∧ kvs.length ≤ i ∧ ∀ x : List Nat, valV kvs (Sum.inr (tx x)) = (arity (fs.take i) x).map fun k => V.int (k : Nat))
    ⟨none, [], rfl, Keep.new nc, upd_same, Nat.le_refl _, fun x => rfl⟩ (fun i σ H' _ pw => ?_) (fun i z σ H1 hz pw => ?_) (fun σ H1 pw => ?_)
  · obtain ⟨_, _, _, k1, _⟩ := pw
    exact k1.sqT hS
  · obtain ⟨y2, kvs, rfl, k1, eD, ln, rel⟩ := pw
    have il : i < vs.length := (List.getElem?_eq_some_iff.mp hz).1
    have hg : fs[i]? = some fs[i] := List.getElem?_eq_getElem (by omega)
    obtain ⟨z', hz', tz⟩ := r.get hg
    rw [hz] at hz'
    cases hz'
    have tk : fs.take (i + 1) = fs.take i ++ [fs[i]] := by rw [List.take_add_one, hg]; rfl
    generalize fs[i] = t at hg tz tk
    have tz1 := tz.keep k1
    refine ⟨_, rfl, z, t, rfl, tz1, fun b hb1 => ⟨_, rfl, ?_⟩⟩
    cases b with
    | false =>
      refine iteF ?_
      have nf : fn? t = none := by
        cases h : fn? t with
        | none => rfl
        | some p =>
          obtain ⟨n, ps, bd⟩ := p
          have := hb1.mpr ⟨n, ps, bd, fn?_iff.mp h⟩
          cases this
      refine ⟨_, _, rfl, k1, eD, by omega, fun x => ?_⟩
      rw [rel, tk, arity_app]
      cases arity (fs.take i) x with
      | some k0 => rfl
      | none =>
        show _ = (arity [t] x).map _
        rw [arity_one_no nf]
    | true =>
      refine iteT ?_
      obtain ⟨n, ps, bd, rfl⟩ := hb1.mp rfl
      have ar : ∀ x, arity [Tree.l [.w n, .l ps, bd]] x = if n = x then some ps.length else none := fun x => arity_one (fn?_iff.mpr rfl)
      obtain ⟨za, zvs, rfl, hZ, rZ⟩ := tz1.list
      obtain ⟨x0, y0, z0, rfl, r0, r1, r2⟩ := rZ.three
      have e0 := r0.word
      subst e0
      refine ⟨_, rfl, za, _, _, _, rfl, rfl, hZ, atI_zero _ _, _, rfl, cd, _, rfl, DGet.k (k := Sum.inr (tx n)) eD, ?_⟩
      have rn := rel n
      rw [rn]
      cases ha : arity (fs.take i) n with
      | some k0 =>
        refine ⟨_, rfl, iteF ?_⟩
        refine ⟨_, _, rfl, k1, eD, by omega, fun x => ?_⟩
        rw [rel, tk, arity_app]
        cases hx : arity (fs.take i) x with
        | some k1 => rfl
        | none =>
          show _ = (arity [_] x).map _
          rw [ar]
          by_cases e : n = x
          · rw [e, hx] at ha; cases ha
          · rw [if_neg e]
      | none =>
        obtain ⟨pa, pvs, rfl, hP, rP⟩ := r1.list
        refine ⟨_, rfl, iteT ?_⟩
        refine ⟨_, rfl, za, _, _, _, rfl, rfl, hZ, atI_nat (j := 1) rfl, pa, pvs, rfl, .inr hP, _, rfl, _, rfl, za, _, _, _, rfl, rfl, hZ, atI_zero _ _, cd, _, rfl, DPut.k (k := Sum.inr (tx n)) eD ?_, ?_⟩
        · exact Nat.lt_of_le_of_lt (show kvs.length ≤ 300000 by omega) (by decide)
        refine ⟨_, _, rfl, k1.updNew nc, upd_same, Nat.le_trans (length_putK _ _ _) (by omega), fun x => ?_⟩
        rw [valV_put, tk, arity_app]
        by_cases e : n = x
        · subst e
          rw [if_pos rfl, ha]
          show _ = (arity [_] n).map _
          rw [ar, if_pos rfl, rP.length]
          rfl
        · rw [if_neg (fun z => e (tx_inj (Sum.inr.inj z)).symm), rel]
          cases hx : arity (fs.take i) x with
          | some k1 => rfl
          | none =>
            show _ = (arity [_] x).map _
            rw [ar, if_neg e]
  · obtain ⟨y2, kvs, rfl, k1, eD, ln, rel⟩ := pw
    refine ⟨_, rfl, ?_⟩
    rw [lv, List.take_length] at rel
    exact q cd H1 ⟨kvs, eD, rel⟩ k1 nc
end
end Og

namespace Og
open PySem PySem.Spec PyProof.Rows L2
open PySem.NumText (AllDigits digitsVal)
section
variable {P : Program} {w : World} {K : PySem.W.Frag} {mg : Str → Option Value} {base : Heap}
/-! ### check_program -/
/-- what is wished where an error with the number n leaves -/
def Wish (f : Str) (C : Addr) (n : Nat) (H : Hp) (E : XK) : Prop := ∀ (d : Addr) (H' : Hp), H' d = some (.xd [(f, .int n)]) → Keep [] H H' → E (.ref C) (some d) H'
def spCheckX (K : PySem.W.Frag) (C : Addr) : Sp := fun vs H Q E => ∃ (v : V) (t : Tree), vs = [v] ∧ Tr K H v t ∧ WT t ∧ t.size ≤ 300000 ∧ (∀ fs, t = .l fs → fs.length ≤ 1000) ∧ (∀ n, BadNo t (some n) → Wish "function" C n H E) ∧ (∀ H' : Hp, BadNo t none → Keep [] H H' → Q .non H')
theorem has_checkX {C G fI : Addr} {fdI : FuncData} {k : Nat} (T_BadProgram : ErrT K mg "BadProgram" "BadProgram.__init__" "function" s_BadProgram_init C G fI fdI) (D : DefAt K mg "check_program" s_check_program p_check_program) (B : Bn mg)
    (c1 : Has P w K mg base (k + 3) "_called_functions" p_called_functions (spCalled K)) (c2 : Has P w K mg base (k + 3) "_is_good_function" p_is_good_function (spGFn K)) : HasX P w K mg base (k + 4) "check_program" p_check_program (spCheckX K C) := by
  obtain ⟨f, fd, F, hm, hb⟩ := D.ex
  obtain ⟨_, _, c_called_functions⟩ := c1
  obtain ⟨_, _, c_is_good_function⟩ := c2
  have ok_BadProgram := ok_BadProgram' (P := P) (w := w) (base := base) T_BadProgram
  refine ⟨f, fd, F.okX sc_check_program (fun vs H Q E h => ?_) (fun cdv A outer s H vs Q E hr h => ?_), hm, F.kp, hb⟩
  · obtain ⟨_, _, rfl, _⟩ := h
    rfl
  obtain ⟨v, t, rfl, tv, wt, sz, few, bad, q⟩ := h
  have hr_BadProgram := hr.mono (show 2 ≤ k + 3 by omega)
  refine ⟨_, (pss_cons (ps_if (PW.pt (pw_or (pt_not (pt_val (pe_callB call_isi (by rfl) B.isinstance (by decide +kernel) (pa_cons (pv 0) (pa_cons (pe_bltn (v := .ty "tuple") rfl B.tuple (by decide +kernel) rfl) pa_nil))))) (pw_or1 (pt_not (pt_truth (pv 0) (by intro _; rfl)))))) (pss_one (ps_raise rfl (takes_of rfl rfl rfl rfl) (pmk_oex T_BadProgram.ox T_BadProgram.iC T_BadProgram.tI ok_BadProgram hr_BadProgram T_BadProgram.bi .nil pass0 rfl T_BadProgram.gC (pa_cons pe_int pa_nil)))) pss_nil)
    (pss_cons (ps_set (i := 1) sc_check_program.nd rfl (.inl rfl) (cal c_called_functions hr rfl (pa_cons (pv 0) pa_nil)))
    (pss_cons (ps_set (i := 2) sc_check_program.nd rfl (.inl rfl) (pe_callTy0 cr_set0K (by rfl) B.set (by decide +kernel)))
    (pss_one (ps_for (passes_of rfl) rfl (pi_enumT (by rfl) B.enumerate (pa_cons (pv 0) pa_nil)) (pg_tup (by rfl) (pgs_cons (pg_name (i := 3) sc_check_program.nd rfl (.inl rfl)) (pgs_cons (pg_name (i := 4) sc_check_program.nd rfl (.inl rfl)) pgs_nil)))
      (pss_cons (ps_if (pt_not (pt_val (cal c_is_good_function hr rfl (pa_cons (pv 4) (pa_cons (pv 1) (pa_cons (pe_callB call_len_seq (by rfl) B.len PySem.boot_len (pa_cons (pv 0) pa_nil)) pa_nil)))))) (pss_one (ps_raise rfl (takes_of rfl rfl rfl rfl) (pmk_oex T_BadProgram.ox T_BadProgram.iC T_BadProgram.tI ok_BadProgram hr_BadProgram T_BadProgram.bi .nil pass0 rfl T_BadProgram.gC (pa_cons (pv 3) pa_nil)))) pss_nil)
      (pss_cons (ps_if (pt_cmpR or_sinK (pe_ix ix_tup (pv 4) pe_int (fun _ _ => rfl)) (pv 2) (by rfl)) (pss_one (ps_raise rfl (takes_of rfl rfl rfl rfl) (pmk_oex T_BadProgram.ox T_BadProgram.iC T_BadProgram.tI ok_BadProgram hr_BadProgram T_BadProgram.bi .nil pass0 rfl T_BadProgram.gC (pa_cons (pv 3) pa_nil)))) pss_nil)
      (pss_one (ps_expr (pe_saddK (pv 2) (pa_cons (pe_ix ix_tup (pv 4) pe_int (fun _ _ => rfl)) pa_nil))))))))))), ?_⟩
  have raise : ∀ (n : Nat) (H1 : Hp), Keep [] H H1 → n ≤ 400000 → BadNo t (some n) → ∀ a : Addr, H1 a = none → spErr K "function" [V.ref a, V.int n] (upd H1 a (exo a C none)) (fun v H2 => v = .non ∧ ∃ (d : Addr) (fs : List (Str × V)), H2 a = some (exo a C (some d)) ∧ H2 d = some (exd d fs) ∧ H1 d = none ∧ E (.ref C) (some d) (upd (del H2 a) d (.xd fs))) (fun _ _ _ => False) := by
    intro n H1 kk hn hres a na
    refine ⟨a, C, n, rfl, T_BadProgram.ox, T_BadProgram.no, by omega, upd_same, fun dx hd ne => ⟨rfl, dx, _, upd_same, by rw [upd_ne ne, upd_same], by rw [upd_ne ne] at hd; exact hd, bad n hres dx _ upd_same (kk.trans (keep_raised na hd ne))⟩⟩
  obtain ⟨ty, u, q1, q2, q3⟩ := isi_tup tv
  refine ⟨_, rfl, _, _, ty, u, _, rfl, q1, q2, q3, _, rfl, ?_⟩
  cases t with
  | w x =>
    refine iteT (iteT ⟨by show 1 ≤ 1000; decide, fun a na => ?_⟩)
    exact raise 0 H Keep.refl (by omega) rfl a na
  | l fs =>
    refine iteF ?_
    obtain ⟨a, vs, rfl, hS, r⟩ := tv.list
    have lv := r.length
    have szl := sz
    rw [size_l] at szl
    have lsz := len_sizes fs
    have few := few fs rfl
    refine ⟨_, rfl, _, tru_tup hS, ?_⟩
    rw [emp_iff r]
    by_cases hne : fs = []
    · subst hne
      refine iteT ⟨by show 1 ≤ 1000; decide, fun a na => ?_⟩
      exact raise 0 H Keep.refl (by omega) (.inl ⟨rfl, rfl⟩) a na
    have b0 : fs.isEmpty = false := by
      cases fs with
      | nil => exact absurd rfl hne
      | cons _ _ => rfl
    rw [b0]
    refine iteF ?_
    refine ⟨_, rfl, _, fs, rfl, tv, by omega, fun cd H1 cD k1 ncd => ?_⟩
    refine ⟨rfl, fun e nE => ?_⟩
    have nE0 : H e = none := k1.free nE
    have cde : cd ≠ e := let ⟨_, ek, _⟩ := cD; ne_of_none ek nE
    have k2 : Keep [] H1 (upd H1 e (SetK P w e (fun _ => false) 0)) := Keep.new nE
    refine ⟨_, rfl, a, vs, rfl, (k1.trans k2).sqT hS, ?_⟩
    refine for_enumT (K := K) (a := a) (xs := vs) (fun i σ H' => ∃ (y3 y4 : Option V) (S : L2.Key → Bool) (n : Nat), σ = [some (.ref a), some (.ref cd), some (.ref e), y3, y4] ∧ Keep [] H H' ∧ CallD H' cd fs ∧ H' e = some (SetK P w e S n) ∧ n ≤ i ∧
        (∀ x : List Nat, S (Sum.inr (tx x)) = true ↔ Dupe fs i x) ∧ ∀ j, j < i → GoodAt fs j)
      ⟨none, none, _, 0, rfl, k1.trans k2, cD.keep k2, upd_same, Nat.le_refl _, fun x => ⟨fun h => (by cases h), fun ⟨j, _, h, _⟩ => absurd h (Nat.not_lt_zero _)⟩, fun j h => absurd h (Nat.not_lt_zero _)⟩ (fun i σ H' pw => ?_) (fun i z T σ H3 hz pw nT => ?_) (fun σ H3 pw => ?_)
    · obtain ⟨_, _, _, _, _, k3, _⟩ := pw
      exact k3.sqT hS
    · obtain ⟨y3, y4, S, n, rfl, k3, cD3, eS, ni, hS1, good⟩ := pw
      have il : i < vs.length := (List.getElem?_eq_some_iff.mp hz).1
      have hg : fs[i]? = some fs[i] := List.getElem?_eq_getElem (by omega)
      have mem := List.getElem_mem (show i < fs.length by omega)
      obtain ⟨z', hz', tz⟩ := r.get hg
      rw [hz] at hz'
      cases hz'
      have wz := wt.list.all _ mem
      have sg := size_of_get hg
      generalize fs[i] = u at hg tz wz sg mem
      have k4 : Keep [] H3 (upd H3 T (.tup [.int (i : Nat), z])) := Keep.new nT
      have eS4 : (upd H3 T (.tup [.int (i : Nat), z])) e = some (SetK P w e S n) := k4.get eS (by simp)
      have eT : (upd H3 T (.tup [.int (i : Nat), z])) T = some (.tup [.int (i : Nat), z]) := upd_same
      generalize upd H3 T (.tup [.int (i : Nat), z]) = H4 at k4 eS4 eT
      have k4' := k3.trans k4
      have cD4 := cD3.keep k4
      refine ⟨T, _, rfl, SqT.of_tup eT, rfl, _, _, rfl, _, _, rfl, rfl, ?_⟩
      have badi : ¬ GoodAt fs i → BadNo (.l fs) (some i) := fun h => .inr ⟨hne, .inr ⟨i, rfl, by omega, h, good⟩⟩
      refine ⟨_, rfl, _, rfl, _, rfl, a, vs, rfl, .inr (k4'.sqT hS), z, cd, u, fs, ?_, tz.keep k4', wz, cD4, by omega, fun b H5 hb1 k5 => ⟨_, rfl, ?_⟩⟩
      · rw [lv]; rfl
      have k5' := k4'.trans k5
      cases b with
      | false =>
        refine iteT ⟨_, rfl, by show 1 ≤ 1000; decide, fun a na => ?_⟩
        refine raise i H5 k5' (by omega) (badi fun ⟨n', ps, bd, e1, g1, g2, g3, _⟩ => ?_) a na
        rw [hg] at e1
        have := hb1.mpr ⟨n', ps, bd, Option.some.inj e1, g1, g2, g3⟩
        cases this
      | true =>
        refine iteF ?_
        obtain ⟨nm, ps, bd, rfl, g1, g2, g3⟩ := hb1.mp rfl
        have tz5 := tz.keep k5'
        obtain ⟨za, zvs, rfl, hZ, rZ⟩ := tz5.list
        obtain ⟨x0, y0, z0, rfl, r0, r1, r2⟩ := rZ.three
        have e0 := r0.word
        subst e0
        have eS5 := k5.get eS4 (by simp)
        refine ⟨_, rfl, za, _, _, _, rfl, rfl, hZ, atI_zero _ _, _, rfl, Sum.inr (tx nm), e, S, n, rfl, rfl, eS5, S (Sum.inr (tx nm)), rfl, ?_⟩
        have gi : GoodAt fs i ↔ ¬ Dupe fs i nm := by
          constructor
          · rintro ⟨n', ps', bd', e1, _, _, _, h⟩
            rw [hg] at e1
            have h1 := Tree.l.inj (Option.some.inj e1)
            have h2 := Tree.w.inj (List.cons.inj h1).1
            rw [h2]; exact h
          · intro h
            exact ⟨nm, ps, bd, hg, g1, g2, g3, h⟩
        cases hk : S (Sum.inr (tx nm)) with
        | true =>
          refine iteT ⟨_, rfl, by show 1 ≤ 1000; decide, fun a na => ?_⟩
          exact raise i H5 k5' (by omega) (badi fun h => gi.mp h ((hS1 nm).mp hk)) a na
        | false =>
          refine iteF ?_
          have nd : ¬ Dupe fs i nm := fun h => by rw [(hS1 nm).mpr h] at hk; cases hk
          refine ⟨_, rfl, ⟨_, _, _, rfl, eS5⟩, _, rfl, za, _, _, _, rfl, rfl, hZ, atI_zero _ _, e, Sum.inr (tx nm), S, n, rfl, rfl, eS5, ?_, ?_⟩
          · exact Nat.lt_of_le_of_lt (show n + 1 ≤ 1001 by omega) (by decide)
          refine ⟨_, _, _, _, rfl, k5'.updNew nE0, ?_, upd_same, ?_, fun y => ?_, fun j h => ?_⟩
          · obtain ⟨kvs, ek, rel⟩ := cD4.keep k5
            exact ⟨kvs, by rw [upd_ne cde]; exact ek, rel⟩
          · split <;> omega
          · rw [Bool.or_eq_true, decide_eq_true_eq, hS1]
            constructor
            · rintro (⟨j, rr, h1, h2⟩ | h)
              · exact ⟨j, rr, by omega, h2⟩
              · have := tx_inj (Sum.inr.inj h)
                subst this
                exact ⟨i, _, Nat.lt_succ_self _, hg⟩
            · rintro ⟨j, rr, h1, h2⟩
              by_cases ji : j < i
              · exact .inl ⟨j, rr, ji, h2⟩
              · have : j = i := by omega
                subst this
                rw [hg] at h2
                right
                have := Tree.w.inj (List.cons.inj (Tree.l.inj (Option.some.inj h2))).1
                rw [this]
          · by_cases ji : j < i
            · exact good j ji
            · have : j = i := by omega
              subst this
              exact gi.mpr nd
    · obtain ⟨y3, y4, S, n, rfl, k3, cD3, eS, ni, hS1, good⟩ := pw
      exact q H3 (.inr ⟨hne, .inl ⟨rfl, fun i h => good i (by omega)⟩⟩) k3
end
end Og

namespace Og
open PySem PySem.Spec PyProof.Rows L2
/-! ### written words and tuples of such, as trees -/
def tL (K : PySem.W.Frag) (t : Tree) : TE := fun _ H Q => ∀ (v : V) (H' : Hp), Tr K H' v t → Keep [] H H' → Q v H'
def tLs (K : PySem.W.Frag) (ts : List Tree) : TA := fun _ H R => ∀ (vs : List V) (H' : Hp), Trs K H' vs ts → Keep [] H H' → R vs H'
section
variable {X : Cx} {e : Expr} {es : List Expr} {t : Tree} {ts : List Tree}
theorem pe_weak {e : Expr} {t t' : TE} (h : PE X e t) (w : ∀ σ H Q, t' σ H Q → t σ H Q) : PE X e t' := ⟨fun pins s σ H Q I q => h.run pins s σ H Q I (w σ H Q q)⟩
theorem pa_weak {es : List Expr} {t t' : TA} (h : PA X es t) (w : ∀ σ H R, t' σ H R → t σ H R) : PA X es t' := ⟨fun pos pins s σ H R I q => h.run pos pins s σ H R I (w σ H R q)⟩
theorem pe_lw {s : Str} {k : Nat} {pos : Pos} {x : List Nat} (h : s = tx x) : PE X (.Constant (.str s) k pos) (tL X.K (.w x)) :=
  pe_weak pe_str fun σ H Q q => q _ H (by rw [h]; exact tr_w) Keep.refl
theorem pl_nil : PA X [] (tLs X.K []) := pa_weak pa_nil fun σ H R q => q [] H trs_nil Keep.refl
theorem pl_cons (h : PE X e (tL X.K t)) (r : PA X es (tLs X.K ts)) (hs : starEach (e :: es) X.env = (false, eval e X.env) :: starEach es X.env := by rfl) : PA X (e :: es) (tLs X.K (t :: ts)) :=
  pa_weak (pa_cons h r hs) fun σ H R q v H1 tv k1 vs H2 tvs k2 => q (v :: vs) H2 (trs_cons (tv.keep k2) tvs) (k1.trans k2)
theorem pe_lt {k : Nat} {pos : Pos} (r : PA X es (tLs X.K ts)) (l : ts.length ≤ sizeLine) : PE X (.Tuple es k pos) (tL X.K (.l ts)) :=
  pe_weak (pe_tup r) fun σ H Q q vs H1 tvs k1 => ⟨by rw [tvs.length]; exact l, fun p np => q _ _ (tr_tup upd_same (tvs.keep (Keep.new (S := []) np))) (k1.trans (Keep.new np))⟩
end
/-! ### one of some written words -/
def isWordB : List Nat → Bool
  | [] => false
  | c :: cs => decide (97 ≤ c) && decide (c ≤ 122) && cs.all (fun y => (decide (97 ≤ y) && decide (y ≤ 122)) || (decide (48 ≤ y) && decide (y ≤ 57))) && decide (cs.length ≤ 11)
theorem isWord_of : ∀ {x : List Nat}, isWordB x = true → IsWord x
  | [], h => by cases h
  | c :: cs, h => by
    simp only [isWordB, Bool.and_eq_true, decide_eq_true_eq, List.all_eq_true, Bool.or_eq_true] at h
    exact ⟨c, cs, rfl, h.1.1, h.1.2, h.2⟩
theorem pick {L : List (List Nat)} {xs : List V} (e : xs = L.map fun c => V.str (tx c)) (w : L.all isWordB = true) {j : Int} (h0 : 0 ≤ j) (h1 : j < (L.length : Int)) : ∃ c, atI xs j = some (.str (tx c)) ∧ IsWord c ∧ c ∈ L := by
  obtain ⟨n, rfl⟩ := Int.eq_ofNat_of_zero_le h0
  have l : n < L.length := by omega
  refine ⟨L[n], ?_, isWord_of (List.all_eq_true.mp w _ (List.getElem_mem l)), List.getElem_mem l⟩
  exact atI_nat (by rw [e, List.getElem?_map, List.getElem?_eq_getElem l]; rfl)
mutual
def wtB : Tree → Bool
  | .w x => isWordB x
  | .l ts => wtsB ts
def wtsB : List Tree → Bool
  | [] => true
  | t :: ts => wtB t && wtsB ts
end
mutual
theorem wt_of : ∀ {t : Tree}, wtB t = true → WT t
  | .w x, h => by rw [wtB] at h; exact wt_w (isWord_of h)
  | .l ts, h => by rw [wtB] at h; exact wt_l (wts_of h)
theorem wts_of : ∀ {ts : List Tree}, wtsB ts = true → WTs ts
  | [], _ => wts_nil
  | t :: ts, h => by
    rw [wtsB, Bool.and_eq_true] at h
    exact wts_cons (wt_of h.1) (wts_of h.2)
end
mutual
def deepB : Nat → Tree → Bool
  | _, .w _ => true
  | 0, .l _ => false
  | n + 1, .l ts => deepsB n ts
def deepsB : Nat → List Tree → Bool
  | _, [] => true
  | n, t :: ts => deepB n t && deepsB n ts
end
mutual
theorem deep_of : ∀ {n : Nat} {t : Tree}, deepB n t = true → Deep n t
  | n, .w x, _ => deep_w n x
  | 0, .l _, h => by rw [deepB] at h; cases h
  | n + 1, .l ts, h => by rw [deepB] at h; exact deeps_of h
theorem deeps_of : ∀ {n : Nat} {ts : List Tree}, deepsB n ts = true → ∀ t ∈ ts, Deep n t
  | n, [], _ => fun t m => absurd m (List.not_mem_nil)
  | n, u :: ts, h => fun t m => by
    rw [deepsB, Bool.and_eq_true] at h
    rcases List.mem_cons.mp m with e | m
    · rw [e]; exact deep_of h.1
    · exact deeps_of h.2 t m
end
end Og

namespace Og
open PySem PySem.Spec PyProof.Rows L2
section
variable {P : Program} {w : World} {K : PySem.W.Frag} {mg : Str → Option Value} {base : Heap}
theorem pass_never {X : Cx} : Passes (L2.CX X.prog X.w) X E0 := fun _ _ _ _ _ _ _ h => by
  obtain ⟨_, _, _, _, _, _, _, _, _, _, _, _, h⟩ := h
  exact h.elim
/-- the number of parameters of the first function -/
def firstPs : Tree → Nat
  | .l (.l [_, .l ps, _] :: _) => ps.length
  | _ => 0
def nameOf : Tree → List Nat
  | .l (.w n :: _) => n
  | _ => []
def Fits (K : PySem.W.Frag) (H : Hp) (v : V) (t : Tree) : Prop := Tr K H v t ∧ WT t ∧ t.size ≤ 300000 ∧ ∀ fs, t = .l fs → fs.length ≤ 1000
def spInputsX (K : PySem.W.Frag) (C : Addr) : Sp := fun vs H Q E => ∃ (v : V) (t : Tree), vs = [v] ∧ Fits K H v t ∧ (∀ n, BadNo t (some n) → Wish "function" C n H E) ∧ (∀ H' : Hp, BadNo t none → Keep [] H H' → Q (.int (firstPs t : Nat)) H')
def spNamesX (K : PySem.W.Frag) (C : Addr) : Sp := fun vs H Q E => ∃ (v : V) (t : Tree), vs = [v] ∧ Fits K H v t ∧ (∀ n, BadNo t (some n) → Wish "function" C n H E) ∧ (∀ (fs : List Tree) (L : Addr) (H' : Hp), t = .l fs → BadNo t none → H L = none → H' L = some (.lst (fs.map fun f => V.str (tx (nameOf f)))) → Keep [] H H' → Q (.ref L) H')
theorem good_three {fs : List Tree} {i : Nat} (hi : i < fs.length) (h : BadNo (.l fs) none) : ∃ n ps b, fs[i]? = some (.l [.w n, .l ps, b]) := by
  rcases h with ⟨_, e⟩ | ⟨_, ⟨_, all⟩ | ⟨_, e, _⟩⟩
  · cases e
  · obtain ⟨n, ps, b, e, _⟩ := all i hi
    exact ⟨n, ps, b, e⟩
  · cases e
theorem good_list {t : Tree} (h : BadNo t none) : ∃ fs, t = .l fs ∧ fs ≠ [] := by
  cases t with
  | w x => cases h
  | l fs =>
    rcases h with ⟨_, e⟩ | ⟨ne, _⟩
    · cases e
    · exact ⟨fs, rfl, ne⟩
theorem has_inputsX {C : Addr} {k : Nat} (D : DefAt K mg "inputs_of" s_inputs_of p_inputs_of) (B : Bn mg) (c1 : HasX P w K mg base k "check_program" p_check_program (spCheckX K C)) :
    HasX P w K mg base (k + 1) "inputs_of" p_inputs_of (spInputsX K C) := by
  obtain ⟨f, fd, F, hm, hb⟩ := D.ex
  obtain ⟨_, _, c_check_program⟩ := c1
  refine ⟨f, fd, F.okX sc_inputs_of (fun vs H Q E h => ?_) (fun cdv A outer s H vs Q E hr h => ?_), hm, F.kp, hb⟩
  · obtain ⟨_, _, rfl, _⟩ := h
    rfl
  obtain ⟨v, t, rfl, ⟨tv, wt, sz, few⟩, bad, q⟩ := h
  refine ⟨_, (pss_cons (ps_expr (calX c_check_program hr rfl (passes_call (takes_of rfl rfl rfl rfl) (fun _ _ _ _ h => h)) (pa_cons (pv 0) pa_nil)))
    (pss_one (ps_ret (pe_callB call_len_seq (by rfl) B.len PySem.boot_len (pa_cons (pe_ix ix_tup (pe_ix ix_tup (pv 0) pe_int (fun _ _ => rfl)) pe_int (fun _ _ => rfl)) pa_nil))))), ?_⟩
  refine ⟨_, rfl, v, t, rfl, tv, wt, sz, few, bad, fun H1 good k1 => ?_⟩
  obtain ⟨fs, rfl, ne⟩ := good_list good
  have l0 : 0 < fs.length := List.length_pos_iff.mpr ne
  obtain ⟨n, ps, b, e0⟩ := good_three l0 good
  have q1 := q H1 good k1
  have ef : firstPs (.l fs) = ps.length := by
    cases fs with
    | nil => exact absurd rfl ne
    | cons f0 r =>
      rw [Option.some.inj e0]
      rfl
  rw [ef] at q1
  obtain ⟨a, vs, rfl, hS, r⟩ := (tv.keep k1).list
  obtain ⟨v0, hv0, t0⟩ := r.get e0
  obtain ⟨oa, ovs, rfl, hO, rO⟩ := t0.list
  obtain ⟨x0, y0, z0, rfl, r0, r1, r2⟩ := rO.three
  obtain ⟨pa, pvs, rfl, hP, rP⟩ := r1.list
  refine ⟨_, rfl, a, vs, _, _, rfl, rfl, hS, atI_nat (j := 0) hv0, oa, _, _, _, rfl, rfl, hO, rfl, pa, pvs, rfl, .inr hP, ?_⟩
  rw [rP.length]
  exact q1
end
end Og

namespace Og
open PySem PySem.Spec PyProof.Rows L2
/-! ### == and != of trees of any kind and size, as deep as there is room -/
mutual
def td : Tree → Nat
  | .w _ => 0
  | .l ts => tds ts + 1
def tds : List Tree → Nat
  | [] => 0
  | t :: ts => max (td t) (tds ts)
end
theorem td_mem : ∀ {ts : List Tree} {t : Tree}, t ∈ ts → td t ≤ tds ts
  | [], t, m => absurd m (List.not_mem_nil)
  | u :: ts, t, m => by
    rw [tds]
    rcases List.mem_cons.mp m with e | m
    · rw [e]; exact Nat.le_max_left ..
    · exact Nat.le_trans (td_mem m) (Nat.le_max_right ..)
section
variable {X : Cx} {pins : List (Addr × Obj)} {σ : L2.St} {H : Hp} {s : Shared}
theorem isTup_uniq {h : Heap} {a : Addr} {x y : Array Value} (p : IsTup h a x) (q : IsTup h a y) : x = y := by
  obtain ⟨o, e, _, n, d⟩ := p
  obtain ⟨o', e', _, n', d'⟩ := q
  rw [e] at e'
  have := Option.some.inj e'
  subst this
  rw [d] at d'
  injection d'
theorem tr_uniq (I : L2.Inv X pins σ H s) : ∀ (n : Nat) (t u : Tree) (x y : V) (v : Value), td t ≤ n → Tr X.K H x t → Tr X.K H y u → L2.RelV x v → L2.RelV y v → t = u := by
  have step : ∀ n : Nat, (∀ (ts us : List Tree) (vs ws : List V) (its : List Value), (∀ t ∈ ts, td t + 1 ≤ n) → Trs X.K H vs ts → Trs X.K H ws us → L2.Vals vs its → L2.Vals ws its → ts = us) → ∀ (t u : Tree) (x y : V) (v : Value), td t ≤ n → Tr X.K H x t → Tr X.K H y u → L2.RelV x v → L2.RelV y v → t = u := by
    intro n items t u x y v d hx hy rx ry
    cases t with
    | w a =>
      have ex := hx.word
      subst ex
      obtain ⟨tk, rfl⟩ := rx
      cases u with
      | w c =>
        have ey := hy.word
        subst ey
        obtain ⟨tk', e⟩ := ry
        injection e with e1 _
        exact congrArg Tree.w (tx_str (congrArg V.str e1))
      | l us =>
        obtain ⟨p, ws, rfl, _, _⟩ := hy.list
        have e : Value.str (tx a) tk = Value.ref p := ry
        cases e
    | l ts =>
      obtain ⟨p, vs, rfl, hs, r⟩ := hx.list
      have ev : v = Value.ref p := rx
      subst ev
      cases u with
      | w c =>
        have ey := hy.word
        subst ey
        obtain ⟨tk', e⟩ := ry
        cases e
      | l us =>
        obtain ⟨q, ws, rfl, hs', r'⟩ := hy.list
        have e : Value.ref p = Value.ref q := ry
        injection e with e
        subst e
        obtain ⟨i1, v1, p1, _⟩ := I.tuple hs
        obtain ⟨i2, v2, p2, _⟩ := I.tuple hs'
        have ei := isTup_uniq p1 p2
        have ei : i1 = i2 := by simpa using ei
        subst ei
        refine congrArg Tree.l (items ts us vs ws i1 (fun t m => ?_) r r' v1 v2)
        have := td_mem m
        rw [td] at d
        omega
  intro n
  induction n with
  | zero =>
    refine step 0 fun ts us vs ws its d r r' v1 v2 => ?_
    cases ts with
    | nil =>
      rw [r.nil] at v1
      cases v1
      cases us with
      | nil => rfl
      | cons u us =>
        obtain ⟨_, _, rfl, _, _⟩ := r'.cons
        cases v2
    | cons t ts => exact absurd (d t (List.mem_cons_self ..)) (by omega)
  | succ n ih =>
    refine step (n + 1) fun ts => ?_
    induction ts with
    | nil =>
      intro us vs ws its d r r' v1 v2
      rw [r.nil] at v1
      cases v1
      cases us with
      | nil => rfl
      | cons u us =>
        obtain ⟨_, _, rfl, _, _⟩ := r'.cons
        cases v2
    | cons t ts iht =>
      intro us vs ws its d r r' v1 v2
      obtain ⟨v0, vr, rfl, r0, rr⟩ := r.cons
      cases v1 with
      | cons a1 b1 =>
      cases us with
      | nil =>
        rw [r'.nil] at v2
        cases v2
      | cons u us =>
        obtain ⟨w0, wr, rfl, q0, qr⟩ := r'.cons
        cases v2 with
        | cons a2 b2 =>
        have h1 := d t (List.mem_cons_self ..)
        rw [ih t u v0 w0 _ (by omega) r0 q0 a1 a2, iht us vr wr _ (fun t m => d t (List.mem_cons_of_mem _ m)) rr qr b1 b2]
theorem paired_get {F : V → Value → Prop} : ∀ {vs : List V} {its : List Value} {j : Nat}, Paired F vs its → (h : j < its.length) → ∃ x, vs[j]? = some x ∧ F x its[j]
  | [], [], j, _, h => absurd h (Nat.not_lt_zero _)
  | x :: vs, y :: its, j, .cons a b, h => by
    cases j with
    | zero => exact ⟨x, rfl, a⟩
    | succ j => exact paired_get b (Nat.lt_of_succ_lt_succ h)
theorem paired_len {F : V → Value → Prop} : ∀ {vs : List V} {its : List Value}, Paired F vs its → vs.length = its.length
  | [], [], _ => rfl
  | x :: vs, y :: its, .cons a b => congrArg (· + 1) (paired_len b)
open Classical in
theorem all_items {ts us : List Tree} {m : Nat} {b : Bool} (hm : m = min ts.length us.length) (h : b = true ↔ ts = us) :
    ((List.range m).all (fun j => decide (ts[j]? = us[j]?)) && decide (ts.length = us.length)) = b := by
  rw [Bool.eq_iff_iff, Bool.and_eq_true, List.all_eq_true, decide_eq_true_eq, h]
  constructor
  · rintro ⟨a, l⟩
    refine List.ext_getElem? fun j => ?_
    by_cases c : j < m
    · exact of_decide_eq_true (a j (List.mem_range.mpr c))
    · rw [List.getElem?_eq_none (by omega), List.getElem?_eq_none (by omega)]
  · rintro rfl
    exact ⟨fun j _ => decide_eq_true rfl, rfl⟩
open Classical in
theorem eq_trees (I : L2.Inv X pins σ H s) : ∀ (n : Nat) (t u : Tree) (x y : V) (v w : Value) (A : Around) (b : Bool), td t ≤ n → (b = true ↔ t = u) → Tr X.K H x t → Tr X.K H y u → L2.RelV x v → L2.RelV y w → A.units + n < cLine → SeqAt.EqAt A s v w b ∧ ((t.isW = false ∧ u.isW = false) → SeqAt.RcAt A s v w b ∧ SeqAt.RcNeAt A s v w (!b)) := by
  have step : ∀ n : Nat, (∀ (t u : Tree) (x y : V) (v w : Value) (A : Around) (b : Bool), td t + 1 ≤ n → (b = true ↔ t = u) → Tr X.K H x t → Tr X.K H y u → L2.RelV x v → L2.RelV y w → A.units + n < cLine + 1 → SeqAt.EqAt A s v w b) →
      ∀ (t u : Tree) (x y : V) (v w : Value) (A : Around) (b : Bool), td t ≤ n → (b = true ↔ t = u) → Tr X.K H x t → Tr X.K H y u → L2.RelV x v → L2.RelV y w → A.units + n < cLine → SeqAt.EqAt A s v w b ∧ ((t.isW = false ∧ u.isW = false) → SeqAt.RcAt A s v w b ∧ SeqAt.RcNeAt A s v w (!b)) := by
    intro n ih t u x y v w A b d hb hx hy rx ry hu
    cases t with
    | w a =>
      refine ⟨?_, fun h => by cases h.1⟩
      have ex := hx.word
      subst ex
      obtain ⟨tk, rfl⟩ := rx
      cases u with
      | w c =>
        have ey := hy.word
        subst ey
        obtain ⟨tk', rfl⟩ := ry
        have e : b = (tx a == tx c) := by
          rw [Bool.eq_iff_iff, hb, beq_iff_eq]
          exact ⟨fun h => by rw [Tree.w.inj h], fun h => congrArg Tree.w (tx_str (congrArg V.str h))⟩
        rw [e]
        exact SeqAt.EqAt.str_str _ _ _ _
      | l us =>
        obtain ⟨p, ws, rfl, hs, _⟩ := hy.list
        obtain ⟨its, _, pt, _⟩ := I.tuple hs
        obtain rfl : w = Value.ref p := ry
        have e : b = false := by
          cases b with
          | false => rfl
          | true => have := hb.mp rfl; cases this
        rw [e]
        exact SeqAt.EqAt.str_tuple _ _ pt (by omega)
    | l ts =>
      obtain ⟨p, vs, rfl, hs, r⟩ := hx.list
      obtain ⟨i1, v1, p1, _⟩ := I.tuple hs
      obtain rfl : v = Value.ref p := rx
      cases u with
      | w c =>
        refine ⟨?_, fun h => by cases h.2⟩
        have ey := hy.word
        subst ey
        obtain ⟨tk', rfl⟩ := ry
        have e : b = false := by
          cases b with
          | false => rfl
          | true => have := hb.mp rfl; cases this
        rw [e]
        exact SeqAt.EqAt.tuple_str _ _ p1 (by omega)
      | l us =>
        obtain ⟨q, ws, rfl, hs', r'⟩ := hy.list
        obtain ⟨i2, v2, p2, _⟩ := I.tuple hs'
        obtain rfl : w = Value.ref q := ry
        have l1 : i1.length = ts.length := (paired_len v1).symm.trans r.length
        have l2 : i2.length = us.length := (paired_len v2).symm.trans r'.length
        have items : ∀ (j : Nat) (h1 : j < i1.toArray.size) (h2 : j < i2.toArray.size), SeqAt.EqAt A.in1 s i1.toArray[j] i2.toArray[j] (decide (ts[j]? = us[j]?)) := by
          intro j h1 h2
          have j1 : j < i1.length := by simpa using h1
          have j2 : j < i2.length := by simpa using h2
          obtain ⟨x1, e1, f1⟩ := paired_get v1 j1
          obtain ⟨x2, e2, f2⟩ := paired_get v2 j2
          have g1 : ts[j]? = some ts[j] := List.getElem?_eq_getElem (by omega)
          have g2 : us[j]? = some us[j] := List.getElem?_eq_getElem (by omega)
          obtain ⟨z1, h1', t1⟩ := r.get g1
          obtain ⟨z2, h2', t2⟩ := r'.get g2
          rw [e1] at h1'
          rw [e2] at h2'
          cases h1'
          cases h2'
          have dm := td_mem (List.getElem_mem (show j < ts.length by omega))
          rw [td] at d
          refine ih ts[j] us[j] x1 x2 _ _ A.in1 _ (by omega) ?_ t1 t2 (by simpa using f1) (by simpa using f2) (by rw [Around.in1_units]; omega)
          rw [decide_eq_true_eq, g1, g2, Option.some.injEq]
        have hb' : b = true ↔ ts = us := hb.trans ⟨fun h => Tree.l.inj h, fun h => congrArg Tree.l h⟩
        have eb : ((List.range (min i1.toArray.size i2.toArray.size)).all (fun j => decide (ts[j]? = us[j]?)) && i1.toArray.size == i2.toArray.size) = b := by
          have hsz : (i1.toArray.size == i2.toArray.size) = decide (ts.length = us.length) := by
            rw [Bool.eq_iff_iff, beq_iff_eq, decide_eq_true_eq, List.size_toArray, List.size_toArray, l1, l2]
          rw [hsz]
          exact all_items (by rw [List.size_toArray, List.size_toArray, l1, l2]) hb'
        have rc : SeqAt.RcAt A s (.ref p) (.ref q) b := by
          have := SeqAt.RcAt.tuples (A := A) p1 p2 (by omega) items
          rw [eb] at this
          exact this
        have rn : SeqAt.RcNeAt A s (.ref p) (.ref q) (!b) := by
          have := SeqAt.RcNeAt.tuples (A := A) p1 p2 (by omega) items
          rw [eb] at this
          exact this
        refine ⟨?_, fun _ => ⟨rc, rn⟩⟩
        by_cases hpq : p = q
        · subst hpq
          have e := tr_uniq I (td (.l ts)) (.l ts) (.l us) _ _ (.ref p) (Nat.le_refl _) hx hy rfl rfl
          rw [hb.mpr e]
          exact SeqAt.EqAt.same _
        · exact SeqAt.EqAt.of_refs hpq rc
  intro n
  induction n with
  | zero => exact step 0 fun t u x y v w A b d => absurd d (by omega)
  | succ n ih => exact step (n + 1) fun t u x y v w A b d hb hx hy rx ry hu => (ih t u x y v w A b (by omega) hb hx hy rx ry (by omega)).1
/-- x == y, x != y of trees -/
def rEqT (K : PySem.W.Frag) (n : Nat) : R2 := fun x y H Q => ∃ t u : Tree, Tr K H x t ∧ Tr K H y u ∧ td t ≤ n ∧ ∀ b : Bool, (b = true ↔ t = u) → Q (.bl b) H
def rNeT (K : PySem.W.Frag) (n : Nat) : R2 := fun x y H Q => ∃ t u : Tree, Tr K H x t ∧ Tr K H y u ∧ td t ≤ n ∧ ∀ b : Bool, (b = true ↔ t ≠ u) → Q (.bl b) H
open Classical in
theorem op_eqT {n : Nat} (hu : X.A.units + 64 < cLine) (hn : X.A.units + n < cLine) : OpR X (compareOp .Eq) (rEqT X.K n) := by
  intro pins s σ H x y v w Q I rx ry h
  obtain ⟨t, u, hx, hy, d, q⟩ := h
  by_cases hw : t.isW = false ∧ u.isW = false
  · have rc := ((eq_trees I n t u x y v w X.A (decide (t = u)) d decide_eq_true_iff hx hy rx ry hn).2 hw).1
    exact rc _ _ _ _ ⟨.bl (decide (t = u)), H, I, rfl, q _ decide_eq_true_iff⟩
  · refine op_eqTr hu pins s σ H x y v w Q I rx ry ⟨t, u, hx, hy, ?_, q⟩
    cases h1 : t.isW with
    | true => exact .inl rfl
    | false =>
      cases h2 : u.isW with
      | true => exact .inr rfl
      | false => exact absurd ⟨h1, h2⟩ hw
open Classical in
theorem op_neT {n : Nat} (hu : X.A.units + 64 < cLine) (hn : X.A.units + n < cLine) : OpR X (compareOp .NotEq) (rNeT X.K n) := by
  intro pins s σ H x y v w Q I rx ry h
  obtain ⟨t, u, hx, hy, d, q⟩ := h
  by_cases hw : t.isW = false ∧ u.isW = false
  · have rc := ((eq_trees I n t u x y v w X.A (decide (t = u)) d decide_eq_true_iff hx hy rx ry hn).2 hw).2
    refine rc _ _ _ _ ⟨.bl (!decide (t = u)), H, I, rfl, q _ ?_⟩
    rw [Bool.not_eq_true', decide_eq_false_iff_not]
  · refine op_neTr hu pins s σ H x y v w Q I rx ry ⟨t, u, hx, hy, ?_, q⟩
    cases h1 : t.isW with
    | true => exact .inl rfl
    | false =>
      cases h2 : u.isW with
      | true => exact .inr rfl
      | false => exact absurd ⟨h1, h2⟩ hw
end
end Og

namespace Og
open PySem PySem.Spec PyProof.Rows L2
/-! ### == and != of trees one of which is not nested too deep -/
section
variable {X : Cx} {pins : List (Addr × Obj)} {σ : L2.St} {H : Hp} {s : Shared}
open Classical in
theorem eq_treesM (I : L2.Inv X pins σ H s) : ∀ (n : Nat) (t u : Tree) (x y : V) (v w : Value) (A : Around) (b : Bool), min (td t) (td u) ≤ n → (b = true ↔ t = u) → Tr X.K H x t → Tr X.K H y u → L2.RelV x v → L2.RelV y w → A.units + n < cLine → SeqAt.EqAt A s v w b ∧ ((t.isW = false ∧ u.isW = false) → SeqAt.RcAt A s v w b ∧ SeqAt.RcNeAt A s v w (!b)) := by
  have step : ∀ n : Nat, (∀ (t u : Tree) (x y : V) (v w : Value) (A : Around) (b : Bool), min (td t) (td u) + 1 ≤ n → (b = true ↔ t = u) → Tr X.K H x t → Tr X.K H y u → L2.RelV x v → L2.RelV y w → A.units + n < cLine + 1 → SeqAt.EqAt A s v w b) →
      ∀ (t u : Tree) (x y : V) (v w : Value) (A : Around) (b : Bool), min (td t) (td u) ≤ n → (b = true ↔ t = u) → Tr X.K H x t → Tr X.K H y u → L2.RelV x v → L2.RelV y w → A.units + n < cLine → SeqAt.EqAt A s v w b ∧ ((t.isW = false ∧ u.isW = false) → SeqAt.RcAt A s v w b ∧ SeqAt.RcNeAt A s v w (!b)) := by
    intro n ih t u x y v w A b d hb hx hy rx ry hu
    cases t with
    | w a =>
      refine ⟨?_, fun h => by cases h.1⟩
      have ex := hx.word
      subst ex
      obtain ⟨tk, rfl⟩ := rx
      cases u with
      | w c =>
        have ey := hy.word
        subst ey
        obtain ⟨tk', rfl⟩ := ry
        have e : b = (tx a == tx c) := by
          rw [Bool.eq_iff_iff, hb, beq_iff_eq]
          exact ⟨fun h => by rw [Tree.w.inj h], fun h => congrArg Tree.w (tx_str (congrArg V.str h))⟩
        rw [e]
        exact SeqAt.EqAt.str_str _ _ _ _
      | l us =>
        obtain ⟨p, ws, rfl, hs, _⟩ := hy.list
        obtain ⟨its, _, pt, _⟩ := I.tuple hs
        obtain rfl : w = Value.ref p := ry
        have e : b = false := by
          cases b with
          | false => rfl
          | true => have := hb.mp rfl; cases this
        rw [e]
        exact SeqAt.EqAt.str_tuple _ _ pt (by omega)
    | l ts =>
      obtain ⟨p, vs, rfl, hs, r⟩ := hx.list
      obtain ⟨i1, v1, p1, _⟩ := I.tuple hs
      obtain rfl : v = Value.ref p := rx
      cases u with
      | w c =>
        refine ⟨?_, fun h => by cases h.2⟩
        have ey := hy.word
        subst ey
        obtain ⟨tk', rfl⟩ := ry
        have e : b = false := by
          cases b with
          | false => rfl
          | true => have := hb.mp rfl; cases this
        rw [e]
        exact SeqAt.EqAt.tuple_str _ _ p1 (by omega)
      | l us =>
        obtain ⟨q, ws, rfl, hs', r'⟩ := hy.list
        obtain ⟨i2, v2, p2, _⟩ := I.tuple hs'
        obtain rfl : w = Value.ref q := ry
        have l1 : i1.length = ts.length := (paired_len v1).symm.trans r.length
        have l2 : i2.length = us.length := (paired_len v2).symm.trans r'.length
        have items : ∀ (j : Nat) (h1 : j < i1.toArray.size) (h2 : j < i2.toArray.size), SeqAt.EqAt A.in1 s i1.toArray[j] i2.toArray[j] (decide (ts[j]? = us[j]?)) := by
          intro j h1 h2
          have j1 : j < i1.length := by simpa using h1
          have j2 : j < i2.length := by simpa using h2
          obtain ⟨x1, e1, f1⟩ := paired_get v1 j1
          obtain ⟨x2, e2, f2⟩ := paired_get v2 j2
          have g1 : ts[j]? = some ts[j] := List.getElem?_eq_getElem (by omega)
          have g2 : us[j]? = some us[j] := List.getElem?_eq_getElem (by omega)
          obtain ⟨z1, h1', t1⟩ := r.get g1
          obtain ⟨z2, h2', t2⟩ := r'.get g2
          rw [e1] at h1'
          rw [e2] at h2'
          cases h1'
          cases h2'
          have dm := td_mem (List.getElem_mem (show j < ts.length by omega))
          have dm2 := td_mem (List.getElem_mem (show j < us.length by omega))
          rw [td, td] at d
          refine ih ts[j] us[j] x1 x2 _ _ A.in1 _ (by omega) ?_ t1 t2 (by simpa using f1) (by simpa using f2) (by rw [Around.in1_units]; omega)
          rw [decide_eq_true_eq, g1, g2, Option.some.injEq]
        have hb' : b = true ↔ ts = us := hb.trans ⟨fun h => Tree.l.inj h, fun h => congrArg Tree.l h⟩
        have eb : ((List.range (min i1.toArray.size i2.toArray.size)).all (fun j => decide (ts[j]? = us[j]?)) && i1.toArray.size == i2.toArray.size) = b := by
          have hsz : (i1.toArray.size == i2.toArray.size) = decide (ts.length = us.length) := by
            rw [Bool.eq_iff_iff, beq_iff_eq, decide_eq_true_eq, List.size_toArray, List.size_toArray, l1, l2]
          rw [hsz]
          exact all_items (by rw [List.size_toArray, List.size_toArray, l1, l2]) hb'
        have rc : SeqAt.RcAt A s (.ref p) (.ref q) b := by
          have := SeqAt.RcAt.tuples (A := A) p1 p2 (by omega) items
          rw [eb] at this
          exact this
        have rn : SeqAt.RcNeAt A s (.ref p) (.ref q) (!b) := by
          have := SeqAt.RcNeAt.tuples (A := A) p1 p2 (by omega) items
          rw [eb] at this
          exact this
        refine ⟨?_, fun _ => ⟨rc, rn⟩⟩
        by_cases hpq : p = q
        · subst hpq
          have e := tr_uniq I (td (.l ts)) (.l ts) (.l us) _ _ (.ref p) (Nat.le_refl _) hx hy rfl rfl
          rw [hb.mpr e]
          exact SeqAt.EqAt.same _
        · exact SeqAt.EqAt.of_refs hpq rc
  intro n
  induction n with
  | zero => exact step 0 fun t u x y v w A b d => absurd d (by omega)
  | succ n ih => exact step (n + 1) fun t u x y v w A b d hb hx hy rx ry hu => (ih t u x y v w A b (by omega) hb hx hy rx ry (by omega)).1
/-- x == y, x != y of trees -/
def rEqTm (K : PySem.W.Frag) (n : Nat) : R2 := fun x y H Q => ∃ t u : Tree, Tr K H x t ∧ Tr K H y u ∧ min (td t) (td u) ≤ n ∧ ∀ b : Bool, (b = true ↔ t = u) → Q (.bl b) H
def rNeTm (K : PySem.W.Frag) (n : Nat) : R2 := fun x y H Q => ∃ t u : Tree, Tr K H x t ∧ Tr K H y u ∧ min (td t) (td u) ≤ n ∧ ∀ b : Bool, (b = true ↔ t ≠ u) → Q (.bl b) H
open Classical in
theorem op_eqTm {n : Nat} (hu : X.A.units + 64 < cLine) (hn : X.A.units + n < cLine) : OpR X (compareOp .Eq) (rEqTm X.K n) := by
  intro pins s σ H x y v w Q I rx ry h
  obtain ⟨t, u, hx, hy, d, q⟩ := h
  by_cases hw : t.isW = false ∧ u.isW = false
  · have rc := ((eq_treesM I n t u x y v w X.A (decide (t = u)) d decide_eq_true_iff hx hy rx ry hn).2 hw).1
    exact rc _ _ _ _ ⟨.bl (decide (t = u)), H, I, rfl, q _ decide_eq_true_iff⟩
  · refine op_eqTr hu pins s σ H x y v w Q I rx ry ⟨t, u, hx, hy, ?_, q⟩
    cases h1 : t.isW with
    | true => exact .inl rfl
    | false =>
      cases h2 : u.isW with
      | true => exact .inr rfl
      | false => exact absurd ⟨h1, h2⟩ hw
open Classical in
theorem op_neTm {n : Nat} (hu : X.A.units + 64 < cLine) (hn : X.A.units + n < cLine) : OpR X (compareOp .NotEq) (rNeTm X.K n) := by
  intro pins s σ H x y v w Q I rx ry h
  obtain ⟨t, u, hx, hy, d, q⟩ := h
  by_cases hw : t.isW = false ∧ u.isW = false
  · have rc := ((eq_treesM I n t u x y v w X.A (decide (t = u)) d decide_eq_true_iff hx hy rx ry hn).2 hw).2
    refine rc _ _ _ _ ⟨.bl (!decide (t = u)), H, I, rfl, q _ ?_⟩
    rw [Bool.not_eq_true', decide_eq_false_iff_not]
  · refine op_neTr hu pins s σ H x y v w Q I rx ry ⟨t, u, hx, hy, ?_, q⟩
    cases h1 : t.isW with
    | true => exact .inl rfl
    | false =>
      cases h2 : u.isW with
      | true => exact .inr rfl
      | false => exact absurd ⟨h1, h2⟩ hw
end
end Og

namespace Og
open PySem PySem.Spec PyProof.Rows L2
theorem room_n {k n : Nat} {A : Around} (hr : Room k A) (hn : n ≤ 16 * k + 200) : A.units + n < cLine := by
  have := hr.un
  omega
def wordW : List Nat := [119, 111, 114, 100]
def headW : List Nat := [104, 101, 97, 100]
def tailW : List Nat := [116, 97, 105, 108]
def sameW : List Nat := [115, 97, 109, 101]
def joinW : List Nat := [106, 111, 105, 110]
def yesT : Tree := .w [121, 101, 115]
def headT : Tree → Tree
  | .l (t :: _) => t
  | _ => .l []
def tailT : Tree → Tree
  | .l (_ :: ts) => .l ts
  | _ => .l []
def consT (f : Tree) : Tree → Tree
  | .l ts => .l (f :: ts)
  | .w _ => .l [f]
/-- what word, head and tail make -/
def prim1 (w : List Nat) (l : Tree) : Tree := if w = wordW then (if l.isW then yesT else .l []) else if w = headW then headT l else tailT l
theorem prim1_word (l : Tree) : prim1 wordW l = if l.isW then yesT else .l [] := if_pos rfl
theorem prim1_head (l : Tree) : prim1 headW l = headT l := by unfold prim1; rw [if_neg (by decide), if_pos rfl]
theorem prim1_tail (l : Tree) : prim1 tailW l = tailT l := by unfold prim1; rw [if_neg (by decide), if_neg (by decide)]
open Classical in
/-- what same and join make -/
noncomputable def prim2 (w : List Nat) (f l : Tree) : Tree := if w = sameW then (if f = l then yesT else .l []) else consT f l
theorem prim2_same_eq (f l : Tree) (h : f = l) : prim2 sameW f l = yesT := by unfold prim2; rw [if_pos rfl, if_pos h]
theorem prim2_same_ne (f l : Tree) (h : ¬ f = l) : prim2 sameW f l = .l [] := by unfold prim2; rw [if_pos rfl, if_neg h]
theorem prim2_join (f l : Tree) : prim2 joinW f l = consT f l := by unfold prim2; rw [if_neg (by decide)]
end Og

namespace Og
open PySem PySem.Spec PyProof.Rows L2
/-! ### runs: the machine of the laws, on trees -/
abbrev Env := List (List Nat × Tree)
def look (e : Env) (x : List Nat) : Option Tree := (e.find? fun p => decide (p.1 = x)).map (·.2)
inductive Task where
  | prim (w : List Nat)
  | pick (a b : Tree) (e : Env)
  | call (x : List Nat)
  | ev (t : Tree) (e : Env)
/-- what is to be done, the next first; the values found, the last first; the expressions begun -/
structure MS where
  todo : List Task
  found : List Tree
  steps : Nat
abbrev Fn0 := List Nat × List (List Nat) × Tree
def ifW : List Nat := [105, 102]
def fnOf (L : List Fn0) (x : List Nat) : Option (List (List Nat) × Tree) := (L.find? fun f => decide (f.1 = x)).map (·.2)
end Og
namespace Og
open Classical in
/-- one turn -/
noncomputable def turn (L : List Fn0) : MS → Option MS
  | ⟨[], _, _⟩ => none
  | ⟨.prim w :: td, fd, n⟩ =>
    if w ∈ [wordW, headW, tailW] then match fd with
      | l :: r => some ⟨td, prim1 w l :: r, n⟩
      | _ => none
    else match fd with
      | l :: f :: r => some ⟨td, prim2 w f l :: r, n⟩
      | _ => none
  | ⟨.pick a b e :: td, c :: fd, n⟩ => some ⟨.ev (if c = .l [] then b else a) e :: td, fd, n⟩
  | ⟨.pick _ _ _ :: _, [], _⟩ => none
  | ⟨.call x :: td, fd, n⟩ => match fnOf L x with
    | some (ps, b) => if ps.length ≤ fd.length then some ⟨.ev b (ps.zip (fd.take ps.length).reverse) :: td, fd.drop ps.length, n⟩ else none
    | none => none
  | ⟨.ev (.w x) e :: td, fd, n⟩ => match look e x with
    | some v => some ⟨td, v :: fd, n + 1⟩
    | none => none
  | ⟨.ev (.l (.w x :: ts)) e :: td, fd, n⟩ =>
    if x = qw then match ts with
      | [v] => some ⟨td, v :: fd, n + 1⟩
      | _ => none
    else if x = ifW then match ts with
      | [t, a, b] => some ⟨.ev t e :: .pick a b e :: td, fd, n + 1⟩
      | _ => none
    else some ⟨ts.map (fun t => .ev t e) ++ (if x ∈ [sameW, wordW, headW, tailW, joinW] then .prim x else .call x) :: td, fd, n + 1⟩
  | ⟨.ev _ _ :: _, _, _⟩ => none
/-- so many turns -/
noncomputable def turns (L : List Fn0) : Nat → MS → Option MS
  | 0, m => some m
  | k + 1, m => (turn L m).bind (turns L k)
end Og

namespace Og
/-! ### the store of values: nodes by number -/
inductive Nd where
  | e
  | w (x : List Nat)
  | c (f r : Nat)
  deriving DecidableEq
abbrev St0 := List Nd
def yesW : List Nat := [121, 101, 115]
/-- the value of a number -/
inductive Den (N : St0) : Nat → Tree → Prop
  | e {i : Nat} (h : N[i]? = some Nd.e) : Den N i (.l [])
  | w {i : Nat} {x : List Nat} (h : N[i]? = some (Nd.w x)) : Den N i (.w x)
  | c {i f r : Nat} {t : Tree} {ts : List Tree} (h : N[i]? = some (Nd.c f r)) (hf : Den N f t) (hr : Den N r (.l ts)) : Den N i (.l (t :: ts))
structure WF (N : St0) : Prop where
  z0 : N[0]? = some Nd.e
  z1 : N[1]? = some (Nd.w yesW)
  e0 : ∀ i : Nat, N[i]? = some Nd.e → i = 0
  cb : ∀ i f r : Nat, N[i]? = some (Nd.c f r) → f < i ∧ r < i ∧ ∀ x, N[r]? ≠ some (Nd.w x)
  nd : ∀ (i j : Nat) (n : Nd), N[i]? = some n → N[j]? = some n → i = j
def Ext (N N' : St0) : Prop := ∃ M, N' = N ++ M
theorem Ext.refl (N : St0) : Ext N N := ⟨[], (List.append_nil N).symm⟩
theorem Ext.trans {a b c : St0} (h : Ext a b) (g : Ext b c) : Ext a c := by
  obtain ⟨m, rfl⟩ := h
  obtain ⟨m', rfl⟩ := g
  exact ⟨m ++ m', by rw [List.append_assoc]⟩
theorem Ext.get {N N' : St0} (h : Ext N N') {i : Nat} {n : Nd} (e : N[i]? = some n) : N'[i]? = some n := by
  obtain ⟨m, rfl⟩ := h
  rw [List.getElem?_append_left (List.getElem?_eq_some_iff.mp e).1]
  exact e
theorem Ext.len {N N' : St0} (h : Ext N N') : N.length ≤ N'.length := by
  obtain ⟨m, rfl⟩ := h
  rw [List.length_append]
  omega
theorem Den.ext {N N' : St0} (g : Ext N N') {i : Nat} {t : Tree} (h : Den N i t) : Den N' i t := by
  induction h with
  | e h => exact .e (g.get h)
  | w h => exact .w (g.get h)
  | c h _ _ a b => exact .c (g.get h) a b
theorem Den.lt {N : St0} {i : Nat} {t : Tree} (h : Den N i t) : i < N.length := by
  cases h with
  | e h => exact (List.getElem?_eq_some_iff.mp h).1
  | w h => exact (List.getElem?_eq_some_iff.mp h).1
  | c h _ _ => exact (List.getElem?_eq_some_iff.mp h).1
theorem Den.fn {N : St0} {i : Nat} {t u : Tree} (h : Den N i t) (g : Den N i u) : t = u := by
  induction h generalizing u with
  | e h =>
    cases g with
    | e _ => rfl
    | w q => rw [h] at q; cases q
    | c q _ _ => rw [h] at q; cases q
  | w h =>
    cases g with
    | e q => rw [h] at q; cases q
    | w q => rw [h] at q; cases q; rfl
    | c q _ _ => rw [h] at q; cases q
  | c h _ _ a b =>
    cases g with
    | e q => rw [h] at q; cases q
    | w q => rw [h] at q; cases q
    | c q qf qr =>
      rw [h] at q
      cases q
      have e1 := a qf
      have e2 := Tree.l.inj (b qr)
      rw [e1, e2]
theorem Den.inj {N : St0} (wf : WF N) {i j : Nat} {t : Tree} (h : Den N i t) (g : Den N j t) : i = j := by
  induction h generalizing j with
  | e h =>
    cases g with
    | e q => rw [wf.e0 _ h, wf.e0 _ q]
  | w h =>
    cases g with
    | w q => exact wf.nd _ _ _ h q
  | c h _ _ a b =>
    cases g with
    | c q qf qr =>
      have e1 := a qf
      have e2 := b qr
      subst e1 e2
      exact wf.nd _ _ _ h q
theorem Den.all {N : St0} (wf : WF N) : ∀ (n i : Nat), i < n → i < N.length → ∃ t, Den N i t
  | 0, i, h, _ => absurd h (Nat.not_lt_zero _)
  | n + 1, i, hn, hl => by
    have e : N[i]? = some N[i] := List.getElem?_eq_getElem hl
    cases q : N[i] with
    | e => rw [q] at e; exact ⟨_, .e e⟩
    | w x => rw [q] at e; exact ⟨_, .w e⟩
    | c f r =>
      rw [q] at e
      obtain ⟨l1, l2, nw⟩ := wf.cb _ _ _ e
      obtain ⟨t, ht⟩ := Den.all wf n f (by omega) (by omega)
      obtain ⟨u, hu⟩ := Den.all wf n r (by omega) (by omega)
      cases hu with
      | e hu => exact ⟨_, .c e ht (.e hu)⟩
      | w hu => exact absurd hu (nw _)
      | c hu a b => exact ⟨_, .c e ht (.c hu a b)⟩
theorem Den.ex {N : St0} (wf : WF N) {i : Nat} (h : i < N.length) : ∃ t, Den N i t := Den.all wf (i + 1) i (Nat.lt_succ_self _) h
def isWN (N : St0) (i : Nat) : Bool := match N[i]? with
  | some (Nd.w _) => true
  | _ => false
theorem Den.isW {N : St0} {i : Nat} {t : Tree} (h : Den N i t) : isWN N i = t.isW := by
  unfold isWN
  cases h with
  | e h => rw [h]; rfl
  | w h => rw [h]; rfl
  | c h _ _ => rw [h]; rfl
theorem Den.isE {N : St0} (wf : WF N) {i : Nat} {t : Tree} (h : Den N i t) : i = 0 ↔ t = .l [] := by
  constructor
  · intro e
    subst e
    exact h.fn (.e wf.z0)
  · intro e
    subst e
    exact h.inj wf (.e wf.z0)
/-- the number behind the first value: a word has no items -/
def restN (N : St0) (r : Nat) : Nat := if isWN N r then 0 else r
theorem restN_den {N : St0} (wf : WF N) {r : Nat} {t : Tree} (h : Den N r t) : Den N (restN N r) (.l (match t with | .l ts => ts | .w _ => [])) := by
  unfold restN
  rw [h.isW]
  cases t with
  | w x => exact .e wf.z0
  | l ts => exact h
theorem WF.snoc {N : St0} (wf : WF N) {n : Nd} (ne : n ≠ Nd.e) (nw : ∀ i : Nat, N[i]? ≠ some n) (hc : ∀ f r : Nat, n = Nd.c f r → f < N.length ∧ r < N.length ∧ isWN N r = false) : WF (N ++ [n]) := by
  have l0 : 0 < N.length := (List.getElem?_eq_some_iff.mp wf.z0).1
  have l1 : 1 < N.length := (List.getElem?_eq_some_iff.mp wf.z1).1
  have get : ∀ (i : Nat) (m : Nd), (N ++ [n])[i]? = some m → N[i]? = some m ∨ (i = N.length ∧ m = n) := fun i m e => by
    by_cases h : i < N.length
    · rw [List.getElem?_append_left h] at e; exact .inl e
    · rw [List.getElem?_append_right (by omega)] at e
      by_cases h2 : i = N.length
      · subst h2
        rw [Nat.sub_self] at e
        exact .inr ⟨rfl, (Option.some.inj e).symm⟩
      · have : ([n] : List Nd)[i - N.length]? = none := List.getElem?_eq_none (by simp; omega)
        rw [this] at e; cases e
  refine ⟨by rw [List.getElem?_append_left l0]; exact wf.z0, by rw [List.getElem?_append_left l1]; exact wf.z1, fun i e => ?_, fun i f r e => ?_, fun i j m e1 e2 => ?_⟩
  · rcases get i _ e with e | ⟨_, e⟩
    · exact wf.e0 i e
    · exact absurd e.symm ne
  · rcases get i _ e with e3 | ⟨i3, e3⟩
    · obtain ⟨a, b, c⟩ := wf.cb i f r e3
      refine ⟨a, b, fun x q => ?_⟩
      rcases get r _ q with q3 | ⟨q3, _⟩
      · exact c x q3
      · have := (List.getElem?_eq_some_iff.mp e3).1; omega
    · obtain ⟨a, b, c⟩ := hc f r e3.symm
      refine ⟨by omega, by omega, fun x q => ?_⟩
      rcases get r _ q with q3 | ⟨q3, _⟩
      · unfold isWN at c; rw [q3] at c; cases c
      · omega
  · rcases get i _ e1 with e3 | ⟨i3, m3⟩ <;> rcases get j _ e2 with e4 | ⟨j4, m4⟩
    · exact wf.nd i j m e3 e4
    · rw [m4] at e3; exact absurd e3 (nw i)
    · rw [m3] at e4; exact absurd e4 (nw j)
    · rw [i3, j4]
theorem isWN_ext {N N' : St0} (g : Ext N N') {i : Nat} (h : i < N.length) : isWN N' i = isWN N i := by
  unfold isWN
  rw [g.get (List.getElem?_eq_getElem h), List.getElem?_eq_getElem h]
/-- what joined and number_of_word hand back: a number of the node, in the store with it -/
structure Put (N : St0) (n : Nd) (N' : St0) (k : Nat) : Prop where
  wf : WF N'
  how : N' = N ∨ N' = N ++ [n]
  at_ : N'[k]? = some n
theorem Put.ext {N N' : St0} {n : Nd} {k : Nat} (p : Put N n N' k) : Ext N N' := by
  rcases p.how with e | e
  · rw [e]; exact .refl _
  · exact ⟨[n], e⟩
theorem Put.len {N N' : St0} {n : Nd} {k : Nat} (p : Put N n N' k) : N'.length ≤ N.length + 1 := by
  rcases p.how with e | e <;> rw [e]
  · exact Nat.le_succ _
  · rw [List.length_append]; exact Nat.le_refl _
theorem Put.lt {N N' : St0} {n : Nd} {k : Nat} (p : Put N n N' k) : k < N'.length := (List.getElem?_eq_some_iff.mp p.at_).1
theorem Put.uniq {N N1 N2 : St0} {n : Nd} {k1 k2 : Nat} (p : Put N n N1 k1) (q : Put N n N2 k2) : N1 = N2 ∧ k1 = k2 := by
  have last : (N ++ [n])[N.length]? = some n := by rw [List.getElem?_append_right (Nat.le_refl _), Nat.sub_self]; rfl
  have no : ∀ k, N[k]? = some n → WF (N ++ [n]) → False := fun k e wf => by
    have l := (List.getElem?_eq_some_iff.mp e).1
    have := wf.nd k N.length n (by rw [List.getElem?_append_left l]; exact e) last
    omega
  have h1 := p.at_
  have h2 := q.at_
  have w1 := p.wf
  have w2 := q.wf
  rcases p.how with e1 | e1 <;> rcases q.how with e2 | e2 <;> rw [e1] at h1 w1 <;> rw [e2] at h2 w2 <;> rw [e1, e2]
  · exact ⟨rfl, w1.nd _ _ _ h1 h2⟩
  · exact (no _ h1 w2).elim
  · exact (no _ h2 w1).elim
  · exact ⟨rfl, w1.nd _ _ _ h1 h2⟩
theorem Put.old {N : St0} (wf : WF N) {n : Nd} {k : Nat} (h : N[k]? = some n) : Put N n N k := ⟨wf, .inl rfl, h⟩
theorem Put.new {N : St0} (wf : WF N) {n : Nd} (ne : n ≠ Nd.e) (nw : ∀ i : Nat, N[i]? ≠ some n) (hc : ∀ f r : Nat, n = Nd.c f r → f < N.length ∧ r < N.length ∧ isWN N r = false) : Put N n (N ++ [n]) N.length :=
  ⟨wf.snoc ne nw hc, .inr rfl, by rw [List.getElem?_append_right (Nat.le_refl _), Nat.sub_self]; rfl⟩
theorem Put.join {N N' : St0} {f r k : Nat} {t u : Tree} (wf : WF N) (p : Put N (Nd.c f (restN N r)) N' k) (hf : Den N f t) (hr : Den N r u) : Den N' k (consT t u) := by
  have h := restN_den wf hr
  cases u with
  | w x => exact .c p.at_ (hf.ext p.ext) (h.ext p.ext)
  | l ts => exact .c p.at_ (hf.ext p.ext) (h.ext p.ext)
theorem restN_ok {N : St0} (wf : WF N) {r : Nat} (h : r < N.length) : restN N r < N.length ∧ isWN N (restN N r) = false := by
  have l0 : 0 < N.length := (List.getElem?_eq_some_iff.mp wf.z0).1
  unfold restN
  by_cases q : isWN N r = true
  · rw [if_pos q]
    refine ⟨l0, ?_⟩
    unfold isWN; rw [wf.z0]
  · rw [if_neg q]
    exact ⟨h, by simpa using q⟩
theorem Put.some {N : St0} (wf : WF N) {u v : Nat} (hu : u < N.length) (hv : v < N.length) : ∃ N' k, Put N (Nd.c u (restN N v)) N' k := by
  obtain ⟨l, w⟩ := restN_ok wf hv
  by_cases h : ∃ i : Nat, N[i]? = Option.some (Nd.c u (restN N v))
  · obtain ⟨i, h⟩ := h
    exact ⟨N, i, .old wf h⟩
  · refine ⟨_, _, Put.new wf (fun e => nomatch e) (fun i e => h ⟨i, e⟩) fun f r e => ?_⟩
    cases e
    exact ⟨hu, l, w⟩
/-- what the lists heads, tails and wordness hold -/
def hdN : Nd → Nat
  | .c f _ => f
  | _ => 0
def tlN : Nd → Nat
  | .c _ r => r
  | _ => 0
def wdN : Nd → Nat
  | .w _ => 1
  | _ => 0
theorem den_head {N : St0} (wf : WF N) {i : Nat} {t : Tree} (h : Den N i t) : ∃ n, N[i]? = some n ∧ Den N (hdN n) (headT t) := by
  cases h with
  | e h => exact ⟨_, h, .e wf.z0⟩
  | w h => exact ⟨_, h, .e wf.z0⟩
  | c h a b => exact ⟨_, h, a⟩
theorem den_tail {N : St0} (wf : WF N) {i : Nat} {t : Tree} (h : Den N i t) : ∃ n, N[i]? = some n ∧ Den N (tlN n) (tailT t) := by
  cases h with
  | e h => exact ⟨_, h, .e wf.z0⟩
  | w h => exact ⟨_, h, .e wf.z0⟩
  | c h a b => exact ⟨_, h, b⟩
theorem den_word {N : St0} (wf : WF N) {i : Nat} {t : Tree} (h : Den N i t) : ∃ n, N[i]? = some n ∧ Den N (wdN n) (if t.isW then yesT else .l []) := by
  cases h with
  | e h => exact ⟨_, h, .e wf.z0⟩
  | w h => exact ⟨_, h, .w wf.z1⟩
  | c h a b => exact ⟨_, h, .e wf.z0⟩
def start0 : St0 := [.e, .w yesW]
theorem wf_start : WF start0 := by
  refine ⟨rfl, rfl, fun i h => ?_, fun i f r h => ?_, fun i j n h g => ?_⟩
  · match i, h with
    | 0, _ => rfl
    | 1, h => cases h
    | i + 2, h => simp [start0] at h
  · match i, h with
    | 0, h => cases h
    | 1, h => cases h
    | i + 2, h => simp [start0] at h
  · match i, j, h, g with
    | 0, 0, _, _ => rfl
    | 1, 1, _, _ => rfl
    | 0, 1, h, g => cases h; cases g
    | 1, 0, h, g => cases h; cases g
    | i + 2, j, h, _ => simp [start0] at h
    | i, j + 2, _, g => simp [start0] at g
end Og

namespace Og
open PySem PySem.Spec PyProof.Rows L2
/-! ### programs written as rows -/
structure Cx0 where
  fns : List Fn0
  hd : Addr
  tl : Addr
  wd : Addr
structure Fin0 where
  R : List (Nat × V × Nat)
  S : List Nat
inductive En where
  | ret (k : Nat)
  | go (b : Nat)
def enRow : En → Nat × V
  | .ret k => (9, .int (-1 - (k : Int)))
  | .go b => (7, .int (b : Nat))
def nameIx (C : Cx0) (x : List Nat) : Nat := (C.fns.map (·.1)).idxOf x
def opRow (C : Cx0) (x : List Nat) : Nat × V :=
  if x = sameW then (4, .int 0) else if x = joinW then (5, .int 0) else if x = wordW then (3, .ref C.wd) else if x = headW then (3, .ref C.hd) else if x = tailW then (3, .ref C.tl) else (8, .int (nameIx C x : Nat))
def AtIx (ps : List (List Nat)) (x : List Nat) (j : Nat) : Prop := ps[j]? = some x ∧ ∀ m : Nat, m < j → ps[m]? ≠ some x
/-- the word has so many parts -/
def OpOk (C : Cx0) (x : List Nat) (n : Nat) : Prop := (x ∈ [wordW, headW, tailW] ∧ n = 1) ∨ (x ∈ [sameW, joinW] ∧ n = 2) ∨ (spAr x = none ∧ ∃ ps b, fnOf C.fns x = some (ps, b) ∧ ps.length = n)
def ifOf : Tree → Bool
  | .l (.w x :: _) => decide (x = ifW)
  | _ => false
mutual
/-- the rows from a to a' do what the expression asks, with h values above the parameters and d expressions begun and not yet counted -/
inductive Seg (C : Cx0) (F : Fin0) (N : St0) (ps : List (List Nat)) : Tree → Nat → Nat → Nat → Nat → Prop
  | w {x : List Nat} {h d a j : Nat} (hj : AtIx ps x j) (r : F.R[a]? = some (1, .int ((j : Int) - (ps.length : Int) - (h : Int)), d + 1)) : Seg C F N ps (.w x) h d a (a + 1)
  | q {v : Tree} {h d a k : Nat} (hk : Den N k v) (r : F.R[a]? = some (2, .int (k : Nat), d + 1)) : Seg C F N ps (.l [.w qw, v]) h d a (a + 1)
  | op {x : List Nat} {ts : List Tree} {h d d' a a1 : Nat} (n1 : x ≠ qw) (n2 : x ≠ ifW) (ok : OpOk C x ts.length) (hs : Segs C F N ps ts h (d + 1) a a1 d') (r : F.R[a1]? = some ((opRow C x).1, (opRow C x).2, d')) : Seg C F N ps (.l (.w x :: ts)) h d a (a1 + 1)
  | iff {t y z : Tree} {h d a a1 a' s g p : Nat} (ht : Seg C F N ps t h (d + 1) a a1) (r : F.R[a1]? = some (6, .int (s : Nat), 0)) (hy : Seg C F N ps y h 0 (a1 + 1) a') (hg : F.S[g]? = some a') (hs : F.S[s]? = some p) (hz : SegE C F N ps z h 0 p (.go g)) :
      Seg C F N ps (.l [.w ifW, t, y, z]) h d a a'
/-- .. and then what the end asks -/
inductive SegE (C : Cx0) (F : Fin0) (N : St0) (ps : List (List Nat)) : Tree → Nat → Nat → Nat → En → Prop
  | of {e : Tree} {h d a a1 : Nat} {en : En} (ni : ifOf e = false) (he : Seg C F N ps e h d a a1) (r : F.R[a1]? = some ((enRow en).1, (enRow en).2, 0)) : SegE C F N ps e h d a en
  | iff {t y z : Tree} {h d a a1 s p : Nat} {en : En} (ht : Seg C F N ps t h (d + 1) a a1) (r : F.R[a1]? = some (6, .int (s : Nat), 0)) (hy : SegE C F N ps y h 0 (a1 + 1) en) (hs : F.S[s]? = some p) (hz : SegE C F N ps z h 0 p en) :
      SegE C F N ps (.l [.w ifW, t, y, z]) h d a en
inductive Segs (C : Cx0) (F : Fin0) (N : St0) (ps : List (List Nat)) : List Tree → Nat → Nat → Nat → Nat → Nat → Prop
  | nil {h d a : Nat} : Segs C F N ps [] h d a a d
  | cons {t : Tree} {ts : List Tree} {h d d' a a1 a2 : Nat} (ht : Seg C F N ps t h d a a1) (hs : Segs C F N ps ts (h + 1) 0 a1 a2 d') : Segs C F N ps (t :: ts) h d a a2 d'
end
/-- what stands in a plan, the next first -/
inductive Pl where
  | ex (e : Tree) (h : Nat) (en : Option En)
  | st (b : Nat)
  | row (k : Nat) (w : V)
section
variable (C : Cx0) (F : Fin0) (N : St0) (ps : List (List Nat))
/-- the plan is what the rows from n on do -/
def PSem : Nat → Nat → List Pl → Prop
  | _, _, [] => True
  | n, d, .row k w :: P => F.R[n]? = some (k, w, d) ∧ PSem (n + 1) 0 P
  | n, d, .st b :: P => F.S[b]? = some n ∧ PSem n d P
  | n, d, .ex e h none :: P => ∃ n', Seg C F N ps e h d n n' ∧ PSem n' 0 P
  | n, d, .ex e h (some en) :: P => SegE C F N ps e h d n en ∧ ∃ n', PSem n' 0 P
def enPl : Option En → List Pl
  | none => []
  | some en => [.row (enRow en).1 (enRow en).2]
def exs : List Tree → Nat → List Pl
  | [], _ => []
  | t :: ts, h => .ex t h none :: exs ts (h + 1)
end
section
variable {C : Cx0} {F : Fin0} {N : St0} {ps : List (List Nat)} {P : List Pl} {n d h : Nat} {en : Option En}
theorem psem_leaf {e : Tree} (ni : ifOf e = false) (hs : ∀ {k w}, F.R[n]? = some (k, w, d + 1) → (k, w) = (k, w) → True) (k : Nat) (w : V) (mk : F.R[n]? = some (k, w, d + 1) → Seg C F N ps e h d n (n + 1)) (g : PSem C F N ps n (d + 1) (.row k w :: (enPl en ++ P))) : PSem C F N ps n d (.ex e h en :: P) := by
  obtain ⟨r, g⟩ := g
  cases en with
  | none => exact ⟨_, mk r, g⟩
  | some en =>
    obtain ⟨r2, g⟩ := g
    exact ⟨.of ni (mk r) r2, _, g⟩
theorem psem_word {x : List Nat} {j : Nat} (hj : AtIx ps x j) (g : PSem C F N ps n (d + 1) (.row 1 (.int ((j : Int) - (ps.length : Int) - (h : Int))) :: (enPl en ++ P))) : PSem C F N ps n d (.ex (.w x) h en :: P) :=
  psem_leaf rfl (fun _ _ => trivial) _ _ (fun r => .w hj r) g
theorem psem_quote {v : Tree} {k : Nat} (hk : Den N k v) (g : PSem C F N ps n (d + 1) (.row 2 (.int (k : Nat)) :: (enPl en ++ P))) : PSem C F N ps n d (.ex (.l [.w qw, v]) h en :: P) :=
  psem_leaf (by show decide (qw = ifW) = false; decide) (fun _ _ => trivial) _ _ (fun r => .q hk r) g
theorem psem_exs : ∀ {ts : List Tree} {n d h : Nat} {P : List Pl}, PSem C F N ps n d (exs ts h ++ P) → ∃ n' d', Segs C F N ps ts h d n n' d' ∧ PSem C F N ps n' d' P
  | [], n, d, h, P, g => ⟨n, d, .nil, g⟩
  | t :: ts, n, d, h, P, g => by
    obtain ⟨n1, s1, g⟩ := g
    obtain ⟨n2, d2, s2, g⟩ := psem_exs g
    exact ⟨n2, d2, .cons s1 s2, g⟩
theorem psem_op {x : List Nat} {ts : List Tree} (n1 : x ≠ qw) (n2 : x ≠ ifW) (ok : OpOk C x ts.length) (g : PSem C F N ps n (d + 1) (exs ts h ++ .row (opRow C x).1 (opRow C x).2 :: (enPl en ++ P))) : PSem C F N ps n d (.ex (.l (.w x :: ts)) h en :: P) := by
  obtain ⟨a1, d', hs, r, g⟩ := psem_exs g
  have ni : ifOf (.l (.w x :: ts)) = false := decide_eq_false n2
  cases en with
  | none => exact ⟨_, .op n1 n2 ok hs r, g⟩
  | some en =>
    obtain ⟨r2, g⟩ := g
    exact ⟨.of ni (.op n1 n2 ok hs r) r2, _, g⟩
theorem psem_if {t y z : Tree} {s b p : Nat} (hs : F.S[s]? = some p) (hz : SegE C F N ps z h 0 p (.go b)) (g : PSem C F N ps n (d + 1) (.ex t h none :: .row 6 (.int (s : Nat)) :: .ex y h none :: .st b :: P)) : PSem C F N ps n d (.ex (.l [.w ifW, t, y, z]) h none :: P) := by
  obtain ⟨a1, ht, r, a2, hy, hb, g⟩ := g
  exact ⟨a2, .iff ht r hy hb hs hz, g⟩
theorem psem_ifE {t y z : Tree} {s p : Nat} {en : En} (hs : F.S[s]? = some p) (hz : SegE C F N ps z h 0 p en) (g : PSem C F N ps n (d + 1) (.ex t h none :: .row 6 (.int (s : Nat)) :: .ex y h (some en) :: P)) : PSem C F N ps n d (.ex (.l [.w ifW, t, y, z]) h (some en) :: P) := by
  obtain ⟨a1, ht, r, hy, g⟩ := g
  exact ⟨.iff ht r hy hs hz, g⟩
end
/-! ### the store may grow -/
mutual
theorem Seg.ext {C : Cx0} {F : Fin0} {N N' : St0} {ps : List (List Nat)} (g : Ext N N') : ∀ {e : Tree} {h d a a' : Nat}, Seg C F N ps e h d a a' → Seg C F N' ps e h d a a'
  | _, _, _, _, _, .w hj r => .w hj r
  | _, _, _, _, _, .q hk r => .q (hk.ext g) r
  | _, _, _, _, _, .op n1 n2 ok hs r => .op n1 n2 ok (Segs.ext g hs) r
  | _, _, _, _, _, .iff ht r hy hg hs hz => .iff (Seg.ext g ht) r (Seg.ext g hy) hg hs (SegE.ext g hz)
theorem SegE.ext {C : Cx0} {F : Fin0} {N N' : St0} {ps : List (List Nat)} (g : Ext N N') : ∀ {e : Tree} {h d a : Nat} {en : En}, SegE C F N ps e h d a en → SegE C F N' ps e h d a en
  | _, _, _, _, _, .of ni he r => .of ni (Seg.ext g he) r
  | _, _, _, _, _, .iff ht r hy hs hz => .iff (Seg.ext g ht) r (SegE.ext g hy) hs (SegE.ext g hz)
theorem Segs.ext {C : Cx0} {F : Fin0} {N N' : St0} {ps : List (List Nat)} (g : Ext N N') : ∀ {ts : List Tree} {h d a a' d' : Nat}, Segs C F N ps ts h d a a' d' → Segs C F N' ps ts h d a a' d'
  | _, _, _, _, _, _, .nil => .nil
  | _, _, _, _, _, _, .cons ht hs => .cons (Seg.ext g ht) (Segs.ext g hs)
end
end Og

namespace Og
open PySem PySem.Spec PyProof.Rows L2
/-! ### going along the rows -/
structure CS where
  a : Nat
  sk : List Nat
  bh : List Nat
  st : Nat
  N : St0
def lookN (x : List Nat) (n : Nd) : Nat := if x = wordW then wdN n else if x = headW then hdN n else tlN n
/-- what one row does -/
inductive RowDo (C : Cx0) (F : Fin0) (bound : Nat) (nx : CS → Prop) (Q : CS → Option Nat → Prop) (s : CS) : Nat → V → Nat → Prop
  | copy {i : Int} {j v b : Nat} (h0 : i < 0) (hj : (j : Int) = (s.sk.length : Int) + i) (hv : s.sk[j]? = some v) (n : nx ⟨s.a + 1, s.sk ++ [v], s.bh, s.st + b, s.N⟩) : RowDo C F bound nx Q s 1 (.int i) b
  | push {k b : Nat} (n : nx ⟨s.a + 1, s.sk ++ [k], s.bh, s.st + b, s.N⟩) : RowDo C F bound nx Q s 2 (.int (k : Nat)) b
  | look {x : List Nat} {sk : List Nat} {v b : Nat} {nd : Nd} (m : x ∈ [wordW, headW, tailW]) (hs : s.sk = sk ++ [v]) (hn : s.N[v]? = some nd) (n : nx ⟨s.a + 1, sk ++ [lookN x nd], s.bh, s.st, s.N⟩) : RowDo C F bound nx Q s 3 (opRow C x).2 b
  | same {sk : List Nat} {u v b : Nat} (hs : s.sk = sk ++ [u, v]) (n : nx ⟨s.a + 1, sk ++ [if u = v then 1 else 0], s.bh, s.st, s.N⟩) : RowDo C F bound nx Q s 4 (.int 0) b
  | join {sk : List Nat} {u v b k : Nat} {N' : St0} (wf : WF s.N) (hs : s.sk = sk ++ [u, v]) (hu : u < s.N.length) (hv : v < s.N.length) (hp : Put s.N (Nd.c u (restN s.N v)) N' k) (n : nx ⟨s.a + 1, sk ++ [k], s.bh, s.st, N'⟩) : RowDo C F bound nx Q s 5 (.int 0) b
  | test {i p v b : Nat} {sk : List Nat} (hs : s.sk = sk ++ [v]) (hp : F.S[i]? = some p) (n : nx ⟨if v = 0 then p else s.a + 1, sk, s.bh, s.st, s.N⟩) : RowDo C F bound nx Q s 6 (.int (i : Nat)) b
  | go {i p b : Nat} (hp : F.S[i]? = some p) (n : nx ⟨p, s.sk, s.bh, s.st, s.N⟩) : RowDo C F bound nx Q s 7 (.int (i : Nat)) b
  | call {i p b : Nat} (lt : s.st + b < bound) (hp : F.S[i]? = some p) (n : nx ⟨p, s.sk, s.bh ++ [s.a + 1], s.st + b, s.N⟩) : RowDo C F bound nx Q s 8 (.int (i : Nat)) b
  | stop {i b : Nat} (ge : bound ≤ s.st + b) (q : Q ⟨s.a + 1, s.sk, s.bh ++ [s.a + 1], s.st + b, s.N⟩ (some i)) : RowDo C F bound nx Q s 8 (.int (i : Nat)) b
  | ret {k v r b : Nat} {sk ins bh : List Nat} (hs : s.sk = sk ++ ins ++ [v]) (hk : ins.length = k) (hb : s.bh = bh ++ [r]) (n : nx ⟨r, sk ++ [v], bh, s.st, s.N⟩) : RowDo C F bound nx Q s 9 (.int (-1 - (k : Int))) b
  | fin {w : V} {b : Nat} (q : Q ⟨s.a + 1, s.sk, s.bh, s.st, s.N⟩ none) : RowDo C F bound nx Q s 0 w b
def Small (M : Nat) (s : CS) : Prop := s.N.length < M ∧ s.sk.length < M ∧ s.bh.length < M
def CRun (C : Cx0) (F : Fin0) (bound M : Nat) (Q : CS → Option Nat → Prop) : Nat → CS → Prop
  | 0, _ => False
  | m + 1, s => Small M s ∧ ∃ k w b, F.R[s.a]? = some (k, w, b) ∧ RowDo C F bound (CRun C F bound M Q m) Q s k w b
/-! ### what the rows still do, as tasks -/
inductive InF (C : Cx0) (F : Fin0) (N : St0) (ps : List (List Nat)) (e : Env) : Nat → Nat → Nat → Nat → List Task → Prop
  | ret {a : Nat} (r : F.R[a]? = some ((enRow (.ret ps.length)).1, (enRow (.ret ps.length)).2, 0)) : InF C F N ps e 0 a 1 0 []
  | go {m a b p h : Nat} {tds : List Task} (r : F.R[a]? = some ((enRow (.go b)).1, (enRow (.go b)).2, 0)) (hp : F.S[b]? = some p) (n : InF C F N ps e m p h 0 tds) : InF C F N ps e (m + 1) a h 0 tds
  | ev {t : Tree} {h d a a' m : Nat} {tds : List Task} (s : Seg C F N ps t h d a a') (n : InF C F N ps e m a' (h + 1) 0 tds) : InF C F N ps e 0 a h d (.ev t e :: tds)
  | evR {t : Tree} {d a : Nat} (s : SegE C F N ps t 0 d a (.ret ps.length)) : InF C F N ps e 0 a 0 d [.ev t e]
  | evG {t : Tree} {h d a b p m : Nat} {tds : List Task} (s : SegE C F N ps t h d a (.go b)) (hp : F.S[b]? = some p) (n : InF C F N ps e m p (h + 1) 0 tds) : InF C F N ps e 0 a h d (.ev t e :: tds)
  | p1 {w : List Nat} {h a m : Nat} {tds : List Task} (hw : w ∈ [wordW, headW, tailW]) (r : F.R[a]? = some ((opRow C w).1, (opRow C w).2, 0)) (n : InF C F N ps e m (a + 1) (h + 1) 0 tds) : InF C F N ps e 0 a (h + 1) 0 (.prim w :: tds)
  | p2 {w : List Nat} {h a m : Nat} {tds : List Task} (hw : w ∈ [sameW, joinW]) (r : F.R[a]? = some ((opRow C w).1, (opRow C w).2, 0)) (n : InF C F N ps e m (a + 1) (h + 1) 0 tds) : InF C F N ps e 0 a (h + 2) 0 (.prim w :: tds)
  | pick {y z : Tree} {h a s p m1 m2 : Nat} {tds : List Task} (r : F.R[a]? = some (6, .int (s : Nat), 0)) (hp : F.S[s]? = some p) (ny : InF C F N ps e m1 (a + 1) h 0 (.ev y e :: tds)) (nz : InF C F N ps e m2 p h 0 (.ev z e :: tds)) : InF C F N ps e 0 a (h + 1) 0 (.pick y z e :: tds)
  | call {x : List Nat} {ps' : List (List Nat)} {bd : Tree} {h d a m : Nat} {tds : List Task} (sp : spAr x = none) (hf : fnOf C.fns x = some (ps', bd)) (r : F.R[a]? = some ((opRow C x).1, (opRow C x).2, d)) (n : InF C F N ps e m (a + 1) (h + 1) 0 tds) : InF C F N ps e 0 a (h + ps'.length) d (.call x :: tds)
theorem InF.ext {C : Cx0} {F : Fin0} {N N' : St0} {ps : List (List Nat)} {e : Env} (g : Ext N N') {m a h d : Nat} {tds : List Task} (x : InF C F N ps e m a h d tds) : InF C F N' ps e m a h d tds := by
  induction x with
  | ret r => exact .ret r
  | go r hp _ ih => exact .go r hp ih
  | ev s _ ih => exact .ev (s.ext g) ih
  | evR s => exact .evR (s.ext g)
  | evG s hp _ ih => exact .evG (s.ext g) hp ih
  | p1 hw r _ ih => exact .p1 hw r ih
  | p2 hw r _ ih => exact .p2 hw r ih
  | pick r hp _ _ i1 i2 => exact .pick r hp i1 i2
  | call sp hf r _ ih => exact .call sp hf r ih
section
variable {C : Cx0} {F : Fin0} {N : St0} {ps : List (List Nat)} {e : Env}
theorem inF_segs : ∀ {ts : List Tree} {h d a a1 d' m : Nat} {tds : List Task}, Segs C F N ps ts h d a a1 d' → InF C F N ps e m a1 (h + ts.length) d' tds → ∃ m', InF C F N ps e m' a h d (ts.map (fun t => Task.ev t e) ++ tds)
  | [], h, d, a, a1, d', m, tds, s, n => by
    cases s
    exact ⟨m, n⟩
  | t :: ts, h, d, a, a1, d', m, tds, s, n => by
    cases s with
    | cons ht hs =>
      rw [List.length_cons, show h + (ts.length + 1) = h + 1 + ts.length by omega] at n
      obtain ⟨m', n'⟩ := inF_segs hs n
      exact ⟨0, .ev ht n'⟩
/-- the words that are no calls -/
def primB (x : List Nat) : Bool := decide (x ∈ [sameW, wordW, headW, tailW, joinW])
def opTask (x : List Nat) : Task := if x ∈ [sameW, wordW, headW, tailW, joinW] then .prim x else .call x
theorem segs_d : ∀ {ts : List Tree} {h d a a1 d' : Nat}, Segs C F N ps ts h d a a1 d' → ts ≠ [] → d' = 0
  | [], _, _, _, _, _, _, ne => absurd rfl ne
  | [t], _, _, _, _, _, s, _ => by
    cases s with
    | cons _ s => cases s; rfl
  | t :: u :: ts, _, _, _, _, _, s, _ => by
    cases s with
    | cons _ hs => exact segs_d hs (by simp)
theorem inF_op {x : List Nat} {ts : List Tree} {h d d' a a1 m : Nat} {tds : List Task} (ok : OpOk C x ts.length) (hs : Segs C F N ps ts h (d + 1) a a1 d') (r : F.R[a1]? = some ((opRow C x).1, (opRow C x).2, d')) (n : InF C F N ps e m (a1 + 1) (h + 1) 0 tds) :
    ∃ m', InF C F N ps e m' a h (d + 1) (ts.map (fun t => Task.ev t e) ++ opTask x :: tds) := by
  unfold opTask
  rcases ok with ⟨hx, l⟩ | ⟨hx, l⟩ | ⟨sp, ps', b, hf, l⟩
  · have d0 : d' = 0 := segs_d hs (by intro q; rw [q] at l; cases l)
    subst d0
    rw [if_pos (by simp only [List.mem_cons, List.not_mem_nil, or_false] at hx ⊢; rcases hx with h | h | h <;> simp [h])]
    exact inF_segs hs (by rw [l]; exact .p1 hx r n)
  · have d0 : d' = 0 := segs_d hs (by intro q; rw [q] at l; cases l)
    subst d0
    rw [if_pos (by simp only [List.mem_cons, List.not_mem_nil, or_false] at hx ⊢; rcases hx with h | h <;> simp [h])]
    exact inF_segs hs (by rw [l]; exact .p2 hx r n)
  · rw [if_neg (by
      intro q
      simp only [List.mem_cons, List.not_mem_nil, or_false] at q
      rcases q with q | q | q | q | q <;> rw [q] at sp <;> revert sp <;> decide)]
    exact inF_segs hs (by rw [← l]; exact .call sp hf r n)
/-- the end of a piece, as what follows it -/
theorem inF_of {t : Tree} {h d a : Nat} {tds : List Task} {m : Nat} (x : InF C F N ps e m a h d (.ev t e :: tds)) : m = 0 ∨ ∃ m' b p, m = m' + 1 ∧ d = 0 ∧ F.R[a]? = some ((enRow (.go b)).1, (enRow (.go b)).2, 0) ∧ F.S[b]? = some p ∧ InF C F N ps e m' p h 0 (.ev t e :: tds) := by
  cases x with
  | go r hp n => exact .inr ⟨_, _, _, rfl, rfl, r, hp, n⟩
  | ev s n => exact .inl rfl
  | evR s => exact .inl rfl
  | evG s hp n => exact .inl rfl
end
/-! ### the frames beneath -/
inductive Chain (C : Cx0) (F : Fin0) (N : St0) : List Nat → List Nat → List Task → List Tree → Prop
  | base : Chain C F N [0] [] [] []
  | fr {bh sk ins tmp : List Nat} {td tds : List Task} {fd insT tmpT : List Tree} {ps : List (List Nat)} {r m : Nat} (c : Chain C F N bh sk td fd) (hi : Paired (Den N) ins insT) (hl : ins.length = ps.length) (ht : Paired (Den N) tmp tmpT)
      (n : InF C F N ps (ps.zip insT) m r (tmp.length + 1) 0 tds) : Chain C F N (bh ++ [r]) (sk ++ ins ++ tmp) (tds ++ td) (tmpT.reverse ++ fd)
theorem Dens.ext {N N' : St0} (g : Ext N N') : ∀ {is : List Nat} {ts : List Tree}, Paired (Den N) is ts → Paired (Den N') is ts
  | _, _, .nil => .nil
  | _, _, .cons h r => .cons (h.ext g) (Dens.ext g r)
theorem Chain.ext {C : Cx0} {F : Fin0} {N N' : St0} (g : Ext N N') {bh sk : List Nat} {td : List Task} {fd : List Tree} (x : Chain C F N bh sk td fd) : Chain C F N' bh sk td fd := by
  induction x with
  | base => exact .base
  | fr c hi hl ht n ih => exact .fr ih (Dens.ext g hi) hl (Dens.ext g ht) (n.ext g)
theorem pr_snoc {α β : Type} {R : α → β → Prop} : ∀ {as : List α} {bs : List β} {a : α} {b : β}, Paired R as bs → R a b → Paired R (as ++ [a]) (bs ++ [b])
  | _, _, _, _, .nil, h => .cons h .nil
  | _, _, _, _, .cons g r, h => .cons g (pr_snoc r h)
theorem pr_unsnoc {α β : Type} {R : α → β → Prop} : ∀ {as : List α} {a : α} {bs : List β}, Paired R (as ++ [a]) bs → ∃ bs' b, bs = bs' ++ [b] ∧ Paired R as bs' ∧ R a b
  | [], a, _, .cons h .nil => ⟨[], _, rfl, .nil, h⟩
  | x :: as, a, _, .cons h r => by
    obtain ⟨bs', b, e, p, q⟩ := pr_unsnoc r
    exact ⟨_ :: bs', b, by rw [e]; rfl, .cons h p, q⟩
theorem pr_len {α β : Type} {R : α → β → Prop} : ∀ {as : List α} {bs : List β}, Paired R as bs → as.length = bs.length
  | _, _, .nil => rfl
  | _, _, .cons _ r => by rw [List.length_cons, List.length_cons, pr_len r]
theorem pr_get {α β : Type} {R : α → β → Prop} : ∀ {as : List α} {bs : List β} {i : Nat} {b : β}, Paired R as bs → bs[i]? = some b → ∃ a, as[i]? = some a ∧ R a b
  | _, _, i, b, .nil, e => by simp at e
  | _, _, 0, b, .cons h _, e => ⟨_, rfl, by have := Option.some.inj e; rw [← this]; exact h⟩
  | _, _, i + 1, b, .cons _ r, e => pr_get (i := i) r e
theorem pr_app {α β : Type} {R : α → β → Prop} : ∀ {as as' : List α} {bs bs' : List β}, Paired R as bs → Paired R as' bs' → Paired R (as ++ as') (bs ++ bs')
  | _, _, _, _, .nil, h => h
  | _, _, _, _, .cons g r, h => .cons g (pr_app r h)
theorem pr_split {α β : Type} {R : α → β → Prop} : ∀ {as : List α} {bs : List β} (n : Nat), Paired R as bs → Paired R (as.take n) (bs.take n) ∧ Paired R (as.drop n) (bs.drop n)
  | _, _, 0, p => ⟨.nil, p⟩
  | _, _, n + 1, .nil => ⟨.nil, .nil⟩
  | _, _, n + 1, .cons h r => ⟨.cons h (pr_split n r).1, (pr_split n r).2⟩
/-- the state of the run and that of the machine of trees -/
structure Sync (C : Cx0) (F : Fin0) (m : Nat) (s : CS) (ms : MS) : Prop where
  ex : ∃ (sk ins tmp : List Nat) (td tds : List Task) (fd insT tmpT : List Tree) (ps : List (List Nat)) (d : Nat), Chain C F s.N s.bh sk td fd ∧ Paired (Den s.N) ins insT ∧ ins.length = ps.length ∧ Paired (Den s.N) tmp tmpT ∧
    InF C F s.N ps (ps.zip insT) m s.a tmp.length d tds ∧ s.sk = sk ++ ins ++ tmp ∧ ms = ⟨tds ++ td, tmpT.reverse ++ fd, s.st + d⟩
def isEv : Task → Bool
  | .ev _ _ => true
  | _ => false
/-- how many tasks are begun -/
def pot : List Task → Nat
  | [] => 0
  | t :: td => (if isEv t = true then 0 else 1) + pot td
theorem pot_app : ∀ (a b : List Task), pot (a ++ b) = pot a + pot b
  | [], b => by rw [List.nil_append]; show _ = 0 + _; omega
  | t :: a, b => by
    rw [List.cons_append, pot, pot, pot_app a b]
    omega
theorem pot_evs {α : Type} (f : α → Task) (hf : ∀ a, isEv (f a) = true) : ∀ l : List α, pot (l.map f) = 0
  | [] => rfl
  | a :: l => by rw [List.map_cons, pot, if_pos (hf a), pot_evs f hf l]
theorem lex4 {P : Nat → Nat → Nat → Nat → Prop} (h : ∀ a b c d, (∀ a' b' c' d', (a' < a ∨ (a' = a ∧ (b' < b ∨ (b' = b ∧ (c' < c ∨ (c' = c ∧ d' < d)))))) → P a' b' c' d') → P a b c d) : ∀ a b c d, P a b c d := by
  intro a
  induction a using Nat.strongRecOn with
  | _ a ia =>
    intro b
    induction b using Nat.strongRecOn with
    | _ b ib =>
      intro c
      induction c using Nat.strongRecOn with
      | _ c ic =>
        intro d
        induction d using Nat.strongRecOn with
        | _ d id =>
          refine h a b c d fun a' b' c' d' hl => ?_
          rcases hl with l | ⟨rfl, l | ⟨rfl, l | ⟨rfl, l⟩⟩⟩
          · exact ia a' l b' c' d'
          · exact ib b' l c' d'
          · exact ic c' l d'
          · exact id d' l
theorem look_zip : ∀ {ps : List (List Nat)} {ts : List Tree} {x : List Nat} {j : Nat} {t : Tree}, AtIx ps x j → ts[j]? = some t → look (ps.zip ts) x = some t
  | [], ts, x, j, t, h, _ => by have := h.1; simp at this
  | p :: ps, [], x, j, t, h, e => by simp at e
  | p :: ps, u :: ts, x, 0, t, h, e => by
    have h1 : p = x := Option.some.inj h.1
    have h2 : u = t := Option.some.inj e
    unfold look
    rw [List.zip_cons_cons, List.find?_cons, show decide ((p, u).1 = x) = true from decide_eq_true h1, h2]
    rfl
  | p :: ps, u :: ts, x, j + 1, t, h, e => by
    have h1 : p ≠ x := fun q => h.2 0 (Nat.succ_pos _) (by rw [q]; rfl)
    have ih := look_zip (ps := ps) (ts := ts) (x := x) (j := j) (t := t) ⟨h.1, fun m hm => h.2 (m + 1) (by omega)⟩ e
    unfold look at ih ⊢
    rw [List.zip_cons_cons, List.find?_cons, show decide ((p, u).1 = x) = false from decide_eq_false h1]
    exact ih
end Og

namespace Og
open PySem PySem.Spec PyProof.Rows L2
/-! ### one turn of the machine of trees, case by case -/
section
variable {L : List Fn0} {td : List Task} {fd : List Tree} {n : Nat} {e : Env}
theorem turn_word {x : List Nat} {v : Tree} (h : look e x = some v) : turn L ⟨.ev (.w x) e :: td, fd, n⟩ = some ⟨td, v :: fd, n + 1⟩ := by
  rw [turn, h]
theorem turn_quote {v : Tree} : turn L ⟨.ev (.l [.w qw, v]) e :: td, fd, n⟩ = some ⟨td, v :: fd, n + 1⟩ := by
  rw [turn, if_pos rfl]
theorem turn_if {t y z : Tree} : turn L ⟨.ev (.l [.w ifW, t, y, z]) e :: td, fd, n⟩ = some ⟨.ev t e :: .pick y z e :: td, fd, n + 1⟩ := by
  rw [turn, if_neg (by decide), if_pos rfl]
theorem turn_op {x : List Nat} {ts : List Tree} (n1 : x ≠ qw) (n2 : x ≠ ifW) : turn L ⟨.ev (.l (.w x :: ts)) e :: td, fd, n⟩ = some ⟨ts.map (fun t => Task.ev t e) ++ opTask x :: td, fd, n + 1⟩ := by
  unfold turn
  dsimp only
  rw [if_neg n1, if_neg n2]
  rfl
theorem turn_p1 {w : List Nat} {l : Tree} (hw : w ∈ [wordW, headW, tailW]) : turn L ⟨.prim w :: td, l :: fd, n⟩ = some ⟨td, prim1 w l :: fd, n⟩ := by
  rw [turn, if_pos hw]
theorem two_not_one {w : List Nat} (hw : w ∈ [sameW, joinW]) : w ∉ [wordW, headW, tailW] := by
  intro q
  simp only [List.mem_cons, List.not_mem_nil, or_false] at hw q
  rcases hw with rfl | rfl <;> revert q <;> decide
theorem turn_p2 {w : List Nat} {f l : Tree} (hw : w ∈ [sameW, joinW]) : turn L ⟨.prim w :: td, l :: f :: fd, n⟩ = some ⟨td, prim2 w f l :: fd, n⟩ := by
  rw [turn, if_neg (two_not_one hw)]
open Classical in
theorem turn_pick {y z c : Tree} : turn L ⟨.pick y z e :: td, c :: fd, n⟩ = some ⟨.ev (if c = .l [] then z else y) e :: td, fd, n⟩ := by
  rw [turn]
theorem turn_call {x : List Nat} {ps : List (List Nat)} {b : Tree} (h : fnOf L x = some (ps, b)) (l : ps.length ≤ fd.length) : turn L ⟨.call x :: td, fd, n⟩ = some ⟨.ev b (ps.zip (fd.take ps.length).reverse) :: td, fd.drop ps.length, n⟩ := by
  rw [turn, h]
  show (if ps.length ≤ fd.length then _ else _) = _
  rw [if_pos l]
end
section
variable {C : Cx0} {F : Fin0} {N : St0} {ps : List (List Nat)} {e : Env}
/-- what stands ahead of the tasks that follow an expression -/
inductive EvForm (C : Cx0) (F : Fin0) (N : St0) (ps : List (List Nat)) (e : Env) : Tree → Nat → Nat → Nat → List Task → Prop
  | leaf {t : Tree} {h d a a' m : Nat} {tds : List Task} (ni : ifOf t = false) (s : Seg C F N ps t h d a a') (n : InF C F N ps e m a' (h + 1) 0 tds) : EvForm C F N ps e t h d a tds
  | iff {t y z : Tree} {h d a a1 s p m1 m2 : Nat} {tds : List Task} (ht : Seg C F N ps t h (d + 1) a a1) (r : F.R[a1]? = some (6, .int (s : Nat), 0)) (hs : F.S[s]? = some p) (ny : InF C F N ps e m1 (a1 + 1) h 0 (.ev y e :: tds)) (nz : InF C F N ps e m2 p h 0 (.ev z e :: tds)) :
      EvForm C F N ps e (.l [.w ifW, t, y, z]) h d a tds
theorem seg_if {t : Tree} {h d a a' : Nat} (s : Seg C F N ps t h d a a') (i : ifOf t = true) : ∃ t' y z a1 s g p, t = .l [.w ifW, t', y, z] ∧ Seg C F N ps t' h (d + 1) a a1 ∧ F.R[a1]? = some (6, .int (s : Nat), 0) ∧ Seg C F N ps y h 0 (a1 + 1) a' ∧ F.S[g]? = some a' ∧ F.S[s]? = some p ∧ SegE C F N ps z h 0 p (.go g) := by
  cases s with
  | w hj r => cases i
  | q hk r => cases (show decide (qw = ifW) = true from i)
  | op n1 n2 ok hs r => exact absurd (of_decide_eq_true i) n2
  | iff ht r hy hg hs hz => exact ⟨_, _, _, _, _, _, _, rfl, ht, r, hy, hg, hs, hz⟩
theorem inF_form {t : Tree} {h d a : Nat} {tds : List Task} (x : InF C F N ps e 0 a h d (.ev t e :: tds)) : EvForm C F N ps e t h d a tds := by
  have go : ∀ {t : Tree} {h d a a' m : Nat} {tds : List Task}, Seg C F N ps t h d a a' → InF C F N ps e m a' (h + 1) 0 tds → EvForm C F N ps e t h d a tds := fun {t h d a a' m tds} s n => by
    cases i : ifOf t with
    | false => exact .leaf i s n
    | true =>
      obtain ⟨t', y, z, a1, s', g, p, rfl, ht, r, hy, hg, hs, hz⟩ := seg_if s i
      exact .iff ht r hs (.ev hy n) (.evG hz hg n)
  cases x with
  | ev s n => exact go s n
  | evR s =>
    cases s with
    | of ni he r => exact go he (.ret r)
    | iff ht r hy hs hz => exact .iff ht r hs (.evR hy) (.evR hz)
  | evG s hp n =>
    cases s with
    | of ni he r => exact go he (.go r hp n)
    | iff ht r hy hs hz => exact .iff ht r hs (.evG hy hp n) (.evG hz hp n)
theorem opRow_one {w : List Nat} (hw : w ∈ [wordW, headW, tailW]) : (opRow C w).1 = 3 := by
  simp only [List.mem_cons, List.not_mem_nil, or_false] at hw
  unfold opRow
  rcases hw with rfl | rfl | rfl
  · rw [if_neg (by decide), if_neg (by decide), if_pos rfl]
  · rw [if_neg (by decide), if_neg (by decide), if_neg (by decide), if_pos rfl]
  · rw [if_neg (by decide), if_neg (by decide), if_neg (by decide), if_neg (by decide), if_pos rfl]
theorem opRow_call {x : List Nat} (h : spAr x = none) : opRow C x = (8, .int (nameIx C x : Nat)) := by
  have ne : ∀ w : List Nat, (spAr w).isSome = true → x ≠ w := fun w k q => by rw [q] at h; rw [h] at k; cases k
  unfold opRow
  rw [if_neg (ne sameW (by decide)), if_neg (ne joinW (by decide)), if_neg (ne wordW (by decide)), if_neg (ne headW (by decide)), if_neg (ne tailW (by decide))]
theorem den_look {N : St0} (wf : WF N) {i : Nat} {t : Tree} {x : List Nat} (h : Den N i t) (hx : x ∈ [wordW, headW, tailW]) : ∃ nd, N[i]? = some nd ∧ Den N (lookN x nd) (prim1 x t) := by
  simp only [List.mem_cons, List.not_mem_nil, or_false] at hx
  unfold lookN
  rcases hx with rfl | rfl | rfl
  · obtain ⟨n, h1, h2⟩ := den_word wf h
    exact ⟨n, h1, by rw [if_pos rfl, prim1_word]; exact h2⟩
  · obtain ⟨n, h1, h2⟩ := den_head wf h
    exact ⟨n, h1, by rw [if_neg (by decide), if_pos rfl, prim1_head]; exact h2⟩
  · obtain ⟨n, h1, h2⟩ := den_tail wf h
    exact ⟨n, h1, by rw [if_neg (by decide), if_neg (by decide), prim1_tail]; exact h2⟩
end
theorem pot_ev {t : Tree} {e : Env} {td : List Task} : pot (.ev t e :: td) = pot td := by show 0 + pot td = pot td; omega
theorem pot_op {x : List Nat} {td : List Task} : pot (opTask x :: td) = 1 + pot td := by
  unfold opTask
  by_cases hx : x ∈ [sameW, wordW, headW, tailW, joinW]
  · rw [if_pos hx]; rfl
  · rw [if_neg hx]; rfl
/-- what a written program is worth, along all that the machine comes to -/
structure Sim (C : Cx0) (F : Fin0) (N0 : St0) (bound M cap c0 : Nat) (Q : CS → Option Nat → Prop) (Rch : MS → Prop) : Prop where
  hE : ∃ w b, F.R[0]? = some (0, w, b)
  hC : ∀ x ps b, fnOf C.fns x = some (ps, b) → ∃ p, F.S[nameIx C x]? = some p ∧ SegE C F N0 ps b 0 0 p (.ret ps.length)
  hR : ∀ ms ms', Rch ms → turn C.fns ms = some ms' → (∀ x td, ms.todo = .call x :: td → ms.steps < bound) → Rch ms'
  hcap : ∀ ms, Rch ms → ms.steps ≤ cap
  hM : c0 + cap < M
  hq1 : ∀ (s : CS) (v n : Nat) (t : Tree), Rch ⟨[], [t], n⟩ → WF s.N → Ext N0 s.N → s.sk = [v] → Den s.N v t → s.st = n → s.N.length < M → Q s none
  hq2 : ∀ (s : CS) (ms ms' : MS) (i p m : Nat), Rch ms → turn C.fns ms = some ms' → bound ≤ ms.steps → F.S[i]? = some p → Sync C F m ⟨p, s.sk, s.bh, s.st, s.N⟩ ms' → WF s.N → Ext N0 s.N → s.st = ms.steps → (∃ x td, ms.todo = .call x :: td) →
    s.N.length + s.bh.length + pot ms'.todo ≤ c0 + ms'.steps → s.sk.length ≤ c0 + s.st → Q s (some i)
structure SInv (C : Cx0) (F : Fin0) (N0 : St0) (c0 : Nat) (Rch : MS → Prop) (m : Nat) (s : CS) (ms : MS) : Prop where
  sy : Sync C F m s ms
  wf : WF s.N
  ex : Ext N0 s.N
  re : Rch ms
  p1 : s.N.length + s.bh.length + pot ms.todo ≤ c0 + ms.steps
  p2 : s.sk.length ≤ c0 + s.st
theorem last_of {α : Type} {xs : List α} {n : Nat} (h : xs.length = n + 1) : ∃ ys y, xs = ys ++ [y] ∧ ys.length = n := by
  obtain ⟨ys, y, rfl⟩ := snoc_of (xs := xs) (by intro q; rw [q] at h; cases h)
  rw [List.length_append, List.length_singleton] at h
  exact ⟨ys, y, rfl, by omega⟩
theorem sim {C : Cx0} {F : Fin0} {N0 : St0} {bound M cap c0 : Nat} {Q : CS → Option Nat → Prop} {Rch : MS → Prop} (S : Sim C F N0 bound M cap c0 Q Rch) :
    ∀ (a b c d : Nat) (m : Nat) (s : CS) (ms : MS), cap + 1 - ms.steps = a → pot ms.todo = b → s.bh.length = c → m = d → SInv C F N0 c0 Rch m s ms → ∃ n, CRun C F bound M Q n s := by
  refine lex4 (P := fun a b c d => ∀ (m : Nat) (s : CS) (ms : MS), cap + 1 - ms.steps = a → pot ms.todo = b → s.bh.length = c → m = d → SInv C F N0 c0 Rch m s ms → ∃ n, CRun C F bound M Q n s) ?_
  intro a b c d IH m s ms ha hb hc hd I
  obtain ⟨a0, sk0, bh, st, N⟩ := s
  obtain ⟨⟨sk, ins, tmp, td, tds, fd, insT, tmpT, ps, dd, ch, hi, hl, ht, n, hsk, rfl⟩, wf, ex, re, p1, p2⟩ := I
  dsimp only at *
  have cap1 := S.hcap _ re
  dsimp only at cap1
  have hM := S.hM
  have small : Small M ⟨a0, sk0, bh, st, N⟩ := ⟨by dsimp only; omega, by dsimp only; omega, by dsimp only; omega⟩
  have step : ∀ {k : Nat} {w : V} {b n : Nat}, F.R[a0]? = some (k, w, b) → RowDo C F bound (CRun C F bound M Q n) Q ⟨a0, sk0, bh, st, N⟩ k w b → ∃ n, CRun C F bound M Q n ⟨a0, sk0, bh, st, N⟩ := fun {k w b n} r g => ⟨n + 1, small, k, w, b, r, g⟩
  have slen : sk0.length = sk.length + ins.length + tmp.length := by rw [hsk, List.length_append, List.length_append]
  have mine : ∀ {m : Nat} {tmp' sk2 : List Nat} {tmpT' : List Tree} {N' : St0} {a2 dd2 : Nat} {tds' : List Task} {st2 : Nat} {ms2 : MS}, Ext N N' → Paired (Den N') tmp' tmpT' → InF C F N' ps (ps.zip insT) m a2 tmp'.length dd2 tds' →
      sk2 = sk ++ ins ++ tmp' → ms2 = ⟨tds' ++ td, tmpT'.reverse ++ fd, st2 + dd2⟩ → Sync C F m ⟨a2, sk2, bh, st2, N'⟩ ms2 := fun g t n e1 e2 => ⟨_, _, _, _, _, _, _, _, _, _, ch.ext g, Dens.ext g hi, hl, t, n, e1, e2⟩
  -- on with the same measure of steps, or more
  have on : ∀ {m2 : Nat} {s2 : CS} {ms2 : MS}, SInv C F N0 c0 Rch m2 s2 ms2 → (st + dd < ms2.steps ∨ (ms2.steps = st + dd ∧ (pot ms2.todo < pot (tds ++ td) ∨ (pot ms2.todo = pot (tds ++ td) ∧ (s2.bh.length < bh.length ∨ (s2.bh.length = bh.length ∧ m2 < m)))))) → ∃ n, CRun C F bound M Q n s2 := fun {m2 s2 ms2} I2 h => by
    have cap2 := S.hcap _ I2.re
    refine IH (cap + 1 - ms2.steps) (pot ms2.todo) s2.bh.length m2 ?_ m2 s2 ms2 rfl rfl rfl rfl I2
    rcases h with h | ⟨h1, h⟩
    · left; omega
    · right; refine ⟨by rw [h1]; exact ha, ?_⟩
      rw [← hb, ← hc, ← hd]
      exact h
  have tlen := pr_len ht
  generalize hh : tmp.length = hn at n
  generalize hen : ps.zip insT = en at n mine
  have evc : ∀ (t : Tree) (tds1 : List Task), tds = .ev t en :: tds1 → m = 0 → ∃ n, CRun C F bound M Q n ⟨a0, sk0, bh, st, N⟩ := by
    intro t tds1 e1 e2
    subst e1 e2
    have nocall : ∀ x td', (MS.mk (Task.ev t en :: tds1 ++ td) (tmpT.reverse ++ fd) (st + dd)).todo = .call x :: td' → (MS.mk (Task.ev t en :: tds1 ++ td) (tmpT.reverse ++ fd) (st + dd)).steps < bound := fun x td' q => by
      cases (List.cons.inj q).1
    have rev1 : ∀ u : Tree, (tmpT ++ [u]).reverse ++ fd = u :: (tmpT.reverse ++ fd) := fun u => by rw [List.reverse_append]; rfl
    -- a value more
    have push : ∀ {v : Nat} {u : Tree} {m' a' : Nat}, Den N v u → InF C F N ps en m' a' (hn + 1) 0 tds1 → turn C.fns ⟨Task.ev t en :: tds1 ++ td, tmpT.reverse ++ fd, st + dd⟩ = some ⟨tds1 ++ td, u :: (tmpT.reverse ++ fd), st + dd + 1⟩ →
        ∃ n, CRun C F bound M Q n ⟨a', sk0 ++ [v], bh, st + (dd + 1), N⟩ := fun {v u m' a'} dv n' tn => by
      have re2 := S.hR _ _ re tn nocall
      refine on ⟨mine (Ext.refl N) (pr_snoc ht dv) (by rw [List.length_append, List.length_singleton, hh]; exact n') (by rw [hsk, List.append_assoc]) (by rw [rev1]; rfl), wf, ex, re2, ?_, ?_⟩ (.inl (by dsimp only; omega))
      · have q : pot (Task.ev t en :: tds1 ++ td) = pot (tds1 ++ td) := pot_ev
        dsimp only
        omega
      · dsimp only
        rw [List.length_append, List.length_singleton]
        omega
    cases inF_form n with
    | leaf ni s' n' =>
      cases s' with
      | w hj r =>
        rename_i x j
        have lj : j < ps.length := (List.getElem?_eq_some_iff.mp hj.1).1
        have li := pr_len hi
        obtain ⟨u, hu⟩ : ∃ u, insT[j]? = some u := ⟨_, List.getElem?_eq_getElem (by omega)⟩
        obtain ⟨v, hv, dv⟩ := pr_get hi hu
        obtain ⟨k, g⟩ := push dv n' (turn_word (by rw [← hen]; exact look_zip hj hu))
        refine step r (.copy (j := sk.length + j) (by omega) (by dsimp only; omega) ?_ g)
        dsimp only
        rw [hsk, List.append_assoc, List.getElem?_append_right (by omega), show sk.length + j - sk.length = j by omega, List.getElem?_append_left (by omega)]
        exact hv
      | q hk r =>
        obtain ⟨k, g⟩ := push hk n' turn_quote
        exact step r (.push g)
      | op n1 n2 ok hs r =>
        obtain ⟨m', n2'⟩ := inF_op ok hs r n'
        rename_i x ts d' a1
        have tn := turn_op (L := C.fns) (td := tds1 ++ td) (fd := tmpT.reverse ++ fd) (n := st + dd) (e := en) (x := x) (ts := ts) n1 n2
        have re2 := S.hR _ _ re tn nocall
        have q1 : pot (Task.ev (.l (.w x :: ts)) en :: tds1 ++ td) = pot (tds1 ++ td) := pot_ev
        have q2 : pot (ts.map (fun t => Task.ev t en) ++ opTask x :: (tds1 ++ td)) = 1 + pot (tds1 ++ td) := by
          rw [pot_app, pot_evs _ (fun _ => rfl), pot_op, Nat.zero_add]
        refine on ⟨mine (Ext.refl N) ht (by rw [hh]; exact n2') hsk ?_, wf, ex, re2, ?_, p2⟩ (.inl (by dsimp only; omega))
        · rw [List.append_assoc]; rfl
        · dsimp only
          rw [q2]
          omega
      | iff ht' r hy hg hs hz => cases ni
    | iff ht' r hs ny nz =>
      rename_i t' y z a1 s' p m1 m2
      have tn := turn_if (L := C.fns) (td := tds1 ++ td) (fd := tmpT.reverse ++ fd) (n := st + dd) (e := en) (t := t') (y := y) (z := z)
      have re2 := S.hR _ _ re tn nocall
      have q1 : pot (Task.ev (.l [.w ifW, t', y, z]) en :: tds1 ++ td) = pot (tds1 ++ td) := pot_ev
      refine on ⟨mine (Ext.refl N) ht (by rw [hh]; exact .ev ht' (.pick r hs ny nz)) hsk rfl, wf, ex, re2, ?_, p2⟩ (.inl (by dsimp only; omega))
      show _ + _ + pot (Task.ev t' en :: Task.pick y z en :: (tds1 ++ td)) ≤ _
      rw [pot_ev, show pot (Task.pick y z en :: (tds1 ++ td)) = 1 + pot (tds1 ++ td) from rfl]
      dsimp only
      omega
  cases n with
  | ret r =>
    obtain ⟨tmp0, v, rfl, l0⟩ := last_of (n := 0) hh
    have e0 := List.length_eq_zero_iff.mp l0
    subst e0
    obtain ⟨T0, t, rfl, q0, dt⟩ := pr_unsnoc ht
    cases q0
    cases ch with
    | base =>
      obtain ⟨w0, b0, r0⟩ := S.hE
      refine step (n := 1) r (.ret (sk := []) (ins := ins) (bh := []) (r := 0) hsk hl rfl ⟨⟨by dsimp only; omega, by dsimp only; simp; omega, by dsimp only; simp; omega⟩, 0, w0, b0, r0, .fin ?_⟩)
      exact S.hq1 _ v _ t re wf ex rfl dt rfl (by show N.length < M; omega)
    | fr c' hi' hl' ht' n' =>
      rename_i bh' sk' ins' tmp' td' tds' fd' insT' tmpT' ps' r' m'
      have ee : (tmpT' ++ [t]).reverse ++ fd' = ([] ++ [t]).reverse ++ (tmpT'.reverse ++ fd') := by rw [List.reverse_append]; rfl
      have re' : Rch ⟨tds' ++ td', (tmpT' ++ [t]).reverse ++ fd', st + 0⟩ := by rw [ee]; exact re
      have lb : (bh' ++ [r']).length = bh'.length + 1 := by rw [List.length_append]; rfl
      obtain ⟨k, g⟩ := on (m2 := m') (s2 := ⟨r', (sk' ++ ins' ++ tmp') ++ [v], bh', st, N⟩) (ms2 := ⟨tds' ++ td', (tmpT' ++ [t]).reverse ++ fd', st + 0⟩)
        ⟨⟨_, _, _, _, _, _, _, _, _, _, c', hi', hl', pr_snoc ht' dt, by rw [List.length_append, List.length_singleton]; exact n', by rw [List.append_assoc], rfl⟩, wf, ex, re', by dsimp only; rw [List.nil_append] at p1; omega, by
          dsimp only
          rw [hsk] at p2
          simp only [List.length_append, List.length_singleton, List.length_nil] at p2 ⊢
          omega⟩ (.inr ⟨rfl, .inr ⟨rfl, .inl (by dsimp only; omega)⟩⟩)
      exact step r (.ret (sk := sk' ++ ins' ++ tmp') (ins := ins) (bh := bh') (r := r') hsk hl rfl g)
  | go r hp n' =>
    obtain ⟨k, g⟩ := on ⟨mine (Ext.refl N) ht (by rw [hh]; exact n') hsk rfl, wf, ex, re, p1, p2⟩ (.inr ⟨rfl, .inr ⟨rfl, .inr ⟨rfl, Nat.lt_succ_self _⟩⟩⟩)
    exact step r (.go hp g)
  | ev s' n' => exact evc _ _ rfl rfl
  | evR s' => exact evc _ _ rfl rfl
  | evG s' hp n' => exact evc _ _ rfl rfl
  | p1 hw r n' =>
    rename_i w h m' tds1
    obtain ⟨tmp0, v, rfl, l0⟩ := last_of hh
    obtain ⟨T0, t, rfl, q0, dt⟩ := pr_unsnoc ht
    obtain ⟨nd, hn, dl⟩ := den_look wf dt hw
    have rv : ∀ u : Tree, (T0 ++ [u]).reverse ++ fd = u :: (T0.reverse ++ fd) := fun u => by rw [List.reverse_append]; rfl
    have tn : turn C.fns ⟨Task.prim w :: tds1 ++ td, (T0 ++ [t]).reverse ++ fd, st + 0⟩ = some ⟨tds1 ++ td, prim1 w t :: (T0.reverse ++ fd), st + 0⟩ := by rw [rv]; exact turn_p1 hw
    have re2 := S.hR _ _ re tn (fun x td' q => by cases (List.cons.inj q).1)
    have q1 : pot (Task.prim w :: tds1 ++ td) = 1 + pot (tds1 ++ td) := rfl
    obtain ⟨k, g⟩ := on ⟨mine (a2 := a0 + 1) (sk2 := (sk ++ ins ++ tmp0) ++ [lookN w nd]) (Ext.refl N) (pr_snoc q0 dl) (by rw [List.length_append, List.length_singleton, l0]; exact n') (by rw [List.append_assoc]) (by rw [rv]), wf, ex, re2, by dsimp only; omega, by
      dsimp only
      rw [hsk] at p2
      simp only [List.length_append, List.length_singleton] at p2 ⊢
      omega⟩ (.inr ⟨rfl, .inl (by dsimp only; omega)⟩)
    have r' : F.R[a0]? = some (3, (opRow C w).2, 0) := by rw [r, opRow_one hw]
    exact step r' (.look (sk := sk ++ ins ++ tmp0) hw (by dsimp only; rw [hsk]; simp only [List.append_assoc]) hn g)
  | p2 hw r n' =>
    rename_i w h m' tds1
    obtain ⟨tmp1, v, rfl, l1⟩ := last_of hh
    obtain ⟨T1, t, rfl, q1, dt⟩ := pr_unsnoc ht
    obtain ⟨tmp0, u, rfl, l0⟩ := last_of l1
    obtain ⟨T0, f, rfl, q0, df⟩ := pr_unsnoc q1
    have rv : ∀ y : Tree, (T0 ++ [y]).reverse ++ fd = y :: (T0.reverse ++ fd) := fun y => by rw [List.reverse_append]; rfl
    have rv2 : (T0 ++ [f] ++ [t]).reverse ++ fd = t :: f :: (T0.reverse ++ fd) := by rw [List.reverse_append, List.reverse_append]; rfl
    have tn : turn C.fns ⟨Task.prim w :: tds1 ++ td, (T0 ++ [f] ++ [t]).reverse ++ fd, st + 0⟩ = some ⟨tds1 ++ td, prim2 w f t :: (T0.reverse ++ fd), st + 0⟩ := by rw [rv2]; exact turn_p2 hw
    have re2 := S.hR _ _ re tn (fun x td' q => by cases (List.cons.inj q).1)
    have q1 : pot (Task.prim w :: tds1 ++ td) = 1 + pot (tds1 ++ td) := rfl
    have hs2 : sk0 = (sk ++ ins ++ tmp0) ++ [u, v] := by rw [hsk]; simp only [List.append_assoc, List.singleton_append]
    have fin : ∀ {k : Nat} {N' : St0}, Ext N N' → WF N' → N'.length ≤ N.length + 1 → Den N' k (prim2 w f t) → ∃ n, CRun C F bound M Q n ⟨a0 + 1, (sk ++ ins ++ tmp0) ++ [k], bh, st, N'⟩ := fun {k N'} g wf' ln dk => by
      refine on ⟨mine (a2 := a0 + 1) g (pr_snoc (Dens.ext g q0) dk) (by rw [List.length_append, List.length_singleton, l0]; exact n'.ext g) (by rw [List.append_assoc]) (by rw [rv]), wf', ex.trans g, re2, by dsimp only; omega, ?_⟩ (.inr ⟨rfl, .inl (by dsimp only; omega)⟩)
      dsimp only
      rw [hs2] at p2
      simp only [List.length_append, List.length_singleton, List.length_cons, List.length_nil] at p2 ⊢
      omega
    have hw2 := hw
    simp only [List.mem_cons, List.not_mem_nil, or_false] at hw2
    rcases hw2 with rfl | rfl
    · have dk : Den N (if u = v then 1 else 0) (prim2 sameW f t) := by
        by_cases e : u = v
        · subst e
          rw [if_pos rfl, prim2_same_eq _ _ (df.fn dt)]
          exact .w wf.z1
        · rw [if_neg e, prim2_same_ne _ _ (fun q => e (by subst q; exact df.inj wf dt))]
          exact .e wf.z0
      obtain ⟨k, g⟩ := fin (Ext.refl N) wf (Nat.le_succ _) dk
      have r' : F.R[a0]? = some (4, .int 0, 0) := by rw [r]; unfold opRow; rw [if_pos rfl]
      exact step r' (.same hs2 g)
    · obtain ⟨N', k', hp⟩ := Put.some wf df.lt dt.lt
      obtain ⟨k, g⟩ := fin hp.ext hp.wf hp.len (by rw [prim2_join]; exact hp.join wf df dt)
      have r' : F.R[a0]? = some (5, .int 0, 0) := by rw [r]; unfold opRow; rw [if_neg (by decide), if_pos rfl]
      exact step r' (.join wf hs2 df.lt dt.lt hp g)
  | pick r hp ny nz =>
    rename_i y z h s' p m1 m2 tds1
    obtain ⟨tmp0, v, rfl, l0⟩ := last_of hh
    obtain ⟨T0, t, rfl, q0, dt⟩ := pr_unsnoc ht
    have rv : (T0 ++ [t]).reverse ++ fd = t :: (T0.reverse ++ fd) := by rw [List.reverse_append]; rfl
    have tn := turn_pick (L := C.fns) (td := tds1 ++ td) (fd := T0.reverse ++ fd) (n := st + 0) (e := en) (y := y) (z := z) (c := t)
    rw [← rv] at tn
    have re2 := S.hR _ _ re tn (fun x td' q => by cases (List.cons.inj q).1)
    have q1 : pot (Task.pick y z en :: tds1 ++ td) = 1 + pot (tds1 ++ td) := rfl
    have hs2 : sk0 = (sk ++ ins ++ tmp0) ++ [v] := by rw [hsk]; simp only [List.append_assoc]
    have p2' : (sk ++ ins ++ tmp0).length ≤ c0 + st := by
      rw [hs2] at p2
      rw [List.length_append (bs := [v])] at p2
      omega
    have both : ∃ n, CRun C F bound M Q n ⟨if v = 0 then p else a0 + 1, sk ++ ins ++ tmp0, bh, st, N⟩ := by
      by_cases e : v = 0
      · have e2 := (dt.isE wf).mp e
        rw [if_pos e2] at re2
        rw [if_pos e]
        refine on ⟨mine (Ext.refl N) q0 (by rw [l0]; exact nz) rfl rfl, wf, ex, re2, ?_, p2'⟩ (.inr ⟨rfl, .inl ?_⟩)
        · show _ + _ + pot (Task.ev z en :: (tds1 ++ td)) ≤ _
          rw [pot_ev]
          dsimp only
          omega
        · show pot (Task.ev z en :: (tds1 ++ td)) < _
          rw [pot_ev]
          omega
      · have e2 : ¬ t = .l [] := fun q => e ((dt.isE wf).mpr q)
        rw [if_neg e2] at re2
        rw [if_neg e]
        refine on ⟨mine (Ext.refl N) q0 (by rw [l0]; exact ny) rfl rfl, wf, ex, re2, ?_, p2'⟩ (.inr ⟨rfl, .inl ?_⟩)
        · show _ + _ + pot (Task.ev y en :: (tds1 ++ td)) ≤ _
          rw [pot_ev]
          dsimp only
          omega
        · show pot (Task.ev y en :: (tds1 ++ td)) < _
          rw [pot_ev]
          omega
    obtain ⟨k, g⟩ := both
    exact step r (.test hs2 hp g)
  | call sp hf r n' =>
    rename_i x ps' bd h m' tds1
    have l1 : tmp.length = h + ps'.length := hh
    have hs := pr_split h ht
    have tt : tmp = tmp.take h ++ tmp.drop h := (List.take_append_drop h tmp).symm
    have tT : tmpT = tmpT.take h ++ tmpT.drop h := (List.take_append_drop h tmpT).symm
    have b1 : (tmp.take h).length = h := by rw [List.length_take]; omega
    have b2 : (tmp.drop h).length = ps'.length := by rw [List.length_drop]; omega
    generalize tmp.take h = tmp0 at hs tt b1
    generalize tmp.drop h = args at hs tt b2
    generalize tmpT.take h = T0 at hs tT
    generalize tmpT.drop h = argsT at hs tT
    subst tt tT
    obtain ⟨q0, qa⟩ := hs
    have la := pr_len qa
    have rv : (T0 ++ argsT).reverse ++ fd = argsT.reverse ++ (T0.reverse ++ fd) := by rw [List.reverse_append, List.append_assoc]
    have lr : argsT.reverse.length = ps'.length := by rw [List.length_reverse]; omega
    have tn := turn_call (L := C.fns) (td := tds1 ++ td) (fd := (T0 ++ argsT).reverse ++ fd) (n := st + dd) hf (by rw [rv, List.length_append]; omega)
    have re0 := re
    rw [rv, List.take_left' lr, List.drop_left' lr, List.reverse_reverse, ← rv] at tn
    obtain ⟨p, hp, sg⟩ := S.hC _ _ _ hf
    have r' : F.R[a0]? = some (8, .int (nameIx C x : Nat), dd) := by rw [r, opRow_call sp]
    have sy : Sync C F 0 ⟨p, sk0, bh ++ [a0 + 1], st + dd, N⟩ ⟨.ev bd (ps'.zip argsT) :: (tds1 ++ td), T0.reverse ++ fd, st + dd⟩ := by
      refine ⟨sk ++ ins ++ tmp0, args, [], tds1 ++ td, [.ev bd (ps'.zip argsT)], T0.reverse ++ fd, argsT, [], ps', 0, .fr ch hi hl q0 (by rw [b1, hen]; exact n'), qa, b2, .nil, .evR (sg.ext ex), ?_, rfl⟩
      rw [hsk]
      simp only [List.append_assoc, List.append_nil]
    have q1 : pot (Task.call x :: tds1 ++ td) = 1 + pot (tds1 ++ td) := rfl
    have p1' : N.length + (bh ++ [a0 + 1]).length + pot (.ev bd (ps'.zip argsT) :: (tds1 ++ td)) ≤ c0 + (st + dd) := by
      rw [pot_ev, List.length_append, List.length_singleton]
      omega
    by_cases lt : st + dd < bound
    · have re2 := S.hR _ _ re tn (fun _ _ _ => lt)
      obtain ⟨k, g⟩ := on ⟨sy, wf, ex, re2, p1', by dsimp only; omega⟩ (.inr ⟨rfl, .inl (by show pot (.ev bd (ps'.zip argsT) :: (tds1 ++ td)) < _; rw [pot_ev]; omega)⟩)
      exact step r' (.call lt hp g)
    · refine step (n := 0) r' (.stop (by dsimp only; omega) ?_)
      exact S.hq2 ⟨a0 + 1, sk0, bh ++ [a0 + 1], st + dd, N⟩ _ _ _ p 0 re tn (by dsimp only; omega) hp sy wf ex rfl ⟨x, _, rfl⟩ p1' (by dsimp only; omega)
end Og

namespace Og
open PySem PySem.Spec PyProof.Rows L2
/-! ### heaps: each tracked thing stays, but for what can change at the places S -/
def Mo (o : HO) : Prop := (∃ xs, o = .lst xs) ∨ (∃ C d fs, o = .ins C d fs) ∨ (∃ kvs, o = .dK kvs) ∨ (∃ kvs, o = .dT kvs)
theorem mo_lst {xs : List V} : Mo (.lst xs) := .inl ⟨_, rfl⟩
theorem mo_ins {C d : Addr} {fs : List (Str × V)} : Mo (.ins C d fs) := .inr (.inl ⟨_, _, _, rfl⟩)
theorem mo_dK {kvs : List (Key × V)} : Mo (.dK kvs) := .inr (.inr (.inl ⟨_, rfl⟩))
theorem mo_dT {kvs : List (List Key × V)} : Mo (.dT kvs) := .inr (.inr (.inr ⟨_, rfl⟩))
theorem mo_not_tup {xs : List V} : ¬ Mo (.tup xs) := by rintro (⟨_, h⟩ | ⟨_, _, _, h⟩ | ⟨_, h⟩ | ⟨_, h⟩) <;> cases h
theorem mo_not_frz {p : Obj} {o : HO} : ¬ Mo (.frz p o) := by rintro (⟨_, h⟩ | ⟨_, _, _, h⟩ | ⟨_, h⟩ | ⟨_, h⟩) <;> cases h
def Kp (S : List Addr) (H H' : Hp) : Prop := ∀ b o, H b = some o → H' b = some o ∨ (b ∈ S ∧ Mo o ∧ ∃ o', Mo o' ∧ H' b = some o')
theorem Kp.refl {S : List Addr} {H : Hp} : Kp S H H := fun _ _ e => .inl e
theorem Kp.trans {S : List Addr} {H H1 H2 : Hp} (a : Kp S H H1) (b : Kp S H1 H2) : Kp S H H2 := fun p o e => by
  rcases a p o e with h | ⟨h, m, o', m', e2⟩
  · exact b p o h
  · rcases b p _ e2 with h' | ⟨_, _, o2, m2, e4⟩
    · exact .inr ⟨h, m, o', m', h'⟩
    · exact .inr ⟨h, m, o2, m2, e4⟩
theorem Kp.mono {S S' : List Addr} {H H1 : Hp} (a : Kp S H H1) (h : ∀ x ∈ S, x ∈ S') : Kp S' H H1 := fun p o e => by
  rcases a p o e with q | ⟨q, r⟩
  · exact .inl q
  · exact .inr ⟨h _ q, r⟩
theorem Kp.of {S : List Addr} {H H1 : Hp} (a : Keep S H H1) : Kp S H H1 := fun p o e => by
  rcases a p o e with q | ⟨q, xs, ys, rfl, r⟩
  · exact .inl q
  · exact .inr ⟨q, mo_lst, _, mo_lst, r⟩
theorem Kp.of0 {S : List Addr} {H H1 : Hp} (a : Keep [] H H1) : Kp S H H1 := (Kp.of a).mono fun _ m => absurd m (List.not_mem_nil)
theorem Kp.same {H H1 : Hp} (a : Kp [] H H1) : Same H H1 := fun b o e => by
  rcases a b o e with q | ⟨q, _⟩
  · exact q
  · exact absurd q (List.not_mem_nil)
theorem Kp.keep {H H1 : Hp} (a : Kp [] H H1) : Keep [] H H1 := Keep.of_same a.same
theorem Kp.new {S : List Addr} {H : Hp} {p : Addr} {o : HO} (h : H p = none) : Kp S H (upd H p o) := fun b u e => .inl (by rw [upd_ne (ne_of_none e h)]; exact e)
theorem Kp.newT {S : List Addr} {H H1 : Hp} {p : Addr} {o : HO} (a : Kp S H H1) (h : H1 p = none) : Kp S H (upd H1 p o) := a.trans (Kp.new h)
theorem Kp.set {S : List Addr} {H : Hp} {p : Addr} {o o' : HO} (h : H p = some o) (m : Mo o) (m' : Mo o') (i : p ∈ S) : Kp S H (upd H p o') := fun b u e => by
  by_cases hb : b = p
  · subst hb
    rw [h] at e
    cases e
    exact .inr ⟨i, m, o', m', upd_same⟩
  · exact .inl (by rw [upd_ne hb]; exact e)
theorem Kp.setT {S : List Addr} {H H1 : Hp} {p : Addr} {o o' : HO} (a : Kp S H H1) (h : H1 p = some o) (m : Mo o) (m' : Mo o') (i : p ∈ S) : Kp S H (upd H1 p o') := a.trans (Kp.set h m m' i)
theorem Kp.drop {S : List Addr} {H H1 : Hp} {p : Addr} (a : Kp (p :: S) H H1) (h : H p = none) : Kp S H H1 := fun b o e => by
  rcases a b o e with q | ⟨q, r⟩
  · exact .inl q
  · rcases List.mem_cons.mp q with q | q
    · subst q
      rw [h] at e
      cases e
    · exact .inr ⟨q, r⟩
/-- what is new may change -/
theorem Kp.drops {S T : List Addr} {H H1 : Hp} (a : Kp S H H1) (h : ∀ p ∈ S, H p = none ∨ p ∈ T) : Kp T H H1 := fun b o e => by
  rcases a b o e with q | ⟨q, r⟩
  · exact .inl q
  · rcases h b q with n | m
    · rw [n] at e; cases e
    · exact .inr ⟨m, r⟩
theorem Kp.cons {S : List Addr} {H H1 : Hp} {p : Addr} (a : Kp S H H1) : Kp (p :: S) H H1 := a.mono fun _ h => List.mem_cons_of_mem _ h
theorem Kp.get {S : List Addr} {H H1 : Hp} {b : Addr} {o : HO} (a : Kp S H H1) (e : H b = some o) (h : b ∉ S) : H1 b = some o := by
  rcases a b o e with q | ⟨q, _⟩
  · exact q
  · exact absurd q h
theorem Kp.free {S : List Addr} {H H1 : Hp} {b : Addr} (a : Kp S H H1) (e : H1 b = none) : H b = none := by
  cases q : H b with
  | none => rfl
  | some o => rcases a b o q with r | ⟨_, _, _, _, r⟩ <;> rw [r] at e <;> cases e
theorem Kp.tup {S : List Addr} {H H1 : Hp} {b : Addr} {xs : List V} (a : Kp S H H1) (e : H b = some (.tup xs)) : H1 b = some (.tup xs) := by
  rcases a b _ e with q | ⟨_, m, _⟩
  · exact q
  · exact absurd m mo_not_tup
theorem Kp.rdT {S : List Addr} {H H1 : Hp} {b : Addr} {xs : List V} (a : Kp S H H1) (e : Rd H b (.tup xs)) : Rd H1 b (.tup xs) := by
  rcases e with e | ⟨o, e⟩
  · exact .inl (a.tup e)
  · rcases a b _ e with q | ⟨_, m, _⟩
    · exact .inr ⟨o, q⟩
    · exact absurd m mo_not_frz
theorem Kp.sqT {K : PySem.W.Frag} {S : List Addr} {H H1 : Hp} {b : Addr} {xs : List V} (a : Kp S H H1) (e : SqT K H b xs) : SqT K H1 b xs := by
  rcases e with e | e
  · exact .inl (a.rdT e)
  · exact .inr e
theorem Kp.sqL {K : PySem.W.Frag} {S : List Addr} {H H1 : Hp} {b : Addr} {xs : List V} (a : Kp S H H1) (h : b ∉ S) (e : SqL K H b xs) : SqL K H1 b xs := by
  rcases e with (e | ⟨o, e⟩) | e
  · exact .inl (.inl (a.get e h))
  · exact .inl (.inr ⟨o, a.get e h⟩)
  · exact .inr e
mutual
theorem Tr.kp {K : PySem.W.Frag} {S : List Addr} {H H1 : Hp} (a : Kp S H H1) : ∀ {v : V} {t : Tree}, Tr K H v t → Tr K H1 v t
  | v, .w x, h => by rw [Tr] at h ⊢; exact h
  | v, .l ts, h => by
    rw [Tr] at h ⊢
    obtain ⟨p, vs, e, h1, h2⟩ := h
    exact ⟨p, vs, e, a.sqT h1, Trs.kp a h2⟩
theorem Trs.kp {K : PySem.W.Frag} {S : List Addr} {H H1 : Hp} (a : Kp S H H1) : ∀ {vs : List V} {ts : List Tree}, Trs K H vs ts → Trs K H1 vs ts
  | vs, [], h => by rw [Trs] at h ⊢; exact h
  | vs, t :: ts, h => by
    rw [Trs] at h ⊢
    obtain ⟨v, r, e, h1, h2⟩ := h
    exact ⟨v, r, e, Tr.kp a h1, Trs.kp a h2⟩
end
/-! ### own classes without a base -/
structure OwnC (K : PySem.W.Frag) (mg : Str → Option Value) (x : Str) (as : List Str) (C : Addr) : Prop where
  gC : mg x = some (.ref C)
  cl : L2.Cls K C
  no : ∀ f ∈ as, NoAttr K C f
/-- its __init__, as the program's top leaves it -/
structure InitAt (K : PySem.W.Frag) (C : Addr) (qual : Str) (st : Stmt) (ps : List Str) : Prop where
  ex : ∃ f fd, Fun K "__init__" qual st f fd ∧ Mk K C f ∧ Binds K fd ps []
structure MethAt (K : PySem.W.Frag) (C : Addr) (x qual : Str) (st : Stmt) (ps : List Str) : Prop where
  ex : ∃ f fd, Fun K x qual st f fd ∧ Meth K C x f ∧ Binds K fd ps []
structure MCallee (P : Program) (w : World) (K : PySem.W.Frag) (mg : Str → Option Value) (base : Heap) (k : Nat) (C : Addr) (x : Str) (f : Addr) (fd : FuncData) (ps : List Str) (sp : Sp) : Prop where
  ok : FnOk P w K mg base CX0 k f fd ps sp
  me : Meth K C x f
  cl : L2.Cls K C
  bi : Binds K fd ps []
structure KCallee (P : Program) (w : World) (K : PySem.W.Frag) (mg : Str → Option Value) (base : Heap) (k : Nat) (C : Addr) (x : Str) (f : Addr) (fd : FuncData) (ps : List Str) (sp : Sp) : Prop where
  ok : FnOk P w K mg base CX0 k f fd ps sp
  mkr : Mk K C f
  gC : mg x = some (.ref C)
  bi : Binds K fd ps []
def HasM (P : Program) (w : World) (K : PySem.W.Frag) (mg : Str → Option Value) (base : Heap) (k : Nat) (C : Addr) (x : Str) (ps : List Str) (sp : Sp) : Prop := ∃ f fd, MCallee P w K mg base k C x f fd ps sp
def HasK (P : Program) (w : World) (K : PySem.W.Frag) (mg : Str → Option Value) (base : Heap) (k : Nat) (C : Addr) (x : Str) (ps : List Str) (sp : Sp) : Prop := ∃ f fd, KCallee P w K mg base k C x f fd ps sp
theorem HasM.mono {P : Program} {w : World} {K : PySem.W.Frag} {mg : Str → Option Value} {base : Heap} {j k : Nat} {C : Addr} {x : Str} {ps : List Str} {sp : Sp} (h : HasM P w K mg base j C x ps sp) (l : j ≤ k) : HasM P w K mg base k C x ps sp := by
  obtain ⟨f, fd, c⟩ := h
  exact ⟨f, fd, c.ok.mono l, c.me, c.cl, c.bi⟩
theorem HasK.mono {P : Program} {w : World} {K : PySem.W.Frag} {mg : Str → Option Value} {base : Heap} {j k : Nat} {C : Addr} {x : Str} {ps : List Str} {sp : Sp} (h : HasK P w K mg base j C x ps sp) (l : j ≤ k) : HasK P w K mg base k C x ps sp := by
  obtain ⟨f, fd, c⟩ := h
  exact ⟨f, fd, c.ok.mono l, c.mkr, c.gC, c.bi⟩
section
variable {X : Cx} {k : Nat} {C : Addr} {x : Str} {f : Addr} {fd : FuncData} {ps : List Str} {sp : Sp} {p apos pos : Pos} {o e : Expr} {es : List Expr} {to : TE} {t : TA} {pl : Sem Bool}
theorem calM (M : MCallee X.prog X.w X.K X.mg X.base k C x f fd ps sp) (hr : Room k X.A) (ho : PE X o to) (ha : PA X (e :: es) t)
    (hst : starEach (e :: es) X.env = (false, eval e X.env) :: starEach es X.env := by rfl) (hpl : (backTo pos (starEach es X.env)).any (·.1) = false := by rfl)
    (ht : eval (.Call (.Attribute o x apos) (e :: es) [] pos) X.env = (do
      let ov ← eval o X.env
      standAt apos.atName
      let (f, first) ← holding [ov] (getMethod ov x pl)
      callWith pos f first (backTo pos (starEach (e :: es) X.env)) (backToKw pos (keywordEach [] X.env))) := by rfl) : PE X (.Call (.Attribute o x apos) (e :: es) [] pos) (tMeth C x sp [] E0 to t) :=
  pe_meth ho M.cl M.me M.ok hr M.bi .nil pass0 ha hst hpl ht
theorem calM0 (M : MCallee X.prog X.w X.K X.mg X.base k C x f fd ps sp) (hr : Room k X.A) (ho : PE X o to)
    (ht : eval (.Call (.Attribute o x apos) [] [] pos) X.env = (do
      let ov ← eval o X.env
      standAt apos.atName
      let (f, first) ← holding [ov] (getMethod ov x pl)
      callWith pos f first (backTo pos (starEach [] X.env)) (backToKw pos (keywordEach [] X.env))) := by rfl) : PE X (.Call (.Attribute o x apos) [] [] pos) (tMeth C x sp [] E0 to tNil) :=
  pe_meth0 ho M.cl M.me M.ok hr M.bi .nil pass0 ht
theorem calK (M : KCallee X.prog X.w X.K X.mg X.base k C x f fd ps sp) (hr : Room (k + 1) X.A) (ha : PA X (e :: es) t) (hg : Gl X x := by rfl) (hdb : (x == ("__debug__" : Str)) = false := by decide)
    (he : starEach (e :: es) X.env = (false, eval e X.env) :: starEach es X.env := by rfl) (hpl : (backTo pos (starEach es X.env)).any (·.1) = false := by rfl) : PE X (.Call (.Name x p) (e :: es) [] pos) (tMake C sp [] E0 t) :=
  pe_make M.mkr M.ok hr hg M.gC M.bi .nil pass0 ha hdb he hpl
theorem calK0 (M : KCallee X.prog X.w X.K X.mg X.base k C x f fd ps sp) (hr : Room (k + 1) X.A) (hg : Gl X x := by rfl) (hdb : (x == ("__debug__" : Str)) = false := by decide) : PE X (.Call (.Name x p) [] [] pos) (tMake C sp [] E0 tNil) :=
  pe_make0 M.mkr M.ok hr hg M.gC M.bi .nil pass0 hdb
end
end Og

namespace Og
open PySem PySem.Spec PyProof.Rows L2
/-! ### xs[a:] = ys and del xs[a:] -/
/-- where the tail begins -/
def tailAt (n : Nat) (a : Int) : Nat := if a < 0 then ((n : Int) + a).toNat else min a.toNat n
theorem bounds_tail {a : Int} {n : Nat} (h : -(n : Int) ≤ a) : sliceBounds (some a) none none n = (((tailAt n a : Nat) : Int), (n : Int), 1) := by
  unfold tailAt
  simp only [sliceBounds, Option.getD_none]
  by_cases h1 : a < 0
  · simp only [h1, if_true, if_pos, show (1 : Int) > 0 by decide]
    congr 1
    · omega
  · simp only [h1, if_false, show (1 : Int) > 0 by decide, if_true]
    congr 1
    · omega
theorem tailAt_le (n : Nat) (a : Int) (h : a < 0 ∨ 0 ≤ a) : tailAt n a ≤ n := by
  unfold tailAt
  split <;> omega
theorem filter_tail {α : Type} (p : Nat → Bool) (a : Nat) : ∀ (l : List α) (k : Nat), (∀ j, k ≤ j → j < k + l.length → p j = decide (a ≤ j)) → (l.zipIdx k).filterMap (fun x => if p x.2 = true then none else some x.1) = l.take (a - k)
  | [], k, _ => by simp
  | x :: l, k, h => by
    have ih := filter_tail p a l (k + 1) fun j h1 h2 => h j (by omega) (by rw [List.length_cons]; omega)
    have hk := h k (Nat.le_refl _) (by rw [List.length_cons]; omega)
    rw [List.zipIdx_cons, List.filterMap_cons]
    by_cases c : a ≤ k
    · rw [decide_eq_true c] at hk
      dsimp only
      rw [hk, if_pos rfl, ih, show a - (k + 1) = 0 by omega, show a - k = 0 by omega]
      rfl
    · rw [decide_eq_false c] at hk
      dsimp only
      rw [hk, if_neg (by decide), ih, show a - k = (a - (k + 1)) + 1 by omega, List.take_succ_cons]
section
variable {prog : Program} {w : World} {A : Around} {E : Value → Shared → Prop} {s : Shared}
theorem tail_eq (its its2 : List Value) (a : Nat) (h : a ≤ its.length) : its.toArray.extract 0 a ++ its2.toArray ++ its.toArray.extract its.toArray.size its.toArray.size = (its.take a ++ its2).toArray := by
  apply Array.toList_inj.mp
  simp
set_option maxRecDepth 100000 in
theorem setItem_tail {l b sl : Addr} {items new : Array Value} {n n2 : Nat} {vl vu : Value} {a : Int} {Q : Unit → Shared → Prop}
    (e : s.heap.get? l = some { cls := .type "list", data := .seq items n }) (e2 : s.heap.get? b = some { cls := .type "list", data := .seq new n2 }) (hne : l ≠ b)
    (hs : s.heap.IsSliceOf sl vl vu .none) (pl : IsPart vl (some a)) (pu : IsPart vu none) (ha : -(items.size : Int) ≤ a)
    (hsz : items.size + new.size ≤ sizeLine) (h : Q () { s with heap := s.heap.update l (Obj.mapSeq fun xs => xs.extract 0 (tailAt items.size a) ++ new ++ xs.extract items.size xs.size) }) :
    wpAny (model prog w) A (setItem (.ref l) (.ref sl) (.ref b)) Q E s := by
  have hl : s.heap.IsList l items := PySem.IsL.isList e
  have hb : s.heap.IsList b new := PySem.IsL.isList e2
  obtain ⟨os, hos, hcs, hds⟩ := id hs
  have hTs : s.TypeIs (.ref sl) "slice" := ⟨os, hos, hcs⟩
  have hstep : ¬ ((rawPart none == rawInt 0) = true) := Bool.false_ne_true
  have hsame : Builtin.List.listSameRef (.ref l) (.ref b) = false := by
    unfold Builtin.List.listSameRef
    exact beq_eq_false_iff_ne.mpr hne
  have hle : tailAt items.size a ≤ items.size := tailAt_le _ _ (by omega)
  have hmax : (max ((tailAt items.size a : Nat) : Int) (items.size : Int)).toNat = items.size := by omega
  have hz' : ((fun xs : Array Value => xs.extract 0 (tailAt items.size a) ++ new ++ xs.extract items.size xs.size) items).size ≤ sizeLine + 1 := by
    simp only [Array.size_append, Array.size_extract]
    omega
  unfold setItem
  try with_reducible refine wpAny_holding ?_
  first | refine wpAny_bind (wpAny_pure ?_) | skip
  refine wpAny_bind (wpAny_sequenceKey hl.typeIs (by decide) ?_)
  refine wpAny_bind (wpAny_callSpecial?_slot (name := Str.ofString "__setitem__") hl.typeIs slot_list_setitem
    (wpAny_call_entry slot_list_setitem hl.typeIs entry_list_setitem ?_ (args_list_setitem _ _ _)))
  show wpAny _ _ (Builtin.List.listSubscript? (.ref sl) >>= _) _ _ s
  refine wpAny_bind ?_
  unfold Builtin.List.listSubscript?
  refine wpAny_bind (wpAny_specialOf hTs slice_no_index ?_)
  simp only [Option.isNone_none, if_true]
  refine wpAny_pure ?_
  show wpAny _ _ (typeOf (.ref sl) >>= _) _ _ s
  refine wpAny_bind (wpAny_typeOf hTs ?_)
  first
    | rw [if_neg (by decide)]
    | refine PySem.W.KFB.if_not (by decide) ?_
  rw [listSliceParts_eq]
  refine wpAny_bind (wpAny_bind (wpAny_field hos hds (x := .none) rfl (wpAny_bind (wpAny_listPart .none ?_))))
  rw [if_neg hstep]
  refine wpAny_bind (wpAny_field hos hds (x := vl) rfl (wpAny_bind (wpAny_listPart pl ?_)))
  refine wpAny_bind (wpAny_field hos hds (x := vu) rfl (wpAny_bind (wpAny_listPart pu (wpAny_pure ?_))))
  first
    | simp only [hsame, Bool.false_eq_true, if_false]
    | refine PySem.W.KFB.if_not hsame ?_
    | (dsimp only
       rw [if_neg (by rw [hsame]; exact Bool.false_ne_true)])
  refine wpAny_bind (m := Builtin.List.listAllItems (.ref b) "must assign iterable to extended slice") ?_
  unfold Builtin.List.listAllItems
  refine wpAny_bind (wpAny_typeOf hb.typeIs ?_)
  first
    | refine PySem.W.KFB.if_so (by decide) ?_
    | rw [if_pos (by decide)]
    | simp only [beq_self_eq_true, Bool.true_or, if_true]
  unfold Builtin.List.listItems
  refine wpAny_bind (wpAny_seqItems e2 rfl (wpAny_pure ?_))
  refine wpAny_bind (wpAny_bind (wpAny_seqItems e rfl (wpAny_pure ?_)))
  refine wpAny_bind (wpAny_of_eq ((sliceIndices_raw (some a) none none items.size (by simp)).trans (congrArg (pure : Int × Int × Int → Sem (Int × Int × Int)) (bounds_tail ha))) ?_)
  show wpAny _ _ (if ((1 : Int) == 1) = true then _ else _) _ _ s
  rw [if_pos (by decide)]
  refine wpAny_bind (wpAny_rule ?_)
  first
    | simp only [notLongL hsz, Bool.false_eq_true, if_false]
    | refine PySem.W.KFB.if_not (notLongL hsz) ?_
  first | refine wpAny_bind (wpAny_pure ?_) | skip
  show wpAny _ _ (updateSeq l (fun xs => xs.extract 0 (((tailAt items.size a : Nat) : Int)).toNat ++ new ++ xs.extract (max ((tailAt items.size a : Nat) : Int) (items.size : Int)).toNat xs.size) >>= _) _ _ s
  rw [hmax, Int.toNat_natCast]
  refine wpAny_bind (wpAny_updateSeq (hz := Nat.le_trans (Nat.le_add_right _ _) hsz) (_hz' := hz') e rfl ?_)
  refine wpAny_bind (wpAny_letGo ?_)
  first
    | exact wpAny_bind (wpAny_pure (wpAny_pure ⟨.none, rfl, wpAny_pure h⟩))
    | exact wpAny_pure ⟨.none, rfl, wpAny_pure h⟩
/-- which places a slice of step one takes -/
def selB (a n : Int) (j : Nat) : Bool := if (1 : Int) > 0 then (decide (a ≤ (j : Int)) && decide ((j : Int) < n) && (((j : Int) - a) % 1 == 0)) else (decide (n < (j : Int)) && decide ((j : Int) ≤ a) && ((a - (j : Int)) % (-1) == 0))
set_option maxRecDepth 100000 in
theorem delItem_tail {l sl : Addr} {items : Array Value} {n : Nat} {vl vu : Value} {a : Int} {Q : Unit → Shared → Prop}
    (e : s.heap.get? l = some { cls := .type "list", data := .seq items n })
    (hs : s.heap.IsSliceOf sl vl vu .none) (pl : IsPart vl (some a)) (pu : IsPart vu none) (ha : -(items.size : Int) ≤ a)
    (hsz : items.size ≤ sizeLine) (h : ∀ f : Array Value → Array Value, f items = (items.toList.take (tailAt items.size a)).toArray → Q () { s with heap := s.heap.update l (Obj.mapSeq f) }) :
    wpAny (model prog w) A (delItem (.ref l) (.ref sl)) Q E s := by
  have hl : s.heap.IsList l items := PySem.IsL.isList e
  obtain ⟨os, hos, hcs, hds⟩ := id hs
  have hTs : s.TypeIs (.ref sl) "slice" := ⟨os, hos, hcs⟩
  have hstep : ¬ ((rawPart none == rawInt 0) = true) := Bool.false_ne_true
  have hle : tailAt items.size a ≤ items.size := tailAt_le _ _ (by omega)
  refine wpAny_delItem_slot hl.typeIs (by decide) PySem.F.slot_list_delitem ?_
  refine wpAny_call_entry PySem.F.slot_list_delitem hl.typeIs PySem.F.entry_list_delitem ?_ (PySem.F.args_list_delitem_2 _ _)
  show wpAny _ _ (Builtin.List.listSubscript? (.ref sl) >>= _) _ _ s
  refine wpAny_bind ?_
  unfold Builtin.List.listSubscript?
  refine wpAny_bind (wpAny_specialOf hTs slice_no_index ?_)
  simp only [Option.isNone_none, if_true]
  refine wpAny_pure ?_
  show wpAny _ _ (typeOf (.ref sl) >>= _) _ _ s
  refine wpAny_bind (wpAny_typeOf hTs ?_)
  first
    | rw [if_neg (by decide)]
    | refine PySem.W.KFB.if_not (by decide) ?_
  rw [listSliceParts_eq]
  refine wpAny_bind (wpAny_bind (wpAny_field hos hds (x := .none) rfl (wpAny_bind (wpAny_listPart .none ?_))))
  rw [if_neg hstep]
  refine wpAny_bind (wpAny_field hos hds (x := vl) rfl (wpAny_bind (wpAny_listPart pl ?_)))
  refine wpAny_bind (wpAny_field hos hds (x := vu) rfl (wpAny_bind (wpAny_listPart pu (wpAny_pure ?_))))
  unfold Builtin.List.listItems
  refine wpAny_bind (wpAny_bind (wpAny_seqItems e rfl (wpAny_pure ?_)))
  refine wpAny_bind (wpAny_of_eq ((sliceIndices_raw (some a) none none items.size (by simp)).trans (congrArg (pure : Int × Int × Int → Sem (Int × Int × Int)) (bounds_tail ha))) ?_)
  dsimp only
  refine wpAny_bind (wpAny_rule ?_)
  have key : ∀ p : Nat → Bool, (∀ j, j < items.size → p j = decide (tailAt items.size a ≤ j)) → ((items.toList.zipIdx).filterMap (fun x => if p x.2 = true then none else some x.1)).toArray = (items.toList.take (tailAt items.size a)).toArray := fun p hp => by
    have := filter_tail p (tailAt items.size a) items.toList 0 fun j _ h2 => hp j (by rw [Nat.zero_add, Array.length_toList] at h2; exact h2)
    rw [this, Nat.sub_zero]
  have sel : ∀ j, j < items.size → selB ((tailAt items.size a : Nat) : Int) (items.size : Int) j = decide (tailAt items.size a ≤ j) := fun j hj => by
    unfold selB
    rw [if_pos (by decide), Int.emod_one]
    by_cases c : tailAt items.size a ≤ j
    · rw [decide_eq_true c, decide_eq_true (show ((tailAt items.size a : Nat) : Int) ≤ (j : Int) by omega), decide_eq_true (show (j : Int) < (items.size : Int) by omega)]
      rfl
    · rw [decide_eq_false c, decide_eq_false (show ¬ ((tailAt items.size a : Nat) : Int) ≤ (j : Int) by omega)]
      rfl
  refine wpAny_bind (m := Builtin.List.listUpdate (.ref l) _) ?_
  show wpAny _ _ (updateSeq l _) _ _ s
  refine wpAny_updateSeq (hz := hsz) (_hz' := ?_) e rfl ?_
  · refine wpAny_bind (wpAny_letGo ?_)
    have fin := h (fun xs => (xs.toList.zipIdx.filterMap fun x => if selB ((tailAt items.size a : Nat) : Int) (items.size : Int) x.2 = true then none else some x.1).toArray) (key _ sel)
    first
      | exact wpAny_pure ⟨.none, rfl, wpAny_pure fin⟩
      | exact wpAny_pure ⟨.none, rfl, fin⟩
      | exact wpAny_pure fin
  · have k := key _ sel
    refine Nat.le_trans (Nat.le_of_eq (congrArg Array.size k)) ?_
    rw [List.size_toArray, List.length_take]
    have : items.toList.length = items.size := Array.length_toList
    omega
end
end Og

namespace Og
open PySem PySem.Spec PyProof.Rows L2
def sSetTail (to ti tv : TE) : TS := fun D σ H => tv σ H fun y H1 => to σ H1 fun x H2 => ti σ H2 fun z H3 => ∃ (l b : Addr) (xs ys : List V) (a : Int), x = .ref l ∧ y = .ref b ∧ z = .int a ∧ H3 l = some (.lst xs) ∧ H3 b = some (.lst ys) ∧ l ≠ b ∧ -(xs.length : Int) ≤ a ∧ xs.length + ys.length ≤ sizeLine ∧
  D.nx σ (upd H3 l (.lst (xs.take (tailAt xs.length a) ++ ys)))
def sDelTail (to ti : TE) : TS := fun D σ H => to σ H fun x H1 => ti σ H1 fun z H2 => ∃ (l : Addr) (xs : List V) (a : Int), x = .ref l ∧ z = .int a ∧ H2 l = some (.lst xs) ∧ -(xs.length : Int) ≤ a ∧ xs.length ≤ sizeLine ∧ D.nx σ (upd H2 l (.lst (xs.take (tailAt xs.length a))))
section
variable {X : Cx} {o lo value : Expr} {to ti tv : TE} {sp pos' pos tpos : Pos}
theorem ps_setTail (ho : PE X o to) (hi : PE X lo ti) (hv : PE X value tv) (hs : swapsWith value (some (.Subscript o (.Slice (some lo) none none sp) pos')) pos.line X.env = pure false) :
    PS X (.Assign [.Subscript o (.Slice (some lo) none none sp) pos'] value pos) (sSetTail to ti tv) := by
  refine ⟨fun pins s σ H D I h => ?_⟩
  refine wpAny_Assign_Subscript (thn (hv.run pins s σ H _ I h) fun r s1 ⟨y, H1, I1, ry, q1⟩ => thn (ho.run pins s1 σ H1 _ I1 q1) fun u s2 ⟨x, H2, I2, rx, q2⟩ => ?_) hs
  refine wpAny_Slice ?_
  rw [evalPart_some]
  refine thn (hi.run pins s2 σ H2 _ I2 q2) fun vl s3 ⟨z, H3, I3, rz, l, b, xs, ys, a, ex, ey, ez, hl, hb, ne, ha, hz, q3⟩ => ?_
  subst ex ey ez
  obtain rfl : u = Value.ref l := rx
  obtain rfl : r = Value.ref b := ry
  obtain ⟨ta, rfl⟩ := (show ∃ t, vl = Value.int a t from rz)
  rw [evalPart_none]
  refine wpAny_pure (wpAny_pure ?_)
  have I4 : Inv X pins σ H3 { s3 with heap := s3.heap.push { cls := .type "slice", data := .fields #[.int a ta, .none, .none] } } := I3.kept (t' := s3.toks) fun b ob q => Heap.get?_push_of_some _ q
  obtain ⟨z1, its, n, r1, hl1, e1⟩ := I4.lstM hl
  obtain ⟨z2, its2, n2, r2, hl2, e2⟩ := I4.lstM hb
  have le := tailAt_le xs.length a (by omega)
  refine setItem_tail (a := a) e1 e2 ne (Heap.IsSliceOf.new ..) (.int _ _) .none (by rw [List.size_toArray]; omega) (by rw [List.size_toArray, List.size_toArray]; omega) ⟨σ, _, ?_, q3⟩
  refine I4.lset (its' := its.take (tailAt xs.length a) ++ its2) (t' := s3.toks) hl e1 ?_ (Vals.append (r1.take _) r2) ?_
  · have := tail_eq its its2 (tailAt xs.length a) (by omega)
    rw [List.size_toArray] at this ⊢
    rw [show its.length = xs.length by omega] at this ⊢
    exact this
  · rw [List.length_append, List.length_take]
    omega
theorem ps_delTail (ho : PE X o to) (hi : PE X lo ti) : PS X (.Delete [.Subscript o (.Slice (some lo) none none sp) tpos] pos) (sDelTail to ti) := by
  refine ⟨fun pins s σ H D I h => ?_⟩
  refine wpAny_Delete (wpAny_deleteEach_cons (wpAny_delete_Subscript (thn (ho.run pins s σ H _ I h) fun u s2 ⟨x, H2, I2, rx, q2⟩ => ?_)))
  refine wpAny_Slice ?_
  rw [evalPart_some]
  refine thn (hi.run pins s2 σ H2 _ I2 q2) fun vl s3 ⟨z, H3, I3, rz, l, xs, a, ex, ez, hl, ha, hz, q3⟩ => ?_
  subst ex ez
  obtain rfl : u = Value.ref l := rx
  obtain ⟨ta, rfl⟩ := (show ∃ t, vl = Value.int a t from rz)
  rw [evalPart_none]
  refine wpAny_pure (wpAny_pure ?_)
  have I4 : Inv X pins σ H3 { s3 with heap := s3.heap.push { cls := .type "slice", data := .fields #[.int a ta, .none, .none] } } := I3.kept (t' := s3.toks) fun b ob q => Heap.get?_push_of_some _ q
  obtain ⟨z1, its, n, r1, hl1, e1⟩ := I4.lstM hl
  have le := tailAt_le xs.length a (by omega)
  refine delItem_tail (a := a) e1 (Heap.IsSliceOf.new ..) (.int _ _) .none (by rw [List.size_toArray]; omega) (by rw [List.size_toArray]; omega) fun f hf => wpAny_deleteEach_nil ⟨σ, _, ?_, q3⟩
  refine I4.lset (its' := its.take (tailAt xs.length a)) (t' := s3.toks) hl e1 ?_ (r1.take _) ?_
  · rw [hf, List.size_toArray, show its.length = xs.length by omega]
  · rw [List.length_take]
    omega
end
end Og

namespace Og
open PySem PySem.Spec PyProof.Rows L2
/-! ### methods of tuples: a tuple that is known not to have a dict of its own -/
def FzT (H : Hp) (v : V) : Prop := ∃ (p : Addr) (o : Obj) (xs : List V), v = .ref p ∧ H p = some (.frz o (.tup xs)) ∧ o.dict = none
theorem FzT.kp {S : List Addr} {H H1 : Hp} {v : V} (k : Kp S H H1) (h : FzT H v) : FzT H1 v := by
  obtain ⟨p, o, xs, rfl, e, d⟩ := h
  rcases k p _ e with q | ⟨_, m, _⟩
  · exact ⟨p, o, xs, rfl, q, d⟩
  · exact absurd m mo_not_frz
def tBMT (r : V → List V → Hp → VK → Prop) (to : TE) (t : TA) : TE := fun σ H Q => to σ H fun x H1 => FzT H1 x ∧ t σ H1 fun xs H2 => r x xs H2 Q
theorem pe_bmT {X : Cx} {o e : Expr} {es : List Expr} {to : TE} {t : TA} {name : Str} {apos cpos : Pos} {id : String} {r : V → List V → Hp → VK → Prop} (pa : PlainAttrs "tuple") (slot : Slot "tuple" name id) (hty : typeOf (.builtin id) = pure (.type "method_descriptor")) (hm : MtR X id r) (ho : PE X o to) (ha : PA X (e :: es) t)
    (hbase : attributeBase o name X.env (eval o X.env) = eval o X.env := by rfl)
    (hfew : ((backTo cpos (starEach (e :: es) X.env)).all (fun x => !x.1) && (backToKw cpos (keywordEach [] X.env)).all (fun x => x.1.isSome)
      && decide ((e :: es).length + ([] : List Keyword).length + (if ([] : List Keyword).isEmpty then 0 else 1) < 30)) = true := by rfl)
    (hline : (apos.endLine == cpos.line) = true := by rfl) (hs : starEach (e :: es) X.env = (false, eval e X.env) :: starEach es X.env := by rfl) (hplain : (backTo cpos (starEach es X.env)).any (·.1) = false := by rfl) :
    PE X (.Call (.Attribute o name apos) (e :: es) [] cpos) (tBMT r to t) := by
  refine ⟨fun pins s σ H Q I h => ?_⟩
  refine wpAny_Call_method_late hbase hfew hline rfl (thn (ho.run pins s σ H _ I h) fun v s1 ⟨x, H1, I1, r1, ty, q1⟩ => ?_)
  obtain ⟨p, ob, xs, ex, ep, dn⟩ := ty
  subst ex
  obtain rfl : v = Value.ref p := r1
  obtain ⟨eo, _, its, _, oo, eo2, oc, _⟩ := I1.hok p _ ep
  refine ⟨"tuple", id, pa, slot, hty, ⟨oo, eo2, oc⟩, fun a z => ?_, ?_⟩
  · cases z
    exact ⟨ob, eo, dn⟩
  have hA := ha.run cpos pins s1 σ H1 _ I1 q1
  rw [hs] at hA ⊢
  refine Calls.callWith_builtin (by show (false || (backTo cpos (starEach es X.env)).any (·.1)) = false; rw [hplain] <;> rfl) (Calls.evalArgs_plain ?_)
  exact thn hA fun us s2 ⟨vs, H2, I2, r2, q2⟩ => hm pins s2 σ H2 (.ref p) vs (.ref p) us Q I2 rfl r2 q2
end Og

namespace Og
open PySem PySem.Spec PyProof.Rows L2
/-! ### a tuple made and pinned -/
def tTupF (t : TA) : TE := fun σ H Q => t σ H fun xs H1 => xs.length ≤ sizeLine ∧ ∀ (p : Addr) (o : Obj), H1 p = none → o.dict = none → Q (.ref p) (upd H1 p (.frz o (.tup xs)))
theorem pe_tupF {X : Cx} {es : List Expr} {t : TA} {x1 : Nat} {pos : Pos} (h : PA X es t) : PE X (.Tuple es x1 pos) (tTupF t) := by
  refine ⟨fun pins s σ H Q I hq => ?_⟩
  refine wpAny_Tuple_spliced (thn (h.run pos pins s σ H _ I hq) fun us s1 ⟨xs, H1, I1, r, z, q⟩ => ⟨by rw [← r.length]; exact z, ?_⟩)
  have hf : H1 s1.heap.objs.size = none := I1.hok.fresh (Nat.le_refl _)
  refine ⟨.ref s1.heap.objs.size, upd H1 s1.heap.objs.size (.frz { cls := .type "tuple", data := .seq us.toArray } (.tup xs)), I1.laid (t' := s1.toks) (fun b u e => Heap.get?_push_of_some _ e) (Nat.le_refl _) ?_, rfl, q _ _ hf rfl⟩
  exact ⟨Heap.get?_push_size _ rfl, z, us, r, ⟨_, Heap.get?_push_size _ rfl, rfl, _, rfl⟩⟩
/-! ### what a value reads as, by what is tracked -/
mutual
inductive VR (K : PySem.W.Frag) (H : Hp) : V → PyData → Prop
  | str (x : Str) : VR K H (.str x) (.str x)
  | int (i : Int) : VR K H (.int i) (.int i)
  | non : VR K H .non .none
  | tup {a : Addr} {xs : List V} {ds : List PyData} (h : SqT K H a xs) (r : VRs K H xs ds) : VR K H (.ref a) (.tuple ds)
  | lst {a : Addr} {xs : List V} {ds : List PyData} (h : SqL K H a xs) (r : VRs K H xs ds) : VR K H (.ref a) (.list ds)
inductive VRs (K : PySem.W.Frag) (H : Hp) : List V → List PyData → Prop
  | nil : VRs K H [] []
  | cons {v : V} {vs : List V} {d : PyData} {ds : List PyData} (h : VR K H v d) (r : VRs K H vs ds) : VRs K H (v :: vs) (d :: ds)
end
mutual
theorem VR.reads {X : Cx} {pins : List (Addr × Obj)} {σ : L2.St} {H : Hp} {s : Shared} (I : Inv X pins σ H s) : ∀ {x : V} {d : PyData} {v : Value}, VR X.K H x d → RelV x v → ∃ as, Reads s.heap v d as
  | _, _, _, .str x, r => by
    obtain ⟨t, rfl⟩ := r
    exact ⟨_, .str x t⟩
  | _, _, _, .int i, r => by
    obtain ⟨t, rfl⟩ := r
    exact ⟨_, .int i t⟩
  | _, _, _, .non, r => by
    obtain rfl := r
    exact ⟨_, .none⟩
  | _, _, _, .tup h r, e => by
    obtain ⟨its, rv, ⟨o, eo, oc, n, od⟩, _⟩ := I.tuple h
    cases e
    obtain ⟨as, ra⟩ := VRs.reads I r rv
    exact ⟨as, .tuple eo oc od ra⟩
  | _, _, _, .lst h r, e => by
    obtain ⟨its, rv, ⟨o, n, eo, oc, od, os⟩, _⟩ := I.list h
    cases e
    obtain ⟨as, ra⟩ := VRs.reads I r rv
    exact ⟨_, .list eo oc os ra⟩
theorem VRs.reads {X : Cx} {pins : List (Addr × Obj)} {σ : L2.St} {H : Hp} {s : Shared} (I : Inv X pins σ H s) : ∀ {xs : List V} {ds : List PyData} {vs : List Value}, VRs X.K H xs ds → Vals xs vs → ∃ as, ReadsAll s.heap vs ds as
  | _, _, _, .nil, .nil => ⟨_, .nil⟩
  | _, _, _, .cons h r, .cons e ev => by
    obtain ⟨as, ra⟩ := VR.reads I h e
    obtain ⟨bs, rb⟩ := VRs.reads I r ev
    exact ⟨_, .cons ra rb⟩
end
def rRepr (K : PySem.W.Frag) : List V → Hp → VK → Prop := fun xs H Q => ∃ (p : Addr) (d : PyData), xs = [.ref p] ∧ VR K H (.ref p) d ∧ d.showable = true ∧ d.hasDict = false ∧ d.depth ≤ 250 ∧ d.shown.length ≤ sizeLine ∧ Q (.str d.shown) H
theorem call_repr {X : Cx} (hg : X.A.guards = some []) (hu : X.A.units + 256 < cLine) : CallR X (.builtin "repr") (rRepr X.K) := by
  intro pins s σ H xs us Q I r h
  obtain ⟨p, d, rfl, vr, hs, hd, dp, hz, q⟩ := h
  obtain ⟨u, rfl, ru⟩ := Vals.one r
  cases ru
  obtain ⟨as, ra⟩ := vr.reads I (v := .ref p) rfl
  exact repr_of_reads' ra hs (fun z => by rw [hd] at z; cases z) hg (by omega) (fun _ _ e => e) (fun h' u tk hk => ⟨.str d.shown, H, I.kept (t' := tk) hk, ⟨_, rfl⟩, q⟩) hz
end Og

namespace Og
open PySem PySem.Spec PyProof.Rows L2
/-! ### the machine's theory alone, for laws without run_program -/
theorem pr_imp {α β : Type} {R R' : α → β → Prop} (f : ∀ a b, R a b → R' a b) : ∀ {as : List α} {bs : List β}, Paired R as bs → Paired R' as bs
  | _, _, .nil => .nil
  | _, _, .cons h r => .cons (f _ _ h) (pr_imp f r)
def wsT (ps : List (List Nat)) : Tree := .l (ps.map Tree.w)
inductive GX (C : Cx0) (ps : List (List Nat)) : Tree → Prop
  | w {x : List Nat} {j : Nat} (hj : AtIx ps x j) : GX C ps (.w x)
  | q {v : Tree} : GX C ps (.l [.w qw, v])
  | iff {t y z : Tree} (ht : GX C ps t) (hy : GX C ps y) (hz : GX C ps z) : GX C ps (.l [.w ifW, t, y, z])
  | op {x : List Nat} {ts : List Tree} (n1 : x ≠ qw) (n2 : x ≠ ifW) (ok : OpOk C x ts.length) (hs : ∀ t ∈ ts, GX C ps t) : GX C ps (.l (.w x :: ts))
theorem pr_unsnocR {α β : Type} {R : α → β → Prop} : ∀ {as : List α} {bs : List β} {b : β}, Paired R as (bs ++ [b]) → ∃ as' a, as = as' ++ [a] ∧ Paired R as' bs ∧ R a b
  | _, [], b, h => by
    cases h with
    | cons h r =>
      cases r with
      | nil => exact ⟨[], _, rfl, .nil, h⟩
  | _, x :: bs, b, h => by
    cases h with
    | cons h r =>
      obtain ⟨as', a, e, r1, r2⟩ := pr_unsnocR r
      exact ⟨_ :: as', a, by rw [e]; rfl, .cons h r1, r2⟩
theorem pr_at {α β : Type} {R : α → β → Prop} : ∀ {as : List α} {bs : List β} {i : Nat} {a : α}, Paired R as bs → as[i]? = some a → ∃ b, bs[i]? = some b ∧ R a b
  | _, _, 0, _, .cons h r, e => by
    rw [List.getElem?_cons_zero] at e
    rw [← Option.some.inj e]
    exact ⟨_, rfl, h⟩
  | _, _, i + 1, _, .cons h r, e => by
    rw [List.getElem?_cons_succ] at e
    obtain ⟨b, e1, e2⟩ := pr_at r e
    exact ⟨b, by rw [List.getElem?_cons_succ]; exact e1, e2⟩
def fnTree (f : Fn0) : Tree := .l [.w f.1, wsT f.2.1, f.2.2]
theorem fnOf_at : ∀ {L : List Fn0} {x : List Nat} {ps : List (List Nat)} {b : Tree}, fnOf L x = some (ps, b) → L[(L.map (·.1)).idxOf x]? = some (x, ps, b)
  | [], _, _, _, h => by cases h
  | f :: L, x, ps, b, h => by
    unfold fnOf at h
    rw [List.find?_cons] at h
    by_cases c : f.1 = x
    · rw [decide_eq_true c] at h
      have e : f.2 = (ps, b) := Option.some.inj h
      rw [List.map_cons, List.idxOf_cons, c, beq_self_eq_true]
      show some f = _
      rw [← c, ← e]
    · rw [decide_eq_false c] at h
      have := fnOf_at (L := L) (x := x) (ps := ps) (b := b) h
      rw [List.map_cons, List.idxOf_cons, beq_false_of_ne c]
      exact this
theorem turn_steps {L : List Fn0} {m m' : MS} (h : turn L m = some m') : m.steps ≤ m'.steps := by
  unfold turn at h
  split at h <;> (try (repeat' (split at h))) <;> first | (cases h; done) | (cases h; exact Nat.le_refl _) | (cases h; exact Nat.le_succ _) | (cases h; simp_all)
theorem turns_steps {L : List Fn0} : ∀ {k : Nat} {m m' : MS}, turns L k m = some m' → m.steps ≤ m'.steps
  | 0, m, m', h => by
    cases h
    exact Nat.le_refl _
  | k + 1, m, m', h => by
    have h' : (turn L m).bind (turns L k) = some m' := h
    cases e : turn L m with
    | none => rw [e] at h'; cases h'
    | some m1 =>
      rw [e] at h'
      exact Nat.le_trans (turn_steps e) (turns_steps h')
theorem turn_end {L : List Fn0} {fd : List Tree} {n : Nat} : turn L ⟨[], fd, n⟩ = none := by unfold turn; rfl
theorem ev_more {L : List Fn0} {t : Tree} {e : Env} {td : List Task} {fd : List Tree} {n : Nat} {m : MS} (h : turn L ⟨.ev t e :: td, fd, n⟩ = some m) : m.steps = n + 1 := by
  unfold turn at h
  split at h <;> (try (repeat' (split at h))) <;> first | (cases h; done) | (cases h; rfl) | (cases h; simp_all)
theorem inr_inj {a b : List Nat} (h : (Sum.inr (tx a) : Key) = .inr (tx b)) : a = b := tx_inj (Sum.inr.inj h)
end Og

namespace Og
open PySem PySem.Spec PyProof.Rows L2
/-! ### what an expression is worth, and in how many steps -/
open Classical in
mutual
inductive Big (L : List Fn0) : Tree → Env → Tree → Nat → Prop
  | w {x : List Nat} {e : Env} {v : Tree} (h : look e x = some v) : Big L (.w x) e v 1
  | q {v : Tree} {e : Env} : Big L (.l [.w qw, v]) e v 1
  | iff {t a b c v : Tree} {e : Env} {n1 n2 : Nat} (h1 : Big L t e c n1) (h2 : Big L (if c = .l [] then b else a) e v n2) : Big L (.l [.w ifW, t, a, b]) e v (1 + n1 + n2)
  | one {x : List Nat} {t l : Tree} {e : Env} {n : Nat} (m : x ∈ [wordW, headW, tailW]) (h : Big L t e l n) : Big L (.l [.w x, t]) e (prim1 x l) (1 + n)
  | two {x : List Nat} {t1 t2 f l : Tree} {e : Env} {n1 n2 : Nat} (m : x ∈ [sameW, joinW]) (h1 : Big L t1 e f n1) (h2 : Big L t2 e l n2) : Big L (.l [.w x, t1, t2]) e (prim2 x f l) (1 + n1 + n2)
  | call {x : List Nat} {ts vs : List Tree} {ps : List (List Nat)} {b v : Tree} {e : Env} {n m : Nat} (sp : spAr x = none) (hf : fnOf L x = some (ps, b)) (hl : ps.length = ts.length) (hs : Bigs L ts e vs n) (hb : Big L b (ps.zip vs) v m) : Big L (.l (.w x :: ts)) e v (1 + n + m)
inductive Bigs (L : List Fn0) : List Tree → Env → List Tree → Nat → Prop
  | nil {e : Env} : Bigs L [] e [] 0
  | cons {t v : Tree} {ts vs : List Tree} {e : Env} {n m : Nat} (h : Big L t e v n) (r : Bigs L ts e vs m) : Bigs L (t :: ts) e (v :: vs) (n + m)
end
theorem turns_add {L : List Fn0} : ∀ {j i : Nat} {m m1 m2 : MS}, turns L j m = some m1 → turns L i m1 = some m2 → turns L (j + i) m = some m2
  | 0, i, m, m1, m2, h, g => by
    cases h
    rw [Nat.zero_add]
    exact g
  | j + 1, i, m, m1, m2, h, g => by
    have h' : (turn L m).bind (turns L j) = some m1 := h
    cases e : turn L m with
    | none => rw [e] at h'; cases h'
    | some m3 =>
      rw [e] at h'
      have := turns_add (L := L) h' g
      rw [show j + 1 + i = (j + i) + 1 by omega]
      show (turn L m).bind (turns L (j + i)) = _
      rw [e]
      exact this
theorem turns_one {L : List Fn0} {m m1 : MS} (h : turn L m = some m1) : turns L 1 m = some m1 := by
  show (turn L m).bind (turns L 0) = _
  rw [h]
  rfl
theorem Bigs.length {L : List Fn0} : ∀ {ts : List Tree} {e : Env} {vs : List Tree} {n : Nat}, Bigs L ts e vs n → vs.length = ts.length
  | _, _, _, _, .nil => rfl
  | _, _, _, _, .cons _ r => congrArg (· + 1) (Bigs.length r)
theorem ms_eq {td : List Task} {fd : List Tree} {a b : Nat} (h : a = b) : some (MS.mk td fd a) = some (MS.mk td fd b) := by rw [h]
mutual
theorem Big.turns {L : List Fn0} : ∀ {t : Tree} {e : Env} {v : Tree} {n : Nat}, Big L t e v n → ∀ (td : List Task) (fd : List Tree) (s : Nat), ∃ k, Og.turns L k ⟨.ev t e :: td, fd, s⟩ = some ⟨td, v :: fd, s + n⟩
  | _, _, _, _, .w h, td, fd, s => ⟨1, turns_one (turn_word h)⟩
  | _, _, _, _, .q, td, fd, s => ⟨1, turns_one turn_quote⟩
  | _, _, _, _, .iff (n1 := n1) (n2 := n2) h1 h2, td, fd, s => by
    obtain ⟨k1, e1⟩ := Big.turns h1 (_ :: td) fd (s + 1)
    obtain ⟨k2, e2⟩ := Big.turns h2 td fd (s + 1 + n1)
    refine ⟨1 + (k1 + (1 + k2)), turns_add (turns_one turn_if) (turns_add e1 (turns_add (turns_one ?_) (e2.trans (ms_eq (by omega)))))⟩
    exact turn_pick
  | _, _, _, _, .one (x := x) (n := n) m h, td, fd, s => by
    obtain ⟨k1, e1⟩ := Big.turns h (.prim x :: td) fd (s + 1)
    have n1 : x ≠ qw := by intro z; rw [z] at m; revert m; decide
    have n2 : x ≠ ifW := by intro z; rw [z] at m; revert m; decide
    have m2 : opTask x = .prim x := by
      unfold opTask
      rw [if_pos (by
        simp only [List.mem_cons, List.not_mem_nil, or_false] at m ⊢
        rcases m with h | h | h <;> simp [h])]
    refine ⟨1 + (k1 + 1), turns_add (turns_one ((turn_op n1 n2).trans (by rw [m2]; rfl))) (turns_add e1 (turns_one ((turn_p1 m).trans (ms_eq (by omega)))))⟩
  | _, _, _, _, .two (x := x) (n1 := n1) (n2 := n2) m h1 h2, td, fd, s => by
    obtain ⟨k1, e1⟩ := Big.turns h1 (_ :: .prim x :: td) fd (s + 1)
    obtain ⟨k2, e2⟩ := Big.turns h2 (.prim x :: td) (_ :: fd) (s + 1 + n1)
    have q1 : x ≠ qw := by intro z; rw [z] at m; revert m; decide
    have q2 : x ≠ ifW := by intro z; rw [z] at m; revert m; decide
    have m2 : opTask x = .prim x := by
      unfold opTask
      rw [if_pos (by
        simp only [List.mem_cons, List.not_mem_nil, or_false] at m ⊢
        rcases m with h | h <;> simp [h])]
    refine ⟨1 + (k1 + (k2 + 1)), turns_add (turns_one ((turn_op q1 q2).trans (by rw [m2]; rfl))) (turns_add e1 (turns_add e2 (turns_one ((turn_p2 m).trans (ms_eq (by omega))))))⟩
  | _, _, _, _, .call (x := x) (ts := ts) (vs := vs) (ps := ps) (b := bd) (e := e) (n := n) (m := m) sp hf hl hs hb, td, fd, s => by
    obtain ⟨k1, e1⟩ := Bigs.turns hs (.call x :: td) fd (s + 1)
    obtain ⟨k2, e2⟩ := Big.turns hb td fd (s + 1 + n)
    have lv := hs.length
    have q1 : x ≠ qw := by intro z; rw [z] at sp; revert sp; decide
    have q2 : x ≠ ifW := by intro z; rw [z] at sp; revert sp; decide
    have m2 : opTask x = .call x := by
      unfold opTask
      rw [if_neg (by
        intro q
        simp only [List.mem_cons, List.not_mem_nil, or_false] at q
        rcases q with q | q | q | q | q <;> rw [q] at sp <;> revert sp <;> decide)]
    have tc : turn L ⟨.call x :: td, vs.reverse ++ fd, s + 1 + n⟩ = some ⟨.ev bd (ps.zip vs) :: td, fd, s + 1 + n⟩ := by
      have lr : ps.length = vs.reverse.length := by rw [List.length_reverse, lv, hl]
      have := turn_call (L := L) (td := td) (fd := vs.reverse ++ fd) (n := s + 1 + n) hf (by rw [List.length_append]; omega)
      rw [this, lr, List.take_left' rfl, List.drop_left' rfl, List.reverse_reverse]
    exact ⟨1 + (k1 + (1 + k2)), turns_add (turns_one ((turn_op q1 q2).trans (by rw [m2]))) (turns_add e1 (turns_add (turns_one tc) (e2.trans (ms_eq (by omega)))))⟩
theorem Bigs.turns {L : List Fn0} : ∀ {ts : List Tree} {e : Env} {vs : List Tree} {n : Nat}, Bigs L ts e vs n → ∀ (td : List Task) (fd : List Tree) (s : Nat), ∃ k, Og.turns L k ⟨ts.map (fun t => Task.ev t e) ++ td, fd, s⟩ = some ⟨td, vs.reverse ++ fd, s + n⟩
  | _, _, _, _, .nil, td, fd, s => ⟨0, rfl⟩
  | _, _, _, _, .cons (n := n) (m := m) h r, td, fd, s => by
    obtain ⟨k1, e1⟩ := Big.turns h (_ ++ td) fd s
    obtain ⟨k2, e2⟩ := Bigs.turns r td (_ :: fd) (s + n)
    refine ⟨k1 + k2, turns_add e1 (e2.trans ?_)⟩
    rw [List.reverse_cons, List.append_assoc]
    exact ms_eq (by omega)
end
end Og

namespace Og
open PySem PySem.Spec PyProof.Rows L2
/-! ### _law_value, _law_expression -/
def MV : Nat → Nat
  | 0 => 1
  | n + 1 => 1 + 3 * MV n
theorem MV.pos (n : Nat) : 1 ≤ MV n := by
  cases n with
  | zero => exact Nat.le_refl _
  | succ n => show 1 ≤ 1 + 3 * MV n; omega
def vwords : List (List Nat) := [[121, 101, 115], [97], [113, 117, 111, 116, 101], [102, 48], [98, 50], [100, 111, 110, 101], [115, 112, 105, 110], [120]]
section
variable {P : Program} {w : World} {K : PySem.W.Frag} {mg : Str → Option Value} {base : Heap}
def spVal (K : PySem.W.Frag) (n : Nat) : Sp := fun vs H Q _ => ∃ (h d : Addr), vs = [.ref h, .int n] ∧ Hd H h d ∧
  ∀ (v : V) (t : Tree) (H' : Hp), Tr K H' v t → WT t → t.size ≤ MV n → Deep n t → Keep [h] H H' → Hd H' h d → Q v H'
theorem has_val {k : Nat} (D : DefAt K mg "_law_value" s_law_value p_law_value) (B : Bn mg) (c1 : Has P w K mg base k "_law_take" p_law_take spTake) : ∀ n, Has P w K mg base (k + n + 1) "_law_value" p_law_value (spVal K n) := by
  obtain ⟨f, fd, F, hm, hb⟩ := D.ex
  have step : ∀ n sp, Callee P w K mg base CX0 (k + n) "_law_value" f fd p_law_value sp → (∀ m, n = m + 1 → ∀ vs H Q E, spVal K m vs H Q E → sp vs H Q E) → FnOk P w K mg base CX0 (k + n + 1) f fd p_law_value (spVal K n) := fun n sp c_law_value hsp => by
    obtain ⟨_, _, c_law_take⟩ := c1.mono (show k ≤ k + n by omega)
    refine F.ok sc_law_value (fun vs H Q E h => ?_) (fun cdv A outer s H vs Q E hr h => ?_)
    · obtain ⟨_, _, rfl, _⟩ := h
      rfl
    obtain ⟨a, d, rfl, hd, q⟩ := h
    refine ⟨_, (pss_cons (ps_if (PW.pt (pw_or (pt_cmpR op_eq (pv 1) pe_int (nomark _)) (pw_or1 (pt_cmpR op_eq (cal c_law_take hr rfl (pa_cons (pv 0) (pa_cons pe_int pa_nil))) pe_int (nomark _))))) (pss_one (ps_ret (pe_ix ix_list (pe_lst (pa_cons pe_str (pa_cons pe_str (pa_cons pe_str (pa_cons pe_str (pa_cons pe_str (pa_cons pe_str (pa_cons pe_str (pa_cons pe_str pa_nil))))))))) (cal c_law_take hr rfl (pa_cons (pv 0) (pa_cons pe_int pa_nil))) (fun _ _ => rfl)))) pss_nil)
    (pss_one (ps_ret (pe_callTy call_tuple_of (by rfl) B.tuple (by decide +kernel) (pa_cons (pe_lc (own := [("k", 2)]) (g := gName 2) (tt := tYes) rfl sc_law_value.nd (pi_range1 (by rfl) B.range (pa_cons (cal c_law_take hr rfl (pa_cons (pv 0) (pa_cons pe_int pa_nil))) pa_nil)) (blkOk_by (N := n_law_value) (sc := defScope s_law_value) (by decide +kernel)) (fun _ _ _ _ _ => pg_name (i := 2) sc_law_value.nd rfl (Or.inl rfl)) (fun _ _ _ _ _ => pts_nil) (fun _ _ _ _ _ => (cal c_law_value hr rfl (pa_cons (pv 0) (pa_cons (pe_op op_sub (pv 1) pe_int) pa_nil))))) pa_nil))))), ?_⟩
    have word : ∀ (p : Addr) (H1 : Hp), Keep [a] H H1 → Hd H1 a d → H1 p = none → spTake [.ref a, .int 8] (upd H1 p (.lst [.str "yes", .str "a", .str "quote", .str "f0", .str "b2", .str "done", .str "spin", .str "x"])) (fun y H2 => rIxL K (.ref p) y H2 Q) E0 := fun p H1 k1 hd1 np => by
      refine ⟨a, d, 8, rfl, hd1.new np, by decide, fun j H2 j0 j1 k2 hd2 => ?_⟩
      have pa : p ≠ a := (hd1.neH np).symm
      obtain ⟨c, hc, wc, _⟩ := pick (L := vwords) (xs := [.str "yes", .str "a", .str "quote", .str "f0", .str "b2", .str "done", .str "spin", .str "x"]) (by decide +kernel) (by decide) j0 j1
      refine ⟨p, _, j, _, rfl, rfl, SqL.of (k2.get upd_same (by simpa using pa)), hc, ?_⟩
      exact q _ _ H2 tr_w (wt_w wc) (by rw [size_w]; exact MV.pos n) (deep_w _ _) ((k1.trans (Keep.new np)).trans k2) hd2
    refine ⟨_, rfl, rfl, _, rfl, ?_⟩
    cases n with
    | zero => exact iteT (iteT ⟨by show (8 : Nat) ≤ sizeLine; decide, fun p np => ⟨_, rfl, word p H Keep.refl hd np⟩⟩)
    | succ m =>
      rw [dF (by omega)]
      refine iteF ?_
      refine ⟨_, rfl, a, d, 3, rfl, hd, by decide, fun i H1 i0 i1 k1 hd1 => ?_⟩
      refine ⟨rfl, _, rfl, ite2 (fun c => ?_) (fun c => ?_)⟩
      · exact ⟨by show (8 : Nat) ≤ sizeLine; decide, fun p np => ⟨_, rfl, word p H1 k1 hd1 np⟩⟩
      refine ⟨_, rfl, a, d, 4, rfl, hd1, by decide, fun z H2 z0 z1 k2 hd2 => ?_⟩
      refine ⟨_, rfl, by omega, by omega, fun L nL => ?_⟩
      have La : L ≠ a := (hd2.neH nL).symm
      have Ld : L ≠ d := (hd2.neD nL).symm
      have k12 := k1.trans k2
      have nL0 : H L = none := k12.free nL
      refine lc_range (lo := 0) (n := z.toNat) (fun i H' => ∃ vs ts, H' L = some (.lst vs) ∧ Trs K H' vs ts ∧ ts.length = i ∧ (∀ t ∈ ts, WT t ∧ t.size ≤ MV m ∧ Deep m t) ∧ Keep [a] H H' ∧ Hd H' a d)
        ⟨[], [], upd_same, trs_nil, rfl, by simp, k12.newT nL, hd2.new nL⟩ (fun i H5 hi p => ?_) (fun H5 p => ?_)
      · obtain ⟨vs, ts, e1, e2, e3, e4, k6, hd5⟩ := p
        refine ⟨rfl, yes ?_⟩
        refine ⟨_, rfl, _, rfl, _, _, rfl, rfl, hsp m rfl _ _ _ _ ⟨a, d, ?_, hd5, fun v t H6 tv wt sz dp k7 hd6 => ?_⟩⟩
        · show [V.ref a, V.int ((((m + 1 : Nat)) : Int) - 1)] = [V.ref a, V.int (m : Int)]
          rw [show (((m + 1 : Nat)) : Int) - 1 = (m : Int) by omega]
        have e1' : H6 L = some (.lst vs) := k7.get e1 (by simpa using La)
        have k8 : Keep [L] H6 (upd H6 L (.lst (vs ++ [v]))) := Keep.set e1' (List.mem_cons_self ..)
        refine ⟨vs, e1', ?_, vs ++ [v], ts ++ [t], upd_same, (e2.keep k7 |>.append (trs_cons tv trs_nil)).keep k8, by rw [List.length_append, e3]; rfl, ?_, ((k6.trans k7).cons.trans (k8.mono (by simp))).drop nL0, hd6.upd La.symm Ld.symm⟩
        · rw [e2.length]
          exact sizeLt (by omega)
        · intro u hu
          rcases List.mem_append.mp hu with m | m
          · exact e4 u m
          · rw [List.mem_singleton.mp m]
            exact ⟨wt, sz, dp⟩
      · obtain ⟨vs, ts, e1, e2, e3, e4, k6, hd5⟩ := p
        refine ⟨L, vs, rfl, .inl ⟨SqL.of e1, fun T nT => ?_⟩⟩
        refine q _ (.l ts) _ (tr_tup upd_same (e2.keep (Keep.new (S := []) nT))) (wt_l (WTs.of fun t m => (e4 t m).1)) ?_ (fun t m => (e4 t m).2.2) (k6.newT nT) (hd5.new nT)
        rw [size_l]
        have h1 := sizes_le fun t m => (e4 t m).2.1
        have l : ts.length ≤ 3 := by omega
        have h2 := Nat.mul_le_mul_right (MV m) l
        show _ ≤ 1 + 3 * MV m
        omega
  have all : ∀ n, FnOk P w K mg base CX0 (k + n + 1) f fd p_law_value (spVal K n) := fun n => by
    induction n with
    | zero => exact step 0 (fun _ _ _ _ => False) ⟨⟨fun _ _ _ _ h => h.elim, fun _ _ _ _ _ _ _ _ _ _ _ _ _ h => h.elim⟩, hm, F.kp, hb⟩ fun m e => by cases e
    | succ m ih => exact step (m + 1) (spVal K m) ⟨ih, hm, F.kp, hb⟩ fun m' e vs H Q E q => by cases e; exact q
  exact fun n => ⟨f, fd, all n, hm, F.kp, hb⟩
end
end Og

namespace Og
open PySem PySem.Spec PyProof.Rows L2
/-- what may be called, with how many parts -/
abbrev Cs := List (List Nat × Nat)
def CallOk (fs : List Tree) (c : List Nat × Nat) : Prop := parts fs c.1 = some c.2
/-- a good expression of a function with these parameters, in each program that holds what is called -/
def GoodIn (cs : Cs) (ps : List Tree) (t : Tree) : Prop := ∀ fs, (∀ c ∈ cs, CallOk fs c) → GoodE fs ps t
theorem good_word {cs : Cs} {ps : List Tree} {t : Tree} (m : t ∈ ps) (iw : t.isW = true) : GoodIn cs ps t := fun fs _ => by
  cases t with
  | l us => cases iw
  | w x => rw [goodE_w]; exact m
theorem good_quote {cs : Cs} {ps : List Tree} {t : Tree} : GoodIn cs ps (.l [.w qw, t]) := fun fs _ => goodE_l.mpr ⟨⟨qw, [t], rfl, by unfold parts; rw [show spAr qw = some 1 by decide +kernel]; rfl⟩, .inl rfl⟩
theorem good_sp {cs : Cs} {ps ts : List Tree} {x : List Nat} (h : spAr x = some ts.length) (all : ∀ t ∈ ts, GoodIn cs ps t) : GoodIn cs ps (.l (.w x :: ts)) := fun fs hc => goodE_l.mpr ⟨⟨x, ts, rfl, by unfold parts; rw [h]⟩, .inr fun t m => all t m fs hc⟩
theorem good_call {cs : Cs} {ps ts : List Tree} {x : List Nat} (h : (x, ts.length) ∈ cs) (all : ∀ t ∈ ts, GoodIn cs ps t) : GoodIn cs ps (.l (.w x :: ts)) := fun fs hc => goodE_l.mpr ⟨⟨x, ts, rfl, hc _ h⟩, .inr fun t m => all t m fs hc⟩
theorem gall2 {cs : Cs} {ps : List Tree} {a b : Tree} (h : GoodIn cs ps a) (k : GoodIn cs ps b) : ∀ t ∈ [a, b], GoodIn cs ps t := fun t m => by
  rcases List.mem_cons.mp m with e | m
  · rw [e]; exact h
  · rw [List.mem_singleton.mp m]; exact k
theorem GoodIn.mono {cs ds : Cs} {ps : List Tree} {t : Tree} (h : GoodIn cs ps t) (l : ∀ c ∈ cs, c ∈ ds) : GoodIn ds ps t := fun fs hc => h fs fun c m => hc c (l c m)
/-- the calls that an expression may hold -/
def Cls (H : Hp) (cl : Addr) (cs : Cs) : Prop := ∃ cvs : List V, H cl = some (.lst cvs) ∧ cvs.length ≤ 10 ∧ ∀ c ∈ cvs, ∃ (a : Addr) (nm : List Nat) (m : Nat), c = .ref a ∧ H a = some (.tup [.str (tx nm), .int m]) ∧ IsWord nm ∧ m ≤ 4 ∧ (nm, m) ∈ cs
theorem Cls.keep {S : List Addr} {H H1 : Hp} {cl : Addr} {cs : Cs} (h : Cls H cl cs) (k : Keep S H H1) (n : cl ∉ S) : Cls H1 cl cs := by
  obtain ⟨cvs, e, l, q⟩ := h
  refine ⟨cvs, k.get e n, l, fun c m => ?_⟩
  obtain ⟨a, nm, j, e1, e2, e3, e4⟩ := q c m
  exact ⟨a, nm, j, e1, k.tup e2, e3, e4⟩
end Og

namespace Og
open PySem PySem.Spec PyProof.Rows L2
def ME : Nat → Nat
  | 0 => 15
  | n + 1 => 2 + 4 * ME n
theorem ME.ge (n : Nat) : 15 ≤ ME n := by
  cases n with
  | zero => exact Nat.le_refl _
  | succ n => have := ME.ge n; show 15 ≤ 2 + 4 * ME n; omega
section
variable {P : Program} {w : World} {K : PySem.W.Frag} {mg : Str → Option Value} {base : Heap}
def spExpr (K : PySem.W.Frag) (n : Nat) : Sp := fun vs H Q _ => ∃ (h d cl : Addr) (pv : V) (ps : List Tree) (cs : Cs), vs = [.ref h, pv, .ref cl, .int n] ∧ Hd H h d ∧ Tr K H pv (.l ps) ∧ (∀ t ∈ ps, t.isW = true) ∧ WTs ps ∧ ps.length ≤ 1000 ∧ Cls H cl cs ∧ cl ≠ h ∧
  ∀ (v : V) (t : Tree) (H' : Hp), Tr K H' v t → WT t → t.size ≤ ME n → Deep (n + 3) t → GoodIn cs ps t → Keep [h] H H' → Hd H' h d → Q v H'
theorem has_expr {k : Nat} (D : DefAt K mg "_law_expression" s_law_expression p_law_expression) (B : Bn mg) (c1 : Has P w K mg base k "_law_take" p_law_take spTake) (c2 : Has P w K mg base k "_law_value" p_law_value (spVal K 2)) : ∃ f fd, ∀ n, Callee P w K mg base CX0 (k + n + 1) "_law_expression" f fd p_law_expression (spExpr K n) := by
  obtain ⟨f, fd, F, hm, hb⟩ := D.ex
  have step : ∀ n sp, Callee P w K mg base CX0 (k + n) "_law_expression" f fd p_law_expression sp → (∀ m, n = m + 1 → ∀ vs H Q E, spExpr K m vs H Q E → sp vs H Q E) → FnOk P w K mg base CX0 (k + n + 1) f fd p_law_expression (spExpr K n) := fun n sp c_law_expression hsp => by
    obtain ⟨_, _, c_law_take⟩ := c1.mono (show k ≤ k + n by omega)
    obtain ⟨_, _, c_law_value⟩ := c2.mono (show k ≤ k + n by omega)
    refine F.ok sc_law_expression (fun vs H Q E h => ?_) (fun cdv A outer s H vs Q E hr h => ?_)
    · obtain ⟨_, _, _, _, _, _, rfl, _⟩ := h
      rfl
    obtain ⟨a, d, cl, pv0, ps, cs, rfl, hd, tp, pw, wp, lps, cls, cla, q⟩ := h
    refine ⟨_, (pss_cons (ps_set (i := 4) sc_law_expression.nd rfl (.inl rfl) (cal c_law_take hr rfl (pa_cons (pv 0) (pa_cons pe_int pa_nil))))
    (pss_cons (ps_if (PW.pt (pw_or (pt_cmpR op_eq (pv 3) pe_int (nomark _)) (pw_or1 (pt_cmpR op_lt (pv 4) pe_int (nomark _))))) (pss_cons (ps_if (PW.pt (pw_and (pt_cmpR op_gt (pe_callB call_len_seq (by rfl) B.len PySem.boot_len (pa_cons (pv 1) pa_nil)) pe_int (nomark _)) (pw_and1 (pt_cmpR op_gt (cal c_law_take hr rfl (pa_cons (pv 0) (pa_cons pe_int pa_nil))) pe_int (nomark _))))) (pss_one (ps_ret (pe_ix ix_tup (pv 1) (cal c_law_take hr rfl (pa_cons (pv 0) (pa_cons (pe_callB call_len_seq (by rfl) B.len PySem.boot_len (pa_cons (pv 1) pa_nil)) pa_nil))) (fun _ _ => rfl)))) pss_nil)
      (pss_one (ps_ret (pe_tup (pa_cons pe_str (pa_cons (cal c_law_value hr rfl (pa_cons (pv 0) (pa_cons pe_int pa_nil))) pa_nil)))))) pss_nil)
    (pss_cons (ps_if (pt_cmpR op_lt (pv 4) pe_int (nomark _)) (pss_cons (ps_setLc (i := 5) (own := [("k", 6)]) (g := gName 6) (tt := tYes) rfl sc_law_expression.nd rfl rfl (sw_true rfl rfl rfl (by decide +kernel)) (pi_range1 (by rfl) B.range (pa_cons pe_int pa_nil)) (blkOk_by (N := n_law_expression) (sc := defScope s_law_expression) (by decide +kernel)) (fun _ _ _ _ _ => pg_name (i := 6) sc_law_expression.nd rfl (Or.inl rfl)) (fun _ _ _ _ _ => pts_nil) (fun _ _ _ _ _ => (cal c_law_expression hr rfl (pa_cons (pv 0) (pa_cons (pv 1) (pa_cons (pv 2) (pa_cons (pe_op op_sub (pv 3) pe_int) pa_nil)))))))
      (pss_one (ps_ret (pe_tup (pa_cons pe_str (pa_cons (pe_ix ix_list (pv 5) pe_int (fun _ _ => rfl)) (pa_cons (pe_ix ix_list (pv 5) pe_int (fun _ _ => rfl)) (pa_cons (pe_ix ix_list (pv 5) pe_int (fun _ _ => rfl)) pa_nil)))))))) pss_nil)
    (pss_cons (ps_if (PW.pt (pw_or (pt_cmpR op_eq (pv 4) pe_int (nomark _)) (pw_or1 (pt_cmpR op_eq (pv 4) pe_int (nomark _))))) (pss_cons (ps_set (i := 7) sc_law_expression.nd rfl (.inl rfl) (cal c_law_expression hr rfl (pa_cons (pv 0) (pa_cons (pv 1) (pa_cons (pv 2) (pa_cons (pe_op op_sub (pv 3) pe_int) pa_nil))))))
      (pss_one (ps_ret (pe_tup (pa_cons pe_str (pa_cons (pv 7) (pa_cons (cal c_law_expression hr rfl (pa_cons (pv 0) (pa_cons (pv 1) (pa_cons (pv 2) (pa_cons (pe_op op_sub (pv 3) pe_int) pa_nil))))) pa_nil))))))) pss_nil)
    (pss_cons (ps_if (pt_cmpR op_lt (pv 4) pe_int (nomark _)) (pss_cons (ps_set (i := 7) sc_law_expression.nd rfl (.inl rfl) (cal c_law_expression hr rfl (pa_cons (pv 0) (pa_cons (pv 1) (pa_cons (pv 2) (pa_cons (pe_op op_sub (pv 3) pe_int) pa_nil))))))
      (pss_one (ps_ret (pe_tup (pa_cons pe_str (pa_cons (pv 7) (pa_cons (cal c_law_expression hr rfl (pa_cons (pv 0) (pa_cons (pv 1) (pa_cons (pv 2) (pa_cons (pe_op op_sub (pv 3) pe_int) pa_nil))))) pa_nil))))))) pss_nil)
    (pss_cons (ps_if (pt_cmpR op_eq (pv 4) pe_int (nomark _)) (pss_one (ps_ret (pe_tup (pa_cons pe_str (pa_cons (cal c_law_expression hr rfl (pa_cons (pv 0) (pa_cons (pv 1) (pa_cons (pv 2) (pa_cons (pe_op op_sub (pv 3) pe_int) pa_nil))))) pa_nil))))) pss_nil)
    (pss_cons (ps_if (PW.pt (pw_or (pt_cmpR op_lt (pv 4) pe_int (nomark _)) (pw_or1 (pt_cmpR op_eq (pe_callB call_len_seq (by rfl) B.len PySem.boot_len (pa_cons (pv 2) pa_nil)) pe_int (nomark _))))) (pss_one (ps_ret (pe_tup (pa_cons (pe_ix ix_list (pe_lst (pa_cons pe_str (pa_cons pe_str pa_nil))) (pe_op op_mod (pv 4) pe_int) (fun _ _ => rfl)) (pa_cons (cal c_law_expression hr rfl (pa_cons (pv 0) (pa_cons (pv 1) (pa_cons (pv 2) (pa_cons (pe_op op_sub (pv 3) pe_int) pa_nil))))) pa_nil))))) pss_nil)
    (pss_cons (ps_asg (pe_ix ix_list (pv 2) (cal c_law_take hr rfl (pa_cons (pv 0) (pa_cons (pe_callB call_len_seq (by rfl) B.len PySem.boot_len (pa_cons (pv 2) pa_nil)) pa_nil))) (fun _ _ => rfl)) (pg_tup (by rfl) (pgs_cons (pg_name (i := 8) sc_law_expression.nd rfl (.inl rfl)) (pgs_cons (pg_name (i := 9) sc_law_expression.nd rfl (.inl rfl)) pgs_nil))))
    (pss_one (ps_ret (pe_op op_catA (pe_tup (pa_cons (pv 8) pa_nil)) (pe_callTy call_tuple_of (by rfl) B.tuple (by decide +kernel) (pa_cons (pe_lc (own := [("k", 6)]) (g := gName 6) (tt := tYes) rfl sc_law_expression.nd (pi_range1 (by rfl) B.range (pa_cons (pv 9) pa_nil)) (blkOk_by (N := n_law_expression) (sc := defScope s_law_expression) (by decide +kernel)) (fun _ _ _ _ _ => pg_name (i := 6) sc_law_expression.nd rfl (Or.inl rfl)) (fun _ _ _ _ _ => pts_nil) (fun _ _ _ _ _ => (cal c_law_expression hr rfl (pa_cons (pv 0) (pa_cons (pv 1) (pa_cons (pv 2) (pa_cons (pe_op op_sub (pv 3) pe_int) pa_nil))))))) pa_nil))))))))))))), ?_⟩
    obtain ⟨pa, pvs, rfl, hP, rP⟩ := tp.list
    have lp := rP.length
    -- kind
    refine ⟨_, rfl, a, d, 12, rfl, hd, by decide, fun kd H1 kd0 kd1 k1 hd1 => ?_⟩
    have tp1 := tp.keep k1
    have hP1 := k1.sqT hP
    have rP1 := rP.keep k1
    have cls1 := cls.keep k1 (by simpa using cla)
    -- a word or a quote
    have first : (tSeq (tIfS (tAnd (tTest (tOp (rI0 fun i j => V.bl (decide (j < i))) (tCB (fun xs H_1 Q => ∃ p ys, xs = [V.ref p] ∧ (SqL K H_1 p ys ∨ SqT K H_1 p ys) ∧ Q (V.int (ys.length : Nat)) H_1) (tCons (tVar 1) tNil)) (tC (V.int 0)))) (tTest (tOp (rI0 fun i j => V.bl (decide (j < i))) (tCall spTake [] E0 (tCons (tVar 0) (tCons (tC (V.int 3)) tNil))) (tC (V.int 0)))))
          (tRet (tOp (rIxT K) (tVar 1) (tCall spTake [] E0 (tCons (tVar 0) (tCons (tCB (fun xs H_1 Q => ∃ p ys, xs = [V.ref p] ∧ (SqL K H_1 p ys ∨ SqT K H_1 p ys) ∧ Q (V.int (ys.length : Nat)) H_1) (tCons (tVar 1) tNil)) tNil))))) tNext) (tRet (tTup (tCons (tC (V.str "quote")) (tCons (tCall (spVal K 2) [] E0 (tCons (tVar 0) (tCons (tC (V.int 2)) tNil))) tNil)))))
        { nx := fun _ _ => True, rt := Q } [some (.ref a), some (.ref pa), some (.ref cl), some (.int n), some (.int kd), none, none, none, none, none] H1 := by
      have quote : ∀ H2, Keep [a] H1 H2 → Hd H2 a d → (tRet (tTup (tCons (tC (V.str "quote")) (tCons (tCall (spVal K 2) [] E0 (tCons (tVar 0) (tCons (tC (V.int 2)) tNil))) tNil)))) { nx := fun _ _ => True, rt := Q } [some (.ref a), some (.ref pa), some (.ref cl), some (.int n), some (.int kd), none, none, none, none, none] H2 := fun H2 k2 hd2 => by
        refine ⟨_, rfl, a, d, rfl, hd2, fun v t H3 tv wt sz dp k3 hd3 => ?_⟩
        refine ⟨by show (2 : Nat) ≤ sizeLine; decide, fun p np => ?_⟩
        obtain ⟨tm, km⟩ := mk_tr (K := K) (H := H3) (vs := [.str "quote", v]) (ts := [.w qw, t]) np (by rw [lit_q]; exact trs_cons tr_w (Trs.one tv))
        refine q _ _ _ tm (wt_l (wts_cons (wt_w (isWord_of (by decide))) (wts_cons wt wts_nil))) ?_ ?_ good_quote (((k1.trans k2).trans k3).trans (km.mono (by simp))) (hd3.keep0 km)
        · rw [size_l, sizes_cons, sizes_cons, sizes_nil, size_w]
          have := ME.ge n
          have e : MV 2 = 13 := rfl
          omega
        · rw [show n + 3 = (n + 2) + 1 from rfl]
          intro t' m
          rcases List.mem_cons.mp m with e | m
          · rw [e]; exact deep_w _ _
          · rw [List.mem_singleton.mp m]
            exact dp.mono (by omega)
      refine ⟨_, rfl, pa, pvs, rfl, .inr hP1, _, _, rfl, rfl, _, rfl, ?_⟩
      by_cases h0 : ps.length = 0
      · rw [decide_eq_false (show ¬ (0 : Int) < ((pvs.length : Nat) : Int) by omega)]
        exact iteF (iteF (quote H1 Keep.refl hd1))
      rw [decide_eq_true (show (0 : Int) < ((pvs.length : Nat) : Int) by omega)]
      refine iteT ?_
      refine ⟨_, rfl, a, d, 3, rfl, hd1, by decide, fun i H2 i0 i1 k2 hd2 => ?_⟩
      refine ⟨_, _, rfl, rfl, _, rfl, ite2 (fun c => ?_) (fun c => quote H2 k2 hd2)⟩
      have hP2 := k2.sqT hP1
      refine ⟨_, rfl, _, rfl, _, rfl, pa, pvs, rfl, .inr hP2, a, d, _, rfl, hd2, by omega, fun j H3 j0 j1 k3 hd3 => ?_⟩
      obtain ⟨jn, rfl⟩ := Int.eq_ofNat_of_zero_le j0
      have jl : jn < ps.length := by omega
      have hg : ps[jn]? = some ps[jn] := List.getElem?_eq_getElem jl
      obtain ⟨x, hx, tx0⟩ := rP1.get hg
      have mem := List.getElem_mem jl
      have k23 := k2.trans k3
      refine ⟨pa, pvs, _, x, rfl, rfl, k3.sqT hP2, atI_nat hx, ?_⟩
      have iw := pw _ mem
      refine q x ps[jn] H3 (tx0.keep k23) (wp.all _ mem) ?_ ?_ (good_word mem iw) (k1.trans k23) hd3
      · cases h : ps[jn] with
        | l us => rw [h] at iw; cases iw
        | w y => rw [size_w]; have := ME.ge n; omega
      · cases h : ps[jn] with
        | l us => rw [h] at iw; cases iw
        | w y => exact deep_w _ _
    refine ⟨_, rfl, rfl, _, rfl, ?_⟩
    cases n with
    | zero => exact iteT (iteT first)
    | succ m =>
    rw [dF (show (((m + 1 : Nat)) : Int) ≠ 0 by omega)]
    refine iteF ?_
    refine ⟨_, rfl, _, _, rfl, rfl, _, rfl, ite2 (fun _ => first) (fun _ => ?_)⟩
    have em : (((m + 1 : Nat)) : Int) - 1 = (m : Int) := by omega
    have eME : ME (m + 1) = 2 + 4 * ME m := rfl
    have rec_ : ∀ (H2 : Hp), Keep [a] H H2 → Hd H2 a d → ∀ Q' : VK, (∀ (v : V) (t : Tree) (H3 : Hp), Tr K H3 v t → WT t → t.size ≤ ME m → Deep (m + 3) t → GoodIn cs ps t → Keep [a] H2 H3 → Hd H3 a d → Q' v H3) → sp [.ref a, .ref pa, .ref cl, .int ((((m + 1 : Nat)) : Int) - 1)] H2 Q' E0 := fun H2 k2 hd2 Q' hq =>
      hsp m rfl _ _ _ _ ⟨a, d, cl, .ref pa, ps, cs, by rw [em], hd2, tp.keep k2, pw, wp, lps, cls.keep k2 (by simpa using cla), cla, hq⟩
    -- one part, two parts behind a written word
    have one : ∀ (s : Str) (wd : List Nat) (v : V) (t : Tree) (H3 : Hp) (p : Addr), s = tx wd → IsWord wd → spAr wd = some 1 → Tr K H3 v t → WT t → t.size ≤ ME m → Deep (m + 3) t → GoodIn cs ps t → Keep [a] H H3 → Hd H3 a d → H3 p = none → Q (.ref p) (upd H3 p (.tup [.str s, v])) := fun s wd v t H3 p es ww sa tv wt sz dp gd k3 hd3 np => by
      obtain ⟨tm, km⟩ := mk_tr (K := K) (H := H3) (vs := [.str s, v]) (ts := [.w wd, t]) np (by rw [es]; exact trs_cons tr_w (Trs.one tv))
      refine q _ _ _ tm (wt_l (wts_cons (wt_w ww) (wts_cons wt wts_nil))) ?_ ?_ (good_sp sa fun t' m => by rw [List.mem_singleton.mp m]; exact gd) (k3.trans (km.mono (by simp))) (hd3.keep0 km)
      · rw [size_l, sizes_cons, sizes_cons, sizes_nil, size_w]
        omega
      · intro t' m
        rcases List.mem_cons.mp m with e | m
        · rw [e]; exact deep_w _ _
        · rw [List.mem_singleton.mp m]; exact dp
    have two : ∀ (s : Str) (wd : List Nat), s = tx wd → IsWord wd → spAr wd = some 2 → (tSeq (tAsg (tCall sp [] E0 (tCons (tVar 0) (tCons (tVar 1) (tCons (tVar 2) (tCons (tOp (rI0 fun i j => V.int (i - j)) (tVar 3) (tC (V.int 1))) tNil))))) (gName 7)) (tRet (tTup (tCons (tC (.str s)) (tCons (tVar 7) (tCons (tCall sp [] E0 (tCons (tVar 0) (tCons (tVar 1) (tCons (tVar 2) (tCons (tOp (rI0 fun i j => V.int (i - j)) (tVar 3) (tC (V.int 1))) tNil))))) tNil)))))) { nx := fun _ _ => True, rt := Q } [some (.ref a), some (.ref pa), some (.ref cl), some (.int ((m + 1 : Nat) : Int)), some (.int kd), none, none, none, none, none] H1 := fun s wd es ww sa => by
      refine ⟨_, rfl, _, rfl, _, rfl, _, rfl, _, _, rfl, rfl, rec_ H1 k1 hd1 _ fun v t H2 tv wt sz dp gd k2 hd2 => ?_⟩
      refine ⟨_, rfl, _, rfl, _, rfl, _, rfl, _, rfl, _, _, rfl, rfl, rec_ H2 (k1.trans k2) hd2 _ fun v2 t2 H3 tv2 wt2 sz2 dp2 gd2 k3 hd3 => ?_⟩
      refine ⟨by show (3 : Nat) ≤ sizeLine; decide, fun p np => ?_⟩
      obtain ⟨tm, km⟩ := mk_tr (K := K) (H := H3) (vs := [.str s, v, v2]) (ts := [.w wd, t, t2]) np (by rw [es]; exact trs_cons tr_w (trs_cons (tv.keep k3) (Trs.one tv2)))
      refine q _ _ _ tm (wt_l (wts_cons (wt_w ww) (wts_cons wt (wts_cons wt2 wts_nil)))) ?_ ?_ (good_sp sa (gall2 gd gd2)) (((k1.trans k2).trans k3).trans (km.mono (by simp))) (hd3.keep0 km)
      · rw [size_l, sizes_cons, sizes_cons, sizes_cons, sizes_nil, size_w]
        omega
      · intro t' m
        rcases List.mem_cons.mp m with e | m
        · rw [e]; exact deep_w _ _
        · rcases List.mem_cons.mp m with e | m
          · rw [e]; exact dp
          · rw [List.mem_singleton.mp m]; exact dp2
    -- if
    refine ⟨_, rfl, _, _, rfl, rfl, _, rfl, ite2 (fun _ => ?_) (fun _ => ?_)⟩
    · refine ⟨(3 : Int), rfl, by decide, by decide, fun L nL => ?_⟩
      have La : L ≠ a := (hd1.neH nL).symm
      have Ld : L ≠ d := (hd1.neD nL).symm
      have nL0 : H L = none := k1.free nL
      refine lc_range (lo := 0) (n := (3 : Int).toNat) (fun i H' => ∃ vs ts, H' L = some (.lst vs) ∧ Trs K H' vs ts ∧ ts.length = i ∧ (∀ t ∈ ts, WT t ∧ t.size ≤ ME m ∧ Deep (m + 3) t ∧ GoodIn cs ps t) ∧ Keep [a] H H' ∧ Hd H' a d)
        ⟨[], [], upd_same, trs_nil, rfl, by simp, k1.newT nL, hd1.new nL⟩ (fun i H5 hi p => ?_) (fun H5 p => ?_)
      · obtain ⟨vs, ts, e1, e2, e3, e4, k6, hd5⟩ := p
        refine ⟨rfl, yes ?_⟩
        refine ⟨_, rfl, _, rfl, _, rfl, _, rfl, _, _, rfl, rfl, rec_ H5 k6 hd5 _ fun v t H6 tv wt sz dp gd k7 hd6 => ?_⟩
        have e1' : H6 L = some (.lst vs) := k7.get e1 (by simpa using La)
        have k8 : Keep [L] H6 (upd H6 L (.lst (vs ++ [v]))) := Keep.set e1' (List.mem_cons_self ..)
        refine ⟨vs, e1', ?_, vs ++ [v], ts ++ [t], upd_same, (e2.keep k7 |>.append (trs_cons tv trs_nil)).keep k8, by rw [List.length_append, e3]; rfl, ?_, ((k6.trans k7).cons.trans (k8.mono (by simp))).drop nL0, hd6.upd La.symm Ld.symm⟩
        · rw [e2.length]
          exact sizeLt (by have : (3 : Int).toNat = 3 := rfl; omega)
        · intro u hu
          rcases List.mem_append.mp hu with m | m
          · exact e4 u m
          · rw [List.mem_singleton.mp m]
            exact ⟨wt, sz, dp, gd⟩
      · obtain ⟨vs, ts, e1, e2, e3, e4, k6, hd5⟩ := p
        obtain ⟨t0, t1, t2, rfl⟩ := three_of (show ts.length = 3 from e3)
        obtain ⟨x0, x1, x2, rfl, r0, r1, r2⟩ := e2.three
        refine ⟨_, rfl, L, _, _, _, rfl, rfl, SqL.of e1, rfl, _, rfl, L, _, _, _, rfl, rfl, SqL.of e1, rfl, _, rfl, L, _, _, _, rfl, rfl, SqL.of e1, rfl, by show (4 : Nat) ≤ sizeLine; decide, fun p np => ?_⟩
        obtain ⟨tm, km⟩ := mk_tr (K := K) (H := H5) (vs := [.str "if", x0, x1, x2]) (ts := [.w [105, 102], t0, t1, t2]) np (by rw [show ("if" : Str) = tx [105, 102] by decide +kernel]; exact trs_cons tr_w e2)
        have h0 := e4 t0 (by simp)
        have h1 := e4 t1 (by simp)
        have h2 := e4 t2 (by simp)
        refine q _ _ _ tm (wt_l (wts_cons (wt_w (isWord_of (by decide))) (wts_cons h0.1 (wts_cons h1.1 (wts_cons h2.1 wts_nil))))) ?_ ?_ (good_sp (show spAr [105, 102] = some 3 by decide +kernel) fun t m => (e4 t m).2.2.2) (k6.trans (km.mono (by simp))) (hd5.keep0 km)
        · rw [size_l, sizes_cons, sizes_cons, sizes_cons, sizes_cons, sizes_nil, size_w]
          have := h0.2.1
          have := h1.2.1
          have := h2.2.1
          omega
        · intro t' m
          rcases List.mem_cons.mp m with e | m
          · rw [e]; exact deep_w _ _
          · exact (e4 t' m).2.2.1
    refine ⟨_, rfl, rfl, _, rfl, ite2 (fun _ => iteT (two "same" [115, 97, 109, 101] (by decide +kernel) (isWord_of (by decide)) (by decide +kernel))) (fun _ => ?_)⟩
    refine ⟨_, rfl, rfl, _, rfl, ite2 (fun _ => two "same" [115, 97, 109, 101] (by decide +kernel) (isWord_of (by decide)) (by decide +kernel)) (fun _ => ?_)⟩
    refine ⟨_, rfl, _, _, rfl, rfl, _, rfl, ite2 (fun _ => two "join" [106, 111, 105, 110] (by decide +kernel) (isWord_of (by decide)) (by decide +kernel)) (fun _ => ?_)⟩
    refine ⟨_, rfl, rfl, _, rfl, ite2 (fun _ => ?_) (fun _ => ?_)⟩
    · refine ⟨_, rfl, _, rfl, _, rfl, _, rfl, _, _, rfl, rfl, rec_ H1 k1 hd1 _ fun v t H2 tv wt sz dp gd k2 hd2 => ?_⟩
      exact ⟨by show (2 : Nat) ≤ sizeLine; decide, fun p np => one "word" [119, 111, 114, 100] v t H2 p (by decide +kernel) (isWord_of (by decide)) (by decide +kernel) tv wt sz dp gd (k1.trans k2) hd2 np⟩
    have ht : (tRet (tTup (tCons (tOp (rIxL K) (tLst (tCons (tC (.str "head")) (tCons (tC (.str "tail")) tNil))) (tOp (rI (fun _ j => 0 < j) fun i j => V.int (i % j)) (tVar 4) (tC (V.int 2)))) (tCons (tCall sp [] E0 (tCons (tVar 0) (tCons (tVar 1) (tCons (tVar 2) (tCons (tOp (rI0 fun i j => V.int (i - j)) (tVar 3) (tC (V.int 1))) tNil))))) tNil)))) { nx := fun _ _ => True, rt := Q } [some (.ref a), some (.ref pa), some (.ref cl), some (.int ((m + 1 : Nat) : Int)), some (.int kd), none, none, none, none, none] H1 := by
      refine ⟨by show (2 : Nat) ≤ sizeLine; decide, fun p2 np2 => ?_⟩
      have ka : Keep [] H1 (upd H1 p2 (.lst [.str "head", .str "tail"])) := Keep.new np2
      have ep2 : (upd H1 p2 (.lst [.str "head", .str "tail"])) p2 = some (.lst [.str "head", .str "tail"]) := upd_same
      generalize upd H1 p2 (.lst [.str "head", .str "tail"]) = H2 at ka ep2
      refine ⟨_, rfl, _, _, rfl, rfl, by show (0 : Int) < 2; decide, ?_⟩
      obtain ⟨c, hc, wc, mc⟩ := pick (L := [[104, 101, 97, 100], [116, 97, 105, 108]]) (xs := [.str "head", .str "tail"]) (by decide +kernel) (by decide) (j := kd % 2) (Int.emod_nonneg _ (by decide)) (Int.emod_lt_of_pos _ (by decide))
      refine ⟨p2, _, _, _, rfl, rfl, SqL.of ep2, hc, ?_⟩
      have k12 := k1.trans (ka.mono (by simp : ∀ x ∈ ([] : List Addr), x ∈ [a]))
      refine ⟨_, rfl, _, rfl, _, rfl, _, rfl, _, _, rfl, rfl, rec_ H2 k12 (hd1.keep0 ka) _ fun v t H3 tv wt sz dp gd k3 hd3 => ?_⟩
      have sac : spAr c = some 1 := by
        simp only [List.mem_cons, List.not_mem_nil, or_false] at mc
        rcases mc with rfl | rfl <;> decide +kernel
      exact ⟨by show (2 : Nat) ≤ sizeLine; decide, fun p np => one (tx c) c v t H3 p rfl wc sac tv wt sz dp gd (k12.trans k3) hd3 np⟩
    refine ⟨_, rfl, _, _, rfl, rfl, _, rfl, ite2 (fun _ => iteT ht) (fun _ => ?_)⟩
    obtain ⟨cvs, ec, lc, each⟩ := id cls1
    refine ⟨_, rfl, cl, cvs, rfl, .inl (SqL.of ec), rfl, _, rfl, ?_⟩
    by_cases h0 : cvs.length = 0
    · rw [dT (by omega)]
      exact iteT ht
    rw [dF (by omega)]
    refine iteF ?_
    refine ⟨_, rfl, _, rfl, _, rfl, cl, cvs, rfl, .inl (SqL.of ec), a, d, _, rfl, hd1, by omega, fun j H2 j0 j1 k2 hd2 => ?_⟩
    obtain ⟨jn, rfl⟩ := Int.eq_ofNat_of_zero_le j0
    have jl : jn < cvs.length := by omega
    have hg : cvs[jn]? = some cvs[jn] := List.getElem?_eq_getElem jl
    obtain ⟨ca, nm, mm, e1, e2, e3_, e4_, e5_⟩ := each _ (List.getElem_mem jl)
    have ec2 := k2.get ec (by simpa using cla)
    have e2' := k2.tup e2
    rw [e1] at hg
    refine ⟨cl, cvs, _, _, rfl, rfl, SqL.of ec2, atI_nat hg, ?_⟩
    refine ⟨ca, _, rfl, SqT.of_tup e2', rfl, _, _, rfl, _, _, rfl, rfl, ?_⟩
    refine ⟨_, rfl, by show (1 : Nat) ≤ sizeLine; decide, fun t1 nt1 => ?_⟩
    obtain ⟨tn, kn⟩ := mk_tr (K := K) (H := H2) (vs := [.str (tx nm)]) (ts := [.w nm]) nt1 (Trs.one tr_w)
    generalize upd H2 t1 (.tup [.str (tx nm)]) = H3 at tn kn
    have k13 : Keep [a] H H3 := (k1.trans k2).trans (kn.mono (by simp))
    have hd3 := hd2.keep0 kn
    refine ⟨_, rfl, (mm : Int), rfl, by omega, by omega, fun L nL => ?_⟩
    have La : L ≠ a := (hd3.neH nL).symm
    have Ld : L ≠ d := (hd3.neD nL).symm
    have nL0 : H L = none := k13.free nL
    refine lc_range (lo := 0) (n := (mm : Int).toNat) (fun i H' => ∃ vs ts, H' L = some (.lst vs) ∧ Trs K H' vs ts ∧ ts.length = i ∧ (∀ t ∈ ts, WT t ∧ t.size ≤ ME m ∧ Deep (m + 3) t ∧ GoodIn cs ps t) ∧ Keep [a] H H' ∧ Hd H' a d ∧ Tr K H' (.ref t1) (.l [.w nm]))
      ⟨[], [], upd_same, trs_nil, rfl, by simp, k13.newT nL, hd3.new nL, tn.keep (Keep.new (S := []) nL)⟩ (fun i H5 hi p => ?_) (fun H5 p => ?_)
    · obtain ⟨vs, ts, e1, e2, e3, e4, k6, hd5, tn5⟩ := p
      refine ⟨rfl, yes ?_⟩
      refine ⟨_, rfl, _, rfl, _, rfl, _, rfl, _, _, rfl, rfl, rec_ H5 k6 hd5 _ fun v t H6 tv wt sz dp gd k7 hd6 => ?_⟩
      have e1' : H6 L = some (.lst vs) := k7.get e1 (by simpa using La)
      have k8 : Keep [L] H6 (upd H6 L (.lst (vs ++ [v]))) := Keep.set e1' (List.mem_cons_self ..)
      refine ⟨vs, e1', ?_, vs ++ [v], ts ++ [t], upd_same, (e2.keep k7 |>.append (trs_cons tv trs_nil)).keep k8, by rw [List.length_append, e3]; rfl, ?_, ((k6.trans k7).cons.trans (k8.mono (by simp))).drop nL0, hd6.upd La.symm Ld.symm, (tn5.keep k7).keep k8⟩
      · rw [e2.length]
        exact sizeLt (by omega)
      · intro u hu
        rcases List.mem_append.mp hu with m | m
        · exact e4 u m
        · rw [List.mem_singleton.mp m]
          exact ⟨wt, sz, dp, gd⟩
    · obtain ⟨vs, ts, e1, e2, e3, e4, k6, hd5, tn5⟩ := p
      refine ⟨L, vs, rfl, .inl ⟨SqL.of e1, fun T nT => ?_⟩⟩
      obtain ⟨tm, km⟩ := mk_tr (K := K) (H := H5) nT e2
      refine cat_tr (tn5.keep km) tm (Nat.le_trans (show _ ≤ 100 by rw [List.length_singleton]; omega) (by decide)) fun v7 H7 tv7 k7 => ?_
      have szs := sizes_le fun t m => (e4 t m).2.1
      have l : ts.length ≤ 4 := by omega
      have mulle := Nat.mul_le_mul_right (ME m) l
      refine q v7 _ H7 tv7 (wt_l (wts_cons (wt_w e3_) (WTs.of fun t m => (e4 t m).1))) ?_ ?_ (good_call (ts := ts) (by rw [show ts.length = mm by omega]; exact e5_) fun t m => (e4 t m).2.2.2) ((k6.trans (km.mono (by simp))).trans (k7.mono (by simp))) ((hd5.keep0 km).keep0 k7)
      · rw [size_l, List.singleton_append, sizes_cons, size_w]
        omega
      · intro t' m
        rcases List.mem_cons.mp m with e | m
        · rw [e]; exact deep_w _ _
        · exact (e4 t' m).2.2.1
  have all : ∀ n, FnOk P w K mg base CX0 (k + n + 1) f fd p_law_expression (spExpr K n) := fun n => by
    induction n with
    | zero => exact step 0 (fun _ _ _ _ => False) ⟨⟨fun _ _ _ _ h => h.elim, fun _ _ _ _ _ _ _ _ _ _ _ _ _ h => h.elim⟩, hm, F.kp, hb⟩ fun m e => by cases e
    | succ m ih => exact step (m + 1) (spExpr K m) ⟨ih, hm, F.kp, hb⟩ fun m' e vs H Q E q => by cases e; exact q
  exact ⟨f, fd, fun n => ⟨all n, hm, F.kp, hb⟩⟩
end
end Og

namespace Og
open PySem PySem.Spec PyProof.Rows L2
def tHas : Tree := (.l [(.w [104, 97, 115]), (.l [(.w [119]), (.w [118])]), (.l [(.w [105, 102]), (.l [(.w [115, 97, 109, 101]), (.w [119]), (.w [118])]), (.l [(.w [113, 117, 111, 116, 101]), (.w [121, 101, 115])]), (.l [(.w [119, 105, 116, 104, 105, 110]), (.w [119]), (.w [118])])])])
def tWithin : Tree := (.l [(.w [119, 105, 116, 104, 105, 110]), (.l [(.w [119]), (.w [118])]), (.l [(.w [105, 102]), (.w [118]), (.l [(.w [105, 102]), (.l [(.w [104, 97, 115]), (.w [119]), (.l [(.w [104, 101, 97, 100]), (.w [118])])]), (.l [(.w [113, 117, 111, 116, 101]), (.w [121, 101, 115])]), (.l [(.w [119, 105, 116, 104, 105, 110]), (.w [119]), (.l [(.w [116, 97, 105, 108]), (.w [118])])])]), (.l [(.w [113, 117, 111, 116, 101]), (.l [])])])])
def tPut : Tree := (.l [(.w [112, 117, 116]), (.l [(.w [118]), (.w [108])]), (.l [(.w [105, 102]), (.w [108]), (.l [(.w [106, 111, 105, 110]), (.l [(.w [104, 101, 97, 100]), (.w [108])]), (.l [(.w [112, 117, 116]), (.w [118]), (.l [(.w [116, 97, 105, 108]), (.w [108])])])]), (.l [(.w [106, 111, 105, 110]), (.w [118]), (.l [(.w [113, 117, 111, 116, 101]), (.l [])])])])])
def tTurn : Tree := (.l [(.w [116, 117, 114, 110]), (.l [(.w [108])]), (.l [(.w [105, 102]), (.w [108]), (.l [(.w [112, 117, 116]), (.l [(.w [104, 101, 97, 100]), (.w [108])]), (.l [(.w [116, 117, 114, 110]), (.l [(.w [116, 97, 105, 108]), (.w [108])])])]), (.l [(.w [113, 117, 111, 116, 101]), (.l [])])])])
/-- a function of a drawn program -/
def FnT (t : Tree) : Prop := ∃ n ps b, t = .l [.w n, .l ps, b] ∧ WT t ∧ (∀ p ∈ ps, p.isW = true) ∧ ps.length ≤ 4 ∧ Deep 6 b ∧ b.size ≤ 1002
theorem fn_has : FnT tHas := ⟨_, _, _, rfl, wt_of (by decide +kernel), by simp [Tree.isW], by decide, deep_of (by decide +kernel), by decide +kernel⟩
theorem fn_within : FnT tWithin := ⟨_, _, _, rfl, wt_of (by decide +kernel), by simp [Tree.isW], by decide, deep_of (by decide +kernel), by decide +kernel⟩
theorem fn_put : FnT tPut := ⟨_, _, _, rfl, wt_of (by decide +kernel), by simp [Tree.isW], by decide, deep_of (by decide +kernel), by decide +kernel⟩
theorem fn_turn : FnT tTurn := ⟨_, _, _, rfl, wt_of (by decide +kernel), by simp [Tree.isW], by decide, deep_of (by decide +kernel), by decide +kernel⟩
end Og

namespace Og
open PySem PySem.Spec PyProof.Rows L2
/-! ### programs as rows of functions: name, parameters, body -/
abbrev Fn := List Nat × List Tree × Tree
def fnt (f : Fn) : Tree := .l [.w f.1, .l f.2.1, f.2.2]
def sigs (L : List Fn) : Cs := L.map fun f => (f.1, f.2.1.length)
/-- a row of functions that is a good program -/
structure GoodL (L : List Fn) : Prop where
  nd : (L.map (·.1)).Nodup
  nm : ∀ f ∈ L, GoodName L.length f.1
  ps : ∀ f ∈ L, GoodPs f.2.1
  ex : ∀ f ∈ L, GoodIn (sigs L) f.2.1 f.2.2
/-- a name that is neither special nor f and more -/
theorem goodName_plain {n : Nat} {x : List Nat} (h : spAr x = none) (k : x.head? ≠ some 102) : GoodName n x := ⟨h, fun ds e _ _ => absurd (by rw [e]; rfl) k⟩
theorem fn?_fnt (f : Fn) : fn? (fnt f) = some f := fn?_iff.mpr rfl
theorem arity_fns : ∀ {L : List Fn} {f : Fn}, (L.map (·.1)).Nodup → f ∈ L → arity (L.map fnt) f.1 = some f.2.1.length
  | [], f, _, m => absurd m (List.not_mem_nil)
  | g :: L, f, nd, m => by
    rw [List.map_cons, List.nodup_cons] at nd
    rw [List.map_cons, arity, fn?_fnt]
    show (if g.1 = f.1 then some g.2.1.length else arity (L.map fnt) f.1) = _
    rcases List.mem_cons.mp m with e | m
    · rw [e, if_pos rfl]
    · rw [if_neg (fun e => nd.1 (by rw [e]; exact List.mem_map.mpr ⟨f, m, rfl⟩))]
      exact arity_fns nd.2 m
theorem GoodL.calls {L : List Fn} (h : GoodL L) : ∀ c ∈ sigs L, CallOk (L.map fnt) c := fun c m => by
  obtain ⟨f, mf, rfl⟩ := List.mem_map.mp m
  show parts _ f.1 = some f.2.1.length
  unfold parts
  rw [(h.nm f mf).1]
  exact arity_fns h.nd mf
theorem nodup_get : ∀ {L : List (List Nat)} {i j : Nat} {x : List Nat}, L.Nodup → L[i]? = some x → L[j]? = some x → i = j := fun {L i j x} nd hi hj => by
  have li := (List.getElem?_eq_some_iff.mp hi).1
  exact (List.getElem?_inj li nd).mp (hi.trans hj.symm)
theorem GoodL.at {L : List Fn} (h : GoodL L) {i : Nat} (hi : i < L.length) : GoodAt (L.map fnt) i := by
  have hg : L[i]? = some L[i] := List.getElem?_eq_getElem hi
  have mf := List.getElem_mem hi
  generalize L[i] = f at hg mf
  have n1 := h.nm f mf
  refine ⟨f.1, f.2.1, f.2.2, by rw [List.getElem?_map, hg]; rfl, by rw [List.length_map]; exact n1, h.ps f mf, h.ex f mf _ h.calls, ?_⟩
  · rintro ⟨j, r, lj, ej⟩
    rw [List.getElem?_map] at ej
    cases hj : L[j]? with
    | none => rw [hj] at ej; cases ej
    | some g =>
      rw [hj] at ej
      have e1 : fnt g = .l (.w f.1 :: r) := Option.some.inj ej
      have e2 := Tree.w.inj (List.cons.inj (Tree.l.inj e1)).1
      have a : (L.map (·.1))[j]? = some f.1 := by rw [List.getElem?_map, hj]; exact congrArg some e2
      have b : (L.map (·.1))[i]? = some f.1 := by rw [List.getElem?_map, hg]; rfl
      have := nodup_get h.nd a b
      omega
theorem GoodL.bad {L : List Fn} (h : GoodL L) (ne : L ≠ []) : BadNo (.l (L.map fnt)) none := by
  refine .inr ⟨fun e => ne (List.map_eq_nil_iff.mp e), .inl ⟨rfl, fun i hi => ?_⟩⟩
  rw [List.length_map] at hi
  exact h.at hi
/-! ### deciding that a written expression is good -/
mutual
def goodB (cs : Cs) (ps : List Tree) : Tree → Bool
  | .w x => ps.any fun p => match p with
    | .w y => decide (y = x)
    | .l _ => false
  | .l [] => false
  | .l (.l _ :: _) => false
  | .l (.w n :: ts) => (match spAr n with
    | some k => decide (k = ts.length)
    | none => decide ((n, ts.length) ∈ cs)) && (decide (n = qw) || goodsB cs ps ts)
def goodsB (cs : Cs) (ps : List Tree) : List Tree → Bool
  | [] => true
  | t :: ts => goodB cs ps t && goodsB cs ps ts
end
mutual
theorem good_of {cs : Cs} {ps : List Tree} : ∀ {t : Tree}, goodB cs ps t = true → GoodIn cs ps t
  | .w x, h => by
    rw [goodB, List.any_eq_true] at h
    obtain ⟨p, m, e⟩ := h
    cases p with
    | l _ => cases e
    | w y =>
      have := of_decide_eq_true e
      subst this
      exact good_word m rfl
  | .l [], h => by rw [goodB] at h; cases h
  | .l (.l _ :: _), h => by rw [goodB] at h; cases h
  | .l (.w n :: ts), h => by
    rw [goodB, Bool.and_eq_true, Bool.or_eq_true] at h
    obtain ⟨h1, h2⟩ := h
    intro fs hc
    refine goodE_l.mpr ⟨⟨n, ts, rfl, ?_⟩, ?_⟩
    · cases e : spAr n with
      | some k =>
        rw [e] at h1
        have h1 := of_decide_eq_true h1
        unfold parts
        rw [e, h1]
      | none =>
        rw [e] at h1
        exact hc _ (of_decide_eq_true h1)
    · rcases h2 with h2 | h2
      · exact .inl (by rw [of_decide_eq_true h2]; rfl)
      · exact .inr fun t m => goods_of h2 t m fs hc
theorem goods_of {cs : Cs} {ps : List Tree} : ∀ {ts : List Tree}, goodsB cs ps ts = true → ∀ t ∈ ts, GoodIn cs ps t
  | [], _ => fun t m => absurd m (List.not_mem_nil)
  | u :: ts, h => fun t m => by
    rw [goodsB, Bool.and_eq_true] at h
    rcases List.mem_cons.mp m with e | m
    · rw [e]; exact good_of h.1
    · exact goods_of h.2 t m
end
/-- plain parameters: unlike words that are not special -/
theorem goodPs_of {L : List (List Nat)} (l : L.length ≤ 12) (nd : L.Nodup) (ns : ∀ x ∈ L, spAr x = none) : GoodPs (L.map Tree.w) := by
  refine ⟨by rw [List.length_map]; exact l, fun i t hi => ?_⟩
  rw [List.getElem?_map] at hi
  cases hx : L[i]? with
  | none => rw [hx] at hi; cases hi
  | some x =>
    rw [hx] at hi
    refine ⟨x, (Option.some.inj hi).symm, ns x (List.mem_of_getElem? hx), fun j lj e => ?_⟩
    rw [List.getElem?_map] at e
    cases hy : L[j]? with
    | none => rw [hy] at e; cases e
    | some y =>
      rw [hy] at e
      have := Tree.w.inj (Option.some.inj e)
      subst this
      have := nodup_get nd hy hx
      omega
end Og

namespace Og
open PySem PySem.Spec PyProof.Rows L2
open PySem.NumText (AllDigits digitsVal)
/-! ### made names -/
def digs (n : Nat) : List Nat := (Nat.toDigits 10 n).map Char.toNat
theorem str_digs (n : Nat) : Str.ofString (toString ((n : Nat) : Int)) = tx (digs n) := by
  rw [tx_of (Str.ofString (toString ((n : Nat) : Int))), PySem.W.KIN.signs_num]
  rfl
theorem digs_all (n : Nat) : AllDigits (digs n) := by
  intro c hc
  obtain ⟨ch, hch, e⟩ := List.mem_map.mp hc
  rw [← e]
  exact digit_range (Nat.isDigit_of_mem_toDigits (by decide) (by decide) hch)
theorem digs_ne (n : Nat) : digs n ≠ [] := by
  intro e
  have h := toDigits_len_ge 10 n
  rw [List.map_eq_nil_iff.mp e] at h
  exact absurd h (by decide)
theorem digs_val (n : Nat) : digitsVal (digs n) = n := PySem.W.KIN.val_back n
theorem digs_inj {m n : Nat} (h : digs m = digs n) : m = n := by
  rw [← digs_val m, ← digs_val n, h]
theorem digs_zero (n : Nat) : digs n = [48] ∨ (digs n).head? ≠ some 48 := by
  refine (str_digits (digs_all n) (digs_ne n)).mp ?_
  rw [digs_val]
  exact str_digs n
theorem digs_len {k n : Nat} (hk : 1 ≤ k) (h : n < 10 ^ k) : (digs n).length ≤ k := by
  unfold digs
  rw [List.length_map]
  exact toDigits_len_pow (by decide) hk h
def madeN (n : Nat) : List Nat := 102 :: digs n
def madeP (n : Nat) : List Nat := 120 :: digs n
theorem madeN_inj {m n : Nat} (h : madeN m = madeN n) : m = n := digs_inj (List.cons.inj h).2
theorem madeP_inj {m n : Nat} (h : madeP m = madeP n) : m = n := digs_inj (List.cons.inj h).2
theorem spAr_none {c : Nat} {r : List Nat} (h : c ≠ 113 ∧ c ≠ 105 ∧ c ≠ 115 ∧ c ≠ 119 ∧ c ≠ 104 ∧ c ≠ 116 ∧ c ≠ 106) : spAr (c :: r) = none := by
  unfold spAr
  rw [Option.map_eq_none_iff, List.find?_eq_none]
  intro p m
  rw [decide_eq_true_eq]
  intro e
  have hd : p.1.head? = some c := by rw [e]; rfl
  simp only [specials, qw, List.mem_cons, List.not_mem_nil, or_false] at m
  rcases m with rfl | rfl | rfl | rfl | rfl | rfl | rfl <;> (have := Option.some.inj hd; omega)
theorem spAr_made (n : Nat) : spAr (madeN n) = none := spAr_none (by decide)
theorem spAr_par (n : Nat) : spAr (madeP n) = none := spAr_none (by decide)
theorem goodName_made {m n : Nat} (h : n < m) : GoodName m (madeN n) := ⟨spAr_made n, fun ds e _ _ => by
  have e2 : digs n = ds := (List.cons.inj e).2
  subst e2
  exact ⟨digs_zero n, by rw [digs_val]; exact h⟩⟩
theorem digs_sign (n : Nat) : ∀ c ∈ digs n, Sign c := fun c m => .inr (digs_all n c m)
theorem wordN {n : Nat} (h : n < 10 ^ 9) : IsWord (madeN n) := ⟨102, digs n, rfl, ⟨by decide, by decide⟩, digs_sign n, Nat.le_trans (digs_len (k := 9) (by decide) h) (by decide)⟩
theorem wordP {n : Nat} (h : n < 10 ^ 9) : IsWord (madeP n) := ⟨120, digs n, rfl, ⟨by decide, by decide⟩, digs_sign n, Nat.le_trans (digs_len (k := 9) (by decide) h) (by decide)⟩
/-- x1 .. xk -/
def mps (k : Nat) : List (List Nat) := (List.range k).map fun i => madeP (i + 1)
theorem mps_len (k : Nat) : (mps k).length = k := by unfold mps; rw [List.length_map, List.length_range]
theorem mps_nodup (k : Nat) : (mps k).Nodup := List.Pairwise.map _ (fun a b (h : a ≠ b) e => h (by have := madeP_inj e; omega)) List.nodup_range
theorem mps_mem {k : Nat} {x : List Nat} (h : x ∈ mps k) : ∃ i, i < k ∧ x = madeP (i + 1) := by
  obtain ⟨i, m, e⟩ := List.mem_map.mp h
  exact ⟨i, List.mem_range.mp m, e.symm⟩
/-! ### renaming -/
mutual
def ren (s : List Nat → List Nat) : Tree → Tree
  | .w x => .w x
  | .l [] => .l []
  | .l (.l us :: ts) => .l (.l us :: ts)
  | .l (.w n :: ts) => if n = qw then .l (.w n :: ts) else .l (.w (s n) :: rens s ts)
def rens (s : List Nat → List Nat) : List Tree → List Tree
  | [] => []
  | t :: ts => ren s t :: rens s ts
end
theorem ren_w (s : List Nat → List Nat) (x : List Nat) : ren s (.w x) = .w x := by rw [ren]
theorem ren_q (s : List Nat → List Nat) (ts : List Tree) : ren s (.l (.w qw :: ts)) = .l (.w qw :: ts) := by rw [ren, if_pos rfl]
theorem ren_c {s : List Nat → List Nat} {n : List Nat} (h : n ≠ qw) (ts : List Tree) : ren s (.l (.w n :: ts)) = .l (.w (s n) :: rens s ts) := by rw [ren, if_neg h]
theorem rens_map (s : List Nat → List Nat) : ∀ ts, rens s ts = ts.map (ren s)
  | [] => by rw [rens]; rfl
  | t :: ts => by rw [rens, rens_map s ts]; rfl
theorem rens_len (s : List Nat → List Nat) (ts : List Tree) : (rens s ts).length = ts.length := by rw [rens_map, List.length_map]
mutual
theorem ren_size (s : List Nat → List Nat) : ∀ t, (ren s t).size = t.size
  | .w x => by rw [ren_w]
  | .l [] => by rw [ren]
  | .l (.l us :: ts) => by rw [ren]
  | .l (.w n :: ts) => by
    by_cases h : n = qw
    · rw [h, ren_q]
    · rw [ren_c h, size_l, size_l, sizes_cons, sizes_cons, size_w, size_w, rens_size s ts]
theorem rens_size (s : List Nat → List Nat) : ∀ ts, sizes (rens s ts) = sizes ts
  | [] => by rw [rens]
  | t :: ts => by rw [rens, sizes_cons, sizes_cons, ren_size s t, rens_size s ts]
end
mutual
theorem ren_good {fs fs' ps : List Tree} {s : List Nat → List Nat} (hc : ∀ x k, parts fs x = some k → x ≠ qw → parts fs' (s x) = some k ∧ s x ≠ qw) (hq : ∀ k, parts fs qw = some k → parts fs' qw = some k) : ∀ t, GoodE fs ps t → GoodE fs' ps (ren s t)
  | .w x, h => by rw [ren_w]; rw [goodE_w] at h ⊢; exact h
  | .l [], h => by rw [GoodE] at h; exact h.elim
  | .l (.l us :: ts), h => by rw [GoodE] at h; exact h.elim
  | .l (.w n :: ts), h => by
    rw [GoodE] at h
    obtain ⟨h1, h2⟩ := h
    by_cases e : n = qw
    · subst e
      rw [ren_q, GoodE]
      exact ⟨hq _ h1, .inl rfl⟩
    · rw [ren_c e, GoodE, rens_len]
      exact ⟨(hc _ _ h1 e).1, .inr (rens_good hc hq ts (h2.resolve_left e))⟩
theorem rens_good {fs fs' ps : List Tree} {s : List Nat → List Nat} (hc : ∀ x k, parts fs x = some k → x ≠ qw → parts fs' (s x) = some k ∧ s x ≠ qw) (hq : ∀ k, parts fs qw = some k → parts fs' qw = some k) : ∀ ts, GoodEs fs ps ts → GoodEs fs' ps (rens s ts)
  | [], h => by rw [rens, GoodEs]; trivial
  | t :: ts, h => by
    rw [GoodEs] at h
    rw [rens, GoodEs]
    exact ⟨ren_good hc hq t h.1, rens_good hc hq ts h.2⟩
end
mutual
theorem ren_wt {s : List Nat → List Nat} (hs : ∀ x, IsWord x → IsWord (s x)) : ∀ t, WT t → WT (ren s t)
  | .w x, h => by rw [ren_w]; exact h
  | .l [], h => by rw [ren]; exact h
  | .l (.l us :: ts), h => by rw [ren]; exact h
  | .l (.w n :: ts), h => by
    by_cases e : n = qw
    · rw [e, ren_q]; rw [e] at h; exact h
    · rw [ren_c e]
      exact wt_l (wts_cons (wt_w (hs n h.list.head.word)) (rens_wt hs ts h.list.tail))
theorem rens_wt {s : List Nat → List Nat} (hs : ∀ x, IsWord x → IsWord (s x)) : ∀ ts, WTs ts → WTs (rens s ts)
  | [], h => by rw [rens]; exact wts_nil
  | t :: ts, h => by rw [rens]; exact wts_cons (ren_wt hs t h.head) (rens_wt hs ts h.tail)
end
/-- the names of a program, from a start on -/
def sig (ns : List (List Nat)) (start : Nat) (x : List Nat) : List Nat := if x ∈ ns then madeN (start + ns.idxOf x) else x
section
variable {α : Type}
def renF (ns : List (List Nat)) (start : Nat) (f : List Nat × α × Tree) : List Nat × α × Tree := (sig ns start f.1, f.2.1, ren (sig ns start) f.2.2)
/-- a program renamed -/
def renL (L : List (List Nat × α × Tree)) (start : Nat) : List (List Nat × α × Tree) := L.map (renF (L.map (·.1)) start)
theorem renL_len (L : List (List Nat × α × Tree)) (start : Nat) : (renL L start).length = L.length := List.length_map ..
theorem sig_in {ns : List (List Nat)} {start : Nat} {x : List Nat} (h : x ∈ ns) : sig ns start x = madeN (start + ns.idxOf x) := if_pos h
theorem sig_out {ns : List (List Nat)} {start : Nat} {x : List Nat} (h : x ∉ ns) : sig ns start x = x := if_neg h
theorem renL_names {L : List (List Nat × α × Tree)} (nd : (L.map (·.1)).Nodup) (start : Nat) : (renL L start).map (·.1) = (List.range L.length).map fun i => madeN (start + i) := by
  refine List.ext_getElem? fun i => ?_
  unfold renL
  rw [List.getElem?_map, List.getElem?_map, List.getElem?_map]
  by_cases h : i < L.length
  · rw [List.getElem?_eq_getElem h, List.getElem?_range h]
    show some (sig _ start L[i].1) = some (madeN (start + i))
    have hm : L[i].1 ∈ L.map (·.1) := List.mem_map.mpr ⟨_, List.getElem_mem h, rfl⟩
    rw [sig_in hm]
    have e : (L.map (·.1))[i]? = some L[i].1 := by rw [List.getElem?_map, List.getElem?_eq_getElem h]; rfl
    have l : i < (L.map (·.1)).length := by rw [List.length_map]; exact h
    have e2 : (L.map (·.1))[i] = L[i].1 := Option.some.inj ((List.getElem?_eq_getElem l).symm.trans e)
    rw [← e2, nd.idxOf_getElem i l]
  · rw [List.getElem?_eq_none (by omega), List.getElem?_eq_none (by rw [List.length_range]; omega)]
    rfl
end
theorem sig_word {ns : List (List Nat)} {start : Nat} (h : start + ns.length < 10 ^ 9) {x : List Nat} (wx : IsWord x) : IsWord (sig ns start x) := by
  by_cases m : x ∈ ns
  · rw [sig_in m]
    exact wordN (by have := List.idxOf_lt_length_of_mem m; omega)
  · rw [sig_out m]; exact wx
theorem arity_some : ∀ {L : List Fn} {x : List Nat} {k : Nat}, arity (L.map fnt) x = some k → ∃ f ∈ L, f.1 = x ∧ f.2.1.length = k
  | [], _, _, h => by cases h
  | g :: L, x, k, h => by
    rw [List.map_cons, arity, fn?_fnt] at h
    have h' : (if g.1 = x then some g.2.1.length else arity (L.map fnt) x) = some k := h
    by_cases e : g.1 = x
    · rw [if_pos e] at h'
      exact ⟨g, List.mem_cons_self .., e, Option.some.inj h'⟩
    · rw [if_neg e] at h'
      obtain ⟨f, m, a, b⟩ := arity_some h'
      exact ⟨f, List.mem_cons_of_mem _ m, a, b⟩
/-- what is renamed is good in each program that holds it -/
theorem renL_in {L F : List Fn} {start : Nat} (h : GoodL L) (sub : ∀ f ∈ renL L start, f ∈ F) : ∀ f ∈ renL L start, GoodPs f.2.1 ∧ GoodIn (sigs F) f.2.1 f.2.2 := by
  intro f m
  obtain ⟨g, mg, rfl⟩ := List.mem_map.mp m
  refine ⟨h.ps g mg, fun fs' hc => ?_⟩
  have spq : spAr qw = some 1 := by decide +kernel
  refine ren_good (fs := L.map fnt) (fun x k hx nq => ?_) (fun k hk => ?_) g.2.2 (h.ex g mg _ h.calls)
  · unfold parts at hx
    cases es : spAr x with
    | some j =>
      rw [es] at hx
      have nm : x ∉ L.map (·.1) := fun m => by
        obtain ⟨f, mf, e⟩ := List.mem_map.mp m
        have := (h.nm f mf).1
        rw [e, es] at this
        cases this
      rw [sig_out nm]
      exact ⟨by unfold parts; rw [es]; exact hx, nq⟩
    | none =>
      rw [es] at hx
      obtain ⟨f, mf, e1, e2⟩ := arity_some hx
      have mx : x ∈ L.map (·.1) := by rw [← e1]; exact List.mem_map.mpr ⟨f, mf, rfl⟩
      have mF : renF (L.map (·.1)) start f ∈ F := sub _ (List.mem_map.mpr ⟨f, mf, rfl⟩)
      have := hc (sig (L.map (·.1)) start x, k) (List.mem_map.mpr ⟨_, mF, by show (sig _ start f.1, f.2.1.length) = _; rw [e1, e2]⟩)
      refine ⟨this, fun z => ?_⟩
      rw [sig_in mx] at z
      have a := spAr_made (start + (L.map (·.1)).idxOf x)
      rw [z, spq] at a
      cases a
  · unfold parts at hk ⊢
    rw [spq] at hk ⊢
    exact hk
/-- programs side by side -/
def sides {α : Type} : List (List (List Nat × α × Tree)) → Nat → List (List Nat × α × Tree)
  | [], _ => []
  | L :: Ls, s => renL L s ++ sides Ls (s + L.length)
def tot {α : Type} : List (List (List Nat × α × Tree)) → Nat
  | [] => 0
  | L :: Ls => L.length + tot Ls
theorem sides_len {α : Type} : ∀ (Ls : List (List (List Nat × α × Tree))) (s : Nat), (sides Ls s).length = tot Ls
  | [], _ => rfl
  | L :: Ls, s => by rw [sides, List.length_append, renL_len, sides_len Ls, tot]
theorem sides_names {α : Type} : ∀ {Ls : List (List (List Nat × α × Tree))} (s : Nat), (∀ L ∈ Ls, (L.map (·.1)).Nodup) → (sides Ls s).map (·.1) = (List.range (tot Ls)).map fun i => madeN (s + i)
  | [], s, _ => rfl
  | L :: Ls, s, h => by
    rw [sides, List.map_append, renL_names (h L (List.mem_cons_self ..)), sides_names (s + L.length) fun M m => h M (List.mem_cons_of_mem _ m), tot, List.range_add, List.map_append, List.map_map]
    congr 1
    refine List.map_congr_left fun i _ => ?_
    show madeN (s + L.length + i) = madeN (s + (L.length + i))
    rw [Nat.add_assoc]
theorem sides_in : ∀ {Ls : List (List Fn)} {F : List Fn} {s : Nat}, (∀ L ∈ Ls, GoodL L) → (∀ f ∈ sides Ls s, f ∈ F) → ∀ f ∈ sides Ls s, GoodPs f.2.1 ∧ GoodIn (sigs F) f.2.1 f.2.2
  | [], F, s, _, _ => fun f m => absurd m (List.not_mem_nil)
  | L :: Ls, F, s, h, sub => fun f m => by
    rw [sides] at m sub
    rcases List.mem_append.mp m with m | m
    · exact renL_in (h L (List.mem_cons_self ..)) (fun g mg => sub g (List.mem_append_left _ mg)) f m
    · exact sides_in (fun M mM => h M (List.mem_cons_of_mem _ mM)) (fun g mg => sub g (List.mem_append_right _ mg)) f m
/-- good programs side by side, and a function in front -/
def fronted {α : Type} (Ls : List (List (List Nat × α × Tree))) (ps : α) (b : Tree) : List (List Nat × α × Tree) := (madeN (tot Ls), ps, b) :: sides Ls 0
theorem fronted_good {Ls : List (List Fn)} {ps : List Tree} {b : Tree} (h : ∀ L ∈ Ls, GoodL L) (gp : GoodPs ps) (gb : GoodIn (sigs (fronted Ls ps b)) ps b) : GoodL (fronted Ls ps b) := by
  have nms : (fronted Ls ps b).map (·.1) = madeN (tot Ls) :: (List.range (tot Ls)).map fun i => madeN (0 + i) := by
    unfold fronted
    rw [List.map_cons, sides_names 0 fun L m => (h L m).nd]
  have len : (fronted Ls ps b).length = tot Ls + 1 := by
    unfold fronted
    rw [List.length_cons, sides_len]
  have sd := sides_in (F := fronted Ls ps b) (s := 0) h fun f m => List.mem_cons_of_mem _ m
  refine ⟨?_, fun f m => ?_, fun f m => ?_, fun f m => ?_⟩
  · rw [nms, List.nodup_cons]
    refine ⟨fun m => ?_, List.Pairwise.map _ (fun a b (h : a ≠ b) e => h (by have := madeN_inj e; omega)) List.nodup_range⟩
    obtain ⟨i, mi, e⟩ := List.mem_map.mp m
    have := madeN_inj e
    have := List.mem_range.mp mi
    omega
  · rw [len]
    have : f.1 ∈ (fronted Ls ps b).map (·.1) := List.mem_map.mpr ⟨f, m, rfl⟩
    rw [nms] at this
    rcases List.mem_cons.mp this with e | m2
    · rw [e]; exact goodName_made (by omega)
    · obtain ⟨i, mi, e⟩ := List.mem_map.mp m2
      have := List.mem_range.mp mi
      rw [← e]
      exact goodName_made (by omega)
  · rcases List.mem_cons.mp m with e | m2
    · rw [e]; exact gp
    · exact (sd f m2).1
  · rcases List.mem_cons.mp m with e | m2
    · rw [e]; exact gb
    · exact (sd f m2).2
end Og

namespace Og
open PySem PySem.Spec PyProof.Rows L2
/-! ### programs as values; where g, the parameters are pinned -/
theorem mp_imp {α β : Type} {R R' : α → β → Prop} (f : ∀ a b, R a b → R' a b) : ∀ {as : List α} {bs : List β}, Paired R as bs → Paired R' as bs
  | _, _, .nil => .nil
  | _, _, .cons h t => .cons (f _ _ h) (mp_imp f t)
theorem mp_len {α β : Type} {R : α → β → Prop} : ∀ {as : List α} {bs : List β}, Paired R as bs → as.length = bs.length
  | _, _, .nil => rfl
  | _, _, .cons _ t => by rw [List.length_cons, List.length_cons, mp_len t]
theorem mp_app {α β : Type} {R : α → β → Prop} : ∀ {as as' : List α} {bs bs' : List β}, Paired R as bs → Paired R as' bs' → Paired R (as ++ as') (bs ++ bs')
  | _, _, _, _, .nil, h => h
  | _, _, _, _, .cons a t, h => .cons a (mp_app t h)
theorem mp_at {α β : Type} {R : α → β → Prop} : ∀ {as : List α} {bs : List β} {i : Nat} {a : α}, Paired R as bs → as[i]? = some a → ∃ b, bs[i]? = some b ∧ R a b
  | _, _, 0, _, .cons h _, e => by cases e; exact ⟨_, rfl, h⟩
  | _, _, i + 1, _, .cons _ t, e => mp_at (i := i) t e
def MfV (g : Prop) (K : PySem.W.Frag) (H : Hp) (v : V) (f : Fn) : Prop := ∃ (a : Addr) (vp vb : V), v = .ref a ∧ SqT K H a [.str (tx f.1), vp, vb] ∧ Tr K H vp (.l f.2.1) ∧ (g → FzT H vp) ∧ Tr K H vb f.2.2
def MpV (g : Prop) (K : PySem.W.Frag) (H : Hp) (v : V) (L : List Fn) : Prop := ∃ (a : Addr) (vs : List V), v = .ref a ∧ SqT K H a vs ∧ Paired (MfV g K H) vs L
theorem MfV.keep {g : Prop} {K : PySem.W.Frag} {H H1 : Hp} {v : V} {f : Fn} (h : MfV g K H v f) (k : Keep [] H H1) : MfV g K H1 v f := by
  obtain ⟨a, vp, vb, rfl, s, tp, fz, tb⟩ := h
  exact ⟨a, vp, vb, rfl, k.sqT s, tp.keep k, fun x => (fz x).kp (Kp.of k), tb.keep k⟩
theorem MpV.keep {g : Prop} {K : PySem.W.Frag} {H H1 : Hp} {v : V} {L : List Fn} (h : MpV g K H v L) (k : Keep [] H H1) : MpV g K H1 v L := by
  obtain ⟨a, vs, rfl, s, p⟩ := h
  exact ⟨a, vs, rfl, k.sqT s, mp_imp (fun _ _ x => x.keep k) p⟩
theorem MfV.kp {g : Prop} {K : PySem.W.Frag} {S : List Addr} {H H1 : Hp} {v : V} {f : Fn} (h : MfV g K H v f) (k : Keep S H H1) : MfV g K H1 v f := by
  obtain ⟨a, vp, vb, rfl, s, tp, fz, tb⟩ := h
  exact ⟨a, vp, vb, rfl, k.sqT s, tp.keep k, fun x => (fz x).kp (Kp.of k), tb.keep k⟩
theorem MfV.tr {g : Prop} {K : PySem.W.Frag} {H : Hp} {v : V} {f : Fn} (h : MfV g K H v f) : Tr K H v (fnt f) := by
  obtain ⟨a, vp, vb, rfl, s, tp, _, tb⟩ := h
  exact tr_l s (trs_cons tr_w (trs_cons tp (Trs.one tb)))
theorem mfs_tr {g : Prop} {K : PySem.W.Frag} {H : Hp} : ∀ {vs : List V} {L : List Fn}, Paired (MfV g K H) vs L → Trs K H vs (L.map fnt)
  | _, _, .nil => trs_nil
  | _, _, .cons h t => trs_cons h.tr (mfs_tr t)
theorem MpV.tr {g : Prop} {K : PySem.W.Frag} {H : Hp} {v : V} {L : List Fn} (h : MpV g K H v L) : Tr K H v (.l (L.map fnt)) := by
  obtain ⟨a, vs, rfl, s, p⟩ := h
  exact tr_l s (mfs_tr p)
end Og

namespace L2
open PySem PySem.Spec PyProof.Rows
section
variable {X : Cx}
/-- y = {k: v for ..} -/
theorem ps_setDc {i : Nat} {y : Str} {py : Pos} {kx vx tg iter : Expr} {ifs : List Expr} {scope : Scope} {own : List (Str × Nat)} {pos spos : Pos} {wi : TI} {g : TG} {tt : TT} {tk tv : TE} (hc : X.calm = true) (hN : X.N.Nodup) (hy : X.N[i]? = some y) (hyl : X.env.scope.names.lookup y = some .local)
    (hsw : swapsWith (.DictComp kx vx [⟨tg, iter, ifs, 0⟩] scope pos) (some (.Name y py)) spos.line X.env = pure true) (hi : PI X tg iter wi) (ok : BlkOk X.N X.env.scope scope own)
    (hg : ∀ (s : Shared) (H : Hp) (C : Addr) (cl : List (Str × Addr)) (fp : List Addr), PG (X.blk s H scope (compEnvC scope cl C X.env) fp) tg g) (ht : ∀ (s : Shared) (H : Hp) (C : Addr) (cl : List (Str × Addr)) (fp : List Addr), PTs (X.blk s H scope (compEnvC scope cl C X.env) fp) ifs tt)
    (hk : ∀ (s : Shared) (H : Hp) (C : Addr) (cl : List (Str × Addr)) (fp : List Addr), PE (X.blk s H scope (compEnvC scope cl C X.env) fp) kx tk)
    (he : ∀ (s : Shared) (H : Hp) (C : Addr) (cl : List (Str × Addr)) (fp : List Addr), PE (X.blk s H scope (compEnvC scope cl C X.env) fp) vx tv) (hs : ∀ x, foldedSetIterable iter X.env x = pure x := by intro _; rfl) :
    PS X (.Assign [.Name y py] (.DictComp kx vx [⟨tg, iter, ifs, 0⟩] scope pos) spos) (tAsg (tDc wi g tt tk tv (own.map (·.2))) (gName i)) := by
  refine ⟨fun pins s σ H D I h => ?_⟩
  rw [exec_Assign_Name_used _ _ _ _ hsw]
  refine wpAny_bind (wpAny_standAt (wpAny_bind ?_))
  show wpAny _ X.A (do let _ ← comprehension (.DictComp kx vx [⟨tg, iter, ifs, 0⟩] scope pos) scope X.env (firstIterPos [⟨tg, iter, ifs, 0⟩] pos) newDict false (eval iter X.env) (some (assign (.Name y py) X.env))) _ _ s
  have h : tDc wi g tt tk tv (own.map (·.2)) σ H (fun x H1 => gName i x σ H1 D.nx) := h
  refine wpAny_bind (thn (dc_core (Qf := fun _ s' => SP X pins D .next s') hc hN I hi ok hg ht hk he hs h fun L C s' m H' I' q hn f => ?_) fun _ s' hq => wpAny_pure (wpAny_pure hq))
  show wpAny _ _ (assign (.Name y py) X.env (.ref L)) _ _ _
  refine wpAny_assign_Name (store_ok2 (v := V.ref L) I' hN hy (.inl hyl) rfl (fun s2 I2 ⟨a, sb, ha⟩ => ?_) (.inr hyl))
  obtain ⟨f0, f1, f2, f3, f4, f5⟩ := f
  have haC : C ≠ a := by
    rcases ha with z | z
    · rw [z]; exact f1
    · exact fun e => f4 y a z e.symm
  refine ⟨m, hn.sameBut sb haC, fun h3 sb3 => ?_⟩
  exact ⟨_, H', I2.turned (t' := s2.toks) (fun b o hb e => (sb3.2 b hb).trans e) f0 f1 f3 f4 f5, q⟩
theorem sw_trueD {kx vx : Expr} {gs : List Comprehension} {scope : Scope} {pos py : Pos} {y : Str} {l : Nat} {env : Env} (hk : env.scope.kind = .function) (hy : env.scope.names.lookup y = some .local) (hl : (py.line == pos.line) = true)
    (ha : (scope.names.any fun (n, k) => n == y && (k == .local || k == .cell)) = false) : swapsWith (.DictComp kx vx gs scope pos) (some (.Name y py)) l env = pure true := by
  have ky : env.kindOf y = some .local := hy
  have hb : env.blockKind = .function := by unfold Env.blockKind; rw [hk]; rfl
  unfold swapsWith
  simp only [hb, ky, ha, Expr.pos, hl]
  rfl
end
end L2

namespace L2
open PySem PySem.Spec PyProof.Rows
/-- for .. in x, x a list or a tuple -/
def iLT (K : PySem.W.Frag) (tl : TE) : TI := fun σ H R => tl σ H fun x H1 => ∃ a, x = .ref a ∧ (((∃ xs, SqL K H1 a xs) ∧ R (Itl K a) H1) ∨ ((∃ xs, SqT K H1 a xs) ∧ R (Itt K a) H1))
section
variable {X : Cx} {tg : Expr}
theorem pi_lt {l : Expr} {tl : TE} (hl : PE X l tl) : PI X tg l (iLT X.K tl) := by
  refine ⟨fun pins s σ H R I h => ?_⟩
  refine thn (hl.run pins s σ H _ I h) fun v s1 ⟨x, H1, I1, r1, q1⟩ => ?_
  obtain ⟨a, e, q⟩ := q1
  subst e
  cases r1
  have fp : ∀ b ∈ [s1.heap.objs.size], FpOk X pins H1 b := fun b hb => by
    have e : b = s1.heap.objs.size := by simpa using hb
    subst e
    exact I1.fpOk (Nat.le_refl _) (I1.hok.fresh (Nat.le_refl _))
  rcases q with ⟨⟨xs, hq⟩, q⟩ | ⟨⟨xs, hq⟩, q⟩
  · obtain ⟨its, rv, p, hz⟩ := I1.list hq
    refine wpAny_pyIter_list p.isList ?_
    exact ⟨s1.heap.objs.size, [s1.heap.objs.size], _, _, H1, rfl, I1.kept (t' := s1.toks) fun b o e => Heap.get?_push_of_some _ e, turn_list a _, ⟨_, Heap.get?_push_size _ rfl, rfl, rfl⟩, fp, q⟩
  · obtain ⟨its, rv, p, hz⟩ := I1.tuple hq
    refine wpAny_pyIter_tuple (show s1.heap.IsTuple a its.toArray from p) ?_
    exact ⟨s1.heap.objs.size, [s1.heap.objs.size], _, _, H1, rfl, I1.kept (t' := s1.toks) fun b o e => Heap.get?_push_of_some _ e, turn_tuple a _, ⟨_, Heap.get?_push_size _ rfl, rfl, rfl⟩, fp, q⟩
end
end L2

namespace Og
open PySem PySem.Spec PyProof.Rows L2
section
variable {P : Program} {w : World} {K : PySem.W.Frag} {mg : Str → Option Value} {base : Heap}
theorem lit_f1 : ("f" : Str) = tx [102] := by decide +kernel
theorem lit_x1 : ("x" : Str) = tx [120] := by decide +kernel
theorem fmt_eq (c n : Nat) : Str.empty ++ tx [c] ++ Str.ofString (toString ((n : Nat) : Int)) = tx (c :: digs n) := by
  rw [str_digs, show Str.empty = tx [] from rfl, tx_app, tx_app]
  rfl
theorem fmt_ok {n : Nat} (h : n < 100000000) : ((n : Nat) : Int).natAbs.log2 < 1920 := (num_fits (i := (n : Int)) (by rw [Int.natAbs_natCast]; omega)).2
theorem fmt_ln {c n : Nat} (h : n < 100000000) : (Str.empty ++ tx [c] ++ Str.ofString (toString ((n : Nat) : Int))).length ≤ sizeLine := by
  rw [fmt_eq, tx_len, List.length_cons]
  have := digs_len (k := 8) (by decide) h
  exact Nat.le_trans (show _ ≤ 100 by omega) (by decide)
def spMade : Sp := fun vs H Q _ => ∃ n : Nat, vs = [.int n] ∧ n < 100000000 ∧ Q (.str (tx (madeN n))) H
theorem has_madeName {k : Nat} (D : DefAt K mg "made_name" s_made_name p_made_name) (B : Bn mg) : Has P w K mg base (k + 1) "made_name" p_made_name spMade := by
  obtain ⟨f, fd, F, hm, hb⟩ := D.ex
  refine ⟨f, fd, F.ok sc_made_name (fun vs H Q E h => ?_) (fun cdv A outer s H vs Q E hr h => ?_), hm, F.kp, hb⟩
  · obtain ⟨_, rfl, _⟩ := h
    rfl
  obtain ⟨n, rfl, hn, q⟩ := h
  refine ⟨_, (pss_one (ps_ret (pe_joined (.cons pe_str (.cons (pe_fmt (pv 0)) .nil))))), ?_⟩
  rw [lit_f1]
  refine ⟨_, rfl, by decide +kernel, _, rfl, .inr ⟨_, rfl, fmt_ok hn, _, rfl, fmt_ln hn, ?_⟩⟩
  rw [fmt_eq]
  exact q
/-- a tuple made of a list, pinned -/
theorem call_tuple_ofF {X : Cx} : CallR X (.type "tuple") (fun xs H Q => ∃ p ys, xs = [.ref p] ∧ SqL X.K H p ys ∧ ∀ (l : Addr) (o : Obj), H l = none → o.dict = none → Q (.ref l) (upd H l (.frz o (.tup ys)))) := by
  intro pins s σ H xs us Q I r h
  obtain ⟨p, ys, rfl, hq, q⟩ := h
  obtain ⟨u, rfl, rx⟩ := vals1 r
  cases rx
  obtain ⟨its, r', pl, hz⟩ := I.list hq
  have hlen := r'.length
  refine call_tuple_list pl.isList (fun h' kp => ?_) (by simp only [List.size_toArray] <;> omega)
  have I1 : Inv X pins σ H { s with heap := h' } := I.kept (t' := s.toks) kp
  have I2 : Inv X pins σ (upd H h'.objs.size (.frz { cls := .type "tuple", data := .seq its.toArray } (.tup ys))) { s with heap := h'.push { cls := .type "tuple", data := .seq its.toArray } } :=
    I1.laid (t' := s.toks) (fun b o e => Heap.get?_push_of_some _ e) (Nat.le_refl _) ⟨Heap.get?_push_size _ rfl, hz, its, r', ⟨_, Heap.get?_push_size _ rfl, rfl, _, rfl⟩⟩
  exact ⟨.ref h'.objs.size, _, I2, rfl, q _ _ (I1.hok.fresh (Nat.le_refl _)) rfl⟩
theorem tr_frz {K : PySem.W.Frag} {H : Hp} {a : Addr} {o : Obj} {vs : List V} {ts : List Tree} (h : H a = some (.frz o (.tup vs))) (r : Trs K H vs ts) : Tr K H (.ref a) (.l ts) := tr_l (.inl (.inr ⟨o, h⟩)) r
theorem mps_get {k i : Nat} (h : i < k) : (mps k)[i]? = some (madeP (i + 1)) := by
  unfold mps
  rw [List.getElem?_map, List.getElem?_range h]
  rfl
def spMPars (K : PySem.W.Frag) : Sp := fun vs H Q _ => ∃ n : Nat, vs = [.int n] ∧ n < 1000 ∧ ∀ (v : V) (H' : Hp), Tr K H' v (.l ((mps n).map Tree.w)) → FzT H' v → Keep [] H H' → Q v H'
theorem has_madePars {k : Nat} (D : DefAt K mg "made_parameters" s_made_parameters p_made_parameters) (B : Bn mg) : Has P w K mg base (k + 1) "made_parameters" p_made_parameters (spMPars K) := by
  obtain ⟨f, fd, F, hm, hb⟩ := D.ex
  refine ⟨f, fd, F.ok sc_made_parameters (fun vs H Q E h => ?_) (fun cdv A outer s H vs Q E hr h => ?_), hm, F.kp, hb⟩
  · obtain ⟨_, rfl, _⟩ := h
    rfl
  obtain ⟨n, rfl, hn, q⟩ := h
  refine ⟨_, (pss_one (ps_ret (pe_callTy call_tuple_ofF (by rfl) B.tuple (by decide +kernel) (pa_cons (pe_lc (own := [("number", 1)]) (g := gName 1) (tt := tYes) rfl sc_made_parameters.nd (pi_range2 (by rfl) B.range (pa_cons pe_int (pa_cons (pe_op op_add (pv 0) pe_int) pa_nil))) (blkOk_by (N := n_made_parameters) (sc := defScope s_made_parameters) (by decide +kernel)) (fun _ _ _ _ _ => pg_name (i := 1) sc_made_parameters.nd rfl (Or.inl rfl)) (fun _ _ _ _ _ => pts_nil) (fun _ _ _ _ _ => (pe_joined (.cons pe_str (.cons (pe_fmt (pv 1)) .nil))))) pa_nil)))), ?_⟩
  rw [lit_x1]
  refine ⟨_, rfl, _, _, rfl, rfl, _, _, rfl, ⟨by omega, by omega, by omega, by omega⟩, fun L nL => ?_⟩
  have e1 : (((n : Nat) : Int) + 1 - 1).toNat = n := by omega
  refine lc_range (te := fun σ H Q => tJs [tC (.str (tx [120])), tFmt (tVar 1)] Str.empty σ H fun out H1 => Q (.str out) H1) (lo := 1) (n := (((n : Nat) : Int) + 1 - 1).toNat) (fun i H' => Keep [] H H' ∧ H' L = some (.lst (((mps n).take i).map fun x => V.str (tx x)))) ⟨Keep.new nL, upd_same⟩ (fun i H1 hi p => ?_) (fun H1 p => ?_)
  · obtain ⟨k1, eL⟩ := p
    have hi' : i < n := by omega
    refine ⟨rfl, yes ?_⟩
    have ei : (1 : Int) + (i : Int) = ((i + 1 : Nat) : Int) := by omega
    rw [ei]
    refine ⟨_, rfl, by decide +kernel, _, rfl, .inr ⟨_, rfl, fmt_ok (by omega), _, rfl, fmt_ln (by omega), ?_⟩⟩
    rw [fmt_eq]
    have kL : Keep [L] H1 (upd H1 L (.lst (((mps n).take i).map (fun x => V.str (tx x)) ++ [.str (tx (madeP (i + 1)))]))) := Keep.set eL (List.mem_cons_self ..)
    refine ⟨_, eL, Nat.lt_of_le_of_lt (show _ ≤ 1000 by rw [List.length_map, List.length_take, mps_len]; omega) (by decide), (k1.cons.trans kL).drop nL, ?_⟩
    show upd _ _ _ _ = _
    rw [upd_same, List.take_add_one, mps_get hi', List.map_append]
    rfl
  · obtain ⟨k1, eL⟩ := p
    rw [e1, List.take_of_length_le (by rw [mps_len]; exact Nat.le_refl _)] at eL
    refine ⟨L, _, rfl, SqL.of eL, fun l o nl od => ?_⟩
    have r : ∀ G : Hp, ∀ xs : List (List Nat), Trs K G (xs.map fun x => V.str (tx x)) (xs.map Tree.w) := fun G xs => by
      induction xs with
      | nil => exact trs_nil
      | cons x xs ih => exact trs_cons tr_w ih
    exact q _ _ (tr_frz upd_same (r _ _)) ⟨l, o, _, rfl, upd_same, od⟩ (k1.newT nl)
end
end Og

namespace Og
open PySem PySem.Spec PyProof.Rows L2
def ClsN (H : Hp) (cl : Addr) (n : Nat) (cs : Cs) : Prop := ∃ cvs : List V, H cl = some (.lst cvs) ∧ cvs.length ≤ n ∧ ∀ c ∈ cvs, ∃ (a : Addr) (nm : List Nat) (m : Nat), c = .ref a ∧ H a = some (.tup [.str (tx nm), .int m]) ∧ IsWord nm ∧ m ≤ 4 ∧ (nm, m) ∈ cs
theorem ClsN.to {H : Hp} {cl : Addr} {n : Nat} {cs : Cs} (h : ClsN H cl n cs) (l : n ≤ 10) : Cls H cl cs := by
  obtain ⟨cvs, e, k, q⟩ := h
  exact ⟨cvs, e, Nat.le_trans k l, q⟩
theorem ClsN.keep {S : List Addr} {H H1 : Hp} {cl : Addr} {m : Nat} {cs : Cs} (h : ClsN H cl m cs) (k : Keep S H H1) (n : cl ∉ S) : ClsN H1 cl m cs := by
  obtain ⟨cvs, e, l, q⟩ := h
  refine ⟨cvs, k.get e n, l, fun c m => ?_⟩
  obtain ⟨a, nm, j, e1, e2, e3, e4⟩ := q c m
  exact ⟨a, nm, j, e1, k.tup e2, e3, e4⟩
/-- rows of written words -/
def ws (L : List (List Nat)) : List Tree := L.map Tree.w
theorem trs_ws {K : PySem.W.Frag} {H : Hp} : ∀ {L : List (List Nat)}, Trs K H (L.map fun c => V.str (tx c)) (ws L)
  | [] => trs_nil
  | x :: L => trs_cons tr_w (trs_ws (L := L))
theorem ws_w {L : List (List Nat)} : ∀ t ∈ ws L, t.isW = true := fun t m => by
  obtain ⟨x, _, rfl⟩ := List.mem_map.mp m
  rfl
theorem ws_wt {L : List (List Nat)} (h : L.all isWordB = true) : ∀ t ∈ ws L, WT t := fun t m => by
  obtain ⟨x, hx, rfl⟩ := List.mem_map.mp m
  exact wt_w (isWord_of (List.all_eq_true.mp h x hx))
/-! ### the functions of a drawn program -/
def toFn : Tree → Fn
  | .l [.w n, .l ps, b] => (n, ps, b)
  | _ => ([], [], .l [])
def libs : Nat → List Fn
  | 0 => [toFn tHas, toFn tWithin]
  | 1 => [toFn tPut, toFn tTurn]
  | _ => [toFn tPut]
def laters : List (List Nat) := [[108, 97, 116, 101, 114], [113], [122, 122]]
def mainW : List Nat := [109, 97, 105, 110]
def xywv : List (List Nat) := [[120], [121], [119], [118]]
/-- its parameters are words of one letter -/
def Short (f : Fn) : Prop := ∀ p ∈ f.2.1, ∃ c : Nat, p = .w [c]
theorem short_ws {n : List Nat} {L M : List (List Nat)} {b : Tree} (h : ∀ x ∈ L, x ∈ M) (hM : M.all (fun x => decide (x.length = 1)) = true) : Short (n, ws L, b) := fun p m => by
  obtain ⟨x, hx, rfl⟩ := List.mem_map.mp m
  have := of_decide_eq_true (List.all_eq_true.mp hM x (h x hx))
  match x, this with
  | [c], _ => exact ⟨c, rfl⟩
/-- a function that is good where what cs tells may be called, but for its name being another's -/
def FnOkIn (cs : Cs) (f : Fn) : Prop := spAr f.1 = none ∧ f.1.head? ≠ some 102 ∧ GoodPs f.2.1 ∧ GoodIn cs f.2.1 f.2.2 ∧ Short f
theorem FnOkIn.mono {cs ds : Cs} {f : Fn} (h : FnOkIn cs f) (l : ∀ c ∈ cs, c ∈ ds) : FnOkIn ds f := ⟨h.1, h.2.1, h.2.2.1, h.2.2.2.1.mono l, h.2.2.2.2⟩
theorem sigs_mem {L M : List Fn} (h : ∀ f ∈ L, f ∈ M) : ∀ c ∈ sigs L, c ∈ sigs M := fun c m => by
  obtain ⟨f, mf, rfl⟩ := List.mem_map.mp m
  exact List.mem_map.mpr ⟨f, h f mf, rfl⟩
theorem libs_nodup : ∀ j, j < 3 → ∀ i, i ≤ 3 → (mainW :: ((libs j).map (·.1) ++ laters.take i)).Nodup ∧ (mainW :: (laters.take i ++ (libs j).map (·.1))).Nodup := by decide +kernel
theorem laters_ok : ∀ x ∈ laters, spAr x = none ∧ x.head? ≠ some 102 := by decide +kernel
theorem goodPs_take {L : List (List Nat)} (l : L.length ≤ 12) (nd : L.Nodup) (ns : ∀ x ∈ L, spAr x = none) (k : Nat) : GoodPs (ws (L.take k)) :=
  goodPs_of (Nat.le_trans (by rw [List.length_take]; exact Nat.min_le_right ..) l) (nd.sublist (List.take_sublist ..)) fun x m => ns x (List.mem_of_mem_take m)
theorem libs_ok : ∀ j, j < 3 → ∀ f ∈ libs j, FnOkIn (sigs (libs j)) f := by
  have wv : GoodPs (ws [[119], [118]]) := goodPs_of (by decide) (by decide) (by decide +kernel)
  have vl : GoodPs (ws [[118], [108]]) := goodPs_of (by decide) (by decide) (by decide +kernel)
  have l1 : GoodPs (ws [[108]]) := goodPs_of (by decide) (by decide) (by decide +kernel)
  intro j hj f m
  have c : j = 0 ∨ j = 1 ∨ j = 2 := by omega
  rcases c with rfl | rfl | rfl
  · rcases List.mem_cons.mp m with e | m
    · rw [e]; exact ⟨by decide +kernel, by decide, wv, good_of (by decide +kernel), short_ws (L := [[119], [118]]) (M := [[119], [118]]) (fun x h => h) (by decide)⟩
    · rw [List.mem_singleton.mp m]; exact ⟨by decide +kernel, by decide, wv, good_of (by decide +kernel), short_ws (L := [[119], [118]]) (M := [[119], [118]]) (fun x h => h) (by decide)⟩
  · rcases List.mem_cons.mp m with e | m
    · rw [e]; exact ⟨by decide +kernel, by decide, vl, good_of (by decide +kernel), short_ws (L := [[118], [108]]) (M := [[118], [108]]) (fun x h => h) (by decide)⟩
    · rw [List.mem_singleton.mp m]; exact ⟨by decide +kernel, by decide, l1, good_of (by decide +kernel), short_ws (L := [[108]]) (M := [[108]]) (fun x h => h) (by decide)⟩
  · rw [List.mem_singleton.mp m]; exact ⟨by decide +kernel, by decide, vl, good_of (by decide +kernel), short_ws (L := [[118], [108]]) (M := [[118], [108]]) (fun x h => h) (by decide)⟩
/-- what the drawing of programs promises: the main function, of so many parameters, ahead of others -/
def ProgOk (n : Nat) (fs : List Tree) : Prop := ∃ (b : Tree) (Lr : List Fn), fs = ((mainW, ws (xywv.take n), b) :: Lr).map fnt ∧ GoodL ((mainW, ws (xywv.take n), b) :: Lr) ∧ ∀ f ∈ (mainW, ws (xywv.take n), b) :: Lr, Short f
theorem progOk {n : Nat} {b : Tree} {Lz Lf Lr : List Fn} (nd : (mainW :: Lr.map (·.1)).Nodup) (hb : GoodIn (sigs (Lz ++ Lf)) (ws (xywv.take n)) b) (hz : ∀ f ∈ Lz, FnOkIn (sigs Lz) f) (hf : ∀ f ∈ Lf, FnOkIn (sigs (Lz ++ Lf)) f) (hm : ∀ f, f ∈ Lr ↔ f ∈ Lz ++ Lf) :
    GoodL ((mainW, ws (xywv.take n), b) :: Lr) ∧ ∀ f ∈ (mainW, ws (xywv.take n), b) :: Lr, Short f := by
  have sub : ∀ c ∈ sigs (Lz ++ Lf), c ∈ sigs ((mainW, ws (xywv.take n), b) :: Lr) := sigs_mem fun f m => List.mem_cons_of_mem _ ((hm f).mpr m)
  have all : ∀ f ∈ (mainW, ws (xywv.take n), b) :: Lr, FnOkIn (sigs ((mainW, ws (xywv.take n), b) :: Lr)) f := fun f m => by
    rcases List.mem_cons.mp m with e | m
    · rw [e]
      exact ⟨by show spAr mainW = none; decide +kernel, by show mainW.head? ≠ some 102; decide, goodPs_take (by decide) (by decide) (by decide +kernel) n, hb.mono sub, short_ws (M := xywv) (fun x h => List.mem_of_mem_take h) (by decide)⟩
    · rcases List.mem_append.mp ((hm f).mp m) with m | m
      · exact (hz f m).mono fun c mc => sub c (sigs_mem (fun f m => List.mem_append_left _ m) c mc)
      · exact (hf f m).mono sub
  exact ⟨⟨nd, fun f m => goodName_plain (all f m).1 (all f m).2.1, fun f m => (all f m).2.2.1, fun f m => (all f m).2.2.2.1⟩, fun f m => (all f m).2.2.2.2⟩
end Og

namespace Og
open PySem PySem.Spec PyProof.Rows L2
/-! ### written functions, their parameters pinned; rows of functions put together -/
def tLF (K : PySem.W.Frag) (f : Fn) : TE := fun _ H Q => ∀ (v : V) (H' : Hp), MfV True K H' v f → Keep [] H H' → Q v H'
theorem pe_lfn {X : Cx} {s : Str} {k k1 k2 : Nat} {pos pos1 pos2 : Pos} {x : List Nat} {es : List Expr} {ps : List Tree} {eb : Expr} {b : Tree} (h : s = tx x) (hp : PA X es (tLs X.K ps)) (hb : PE X eb (tL X.K b)) (l : ps.length ≤ sizeLine)
    (s1 : starEach [eb] X.env = (false, eval eb X.env) :: starEach [] X.env := by rfl)
    (s2 : starEach [.Tuple es k1 pos1, eb] X.env = (false, eval (.Tuple es k1 pos1) X.env) :: starEach [eb] X.env := by rfl)
    (s3 : starEach [.Constant (.str s) k2 pos2, .Tuple es k1 pos1, eb] X.env = (false, eval (.Constant (.str s) k2 pos2) X.env) :: starEach [.Tuple es k1 pos1, eb] X.env := by rfl) :
    PE X (.Tuple [.Constant (.str s) k2 pos2, .Tuple es k1 pos1, eb] k pos) (tLF X.K (x, ps, b)) :=
  pe_weak (pe_tup (pa_cons pe_str (pa_cons (pe_tupF hp) (pa_cons hb pa_nil s1) s2) s3)) fun σ H Q q => by
    refine fun us H1 tus k1 => ⟨by rw [tus.length]; exact l, fun p o np od => ?_⟩
    have kp : Keep [] H1 (upd H1 p (.frz o (.tup us))) := Keep.new np
    have ep : (upd H1 p (.frz o (.tup us))) p = some (.frz o (.tup us)) := upd_same
    generalize upd H1 p (.frz o (.tup us)) = H2 at kp ep
    refine fun v H3 tv k3 => ⟨by show (3 : Nat) ≤ sizeLine; decide, fun u nu => ?_⟩
    have ku : Keep [] H3 (upd H3 u (.tup [.str s, .ref p, v])) := Keep.new nu
    have e3 : (upd H3 u (.tup [.str s, .ref p, v])) p = some (.frz o (.tup us)) := (k3.trans ku).get ep (by simp)
    refine q _ _ ⟨u, .ref p, v, rfl, SqT.of_tup (by rw [← h]; exact upd_same), tr_frz e3 (((tus.keep kp).keep k3).keep ku), fun _ => ⟨p, o, us, rfl, e3, od⟩, tv.keep ku⟩ (((k1.trans kp).trans k3).trans ku)
theorem mk_mp {g : Prop} {K : PySem.W.Frag} {H : Hp} {p : Addr} {vs : List V} {L : List Fn} (np : H p = none) (r : Paired (MfV g K H) vs L) : MpV g K (upd H p (.tup vs)) (.ref p) L ∧ Keep [] H (upd H p (.tup vs)) :=
  ⟨⟨p, vs, rfl, SqT.of_tup upd_same, mp_imp (fun _ _ x => x.keep (Keep.new (S := []) np)) r⟩, Keep.new np⟩
theorem cat_mp {g : Prop} {K : PySem.W.Frag} {H : Hp} {x y : V} {L M : List Fn} {Q : VK} (hx : MpV g K H x L) (hy : MpV g K H y M) (hz : L.length + M.length ≤ sizeLine) (q : ∀ v H', MpV g K H' v (L ++ M) → Keep [] H H' → Q v H') : rCatA K x y H Q := by
  obtain ⟨a, vs, rfl, hs, r⟩ := id hx
  obtain ⟨b, ws, rfl, hs2, r2⟩ := id hy
  refine ⟨a, b, vs, ws, rfl, rfl, hs, hs2, by rw [mp_len r, mp_len r2]; exact hz, fun e => ?_, fun _ e => ?_, fun _ _ p np => ?_⟩
  · subst e
    have : L = [] := List.length_eq_zero_iff.mp (mp_len r).symm
    subst this
    exact q _ _ hy Keep.refl
  · subst e
    have : M = [] := List.length_eq_zero_iff.mp (mp_len r2).symm
    subst this
    rw [List.append_nil] at q
    exact q _ _ hx Keep.refl
  · exact q _ _ (mk_mp np (mp_app r r2)).1 (Keep.new np)
theorem toFn_l {f : Fn} : toFn (fnt f) = f := rfl
/-- a row of values of functions, by hand -/
theorem mp_one {g : Prop} {K : PySem.W.Frag} {H : Hp} {v : V} {f : Fn} (h : MfV g K H v f) : Paired (MfV g K H) [v] [f] := .cons h .nil
theorem mp_two {g : Prop} {K : PySem.W.Frag} {H : Hp} {v u : V} {f e : Fn} (h : MfV g K H v f) (h2 : MfV g K H u e) : Paired (MfV g K H) [v, u] [f, e] := .cons h (.cons h2 .nil)
section
variable {P : Program} {w : World} {K : PySem.W.Frag} {mg : Str → Option Value} {base : Heap}
def spLibF (K : PySem.W.Frag) : Sp := fun vs H Q _ => vs = [] ∧ ∀ (p : Addr) (a b c : V) (H' : Hp), H p = none → H' p = some (.lst [a, b, c]) → MpV True K H' a (libs 0) → MpV True K H' b (libs 1) → MpV True K H' c (libs 2) → Keep [] H H' → Q (.ref p) H'
theorem has_libF {k : Nat} (D : DefAt K mg "_law_library" s_law_library p_law_library) (B : Bn mg) : Has P w K mg base (k + 1) "_law_library" p_law_library (spLibF K) := by
  obtain ⟨f, fd, F, hm, hb⟩ := D.ex
  refine ⟨f, fd, F.ok sc_law_library (fun vs H Q E h => ?_) (fun cdv A outer s H vs Q E hr h => ?_), hm, F.kp, hb⟩
  · obtain ⟨rfl, _⟩ := h
    rfl
  obtain ⟨rfl, q⟩ := h
  refine ⟨_, (pss_cons (ps_set (i := 0) sc_law_library.nd rfl (.inl rfl) (pe_lfn (x := [104, 97, 115]) (by decide +kernel) (pl_cons (pe_lw (x := [119]) (by decide +kernel)) (pl_cons (pe_lw (x := [118]) (by decide +kernel)) pl_nil)) (pe_lt (pl_cons (pe_lw (x := [105, 102]) (by decide +kernel)) (pl_cons (pe_lt (pl_cons (pe_lw (x := [115, 97, 109, 101]) (by decide +kernel)) (pl_cons (pe_lw (x := [119]) (by decide +kernel)) (pl_cons (pe_lw (x := [118]) (by decide +kernel)) pl_nil))) (by show 3 ≤ sizeLine; decide)) (pl_cons (pe_lt (pl_cons (pe_lw (x := [113, 117, 111, 116, 101]) (by decide +kernel)) (pl_cons (pe_lw (x := [121, 101, 115]) (by decide +kernel)) pl_nil)) (by show 2 ≤ sizeLine; decide)) (pl_cons (pe_lt (pl_cons (pe_lw (x := [119, 105, 116, 104, 105, 110]) (by decide +kernel)) (pl_cons (pe_lw (x := [119]) (by decide +kernel)) (pl_cons (pe_lw (x := [118]) (by decide +kernel)) pl_nil))) (by show 3 ≤ sizeLine; decide)) pl_nil)))) (by show 4 ≤ sizeLine; decide)) (by show 2 ≤ sizeLine; decide)))
    (pss_cons (ps_set (i := 1) sc_law_library.nd rfl (.inl rfl) (pe_lfn (x := [119, 105, 116, 104, 105, 110]) (by decide +kernel) (pl_cons (pe_lw (x := [119]) (by decide +kernel)) (pl_cons (pe_lw (x := [118]) (by decide +kernel)) pl_nil)) (pe_lt (pl_cons (pe_lw (x := [105, 102]) (by decide +kernel)) (pl_cons (pe_lw (x := [118]) (by decide +kernel)) (pl_cons (pe_lt (pl_cons (pe_lw (x := [105, 102]) (by decide +kernel)) (pl_cons (pe_lt (pl_cons (pe_lw (x := [104, 97, 115]) (by decide +kernel)) (pl_cons (pe_lw (x := [119]) (by decide +kernel)) (pl_cons (pe_lt (pl_cons (pe_lw (x := [104, 101, 97, 100]) (by decide +kernel)) (pl_cons (pe_lw (x := [118]) (by decide +kernel)) pl_nil)) (by show 2 ≤ sizeLine; decide)) pl_nil))) (by show 3 ≤ sizeLine; decide)) (pl_cons (pe_lt (pl_cons (pe_lw (x := [113, 117, 111, 116, 101]) (by decide +kernel)) (pl_cons (pe_lw (x := [121, 101, 115]) (by decide +kernel)) pl_nil)) (by show 2 ≤ sizeLine; decide)) (pl_cons (pe_lt (pl_cons (pe_lw (x := [119, 105, 116, 104, 105, 110]) (by decide +kernel)) (pl_cons (pe_lw (x := [119]) (by decide +kernel)) (pl_cons (pe_lt (pl_cons (pe_lw (x := [116, 97, 105, 108]) (by decide +kernel)) (pl_cons (pe_lw (x := [118]) (by decide +kernel)) pl_nil)) (by show 2 ≤ sizeLine; decide)) pl_nil))) (by show 3 ≤ sizeLine; decide)) pl_nil)))) (by show 4 ≤ sizeLine; decide)) (pl_cons (pe_lt (pl_cons (pe_lw (x := [113, 117, 111, 116, 101]) (by decide +kernel)) (pl_cons (pe_lt pl_nil (by show 0 ≤ sizeLine; decide)) pl_nil)) (by show 2 ≤ sizeLine; decide)) pl_nil)))) (by show 4 ≤ sizeLine; decide)) (by show 2 ≤ sizeLine; decide)))
    (pss_cons (ps_set (i := 2) sc_law_library.nd rfl (.inl rfl) (pe_lfn (x := [112, 117, 116]) (by decide +kernel) (pl_cons (pe_lw (x := [118]) (by decide +kernel)) (pl_cons (pe_lw (x := [108]) (by decide +kernel)) pl_nil)) (pe_lt (pl_cons (pe_lw (x := [105, 102]) (by decide +kernel)) (pl_cons (pe_lw (x := [108]) (by decide +kernel)) (pl_cons (pe_lt (pl_cons (pe_lw (x := [106, 111, 105, 110]) (by decide +kernel)) (pl_cons (pe_lt (pl_cons (pe_lw (x := [104, 101, 97, 100]) (by decide +kernel)) (pl_cons (pe_lw (x := [108]) (by decide +kernel)) pl_nil)) (by show 2 ≤ sizeLine; decide)) (pl_cons (pe_lt (pl_cons (pe_lw (x := [112, 117, 116]) (by decide +kernel)) (pl_cons (pe_lw (x := [118]) (by decide +kernel)) (pl_cons (pe_lt (pl_cons (pe_lw (x := [116, 97, 105, 108]) (by decide +kernel)) (pl_cons (pe_lw (x := [108]) (by decide +kernel)) pl_nil)) (by show 2 ≤ sizeLine; decide)) pl_nil))) (by show 3 ≤ sizeLine; decide)) pl_nil))) (by show 3 ≤ sizeLine; decide)) (pl_cons (pe_lt (pl_cons (pe_lw (x := [106, 111, 105, 110]) (by decide +kernel)) (pl_cons (pe_lw (x := [118]) (by decide +kernel)) (pl_cons (pe_lt (pl_cons (pe_lw (x := [113, 117, 111, 116, 101]) (by decide +kernel)) (pl_cons (pe_lt pl_nil (by show 0 ≤ sizeLine; decide)) pl_nil)) (by show 2 ≤ sizeLine; decide)) pl_nil))) (by show 3 ≤ sizeLine; decide)) pl_nil)))) (by show 4 ≤ sizeLine; decide)) (by show 2 ≤ sizeLine; decide)))
    (pss_cons (ps_set (i := 3) sc_law_library.nd rfl (.inl rfl) (pe_lfn (x := [116, 117, 114, 110]) (by decide +kernel) (pl_cons (pe_lw (x := [108]) (by decide +kernel)) pl_nil) (pe_lt (pl_cons (pe_lw (x := [105, 102]) (by decide +kernel)) (pl_cons (pe_lw (x := [108]) (by decide +kernel)) (pl_cons (pe_lt (pl_cons (pe_lw (x := [112, 117, 116]) (by decide +kernel)) (pl_cons (pe_lt (pl_cons (pe_lw (x := [104, 101, 97, 100]) (by decide +kernel)) (pl_cons (pe_lw (x := [108]) (by decide +kernel)) pl_nil)) (by show 2 ≤ sizeLine; decide)) (pl_cons (pe_lt (pl_cons (pe_lw (x := [116, 117, 114, 110]) (by decide +kernel)) (pl_cons (pe_lt (pl_cons (pe_lw (x := [116, 97, 105, 108]) (by decide +kernel)) (pl_cons (pe_lw (x := [108]) (by decide +kernel)) pl_nil)) (by show 2 ≤ sizeLine; decide)) pl_nil)) (by show 2 ≤ sizeLine; decide)) pl_nil))) (by show 3 ≤ sizeLine; decide)) (pl_cons (pe_lt (pl_cons (pe_lw (x := [113, 117, 111, 116, 101]) (by decide +kernel)) (pl_cons (pe_lt pl_nil (by show 0 ≤ sizeLine; decide)) pl_nil)) (by show 2 ≤ sizeLine; decide)) pl_nil)))) (by show 4 ≤ sizeLine; decide)) (by show 1 ≤ sizeLine; decide)))
    (pss_one (ps_ret (pe_lst (pa_cons (pe_tup (pa_cons (pv 0) (pa_cons (pv 1) pa_nil))) (pa_cons (pe_tup (pa_cons (pv 2) (pa_cons (pv 3) pa_nil))) (pa_cons (pe_tup (pa_cons (pv 2) pa_nil)) pa_nil)))))))))), ?_⟩
  refine fun v0 H1 t0 k1 => ?_
  refine fun v1 H2 t1 k2 => ?_
  refine fun v2 H3 t2 k3 => ?_
  refine fun v3 H4 t3 k4 => ?_
  have r0 := ((t0.keep k2).keep k3).keep k4
  have r1 := (t1.keep k3).keep k4
  have r2 := t2.keep k4
  have r3 := t3
  have k14 := ((k1.trans k2).trans k3).trans k4
  refine ⟨_, rfl, _, rfl, by show (2 : Nat) ≤ sizeLine; decide, fun p1 n1 => ?_⟩
  obtain ⟨tm1, km1⟩ := mk_mp (K := K) (H := H4) n1 (mp_two r0 r1)
  generalize upd H4 p1 (.tup [v0, v1]) = H5 at tm1 km1
  refine ⟨_, rfl, _, rfl, by show (2 : Nat) ≤ sizeLine; decide, fun p2 n2 => ?_⟩
  obtain ⟨tm2, km2⟩ := mk_mp (K := K) (H := H5) n2 (mp_two (r2.keep km1) (r3.keep km1))
  generalize upd H5 p2 (.tup [v2, v3]) = H6 at tm2 km2
  refine ⟨_, rfl, by show (1 : Nat) ≤ sizeLine; decide, fun p3 n3 => ?_⟩
  obtain ⟨tm3, km3⟩ := mk_mp (K := K) (H := H6) n3 (mp_one ((r2.keep km1).keep km2))
  generalize upd H6 p3 (.tup [v2]) = H7 at tm3 km3
  refine ⟨by show (3 : Nat) ≤ sizeLine; decide, fun p np => ?_⟩
  have k17 := ((k14.trans km1).trans km2).trans km3
  have kn : Keep [] H7 (upd H7 p (.lst [.ref p1, .ref p2, .ref p3])) := Keep.new np
  exact q p _ _ _ _ (k17.free np) upd_same (((tm1.keep km2).keep km3).keep kn) ((tm2.keep km3).keep kn) (tm3.keep kn) (k17.trans kn)
end
end Og

namespace Og
open PySem PySem.Spec PyProof.Rows L2
theorem MpV.kp0 {g : Prop} {K : PySem.W.Frag} {S : List Addr} {H H1 : Hp} {v : V} {L : List Fn} (h : MpV g K H v L) (k : Keep S H H1) : MpV g K H1 v L := by
  obtain ⟨a, vs, rfl, s, p⟩ := h
  exact ⟨a, vs, rfl, k.sqT s, mp_imp (fun _ _ x => x.kp k) p⟩
theorem mk_trF {K : PySem.W.Frag} {H : Hp} {p : Addr} {o : Obj} {vs : List V} {ts : List Tree} (np : H p = none) (r : Trs K H vs ts) : Tr K (upd H p (.frz o (.tup vs))) (.ref p) (.l ts) ∧ Keep [] H (upd H p (.frz o (.tup vs))) ∧ (upd H p (.frz o (.tup vs))) p = some (.frz o (.tup vs)) :=
  ⟨tr_frz upd_same (r.keep (Keep.new (S := []) np)), Keep.new np, upd_same⟩
section
variable {P : Program} {w : World} {K : PySem.W.Frag} {mg : Str → Option Value} {base : Heap}
def pnames : List (List Nat) := mainW :: (laters ++ [[104, 97, 115], [119, 105, 116, 104, 105, 110], [112, 117, 116], [116, 117, 114, 110]])
theorem libs_names : ∀ j, j < 3 → ∀ f ∈ libs j, f.1 ∈ pnames := by
  intro j hj f m
  have c : j = 0 ∨ j = 1 ∨ j = 2 := by omega
  rcases c with rfl | rfl | rfl
  · rcases List.mem_cons.mp m with e | m
    · rw [e]; decide +kernel
    · rw [List.mem_singleton.mp m]; decide +kernel
  · rcases List.mem_cons.mp m with e | m
    · rw [e]; decide +kernel
    · rw [List.mem_singleton.mp m]; decide +kernel
  · rw [List.mem_singleton.mp m]; decide +kernel
theorem later_names {x : List Nat} (h : x ∈ laters) : x ∈ pnames := List.mem_cons_of_mem _ (List.mem_append_left _ h)
/-- how a drawn program is layered: the library, then functions that call what stands ahead of them, then the main one -/
def LayF (n : Nat) (L : List Fn) : Prop := ∃ (b : Tree) (jl : Nat) (Lf : List Fn), jl < 3 ∧ Lf.length ≤ 2 ∧ (∀ i f, Lf[i]? = some f → FnOkIn (sigs (libs jl ++ Lf.take i)) f ∧ Deep 5 f.2.2) ∧ GoodIn (sigs (libs jl ++ Lf)) (ws (xywv.take n)) b ∧ Deep 6 b ∧ L[0]? = some (mainW, ws (xywv.take n), b) ∧ (∀ f ∈ libs jl ++ Lf, f ∈ L) ∧ ((libs jl ++ Lf).map (·.1)).Nodup
def ProgF (n : Nat) (L : List Fn) : Prop := (∃ (b : Tree) (Lr : List Fn), L = (mainW, ws (xywv.take n), b) :: Lr) ∧ GoodL L ∧ (∀ f ∈ L, Short f) ∧ (∀ f ∈ L, FnT (fnt f)) ∧ L.length ≤ 5 ∧ (∀ f ∈ L, f.1 ∈ pnames) ∧ LayF n L
def spProgF (K : PySem.W.Frag) : Sp := fun vs H Q _ => ∃ (h d : Addr) (n : Nat), vs = [.ref h, .int n] ∧ Hd H h d ∧ n ≤ 4 ∧
  ∀ (v : V) (L : List Fn) (H' : Hp), MpV True K H' v L → ProgF n L → Keep [h] H H' → Hd H' h d → Q v H'
theorem has_progF {k : Nat} (D : DefAt K mg "_law_program" s_law_program p_law_program) (B : Bn mg) (c1 : Has P w K mg base k "_law_take" p_law_take spTake) (c2 : Has P w K mg base k "_law_library" p_law_library (spLibF K)) (c3 : Has P w K mg base k "_law_expression" p_law_expression (fun vs H Q E => ∃ n, n ≤ 3 ∧ spExpr K n vs H Q E)) :
    Has P w K mg base (k + 1) "_law_program" p_law_program (spProgF K) := by
  obtain ⟨f, fd, F, hm, hb⟩ := D.ex
  obtain ⟨_, _, c_law_take⟩ := c1
  obtain ⟨_, _, c_law_library⟩ := c2
  obtain ⟨_, _, c_law_expression⟩ := c3
  refine ⟨f, fd, F.ok sc_law_program (fun vs H Q E h => ?_) (fun cdv A outer s H vs Q E hr h => ?_), hm, F.kp, hb⟩
  · obtain ⟨_, _, _, rfl, _⟩ := h
    rfl
  obtain ⟨a, d, n, rfl, hd, hn, q⟩ := h
  refine ⟨_, (pss_cons (ps_set (i := 2) sc_law_program.nd rfl (.inl rfl) (pe_ix ix_list (cal0 c_law_library hr) (cal c_law_take hr rfl (pa_cons (pv 0) (pa_cons pe_int pa_nil))) (fun _ _ => rfl)))
    (pss_cons (ps_setLc (i := 3) (own := [("one", 4)]) (g := gName 4) (tt := tYes) rfl sc_law_program.nd rfl rfl (sw_true rfl rfl rfl (by decide +kernel)) (pi_tup (pv 2)) (blkOk_by (N := n_law_program) (sc := defScope s_law_program) (by decide +kernel)) (fun _ _ _ _ _ => pg_name (i := 4) sc_law_program.nd rfl (Or.inl rfl)) (fun _ _ _ _ _ => pts_nil) (fun _ _ _ _ _ => (pe_tup (pa_cons (pe_ix (show IxR _ (rIxT K) from ix_tup) (pv 4) pe_int (fun _ _ => rfl)) (pa_cons (pe_callB (show CallR _ _ (rLenK K) from call_len_seq) (by rfl) B.len PySem.boot_len (pa_cons (pe_ix (show IxR _ (rIxT K) from ix_tup) (pv 4) pe_int (fun _ _ => rfl)) pa_nil)) pa_nil)))))
    (pss_cons (ps_set (i := 5) sc_law_program.nd rfl (.inl rfl) (pe_lst pa_nil))
    (pss_cons (ps_for PassesOwn.never rfl (pi_range1 (by rfl) B.range (pa_cons (cal c_law_take hr rfl (pa_cons (pv 0) (pa_cons pe_int pa_nil))) pa_nil)) (pg_name (i := 6) sc_law_program.nd rfl (.inl rfl))
      (pss_cons (ps_set (i := 7) sc_law_program.nd rfl (.inl rfl) (pe_ix ix_list (pe_lst (pa_cons pe_str (pa_cons pe_str (pa_cons pe_str pa_nil)))) (pv 6) (fun _ _ => rfl)))
      (pss_cons (ps_set (i := 8) sc_law_program.nd rfl (.inl rfl) (pe_callTy call_tuple_ofF (by rfl) B.tuple (by decide +kernel) (pa_cons (pe_slice sl_list (pe_lst (pa_cons pe_str (pa_cons pe_str (pa_cons pe_str pa_nil)))) po_none (po_some (pe_op op_add pe_int (cal c_law_take hr rfl (pa_cons (pv 0) (pa_cons pe_int pa_nil)))))) pa_nil)))
      (pss_cons (ps_expr (pe_bm PySem.F.plainAttrs_list PySem.F.slot_list_append PySem.F.type_list_append mt_append (pv 5) (pa_cons (pe_tup (pa_cons (pv 7) (pa_cons (pv 8) (pa_cons (cal c_law_expression hr rfl (pa_cons (pv 0) (pa_cons (pv 8) (pa_cons (pv 3) (pa_cons pe_int pa_nil))))) pa_nil)))) pa_nil)))
      (pss_one (ps_expr (pe_bm PySem.F.plainAttrs_list PySem.F.slot_list_append PySem.F.type_list_append mt_append (pv 3) (pa_cons (pe_tup (pa_cons (pv 7) (pa_cons (pe_callB call_len_seq (by rfl) B.len PySem.boot_len (pa_cons (pv 8) pa_nil)) pa_nil))) pa_nil))))))))
    (pss_cons (ps_set (i := 8) sc_law_program.nd rfl (.inl rfl) (pe_callTy call_tuple_ofF (by rfl) B.tuple (by decide +kernel) (pa_cons (pe_slice sl_list (pe_lst (pa_cons pe_str (pa_cons pe_str (pa_cons pe_str (pa_cons pe_str pa_nil))))) po_none (po_some (pv 1))) pa_nil)))
    (pss_cons (ps_set (i := 9) sc_law_program.nd rfl (.inl rfl) (pe_tup (pa_cons pe_str (pa_cons (pv 8) (pa_cons (cal c_law_expression hr rfl (pa_cons (pv 0) (pa_cons (pv 8) (pa_cons (pv 3) (pa_cons pe_int pa_nil))))) pa_nil)))))
    (pss_cons (ps_if (pt_cmpR op_eq (cal c_law_take hr rfl (pa_cons (pv 0) (pa_cons pe_int pa_nil))) pe_int (nomark _)) (pss_one (ps_ret (pe_op op_catA (pe_op op_catA (pe_tup (pa_cons (pv 9) pa_nil)) (pv 2)) (pe_callTy call_tuple_of (by rfl) B.tuple (by decide +kernel) (pa_cons (pv 5) pa_nil))))) pss_nil)
    (pss_one (ps_ret (pe_op op_catA (pe_op op_catA (pe_tup (pa_cons (pv 9) pa_nil)) (pe_callTy call_tuple_of (by rfl) B.tuple (by decide +kernel) (pa_cons (pv 5) pa_nil))) (pv 2))))))))))), ?_⟩
  -- more
  refine ⟨rfl, fun p va vb vc H1 np ep ta tb tc k1 => ?_⟩
  have pa : p ≠ a := (hd.neH np).symm
  refine ⟨_, rfl, a, d, 3, rfl, hd.keep0 k1, by decide, fun j H2 j0 j1 k2 hd2 => ?_⟩
  have hz : ∃ z jl, atI [va, vb, vc] j = some z ∧ MpV True K H2 z (libs jl) ∧ (∀ f ∈ libs jl, FnT (fnt f)) ∧ (libs jl).length ≤ 2 ∧ jl < 3 := by
    have c : j = 0 ∨ j = 1 ∨ j = 2 := by omega
    rcases c with rfl | rfl | rfl
    · refine ⟨_, 0, rfl, ta.kp0 k2, fun t m => ?_, by decide, by decide⟩
      rcases List.mem_cons.mp m with e | m
      · rw [e]; exact fn_has
      · rw [List.mem_singleton.mp m]; exact fn_within
    · refine ⟨_, 1, rfl, tb.kp0 k2, fun t m => ?_, by decide, by decide⟩
      rcases List.mem_cons.mp m with e | m
      · rw [e]; exact fn_put
      · rw [List.mem_singleton.mp m]; exact fn_turn
    · refine ⟨_, 2, rfl, tc.kp0 k2, fun t m => ?_, by decide, by decide⟩
      rw [List.mem_singleton.mp m]; exact fn_put
  obtain ⟨z, jl, hz1, tz, fnl, l2, jl3⟩ := hz
  have lok := libs_ok jl jl3
  have lnd := libs_nodup jl jl3
  have lnm := libs_names jl jl3
  generalize hLz : libs jl = Lz at tz fnl l2 lok lnd lnm
  refine ⟨p, _, _, z, rfl, rfl, SqL.of (k2.get ep (by simpa using pa)), hz1, ?_⟩
  have k12 : Keep [a] H H2 := (k1.mono (by simp)).trans k2
  -- calls
  have tz0 := tz
  obtain ⟨za, zvs, rfl, hZ, rZ⟩ := tz
  have lz := mp_len rZ
  refine ⟨_, rfl, za, rfl, ⟨_, hZ⟩, fun L nL => ?_⟩
  have La : L ≠ a := (hd2.neH nL).symm
  have Ld : L ≠ d := (hd2.neD nL).symm
  have nL0 : H L = none := k12.free nL
  refine lc_tup (K := K) (a := za) (xs := zvs) (fun i H' => Keep [] H2 H' ∧ ClsN H' L i (sigs Lz)) ⟨Keep.new nL, [], upd_same, Nat.le_refl _, fun c m => absurd m (List.not_mem_nil)⟩ (fun i H' _ p => p.1.sqT hZ) (fun i x H3 hx p => ?_) (fun H3 p => ?_)
  · obtain ⟨k3, cvs, ec, lc, each⟩ := p
    have il : i < zvs.length := (List.getElem?_eq_some_iff.mp hx).1
    obtain ⟨g, hgz, mz⟩ := mp_at rZ hx
    have mgz := List.mem_of_getElem? hgz
    obtain ⟨nm, ps, b, et, wt, pw, lp, dp, sz⟩ := fnl _ mgz
    have e1 := Tree.w.inj (List.cons.inj (Tree.l.inj et)).1
    have e2 := Tree.l.inj (List.cons.inj (List.cons.inj (Tree.l.inj et)).2).1
    rw [et] at wt
    obtain ⟨oa, vp, z0, rfl, hO, r1, _, r2⟩ := mz.keep k3
    rw [e1] at hO
    rw [e2] at r1
    obtain ⟨pp, pvs, rfl, hP, rP⟩ := r1.list
    refine ⟨rfl, yes ?_⟩
    refine ⟨_, rfl, oa, _, _, _, rfl, rfl, hO, atI_zero _ _, _, rfl, oa, _, _, _, rfl, rfl, hO, rfl, pp, pvs, rfl, .inr hP, by show (2 : Nat) ≤ sizeLine; decide, fun T nT => ?_⟩
    have kT : Keep [] H3 (upd H3 T (.tup [.str (tx nm), .int (pvs.length : Nat)])) := Keep.new nT
    have eT : (upd H3 T (.tup [.str (tx nm), .int (pvs.length : Nat)])) T = some (.tup [.str (tx nm), .int (pvs.length : Nat)]) := upd_same
    generalize upd H3 T (.tup [.str (tx nm), .int (pvs.length : Nat)]) = H4 at kT eT
    have ec4 := kT.get ec (by simp)
    have kL : Keep [L] H4 (upd H4 L (.lst (cvs ++ [.ref T]))) := Keep.set ec4 (List.mem_cons_self ..)
    refine ⟨cvs, ec4, Nat.lt_of_le_of_lt (show cvs.length ≤ 10 by omega) (by decide), ((k3.trans kT).cons.trans kL).drop nL, cvs ++ [.ref T], upd_same, by rw [List.length_append, List.length_singleton]; omega, fun c m => ?_⟩
    rcases List.mem_append.mp m with m | m
    · obtain ⟨ca, cn, cm, e1, e2, e3, e4⟩ := each c m
      exact ⟨ca, cn, cm, e1, kL.tup (kT.tup e2), e3, e4⟩
    · rw [List.mem_singleton.mp m]
      refine ⟨T, nm, pvs.length, rfl, kL.tup eT, wt.list.head.word, by rw [rP.length]; exact lp, ?_⟩
      refine List.mem_map.mpr ⟨g, mgz, ?_⟩
      rw [rP.length, ← e2, ← e1]
  obtain ⟨k3, cls3⟩ := p
  have hd3 := hd2.keep0 k3
  have k13 := k12.trans (k3.mono (by simp : ∀ x ∈ ([] : List Addr), x ∈ [a]))
  -- functions
  refine ⟨Nat.zero_le _, fun F nF => ?_⟩
  have FL : L ≠ F := let ⟨_, ec, _⟩ := cls3; ne_of_none ec nF
  have Fa : F ≠ a := (hd3.neH nF).symm
  have Fd : F ≠ d := (hd3.neD nF).symm
  have nF0 : H F = none := k13.free nF
  have kF : Keep [] H3 (upd H3 F (.lst [])) := Keep.new nF
  have eF : (upd H3 F (.lst [])) F = some (.lst []) := upd_same
  generalize upd H3 F (.lst []) = H4 at kF eF
  have k14 := k13.trans (kF.mono (by simp : ∀ x ∈ ([] : List Addr), x ∈ [a]))
  -- the loop
  refine ⟨_, rfl, a, d, 3, rfl, hd3.keep0 kF, by decide, fun m H5 m0 m1 k5 hd5 => ?_⟩
  refine ⟨_, rfl, by omega, by omega, ?_⟩
  have zt4 : MpV True K H4 (.ref za) Lz := (tz0.keep k3).keep kF
  refine for_range (lo := 0) (n := m.toNat) (fun i σ H' => ∃ (y6 y7 y8 : Option V) (fvs : List V) (Lf : List Fn), σ = [some (.ref a), some (.int n), some (.ref za), some (.ref L), none, some (.ref F), y6, y7, y8, none] ∧ Keep [a] H H' ∧ Hd H' a d ∧ (ClsN H' L (2 + i) (sigs (Lz ++ Lf)) ∧ Lf.map (·.1) = laters.take i ∧ (∀ f ∈ Lf, FnOkIn (sigs (Lz ++ Lf)) f) ∧ ∀ j f, Lf[j]? = some f → FnOkIn (sigs (Lz ++ Lf.take j)) f ∧ Deep 5 f.2.2) ∧ H' F = some (.lst fvs) ∧ Paired (MfV True K H') fvs Lf ∧ (∀ f ∈ Lf, FnT (fnt f)) ∧ Lf.length = i ∧ MpV True K H' (.ref za) Lz)
    ⟨none, none, none, [], [], rfl, k14.trans k5, hd5, ?_, k5.get eF (by simpa using Fa), .nil, fun t m => absurd m (List.not_mem_nil), rfl, zt4.kp0 k5⟩ (fun i σ H6 hi pw => ?_) (fun σ H6 pw => ?_)
  · obtain ⟨cvs, ec, lc, each⟩ := (cls3.keep kF (by simp)).keep k5 (by simpa using La)
    exact ⟨by rw [List.append_nil]; exact ⟨cvs, ec, by omega, each⟩, rfl, fun f m => absurd m (List.not_mem_nil), fun j f h => by cases h⟩
  · obtain ⟨y6, y7, y8, fvs, Lf, rfl, k6, hd6, ⟨cls6, enm, okf, lay⟩, eF6, rF, fnF, lF, zt6⟩ := pw
    have i3 : i < 3 := by omega
    -- name
    refine ⟨by show (3 : Nat) ≤ sizeLine; decide, fun p1 np1 => ?_⟩
    have kn1 : Keep [] H6 (upd H6 p1 (.lst [.str "later", .str "q", .str "zz"])) := Keep.new np1
    have en1 : (upd H6 p1 (.lst [.str "later", .str "q", .str "zz"])) p1 = some (.lst [.str "later", .str "q", .str "zz"]) := upd_same
    generalize upd H6 p1 (.lst [.str "later", .str "q", .str "zz"]) = H7 at kn1 en1
    obtain ⟨nm, hnm⟩ : ∃ nm, laters[i]? = some nm := ⟨_, List.getElem?_eq_getElem (by show i < 3; omega)⟩
    have hc : atI [V.str "later", .str "q", .str "zz"] (0 + (i : Int)) = some (.str (tx nm)) := by
      rw [show (0 : Int) + (i : Int) = (i : Int) by omega, show [V.str "later", .str "q", .str "zz"] = laters.map (fun c => V.str (tx c)) by decide +kernel]
      exact atI_nat (by rw [List.getElem?_map, hnm]; rfl)
    have wn : IsWord nm := isWord_of (List.all_eq_true.mp (show laters.all isWordB = true by decide) nm (List.mem_of_getElem? hnm))
    have okn := laters_ok nm (List.mem_of_getElem? hnm)
    refine ⟨_, rfl, p1, _, _, _, rfl, rfl, SqL.of en1, hc, ?_⟩
    -- parameters
    refine ⟨by show (3 : Nat) ≤ sizeLine; decide, fun p2 np2 => ?_⟩
    have kn2 : Keep [] H7 (upd H7 p2 (.lst [.str "a", .str "b", .str "c"])) := Keep.new np2
    have en2 : (upd H7 p2 (.lst [.str "a", .str "b", .str "c"])) p2 = some (.lst [.str "a", .str "b", .str "c"]) := upd_same
    generalize upd H7 p2 (.lst [.str "a", .str "b", .str "c"]) = H8 at kn2 en2
    have k68 := kn1.trans kn2
    have hd8 := hd6.keep0 k68
    have p2a : p2 ≠ a := by
      intro e
      obtain ⟨xs, ea⟩ := (hd6.keep0 kn1).lst
      rw [e, ea] at np2
      cases np2
    dsimp only [tNoPart]
    refine ⟨_, rfl, a, d, 3, rfl, hd8, by decide, fun j2 H9 j20 j21 k9 hd9 => ?_⟩
    refine ⟨_, _, rfl, rfl, _, rfl, p2, _, rfl, SqL.of (k9.get en2 (by simpa using p2a)), fun p3 np3 => ?_⟩
    generalize hcv : cutV [V.str "a", V.str "b", V.str "c"] none (some (1 + j2)) = cv
    have kn3 : Keep [] H9 (upd H9 p3 (.lst cv)) := Keep.new np3
    have en3 : (upd H9 p3 (.lst cv)) p3 = some (.lst cv) := upd_same
    generalize upd H9 p3 (.lst cv) = H10 at kn3 en3
    refine ⟨p3, cv, rfl, SqL.of en3, fun T oT nT odT => ?_⟩
    obtain ⟨ps, rps, pw, pwt, lps, gps, shp⟩ : ∃ ps, Trs K H10 cv ps ∧ (∀ t ∈ ps, t.isW = true) ∧ (∀ t ∈ ps, WT t) ∧ ps.length ≤ 3 ∧ GoodPs ps ∧ ∀ p ∈ ps, ∃ c : Nat, p = .w [c] := by
      refine ⟨cutL (ws [[97], [98], [99]]) none (some (1 + j2)), ?_, fun t m => ws_w t (cutL_mem m), fun t m => ws_wt (by decide) t (cutL_mem m), Nat.le_trans (cutL_len _ _ _) (by decide), ?_, fun p m => ?_⟩
      case refine_3 => exact short_ws (n := []) (b := .l []) (L := [[97], [98], [99]]) (M := [[97], [98], [99]]) (fun x h => h) (by decide) p (cutL_mem m)
      case refine_2 =>
        rw [show (1 + j2) = (((1 + j2).toNat : Nat) : Int) by omega, cutL_to _ (by show (1 + j2).toNat ≤ 3; omega)]
        rw [show List.take (1 + j2).toNat (ws [[97], [98], [99]]) = ws (List.take (1 + j2).toNat [[97], [98], [99]]) from (List.map_take ..).symm]
        exact goodPs_take (by decide) (by decide) (by decide +kernel) _
      rw [← hcv, show [V.str "a", V.str "b", V.str "c"] = [[97], [98], [99]].map (fun c => V.str (tx c)) by decide +kernel]
      exact trs_ws.cut _ _
    obtain ⟨tm, km, eTz⟩ := mk_trF (K := K) (H := H10) (o := oT) nT rps
    generalize upd H10 T (.frz oT (.tup cv)) = H11 at tm km eTz
    have fzT : FzT H11 (.ref T) := ⟨T, oT, cv, rfl, eTz, odT⟩
    have k911 := kn3.trans km
    have k611 : Keep [a] H6 H11 := ((k68.mono (by simp)).trans k9).trans (k911.mono (by simp))
    have hd11 := hd9.keep0 k911
    have eF11 := k611.get eF6 (by simpa using Fa)
    have cls11 := cls6.keep k611 (by simpa using La)
    -- functions.append
    refine ⟨_, rfl, .inl ⟨rfl, _, SqL.of eF11⟩, _, rfl, _, rfl, _, rfl, _, rfl, _, rfl, 2, by decide, a, d, L, .ref T, ps, sigs (Lz ++ Lf), rfl, hd11, tm, pw, WTs.of pwt, by omega, cls11.to (by omega), La, fun v t H12 tv wt sz dp gd k12' hd12 => ?_⟩
    refine ⟨by show (3 : Nat) ≤ sizeLine; decide, fun p4 np4 => ?_⟩
    have tT := tm.keep k12'
    have kf : Keep [] H12 (upd H12 p4 (.tup [.str (tx nm), .ref T, v])) := Keep.new np4
    have tf : MfV True K (upd H12 p4 (.tup [.str (tx nm), .ref T, v])) (.ref p4) (nm, ps, t) := ⟨p4, .ref T, v, rfl, SqT.of_tup upd_same, tT.keep kf, fun _ => fzT.kp (Kp.of (k12'.trans (kf.mono (by simp)))), tv.keep kf⟩
    generalize upd H12 p4 (.tup [.str (tx nm), .ref T, v]) = H13 at tf kf
    have k613 : Keep [a] H6 H13 := (k611.trans k12').trans (kf.mono (by simp))
    have eF13 := k613.get eF6 (by simpa using Fa)
    have hd13 := hd12.keep0 kf
    have fnew : FnT (.l [.w nm, .l ps, t]) := ⟨nm, ps, t, rfl, wt_l (wts_cons (wt_w wn) (wts_cons (wt_l (WTs.of pwt)) (wts_cons wt wts_nil))), pw, by omega, dp.mono (by decide), Nat.le_trans sz (by decide)⟩
    have lfv := mp_len rF
    refine ⟨F, fvs, _, rfl, rfl, eF13, Nat.lt_of_le_of_lt (show fvs.length ≤ 100 by omega) (by decide), ?_⟩
    have kF14 : Keep [F] H13 (upd H13 F (.lst (fvs ++ [.ref p4]))) := Keep.set eF13 (List.mem_cons_self ..)
    have eF14 : (upd H13 F (.lst (fvs ++ [.ref p4]))) F = some (.lst (fvs ++ [.ref p4])) := upd_same
    generalize upd H13 F (.lst (fvs ++ [.ref p4])) = H14 at kF14 eF14
    have hd14 := hd13.keep kF14 (by simpa using Fa.symm) (by simpa using Fd.symm)
    have cls14 := (cls6.keep k613 (by simpa using La)).keep kF14 (by simpa using FL)
    -- calls.append
    obtain ⟨cvs, ec, lc, each⟩ := cls14
    have tT14 := (tT.keep kf).keep kF14
    obtain ⟨Ta, Tvs, eTa, hT14, rT14⟩ := tT14.list
    refine ⟨_, rfl, .inl ⟨rfl, _, SqL.of ec⟩, _, rfl, _, rfl, Ta, Tvs, by rw [← eTa], .inr hT14, by show (2 : Nat) ≤ sizeLine; decide, fun p5 np5 => ?_⟩
    have k5' : Keep [] H14 (upd H14 p5 (.tup [.str (tx nm), .int (Tvs.length : Nat)])) := Keep.new np5
    have e5 : (upd H14 p5 (.tup [.str (tx nm), .int (Tvs.length : Nat)])) p5 = some (.tup [.str (tx nm), .int (Tvs.length : Nat)]) := upd_same
    generalize upd H14 p5 (.tup [.str (tx nm), .int (Tvs.length : Nat)]) = H15 at k5' e5
    have ec15 := k5'.get ec (by simp)
    refine ⟨L, cvs, _, rfl, rfl, ec15, Nat.lt_of_le_of_lt (show cvs.length ≤ 100 by omega) (by decide), ?_⟩
    have kL : Keep [L] H15 (upd H15 L (.lst (cvs ++ [.ref p5]))) := Keep.set ec15 (List.mem_cons_self ..)
    have kall : Keep [F, L] H13 (upd H15 L (.lst (cvs ++ [.ref p5]))) := ((kF14.mono (by simp)).trans (k5'.mono (by simp))).trans (kL.mono (by simp))
    have kH : Keep [a] H (upd H15 L (.lst (cvs ++ [.ref p5]))) := by
      have h1 : Keep (F :: L :: [a]) H (upd H15 L (.lst (cvs ++ [.ref p5]))) := ((k6.trans k613).mono (by simp)).trans (kall.mono (by simp))
      exact (h1.drop nF0).drop nL0
    have enm2 : (Lf ++ [(nm, ps, t)]).map (·.1) = laters.take (i + 1) := by rw [List.map_append, enm, List.take_add_one, hnm]; rfl
    have sub : ∀ c ∈ sigs (Lz ++ Lf), c ∈ sigs (Lz ++ (Lf ++ [(nm, ps, t)])) := sigs_mem fun f m => by
      rcases List.mem_append.mp m with m | m
      · exact List.mem_append_left _ m
      · exact List.mem_append_right _ (List.mem_append_left _ m)
    have lay2 : ∀ j f, (Lf ++ [(nm, ps, t)])[j]? = some f → FnOkIn (sigs (Lz ++ (Lf ++ [(nm, ps, t)]).take j)) f ∧ Deep 5 f.2.2 := fun j f hf => by
      rcases Nat.lt_or_ge j Lf.length with l | l
      · rw [List.getElem?_append_left l] at hf
        rw [List.take_append_of_le_length (by omega)]
        exact lay j f hf
      · rw [List.getElem?_append_right l] at hf
        have : j = Lf.length := by
          have := (List.getElem?_eq_some_iff.mp hf).1
          rw [List.length_singleton] at this
          omega
        subst this
        rw [Nat.sub_self] at hf
        cases hf
        rw [List.take_left']
        · exact ⟨⟨okn.1, okn.2, gps, gd, shp⟩, dp⟩
        · rfl
    have okf2 : ∀ f ∈ Lf ++ [(nm, ps, t)], FnOkIn (sigs (Lz ++ (Lf ++ [(nm, ps, t)]))) f := fun f m => by
      rcases List.mem_append.mp m with m | m
      · exact (okf f m).mono sub
      · rw [List.mem_singleton.mp m]
        exact ⟨okn.1, okn.2, gps, gd.mono sub, shp⟩
    refine ⟨_, _, _, fvs ++ [.ref p4], Lf ++ [(nm, ps, t)], rfl, kH, (hd14.keep0 k5').upd La.symm Ld.symm, ⟨⟨cvs ++ [.ref p5], upd_same, by rw [List.length_append, List.length_singleton]; omega, fun c mm => ?_⟩, enm2, okf2, lay2⟩, ?_, ?_, fun t' mm => ?_, by rw [List.length_append, List.length_singleton]; omega, (zt6.kp0 k613).kp0 kall⟩
    · rcases List.mem_append.mp mm with mm | mm
      · obtain ⟨ca, cn, cm, e1, e2, e3, e4, e5⟩ := each c mm
        exact ⟨ca, cn, cm, e1, kL.tup (k5'.tup e2), e3, e4, sub _ e5⟩
      · rw [List.mem_singleton.mp mm]
        refine ⟨p5, nm, Tvs.length, rfl, kL.tup e5, wn, by rw [rT14.length]; omega, ?_⟩
        rw [rT14.length]
        exact List.mem_map.mpr ⟨(nm, ps, t), List.mem_append_right _ (List.mem_append_right _ (List.mem_singleton.mpr rfl)), rfl⟩
    · rw [upd_ne FL.symm]
      exact k5'.get eF14 (by simp)
    · exact mp_imp (fun _ _ x => x.kp kall) (mp_app (mp_imp (fun _ _ x => x.kp k613) rF) (mp_one tf))
    · rcases List.mem_append.mp mm with mm | mm
      · exact fnF t' mm
      · rw [List.mem_singleton.mp mm]; exact fnew
  · obtain ⟨y6, y7, y8, fvs, Lf, rfl, k6, hd6, ⟨cls6, enm, okf, lay⟩, eF6, rF, fnF, lF, zt6⟩ := pw
    dsimp only [tNoPart]
    refine ⟨by show (4 : Nat) ≤ sizeLine; decide, fun p2 np2 => ?_⟩
    have kn2 : Keep [] H6 (upd H6 p2 (.lst [.str "x", .str "y", .str "w", .str "v"])) := Keep.new np2
    have en2 : (upd H6 p2 (.lst [.str "x", .str "y", .str "w", .str "v"])) p2 = some (.lst [.str "x", .str "y", .str "w", .str "v"]) := upd_same
    generalize upd H6 p2 (.lst [.str "x", .str "y", .str "w", .str "v"]) = H7 at kn2 en2
    refine ⟨_, rfl, _, rfl, p2, _, rfl, SqL.of en2, fun p3 np3 => ?_⟩
    generalize hcv : cutV [V.str "x", V.str "y", V.str "w", V.str "v"] none (some (n : Int)) = cv
    have kn3 : Keep [] H7 (upd H7 p3 (.lst cv)) := Keep.new np3
    have en3 : (upd H7 p3 (.lst cv)) p3 = some (.lst cv) := upd_same
    generalize upd H7 p3 (.lst cv) = H10 at kn3 en3
    refine ⟨p3, cv, rfl, SqL.of en3, fun T oT nT odT => ?_⟩
    obtain ⟨ps, rps, pw, pwt, lps, eps⟩ : ∃ ps, Trs K H10 cv ps ∧ (∀ t ∈ ps, t.isW = true) ∧ (∀ t ∈ ps, WT t) ∧ ps.length ≤ 4 ∧ ps = ws (xywv.take n) := by
      refine ⟨cutL (ws xywv) none (some (n : Int)), ?_, fun t m => ws_w t (cutL_mem m), fun t m => ws_wt (by decide) t (cutL_mem m), Nat.le_trans (cutL_len _ _ _) (by decide), ?_⟩
      case refine_2 => rw [cutL_to _ (by exact hn)]; exact (List.map_take ..).symm
      rw [← hcv, show [V.str "x", V.str "y", V.str "w", V.str "v"] = xywv.map (fun c => V.str (tx c)) by decide +kernel]
      exact trs_ws.cut _ _
    obtain ⟨tm, km, eTz⟩ := mk_trF (K := K) (H := H10) (o := oT) nT rps
    generalize upd H10 T (.frz oT (.tup cv)) = H11 at tm km eTz
    have fzT : FzT H11 (.ref T) := ⟨T, oT, cv, rfl, eTz, odT⟩
    have k611 := (kn2.trans kn3).trans km
    have hd11 := hd6.keep0 k611
    -- main
    refine ⟨_, rfl, _, rfl, _, rfl, _, rfl, 3, by decide, a, d, L, .ref T, ps, sigs (Lz ++ Lf), rfl, hd11, tm, pw, WTs.of pwt, by omega, (cls6.keep k611 (by simp)).to (by omega), La, fun v t H12 tv wt sz dp gd k12' hd12 => ?_⟩
    refine ⟨by show (3 : Nat) ≤ sizeLine; decide, fun p4 np4 => ?_⟩
    have kf : Keep [] H12 (upd H12 p4 (.tup [.str "main", .ref T, v])) := Keep.new np4
    have tf : MfV True K (upd H12 p4 (.tup [.str "main", .ref T, v])) (.ref p4) (mainW, ps, t) := ⟨p4, .ref T, v, rfl, SqT.of_tup (by rw [show ("main" : Str) = tx mainW by decide +kernel]; exact upd_same), (tm.keep k12').keep kf, fun _ => fzT.kp (Kp.of (k12'.trans (kf.mono (by simp)))), tv.keep kf⟩
    generalize upd H12 p4 (.tup [.str "main", .ref T, v]) = H13 at tf kf
    have hd13 := hd12.keep0 kf
    have k613 : Keep [a] H6 H13 := ((k611.mono (by simp)).trans k12').trans (kf.mono (by simp))
    have fnew : FnT (.l [.w [109, 97, 105, 110], .l ps, t]) := ⟨_, ps, t, rfl, wt_l (wts_cons (wt_w (isWord_of (by decide))) (wts_cons (wt_l (WTs.of pwt)) (wts_cons wt wts_nil))), pw, lps, dp.mono (by decide), Nat.le_trans sz (by decide)⟩
    subst eps
    have mi : m.toNat ≤ 3 := by omega
    refine ⟨_, rfl, a, d, 4, rfl, hd13, by decide, fun j4 H14 j40 j41 k14' hd14 => ?_⟩
    have k614 := k613.trans k14'
    have kH := k6.trans k614
    have tf14 := tf.kp k14'
    have zt14 := zt6.kp0 k614
    have rF14 := mp_imp (fun _ _ x => MfV.kp x k614) rF
    have eF14 := k614.get eF6 (by simpa using Fa)
    have lfv := mp_len rF
    have lLf : Lf.length ≤ 2 := by omega
    have fnm : ∀ f ∈ Lf, f.1 ∈ pnames := fun f mf => later_names (List.mem_of_mem_take (by rw [← enm]; exact List.mem_map.mpr ⟨f, mf, rfl⟩))
    refine ⟨rfl, _, rfl, ite2 (fun _ => ?_) (fun _ => ?_)⟩
    · refine ⟨_, rfl, by show (1 : Nat) ≤ sizeLine; decide, fun t1 nt1 => ?_⟩
      obtain ⟨tm1, km1⟩ := mk_mp (K := K) (H := H14) nt1 (mp_one tf14)
      generalize upd H14 t1 (.tup [.ref p4]) = H15 at tm1 km1
      refine ⟨_, rfl, cat_mp tm1 (zt14.keep km1) (Nat.le_trans (show _ ≤ 100 by rw [List.length_singleton]; omega) (by decide)) fun v16 H16 tv16 k16 => ?_⟩
      have k1416 := km1.trans k16
      refine ⟨_, rfl, F, fvs, rfl, .inl ⟨SqL.of (k1416.get eF14 (by simp)), fun T2 nT2 => ?_⟩⟩
      obtain ⟨tm2, km2⟩ := mk_mp (K := K) (H := H16) nT2 (mp_imp (fun _ _ x => MfV.keep x k1416) rF14)
      refine cat_mp (tv16.keep km2) tm2 (Nat.le_trans (show _ ≤ 100 by rw [List.length_append, List.length_singleton]; omega) (by decide)) fun v17 H17 tv17 k17 => ?_
      have kk := (k1416.trans km2).trans k17
      have pk := progOk (Lr := Lz ++ Lf) (by rw [List.map_append, enm]; exact (lnd _ mi).1) gd lok okf fun f => Iff.rfl
      refine q v17 _ H17 tv17 ⟨⟨t, Lz ++ Lf, by rfl⟩, pk.1, pk.2, fun f mm => ?_, ?_, fun f mm => ?_, ?_⟩ (kH.trans (kk.mono (by simp))) (hd14.keep0 kk)
      · rcases List.mem_append.mp mm with mm | mm
        · rcases List.mem_append.mp mm with mm | mm
          · rw [List.mem_singleton.mp mm]; exact fnew
          · exact fnl f mm
        · exact fnF f mm
      · rw [List.length_append, List.length_append, List.length_singleton]; omega
      · rcases List.mem_append.mp mm with mm | mm
        · rcases List.mem_append.mp mm with mm | mm
          · rw [List.mem_singleton.mp mm]; exact List.mem_cons_self ..
          · exact lnm f mm
        · exact fnm f mm
      · refine ⟨t, jl, Lf, jl3, lLf, by rw [hLz]; exact lay, by rw [hLz]; exact gd, dp, rfl, fun f mf => ?_, ?_⟩
        · rw [hLz] at mf
          rw [List.append_assoc]; exact List.mem_cons_of_mem _ mf
        · rw [hLz, List.map_append, enm]; exact (List.nodup_cons.mp (lnd _ mi).1).2
    · refine ⟨_, rfl, by show (1 : Nat) ≤ sizeLine; decide, fun t1 nt1 => ?_⟩
      obtain ⟨tm1, km1⟩ := mk_mp (K := K) (H := H14) nt1 (mp_one tf14)
      generalize upd H14 t1 (.tup [.ref p4]) = H15 at tm1 km1
      refine ⟨_, rfl, F, fvs, rfl, .inl ⟨SqL.of (km1.get eF14 (by simp)), fun T2 nT2 => ?_⟩⟩
      obtain ⟨tm2, km2⟩ := mk_mp (K := K) (H := H15) nT2 (mp_imp (fun _ _ x => MfV.keep x km1) rF14)
      refine cat_mp (tm1.keep km2) tm2 (Nat.le_trans (show _ ≤ 100 by rw [List.length_singleton]; omega) (by decide)) fun v16 H16 tv16 k16 => ?_
      have k1416 := (km1.trans km2).trans k16
      refine ⟨_, rfl, cat_mp tv16 (zt14.keep k1416) (Nat.le_trans (show _ ≤ 100 by rw [List.length_append, List.length_singleton]; omega) (by decide)) fun v17 H17 tv17 k17 => ?_⟩
      have kk := k1416.trans k17
      have pk := progOk (Lr := Lf ++ Lz) (by rw [List.map_append, enm]; exact (lnd _ mi).2) gd lok okf fun f => by rw [List.mem_append, List.mem_append]; exact or_comm
      refine q v17 _ H17 tv17 ⟨⟨t, Lf ++ Lz, by rfl⟩, pk.1, pk.2, fun f mm => ?_, ?_, fun f mm => ?_, ?_⟩ (kH.trans (kk.mono (by simp))) (hd14.keep0 kk)
      · rcases List.mem_append.mp mm with mm | mm
        · rcases List.mem_append.mp mm with mm | mm
          · rw [List.mem_singleton.mp mm]; exact fnew
          · exact fnF f mm
        · exact fnl f mm
      · rw [List.length_append, List.length_append, List.length_singleton]; omega
      · rcases List.mem_append.mp mm with mm | mm
        · rcases List.mem_append.mp mm with mm | mm
          · rw [List.mem_singleton.mp mm]; exact List.mem_cons_self ..
          · exact fnm f mm
        · exact lnm f mm
      · refine ⟨t, jl, Lf, jl3, lLf, by rw [hLz]; exact lay, by rw [hLz]; exact gd, dp, rfl, fun f mf => ?_, ?_⟩
        · rw [hLz] at mf
          have : f ∈ Lf ++ Lz := by
            rcases List.mem_append.mp mf with mf | mf
            · exact List.mem_append_right _ mf
            · exact List.mem_append_left _ mf
          rw [List.append_assoc]
          exact List.mem_cons_of_mem _ this
        · rw [hLz, List.map_append, enm]; exact (List.nodup_cons.mp (lnd _ mi).1).2
end
end Og

namespace Og
open PySem PySem.Spec PyProof.Rows L2
/-! ### the expressions of a body: each behind its parts -/
inductive Ex : Tree → Prop
  | w {x : List Nat} : Ex (.w x)
  | q {ts : List Tree} : Ex (.l (.w qw :: ts))
  | c {n : List Nat} {ts : List Tree} (h : n ≠ qw) (all : ∀ t ∈ ts, Ex t) : Ex (.l (.w n :: ts))
mutual
theorem ex_of {fs ps : List Tree} : ∀ t, GoodE fs ps t → Ex t
  | .w x, _ => .w
  | .l [], h => by rw [GoodE] at h; exact h.elim
  | .l (.l us :: ts), h => by rw [GoodE] at h; exact h.elim
  | .l (.w n :: ts), h => by
    rw [GoodE] at h
    by_cases e : n = qw
    · rw [e]; exact .q
    · exact .c e (exs_of ts (h.2.resolve_left e))
theorem exs_of {fs ps : List Tree} : ∀ ts, GoodEs fs ps ts → ∀ t ∈ ts, Ex t
  | [], _, t, m => absurd m (List.not_mem_nil)
  | u :: ts, h, t, m => by
    rw [GoodEs] at h
    rcases List.mem_cons.mp m with e | m
    · rw [e]; exact ex_of u h.1
    · exact exs_of ts h.2 t m
end
mutual
def xpost : Tree → List Tree
  | .w x => [.w x]
  | .l [] => [.l []]
  | .l (.l us :: ts) => [.l (.l us :: ts)]
  | .l (.w n :: ts) => if n = qw then [.l (.w n :: ts)] else xposts ts ++ [.l (.w n :: ts)]
def xposts : List Tree → List Tree
  | [] => []
  | t :: ts => xpost t ++ xposts ts
end
theorem xpost_w (x : List Nat) : xpost (.w x) = [.w x] := by rw [xpost]
theorem xpost_q (ts : List Tree) : xpost (.l (.w qw :: ts)) = [.l (.w qw :: ts)] := by rw [xpost, if_pos rfl]
theorem xpost_c {n : List Nat} (h : n ≠ qw) (ts : List Tree) : xpost (.l (.w n :: ts)) = xposts ts ++ [.l (.w n :: ts)] := by rw [xpost, if_neg h]
theorem xposts_app : ∀ (a b : List Tree), xposts (a ++ b) = xposts a ++ xposts b
  | [], b => by rw [List.nil_append, xposts, List.nil_append]
  | t :: a, b => by rw [List.cons_append, xposts, xposts, xposts_app a b, List.append_assoc]
mutual
theorem xpost_len : ∀ t : Tree, (xpost t).length ≤ t.size
  | .w x => by rw [xpost_w, size_w]; exact Nat.le_refl _
  | .l [] => by rw [xpost, size_l]; show 1 ≤ _; omega
  | .l (.l us :: ts) => by rw [xpost, size_l]; show 1 ≤ _; omega
  | .l (.w n :: ts) => by
    have := xposts_len ts
    rw [xpost, size_l, sizes_cons, size_w]
    split
    · show 1 ≤ _; omega
    · rw [List.length_append, List.length_singleton]; omega
theorem xposts_len : ∀ ts : List Tree, (xposts ts).length ≤ sizes ts
  | [] => by rw [xposts, sizes_nil]; exact Nat.le_refl _
  | t :: ts => by
    have := xpost_len t
    have := xposts_len ts
    rw [xposts, sizes_cons, List.length_append]
    omega
end
section
variable {P : Program} {w : World} {K : PySem.W.Frag} {mg : Str → Option Value} {base : Heap}
def spExprs (K : PySem.W.Frag) : Sp := fun vs H Q _ => ∃ (v : V) (t : Tree), vs = [v] ∧ Tr K H v t ∧ Ex t ∧ t.size ≤ 1000000 ∧ ∀ (L : Addr) (ps : List V) (H' : Hp), H L = none → H' L = some (.lst ps) → Trs K H' ps (xpost t).reverse → Keep [] H H' → Q (.ref L) H'
theorem has_exprs {k : Nat} (D : DefAt K mg "_expressions_of" s_expressions_of p_expressions_of) (B : Bn mg) : Has P w K mg base (k + 1) "_expressions_of" p_expressions_of (spExprs K) := by
  obtain ⟨f, fd, F, hm, hb⟩ := D.ex
  refine ⟨f, fd, F.ok sc_expressions_of (fun vs H Q E h => ?_) (fun cdv A outer s H vs Q E hr h => ?_), hm, F.kp, hb⟩
  · obtain ⟨_, _, rfl, _⟩ := h
    rfl
  obtain ⟨v, t, rfl, tv, ext, sz, q⟩ := h
  refine ⟨_, (pss_cons (ps_set (i := 1) sc_expressions_of.nd rfl (.inl rfl) (pe_lst pa_nil))
    (pss_cons (ps_set (i := 2) sc_expressions_of.nd rfl (.inl rfl) (pe_lst (pa_cons (pv 0) pa_nil)))
    (pss_cons (ps_while PassesOwn.never (pt_truth (pv 2) (by intro _; rfl)) (pss_cons (ps_set (i := 3) sc_expressions_of.nd rfl (.inl rfl) (pe_bm0 PySem.F.plainAttrs_list PySem.F.slot_list_pop PySem.F.type_list_pop mt_pop (pv 2)))
      (pss_cons (ps_expr (pe_bm PySem.F.plainAttrs_list PySem.F.slot_list_append PySem.F.type_list_append mt_append (pv 1) (pa_cons (pv 3) pa_nil)))
      (pss_one (ps_if (PW.pt (pw_and (pt_not (pt_val (pe_callB call_isi (by rfl) B.isinstance (by decide +kernel) (pa_cons (pv 3) (pa_cons (pe_bltn (v := .ty "str") rfl B.str (by decide +kernel) rfl) pa_nil))))) (pw_and1 (pt_cmpR (op_neTr hr.units) (pe_ix ix_tup (pv 3) pe_int (fun _ _ => rfl)) pe_str (nomark _))))) (pss_one (ps_expr (pe_bm PySem.F.plainAttrs_list PySem.F.slot_list_extend PySem.F.type_list_extend mt_extendT (pv 2) (pa_cons (pe_slice sl_tupA (pv 3) (po_some pe_int) po_none) pa_nil)))) pss_nil)))))
    (pss_one (ps_ret (pv 1)))))), ?_⟩
  refine ⟨by show (0 : Nat) ≤ sizeLine; decide, fun L nL => ?_⟩
  have eL0 : (upd H L (.lst [])) L = some (.lst []) := upd_same
  have k0 : Keep [] H (upd H L (.lst [])) := Keep.new nL
  generalize upd H L (.lst []) = H1 at eL0 k0
  refine ⟨_, rfl, by show (1 : Nat) ≤ sizeLine; decide, fun W nW => ?_⟩
  have eW0 : (upd H1 W (.lst [v])) W = some (.lst [v]) := upd_same
  have k1 : Keep [] H1 (upd H1 W (.lst [v])) := Keep.new nW
  have LW : L ≠ W := ne_of_none eL0 nW
  have eL1 := k1.same _ _ eL0
  have nW0 : H W = none := k0.free nW
  generalize upd H1 W (.lst [v]) = H2 at eW0 k1 eL1
  have tv2 := (tv.keep k0).keep k1
  have k02 := k0.trans k1
  obtain ⟨IV, hIV⟩ : ∃ IV : Nat → L2.St → Hp → Prop, IV = fun m σ H' => ∃ (y3 : Option V) (ps ws : List V) (us pt : List Tree), σ = [some v, some (.ref L), some (.ref W), y3] ∧ m = sizes us ∧ Keep [] H H' ∧ H' L = some (.lst ps) ∧ H' W = some (.lst ws) ∧ Trs K H' ps pt ∧ Trs K H' ws us ∧ (∀ u ∈ us, Ex u) ∧ pt.length + sizes us ≤ t.size ∧ (xpost t).reverse = pt ++ (xposts us).reverse := ⟨_, rfl⟩
  refine ⟨IV, ⟨sizes [t], ?_⟩, fun m σ H3 pw => ?_⟩
  · rw [hIV]
    refine ⟨none, [], [v], [t], [], rfl, rfl, k02, eL1, eW0, trs_nil, Trs.one tv2, fun u m => by rw [List.mem_singleton.mp m]; exact ext, by rw [sizes_cons, sizes_nil]; show 0 + _ ≤ _; omega, ?_⟩
    rw [xposts, xposts, List.append_nil, List.nil_append]
  rw [hIV] at pw
  obtain ⟨y3, ps, ws, us, pt, rfl, rfl, k3, eL, eW, rp, rw', exu, tot, eq⟩ := pw
  refine ⟨_, rfl, _, tru_list eW, ?_⟩
  by_cases hne : us = []
  · subst hne
    rw [rw'.nil] at eW ⊢
    refine iteF ?_
    refine ⟨_, rfl, q L ps H3 nL eL ?_ k3⟩
    rw [eq, xposts, List.reverse_nil, List.append_nil]
    exact rp
  obtain ⟨us', u, rfl⟩ := snoc_of hne
  obtain ⟨ws', x, rfl, rw2, tx1⟩ := rw'.snoc
  have b0 : (!(ws' ++ [x]).isEmpty) = true := by cases ws' <;> rfl
  rw [b0]
  have su : sizes (us' ++ [u]) = sizes us' + u.size := by rw [sizes_app, sizes_cons, sizes_nil]; omega
  have exs' : ∀ z ∈ us', Ex z := fun z m => exu z (List.mem_append_left _ m)
  have exu1 : Ex u := exu u (by simp)
  refine iteT ⟨fun σ' H' => ∃ m', m' < sizes (us' ++ [u]) ∧ IV m' σ' H', fun _ _ h => h, ?_⟩
  refine ⟨_, rfl, .inl ⟨rfl, _, SqL.of eW⟩, W, _, _, rfl, rfl, eW, last_get _ _, ?_⟩
  rw [List.dropLast_concat]
  have kk : Keep [W] H3 (upd H3 W (.lst ws')) := Keep.set eW (List.mem_cons_self ..)
  have eW4 : (upd H3 W (.lst ws')) W = some (.lst ws') := upd_same
  have eL4 : (upd H3 W (.lst ws')) L = some (.lst ps) := by rw [upd_ne LW]; exact eL
  generalize upd H3 W (.lst ws') = H4 at kk eW4 eL4
  have k4 : Keep [] H H4 := (k3.cons.trans kk).drop nW0
  have pl := rp.length
  have usz := size_pos u
  refine ⟨_, rfl, .inl ⟨rfl, _, SqL.of eL4⟩, _, rfl, L, _, _, rfl, rfl, eL4, Nat.lt_of_le_of_lt (show ps.length ≤ 1000000 by omega) (by decide), ?_⟩
  have kk5 : Keep [L] H4 (upd H4 L (.lst (ps ++ [x]))) := Keep.set eL4 (List.mem_cons_self ..)
  have eL5 : (upd H4 L (.lst (ps ++ [x]))) L = some (.lst (ps ++ [x])) := upd_same
  have eW5 : (upd H4 L (.lst (ps ++ [x]))) W = some (.lst ws') := by rw [upd_ne (Ne.symm LW)]; exact eW4
  generalize upd H4 L (.lst (ps ++ [x])) = H5 at kk5 eL5 eW5
  have k5 : Keep [] H H5 := (k4.cons.trans kk5).drop nL
  have tx5 := (tx1.keep kk).keep kk5
  have rp5 := ((rp.keep kk).keep kk5).append (Trs.one tx5)
  have rw5 := (rw2.keep kk).keep kk5
  have lpt : (pt ++ [u]).length + sizes us' ≤ t.size := by rw [List.length_append, List.length_singleton]; omega
  obtain ⟨ty, uu, q1, q2, q3⟩ := isi_str tx5
  refine ⟨_, rfl, _, _, ty, uu, _, rfl, q1, q2, q3, _, rfl, ?_⟩
  have wl := rw5.length
  have ul := len_sizes us'
  have stop : xpost u = [u] → ∀ y3 : Option V, ∃ m', m' < sizes (us' ++ [u]) ∧ IV m' [some v, some (.ref L), some (.ref W), y3] H5 := fun e y3 => by
    refine ⟨sizes us', by omega, ?_⟩
    rw [hIV]
    refine ⟨_, _, _, us', pt ++ [u], rfl, rfl, k5, eL5, eW5, rp5, rw5, exs', lpt, ?_⟩
    rw [eq, xposts_app, List.reverse_append, List.append_assoc, xposts, xposts, List.append_nil, e]
    rfl
  cases exu1 with
  | @w c => exact iteF (iteF (stop (xpost_w c) _))
  | @q ts =>
    obtain ⟨ax, wx, rfl, hX, trx⟩ := tx5.list
    obtain ⟨x0, r0, rfl, h0, rr⟩ := trx.cons
    refine iteT ⟨_, rfl, ax, _, _, x0, rfl, rfl, hX, atI_zero _ _, _, _, h0, by rw [show ("quote" : Str) = tx qw by decide +kernel]; exact tr_w, .inl rfl, fun b hb => ⟨b, rfl, ?_⟩⟩
    have eb : b = false := by
      cases b with
      | false => rfl
      | true => exact absurd rfl (hb.mp rfl)
    subst eb
    exact iteF (stop (xpost_q ts) _)
  | @c n ts hn all =>
    obtain ⟨ax, wx, rfl, hX, trx⟩ := tx5.list
    obtain ⟨x0, r0, rfl, h0, rr⟩ := trx.cons
    refine iteT ⟨_, rfl, ax, _, _, x0, rfl, rfl, hX, atI_zero _ _, _, _, h0, by rw [show ("quote" : Str) = tx qw by decide +kernel]; exact tr_w, .inl rfl, fun b hb => ⟨b, rfl, ?_⟩⟩
    have eb : b = true := hb.mpr fun e => hn (Tree.w.inj e)
    subst eb
    refine iteT ?_
    refine ⟨_, rfl, .inl ⟨rfl, _, SqL.of eW5⟩, _, rfl, _, rfl, ?_⟩
    dsimp only [tNoPart]
    refine sl_tr tx5 fun v2 H6 tv2 k6 => ?_
    rw [show cutL (Tree.w n :: ts) (some (1 : Int)) none = ts from cutL_from (Tree.w n :: ts) (i := 1) (by rw [List.length_cons]; omega)] at tv2
    obtain ⟨ay, wy, rfl, hY, try_⟩ := tv2.list
    have eW6 := k6.get eW5 (by simp)
    have eL6 := k6.get eL5 (by simp)
    have lx := try_.length
    have ll := len_sizes ts
    rw [size_l, sizes_cons, size_w] at su
    refine ⟨W, ay, ws', wy, rfl, rfl, eW6, hY, Nat.le_trans (show ws'.length + wy.length ≤ 2000000 by omega) (by decide), ?_⟩
    have kk7 : Keep [W] H6 (upd H6 W (.lst (ws' ++ wy))) := Keep.set eW6 (List.mem_cons_self ..)
    refine ⟨sizes (us' ++ ts), by rw [sizes_app]; omega, ?_⟩
    rw [hIV]
    refine ⟨_, _, _, us' ++ ts, pt ++ [.l (.w n :: ts)], rfl, rfl, ((k5.trans k6).cons.trans kk7).drop nW0, by rw [upd_ne LW]; exact eL6, upd_same, (rp5.keep k6).keep kk7, ((rw5.keep k6).append try_).keep kk7, fun z m => ?_, ?_, ?_⟩
    · rcases List.mem_append.mp m with m | m
      · exact exs' z m
      · exact all z m
    · rw [List.length_append, List.length_singleton, sizes_app]; omega
    · rw [eq, xposts_app, xposts_app, List.reverse_append, List.reverse_append, List.append_assoc]
      rw [xposts, xposts, List.append_nil, xpost_c hn, List.reverse_append]
      rfl
end
end Og

namespace Og
open PySem PySem.Spec PyProof.Rows L2
/-! ### a body renamed -/
/-- the stack of renamed expressions along the expressions, up to the last one -/
def okR (s : List Nat → List Nat) : List Tree → List Tree → List Tree → Prop
  | st, [], fin => st = fin
  | st, .w x :: r, fin => okR s (st ++ [.w x]) r fin
  | st, .l [] :: r, fin => okR s (st ++ [.l []]) r fin
  | st, .l (.l us :: ts) :: r, fin => okR s (st ++ [.l (.l us :: ts)]) r fin
  | st, .l (.w n :: ts) :: r, fin => if n = qw then okR s (st ++ [.l (.w n :: ts)]) r fin else ∃ s0, st = s0 ++ rens s ts ∧ okR s (s0 ++ [.l (.w (s n) :: rens s ts)]) r fin
mutual
theorem okR_post {s : List Nat → List Nat} : ∀ (t : Tree) (st r fin : List Tree), okR s (st ++ [ren s t]) r fin → okR s st (xpost t ++ r) fin
  | .w x, st, r, fin, h => by rw [xpost_w, List.singleton_append, okR]; rw [ren_w] at h; exact h
  | .l [], st, r, fin, h => by rw [xpost, List.singleton_append, okR]; rw [ren] at h; exact h
  | .l (.l us :: ts), st, r, fin, h => by rw [xpost, List.singleton_append, okR]; rw [ren] at h; exact h
  | .l (.w n :: ts), st, r, fin, h => by
    by_cases e : n = qw
    · rw [e, xpost_q, List.singleton_append, okR, if_pos rfl]
      rw [e, ren_q] at h
      exact h
    · rw [xpost_c e, List.append_assoc]
      rw [ren_c e] at h
      refine okR_posts ts st _ fin ?_
      rw [List.singleton_append, okR, if_neg e]
      exact ⟨st, rfl, h⟩
theorem okR_posts {s : List Nat → List Nat} : ∀ (ts : List Tree) (st r fin : List Tree), okR s (st ++ rens s ts) r fin → okR s st (xposts ts ++ r) fin
  | [], st, r, fin, h => by rw [xposts]; rw [rens, List.append_nil] at h; exact h
  | t :: ts, st, r, fin, h => by
    rw [xposts, List.append_assoc]
    refine okR_post t st _ fin (okR_posts ts _ r fin ?_)
    rw [List.append_assoc]
    rw [rens] at h
    exact h
end
theorem okR_tree (s : List Nat → List Nat) (t : Tree) : okR s [] (xpost t) [ren s t] := by
  have := okR_post (s := s) t [] [] [ren s t] (by rw [List.nil_append, okR])
  rw [List.append_nil] at this
  exact this
mutual
theorem xpost_ex : ∀ (t : Tree), Ex t → ∀ u ∈ xpost t, Ex u
  | .w x, h, u, m => by rw [xpost_w] at m; rw [List.mem_singleton.mp m]; exact h
  | .l [], h, u, m => by cases h
  | .l (.l us :: ts), h, u, m => by cases h
  | .l (.w n :: ts), h, u, m => by
    by_cases e : n = qw
    · rw [e, xpost_q] at m
      rw [List.mem_singleton.mp m]
      exact .q
    · rw [xpost_c e] at m
      rcases List.mem_append.mp m with m | m
      · cases h with
        | q => exact absurd rfl e
        | c _ all => exact xposts_ex ts all u m
      · rw [List.mem_singleton.mp m]; exact h
theorem xposts_ex : ∀ (ts : List Tree), (∀ t ∈ ts, Ex t) → ∀ u ∈ xposts ts, Ex u
  | [], _, u, m => by rw [xposts] at m; cases m
  | t :: ts, h, u, m => by
    rw [xposts] at m
    rcases List.mem_append.mp m with m | m
    · exact xpost_ex t (h t (List.mem_cons_self ..)) u m
    · exact xposts_ex ts (fun z mz => h z (List.mem_cons_of_mem _ mz)) u m
end
theorem trs_splitR {K : PySem.W.Frag} {H : Hp} {b : List Tree} : ∀ {a : List Tree} {vs : List V}, Trs K H vs (a ++ b) → ∃ d0 d1, vs = d0 ++ d1 ∧ Trs K H d0 a ∧ Trs K H d1 b
  | [], vs, h => ⟨[], vs, rfl, trs_nil, h⟩
  | t :: a, vs, h => by
    obtain ⟨v, r, rfl, h1, h2⟩ := h.cons
    obtain ⟨d0, d1, rfl, r0, r1⟩ := trs_splitR h2
    exact ⟨v :: d0, d1, rfl, trs_cons h1 r0, r1⟩
/-- the dict of the new names -/
def NmD (H : Hp) (nd : Addr) (s : List Nat → List Nat) : Prop := ∃ kvs, H nd = some (.dK kvs) ∧ ∀ x : List Nat, (valV kvs (.inr (tx x) : Key) = some (.str (tx (s x)))) ∨ (valV kvs (.inr (tx x) : Key) = none ∧ s x = x)
theorem NmD.keep {H H1 : Hp} {nd : Addr} {s : List Nat → List Nat} (h : NmD H nd s) (k : Keep [] H H1) : NmD H1 nd s := by
  obtain ⟨kvs, e, a⟩ := h
  exact ⟨kvs, k.get e (by simp), a⟩
section
variable {P : Program} {w : World} {K : PySem.W.Frag} {mg : Str → Option Value} {base : Heap}
def spRenBody (K : PySem.W.Frag) : Sp := fun vs H Q _ => ∃ (v : V) (nd : Addr) (t : Tree) (s : List Nat → List Nat), vs = [v, .ref nd] ∧ Tr K H v t ∧ Ex t ∧ t.size ≤ 1000000 ∧ NmD H nd s ∧ ∀ (v' : V) (H' : Hp), Tr K H' v' (ren s t) → Keep [] H H' → Q v' H'
theorem has_renBody {k : Nat} (D : DefAt K mg "_renamed_body" s_renamed_body p_renamed_body) (B : Bn mg) (c1 : Has P w K mg base k "_expressions_of" p_expressions_of (spExprs K)) : Has P w K mg base (k + 1) "_renamed_body" p_renamed_body (spRenBody K) := by
  obtain ⟨f, fd, F, hm, hb⟩ := D.ex
  obtain ⟨_, _, c_expressions_of⟩ := c1
  refine ⟨f, fd, F.ok sc_renamed_body (fun vs H Q E h => ?_) (fun cdv A outer s H vs Q E hr h => ?_), hm, F.kp, hb⟩
  · obtain ⟨_, _, _, _, rfl, _⟩ := h
    rfl
  obtain ⟨v, nd, t, sg, rfl, tv, ext, sz, nm, q⟩ := h
  refine ⟨_, (pss_cons (ps_set (i := 2) sc_renamed_body.nd rfl (.inl rfl) (pe_lst pa_nil))
    (pss_cons (ps_for PassesOwn.never rfl (RT.pi_revA (by rfl) B.reversed (cal c_expressions_of hr rfl (pa_cons (pv 0) pa_nil))) (pg_name (i := 3) sc_renamed_body.nd rfl (.inl rfl))
      (pss_one (ps_if (PW.pt (pw_or (pt_val (pe_callB call_isi (by rfl) B.isinstance (by decide +kernel) (pa_cons (pv 3) (pa_cons (pe_bltn (v := .ty "str") rfl B.str (by decide +kernel) rfl) pa_nil)))) (pw_or1 (pt_cmpR (op_eqTr hr.units) (pe_ix ix_tup (pv 3) pe_int (fun _ _ => rfl)) pe_str (nomark _))))) (pss_one (ps_expr (pe_bm PySem.F.plainAttrs_list PySem.F.slot_list_append PySem.F.type_list_append mt_append (pv 2) (pa_cons (pv 3) pa_nil)))) (pss_cons (ps_set (i := 4) sc_renamed_body.nd rfl (.inl rfl) (pe_ix ix_tup (pv 3) pe_int (fun _ _ => rfl)))
        (pss_cons (ps_set (i := 5) sc_renamed_body.nd rfl (.inl rfl) (pe_op op_sub (pe_op op_add (pe_callB call_len_seq (by rfl) B.len PySem.boot_len (pa_cons (pv 2) pa_nil)) pe_int) (pe_callB call_len_seq (by rfl) B.len PySem.boot_len (pa_cons (pv 3) pa_nil))))
        (pss_cons (ps_set (i := 6) sc_renamed_body.nd rfl (.inl rfl) (pe_callTy call_tuple_of (by rfl) B.tuple (by decide +kernel) (pa_cons (pe_slice sl_list (pv 2) (po_some (pv 5)) po_none) pa_nil)))
        (pss_cons (ps_delTail (pv 2) (pv 5))
        (pss_one (ps_expr (pe_bm PySem.F.plainAttrs_list PySem.F.slot_list_append PySem.F.type_list_append mt_append (pv 2) (pa_cons (pe_tup (pa_cons (pe_dget2 (hu_of hr) (pv 1) (pv 4) (pv 4) ⟨rfl, rfl, rfl, rfl⟩) (StX.pa_star (pv 6) pa_nil))) pa_nil)))))))))))
    (pss_one (ps_ret (pe_ix ix_list (pv 2) pe_int (fun _ _ => rfl)))))), ?_⟩
  refine ⟨by show (0 : Nat) ≤ sizeLine; decide, fun Dn nD => ?_⟩
  have eD0 : (upd H Dn (.lst [])) Dn = some (.lst []) := upd_same
  have k0 : Keep [] H (upd H Dn (.lst [])) := Keep.new nD
  generalize upd H Dn (.lst []) = H1 at eD0 k0
  refine ⟨_, rfl, v, t, rfl, tv.keep k0, ext, sz, fun L ps H2 nL eL rp k1 => ?_⟩
  have eD1 := k1.same _ _ eD0
  have LD : L ≠ Dn := Ne.symm (ne_of_none eD0 nL)
  have lps : ps.length = (xpost t).length := by have := rp.length; rwa [List.length_reverse] at this
  have xl := xpost_len t
  have k02 := k0.trans k1
  refine ⟨L, ps, rfl, .inl ⟨SqL.of eL, ?_⟩⟩
  refine RT.for_Itv (K := K) (a := L) (xs := ps) (fun i σ H' => ∃ (y3 y4 y5 y6 : Option V) (st : List Tree) (ds : List V), σ = [some v, some (.ref nd), some (.ref Dn), y3, y4, y5, y6] ∧ okR sg st ((xpost t).drop i) [ren sg t] ∧ H' Dn = some (.lst ds) ∧ Trs K H' ds st ∧ Keep [Dn] H2 H' ∧ st.length ≤ i)
    ⟨none, none, none, none, [], [], rfl, by rw [List.drop_zero]; exact okR_tree sg t, eD1, trs_nil, Keep.refl, Nat.le_refl _⟩ (fun i σ H' pw => ?_) (fun i x σ H3 hi hx pw => ?_) (fun σ H' pw => ?_)
  · obtain ⟨_, _, _, _, _, _, _, _, _, _, kk, _⟩ := pw
    exact kk.sqL (by simpa using LD) (SqL.of eL)
  · obtain ⟨y3, y4, y5, y6, st, ds, rfl, ok, eD3, rd, kk, sl⟩ := pw
    have il : i < (xpost t).length := by omega
    have hg : (xpost t)[i]? = some (xpost t)[i] := List.getElem?_eq_getElem il
    have hr2 : (xpost t).reverse[ps.length - 1 - i]? = some (xpost t)[i] := by
      rw [List.getElem?_reverse (by omega), lps, show (xpost t).length - 1 - ((xpost t).length - 1 - i) = i by omega]
      exact hg
    obtain ⟨x', hx', tx0⟩ := rp.get hr2
    rw [hx] at hx'
    cases hx'
    have dr : (xpost t).drop i = (xpost t)[i] :: (xpost t).drop (i + 1) := List.drop_eq_getElem_cons il
    rw [dr] at ok
    have exu := xpost_ex t ext _ (List.getElem_mem il)
    generalize (xpost t)[i] = u at hg hr2 tx0 dr ok exu
    have tx1 := tx0.keep kk
    have sds := rd.length
    obtain ⟨ty, uu, q1, q2, q3⟩ := isi_str tx1
    refine ⟨_, rfl, _, _, ty, uu, _, rfl, q1, q2, q3, _, rfl, ?_⟩
    have lq : ∀ {G : Hp}, Tr K G (.str "quote") (.w qw) := by rw [show ("quote" : Str) = tx qw by decide +kernel]; exact tr_w
    have nD0 : H Dn = none := nD
    have nmk : NmD H3 nd sg := by
      obtain ⟨kvs, en, a⟩ := nm.keep k0 |>.keep k1
      exact ⟨kvs, kk.get en (by
        intro m
        rw [List.mem_singleton.mp m, eD1] at en
        cases en), a⟩
    -- what stays as it is
    have same : ∀ (y4 y5 y6 : Option V), okR sg (st ++ [u]) ((xpost t).drop (i + 1)) [ren sg t] → ∃ (y3 y4' y5' y6' : Option V) (st' : List Tree) (ds' : List V), [some v, some (.ref nd), some (.ref Dn), some x, y4, y5, y6] = [some v, some (.ref nd), some (.ref Dn), y3, y4', y5', y6'] ∧ okR sg st' ((xpost t).drop (i + 1)) [ren sg t] ∧ (upd H3 Dn (.lst (ds ++ [x]))) Dn = some (.lst ds') ∧ Trs K (upd H3 Dn (.lst (ds ++ [x]))) ds' st' ∧ Keep [Dn] H2 (upd H3 Dn (.lst (ds ++ [x]))) ∧ st'.length ≤ i + 1 := fun y4 y5 y6 ok2 => by
      have k5 : Keep [Dn] H3 (upd H3 Dn (.lst (ds ++ [x]))) := Keep.set eD3 (List.mem_cons_self ..)
      exact ⟨_, _, _, _, st ++ [u], _, rfl, ok2, upd_same, (rd.keep k5).append (Trs.one (tx1.keep k5)), kk.trans k5, by rw [List.length_append, List.length_singleton]; omega⟩
    cases exu with
    | @w c =>
      rw [okR] at ok
      refine iteT (iteT ?_)
      exact ⟨_, rfl, .inl ⟨rfl, _, SqL.of eD3⟩, _, rfl, Dn, _, _, rfl, rfl, eD3, Nat.lt_of_le_of_lt (show _ ≤ 1000000 by omega) (by decide), same _ _ _ ok⟩
    | @q ts =>
      rw [okR, if_pos rfl] at ok
      obtain ⟨ax, wx, rfl, hX, trx⟩ := tx1.list
      obtain ⟨x0, r0, rfl, h0, rr⟩ := trx.cons
      refine iteF ⟨_, rfl, ax, _, _, x0, rfl, rfl, hX, atI_zero _ _, _, _, h0, lq, .inl rfl, fun b hb => ⟨b, rfl, ?_⟩⟩
      rw [hb.mpr rfl]
      exact iteT ⟨_, rfl, .inl ⟨rfl, _, SqL.of eD3⟩, _, rfl, Dn, _, _, rfl, rfl, eD3, Nat.lt_of_le_of_lt (show _ ≤ 1000000 by omega) (by decide), same _ _ _ ok⟩
    | @c n ts hn all =>
      rw [okR, if_neg hn] at ok
      obtain ⟨s0, e0, ok2⟩ := ok
      subst e0
      obtain ⟨ax, wx, rfl, hX, trx⟩ := tx1.list
      obtain ⟨x0, wr, rfl, h0, rr⟩ := trx.cons
      have ex0 := h0.word
      subst ex0
      refine iteF ⟨_, rfl, ax, _, _, _, rfl, rfl, hX, atI_zero _ _, _, _, h0, lq, .inl rfl, fun b hb => ⟨b, rfl, ?_⟩⟩
      have eb : b = false := by
        cases b with
        | false => rfl
        | true => exact absurd (Tree.w.inj (hb.mp rfl)) hn
      subst eb
      obtain ⟨d0, d1, rfl, r0, r1⟩ := trs_splitR rd
      have l0 := r0.length
      have l1 := r1.length
      have lr := rr.length
      rw [rens_len] at l1
      rw [List.length_append] at sl
      rw [List.length_append, List.length_append, rens_len] at sds
      rw [rens_len] at sl
      have e1 : ((d0 ++ d1).length : Int) + 1 - (((V.str (tx n)) :: wr).length : Nat) = (d0.length : Nat) := by
        rw [List.length_append, List.length_cons]
        omega
      refine iteF ⟨_, rfl, ax, _, _, _, rfl, rfl, hX, atI_zero _ _, ?_⟩
      refine ⟨_, rfl, Dn, _, rfl, .inl (SqL.of eD3), _, _, rfl, rfl, _, rfl, ax, _, rfl, .inr hX, _, _, rfl, rfl, ?_⟩
      simp only [e1]
      refine ⟨_, rfl, _, rfl, _, rfl, Dn, _, rfl, SqL.of eD3, fun C nC => ?_⟩
      have ecut : cutV (d0 ++ d1) (some (d0.length : Int)) none = d1 := by
        unfold cutV
        rw [HT.sIx_nat, HT.sIx_none, List.length_append, Nat.min_eq_left (by omega), List.drop_left' rfl, List.take_of_length_le (by omega)]
      rw [ecut]
      have kC : Keep [] H3 (upd H3 C (.lst d1)) := Keep.new nC
      have eC : (upd H3 C (.lst d1)) C = some (.lst d1) := upd_same
      have eD4 := kC.same _ _ eD3
      generalize upd H3 C (.lst d1) = H4 at kC eC eD4
      refine ⟨C, _, rfl, .inl ⟨SqL.of eC, fun T nT => ?_⟩⟩
      have kT : Keep [] H4 (upd H4 T (.tup d1)) := Keep.new nT
      have eT : (upd H4 T (.tup d1)) T = some (.tup d1) := upd_same
      have eD5 := kT.same _ _ eD4
      generalize upd H4 T (.tup d1) = H5 at kT eT eD5
      refine ⟨_, rfl, _, rfl, Dn, _, _, rfl, rfl, eD5, by omega, Nat.le_trans (show _ ≤ 1000000 by rw [List.length_append]; omega) (by decide), ?_⟩
      have et : (d0 ++ d1).take (tailAt (d0 ++ d1).length (d0.length : Int)) = d0 := by
        have : tailAt (d0 ++ d1).length (d0.length : Int) = d0.length := by
          unfold tailAt
          rw [if_neg (by omega), List.length_append]
          omega
        rw [this, List.take_left' rfl]
      rw [et]
      have k6 : Keep [Dn] H5 (upd H5 Dn (.lst d0)) := Keep.set eD5 (List.mem_cons_self ..)
      have eD6 : (upd H5 Dn (.lst d0)) Dn = some (.lst d0) := upd_same
      have eT6 := k6.tup eT
      generalize upd H5 Dn (.lst d0) = H6 at k6 eD6 eT6
      have k36 : Keep [Dn] H3 H6 := (kC.cons.trans kT.cons).trans k6
      obtain ⟨kvs, en, look⟩ := nmk
      have nDn : nd ≠ Dn := fun e => by rw [e, eD3] at en; cases en
      have en6 := k36.get en (by simpa using nDn)
      have gd : ∃ o, DGet H6 nd (.str (tx n)) o ∧ o.getD (.str (tx n)) = .str (tx (sg n)) := by
        rcases look n with e | ⟨e, e2⟩
        · exact ⟨some _, by have := DGet.k (H := H6) (k := (.inr (tx n) : Key)) en6; rw [e] at this; exact this, rfl⟩
        · exact ⟨none, by have := DGet.k (H := H6) (k := (.inr (tx n) : Key)) en6; rw [e] at this; exact this, by rw [e2]; rfl⟩
      obtain ⟨o, g1, g2⟩ := gd
      refine ⟨_, rfl, .inl ⟨rfl, _, SqL.of eD6⟩, _, rfl, nd, rfl, .inl ⟨kvs, .inl en6⟩, _, rfl, _, rfl, o, g1, _, rfl, T, _, rfl, .inl (SqT.of_tup eT6), ?_⟩
      rw [g2]
      refine ⟨by show ((V.str (tx (sg n))) :: (d1 ++ [])).length ≤ sizeLine; rw [List.append_nil, List.length_cons]; exact Nat.le_trans (show _ ≤ 1000001 by omega) (by decide), fun U nU => ?_⟩
      rw [List.append_nil]
      have kU : Keep [] H6 (upd H6 U (.tup (V.str (tx (sg n)) :: d1))) := Keep.new nU
      have eU : (upd H6 U (.tup (V.str (tx (sg n)) :: d1))) U = some (.tup (V.str (tx (sg n)) :: d1)) := upd_same
      have eD7 := kU.same _ _ eD6
      generalize upd H6 U (.tup (V.str (tx (sg n)) :: d1)) = H7 at kU eU eD7
      refine ⟨Dn, _, _, rfl, rfl, eD7, Nat.lt_of_le_of_lt (show _ ≤ 1000000 by omega) (by decide), ?_⟩
      have k7 : Keep [Dn] H7 (upd H7 Dn (.lst (d0 ++ [.ref U]))) := Keep.set eD7 (List.mem_cons_self ..)
      have kall : Keep [Dn] H3 (upd H7 Dn (.lst (d0 ++ [.ref U]))) := (k36.trans kU.cons).trans k7
      refine ⟨_, _, _, _, s0 ++ [.l (.w (sg n) :: rens sg ts)], _, rfl, ok2, upd_same, (r0.keep kall).append (Trs.one (tr_tup (k7.tup eU) (trs_cons tr_w (r1.keep kall)))), kk.trans kall, by rw [List.length_append, List.length_singleton]; omega⟩
  · obtain ⟨y3, y4, y5, y6, st, ds, rfl, ok, eD3, rd, kk, sl⟩ := pw
    rw [lps, List.drop_length] at ok
    have es : st = [ren sg t] := ok
    subst es
    obtain ⟨v', r, rfl, tv', rn⟩ := rd.cons
    refine ⟨_, rfl, Dn, _, _, _, rfl, rfl, SqL.of eD3, atI_zero _ _, ?_⟩
    exact q v' H' tv' ((k0.trans k1).cons.trans kk |>.drop nD)
end
end Og

namespace Og
open PySem PySem.Spec PyProof.Rows L2
section
variable {P : Program} {w : World} {K : PySem.W.Frag} {mg : Str → Option Value} {base : Heap}
theorem inr_injM {a b : List Nat} (h : (Sum.inr (tx a) : Key) = .inr (tx b)) : a = b := tx_inj (Sum.inr.inj h)
/-- a dict over enumerate of a tuple -/
theorem dc_enumM {K : PySem.W.Frag} {a : Addr} {xs : List V} {g : TG} {tt : TT} {tk tv : TE} {vs : List Nat} {σ : L2.St} {H1 : Hp} {D : Addr} {Qd : Hp → Prop} (Pv : Nat → Hp → Prop) (h0 : Pv 0 (upd H1 D (.dK []))) (hl : ∀ i H, i ≤ xs.length → Pv i H → SqT K H a xs)
    (hs : ∀ (i : Nat) (x : V) (T : Addr) (H : Hp), xs[i]? = some x → Pv i H → H T = none → g (.ref T) (wipe σ vs) (upd H T (.tup [.int (i : Nat), x])) fun σ2 H2 => wipe σ2 vs = wipe σ vs ∧ tt σ2 H2 fun b H3 =>
      if b = true then tk σ2 H3 fun y H4 => tv σ2 H4 fun z H5 => ∃ kvs k, y = kV k ∧ H5 D = some (.dK kvs) ∧ kvs.length < sizeLine ∧ Pv (i + 1) (upd H5 D (.dK (putK kvs k z))) else Pv (i + 1) H3) (hd : ∀ H, Pv xs.length H → Qd H) :
    ∃ W : Nat → Nat → Hp → Prop, (∃ m, W 0 m (upd H1 D (.dK []))) ∧ ∀ i m H, W i m H →
      ((IteT K a).stop i H ∧ Qd H) ∨ ((IteT K a).go i H ∧ ∃ Nx : Hp → Prop, (∀ H', Nx H' → ∃ m', m' < m ∧ W (i + 1) m' H') ∧ ∀ x H', (IteT K a).yld i H x H' → g x (wipe σ vs) H' fun σ2 H2 => wipe σ2 vs = wipe σ vs ∧ tt σ2 H2 fun b H3 =>
        if b = true then tk σ2 H3 fun y H4 => tv σ2 H4 fun z H5 => ∃ kvs k, y = kV k ∧ H5 D = some (.dK kvs) ∧ kvs.length < sizeLine ∧ Nx (upd H5 D (.dK (putK kvs k z))) else Nx H3) := by
  refine ⟨fun i m H => m = xs.length - i ∧ i ≤ xs.length ∧ Pv i H, ⟨xs.length, by simp, Nat.zero_le _, h0⟩, ?_⟩
  rintro i m H ⟨rfl, hi, p⟩
  have qx := hl i H hi p
  by_cases hlt : i < xs.length
  · have hx : xs[i]? = some xs[i] := List.getElem?_eq_getElem hlt
    refine .inr ⟨⟨xs, _, qx, hx⟩, Pv (i + 1), fun H' p' => ⟨xs.length - (i + 1), by omega, rfl, hlt, p'⟩, fun v H' y => ?_⟩
    obtain ⟨T, x', rfl, hT, rfl, f1⟩ := y
    exact hs i x' T H (f1 xs qx) p hT
  · have e : i = xs.length := by omega
    subst e
    exact .inl ⟨⟨xs, qx, rfl⟩, hd H p⟩
/-- what can be renamed -/
def RenOk (L : List Fn) : Prop := (L.map (·.1)).Nodup ∧ L.length ≤ 1000 ∧ ∀ f ∈ L, Ex f.2.2 ∧ f.2.2.size ≤ 1000000
def spRenGood (g : Prop) (K : PySem.W.Frag) : Sp := fun vs H Q _ => ∃ (v : V) (L : List Fn) (start : Nat), vs = [v, .int start] ∧ MpV g K H v L ∧ RenOk L ∧ start ≤ 1000000 ∧ ∀ (v' : V) (H' : Hp), MpV g K H' v' (renL L start) → Keep [] H H' → Q v' H'
theorem has_renGood {g : Prop} {k : Nat} (D : DefAt K mg "_renamed_good" s_renamed_good p_renamed_good) (B : Bn mg) (c1 : Has P w K mg base k "_renamed_body" p_renamed_body (spRenBody K)) (c2 : Has P w K mg base k "made_name" p_made_name spMade) : Has P w K mg base (k + 1) "_renamed_good" p_renamed_good (spRenGood g K) := by
  obtain ⟨f, fd, F, hm, hb⟩ := D.ex
  obtain ⟨_, _, c_renamed_body⟩ := c1
  obtain ⟨_, _, c_made_name⟩ := c2
  refine ⟨f, fd, F.ok sc_renamed_good (fun vs H Q E h => ?_) (fun cdv A outer s H vs Q E hr h => ?_), hm, F.kp, hb⟩
  · obtain ⟨_, _, _, rfl, _⟩ := h
    rfl
  obtain ⟨v, L, start, rfl, mv, ok, hs, q⟩ := h
  refine ⟨_, (pss_cons (ps_setDc (i := 2) (own := [("at", 3), ("function", 4)]) (tt := tYes) rfl sc_renamed_good.nd rfl rfl (sw_trueD rfl rfl rfl (by decide +kernel))  (pi_enumT (by rfl) B.enumerate (pa_cons (pv 0) pa_nil)) (blkOk_by (N := n_renamed_good) (sc := defScope s_renamed_good) (by decide +kernel)) (fun _ _ _ _ _ => (show PG _ _ (gTup K 2 _) from (pg_tup (by rfl) (pgs_cons (pg_name (i := 3) sc_renamed_good.nd rfl (.inl rfl)) (pgs_cons (pg_name (i := 4) sc_renamed_good.nd rfl (.inl rfl)) pgs_nil))))) (fun _ _ _ _ _ => pts_nil) (fun _ _ _ _ _ => (pe_ix (show IxR _ (rIxT K) from ix_tup) (pv 4) pe_int (fun _ _ => rfl))) (fun _ _ _ _ _ => (cal c_made_name hr rfl (pa_cons (pe_op op_add (pv 1) (pv 3)) pa_nil))))
    (pss_cons (ps_set (i := 5) sc_renamed_good.nd rfl (.inl rfl) (pe_lst pa_nil))
    (pss_cons (ps_for PassesOwn.never rfl (pi_tup (pv 0)) (pg_tup (by rfl) (pgs_cons (pg_name (i := 6) sc_renamed_good.nd rfl (.inl rfl)) (pgs_cons (pg_name (i := 7) sc_renamed_good.nd rfl (.inl rfl)) (pgs_cons (pg_name (i := 8) sc_renamed_good.nd rfl (.inl rfl)) pgs_nil))))
      (pss_one (ps_expr (pe_bm PySem.F.plainAttrs_list PySem.F.slot_list_append PySem.F.type_list_append mt_append (pv 5) (pa_cons (pe_tup (pa_cons (pe_dget (hu_of hr) (pv 2) (pv 6) (fun _ _ => rfl)) (pa_cons (pv 7) (pa_cons (cal c_renamed_body hr rfl (pa_cons (pv 8) (pa_cons (pv 2) pa_nil))) pa_nil)))) pa_nil)))))
    (pss_one (ps_ret (pe_callTy call_tuple_of (by rfl) B.tuple (by decide +kernel) (pa_cons (pv 5) pa_nil))))))), ?_⟩
  obtain ⟨pa, pvs, rfl, hS, pfs⟩ := mv
  obtain ⟨un, lL, okf⟩ := ok
  have lp := mp_len pfs
  refine ⟨_, rfl, pa, pvs, rfl, hS, fun nd nnd => ?_⟩
  refine dc_enumM (K := K) (a := pa) (xs := pvs) (fun i H' => Keep [] H H' ∧ ∃ kvs, H' nd = some (.dK kvs) ∧ kvs.length ≤ i ∧ ∀ x : List Nat, valV kvs (.inr (tx x)) = if x ∈ (L.map (·.1)).take i then some (.str (tx (madeN (start + (L.map (·.1)).idxOf x)))) else none) ⟨Keep.new nnd, [], upd_same, Nat.le_refl _, fun x => by rw [List.take_zero, if_neg (List.not_mem_nil)]; rfl⟩ (fun i H' _ p => p.1.sqT hS) (fun i x T H' hx p nT => ?_) (fun H7 p => ?_)
  · obtain ⟨kk, kvs, eD, lk, hk⟩ := p
    obtain ⟨fn, hf, hv⟩ := mp_at pfs hx
    obtain ⟨b, vp, vb, rfl, hSf, tp, fz, tb⟩ := hv.keep kk
    have kT : Keep [] H' (upd H' T (.tup [.int (i : Nat), .ref b])) := Keep.new nT
    have hSf2 := kT.sqT hSf
    have eD2 := kT.get eD (by simp)
    have il : i < pvs.length := (List.getElem?_eq_some_iff.mp hx).1
    refine ⟨T, _, rfl, SqT.of_tup upd_same, rfl, _, _, rfl, _, _, rfl, rfl, rfl, yes ⟨_, rfl, b, _, 0, _, rfl, rfl, hSf2, atI_zero _ _, _, rfl, _, rfl, _, _, rfl, rfl, start + i, rfl, by omega, kvs, .inr (tx fn.1), rfl, eD2, ?_, ?_, _, upd_same, ?_, fun x => ?_⟩⟩
    · exact Nat.lt_of_lt_of_le (show kvs.length < 3000000 by omega) (by decide)
    · exact Kp.keep (((Kp.of0 (S := [nd]) (kk.trans kT)).trans (Kp.set (S := [nd]) eD2 mo_dK mo_dK (List.mem_cons_self ..))).drop nnd)
    · exact Nat.le_trans (length_putK _ _ _) (by omega)
    · have hn : (L.map (·.1))[i]? = some fn.1 := by rw [List.getElem?_map, hf]; rfl
      have iln : i < (L.map (·.1)).length := (List.getElem?_eq_some_iff.mp hn).1
      have hn2 : (L.map (·.1))[i] = fn.1 := (List.getElem?_eq_some_iff.mp hn).2
      rw [valV_put, List.take_add_one, hn]
      by_cases c : x = fn.1
      · rw [if_pos (by rw [c]), if_pos (List.mem_append_right _ (by rw [c]; exact List.mem_singleton_self _)), c]
        have : (L.map (·.1)).idxOf fn.1 = i := by
          have := un.idxOf_getElem i iln
          rw [hn2] at this
          exact this
        rw [this]
      · rw [if_neg (fun z => c (inr_injM z)), hk x]
        by_cases d : x ∈ (L.map (·.1)).take i
        · rw [if_pos d, if_pos (List.mem_append_left _ d)]
        · rw [if_neg d, if_neg (fun m => by
            rcases List.mem_append.mp m with m | m
            · exact d m
            · exact c (List.mem_singleton.mp m))]
  obtain ⟨k7, kvs, eD7, lk7, hk7⟩ := p
  have nmd : NmD H7 nd (sig (L.map (·.1)) start) := by
    refine ⟨kvs, eD7, fun x => ?_⟩
    have := hk7 x
    rw [List.take_of_length_le (by rw [List.length_map, lp]; exact Nat.le_refl _)] at this
    by_cases d : x ∈ L.map (·.1)
    · rw [if_pos d] at this
      exact .inl (by rw [this, sig_in d])
    · rw [if_neg d] at this
      exact .inr ⟨this, sig_out d⟩
  refine ⟨by show (0 : Nat) ≤ sizeLine; decide, fun Fd nF => ?_⟩
  have eF8 : (upd H7 Fd (.lst [])) Fd = some (.lst []) := upd_same
  have lkn : ∀ f ∈ L, valV kvs (.inr (tx f.1)) = some (.str (tx (sig (L.map (·.1)) start f.1))) := fun f m => by
    have mm : f.1 ∈ L.map (·.1) := List.mem_map.mpr ⟨f, m, rfl⟩
    have := hk7 f.1
    rw [List.take_of_length_le (by rw [List.length_map, lp]; exact Nat.le_refl _), if_pos mm] at this
    rw [this, sig_in mm]
  refine ⟨_, rfl, pa, rfl, ⟨pvs, (k7.trans (Keep.new nF)).sqT hS⟩, ?_⟩
  refine for_tup (K := K) (a := pa) (xs := pvs) (fun i σ H' => ∃ (y6 y7 y8 : Option V) (ds : List V), σ = [some (.ref pa), some (.int start), some (.ref nd), none, none, some (.ref Fd), y6, y7, y8] ∧ Keep [] H7 H' ∧ H' Fd = some (.lst ds) ∧ Paired (MfV g K H') ds ((renL L start).take i))
    ⟨none, none, none, [], rfl, Keep.new nF, eF8, .nil⟩ (fun i σ H' _ p => ?_) (fun i x σ H' hx p => ?_) (fun σ H' p => ?_)
  · obtain ⟨_, _, _, _, _, kk, _, _⟩ := p
    exact (k7.trans kk).sqT hS
  · obtain ⟨y6, y7, y8, ds, rfl, kk, eF, pd⟩ := p
    have k0 := k7.trans kk
    obtain ⟨fn, hf, hv⟩ := mp_at pfs hx
    have il : i < pvs.length := (List.getElem?_eq_some_iff.mp hx).1
    have mf := List.mem_of_getElem? hf
    obtain ⟨b, vp, vb, rfl, hSf, tp, fz, tb⟩ := hv.keep k0
    obtain ⟨exb, szb⟩ := okf fn mf
    have eN := kk.get eD7 (by simp)
    refine ⟨b, _, rfl, hSf, rfl, ?_⟩
    have dg : DGet H' nd (.str (tx fn.1)) (some (.str (tx (sig (L.map (·.1)) start fn.1)))) := by
      have := DGet.k (H := H') (k := (.inr (tx fn.1) : Key)) eN
      rw [lkn fn mf] at this
      exact this
    refine ⟨_, _, rfl, _, _, rfl, _, _, rfl, rfl, _, rfl, .inl ⟨rfl, _, SqL.of eF⟩, ?_⟩
    have nmd2 := nmd.keep kk
    refine ⟨_, rfl, _, rfl, nd, _, rfl, dg, _, rfl, _, rfl, _, rfl, ?_⟩
    refine ⟨vb, nd, fn.2.2, _, rfl, tb, exb, szb, nmd2, fun v' H1 tv' k1 => ?_⟩
    refine ⟨by show 3 ≤ sizeLine; decide, fun T nT => ?_⟩
    have kT : Keep [] H1 (upd H1 T (.tup [.str (tx (sig (L.map (·.1)) start fn.1)), vp, v'])) := Keep.new nT
    have eT : (upd H1 T (.tup [.str (tx (sig (L.map (·.1)) start fn.1)), vp, v'])) T = some (.tup [.str (tx (sig (L.map (·.1)) start fn.1)), vp, v']) := upd_same
    have eF2 := (k1.trans kT).same _ _ eF
    generalize upd H1 T (.tup [.str (tx (sig (L.map (·.1)) start fn.1)), vp, v']) = H2 at kT eT eF2
    have lds := mp_len pd
    rw [List.length_take, renL_len] at lds
    have kA : Keep [Fd] H2 (upd H2 Fd (.lst (ds ++ [.ref T]))) := Keep.set eF2 (List.mem_cons_self ..)
    have kall : Keep [Fd] H' (upd H2 Fd (.lst (ds ++ [.ref T]))) := (k1.trans kT).cons.trans kA
    refine ⟨Fd, _, _, rfl, rfl, eF2, Nat.lt_of_le_of_lt (show _ ≤ 1000000 by omega) (by decide), ?_⟩
    refine ⟨_, _, _, _, rfl, (kk.cons.trans kall).drop nF, upd_same, ?_⟩
    have hr1 : (renL L start)[i]? = some (renF (L.map (·.1)) start fn) := by
      unfold renL
      rw [List.getElem?_map, hf]
      rfl
    rw [List.take_add_one, hr1]
    refine mp_app (mp_imp (fun _ _ x => x.kp kall) pd) (.cons ⟨T, vp, v', rfl, SqT.of_tup (kA.tup eT), tp.keep kall, fun h => (fz h).kp (Kp.of kall), tv'.keep (kT.cons.trans kA)⟩ .nil)
  · obtain ⟨y6, y7, y8, ds, rfl, kk, eF, pd⟩ := p
    rw [List.take_of_length_le (by rw [renL_len, lp]; exact Nat.le_refl _)] at pd
    refine ⟨_, rfl, Fd, _, rfl, .inl ⟨SqL.of eF, fun l nl => ?_⟩⟩
    have kl : Keep [] H' (upd H' l (.tup ds)) := Keep.new nl
    exact q _ _ ⟨l, ds, rfl, SqT.of_tup upd_same, mp_imp (fun _ _ x => x.keep kl) pd⟩ ((k7.trans kk).trans kl)
end
end Og

namespace Og
open PySem PySem.Spec PyProof.Rows L2
section
variable {P : Program} {w : World} {K : PySem.W.Frag} {mg : Str → Option Value} {base : Heap}
def spFront (g : Prop) (K : PySem.W.Frag) : Sp := fun vs H Q _ => ∃ (vF vp vb : V) (F : List Fn) (ps : List Tree) (b : Tree), vs = [vF, vp, vb] ∧ MpV g K H vF F ∧ Tr K H vp (.l ps) ∧ (g → FzT H vp) ∧ Tr K H vb b ∧ F.length ≤ 1000000 ∧ ∀ (v' : V) (H' : Hp), MpV g K H' v' ((madeN F.length, ps, b) :: F) → Keep [] H H' → Q v' H'
theorem has_front {g : Prop} {k : Nat} (D : DefAt K mg "with_front" s_with_front p_with_front) (B : Bn mg) (c2 : Has P w K mg base k "made_name" p_made_name spMade) : Has P w K mg base (k + 1) "with_front" p_with_front (spFront g K) := by
  obtain ⟨f, fd, F, hm, hb⟩ := D.ex
  obtain ⟨_, _, c_made_name⟩ := c2
  refine ⟨f, fd, F.ok sc_with_front (fun vs H Q E h => ?_) (fun cdv A outer s H vs Q E hr h => ?_), hm, F.kp, hb⟩
  · obtain ⟨_, _, _, _, _, _, rfl, _⟩ := h
    rfl
  obtain ⟨vF, vp, vb, L, ps, b, rfl, mv, tp, fz, tb, lL, q⟩ := h
  refine ⟨_, (pss_one (ps_ret (pe_tup (pa_cons (pe_tup (pa_cons (cal c_made_name hr rfl (pa_cons (pe_callB call_len_seq (by rfl) B.len PySem.boot_len (pa_cons (pv 0) pa_nil)) pa_nil)) (pa_cons (pv 1) (pa_cons (pv 2) pa_nil)))) (StX.pa_star (pv 0) pa_nil))))), ?_⟩
  obtain ⟨a, xs, rfl, hS, pf⟩ := mv
  have lx := mp_len pf
  refine ⟨_, rfl, a, xs, rfl, .inr hS, L.length, by rw [lx]; rfl, by omega, _, rfl, _, rfl, ?_⟩
  refine ⟨by show 3 ≤ sizeLine; decide, fun T nT => ?_⟩
  have kT : Keep [] H (upd H T (.tup [.str (tx (madeN L.length)), vp, vb])) := Keep.new nT
  have eT : (upd H T (.tup [.str (tx (madeN L.length)), vp, vb])) T = some (.tup [.str (tx (madeN L.length)), vp, vb]) := upd_same
  generalize upd H T (.tup [.str (tx (madeN L.length)), vp, vb]) = H1 at kT eT
  refine ⟨_, rfl, a, xs, rfl, .inl (kT.sqT hS), ?_⟩
  refine ⟨by show (V.ref T :: (xs ++ [])).length ≤ sizeLine; rw [List.append_nil, List.length_cons]; exact Nat.le_trans (show _ ≤ 1000001 by omega) (by decide), fun U nU => ?_⟩
  rw [List.append_nil]
  have kU : Keep [] H1 (upd H1 U (.tup (.ref T :: xs))) := Keep.new nU
  exact q _ _ ⟨U, _, rfl, SqT.of_tup upd_same, .cons ⟨T, vp, vb, rfl, SqT.of_tup (kU.tup eT), tp.keep (kT.trans kU), fun x => (fz x).kp (Kp.of (kT.trans kU)), tb.keep (kT.trans kU)⟩ (mp_imp (fun _ _ x => x.keep (kT.trans kU)) pf)⟩ (kT.trans kU)
def joinw : List Nat := [106, 111, 105, 110]
def lsT : List Tree → Tree
  | [] => .l [.w qw, .l []]
  | t :: ts => .l [.w joinw, t, lsT ts]
def spListing (K : PySem.W.Frag) : Sp := fun vs H Q _ => ∃ (a : Addr) (xs : List V) (ts : List Tree), vs = [.ref a] ∧ SqL K H a xs ∧ Trs K H xs ts ∧ xs.length ≤ 1000000 ∧ ∀ (v' : V) (H' : Hp), Tr K H' v' (lsT ts) → Keep [] H H' → Q v' H'
theorem has_listing {k : Nat} (D : DefAt K mg "listing" s_listing p_listing) (B : Bn mg) : Has P w K mg base (k + 1) "listing" p_listing (spListing K) := by
  obtain ⟨f, fd, F, hm, hb⟩ := D.ex
  refine ⟨f, fd, F.ok sc_listing (fun vs H Q E h => ?_) (fun cdv A outer s H vs Q E hr h => ?_), hm, F.kp, hb⟩
  · obtain ⟨_, _, _, rfl, _⟩ := h
    rfl
  obtain ⟨a, xs, ts, rfl, sl, tr, lx, q⟩ := h
  refine ⟨_, (pss_cons (ps_set (i := 1) sc_listing.nd rfl (.inl rfl) (pe_tup (pa_cons pe_str (pa_cons (pe_tup pa_nil) pa_nil))))
    (pss_cons (ps_for PassesOwn.never rfl (RT.pi_revA (by rfl) B.reversed (pv 0)) (pg_name (i := 2) sc_listing.nd rfl (.inl rfl))
      (pss_one (ps_set (i := 1) sc_listing.nd rfl (.inl rfl) (pe_tup (pa_cons pe_str (pa_cons (pv 2) (pa_cons (pv 1) pa_nil)))))))
    (pss_one (ps_ret (pv 1))))), ?_⟩
  have lq : ∀ {G : Hp}, Tr K G (.str "quote") (.w qw) := by rw [show ("quote" : Str) = tx qw by decide +kernel]; exact tr_w
  have lj : ∀ {G : Hp}, Tr K G (.str "join") (.w joinw) := by rw [show ("join" : Str) = tx joinw by decide +kernel]; exact tr_w
  have lts := tr.length
  refine ⟨by show 0 ≤ sizeLine; decide, fun T0 nT0 => ?_⟩
  have k0 : Keep [] H (upd H T0 (.tup [])) := Keep.new nT0
  have e0 : (upd H T0 (.tup [])) T0 = some (.tup []) := upd_same
  generalize upd H T0 (.tup []) = H1 at k0 e0
  refine ⟨by show 2 ≤ sizeLine; decide, fun T1 nT1 => ?_⟩
  have k1 : Keep [] H1 (upd H1 T1 (.tup [.str "quote", .ref T0])) := Keep.new nT1
  have t1 : Tr K (upd H1 T1 (.tup [.str "quote", .ref T0])) (.ref T1) (lsT []) := tr_tup upd_same (trs_cons lq (Trs.one (tr_tup (k1.tup e0) trs_nil)))
  generalize upd H1 T1 (.tup [.str "quote", .ref T0]) = H2 at k1 t1
  have k02 := k0.trans k1
  refine ⟨_, rfl, a, xs, rfl, .inl ⟨k02.sqL (by simp) sl, ?_⟩⟩
  refine RT.for_Itv (K := K) (a := a) (xs := xs) (fun i σ H' => ∃ (y2 : Option V) (v1 : V), σ = [some (.ref a), some v1, y2] ∧ Keep [] H H' ∧ Tr K H' v1 (lsT (ts.drop (ts.length - i)))) ⟨none, _, rfl, k02, by rw [Nat.sub_zero, List.drop_length]; exact t1⟩ (fun i σ H' pw => ?_) (fun i x σ H3 hi hx pw => ?_) (fun σ H' pw => ?_)
  · obtain ⟨_, _, _, kk, _⟩ := pw
    exact kk.sqL (by simp) sl
  · obtain ⟨y2, v1, rfl, kk, t1⟩ := pw
    have il : ts.length - 1 - i < ts.length := by omega
    have hg := List.getElem?_eq_getElem il
    obtain ⟨x', hx', tx0⟩ := tr.get hg
    rw [← lts] at hx'
    rw [hx] at hx'
    cases hx'
    have dr : ts.drop (ts.length - (i + 1)) = ts[ts.length - 1 - i] :: ts.drop (ts.length - i) := by
      rw [show ts.length - (i + 1) = ts.length - 1 - i by omega, List.drop_eq_getElem_cons il, show ts.length - 1 - i + 1 = ts.length - i by omega]
    refine ⟨_, rfl, _, rfl, ?_⟩
    refine ⟨by show 3 ≤ sizeLine; decide, fun T nT => ?_⟩
    have kT : Keep [] H3 (upd H3 T (.tup [.str "join", x, v1])) := Keep.new nT
    refine ⟨_, _, rfl, kk.trans kT, ?_⟩
    rw [dr]
    exact tr_tup upd_same (trs_cons lj (trs_cons (tx0.keep (kk.trans kT)) (Trs.one (t1.keep kT))))
  · obtain ⟨y2, v1, rfl, kk, t1⟩ := pw
    rw [lts, Nat.sub_self, List.drop_zero] at t1
    exact ⟨_, rfl, q _ _ t1 kk⟩
end
end Og

namespace Og
open PySem PySem.Spec PyProof.Rows L2
section
variable {P : Program} {w : World} {K : PySem.W.Frag} {mg : Str → Option Value} {base : Heap}
def mpsT (k : Nat) : List Tree := (mps k).map Tree.w
/-- the body of what fills -/
def fillB (m : List Nat) (t : Tree) (k : Nat) : Tree := .l (.w m :: .l [.w qw, t] :: mpsT k)
def fillL (L : List Fn) (m : List Nat) (k : Nat) (t : Tree) : List Fn := (madeN L.length, mpsT k, fillB m t k) :: L
def spFilled (g : Prop) (K : PySem.W.Frag) : Sp := fun vs H Q _ => ∃ (v vx : V) (L : List Fn) (f0 : Fn) (k : Nat) (t : Tree), vs = [v, vx] ∧ MpV g K H v L ∧ L[0]? = some f0 ∧ f0.2.1.length = k + 1 ∧ k ≤ 100 ∧ L.length ≤ 1000000 ∧ Tr K H vx t ∧ ∀ (v' : V) (H' : Hp), MpV g K H' v' (fillL L f0.1 k t) → Keep [] H H' → Q v' H'
theorem has_filled {g : Prop} {k : Nat} (D : DefAt K mg "filled" s_filled p_filled) (B : Bn mg) (c1 : Has P w K mg base k "made_parameters" p_made_parameters (spMPars K)) (c2 : Has P w K mg base k "with_front" p_with_front (spFront g K)) : Has P w K mg base (k + 1) "filled" p_filled (spFilled g K) := by
  obtain ⟨f, fd, F, hm, hb⟩ := D.ex
  obtain ⟨_, _, c_made_parameters⟩ := c1
  obtain ⟨_, _, c_with_front⟩ := c2
  refine ⟨f, fd, F.ok sc_filled (fun vs H Q E h => ?_) (fun cdv A outer s H vs Q E hr h => ?_), hm, F.kp, hb⟩
  · obtain ⟨_, _, _, _, _, _, rfl, _⟩ := h
    rfl
  obtain ⟨v, vx, L, f0, m, t, rfl, mv, e0, ln, hm', lL, tx0, q⟩ := h
  refine ⟨_, (pss_cons (ps_set (i := 2) sc_filled.nd rfl (.inl rfl) (cal c_made_parameters hr rfl (pa_cons (pe_op op_sub (pe_callB call_len_seq (by rfl) B.len PySem.boot_len (pa_cons (pe_ix ix_tup (pe_ix ix_tup (pv 0) pe_int (fun _ _ => rfl)) pe_int (fun _ _ => rfl)) pa_nil)) pe_int) pa_nil)))
    (pss_cons (ps_set (i := 3) sc_filled.nd rfl (.inl rfl) (pe_tup (pa_cons (pe_ix ix_tup (pe_ix ix_tup (pv 0) pe_int (fun _ _ => rfl)) pe_int (fun _ _ => rfl)) (pa_cons (pe_tup (pa_cons pe_str (pa_cons (pv 1) pa_nil))) (StX.pa_star (pv 2) pa_nil)))))
    (pss_one (ps_ret (cal c_with_front hr rfl (pa_cons (pv 0) (pa_cons (pv 2) (pa_cons (pv 3) pa_nil)))))))), ?_⟩
  have mv0 := mv
  obtain ⟨a, xs, rfl, hS, pf⟩ := mv
  have lx := mp_len pf
  obtain ⟨v0, hv0, m0⟩ : ∃ v0, xs[0]? = some v0 ∧ MfV g K H v0 f0 := by
    have l0 : 0 < xs.length := by rw [lx]; exact (List.getElem?_eq_some_iff.mp e0).1
    have e := List.getElem?_eq_getElem l0
    obtain ⟨b, hb, r⟩ := mp_at pf e
    rw [e0] at hb
    cases hb
    exact ⟨_, e, r⟩
  obtain ⟨oa, vp, vb, rfl, hO, tp, fz, tb⟩ := m0
  obtain ⟨pa, pvs, rfl, hP, rP⟩ := tp.list
  have lP := rP.length
  refine ⟨_, rfl, a, xs, _, _, rfl, rfl, hS, atI_nat (j := 0) hv0, oa, _, _, _, rfl, rfl, hO, rfl, pa, pvs, rfl, .inr hP, _, _, rfl, rfl, ?_⟩
  refine ⟨m, by rw [lP, ln]; show [V.int (((m + 1 : Nat) : Int) - 1)] = _; rw [show (((m + 1 : Nat) : Int) - 1) = (m : Nat) by omega], by omega, fun vq H1 tq fzq k1 => ?_⟩
  obtain ⟨qa, qvs, rfl, hQ, rQ⟩ := tq.list
  have lQ := rQ.length
  rw [List.length_map, mps_len] at lQ
  have lq : ∀ {G : Hp}, Tr K G (.str "quote") (.w qw) := by rw [show ("quote" : Str) = tx qw by decide +kernel]; exact tr_w
  refine ⟨_, rfl, a, xs, _, _, rfl, rfl, k1.sqT hS, atI_nat (j := 0) hv0, oa, _, _, _, rfl, rfl, k1.sqT hO, rfl, _, rfl, ?_⟩
  refine ⟨by show 2 ≤ sizeLine; decide, fun T nT => ?_⟩
  have kT : Keep [] H1 (upd H1 T (.tup [.str "quote", vx])) := Keep.new nT
  have eT : (upd H1 T (.tup [.str "quote", vx])) T = some (.tup [.str "quote", vx]) := upd_same
  generalize upd H1 T (.tup [.str "quote", vx]) = H2 at kT eT
  have k02 := k1.trans kT
  refine ⟨_, rfl, qa, qvs, rfl, .inl (kT.sqT hQ), ?_⟩
  refine ⟨by show (V.str (tx f0.1) :: V.ref T :: (qvs ++ [])).length ≤ sizeLine; rw [List.append_nil, List.length_cons, List.length_cons]; exact Nat.le_trans (show _ ≤ 1000 by omega) (by decide), fun U nU => ?_⟩
  rw [List.append_nil]
  have kU : Keep [] H2 (upd H2 U (.tup (.str (tx f0.1) :: .ref T :: qvs))) := Keep.new nU
  have k2U := kT.trans kU
  have k0U := k1.trans k2U
  refine ⟨_, rfl, _, rfl, _, rfl, ?_⟩
  refine ⟨.ref a, .ref qa, .ref U, L, mpsT m, fillB f0.1 t m, rfl, mv0.keep k0U, tq.keep k2U, fun _ => fzq.kp (Kp.of k2U), ?_, lL, fun v' H' r k => q v' H' r (k0U.trans k)⟩
  exact tr_tup upd_same (trs_cons tr_w (trs_cons (tr_tup (kU.tup eT) (trs_cons lq (Trs.one (tx0.keep k0U)))) (rQ.keep k2U)))
/-- where the programs begin -/
def mainsOf {α : Type} : List (List (List Nat × α × Tree)) → Nat → List (List Nat)
  | [], _ => []
  | L :: Ls, s => madeN s :: mainsOf Ls (s + L.length)
theorem mainsOf_len {α : Type} : ∀ (Ls : List (List (List Nat × α × Tree))) (s : Nat), (mainsOf Ls s).length = Ls.length
  | [], _ => rfl
  | L :: Ls, s => by rw [mainsOf, List.length_cons, mainsOf_len Ls, List.length_cons]
theorem mainsOf_app {α : Type} : ∀ (A B : List (List (List Nat × α × Tree))) (s : Nat), mainsOf (A ++ B) s = mainsOf A s ++ mainsOf B (s + tot A)
  | [], B, s => by rw [List.nil_append, mainsOf, List.nil_append, tot, Nat.add_zero]
  | L :: A, B, s => by rw [List.cons_append, mainsOf, mainsOf, mainsOf_app A B, tot, List.cons_append, Nat.add_assoc]
theorem sides_app {α : Type} : ∀ (A B : List (List (List Nat × α × Tree))) (s : Nat), sides (A ++ B) s = sides A s ++ sides B (s + tot A)
  | [], B, s => by rw [List.nil_append, sides, List.nil_append, tot, Nat.add_zero]
  | L :: A, B, s => by rw [List.cons_append, sides, sides, sides_app A B, tot, List.append_assoc, Nat.add_assoc]
theorem tot_take : ∀ {Ls : List (List Fn)}, (∀ L ∈ Ls, RenOk L) → ∀ i, tot (Ls.take i) ≤ 1000 * i
  | [], _, i => by rw [List.take_nil, tot]; exact Nat.zero_le _
  | L :: Ls, h, 0 => by rw [List.take_zero, tot]; exact Nat.zero_le _
  | L :: Ls, h, i + 1 => by
    have a := tot_take (fun M m => h M (List.mem_cons_of_mem _ m)) i
    have b := (h L (List.mem_cons_self ..)).2.1
    rw [List.take_succ_cons, tot]
    omega
def SideInv (g : Prop) (K : PySem.W.Frag) (H : Hp) (a Fd Md : Addr) (Ls : List (List Fn)) (i : Nat) (σ : L2.St) (H' : Hp) : Prop := ∃ (y3 : Option V) (ds : List V), σ = [some (.ref a), some (.ref Fd), some (.ref Md), y3] ∧ Keep [] H H' ∧ H' Fd = some (.lst ds) ∧ Paired (MfV g K H') ds (sides (Ls.take i) 0) ∧ H' Md = some (.lst ((mainsOf (Ls.take i) 0).map fun x => V.str (tx x)))
def spSides (g : Prop) (K : PySem.W.Frag) : Sp := fun vs H Q _ => ∃ (a : Addr) (xs : List V) (Ls : List (List Fn)), vs = [.ref a] ∧ (SqL K H a xs ∨ SqT K H a xs) ∧ Paired (MpV g K H) xs Ls ∧ (∀ L ∈ Ls, RenOk L) ∧ Ls.length ≤ 100 ∧ ∀ (v' : V) (H' : Hp), (∃ (R M : Addr) (vF : V), v' = .ref R ∧ SqT K H' R [vF, .ref M] ∧ MpV g K H' vF (sides Ls 0) ∧ H' M = some (.lst ((mainsOf Ls 0).map fun x => V.str (tx x)))) → Keep [] H H' → Q v' H'
theorem has_sides {g : Prop} {k : Nat} (D : DefAt K mg "side_by_side" s_side_by_side p_side_by_side) (B : Bn mg) (c1 : Has P w K mg base k "_renamed_good" p_renamed_good (spRenGood g K)) (c2 : Has P w K mg base k "made_name" p_made_name spMade) : Has P w K mg base (k + 1) "side_by_side" p_side_by_side (spSides g K) := by
  obtain ⟨f, fd, F, hm, hb⟩ := D.ex
  obtain ⟨_, _, c_renamed_good⟩ := c1
  obtain ⟨_, _, c_made_name⟩ := c2
  refine ⟨f, fd, F.ok sc_side_by_side (fun vs H Q E h => ?_) (fun cdv A outer s H vs Q E hr h => ?_), hm, F.kp, hb⟩
  · obtain ⟨_, _, _, rfl, _⟩ := h
    rfl
  obtain ⟨a, xs, Ls, rfl, hS, pf, ok, lL, q⟩ := h
  refine ⟨_, (pss_cons (ps_set (i := 1) sc_side_by_side.nd rfl (.inl rfl) (pe_lst pa_nil))
    (pss_cons (ps_set (i := 2) sc_side_by_side.nd rfl (.inl rfl) (pe_lst pa_nil))
    (pss_cons (ps_for PassesOwn.never rfl (pi_lt (pv 0)) (pg_name (i := 3) sc_side_by_side.nd rfl (.inl rfl))
      (pss_cons (ps_expr (pe_bm PySem.F.plainAttrs_list PySem.F.slot_list_append PySem.F.type_list_append mt_append (pv 2) (pa_cons (cal c_made_name hr rfl (pa_cons (pe_callB call_len_seq (by rfl) B.len PySem.boot_len (pa_cons (pv 1) pa_nil)) pa_nil)) pa_nil)))
      (pss_one (ps_expr (pe_bm PySem.F.plainAttrs_list PySem.F.slot_list_extend PySem.F.type_list_extend mt_extendT (pv 1) (pa_cons (cal c_renamed_good hr rfl (pa_cons (pv 3) (pa_cons (pe_callB call_len_seq (by rfl) B.len PySem.boot_len (pa_cons (pv 1) pa_nil)) pa_nil))) pa_nil))))))
    (pss_one (ps_ret (pe_tup (pa_cons (pe_callTy call_tuple_of (by rfl) B.tuple (by decide +kernel) (pa_cons (pv 1) pa_nil)) (pa_cons (pv 2) pa_nil)))))))), ?_⟩
  have lx := mp_len pf
  refine ⟨by show (0 : Nat) ≤ sizeLine; decide, fun Fd nF => ?_⟩
  have eF0 : (upd H Fd (.lst [])) Fd = some (.lst []) := upd_same
  have kF : Keep [] H (upd H Fd (.lst [])) := Keep.new nF
  generalize upd H Fd (.lst []) = H1 at eF0 kF
  refine ⟨by show (0 : Nat) ≤ sizeLine; decide, fun Md nM => ?_⟩
  have MF : Md ≠ Fd := Ne.symm (ne_of_none eF0 nM)
  have kM : Keep [] H1 (upd H1 Md (.lst [])) := Keep.new nM
  have eM0 : (upd H1 Md (.lst [])) Md = some (.lst []) := upd_same
  have eF1 := kM.same _ _ eF0
  generalize upd H1 Md (.lst []) = H2 at eM0 kM eF1
  have k02 := kF.trans kM
  have nM0 : H Md = none := by
    cases e : H Md with
    | none => rfl
    | some o =>
      have := kF.same _ _ e
      rw [nM] at this
      cases this
  have step : ∀ (i : Nat) (x : V) (σ : L2.St) (H' : Hp) (D : Ends), xs[i]? = some x → SideInv g K H a Fd Md Ls i σ H' → (∀ σ2 H3, SideInv g K H a Fd Md Ls (i + 1) σ2 H3 → D.nx σ2 H3) →
      (gName 3) x σ H' fun σ2 H3 => (tSeq
            (tDrop
              (tBM K "list" rAppend (tVar 2)
                (tCons (tCall spMade [] E0 (tCons (tCB (rLenK K) (tCons (tVar 1) tNil)) tNil)) tNil)))
            (tDrop
              (tBM K "list" (rExtT K) (tVar 1)
                (tCons (tCall (spRenGood g K) [] E0 (tCons (tVar 3) (tCons (tCB (rLenK K) (tCons (tVar 1) tNil)) tNil))) tNil)))) D σ2 H3 := by
    rintro i x σ H' D hx ⟨y3, ds, rfl, kk, eF, pd, eM⟩ nx
    obtain ⟨L, hL, mv⟩ := mp_at pf hx
    have mL := List.mem_of_getElem? hL
    have il : i < Ls.length := (List.getElem?_eq_some_iff.mp hL).1
    have okL := ok L mL
    have lds := mp_len pd
    rw [sides_len] at lds
    have tk : Ls.take (i + 1) = Ls.take i ++ [L] := by rw [List.take_add_one, hL]; rfl
    have tb : tot (Ls.take i) ≤ 1000 * i := tot_take ok i
    have lm : (mainsOf (Ls.take i) 0).length ≤ i := by rw [mainsOf_len, List.length_take]; omega
    refine ⟨_, rfl, .inl ⟨rfl, _, SqL.of eM⟩, _, rfl, Fd, ds, rfl, .inl (SqL.of eF), ds.length, rfl, by omega, ?_⟩
    refine ⟨Md, _, _, rfl, rfl, eM, Nat.lt_of_le_of_lt (show _ ≤ 100 by rw [List.length_map]; omega) (by decide), ?_⟩
    have kA : Keep [Md] H' (upd H' Md (.lst ((mainsOf (Ls.take i) 0).map (fun x => V.str (tx x)) ++ [.str (tx (madeN ds.length))]))) := Keep.set eM (List.mem_cons_self ..)
    have eM2 : (upd H' Md (.lst ((mainsOf (Ls.take i) 0).map (fun x => V.str (tx x)) ++ [.str (tx (madeN ds.length))]))) Md = some (.lst ((mainsOf (Ls.take i) 0).map (fun x => V.str (tx x)) ++ [.str (tx (madeN ds.length))])) := upd_same
    have eF2 : (upd H' Md (.lst ((mainsOf (Ls.take i) 0).map (fun x => V.str (tx x)) ++ [.str (tx (madeN ds.length))]))) Fd = some (.lst ds) := by rw [upd_ne (Ne.symm MF)]; exact eF
    generalize upd H' Md (.lst ((mainsOf (Ls.take i) 0).map (fun x => V.str (tx x)) ++ [.str (tx (madeN ds.length))])) = H3 at kA eM2 eF2
    have k3 : Keep [] H H3 := (kk.cons.trans kA).drop nM0
    refine ⟨_, rfl, .inl ⟨rfl, _, SqL.of eF2⟩, _, rfl, _, rfl, Fd, ds, rfl, .inl (SqL.of eF2), ?_⟩
    refine ⟨x, L, ds.length, rfl, mv.keep k3, okL, by omega, fun v' H4 mv' k4 => ?_⟩
    obtain ⟨b, zs, rfl, hZ, pz⟩ := mv'
    have lz := mp_len pz
    rw [renL_len] at lz
    have hl := okL.2.1
    have eF4 := k4.same _ _ eF2
    have eM4 := k4.same _ _ eM2
    refine ⟨Fd, b, ds, zs, rfl, rfl, eF4, hZ, Nat.le_trans (show _ ≤ 1000000 by omega) (by decide), ?_⟩
    have kB : Keep [Fd] H4 (upd H4 Fd (.lst (ds ++ zs))) := Keep.set eF4 (List.mem_cons_self ..)
    refine nx _ _ ⟨_, ds ++ zs, rfl, ((k3.trans k4).cons.trans kB).drop nF, upd_same, ?_, ?_⟩
    · rw [tk, sides_app]
      refine mp_app (mp_imp (fun _ _ z => ((z.kp kA).keep k4).kp kB) pd) ?_
      rw [sides, sides, List.append_nil, Nat.zero_add, ← lds]
      exact mp_imp (fun _ _ z => z.kp kB) pz
    · rw [upd_ne MF, eM4, tk, mainsOf_app, mainsOf, mainsOf, List.map_append, Nat.zero_add, ← lds]
      rfl
  have i0 : SideInv g K H a Fd Md Ls 0 [some (.ref a), some (.ref Fd), some (.ref Md), none] H2 := ⟨none, [], rfl, k02, eF1, .nil, eM0⟩
  have fin : ∀ σ H', SideInv g K H a Fd Md Ls xs.length σ H' → tRet (tTup (tCons (tCB (fun xs H_1 Q =>
              ∃ p ys,
                xs = [V.ref p] ∧
                  ((SqL K H_1 p ys ∧
                      ∀ (l : Addr), H_1 l = none → Q (V.ref l) (upd H_1 l (HO.tup ys))) ∨
                    SqT K H_1 p ys ∧
                      Q (V.ref p) H_1)) (tCons (tVar 1) tNil)) (tCons (tVar 2) tNil))) { nx := fun x H' => Q V.non H', rt := Q } σ H' := by
    rintro σ H' ⟨y3, ds, rfl, kk, eF, pd, eM⟩
    rw [lx, List.take_length] at pd eM
    refine ⟨_, rfl, Fd, ds, rfl, .inl ⟨SqL.of eF, fun l nl => ?_⟩⟩
    have kl : Keep [] H' (upd H' l (.tup ds)) := Keep.new nl
    have el : (upd H' l (.tup ds)) l = some (.tup ds) := upd_same
    have eM5 := kl.same _ _ eM
    generalize upd H' l (.tup ds) = H5 at kl el eM5
    refine ⟨_, rfl, by show 2 ≤ sizeLine; decide, fun R nR => ?_⟩
    have kR : Keep [] H5 (upd H5 R (.tup [.ref l, .ref Md])) := Keep.new nR
    exact q _ _ ⟨R, Md, .ref l, rfl, SqT.of_tup upd_same, ⟨l, ds, rfl, SqT.of_tup (kR.tup el), mp_imp (fun _ _ z => z.keep (kl.trans kR)) pd⟩, kR.same _ _ eM5⟩ ((kk.trans kl).trans kR)
  rcases hS with hS | hS
  · refine ⟨_, rfl, a, rfl, .inl ⟨⟨xs, k02.sqL (by simp) hS⟩, ?_⟩⟩
    refine for_list (K := K) (a := a) (xs := xs) (SideInv g K H a Fd Md Ls) i0 (fun i σ H' _ p => ?_) (fun i x σ H' hx p => ?_) (fun σ H' p => fin σ H' p)
    · obtain ⟨_, _, _, kk, _⟩ := p
      exact kk.sqL (by simp) hS
    · exact step i x σ H' _ hx p (fun _ _ z => z)
  · refine ⟨_, rfl, a, rfl, .inr ⟨⟨xs, k02.sqT hS⟩, ?_⟩⟩
    refine for_tup (K := K) (a := a) (xs := xs) (SideInv g K H a Fd Md Ls) i0 (fun i σ H' _ p => ?_) (fun i x σ H' hx p => ?_) (fun σ H' p => fin σ H' p)
    · obtain ⟨_, _, _, kk, _⟩ := p
      exact kk.sqT hS
    · exact step i x σ H' _ hx p (fun _ _ z => z)
end
end Og

namespace Og
open PySem PySem.Spec PyProof.Rows L2
section
variable {P : Program} {w : World} {K : PySem.W.Frag} {mg : Str → Option Value} {base : Heap}
theorem mpsT_len (k : Nat) : (mpsT k).length = k := by unfold mpsT; rw [List.length_map, mps_len]
def spFill (g : Prop) (K : PySem.W.Frag) : Sp := fun vs H Q _ => ∃ (v vx : V) (L : List Fn) (f0 : Fn) (k : Nat) (t : Tree), vs = [v, vx] ∧ MpV g K H v L ∧ GoodL L ∧ WT (.l (L.map fnt)) ∧ (Tree.l (L.map fnt)).size ≤ 300000 ∧ L.length ≤ 1000 ∧ L[0]? = some f0 ∧ f0.2.1.length = k + 1 ∧ k ≤ 8 ∧ Tr K H vx t ∧ ∀ (v' : V) (H' : Hp), MpV g K H' v' (fillL L f0.1 k t) → Keep [] H H' → Q v' H'
theorem firstPs_of {L : List Fn} {f0 : Fn} (e : L[0]? = some f0) : firstPs (.l (L.map fnt)) = f0.2.1.length := by
  cases L with
  | nil => cases e
  | cons f r => cases e; rfl
theorem has_fill {CP : Addr} {g : Prop} {k : Nat} (D : DefAt K mg "fill" s_fill p_fill) (B : Bn mg) (M : Mc mg) (c1 : HasX P w K mg base k "inputs_of" p_inputs_of (spInputsX K CP)) (c2 : Has P w K mg base k "filled" p_filled (spFilled g K)) : Has P w K mg base (k + 1) "fill" p_fill (spFill g K) := by
  obtain ⟨f, fd, F, hm, hb⟩ := D.ex
  obtain ⟨_, _, c_inputs_of⟩ := c1
  obtain ⟨_, _, c_filled⟩ := c2
  obtain ⟨_, M_MOST_INPUTS⟩ := M.MOST_INPUTS
  refine ⟨f, fd, F.ok sc_fill (fun vs H Q E h => ?_) (fun cdv A outer s H vs Q E hr h => ?_), hm, F.kp, hb⟩
  · obtain ⟨_, _, _, _, _, _, rfl, _⟩ := h
    rfl
  obtain ⟨v, vx, L, f0, m, t, rfl, mv, gl, wt, sz, lL, e0, ln, hm', tx0, q⟩ := h
  refine ⟨_, (pss_cons (ps_set (i := 2) sc_fill.nd rfl (.inl rfl) (calX c_inputs_of hr rfl pass_never (pa_cons (pv 0) pa_nil)))
    (pss_cons (ps_if (pt_not (pt_chain op_le op_le pe_int (pv 2) (pe_op op_add (pe_glob (v := .int 8) rfl M_MOST_INPUTS ⟨_, rfl⟩) pe_int))) (pss_one ps_never) pss_nil)
    (pss_one (ps_ret (cal c_filled hr rfl (pa_cons (pv 0) (pa_cons (pv 1) pa_nil))))))), ?_⟩
  have good := gl.bad (by rintro rfl; cases e0)
  have no : ∀ n, BadNo (.l (L.map fnt)) (some n) → False := fun n h => by have := BadNo.uniq good h; cases this
  refine ⟨_, rfl, v, _, rfl, ⟨mv.tr, wt, sz, fun fs e => by rw [← Tree.l.inj e, List.length_map]; exact lL⟩, fun n hn => (no n hn).elim, fun H1 _ k1 => ?_⟩
  rw [firstPs_of e0, ln]
  refine ⟨_, rfl, _, _, rfl, rfl, true, congrArg V.bl (decide_eq_true (by omega)), ?_⟩
  rw [if_pos rfl]
  refine ⟨_, _, rfl, rfl, _, _, rfl, rfl, true, congrArg V.bl (decide_eq_true (by omega)), iteF ?_⟩
  refine ⟨_, rfl, _, rfl, v, vx, L, f0, m, t, rfl, mv.keep k1, e0, ln, by omega, by omega, tx0.keep k1, fun v' H' r k => q v' H' r (k1.trans k)⟩
end
end Og

namespace Og
open PySem PySem.Spec PyProof.Rows L2
def sw : List Nat := [115]
def qT (t : Tree) : Tree := .l [.w qw, t]
/-- the text of what fills r with r, s being r -/
def tofT (n : Nat) (ps : List Tree) : Tree := .l [.w joinw, lsT [qT (.w (madeN (n + 1))), qT (.l ps), .l [.w joinw, qT (.w (madeN n)), .l [.w joinw, lsT [qT (.w qw), .w sw], qT (.l ps)]]], .w sw]
theorem newT {K : PySem.W.Frag} {H : Hp} {T : Addr} {vs : List V} {ts : List Tree} (nT : H T = none) (r : Trs K H vs ts) : ∃ H1, upd H T (.tup vs) = H1 ∧ Keep [] H H1 ∧ Tr K H1 (.ref T) (.l ts) :=
  have k : Keep [] H (upd H T (.tup vs)) := Keep.new nT
  ⟨_, rfl, k, tr_tup upd_same (r.keep k)⟩
theorem newL {K : PySem.W.Frag} {H : Hp} {T : Addr} {vs : List V} {ts : List Tree} (nT : H T = none) (r : Trs K H vs ts) : ∃ H1, upd H T (.lst vs) = H1 ∧ Keep [] H H1 ∧ SqL K H1 T vs ∧ Trs K H1 vs ts ∧ H1 T = some (.lst vs) :=
  have k : Keep [] H (upd H T (.lst vs)) := Keep.new nT
  ⟨_, rfl, k, SqL.of upd_same, r.keep k, upd_same⟩
section
variable {P : Program} {w : World} {K : PySem.W.Frag} {mg : Str → Option Value} {base : Heap}
def spTof (K : PySem.W.Frag) : Sp := fun vs H Q _ => ∃ (n : Nat) (vp : V) (ps : List Tree), vs = [.int n, vp] ∧ n ≤ 1000000 ∧ Tr K H vp (.l ps) ∧ ∀ (v' : V) (H' : Hp), Tr K H' v' (tofT n ps) → Keep [] H H' → Q v' H'
theorem has_tof {k : Nat} (D : DefAt K mg "_text_of_filled" s_text_of_filled p_text_of_filled) (B : Bn mg) (c1 : Has P w K mg base k "made_name" p_made_name spMade) (c2 : Has P w K mg base k "listing" p_listing (spListing K)) : Has P w K mg base (k + 1) "_text_of_filled" p_text_of_filled (spTof K) := by
  obtain ⟨f, fd, F, hm, hb⟩ := D.ex
  obtain ⟨_, _, c_made_name⟩ := c1
  obtain ⟨_, _, c_listing⟩ := c2
  refine ⟨f, fd, F.ok sc_text_of_filled (fun vs H Q E h => ?_) (fun cdv A outer s H vs Q E hr h => ?_), hm, F.kp, hb⟩
  · obtain ⟨_, _, _, rfl, _⟩ := h
    rfl
  obtain ⟨n, vp, ps, rfl, hn, tp, q⟩ := h
  refine ⟨_, (pss_cons (ps_set (i := 2) sc_text_of_filled.nd rfl (.inl rfl) (pe_tup (pa_cons pe_str (pa_cons (pe_tup (pa_cons pe_str (pa_cons pe_str pa_nil))) (pa_cons (pe_tup (pa_cons pe_str (pa_cons pe_str (pa_cons (pe_tup (pa_cons pe_str (pa_cons (pe_tup pa_nil) pa_nil))) pa_nil)))) pa_nil)))))
    (pss_cons (ps_set (i := 3) sc_text_of_filled.nd rfl (.inl rfl) (pe_tup (pa_cons pe_str (pa_cons (pe_tup (pa_cons pe_str (pa_cons (cal c_made_name hr rfl (pa_cons (pv 0) pa_nil)) pa_nil))) (pa_cons (pe_tup (pa_cons pe_str (pa_cons (pv 2) (pa_cons (pe_tup (pa_cons pe_str (pa_cons (pv 1) pa_nil))) pa_nil)))) pa_nil)))))
    (pss_cons (ps_set (i := 4) sc_text_of_filled.nd rfl (.inl rfl) (cal c_listing hr rfl (pa_cons (pe_lst (pa_cons (pe_tup (pa_cons pe_str (pa_cons (cal c_made_name hr rfl (pa_cons (pe_op op_add (pv 0) pe_int) pa_nil)) pa_nil))) (pa_cons (pe_tup (pa_cons pe_str (pa_cons (pv 1) pa_nil))) (pa_cons (pv 3) pa_nil)))) pa_nil)))
    (pss_one (ps_ret (pe_tup (pa_cons pe_str (pa_cons (pv 4) (pa_cons pe_str pa_nil))))))))), ?_⟩
  have lq : ∀ {G : Hp}, Tr K G (.str "quote") (.w qw) := by rw [show ("quote" : Str) = tx qw by decide +kernel]; exact tr_w
  have lj : ∀ {G : Hp}, Tr K G (.str "join") (.w joinw) := by rw [show ("join" : Str) = tx joinw by decide +kernel]; exact tr_w
  have ls : ∀ {G : Hp}, Tr K G (.str "s") (.w sw) := by rw [show ("s" : Str) = tx sw by decide +kernel]; exact tr_w
  refine ⟨by show 2 ≤ sizeLine; decide, fun T nT => ?_⟩
  obtain ⟨H1, e1, k1, t1⟩ := newT nT (trs_cons lq (Trs.one lq))
  rw [e1]
  refine ⟨by show 0 ≤ sizeLine; decide, fun T nT => ?_⟩
  obtain ⟨H2, e2, k2, t2⟩ := newT (K := K) nT trs_nil
  rw [e2]
  refine ⟨by show 2 ≤ sizeLine; decide, fun T nT => ?_⟩
  obtain ⟨H3, e3, k3, t3⟩ := newT nT (trs_cons lq (Trs.one t2))
  rw [e3]
  refine ⟨by show 3 ≤ sizeLine; decide, fun T nT => ?_⟩
  obtain ⟨H4, e4, k4, t4⟩ := newT nT (trs_cons lj (trs_cons ls (Trs.one t3)))
  rw [e4]
  refine ⟨by show 3 ≤ sizeLine; decide, fun T nT => ?_⟩
  obtain ⟨H5, e5, k5, t5⟩ := newT nT (trs_cons lj (trs_cons (t1.keep (k2.trans (k3.trans k4))) (Trs.one t4)))
  rw [e5]
  have tp5 := tp.keep (k1.trans (k2.trans (k3.trans (k4.trans k5))))
  refine ⟨_, rfl, n, rfl, by omega, ?_⟩
  refine ⟨by show 2 ≤ sizeLine; decide, fun T nT => ?_⟩
  obtain ⟨H6, e6, k6, t6⟩ := newT nT (trs_cons lq (Trs.one tr_w))
  rw [e6]
  refine ⟨_, rfl, _, rfl, ?_⟩
  refine ⟨by show 2 ≤ sizeLine; decide, fun T nT => ?_⟩
  obtain ⟨H7, e7, k7, t7⟩ := newT nT (trs_cons lq (Trs.one (tp5.keep k6)))
  rw [e7]
  refine ⟨by show 3 ≤ sizeLine; decide, fun T nT => ?_⟩
  obtain ⟨H8, e8, k8, t8⟩ := newT nT (trs_cons lj (trs_cons (t5.keep (k6.trans k7)) (Trs.one t7)))
  rw [e8]
  refine ⟨by show 3 ≤ sizeLine; decide, fun T nT => ?_⟩
  obtain ⟨H9, e9, k9, t9⟩ := newT nT (trs_cons lj (trs_cons (t6.keep (k7.trans k8)) (Trs.one t8)))
  rw [e9]
  have tp9 := tp5.keep (k6.trans (k7.trans (k8.trans k9)))
  refine ⟨_, rfl, _, _, rfl, rfl, n + 1, rfl, by omega, ?_⟩
  refine ⟨by show 2 ≤ sizeLine; decide, fun T nT => ?_⟩
  obtain ⟨HA, eA, kA, tA⟩ := newT nT (trs_cons lq (Trs.one tr_w))
  rw [eA]
  refine ⟨_, rfl, ?_⟩
  refine ⟨by show 2 ≤ sizeLine; decide, fun T nT => ?_⟩
  obtain ⟨HB, eB, kB, tB⟩ := newT nT (trs_cons lq (Trs.one (tp9.keep kA)))
  rw [eB]
  refine ⟨_, rfl, ?_⟩
  refine ⟨by show 3 ≤ sizeLine; decide, fun Ld nL => ?_⟩
  obtain ⟨HC, eC, kC, sC, rC, _⟩ := newL nL (trs_cons (tA.keep kB) (trs_cons tB (Trs.one (t9.keep (kA.trans kB)))))
  rw [eC]
  refine ⟨Ld, _, _, rfl, sC, rC, by show 3 ≤ 1000000; decide, fun v' HD tD kD => ?_⟩
  refine ⟨_, rfl, ?_⟩
  refine ⟨by show 3 ≤ sizeLine; decide, fun T nT => ?_⟩
  obtain ⟨HE, eE, kE, tE⟩ := newT nT (trs_cons lj (trs_cons tD (Trs.one ls)))
  rw [eE]
  exact q _ _ tE (k1.trans (k2.trans (k3.trans (k4.trans (k5.trans (k6.trans (k7.trans (k8.trans (k9.trans (kA.trans (kB.trans (kC.trans (kD.trans kE)))))))))))))
end
end Og

namespace Og
open PySem PySem.Spec PyProof.Rows L2
/-- the reader -/
def kpsT (k : Nat) : List Tree := .w sw :: mpsT k
def kbody (n k : Nat) : Tree := .l (.w (madeN 0) :: tofT n (mpsT k) :: mpsT k)
def knowR (L : List Fn) (k : Nat) : List Fn := fronted [L] (kpsT k) (kbody L.length k)
def knowL (L : List Fn) (k : Nat) : List Fn := fillL (knowR L k) (madeN L.length) k (.l ((knowR L k).map fnt))
theorem fronted_cons {L : List Fn} {ps : List Tree} {b : Tree} : fronted [L] ps b = (madeN (sides [L] 0).length, ps, b) :: sides [L] 0 := by
  unfold fronted
  rw [sides_len]
theorem sides_one (L : List Fn) : sides [L] 0 = renL L 0 := by rw [sides, sides, List.append_nil]
theorem knowR_len (L : List Fn) (k : Nat) : (knowR L k).length = L.length + 1 := by
  unfold knowR
  rw [fronted_cons, sides_one, List.length_cons, renL_len]
/-! ### sizes -/
theorem fnt_size (f : Fn) : (fnt f).size = sizes f.2.1 + f.2.2.size + 3 := by
  unfold fnt
  rw [size_l, sizes_cons, sizes_cons, sizes_cons, sizes_nil, size_w, size_l]
  omega
theorem renL_size (ns : List (List Nat)) (s : Nat) : ∀ L : List Fn, sizes ((L.map (renF ns s)).map fnt) = sizes (L.map fnt)
  | [] => rfl
  | f :: L => by
    rw [List.map_cons, List.map_cons, List.map_cons, sizes_cons, sizes_cons, renL_size ns s L, fnt_size, fnt_size]
    show sizes f.2.1 + (ren _ f.2.2).size + 3 + _ = _
    rw [ren_size]
theorem sizes_ws : ∀ L : List (List Nat), sizes (L.map Tree.w) = L.length
  | [] => rfl
  | x :: L => by rw [List.map_cons, sizes_cons, size_w, sizes_ws L, List.length_cons]; omega
theorem mpsT_size (k : Nat) : sizes (mpsT k) = k := by unfold mpsT; rw [sizes_ws, mps_len]
theorem qT_size (t : Tree) : (qT t).size = t.size + 2 := by unfold qT; rw [size_l, sizes_cons, sizes_cons, sizes_nil, size_w]; omega
theorem join_size (a b : Tree) : (Tree.l [.w joinw, a, b]).size = a.size + b.size + 2 := by rw [size_l, sizes_cons, sizes_cons, sizes_cons, sizes_nil, size_w]; omega
theorem ls0_size : (lsT []).size = 3 := by rw [lsT, size_l, sizes_cons, sizes_cons, sizes_nil, size_w, size_l, sizes_nil]
theorem tofT_size (n k : Nat) : (tofT n (mpsT k)).size = 2 * k + 39 := by
  unfold tofT
  simp only [lsT, join_size, qT_size, size_l, size_w, mpsT_size, sizes_cons, sizes_nil]
  omega
theorem kbody_size (n k : Nat) : (kbody n k).size = 3 * k + 41 := by
  unfold kbody
  rw [size_l, sizes_cons, sizes_cons, size_w, tofT_size, mpsT_size]
  omega
theorem knowR_size (L : List Fn) (k : Nat) : (Tree.l ((knowR L k).map fnt)).size = (Tree.l (L.map fnt)).size + 4 * k + 45 := by
  unfold knowR
  rw [fronted_cons, sides_one, size_l, size_l, List.map_cons, sizes_cons, fnt_size]
  unfold renL
  rw [renL_size]
  show sizes (kpsT k) + (kbody L.length k).size + 3 + _ + 1 = _
  unfold kpsT
  rw [sizes_cons, size_w, mpsT_size, kbody_size]
  omega
/-! ### words -/
theorem wq (t : Tree) (h : WT t) : WT (qT t) := wt_l (wts_cons (wt_w (isWord_of (by decide))) (wts_cons h wts_nil))
theorem wj {a b : Tree} (h : WT a) (h2 : WT b) : WT (.l [.w joinw, a, b]) := wt_l (wts_cons (wt_w (isWord_of (by decide))) (wts_cons h (wts_cons h2 wts_nil)))
theorem wls : ∀ {ts : List Tree}, WTs ts → WT (lsT ts)
  | [], _ => wq _ (wt_l wts_nil)
  | t :: ts, h => by rw [lsT]; exact wj h.head (wls h.tail)
theorem mpsT_wt {k : Nat} (h : k ≤ 100) : WTs (mpsT k) := WTs.of fun t m => by
  obtain ⟨x, mx, rfl⟩ := List.mem_map.mp m
  obtain ⟨i, hi, rfl⟩ := mps_mem mx
  exact wt_w (wordP (by omega))
theorem wsw : WT (.w sw) := wt_w (isWord_of (by decide))
theorem tofT_wt {n k : Nat} (hn : n ≤ 1000000) (h : k ≤ 100) : WT (tofT n (mpsT k)) := by
  have m := mpsT_wt h
  refine wj (wls (wts_cons (wq _ (wt_w (wordN (by omega)))) (wts_cons (wq _ (wt_l m)) (wts_cons (wj (wq _ (wt_w (wordN (by omega)))) (wj (wls (wts_cons (wq _ (wt_w (isWord_of (by decide)))) (wts_cons wsw wts_nil))) (wq _ (wt_l m)))) wts_nil)))) wsw
theorem knowR_wt {L : List Fn} {k : Nat} (h : WT (.l (L.map fnt))) (ll : L.length ≤ 1000000) (hk : k ≤ 100) : WT (.l ((knowR L k).map fnt)) := by
  unfold knowR
  rw [fronted_cons, sides_one, List.map_cons]
  have m := mpsT_wt hk
  refine wt_l (wts_cons (wt_l (wts_cons (wt_w (wordN (by rw [renL_len]; omega))) (wts_cons (wt_l (wts_cons wsw m)) (wts_cons (wt_l (wts_cons (wt_w (wordN (by omega))) (wts_cons (tofT_wt ll hk) m))) wts_nil)))) (WTs.of fun t mt => ?_))
  obtain ⟨f, mf, rfl⟩ := List.mem_map.mp mt
  obtain ⟨g, mg, rfl⟩ := List.mem_map.mp mf
  have wg := (h.list.all _ (List.mem_map.mpr ⟨g, mg, rfl⟩)).list
  have sg : ∀ x, IsWord x → IsWord (sig (L.map (·.1)) 0 x) := fun x hx => sig_word (by rw [List.length_map]; omega) hx
  exact wt_l (wts_cons (wt_w (sg _ wg.head.word)) (wts_cons wg.tail.head (wts_cons (ren_wt sg _ wg.tail.tail.head) wts_nil)))
/-! ### good -/
theorem gq {fs ps : List Tree} (t : Tree) : GoodE fs ps (qT t) := by
  unfold qT
  rw [GoodE]
  exact ⟨by unfold parts; rw [show spAr qw = some 1 by decide +kernel]; rfl, .inl rfl⟩
theorem gj {fs ps : List Tree} {a b : Tree} (h : GoodE fs ps a) (h2 : GoodE fs ps b) : GoodE fs ps (.l [.w joinw, a, b]) := by
  rw [GoodE]
  refine ⟨by unfold parts; rw [show spAr joinw = some 2 by decide +kernel]; rfl, .inr ?_⟩
  rw [GoodEs, GoodEs, GoodEs]
  exact ⟨h, h2, trivial⟩
theorem gls {fs ps : List Tree} : ∀ {ts : List Tree}, (∀ t ∈ ts, GoodE fs ps t) → GoodE fs ps (lsT ts)
  | [], _ => gq _
  | t :: ts, h => by rw [lsT]; exact gj (h t (List.mem_cons_self ..)) (gls fun u m => h u (List.mem_cons_of_mem _ m))
theorem ges_of {fs ps : List Tree} : ∀ {ts : List Tree}, (∀ t ∈ ts, GoodE fs ps t) → GoodEs fs ps ts
  | [], _ => by rw [GoodEs]; trivial
  | t :: ts, h => by rw [GoodEs]; exact ⟨h t (List.mem_cons_self ..), ges_of fun u m => h u (List.mem_cons_of_mem _ m)⟩
theorem g_tof {fs ps : List Tree} {n k : Nat} (hs : .w sw ∈ ps) : GoodE fs ps (tofT n (mpsT k)) := by
  have s : GoodE fs ps (.w sw) := by rw [goodE_w]; exact hs
  refine gj (gls fun t m => ?_) s
  rcases List.mem_cons.mp m with rfl | m
  · exact gq _
  rcases List.mem_cons.mp m with rfl | m
  · exact gq _
  rw [List.mem_singleton.mp m]
  refine gj (gq _) (gj (gls fun t m => ?_) (gq _))
  rcases List.mem_cons.mp m with rfl | m
  · exact gq _
  rw [List.mem_singleton.mp m]
  exact s
theorem kps_good {k : Nat} (h : k ≤ 8) : GoodPs (kpsT k) := by
  have e : kpsT k = (sw :: mps k).map Tree.w := rfl
  rw [e]
  refine goodPs_of (by rw [List.length_cons, mps_len]; omega) (List.nodup_cons.mpr ⟨fun m => ?_, mps_nodup k⟩) fun x m => ?_
  · obtain ⟨i, _, e⟩ := mps_mem m
    cases (List.cons.inj e).1
  · rcases List.mem_cons.mp m with rfl | m
    · decide +kernel
    · obtain ⟨i, _, rfl⟩ := mps_mem m
      exact spAr_par _
theorem knowR_good {L : List Fn} {f0 : Fn} {k : Nat} (h : GoodL L) (e0 : L[0]? = some f0) (ln : f0.2.1.length = k + 1) (hk : k ≤ 8) : GoodL (knowR L k) := by
  refine fronted_good (fun M m => by rw [List.mem_singleton.mp m]; exact h) (kps_good hk) fun fs hc => ?_
  have c := hc (madeN 0, k + 1) (by
    unfold fronted
    rw [sides_one]
    cases L with
    | nil => cases e0
    | cons f r =>
      cases e0
      refine List.mem_cons_of_mem _ (List.mem_cons.mpr (.inl ?_))
      show (madeN 0, k + 1) = (sig (f0.1 :: r.map (·.1)) 0 f0.1, f0.2.1.length)
      rw [sig_in (List.mem_cons_self ..), List.idxOf_cons_self, ln])
  have c : parts fs (madeN 0) = some (k + 1) := c
  unfold kbody
  rw [GoodE]
  refine ⟨by rw [c, List.length_cons, mpsT_len], .inr (ges_of fun t m => ?_)⟩
  rcases List.mem_cons.mp m with rfl | m
  · exact g_tof (List.mem_cons_self ..)
  · have m2 := m
    unfold mpsT at m2
    obtain ⟨x, _, rfl⟩ := List.mem_map.mp m2
    rw [goodE_w]
    exact List.mem_cons_of_mem _ m
theorem ren_ok {L : List Fn} (h : GoodL L) (ll : L.length ≤ 1000) (sz : (Tree.l (L.map fnt)).size ≤ 1000000) : RenOk L := by
  refine ⟨h.nd, ll, fun f m => ⟨ex_of _ (h.ex f m _ h.calls), ?_⟩⟩
  have : (fnt f).size ≤ sizes (L.map fnt) := (by
    obtain ⟨i, e⟩ := List.getElem?_of_mem (List.mem_map.mpr ⟨f, m, rfl⟩ : fnt f ∈ L.map fnt)
    exact size_of_get e)
  rw [size_l] at sz
  rw [fnt_size] at this
  omega
end Og

namespace Og
open PySem PySem.Spec PyProof.Rows L2
section
variable {P : Program} {w : World} {K : PySem.W.Frag} {mg : Str → Option Value} {base : Heap}
def spKnow (g : Prop) (K : PySem.W.Frag) : Sp := fun vs H Q _ => ∃ (v : V) (L : List Fn) (f0 : Fn) (k : Nat), vs = [v] ∧ MpV g K H v L ∧ GoodL L ∧ WT (.l (L.map fnt)) ∧ (Tree.l (L.map fnt)).size ≤ 290000 ∧ L.length ≤ 900 ∧ L[0]? = some f0 ∧ f0.2.1.length = k + 1 ∧ k ≤ 8 ∧ ∀ (v' : V) (H' : Hp), MpV g K H' v' (knowL L k) → Keep [] H H' → Q v' H'
theorem has_know {CP : Addr} {g : Prop} {k : Nat} (D : DefAt K mg "know_own" s_know_own p_know_own) (B : Bn mg) (M : Mc mg) (c1 : HasX P w K mg base k "inputs_of" p_inputs_of (spInputsX K CP)) (c2 : Has P w K mg base k "made_parameters" p_made_parameters (spMPars K)) (c3 : Has P w K mg base k "side_by_side" p_side_by_side (spSides g K)) (c4 : Has P w K mg base k "_text_of_filled" p_text_of_filled (spTof K)) (c5 : Has P w K mg base k "with_front" p_with_front (spFront g K)) (c6 : Has P w K mg base k "fill" p_fill (spFill g K)) : Has P w K mg base (k + 1) "know_own" p_know_own (spKnow g K) := by
  obtain ⟨f, fd, F, hm, hb⟩ := D.ex
  obtain ⟨_, _, c_inputs_of⟩ := c1
  obtain ⟨_, _, c_made_parameters⟩ := c2
  obtain ⟨_, _, c_side_by_side⟩ := c3
  obtain ⟨_, _, c_text_of_filled⟩ := c4
  obtain ⟨_, _, c_with_front⟩ := c5
  obtain ⟨_, _, c_fill⟩ := c6
  obtain ⟨_, M_MOST_INPUTS⟩ := M.MOST_INPUTS
  refine ⟨f, fd, F.ok sc_know_own (fun vs H Q E h => ?_) (fun cdv A outer s H vs Q E hr h => ?_), hm, F.kp, hb⟩
  · obtain ⟨_, _, _, _, rfl, _⟩ := h
    rfl
  obtain ⟨v, L, f0, m, rfl, mv, gl, wt, sz, lL, e0, ln, hm', q⟩ := h
  refine ⟨_, (pss_cons (ps_set (i := 1) sc_know_own.nd rfl (.inl rfl) (calX c_inputs_of hr rfl pass_never (pa_cons (pv 0) pa_nil)))
    (pss_cons (ps_if (pt_not (pt_chain op_le op_le pe_int (pv 1) (pe_op op_add (pe_glob (v := .int 8) rfl M_MOST_INPUTS ⟨_, rfl⟩) pe_int))) (pss_one ps_never) pss_nil)
    (pss_cons (ps_set (i := 2) sc_know_own.nd rfl (.inl rfl) (cal c_made_parameters hr rfl (pa_cons (pe_op op_sub (pv 1) pe_int) pa_nil)))
    (pss_cons (ps_asg (cal c_side_by_side hr rfl (pa_cons (pe_lst (pa_cons (pv 0) pa_nil)) pa_nil)) (pg_tup (by rfl) (pgs_cons (pg_name (i := 3) sc_know_own.nd rfl (.inl rfl)) (pgs_cons (pg_name (i := 4) sc_know_own.nd rfl (.inl rfl)) pgs_nil))))
    (pss_cons (ps_set (i := 5) sc_know_own.nd rfl (.inl rfl) (pe_tup (pa_cons (pe_ix ix_list (pv 4) pe_int (fun _ _ => rfl)) (pa_cons (cal c_text_of_filled hr rfl (pa_cons (pe_callB call_len_seq (by rfl) B.len PySem.boot_len (pa_cons (pv 3) pa_nil)) (pa_cons (pv 2) pa_nil))) (StX.pa_star (pv 2) pa_nil)))))
    (pss_cons (ps_set (i := 6) sc_know_own.nd rfl (.inl rfl) (cal c_with_front hr rfl (pa_cons (pv 3) (pa_cons (pe_tupF (pa_cons pe_str (StX.pa_star (pv 2) pa_nil))) (pa_cons (pv 5) pa_nil)))))
    (pss_one (ps_ret (cal c_fill hr rfl (pa_cons (pv 6) (pa_cons (pv 6) pa_nil))))))))))), ?_⟩
  have good := gl.bad (by rintro rfl; cases e0)
  have no : ∀ n, BadNo (.l (L.map fnt)) (some n) → False := fun n h => by have := BadNo.uniq good h; cases this
  refine ⟨_, rfl, v, _, rfl, ⟨mv.tr, wt, by omega, fun fs e => by rw [← Tree.l.inj e, List.length_map]; omega⟩, fun n hn => (no n hn).elim, fun H1 _ k1 => ?_⟩
  rw [firstPs_of e0, ln]
  refine ⟨_, rfl, _, _, rfl, rfl, true, congrArg V.bl (decide_eq_true (by omega)), ?_⟩
  rw [if_pos rfl]
  refine ⟨_, _, rfl, rfl, _, _, rfl, rfl, true, congrArg V.bl (decide_eq_true (by omega)), iteF ?_⟩
  refine ⟨_, rfl, _, _, rfl, rfl, m, by show [V.int (((m + 1 : Nat) : Int) - 1)] = _; rw [show (((m + 1 : Nat) : Int) - 1) = (m : Nat) by omega], by omega, fun vq H2 tq fzq k2 => ?_⟩
  obtain ⟨qa, qvs, rfl, hQ, rQ⟩ := tq.list
  have lQ := rQ.length
  rw [List.length_map, mps_len] at lQ
  have k02 := k1.trans k2
  refine ⟨_, rfl, by show 1 ≤ sizeLine; decide, fun Ld nL => ?_⟩
  have kL : Keep [] H2 (upd H2 Ld (.lst [v])) := Keep.new nL
  have eL : (upd H2 Ld (.lst [v])) Ld = some (.lst [v]) := upd_same
  generalize upd H2 Ld (.lst [v]) = H3 at kL eL
  have k03 := k02.trans kL
  refine ⟨Ld, [v], [L], rfl, .inl (SqL.of eL), .cons (mv.keep k03) .nil, fun M mM => by rw [List.mem_singleton.mp mM]; exact ren_ok gl (by omega) (by omega), by show 1 ≤ 100; decide, fun v' H4 r k4 => ?_⟩
  obtain ⟨R, Mn, vF, rfl, hR, mF, eM⟩ := r
  refine ⟨R, _, rfl, hR, rfl, ?_⟩
  have mF0 := mF
  obtain ⟨fa, fxs, rfl, hF, pF⟩ := mF
  have lF := mp_len pF
  rw [sides_one, renL_len] at lF
  have tq4 := tq.keep (kL.trans k4)
  have hQ4 := (kL.trans k4).sqT hQ
  have rQ4 := rQ.keep (kL.trans k4)
  have ms : (mainsOf [L] 0).map (fun x => V.str (tx x)) = [V.str (tx (madeN 0))] := rfl
  rw [ms] at eM
  refine ⟨_, _, rfl, _, _, rfl, rfl, _, rfl, Mn, _, 0, _, rfl, rfl, SqL.of eM, atI_zero _ _, ?_⟩
  refine ⟨_, rfl, fa, fxs, rfl, .inr hF, _, rfl, L.length, .ref qa, mpsT m, by rw [lF]; rfl, by omega, tq4, fun vt H5 tt k5 => ?_⟩
  refine ⟨_, rfl, qa, qvs, rfl, .inl (k5.sqT hQ4), ?_⟩
  refine ⟨by show (V.str (tx (madeN 0)) :: vt :: (qvs ++ [])).length ≤ sizeLine; rw [List.append_nil, List.length_cons, List.length_cons]; exact Nat.le_trans (show _ ≤ 1000 by omega) (by decide), fun U nU => ?_⟩
  rw [List.append_nil]
  obtain ⟨H6, e6, k6, t6⟩ := newT nU (trs_cons tr_w (trs_cons tt (rQ4.keep k5)))
  rw [e6]
  have ls : ∀ {G : Hp}, Tr K G (.str "s") (.w sw) := by rw [show ("s" : Str) = tx sw by decide +kernel]; exact tr_w
  refine ⟨_, rfl, _, rfl, qa, qvs, rfl, .inl ((k5.trans k6).sqT hQ4), ?_⟩
  refine ⟨by show (V.str "s" :: (qvs ++ [])).length ≤ sizeLine; rw [List.append_nil, List.length_cons]; exact Nat.le_trans (show _ ≤ 1000 by omega) (by decide), fun W oW nW odW => ?_⟩
  rw [List.append_nil]
  have k7 : Keep [] H6 (upd H6 W (.frz oW (.tup (.str "s" :: qvs)))) := Keep.new nW
  have e7 : (upd H6 W (.frz oW (.tup (.str "s" :: qvs)))) W = some (.frz oW (.tup (.str "s" :: qvs))) := upd_same
  have t7 : Tr K (upd H6 W (.frz oW (.tup (.str "s" :: qvs)))) (.ref W) (.l (kpsT m)) := tr_frz upd_same ((trs_cons ls (rQ4.keep (k5.trans k6))).keep k7)
  generalize upd H6 W (.frz oW (.tup (.str "s" :: qvs))) = H7 at k7 e7 t7
  have k47 := k5.trans (k6.trans k7)
  refine ⟨_, rfl, .ref fa, .ref W, .ref U, sides [L] 0, kpsT m, kbody L.length m, rfl, mF0.keep k47, t7, fun _ => ⟨W, oW, _, rfl, e7, odW⟩, t6.keep k7, by rw [sides_one, renL_len]; omega, fun vr H8 mr k8 => ?_⟩
  have er : (madeN (sides [L] 0).length, kpsT m, kbody L.length m) :: sides [L] 0 = knowR L m := fronted_cons.symm
  rw [er] at mr
  refine ⟨_, rfl, _, rfl, vr, vr, knowR L m, (madeN L.length, kpsT m, kbody L.length m), m, _, rfl, mr, knowR_good gl e0 ln hm', knowR_wt wt (by omega) (by omega), by rw [knowR_size]; omega, by rw [knowR_len]; omega, rfl, ?_, hm', mr.tr, fun v' H' r k => q v' H' r ((k03.trans k4).trans (k47.trans (k8.trans k)))⟩
  show (kpsT m).length = _
  unfold kpsT
  rw [List.length_cons, mpsT_len]
end
end Og

namespace Og
open PySem PySem.Spec PyProof.Rows L2
/-! ### how deep what knows its own text is -/
theorem tds_le {n : Nat} : ∀ {ts : List Tree}, (∀ t ∈ ts, td t ≤ n) → tds ts ≤ n
  | [], _ => by rw [tds]; exact Nat.zero_le _
  | t :: ts, h => by
    rw [tds]
    exact Nat.max_le.mpr ⟨h t (List.mem_cons_self ..), tds_le fun u m => h u (List.mem_cons_of_mem _ m)⟩
theorem td_l {n : Nat} {ts : List Tree} (h : ∀ t ∈ ts, td t ≤ n) : td (.l ts) ≤ n + 1 := by
  rw [td]
  have := tds_le h
  omega
theorem td_w (x : List Nat) : td (.w x) = 0 := by rw [td]
theorem td_deep : ∀ (n : Nat) (t : Tree), Deep n t → td t ≤ n
  | n, .w x, _ => by rw [td_w]; exact Nat.zero_le _
  | 0, .l _, h => h.elim
  | n + 1, .l ts, h => td_l fun t m => td_deep n t (h t m)
mutual
theorem ren_td (s : List Nat → List Nat) : ∀ t, td (ren s t) = td t
  | .w x => by rw [ren_w]
  | .l [] => by rw [ren]
  | .l (.l us :: ts) => by rw [ren]
  | .l (.w n :: ts) => by
    by_cases h : n = qw
    · rw [h, ren_q]
    · rw [ren_c h, td, td, tds, tds, td_w, td_w, rens_td s ts]
theorem rens_td (s : List Nat → List Nat) : ∀ ts, tds (rens s ts) = tds ts
  | [] => by rw [rens]
  | t :: ts => by rw [rens, tds, tds, ren_td s t, rens_td s ts]
end
theorem mpsT_td (k n : Nat) : ∀ t ∈ mpsT k, td t ≤ n := fun t m => by
  obtain ⟨x, _, rfl⟩ := List.mem_map.mp m
  rw [td_w]
  exact Nat.zero_le _
theorem tof_td (n k : Nat) : td (tofT n (mpsT k)) ≤ 20 := by
  have h : tds (mpsT k) = 0 := Nat.le_zero.mp (tds_le (mpsT_td k 0))
  unfold tofT
  simp [lsT, qT, td, tds, h]
theorem fnt_td {f : Fn} {n : Nat} (hp : ∀ t ∈ f.2.1, td t = 0) (hb : td f.2.2 ≤ n) (h1 : 1 ≤ n) : td (fnt f) ≤ n + 1 := by
  refine td_l fun t m => ?_
  rcases List.mem_cons.mp m with rfl | m
  · rw [td_w]; exact Nat.zero_le _
  rcases List.mem_cons.mp m with rfl | m
  · exact Nat.le_trans (td_l (n := 0) fun t m => Nat.le_of_eq (hp t m)) h1
  rw [List.mem_singleton.mp m]
  exact hb
theorem knowR_td {L : List Fn} (k : Nat) (h : GoodL L) (hd : ∀ f ∈ L, td f.2.2 ≤ 6) : td (.l ((knowR L k).map fnt)) ≤ 40 := by
  refine td_l (n := 39) fun t m => ?_
  obtain ⟨f, mf, rfl⟩ := List.mem_map.mp m
  unfold knowR at mf
  rw [fronted_cons, sides_one] at mf
  rcases List.mem_cons.mp mf with rfl | mf
  · refine fnt_td (n := 38) (fun t m => ?_) ?_ (by decide)
    · rcases List.mem_cons.mp m with rfl | m
      · exact td_w _
      · exact Nat.le_zero.mp (mpsT_td k 0 t m)
    · refine td_l (n := 37) fun t m => ?_
      rcases List.mem_cons.mp m with rfl | m
      · rw [td_w]; exact Nat.zero_le _
      rcases List.mem_cons.mp m with rfl | m
      · exact Nat.le_trans (tof_td _ _) (by decide)
      · exact mpsT_td k 37 t m
  · obtain ⟨g, mg, rfl⟩ := List.mem_map.mp mf
    refine fnt_td (n := 38) (fun t m => ?_) ?_ (by decide)
    · obtain ⟨i, hi⟩ := List.getElem?_of_mem m
      obtain ⟨x, rfl, _⟩ := (h.ps g mg).2 i t hi
      exact td_w _
    · show td (ren _ g.2.2) ≤ 38
      rw [ren_td]
      have := hd g mg
      omega
theorem knowL_td {L : List Fn} (k : Nat) (h : GoodL L) (hd : ∀ f ∈ L, td f.2.2 ≤ 6) : td (.l ((knowL L k).map fnt)) ≤ 50 := by
  have r := knowR_td k h hd
  have e : (knowL L k).map fnt = fnt (madeN (knowR L k).length, mpsT k, fillB (madeN L.length) (.l ((knowR L k).map fnt)) k) :: (knowR L k).map fnt := rfl
  rw [e]
  refine td_l (n := 49) fun t m => ?_
  rcases List.mem_cons.mp m with rfl | m
  · refine fnt_td (n := 48) (fun t m => Nat.le_zero.mp (mpsT_td k 0 t m)) (td_l (n := 47) fun t m => ?_) (by decide)
    rcases List.mem_cons.mp m with rfl | m
    · rw [td_w]; exact Nat.zero_le _
    rcases List.mem_cons.mp m with rfl | m
    · refine Nat.le_trans (td_l (n := 40) fun t m => ?_) (by decide)
      rcases List.mem_cons.mp m with rfl | m
      · rw [td_w]; exact Nat.zero_le _
      · rw [List.mem_singleton.mp m]; exact r
    · exact mpsT_td k 47 t m
  · rw [td] at r
    have := td_mem m
    omega
theorem fnts_size {N : Nat} : ∀ {L : List Fn}, (∀ f ∈ L, GoodPs f.2.1 ∧ f.2.2.size ≤ N) → sizes (L.map fnt) ≤ L.length * (N + 15)
  | [], _ => by rw [List.map_nil, sizes_nil]; exact Nat.zero_le _
  | f :: L, h => by
    have a := fnts_size fun g m => h g (List.mem_cons_of_mem _ m)
    obtain ⟨gp, sb⟩ := h f (List.mem_cons_self ..)
    have one : ∀ {ts : List Tree}, (∀ t ∈ ts, t.size = 1) → sizes ts = ts.length := fun {ts} => by
      induction ts with
      | nil => intro _; rw [sizes_nil]; rfl
      | cons t ts ih => intro hh; rw [sizes_cons, hh t (List.mem_cons_self ..), ih fun u m => hh u (List.mem_cons_of_mem _ m), List.length_cons]; omega
    have ps := one (ts := f.2.1) fun t m => by
      obtain ⟨i, hi⟩ := List.getElem?_of_mem m
      obtain ⟨x, rfl, _⟩ := gp.2 i t hi
      exact size_w _
    have l12 := gp.1
    rw [List.map_cons, sizes_cons, fnt_size, List.length_cons, Nat.succ_mul]
    omega
end Og

namespace Og
open PySem PySem.Spec PyProof.Rows L2
section
variable {P : Program} {w : World} {K : PySem.W.Frag} {mg : Str → Option Value} {base : Heap}
/-- found without its last, or its two last, and what is made of them -/
def spDo (K : PySem.W.Frag) (n : Nat) : Sp := fun vs H Q _ => ∃ (wd : List Nat) (fl : Addr) (xs : List V) (x : V) (l : Tree), vs = [.str (tx wd), .ref fl] ∧ Tr K H x l ∧ (∀ ts, l = .l ts → ts.length ≤ 100000) ∧
  ((wd ∈ [wordW, headW, tailW] ∧ H fl = some (.lst (xs ++ [x])) ∧ ∀ (v : V) (H' : Hp), Tr K H' v (prim1 wd l) → H' fl = some (.lst xs) → Keep [fl] H H' → Q v H') ∨
   (wd ∈ [sameW, joinW] ∧ ∃ (y : V) (f : Tree), Tr K H y f ∧ (wd = sameW → min (td f) (td l) ≤ n) ∧ H fl = some (.lst (xs ++ [y] ++ [x])) ∧ ∀ (v : V) (H' : Hp), Tr K H' v (prim2 wd f l) → H' fl = some (.lst xs) → Keep [fl] H H' → Q v H'))
theorem has_do {k n : Nat} (hn : n ≤ 16 * k + 200) (D : DefAt K mg "_law_do" s_law_do p_law_do) (B : Bn mg) : Has P w K mg base (k + 1) "_law_do" p_law_do (spDo K n) := by
  obtain ⟨f, fd, F, hm, hb⟩ := D.ex
  refine ⟨f, fd, F.ok sc_law_do (fun vs H Q E h => ?_) (fun cdv A outer s H vs Q E hr h => ?_), hm, F.kp, hb⟩
  · obtain ⟨_, _, _, _, _, rfl, _⟩ := h
    rfl
  obtain ⟨wd, fl, xs, x, l, rfl, tx0, ll, h⟩ := h
  refine ⟨_, (pss_cons (ps_set (i := 2) sc_law_do.nd rfl (.inl rfl) (pe_bm0 PySem.F.plainAttrs_list PySem.F.slot_list_pop PySem.F.type_list_pop mt_pop (pv 1)))
    (pss_cons (ps_if (pt_cmpR op_eq (pv 0) pe_str (nomark _)) (pss_one (ps_ret (pe_ix ix_list (pe_lst (pl_cons (pe_lw (x := [121, 101, 115]) (by decide +kernel)) (pl_cons (pe_lt pl_nil (by show 0 ≤ sizeLine; decide)) pl_nil))) (pe_callTy call_int1 (by rfl) B.int (by decide +kernel) (pa_cons (pe_callB call_isi (by rfl) B.isinstance (by decide +kernel) (pa_cons (pv 2) (pa_cons (pe_bltn (v := .ty "tuple") rfl B.tuple (by decide +kernel) rfl) pa_nil))) pa_nil)) (fun _ _ => rfl)))) pss_nil)
    (pss_cons (ps_if (pt_cmpR op_eq (pv 0) pe_str (nomark _)) (pss_cons (ps_if (PW.pt (pw_and (pt_val (pe_callB call_isi (by rfl) B.isinstance (by decide +kernel) (pa_cons (pv 2) (pa_cons (pe_bltn (v := .ty "tuple") rfl B.tuple (by decide +kernel) rfl) pa_nil)))) (pw_and1 (pt_cmpR op_gt (pe_callB call_len_seq (by rfl) B.len PySem.boot_len (pa_cons (pv 2) pa_nil)) pe_int (nomark _))))) (pss_one (ps_ret (pe_ix ix_tup (pv 2) pe_int (fun _ _ => rfl)))) pss_nil)
      (pss_one (ps_ret (pe_lt pl_nil (by show 0 ≤ sizeLine; decide))))) pss_nil)
    (pss_cons (ps_if (pt_cmpR op_eq (pv 0) pe_str (nomark _)) (pss_cons (ps_if (pt_val (pe_callB call_isi (by rfl) B.isinstance (by decide +kernel) (pa_cons (pv 2) (pa_cons (pe_bltn (v := .ty "tuple") rfl B.tuple (by decide +kernel) rfl) pa_nil)))) (pss_one (ps_ret (pe_slice sl_tupA (pv 2) (po_some pe_int) po_none))) pss_nil)
      (pss_one (ps_ret (pe_lt pl_nil (by show 0 ≤ sizeLine; decide))))) pss_nil)
    (pss_cons (ps_set (i := 3) sc_law_do.nd rfl (.inl rfl) (pe_bm0 PySem.F.plainAttrs_list PySem.F.slot_list_pop PySem.F.type_list_pop mt_pop (pv 1)))
    (pss_cons (ps_if (pt_cmpR op_eq (pv 0) pe_str (nomark _)) (pss_one (ps_ret (pe_ix ix_list (pe_lst (pl_cons (pe_lt pl_nil (by show 0 ≤ sizeLine; decide)) (pl_cons (pe_lw (x := [121, 101, 115]) (by decide +kernel)) pl_nil))) (pe_callTy call_int1 (by rfl) B.int (by decide +kernel) (pa_cons (pe_cmpR (op_eqTm hr.units (room_n hr hn)) (pv 3) (pv 2) (nomark _)) pa_nil)) (fun _ _ => rfl)))) pss_nil)
    (pss_cons (ps_if (pt_val (pe_callB call_isi (by rfl) B.isinstance (by decide +kernel) (pa_cons (pv 2) (pa_cons (pe_bltn (v := .ty "tuple") rfl B.tuple (by decide +kernel) rfl) pa_nil)))) (pss_one (ps_ret (pe_op op_catA (pe_tup (pa_cons (pv 3) pa_nil)) (pv 2)))) pss_nil)
    (pss_one (ps_ret (pe_tup (pa_cons (pv 3) pa_nil))))))))))), ?_⟩
  -- last
  have ep : ∃ zs : List V, H fl = some (.lst (zs ++ [x])) ∧ (wd ∈ [wordW, headW, tailW] → zs = xs) := by
    rcases h with ⟨_, e, _⟩ | ⟨m, y, f', _, _, e, _⟩
    · exact ⟨xs, e, fun _ => rfl⟩
    · refine ⟨xs ++ [y], e, fun m2 => ?_⟩
      simp only [List.mem_cons, List.not_mem_nil, or_false] at m m2
      rcases m with rfl | rfl <;> rcases m2 with h | h | h <;> exact absurd h (by decide)
  obtain ⟨zs, ez, ezx⟩ := ep
  refine ⟨_, rfl, .inl ⟨rfl, _, SqL.of ez⟩, fl, _, x, rfl, rfl, ez, last_get zs x, ?_⟩
  rw [List.dropLast_concat]
  have k1 : Keep [fl] H (upd H fl (.lst zs)) := Keep.set ez (List.mem_cons_self ..)
  have e1 : (upd H fl (.lst zs)) fl = some (.lst zs) := upd_same
  generalize upd H fl (.lst zs) = H1 at k1 e1
  have tx1 := tx0.keep k1
  have two : ∀ {vs : List V} {H2 : Hp} {a b : Tree}, Trs K H2 vs [a, b] → ∃ p q, vs = [p, q] ∧ Tr K H2 p a ∧ Tr K H2 q b := fun {vs H2 a b} r => by
    obtain ⟨p, r1, rfl, h1, rr⟩ := r.cons
    obtain ⟨q, r2, rfl, h2, r3⟩ := rr.cons
    rw [r3.nil]
    exact ⟨p, q, rfl, h1, h2⟩
  have size2 : ∀ {vs : List V} {H2 : Hp} {a b : Tree}, Trs K H2 vs [a, b] → vs.length ≤ sizeLine := fun {vs H2 a b} r => by rw [r.length]; show (2 : Nat) ≤ sizeLine; decide
  rw [show ("word" : Str) = tx wordW by decide +kernel, show ("head" : Str) = tx headW by decide +kernel, show ("tail" : Str) = tx tailW by decide +kernel, show ("same" : Str) = tx sameW by decide +kernel]
  refine ⟨_, rfl, rfl, _, rfl, ?_⟩
  by_cases hw : wd = wordW
  · subst hw
    rcases h with ⟨m, _, q⟩ | ⟨m, _⟩
    rotate_left
    · simp only [List.mem_cons, List.not_mem_nil, or_false] at m
      rcases m with h | h <;> exact absurd h (by decide)
    have ezs := ezx m
    subst ezs
    rw [sT rfl]
    refine iteT ?_
    refine fun vs H2 tvs k2 => ⟨size2 tvs, fun T nT => ?_⟩
    obtain ⟨p0, p1, rfl, t0, t1⟩ := two tvs
    have kT : Keep [] H2 (upd H2 T (.lst [p0, p1])) := Keep.new nT
    have eT : (upd H2 T (.lst [p0, p1])) T = some (.lst [p0, p1]) := upd_same
    generalize upd H2 T (.lst [p0, p1]) = H3 at kT eT
    have k13 := k2.trans kT
    obtain ⟨ty, u, q1, q2, q3⟩ := isi_tup (tx1.keep k13)
    refine ⟨_, rfl, _, _, ty, u, _, rfl, q1, q2, q3, .inr ⟨_, rfl, ?_⟩⟩
    have kk : Keep [fl] H H3 := k1.trans (k13.mono (by simp))
    have e3 := k13.get e1 (by simp)
    cases hl : l.isW with
    | true => exact ⟨T, _, _, _, rfl, rfl, SqL.of eT, rfl, q _ _ (by rw [prim1_word, if_pos hl]; exact t0.keep kT) e3 kk⟩
    | false => exact ⟨T, _, _, _, rfl, rfl, SqL.of eT, rfl, q _ _ (by rw [prim1_word, if_neg (by rw [hl]; decide)]; exact t1.keep kT) e3 kk⟩
  rw [sF hw]
  refine iteF ?_
  refine ⟨_, rfl, rfl, _, rfl, ?_⟩
  by_cases hh : wd = headW
  · subst hh
    rcases h with ⟨m, _, q⟩ | ⟨m, _⟩
    rotate_left
    · simp only [List.mem_cons, List.not_mem_nil, or_false] at m
      rcases m with h | h <;> exact absurd h (by decide)
    have ezs := ezx m
    subst ezs
    rw [sT rfl]
    refine iteT ?_
    obtain ⟨ty, u, q1, q2, q3⟩ := isi_tup tx1
    have none_ : ∀ (v : V) (H' : Hp), prim1 headW l = .l [] → Tr K H' v (.l []) → Keep [] H1 H' → Q v H' := fun v H' e tv k2 => q v H' (by rw [e]; exact tv) (k2.get e1 (by simp)) (k1.trans (k2.mono (by simp)))
    refine ⟨_, rfl, _, _, ty, u, _, rfl, q1, q2, q3, _, rfl, ?_⟩
    cases l with
    | w c => exact iteF (fun v H' tv k2 => none_ v H' (by rw [prim1_head]; rfl) tv k2)
    | l ts =>
      refine iteT ?_
      obtain ⟨pa, pvs, rfl, hP, rP⟩ := tx1.list
      refine ⟨_, rfl, pa, pvs, rfl, .inr hP, _, _, rfl, rfl, _, rfl, ?_⟩
      cases ts with
      | nil =>
        rw [rP.nil]
        exact iteF (fun v H' tv k2 => none_ v H' (by rw [prim1_head]; rfl) tv k2)
      | cons t ts =>
        obtain ⟨v0, vr, rfl, r0, rr⟩ := rP.cons
        rw [decide_eq_true (show (0 : Int) < (((v0 :: vr).length : Nat) : Int) by rw [List.length_cons]; omega)]
        refine iteT ⟨_, rfl, pa, _, _, v0, rfl, rfl, hP, atI_zero _ _, ?_⟩
        exact q v0 H1 (by rw [prim1_head]; exact r0) e1 k1
  rw [sF hh]
  refine iteF ?_
  refine ⟨_, rfl, rfl, _, rfl, ?_⟩
  by_cases ht : wd = tailW
  · subst ht
    rcases h with ⟨m, _, q⟩ | ⟨m, _⟩
    rotate_left
    · simp only [List.mem_cons, List.not_mem_nil, or_false] at m
      rcases m with h | h <;> exact absurd h (by decide)
    have ezs := ezx m
    subst ezs
    rw [sT rfl]
    refine iteT ?_
    obtain ⟨ty, u, q1, q2, q3⟩ := isi_tup tx1
    refine ⟨_, rfl, _, _, ty, u, _, rfl, q1, q2, q3, _, rfl, ?_⟩
    cases l with
    | w c => exact iteF fun v H' tv k2 => q v H' (by rw [prim1_tail]; exact tv) (k2.get e1 (by simp)) (k1.trans (k2.mono (by simp)))
    | l ts =>
      refine iteT ⟨_, rfl, _, rfl, ?_⟩
      dsimp only [tNoPart]
      refine sl_tr tx1 fun v2 H2 tv2 k2 => ?_
      have d1 : cutL ts (some (1 : Int)) none = ts.drop 1 := by
        cases ts with
        | nil => unfold cutL; simp
        | cons t0 rest => exact cutL_from (t0 :: rest) (i := 1) (by rw [List.length_cons]; omega)
      rw [d1] at tv2
      refine q v2 H2 ?_ (k2.get e1 (by simp)) (k1.trans (k2.mono (by simp)))
      rw [prim1_tail]
      cases ts with
      | nil => exact tv2
      | cons t ts => exact tv2
  rw [sF ht]
  refine iteF ?_
  rcases h with ⟨m, _⟩ | ⟨m, y, f', ty0, hd', e0, q⟩
  · simp only [List.mem_cons, List.not_mem_nil, or_false] at m
    rcases m with h | h | h
    · exact absurd h hw
    · exact absurd h hh
    · exact absurd h ht
  have hwd : wd = sameW ∨ wd = joinW := by simpa using m
  have e2 : zs = xs ++ [y] := by
    have := Option.some.inj (ez.symm.trans e0)
    injection this with h
    exact List.append_cancel_right h
  subst e2
  -- first
  refine ⟨_, rfl, .inl ⟨rfl, _, SqL.of e1⟩, fl, _, y, rfl, rfl, e1, last_get xs y, ?_⟩
  rw [List.dropLast_concat]
  have k2 : Keep [fl] H1 (upd H1 fl (.lst xs)) := Keep.set e1 (List.mem_cons_self ..)
  have e2 : (upd H1 fl (.lst xs)) fl = some (.lst xs) := upd_same
  generalize upd H1 fl (.lst xs) = H2 at k2 e2
  have k02 := k1.trans k2
  have tx2 := tx1.keep k2
  have ty2 := ty0.keep k02
  refine ⟨_, rfl, rfl, _, rfl, ?_⟩
  rcases hwd with rfl | rfl
  · rw [sT rfl]
    refine iteT ?_
    refine fun vs H3 tvs k3 => ⟨size2 tvs, fun T nT => ?_⟩
    obtain ⟨p0, p1, rfl, t0, t1⟩ := two tvs
    have kT : Keep [] H3 (upd H3 T (.lst [p0, p1])) := Keep.new nT
    have eT : (upd H3 T (.lst [p0, p1])) T = some (.lst [p0, p1]) := upd_same
    generalize upd H3 T (.lst [p0, p1]) = H4 at kT eT
    have k24 := k3.trans kT
    have kk : Keep [fl] H H4 := k02.trans (k24.mono (by simp))
    have e4 := k24.get e2 (by simp)
    refine ⟨_, rfl, _, rfl, f', l, ty2.keep k24, tx2.keep k24, hd' rfl, fun b hb => .inr ⟨_, rfl, ?_⟩⟩
    cases b with
    | true => exact ⟨T, _, _, _, rfl, rfl, SqL.of eT, rfl, q _ _ (by rw [prim2_same_eq _ _ (hb.mp rfl)]; exact t1.keep kT) e4 kk⟩
    | false => exact ⟨T, _, _, _, rfl, rfl, SqL.of eT, rfl, q _ _ (by rw [prim2_same_ne _ _ (fun h => by have := hb.mpr h; cases this)]; exact t0.keep kT) e4 kk⟩
  rw [sF (by decide)]
  refine iteF ?_
  obtain ⟨ty, u, q1, q2, q3⟩ := isi_tup tx2
  refine ⟨_, rfl, _, _, ty, u, _, rfl, q1, q2, q3, _, rfl, ?_⟩
  cases l with
  | w c =>
    refine iteF ⟨_, rfl, by show (1 : Nat) ≤ sizeLine; decide, fun T nT => ?_⟩
    obtain ⟨tm, km⟩ := mk_tr (K := K) (H := H2) nT (Trs.one ty2)
    exact q _ _ (by rw [prim2_join]; exact tm) (km.get e2 (by simp)) (k02.trans (km.mono (by simp)))
  | l ts =>
    refine iteT ⟨_, rfl, by show (1 : Nat) ≤ sizeLine; decide, fun T nT => ?_⟩
    obtain ⟨tm, km⟩ := mk_tr (K := K) (H := H2) nT (Trs.one ty2)
    have lts := ll ts rfl
    refine ⟨_, rfl, cat_tr tm (tx2.keep km) (Nat.le_trans (show _ ≤ 200000 by rw [List.length_singleton]; omega) (by decide)) fun v3 H3 tv3 k3 => ?_⟩
    exact q _ _ (by rw [prim2_join]; exact tv3) ((km.trans k3).get e2 (by simp)) (k02.trans ((km.trans k3).mono (by simp)))
end
end Og

namespace Og
open PySem PySem.Spec PyProof.Rows L2
/-! ### the machine goes on till it ends -/
def GdP (L : List Fn0) : Prop := ∀ C : Cx0, C.fns = L → ∀ f ∈ L, GX C f.2.1 f.2.2
def Cov (ps : List (List Nat)) (e : Env) : Prop := ∀ x ∈ ps, ∃ v, look e x = some v
theorem at_ex : ∀ {ps : List (List Nat)} {x : List Nat}, x ∈ ps → ∃ j, j < ps.length ∧ AtIx ps x j
  | [], _, m => absurd m (List.not_mem_nil)
  | p :: ps, x, m => by
    by_cases e : p = x
    · exact ⟨0, Nat.succ_pos _, congrArg some e, fun m h => absurd h (Nat.not_lt_zero _)⟩
    · rcases List.mem_cons.mp m with m | m
      · exact absurd m.symm e
      · obtain ⟨j, l, h1, h2⟩ := at_ex m
        refine ⟨j + 1, Nat.succ_lt_succ l, h1, fun i hi => ?_⟩
        cases i with
        | zero => intro q; exact e (Option.some.inj q)
        | succ i => exact h2 i (by omega)
theorem at_mem {ps : List (List Nat)} {x : List Nat} {j : Nat} (h : AtIx ps x j) : x ∈ ps := List.mem_of_getElem? h.1
theorem cov_zip {ps : List (List Nat)} {ts : List Tree} (l : ps.length ≤ ts.length) : Cov ps (ps.zip ts) := fun x m => by
  obtain ⟨j, lj, h⟩ := at_ex m
  exact ⟨_, look_zip h (List.getElem?_eq_getElem (by omega))⟩
inductive TOk (C : Cx0) : List Task → Nat → Prop
  | nil : TOk C [] 1
  | ev {t : Tree} {e : Env} {ps : List (List Nat)} {td : List Task} {h : Nat} (g : GX C ps t) (c : Cov ps e) (r : TOk C td (h + 1)) : TOk C (.ev t e :: td) h
  | p1 {w : List Nat} {td : List Task} {h : Nat} (m : w ∈ [wordW, headW, tailW]) (r : TOk C td (h + 1)) : TOk C (.prim w :: td) (h + 1)
  | p2 {w : List Nat} {td : List Task} {h : Nat} (m : w ∈ [sameW, joinW]) (r : TOk C td (h + 1)) : TOk C (.prim w :: td) (h + 2)
  | pick {a b : Tree} {e : Env} {ps : List (List Nat)} {td : List Task} {h : Nat} (ga : GX C ps a) (gb : GX C ps b) (c : Cov ps e) (r : TOk C td (h + 1)) : TOk C (.pick a b e :: td) (h + 1)
  | call {x : List Nat} {ps : List (List Nat)} {b : Tree} {td : List Task} {h : Nat} (hf : fnOf C.fns x = some (ps, b)) (r : TOk C td (h + 1)) : TOk C (.call x :: td) (h + ps.length)
theorem tok_evs {C : Cx0} {ps : List (List Nat)} {e : Env} (c : Cov ps e) {td : List Task} : ∀ {ts : List Tree} {h : Nat}, (∀ t ∈ ts, GX C ps t) → TOk C td (h + ts.length) → TOk C (ts.map (fun t => Task.ev t e) ++ td) h
  | [], h, _, r => r
  | t :: ts, h, g, r => .ev (g t (List.mem_cons_self ..)) c (tok_evs c (fun u m => g u (List.mem_cons_of_mem _ m)) (by rw [List.length_cons] at r; rw [show h + 1 + ts.length = h + (ts.length + 1) by omega]; exact r))
theorem fnOf_mem {L : List Fn0} {x : List Nat} {ps : List (List Nat)} {b : Tree} (h : fnOf L x = some (ps, b)) : (x, ps, b) ∈ L := List.mem_of_getElem? (fnOf_at h)
def npr : List Task → Nat
  | [] => 0
  | .prim _ :: td => npr td + 1
  | _ :: td => npr td
def cntT : List Task → Nat
  | [] => 0
  | .ev _ _ :: td => cntT td
  | _ :: td => cntT td + 1
theorem npr_evs (e : Env) (td : List Task) : ∀ ts : List Tree, npr (ts.map (fun t => Task.ev t e) ++ td) = npr td
  | [] => rfl
  | t :: ts => npr_evs e td ts
theorem cnt_evs (e : Env) (td : List Task) : ∀ ts : List Tree, cntT (ts.map (fun t => Task.ev t e) ++ td) = cntT td
  | [] => rfl
  | t :: ts => cnt_evs e td ts
mutual
/-- the longest list in a tree -/
def wid : Tree → Nat
  | .w _ => 0
  | .l ts => max ts.length (wids ts)
def wids : List Tree → Nat
  | [] => 0
  | t :: ts => max (wid t) (wids ts)
end
theorem wid_mem : ∀ {ts : List Tree} {t : Tree}, t ∈ ts → wid t ≤ wids ts
  | [], t, m => absurd m (List.not_mem_nil)
  | u :: ts, t, m => by
    rw [wids]
    rcases List.mem_cons.mp m with e | m
    · rw [e]; exact Nat.le_max_left ..
    · exact Nat.le_trans (wid_mem m) (Nat.le_max_right ..)
/-- neither nested too deep nor too long at any place -/
def VB (d l : Nat) (v : Tree) : Prop := td v ≤ d ∧ wid v ≤ l
theorem VB.mono {d l d' l' : Nat} {v : Tree} (h : VB d l v) (hd : d ≤ d') (hl : l ≤ l') : VB d' l' v := ⟨Nat.le_trans h.1 hd, Nat.le_trans h.2 hl⟩
def EB (d l : Nat) (e : Env) : Prop := ∀ p ∈ e, VB d l p.2
theorem VB.part {d l : Nat} {ts : List Tree} {t : Tree} (h : VB d l (.l ts)) (m : t ∈ ts) : VB d l t := by
  have a := td_mem m
  have b := wid_mem m
  obtain ⟨h1, h2⟩ := h
  rw [td] at h1
  rw [wid] at h2
  exact ⟨by omega, by omega⟩
theorem VB.len {d l : Nat} {ts : List Tree} (h : VB d l (.l ts)) : ts.length ≤ l := by
  have h2 := h.2
  rw [wid] at h2
  omega
mutual
theorem wid_size : ∀ t : Tree, wid t ≤ t.size
  | .w x => by rw [wid]; exact Nat.zero_le _
  | .l ts => by
    have a := wids_size ts
    have b := len_sizes ts
    rw [wid, size_l]
    omega
theorem wids_size : ∀ ts : List Tree, wids ts ≤ sizes ts
  | [] => by rw [wids]; exact Nat.zero_le _
  | t :: ts => by
    have a := wid_size t
    have b := wids_size ts
    rw [wids, sizes_cons]
    omega
end
theorem vb_yes {d l : Nat} : VB d l yesT := by unfold yesT; exact ⟨by rw [td]; omega, by rw [wid]; omega⟩
theorem vb_nil {d l : Nat} (h : 1 ≤ d) : VB d l (.l []) := ⟨by rw [td, tds]; exact h, by rw [wid, wids]; exact Nat.zero_le _⟩
theorem vb_p1 {d l : Nat} {w : List Nat} {v : Tree} (m : w ∈ [wordW, headW, tailW]) (hd : 1 ≤ d) (h : VB d l v) : VB d l (prim1 w v) := by
  simp only [List.mem_cons, List.not_mem_nil, or_false] at m
  rcases m with rfl | rfl | rfl
  · rw [prim1_word]
    cases v.isW with
    | true => exact vb_yes
    | false => exact vb_nil hd
  · rw [prim1_head]
    cases v with
    | w c => exact vb_nil hd
    | l ts =>
      cases ts with
      | nil => exact vb_nil hd
      | cons t ts => exact h.part (List.mem_cons_self ..)
  · rw [prim1_tail]
    cases v with
    | w c => exact vb_nil hd
    | l ts =>
      cases ts with
      | nil => exact vb_nil hd
      | cons t ts =>
        obtain ⟨h1, h2⟩ := h
        rw [td, tds] at h1
        rw [wid, wids, List.length_cons] at h2
        refine ⟨?_, ?_⟩
        · show td (.l ts) ≤ d
          rw [td]
          omega
        · show wid (.l ts) ≤ l
          rw [wid]
          omega
theorem vb_p2 {d l : Nat} {w : List Nat} {f v : Tree} (m : w ∈ [sameW, joinW]) (hf : VB d l f) (hv : VB d l v) : VB (d + 1) (l + 1) (prim2 w f v) := by
  simp only [List.mem_cons, List.not_mem_nil, or_false] at m
  rcases m with rfl | rfl
  · by_cases e : f = v
    · rw [prim2_same_eq _ _ e]; exact vb_yes
    · rw [prim2_same_ne _ _ e]; exact vb_nil (by omega)
  · rw [prim2_join]
    obtain ⟨f1, f2⟩ := hf
    obtain ⟨v1, v2⟩ := hv
    cases v with
    | w c =>
      refine ⟨?_, ?_⟩
      · show td (.l [f]) ≤ _
        rw [td, tds, tds]; omega
      · show wid (.l [f]) ≤ _
        rw [wid, wids, wids, List.length_singleton]; omega
    | l ts =>
      rw [td] at v1
      rw [wid] at v2
      refine ⟨?_, ?_⟩
      · show td (.l (f :: ts)) ≤ _
        rw [td, tds]; omega
      · show wid (.l (f :: ts)) ≤ _
        rw [wid, wids, List.length_cons]; omega
def TkB (d l : Nat) : Task → Prop
  | .ev t e => VB d l t ∧ EB d l e
  | .pick a b e => VB d l a ∧ VB d l b ∧ EB d l e
  | _ => True
theorem EB.mono {d l d' l' : Nat} {e : Env} (h : EB d l e) (hd : d ≤ d') (hl : l ≤ l') : EB d' l' e := fun p m => (h p m).mono hd hl
theorem TkB.mono {d l d' l' : Nat} {t : Task} (h : TkB d l t) (hd : d ≤ d') (hl : l ≤ l') : TkB d' l' t := by
  cases t with
  | ev t e => exact ⟨h.1.mono hd hl, h.2.mono hd hl⟩
  | pick a b e => exact ⟨h.1.mono hd hl, h.2.1.mono hd hl, h.2.2.mono hd hl⟩
  | prim w => trivial
  | call x => trivial
theorem eb_look {d l : Nat} {e : Env} {x : List Nat} {v : Tree} (h : EB d l e) (k : look e x = some v) : VB d l v := by
  unfold look at k
  cases q : e.find? (fun p => decide (p.1 = x)) with
  | none => rw [q] at k; cases k
  | some p =>
    rw [q] at k
    have := h p (List.mem_of_find?_eq_some q)
    rw [← Option.some.inj k]
    exact this
theorem eb_zip {d l : Nat} : ∀ {ps : List (List Nat)} {ts : List Tree}, (∀ t ∈ ts, VB d l t) → EB d l (ps.zip ts) := fun {ps ts} h p m => h p.2 (List.of_mem_zip m).2
/-- a state of a run: D, W bound the program and the inputs -/
structure MB (C : Cx0) (D W : Nat) (m : MS) : Prop where
  tok : TOk C m.todo m.found.length
  fnd : ∀ v ∈ m.found, VB (D + m.steps - npr m.todo) (W + m.steps - npr m.todo) v
  tsk : ∀ t ∈ m.todo, TkB (D + m.steps - npr m.todo) (W + m.steps - npr m.todo) t
  tl : m.todo.length ≤ 1 + 13 * m.steps
  fl : m.found.length ≤ m.steps
  pr : npr m.todo ≤ m.steps
theorem op_ar {C : Cx0} {x : List Nat} {n : Nat} (ar : ∀ f ∈ C.fns, f.2.1.length ≤ 12) (h : OpOk C x n) : n ≤ 12 := by
  rcases h with ⟨_, e⟩ | ⟨_, e⟩ | ⟨_, ps, b, hf, e⟩
  · omega
  · omega
  · have := ar _ (fnOf_mem hf)
    have : ps.length ≤ 12 := this
    omega
theorem tok_op {C : Cx0} {x : List Nat} {n h : Nat} {td : List Task} (ok : OpOk C x n) (r : TOk C td (h + 1)) : TOk C (opTask x :: td) (h + n) := by
  unfold opTask
  rcases ok with ⟨hx, l⟩ | ⟨hx, l⟩ | ⟨sp, ps, b, hf, l⟩
  · rw [if_pos (by simp only [List.mem_cons, List.not_mem_nil, or_false] at hx ⊢; rcases hx with h | h | h <;> simp [h]), l]
    exact .p1 hx r
  · rw [if_pos (by simp only [List.mem_cons, List.not_mem_nil, or_false] at hx ⊢; rcases hx with h | h <;> simp [h]), l]
    exact .p2 hx r
  · rw [if_neg (by
      intro q
      simp only [List.mem_cons, List.not_mem_nil, or_false] at q
      rcases q with q | q | q | q | q <;> rw [q] at sp <;> revert sp <;> decide), ← l]
    exact .call hf r
theorem npr_op (x : List Nat) (td : List Task) : npr (opTask x :: td) ≤ npr td + 1 := by
  unfold opTask
  by_cases c : x ∈ [sameW, wordW, headW, tailW, joinW]
  · rw [if_pos c]; exact Nat.le_refl _
  · rw [if_neg c]; exact Nat.le_succ _
theorem tkb_op {d l : Nat} (x : List Nat) : TkB d l (opTask x) := by
  unfold opTask
  by_cases c : x ∈ [sameW, wordW, headW, tailW, joinW]
  · rw [if_pos c]; trivial
  · rw [if_neg c]; trivial
theorem mb_step {C : Cx0} {D W : Nat} (hD : 1 ≤ D) (gd : ∀ f ∈ C.fns, GX C f.2.1 f.2.2) (vb : ∀ f ∈ C.fns, VB D W f.2.2) (ar : ∀ f ∈ C.fns, f.2.1.length ≤ 12) {m : MS} (h : MB C D W m) : (m.todo = [] ∧ m.found.length = 1) ∨ ∃ m', turn C.fns m = some m' ∧ MB C D W m' := by
  obtain ⟨todo, found, s⟩ := m
  obtain ⟨tok, fnd, tsk, tl, fl, pr⟩ := h
  dsimp only at tok fnd tsk tl fl pr
  generalize hn : found.length = n at tok
  cases tok with
  | nil => exact .inl ⟨rfl, by first | exact hn | rfl⟩
  | @ev t e ps td h g c r =>
    have tb := tsk _ (List.mem_cons_self ..)
    have tk : ∀ u ∈ td, TkB (D + s - npr td) (W + s - npr td) u := fun u m => tsk u (List.mem_cons_of_mem _ m)
    have fnd2 : ∀ v ∈ found, VB (D + s - npr td) (W + s - npr td) v := fnd
    have tb2 : VB (D + s - npr td) (W + s - npr td) t ∧ EB (D + s - npr td) (W + s - npr td) e := tb
    have pr2 : npr td ≤ s := pr
    have leaf : ∀ v, VB (D + s - npr td) (W + s - npr td) v → MB C D W ⟨td, v :: found, s + 1⟩ := fun v hv => by
      refine ⟨by show TOk C td (found.length + 1); rw [hn]; exact r, fun u m => ?_, fun u m => (tk u m).mono (by show _ ≤ D + (s + 1) - npr td; omega) (by show _ ≤ W + (s + 1) - npr td; omega), ?_, ?_, by show npr td ≤ s + 1; omega⟩
      · refine VB.mono ?_ (show D + s - npr td ≤ D + (s + 1) - npr td by omega) (show W + s - npr td ≤ W + (s + 1) - npr td by omega)
        rcases List.mem_cons.mp m with q | m
        · rw [q]; exact hv
        · exact fnd2 u m
      · rw [List.length_cons] at tl
        show td.length ≤ 1 + 13 * (s + 1)
        omega
      · show (v :: found).length ≤ s + 1
        rw [List.length_cons]; omega
    cases g with
    | @w x j hj =>
      obtain ⟨v, hv⟩ := c x (at_mem hj)
      exact .inr ⟨_, turn_word hv, leaf v (eb_look tb2.2 hv)⟩
    | @q v => exact .inr ⟨_, turn_quote, leaf v (tb2.1.part (by simp))⟩
    | @iff t y z gt gy gz =>
      refine .inr ⟨_, turn_if, ⟨.ev gt c (.pick gy gz c (by rw [hn]; exact r)), fun u m => (fnd2 u m).mono (by show _ ≤ D + (s + 1) - npr td; omega) (by show _ ≤ W + (s + 1) - npr td; omega), fun u m => ?_, ?_, by show found.length ≤ s + 1; omega, by show npr td ≤ s + 1; omega⟩⟩
      · refine TkB.mono ?_ (show D + s - npr td ≤ D + (s + 1) - npr td by omega) (show W + s - npr td ≤ W + (s + 1) - npr td by omega)
        rcases List.mem_cons.mp m with q | m
        · rw [q]; exact ⟨tb2.1.part (by simp), tb2.2⟩
        rcases List.mem_cons.mp m with q | m
        · rw [q]; exact ⟨tb2.1.part (by simp), tb2.1.part (by simp), tb2.2⟩
        · exact tk u m
      · rw [List.length_cons] at tl
        show (td.length + 1) + 1 ≤ 1 + 13 * (s + 1)
        omega
    | @op x ts n1 n2 ok gs =>
      have l12 := op_ar ar ok
      have np := npr_op x td
      have ne := npr_evs e (opTask x :: td) ts
      refine .inr ⟨_, turn_op n1 n2, ⟨tok_evs c gs (tok_op ok (by rw [hn]; exact r)), fun u m => (fnd2 u m).mono ?_ ?_, fun u m => ?_, ?_, by show found.length ≤ s + 1; omega, ?_⟩⟩
      · show _ ≤ D + (s + 1) - npr (_ ++ _); rw [ne]; omega
      · show _ ≤ W + (s + 1) - npr (_ ++ _); rw [ne]; omega
      · refine TkB.mono ?_ (show D + s - npr td ≤ D + (s + 1) - npr (ts.map (fun t => Task.ev t e) ++ opTask x :: td) by rw [ne]; omega) (show W + s - npr td ≤ W + (s + 1) - npr (ts.map (fun t => Task.ev t e) ++ opTask x :: td) by rw [ne]; omega)
        have m : u ∈ ts.map (fun t => Task.ev t e) ++ opTask x :: td := m
        rcases List.mem_append.mp m with m | m
        · obtain ⟨t, mt, rfl⟩ := List.mem_map.mp m
          exact ⟨tb2.1.part (List.mem_cons_of_mem _ mt), tb2.2⟩
        rcases List.mem_cons.mp m with q | m
        · rw [q]; exact tkb_op x
        · exact tk u m
      · rw [List.length_cons] at tl
        show (_ ++ _ : List Task).length ≤ 1 + 13 * (s + 1)
        rw [List.length_append, List.length_map, List.length_cons]
        omega
      · show npr (_ ++ _) ≤ s + 1
        rw [ne]; omega
  | @p1 w td h mw r =>
    match found, hn with
    | l :: fd, hn =>
    have np : npr (Task.prim w :: td) = npr td + 1 := rfl
    rw [np] at fnd tsk pr
    refine .inr ⟨_, turn_p1 mw, ⟨by show TOk C td (fd.length + 1); rw [show fd.length + 1 = h + 1 from hn]; exact r, fun u m => ?_, fun u m => (tsk u (List.mem_cons_of_mem _ m)).mono (by show _ ≤ D + s - npr td; omega) (by show _ ≤ W + s - npr td; omega), ?_, fl, by show npr td ≤ s; omega⟩⟩
    · rcases List.mem_cons.mp m with q | m
      · rw [q]
        refine vb_p1 mw (show 1 ≤ D + s - npr td by omega) ((fnd l (List.mem_cons_self ..)).mono ?_ ?_)
        · show _ ≤ D + s - npr td; omega
        · show _ ≤ W + s - npr td; omega
      · exact (fnd u (List.mem_cons_of_mem _ m)).mono (by show _ ≤ D + s - npr td; omega) (by show _ ≤ W + s - npr td; omega)
    · rw [List.length_cons] at tl
      show td.length ≤ 1 + 13 * s
      omega
  | @p2 w td h mw r =>
    match found, hn with
    | l :: f :: fd, hn =>
    have np : npr (Task.prim w :: td) = npr td + 1 := rfl
    rw [np] at fnd tsk pr
    have hn : fd.length + 2 = h + 2 := hn
    refine .inr ⟨_, turn_p2 mw, ⟨by show TOk C td (fd.length + 1); rw [show fd.length = h by omega]; exact r, fun u m => ?_, fun u m => (tsk u (List.mem_cons_of_mem _ m)).mono (by show _ ≤ D + s - npr td; omega) (by show _ ≤ W + s - npr td; omega), ?_, ?_, by show npr td ≤ s; omega⟩⟩
    · rcases List.mem_cons.mp m with q | m
      · rw [q]
        have := vb_p2 mw (fnd f (by simp)) (fnd l (by simp))
        exact this.mono (by show _ ≤ D + s - npr td; omega) (by show _ ≤ W + s - npr td; omega)
      · exact (fnd u (by simp [m])).mono (by show _ ≤ D + s - npr td; omega) (by show _ ≤ W + s - npr td; omega)
    · rw [List.length_cons] at tl
      show td.length ≤ 1 + 13 * s
      omega
    · show fd.length + 1 ≤ s
      have : fd.length + 2 ≤ s := fl
      omega
  | @pick a b e ps td h ga gb c r =>
    match found, hn with
    | v :: fd, hn =>
    have hn : fd.length + 1 = h + 1 := hn
    have tb : VB (D + s - npr td) (W + s - npr td) a ∧ VB (D + s - npr td) (W + s - npr td) b ∧ EB (D + s - npr td) (W + s - npr td) e := tsk _ (List.mem_cons_self ..)
    refine .inr ⟨_, turn_pick, ⟨.ev (ps := ps) ?_ c (by show TOk C td (fd.length + 1); rw [show fd.length = h by omega]; exact r), fun u m => fnd u (List.mem_cons_of_mem _ m), fun u m => ?_, tl, by show fd.length ≤ s; have : fd.length + 1 ≤ s := fl; omega, pr⟩⟩
    · by_cases q : v = .l []
      · rw [if_pos q]; exact gb
      · rw [if_neg q]; exact ga
    · rcases List.mem_cons.mp m with q | m
      · rw [q]
        refine ⟨?_, tb.2.2⟩
        by_cases q : v = .l []
        · rw [if_pos q]; exact tb.2.1
        · rw [if_neg q]; exact tb.1
      · exact tsk u (List.mem_cons_of_mem _ m)
  | @call x ps b td h hf r =>
    have lp : ps.length ≤ found.length := by omega
    have mf := fnOf_mem hf
    refine .inr ⟨_, turn_call hf lp, ⟨.ev (ps := ps) (gd _ mf) (cov_zip ?_) ?_, fun u m => fnd u (List.mem_of_mem_drop m), fun u m => ?_, tl, ?_, pr⟩⟩
    · rw [List.length_reverse, List.length_take]; omega
    · show TOk C td ((found.drop ps.length).length + 1)
      rw [List.length_drop, show found.length - ps.length = h by omega]
      exact r
    · rcases List.mem_cons.mp m with q | m
      · rw [q]
        have pr : npr td ≤ s := pr
        refine ⟨(vb _ mf).mono (by show _ ≤ D + s - npr td; omega) (by show _ ≤ W + s - npr td; omega), eb_zip fun t m => fnd t (List.mem_of_mem_take (List.mem_reverse.mp m))⟩
      · exact tsk u (List.mem_cons_of_mem _ m)
    · show (found.drop ps.length).length ≤ s
      rw [List.length_drop]
      have : found.length ≤ s := fl
      omega
end Og

namespace Og
open PySem PySem.Spec PyProof.Rows L2
/-! ### _law_run -/
def EnvD (K : PySem.W.Frag) (H : Hp) (dn : Addr) (e : Env) : Prop := ∃ kvs : List (Key × V), H dn = some (.dK kvs) ∧ ∀ x t, look e x = some t → ∃ v, valV kvs (.inr (tx x) : Key) = some v ∧ Tr K H v t
theorem EnvD.kp {K : PySem.W.Frag} {S : List Addr} {H H1 : Hp} {dn : Addr} {e : Env} (h : EnvD K H dn e) (k : Keep S H H1) : EnvD K H1 dn e := by
  obtain ⟨kvs, e1, q⟩ := h
  refine ⟨kvs, ?_, fun x t hx => ?_⟩
  · rcases k dn _ e1 with q | ⟨_, _, _, q, _⟩
    · exact q
    · cases q
  · obtain ⟨v, h1, h2⟩ := q x t hx
    exact ⟨v, h1, h2.keep k⟩
def TaskV (K : PySem.W.Frag) (H : Hp) (v : V) : Task → Prop
  | .prim w => ∃ a, v = .ref a ∧ H a = some (.tup [.str "do", .str (tx w)])
  | .call x => ∃ a, v = .ref a ∧ H a = some (.tup [.str "call", .str (tx x)])
  | .ev t e => ∃ a vt dn, v = .ref a ∧ H a = some (.tup [.str "eval", vt, .ref dn]) ∧ Tr K H vt t ∧ EnvD K H dn e
  | .pick t u e => ∃ a vt vu dn, v = .ref a ∧ H a = some (.tup [.str "if", vt, vu, .ref dn]) ∧ Tr K H vt t ∧ Tr K H vu u ∧ EnvD K H dn e
theorem TaskV.kp {K : PySem.W.Frag} {S : List Addr} {H H1 : Hp} {v : V} {t : Task} (h : TaskV K H v t) (k : Keep S H H1) : TaskV K H1 v t := by
  cases t with
  | prim w => obtain ⟨a, rfl, e⟩ := h; exact ⟨a, rfl, k.tup e⟩
  | call w => obtain ⟨a, rfl, e⟩ := h; exact ⟨a, rfl, k.tup e⟩
  | ev t e => obtain ⟨a, vt, dn, rfl, e, t1, d1⟩ := h; exact ⟨a, vt, dn, rfl, k.tup e, t1.keep k, d1.kp k⟩
  | pick t u e => obtain ⟨a, vt, vu, dn, rfl, e, t1, t2, d1⟩ := h; exact ⟨a, vt, vu, dn, rfl, k.tup e, t1.keep k, t2.keep k, d1.kp k⟩
def FnW (K : PySem.W.Frag) (H : Hp) (v : V) (f : Fn0) : Prop := ∃ (a : Addr) (vp vb : V), v = .ref a ∧ SqT K H a [.str (tx f.1), vp, vb] ∧ Tr K H vp (wsT f.2.1) ∧ Tr K H vb f.2.2
def PgW (K : PySem.W.Frag) (H : Hp) (v : V) (L : List Fn0) : Prop := ∃ (a : Addr) (vs : List V), v = .ref a ∧ SqT K H a vs ∧ Paired (FnW K H) vs L
theorem FnW.kp {K : PySem.W.Frag} {S : List Addr} {H H1 : Hp} {v : V} {f : Fn0} (h : FnW K H v f) (k : Keep S H H1) : FnW K H1 v f := by
  obtain ⟨a, vp, vb, rfl, s, p, t⟩ := h
  exact ⟨a, vp, vb, rfl, k.sqT s, p.keep k, t.keep k⟩
def BodD (K : PySem.W.Frag) (H : Hp) (db : Addr) (L : List Fn0) : Prop := ∃ kvs : List (Key × V), H db = some (.dK kvs) ∧ kvs.length ≤ L.length ∧ ∀ x ps b, fnOf L x = some (ps, b) → ∃ (a : Addr) (vp vb : V), valV kvs (.inr (tx x) : Key) = some (.ref a) ∧ H a = some (.tup [vp, vb]) ∧ Tr K H vp (wsT ps) ∧ Tr K H vb b
theorem BodD.kp {K : PySem.W.Frag} {S : List Addr} {H H1 : Hp} {db : Addr} {L : List Fn0} (h : BodD K H db L) (k : Keep S H H1) : BodD K H1 db L := by
  obtain ⟨kvs, e1, l, q⟩ := h
  refine ⟨kvs, ?_, l, fun x ps b hx => ?_⟩
  · rcases k db _ e1 with q | ⟨_, _, _, q, _⟩
    · exact q
    · cases q
  · obtain ⟨a, vp, vb, h1, h2, h3, h4⟩ := q x ps b hx
    exact ⟨a, vp, vb, h1, k.tup h2, h3.keep k, h4.keep k⟩
/-- the state m, as the law holds it -/
def StV (K : PySem.W.Frag) (H : Hp) (Td Fd : Addr) (m : MS) : Prop := ∃ tvs fvs : List V, H Td = some (.lst tvs) ∧ Paired (TaskV K H) tvs m.todo.reverse ∧ H Fd = some (.lst fvs) ∧ Trs K H fvs m.found.reverse
def Safe (n : Nat) (m : MS) : Prop := m.todo.length ≤ 1000000 ∧ m.found.length ≤ 1000000 ∧ ∀ w td l fd, m.todo = .prim w :: td → m.found = l :: fd → (∀ ts, l = .l ts → ts.length ≤ 100000) ∧ ∀ f fd', fd = f :: fd' → w = sameW → min (Og.td f) (Og.td l) ≤ n
def m00 (f0 : Fn0) (its : List Tree) : MS := ⟨[.ev f0.2.2 (f0.2.1.zip its)], [], 0⟩
def RunRes (K : PySem.W.Frag) (L : List Fn0) (m0 : MS) (lim : Nat) (r : V) (H : Hp) : Prop :=
  (∃ k v s, turns L k m0 = some ⟨[], [v], s⟩ ∧ s ≤ lim ∧ ∃ a u, r = .ref a ∧ H a = some (.tup [.str "done", u, .int (s : Nat)]) ∧ Tr K H u v) ∨
  (∃ k t e td fd, turns L k m0 = some ⟨.ev t e :: td, fd, lim⟩ ∧ ∃ a, r = .ref a ∧ H a = some (.tup [.str "tired"]))
theorem fnOf_snoc (M : List Fn0) (f : Fn0) (x : List Nat) : fnOf (M ++ [f]) x = match fnOf M x with
    | some p => some p
    | none => if f.1 = x then some f.2 else none := by
  unfold fnOf
  rw [List.find?_append]
  cases M.find? (fun f => decide (f.1 = x)) with
  | some p => rfl
  | none =>
    by_cases e : f.1 = x
    · rw [List.find?_cons, decide_eq_true e]
      show some f.2 = if f.1 = x then some f.2 else none
      rw [if_pos e]
    · rw [List.find?_cons, decide_eq_false e]
      show none = if f.1 = x then some f.2 else none
      rw [if_neg e]
theorem look_snoc (e : Env) (x : List Nat) (t : Tree) (y : List Nat) : look (e ++ [(x, t)]) y = match look e y with
    | some p => some p
    | none => if x = y then some t else none := by
  unfold look
  rw [List.find?_append]
  cases e.find? (fun p => decide (p.1 = y)) with
  | some p => rfl
  | none =>
    by_cases c : x = y
    · rw [List.find?_cons, show decide ((x, t).1 = y) = true from decide_eq_true c]
      show some t = if x = y then some t else none
      rw [if_pos c]
    · rw [List.find?_cons, show decide ((x, t).1 = y) = false from decide_eq_false c]
      show none = if x = y then some t else none
      rw [if_neg c]
theorem look_none {e : Env} {x : List Nat} (h : x ∉ e.map (·.1)) : look e x = none := by
  unfold look
  cases q : e.find? (fun p => decide (p.1 = x)) with
  | none => rfl
  | some p =>
    have m := List.mem_of_find?_eq_some q
    have := List.find?_some q
    exact absurd (List.mem_map.mpr ⟨p, m, of_decide_eq_true this⟩) h
theorem fnOf_none {L : List Fn0} {x : List Nat} (h : x ∉ L.map (·.1)) : fnOf L x = none := by
  unfold fnOf
  cases q : L.find? (fun p => decide (p.1 = x)) with
  | none => rfl
  | some p =>
    have m := List.mem_of_find?_eq_some q
    have := List.find?_some q
    exact absurd (List.mem_map.mpr ⟨p, m, of_decide_eq_true this⟩) h
theorem nodup_take {α : Type} {xs : List α} {i : Nat} {x : α} (nd : xs.Nodup) (h : xs[i]? = some x) : x ∉ xs.take i := fun m => by
  obtain ⟨j, hj⟩ := List.mem_iff_getElem?.mp m
  have lj : j < i := by
    have := (List.getElem?_eq_some_iff.mp hj).1
    rw [List.length_take] at this
    omega
  rw [List.getElem?_take, if_pos lj] at hj
  have li := (List.getElem?_eq_some_iff.mp h).1
  have := (List.getElem?_inj li nd).mp (h.trans hj.symm)
  omega
/-- names, so far -/
def EnvN (K : PySem.W.Frag) (H : Hp) (dn : Addr) (e : Env) (n : Nat) : Prop := ∃ kvs : List (Key × V), H dn = some (.dK kvs) ∧ kvs.length ≤ n ∧ ∀ x t, look e x = some t → ∃ v, valV kvs (.inr (tx x) : Key) = some v ∧ Tr K H v t
theorem EnvN.d {K : PySem.W.Frag} {H : Hp} {dn : Addr} {e : Env} {n : Nat} (h : EnvN K H dn e n) : EnvD K H dn e := by
  obtain ⟨kvs, a, _, b⟩ := h
  exact ⟨kvs, a, b⟩
theorem EnvN.put {K : PySem.W.Frag} {H : Hp} {dn : Addr} {kvs : List (Key × V)} {e : Env} {n : Nat} {x : List Nat} {v : V} {t : Tree} (hd : H dn = some (.dK kvs)) (l : kvs.length ≤ n) (h : ∀ x t, look e x = some t → ∃ v, valV kvs (.inr (tx x) : Key) = some v ∧ Tr K H v t) (no : look e x = none) (tv : Tr K H v t) :
    EnvN K (upd H dn (.dK (putK kvs (.inr (tx x)) v))) dn (e ++ [(x, t)]) (n + 1) := by
  have k : Kp [dn] H (upd H dn (.dK (putK kvs (.inr (tx x)) v))) := Kp.set hd mo_dK mo_dK (List.mem_cons_self ..)
  refine ⟨_, upd_same, Nat.le_trans (length_putK _ _ _) (by omega), fun y u hy => ?_⟩
  rw [look_snoc] at hy
  rw [valV_put]
  by_cases c : x = y
  · subst c
    rw [no] at hy
    have hy : (if x = x then some t else none) = some u := hy
    rw [if_pos rfl] at hy
    cases hy
    exact ⟨v, by rw [if_pos rfl], tv.kp k⟩
  · have nk : ¬ ((.inr (tx y) : Key) = .inr (tx x)) := fun q => c (inr_inj q).symm
    cases q : look e y with
    | some p =>
      rw [q] at hy
      cases hy
      obtain ⟨w, h1, h2⟩ := h y u q
      exact ⟨w, by rw [if_neg nk]; exact h1, h2.kp k⟩
    | none =>
      rw [q] at hy
      have hy : (if x = y then some t else none) = some u := hy
      rw [if_neg c] at hy
      cases hy
theorem zip_take {ps : List (List Nat)} {ts : List Tree} {i : Nat} {x : List Nat} {t : Tree} (hx : ps[i]? = some x) (ht : ts[i]? = some t) : (ps.zip ts).take (i + 1) = (ps.zip ts).take i ++ [(x, t)] := by
  rw [List.take_add_one, (List.getElem?_zip_eq_some (z := (x, t))).mpr ⟨hx, ht⟩]
  rfl
theorem zip_take_mem : ∀ {ps : List (List Nat)} {ts : List Tree} {i : Nat} {p : List Nat × Tree}, p ∈ (ps.zip ts).take i → p.1 ∈ ps.take i
  | [], _, i, p, m => by simp at m
  | _ :: _, [], i, p, m => by simp at m
  | q :: ps, t :: ts, 0, p, m => by simp at m
  | q :: ps, t :: ts, i + 1, p, m => by
    rw [List.zip_cons_cons, List.take_succ_cons] at m
    rw [List.take_succ_cons]
    rcases List.mem_cons.mp m with e | m
    · rw [e]; exact List.mem_cons_self ..
    · exact List.mem_cons_of_mem _ (zip_take_mem m)
theorem zip_fresh {ps : List (List Nat)} {ts : List Tree} {i : Nat} {x : List Nat} (nd : ps.Nodup) (hx : ps[i]? = some x) : look ((ps.zip ts).take i) x = none := look_none fun m => by
  obtain ⟨p, mp, e⟩ := List.mem_map.mp m
  have : p.1 ∈ ps.take i := zip_take_mem mp
  rw [e] at this
  exact nodup_take nd hx this
theorem lit_eval : ("eval" : Str) = tx [101, 118, 97, 108] := by decide +kernel
theorem lit_do : ("do" : Str) = tx [100, 111] := by decide +kernel
theorem lit_ifS : ("if" : Str) = tx [105, 102] := by decide +kernel
theorem lit_call : ("call" : Str) = tx [99, 97, 108, 108] := by decide +kernel
def C00 (L : List Fn0) : Cx0 := ⟨L, 0, 0, 0⟩
def LInv (K : PySem.W.Frag) (L : List Fn0) (H : Hp) (pa ia Db : Addr) (lim : Nat) (m0 : MS) (i : Nat) (σ : L2.St) (H' : Hp) : Prop := ∃ (y4 y5 y6 y7 y8 y12 y13 y14 y15 y16 : Option V) (Td Fd : Addr) (m : MS),
  σ = [some (.ref pa), some (.ref ia), some (.int (lim : Nat)), some (.ref Db), y4, y5, y6, y7, y8, some (.ref Td), some (.ref Fd), some (.int (m.steps : Nat)), y12, y13, y14, y15, y16] ∧
  turns L i m0 = some m ∧ i + cntT m.todo ≤ 2 * m.steps ∧ m.steps ≤ lim ∧ TOk (C00 L) m.todo m.found.length ∧ StV K H' Td Fd m ∧ Keep [] H H' ∧ BodD K H' Db L ∧ H Td = none ∧ H Fd = none ∧ Td ≠ Fd
theorem push_todo {H : Hp} {Td T1 : Addr} {tvs : List V} {o : HO} (eT : H Td = some (.lst tvs)) (nT : H T1 = none) : (upd H T1 o) Td = some (.lst tvs) ∧ Keep [Td] H (upd (upd H T1 o) Td (.lst (tvs ++ [.ref T1]))) ∧ (upd (upd H T1 o) Td (.lst (tvs ++ [.ref T1]))) Td = some (.lst (tvs ++ [.ref T1])) ∧ (upd (upd H T1 o) Td (.lst (tvs ++ [.ref T1]))) T1 = some o := by
  have ne : T1 ≠ Td := fun e => by rw [e, eT] at nT; cases nT
  have e1 : (upd H T1 o) Td = some (.lst tvs) := by rw [upd_ne (Ne.symm ne)]; exact eT
  exact ⟨e1, (Keep.new nT).trans (Keep.set e1 (List.mem_cons_self ..)), upd_same, by rw [upd_ne ne]; exact upd_same⟩
theorem sSF {a b : Str} (h : a ≠ b) : decide (V.str a = V.str b) = false := decide_eq_false fun e => h (V.str.inj e)
theorem sST {a b : Str} (h : a = b) : decide (V.str a = V.str b) = true := by rw [h]; simp
theorem inV_strsW (n : List Nat) : ∀ L : List (List Nat), inV (.str (tx n)) (L.map fun c => V.str (tx c)) = decide (n ∈ L)
  | [] => by simp [inV]
  | c :: L => by
    have ih := inV_strsW n L
    unfold inV at ih ⊢
    rw [List.map_cons, List.any_cons, ih]
    by_cases e : c = n
    · subst e
      simp [eqV]
    · have : ¬ (tx c = tx n) := fun q => e (tx_inj q)
      have e2 : ¬ n = c := fun q => e q.symm
      simp [eqV, this, e2]
def primWs : List (List Nat) := [sameW, wordW, headW, tailW, joinW]
theorem primWs_v : [V.str "same", .str "word", .str "head", .str "tail", .str "join"] = primWs.map fun c => V.str (tx c) := by decide +kernel
section
variable {P : Program} {w : World} {K : PySem.W.Frag} {mg : Str → Option Value} {base : Heap}
def spRun0 (K : PySem.W.Frag) (n : Nat) : Sp := fun vs H Q _ => ∃ (vp : V) (L : List Fn0) (f0 : Fn0) (ia : Addr) (ivs : List V) (its : List Tree) (lim : Nat), vs = [vp, .ref ia, .int (lim : Nat)] ∧ PgW K H vp L ∧ SqL K H ia ivs ∧ Trs K H ivs its ∧ L[0]? = some f0 ∧ its.length = f0.2.1.length ∧ f0.2.1.length ≤ 1000 ∧
  GdP L ∧ (L.map (·.1)).Nodup ∧ L.length ≤ 100000 ∧ (∀ f ∈ L, f.2.1.length ≤ 12 ∧ f.2.1.Nodup) ∧ lim ≤ 1000000 ∧ (∀ k m, turns L k (m00 f0 its) = some m → m.steps ≤ lim → Safe n m) ∧
  ∀ (r : V) (H' : Hp), RunRes K L (m00 f0 its) lim r H' → Keep [] H H' → Q r H'
open Classical in
theorem has_run0 {k n : Nat} (D : DefAt K mg "_law_run" s_law_run p_law_run) (B : Bn mg) (c1 : Has P w K mg base k "_law_do" p_law_do (spDo K n)) : Has P w K mg base (k + 1) "_law_run" p_law_run (spRun0 K n) := by
  obtain ⟨f, fd, F, hm, hb⟩ := D.ex
  obtain ⟨_, _, c_law_do⟩ := c1
  refine ⟨f, fd, F.ok sc_law_run (fun vs H Q E h => ?_) (fun cdv A outer s H vs Q E hr h => ?_), hm, F.kp, hb⟩
  · obtain ⟨_, _, _, _, _, _, _, rfl, _⟩ := h
    rfl
  obtain ⟨vp, L, f0, ia, ivs, its, lim, rfl, pg, hI, ti, e0, hn, l1000, gd, un, lL, ar, l6, safe, q⟩ := h
  refine ⟨_, (pss_cons (ps_set (i := 3) sc_law_run.nd rfl (.inl rfl) pe_dnewK)
    (pss_cons (ps_for PassesOwn.never rfl (pi_tup (pv 0)) (pg_tup (by rfl) (pgs_cons (pg_name (i := 4) sc_law_run.nd rfl (.inl rfl)) (pgs_cons (pg_name (i := 5) sc_law_run.nd rfl (.inl rfl)) (pgs_cons (pg_name (i := 6) sc_law_run.nd rfl (.inl rfl)) pgs_nil))))
      (pss_one (ps_dput (hu_of hr) (pv 3) (pv 4) (pe_tup (pa_cons (pv 5) (pa_cons (pv 6) pa_nil))) rfl)))
    (pss_cons (ps_set (i := 7) sc_law_run.nd rfl (.inl rfl) pe_dnewK)
    (pss_cons (ps_for PassesOwn.never rfl (pi_range1 (by rfl) B.range (pa_cons (pe_callB call_len_seq (by rfl) B.len PySem.boot_len (pa_cons (pv 1) pa_nil)) pa_nil)) (pg_name (i := 8) sc_law_run.nd rfl (.inl rfl))
      (pss_one (ps_dput (hu_of hr) (pv 7) (pe_ix ix_tup (pe_ix ix_tup (pe_ix ix_tup (pv 0) pe_int (fun _ _ => rfl)) pe_int (fun _ _ => rfl)) (pv 8) (fun _ _ => rfl)) (pe_ix ix_list (pv 1) (pv 8) (fun _ _ => rfl)) rfl)))
    (pss_cons (ps_set (i := 9) sc_law_run.nd rfl (.inl rfl) (pe_lst (pa_cons (pe_tup (pa_cons pe_str (pa_cons (pe_ix ix_tup (pe_ix ix_tup (pv 0) pe_int (fun _ _ => rfl)) pe_int (fun _ _ => rfl)) (pa_cons (pv 7) pa_nil)))) pa_nil)))
    (pss_cons (ps_set (i := 10) sc_law_run.nd rfl (.inl rfl) (pe_lst pa_nil))
    (pss_cons (ps_set (i := 11) sc_law_run.nd rfl (.inl rfl) pe_int)
    (pss_cons (ps_for PassesOwn.never rfl (pi_range1 (by rfl) B.range (pa_cons (pe_op op_add (pe_op op_mul pe_int (pv 2)) pe_int) pa_nil)) (pg_name (i := 12) sc_law_run.nd rfl (.inl rfl))
      (pss_cons (ps_if (pt_cmpR op_eq (pe_callB call_len_seq (by rfl) B.len PySem.boot_len (pa_cons (pv 9) pa_nil)) pe_int (nomark _)) (pss_one (ps_ret (pe_tup (pa_cons pe_str (pa_cons (pe_ix ix_list (pv 10) pe_int (fun _ _ => rfl)) (pa_cons (pv 11) pa_nil)))))) pss_nil)
      (pss_cons (ps_set (i := 13) sc_law_run.nd rfl (.inl rfl) (pe_bm0 PySem.F.plainAttrs_list PySem.F.slot_list_pop PySem.F.type_list_pop mt_pop (pv 9)))
      (pss_one (ps_if (pt_cmpR op_eq (pe_ix ix_tup (pv 13) pe_int (fun _ _ => rfl)) pe_str (nomark _)) (pss_one (ps_expr (pe_bm PySem.F.plainAttrs_list PySem.F.slot_list_append PySem.F.type_list_append mt_append (pv 10) (pa_cons (cal c_law_do hr rfl (pa_cons (pe_ix ix_tup (pv 13) pe_int (fun _ _ => rfl)) (pa_cons (pv 10) pa_nil))) pa_nil)))) (pss_one (ps_if (pt_cmpR op_eq (pe_ix ix_tup (pv 13) pe_int (fun _ _ => rfl)) pe_str (nomark _)) (pss_cons (ps_set (i := 14) sc_law_run.nd rfl (.inl rfl) (pe_ix ix_tup (pv 13) pe_int (fun _ _ => rfl)))
          (pss_cons (ps_if (pt_cmpR (op_eqTm (n := 1) hr.units (room_n hr (by omega))) (pe_bm0 PySem.F.plainAttrs_list PySem.F.slot_list_pop PySem.F.type_list_pop mt_pop (pv 10)) (pe_tup pa_nil) (nomark _)) (pss_one (ps_set (i := 14) sc_law_run.nd rfl (.inl rfl) (pe_ix ix_tup (pv 13) pe_int (fun _ _ => rfl)))) pss_nil)
          (pss_one (ps_expr (pe_bm PySem.F.plainAttrs_list PySem.F.slot_list_append PySem.F.type_list_append mt_append (pv 9) (pa_cons (pe_tup (pa_cons pe_str (pa_cons (pv 14) (pa_cons (pe_ix ix_tup (pv 13) pe_int (fun _ _ => rfl)) pa_nil)))) pa_nil)))))) (pss_one (ps_if (pt_cmpR op_eq (pe_ix ix_tup (pv 13) pe_int (fun _ _ => rfl)) pe_str (nomark _)) (pss_cons (ps_asg (pe_dget (hu_of hr) (pv 3) (pe_ix ix_tup (pv 13) pe_int (fun _ _ => rfl)) (fun _ _ => rfl)) (pg_tup (by rfl) (pgs_cons (pg_name (i := 5) sc_law_run.nd rfl (.inl rfl)) (pgs_cons (pg_name (i := 6) sc_law_run.nd rfl (.inl rfl)) pgs_nil))))
            (pss_cons (ps_set (i := 7) sc_law_run.nd rfl (.inl rfl) pe_dnewK)
            (pss_cons (ps_for PassesOwn.never rfl (pi_range1 (by rfl) B.range (pa_cons (pe_callB call_len_seq (by rfl) B.len PySem.boot_len (pa_cons (pv 5) pa_nil)) pa_nil)) (pg_name (i := 8) sc_law_run.nd rfl (.inl rfl))
              (pss_one (ps_dput (hu_of hr) (pv 7) (pe_ix ix_tup (pv 5) (pv 8) (fun _ _ => rfl)) (pe_ix ix_list (pv 10) (pe_op op_add (pe_op op_sub (pe_callB call_len_seq (by rfl) B.len PySem.boot_len (pa_cons (pv 10) pa_nil)) (pe_callB call_len_seq (by rfl) B.len PySem.boot_len (pa_cons (pv 5) pa_nil))) (pv 8)) (fun _ _ => rfl)) rfl)))
            (pss_cons (ps_set (i := 10) sc_law_run.nd rfl (.inl rfl) (pe_slice sl_list (pv 10) po_none (po_some (pe_op op_sub (pe_callB call_len_seq (by rfl) B.len PySem.boot_len (pa_cons (pv 10) pa_nil)) (pe_callB call_len_seq (by rfl) B.len PySem.boot_len (pa_cons (pv 5) pa_nil))))))
            (pss_one (ps_expr (pe_bm PySem.F.plainAttrs_list PySem.F.slot_list_append PySem.F.type_list_append mt_append (pv 9) (pa_cons (pe_tup (pa_cons pe_str (pa_cons (pv 6) (pa_cons (pv 7) pa_nil)))) pa_nil)))))))) (pss_cons (ps_if (pt_cmpR op_eq (pv 11) (pv 2) (nomark _)) (pss_one (ps_ret (pe_tup (pa_cons pe_str pa_nil)))) pss_nil)
            (pss_cons (ps_set (i := 11) sc_law_run.nd rfl (.inl rfl) (pe_op op_add (pv 11) pe_int))
            (pss_cons (ps_par (i := 15) (j := 7) (by rfl) sc_law_run.nd rfl rfl (by decide) rfl rfl (pa_cons (pe_ix ix_tup (pv 13) pe_int (fun _ _ => rfl)) (pa_cons (pe_ix ix_tup (pv 13) pe_int (fun _ _ => rfl)) pa_nil)) (by rfl))
            (pss_one (ps_if (pt_val (pe_callB call_isi (by rfl) B.isinstance (by decide +kernel) (pa_cons (pv 15) (pa_cons (pe_bltn (v := .ty "str") rfl B.str (by decide +kernel) rfl) pa_nil)))) (pss_one (ps_expr (pe_bm PySem.F.plainAttrs_list PySem.F.slot_list_append PySem.F.type_list_append mt_append (pv 10) (pa_cons (pe_dget (hu_of hr) (pv 7) (pv 15) (fun _ _ => rfl)) pa_nil)))) (pss_one (ps_if (pt_cmpR op_eq (pe_ix ix_tup (pv 15) pe_int (fun _ _ => rfl)) pe_str (nomark _)) (pss_one (ps_expr (pe_bm PySem.F.plainAttrs_list PySem.F.slot_list_append PySem.F.type_list_append mt_append (pv 10) (pa_cons (pe_ix ix_tup (pv 15) pe_int (fun _ _ => rfl)) pa_nil)))) (pss_one (ps_if (pt_cmpR op_eq (pe_ix ix_tup (pv 15) pe_int (fun _ _ => rfl)) pe_str (nomark _)) (pss_cons (ps_expr (pe_bm PySem.F.plainAttrs_list PySem.F.slot_list_append PySem.F.type_list_append mt_append (pv 9) (pa_cons (pe_tup (pa_cons pe_str (pa_cons (pe_ix ix_tup (pv 15) pe_int (fun _ _ => rfl)) (pa_cons (pe_ix ix_tup (pv 15) pe_int (fun _ _ => rfl)) (pa_cons (pv 7) pa_nil))))) pa_nil)))
                  (pss_one (ps_expr (pe_bm PySem.F.plainAttrs_list PySem.F.slot_list_append PySem.F.type_list_append mt_append (pv 9) (pa_cons (pe_tup (pa_cons pe_str (pa_cons (pe_ix ix_tup (pv 15) pe_int (fun _ _ => rfl)) (pa_cons (pv 7) pa_nil)))) pa_nil))))) (pss_cons (ps_set (i := 16) sc_law_run.nd rfl (.inl rfl) pe_str)
                  (pss_cons (ps_if (pt_cmpR op_in_seq (pe_ix ix_tup (pv 15) pe_int (fun _ _ => rfl)) (pe_lst (pa_cons pe_str (pa_cons pe_str (pa_cons pe_str (pa_cons pe_str (pa_cons pe_str pa_nil)))))) (by rfl)) (pss_one (ps_set (i := 16) sc_law_run.nd rfl (.inl rfl) pe_str)) pss_nil)
                  (pss_cons (ps_expr (pe_bm PySem.F.plainAttrs_list PySem.F.slot_list_append PySem.F.type_list_append mt_append (pv 9) (pa_cons (pe_tup (pa_cons (pv 16) (pa_cons (pe_ix ix_tup (pv 15) pe_int (fun _ _ => rfl)) pa_nil))) pa_nil)))
                  (pss_one (ps_for PassesOwn.never rfl (pi_range1 (by rfl) B.range (pa_cons (pe_op op_sub (pe_callB call_len_seq (by rfl) B.len PySem.boot_len (pa_cons (pv 15) pa_nil)) pe_int) pa_nil)) (pg_name (i := 8) sc_law_run.nd rfl (.inl rfl))
                    (pss_one (ps_expr (pe_bm PySem.F.plainAttrs_list PySem.F.slot_list_append PySem.F.type_list_append mt_append (pv 9) (pa_cons (pe_tup (pa_cons pe_str (pa_cons (pe_ix ix_tup (pv 15) (pe_op op_sub (pe_op op_sub (pe_callB call_len_seq (by rfl) B.len PySem.boot_len (pa_cons (pv 15) pa_nil)) pe_int) (pv 8)) (fun _ _ => rfl)) (pa_cons (pv 7) pa_nil)))) pa_nil)))))))))))))))))))))))))))
    (pss_one (ps_ret (pe_tup (pa_cons pe_str pa_nil)))))))))))), ?_⟩
  obtain ⟨pa, pvs, rfl, hP, pf⟩ := pg
  have lp := pr_len pf
  refine fun Db nDb => ?_
  refine ⟨_, rfl, pa, rfl, ⟨_, (Keep.new (S := []) nDb).sqT hP⟩, ?_⟩
  refine for_tup (K := K) (a := pa) (xs := pvs) (fun i σ H' => ∃ (y4 y5 y6 : Option V), σ = [some (.ref pa), some (.ref ia), some (.int (lim : Nat)), some (.ref Db), y4, y5, y6, none, none, none, none, none, none, none, none, none, none] ∧ Keep [] H H' ∧ BodD K H' Db (L.take i) ∧ (L.take i).length = i)
    ⟨none, none, none, rfl, Keep.new nDb, ⟨[], upd_same, Nat.zero_le _, fun x ps b h => by cases h⟩, rfl⟩ (fun i σ H' _ p => ?_) (fun i z σ H1 hz p => ?_) (fun σ H1 p => ?_)
  · obtain ⟨_, _, _, _, kk, _⟩ := p
    exact kk.sqT hP
  · obtain ⟨y4, y5, y6, rfl, kk, ⟨kvs, eD, lk, rel⟩, lt⟩ := p
    obtain ⟨g, hg, fw⟩ := pr_at pf hz
    obtain ⟨ga, vp, vb, rfl, hG, tp, tb⟩ := fw.kp kk
    have tk : L.take (i + 1) = L.take i ++ [g] := by rw [List.take_add_one, hg]; rfl
    have il : i < L.length := (List.getElem?_eq_some_iff.mp hg).1
    refine ⟨ga, _, rfl, hG, rfl, ?_⟩
    refine ⟨_, _, rfl, _, _, rfl, _, _, rfl, rfl, _, rfl, _, rfl, by show (2 : Nat) ≤ sizeLine; decide, fun T nT => ?_⟩
    have kT : Keep [] H1 (upd H1 T (.tup [vp, vb])) := Keep.new nT
    have eT : (upd H1 T (.tup [vp, vb])) T = some (.tup [vp, vb]) := upd_same
    generalize upd H1 T (.tup [vp, vb]) = H2 at kT eT
    have eD2 := kT.get eD (by simp)
    refine ⟨_, rfl, _, rfl, Db, _, rfl, DPut.k (k := Sum.inr (tx g.1)) eD2 (Nat.lt_of_le_of_lt (show kvs.length ≤ 100000 by omega) (by decide)), ?_⟩
    have kP : Kp [Db] H2 (upd H2 Db (.dK (putK kvs (.inr (tx g.1)) (.ref T)))) := Kp.set eD2 mo_dK mo_dK (List.mem_cons_self ..)
    refine ⟨_, _, _, rfl, (kk.trans kT).updNew nDb, ⟨_, upd_same, Nat.le_trans (length_putK _ _ _) (by rw [tk, List.length_append, lt, List.length_singleton]; omega), fun x ps b hx => ?_⟩, by rw [List.length_take]; omega⟩
    rw [tk, fnOf_snoc] at hx
    rw [valV_put]
    by_cases c : g.1 = x
    · subst c
      have no : fnOf (L.take i) g.1 = none := fnOf_none fun m => by
        rw [List.map_take] at m
        exact nodup_take un (i := i) (by rw [List.getElem?_map, hg]; rfl) m
      rw [no] at hx
      have hx : (if g.1 = g.1 then some g.2 else none) = some (ps, b) := hx
      rw [if_pos rfl] at hx
      have e2 := Option.some.inj hx
      refine ⟨T, vp, vb, by rw [if_pos rfl], kP.tup eT, ?_, ?_⟩
      · rw [show ps = g.2.1 by rw [e2]]; exact (tp.keep kT).kp kP
      · rw [show b = g.2.2 by rw [e2]]; exact (tb.keep kT).kp kP
    · have nk : ¬ ((.inr (tx x) : Key) = .inr (tx g.1)) := fun q => c (inr_inj q).symm
      cases q : fnOf (L.take i) x with
      | none =>
        rw [q] at hx
        have hx : (if g.1 = x then some g.2 else none) = some (ps, b) := hx
        rw [if_neg c] at hx
        cases hx
      | some p =>
        rw [q] at hx
        cases hx
        obtain ⟨a, vp', vb', h1, h2, h3, h4⟩ := rel x ps b q
        exact ⟨a, vp', vb', by rw [if_neg nk]; exact h1, kP.tup (kT.tup h2), (h3.keep kT).kp kP, (h4.keep kT).kp kP⟩
  obtain ⟨y4, y5, y6, rfl, k1, bd, _⟩ := p
  rw [List.take_of_length_le (by omega)] at bd
  -- names
  refine fun Dn nDn => ?_
  have kN : Keep [] H1 (upd H1 Dn (.dK [])) := Keep.new nDn
  have k2 := k1.trans kN
  have bd2 := bd.kp kN
  have eN : (upd H1 Dn (.dK [])) Dn = some (.dK []) := upd_same
  have Dbn : Db ≠ Dn := by
    obtain ⟨_, e, _⟩ := bd
    exact ne_of_none e nDn
  generalize upd H1 Dn (.dK []) = H2 at kN k2 bd2 eN
  obtain ⟨v0, hv0, fw⟩ := pr_get pf e0
  obtain ⟨ga, vp, vb, rfl, hG, tp, tb⟩ := fw
  obtain ⟨qa, qvs, rfl, hQ, rQ⟩ := tp.list
  have lti := ti.length
  refine ⟨_, rfl, ia, ivs, rfl, .inl (k2.sqL (by simp) hI), _, rfl, by omega, by omega, ?_⟩
  refine for_range (lo := 0) (n := (ivs.length : Int).toNat) (fun j σ H' => ∃ (y8 : Option V), σ = [some (.ref pa), some (.ref ia), some (.int (lim : Nat)), some (.ref Db), y4, y5, y6, some (.ref Dn), y8, none, none, none, none, none, none, none, none] ∧ Keep [] H1 H' ∧ EnvN K H' Dn ((f0.2.1.zip its).take j) j)
    ⟨none, rfl, kN, ⟨[], eN, Nat.le_refl _, fun x t h => by cases h⟩⟩ (fun j σ H3 hj p => ?_) (fun σ H3 p => ?_)
  · obtain ⟨y8, rfl, k3, ⟨kvs, eD, lk, rel⟩⟩ := p
    have jl : j < its.length := by omega
    have hx : f0.2.1[j]? = some f0.2.1[j] := List.getElem?_eq_getElem (by omega)
    have ht : its[j]? = some its[j] := List.getElem?_eq_getElem jl
    obtain ⟨vt, hvt, tt⟩ := ti.get ht
    obtain ⟨vx, hvx, tx0⟩ := rQ.get (i := j) (t := .w f0.2.1[j]) (by rw [List.getElem?_map, hx]; rfl)
    have evx := tx0.word
    subst evx
    have k03 := k1.trans k3
    have nd0 := (ar f0 (List.mem_of_getElem? e0)).2
    generalize f0.2.1[j] = x at hx hvx tx0
    generalize its[j] = t at ht tt
    rw [show (0 : Int) + (j : Int) = (j : Int) by omega]
    refine ⟨_, rfl, _, rfl, ia, ivs, _, vt, rfl, rfl, k03.sqL (by simp) hI, atI_nat hvt, ?_⟩
    refine ⟨_, rfl, _, rfl, pa, pvs, _, _, rfl, rfl, k03.sqT hP, atI_nat (j := 0) hv0, ga, _, _, _, rfl, rfl, k03.sqT hG, rfl, _, rfl, qa, qvs, _, _, rfl, rfl, k03.sqT hQ, atI_nat hvx, ?_⟩
    refine ⟨Dn, _, rfl, DPut.k (k := Sum.inr (tx x)) eD (Nat.lt_of_le_of_lt (show kvs.length ≤ 100000 by omega) (by decide)), ?_⟩
    refine ⟨_, rfl, k3.updNew nDn, ?_⟩
    rw [zip_take hx ht]
    exact EnvN.put eD lk rel (zip_fresh nd0 hx) (tt.keep k03)
  obtain ⟨y8, rfl, k3, en⟩ := p
  have el : (ivs.length : Int).toNat = ivs.length := by omega
  rw [el, List.take_of_length_le (by rw [List.length_zip]; omega)] at en
  have k03 := k1.trans k3
  -- todo, found, steps
  refine ⟨_, rfl, pa, pvs, _, _, rfl, rfl, k03.sqT hP, atI_nat (j := 0) hv0, ga, _, _, _, rfl, rfl, k03.sqT hG, rfl, _, rfl, by show (3 : Nat) ≤ sizeLine; decide, fun T nT => ⟨by show (1 : Nat) ≤ sizeLine; decide, fun Td nTd => ?_⟩⟩
  have kT : Keep [] H3 (upd H3 T (.tup [.str "eval", vb, .ref Dn])) := Keep.new nT
  have eT : (upd H3 T (.tup [.str "eval", vb, .ref Dn])) T = some (.tup [.str "eval", vb, .ref Dn]) := upd_same
  generalize upd H3 T (.tup [.str "eval", vb, .ref Dn]) = H4 at nTd kT eT
  have kTd : Keep [] H4 (upd H4 Td (.lst [.ref T])) := Keep.new nTd
  have eTd : (upd H4 Td (.lst [.ref T])) Td = some (.lst [.ref T]) := upd_same
  generalize upd H4 Td (.lst [.ref T]) = H5 at kTd eTd
  refine ⟨by show (0 : Nat) ≤ sizeLine; decide, fun Fd nFd => ?_⟩
  have kFd : Keep [] H5 (upd H5 Fd (.lst [])) := Keep.new nFd
  have eFd : (upd H5 Fd (.lst [])) Fd = some (.lst []) := upd_same
  have TdFd : Td ≠ Fd := ne_of_none eTd nFd
  have eTd6 := kFd.get eTd (by simp)
  generalize upd H5 Fd (.lst []) = H6 at kFd eFd eTd6
  have k36 := kT.trans (kTd.trans kFd)
  have k06 := k03.trans k36
  have nTd0 : H Td = none := (k03.trans kT).free nTd
  have nFd0 : H Fd = none := ((k03.trans kT).trans kTd).free nFd
  have st0 : StV K H6 Td Fd (m00 f0 its) := ⟨[.ref T], [], eTd6, .cons ⟨T, vb, Dn, rfl, (kTd.trans kFd).tup eT, tb.keep k06, en.d.kp k36⟩ .nil, eFd, trs_nil⟩
  have bd6 : BodD K H6 Db L := bd.kp (k3.trans k36)
  have tok0 : TOk (C00 L) (m00 f0 its).todo (m00 f0 its).found.length := .ev (gd (C00 L) rfl f0 (List.mem_of_getElem? e0)) (cov_zip (by omega)) .nil
  refine ⟨_, rfl, _, _, rfl, rfl, .inl ⟨by decide, by decide⟩, _, _, rfl, rfl, _, rfl, by omega, by omega, ?_⟩
  refine for_range (lo := 0) (n := (4 * (lim : Int) + 4).toNat) (LInv K L H pa ia Db lim (m00 f0 its)) ⟨_, _, _, _, _, _, _, _, _, _, Td, Fd, m00 f0 its, rfl, rfl, Nat.le_refl _, Nat.zero_le _, tok0, st0, k06, bd6, nTd0, nFd0, TdFd⟩ (fun i σ H7 hi pw => ?_) (fun σ H7 pw => ?_)
  rotate_left
  · obtain ⟨_, _, _, _, _, _, _, _, _, _, _, _, m, _, _, hc, hl, _⟩ := pw
    exfalso
    omega
  obtain ⟨y4, y5, y6, y7, y8, y12, y13, y14, y15, y16, Td, Fd, ⟨todo, found, s⟩, rfl, ht, hc, hl, tok, ⟨tvs, fvs, eT, pT, eF, rF⟩, kk, bd7, nTd, nFd, TF⟩ := pw
  have sf := safe i _ ht hl
  dsimp only at hc hl tok pT rF sf
  have ltv : tvs.length = todo.length := by have := pr_len pT; rw [List.length_reverse] at this; exact this
  have lfv : fvs.length = found.length := by have := rF.length; rw [List.length_reverse] at this; exact this
  have sf1 : todo.length ≤ 1000000 := sf.1
  have sf2 : found.length ≤ 1000000 := sf.2.1
  refine ⟨_, rfl, Td, tvs, rfl, .inl (SqL.of eT), rfl, _, rfl, ?_⟩
  cases todo with
  | nil =>
    rw [dT (by rw [ltv]; rfl)]
    refine iteT ?_
    generalize hn1 : found.length = n1 at tok
    cases tok
    match found, hn1, rF, ht with
    | [v], _, rF, ht =>
    obtain ⟨u, r, rfl, hu, hr0⟩ := (show Trs K H7 fvs [v] from rF).cons
    refine ⟨_, rfl, Fd, _, _, u, rfl, rfl, SqL.of eF, atI_zero _ _, _, rfl, by show (3 : Nat) ≤ sizeLine; decide, fun a na => ?_⟩
    exact q _ _ (.inl ⟨i, v, s, ht, hl, a, u, rfl, upd_same, hu.keep (Keep.new (S := []) na)⟩) (kk.newT na)
  | cons t td =>
    rw [List.reverse_cons] at pT
    obtain ⟨tvs0, vt, rfl, pT0, tv⟩ := pr_unsnocR pT
    rw [dF (by rw [List.length_append, List.length_singleton]; omega)]
    refine iteF ?_
    refine ⟨_, rfl, .inl ⟨rfl, _, SqL.of eT⟩, Td, _, vt, rfl, rfl, eT, last_get tvs0 vt, ?_⟩
    rw [List.dropLast_concat]
    have k8 : Keep [Td] H7 (upd H7 Td (.lst tvs0)) := Keep.set eT (List.mem_cons_self ..)
    have eT8 : (upd H7 Td (.lst tvs0)) Td = some (.lst tvs0) := upd_same
    have eF8 := k8.get eF (by simpa using Ne.symm TF)
    generalize upd H7 Td (.lst tvs0) = H8 at k8 eT8 eF8
    have pT8 := pr_imp (fun _ _ x => TaskV.kp x k8) pT0
    have tv8 := tv.kp k8
    have rF8 := rF.keep k8
    have kk8 : Keep [] H H8 := (kk.cons.trans k8).drop nTd
    have bd8 := bd7.kp k8
    have lt0 : tvs0.length ≤ 1000000 := by simp only [List.length_append, List.length_cons, List.length_nil] at ltv sf1; omega
    have lts0 : tvs0.length < sizeLine := Nat.lt_of_le_of_lt lt0 (by decide)
    have fin : ∀ (z4 z5 z6 z7 z8 z12 z13 z14 z15 z16 : Option V) (Fd' : Addr) (m' : MS) (H9 : Hp) (zs : Int), turn L ⟨t :: td, found, s⟩ = some m' → zs = (m'.steps : Nat) → i + 1 + cntT m'.todo ≤ 2 * m'.steps → m'.steps ≤ lim → TOk (C00 L) m'.todo m'.found.length → StV K H9 Td Fd' m' → Keep [] H H9 → BodD K H9 Db L → H Fd' = none → Td ≠ Fd' →
        LInv K L H pa ia Db lim (m00 f0 its) (i + 1) [some (.ref pa), some (.ref ia), some (.int (lim : Nat)), some (.ref Db), z4, z5, z6, z7, z8, some (.ref Td), some (.ref Fd'), some (.int zs), z12, z13, z14, z15, z16] H9 := fun z4 z5 z6 z7 z8 z12 z13 z14 z15 z16 Fd' m' H9 zs h1 ez h2 h3 h4 h5 h6 h7 h8 h9 =>
      ⟨z4, z5, z6, z7, z8, z12, z13, z14, z15, z16, Td, Fd', m', by rw [ez], turns_add ht (turns_one h1), h2, h3, h4, h5, h6, h7, nTd, h8, h9⟩
    have L2l : ("if" : Str) ≠ "do" := by decide +kernel
    have L3l : ("call" : Str) ≠ "do" := by decide +kernel
    have L4l : ("call" : Str) ≠ "if" := by decide +kernel
    have L5l : ("eval" : Str) ≠ "do" := by decide +kernel
    have L6l : ("eval" : Str) ≠ "if" := by decide +kernel
    have L7l : ("eval" : Str) ≠ "call" := by decide +kernel
    generalize hn1 : found.length = n1 at tok
    cases tok with
    | @p1 w td h mw r =>
      obtain ⟨A1, rfl, eA⟩ := tv8
      match found, hn1, rF8, sf, hc, ht, fin with
      | l :: fd, hn1, rF8, sf, hc, ht, fin =>
      rw [List.reverse_cons] at rF8
      obtain ⟨fvs0, vl, rfl, rF0, tl⟩ := rF8.snoc
      refine ⟨_, rfl, A1, _, _, _, rfl, rfl, SqT.of_tup eA, atI_zero _ _, rfl, _, rfl, ?_⟩
      rw [sST rfl]
      refine iteT ?_
      refine ⟨_, rfl, .inl ⟨rfl, _, SqL.of eF8⟩, _, rfl, A1, _, _, _, rfl, rfl, SqT.of_tup eA, atI_nat (j := 1) rfl, _, rfl, w, Fd, fvs0, vl, l, rfl, tl, (sf.2.2 w td l fd rfl rfl).1, .inl ⟨mw, eF8, fun v H9 tv9 e9 k9 => ?_⟩⟩
      have k9b : Keep [Fd] H9 (upd H9 Fd (.lst (fvs0 ++ [v]))) := Keep.set e9 (List.mem_cons_self ..)
      have k89 := k9.trans k9b
      refine ⟨Fd, fvs0, v, rfl, rfl, e9, Nat.lt_of_le_of_lt (show fvs0.length ≤ 1000000 by rw [List.length_append] at lfv; omega) (by decide), ?_⟩
      refine fin _ _ _ _ _ _ _ _ _ _ Fd _ _ _ (turn_p1 mw) rfl ?_ hl ?_ ⟨tvs0, fvs0 ++ [v], k89.get eT8 (by simpa using TF), pr_imp (fun _ _ x => TaskV.kp x k89) pT8, upd_same, ?_⟩ ((kk8.cons.trans k89).drop nFd) (bd8.kp k89) nFd TF
      · have : i + (cntT td + 1) ≤ 2 * s := hc
        show i + 1 + cntT td ≤ 2 * s
        omega
      · show TOk (C00 L) td (fd.length + 1)
        rw [show fd.length + 1 = h + 1 from hn1]
        exact r
      · show Trs K _ _ (prim1 w l :: fd).reverse
        rw [List.reverse_cons]
        exact (rF0.keep k89).append (Trs.one (tv9.keep k9b))
    | @p2 w td h mw r =>
      obtain ⟨A1, rfl, eA⟩ := tv8
      match found, hn1, rF8, sf, hc, ht, fin with
      | l :: f1 :: fd, hn1, rF8, sf, hc, ht, fin =>
      rw [List.reverse_cons, List.reverse_cons] at rF8
      obtain ⟨fvs1, vl, rfl, rF1, tl⟩ := rF8.snoc
      obtain ⟨fvs0, vf, rfl, rF0, tf⟩ := rF1.snoc
      refine ⟨_, rfl, A1, _, _, _, rfl, rfl, SqT.of_tup eA, atI_zero _ _, rfl, _, rfl, ?_⟩
      rw [sST rfl]
      refine iteT ?_
      have sf3 := sf.2.2 w td l (f1 :: fd) rfl rfl
      refine ⟨_, rfl, .inl ⟨rfl, _, SqL.of eF8⟩, _, rfl, A1, _, _, _, rfl, rfl, SqT.of_tup eA, atI_nat (j := 1) rfl, _, rfl, w, Fd, fvs0, vl, l, rfl, tl, sf3.1, .inr ⟨mw, vf, f1, tf, fun e => sf3.2 f1 fd rfl e, eF8, fun v H9 tv9 e9 k9 => ?_⟩⟩
      have k9b : Keep [Fd] H9 (upd H9 Fd (.lst (fvs0 ++ [v]))) := Keep.set e9 (List.mem_cons_self ..)
      have k89 := k9.trans k9b
      refine ⟨Fd, fvs0, v, rfl, rfl, e9, Nat.lt_of_le_of_lt (show fvs0.length ≤ 1000000 by rw [List.length_append, List.length_append] at lfv; omega) (by decide), ?_⟩
      refine fin _ _ _ _ _ _ _ _ _ _ Fd _ _ _ (turn_p2 mw) rfl ?_ hl ?_ ⟨tvs0, fvs0 ++ [v], k89.get eT8 (by simpa using TF), pr_imp (fun _ _ x => TaskV.kp x k89) pT8, upd_same, ?_⟩ ((kk8.cons.trans k89).drop nFd) (bd8.kp k89) nFd TF
      · have : i + (cntT td + 1) ≤ 2 * s := hc
        show i + 1 + cntT td ≤ 2 * s
        omega
      · show TOk (C00 L) td (fd.length + 1)
        have : fd.length + 1 + 1 = h + 2 := hn1
        rw [show fd.length + 1 = h + 1 by omega]
        exact r
      · show Trs K _ _ (prim2 w f1 l :: fd).reverse
        rw [List.reverse_cons]
        exact (rF0.keep k89).append (Trs.one (tv9.keep k9b))
    | @pick a b e ps td h ga1 gb1 c r =>
      obtain ⟨A1, vta, vtb, dn, rfl, eA, ta, tb8, ed⟩ := tv8
      match found, hn1, rF8, sf, hc, ht, fin with
      | l :: fd, hn1, rF8, sf, hc, ht, fin =>
      rw [List.reverse_cons] at rF8
      obtain ⟨fvs0, vl, rfl, rF0, tl⟩ := rF8.snoc
      refine ⟨_, rfl, A1, _, _, _, rfl, rfl, SqT.of_tup eA, atI_zero _ _, rfl, _, rfl, ?_⟩
      rw [sSF L2l]
      refine iteF ?_
      refine ⟨_, rfl, A1, _, _, _, rfl, rfl, SqT.of_tup eA, atI_zero _ _, rfl, _, rfl, ?_⟩
      rw [sST rfl]
      refine iteT ?_
      refine ⟨_, rfl, A1, _, _, _, rfl, rfl, SqT.of_tup eA, atI_nat (j := 1) rfl, ?_⟩
      refine ⟨_, rfl, .inl ⟨rfl, _, SqL.of eF8⟩, Fd, _, vl, rfl, rfl, eF8, last_get fvs0 vl, ?_⟩
      rw [List.dropLast_concat]
      have k9 : Keep [Fd] H8 (upd H8 Fd (.lst fvs0)) := Keep.set eF8 (List.mem_cons_self ..)
      have e9 : (upd H8 Fd (.lst fvs0)) Fd = some (.lst fvs0) := upd_same
      generalize upd H8 Fd (.lst fvs0) = H9 at k9 e9
      refine ⟨by show (0 : Nat) ≤ sizeLine; decide, fun T0 nT0 => ?_⟩
      have kT0 : Keep [] H9 (upd H9 T0 (.tup [])) := Keep.new nT0
      have tT0 : Tr K (upd H9 T0 (.tup [])) (.ref T0) (.l []) := tr_tup upd_same trs_nil
      have e10 := kT0.get e9 (by simp)
      generalize upd H9 T0 (.tup []) = H10 at kT0 tT0 e10
      have k810 := k9.trans (kT0.mono (by simp : ∀ x ∈ ([] : List Addr), x ∈ [Fd]))
      have eA10 := k810.tup eA
      have eT10 := k810.get eT8 (by simpa using TF)
      have fin2 : ∀ (z : V) (t' : Tree) (z4 z5 z6 z7 z8 z12 z13 z15 z16 : Option V), Tr K H10 z t' → t' = (if l = .l [] then b else a) →
          ∀ T1, H10 T1 = none → LInv K L H pa ia Db lim (m00 f0 its) (i + 1) [some (.ref pa), some (.ref ia), some (.int (lim : Nat)), some (.ref Db), z4, z5, z6, z7, z8, some (.ref Td), some (.ref Fd), some (.int (s : Nat)), z12, z13, some z, z15, z16] (upd (upd H10 T1 (.tup [.str "eval", z, .ref dn])) Td (.lst (tvs0 ++ [.ref T1]))) := fun z t' z4 z5 z6 z7 z8 z12 z13 z15 z16 tz et T1 nT1 => by
        obtain ⟨p1, p2, p3, p4⟩ := push_todo (o := .tup [.str "eval", z, .ref dn]) eT10 nT1
        generalize upd (upd H10 T1 (.tup [.str "eval", z, .ref dn])) Td (.lst (tvs0 ++ [.ref T1])) = H11 at p2 p3 p4
        have k811 : Keep [Fd, Td] H8 H11 := (k810.mono (by simp)).trans (p2.mono (by simp))
        refine fin _ _ _ _ _ _ _ _ _ _ Fd ⟨.ev (if l = .l [] then b else a) e :: td, fd, s⟩ _ _ turn_pick rfl ?_ hl ?_ ⟨tvs0 ++ [.ref T1], fvs0, p3, ?_, p2.get e10 (by simpa using Ne.symm TF), rF0.keep k811⟩ (((kk8.mono (by simp) : Keep [Fd, Td] H H8).trans k811).drop nFd |>.drop nTd) (bd8.kp k811) nFd TF
        · have : i + (cntT td + 1) ≤ 2 * s := hc
          show i + 1 + cntT td ≤ 2 * s
          omega
        · refine .ev (ps := ps) ?_ c ?_
          · by_cases q : l = .l []
            · rw [if_pos q]; exact gb1
            · rw [if_neg q]; exact ga1
          · have : fd.length + 1 = h + 1 := hn1
            rw [show fd.length = h by omega]
            exact r
        · show Paired _ _ (Task.ev _ e :: td).reverse
          rw [List.reverse_cons, ← et]
          exact pr_snoc (pr_imp (fun _ _ x => TaskV.kp x k811) pT8) ⟨T1, z, dn, rfl, p4, tz.keep p2, ed.kp k811⟩
      refine ⟨l, .l [], tl.keep k810, tT0, Nat.le_trans (Nat.min_le_right ..) (by rw [Og.td, tds]; exact Nat.le_refl _), fun b1 hb1 => ⟨_, rfl, ?_⟩⟩
      cases b1 with
      | true =>
        have el := hb1.mp rfl
        refine iteT ⟨_, rfl, A1, _, _, _, rfl, rfl, SqT.of_tup eA10, atI_nat (j := 2) rfl, ?_⟩
        refine ⟨_, rfl, .inl ⟨rfl, _, SqL.of eT10⟩, _, rfl, _, rfl, A1, _, _, _, rfl, rfl, SqT.of_tup eA10, atI_nat (j := 3) rfl, by show (3 : Nat) ≤ sizeLine; decide, fun T1 nT1 => ?_⟩
        refine ⟨Td, tvs0, _, rfl, rfl, (push_todo (o := .tup [.str "eval", vtb, .ref dn]) eT10 nT1).1, lts0, ?_⟩
        exact fin2 vtb b _ _ _ _ _ _ _ _ _ (tb8.keep k810) (by rw [if_pos el]) T1 nT1
      | false =>
        have el : ¬ l = .l [] := fun h => by cases hb1.mpr h
        refine iteF ?_
        refine ⟨_, rfl, .inl ⟨rfl, _, SqL.of eT10⟩, _, rfl, _, rfl, A1, _, _, _, rfl, rfl, SqT.of_tup eA10, atI_nat (j := 3) rfl, by show (3 : Nat) ≤ sizeLine; decide, fun T1 nT1 => ?_⟩
        refine ⟨Td, tvs0, _, rfl, rfl, (push_todo (o := .tup [.str "eval", vta, .ref dn]) eT10 nT1).1, lts0, ?_⟩
        exact fin2 vta a _ _ _ _ _ _ _ _ _ (ta.keep k810) (by rw [if_neg el]) T1 nT1
    | @call x ps b td h hf r =>
      obtain ⟨A1, rfl, eA⟩ := tv8
      refine ⟨_, rfl, A1, _, _, _, rfl, rfl, SqT.of_tup eA, atI_zero _ _, rfl, _, rfl, ?_⟩
      rw [sSF L3l]
      refine iteF ?_
      refine ⟨_, rfl, A1, _, _, _, rfl, rfl, SqT.of_tup eA, atI_zero _ _, rfl, _, rfl, ?_⟩
      rw [sSF L4l]
      refine iteF ?_
      refine ⟨_, rfl, A1, _, _, _, rfl, rfl, SqT.of_tup eA, atI_zero _ _, rfl, _, rfl, ?_⟩
      rw [sST rfl]
      refine iteT ?_
      obtain ⟨kvs, eD, lk, rel⟩ := id bd8
      obtain ⟨bA, wp, wb, g1, g2, g3, g4⟩ := rel x ps b hf
      have dg : DGet H8 Db (.str (tx x)) (some (.ref bA)) := by
        have := DGet.k (H := H8) (k := (.inr (tx x) : Key)) eD
        rw [g1] at this
        exact this
      refine ⟨_, rfl, _, rfl, A1, _, _, _, rfl, rfl, SqT.of_tup eA, atI_nat (j := 1) rfl, Db, _, rfl, dg, ?_⟩
      refine ⟨bA, _, rfl, SqT.of_tup g2, rfl, _, _, rfl, _, _, rfl, rfl, ?_⟩
      refine fun Dm nDm => ?_
      have kM : Keep [] H8 (upd H8 Dm (.dK [])) := Keep.new nDm
      have eM : (upd H8 Dm (.dK [])) Dm = some (.dK []) := upd_same
      generalize upd H8 Dm (.dK []) = H9 at kM eM
      obtain ⟨wa, wvs, rfl, hW, rW⟩ := g3.list
      have lW := rW.length
      rw [List.length_map] at lW
      have mf := fnOf_mem hf
      obtain ⟨l12, nd12⟩ := ar _ mf
      have l12 : ps.length ≤ 12 := l12
      have nd12 : ps.Nodup := nd12
      have lpf : ps.length ≤ found.length := by omega
      have eargs : found.reverse.drop (found.length - ps.length) = (found.take ps.length).reverse := by
        rw [List.drop_reverse, show found.length - (found.length - ps.length) = ps.length by omega]
      have rargs := rF8.drop (found.length - ps.length)
      rw [eargs] at rargs
      generalize hargs : (found.take ps.length).reverse = args at rargs
      have largs : args.length = ps.length := by rw [← hargs, List.length_reverse, List.length_take]; omega
      refine ⟨_, rfl, wa, wvs, rfl, .inr (kM.sqT hW), _, rfl, by omega, by omega, ?_⟩
      refine for_range (lo := 0) (n := (wvs.length : Int).toNat) (fun j σ H' => ∃ (z8 : Option V), σ = [some (.ref pa), some (.ref ia), some (.int (lim : Nat)), some (.ref Db), y4, some (.ref wa), some wb, some (.ref Dm), z8, some (.ref Td), some (.ref Fd), some (.int (s : Nat)), some (.int (0 + (i : Int))), some (.ref A1), y14, y15, y16] ∧ Keep [] H8 H' ∧ EnvN K H' Dm ((ps.zip args).take j) j)
        ⟨_, rfl, kM, ⟨[], eM, Nat.le_refl _, fun x t h => by cases h⟩⟩ (fun j σ H10 hj p => ?_) (fun σ H10 p => ?_)
      · obtain ⟨z8, rfl, k10, ⟨kvs', eD', lk', rel'⟩⟩ := p
        have jl : j < ps.length := by omega
        have hx : ps[j]? = some ps[j] := List.getElem?_eq_getElem jl
        have ht' : args[j]? = some args[j] := List.getElem?_eq_getElem (by omega)
        obtain ⟨vt, hvt, tt⟩ := rargs.get ht'
        obtain ⟨vx, hvx, tx0⟩ := rW.get (i := j) (t := .w ps[j]) (by rw [List.getElem?_map, hx]; rfl)
        have evx := tx0.word
        subst evx
        generalize ps[j] = x' at hx hvx tx0
        generalize args[j] = t' at ht' tt
        rw [List.getElem?_drop] at hvt
        rw [show (0 : Int) + (j : Int) = (j : Int) by omega]
        have eF10 := k10.get eF8 (by simp)
        refine ⟨_, rfl, _, rfl, Fd, fvs, rfl, .inl (SqL.of eF10), _, rfl, wa, wvs, rfl, .inr (k10.sqT hW), _, _, rfl, rfl, _, rfl, _, _, rfl, rfl, ?_⟩
        refine ⟨Fd, fvs, _, vt, rfl, rfl, SqL.of eF10, ?_, ?_⟩
        · have := atI_nat hvt
          rw [show ((found.length - ps.length + j : Nat) : Int) = (fvs.length : Int) - (wvs.length : Int) + (j : Int) by omega] at this
          exact this
        refine ⟨_, rfl, _, rfl, _, rfl, wa, wvs, _, _, rfl, rfl, k10.sqT hW, atI_nat hvx, ?_⟩
        refine ⟨Dm, _, rfl, DPut.k (k := Sum.inr (tx x')) eD' (Nat.lt_of_le_of_lt (show kvs'.length ≤ 100000 by omega) (by decide)), ?_⟩
        refine ⟨_, rfl, k10.updNew nDm, ?_⟩
        rw [zip_take hx ht']
        exact EnvN.put eD' lk' rel' (zip_fresh nd12 hx) (tt.keep k10)
      obtain ⟨z8, rfl, k10, en'⟩ := p
      rw [show (wvs.length : Int).toNat = wvs.length by omega, List.take_of_length_le (by rw [List.length_zip]; omega)] at en'
      have eF10 := k10.get eF8 (by simp)
      have eT10 := k10.get eT8 (by simp)
      dsimp only [tNoPart]
      refine ⟨_, rfl, _, rfl, Fd, fvs, rfl, .inl (SqL.of eF10), _, rfl, wa, wvs, rfl, .inr (k10.sqT hW), _, _, rfl, rfl, _, rfl, Fd, fvs, rfl, SqL.of eF10, fun Fn nFn => ?_⟩
      have ecut : cutV fvs none (some ((fvs.length : Int) - (wvs.length : Int))) = fvs.take (found.length - ps.length) := by
        rw [show ((fvs.length : Int) - (wvs.length : Int)) = ((found.length - ps.length : Nat) : Int) by omega]
        exact cutL_to fvs (by omega)
      rw [ecut]
      have kFn : Keep [] H10 (upd H10 Fn (.lst (fvs.take (found.length - ps.length)))) := Keep.new nFn
      have eFn : (upd H10 Fn (.lst (fvs.take (found.length - ps.length)))) Fn = some (.lst (fvs.take (found.length - ps.length))) := upd_same
      have TFn : Td ≠ Fn := ne_of_none eT10 nFn
      have eT11 := kFn.get eT10 (by simp)
      generalize upd H10 Fn (.lst (fvs.take (found.length - ps.length))) = H11 at kFn eFn eT11
      have k811 := k10.trans kFn
      have nFn0 : H Fn = none := (kk8.trans k10).free nFn
      refine ⟨_, rfl, .inl ⟨rfl, _, SqL.of eT11⟩, _, rfl, _, rfl, by show (3 : Nat) ≤ sizeLine; decide, fun T1 nT1 => ?_⟩
      obtain ⟨p1, p2, p3, p4⟩ := push_todo (o := .tup [.str "eval", wb, .ref Dm]) eT11 nT1
      refine ⟨Td, tvs0, _, rfl, rfl, p1, lts0, ?_⟩
      generalize upd (upd H11 T1 (.tup [.str "eval", wb, .ref Dm])) Td (.lst (tvs0 ++ [.ref T1])) = H12 at p2 p3 p4
      have k812 : Keep [Td] H8 H12 := (k811.mono (by simp)).trans p2
      have etake : found.reverse.take (found.length - ps.length) = (found.drop ps.length).reverse := by
        rw [List.take_reverse, show found.length - (found.length - ps.length) = ps.length by omega]
      refine fin _ _ _ _ _ _ _ _ _ _ Fn _ _ _ (turn_call hf lpf) rfl ?_ hl ?_ ⟨tvs0 ++ [.ref T1], _, p3, ?_, p2.get eFn (by simpa using Ne.symm TFn), ?_⟩ ((kk8.cons.trans k812).drop nTd) (bd8.kp k812) nFn0 TFn
      · have : i + (cntT td + 1) ≤ 2 * s := hc
        show i + 1 + cntT td ≤ 2 * s
        omega
      · refine .ev (ps := ps) (gd (C00 L) rfl _ mf) (by rw [hargs]; exact cov_zip (by omega)) ?_
        rw [List.length_drop, show found.length - ps.length = h by omega]
        exact r
      · show Paired _ _ (Task.ev _ _ :: td).reverse
        rw [List.reverse_cons, hargs]
        exact pr_snoc (pr_imp (fun _ _ x => TaskV.kp x k812) pT8) ⟨T1, wb, Dm, rfl, p4, g4.keep k812, (en'.d.kp kFn).kp p2⟩
      · show Trs K _ _ (found.drop ps.length).reverse
        rw [← etake]
        exact (rF8.take _).keep k812
    | @ev t e ps td h g c r =>
      obtain ⟨A1, vt, dn, rfl, eA, tt, ed⟩ := tv8
      have ed' := ed
      refine ⟨_, rfl, A1, _, _, _, rfl, rfl, SqT.of_tup eA, atI_zero _ _, rfl, _, rfl, ?_⟩
      rw [sSF L5l]
      refine iteF ?_
      refine ⟨_, rfl, A1, _, _, _, rfl, rfl, SqT.of_tup eA, atI_zero _ _, rfl, _, rfl, ?_⟩
      rw [sSF L6l]
      refine iteF ?_
      refine ⟨_, rfl, A1, _, _, _, rfl, rfl, SqT.of_tup eA, atI_zero _ _, rfl, _, rfl, ?_⟩
      rw [sSF L7l]
      refine iteF ?_
      refine ⟨_, rfl, _, rfl, rfl, _, rfl, ?_⟩
      by_cases es : s = lim
      · rw [dT (by rw [es])]
        refine iteT ⟨by show (1 : Nat) ≤ sizeLine; decide, fun a na => ?_⟩
        exact q _ _ (.inr ⟨i, t, e, td, found, by rw [← es]; exact ht, a, rfl, upd_same⟩) (kk8.newT na)
      rw [dF (show ((s : Nat) : Int) ≠ ((lim : Nat) : Int) by omega)]
      refine iteF ?_
      refine ⟨_, rfl, _, _, rfl, rfl, ?_⟩
      refine ⟨_, rfl, A1, _, _, _, rfl, rfl, SqT.of_tup eA, atI_nat (j := 1) rfl, _, rfl, A1, _, _, _, rfl, rfl, SqT.of_tup eA, atI_nat (j := 2) rfl, _, _, rfl, ?_⟩
      obtain ⟨ty, u, q1, q2, q3⟩ := isi_str tt
      refine ⟨_, rfl, _, _, ty, u, _, rfl, q1, q2, q3, _, rfl, ?_⟩
      have hc' : i + cntT td ≤ 2 * s := hc
      have lfs : fvs.length < sizeLine := Nat.lt_of_le_of_lt (show _ ≤ 1000000 by omega) (by decide)
      -- a value found
      have leaf : ∀ (v : V) (x : Tree) (z4 z5 z6 z7 z8 z12 z13 z14 z15 z16 : Option V), Tr K H8 v x → turn L ⟨.ev t e :: td, found, s⟩ = some ⟨td, x :: found, s + 1⟩ →
          LInv K L H pa ia Db lim (m00 f0 its) (i + 1) [some (.ref pa), some (.ref ia), some (.int (lim : Nat)), some (.ref Db), z4, z5, z6, z7, z8, some (.ref Td), some (.ref Fd), some (.int ((s : Int) + 1)), z12, z13, z14, z15, z16] (upd H8 Fd (.lst (fvs ++ [v]))) := fun v x z4 z5 z6 z7 z8 z12 z13 z14 z15 z16 tv ht' => by
        have k9 : Keep [Fd] H8 (upd H8 Fd (.lst (fvs ++ [v]))) := Keep.set eF8 (List.mem_cons_self ..)
        refine fin _ _ _ _ _ _ _ _ _ _ Fd _ _ _ ht' (by show (s : Int) + 1 = ((s + 1 : Nat) : Int); omega) ?_ (by show s + 1 ≤ lim; omega) ?_ ⟨tvs0, fvs ++ [v], k9.get eT8 (by simpa using TF), pr_imp (fun _ _ x => TaskV.kp x k9) pT8, upd_same, ?_⟩ ((kk8.cons.trans k9).drop nFd) (bd8.kp k9) nFd TF
        · show i + 1 + cntT td ≤ 2 * (s + 1)
          omega
        · show TOk (C00 L) td (found.length + 1)
          rw [hn1]
          exact r
        · show Trs K _ _ (x :: found).reverse
          rw [List.reverse_cons]
          exact (rF8.keep k9).append (Trs.one (tv.keep k9))
      cases g with
      | @w x j hj =>
        obtain ⟨v, hv⟩ := c x (at_mem hj)
        obtain ⟨kvs, eN, rel⟩ := ed'
        obtain ⟨vv, h1, h2⟩ := rel x v hv
        have ev := tt.word
        subst ev
        have dg : DGet H8 dn (.str (tx x)) (some vv) := by
          have := DGet.k (H := H8) (k := (.inr (tx x) : Key)) eN
          rw [h1] at this
          exact this
        refine iteT ⟨_, rfl, .inl ⟨rfl, _, SqL.of eF8⟩, _, rfl, _, rfl, dn, _, rfl, dg, Fd, fvs, _, rfl, rfl, eF8, lfs, ?_⟩
        exact leaf vv v _ _ _ _ _ _ _ _ _ _ h2 (turn_word hv)
      | @q v =>
        obtain ⟨wa, wvs, rfl, hW, rW⟩ := tt.list
        obtain ⟨w0, r0, rfl, h0, rW1⟩ := rW.cons
        obtain ⟨w1, r1, rfl, h1, rW2⟩ := rW1.cons
        have e0 := h0.word
        subst e0
        refine iteF ?_
        refine ⟨_, rfl, wa, _, _, _, rfl, rfl, hW, atI_zero _ _, rfl, _, rfl, ?_⟩
        rw [show ("quote" : Str) = tx qw by decide +kernel, sT rfl]
        refine iteT ⟨_, rfl, .inl ⟨rfl, _, SqL.of eF8⟩, _, rfl, wa, _, _, _, rfl, rfl, hW, atI_nat (j := 1) rfl, Fd, fvs, _, rfl, rfl, eF8, lfs, ?_⟩
        exact leaf w1 v _ _ _ _ _ _ _ _ _ _ h1 turn_quote
      | @iff t1 y z gt1 gy gz =>
        obtain ⟨wa, wvs, rfl, hW, rW⟩ := tt.list
        obtain ⟨w0, r0, rfl, h0, rW1⟩ := rW.cons
        obtain ⟨w1, r1, rfl, h1, rW2⟩ := rW1.cons
        obtain ⟨w2, r2, rfl, h2, rW3⟩ := rW2.cons
        obtain ⟨w3, r3, rfl, h3, rW4⟩ := rW3.cons
        have e0 := h0.word
        subst e0
        refine iteF ?_
        refine ⟨_, rfl, wa, _, _, _, rfl, rfl, hW, atI_zero _ _, rfl, _, rfl, ?_⟩
        rw [show ("quote" : Str) = tx qw by decide +kernel, sF (show ifW ≠ qw by decide)]
        refine iteF ?_
        refine ⟨_, rfl, wa, _, _, _, rfl, rfl, hW, atI_zero _ _, rfl, _, rfl, ?_⟩
        rw [sST (show (tx ifW : Str) = "if" by decide +kernel)]
        refine iteT ?_
        refine ⟨_, rfl, .inl ⟨rfl, _, SqL.of eT8⟩, _, rfl, wa, _, _, _, rfl, rfl, hW, atI_nat (j := 2) rfl, _, rfl, wa, _, _, _, rfl, rfl, hW, atI_nat (j := 3) rfl, _, rfl, by show (4 : Nat) ≤ sizeLine; decide, fun T1 nT1 => ?_⟩
        obtain ⟨p1, p2, p3, p4⟩ := push_todo (o := .tup [.str "if", w2, w3, .ref dn]) eT8 nT1
        refine ⟨Td, tvs0, _, rfl, rfl, p1, lts0, ?_⟩
        generalize upd (upd H8 T1 (.tup [.str "if", w2, w3, .ref dn])) Td (.lst (tvs0 ++ [.ref T1])) = H9 at p2 p3 p4
        refine ⟨_, rfl, .inl ⟨rfl, _, SqL.of p3⟩, _, rfl, wa, _, _, _, rfl, rfl, p2.sqT hW, atI_nat (j := 1) rfl, _, rfl, by show (3 : Nat) ≤ sizeLine; decide, fun T2 nT2 => ?_⟩
        obtain ⟨r1', r2', r3', r4'⟩ := push_todo (o := .tup [.str "eval", w1, .ref dn]) p3 nT2
        refine ⟨Td, _, _, rfl, rfl, r1', Nat.lt_of_le_of_lt (show _ ≤ 1000001 by rw [List.length_append, List.length_singleton]; omega) (by decide), ?_⟩
        generalize upd (upd H9 T2 (.tup [.str "eval", w1, .ref dn])) Td (.lst (tvs0 ++ [.ref T1] ++ [.ref T2])) = H10 at r2' r3' r4'
        have k810 := p2.trans r2'
        refine fin _ _ _ _ _ _ _ _ _ _ Fd _ _ _ turn_if (by show (s : Int) + 1 = ((s + 1 : Nat) : Int); omega) ?_ (by show s + 1 ≤ lim; omega) (.ev gt1 c (.pick gy gz c (by rw [hn1]; exact r))) ⟨_, fvs, r3', ?_, k810.get eF8 (by simpa using Ne.symm TF), rF8.keep k810⟩ ((kk8.cons.trans k810).drop nTd) (bd8.kp k810) nFd TF
        · show i + 1 + (cntT td + 1) ≤ 2 * (s + 1)
          omega
        · show Paired _ _ (Task.ev t1 e :: Task.pick y z e :: td).reverse
          rw [List.reverse_cons, List.reverse_cons]
          exact pr_snoc (pr_snoc (pr_imp (fun _ _ x => TaskV.kp x k810) pT8) ⟨T1, w2, w3, dn, rfl, r2'.tup p4, h2.keep k810, h3.keep k810, ed.kp k810⟩) ⟨T2, w1, dn, rfl, r4', h1.keep k810, ed.kp k810⟩
      | @op x ts n1' n2' ok gs =>
        obtain ⟨wa, wvs, rfl, hW, rW⟩ := tt.list
        obtain ⟨w0, r0, rfl, h0, rW1⟩ := rW.cons
        have e0 := h0.word
        subst e0
        have lr0 := rW1.length
        have l12 : ts.length ≤ 12 := op_ar (C := C00 L) (fun f mf => (ar f mf).1) ok
        refine iteF ?_
        refine ⟨_, rfl, wa, _, _, _, rfl, rfl, hW, atI_zero _ _, rfl, _, rfl, ?_⟩
        rw [show ("quote" : Str) = tx qw by decide +kernel, sF n1']
        refine iteF ?_
        refine ⟨_, rfl, wa, _, _, _, rfl, rfl, hW, atI_zero _ _, rfl, _, rfl, ?_⟩
        rw [show ("if" : Str) = tx ifW by decide +kernel, sF n2']
        refine iteF ?_
        refine ⟨_, rfl, wa, _, _, _, rfl, rfl, hW, atI_zero _ _, by show (5 : Nat) ≤ sizeLine; decide, fun l1 nl1 => ?_⟩
        rw [primWs_v]
        have kl : Keep [] H8 (upd H8 l1 (.lst (primWs.map fun c => V.str (tx c)))) := Keep.new nl1
        refine ⟨l1, _, rfl, .inl (SqL.of upd_same), rfl, by decide +kernel, _, rfl, ?_⟩
        rw [show (if (false : Bool) = true then !inV (V.str (tx x)) (primWs.map fun c => V.str (tx c)) else inV (V.str (tx x)) (primWs.map fun c => V.str (tx c))) = decide (x ∈ primWs) from inV_strsW x primWs]
        have eT9 := kl.get eT8 (by simp)
        have eF9 := kl.get eF8 (by simp)
        have hW9 := kl.sqT hW
        generalize upd H8 l1 (.lst (primWs.map fun c => V.str (tx c))) = H9 at kl eT9 eF9 hW9
        by_cases mx : x ∈ primWs
        · rw [decide_eq_true mx]
          refine iteT ?_
          have okT : ∀ (G : Hp) (a : Addr), G a = some (.tup [.str "do", .str (tx x)]) → TaskV K G (.ref a) (opTask x) := fun G a ea => by
            unfold opTask
            rw [if_pos (show x ∈ [sameW, wordW, headW, tailW, joinW] from mx)]
            exact ⟨a, rfl, ea⟩
          refine ⟨_, rfl, .inl ⟨rfl, _, SqL.of eT9⟩, _, rfl, _, rfl, wa, _, _, _, rfl, rfl, hW9, atI_zero _ _, by show (2 : Nat) ≤ sizeLine; decide, fun T1 nT1 => ?_⟩
          obtain ⟨p1, p2, p3, p4⟩ := push_todo (o := .tup [.str "do", .str (tx x)]) eT9 nT1
          refine ⟨Td, tvs0, _, rfl, rfl, p1, lts0, ?_⟩
          generalize upd (upd H9 T1 (.tup [.str "do", .str (tx x)])) Td (.lst (tvs0 ++ [.ref T1])) = H10 at p2 p3 p4
          have k810 : Keep [Td] H8 H10 := (kl.mono (by simp)).trans p2
          refine ⟨_, rfl, wa, _, rfl, .inr (k810.sqT hW), _, _, rfl, rfl, _, rfl, by rw [List.length_cons]; omega, by rw [List.length_cons]; omega, ?_⟩
          refine for_range (lo := 0) (n := (((V.str (tx x) :: r0).length : Int) - 1).toNat) (fun j σ H' => ∃ (z8 : Option V) (tvs : List V), σ = [some (.ref pa), some (.ref ia), some (.int (lim : Nat)), some (.ref Db), y4, y5, y6, some (.ref dn), z8, some (.ref Td), some (.ref Fd), some (.int ((s : Int) + 1)), some (.int (0 + (i : Int))), some (.ref A1), y14, some (.ref wa), some (.str "do")] ∧ Keep [Td] H8 H' ∧ H' Td = some (.lst tvs) ∧ Paired (TaskV K H') tvs (td.reverse ++ [opTask x] ++ ((ts.drop (ts.length - j)).map fun t => Task.ev t e).reverse))
            ⟨_, _, rfl, k810, p3, by
              rw [Nat.sub_zero, List.drop_length, List.map_nil, List.reverse_nil, List.append_nil]
              exact pr_snoc (pr_imp (fun _ _ x => TaskV.kp x k810) pT8) (okT _ _ p4)⟩ (fun j σ H11 hj p => ?_) (fun σ H11 p => ?_)
          · obtain ⟨z8, tvs, rfl, k11, eT11, pT11⟩ := p
            have jl : j < ts.length := by rw [List.length_cons] at hj; omega
            have il : ts.length - 1 - j < ts.length := by omega
            have hg : ts[ts.length - 1 - j]? = some ts[ts.length - 1 - j] := List.getElem?_eq_getElem il
            have dr : ts.drop (ts.length - (j + 1)) = ts[ts.length - 1 - j] :: ts.drop (ts.length - j) := by
              rw [show ts.length - (j + 1) = ts.length - 1 - j by omega, List.drop_eq_getElem_cons il, show ts.length - 1 - j + 1 = ts.length - j by omega]
            generalize ts[ts.length - 1 - j] = t2 at hg dr
            obtain ⟨w2, hw2, tt2⟩ := rW1.get hg
            have lt11 := pr_len pT11
            rw [List.length_append, List.length_append, List.length_reverse, List.length_reverse, List.length_map, List.length_drop, List.length_singleton] at lt11
            have ltd : td.length ≤ 1000000 := by rw [List.length_cons] at sf1; omega
            refine ⟨_, rfl, .inl ⟨rfl, _, SqL.of eT11⟩, _, rfl, _, rfl, wa, _, rfl, .inr (k11.sqT hW), _, _, rfl, rfl, _, rfl, _, _, rfl, rfl, wa, _, _, w2, rfl, rfl, k11.sqT hW, ?_, ?_⟩
            · have := atI_nat (xs := V.str (tx x) :: r0) (j := ts.length - 1 - j + 1) (v := w2) (by rw [List.getElem?_cons_succ]; exact hw2)
              rw [show ((ts.length - 1 - j + 1 : Nat) : Int) = ((V.str (tx x) :: r0).length : Int) - 1 - (0 + (j : Int)) by rw [List.length_cons]; omega] at this
              exact this
            refine ⟨_, rfl, by show (3 : Nat) ≤ sizeLine; decide, fun T2 nT2 => ?_⟩
            obtain ⟨r1', r2', r3', r4'⟩ := push_todo (o := .tup [.str "eval", w2, .ref dn]) eT11 nT2
            refine ⟨Td, _, _, rfl, rfl, r1', Nat.lt_of_le_of_lt (show _ ≤ 1000020 by omega) (by decide), ?_⟩
            generalize upd (upd H11 T2 (.tup [.str "eval", w2, .ref dn])) Td (.lst (tvs ++ [.ref T2])) = H12 at r2' r3' r4'
            refine ⟨_, _, rfl, k11.trans r2', r3', ?_⟩
            rw [dr, List.map_cons, List.reverse_cons, ← List.append_assoc]
            exact pr_snoc (pr_imp (fun _ _ x => TaskV.kp x r2') pT11) ⟨T2, w2, dn, rfl, r4', tt2.keep (k11.trans r2'), ed.kp (k11.trans r2')⟩
          · obtain ⟨z8, tvs, rfl, k11, eT11, pT11⟩ := p
            rw [show (((V.str (tx x) :: r0).length : Int) - 1).toNat = ts.length by rw [List.length_cons]; omega, Nat.sub_self, List.drop_zero] at pT11
            refine fin _ _ _ _ _ _ _ _ _ _ Fd _ _ _ (turn_op n1' n2') (by show (s : Int) + 1 = ((s + 1 : Nat) : Int); omega) ?_ (by show s + 1 ≤ lim; omega) (tok_evs c gs (tok_op ok (by rw [hn1]; exact r))) ⟨tvs, fvs, eT11, ?_, k11.get eF8 (by simpa using Ne.symm TF), rF8.keep k11⟩ ((kk8.cons.trans k11).drop nTd) (bd8.kp k11) nFd TF
            · have cc : cntT (opTask x :: td) = cntT td + 1 := by
                unfold opTask
                rw [if_pos (show x ∈ [sameW, wordW, headW, tailW, joinW] from mx)]
                rfl
              show i + 1 + cntT (_ ++ _) ≤ 2 * (s + 1)
              rw [cnt_evs, cc]
              omega
            · show Paired _ _ (_ ++ opTask x :: td).reverse
              rw [List.reverse_append, List.reverse_cons]
              exact pT11
        · rw [decide_eq_false mx]
          refine iteF ?_
          have okT : ∀ (G : Hp) (a : Addr), G a = some (.tup [.str "call", .str (tx x)]) → TaskV K G (.ref a) (opTask x) := fun G a ea => by
            unfold opTask
            rw [if_neg (show ¬ x ∈ [sameW, wordW, headW, tailW, joinW] from mx)]
            exact ⟨a, rfl, ea⟩
          refine ⟨_, rfl, .inl ⟨rfl, _, SqL.of eT9⟩, _, rfl, _, rfl, wa, _, _, _, rfl, rfl, hW9, atI_zero _ _, by show (2 : Nat) ≤ sizeLine; decide, fun T1 nT1 => ?_⟩
          obtain ⟨p1, p2, p3, p4⟩ := push_todo (o := .tup [.str "call", .str (tx x)]) eT9 nT1
          refine ⟨Td, tvs0, _, rfl, rfl, p1, lts0, ?_⟩
          generalize upd (upd H9 T1 (.tup [.str "call", .str (tx x)])) Td (.lst (tvs0 ++ [.ref T1])) = H10 at p2 p3 p4
          have k810 : Keep [Td] H8 H10 := (kl.mono (by simp)).trans p2
          refine ⟨_, rfl, wa, _, rfl, .inr (k810.sqT hW), _, _, rfl, rfl, _, rfl, by rw [List.length_cons]; omega, by rw [List.length_cons]; omega, ?_⟩
          refine for_range (lo := 0) (n := (((V.str (tx x) :: r0).length : Int) - 1).toNat) (fun j σ H' => ∃ (z8 : Option V) (tvs : List V), σ = [some (.ref pa), some (.ref ia), some (.int (lim : Nat)), some (.ref Db), y4, y5, y6, some (.ref dn), z8, some (.ref Td), some (.ref Fd), some (.int ((s : Int) + 1)), some (.int (0 + (i : Int))), some (.ref A1), y14, some (.ref wa), some (.str "call")] ∧ Keep [Td] H8 H' ∧ H' Td = some (.lst tvs) ∧ Paired (TaskV K H') tvs (td.reverse ++ [opTask x] ++ ((ts.drop (ts.length - j)).map fun t => Task.ev t e).reverse))
            ⟨_, _, rfl, k810, p3, by
              rw [Nat.sub_zero, List.drop_length, List.map_nil, List.reverse_nil, List.append_nil]
              exact pr_snoc (pr_imp (fun _ _ x => TaskV.kp x k810) pT8) (okT _ _ p4)⟩ (fun j σ H11 hj p => ?_) (fun σ H11 p => ?_)
          · obtain ⟨z8, tvs, rfl, k11, eT11, pT11⟩ := p
            have jl : j < ts.length := by rw [List.length_cons] at hj; omega
            have il : ts.length - 1 - j < ts.length := by omega
            have hg : ts[ts.length - 1 - j]? = some ts[ts.length - 1 - j] := List.getElem?_eq_getElem il
            have dr : ts.drop (ts.length - (j + 1)) = ts[ts.length - 1 - j] :: ts.drop (ts.length - j) := by
              rw [show ts.length - (j + 1) = ts.length - 1 - j by omega, List.drop_eq_getElem_cons il, show ts.length - 1 - j + 1 = ts.length - j by omega]
            generalize ts[ts.length - 1 - j] = t2 at hg dr
            obtain ⟨w2, hw2, tt2⟩ := rW1.get hg
            have lt11 := pr_len pT11
            rw [List.length_append, List.length_append, List.length_reverse, List.length_reverse, List.length_map, List.length_drop, List.length_singleton] at lt11
            have ltd : td.length ≤ 1000000 := by rw [List.length_cons] at sf1; omega
            refine ⟨_, rfl, .inl ⟨rfl, _, SqL.of eT11⟩, _, rfl, _, rfl, wa, _, rfl, .inr (k11.sqT hW), _, _, rfl, rfl, _, rfl, _, _, rfl, rfl, wa, _, _, w2, rfl, rfl, k11.sqT hW, ?_, ?_⟩
            · have := atI_nat (xs := V.str (tx x) :: r0) (j := ts.length - 1 - j + 1) (v := w2) (by rw [List.getElem?_cons_succ]; exact hw2)
              rw [show ((ts.length - 1 - j + 1 : Nat) : Int) = ((V.str (tx x) :: r0).length : Int) - 1 - (0 + (j : Int)) by rw [List.length_cons]; omega] at this
              exact this
            refine ⟨_, rfl, by show (3 : Nat) ≤ sizeLine; decide, fun T2 nT2 => ?_⟩
            obtain ⟨r1', r2', r3', r4'⟩ := push_todo (o := .tup [.str "eval", w2, .ref dn]) eT11 nT2
            refine ⟨Td, _, _, rfl, rfl, r1', Nat.lt_of_le_of_lt (show _ ≤ 1000020 by omega) (by decide), ?_⟩
            generalize upd (upd H11 T2 (.tup [.str "eval", w2, .ref dn])) Td (.lst (tvs ++ [.ref T2])) = H12 at r2' r3' r4'
            refine ⟨_, _, rfl, k11.trans r2', r3', ?_⟩
            rw [dr, List.map_cons, List.reverse_cons, ← List.append_assoc]
            exact pr_snoc (pr_imp (fun _ _ x => TaskV.kp x r2') pT11) ⟨T2, w2, dn, rfl, r4', tt2.keep (k11.trans r2'), ed.kp (k11.trans r2')⟩
          · obtain ⟨z8, tvs, rfl, k11, eT11, pT11⟩ := p
            rw [show (((V.str (tx x) :: r0).length : Int) - 1).toNat = ts.length by rw [List.length_cons]; omega, Nat.sub_self, List.drop_zero] at pT11
            refine fin _ _ _ _ _ _ _ _ _ _ Fd _ _ _ (turn_op n1' n2') (by show (s : Int) + 1 = ((s + 1 : Nat) : Int); omega) ?_ (by show s + 1 ≤ lim; omega) (tok_evs c gs (tok_op ok (by rw [hn1]; exact r))) ⟨tvs, fvs, eT11, ?_, k11.get eF8 (by simpa using Ne.symm TF), rF8.keep k11⟩ ((kk8.cons.trans k11).drop nTd) (bd8.kp k11) nFd TF
            · have cc : cntT (opTask x :: td) = cntT td + 1 := by
                unfold opTask
                rw [if_neg (show ¬ x ∈ [sameW, wordW, headW, tailW, joinW] from mx)]
                rfl
              show i + 1 + cntT (_ ++ _) ≤ 2 * (s + 1)
              rw [cnt_evs, cc]
              omega
            · show Paired _ _ (_ ++ opTask x :: td).reverse
              rw [List.reverse_append, List.reverse_cons]
              exact pT11
end
end Og

namespace Og
open PySem PySem.Spec PyProof.Rows L2
/-! ### good programs and the machine -/
def wOf : Tree → List Nat
  | .w x => x
  | .l _ => []
def wsOf (ps : List Tree) : List (List Nat) := ps.map wOf
def toF0 (f : Fn) : Fn0 := (f.1, wsOf f.2.1, f.2.2)
theorem wsOf_back {ps : List Tree} (h : ∀ t ∈ ps, t.isW = true) : (wsOf ps).map Tree.w = ps := by
  unfold wsOf
  rw [List.map_map]
  refine (List.map_congr_left fun t m => ?_).trans (List.map_id ps)
  cases t with
  | w x => rfl
  | l us => have := h _ m; cases this
theorem wsOf_ws (L : List (List Nat)) : wsOf (L.map Tree.w) = L := by
  unfold wsOf
  rw [List.map_map]
  exact (List.map_congr_left fun t m => rfl).trans (List.map_id L)
theorem GoodPs.isW {ps : List Tree} (h : GoodPs ps) : ∀ t ∈ ps, t.isW = true := fun t m => by
  obtain ⟨i, e⟩ := List.getElem?_of_mem m
  obtain ⟨x, rfl, _⟩ := h.2 i t e
  rfl
theorem GoodPs.nodup {ps : List Tree} (h : GoodPs ps) : (wsOf ps).Nodup := by
  unfold List.Nodup
  rw [List.pairwise_iff_getElem]
  intro i j li lj lij e
  unfold wsOf at e li lj
  rw [List.length_map] at lj li
  rw [List.getElem_map, List.getElem_map] at e
  obtain ⟨x, ex, _, no⟩ := h.2 j ps[j] (List.getElem?_eq_getElem lj)
  obtain ⟨y, ey, _⟩ := h.2 i ps[i] (List.getElem?_eq_getElem li)
  rw [ex, ey] at e
  have e : y = x := e
  exact no i lij (by rw [List.getElem?_eq_getElem li, ey, e])
theorem toF0_tree {f : Fn} (h : ∀ t ∈ f.2.1, t.isW = true) : fnTree (toF0 f) = fnt f := by
  show Tree.l [.w f.1, .l ((wsOf f.2.1).map Tree.w), f.2.2] = _
  rw [wsOf_back h]
  rfl
theorem map_toF0 {L : List Fn} (h : ∀ f ∈ L, ∀ t ∈ f.2.1, t.isW = true) : (L.map toF0).map fnTree = L.map fnt := by
  rw [List.map_map]
  exact List.map_congr_left fun f m => toF0_tree (h f m)
theorem GoodL.map0 {L : List Fn} (h : GoodL L) : (L.map toF0).map fnTree = L.map fnt := map_toF0 fun f m => (h.ps f m).isW
theorem names0 (L : List Fn) : (L.map toF0).map (·.1) = L.map (·.1) := by rw [List.map_map]; rfl
theorem fnOf_get {L : List Fn} (nd : (L.map (·.1)).Nodup) {f : Fn} (m : f ∈ L) : fnOf (L.map toF0) f.1 = some (wsOf f.2.1, f.2.2) := by
  induction L with
  | nil => cases m
  | cons g L ih =>
    rw [List.map_cons, List.nodup_cons] at nd
    show (List.find? _ (toF0 g :: L.map toF0)).map _ = _
    rw [List.find?_cons]
    rcases List.mem_cons.mp m with e | m
    · subst e
      rw [show decide ((toF0 f).1 = f.1) = true from decide_eq_true rfl]
      rfl
    · have ne : g.1 ≠ f.1 := fun e => nd.1 (by rw [e]; exact List.mem_map.mpr ⟨f, m, rfl⟩)
      rw [show decide ((toF0 g).1 = f.1) = false from decide_eq_false ne]
      exact ih nd.2 m
theorem arity_fn : ∀ {L : List Fn0} {x : List Nat} {n : Nat}, arity (L.map fnTree) x = some n → ∃ ps b, fnOf L x = some (ps, b) ∧ ps.length = n
  | [], x, n, h => by cases h
  | g :: L, x, n, h => by
    rw [List.map_cons, arity, show fn? (fnTree g) = some (g.1, g.2.1.map Tree.w, g.2.2) from rfl] at h
    have h : (if g.1 = x then some (g.2.1.map Tree.w).length else arity (L.map fnTree) x) = some n := h
    unfold fnOf
    rw [List.find?_cons]
    by_cases e : g.1 = x
    · rw [if_pos e, List.length_map] at h
      rw [decide_eq_true e]
      exact ⟨g.2.1, g.2.2, rfl, Option.some.inj h⟩
    · rw [if_neg e] at h
      rw [decide_eq_false e]
      exact arity_fn (L := L) h
theorem spAr_two {x : List Nat} {n : Nat} (h : spAr x = some n) (n1 : x ≠ qw) (n2 : x ≠ ifW) : (x ∈ [wordW, headW, tailW] ∧ n = 1) ∨ (x ∈ [sameW, joinW] ∧ n = 2) := by
  unfold spAr at h
  cases q : specials.find? (fun p => decide (p.1 = x)) with
  | none => rw [q] at h; cases h
  | some p =>
    rw [q] at h
    have m := List.mem_of_find?_eq_some q
    have e' := List.find?_some q
    have e := of_decide_eq_true e'
    have e2 : p.2 = n := Option.some.inj h
    simp only [specials, List.mem_cons, List.not_mem_nil, or_false] at m
    rcases m with rfl | rfl | rfl | rfl | rfl | rfl | rfl
    · exact absurd e.symm n1
    · exact absurd e.symm n2
    · exact .inr ⟨by rw [← e]; simp [sameW], e2.symm⟩
    · exact .inl ⟨by rw [← e]; simp [wordW], e2.symm⟩
    · exact .inl ⟨by rw [← e]; simp [headW], e2.symm⟩
    · exact .inl ⟨by rw [← e]; simp [tailW], e2.symm⟩
    · exact .inr ⟨by rw [← e]; simp [joinW], e2.symm⟩
theorem three_l {ts : List Tree} (h : ts.length = 3) : ∃ a b c, ts = [a, b, c] := by
  match ts, h with
  | [a, b, c], _ => exact ⟨a, b, c, rfl⟩
theorem gx_good {C : Cx0} {ps : List (List Nat)} : ∀ (n : Nat) (t : Tree), t.size ≤ n → GoodE (C.fns.map fnTree) (ps.map Tree.w) t → GX C ps t
  | _, .w x, _, h => by
    rw [goodE_w] at h
    obtain ⟨y, m, e⟩ := List.mem_map.mp h
    cases e
    obtain ⟨j, _, hj⟩ := at_ex m
    exact .w hj
  | 0, .l ts, l, _ => by rw [size_l] at l; omega
  | n + 1, .l ts, l, h => by
    obtain ⟨⟨x, r, rfl, hp⟩, hr⟩ := goodE_l.mp h
    rw [size_l, sizes_cons] at l
    by_cases h1 : x = qw
    · subst h1
      have hp : some 1 = some r.length := by
        unfold parts at hp
        rw [show spAr qw = some 1 by decide +kernel] at hp
        exact hp
      match r, Option.some.inj hp with
      | [v], _ => exact .q
    · have all : ∀ t ∈ r, GX C ps t := fun t m => by
        rcases hr with hr | hr
        · exact absurd (Tree.w.inj (Option.some.inj hr)) h1
        · have : t.size ≤ sizes r := by
            obtain ⟨i, e⟩ := List.getElem?_of_mem m
            exact size_of_get e
          rw [size_w] at l
          exact gx_good n t (by omega) (hr t m)
      by_cases h2 : x = ifW
      · subst h2
        have hp : some 3 = some r.length := by
          unfold parts at hp
          rw [show spAr ifW = some 3 by decide +kernel] at hp
          exact hp
        obtain ⟨a, b, c, rfl⟩ := three_l (Option.some.inj hp).symm
        exact .iff (all a (by simp)) (all b (by simp)) (all c (by simp))
      · refine .op h1 h2 ?_ all
        unfold parts at hp
        cases q : spAr x with
        | some k =>
          rw [q] at hp
          have hp : some k = some r.length := hp
          rcases spAr_two q h1 h2 with ⟨m, e⟩ | ⟨m, e⟩
          · exact .inl ⟨m, by rw [← Option.some.inj hp, e]⟩
          · exact .inr (.inl ⟨m, by rw [← Option.some.inj hp, e]⟩)
        | none =>
          rw [q] at hp
          obtain ⟨ps', b, h3, h4⟩ := arity_fn hp
          exact .inr (.inr ⟨q, ps', b, h3, h4⟩)
theorem GoodL.gd {L : List Fn} (h : GoodL L) : GdP (L.map toF0) := fun C e f m => by
  obtain ⟨g, mg, rfl⟩ := List.mem_map.mp m
  refine gx_good _ _ (Nat.le_refl _) ?_
  show GoodE (C.fns.map fnTree) ((wsOf g.2.1).map Tree.w) g.2.2
  rw [e, h.map0, wsOf_back (h.ps g mg).isW]
  exact h.ex g mg _ h.calls
theorem GoodL.ar {L : List Fn} (h : GoodL L) : ∀ f ∈ L.map toF0, f.2.1.length ≤ 12 ∧ f.2.1.Nodup := fun f m => by
  obtain ⟨g, mg, rfl⟩ := List.mem_map.mp m
  refine ⟨?_, (h.ps g mg).nodup⟩
  show (wsOf g.2.1).length ≤ 12
  unfold wsOf
  rw [List.length_map]
  exact (h.ps g mg).1
/-! ### what a list of words is worth -/
theorem look_zip_mem : ∀ {ps : List (List Nat)} {ts : List Tree} {x : List Nat} {t : Tree}, ps.Nodup → (x, t) ∈ ps.zip ts → look (ps.zip ts) x = some t
  | [], _, _, _, _, m => by simp at m
  | _ :: _, [], _, _, _, m => by simp at m
  | p :: ps, u :: ts, x, t, nd, m => by
    rw [List.nodup_cons] at nd
    rw [List.zip_cons_cons] at m
    unfold look
    rw [List.zip_cons_cons, List.find?_cons]
    rcases List.mem_cons.mp m with e | m
    · have e1 : p = x := (Prod.mk.inj e).1.symm
      have e2 : u = t := (Prod.mk.inj e).2.symm
      rw [show decide ((p, u).1 = x) = true from decide_eq_true e1, ← e2]
      rfl
    · have mp := (List.of_mem_zip m).1
      have ne : p ≠ x := fun e => nd.1 (by rw [e]; exact mp)
      rw [show decide ((p, u).1 = x) = false from decide_eq_false ne]
      exact look_zip_mem nd.2 m
theorem bigs_words {L : List Fn0} {e : Env} : ∀ {ps : List (List Nat)} {xs : List Tree}, ps.length = xs.length → (∀ x t, (x, t) ∈ ps.zip xs → look e x = some t) → Bigs L (ps.map Tree.w) e xs xs.length
  | [], [], _, _ => .nil
  | p :: ps, x :: xs, l, h => by
    have r := bigs_words (L := L) (e := e) (ps := ps) (xs := xs) (by rw [List.length_cons, List.length_cons] at l; omega) fun y t m => h y t (by rw [List.zip_cons_cons]; exact List.mem_cons_of_mem _ m)
    have := Bigs.cons (Big.w (L := L) (h p x (by rw [List.zip_cons_cons]; exact List.mem_cons_self ..))) r
    rw [List.length_cons, Nat.add_comm]
    exact this
theorem big_join {L : List Fn0} {e : Env} {a b f : Tree} {ts : List Tree} {n1 n2 n : Nat} (h1 : Big L a e f n1) (h2 : Big L b e (.l ts) n2) (hn : 1 + n1 + n2 = n) : Big L (.l [.w joinw, a, b]) e (.l (f :: ts)) n := by
  have := Big.two (x := joinW) (by simp) h1 h2
  rw [prim2_join, hn] at this
  exact this
theorem big_q {L : List Fn0} {e : Env} {t : Tree} : Big L (qT t) e t 1 := .q
/-- the text that know_own's main function makes -/
theorem big_tof {L : List Fn0} {e : Env} {n : Nat} {ps R : List Tree} (hs : look e sw = some (.l R)) : Big L (tofT n ps) e (.l (.l [.w (madeN (n + 1)), .l ps, .l (.w (madeN n) :: .l [.w qw, .l R] :: ps)] :: R)) 17 := by
  have s : Big L (.w sw) e (.l R) 1 := .w hs
  have z : Big L (lsT []) e (.l []) 1 := .q
  have qd : Big L (lsT [qT (.w qw), .w sw]) e (.l [.w qw, .l R]) 5 := big_join big_q (big_join s z rfl) rfl
  have c : Big L (.l [.w joinw, qT (.w (madeN n)), .l [.w joinw, lsT [qT (.w qw), .w sw], qT (.l ps)]]) e (.l (.w (madeN n) :: .l [.w qw, .l R] :: ps)) 9 := big_join big_q (big_join qd big_q rfl) rfl
  exact big_join (big_join big_q (big_join big_q (big_join c z rfl) rfl) rfl) s rfl
theorem sw_mps (k : Nat) : (sw :: mps k).Nodup := List.nodup_cons.mpr ⟨fun m => (by
  obtain ⟨i, _, e⟩ := mps_mem m
  cases (List.cons.inj e).1), mps_nodup k⟩
theorem wsOf_kps (k : Nat) : wsOf (kpsT k) = sw :: mps k := by
  show wOf (.w sw) :: wsOf ((mps k).map Tree.w) = _
  rw [wsOf_ws]
  rfl
/-- the run of know_own's program: that of the given one on the program's text, in 2k + 20 steps more -/
theorem big_know {L : List Fn} {f0 : Fn} {k : Nat} (g : GoodL (knowL L k)) (e0 : L[0]? = some f0) (ln : f0.2.1.length = k + 1) {xs : List Tree} (lx : xs.length = k) {v : Tree} {n : Nat}
    (hb : Big ((knowL L k).map toF0) (ren (sig (L.map (·.1)) 0) f0.2.2) ((wsOf f0.2.1).zip (.l ((knowL L k).map fnt) :: xs)) v n) :
    Big ((knowL L k).map toF0) (fillB (madeN L.length) (.l ((knowR L k).map fnt)) k) ((mps k).zip xs) v (n + (2 * k + 20)) := by
  have eM : knowL L k = (madeN (L.length + 1), mpsT k, fillB (madeN L.length) (.l ((knowR L k).map fnt)) k) :: knowR L k := by
    unfold knowL fillL
    rw [knowR_len]
  have eR : knowR L k = (madeN L.length, kpsT k, kbody L.length k) :: renL L 0 := by
    unfold knowR
    rw [fronted_cons, sides_one, renL_len]
  have mR : (madeN L.length, kpsT k, kbody L.length k) ∈ knowL L k := by rw [eM, eR]; simp
  have m0 : renF (L.map (·.1)) 0 f0 ∈ knowL L k := by
    rw [eM, eR]
    refine List.mem_cons_of_mem _ (List.mem_cons_of_mem _ ?_)
    unfold renL
    exact List.mem_map.mpr ⟨f0, List.mem_of_getElem? e0, rfl⟩
  have n0 : (renF (L.map (·.1)) 0 f0).1 = madeN 0 := by
    cases L with
    | nil => cases e0
    | cons f r =>
      cases e0
      show sig (f0.1 :: r.map (·.1)) 0 f0.1 = _
      rw [sig_in (List.mem_cons_self ..), List.idxOf_cons_self]
  have fR := fnOf_get g.nd mR
  have f0' := fnOf_get g.nd m0
  rw [n0] at f0'
  have l1 : (mps k).length = xs.length := by rw [mps_len, lx]
  -- the arguments of the front one
  have a1 : Bigs ((knowL L k).map toF0) (qT (.l ((knowR L k).map fnt)) :: mpsT k) ((mps k).zip xs) (.l ((knowR L k).map fnt) :: xs) (1 + xs.length) :=
    .cons big_q (bigs_words l1 fun x t m => look_zip_mem (mps_nodup k) m)
  have hl : look ((sw :: mps k).zip (.l ((knowR L k).map fnt) :: xs)) sw = some (.l ((knowR L k).map fnt)) := look_zip_mem (sw_mps k) (by rw [List.zip_cons_cons]; exact List.mem_cons_self ..)
  have tof := big_tof (L := (knowL L k).map toF0) (n := L.length) (ps := mpsT k) hl
  have a2 : Bigs ((knowL L k).map toF0) (tofT L.length (mpsT k) :: mpsT k) ((sw :: mps k).zip (.l ((knowR L k).map fnt) :: xs)) (.l ((knowL L k).map fnt) :: xs) (17 + xs.length) := by
    refine .cons ?_ (bigs_words l1 fun x t m => look_zip_mem (sw_mps k) (by rw [List.zip_cons_cons]; exact List.mem_cons_of_mem _ m))
    have em : Tree.l ((knowL L k).map fnt) = .l (.l [.w (madeN (L.length + 1)), .l (mpsT k), .l (.w (madeN L.length) :: .l [.w qw, .l ((knowR L k).map fnt)] :: mpsT k)] :: (knowR L k).map fnt) := by rw [eM]; rfl
    rw [em]
    exact tof
  have b2 : Big ((knowL L k).map toF0) (kbody L.length k) ((sw :: mps k).zip (.l ((knowR L k).map fnt) :: xs)) v (1 + (17 + xs.length) + n) := by
    refine Big.call (spAr_made 0) f0' ?_ a2 hb
    show (wsOf f0.2.1).length = _
    unfold wsOf
    rw [List.length_map, ln, List.length_cons, mpsT_len]
  have b1 : Big ((knowL L k).map toF0) (fillB (madeN L.length) (.l ((knowR L k).map fnt)) k) ((mps k).zip xs) v (1 + (1 + xs.length) + (1 + (17 + xs.length) + n)) := by
    refine Big.call (spAr_made _) fR ?_ a1 ?_
    · show (wsOf (kpsT k)).length = _
      rw [wsOf_kps, List.length_cons, List.length_cons, mps_len, mpsT_len]
    · show Big _ (kbody L.length k) ((wsOf (kpsT k)).zip _) v _
      rw [wsOf_kps]
      exact b2
  rw [show n + (2 * k + 20) = 1 + (1 + xs.length) + (1 + (17 + xs.length) + n) by omega]
  exact b1
end Og

namespace Og
open PySem PySem.Spec PyProof.Rows L2
/-! ### != of rows of trees and numbers -/
def CellV (K : PySem.W.Frag) (H : Hp) (v : V) : Tree ⊕ Int → Prop
  | .inl t => Tr K H v t
  | .inr i => v = .int i
def CellsOk (n : Nat) : List (Tree ⊕ Int) → List (Tree ⊕ Int) → Prop
  | .inl t :: cs, .inl u :: ds => min (td t) (td u) ≤ n ∧ CellsOk n cs ds
  | .inr _ :: cs, .inr _ :: ds => CellsOk n cs ds
  | [], _ => True
  | _, [] => True
  | _, _ => False
def rNeRun (K : PySem.W.Frag) (n : Nat) : R2 := fun x y H Q => ∃ (p q : Addr) (vs ws : List V) (cs ds : List (Tree ⊕ Int)), x = .ref p ∧ y = .ref q ∧ SqT K H p vs ∧ SqT K H q ws ∧ Paired (CellV K H) vs cs ∧ Paired (CellV K H) ws ds ∧ CellsOk n cs ds ∧ ∀ b : Bool, (b = true ↔ cs ≠ ds) → Q (.bl b) H
theorem cells_at {n : Nat} : ∀ {cs ds : List (Tree ⊕ Int)} {j : Nat} {c d : Tree ⊕ Int}, CellsOk n cs ds → cs[j]? = some c → ds[j]? = some d → (∃ t u, c = .inl t ∧ d = .inl u ∧ min (td t) (td u) ≤ n) ∨ ∃ i k, c = .inr i ∧ d = .inr k
  | .inl t :: cs, .inl u :: ds, 0, c, d, h, e1, e2 => by
    cases e1; cases e2
    rw [CellsOk] at h
    exact .inl ⟨t, u, rfl, rfl, h.1⟩
  | .inl t :: cs, .inl u :: ds, j + 1, c, d, h, e1, e2 => by
    rw [CellsOk] at h
    exact cells_at (j := j) h.2 e1 e2
  | .inr i :: cs, .inr k :: ds, 0, c, d, h, e1, e2 => by
    cases e1; cases e2
    exact .inr ⟨i, k, rfl, rfl⟩
  | .inr i :: cs, .inr k :: ds, j + 1, c, d, h, e1, e2 => by
    rw [CellsOk] at h
    exact cells_at (j := j) h e1 e2
  | [], _, j, c, d, _, e1, _ => by simp at e1
  | c0 :: cs, [], j, c, d, _, _, e2 => by simp at e2
  | .inl t :: cs, .inr k :: ds, j, c, d, h, _, _ => by rw [CellsOk] at h; exact h.elim; all_goals simp
  | .inr t :: cs, .inl k :: ds, j, c, d, h, _, _ => by rw [CellsOk] at h; exact h.elim; all_goals simp
open Classical in
theorem op_neRun {X : Cx} {n : Nat} (hu : X.A.units + 64 < cLine) (hn : X.A.units + (n + 1) < cLine) : OpR X (compareOp .NotEq) (rNeRun X.K n) := by
  intro pins s σ H x y v w Q I rx ry h
  obtain ⟨p, q', vs, ws, cs, ds, rfl, rfl, h1, h2, p1, p2, ok, hq⟩ := h
  obtain ⟨i1, v1, t1, _⟩ := I.tuple h1
  obtain ⟨i2, v2, t2, _⟩ := I.tuple h2
  obtain rfl : v = Value.ref p := rx
  obtain rfl : w = Value.ref q' := ry
  have l1 : i1.length = cs.length := (paired_len v1).symm.trans (pr_len p1)
  have l2 : i2.length = ds.length := (paired_len v2).symm.trans (pr_len p2)
  have items : ∀ (j : Nat) (g1 : j < i1.toArray.size) (g2 : j < i2.toArray.size), SeqAt.EqAt X.A.in1 s i1.toArray[j] i2.toArray[j] (decide (cs[j]? = ds[j]?)) := by
    intro j g1 g2
    have j1 : j < i1.length := by simpa using g1
    have j2 : j < i2.length := by simpa using g2
    obtain ⟨x1, e1, f1⟩ := paired_get v1 j1
    obtain ⟨x2, e2, f2⟩ := paired_get v2 j2
    obtain ⟨c, hc, c1⟩ := pr_at p1 e1
    obtain ⟨d, hd, c2⟩ := pr_at p2 e2
    rw [hc, hd]
    have f1 : L2.RelV x1 i1.toArray[j] := by simpa using f1
    have f2 : L2.RelV x2 i2.toArray[j] := by simpa using f2
    rcases cells_at ok hc hd with ⟨t, u, rfl, rfl, dp⟩ | ⟨i, k, rfl, rfl⟩
    · refine (eq_treesM I n t u x1 x2 _ _ X.A.in1 _ dp ?_ c1 c2 f1 f2 (by rw [Around.in1_units]; omega)).1
      rw [decide_eq_true_eq, Option.some.injEq, Sum.inl.injEq]
    · obtain rfl : x1 = .int i := c1
      obtain rfl : x2 = .int k := c2
      obtain ⟨tk1, e3⟩ := f1
      obtain ⟨tk2, e4⟩ := f2
      rw [e3, e4]
      have : decide (some (Sum.inr i : Tree ⊕ Int) = some (Sum.inr k)) = (i == k) := by
        rw [Bool.eq_iff_iff, decide_eq_true_eq, beq_iff_eq, Option.some.injEq, Sum.inr.injEq]
      rw [this]
      exact SeqAt.EqAt.int_int _ _ _ _
  have eb : ((List.range (min i1.toArray.size i2.toArray.size)).all (fun j => decide (cs[j]? = ds[j]?)) && i1.toArray.size == i2.toArray.size) = decide (cs = ds) := by
    have hsz : (i1.toArray.size == i2.toArray.size) = decide (cs.length = ds.length) := by
      rw [Bool.eq_iff_iff, beq_iff_eq, decide_eq_true_eq, List.size_toArray, List.size_toArray, l1, l2]
    rw [hsz, Bool.eq_iff_iff, Bool.and_eq_true, List.all_eq_true, decide_eq_true_eq, decide_eq_true_eq]
    constructor
    · rintro ⟨a, l⟩
      refine List.ext_getElem? fun j => ?_
      by_cases c : j < min i1.toArray.size i2.toArray.size
      · exact of_decide_eq_true (a j (List.mem_range.mpr c))
      · rw [List.size_toArray, List.size_toArray, l1, l2] at c
        rw [List.getElem?_eq_none (by omega), List.getElem?_eq_none (by omega)]
    · rintro rfl
      exact ⟨fun j _ => decide_eq_true rfl, rfl⟩
  have rn : SeqAt.RcNeAt X.A s (.ref p) (.ref q') (!decide (cs = ds)) := by
    have := SeqAt.RcNeAt.tuples (A := X.A) t1 t2 (by omega) items
    rw [eb] at this
    exact this
  refine rn _ _ _ _ ⟨.bl (!decide (cs = ds)), H, I, rfl, hq _ ?_⟩
  rw [Bool.not_eq_true', decide_eq_false_iff_not]
def rEqRun (K : PySem.W.Frag) (n : Nat) : R2 := fun x y H Q => ∃ (p q : Addr) (vs ws : List V) (cs ds : List (Tree ⊕ Int)), x = .ref p ∧ y = .ref q ∧ SqT K H p vs ∧ SqT K H q ws ∧ Paired (CellV K H) vs cs ∧ Paired (CellV K H) ws ds ∧ CellsOk n cs ds ∧ ∀ b : Bool, (b = true ↔ cs = ds) → Q (.bl b) H
open Classical in
theorem op_eqRun {X : Cx} {n : Nat} (hu : X.A.units + 64 < cLine) (hn : X.A.units + (n + 1) < cLine) : OpR X (compareOp .Eq) (rEqRun X.K n) := by
  intro pins s σ H x y v w Q I rx ry h
  obtain ⟨p, q', vs, ws, cs, ds, rfl, rfl, h1, h2, p1, p2, ok, hq⟩ := h
  obtain ⟨i1, v1, t1, _⟩ := I.tuple h1
  obtain ⟨i2, v2, t2, _⟩ := I.tuple h2
  obtain rfl : v = Value.ref p := rx
  obtain rfl : w = Value.ref q' := ry
  have l1 : i1.length = cs.length := (paired_len v1).symm.trans (pr_len p1)
  have l2 : i2.length = ds.length := (paired_len v2).symm.trans (pr_len p2)
  have items : ∀ (j : Nat) (g1 : j < i1.toArray.size) (g2 : j < i2.toArray.size), SeqAt.EqAt X.A.in1 s i1.toArray[j] i2.toArray[j] (decide (cs[j]? = ds[j]?)) := by
    intro j g1 g2
    have j1 : j < i1.length := by simpa using g1
    have j2 : j < i2.length := by simpa using g2
    obtain ⟨x1, e1, f1⟩ := paired_get v1 j1
    obtain ⟨x2, e2, f2⟩ := paired_get v2 j2
    obtain ⟨c, hc, c1⟩ := pr_at p1 e1
    obtain ⟨d, hd, c2⟩ := pr_at p2 e2
    rw [hc, hd]
    have f1 : L2.RelV x1 i1.toArray[j] := by simpa using f1
    have f2 : L2.RelV x2 i2.toArray[j] := by simpa using f2
    rcases cells_at ok hc hd with ⟨t, u, rfl, rfl, dp⟩ | ⟨i, k, rfl, rfl⟩
    · refine (eq_treesM I n t u x1 x2 _ _ X.A.in1 _ dp ?_ c1 c2 f1 f2 (by rw [Around.in1_units]; omega)).1
      rw [decide_eq_true_eq, Option.some.injEq, Sum.inl.injEq]
    · obtain rfl : x1 = .int i := c1
      obtain rfl : x2 = .int k := c2
      obtain ⟨tk1, e3⟩ := f1
      obtain ⟨tk2, e4⟩ := f2
      rw [e3, e4]
      have : decide (some (Sum.inr i : Tree ⊕ Int) = some (Sum.inr k)) = (i == k) := by
        rw [Bool.eq_iff_iff, decide_eq_true_eq, beq_iff_eq, Option.some.injEq, Sum.inr.injEq]
      rw [this]
      exact SeqAt.EqAt.int_int _ _ _ _
  have eb : ((List.range (min i1.toArray.size i2.toArray.size)).all (fun j => decide (cs[j]? = ds[j]?)) && i1.toArray.size == i2.toArray.size) = decide (cs = ds) := by
    have hsz : (i1.toArray.size == i2.toArray.size) = decide (cs.length = ds.length) := by
      rw [Bool.eq_iff_iff, beq_iff_eq, decide_eq_true_eq, List.size_toArray, List.size_toArray, l1, l2]
    rw [hsz, Bool.eq_iff_iff, Bool.and_eq_true, List.all_eq_true, decide_eq_true_eq, decide_eq_true_eq]
    constructor
    · rintro ⟨a, l⟩
      refine List.ext_getElem? fun j => ?_
      by_cases c : j < min i1.toArray.size i2.toArray.size
      · exact of_decide_eq_true (a j (List.mem_range.mpr c))
      · rw [List.size_toArray, List.size_toArray, l1, l2] at c
        rw [List.getElem?_eq_none (by omega), List.getElem?_eq_none (by omega)]
    · rintro rfl
      exact ⟨fun j _ => decide_eq_true rfl, rfl⟩
  have rc : SeqAt.RcAt X.A s (.ref p) (.ref q') (decide (cs = ds)) := by
    have := SeqAt.RcAt.tuples (A := X.A) t1 t2 (by omega) items
    rw [eb] at this
    exact this
  exact rc _ _ _ _ ⟨.bl (decide (cs = ds)), H, I, rfl, hq _ decide_eq_true_iff⟩
end Og

namespace Og
open PySem PySem.Spec PyProof.Rows L2
/-! ### != of lists of the same numbers and objects -/
def rNeSame (K : PySem.W.Frag) : R2 := fun x y H Q => ∃ (a b : Addr) (xs : List V), x = .ref a ∧ y = .ref b ∧ H a = some (.lst xs) ∧ H b = some (.lst xs) ∧ (∀ v ∈ xs, (∃ i, v = .int i) ∨ ∃ r, v = .ref r) ∧ Q (.bl false) H
theorem op_neSame {X : Cx} (hu : X.A.units + 64 < cLine) : OpR X (compareOp .NotEq) (rNeSame X.K) := by
  intro pins s σ H x y v w Q I rx ry h
  obtain ⟨p, q', xs, rfl, rfl, h1, h2, all, hq⟩ := h
  obtain ⟨i1, v1, t1, _⟩ := I.list (SqL.of h1)
  obtain ⟨i2, v2, t2, _⟩ := I.list (SqL.of h2)
  obtain rfl : v = Value.ref p := rx
  obtain rfl : w = Value.ref q' := ry
  have l1 := paired_len v1
  have l2 := paired_len v2
  have items : ∀ (j : Nat) (g1 : j < i1.toArray.size) (g2 : j < i2.toArray.size), SeqAt.EqAt X.A.in1 s i1.toArray[j] i2.toArray[j] true := by
    intro j g1 g2
    have j1 : j < i1.length := by simpa using g1
    have j2 : j < i2.length := by simpa using g2
    obtain ⟨x1, e1, f1⟩ := paired_get v1 j1
    obtain ⟨x2, e2, f2⟩ := paired_get v2 j2
    have f1 : L2.RelV x1 i1.toArray[j] := by simpa using f1
    have f2 : L2.RelV x2 i2.toArray[j] := by simpa using f2
    have e12 : x1 = x2 := Option.some.inj (e1.symm.trans e2)
    subst e12
    rcases all x1 (List.mem_of_getElem? e1) with ⟨i, rfl⟩ | ⟨r, rfl⟩
    · obtain ⟨tk1, e3⟩ := f1
      obtain ⟨tk2, e4⟩ := f2
      rw [e3, e4]
      have := SeqAt.EqAt.int_int (A := X.A.in1) (s := s) i tk1 i tk2
      rw [beq_self_eq_true] at this
      exact this
    · have e3 : i1.toArray[j] = Value.ref r := f1
      have e4 : i2.toArray[j] = Value.ref r := f2
      rw [e3, e4]
      exact SeqAt.EqAt.same _
  have rn := SeqAt.RcNeAt.lists (A := X.A) (e := fun _ => true) t1.isList t2.isList (by rw [List.size_toArray, List.size_toArray]; omega) (by omega) items
  have eb : (List.range i1.toArray.size).all (fun _ => true) = true := by simp
  rw [eb] at rn
  exact rn _ _ _ _ ⟨.bl false, H, I, rfl, hq⟩
end Og

namespace Og
open PySem PySem.Spec PyProof.Rows L2
open PySem.NumText (AllDigits digitsVal)
/-! ### what know_own gives is good, and its run -/
theorem GoodName.mono {n m : Nat} {x : List Nat} (h : GoodName n x) (l : n ≤ m) : GoodName m x := ⟨h.1, fun ds e ne ad => by
  obtain ⟨a, b⟩ := h.2 ds e ne ad
  exact ⟨a, Nat.lt_of_lt_of_le b l⟩⟩
theorem goodL_cons {R : List Fn} {f : Fn} (h : GoodL R) (nf : f.1 ∉ R.map (·.1)) (gn : GoodName (R.length + 1) f.1) (gp : GoodPs f.2.1) (ge : GoodIn (sigs (f :: R)) f.2.1 f.2.2) : GoodL (f :: R) := by
  refine ⟨?_, fun g m => ?_, fun g m => ?_, fun g m => ?_⟩
  · rw [List.map_cons, List.nodup_cons]
    exact ⟨nf, h.nd⟩
  · rw [List.length_cons]
    rcases List.mem_cons.mp m with e | m
    · rw [e]; exact gn
    · exact (h.nm g m).mono (Nat.le_succ _)
  · rcases List.mem_cons.mp m with e | m
    · rw [e]; exact gp
    · exact h.ps g m
  · rcases List.mem_cons.mp m with e | m
    · rw [e]; exact ge
    · exact (h.ex g m).mono (sigs_mem fun f m => List.mem_cons_of_mem _ m)
theorem knowR_eq (L : List Fn) (k : Nat) : knowR L k = (madeN L.length, kpsT k, kbody L.length k) :: renL L 0 := by
  unfold knowR
  rw [fronted_cons, sides_one, renL_len]
theorem knowL_eq (L : List Fn) (k : Nat) : knowL L k = (madeN (L.length + 1), mpsT k, fillB (madeN L.length) (.l ((knowR L k).map fnt)) k) :: knowR L k := by
  unfold knowL fillL
  rw [knowR_len]
theorem mpsT_good {k : Nat} (h : k ≤ 12) : GoodPs (mpsT k) := goodPs_of (by rw [mps_len]; exact h) (mps_nodup k) fun x m => by
  obtain ⟨i, _, rfl⟩ := mps_mem m
  exact spAr_par _
theorem knowL_good {L : List Fn} {f0 : Fn} {k : Nat} (h : GoodL L) (e0 : L[0]? = some f0) (ln : f0.2.1.length = k + 1) (hk : k ≤ 8) : GoodL (knowL L k) := by
  rw [knowL_eq]
  refine goodL_cons (knowR_good h e0 ln hk) (fun m => ?_) ?_ (mpsT_good (by omega)) ?_
  · rw [knowR_eq, List.map_cons, renL_names h.nd] at m
    rcases List.mem_cons.mp m with e | m
    · have := madeN_inj e; omega
    · obtain ⟨i, mi, e⟩ := List.mem_map.mp m
      have := madeN_inj e
      have := List.mem_range.mp mi
      omega
  · rw [knowR_len]
    exact goodName_made (by omega)
  · have mem : (madeN L.length, (qT (.l ((knowR L k).map fnt)) :: mpsT k).length) ∈ sigs ((madeN (L.length + 1), mpsT k, fillB (madeN L.length) (.l ((knowR L k).map fnt)) k) :: knowR L k) := by
      refine List.mem_map.mpr ⟨(madeN L.length, kpsT k, kbody L.length k), by rw [knowR_eq]; simp, ?_⟩
      show (madeN L.length, (kpsT k).length) = _
      unfold kpsT
      rw [List.length_cons, List.length_cons]
    refine good_call (ts := qT (.l ((knowR L k).map fnt)) :: mpsT k) mem fun t m => ?_
    rcases List.mem_cons.mp m with e | m
    · rw [e]; exact good_quote
    · refine good_word m ?_
      obtain ⟨x, _, rfl⟩ := List.mem_map.mp m
      rfl
theorem knowL_size (L : List Fn) (k : Nat) : (Tree.l ((knowL L k).map fnt)).size = 2 * (Tree.l (L.map fnt)).size + 10 * k + 97 := by
  have r := knowR_size L k
  rw [knowL_eq, List.map_cons, size_l, sizes_cons, fnt_size]
  show sizes (mpsT k) + (fillB (madeN L.length) (.l ((knowR L k).map fnt)) k).size + 3 + _ + 1 = _
  unfold fillB
  rw [size_l, sizes_cons, sizes_cons, size_w, mpsT_size]
  have q := qT_size (.l ((knowR L k).map fnt))
  unfold qT at q
  rw [q, r]
  rw [size_l] at r
  omega
theorem knowL_wt {L : List Fn} {k : Nat} (h : WT (.l (L.map fnt))) (ll : L.length ≤ 1000000) (hk : k ≤ 100) : WT (.l ((knowL L k).map fnt)) := by
  have r := knowR_wt (k := k) h ll hk
  have m := mpsT_wt hk
  rw [knowL_eq, List.map_cons]
  exact wt_l (wts_cons (wt_l (wts_cons (wt_w (wordN (by omega))) (wts_cons (wt_l m) (wts_cons (wt_l (wts_cons (wt_w (wordN (by omega))) (wts_cons (wq _ r) m))) wts_nil)))) r.list)
theorem knowL_len (L : List Fn) (k : Nat) : (knowL L k).length = L.length + 2 := by rw [knowL_eq, List.length_cons, knowR_len]
/-! ### runs come to one end -/
theorem turns_cut {L : List Fn0} : ∀ {j i : Nat} {m m1 : MS}, turns L (j + i) m = some m1 → ∃ m2, turns L j m = some m2 ∧ turns L i m2 = some m1
  | 0, i, m, m1, h => ⟨m, rfl, by rw [Nat.zero_add] at h; exact h⟩
  | j + 1, i, m, m1, h => by
    rw [show j + 1 + i = (j + i) + 1 by omega] at h
    have h' : (turn L m).bind (turns L (j + i)) = some m1 := h
    cases e : turn L m with
    | none => rw [e] at h'; cases h'
    | some m3 =>
      rw [e] at h'
      obtain ⟨m2, a, b⟩ := turns_cut (j := j) h'
      refine ⟨m2, ?_, b⟩
      show (turn L m).bind (turns L j) = _
      rw [e]
      exact a
theorem turns_stop {L : List Fn0} {k : Nat} {m m1 : MS} (h : turns L k m = some m1) (f : turn L m = none) : k = 0 ∧ m1 = m := by
  cases k with
  | zero => exact ⟨rfl, (Option.some.inj h).symm⟩
  | succ k =>
    have h' : (turn L m).bind (turns L k) = some m1 := h
    rw [f] at h'
    cases h'
/-- a run that ends within the limit -/
theorem runres_done {K : PySem.W.Frag} {L : List Fn0} {m0 : MS} {lim k n : Nat} {r : V} {H : Hp} {v : Tree} (h : turns L k m0 = some ⟨[], [v], n⟩) (hn : n ≤ lim) (R : RunRes K L m0 lim r H) : ∃ a u, r = .ref a ∧ H a = some (.tup [.str "done", u, .int (n : Nat)]) ∧ Tr K H u v := by
  rcases R with ⟨k', v', s', h', _, a, u, e1, e2, e3⟩ | ⟨k', t, e, td, fd, h', _⟩
  · have : v' = v ∧ s' = n := by
      rcases Nat.le_total k k' with l | l
      · obtain ⟨i, rfl⟩ : ∃ i, k' = k + i := ⟨k' - k, by omega⟩
        obtain ⟨m2, a1, a2⟩ := turns_cut h'
        rw [h] at a1
        cases a1
        have := (turns_stop a2 turn_end).2
        cases this
        exact ⟨rfl, rfl⟩
      · obtain ⟨i, rfl⟩ : ∃ i, k = k' + i := ⟨k - k', by omega⟩
        obtain ⟨m2, a1, a2⟩ := turns_cut h
        rw [h'] at a1
        cases a1
        have := (turns_stop a2 turn_end).2
        cases this
        exact ⟨rfl, rfl⟩
    obtain ⟨rfl, rfl⟩ := this
    exact ⟨a, u, e1, e2, e3⟩
  · exfalso
    rcases Nat.le_total k k' with l | l
    · obtain ⟨i, rfl⟩ : ∃ i, k' = k + i := ⟨k' - k, by omega⟩
      obtain ⟨m2, a1, a2⟩ := turns_cut h'
      rw [h] at a1
      cases a1
      have := (turns_stop a2 turn_end).2
      cases this
    · obtain ⟨i, rfl⟩ : ∃ i, k = k' + i := ⟨k - k', by omega⟩
      obtain ⟨m2, a1, a2⟩ := turns_cut h
      rw [h'] at a1
      cases a1
      cases i with
      | zero => cases a2
      | succ i =>
        have h2 : (turn L ⟨.ev t e :: td, fd, lim⟩).bind (turns L i) = some ⟨[], [v], n⟩ := a2
        cases e2 : turn L ⟨.ev t e :: td, fd, lim⟩ with
        | none => rw [e2] at h2; cases h2
        | some m3 =>
          rw [e2] at h2
          have s1 := ev_more e2
          have s2 := turns_steps h2
          dsimp only at s2
          omega
/-- states of a run stay within their bounds -/
theorem mb_turns {C : Cx0} {D W : Nat} (hD : 1 ≤ D) (gd : ∀ f ∈ C.fns, GX C f.2.1 f.2.2) (vb : ∀ f ∈ C.fns, VB D W f.2.2) (ar : ∀ f ∈ C.fns, f.2.1.length ≤ 12) : ∀ {k : Nat} {m m' : MS}, MB C D W m → turns C.fns k m = some m' → MB C D W m'
  | 0, m, m', h, e => by cases e; exact h
  | k + 1, m, m', h, e => by
    have h' : (turn C.fns m).bind (turns C.fns k) = some m' := e
    rcases mb_step hD gd vb ar h with ⟨a, b⟩ | ⟨m1, a, b⟩
    · obtain ⟨td, fd, s⟩ := m
      cases a
      rw [turn_end] at h'
      cases h'
    · rw [a] at h'
      exact mb_turns hD gd vb ar b h'
theorem mb_start {L : List Fn0} {D W : Nat} {f0 : Fn0} {its : List Tree} (gd : GdP L) (m : f0 ∈ L) (hl : f0.2.1.length ≤ its.length) (vb : VB D W f0.2.2) (hi : ∀ t ∈ its, VB D W t) : MB (C00 L) D W (m00 f0 its) := by
  refine ⟨.ev (gd (C00 L) rfl f0 m) (cov_zip hl) .nil, fun v m => absurd m (List.not_mem_nil), fun t m => ?_, Nat.le_refl _, Nat.le_refl _, Nat.le_refl _⟩
  rw [List.mem_singleton.mp m]
  exact ⟨vb.mono (by show _ ≤ D + 0 - 0; omega) (by show _ ≤ W + 0 - 0; omega), eb_zip fun t m => (hi t m).mono (by show _ ≤ D + 0 - 0; omega) (by show _ ≤ W + 0 - 0; omega)⟩
theorem safe_of {L : List Fn0} {D W n lim : Nat} {f0 : Fn0} {its : List Tree} (hD : 1 ≤ D) (gd : GdP L) (vb : ∀ f ∈ L, VB D W f.2.2) (ar : ∀ f ∈ L, f.2.1.length ≤ 12 ∧ f.2.1.Nodup) (m : f0 ∈ L) (hl : f0.2.1.length ≤ its.length) (hi : ∀ t ∈ its, VB D W t) (h1 : D + lim ≤ n) (h2 : W + lim ≤ 100000) (h3 : lim ≤ 70000) :
    ∀ k m, turns L k (m00 f0 its) = some m → m.steps ≤ lim → Safe n m := fun k m' e hs => by
  have b := mb_turns (C := C00 L) hD (gd (C00 L) rfl) vb (fun f mf => (ar f mf).1) (mb_start gd m hl (vb f0 m) hi) e
  refine ⟨by have := b.tl; omega, by have := b.fl; omega, fun w td l fd e1 e2 => ⟨fun ts el => ?_, fun f fd' e3 _ => ?_⟩⟩
  · have := b.fnd l (by rw [e2]; exact List.mem_cons_self ..)
    rw [el] at this
    have := this.len
    omega
  · have := (b.fnd l (by rw [e2]; exact List.mem_cons_self ..)).1
    have := Nat.min_le_right (Og.td f) (Og.td l)
    omega
end Og

namespace Og
open PySem PySem.Spec PyProof.Rows L2
/-! ### how fast values grow: a join takes two steps at least, beside those of others -/
def gpr : Nat → List Task → Nat
  | _, [] => 0
  | j, .ev _ _ :: td => gpr (j + 1) td
  | j, .prim w :: td => if w ∈ [sameW, joinW] then (2 - j) + gpr 0 td else gpr 0 td
  | _, .pick _ _ _ :: td => gpr 0 td
  | _, .call _ :: td => gpr 0 td
theorem gpr_j : ∀ (td : List Task) (j : Nat), gpr (j + 1) td ≤ gpr j td ∧ gpr j td ≤ gpr (j + 1) td + 1
  | [], j => ⟨Nat.le_refl _, Nat.le_succ _⟩
  | .ev _ _ :: td, j => gpr_j td (j + 1)
  | .pick _ _ _ :: td, j => ⟨Nat.le_refl _, Nat.le_succ _⟩
  | .call _ :: td, j => ⟨Nat.le_refl _, Nat.le_succ _⟩
  | .prim w :: td, j => by
    unfold gpr
    by_cases m : w ∈ [sameW, joinW]
    · rw [if_pos m, if_pos m]; omega
    · rw [if_neg m, if_neg m]; omega
theorem gpr_ev (t : Tree) (e : Env) (td : List Task) : gpr 0 td ≤ gpr 0 (.ev t e :: td) + 1 := (gpr_j td 0).2
theorem gpr_ev' (t : Tree) (e : Env) (td : List Task) : gpr 0 (.ev t e :: td) ≤ gpr 0 td := (gpr_j td 0).1
theorem gpr_op {C : Cx0} {x : List Nat} {ts : List Tree} (ok : OpOk C x ts.length) (e : Env) (td : List Task) : gpr 0 (ts.map (fun t => Task.ev t e) ++ opTask x :: td) ≤ gpr 0 td := by
  have evs : ∀ (ts : List Tree) (j : Nat) (R : List Task), gpr j (ts.map (fun t => Task.ev t e) ++ R) = gpr (j + ts.length) R := fun ts => by
    induction ts with
    | nil => intro j R; rfl
    | cons t ts ih =>
      intro j R
      show gpr (j + 1) (ts.map (fun t => Task.ev t e) ++ R) = _
      rw [ih, List.length_cons, show j + 1 + ts.length = j + (ts.length + 1) by omega]
  rw [evs]
  unfold opTask
  by_cases c : x ∈ [sameW, wordW, headW, tailW, joinW]
  · rw [if_pos c]
    show (if x ∈ [sameW, joinW] then (2 - (0 + ts.length)) + gpr 0 td else gpr 0 td) ≤ _
    by_cases m : x ∈ [sameW, joinW]
    · rw [if_pos m]
      rcases ok with ⟨hx, l⟩ | ⟨hx, l⟩ | ⟨sp, _⟩
      · exfalso
        simp only [List.mem_cons, List.not_mem_nil, or_false] at hx m
        rcases hx with h | h | h <;> rcases m with q | q <;> rw [h] at q <;> revert q <;> decide
      · omega
      · exfalso
        simp only [List.mem_cons, List.not_mem_nil, or_false] at m
        rcases m with q | q <;> rw [q] at sp <;> revert sp <;> decide
    · rw [if_neg m]; exact Nat.le_refl _
  · rw [if_neg c]; exact Nat.le_refl _
/-- twice as small as it may be -/
def VC (D W s c : Nat) (v : Tree) : Prop := 2 * td v + c ≤ 2 * D + s ∧ 2 * wid v + c ≤ 2 * W + s
theorem VC.mono {D W s c s' c' : Nat} {v : Tree} (h : VC D W s c v) (l : s + c' ≤ s' + c) : VC D W s' c' v := ⟨by have := h.1; omega, by have := h.2; omega⟩
theorem VC.vb {D W s c : Nat} {v : Tree} (h : VC D W s c v) : VB (D + s / 2) (W + s / 2) v := ⟨by have := h.1; omega, by have := h.2; omega⟩
theorem VC.of {D W s c : Nat} {v : Tree} (h : VB D W v) (l : c ≤ s) : VC D W s c v := ⟨by have := h.1; omega, by have := h.2; omega⟩
theorem VC.p1 {D W s c : Nat} {w : List Nat} {v : Tree} (m : w ∈ [wordW, headW, tailW]) (hd : 1 ≤ D) (l : c ≤ s) (h : VC D W s c v) : VC D W s c (prim1 w v) := by
  obtain ⟨h1, h2⟩ := h
  have b : VB (D + (s - c) / 2) (W + (s - c) / 2) v := ⟨by omega, by omega⟩
  obtain ⟨g1, g2⟩ := vb_p1 m (by omega) b
  exact ⟨by omega, by omega⟩
theorem VC.p2 {D W s c : Nat} {w : List Nat} {f v : Tree} (m : w ∈ [sameW, joinW]) (l : c + 2 ≤ s) (hf : VC D W s (c + 2) f) (hv : VC D W s (c + 2) v) : VC D W s c (prim2 w f v) := by
  obtain ⟨f1, f2⟩ := hf
  obtain ⟨v1, v2⟩ := hv
  have bf : VB (D + (s - (c + 2)) / 2) (W + (s - (c + 2)) / 2) f := ⟨by omega, by omega⟩
  have bv : VB (D + (s - (c + 2)) / 2) (W + (s - (c + 2)) / 2) v := ⟨by omega, by omega⟩
  obtain ⟨g1, g2⟩ := vb_p2 m bf bv
  exact ⟨by omega, by omega⟩
def TkC (D W s c : Nat) : Task → Prop
  | .ev t e => VB D W t ∧ ∀ p ∈ e, VC D W s c p.2
  | .pick a b e => VB D W a ∧ VB D W b ∧ ∀ p ∈ e, VC D W s c p.2
  | _ => True
theorem TkC.mono {D W s c s' c' : Nat} {t : Task} (h : TkC D W s c t) (l : s + c' ≤ s' + c) : TkC D W s' c' t := by
  cases t with
  | ev t e => exact ⟨h.1, fun p m => (h.2 p m).mono l⟩
  | pick a b e => exact ⟨h.1, h.2.1, fun p m => (h.2.2 p m).mono l⟩
  | prim w => trivial
  | call x => trivial
theorem vc_look {D W s c : Nat} {e : Env} {x : List Nat} {v : Tree} (h : ∀ p ∈ e, VC D W s c p.2) (k : look e x = some v) : VC D W s c v := by
  unfold look at k
  cases q : e.find? (fun p => decide (p.1 = x)) with
  | none => rw [q] at k; cases k
  | some p =>
    rw [q] at k
    have := h p (List.mem_of_find?_eq_some q)
    rw [← Option.some.inj k]
    exact this
theorem tkc_op {D W s c : Nat} (x : List Nat) : TkC D W s c (opTask x) := by
  unfold opTask
  by_cases k : x ∈ [sameW, wordW, headW, tailW, joinW]
  · rw [if_pos k]; trivial
  · rw [if_neg k]; trivial
structure MC (C : Cx0) (D W : Nat) (m : MS) : Prop where
  tok : TOk C m.todo m.found.length
  fnd : ∀ v ∈ m.found, VC D W m.steps (gpr 0 m.todo) v
  tsk : ∀ t ∈ m.todo, TkC D W m.steps (gpr 0 m.todo) t
  tl : m.todo.length ≤ 1 + 13 * m.steps
  fl : m.found.length ≤ m.steps
  pr : gpr 0 m.todo ≤ m.steps
open Classical in
theorem mc_step {C : Cx0} {D W : Nat} (hD : 1 ≤ D) (gd : ∀ f ∈ C.fns, GX C f.2.1 f.2.2) (vb : ∀ f ∈ C.fns, VB D W f.2.2) (ar : ∀ f ∈ C.fns, f.2.1.length ≤ 12) {m : MS} (h : MC C D W m) : (m.todo = [] ∧ m.found.length = 1) ∨ ∃ m', turn C.fns m = some m' ∧ MC C D W m' := by
  obtain ⟨todo, found, s⟩ := m
  obtain ⟨tok, fnd, tsk, tl, fl, pr⟩ := h
  dsimp only at tok fnd tsk tl fl pr
  generalize hn : found.length = n at tok
  cases tok with
  | nil => exact .inl ⟨rfl, by first | exact hn | rfl⟩
  | @ev t e ps td h g c r =>
    have tb : VB D W t ∧ ∀ p ∈ e, VC D W s (gpr 0 (.ev t e :: td)) p.2 := tsk _ (List.mem_cons_self ..)
    have g1 := gpr_ev t e td
    have g2 := gpr_ev' t e td
    generalize hc0 : gpr 0 (.ev t e :: td) = c0 at fnd tsk pr tb g1 g2
    have tk : ∀ u ∈ td, TkC D W s c0 u := fun u m => tsk u (List.mem_cons_of_mem _ m)
    have leaf : ∀ v, VC D W s c0 v → MC C D W ⟨td, v :: found, s + 1⟩ := fun v hv => by
      refine ⟨by show TOk C td (found.length + 1); rw [hn]; exact r, fun u m => ?_, fun u m => (tk u m).mono (by show s + gpr 0 td ≤ (s + 1) + c0; omega), ?_, ?_, by show gpr 0 td ≤ s + 1; omega⟩
      · refine VC.mono (s := s) (c := c0) ?_ (by show s + gpr 0 td ≤ (s + 1) + c0; omega)
        rcases List.mem_cons.mp m with q | m
        · rw [q]; exact hv
        · exact fnd u m
      · rw [List.length_cons] at tl
        show td.length ≤ 1 + 13 * (s + 1)
        omega
      · show (v :: found).length ≤ s + 1
        rw [List.length_cons]; omega
    cases g with
    | @w x j hj =>
      obtain ⟨v, hv⟩ := c x (at_mem hj)
      exact .inr ⟨_, turn_word hv, leaf v (vc_look tb.2 hv)⟩
    | @q v => exact .inr ⟨_, turn_quote, leaf v (VC.of (tb.1.part (by simp)) pr)⟩
    | @iff t y z gt gy gz =>
      have gg : gpr 0 (Task.ev t e :: .pick y z e :: td) = gpr 0 td := rfl
      refine .inr ⟨_, turn_if, ⟨.ev gt c (.pick gy gz c (by rw [hn]; exact r)), fun u m => (fnd u m).mono (by show s + gpr 0 (Task.ev t e :: .pick y z e :: td) ≤ (s + 1) + c0; rw [gg]; omega), fun u m => ?_, ?_, by show found.length ≤ s + 1; omega, by show gpr 0 (Task.ev t e :: .pick y z e :: td) ≤ s + 1; rw [gg]; omega⟩⟩
      · refine TkC.mono (s := s) (c := c0) ?_ (by show s + gpr 0 (Task.ev t e :: .pick y z e :: td) ≤ (s + 1) + c0; rw [gg]; omega)
        rcases List.mem_cons.mp m with q | m
        · rw [q]; exact ⟨tb.1.part (by simp), tb.2⟩
        rcases List.mem_cons.mp m with q | m
        · rw [q]; exact ⟨tb.1.part (by simp), tb.1.part (by simp), tb.2⟩
        · exact tk u m
      · rw [List.length_cons] at tl
        show (td.length + 1) + 1 ≤ 1 + 13 * (s + 1)
        omega
    | @op x ts n1 n2 ok gs =>
      have l12 := op_ar ar ok
      have gg := gpr_op ok e td
      refine .inr ⟨_, turn_op n1 n2, ⟨tok_evs c gs (tok_op ok (by rw [hn]; exact r)), fun u m => (fnd u m).mono (by show s + gpr 0 (_ ++ _) ≤ (s + 1) + c0; omega), fun u m => ?_, ?_, by show found.length ≤ s + 1; omega, by show gpr 0 (_ ++ _) ≤ s + 1; omega⟩⟩
      · refine TkC.mono (s := s) (c := c0) ?_ (by show s + gpr 0 (ts.map (fun t => Task.ev t e) ++ opTask x :: td) ≤ (s + 1) + c0; omega)
        have m : u ∈ ts.map (fun t => Task.ev t e) ++ opTask x :: td := m
        rcases List.mem_append.mp m with m | m
        · obtain ⟨t, mt, rfl⟩ := List.mem_map.mp m
          exact ⟨tb.1.part (List.mem_cons_of_mem _ mt), tb.2⟩
        rcases List.mem_cons.mp m with q | m
        · rw [q]; exact tkc_op x
        · exact tk u m
      · rw [List.length_cons] at tl
        show (_ ++ _ : List Task).length ≤ 1 + 13 * (s + 1)
        rw [List.length_append, List.length_map, List.length_cons]
        omega
  | @p1 w td h mw r =>
    match found, hn with
    | l :: fd, hn =>
    have nw : w ∉ [sameW, joinW] := fun q => by
      simp only [List.mem_cons, List.not_mem_nil, or_false] at mw q
      rcases mw with h | h | h <;> rcases q with q | q <;> rw [h] at q <;> revert q <;> decide
    have np : gpr 0 (Task.prim w :: td) = gpr 0 td := by
      show (if w ∈ [sameW, joinW] then (2 - 0) + gpr 0 td else gpr 0 td) = _
      rw [if_neg nw]
    rw [np] at fnd tsk pr
    refine .inr ⟨_, turn_p1 mw, ⟨by show TOk C td (fd.length + 1); rw [show fd.length + 1 = h + 1 from hn]; exact r, fun u m => ?_, fun u m => tsk u (List.mem_cons_of_mem _ m), ?_, fl, pr⟩⟩
    · rcases List.mem_cons.mp m with q | m
      · rw [q]
        exact VC.p1 mw hD pr (fnd l (List.mem_cons_self ..))
      · exact fnd u (List.mem_cons_of_mem _ m)
    · rw [List.length_cons] at tl
      show td.length ≤ 1 + 13 * s
      omega
  | @p2 w td h mw r =>
    match found, hn with
    | l :: f :: fd, hn =>
    have np : gpr 0 (Task.prim w :: td) = gpr 0 td + 2 := by
      show (if w ∈ [sameW, joinW] then (2 - 0) + gpr 0 td else gpr 0 td) = _
      rw [if_pos mw]; omega
    rw [np] at fnd tsk pr
    have hn : fd.length + 2 = h + 2 := hn
    refine .inr ⟨_, turn_p2 mw, ⟨by show TOk C td (fd.length + 1); rw [show fd.length = h by omega]; exact r, fun u m => ?_, fun u m => (tsk u (List.mem_cons_of_mem _ m)).mono (by show s + gpr 0 td ≤ s + (gpr 0 td + 2); omega), ?_, ?_, by show gpr 0 td ≤ s; omega⟩⟩
    · rcases List.mem_cons.mp m with q | m
      · rw [q]
        exact VC.p2 mw pr (fnd f (by simp)) (fnd l (by simp))
      · exact (fnd u (by simp [m])).mono (by show s + gpr 0 td ≤ s + (gpr 0 td + 2); omega)
    · rw [List.length_cons] at tl
      show td.length ≤ 1 + 13 * s
      omega
    · show fd.length + 1 ≤ s
      have : fd.length + 2 ≤ s := fl
      omega
  | @pick a b e ps td h ga gb c r =>
    match found, hn with
    | v :: fd, hn =>
    have hn : fd.length + 1 = h + 1 := hn
    have tb : VB D W a ∧ VB D W b ∧ ∀ p ∈ e, VC D W s (gpr 0 td) p.2 := tsk _ (List.mem_cons_self ..)
    have fnd : ∀ u ∈ v :: fd, VC D W s (gpr 0 td) u := fnd
    have tsk : ∀ u ∈ Task.pick a b e :: td, TkC D W s (gpr 0 td) u := tsk
    have pr : gpr 0 td ≤ s := pr
    have g2 : gpr 0 (Task.ev (if v = .l [] then b else a) e :: td) ≤ gpr 0 td := gpr_ev' _ e td
    refine .inr ⟨_, turn_pick, ⟨.ev (ps := ps) ?_ c (by show TOk C td (fd.length + 1); rw [show fd.length = h by omega]; exact r), fun u m => (fnd u (List.mem_cons_of_mem _ m)).mono (by show s + gpr 0 (_ :: td) ≤ s + gpr 0 td; omega), fun u m => ?_, tl, by show fd.length ≤ s; have : fd.length + 1 ≤ s := fl; omega, by show gpr 0 (_ :: td) ≤ s; omega⟩⟩
    · by_cases q : v = .l []
      · rw [if_pos q]; exact gb
      · rw [if_neg q]; exact ga
    · refine TkC.mono (s := s) (c := gpr 0 td) ?_ (by show s + gpr 0 (Task.ev (if v = .l [] then b else a) e :: td) ≤ s + gpr 0 td; omega)
      rcases List.mem_cons.mp m with q | m
      · rw [q]
        refine ⟨?_, tb.2.2⟩
        by_cases q : v = .l []
        · rw [if_pos q]; exact tb.2.1
        · rw [if_neg q]; exact tb.1
      · exact tsk u (List.mem_cons_of_mem _ m)
  | @call x ps b td h hf r =>
    have lp : ps.length ≤ found.length := by omega
    have mf := fnOf_mem hf
    have fnd : ∀ u ∈ found, VC D W s (gpr 0 td) u := fnd
    have tsk : ∀ u ∈ Task.call x :: td, TkC D W s (gpr 0 td) u := tsk
    have pr : gpr 0 td ≤ s := pr
    have g2 : ∀ e, gpr 0 (Task.ev b e :: td) ≤ gpr 0 td := fun e => gpr_ev' b e td
    refine .inr ⟨_, turn_call hf lp, ⟨.ev (ps := ps) (gd _ mf) (cov_zip ?_) ?_, fun u m => (fnd u (List.mem_of_mem_drop m)).mono (by show s + gpr 0 (_ :: td) ≤ s + gpr 0 td; have := g2 (ps.zip (found.take ps.length).reverse); omega), fun u m => ?_, tl, ?_, by show gpr 0 (_ :: td) ≤ s; have := g2 (ps.zip (found.take ps.length).reverse); omega⟩⟩
    · rw [List.length_reverse, List.length_take]; omega
    · show TOk C td ((found.drop ps.length).length + 1)
      rw [List.length_drop, show found.length - ps.length = h by omega]
      exact r
    · refine TkC.mono (s := s) (c := gpr 0 td) ?_ (by show s + gpr 0 (Task.ev b (ps.zip (found.take ps.length).reverse) :: td) ≤ s + gpr 0 td; have := g2 (ps.zip (found.take ps.length).reverse); omega)
      rcases List.mem_cons.mp m with q | m
      · rw [q]
        exact ⟨vb _ mf, fun p m => fnd p.2 (List.mem_of_mem_take (List.mem_reverse.mp (List.of_mem_zip m).2))⟩
      · exact tsk u (List.mem_cons_of_mem _ m)
    · show (found.drop ps.length).length ≤ s
      rw [List.length_drop]
      have : found.length ≤ s := fl
      omega
theorem mc_turns {C : Cx0} {D W : Nat} (hD : 1 ≤ D) (gd : ∀ f ∈ C.fns, GX C f.2.1 f.2.2) (vb : ∀ f ∈ C.fns, VB D W f.2.2) (ar : ∀ f ∈ C.fns, f.2.1.length ≤ 12) : ∀ {k : Nat} {m m' : MS}, MC C D W m → turns C.fns k m = some m' → MC C D W m'
  | 0, m, m', h, e => by cases e; exact h
  | k + 1, m, m', h, e => by
    have h' : (turn C.fns m).bind (turns C.fns k) = some m' := e
    rcases mc_step hD gd vb ar h with ⟨a, b⟩ | ⟨m1, a, b⟩
    · obtain ⟨td, fd, s⟩ := m
      cases a
      rw [turn_end] at h'
      cases h'
    · rw [a] at h'
      exact mc_turns hD gd vb ar b h'
theorem mc_start {L : List Fn0} {D W : Nat} {f0 : Fn0} {its : List Tree} (gd : GdP L) (m : f0 ∈ L) (hl : f0.2.1.length ≤ its.length) (vb : VB D W f0.2.2) (hi : ∀ t ∈ its, VB D W t) : MC (C00 L) D W (m00 f0 its) := by
  refine ⟨.ev (gd (C00 L) rfl f0 m) (cov_zip hl) .nil, fun v m => absurd m (List.not_mem_nil), fun t m => ?_, Nat.le_refl _, Nat.le_refl _, Nat.le_refl _⟩
  rw [List.mem_singleton.mp m]
  exact ⟨vb, fun p m => VC.of (hi p.2 (List.of_mem_zip m).2) (Nat.le_refl _)⟩
theorem safe_half {L : List Fn0} {D W n lim : Nat} {f0 : Fn0} {its : List Tree} (hD : 1 ≤ D) (gd : GdP L) (vb : ∀ f ∈ L, VB D W f.2.2) (ar : ∀ f ∈ L, f.2.1.length ≤ 12 ∧ f.2.1.Nodup) (m : f0 ∈ L) (hl : f0.2.1.length ≤ its.length) (hi : ∀ t ∈ its, VB D W t) (h1 : D + lim / 2 ≤ n) (h2 : W + lim / 2 ≤ 100000) (h3 : lim ≤ 70000) :
    ∀ k m, turns L k (m00 f0 its) = some m → m.steps ≤ lim → Safe n m := fun k m' e hs => by
  have b := mc_turns (C := C00 L) hD (gd (C00 L) rfl) vb (fun f mf => (ar f mf).1) (mc_start gd m hl (vb f0 m) hi) e
  refine ⟨by have := b.tl; omega, by have := b.fl; omega, fun w td l fd e1 e2 => ⟨fun ts el => ?_, fun f fd' e3 _ => ?_⟩⟩
  · have := (b.fnd l (by rw [e2]; exact List.mem_cons_self ..)).vb
    rw [el] at this
    have := this.len
    omega
  · have := (b.fnd l (by rw [e2]; exact List.mem_cons_self ..)).vb.1
    have := Nat.min_le_right (Og.td f) (Og.td l)
    omega
/-- the value at the end of a run -/
theorem end_half {L : List Fn0} {D W k n : Nat} {f0 : Fn0} {its : List Tree} {v : Tree} (hD : 1 ≤ D) (gd : GdP L) (vb : ∀ f ∈ L, VB D W f.2.2) (ar : ∀ f ∈ L, f.2.1.length ≤ 12 ∧ f.2.1.Nodup) (m : f0 ∈ L) (hl : f0.2.1.length ≤ its.length) (hi : ∀ t ∈ its, VB D W t) (h : turns L k (m00 f0 its) = some ⟨[], [v], n⟩) : VB (D + n / 2) (W + n / 2) v :=
  ((mc_turns (C := C00 L) hD (gd (C00 L) rfl) vb (fun f mf => (ar f mf).1) (mc_start gd m hl (vb f0 m) hi) h).fnd v (List.mem_cons_self ..)).vb
end Og

namespace Og
open PySem PySem.Spec PyProof.Rows L2
/-! ### the machine of a renamed program, within another -/
def SigOk (s : List Nat → List Nat) : Prop := (∀ x, spAr x ≠ none → s x = x) ∧ ∀ x, spAr x = none → spAr (s x) = none
def Emb (s : List Nat → List Nat) (L M : List Fn0) : Prop := SigOk s ∧ ∀ x ps b, fnOf L x = some (ps, b) → fnOf M (s x) = some (ps, ren s b)
def renT (s : List Nat → List Nat) : Task → Task
  | .ev t e => .ev (ren s t) e
  | .pick a b e => .pick (ren s a) (ren s b) e
  | .call x => .call (s x)
  | .prim w => .prim w
def embM (s : List Nat → List Nat) (R : List Task) (F : List Tree) (c : Nat) (m : MS) : MS := ⟨m.todo.map (renT s) ++ R, m.found ++ F, m.steps + c⟩
theorem spAr_prim {x : List Nat} (h : x ∈ [sameW, wordW, headW, tailW, joinW]) : spAr x ≠ none := by
  simp only [List.mem_cons, List.not_mem_nil, or_false] at h
  rcases h with rfl | rfl | rfl | rfl | rfl <;> decide
theorem spAr_or {x : List Nat} (h : spAr x ≠ none) (n1 : x ≠ qw) (n2 : x ≠ ifW) : x ∈ [sameW, wordW, headW, tailW, joinW] := by
  cases q : spAr x with
  | none => exact absurd q h
  | some k =>
    rcases spAr_two q n1 n2 with ⟨m, _⟩ | ⟨m, _⟩
    · simp only [List.mem_cons, List.not_mem_nil, or_false] at m ⊢
      rcases m with h | h | h <;> simp [h]
    · simp only [List.mem_cons, List.not_mem_nil, or_false] at m ⊢
      rcases m with h | h <;> simp [h]
theorem SigOk.op {s : List Nat → List Nat} (h : SigOk s) {x : List Nat} (n1 : x ≠ qw) (n2 : x ≠ ifW) : s x ≠ qw ∧ s x ≠ ifW ∧ renT s (opTask x) = opTask (s x) := by
  by_cases c : spAr x = none
  · have c2 := h.2 x c
    refine ⟨fun e => by rw [e] at c2; revert c2; decide, fun e => by rw [e] at c2; revert c2; decide, ?_⟩
    unfold opTask
    rw [if_neg (fun m => spAr_prim m c), if_neg (fun m => spAr_prim m c2)]
    rfl
  · have e := h.1 x c
    have m := spAr_or c n1 n2
    refine ⟨by rw [e]; exact n1, by rw [e]; exact n2, ?_⟩
    unfold opTask
    rw [if_pos m, e, if_pos m]
    rfl
theorem turn_prim {L : List Fn0} {w : List Nat} {td : List Task} {fd : List Tree} {n : Nat} : turn L ⟨.prim w :: td, fd, n⟩ = (if w ∈ [wordW, headW, tailW] then (match fd with
      | l :: r => some ⟨td, prim1 w l :: r, n⟩
      | _ => none)
    else match fd with
      | l :: f :: r => some ⟨td, prim2 w f l :: r, n⟩
      | _ => none) := by unfold turn; rfl
theorem turn_call0 {L : List Fn0} {x : List Nat} {td : List Task} {fd : List Tree} {n : Nat} : turn L ⟨.call x :: td, fd, n⟩ = (match fnOf L x with
    | some (ps, b) => if ps.length ≤ fd.length then some ⟨.ev b (ps.zip (fd.take ps.length).reverse) :: td, fd.drop ps.length, n⟩ else none
    | none => none) := by unfold turn; rfl
theorem turn_word0 {L : List Fn0} {x : List Nat} {e : Env} {td : List Task} {fd : List Tree} {n : Nat} : turn L ⟨.ev (.w x) e :: td, fd, n⟩ = (match look e x with
    | some v => some ⟨td, v :: fd, n + 1⟩
    | none => none) := by unfold turn; rfl
theorem turn_l0 {L : List Fn0} {x : List Nat} {ts : List Tree} {e : Env} {td : List Task} {fd : List Tree} {n : Nat} : turn L ⟨.ev (.l (.w x :: ts)) e :: td, fd, n⟩ = (if x = qw then (match ts with
      | [v] => some ⟨td, v :: fd, n + 1⟩
      | _ => none)
    else if x = ifW then (match ts with
      | [t, a, b] => some ⟨.ev t e :: .pick a b e :: td, fd, n + 1⟩
      | _ => none)
    else some ⟨ts.map (fun t => .ev t e) ++ (if x ∈ [sameW, wordW, headW, tailW, joinW] then .prim x else .call x) :: td, fd, n + 1⟩) := by unfold turn; rfl
open Classical in
theorem turn_emb {s : List Nat → List Nat} {L M : List Fn0} (h : Emb s L M) (R : List Task) (F : List Tree) (c : Nat) {m m' : MS} (t : turn L m = some m') : turn M (embM s R F c m) = some (embM s R F c m') := by
  obtain ⟨todo, fd, n⟩ := m
  have ec : ∀ {a b : List Task} {x y : List Tree} {i j : Nat}, a = b → x = y → i = j → some (MS.mk a x i) = some (MS.mk b y j) := fun h1 h2 h3 => by rw [h1, h2, h3]
  cases todo with
  | nil => rw [turn_end] at t; cases t
  | cons task td =>
    cases task with
    | prim w =>
      rw [turn_prim] at t
      show turn M ⟨.prim w :: (td.map (renT s) ++ R), fd ++ F, n + c⟩ = _
      rw [turn_prim]
      by_cases m1 : w ∈ [wordW, headW, tailW]
      · rw [if_pos m1] at t ⊢
        match fd, t with
        | l :: fd, t => cases t; rfl
        | [], t => cases t
      · rw [if_neg m1] at t ⊢
        match fd, t with
        | l :: f :: fd, t => cases t; rfl
        | [l], t => cases t
        | [], t => cases t
    | pick a b e =>
      cases fd with
      | nil => unfold turn at t; cases t
      | cons v fd =>
        rw [turn_pick] at t
        cases t
        show turn M ⟨.pick (ren s a) (ren s b) e :: (td.map (renT s) ++ R), v :: (fd ++ F), n + c⟩ = _
        rw [turn_pick]
        refine ec ?_ rfl rfl
        show _ = Task.ev (ren s (if v = .l [] then b else a)) e :: (td.map (renT s) ++ R)
        by_cases q : v = .l []
        · rw [if_pos q, if_pos q]
        · rw [if_neg q, if_neg q]
    | call x =>
      cases hf : fnOf L x with
      | none =>
        rw [turn_call0, hf] at t
        cases t
      | some p =>
        obtain ⟨ps, b⟩ := p
        by_cases l : ps.length ≤ fd.length
        · rw [turn_call hf l] at t
          cases t
          have := turn_call (L := M) (td := td.map (renT s) ++ R) (fd := fd ++ F) (n := n + c) (h.2 x ps b hf) (by rw [List.length_append]; omega)
          rw [List.take_append_of_le_length l, List.drop_append_of_le_length l] at this
          exact this
        · rw [turn_call0, hf] at t
          have t : (if ps.length ≤ fd.length then some (MS.mk (.ev b (ps.zip (fd.take ps.length).reverse) :: td) (fd.drop ps.length) n) else none) = some m' := t
          rw [if_neg l] at t
          cases t
    | ev u e =>
      cases u with
      | w x =>
        cases hl : look e x with
        | none =>
          rw [turn_word0, hl] at t
          cases t
        | some v =>
          rw [turn_word hl] at t
          cases t
          show turn M ⟨.ev (ren s (.w x)) e :: (td.map (renT s) ++ R), fd ++ F, n + c⟩ = _
          rw [ren_w, turn_word hl]
          exact ec rfl rfl (show n + c + 1 = n + 1 + c by omega)
      | l ts =>
        match ts, t with
        | [], t => unfold turn at t; cases t
        | .l us :: ts, t => unfold turn at t; cases t
        | .w x :: ts, t =>
          by_cases n1 : x = qw
          · subst n1
            match ts, t with
            | [v], t =>
              rw [turn_quote] at t
              cases t
              show turn M ⟨.ev (ren s (.l [.w qw, v])) e :: (td.map (renT s) ++ R), fd ++ F, n + c⟩ = _
              rw [ren_q, turn_quote]
              exact ec rfl rfl (show n + c + 1 = n + 1 + c by omega)
            | [], t => rw [turn_l0, if_pos rfl] at t; cases t
            | _ :: _ :: _, t => rw [turn_l0, if_pos rfl] at t; cases t
          · by_cases n2 : x = ifW
            · subst n2
              match ts, t with
              | [t1, y, z], t =>
                rw [turn_if] at t
                cases t
                show turn M ⟨.ev (ren s (.l [.w ifW, t1, y, z])) e :: (td.map (renT s) ++ R), fd ++ F, n + c⟩ = _
                rw [ren_c n1, h.1.1 ifW (by decide), rens, rens, rens, rens, turn_if]
                exact ec rfl rfl (show n + c + 1 = n + 1 + c by omega)
              | [], t => rw [turn_l0, if_neg n1, if_pos rfl] at t; cases t
              | [_], t => rw [turn_l0, if_neg n1, if_pos rfl] at t; cases t
              | [_, _], t => rw [turn_l0, if_neg n1, if_pos rfl] at t; cases t
              | _ :: _ :: _ :: _ :: _, t => rw [turn_l0, if_neg n1, if_pos rfl] at t; cases t
            · obtain ⟨s1, s2, s3⟩ := h.1.op n1 n2
              rw [turn_op n1 n2] at t
              cases t
              show turn M ⟨.ev (ren s (.l (.w x :: ts))) e :: (td.map (renT s) ++ R), fd ++ F, n + c⟩ = _
              rw [ren_c n1, turn_op s1 s2]
              refine ec ?_ rfl (show n + c + 1 = n + 1 + c by omega)
              show _ = (ts.map (fun t => Task.ev t e) ++ opTask x :: td).map (renT s) ++ R
              rw [List.map_append, List.map_map, List.map_cons, s3, rens_map, List.map_map, List.append_assoc]
              rfl
theorem turns_emb {s : List Nat → List Nat} {L M : List Fn0} (h : Emb s L M) (R : List Task) (F : List Tree) (c : Nat) : ∀ {k : Nat} {m m' : MS}, turns L k m = some m' → turns M k (embM s R F c m) = some (embM s R F c m')
  | 0, m, m', t => by cases t; rfl
  | k + 1, m, m', t => by
    have t' : (turn L m).bind (turns L k) = some m' := t
    cases e : turn L m with
    | none => rw [e] at t'; cases t'
    | some m1 =>
      rw [e] at t'
      show (turn M _).bind (turns M k) = _
      rw [turn_emb h R F c e]
      exact turns_emb h R F c t'
/-- a call, till its body begins -/
theorem call_turns {L : List Fn0} {x : List Nat} {ts vs : List Tree} {ps : List (List Nat)} {b : Tree} {e : Env} {n : Nat} (sp : spAr x = none) (hf : fnOf L x = some (ps, b)) (hl : ps.length = ts.length) (hs : Bigs L ts e vs n) (td : List Task) (fd : List Tree) (s : Nat) :
    ∃ k, turns L k ⟨.ev (.l (.w x :: ts)) e :: td, fd, s⟩ = some ⟨.ev b (ps.zip vs) :: td, fd, s + 1 + n⟩ := by
  obtain ⟨k1, e1⟩ := Bigs.turns hs (.call x :: td) fd (s + 1)
  have lv := hs.length
  have q1 : x ≠ qw := by intro z; rw [z] at sp; revert sp; decide
  have q2 : x ≠ ifW := by intro z; rw [z] at sp; revert sp; decide
  have m2 : opTask x = .call x := by
    unfold opTask
    rw [if_neg fun m => spAr_prim m sp]
  have tc : turn L ⟨.call x :: td, vs.reverse ++ fd, s + 1 + n⟩ = some ⟨.ev b (ps.zip vs) :: td, fd, s + 1 + n⟩ := by
    have lr : ps.length = vs.reverse.length := by rw [List.length_reverse, lv, hl]
    have := turn_call (L := L) (td := td) (fd := vs.reverse ++ fd) (n := s + 1 + n) hf (by rw [List.length_append]; omega)
    rw [this, lr, List.take_left' rfl, List.drop_left' rfl, List.reverse_reverse]
  exact ⟨1 + (k1 + 1), turns_add (turns_one ((turn_op q1 q2).trans (by rw [m2]))) (turns_add e1 (turns_one tc))⟩
theorem sigOk_sig {ns : List (List Nat)} {start : Nat} (no : ∀ y ∈ ns, spAr y = none) : SigOk (sig ns start) := by
  refine ⟨fun x h => sig_out fun m => h (no x m), fun x h => ?_⟩
  by_cases m : x ∈ ns
  · rw [sig_in m]; exact spAr_made _
  · rw [sig_out m]; exact h
/-- a good program, renamed within another -/
theorem emb_ren {L M : List Fn} {start : Nat} (g : GoodL L) (nd : (M.map (·.1)).Nodup) (sub : ∀ f ∈ renL L start, f ∈ M) : Emb (sig (L.map (·.1)) start) (L.map toF0) (M.map toF0) := by
  refine ⟨sigOk_sig fun y m => ?_, fun x ps b hf => ?_⟩
  · obtain ⟨f, mf, rfl⟩ := List.mem_map.mp m
    exact (g.nm f mf).1
  · obtain ⟨f, mf, e⟩ := List.mem_map.mp (fnOf_mem hf)
    have e1 : f.1 = x := congrArg (·.1) e
    have e2 : wsOf f.2.1 = ps := congrArg (·.2.1) e
    have e3 : f.2.2 = b := congrArg (·.2.2) e
    have mr : renF (L.map (·.1)) start f ∈ M := sub _ (List.mem_map.mpr ⟨f, mf, rfl⟩)
    have := fnOf_get nd mr
    rw [← e1, ← e2, ← e3]
    exact this
/-- know_own's program, till the given one begins -/
theorem know_turns {L : List Fn} {f0 : Fn} {k : Nat} (g : GoodL (knowL L k)) (e0 : L[0]? = some f0) (ln : f0.2.1.length = k + 1) {xs : List Tree} (lx : xs.length = k) :
    ∃ j, turns ((knowL L k).map toF0) j ⟨[.ev (fillB (madeN L.length) (.l ((knowR L k).map fnt)) k) ((mps k).zip xs)], [], 0⟩ = some ⟨[.ev (ren (sig (L.map (·.1)) 0) f0.2.2) ((wsOf f0.2.1).zip (.l ((knowL L k).map fnt) :: xs))], [], 2 * k + 20⟩ := by
  have eM := knowL_eq L k
  have eR := knowR_eq L k
  have mR : (madeN L.length, kpsT k, kbody L.length k) ∈ knowL L k := by rw [eM, eR]; simp
  have m0 : renF (L.map (·.1)) 0 f0 ∈ knowL L k := by
    rw [eM, eR]
    refine List.mem_cons_of_mem _ (List.mem_cons_of_mem _ ?_)
    unfold renL
    exact List.mem_map.mpr ⟨f0, List.mem_of_getElem? e0, rfl⟩
  have n0 : (renF (L.map (·.1)) 0 f0).1 = madeN 0 := by
    cases L with
    | nil => cases e0
    | cons f r =>
      cases e0
      show sig (f0.1 :: r.map (·.1)) 0 f0.1 = _
      rw [sig_in (List.mem_cons_self ..), List.idxOf_cons_self]
  have fR := fnOf_get g.nd mR
  have f0' := fnOf_get g.nd m0
  rw [n0] at f0'
  have l1 : (mps k).length = xs.length := by rw [mps_len, lx]
  have a1 : Bigs ((knowL L k).map toF0) (qT (.l ((knowR L k).map fnt)) :: mpsT k) ((mps k).zip xs) (.l ((knowR L k).map fnt) :: xs) (1 + xs.length) :=
    .cons big_q (bigs_words l1 fun x t m => look_zip_mem (mps_nodup k) m)
  have hl : look ((sw :: mps k).zip (.l ((knowR L k).map fnt) :: xs)) sw = some (.l ((knowR L k).map fnt)) := look_zip_mem (sw_mps k) (by rw [List.zip_cons_cons]; exact List.mem_cons_self ..)
  have tof := big_tof (L := (knowL L k).map toF0) (n := L.length) (ps := mpsT k) hl
  have a2 : Bigs ((knowL L k).map toF0) (tofT L.length (mpsT k) :: mpsT k) ((sw :: mps k).zip (.l ((knowR L k).map fnt) :: xs)) (.l ((knowL L k).map fnt) :: xs) (17 + xs.length) := by
    refine .cons ?_ (bigs_words l1 fun x t m => look_zip_mem (sw_mps k) (by rw [List.zip_cons_cons]; exact List.mem_cons_of_mem _ m))
    have em : Tree.l ((knowL L k).map fnt) = .l (.l [.w (madeN (L.length + 1)), .l (mpsT k), .l (.w (madeN L.length) :: .l [.w qw, .l ((knowR L k).map fnt)] :: mpsT k)] :: (knowR L k).map fnt) := by rw [eM]; rfl
    rw [em]
    exact tof
  obtain ⟨k1, h1⟩ := call_turns (spAr_made _) fR (by show (wsOf (kpsT k)).length = _; rw [wsOf_kps, List.length_cons, List.length_cons, mps_len, mpsT_len]) a1 [] [] 0
  have h1 : turns ((knowL L k).map toF0) k1 ⟨[.ev (fillB (madeN L.length) (.l ((knowR L k).map fnt)) k) ((mps k).zip xs)], [], 0⟩ = some ⟨[.ev (kbody L.length k) ((wsOf (kpsT k)).zip (.l ((knowR L k).map fnt) :: xs))], [], 0 + 1 + (1 + xs.length)⟩ := h1
  rw [wsOf_kps] at h1
  obtain ⟨k2, h2⟩ := call_turns (spAr_made 0) f0' (by show (wsOf f0.2.1).length = _; unfold wsOf; rw [List.length_map, ln, List.length_cons, mpsT_len]) a2 [] [] (0 + 1 + (1 + xs.length))
  refine ⟨k1 + k2, (turns_add h1 h2).trans (ms_eq (by omega))⟩
/-- the run of know_own's program -/
theorem know_run {L : List Fn} {f0 : Fn} {k : Nat} (gL : GoodL L) (g : GoodL (knowL L k)) (e0 : L[0]? = some f0) (ln : f0.2.1.length = k + 1) {xs : List Tree} (lx : xs.length = k) {i : Nat} {td : List Task} {fd : List Tree} {n : Nat}
    (h : turns (L.map toF0) i (m00 (toF0 f0) (.l ((knowL L k).map fnt) :: xs)) = some ⟨td, fd, n⟩) :
    ∃ j, turns ((knowL L k).map toF0) j ⟨[.ev (fillB (madeN L.length) (.l ((knowR L k).map fnt)) k) ((mps k).zip xs)], [], 0⟩ = some ⟨td.map (renT (sig (L.map (·.1)) 0)), fd, n + (2 * k + 20)⟩ := by
  obtain ⟨j, hj⟩ := know_turns g e0 ln lx
  have em := emb_ren (start := 0) gL g.nd (M := knowL L k) fun f m => by rw [knowL_eq, knowR_eq]; exact List.mem_cons_of_mem _ (List.mem_cons_of_mem _ m)
  have h2 := turns_emb em [] [] (2 * k + 20) h
  unfold embM at h2
  dsimp only at h2
  rw [List.append_nil, List.append_nil, List.append_nil, List.append_nil] at h2
  have e : (m00 (toF0 f0) (.l ((knowL L k).map fnt) :: xs)).todo.map (renT (sig (L.map (·.1)) 0)) = [.ev (ren (sig (L.map (·.1)) 0) f0.2.2) ((wsOf f0.2.1).zip (.l ((knowL L k).map fnt) :: xs))] := rfl
  rw [e] at h2
  have e3 : (m00 (toF0 f0) (.l ((knowL L k).map fnt) :: xs)).steps + (2 * k + 20) = 2 * k + 20 := by show 0 + _ = _; omega
  rw [e3] at h2
  exact ⟨j + i, turns_add hj h2⟩
end Og

namespace Og
open PySem PySem.Spec PyProof.Rows L2
/-! ### what the machine comes to is what the expression is worth -/
mutual
/-- a run that ends has been through the expression on top -/
theorem ev_big {C : Cx0} (gd : ∀ f ∈ C.fns, GX C f.2.1 f.2.2) : ∀ (k : Nat) {t : Tree} {e : Env} {ps : List (List Nat)} {td : List Task} {fd : List Tree} {s : Nat} {fin : MS}, GX C ps t → Cov ps e → turns C.fns k ⟨.ev t e :: td, fd, s⟩ = some fin → fin.todo = [] →
    ∃ v m k', Big C.fns t e v m ∧ k' < k ∧ turns C.fns k' ⟨td, v :: fd, s + m⟩ = some fin
  | 0, t, e, ps, td, fd, s, fin, g, c, h, hf => by cases h; cases hf
  | k + 1, t, e, ps, td, fd, s, fin, g, c, h, hf => by
    have h' : (turn C.fns ⟨.ev t e :: td, fd, s⟩).bind (turns C.fns k) = some fin := h
    cases g with
    | @w x j hj =>
      obtain ⟨v, hv⟩ := c x (at_mem hj)
      rw [turn_word hv] at h'
      exact ⟨v, 1, k, .w hv, Nat.lt_succ_self _, h'⟩
    | @q v =>
      rw [turn_quote] at h'
      exact ⟨v, 1, k, .q, Nat.lt_succ_self _, h'⟩
    | @iff t1 y z gt gy gz =>
      rw [turn_if] at h'
      obtain ⟨c1, m1, k1, b1, l1, h1⟩ := ev_big gd k gt c h' hf
      cases k1 with
      | zero => cases h1; cases hf
      | succ k1 =>
        have h1' : (turn C.fns ⟨.pick y z e :: td, c1 :: fd, s + 1 + m1⟩).bind (turns C.fns k1) = some fin := h1
        rw [turn_pick] at h1'
        have gg : GX C ps (@ite _ (c1 = .l []) (Classical.propDecidable _) z y) := by
          by_cases q : c1 = .l []
          · rw [if_pos q]; exact gz
          · rw [if_neg q]; exact gy
        obtain ⟨v, m2, k2, b2, l2, h2⟩ := ev_big gd k1 gg c h1' hf
        refine ⟨v, 1 + m1 + m2, k2, .iff b1 b2, by omega, ?_⟩
        rw [show s + (1 + m1 + m2) = s + 1 + m1 + m2 by omega]
        exact h2
    | @op x ts n1 n2 ok gs =>
      rw [turn_op n1 n2] at h'
      obtain ⟨vs, m1, k1, b1, l1, h1⟩ := evs_big gd k gs c h' hf
      have lv := b1.length
      cases k1 with
      | zero => cases h1; unfold opTask at hf; by_cases q : x ∈ [sameW, wordW, headW, tailW, joinW] <;> (first | rw [if_pos q] at hf | rw [if_neg q] at hf) <;> cases hf
      | succ k1 =>
        have h1' : (turn C.fns ⟨opTask x :: td, vs.reverse ++ fd, s + 1 + m1⟩).bind (turns C.fns k1) = some fin := h1
        rcases ok with ⟨hx, l⟩ | ⟨hx, l⟩ | ⟨sp, ps', b, hb, l⟩
        · match ts, l, b1 with
          | [t1], l, .cons (v := v) (n := n) bt .nil =>
            have eo : opTask x = .prim x := by
              unfold opTask
              rw [if_pos (by simp only [List.mem_cons, List.not_mem_nil, or_false] at hx ⊢; rcases hx with h | h | h <;> simp [h])]
            rw [eo] at h1'
            have h1' : (turn C.fns ⟨.prim x :: td, v :: fd, s + 1 + (n + 0)⟩).bind (turns C.fns k1) = some fin := h1'
            rw [turn_p1 hx] at h1'
            refine ⟨prim1 x v, 1 + n, k1, .one hx bt, by omega, ?_⟩
            rw [show s + (1 + n) = s + 1 + (n + 0) by omega]
            exact h1'
        · match ts, l, b1 with
          | [t1, t2], l, .cons (v := v1) (n := n) bt (.cons (v := v2) (n := n') bt' .nil) =>
            have eo : opTask x = .prim x := by
              unfold opTask
              rw [if_pos (by simp only [List.mem_cons, List.not_mem_nil, or_false] at hx ⊢; rcases hx with h | h <;> simp [h])]
            rw [eo] at h1'
            have h1' : (turn C.fns ⟨.prim x :: td, v2 :: v1 :: fd, s + 1 + (n + (n' + 0))⟩).bind (turns C.fns k1) = some fin := h1'
            rw [turn_p2 hx] at h1'
            refine ⟨prim2 x v1 v2, 1 + n + n', k1, .two hx bt bt', by omega, ?_⟩
            rw [show s + (1 + n + n') = s + 1 + (n + (n' + 0)) by omega]
            exact h1'
        · have eo : opTask x = .call x := by
            unfold opTask
            rw [if_neg fun m => spAr_prim m sp]
          rw [eo] at h1'
          have lr : ps'.length = vs.reverse.length := by rw [List.length_reverse, lv, l]
          have tc := turn_call (L := C.fns) (td := td) (fd := vs.reverse ++ fd) (n := s + 1 + m1) hb (by rw [List.length_append]; omega)
          rw [lr, List.take_left' rfl, List.drop_left' rfl, List.reverse_reverse] at tc
          rw [tc] at h1'
          obtain ⟨v, m2, k2, b2, l2, h2⟩ := ev_big gd k1 (gd _ (fnOf_mem hb)) (cov_zip (by rw [lv, l]; exact Nat.le_refl _)) h1' hf
          refine ⟨v, 1 + m1 + m2, k2, .call sp hb l b1 b2, by omega, ?_⟩
          rw [show s + (1 + m1 + m2) = s + 1 + m1 + m2 by omega]
          exact h2
  termination_by k => (k, 0)
theorem evs_big {C : Cx0} (gd : ∀ f ∈ C.fns, GX C f.2.1 f.2.2) : ∀ (k : Nat) {ts : List Tree} {e : Env} {ps : List (List Nat)} {td : List Task} {fd : List Tree} {s : Nat} {fin : MS}, (∀ t ∈ ts, GX C ps t) → Cov ps e → turns C.fns k ⟨ts.map (fun t => Task.ev t e) ++ td, fd, s⟩ = some fin → fin.todo = [] →
    ∃ vs m k', Bigs C.fns ts e vs m ∧ k' ≤ k ∧ turns C.fns k' ⟨td, vs.reverse ++ fd, s + m⟩ = some fin
  | k, [], e, ps, td, fd, s, fin, g, c, h, hf => ⟨[], 0, k, .nil, Nat.le_refl _, h⟩
  | k, t :: ts, e, ps, td, fd, s, fin, g, c, h, hf => by
    obtain ⟨v, m, k1, b, l, h1⟩ := ev_big gd k (g t (List.mem_cons_self ..)) c h hf
    obtain ⟨vs, m2, k2, b2, l2, h2⟩ := evs_big gd k1 (fun u mu => g u (List.mem_cons_of_mem _ mu)) c h1 hf
    refine ⟨v :: vs, m + m2, k2, .cons b b2, by omega, ?_⟩
    rw [List.reverse_cons, List.append_assoc, show s + (m + m2) = s + m + m2 by omega]
    exact h2
  termination_by k ts => (k, ts.length + 1)
end
theorem run_big {L : List Fn0} {f0 : Fn0} {its : List Tree} {k n : Nat} {v : Tree} (gd : GdP L) (m : f0 ∈ L) (hl : f0.2.1.length ≤ its.length) (h : turns L k (m00 f0 its) = some ⟨[], [v], n⟩) : Big L f0.2.2 (f0.2.1.zip its) v n := by
  obtain ⟨v', m', k', b, _, h2⟩ := ev_big (C := C00 L) (gd (C00 L) rfl) k (gd (C00 L) rfl f0 m) (cov_zip hl) h rfl
  have := (turns_stop h2 turn_end).2
  cases this
  rw [Nat.zero_add]
  exact b
end Og

namespace Og
open PySem PySem.Spec PyProof.Rows L2
/-! ### how deep the values of drawn programs are -/
section
variable {L : List Fn0} {e : Env} {v : Tree} {n : Nat}
theorem big_w_inv {x : List Nat} (h : Big L (.w x) e v n) : look e x = some v := by
  cases h with
  | w h => exact h
theorem big_q_inv {t : Tree} (h : Big L (.l [.w qw, t]) e v n) : v = t := by
  cases h with
  | q => rfl
  | one m _ => exact absurd m (by decide)
  | call sp _ _ _ _ => exact absurd sp (by decide)
open Classical in
theorem big_if_inv {t a b : Tree} (h : Big L (.l [.w ifW, t, a, b]) e v n) : ∃ c n1 n2, Big L t e c n1 ∧ Big L (if c = .l [] then b else a) e v n2 ∧ n1 < n ∧ n2 < n := by
  cases h with
  | iff h1 h2 => exact ⟨_, _, _, h1, h2, by omega, by omega⟩
  | call sp _ _ _ _ => exact absurd sp (by decide)
theorem big_one_inv {x : List Nat} {t : Tree} (m : x ∈ [wordW, headW, tailW]) (h : Big L (.l [.w x, t]) e v n) : ∃ l n1, Big L t e l n1 ∧ v = prim1 x l ∧ n1 < n := by
  cases h with
  | q => exact absurd m (by decide)
  | one m h => exact ⟨_, _, h, rfl, by omega⟩
  | call sp _ _ _ _ =>
    exfalso
    simp only [List.mem_cons, List.not_mem_nil, or_false] at m
    rcases m with rfl | rfl | rfl <;> exact absurd sp (by decide)
theorem big_two_inv {x : List Nat} {t1 t2 : Tree} (m : x ∈ [sameW, joinW]) (h : Big L (.l [.w x, t1, t2]) e v n) : ∃ f l n1 n2, Big L t1 e f n1 ∧ Big L t2 e l n2 ∧ v = prim2 x f l ∧ n1 < n ∧ n2 < n := by
  cases h with
  | two m h1 h2 => exact ⟨_, _, _, _, h1, h2, rfl, by omega, by omega⟩
  | call sp _ _ _ _ =>
    exfalso
    simp only [List.mem_cons, List.not_mem_nil, or_false] at m
    rcases m with rfl | rfl <;> exact absurd sp (by decide)
theorem big_call_inv {x : List Nat} {ts : List Tree} (sp : spAr x = none) (h : Big L (.l (.w x :: ts)) e v n) : ∃ ps b vs n1 n2, fnOf L x = some (ps, b) ∧ ps.length = ts.length ∧ Bigs L ts e vs n1 ∧ Big L b (ps.zip vs) v n2 ∧ n1 < n ∧ n2 < n := by
  cases h with
  | q => exact absurd sp (by decide)
  | iff _ _ => exact absurd sp (by decide)
  | one m _ =>
    exfalso
    simp only [List.mem_cons, List.not_mem_nil, or_false] at m
    rcases m with rfl | rfl | rfl <;> exact absurd sp (by decide)
  | two m _ _ =>
    exfalso
    simp only [List.mem_cons, List.not_mem_nil, or_false] at m
    rcases m with rfl | rfl <;> exact absurd sp (by decide)
  | call _ hf hl hs hb => exact ⟨_, _, _, _, _, hf, hl, hs, hb, by omega, by omega⟩
theorem bigs_one_inv {t : Tree} {vs : List Tree} (h : Bigs L [t] e vs n) : ∃ v n1, vs = [v] ∧ Big L t e v n1 ∧ n1 ≤ n := by
  match h with
  | .cons h .nil => exact ⟨_, _, rfl, h, by omega⟩
theorem bigs_two_inv {t u : Tree} {vs : List Tree} (h : Bigs L [t, u] e vs n) : ∃ v w n1 n2, vs = [v, w] ∧ Big L t e v n1 ∧ Big L u e w n2 ∧ n1 ≤ n ∧ n2 ≤ n := by
  match h with
  | .cons h (.cons h2 .nil) => exact ⟨_, _, _, _, rfl, h, h2, by omega, by omega⟩
end
theorem td_lc (t : Tree) (ts : List Tree) : td (.l (t :: ts)) = max (td t) (tds ts) + 1 := by rw [td, tds]
theorem td_l1 (ts : List Tree) : td (.l ts) = tds ts + 1 := by rw [td]
theorem td_nil : td (.l []) = 1 := by rw [td, tds]
theorem td_consT (f v : Tree) : td (consT f v) ≤ max (td f + 1) (td v) := by
  cases v with
  | w c =>
    show td (.l [f]) ≤ _
    rw [td_lc, tds]; omega
  | l ts =>
    show td (.l (f :: ts)) ≤ _
    rw [td_lc, td_l1]; omega
theorem td_head (v : Tree) : td (headT v) + 1 ≤ max (td v) 2 := by
  cases v with
  | w c => show td (.l []) + 1 ≤ _; rw [td_nil]; omega
  | l ts =>
    cases ts with
    | nil => show td (.l []) + 1 ≤ _; rw [td_nil]; omega
    | cons t ts => show td t + 1 ≤ _; rw [td_lc]; omega
theorem td_tail (v : Tree) : td (tailT v) ≤ max (td v) 1 := by
  cases v with
  | w c => show td (.l []) ≤ _; rw [td_nil]; omega
  | l ts =>
    cases ts with
    | nil => show td (.l []) ≤ _; rw [td_nil]; omega
    | cons t ts => show td (.l ts) ≤ _; rw [td_lc, td_l1]; omega
def hasW0 : List Nat := [104, 97, 115]
def withinW : List Nat := [119, 105, 116, 104, 105, 110]
def putW : List Nat := [112, 117, 116]
def turnW : List Nat := [116, 117, 114, 110]
def HasFn (L : List Fn0) (f : Fn) : Prop := fnOf L f.1 = some (wsOf f.2.1, f.2.2)
theorem dep_has {L : List Fn0} (h1 : HasFn L (toFn tHas)) (h2 : HasFn L (toFn tWithin)) : ∀ (N n : Nat), n ≤ N → (∀ vs r, Big L (toFn tHas).2.2 ([[119], [118]].zip vs) r n → td r ≤ 1) ∧ ∀ vs r, Big L (toFn tWithin).2.2 ([[119], [118]].zip vs) r n → td r ≤ 1 := by
  have call : ∀ {t u : Tree} {e : Env} {r : Tree} {m : Nat}, Big L (.l [.w withinW, t, u]) e r m → ∃ vs m2, Big L (toFn tWithin).2.2 ([[119], [118]].zip vs) r m2 ∧ m2 < m := fun h => by
    obtain ⟨ps, b, vs, n1, n2, hf, _, _, hb, _, l⟩ := big_call_inv (by decide) h
    have h2 : fnOf L withinW = some ([[119], [118]], (toFn tWithin).2.2) := h2
    rw [h2] at hf
    cases hf
    exact ⟨vs, n2, hb, l⟩
  intro N
  induction N with
  | zero =>
    intro n l
    refine ⟨fun vs r h => ?_, fun vs r h => ?_⟩ <;> (obtain ⟨_, _, _, _, _, _, _⟩ := big_if_inv h; omega)
  | succ N ih =>
    intro n l
    refine ⟨fun vs r h => ?_, fun vs r h => ?_⟩
    · obtain ⟨c, n1, n2, _, hb, _, l2⟩ := big_if_inv h
      by_cases e : c = .l []
      · rw [if_pos e] at hb
        obtain ⟨vs', m2, hb, l3⟩ := call hb
        exact (ih m2 (by omega)).2 vs' r hb
      · rw [if_neg e] at hb
        rw [big_q_inv hb, td_w]; omega
    · obtain ⟨c, n1, n2, _, hb, _, l2⟩ := big_if_inv h
      by_cases e : c = .l []
      · rw [if_pos e] at hb
        rw [big_q_inv hb, td_nil]; omega
      · rw [if_neg e] at hb
        obtain ⟨c2, n3, n4, _, hb2, _, l4⟩ := big_if_inv hb
        by_cases e2 : c2 = .l []
        · rw [if_pos e2] at hb2
          obtain ⟨vs', m2, hb, l3⟩ := call hb2
          exact (ih m2 (by omega)).2 vs' r hb
        · rw [if_neg e2] at hb2
          rw [big_q_inv hb2, td_w]; omega
theorem dep_put {L : List Fn0} (h1 : HasFn L (toFn tPut)) : ∀ (N n : Nat), n ≤ N → ∀ a l r, Big L (toFn tPut).2.2 ([[118], [108]].zip [a, l]) r n → td r ≤ max (td a + 1) (max (td l) 2) := by
  intro N
  induction N with
  | zero =>
    intro n l a b r h
    obtain ⟨_, _, _, _, _, _, _⟩ := big_if_inv h
    omega
  | succ N ih =>
    intro n l a b r h
    obtain ⟨c, n1, n2, hc, hb, _, l2⟩ := big_if_inv h
    by_cases e : c = .l []
    · rw [if_pos e] at hb
      obtain ⟨f, q, m1, m2, hf, hq, er, _, _⟩ := big_two_inv (x := joinW) (by simp) hb
      have ef : f = a := (Option.some.inj (big_w_inv hf)).symm
      rw [er, prim2_join, big_q_inv hq, ef]
      have := td_consT a (.l [])
      rw [td_nil] at this
      omega
    · rw [if_neg e] at hb
      obtain ⟨f, q, m1, m2, hf, hq, er, _, l4⟩ := big_two_inv (x := joinW) (by simp) hb
      obtain ⟨f1, k1, hf1, ef, _⟩ := big_one_inv (x := headW) (by simp) hf
      have ef1 : f1 = b := (Option.some.inj (big_w_inv hf1)).symm
      obtain ⟨ps, bd, vs, n3, n4, hfn, _, hvs, hbd, _, l5⟩ := big_call_inv (x := putW) (by decide) hq
      have h1' : fnOf L putW = some ([[118], [108]], (toFn tPut).2.2) := h1
      rw [h1'] at hfn
      cases hfn
      obtain ⟨x1, x2, k2, k3, rfl, hx1, hx2, _, _⟩ := bigs_two_inv hvs
      have e1 : x1 = a := (Option.some.inj (big_w_inv hx1)).symm
      obtain ⟨f2, k4, hf2, e2, _⟩ := big_one_inv (x := tailW) (by simp) hx2
      have ef2 : f2 = b := (Option.some.inj (big_w_inv hf2)).symm
      have i := ih n4 (by omega) x1 x2 q hbd
      rw [e1, e2, ef2, prim1_tail] at i
      rw [er, prim2_join, ef, ef1, prim1_head]
      have := td_consT (headT b) q
      have := td_head b
      have := td_tail b
      omega
theorem dep_turn {L : List Fn0} (h1 : HasFn L (toFn tPut)) (h2 : HasFn L (toFn tTurn)) : ∀ (N n : Nat), n ≤ N → ∀ l r, Big L (toFn tTurn).2.2 ([[108]].zip [l]) r n → td r ≤ max (td l) 2 := by
  intro N
  induction N with
  | zero =>
    intro n l b r h
    obtain ⟨_, _, _, _, _, _, _⟩ := big_if_inv h
    omega
  | succ N ih =>
    intro n l b r h
    obtain ⟨c, n1, n2, hc, hb, _, l2⟩ := big_if_inv h
    by_cases e : c = .l []
    · rw [if_pos e] at hb
      rw [big_q_inv hb, td_nil]; omega
    · rw [if_neg e] at hb
      obtain ⟨ps, bd, vs, n3, n4, hfn, _, hvs, hbd, l4, l5⟩ := big_call_inv (x := putW) (by decide) hb
      have h1' : fnOf L putW = some ([[118], [108]], (toFn tPut).2.2) := h1
      rw [h1'] at hfn
      cases hfn
      obtain ⟨x1, x2, k2, k3, rfl, hx1, hx2, _, l6⟩ := bigs_two_inv hvs
      obtain ⟨f1, k1, hf1, e1, _⟩ := big_one_inv (x := headW) (by simp) hx1
      have ef1 : f1 = b := (Option.some.inj (big_w_inv hf1)).symm
      obtain ⟨ps, bd, vs, n5, n6, hfn, _, hvs, hbd2, l7, l8⟩ := big_call_inv (x := turnW) (by decide) hx2
      have h2' : fnOf L turnW = some ([[108]], (toFn tTurn).2.2) := h2
      rw [h2'] at hfn
      cases hfn
      obtain ⟨y1, k5, rfl, hy1, _⟩ := bigs_one_inv hvs
      obtain ⟨f2, k6, hf2, e2, _⟩ := big_one_inv (x := tailW) (by simp) hy1
      have ef2 : f2 = b := (Option.some.inj (big_w_inv hf2)).symm
      have i := ih n6 (by omega) y1 x2 hbd2
      have p := dep_put h1 n4 n4 (Nat.le_refl _) x1 x2 r hbd
      rw [e1, ef1, prim1_head] at p
      rw [e2, ef2, prim1_tail] at i
      have := td_head b
      have := td_tail b
      omega
/-- functions add at most J to how deep values are -/
def DepOk (L : List Fn0) (M : List Fn) (B0 J : Nat) : Prop := ∀ f ∈ M, ∀ (B : Nat) (vs : List Tree) (v : Tree) (n : Nat), B0 ≤ B → (∀ a ∈ vs, td a ≤ B) → vs.length = f.2.1.length → Big L f.2.2 ((wsOf f.2.1).zip vs) v n → td v ≤ B + J
theorem arity_mem : ∀ {M : List Fn} {x : List Nat} {k : Nat}, arity (M.map fnt) x = some k → ∃ f ∈ M, f.1 = x ∧ f.2.1.length = k
  | [], x, k, h => by cases h
  | g :: M, x, k, h => by
    rw [List.map_cons, arity, fn?_fnt] at h
    have h : (if g.1 = x then some g.2.1.length else arity (M.map fnt) x) = some k := h
    by_cases e : g.1 = x
    · rw [if_pos e] at h
      exact ⟨g, List.mem_cons_self .., e, Option.some.inj h⟩
    · rw [if_neg e] at h
      obtain ⟨f, m, a, b⟩ := arity_mem h
      exact ⟨f, List.mem_cons_of_mem _ m, a, b⟩
theorem bigs_td {L : List Fn0} {e : Env} {B : Nat} : ∀ {ts vs : List Tree} {n : Nat}, Bigs L ts e vs n → (∀ t ∈ ts, ∀ v n, Big L t e v n → td v ≤ B) → ∀ a ∈ vs, td a ≤ B
  | _, _, _, .nil, _, a, m => absurd m (List.not_mem_nil)
  | _, _, _, .cons h r, q, a, m => by
    rcases List.mem_cons.mp m with e | m
    · rw [e]; exact q _ (List.mem_cons_self ..) _ _ h
    · exact bigs_td r (fun t mt => q t (List.mem_cons_of_mem _ mt)) a m
theorem td_p1 {w : List Nat} {v : Tree} {B : Nat} (m : w ∈ [wordW, headW, tailW]) (h : td v ≤ B) (h2 : 2 ≤ B) : td (prim1 w v) ≤ B := by
  simp only [List.mem_cons, List.not_mem_nil, or_false] at m
  rcases m with rfl | rfl | rfl
  · rw [prim1_word]
    cases v.isW with
    | true => show td yesT ≤ B; unfold yesT; rw [td_w]; omega
    | false => show td (.l []) ≤ B; rw [td_nil]; omega
  · rw [prim1_head]
    have := td_head v
    omega
  · rw [prim1_tail]
    have := td_tail v
    omega
theorem td_p2 {w : List Nat} {f v : Tree} {B : Nat} (m : w ∈ [sameW, joinW]) (hf : td f ≤ B) (h : td v ≤ B) (h2 : 1 ≤ B) : td (prim2 w f v) ≤ B + 1 := by
  simp only [List.mem_cons, List.not_mem_nil, or_false] at m
  rcases m with rfl | rfl
  · by_cases e : f = v
    · rw [prim2_same_eq _ _ e]; unfold yesT; rw [td_w]; omega
    · rw [prim2_same_ne _ _ e, td_nil]; omega
  · rw [prim2_join]
    have := td_consT f v
    omega
open Classical in
theorem dep_expr {L : List Fn0} {M : List Fn} {B0 J : Nat} (hB : 2 ≤ B0) (hJ : 1 ≤ J) (hM : ∀ f ∈ M, HasFn L f) (dM : DepOk L M B0 J) : ∀ (d : Nat) (t : Tree) (e : Env) (ps : List Tree) (v : Tree) (n B : Nat), td t ≤ d → td t ≤ B0 → GoodE (M.map fnt) ps t → B0 ≤ B → (∀ p ∈ e, td p.2 ≤ B) → Big L t e v n → td v ≤ B + td t * J
  | d, .w x, e, ps, v, n, B, _, _, _, hb, he, h => by
    have hl := big_w_inv h
    unfold look at hl
    cases q : e.find? (fun p => decide (p.1 = x)) with
    | none => rw [q] at hl; cases hl
    | some p =>
      rw [q] at hl
      have := he p (List.mem_of_find?_eq_some q)
      rw [← Option.some.inj hl]
      show td p.2 ≤ _
      omega
  | 0, .l ts, e, ps, v, n, B, hd, _, _, _, _, _ => by rw [td] at hd; omega
  | d + 1, .l ts, e, ps, v, n, B, hd, h0, g, hb, he, h => by
    obtain ⟨⟨x, r, rfl, hp⟩, hr⟩ := goodE_l.mp g
    have part : ∀ u ∈ r, td u + 1 ≤ td (.l (.w x :: r)) := fun u m => by
      rw [td]
      have := td_mem (List.mem_cons_of_mem (Tree.w x) m)
      omega
    by_cases h1 : x = qw
    · subst h1
      have hp : some 1 = some r.length := by
        unfold parts at hp
        rw [show spAr qw = some 1 by decide +kernel] at hp
        exact hp
      match r, Option.some.inj hp, part, h with
      | [u], _, part, h =>
        rw [big_q_inv h]
        have := part u (by simp)
        omega
    · have all : ∀ u ∈ r, GoodE (M.map fnt) ps u := fun u m => by
        rcases hr with hr | hr
        · exact absurd (Tree.w.inj (Option.some.inj hr)) h1
        · exact hr u m
      obtain ⟨k, hk⟩ : ∃ k, td (.l (.w x :: r)) = k + 1 := ⟨tds (.w x :: r), by rw [td]⟩
      have mulk : ∀ u ∈ r, td u * J ≤ k * J := fun u m => Nat.mul_le_mul_right J (by have := part u m; omega)
      have ek : td (.l (.w x :: r)) * J = k * J + J := by rw [hk, Nat.succ_mul]
      have ihp : ∀ u ∈ r, ∀ w m, Big L u e w m → td w ≤ B + k * J := fun u mu w m hu => by
        have := part u mu
        have := dep_expr hB hJ hM dM d u e ps w m B (by omega) (by omega) (all u mu) hb he hu
        have := mulk u mu
        omega
      rw [ek]
      by_cases h2 : x = ifW
      · subst h2
        have hp : some 3 = some r.length := by
          unfold parts at hp
          rw [show spAr ifW = some 3 by decide +kernel] at hp
          exact hp
        obtain ⟨a, b, c, rfl⟩ := three_l (Option.some.inj hp).symm
        obtain ⟨w, n1, n2, _, hb2, _, _⟩ := big_if_inv h
        by_cases q : w = .l []
        · rw [if_pos q] at hb2
          have := ihp c (by simp) v n2 hb2
          omega
        · rw [if_neg q] at hb2
          have := ihp b (by simp) v n2 hb2
          omega
      · unfold parts at hp
        cases q : spAr x with
        | some j =>
          rw [q] at hp
          have hp : some j = some r.length := hp
          rcases spAr_two q h1 h2 with ⟨m, ej⟩ | ⟨m, ej⟩
          · match r, (show r.length = 1 by rw [← Option.some.inj hp, ej]), h, ihp with
            | [u], _, h, ihp =>
              obtain ⟨l, n1, hu, ev, _⟩ := big_one_inv m h
              rw [ev]
              have := td_p1 m (ihp u (by simp) l n1 hu) (by omega)
              omega
          · match r, (show r.length = 2 by rw [← Option.some.inj hp, ej]), h, ihp with
            | [u1, u2], _, h, ihp =>
              obtain ⟨f, l, n1, n2, hu1, hu2, ev, _, _⟩ := big_two_inv m h
              rw [ev]
              have := td_p2 m (ihp u1 (by simp) f n1 hu1) (ihp u2 (by simp) l n2 hu2) (by omega)
              omega
        | none =>
          rw [q] at hp
          obtain ⟨f, mf, e1, e2⟩ := arity_mem hp
          obtain ⟨ps', b, vs, n1, n2, hfn, hl, hvs, hbd, _, _⟩ := big_call_inv q h
          have hh : fnOf L f.1 = some (wsOf f.2.1, f.2.2) := hM f mf
          rw [e1, hfn] at hh
          cases hh
          have := dM f mf (B + k * J) vs v n2 (by omega) (bigs_td hvs ihp) (by rw [hvs.length, e2]) hbd
          omega
theorem libs_dep {L : List Fn0} {jl : Nat} (hj : jl < 3) (h : ∀ f ∈ libs jl, HasFn L f) : DepOk L (libs jl) 6 1 := by
  have c : jl = 0 ∨ jl = 1 ∨ jl = 2 := by omega
  have put : HasFn L (toFn tPut) → ∀ (B : Nat) (vs : List Tree) (v : Tree) (n : Nat), 6 ≤ B → (∀ a ∈ vs, td a ≤ B) → vs.length = 2 → Big L (toFn tPut).2.2 ([[118], [108]].zip vs) v n → td v ≤ B + 1 := fun hp B vs v n hB ha hl hb => by
    match vs, hl with
    | [a, l], _ =>
      have := dep_put hp n n (Nat.le_refl _) a l v hb
      have := ha a (by simp)
      have := ha l (by simp)
      omega
  rcases c with rfl | rfl | rfl
  · intro f m B vs v n hB _ _ hb
    have h1 := h (toFn tHas) (List.mem_cons_self ..)
    have h2 := h (toFn tWithin) (List.mem_cons_of_mem _ (List.mem_cons_self ..))
    rcases List.mem_cons.mp m with e | m
    · subst e
      have := (dep_has h1 h2 n n (Nat.le_refl _)).1 vs v hb
      omega
    · have e := List.mem_singleton.mp m
      subst e
      have := (dep_has h1 h2 n n (Nat.le_refl _)).2 vs v hb
      omega
  · intro f m B vs v n hB ha hl hb
    have h1 := h (toFn tPut) (List.mem_cons_self ..)
    have h2 := h (toFn tTurn) (List.mem_cons_of_mem _ (List.mem_cons_self ..))
    rcases List.mem_cons.mp m with e | m
    · subst e
      exact put h1 B vs v n hB ha hl hb
    · have e := List.mem_singleton.mp m
      subst e
      have hl : vs.length = 1 := hl
      match vs, hl with
      | [l], _ =>
        have := dep_turn h1 h2 n n (Nat.le_refl _) l v hb
        have := ha l (by simp)
        omega
  · intro f m B vs v n hB ha hl hb
    have e := List.mem_singleton.mp m
    subst e
    exact put (h _ (List.mem_cons_self ..)) B vs v n hB ha hl hb
theorem good_fns {M : List Fn} {ps : List Tree} {b : Tree} (nd : (M.map (·.1)).Nodup) (sp : ∀ f ∈ M, spAr f.1 = none) (h : GoodIn (sigs M) ps b) : GoodE (M.map fnt) ps b := h _ fun c m => by
  obtain ⟨f, mf, rfl⟩ := List.mem_map.mp m
  show parts _ f.1 = some f.2.1.length
  unfold parts
  rw [sp f mf]
  exact arity_fns nd mf
theorem dep_add {L : List Fn0} {M : List Fn} {f : Fn} {d J : Nat} (hJ : 1 ≤ J) (hd : 1 ≤ d) (hM : ∀ g ∈ M, HasFn L g) (dM : DepOk L M 6 J) (nd : (M.map (·.1)).Nodup) (sp : ∀ g ∈ M, spAr g.1 = none) (gd : GoodIn (sigs M) f.2.1 f.2.2) (dp : td f.2.2 ≤ d) (d6 : d ≤ 6) : DepOk L (M ++ [f]) 6 (d * J) := fun g m B vs v n hB ha hl hb => by
  rcases List.mem_append.mp m with m | m
  · have := dM g m B vs v n hB ha hl hb
    have := Nat.mul_le_mul_right J hd
    omega
  · have e := List.mem_singleton.mp m
    subst e
    have := dep_expr (by decide) hJ hM dM 6 g.2.2 _ g.2.1 v n B (by omega) (by omega) (good_fns nd sp gd) hB (fun p mp => ha p.2 (List.of_mem_zip mp).2) hb
    have := Nat.mul_le_mul_right J dp
    omega
/-- the values of a drawn program -/
theorem prog_dep {n k : Nat} {L : List Fn} {f0 : Fn} (g : GoodL L) (pf : LayF n L) (e0 : L[0]? = some f0) {vs : List Tree} {v : Tree} {B : Nat} (hB : 6 ≤ B) (ha : ∀ a ∈ vs, td a ≤ B) (hb : Big (L.map toF0) f0.2.2 ((wsOf f0.2.1).zip vs) v k) : td v ≤ B + 150 := by
  obtain ⟨b, jl, Lf, hj, l2, lay, gb, db, e0', sub, nd⟩ := pf
  rw [e0] at e0'
  cases e0'
  have hM : ∀ f ∈ libs jl ++ Lf, HasFn (L.map toF0) f := fun f m => fnOf_get g.nd (sub f m)
  have sp : ∀ f ∈ libs jl ++ Lf, spAr f.1 = none := fun f m => (g.nm f (sub f m)).1
  have d0 := libs_dep hj fun f m => hM f (List.mem_append_left _ m)
  have fin : ∀ J, 1 ≤ J → J ≤ 25 → DepOk (L.map toF0) (libs jl ++ Lf) 6 J → td v ≤ B + 150 := fun J h1 h25 dM => by
    have db' := td_deep 6 b db
    have := dep_expr (by decide) h1 hM dM 6 b _ (ws (xywv.take n)) v k B db' db' (good_fns nd sp gb) hB (fun p mp => ha p.2 (List.of_mem_zip mp).2) hb
    have := Nat.mul_le_mul db' h25
    omega
  match Lf, l2, lay, hM, sp, nd, fin with
  | [], _, _, hM, sp, nd, fin => exact fin 1 (by decide) (by decide) (by rw [List.append_nil]; exact d0)
  | [f1], _, lay, hM, sp, nd, fin =>
    obtain ⟨ok, dp⟩ := lay 0 f1 rfl
    refine fin (5 * 1) (by decide) (by decide) (dep_add (by decide) (by decide) (fun g m => hM g (List.mem_append_left _ m)) d0 (List.Nodup.sublist (List.Sublist.map _ (List.sublist_append_left ..)) nd) (fun g m => sp g (List.mem_append_left _ m)) ?_ (td_deep 5 _ dp) (by decide))
    have := ok.2.2.2.1
    rwa [List.take_zero, List.append_nil] at this
  | [f1, f2], _, lay, hM, sp, nd, fin =>
    obtain ⟨ok1, dp1⟩ := lay 0 f1 rfl
    obtain ⟨ok2, dp2⟩ := lay 1 f2 rfl
    have ea : libs jl ++ [f1, f2] = (libs jl ++ [f1]) ++ [f2] := by rw [List.append_assoc]; rfl
    rw [ea] at hM sp nd
    have g1 : GoodIn (sigs (libs jl)) f1.2.1 f1.2.2 := by
      have := ok1.2.2.2.1
      rwa [List.take_zero, List.append_nil] at this
    have nd1 := List.Nodup.sublist (List.Sublist.map _ (List.sublist_append_left (libs jl ++ [f1]) [f2])) nd
    have d1 := dep_add (f := f1) (by decide) (by decide) (fun g m => hM g (List.mem_append_left _ (List.mem_append_left _ m))) d0 (List.Nodup.sublist (List.Sublist.map _ (List.sublist_append_left ..)) nd1) (fun g m => sp g (List.mem_append_left _ (List.mem_append_left _ m))) g1 (td_deep 5 _ dp1) (by decide)
    refine fin (5 * (5 * 1)) (by decide) (by decide) ?_
    rw [ea]
    exact dep_add (by decide) (by decide) (fun g m => hM g (List.mem_append_left _ m)) d1 nd1 (fun g m => sp g (List.mem_append_left _ m)) ok2.2.2.2.1 (td_deep 5 _ dp2) (by decide)
end Og

namespace Og
open PySem PySem.Spec PyProof.Rows L2
/-! ### _law_small -/
inductive Stk (W D : Nat) : Nat → List Tree → Prop
  | nil {d : Nat} : Stk W D d []
  | grp {d : Nat} {ws g : List Tree} (h : Stk W D (d + 1) ws) (hd : d ≤ D) (all : ∀ t ∈ g, td t ≤ d) (l : g.length ≤ W) : Stk W D d (ws ++ g)
theorem Stk.len {W D : Nat} {d : Nat} {st : List Tree} (h : Stk W D d st) : st.length ≤ W * (D + 1 - d) := by
  induction h with
  | nil => exact Nat.zero_le _
  | @grp d ws g h hd all l ih =>
    rw [List.length_append, show D + 1 - d = (D + 1 - (d + 1)) + 1 by omega, Nat.mul_succ]
    omega
theorem Stk.pop {W D : Nat} {d : Nat} {st st0 : List Tree} {t : Tree} (h : Stk W D d st) (e : st = st0 ++ [t]) : ∃ d', d' ≤ D ∧ td t ≤ d' ∧ Stk W D d' st0 := by
  induction h with
  | nil => exact absurd e (by simp)
  | @grp d ws g h hd all l ih =>
    rcases List.eq_nil_or_concat g with rfl | ⟨g', x, rfl⟩
    · rw [List.append_nil] at e
      exact ih e
    · rw [List.concat_eq_append, ← List.append_assoc] at e
      obtain ⟨e1, e2⟩ := List.append_inj' e rfl
      have e2 : x = t := (List.cons.inj e2).1
      subst e2 e1
      refine ⟨d, hd, all _ (by rw [List.concat_eq_append]; simp), .grp h hd (fun t m => all t (by rw [List.concat_eq_append]; exact List.mem_append_left _ m)) ?_⟩
      rw [List.concat_eq_append, List.length_append] at l
      omega
theorem Stk.push {W D d : Nat} {st ts : List Tree} (h : Stk W D d st) (hd : d ≤ D) (ht : td (.l ts) ≤ d) (l : ts.length ≤ W) : ∃ d', Stk W D d' (st ++ ts) := by
  rw [td] at ht
  refine ⟨d - 1, .grp (by rw [show d - 1 + 1 = d by omega]; exact h) (by omega) (fun t m => ?_) l⟩
  have := td_mem m
  omega
section
variable {P : Program} {w : World} {K : PySem.W.Frag} {mg : Str → Option Value} {base : Heap}
def spSmall (K : PySem.W.Frag) : Sp := fun vs H Q _ => ∃ (v : V) (t : Tree) (D W : Nat), vs = [v] ∧ Tr K H v t ∧ VB D W t ∧ 1 ≤ W ∧ W * (D + 1) ≤ 16000000 ∧ ∀ (b : Bool) (H' : Hp), (b = true → t.size ≤ 20000) → Keep [] H H' → Q (.bl b) H'
theorem has_small {k : Nat} (D : DefAt K mg "_law_small" s_law_small p_law_small) (B : Bn mg) : Has P w K mg base (k + 1) "_law_small" p_law_small (spSmall K) := by
  obtain ⟨f, fd, F, hm, hb⟩ := D.ex
  refine ⟨f, fd, F.ok sc_law_small (fun vs H Q E h => ?_) (fun cdv A outer s H vs Q E hr h => ?_), hm, F.kp, hb⟩
  · obtain ⟨_, _, _, _, rfl, _⟩ := h
    rfl
  obtain ⟨v, t, D, W, rfl, tv, vb, hW, hDW, q⟩ := h
  refine ⟨_, (pss_cons (ps_set (i := 1) sc_law_small.nd rfl (.inl rfl) (pe_lst (pa_cons (pv 0) pa_nil)))
    (pss_cons (ps_for PassesOwn.never rfl (pi_range1 (by rfl) B.range (pa_cons pe_int pa_nil)) (pg_name (i := 2) sc_law_small.nd rfl (.inl rfl))
      (pss_cons (ps_if (pt_cmpR op_eq (pe_callB call_len_seq (by rfl) B.len PySem.boot_len (pa_cons (pv 1) pa_nil)) pe_int (nomark _)) (pss_one (ps_ret pe_bl)) pss_nil)
      (pss_cons (ps_set (i := 3) sc_law_small.nd rfl (.inl rfl) (pe_bm0 PySem.F.plainAttrs_list PySem.F.slot_list_pop PySem.F.type_list_pop mt_pop (pv 1)))
      (pss_one (ps_if (pt_val (pe_callB call_isi (by rfl) B.isinstance (by decide +kernel) (pa_cons (pv 3) (pa_cons (pe_bltn (v := .ty "tuple") rfl B.tuple (by decide +kernel) rfl) pa_nil)))) (pss_one (ps_for PassesOwn.never rfl (pi_tup (pv 3)) (pg_name (i := 4) sc_law_small.nd rfl (.inl rfl))
          (pss_one (ps_expr (pe_bm PySem.F.plainAttrs_list PySem.F.slot_list_append PySem.F.type_list_append mt_append (pv 1) (pa_cons (pv 4) pa_nil)))))) pss_nil)))))
    (pss_one (ps_ret pe_bl)))), ?_⟩
  refine ⟨_, rfl, by show (1 : Nat) ≤ sizeLine; decide, fun Wd nW => ?_⟩
  have kW : Keep [] H (upd H Wd (.lst [v])) := Keep.new nW
  have eW : (upd H Wd (.lst [v])) Wd = some (.lst [v]) := upd_same
  generalize upd H Wd (.lst [v]) = H1 at kW eW
  refine ⟨(20000 : Int), rfl, by decide, by decide, ?_⟩
  refine for_range (lo := 0) (n := (20000 : Int).toNat) (fun i σ H' => ∃ (y2 y3 y4 : Option V) (ws : List V) (st : List Tree) (d : Nat), σ = [some v, some (.ref Wd), y2, y3, y4] ∧ Keep [] H H' ∧ H' Wd = some (.lst ws) ∧ Trs K H' ws st ∧ Stk W D d st ∧ (∀ t ∈ st, wid t ≤ W) ∧ sizes st + i = t.size)
    ⟨none, none, none, [v], [t], D, rfl, kW, eW, Trs.one (tv.keep kW), ?_, fun u m => by rw [List.mem_singleton.mp m]; exact vb.2, by rw [sizes_cons, sizes_nil]; omega⟩ (fun i σ H2 hi pw => ?_) (fun σ H2 pw => ?_)
  · have := Stk.grp (W := W) (D := D) (d := D) (ws := []) (g := [t]) .nil (Nat.le_refl _) (fun u m => by rw [List.mem_singleton.mp m]; exact vb.1) hW
    exact this
  · obtain ⟨y2, y3, y4, ws, st, d, rfl, kk, eW2, tst, sk, wd, sz⟩ := pw
    have lws := tst.length
    have lst := sk.len
    have hi' : i < 20000 := hi
    refine ⟨_, rfl, Wd, ws, rfl, .inl (SqL.of eW2), rfl, _, rfl, ?_⟩
    cases hst : st.length with
    | zero =>
      rw [dT (by omega)]
      have e0 := List.length_eq_zero_iff.mp hst
      subst e0
      rw [sizes_nil] at sz
      exact iteT (q true H2 (fun _ => by omega) kk)
    | succ m =>
      rw [dF (by omega)]
      refine iteF ?_
      obtain ⟨st0, u, rfl⟩ := snoc_of (xs := st) (by rintro rfl; cases hst)
      obtain ⟨ws0, vu, rfl, t0, tu⟩ := tst.snoc
      refine ⟨_, rfl, .inl ⟨rfl, _, SqL.of eW2⟩, Wd, _, vu, rfl, rfl, eW2, last_get ws0 vu, ?_⟩
      rw [List.dropLast_concat]
      have k3 : Keep [Wd] H2 (upd H2 Wd (.lst ws0)) := Keep.set eW2 (List.mem_cons_self ..)
      have e3 : (upd H2 Wd (.lst ws0)) Wd = some (.lst ws0) := upd_same
      generalize upd H2 Wd (.lst ws0) = H3 at k3 e3
      have kk3 : Keep [] H H3 := (kk.cons.trans k3).drop nW
      have tu3 := tu.keep k3
      have t03 := t0.keep k3
      obtain ⟨d', hd', du, sk'⟩ := sk.pop rfl
      rw [sizes_app, sizes_cons, sizes_nil] at sz
      obtain ⟨ty, uu, q1, q2, q3⟩ := isi_tup tu3
      refine ⟨_, rfl, _, _, ty, uu, _, rfl, q1, q2, q3, _, rfl, ?_⟩
      have wu := wd u (List.mem_append_right _ (List.mem_singleton.mpr rfl))
      have wd0 : ∀ t ∈ st0, wid t ≤ W := fun t m => wd t (List.mem_append_left _ m)
      cases u with
      | w x =>
        rw [size_w] at sz
        exact iteF ⟨_, _, _, ws0, st0, d', rfl, kk3, e3, t03, sk', wd0, by omega⟩
      | l ts =>
        refine iteT ?_
        rw [size_l] at sz
        have lts : ts.length ≤ W := by rw [wid] at wu; omega
        obtain ⟨d2, sk2⟩ := sk'.push hd' du lts
        have lsk2 := sk2.len
        have l16 : (st0 ++ ts).length ≤ 16000000 := Nat.le_trans lsk2 (Nat.le_trans (Nat.mul_le_mul_left W (show D + 1 - d2 ≤ D + 1 by omega)) hDW)
        rw [List.length_append] at l16
        obtain ⟨pa, pvs, rfl, hP, rP⟩ := tu3.list
        have lpv := rP.length
        have l00 := t03.length
        refine ⟨_, rfl, pa, rfl, ⟨_, hP⟩, ?_⟩
        refine for_tup (K := K) (a := pa) (xs := pvs) (fun j σ H' => ∃ (z4 : Option V) (ws : List V), σ = [some v, some (.ref Wd), some (.int (0 + (i : Int))), some (.ref pa), z4] ∧ Keep [Wd] H3 H' ∧ H' Wd = some (.lst ws) ∧ Trs K H' ws (st0 ++ ts.take j))
          ⟨y4, ws0, rfl, Keep.refl, e3, by rw [List.take_zero, List.append_nil]; exact t03⟩ (fun j σ H4 _ p => ?_) (fun j z σ H4 hz p => ?_) (fun σ H4 p => ?_)
        · obtain ⟨_, _, _, k4, _, _⟩ := p
          exact k4.sqT hP
        · obtain ⟨z4, ws4, rfl, k4, e4, t4⟩ := p
          have jl : j < ts.length := by have := (List.getElem?_eq_some_iff.mp hz).1; omega
          have hg : ts[j]? = some ts[j] := List.getElem?_eq_getElem jl
          obtain ⟨z', hz', tz⟩ := rP.get hg
          rw [hz] at hz'
          cases hz'
          have l4 := t4.length
          rw [List.length_append, List.length_take] at l4
          refine ⟨_, rfl, .inl ⟨rfl, _, SqL.of e4⟩, _, rfl, Wd, ws4, _, rfl, rfl, e4, Nat.lt_of_le_of_lt (show ws4.length ≤ 16000000 by omega) (by decide), ?_⟩
          have k5 : Keep [Wd] H4 (upd H4 Wd (.lst (ws4 ++ [z]))) := Keep.set e4 (List.mem_cons_self ..)
          refine ⟨_, _, rfl, k4.trans k5, upd_same, ?_⟩
          have tk : ts.take (j + 1) = ts.take j ++ [ts[j]] := by rw [List.take_add_one, hg]; rfl
          rw [tk, ← List.append_assoc]
          exact (t4.keep k5).append (Trs.one ((tz.keep k4).keep k5))
        · obtain ⟨z4, ws4, rfl, k4, e4, t4⟩ := p
          rw [List.take_of_length_le (by omega)] at t4
          refine ⟨_, _, _, ws4, st0 ++ ts, d2, rfl, (kk3.cons.trans k4).drop nW, e4, t4, sk2, fun t m => ?_, by rw [sizes_app]; omega⟩
          rcases List.mem_append.mp m with m | m
          · exact wd0 t m
          · have := wid_mem m
            rw [wid] at wu
            omega
  · obtain ⟨y2, y3, y4, ws, st, d, rfl, kk, _⟩ := pw
    exact q false H2 (fun h => by cases h) kk
end
end Og

namespace Og
open PySem PySem.Spec PyProof.Rows L2
/-! ### how wide what knows its own text is -/
theorem wids_le {n : Nat} : ∀ {ts : List Tree}, (∀ t ∈ ts, wid t ≤ n) → wids ts ≤ n
  | [], _ => by rw [wids]; exact Nat.zero_le _
  | t :: ts, h => by
    rw [wids]
    exact Nat.max_le.mpr ⟨h t (List.mem_cons_self ..), wids_le fun u m => h u (List.mem_cons_of_mem _ m)⟩
theorem wid_l {n : Nat} {ts : List Tree} (l : ts.length ≤ n) (h : ∀ t ∈ ts, wid t ≤ n) : wid (.l ts) ≤ n := by
  rw [wid]
  have := wids_le h
  omega
theorem wid_w (x : List Nat) : wid (.w x) = 0 := by rw [wid]
mutual
theorem ren_wid (s : List Nat → List Nat) : ∀ t, wid (ren s t) = wid t
  | .w x => by rw [ren_w]
  | .l [] => by rw [ren]
  | .l (.l us :: ts) => by rw [ren]
  | .l (.w n :: ts) => by
    by_cases h : n = qw
    · rw [h, ren_q]
    · rw [ren_c h, wid, wid, wids, wids, wid_w, wid_w, rens_wid s ts, List.length_cons, List.length_cons, rens_len']
theorem rens_wid (s : List Nat → List Nat) : ∀ ts, wids (rens s ts) = wids ts
  | [] => by rw [rens]
  | t :: ts => by rw [rens, wids, wids, ren_wid s t, rens_wid s ts]
theorem rens_len' {s : List Nat → List Nat} : ∀ {ts : List Tree}, (rens s ts).length = ts.length
  | [] => by rw [rens]
  | t :: ts => by rw [rens, List.length_cons, List.length_cons, rens_len']
end
theorem mpsT_wid (k n : Nat) : ∀ t ∈ mpsT k, wid t ≤ n := fun t m => by
  obtain ⟨x, _, rfl⟩ := List.mem_map.mp m
  rw [wid_w]
  exact Nat.zero_le _
theorem fnt_wid {f : Fn} {n : Nat} (h3 : 12 ≤ n) (l : f.2.1.length ≤ 12) (hp : ∀ t ∈ f.2.1, t.isW = true) (hb : wid f.2.2 ≤ n) : wid (fnt f) ≤ n := by
  refine wid_l (by show (3 : Nat) ≤ n; omega) fun t m => ?_
  rcases List.mem_cons.mp m with rfl | m
  · rw [wid_w]; exact Nat.zero_le _
  rcases List.mem_cons.mp m with rfl | m
  · refine wid_l (by omega) fun t m => ?_
    cases t with
    | w x => rw [wid_w]; exact Nat.zero_le _
    | l us => have := hp _ m; cases this
  · rw [List.mem_singleton.mp m]; exact hb
theorem qT_wid {n : Nat} {t : Tree} (h2 : 2 ≤ n) (h : wid t ≤ n) : wid (qT t) ≤ n := by
  refine wid_l h2 fun u m => ?_
  rcases List.mem_cons.mp m with rfl | m
  · rw [wid_w]; exact Nat.zero_le _
  · rw [List.mem_singleton.mp m]; exact h
theorem join_wid {n : Nat} {a b : Tree} (h2 : 3 ≤ n) (ha : wid a ≤ n) (hb : wid b ≤ n) : wid (.l [.w joinw, a, b]) ≤ n := by
  refine wid_l h2 fun u m => ?_
  rcases List.mem_cons.mp m with rfl | m
  · rw [wid_w]; exact Nat.zero_le _
  rcases List.mem_cons.mp m with rfl | m
  · exact ha
  · rw [List.mem_singleton.mp m]; exact hb
theorem ww {n : Nat} (x : List Nat) : wid (.w x) ≤ n := by rw [wid_w]; exact Nat.zero_le _
theorem tof_wid (n k : Nat) {N : Nat} (h : 12 ≤ N) (hk : k ≤ 9) : wid (tofT n (mpsT k)) ≤ N := by
  have m : wid (.l (mpsT k)) ≤ N := wid_l (by rw [mpsT_len]; omega) (mpsT_wid k N)
  have z : wid (lsT []) ≤ N := qT_wid (by omega) (wid_l (Nat.zero_le _) fun t m => absurd m (List.not_mem_nil))
  have j : ∀ {a b : Tree}, wid a ≤ N → wid b ≤ N → wid (.l [.w joinw, a, b]) ≤ N := fun ha hb => join_wid (by omega) ha hb
  have q : ∀ {t : Tree}, wid t ≤ N → wid (qT t) ≤ N := fun h => qT_wid (by omega) h
  exact j (j (q (ww _)) (j (q m) (j (j (q (ww _)) (j (j (q (ww _)) (j (ww _) z)) (q m))) z))) (ww _)
theorem knowR_wid {L : List Fn} (k : Nat) {N : Nat} (g : GoodL (knowR L k)) (hN : 12 ≤ N) (hk : k ≤ 8) (hl : L.length + 1 ≤ N) (hd : ∀ f ∈ L, wid f.2.2 ≤ N) : wid (.l ((knowR L k).map fnt)) ≤ N := by
  refine wid_l (by rw [List.length_map, knowR_len]; exact hl) fun t m => ?_
  obtain ⟨f, mf, rfl⟩ := List.mem_map.mp m
  refine fnt_wid hN (g.ps f mf).1 (g.ps f mf).isW ?_
  rw [knowR_eq] at mf
  rcases List.mem_cons.mp mf with rfl | mf
  · refine wid_l (by rw [List.length_cons, List.length_cons, mpsT_len]; omega) fun t m => ?_
    rcases List.mem_cons.mp m with rfl | m
    · exact ww _
    rcases List.mem_cons.mp m with rfl | m
    · exact tof_wid _ _ hN (by omega)
    · exact mpsT_wid k N t m
  · obtain ⟨g', mg, rfl⟩ := List.mem_map.mp mf
    show wid (ren _ g'.2.2) ≤ N
    rw [ren_wid]
    exact hd g' mg
theorem knowL_wid {L : List Fn} (k : Nat) {N : Nat} (gR : GoodL (knowR L k)) (g : GoodL (knowL L k)) (hN : 12 ≤ N) (hk : k ≤ 8) (hl : L.length + 2 ≤ N) (hd : ∀ f ∈ L, wid f.2.2 ≤ N) : wid (.l ((knowL L k).map fnt)) ≤ N := by
  have r := knowR_wid k gR hN hk (by omega) hd
  have eM := knowL_eq L k
  refine wid_l (by rw [List.length_map, knowL_len]; exact hl) fun t m => ?_
  obtain ⟨f, mf, rfl⟩ := List.mem_map.mp m
  refine fnt_wid hN (g.ps f mf).1 (g.ps f mf).isW ?_
  rw [eM] at mf
  rcases List.mem_cons.mp mf with rfl | mf
  · refine wid_l (by rw [List.length_cons, List.length_cons, mpsT_len]; omega) fun t m => ?_
    rcases List.mem_cons.mp m with rfl | m
    · exact ww _
    rcases List.mem_cons.mp m with rfl | m
    · exact qT_wid (by omega) r
    · exact mpsT_wid k N t m
  · have t1 : wid (fnt f) ≤ wids ((knowR L k).map fnt) := wid_mem (List.mem_map.mpr ⟨f, mf, rfl⟩)
    have t2 : wid f.2.2 ≤ wid (fnt f) := by
      have e : wid (fnt f) = max [Tree.w f.1, .l f.2.1, f.2.2].length (wids [.w f.1, .l f.2.1, f.2.2]) := by unfold fnt; rw [wid]
      have := wid_mem (show f.2.2 ∈ [Tree.w f.1, .l f.2.1, f.2.2] by simp)
      omega
    rw [wid] at r
    omega
/-- of a part -/
theorem body_vb {M : List Fn} {D W : Nat} (h : VB D W (.l (M.map fnt))) : ∀ f ∈ M, VB D W f.2.2 := fun f m =>
  (h.part (List.mem_map.mpr ⟨f, m, rfl⟩) : VB D W (.l [.w f.1, .l f.2.1, f.2.2])).part (by simp)
/-- _law_run of a good program; values grow by half -/
theorem run0_half {K : PySem.W.Frag} {H : Hp} {vp : V} {L : List Fn} {f0 : Fn} {ia : Addr} {ivs : List V} {its : List Tree} {lim n D W : Nat} {Q : VK} {E : XK} (mv : PgW K H vp (L.map toF0)) (g : GoodL L) (ll : L.length ≤ 100000) (e0 : L[0]? = some f0) (hS : SqL K H ia ivs) (ti : Trs K H ivs its) (hl : its.length = f0.2.1.length)
    (hD : 1 ≤ D) (vb : ∀ f ∈ L, VB D W f.2.2) (hi : ∀ t ∈ its, VB D W t) (h1 : D + lim / 2 ≤ n) (h2 : W + lim / 2 ≤ 100000) (h3 : lim ≤ 70000)
    (q : ∀ (r : V) (H' : Hp), RunRes K (L.map toF0) (m00 (toF0 f0) its) lim r H' → Keep [] H H' → Q r H') : spRun0 K n [vp, .ref ia, .int (lim : Nat)] H Q E := by
  have m0 : toF0 f0 ∈ L.map toF0 := List.mem_map.mpr ⟨f0, List.mem_of_getElem? e0, rfl⟩
  have hl' : its.length = (toF0 f0).2.1.length := by
    show its.length = (wsOf f0.2.1).length
    unfold wsOf
    rw [List.length_map, hl]
  refine ⟨vp, L.map toF0, toF0 f0, ia, ivs, its, lim, rfl, mv, hS, ti, by rw [List.getElem?_map, e0]; rfl, hl', by have := (g.ar _ m0).1; omega, g.gd, by rw [names0]; exact g.nd, by rw [List.length_map]; exact ll, g.ar, by omega, ?_, q⟩
  refine safe_half hD g.gd (fun f m => ?_) g.ar m0 (by omega) hi h1 h2 h3
  obtain ⟨f', mf, rfl⟩ := List.mem_map.mp m
  exact vb f' mf
theorem run0_end {L : List Fn} {f0 : Fn} {its : List Tree} {k n D W : Nat} {v : Tree} (g : GoodL L) (e0 : L[0]? = some f0) (hl : its.length = f0.2.1.length) (hD : 1 ≤ D) (vb : ∀ f ∈ L, VB D W f.2.2) (hi : ∀ t ∈ its, VB D W t) (h : turns (L.map toF0) k (m00 (toF0 f0) its) = some ⟨[], [v], n⟩) : VB (D + n / 2) (W + n / 2) v := by
  have m0 : toF0 f0 ∈ L.map toF0 := List.mem_map.mpr ⟨f0, List.mem_of_getElem? e0, rfl⟩
  refine end_half hD g.gd (fun f m => ?_) g.ar m0 ?_ hi h
  · obtain ⟨f', mf, rfl⟩ := List.mem_map.mp m
    exact vb f' mf
  · show (wsOf f0.2.1).length ≤ _
    unfold wsOf
    rw [List.length_map, hl]
    exact Nat.le_refl _
theorem run0_big {L : List Fn} {f0 : Fn} {its : List Tree} {k n : Nat} {v : Tree} (g : GoodL L) (e0 : L[0]? = some f0) (hl : its.length = f0.2.1.length) (h : turns (L.map toF0) k (m00 (toF0 f0) its) = some ⟨[], [v], n⟩) : Big (L.map toF0) f0.2.2 ((wsOf f0.2.1).zip its) v n := by
  have m0 : toF0 f0 ∈ L.map toF0 := List.mem_map.mpr ⟨f0, List.mem_of_getElem? e0, rfl⟩
  refine run_big (f0 := toF0 f0) g.gd m0 ?_ h
  show (wsOf f0.2.1).length ≤ _
  unfold wsOf
  rw [List.length_map, hl]
  exact Nat.le_refl _
end Og

namespace Og
open PySem PySem.Spec PyProof.Rows L2
/-! ### rings -/
def ringW (i : Nat) : List Nat := 119 :: digs (i + 1)
def ringWs (n : Nat) : List (List Nat) := (List.range n).map ringW
theorem ringWs_len (n : Nat) : (ringWs n).length = n := by unfold ringWs; rw [List.length_map, List.length_range]
theorem ringWs_nodup (n : Nat) : (ringWs n).Nodup := List.Pairwise.map _ (fun a b (h : a ≠ b) e => h (by have := digs_inj (List.cons.inj e).2; omega)) List.nodup_range
theorem ringWs_get {n i : Nat} (h : i < n) : (ringWs n)[i]? = some (ringW i) := by
  unfold ringWs
  rw [List.getElem?_map, List.getElem?_range h]; rfl
theorem ringW_word {i : Nat} (h : i < 1000) : IsWord (ringW i) := ⟨119, digs (i + 1), rfl, ⟨by decide, by decide⟩, digs_sign _, Nat.le_trans (digs_len (k := 9) (by decide) (by omega)) (by decide)⟩
def ringFront (N k : Nat) (w : List Nat) : Tree := .l [.w (madeN N), .l (mpsT k), .l (.w (madeN (N - 1)) :: .l [.w qw, .w w] :: mpsT k)]
def ringItem (N k : Nat) (w : List Nat) : Tree := .l [.w joinw, qT (ringFront N k w), .w sw]
def ringTs (N k : Nat) (ws : List (List Nat)) : Tree := lsT (ws.map (ringItem N k))
def choiceT : List (List Nat) → List Tree → Tree
  | w :: ws, c :: c' :: cs => .l [.w ifW, .l [.w sameW, .w (madeP 1), qT (.w w)], c, choiceT ws (c' :: cs)]
  | _, [c] => c
  | _, _ => .l []
def ringCall (t : Tree) (k : Nat) (m : List Nat) : Tree := .l (.w m :: t :: (mpsT (k + 1)).drop 1)
def ringB (Ls : List (List Fn)) (k : Nat) : Tree := choiceT (ringWs Ls.length) ((mainsOf Ls 0).map (ringCall (ringTs (tot Ls + 3) k (ringWs Ls.length)) k))
def ringP (Ls : List (List Fn)) (k : Nat) : List Fn := fronted Ls (kpsT (k + 1)) (ringB Ls k)
def ringC (Ls : List (List Fn)) (k : Nat) : List Fn := knowL (ringP Ls k) (k + 1)
def ringM (Ls : List (List Fn)) (k : Nat) (w : List Nat) : List Fn := fillL (ringC Ls k) (madeN (tot Ls + 2)) k (.w w)
theorem ringP_len (Ls : List (List Fn)) (k : Nat) : (ringP Ls k).length = tot Ls + 1 := by
  unfold ringP fronted
  rw [List.length_cons, sides_len]
theorem ringC_len (Ls : List (List Fn)) (k : Nat) : (ringC Ls k).length = tot Ls + 3 := by
  unfold ringC
  rw [knowL_len, ringP_len]
theorem ringM_eq (Ls : List (List Fn)) (k : Nat) (w : List Nat) : ringM Ls k w = (madeN (tot Ls + 3), mpsT k, fillB (madeN (tot Ls + 2)) (.w w) k) :: ringC Ls k := by
  unfold ringM fillL
  rw [ringC_len]
theorem ringM_tree (Ls : List (List Fn)) (k : Nat) (w : List Nat) : Tree.l ((ringM Ls k w).map fnt) = .l (ringFront (tot Ls + 3) k w :: (ringC Ls k).map fnt) := by
  rw [ringM_eq]
  rfl
/-- what a program of a ring is -/
structure RingIn (Ls : List (List Fn)) (k : Nat) : Prop where
  g : ∀ L ∈ Ls, GoodL L
  f : ∀ L ∈ Ls, ∃ f0 : Fn, L[0]? = some f0 ∧ f0.2.1.length = k + 1
  n : 1 ≤ Ls.length ∧ Ls.length ≤ 4
  k2 : k ≤ 2
theorem mains_sigs {k : Nat} : ∀ {Ls : List (List Fn)} {s : Nat} {m : List Nat}, (∀ L ∈ Ls, ∃ f0 : Fn, L[0]? = some f0 ∧ f0.2.1.length = k + 1) → m ∈ mainsOf Ls s → (m, k + 1) ∈ sigs (sides Ls s)
  | [], s, m, _, h => by cases h
  | L :: Ls, s, m, hf, h => by
    rw [mainsOf] at h
    rw [sides]
    rcases List.mem_cons.mp h with e | h
    · obtain ⟨f0, e0, l0⟩ := hf L (List.mem_cons_self ..)
      subst e
      refine sigs_mem (fun f mf => List.mem_append_left _ mf) _ ?_
      cases L with
      | nil => cases e0
      | cons f r =>
        cases e0
        refine List.mem_map.mpr ⟨renF ((f0 :: r).map (·.1)) s f0, List.mem_cons_self .., ?_⟩
        show (sig (f0.1 :: r.map (·.1)) s f0.1, f0.2.1.length) = _
        rw [sig_in (List.mem_cons_self ..), List.idxOf_cons_self, l0]
        rfl
    · exact sigs_mem (fun f mf => List.mem_append_right _ mf) _ (mains_sigs (fun L m => hf L (List.mem_cons_of_mem _ m)) h)
theorem choice_good {fs ps : List Tree} (h1 : .w (madeP 1) ∈ ps) : ∀ {ws : List (List Nat)} {cs : List Tree}, cs ≠ [] → ws.length = cs.length → (∀ c ∈ cs, GoodE fs ps c) → GoodE fs ps (choiceT ws cs)
  | [], [], ne, _, _ => absurd rfl ne
  | _ :: _, [], ne, _, _ => absurd rfl ne
  | [], _ :: _, _, l, _ => by cases l
  | [w], [c], _, _, h => h c (by simp)
  | w :: w' :: ws, [c], _, l, _ => by cases l
  | [w], c :: c' :: cs, _, l, _ => by cases l
  | w :: w' :: ws, c :: c' :: cs, _, l, h => by
    have ih := choice_good (ws := w' :: ws) (cs := c' :: cs) h1 (by simp) (by simpa using l) fun d m => h d (List.mem_cons_of_mem _ m)
    show GoodE fs ps (.l [.w ifW, .l [.w sameW, .w (madeP 1), qT (.w w)], c, choiceT (w' :: ws) (c' :: cs)])
    refine goodE_l.mpr ⟨⟨ifW, [_, _, _], rfl, by unfold parts; rw [show spAr ifW = some 3 by decide +kernel]; rfl⟩, .inr fun t m => ?_⟩
    simp only [List.tail_cons, List.mem_cons, List.not_mem_nil, or_false] at m
    rcases m with rfl | rfl | rfl
    · refine goodE_l.mpr ⟨⟨sameW, [_, _], rfl, by unfold parts; rw [show spAr sameW = some 2 by decide +kernel]; rfl⟩, .inr fun t m => ?_⟩
      simp only [List.tail_cons, List.mem_cons, List.not_mem_nil, or_false] at m
      rcases m with rfl | rfl
      · rw [goodE_w]; exact h1
      · exact gq _
    · exact h _ (by simp)
    · exact ih
theorem mains_len (Ls : List (List Fn)) (s : Nat) : (mainsOf Ls s).length = Ls.length := mainsOf_len Ls s
theorem ring_tail (k : Nat) : (mpsT (k + 1)).drop 1 = ((mps (k + 1)).drop 1).map Tree.w := by unfold mpsT; rw [List.map_drop]
theorem ringP_good {Ls : List (List Fn)} {k : Nat} (r : RingIn Ls k) : GoodL (ringP Ls k) := by
  refine fronted_good r.g (kps_good (by have := r.k2; omega)) fun fs hc => ?_
  have s0 : GoodE fs (kpsT (k + 1)) (.w sw) := by rw [goodE_w]; exact List.mem_cons_self ..
  refine choice_good (List.mem_cons_of_mem _ ?_) ?_ ?_ fun c m => ?_
  · unfold mpsT
    refine List.mem_map.mpr ⟨madeP 1, ?_, rfl⟩
    unfold mps
    exact List.mem_map.mpr ⟨0, List.mem_range.mpr (by omega), rfl⟩
  · intro e
    have := congrArg List.length e
    rw [List.length_map, mains_len] at this
    have h1 := r.n.1
    have : Ls.length = 0 := this
    omega
  · rw [List.length_map, mains_len, ringWs_len]
  · obtain ⟨m', mm, rfl⟩ := List.mem_map.mp m
    have hs := hc (m', k + 1) (sigs_mem (fun f mf => List.mem_cons_of_mem _ mf) _ (mains_sigs r.f mm))
    have hs : parts fs m' = some (k + 1) := hs
    have lt : ((mpsT (k + 1)).drop 1).length = k := by rw [List.length_drop, mpsT_len]; omega
    refine goodE_l.mpr ⟨⟨m', _, rfl, by rw [hs, List.length_cons, lt]⟩, .inr fun t mt => ?_⟩
    rcases List.mem_cons.mp mt with rfl | mt
    · refine gls fun t mt => ?_
      obtain ⟨w, _, rfl⟩ := List.mem_map.mp mt
      exact gj (gq _) s0
    · have mt := List.mem_of_mem_drop mt
      have mt2 := mt
      unfold mpsT at mt2
      obtain ⟨x, _, rfl⟩ := List.mem_map.mp mt2
      rw [goodE_w]
      exact List.mem_cons_of_mem _ mt
theorem ringP_head (Ls : List (List Fn)) (k : Nat) : (ringP Ls k)[0]? = some (madeN (tot Ls), kpsT (k + 1), ringB Ls k) := rfl
theorem kps_len (k : Nat) : (kpsT k).length = k + 1 := by unfold kpsT; rw [List.length_cons, mpsT_len]
theorem ringC_good {Ls : List (List Fn)} {k : Nat} (r : RingIn Ls k) : GoodL (ringC Ls k) :=
  knowL_good (ringP_good r) (ringP_head Ls k) (kps_len (k + 1)) (by have := r.k2; omega)
theorem ringC_head (Ls : List (List Fn)) (k : Nat) : (ringC Ls k)[0]? = some (madeN (tot Ls + 2), mpsT (k + 1), fillB (madeN (tot Ls + 1)) (.l ((knowR (ringP Ls k) (k + 1)).map fnt)) (k + 1)) := by
  unfold ringC
  rw [knowL_eq, ringP_len]
  rfl
theorem ringC_names {Ls : List (List Fn)} {k : Nat} (r : RingIn Ls k) : ∀ f ∈ ringC Ls k, ∃ i, i < tot Ls + 3 ∧ f.1 = madeN i := fun f m => by
  unfold ringC at m
  rw [knowL_eq, knowR_eq, ringP_len] at m
  rcases List.mem_cons.mp m with rfl | m
  · exact ⟨tot Ls + 2, by omega, rfl⟩
  rcases List.mem_cons.mp m with rfl | m
  · exact ⟨tot Ls + 1, by omega, rfl⟩
  · have : f.1 ∈ (renL (ringP Ls k) 0).map (·.1) := List.mem_map.mpr ⟨f, m, rfl⟩
    rw [renL_names (ringP_good r).nd, ringP_len] at this
    obtain ⟨i, mi, e⟩ := List.mem_map.mp this
    have := List.mem_range.mp mi
    exact ⟨0 + i, by omega, e.symm⟩
theorem ringM_good {Ls : List (List Fn)} {k : Nat} (r : RingIn Ls k) (w : List Nat) : GoodL (ringM Ls k w) := by
  rw [ringM_eq]
  refine goodL_cons (ringC_good r) (fun m => ?_) ?_ (mpsT_good (by have := r.k2; omega)) ?_
  · obtain ⟨f, mf, e⟩ := List.mem_map.mp m
    obtain ⟨i, hi, e2⟩ := ringC_names r f mf
    rw [e2] at e
    have := madeN_inj e
    omega
  · rw [ringC_len]
    exact goodName_made (by omega)
  · have mem : (madeN (tot Ls + 2), (qT (.w w) :: mpsT k).length) ∈ sigs ((madeN (tot Ls + 3), mpsT k, fillB (madeN (tot Ls + 2)) (.w w) k) :: ringC Ls k) := by
      refine List.mem_map.mpr ⟨_, List.mem_cons_of_mem _ (List.mem_of_getElem? (ringC_head Ls k)), ?_⟩
      show (madeN (tot Ls + 2), (mpsT (k + 1)).length) = _
      rw [List.length_cons, mpsT_len, mpsT_len]
    refine good_call (ts := qT (.w w) :: mpsT k) mem fun t m => ?_
    rcases List.mem_cons.mp m with e | m
    · rw [e]; exact good_quote
    · refine good_word m ?_
      obtain ⟨x, _, rfl⟩ := List.mem_map.mp m
      rfl
/-! ### the runs of a ring's programs -/
theorem big_ringItem {L : List Fn0} {e : Env} {N k : Nat} {w : List Nat} {R : List Tree} (hs : look e sw = some (.l R)) : Big L (ringItem N k w) e (.l (ringFront N k w :: R)) 3 := big_join big_q (.w hs) rfl
theorem big_ringTs {L : List Fn0} {e : Env} {N k : Nat} {R : List Tree} (hs : look e sw = some (.l R)) : ∀ ws : List (List Nat), Big L (ringTs N k ws) e (.l (ws.map fun w => .l (ringFront N k w :: R))) (4 * ws.length + 1)
  | [] => .q
  | w :: ws => by
    have := big_join (big_ringItem (L := L) (N := N) (k := k) (w := w) hs) (big_ringTs (N := N) (k := k) hs ws) rfl
    rw [List.length_cons, show 4 * (ws.length + 1) + 1 = 1 + 3 + (4 * ws.length + 1) by omega]
    exact this
open Classical in
theorem choice_turns {L : List Fn0} {e : Env} {x : List Nat} (hx : look e (madeP 1) = some (.w x)) (td : List Task) (fd : List Tree) : ∀ {ws : List (List Nat)} {cs : List Tree} {i : Nat} {c : Tree} (s : Nat), ws.Nodup → ws.length = cs.length → ws[i]? = some x → cs[i]? = some c →
    ∃ j n, n ≤ 4 * cs.length ∧ turns L j ⟨.ev (choiceT ws cs) e :: td, fd, s⟩ = some ⟨.ev c e :: td, fd, s + n⟩
  | [], cs, i, c, s, _, _, hw, _ => by simp at hw
  | w :: ws, [], i, c, s, _, l, _, _ => by cases l
  | [w], [c0], i, c, s, _, _, hw, hc => by
    cases i with
    | zero => cases hc; exact ⟨0, 0, by omega, rfl⟩
    | succ i => simp at hc
  | w :: w' :: ws, [c0], i, c, s, _, l, _, _ => by cases l
  | [w], c0 :: c1 :: cs, i, c, s, _, l, _, _ => by cases l
  | w :: w' :: ws, c0 :: c1 :: cs, i, c, s, nd, l, hw, hc => by
    have bs : Big L (.l [.w sameW, .w (madeP 1), qT (.w w)]) e (prim2 sameW (.w x) (.w w)) 3 := Big.two (x := sameW) (by simp) (.w hx) .q
    have t0 : turn L ⟨.ev (choiceT (w :: w' :: ws) (c0 :: c1 :: cs)) e :: td, fd, s⟩ = some ⟨.ev (.l [.w sameW, .w (madeP 1), qT (.w w)]) e :: .pick c0 (choiceT (w' :: ws) (c1 :: cs)) e :: td, fd, s + 1⟩ := turn_if
    obtain ⟨j1, h1⟩ := bs.turns (.pick c0 (choiceT (w' :: ws) (c1 :: cs)) e :: td) fd (s + 1)
    have tp := turn_pick (L := L) (td := td) (fd := fd) (n := s + 1 + 3) (y := c0) (z := choiceT (w' :: ws) (c1 :: cs)) (c := prim2 sameW (.w x) (.w w)) (e := e)
    have pre := turns_add (turns_one t0) (turns_add h1 (turns_one tp))
    rw [List.nodup_cons] at nd
    cases i with
    | zero =>
      have ew : w = x := Option.some.inj hw
      have ec : c0 = c := Option.some.inj hc
      subst ew ec
      rw [prim2_same_eq _ _ rfl] at pre
      have ny : ¬ yesT = Tree.l [] := by unfold yesT; intro h; cases h
      rw [if_neg ny] at pre
      exact ⟨_, 4, by rw [List.length_cons]; omega, pre.trans (ms_eq (show s + 1 + 3 = s + 4 by omega))⟩
    | succ i =>
      have hw' : (w' :: ws)[i]? = some x := hw
      have nx : ¬ Tree.w x = Tree.w w := fun h => nd.1 (by rw [← Tree.w.inj h]; exact List.mem_of_getElem? hw')
      rw [prim2_same_ne _ _ nx, if_pos rfl] at pre
      obtain ⟨j2, n2, l2, h2⟩ := choice_turns hx td fd (ws := w' :: ws) (cs := c1 :: cs) (i := i) (c := c) (s + 1 + 3) nd.2 (by simpa using l) hw' hc
      exact ⟨_, 4 + n2, by rw [List.length_cons]; omega, (turns_add pre h2).trans (ms_eq (show s + 1 + 3 + n2 = s + (4 + n2) by omega))⟩
mutual
theorem ren_id : ∀ t : Tree, ren id t = t
  | .w x => by rw [ren]
  | .l [] => by rw [ren]
  | .l (.l us :: ts) => by rw [ren]
  | .l (.w n :: ts) => by
    by_cases h : n = qw
    · rw [h, ren_q]
    · rw [ren_c h, rens_id ts]; rfl
theorem rens_id : ∀ ts : List Tree, rens id ts = ts
  | [] => by rw [rens]
  | t :: ts => by rw [rens, ren_id t, rens_id ts]
end
theorem renT_id (t : Task) : renT id t = t := by
  cases t with
  | ev t e => show Task.ev (ren id t) e = _; rw [ren_id]
  | pick a b e => show Task.pick (ren id a) (ren id b) e = _; rw [ren_id, ren_id]
  | call x => rfl
  | prim w => rfl
/-- more functions change nothing -/
theorem turns_sub {L M : List Fn0} (h : ∀ x p, fnOf L x = some p → fnOf M x = some p) {k : Nat} {m m' : MS} (t : turns L k m = some m') : turns M k m = some m' := by
  have em : Emb id L M := ⟨⟨fun _ _ => rfl, fun _ h => h⟩, fun x ps b hf => by rw [ren_id]; exact h x _ hf⟩
  have e : ∀ m : MS, embM id [] [] 0 m = m := fun m => by
    obtain ⟨td, fd, s⟩ := m
    unfold embM
    dsimp only
    rw [List.append_nil, List.append_nil, Nat.add_zero]
    congr
    exact (List.map_congr_left fun t _ => renT_id t).trans (List.map_id td)
  have := turns_emb em [] [] 0 t
  rwa [e, e] at this
theorem sides_at : ∀ {Ls : List (List Fn)} {i : Nat} {L : List Fn} {s : Nat}, Ls[i]? = some L → (mainsOf Ls s)[i]? = some (madeN (s + tot (Ls.take i))) ∧ ∀ f ∈ renL L (s + tot (Ls.take i)), f ∈ sides Ls s
  | [], i, L, s, h => by simp at h
  | L0 :: Ls, 0, L, s, h => by
    cases h
    rw [List.take_zero, tot, Nat.add_zero, sides, mainsOf]
    exact ⟨rfl, fun f m => List.mem_append_left _ m⟩
  | L0 :: Ls, i + 1, L, s, h => by
    have ih := sides_at (Ls := Ls) (i := i) (L := L) (s := s + L0.length) h
    rw [List.take_succ_cons, tot, sides, mainsOf, ← Nat.add_assoc]
    exact ⟨ih.1, fun f m => List.mem_append_right _ (ih.2 f m)⟩
/-- the run of the i-th program of a ring is that of the i-th given one on the list of all texts -/
theorem ring_run {Ls : List (List Fn)} {k : Nat} (r : RingIn Ls k) {i : Nat} {L : List Fn} {f0 : Fn} (hi : Ls[i]? = some L) (e0 : L[0]? = some f0) {xs : List Tree} (lx : xs.length = k) {j : Nat} {v : Tree} {n : Nat}
    (h : turns (L.map toF0) j (m00 (toF0 f0) (.l ((ringWs Ls.length).map fun w => .l ((ringM Ls k w).map fnt)) :: xs)) = some ⟨[], [v], n⟩) :
    ∃ j' c, c ≤ 100 ∧ turns ((ringM Ls k (ringW i)).map toF0) j' ⟨[.ev (fillB (madeN (tot Ls + 2)) (.w (ringW i)) k) ((mps k).zip xs)], [], 0⟩ = some ⟨[], [v], n + c⟩ := by
  have gP := ringP_good r
  have gC := ringC_good r
  have gM := ringM_good r (ringW i)
  have mL := List.mem_of_getElem? hi
  have gL := r.g L mL
  have il : i < Ls.length := (List.getElem?_eq_some_iff.mp hi).1
  obtain ⟨f0', e0', l0⟩ := r.f L mL
  rw [e0] at e0'
  cases e0'
  obtain ⟨hm, hs⟩ := sides_at (s := 0) hi
  rw [Nat.zero_add] at hm hs
  generalize tot (Ls.take i) = st at hm hs
  -- on the machine of P
  have e1 : look ((sw :: mps (k + 1)).zip (.l ((ringC Ls k).map fnt) :: .w (ringW i) :: xs)) sw = some (.l ((ringC Ls k).map fnt)) := look_zip_mem (sw_mps (k + 1)) (by rw [List.zip_cons_cons]; exact List.mem_cons_self ..)
  have em : mps (k + 1) = madeP 1 :: (mps (k + 1)).drop 1 := by
    unfold mps
    rw [List.range_succ_eq_map]
    rfl
  have ld : ((mps (k + 1)).drop 1).length = xs.length := by rw [List.length_drop, mps_len, lx]; omega
  have e2 : look ((sw :: mps (k + 1)).zip (.l ((ringC Ls k).map fnt) :: .w (ringW i) :: xs)) (madeP 1) = some (.w (ringW i)) := look_zip_mem (sw_mps (k + 1)) (by rw [List.zip_cons_cons, em, List.zip_cons_cons]; simp)
  obtain ⟨j1, n1, ln1, t1⟩ := choice_turns (L := (ringP Ls k).map toF0) e2 [] [] (ws := ringWs Ls.length) (cs := (mainsOf Ls 0).map (ringCall (ringTs (tot Ls + 3) k (ringWs Ls.length)) k)) (i := i) (c := ringCall (ringTs (tot Ls + 3) k (ringWs Ls.length)) k (madeN st)) 0 (ringWs_nodup _) (by rw [List.length_map, mains_len, ringWs_len]) (ringWs_get il) (by rw [List.getElem?_map, hm]; rfl)
  rw [List.length_map, mains_len] at ln1
  have mf : renF (L.map (·.1)) st f0 ∈ ringP Ls k := List.mem_cons_of_mem _ (hs _ (List.mem_map.mpr ⟨f0, List.mem_of_getElem? e0, rfl⟩))
  have nf : (renF (L.map (·.1)) st f0).1 = madeN st := by
    cases L with
    | nil => cases e0
    | cons f rr =>
      cases e0
      show sig (f0.1 :: rr.map (·.1)) st f0.1 = _
      rw [sig_in (List.mem_cons_self ..), List.idxOf_cons_self, Nat.add_zero]
  have hf := fnOf_get gP.nd mf
  rw [nf] at hf
  have args : Bigs ((ringP Ls k).map toF0) (ringTs (tot Ls + 3) k (ringWs Ls.length) :: (mpsT (k + 1)).drop 1) ((sw :: mps (k + 1)).zip (.l ((ringC Ls k).map fnt) :: .w (ringW i) :: xs)) (.l ((ringWs Ls.length).map fun w => .l ((ringM Ls k w).map fnt)) :: xs) (4 * (ringWs Ls.length).length + 1 + xs.length) := by
    refine .cons ?_ ?_
    · have eg : (fun w => Tree.l ((ringM Ls k w).map fnt)) = fun w => .l (ringFront (tot Ls + 3) k w :: (ringC Ls k).map fnt) := funext fun w => ringM_tree Ls k w
      rw [eg]
      exact big_ringTs e1 _
    · rw [ring_tail]
      refine bigs_words ld fun x t m => look_zip_mem (sw_mps (k + 1)) ?_
      rw [List.zip_cons_cons, em, List.zip_cons_cons]
      exact List.mem_cons_of_mem _ (List.mem_cons_of_mem _ m)
  obtain ⟨j2, t2⟩ := call_turns (spAr_made st) hf (by show (wsOf f0.2.1).length = _; unfold wsOf; rw [List.length_map, l0, List.length_cons, List.length_drop, mpsT_len]; omega) args [] [] (0 + n1)
  have emb := emb_ren (start := st) gL gP.nd (M := ringP Ls k) fun f m => List.mem_cons_of_mem _ (hs f m)
  have t3 := turns_emb emb [] [] (0 + n1 + 1 + (4 * (ringWs Ls.length).length + 1 + xs.length)) h
  unfold embM at t3
  dsimp only at t3
  rw [List.append_nil, List.append_nil] at t3
  have ee : (m00 (toF0 f0) (.l ((ringWs Ls.length).map fun w => .l ((ringM Ls k w).map fnt)) :: xs)).todo.map (renT (sig (L.map (·.1)) st)) = [.ev (renF (L.map (·.1)) st f0).2.2 ((wsOf f0.2.1).zip (.l ((ringWs Ls.length).map fun w => .l ((ringM Ls k w).map fnt)) :: xs))] := rfl
  rw [ee] at t3
  have es : (m00 (toF0 f0) (.l ((ringWs Ls.length).map fun w => .l ((ringM Ls k w).map fnt)) :: xs)).steps + (0 + n1 + 1 + (4 * (ringWs Ls.length).length + 1 + xs.length)) = 0 + n1 + 1 + (4 * (ringWs Ls.length).length + 1 + xs.length) := by show 0 + _ = _; omega
  rw [es] at t3
  have tP := turns_add t1 (turns_add t2 t3)
  -- on the machine of know_own's program
  have eP : m00 (toF0 (madeN (tot Ls), kpsT (k + 1), ringB Ls k)) (.l ((knowL (ringP Ls k) (k + 1)).map fnt) :: .w (ringW i) :: xs) = ⟨[.ev (ringB Ls k) ((sw :: mps (k + 1)).zip (.l ((ringC Ls k).map fnt) :: .w (ringW i) :: xs))], [], 0⟩ := by
    show MS.mk [.ev (ringB Ls k) ((wsOf (kpsT (k + 1))).zip _)] [] 0 = _
    rw [wsOf_kps]
    rfl
  obtain ⟨j4, t4⟩ := know_run (f0 := (madeN (tot Ls), kpsT (k + 1), ringB Ls k)) gP gC (ringP_head Ls k) (kps_len (k + 1)) (xs := .w (ringW i) :: xs) (by rw [List.length_cons, lx]) (by rw [eP]; exact tP)
  have sub : ∀ x p, fnOf ((ringC Ls k).map toF0) x = some p → fnOf ((ringM Ls k (ringW i)).map toF0) x = some p := fun x p hp => by
    obtain ⟨ps, b⟩ := p
    obtain ⟨f, mf, e⟩ := List.mem_map.mp (fnOf_mem hp)
    have := fnOf_get gM.nd (show f ∈ ringM Ls k (ringW i) by rw [ringM_eq]; exact List.mem_cons_of_mem _ mf)
    have e1 : f.1 = x := congrArg (·.1) e
    have e2 : wsOf f.2.1 = ps := congrArg (·.2.1) e
    have e3 : f.2.2 = b := congrArg (·.2.2) e
    rw [← e1, ← e2, ← e3]
    exact this
  have t5 := turns_sub sub t4
  -- the front
  have mC := List.mem_of_getElem? (ringC_head Ls k)
  have hC := fnOf_get gM.nd (show _ ∈ ringM Ls k (ringW i) by rw [ringM_eq]; exact List.mem_cons_of_mem _ mC)
  have aF : Bigs ((ringM Ls k (ringW i)).map toF0) (qT (.w (ringW i)) :: mpsT k) ((mps k).zip xs) (.w (ringW i) :: xs) (1 + xs.length) :=
    .cons big_q (bigs_words (by rw [mps_len, lx]) fun x t m => look_zip_mem (mps_nodup k) m)
  obtain ⟨j6, t6⟩ := call_turns (spAr_made _) hC (by show (wsOf (mpsT (k + 1))).length = _; unfold wsOf; rw [List.length_map, mpsT_len, List.length_cons, mpsT_len]) aF [] [] 0
  have ew : wsOf (mpsT (k + 1)) = mps (k + 1) := wsOf_ws _
  have t6 : turns ((ringM Ls k (ringW i)).map toF0) j6 ⟨[.ev (fillB (madeN (tot Ls + 2)) (.w (ringW i)) k) ((mps k).zip xs)], [], 0⟩ = some ⟨[.ev (fillB (madeN (tot Ls + 1)) (.l ((knowR (ringP Ls k) (k + 1)).map fnt)) (k + 1)) ((wsOf (mpsT (k + 1))).zip (.w (ringW i) :: xs))], [], 0 + 1 + (1 + xs.length)⟩ := t6
  rw [ew] at t6
  -- with so many steps more
  have t7 := turns_emb (s := id) (L := (ringM Ls k (ringW i)).map toF0) (M := (ringM Ls k (ringW i)).map toF0) ⟨⟨fun _ _ => rfl, fun _ h => h⟩, fun x ps b hf => by rw [ren_id]; exact hf⟩ [] [] (0 + 1 + (1 + xs.length)) t5
  unfold embM at t7
  dsimp only at t7
  rw [List.append_nil, List.append_nil, List.append_nil, List.append_nil] at t7
  have ei : ∀ td : List Task, td.map (renT id) = td := fun td => (List.map_congr_left fun t _ => renT_id t).trans (List.map_id td)
  rw [ei, ei, ringP_len] at t7
  have t7 : turns ((ringM Ls k (ringW i)).map toF0) j4 ⟨[.ev (fillB (madeN (tot Ls + 1)) (.l ((knowR (ringP Ls k) (k + 1)).map fnt)) (k + 1)) ((mps (k + 1)).zip (.w (ringW i) :: xs))], [], 0 + (0 + 1 + (1 + xs.length))⟩ = _ := t7
  rw [Nat.zero_add] at t7
  refine ⟨j6 + j4, (0 + n1 + 1 + (4 * (ringWs Ls.length).length + 1 + xs.length)) + (2 * (k + 1) + 20) + (0 + 1 + (1 + xs.length)), ?_, (turns_add t6 t7).trans (ms_eq (by omega))⟩
  have := r.n.2
  have := r.k2
  rw [ringWs_len]
  omega
end Og

namespace Og
open PySem PySem.Spec PyProof.Rows L2
section
variable {P : Program} {w : World} {K : PySem.W.Frag} {mg : Str → Option Value} {base : Heap}
def spTextsRing (K : PySem.W.Frag) : Sp := fun vs H Q _ => ∃ (N k : Nat) (wl : Addr) (vp : V) (ws : List (List Nat)), vs = [.int (N : Nat), .ref wl, vp] ∧ 1 ≤ N ∧ N ≤ 1000000 ∧ k ≤ 100 ∧ ws.length ≤ 100 ∧ SqL K H wl (ws.map fun c => V.str (tx c)) ∧ Tr K H vp (.l (mpsT k)) ∧ ∀ (v' : V) (H' : Hp), Tr K H' v' (ringTs N k ws) → Keep [] H H' → Q v' H'
theorem has_textsRing {k : Nat} (D : DefAt K mg "_texts_of_ring" s_texts_of_ring p_texts_of_ring) (B : Bn mg) (c1 : Has P w K mg base k "made_name" p_made_name spMade) (c2 : Has P w K mg base k "listing" p_listing (spListing K)) : Has P w K mg base (k + 1) "_texts_of_ring" p_texts_of_ring (spTextsRing K) := by
  obtain ⟨f, fd, F, hm, hb⟩ := D.ex
  obtain ⟨_, _, c_made_name⟩ := c1
  obtain ⟨_, _, c_listing⟩ := c2
  refine ⟨f, fd, F.ok sc_texts_of_ring (fun vs H Q E h => ?_) (fun cdv A outer s H vs Q E hr h => ?_), hm, F.kp, hb⟩
  · obtain ⟨_, _, _, _, _, rfl, _⟩ := h
    rfl
  obtain ⟨N, kk, wl, vp, ws, rfl, hN1, hN, hk, lws, sl, tp, q⟩ := h
  refine ⟨_, (pss_cons (ps_set (i := 3) sc_texts_of_ring.nd rfl (.inl rfl) (pe_lst pa_nil))
    (pss_cons (ps_for PassesOwn.never rfl (pi_list (pv 1)) (pg_name (i := 4) sc_texts_of_ring.nd rfl (.inl rfl))
      (pss_cons (ps_set (i := 5) sc_texts_of_ring.nd rfl (.inl rfl) (pe_tup (pa_cons (cal c_made_name hr rfl (pa_cons (pv 0) pa_nil)) (pa_cons (pv 2) (pa_cons (pe_tup (pa_cons (cal c_made_name hr rfl (pa_cons (pe_op op_sub (pv 0) pe_int) pa_nil)) (pa_cons (pe_tup (pa_cons pe_str (pa_cons (pv 4) pa_nil))) (StX.pa_star (pv 2) pa_nil)))) pa_nil)))))
      (pss_one (ps_expr (pe_bm PySem.F.plainAttrs_list PySem.F.slot_list_append PySem.F.type_list_append mt_append (pv 3) (pa_cons (pe_tup (pa_cons pe_str (pa_cons (pe_tup (pa_cons pe_str (pa_cons (pv 5) pa_nil))) (pa_cons pe_str pa_nil)))) pa_nil))))))
    (pss_one (ps_ret (cal c_listing hr rfl (pa_cons (pv 3) pa_nil)))))), ?_⟩
  have lq : ∀ {G : Hp}, Tr K G (.str "quote") (.w qw) := by rw [show ("quote" : Str) = tx qw by decide +kernel]; exact tr_w
  have lj : ∀ {G : Hp}, Tr K G (.str "join") (.w joinw) := by rw [show ("join" : Str) = tx joinw by decide +kernel]; exact tr_w
  have ls : ∀ {G : Hp}, Tr K G (.str "s") (.w sw) := by rw [show ("s" : Str) = tx sw by decide +kernel]; exact tr_w
  obtain ⟨pa, pvs, rfl, hP, rP⟩ := tp.list
  have lP := rP.length
  rw [mpsT_len] at lP
  refine ⟨by show (0 : Nat) ≤ sizeLine; decide, fun Td nT => ?_⟩
  have kT : Keep [] H (upd H Td (.lst [])) := Keep.new nT
  have eT : (upd H Td (.lst [])) Td = some (.lst []) := upd_same
  generalize upd H Td (.lst []) = H1 at kT eT
  refine ⟨_, rfl, wl, rfl, ⟨_, kT.sqL (by simp) sl⟩, ?_⟩
  refine for_list (K := K) (a := wl) (xs := ws.map fun c => V.str (tx c)) (fun i σ H' => ∃ (y4 y5 : Option V) (ds : List V), σ = [some (.int (N : Nat)), some (.ref wl), some (.ref pa), some (.ref Td), y4, y5] ∧ Keep [] H H' ∧ H' Td = some (.lst ds) ∧ Trs K H' ds ((ws.take i).map (ringItem N kk)))
    ⟨none, none, [], rfl, kT, eT, trs_nil⟩ (fun i σ H' _ pw => ?_) (fun i x σ H2 hx pw => ?_) (fun σ H2 pw => ?_)
  · obtain ⟨_, _, _, _, k2, _, _⟩ := pw
    exact k2.sqL (by simp) sl
  · obtain ⟨y4, y5, ds, rfl, k2, e2, t2⟩ := pw
    rw [List.getElem?_map] at hx
    obtain ⟨c, hc, rfl⟩ : ∃ c, ws[i]? = some c ∧ x = .str (tx c) := by
      cases e : ws[i]? with
      | none => rw [e] at hx; cases hx
      | some c => rw [e] at hx; exact ⟨c, rfl, (Option.some.inj hx).symm⟩
    have il := (List.getElem?_eq_some_iff.mp hc).1
    have lds := t2.length
    rw [List.length_map, List.length_take] at lds
    have hP2 := k2.sqT hP
    have rP2 := rP.keep k2
    have eN1 : ((N : Nat) : Int) - 1 = ((N - 1 : Nat) : Int) := by omega
    refine ⟨_, rfl, N, rfl, by omega, _, rfl, _, rfl, _, _, rfl, rfl, N - 1, by show [V.int (((N : Nat) : Int) - 1)] = _; rw [eN1], by omega, ?_⟩
    refine ⟨_, rfl, by show (2 : Nat) ≤ sizeLine; decide, fun T1 n1 => ?_⟩
    obtain ⟨G1, g1, k3, t3⟩ := newT n1 (trs_cons lq (Trs.one (tr_w (x := c))))
    rw [g1]
    refine ⟨_, rfl, pa, pvs, rfl, .inl (k3.sqT hP2), ?_⟩
    refine ⟨by show (V.str (tx (madeN (N - 1))) :: V.ref T1 :: (pvs ++ [])).length ≤ sizeLine; rw [List.append_nil, List.length_cons, List.length_cons]; exact Nat.le_trans (show _ ≤ 1000 by omega) (by decide), fun T2 n2 => ?_⟩
    rw [List.append_nil]
    obtain ⟨G2, g2, k4, t4⟩ := newT n2 (trs_cons (tr_w (x := madeN (N - 1))) (trs_cons t3 (rP2.keep k3)))
    rw [g2]
    have tp2 : Tr K H2 (.ref pa) (.l (mpsT kk)) := tp.keep k2
    refine ⟨by show (3 : Nat) ≤ sizeLine; decide, fun T3 n3 => ?_⟩
    obtain ⟨G3, g3, k5, t5⟩ := newT n3 (trs_cons (tr_w (x := madeN N)) (trs_cons ((tp2.keep k3).keep k4) (Trs.one t4)))
    rw [g3]
    have k25 := k3.trans (k4.trans k5)
    have e5 := k25.get e2 (by simp)
    refine ⟨_, rfl, .inl ⟨rfl, _, SqL.of e5⟩, _, rfl, by show (2 : Nat) ≤ sizeLine; decide, fun T4 n4 => ?_⟩
    obtain ⟨G4, g4, k6, t6⟩ := newT n4 (trs_cons lq (Trs.one t5))
    rw [g4]
    refine ⟨by show (3 : Nat) ≤ sizeLine; decide, fun T5 n5 => ?_⟩
    obtain ⟨G5, g5, k7, t7⟩ := newT n5 (trs_cons lj (trs_cons t6 (Trs.one ls)))
    rw [g5]
    have k27 := k25.trans (k6.trans k7)
    have e7 := k27.get e2 (by simp)
    refine ⟨Td, ds, _, rfl, rfl, e7, Nat.lt_of_le_of_lt (show _ ≤ 1000 by omega) (by decide), ?_⟩
    have k8 : Keep [Td] G5 (upd G5 Td (.lst (ds ++ [.ref T5]))) := Keep.set e7 (List.mem_cons_self ..)
    have k28 : Keep [Td] H2 (upd G5 Td (.lst (ds ++ [.ref T5]))) := k27.cons.trans k8
    refine ⟨_, _, _, rfl, (k2.cons.trans k28).drop nT, upd_same, ?_⟩
    have tk : ws.take (i + 1) = ws.take i ++ [c] := by rw [List.take_add_one, hc]; rfl
    rw [tk, List.map_append]
    exact (t2.keep k28).append (Trs.one (t7.keep k8))
  · obtain ⟨y4, y5, ds, rfl, k2, e2, t2⟩ := pw
    rw [List.length_map, List.take_of_length_le (Nat.le_refl _)] at t2
    have lds := t2.length
    rw [List.length_map] at lds
    exact ⟨_, rfl, Td, ds, _, rfl, SqL.of e2, t2, by omega, fun v' H' tv k3 => q v' H' tv (k2.trans k3)⟩
def spChoice (K : PySem.W.Frag) : Sp := fun vs H Q _ => ∃ (wl cl : Addr) (ws : List (List Nat)) (cvs : List V) (cs : List Tree), vs = [.ref wl, .ref cl] ∧ ws.length = cs.length ∧ 1 ≤ cs.length ∧ cs.length ≤ 100 ∧ SqL K H wl (ws.map fun c => V.str (tx c)) ∧ SqL K H cl cvs ∧ Trs K H cvs cs ∧ ∀ (v' : V) (H' : Hp), Tr K H' v' (choiceT ws cs) → Keep [] H H' → Q v' H'
theorem choice_last {w : List Nat} {c : Tree} : choiceT [w] [c] = c := rfl
theorem choice_step {ws : List (List Nat)} {cs : List Tree} {j : Nat} {w : List Nat} {c : Tree} (l : ws.length = cs.length) (hw : ws[j]? = some w) (hc : cs[j]? = some c) (h : j + 1 < cs.length) : choiceT (ws.drop j) (cs.drop j) = .l [.w ifW, .l [.w sameW, .w (madeP 1), qT (.w w)], c, choiceT (ws.drop (j + 1)) (cs.drop (j + 1))] := by
  have e1 : ws.drop j = w :: ws.drop (j + 1) := by
    have := List.drop_eq_getElem_cons (show j < ws.length by omega)
    rw [this, (List.getElem?_eq_some_iff.mp hw).2]
  have e2 : cs.drop j = c :: cs.drop (j + 1) := by
    have := List.drop_eq_getElem_cons (show j < cs.length by omega)
    rw [this, (List.getElem?_eq_some_iff.mp hc).2]
  rw [e1, e2]
  cases hd : cs.drop (j + 1) with
  | nil =>
    have := congrArg List.length hd
    rw [List.length_drop] at this
    have : cs.length - (j + 1) = 0 := this
    omega
  | cons c' cs' => rfl
theorem has_choice {k : Nat} (D : DefAt K mg "_choice_by_word" s_choice_by_word p_choice_by_word) (B : Bn mg) : Has P w K mg base (k + 1) "_choice_by_word" p_choice_by_word (spChoice K) := by
  obtain ⟨f, fd, F, hm, hb⟩ := D.ex
  refine ⟨f, fd, F.ok sc_choice_by_word (fun vs H Q E h => ?_) (fun cdv A outer s H vs Q E hr h => ?_), hm, F.kp, hb⟩
  · obtain ⟨_, _, _, _, _, rfl, _⟩ := h
    rfl
  obtain ⟨wl, cl, ws, cvs, cs, rfl, lw, l1, l100, sw0, sc0, tc, q⟩ := h
  refine ⟨_, (pss_cons (ps_set (i := 2) sc_choice_by_word.nd rfl (.inl rfl) (pe_ix ix_list (pv 1) (pe_un un_neg pe_int) (fun _ _ => rfl)))
    (pss_cons (ps_for PassesOwn.never rfl (pi_range3 rfl B.range (pa_cons (pe_op op_sub (pe_callB call_len_seq (by rfl) B.len PySem.boot_len (pa_cons (pv 1) pa_nil)) pe_int) (pa_cons (pe_un un_neg pe_int) (pa_cons (pe_un un_neg pe_int) pa_nil)))) (pg_name (i := 3) sc_choice_by_word.nd rfl (.inl rfl))
      (pss_one (ps_set (i := 2) sc_choice_by_word.nd rfl (.inl rfl) (pe_tup (pa_cons pe_str (pa_cons (pe_tup (pa_cons pe_str (pa_cons pe_str (pa_cons (pe_tup (pa_cons pe_str (pa_cons (pe_ix ix_list (pv 0) (pv 3) (fun _ _ => rfl)) pa_nil))) pa_nil)))) (pa_cons (pe_ix ix_list (pv 1) (pv 3) (fun _ _ => rfl)) (pa_cons (pv 2) pa_nil))))))))
    (pss_one (ps_ret (pv 2))))), ?_⟩
  have lq : ∀ {G : Hp}, Tr K G (.str "quote") (.w qw) := by rw [show ("quote" : Str) = tx qw by decide +kernel]; exact tr_w
  have li : ∀ {G : Hp}, Tr K G (.str "if") (.w ifW) := by rw [show ("if" : Str) = tx ifW by decide +kernel]; exact tr_w
  have ls : ∀ {G : Hp}, Tr K G (.str "same") (.w sameW) := by rw [show ("same" : Str) = tx sameW by decide +kernel]; exact tr_w
  have lx : ∀ {G : Hp}, Tr K G (.str "x1") (.w (madeP 1)) := by rw [show ("x1" : Str) = tx (madeP 1) by decide +kernel]; exact tr_w
  have lcv := tc.length
  obtain ⟨cs0, c0, rfl⟩ := snoc_of (xs := cs) (by rintro rfl; cases l1)
  obtain ⟨cvs0, vc0, rfl, t0, tc0⟩ := tc.snoc
  refine ⟨_, rfl, _, rfl, cl, _, _, vc0, rfl, rfl, sc0, atI_last _ _, ?_⟩
  have n0 : (cs0 ++ [c0]).length = cs0.length + 1 := by rw [List.length_append, List.length_singleton]
  have nv : (cvs0 ++ [vc0]).length = cs0.length + 1 := by rw [lcv, n0]
  have hrg : RgC ((((cvs0 ++ [vc0]).length : Nat) : Int) - 2) (-1) (-1) cs0.length := by
    have := RgC.neg (i := (((cvs0 ++ [vc0]).length : Nat) : Int) - 2) (j := -1) (by rw [nv]; omega) (by rw [nv]; omega) (by decide) (by decide)
    rwa [show ((((cvs0 ++ [vc0]).length : Nat) : Int) - 2 - -1).toNat = cs0.length by rw [nv]; omega] at this
  refine ⟨_, rfl, cl, _, rfl, .inl sc0, _, _, rfl, rfl, _, rfl, _, rfl, _, _, _, cs0.length, rfl, hrg, ?_⟩
  refine for_rangeC (n := cs0.length) (fun i σ H' => ∃ (y3 : Option V) (vb : V), σ = [some (.ref wl), some (.ref cl), some vb, y3] ∧ Keep [] H H' ∧ Tr K H' vb (choiceT (ws.drop (cs0.length - i)) ((cs0 ++ [c0]).drop (cs0.length - i))))
    ⟨none, vc0, rfl, Keep.refl, ?_⟩ (fun i σ H1 il pw => ?_) (fun σ H1 pw => ?_)
  · rw [Nat.sub_zero, List.drop_left' rfl]
    have e1 : ∃ w, ws.drop cs0.length = [w] := by
      have hg := List.getElem?_eq_getElem (show cs0.length < ws.length by omega)
      refine ⟨ws[cs0.length], ?_⟩
      rw [List.drop_eq_getElem_cons (show cs0.length < ws.length by omega), List.drop_eq_nil_of_le (by omega)]
    obtain ⟨w, e1⟩ := e1
    rw [e1]
    exact tc0
  · obtain ⟨y3, vb, rfl, k1, tb⟩ := pw
    have jl : cs0.length - (i + 1) < cs0.length := by omega
    obtain ⟨j, hj⟩ : ∃ j, j = cs0.length - (i + 1) := ⟨_, rfl⟩
    have hi : cs0.length - i = j + 1 := by omega
    rw [hi] at tb
    rw [← hj]
    have hw := List.getElem?_eq_getElem (show j < ws.length by omega)
    have hc := List.getElem?_eq_getElem (show j < (cs0 ++ [c0]).length by omega)
    obtain ⟨vc, hvc, tcj⟩ := tc.get hc
    have step := choice_step lw hw hc (by omega)
    generalize ws[j] = wj at hw step
    generalize (cs0 ++ [c0])[j] = cj at hc tcj step
    have hwv : (ws.map fun c => V.str (tx c))[j]? = some (.str (tx wj)) := by rw [List.getElem?_map, hw]; rfl
    have ez : (((cvs0 ++ [vc0]).length : Nat) : Int) - 2 + ((i : Nat) : Int) * -1 = (j : Nat) := by rw [nv]; omega
    rw [ez]
    have sw1 := k1.sqL (by simp) sw0
    refine ⟨_, rfl, _, rfl, wl, _, _, _, rfl, rfl, sw1, atI_nat hwv, by show (2 : Nat) ≤ sizeLine; decide, fun T1 n1 => ?_⟩
    obtain ⟨G1, g1, k2, t2⟩ := newT n1 (trs_cons lq (Trs.one (tr_w (x := wj))))
    rw [g1]
    refine ⟨by show (3 : Nat) ≤ sizeLine; decide, fun T2 n2 => ?_⟩
    obtain ⟨G2, g2, k3, t3⟩ := newT n2 (trs_cons ls (trs_cons lx (Trs.one t2)))
    rw [g2]
    have k13 := k1.trans (k2.trans k3)
    refine ⟨_, rfl, _, rfl, cl, _, _, _, rfl, rfl, k13.sqL (by simp) sc0, atI_nat hvc, _, rfl, by show (4 : Nat) ≤ sizeLine; decide, fun T3 n3 => ?_⟩
    obtain ⟨G3, g3, k4, t4⟩ := newT n3 (trs_cons li (trs_cons t3 (trs_cons (tcj.keep k13) (Trs.one (tb.keep (k2.trans k3))))))
    rw [g3]
    refine ⟨_, _, rfl, k13.trans k4, ?_⟩
    rw [step]
    exact t4
  · obtain ⟨y3, vb, rfl, k1, tb⟩ := pw
    rw [Nat.sub_self, List.drop_zero, List.drop_zero] at tb
    exact ⟨_, rfl, q _ _ tb k1⟩
end
end Og

namespace Og
open PySem PySem.Spec PyProof.Rows L2
/-! ### how large rings are -/
theorem lsT_size : ∀ ts : List Tree, (lsT ts).size = sizes ts + 2 * ts.length + 3
  | [] => by rw [ls0_size, sizes_nil]; rfl
  | t :: ts => by rw [lsT, join_size, lsT_size ts, sizes_cons, List.length_cons]; omega
theorem ringFront_size (N k : Nat) (w : List Nat) : (ringFront N k w).size = 2 * k + 8 := by
  unfold ringFront
  rw [size_l, sizes_cons, sizes_cons, sizes_cons, sizes_nil, size_w, size_l, mpsT_size, size_l, sizes_cons, sizes_cons, size_w, size_l, sizes_cons, sizes_cons, sizes_nil, size_w, size_w, mpsT_size]
  omega
theorem ringItem_size (N k : Nat) (w : List Nat) : (ringItem N k w).size = 2 * k + 13 := by
  unfold ringItem
  rw [join_size, qT_size, ringFront_size, size_w]
theorem ringTs_size (N k : Nat) (ws : List (List Nat)) : (ringTs N k ws).size = ws.length * (2 * k + 15) + 3 := by
  unfold ringTs
  rw [lsT_size, List.length_map]
  have : ∀ ws : List (List Nat), sizes (ws.map (ringItem N k)) + 2 * ws.length = ws.length * (2 * k + 15) := fun ws => by
    induction ws with
    | nil => rw [List.map_nil, sizes_nil, List.length_nil, Nat.zero_mul]
    | cons w ws ih =>
      have e : (ws.length + 1) * (2 * k + 15) = ws.length * (2 * k + 15) + (2 * k + 15) := Nat.succ_mul ..
      rw [List.map_cons, sizes_cons, ringItem_size, List.length_cons, e, ← ih]
      omega
  rw [this]
theorem choice_size {C : Nat} : ∀ {ws : List (List Nat)} {cs : List Tree}, (∀ c ∈ cs, c.size ≤ C) → (choiceT ws cs).size ≤ cs.length * (C + 8) + 1
  | _, [], _ => by
    have : ∀ ws, choiceT ws [] = .l [] := fun ws => by cases ws <;> rfl
    rw [this, size_l, sizes_nil]; omega
  | ws, [c], h => by
    have : ∀ ws, choiceT ws [c] = c := fun ws => by cases ws <;> rfl
    rw [this]
    have := h c (by simp)
    rw [List.length_singleton]
    omega
  | [], c :: c' :: cs, h => by
    show (Tree.l []).size ≤ _
    rw [size_l, sizes_nil]; omega
  | w :: ws, c :: c' :: cs, h => by
    have ih := choice_size (ws := ws) (cs := c' :: cs) fun d m => h d (List.mem_cons_of_mem _ m)
    have h0 := h c (by simp)
    show (Tree.l [.w ifW, .l [.w sameW, .w (madeP 1), qT (.w w)], c, choiceT ws (c' :: cs)]).size ≤ _
    rw [size_l, sizes_cons, sizes_cons, sizes_cons, sizes_cons, sizes_nil, size_w, size_l, sizes_cons, sizes_cons, sizes_cons, sizes_nil, size_w, size_w, qT_size, size_w]
    rw [List.length_cons, Nat.succ_mul]
    omega
theorem ringCall_size (t : Tree) (k : Nat) (m : List Nat) : (ringCall t k m).size = t.size + k + 2 := by
  unfold ringCall
  have : sizes ((mpsT (k + 1)).drop 1) = k := by
    rw [ring_tail, sizes_ws, List.length_drop, mps_len]; omega
  rw [size_l, sizes_cons, sizes_cons, size_w, this]
  omega
theorem ringB_size {Ls : List (List Fn)} {k : Nat} (r : RingIn Ls k) : (ringB Ls k).size ≤ 500 := by
  obtain ⟨n1, n4⟩ := r.n
  have k2 := r.k2
  have ts : (ringTs (tot Ls + 3) k (ringWs Ls.length)).size ≤ 79 := by
    rw [ringTs_size, ringWs_len]
    have := Nat.mul_le_mul n4 (show 2 * k + 15 ≤ 19 by omega)
    omega
  have := choice_size (C := 83) (ws := ringWs Ls.length) (cs := (mainsOf Ls 0).map (ringCall (ringTs (tot Ls + 3) k (ringWs Ls.length)) k)) fun c m => by
    obtain ⟨m', _, rfl⟩ := List.mem_map.mp m
    rw [ringCall_size]; omega
  rw [List.length_map, mains_len] at this
  unfold ringB
  have := Nat.mul_le_mul_right (83 + 8) n4
  omega
theorem lsT_td {d : Nat} (h2 : 2 ≤ d) : ∀ {ts : List Tree}, (∀ t ∈ ts, td t ≤ d) → td (lsT ts) ≤ d + ts.length
  | [], _ => by
    have : td (lsT []) ≤ 2 := by decide +kernel
    rw [List.length_nil]; omega
  | t :: ts, h => by
    have ih := lsT_td h2 (ts := ts) fun u m => h u (List.mem_cons_of_mem _ m)
    have h0 := h t (by simp)
    rw [lsT, List.length_cons]
    refine td_l (n := d + ts.length) fun u m => ?_
    rcases List.mem_cons.mp m with rfl | m
    · rw [td_w]; omega
    rcases List.mem_cons.mp m with rfl | m
    · omega
    · rw [List.mem_singleton.mp m]; exact ih
theorem ringItem_td (N k : Nat) (w : List Nat) : td (ringItem N k w) ≤ 6 := by
  have hm : td (.l (mpsT k)) ≤ 1 := td_l fun t m => mpsT_td k 0 t m
  have hq : td (.l [Tree.w qw, .w w]) ≤ 1 := td_l fun t m => by
    rcases List.mem_cons.mp m with rfl | m
    · rw [td_w]; exact Nat.le_refl _
    · rw [List.mem_singleton.mp m, td_w]; exact Nat.le_refl _
  have hc : td (.l (.w (madeN (N - 1)) :: .l [.w qw, .w w] :: mpsT k)) ≤ 2 := td_l fun t m => by
    rcases List.mem_cons.mp m with rfl | m
    · rw [td_w]; omega
    rcases List.mem_cons.mp m with rfl | m
    · exact hq
    · exact mpsT_td k 1 t m
  have hf : td (ringFront N k w) ≤ 3 := td_l fun t m => by
    rcases List.mem_cons.mp m with rfl | m
    · rw [td_w]; omega
    rcases List.mem_cons.mp m with rfl | m
    · omega
    · rw [List.mem_singleton.mp m]; exact hc
  have hqf : td (qT (ringFront N k w)) ≤ 4 := td_l fun t m => by
    rcases List.mem_cons.mp m with rfl | m
    · rw [td_w]; omega
    · rw [List.mem_singleton.mp m]; exact hf
  refine Nat.le_trans (td_l (n := 4) fun t m => ?_) (by decide)
  rcases List.mem_cons.mp m with rfl | m
  · rw [td_w]; omega
  rcases List.mem_cons.mp m with rfl | m
  · exact hqf
  · rw [List.mem_singleton.mp m, td_w]; omega
theorem choice_td {d : Nat} (h3 : 3 ≤ d) : ∀ {ws : List (List Nat)} {cs : List Tree}, (∀ c ∈ cs, td c ≤ d) → td (choiceT ws cs) ≤ d + cs.length
  | _, [], _ => by
    have : ∀ ws, choiceT ws [] = .l [] := fun ws => by cases ws <;> rfl
    rw [this]
    have : td (.l []) = 1 := by rw [td, tds]
    omega
  | ws, [c], h => by
    have : ∀ ws, choiceT ws [c] = c := fun ws => by cases ws <;> rfl
    rw [this]
    have := h c (by simp)
    omega
  | [], c :: c' :: cs, h => by
    show td (Tree.l []) ≤ _
    have : td (.l []) = 1 := by rw [td, tds]
    omega
  | w :: ws, c :: c' :: cs, h => by
    have ih := choice_td h3 (ws := ws) (cs := c' :: cs) fun d m => h d (List.mem_cons_of_mem _ m)
    have h0 := h c (by simp)
    rw [List.length_cons] at ih ⊢
    show td (Tree.l [.w ifW, .l [.w sameW, .w (madeP 1), qT (.w w)], c, choiceT ws (c' :: cs)]) ≤ _
    rw [List.length_cons]
    refine td_l (n := d + (cs.length + 1)) fun u m => ?_
    rcases List.mem_cons.mp m with rfl | m
    · rw [td_w]; omega
    rcases List.mem_cons.mp m with rfl | m
    · refine Nat.le_trans (td_l (n := 1) fun u m => ?_) (by omega)
      rcases List.mem_cons.mp m with rfl | m
      · rw [td_w]; omega
      rcases List.mem_cons.mp m with rfl | m
      · rw [td_w]; omega
      · rw [List.mem_singleton.mp m]
        refine td_l fun u m => ?_
        rcases List.mem_cons.mp m with rfl | m
        · rw [td_w]; exact Nat.le_refl _
        · rw [List.mem_singleton.mp m, td_w]; exact Nat.le_refl _
    rcases List.mem_cons.mp m with rfl | m
    · omega
    · rw [List.mem_singleton.mp m]; exact ih
theorem ringB_td {Ls : List (List Fn)} {k : Nat} (r : RingIn Ls k) : td (ringB Ls k) ≤ 30 := by
  obtain ⟨n1, n4⟩ := r.n
  have ts : td (ringTs (tot Ls + 3) k (ringWs Ls.length)) ≤ 10 := by
    have := lsT_td (d := 6) (by decide) (ts := (ringWs Ls.length).map (ringItem (tot Ls + 3) k)) fun t m => by
      obtain ⟨w, _, rfl⟩ := List.mem_map.mp m
      exact ringItem_td _ _ _
    rw [List.length_map, ringWs_len] at this
    unfold ringTs
    omega
  have := choice_td (d := 11) (by decide) (ws := ringWs Ls.length) (cs := (mainsOf Ls 0).map (ringCall (ringTs (tot Ls + 3) k (ringWs Ls.length)) k)) fun c m => by
    obtain ⟨m', _, rfl⟩ := List.mem_map.mp m
    refine td_l (n := 10) fun u mu => ?_
    rcases List.mem_cons.mp mu with rfl | mu
    · rw [td_w]; omega
    rcases List.mem_cons.mp mu with rfl | mu
    · exact ts
    · exact mpsT_td _ _ u (List.mem_of_mem_drop mu)
  rw [List.length_map, mains_len] at this
  unfold ringB
  omega
theorem choice_wt : ∀ {ws : List (List Nat)} {cs : List Tree}, (∀ w ∈ ws, IsWord w) → (∀ c ∈ cs, WT c) → WT (choiceT ws cs)
  | _, [], _, _ => by
    have : ∀ ws, choiceT ws [] = .l [] := fun ws => by cases ws <;> rfl
    rw [this]; exact wt_l wts_nil
  | ws, [c], _, h => by
    have : ∀ ws, choiceT ws [c] = c := fun ws => by cases ws <;> rfl
    rw [this]; exact h c (by simp)
  | [], c :: c' :: cs, _, h => wt_l wts_nil
  | w :: ws, c :: c' :: cs, hw, h => by
    have ih := choice_wt (ws := ws) (cs := c' :: cs) (fun x m => hw x (List.mem_cons_of_mem _ m)) fun d m => h d (List.mem_cons_of_mem _ m)
    exact wt_l (wts_cons (wt_w (isWord_of (by decide))) (wts_cons (wt_l (wts_cons (wt_w (isWord_of (by decide))) (wts_cons (wt_w (wordP (by omega))) (wts_cons (wq _ (wt_w (hw w (by simp)))) wts_nil)))) (wts_cons (h c (by simp)) (wts_cons ih wts_nil))))
theorem ringWs_word {n : Nat} (h : n ≤ 100) : ∀ w ∈ ringWs n, IsWord w := fun w m => by
  obtain ⟨i, mi, rfl⟩ := List.mem_map.mp m
  have := List.mem_range.mp mi
  exact ringW_word (by omega)
theorem ringFront_wt {N k : Nat} {w : List Nat} (hN : N ≤ 1000000) (hk : k ≤ 100) (hw : IsWord w) : WT (ringFront N k w) := by
  have m := mpsT_wt hk
  exact wt_l (wts_cons (wt_w (wordN (by omega))) (wts_cons (wt_l m) (wts_cons (wt_l (wts_cons (wt_w (wordN (by omega))) (wts_cons (wq _ (wt_w hw)) m))) wts_nil)))
theorem ringB_wt {Ls : List (List Fn)} {k : Nat} (r : RingIn Ls k) (ht : tot Ls ≤ 1000) : WT (ringB Ls k) := by
  have n4 := r.n.2
  have k2 := r.k2
  refine choice_wt (ringWs_word (by omega)) fun c m => ?_
  obtain ⟨m', mm, rfl⟩ := List.mem_map.mp m
  obtain ⟨i, hi⟩ := List.getElem?_of_mem mm
  have il := (List.getElem?_eq_some_iff.mp hi).1
  rw [mains_len] at il
  have := (sides_at (s := 0) (List.getElem?_eq_getElem il)).1
  rw [hi] at this
  have hm : m' = madeN (0 + tot (Ls.take i)) := Option.some.inj this
  have le : tot (Ls.take i) ≤ tot Ls := by
    have e : Ls = Ls.take i ++ Ls.drop i := (List.take_append_drop i Ls).symm
    have ta : ∀ A B : List (List Fn), tot (A ++ B) = tot A + tot B := fun A B => by
      induction A with
      | nil => rw [List.nil_append, tot, Nat.zero_add]
      | cons a A ih => rw [List.cons_append, tot, tot, ih, Nat.add_assoc]
    have := ta (Ls.take i) (Ls.drop i)
    rw [← e] at this
    omega
  refine wt_l (wts_cons (wt_w (by rw [hm]; exact wordN (by omega))) (wts_cons (wls (WTs.of fun t mt => ?_)) (WTs.of fun t mt => (mpsT_wt (k := k + 1) (by omega)).all t (List.mem_of_mem_drop mt))))
  obtain ⟨w, mw, rfl⟩ := List.mem_map.mp mt
  exact wj (wq _ (ringFront_wt (by omega) (by omega) (ringWs_word (n := Ls.length) (by omega) w mw))) wsw
theorem sides_mem : ∀ {Ls : List (List Fn)} {s : Nat} {f : Fn}, f ∈ sides Ls s → ∃ L ∈ Ls, ∃ st, st + L.length ≤ s + tot Ls ∧ f ∈ renL L st
  | [], s, f, m => by cases m
  | L :: Ls, s, f, m => by
    rw [sides] at m
    rcases List.mem_append.mp m with m | m
    · exact ⟨L, List.mem_cons_self .., s, by rw [tot]; omega, m⟩
    · obtain ⟨L', mL, st, h, mf⟩ := sides_mem m
      exact ⟨L', List.mem_cons_of_mem _ mL, st, by rw [tot]; omega, mf⟩
theorem sides_size {B : Nat} : ∀ {Ls : List (List Fn)} {s : Nat}, (∀ L ∈ Ls, sizes (L.map fnt) ≤ B) → sizes ((sides Ls s).map fnt) ≤ Ls.length * B
  | [], s, _ => by rw [sides, List.map_nil, sizes_nil]; omega
  | L :: Ls, s, h => by
    have ih := sides_size (Ls := Ls) (s := s + L.length) fun L m => h L (List.mem_cons_of_mem _ m)
    have h0 := h L (by simp)
    rw [sides, List.map_append, sizes_app, List.length_cons, Nat.succ_mul]
    have : sizes ((renL L s).map fnt) = sizes (L.map fnt) := renL_size _ _ _
    omega
theorem tot_le {B : Nat} : ∀ {Ls : List (List Fn)}, (∀ L ∈ Ls, L.length ≤ B) → tot Ls ≤ Ls.length * B
  | [], _ => by rw [tot]; omega
  | L :: Ls, h => by
    have ih := tot_le (Ls := Ls) fun L m => h L (List.mem_cons_of_mem _ m)
    have := h L (by simp)
    rw [tot, List.length_cons, Nat.succ_mul]; omega
/-- what is known of each program that is handed in -/
structure RingBd (Ls : List (List Fn)) : Prop where
  wt : ∀ L ∈ Ls, WT (.l (L.map fnt))
  sz : ∀ L ∈ Ls, (Tree.l (L.map fnt)).size ≤ 7000
  ln : ∀ L ∈ Ls, L.length ≤ 5
  bd : ∀ L ∈ Ls, ∀ f ∈ L, f.2.2.size ≤ 1002 ∧ td f.2.2 ≤ 6
theorem ringP_bd {Ls : List (List Fn)} {k : Nat} (r : RingIn Ls k) (b : RingBd Ls) : tot Ls ≤ 20 ∧ WT (.l ((ringP Ls k).map fnt)) ∧ (Tree.l ((ringP Ls k).map fnt)).size ≤ 29000 ∧ ∀ f ∈ ringP Ls k, f.2.2.size ≤ 1002 ∧ td f.2.2 ≤ 30 := by
  obtain ⟨n1, n4⟩ := r.n
  have k2 := r.k2
  have t20 : tot Ls ≤ 20 := by
    have := tot_le b.ln
    have := Nat.mul_le_mul_right 5 n4
    omega
  have sB := ringB_size r
  refine ⟨t20, ?_, ?_, fun f m => ?_⟩
  · show WT (.l ((_ :: sides Ls 0).map fnt))
    rw [List.map_cons]
    refine wt_l (wts_cons (wt_l (wts_cons (wt_w (wordN (by omega))) (wts_cons (wt_l (wts_cons wsw (mpsT_wt (by omega)))) (wts_cons (ringB_wt r (by omega)) wts_nil)))) (WTs.of fun t mt => ?_))
    obtain ⟨f, mf, rfl⟩ := List.mem_map.mp mt
    obtain ⟨L, mL, st, hst, mf⟩ := sides_mem mf
    obtain ⟨g, mg, rfl⟩ := List.mem_map.mp mf
    have wg := ((b.wt L mL).list.all _ (List.mem_map.mpr ⟨g, mg, rfl⟩)).list
    have sg : ∀ x, IsWord x → IsWord (sig (L.map (·.1)) st x) := fun x hx => sig_word (by rw [List.length_map]; omega) hx
    exact wt_l (wts_cons (wt_w (sg _ wg.head.word)) (wts_cons wg.tail.head (wts_cons (ren_wt sg _ wg.tail.tail.head) wts_nil)))
  · show (Tree.l ((_ :: sides Ls 0).map fnt)).size ≤ _
    rw [List.map_cons, size_l, sizes_cons, fnt_size]
    have ss := sides_size (Ls := Ls) (s := 0) (B := 7000) fun L m => by have := b.sz L m; rw [size_l] at this; omega
    have := Nat.mul_le_mul_right 7000 n4
    show sizes (kpsT (k + 1)) + (ringB Ls k).size + 3 + _ + 1 ≤ _
    have : sizes (kpsT (k + 1)) = k + 2 := by unfold kpsT; rw [sizes_cons, size_w, mpsT_size]; omega
    omega
  · rcases List.mem_cons.mp m with rfl | m
    · exact ⟨by show (ringB Ls k).size ≤ _; omega, ringB_td r⟩
    · obtain ⟨L, mL, st, _, mf⟩ := sides_mem m
      obtain ⟨g, mg, rfl⟩ := List.mem_map.mp mf
      have := b.bd L mL g mg
      refine ⟨?_, ?_⟩
      · show (ren _ g.2.2).size ≤ _
        rw [ren_size]; exact this.1
      · show td (ren _ g.2.2) ≤ _
        rw [ren_td]; omega
theorem knowR_td38 {L : List Fn} (k : Nat) (h : GoodL L) (hd : ∀ f ∈ L, td f.2.2 ≤ 38) : td (.l ((knowR L k).map fnt)) ≤ 40 := by
  refine td_l (n := 39) fun t m => ?_
  obtain ⟨f, mf, rfl⟩ := List.mem_map.mp m
  unfold knowR at mf
  rw [fronted_cons, sides_one] at mf
  rcases List.mem_cons.mp mf with rfl | mf
  · refine fnt_td (n := 38) (fun t m => ?_) ?_ (by decide)
    · rcases List.mem_cons.mp m with rfl | m
      · exact td_w _
      · exact Nat.le_zero.mp (mpsT_td k 0 t m)
    · refine td_l (n := 37) fun t m => ?_
      rcases List.mem_cons.mp m with rfl | m
      · rw [td_w]; exact Nat.zero_le _
      rcases List.mem_cons.mp m with rfl | m
      · exact Nat.le_trans (tof_td _ _) (by decide)
      · exact mpsT_td k 37 t m
  · obtain ⟨g, mg, rfl⟩ := List.mem_map.mp mf
    refine fnt_td (n := 38) (fun t m => ?_) ?_ (by decide)
    · obtain ⟨i, hi⟩ := List.getElem?_of_mem m
      obtain ⟨x, rfl, _⟩ := (h.ps g mg).2 i t hi
      exact td_w _
    · show td (ren _ g.2.2) ≤ 38
      rw [ren_td]
      have := hd g mg
      omega
theorem knowL_td38 {L : List Fn} (k : Nat) (h : GoodL L) (hd : ∀ f ∈ L, td f.2.2 ≤ 38) : td (.l ((knowL L k).map fnt)) ≤ 50 := by
  have r := knowR_td38 k h hd
  have e : (knowL L k).map fnt = fnt (madeN (knowR L k).length, mpsT k, fillB (madeN L.length) (.l ((knowR L k).map fnt)) k) :: (knowR L k).map fnt := rfl
  rw [e]
  refine td_l (n := 49) fun t m => ?_
  rcases List.mem_cons.mp m with rfl | m
  · refine fnt_td (n := 48) (fun t m => Nat.le_zero.mp (mpsT_td k 0 t m)) (td_l (n := 47) fun t m => ?_) (by decide)
    rcases List.mem_cons.mp m with rfl | m
    · rw [td_w]; exact Nat.zero_le _
    rcases List.mem_cons.mp m with rfl | m
    · refine Nat.le_trans (td_l (n := 40) fun t m => ?_) (by decide)
      rcases List.mem_cons.mp m with rfl | m
      · rw [td_w]; exact Nat.zero_le _
      · rw [List.mem_singleton.mp m]; exact r
    · exact mpsT_td k 47 t m
  · rw [td] at r
    have := td_mem m
    omega
theorem ringM_bd {Ls : List (List Fn)} {k : Nat} (r : RingIn Ls k) (b : RingBd Ls) {i : Nat} (hi : i < Ls.length) : WT (.l ((ringM Ls k (ringW i)).map fnt)) ∧ (Tree.l ((ringM Ls k (ringW i)).map fnt)).size ≤ 60000 ∧ (ringM Ls k (ringW i)).length ≤ 30 ∧ VB 50 1002 (.l ((ringM Ls k (ringW i)).map fnt)) := by
  obtain ⟨t20, wP, sP, bP⟩ := ringP_bd r b
  have k2 := r.k2
  have n4 := r.n.2
  have gP := ringP_good r
  have gR := knowR_good gP (ringP_head Ls k) (kps_len (k + 1)) (by omega)
  have gC := ringC_good r
  have wC := knowL_wt (k := k + 1) wP (by rw [ringP_len]; omega) (by omega)
  have zC := knowL_size (ringP Ls k) (k + 1)
  have dC := knowL_td38 (L := ringP Ls k) (k + 1) gP fun f m => by have := (bP f m).2; omega
  have wdC := knowL_wid (k + 1) gR gC (N := 1002) (by decide) (by omega) (by rw [ringP_len]; omega) fun f mf => Nat.le_trans (wid_size _) (bP f mf).1
  have lC := ringC_len Ls k
  have fw := ringFront_wt (N := tot Ls + 3) (k := k) (w := ringW i) (by omega) (by omega) (ringW_word (by omega))
  have fs := ringFront_size (tot Ls + 3) k (ringW i)
  have fi := ringItem_td (tot Ls + 3) k (ringW i)
  have ft : td (ringFront (tot Ls + 3) k (ringW i)) ≤ 6 := by
    have h1 : td (ringFront (tot Ls + 3) k (ringW i)) ≤ td (qT (ringFront (tot Ls + 3) k (ringW i))) := by
      have := td_mem (show ringFront (tot Ls + 3) k (ringW i) ∈ [Tree.w qw, ringFront (tot Ls + 3) k (ringW i)] by simp)
      unfold qT
      rw [td]; omega
    have h2 : td (qT (ringFront (tot Ls + 3) k (ringW i))) ≤ td (ringItem (tot Ls + 3) k (ringW i)) := by
      have := td_mem (show qT (ringFront (tot Ls + 3) k (ringW i)) ∈ [Tree.w joinw, qT (ringFront (tot Ls + 3) k (ringW i)), .w sw] by simp)
      unfold ringItem
      rw [td]; omega
    omega
  rw [ringM_tree]
  unfold ringC at lC ⊢
  refine ⟨wt_l (wts_cons fw wC.list), ?_, ?_, ?_, ?_⟩
  · rw [size_l] at zC ⊢
    rw [sizes_cons]
    omega
  · rw [ringM_eq, List.length_cons]
    unfold ringC
    omega
  · rw [td] at dC
    rw [td, tds]
    omega
  · have lC2 : ((knowL (ringP Ls k) (k + 1)).map fnt).length ≤ 30 := by rw [List.length_map]; omega
    rw [wid] at wdC
    rw [wid, wids, List.length_cons]
    have := wid_size (ringFront (tot Ls + 3) k (ringW i))
    omega
end Og

namespace Og
open PySem PySem.Spec PyProof.Rows L2
theorem lit_wr : ("w" : Str) = tx [119] := by decide +kernel
theorem cut_init {α : Type} {ts : List α} (h : 0 < ts.length) : cutL ts none (some (-1)) = ts.take (ts.length - 1) := by
  have s2 : HT.sIx ts.length ts.length (some (-1)) = ts.length - 1 := by
    unfold HT.sIx
    simp
    try omega
  have s1 : HT.sIx ts.length 0 none = 0 := rfl
  unfold cutL
  rw [s1, s2, List.drop_zero, Nat.sub_zero]
theorem mpsT_init (k : Nat) : (mpsT (k + 1)).take k = mpsT k := by
  unfold mpsT mps
  rw [← List.map_take, ← List.map_take, List.take_range, Nat.min_eq_left (Nat.le_succ k)]
section
variable {P : Program} {w : World} {K : PySem.W.Frag} {mg : Str → Option Value} {base : Heap}
def spRing (g : Prop) (K : PySem.W.Frag) : Sp := fun vs H Q _ => ∃ (a : Addr) (xs : List V) (Ls : List (List Fn)) (k : Nat), vs = [.ref a] ∧ SqL K H a xs ∧ Paired (MpV g K H) xs Ls ∧ RingIn Ls k ∧ RingBd Ls ∧
  ∀ (p : Addr) (ys : List V) (H' : Hp), H p = none → H' p = some (.lst ys) → Paired (MpV g K H') ys ((ringWs Ls.length).map (ringM Ls k)) → Keep [] H H' → Q (.ref p) H'
theorem has_ring {CP : Addr} {g : Prop} {k : Nat} (D : DefAt K mg "ring" s_ring p_ring) (B : Bn mg) (M : Mc mg) (c1 : HasX P w K mg base k "inputs_of" p_inputs_of (spInputsX K CP)) (c2 : Has P w K mg base k "made_parameters" p_made_parameters (spMPars K)) (c3 : Has P w K mg base k "side_by_side" p_side_by_side (spSides g K)) (c4 : Has P w K mg base k "_texts_of_ring" p_texts_of_ring (spTextsRing K)) (c5 : Has P w K mg base k "_choice_by_word" p_choice_by_word (spChoice K)) (c6 : Has P w K mg base k "with_front" p_with_front (spFront g K)) (c7 : Has P w K mg base k "know_own" p_know_own (spKnow g K)) (c8 : Has P w K mg base k "filled" p_filled (spFilled g K)) : Has P w K mg base (k + 1) "ring" p_ring (spRing g K) := by
  obtain ⟨f, fd, F, hm, hb⟩ := D.ex
  obtain ⟨_, _, c_inputs_of⟩ := c1
  obtain ⟨_, _, c_made_parameters⟩ := c2
  obtain ⟨_, _, c_side_by_side⟩ := c3
  obtain ⟨_, _, c_texts_of_ring⟩ := c4
  obtain ⟨_, _, c_choice_by_word⟩ := c5
  obtain ⟨_, _, c_with_front⟩ := c6
  obtain ⟨_, _, c_know_own⟩ := c7
  obtain ⟨_, _, c_filled⟩ := c8
  obtain ⟨_, M_MOST_INPUTS⟩ := M.MOST_INPUTS
  obtain ⟨_, M_MOST_PROGRAMS⟩ := M.MOST_PROGRAMS
  refine ⟨f, fd, F.ok sc_ring (fun vs H Q E h => ?_) (fun cdv A outer s H vs Q E hr h => ?_), hm, F.kp, hb⟩
  · obtain ⟨_, _, _, _, rfl, _⟩ := h
    rfl
  obtain ⟨a, xs, Ls, kk, rfl, sl, pf, ri, bd, q⟩ := h
  refine ⟨_, (pss_cons (ps_setLc (i := 1) (own := [("program", 2)]) (g := gName 2) (tt := tYes) rfl sc_ring.nd rfl rfl (sw_true rfl rfl rfl (by decide +kernel)) (pi_list (pv 0)) (blkOk_by (N := n_ring) (sc := defScope s_ring) (by decide +kernel)) (fun _ _ _ _ _ => pg_name (i := 2) sc_ring.nd rfl (Or.inl rfl)) (fun _ _ _ _ _ => pts_nil) (fun _ _ _ _ _ => (calX c_inputs_of hr rfl pass_never (pa_cons (pv 2) pa_nil))))
    (pss_cons (ps_if (pt_not (pt_chain op_le op_le pe_int (pe_callB call_len_seq (by rfl) B.len PySem.boot_len (pa_cons (pv 1) pa_nil)) (pe_glob (v := .int 12) rfl M_MOST_PROGRAMS ⟨_, rfl⟩))) (pss_one ps_never) pss_nil)
    (pss_cons (ps_set (i := 3) sc_ring.nd rfl (.inr rfl) (pe_ix ix_list (pv 1) pe_int (fun _ _ => rfl)))
    (pss_cons (ps_if (PW.pt (pw_or (pt_cmpR (op_neSame hr.units) (pv 1) (pe_lc (own := [("_", 4)]) (g := gName 4) (tt := tYes) rfl sc_ring.nd (pi_list (pv 1)) (blkOk_by (N := n_ring) (sc := defScope s_ring) (by decide +kernel)) (fun _ _ _ _ _ => pg_name (i := 4) sc_ring.nd rfl (Or.inl rfl)) (fun _ _ _ _ _ => pts_nil) (fun _ _ _ _ _ => (pv 3))) (nomark _)) (pw_or1 (pt_not (pt_chain op_le op_le pe_int (pv 3) (pe_glob (v := .int 8) rfl M_MOST_INPUTS ⟨_, rfl⟩)))))) (pss_one ps_never) pss_nil)
    (pss_cons (ps_setLc (i := 5) (own := [("number", 6)]) (g := gName 6) (tt := tYes) rfl sc_ring.nd rfl rfl (sw_true rfl rfl rfl (by decide +kernel)) (pi_range2 (by rfl) B.range (pa_cons pe_int (pa_cons (pe_op op_add (pe_callB call_len_seq (by rfl) B.len PySem.boot_len (pa_cons (pv 1) pa_nil)) pe_int) pa_nil))) (blkOk_by (N := n_ring) (sc := defScope s_ring) (by decide +kernel)) (fun _ _ _ _ _ => pg_name (i := 6) sc_ring.nd rfl (Or.inl rfl)) (fun _ _ _ _ _ => pts_nil) (fun _ _ _ _ _ => (pe_joined (.cons pe_str (.cons (pe_fmt (pv 6)) .nil)))))
    (pss_cons (ps_set (i := 7) sc_ring.nd rfl (.inr rfl) (cal c_made_parameters hr rfl (pa_cons (pv 3) pa_nil)))
    (pss_cons (ps_asg (cal c_side_by_side hr rfl (pa_cons (pv 0) pa_nil)) (pg_tup (by rfl) (pgs_cons (pg_name (i := 8) sc_ring.nd rfl (.inl rfl)) (pgs_cons (pg_name (i := 9) sc_ring.nd rfl (.inl rfl)) pgs_nil))))
    (pss_cons (ps_set (i := 10) sc_ring.nd rfl (.inr rfl) (cal c_texts_of_ring hr rfl (pa_cons (pe_op op_add (pe_callB call_len_seq (by rfl) B.len PySem.boot_len (pa_cons (pv 8) pa_nil)) pe_int) (pa_cons (pv 5) (pa_cons (pe_slice sl_tupA (pv 7) po_none (po_some (pe_un un_neg pe_int))) pa_nil)))))
    (pss_cons (ps_set (i := 11) sc_ring.nd rfl (.inl rfl) (cal c_choice_by_word hr rfl (pa_cons (pv 5) (pa_cons (pe_lc (own := [("main", 12)]) (g := gName 12) (tt := tYes) rfl sc_ring.nd (pi_list (pv 9)) (blkOk_by (N := n_ring) (sc := defScope s_ring) (by decide +kernel)) (fun _ _ _ _ _ => pg_name (i := 12) sc_ring.nd rfl (Or.inl rfl)) (fun _ _ _ _ _ => pts_nil) (fun _ _ _ _ _ => (pe_tup (pa_cons (pv 12) (pa_cons (pv 10) (show PA _ _ (StX.tStar K _ _) from StX.pa_star (pe_slice (show SlR _ (rSlA K) from sl_tupA) (pv 7) (po_some pe_int) po_none) pa_nil)))))) pa_nil))))
    (pss_cons (ps_set (i := 13) sc_ring.nd rfl (.inr rfl) (cal c_know_own hr rfl (pa_cons (cal c_with_front hr rfl (pa_cons (pv 8) (pa_cons (pe_tupF (pa_cons pe_str (StX.pa_star (pv 7) pa_nil))) (pa_cons (pv 11) pa_nil)))) pa_nil)))
    (pss_one (ps_ret (pe_lc (own := [("word", 14)]) (g := gName 14) (tt := tYes) rfl sc_ring.nd (pi_list (pv 5)) (blkOk_by (N := n_ring) (sc := defScope s_ring) (by decide +kernel)) (fun _ _ _ _ _ => pg_name (i := 14) sc_ring.nd rfl (Or.inl rfl)) (fun _ _ _ _ _ => pts_nil) (fun _ _ _ _ _ => (cal c_filled hr rfl (pa_cons (pv 13) (pa_cons (pv 14) pa_nil))))))))))))))))), ?_⟩
  obtain ⟨n1, n4⟩ := ri.n
  have k2 := ri.k2
  have lxs := mp_len pf
  rw [lit_wr]
  -- counts
  refine ⟨_, rfl, a, rfl, ⟨_, sl⟩, fun Cd nC => ?_⟩
  refine lc_list (K := K) (a := a) (xs := xs) (fun i H' => Keep [] H H' ∧ H' Cd = some (.lst (List.replicate i (V.int ((kk + 1 : Nat) : Int))))) ⟨Keep.new nC, upd_same⟩ (fun i H1 _ p => p.1.sqL (by simp) sl) (fun i x H1 hx p => ?_) (fun H1 p => ?_)
  · obtain ⟨k1, eC⟩ := p
    obtain ⟨L, hL, mv⟩ := mp_at pf hx
    have mL := List.mem_of_getElem? hL
    obtain ⟨f0, e0, l0⟩ := ri.f L mL
    have gl := ri.g L mL
    have good := gl.bad (by rintro rfl; cases e0)
    have no : ∀ n, BadNo (.l (L.map fnt)) (some n) → False := fun n h => by have := BadNo.uniq good h; cases this
    refine ⟨rfl, yes ?_⟩
    refine ⟨_, rfl, x, _, rfl, ⟨(mv.keep k1).tr, bd.wt L mL, by have := bd.sz L mL; omega, fun fs e => by rw [← Tree.l.inj e, List.length_map]; have := bd.ln L mL; omega⟩, fun n hn => (no n hn).elim, fun H2 _ k2' => ?_⟩
    rw [firstPs_of e0, l0]
    have eC2 := k2'.get eC (by simp)
    have il : i < Ls.length := (List.getElem?_eq_some_iff.mp hL).1
    have kL : Keep [Cd] H2 (upd H2 Cd (.lst (List.replicate i (V.int ((kk + 1 : Nat) : Int)) ++ [V.int ((kk + 1 : Nat) : Int)]))) := Keep.set eC2 (List.mem_cons_self ..)
    refine ⟨_, eC2, Nat.lt_of_le_of_lt (show _ ≤ 10 by rw [List.length_replicate]; omega) (by decide), ((k1.trans k2').cons.trans kL).drop nC, ?_⟩
    rw [upd_same, List.replicate_succ', ]
  obtain ⟨k1, eC⟩ := p
  rw [lxs] at eC
  obtain ⟨cs, hcs⟩ : ∃ cs, cs = List.replicate Ls.length (V.int ((kk + 1 : Nat) : Int)) := ⟨_, rfl⟩
  have lcs : cs.length = Ls.length := by rw [hcs, List.length_replicate]
  have mcs : ∀ v ∈ cs, v = V.int ((kk + 1 : Nat) : Int) := fun v m => by rw [hcs] at m; exact List.eq_of_mem_replicate m
  rw [← hcs] at eC
  refine ⟨_, rfl, Cd, _, rfl, .inl (SqL.of eC), _, _, rfl, rfl, true, congrArg V.bl (decide_eq_true (by rw [lcs]; omega)), ?_⟩
  rw [if_pos rfl]
  refine ⟨_, _, rfl, rfl, true, congrArg V.bl (decide_eq_true (by rw [lcs]; omega)), iteF ?_⟩
  have hc0 : cs[0]? = some (V.int ((kk + 1 : Nat) : Int)) := by
    have := List.getElem?_eq_getElem (show 0 < cs.length by omega)
    rw [this, mcs _ (List.getElem_mem _)]
  refine ⟨_, rfl, Cd, _, _, _, rfl, rfl, SqL.of eC, atI_nat (j := 0) hc0, ?_⟩
  -- all the same
  refine ⟨_, rfl, _, rfl, Cd, rfl, ⟨_, SqL.of eC⟩, fun Ed nE => ?_⟩
  have EC : Cd ≠ Ed := ne_of_none eC nE
  refine lc_list (K := K) (a := Cd) (xs := cs) (fun i H' => Keep [] H1 H' ∧ H' Ed = some (.lst (cs.take i))) ⟨Keep.new nE, upd_same⟩ (fun i H2 _ p => SqL.of (p.1.get eC (by simp))) (fun i x H2 hx p => ?_) (fun H2 p => ?_)
  · obtain ⟨k2', eE⟩ := p
    have il : i < cs.length := (List.getElem?_eq_some_iff.mp hx).1
    refine ⟨rfl, yes ?_⟩
    have kL : Keep [Ed] H2 (upd H2 Ed (.lst (cs.take i ++ [V.int ((kk + 1 : Nat) : Int)]))) := Keep.set eE (List.mem_cons_self ..)
    refine ⟨_, rfl, _, eE, Nat.lt_of_le_of_lt (show _ ≤ 10 by rw [List.length_take]; omega) (by decide), (k2'.cons.trans kL).drop nE, ?_⟩
    rw [upd_same, List.take_add_one, hx, mcs x (List.mem_of_getElem? hx)]
    rfl
  obtain ⟨k2', eE⟩ := p
  rw [List.take_of_length_le (Nat.le_refl _)] at eE
  have eC2 := k2'.get eC (by simp)
  refine ⟨Cd, Ed, cs, rfl, rfl, eC2, eE, fun v m => .inl ⟨_, mcs v m⟩, _, rfl, iteF ?_⟩
  refine ⟨_, rfl, _, _, rfl, rfl, true, congrArg V.bl (decide_eq_true (by omega)), ?_⟩
  rw [if_pos rfl]
  refine ⟨_, _, rfl, rfl, true, congrArg V.bl (decide_eq_true (by omega)), iteF ?_⟩
  have k02 := k1.trans k2'
  -- words
  refine ⟨_, rfl, Cd, _, rfl, .inl (SqL.of eC2), _, _, rfl, rfl, _, _, rfl, ⟨by omega, by omega, by omega, by omega⟩, fun Wd nW => ?_⟩
  have e1 : (((cs.length : Nat) : Int) + 1 - 1).toNat = Ls.length := by omega
  refine lc_range (te := fun σ H Q => tJs [tC (.str (tx [119])), tFmt (tVar 6)] Str.empty σ H fun out H1 => Q (.str out) H1) (lo := 1) (n := (((cs.length : Nat) : Int) + 1 - 1).toNat) (fun i H' => Keep [] H2 H' ∧ H' Wd = some (.lst (((ringWs Ls.length).take i).map fun x => V.str (tx x)))) ⟨Keep.new nW, upd_same⟩ (fun i H3 hi p => ?_) (fun H3 p => ?_)
  · obtain ⟨k3, eW⟩ := p
    have hi' : i < Ls.length := by omega
    refine ⟨rfl, yes ?_⟩
    have ei : (1 : Int) + (i : Int) = ((i + 1 : Nat) : Int) := by omega
    rw [ei]
    refine ⟨_, rfl, by decide +kernel, _, rfl, .inr ⟨_, rfl, fmt_ok (by omega), _, rfl, fmt_ln (by omega), ?_⟩⟩
    rw [fmt_eq]
    have kL : Keep [Wd] H3 (upd H3 Wd (.lst (((ringWs Ls.length).take i).map (fun x => V.str (tx x)) ++ [.str (tx (ringW i))]))) := Keep.set eW (List.mem_cons_self ..)
    refine ⟨_, eW, Nat.lt_of_le_of_lt (show _ ≤ 1000 by rw [List.length_map, List.length_take, ringWs_len]; omega) (by decide), (k3.cons.trans kL).drop nW, ?_⟩
    show upd _ _ _ _ = _
    rw [upd_same, List.take_add_one, ringWs_get hi', List.map_append]
    rfl
  obtain ⟨k3, eW⟩ := p
  rw [e1, List.take_of_length_le (by rw [ringWs_len]; exact Nat.le_refl _)] at eW
  have k03 := k02.trans k3
  -- parameters
  refine ⟨_, rfl, kk + 1, rfl, by omega, fun vq H4 tq fzq k4 => ?_⟩
  have tq : Tr K H4 vq (.l (mpsT (kk + 1))) := tq
  obtain ⟨qa, qvs, rfl, hQ, rQ⟩ := tq.list
  have lQ := rQ.length
  rw [mpsT_len] at lQ
  have k04 := k03.trans k4
  -- side_by_side
  refine ⟨_, rfl, a, xs, Ls, rfl, .inl (k04.sqL (by simp) sl), mp_imp (fun _ _ x => x.keep k04) pf, fun L mL => ren_ok (ri.g L mL) (by have := bd.ln L mL; omega) (by have := bd.sz L mL; omega), by omega, fun v' H5 r k5 => ?_⟩
  obtain ⟨R, Mn, vF, rfl, hR, mF, eM⟩ := r
  refine ⟨R, _, rfl, hR, rfl, _, _, rfl, _, _, rfl, rfl, ?_⟩
  have mF0 := mF
  obtain ⟨fa, fxs, rfl, hF, pF⟩ := mF
  have lF := mp_len pF
  rw [sides_len] at lF
  obtain ⟨t20, wP, sP, bP⟩ := ringP_bd ri bd
  have eW5 := (k4.trans k5).get eW (by simp)
  have tq5 := tq.keep k5
  -- texts
  refine ⟨_, rfl, fa, fxs, rfl, .inr hF, _, _, rfl, rfl, _, rfl, _, rfl, ?_⟩
  dsimp only [tNoPart]
  refine ⟨_, rfl, _, rfl, sl_tr tq5 fun vc H6 tc k6 => ?_⟩
  rw [cut_init (by rw [mpsT_len]; omega), mpsT_len, Nat.add_sub_cancel, mpsT_init] at tc
  refine ⟨tot Ls + 3, kk, Wd, vc, ringWs Ls.length, by show [V.int (((fxs.length : Nat) : Int) + 3), _, _] = _; rw [lF, show ((tot Ls : Nat) : Int) + 3 = ((tot Ls + 3 : Nat) : Int) by omega], by omega, by omega, by omega, by rw [ringWs_len]; omega, SqL.of (k6.get eW5 (by simp)), tc, fun vt H7 tt k7 => ?_⟩
  have k57 := k6.trans k7
  have tq7 := tq5.keep k57
  have eM7 := k57.get eM (by simp)
  have eW7 := k57.get eW5 (by simp)
  -- the calls
  refine ⟨_, rfl, _, rfl, Mn, rfl, ⟨_, SqL.of eM7⟩, fun Bd nB => ?_⟩
  refine lc_list (K := K) (a := Mn) (xs := (mainsOf Ls 0).map fun x => V.str (tx x)) (fun i H' => ∃ ds : List V, Keep [] H7 H' ∧ H' Bd = some (.lst ds) ∧ Trs K H' ds (((mainsOf Ls 0).take i).map (ringCall (ringTs (tot Ls + 3) kk (ringWs Ls.length)) kk))) ⟨[], Keep.new nB, upd_same, trs_nil⟩ (fun i H8 _ p => let ⟨_, p, _⟩ := p; SqL.of (p.get eM7 (by simp))) (fun i x H8 hx p => ?_) (fun H8 p => ?_)
  · obtain ⟨ds, k8, eB, tB⟩ := p
    rw [List.getElem?_map] at hx
    obtain ⟨c, hc, rfl⟩ : ∃ c, (mainsOf Ls 0)[i]? = some c ∧ x = .str (tx c) := by
      cases e : (mainsOf Ls 0)[i]? with
      | none => rw [e] at hx; cases hx
      | some c => rw [e] at hx; exact ⟨c, rfl, (Option.some.inj hx).symm⟩
    have il := (List.getElem?_eq_some_iff.mp hc).1
    rw [mains_len] at il
    have lds := tB.length
    rw [List.length_map, List.length_take, mains_len] at lds
    refine ⟨rfl, yes ?_⟩
    refine ⟨_, rfl, _, rfl, _, rfl, _, rfl, ?_⟩
    dsimp only [tNoPart]
    refine sl_tr (tq7.keep k8) fun v9 H9 t9 k9 => ?_
    rw [show (1 : Int) = ((1 : Nat) : Int) from rfl, cutL_from _ (by rw [mpsT_len]; omega)] at t9
    obtain ⟨sa, svs, rfl, hS9, rS9⟩ := t9.list
    have lS9 := rS9.length
    rw [List.length_drop, mpsT_len] at lS9
    refine ⟨sa, svs, rfl, .inl hS9, ?_⟩
    refine ⟨by show (V.str (tx c) :: vt :: (svs ++ [])).length ≤ sizeLine; rw [List.append_nil, List.length_cons, List.length_cons]; exact Nat.le_trans (show _ ≤ 1000 by omega) (by decide), fun T nT => ?_⟩
    rw [List.append_nil]
    obtain ⟨G1, g1, k10, t10⟩ := newT nT (trs_cons (tr_w (x := c)) (trs_cons ((tt.keep k8).keep k9) rS9))
    rw [g1]
    have eB2 := (k9.trans k10).get eB (by simp)
    have kL : Keep [Bd] G1 (upd G1 Bd (.lst (ds ++ [.ref T]))) := Keep.set eB2 (List.mem_cons_self ..)
    have kA : Keep [Bd] H8 (upd G1 Bd (.lst (ds ++ [.ref T]))) := (k9.trans k10).cons.trans kL
    refine ⟨_, eB2, Nat.lt_of_le_of_lt (show _ ≤ 10 by omega) (by decide), ds ++ [.ref T], (k8.cons.trans kA).drop nB, upd_same, ?_⟩
    have tk : (mainsOf Ls 0).take (i + 1) = (mainsOf Ls 0).take i ++ [c] := by rw [List.take_add_one, hc]; rfl
    rw [tk, List.map_append]
    exact (tB.keep kA).append (Trs.one (t10.keep kL))
  obtain ⟨ds, k8, eB, tB⟩ := p
  rw [List.length_map, List.take_of_length_le (Nat.le_refl _)] at tB
  have lds := tB.length
  rw [List.length_map, mains_len] at lds
  refine ⟨Wd, Bd, ringWs Ls.length, ds, _, rfl, by rw [List.length_map, mains_len, ringWs_len], by rw [List.length_map, mains_len]; omega, by rw [List.length_map, mains_len]; omega, SqL.of (k8.get eW7 (by simp)), SqL.of eB, tB, fun vb H9 tb k9 => ?_⟩
  have tb : Tr K H9 vb (ringB Ls kk) := tb
  have k79 := k8.trans k9
  have k59 := k57.trans k79
  have tq9 := tq5.keep k59
  have mF9 := mF0.keep k59
  have hQ9 := (k5.trans k59).sqT hQ
  have rQ9 := rQ.keep (k5.trans k59)
  have ls : ∀ {G : Hp}, Tr K G (.str "s") (.w sw) := by rw [show ("s" : Str) = tx sw by decide +kernel]; exact tr_w
  -- know_own
  refine ⟨_, rfl, _, rfl, qa, qvs, rfl, .inl hQ9, ?_⟩
  refine ⟨by show (V.str "s" :: (qvs ++ [])).length ≤ sizeLine; rw [List.append_nil, List.length_cons]; exact Nat.le_trans (show _ ≤ 1000 by omega) (by decide), fun W oW nWW odW => ?_⟩
  rw [List.append_nil]
  have kW : Keep [] H9 (upd H9 W (.frz oW (.tup (.str "s" :: qvs)))) := Keep.new nWW
  have eWW : (upd H9 W (.frz oW (.tup (.str "s" :: qvs)))) W = some (.frz oW (.tup (.str "s" :: qvs))) := upd_same
  have tWW : Tr K (upd H9 W (.frz oW (.tup (.str "s" :: qvs)))) (.ref W) (.l (kpsT (kk + 1))) := tr_frz upd_same ((trs_cons ls rQ9).keep kW)
  generalize upd H9 W (.frz oW (.tup (.str "s" :: qvs))) = H10 at kW eWW tWW
  refine ⟨_, rfl, .ref fa, .ref W, vb, sides Ls 0, kpsT (kk + 1), ringB Ls kk, rfl, mF9.keep kW, tWW, fun _ => ⟨W, oW, _, rfl, eWW, odW⟩, tb.keep kW, by rw [sides_len]; omega, fun vr H11 mr k11 => ?_⟩
  have er : (madeN (sides Ls 0).length, kpsT (kk + 1), ringB Ls kk) :: sides Ls 0 = ringP Ls kk := by
    unfold ringP fronted
    rw [sides_len]
  rw [er] at mr
  refine ⟨vr, ringP Ls kk, (madeN (tot Ls), kpsT (kk + 1), ringB Ls kk), kk + 1, rfl, mr, ringP_good ri, wP, by omega, by rw [ringP_len]; omega, ringP_head Ls kk, kps_len (kk + 1), by omega, fun vC H12 mC k12 => ?_⟩
  have mC : MpV g K H12 vC (ringC Ls kk) := mC
  have k9_12 := kW.trans (k11.trans k12)
  have eW12 := (k79.trans k9_12).get eW7 (by simp)
  have k0_12 := (k04.trans k5).trans (k59.trans k9_12)
  -- the programs
  refine ⟨_, rfl, Wd, rfl, ⟨_, SqL.of eW12⟩, fun Rd nR => ?_⟩
  refine lc_list (K := K) (a := Wd) (xs := (ringWs Ls.length).map fun x => V.str (tx x)) (fun i H' => ∃ ys : List V, Keep [] H12 H' ∧ H' Rd = some (.lst ys) ∧ Paired (MpV g K H') ys (((ringWs Ls.length).take i).map (ringM Ls kk))) ⟨[], Keep.new nR, upd_same, .nil⟩ (fun i H13 _ p => let ⟨_, p, _⟩ := p; SqL.of (p.get eW12 (by simp))) (fun i x H13 hx p => ?_) (fun H13 p => ?_)
  · obtain ⟨ys, k13, eR, pR⟩ := p
    rw [List.getElem?_map] at hx
    obtain ⟨c, hc, rfl⟩ : ∃ c, (ringWs Ls.length)[i]? = some c ∧ x = .str (tx c) := by
      cases e : (ringWs Ls.length)[i]? with
      | none => rw [e] at hx; cases hx
      | some c => rw [e] at hx; exact ⟨c, rfl, (Option.some.inj hx).symm⟩
    have il := (List.getElem?_eq_some_iff.mp hc).1
    rw [ringWs_len] at il
    have lys := mp_len pR
    rw [List.length_map, List.length_take, ringWs_len] at lys
    refine ⟨rfl, yes ?_⟩
    refine ⟨_, rfl, _, rfl, vC, .str (tx c), ringC Ls kk, _, kk, .w c, rfl, mC.keep k13, ringC_head Ls kk, mpsT_len (kk + 1), by omega, by rw [ringC_len]; omega, tr_w, fun vN H14 mN k14 => ?_⟩
    have mN : MpV g K H14 vN (ringM Ls kk c) := mN
    have eR2 := k14.get eR (by simp)
    have kL : Keep [Rd] H14 (upd H14 Rd (.lst (ys ++ [vN]))) := Keep.set eR2 (List.mem_cons_self ..)
    have kA : Keep [Rd] H13 (upd H14 Rd (.lst (ys ++ [vN]))) := k14.cons.trans kL
    refine ⟨_, eR2, Nat.lt_of_le_of_lt (show _ ≤ 10 by omega) (by decide), ys ++ [vN], (k13.cons.trans kA).drop nR, upd_same, ?_⟩
    have tk : (ringWs Ls.length).take (i + 1) = (ringWs Ls.length).take i ++ [c] := by rw [List.take_add_one, hc]; rfl
    rw [tk, List.map_append]
    exact mp_app (mp_imp (fun _ _ x => x.kp0 kA) pR) (.cons (mN.kp0 kL) .nil)
  obtain ⟨ys, k13, eR, pR⟩ := p
  rw [List.length_map, List.take_of_length_le (Nat.le_refl _)] at pR
  exact q Rd ys H13 (k0_12.free nR) eR pR (k0_12.trans k13)
end
end Og

namespace Og
open PySem PySem.Spec PyProof.Rows L2
section
variable {P : Program} {w : World} {K : PySem.W.Frag} {mg : Str → Option Value} {base : Heap}
theorem mfvs_w {g : Prop} {K : PySem.W.Frag} {H : Hp} : ∀ {vs : List V} {L : List Fn}, Paired (MfV g K H) vs L → (∀ f ∈ L, ∀ t ∈ f.2.1, t.isW = true) → Paired (FnW K H) vs (L.map toF0)
  | _, _, .nil, _ => .nil
  | _, _, .cons (b := f) h r, w => by
    refine .cons ?_ (mfvs_w r fun f m => w f (List.mem_cons_of_mem _ m))
    obtain ⟨a, vp, vb, rfl, s, tp, _, tb⟩ := h
    refine ⟨a, vp, vb, rfl, s, ?_, tb⟩
    show Tr K H vp (.l ((wsOf f.2.1).map Tree.w))
    rw [wsOf_back (w _ (List.mem_cons_self ..))]
    exact tp
theorem MpV.pw {g : Prop} {K : PySem.W.Frag} {H : Hp} {v : V} {L : List Fn} (h : MpV g K H v L) (gd : GoodL L) : PgW K H v (L.map toF0) := by
  obtain ⟨a, vs, rfl, s, p⟩ := h
  exact ⟨a, vs, rfl, s, mfvs_w p fun f m => (gd.ps f m).isW⟩
theorem mpvs_tr {g : Prop} {K : PySem.W.Frag} {H : Hp} : ∀ {vs : List V} {Ls : List (List Fn)}, Paired (MpV g K H) vs Ls → Trs K H vs (Ls.map fun L => .l (L.map fnt))
  | _, _, .nil => trs_nil
  | _, _, .cons h r => trs_cons h.tr (mpvs_tr r)
theorem vb_size' {d l : Nat} {t : Tree} (h1 : td t ≤ d) (h2 : t.size ≤ l) : VB d l t := ⟨h1, Nat.le_trans (wid_size t) h2⟩
theorem isi_listL {K : PySem.W.Frag} {H : Hp} {a : Addr} {xs : List V} (h : H a = some (.lst xs)) : ∃ ty u, ClsV (.ty "list") u ∧ TyX K H (.ref a) ty ∧ PySem.W.kitOne K ty u = some true := ⟨_, _, .ty _, .base (.lst h), kit_ty (by decide +kernel)⟩
theorem ok_law25 {e : Addr} {ed : FuncData} (F : Fun K "law" "law" s_law e ed) (B : Bn mg) {CP : Addr}
    (c_draws : Has P w K mg base 199 "_law_draws" p_law_draws (spDraws K)) (c_take : Has P w K mg base 199 "_law_take" p_law_take spTake) (c_prog : Has P w K mg base 199 "_law_program" p_law_program (spProgF K)) (c_val : Has P w K mg base 199 "_law_value" p_law_value (spVal K 2))
    (c_ring : Has P w K mg base 199 "ring" p_ring (spRing True K)) (c_check : HasX P w K mg base 199 "check_program" p_check_program (spCheckX K CP)) (c_small : Has P w K mg base 199 "_law_small" p_law_small (spSmall K)) (c_run0 : Has P w K mg base 199 "_law_run" p_law_run (spRun0 K 3200)) :
    FnOk P w K mg base CX0 200 e ed ["script"] (spLaw K) := by
  obtain ⟨_, _, c_law_draws⟩ := c_draws
  obtain ⟨_, _, c_law_take⟩ := c_take
  obtain ⟨_, _, c_law_program⟩ := c_prog
  obtain ⟨_, _, c_law_value⟩ := c_val
  obtain ⟨_, _, c_ring⟩ := c_ring
  obtain ⟨_, _, c_check_program⟩ := c_check
  obtain ⟨_, _, c_law_small⟩ := c_small
  obtain ⟨_, _, c_law_run⟩ := c_run0
  refine F.ok sc_law (fun vs H Q E h => ?_) (fun cdv A outer s H vs Q E hr h => ?_)
  · obtain ⟨a, ns, rfl, _⟩ := h
    rfl
  obtain ⟨a, ns, rfl, hS, h63, q⟩ := h
  have hn : 3200 ≤ 16 * 199 + 200 := by decide
  refine ⟨_, (pss_cons (ps_set (i := 1) sc_law.nd rfl (.inr rfl) (pe_lst (pa_cons (cal c_law_draws hr rfl (pa_cons (pv 0) (pa_cons pe_int pa_nil))) (pa_cons pe_int pa_nil))))
    (pss_cons (ps_set (i := 2) sc_law.nd rfl (.inr rfl) (cal c_law_take hr rfl (pa_cons (pv 1) (pa_cons pe_int pa_nil))))
    (pss_cons (ps_setLc (i := 3) (own := [("k", 4)]) (g := gName 4) (tt := tYes) rfl sc_law.nd rfl rfl (sw_true rfl rfl rfl (by decide +kernel)) (pi_range1 (by rfl) B.range (pa_cons (pe_op op_add pe_int (cal c_law_take hr rfl (pa_cons (pv 1) (pa_cons pe_int pa_nil)))) pa_nil)) (blkOk_by (N := n_law) (sc := defScope s_law) (by decide +kernel)) (fun _ _ _ _ _ => pg_name (i := 4) sc_law.nd rfl (Or.inl rfl)) (fun _ _ _ _ _ => pts_nil) (fun _ _ _ _ _ => (cal c_law_program hr rfl (pa_cons (pv 1) (pa_cons (pe_op op_add (pv 2) pe_int) pa_nil)))))
    (pss_cons (ps_set (i := 5) sc_law.nd rfl (.inl rfl) (pe_callTy call_tuple_of (by rfl) B.tuple (by decide +kernel) (pa_cons (pv 3) pa_nil)))
    (pss_cons (ps_set (i := 6) sc_law.nd rfl (.inl rfl) (cal c_ring hr rfl (pa_cons (pv 3) pa_nil)))
    (pss_cons (ps_if (PW.pt (pw_or (pt_not (pt_val (pe_callB call_isi (by rfl) B.isinstance (by decide +kernel) (pa_cons (pv 6) (pa_cons (pe_bltn (v := .ty "list") rfl B.list (by decide +kernel) rfl) pa_nil))))) (pw_or (pt_cmpR op_ne (pe_callB call_len_seq (by rfl) B.len PySem.boot_len (pa_cons (pv 6) pa_nil)) (pe_callB call_len_seq (by rfl) B.len PySem.boot_len (pa_cons (pv 5) pa_nil)) (nomark _)) (pw_or1 (pt_cmpR (op_neSame hr.units) (pv 3) (pe_callTy call_list_of (by rfl) B.list (by decide +kernel) (pa_cons (pv 5) pa_nil)) (nomark _)))))) (pss_one (ps_ret pe_bl)) pss_nil)
    (pss_cons (ps_setLc (i := 7) (own := [("k", 4)]) (g := gName 4) (tt := tYes) rfl sc_law.nd rfl rfl (sw_true rfl rfl rfl (by decide +kernel)) (pi_range1 (by rfl) B.range (pa_cons (pv 2) pa_nil)) (blkOk_by (N := n_law) (sc := defScope s_law) (by decide +kernel)) (fun _ _ _ _ _ => pg_name (i := 4) sc_law.nd rfl (Or.inl rfl)) (fun _ _ _ _ _ => pts_nil) (fun _ _ _ _ _ => (cal c_law_value hr rfl (pa_cons (pv 1) (pa_cons pe_int pa_nil)))))
    (pss_cons (ps_for PassesOwn.never rfl (pi_range1 (by rfl) B.range (pa_cons (pe_callB call_len_seq (by rfl) B.len PySem.boot_len (pa_cons (pv 6) pa_nil)) pa_nil)) (pg_name (i := 4) sc_law.nd rfl (.inl rfl))
      (pss_cons (ps_if (PW.pt (pw_or (pt_cmpR op_notN (calX c_check_program hr rfl pass_never (pa_cons (pe_ix ix_list (pv 6) (pv 4) (fun _ _ => rfl)) pa_nil)) pe_non (nomark _)) (pw_or1 (pt_cmpR op_ne (pe_callB call_len_seq (by rfl) B.len PySem.boot_len (pa_cons (pe_ix ix_tup (pe_ix ix_tup (pe_ix ix_list (pv 6) (pv 4) (fun _ _ => rfl)) pe_int (fun _ _ => rfl)) pe_int (fun _ _ => rfl)) pa_nil)) (pv 2) (nomark _))))) (pss_one (ps_ret pe_bl)) pss_nil)
      (pss_cons (ps_set (i := 8) sc_law.nd rfl (.inl rfl) (cal c_law_run hr rfl (pa_cons (pe_ix ix_tup (pv 5) (pv 4) (fun _ _ => rfl)) (pa_cons (pe_op op_cat (pe_lst (pa_cons (pe_callTy call_tuple_of (by rfl) B.tuple (by decide +kernel) (pa_cons (pv 6) pa_nil)) pa_nil)) (pv 7)) (pa_cons pe_int pa_nil)))))
      (pss_one (ps_if (PW.pt (pw_and (pt_cmpR op_eq (pe_ix ix_tup (pv 8) pe_int (fun _ _ => rfl)) pe_str (nomark _)) (pw_and1 (pt_val (cal c_law_small hr rfl (pa_cons (pe_ix ix_tup (pv 8) pe_int (fun _ _ => rfl)) pa_nil)))))) (pss_cons (ps_set (i := 9) sc_law.nd rfl (.inl rfl) (cal c_law_run hr rfl (pa_cons (pe_ix ix_list (pv 6) (pv 4) (fun _ _ => rfl)) (pa_cons (pv 7) (pa_cons pe_int pa_nil)))))
        (pss_one (ps_if (PW.pt (pw_or (pt_cmpR op_ne (pe_ix ix_tup (pv 9) pe_int (fun _ _ => rfl)) pe_str (nomark _)) (pw_or1 (pt_cmpR (op_neTm (n := 3200) hr.units (room_n hr hn)) (pe_ix ix_tup (pv 9) pe_int (fun _ _ => rfl)) (pe_ix ix_tup (pv 8) pe_int (fun _ _ => rfl)) (nomark _))))) (pss_one (ps_ret pe_bl)) pss_nil))) pss_nil)))))
    (pss_one (ps_ret pe_bl)))))))))), ?_⟩
  -- hand
  refine ⟨_, rfl, a, ns, 400, rfl, hS, h63, by decide, fun d ds H1 k1 nd ed1 dl => ?_⟩
  refine ⟨by show (2 : Nat) ≤ sizeLine; decide, fun h nh => ?_⟩
  have hd0 : Hd (upd H1 h (.lst [.ref d, .int 0])) h d := ⟨0, ds, upd_same, by rw [upd_ne (ne_of_none ed1 nh)]; exact ed1, by omega⟩
  generalize upd H1 h (.lst [.ref d, .int 0]) = H2 at hd0
  refine ⟨_, rfl, h, d, 3, rfl, hd0, by decide, fun j0 H3 j00 j01 k3 hd3 => ?_⟩
  obtain ⟨m, rfl⟩ := Int.eq_ofNat_of_zero_le j00
  have m2 : m ≤ 2 := by omega
  -- programs
  refine ⟨_, rfl, h, d, 4, rfl, hd3, by decide, fun j1 H4 j10 j11 k4 hd4 => ?_⟩
  obtain ⟨n, rfl⟩ := Int.eq_ofNat_of_zero_le j10
  have n3 : n ≤ 3 := by omega
  refine ⟨_, _, rfl, rfl, _, rfl, by omega, by omega, fun Pp nP => ?_⟩
  have Pph : Pp ≠ h := (hd4.neH nP).symm
  have Ppd : Pp ≠ d := (hd4.neD nP).symm
  refine lc_range (lo := 0) (n := (1 + (n : Int)).toNat) (fun i H' => ∃ (vs : List V) (Ls : List (List Fn)), H' Pp = some (.lst vs) ∧ Paired (MpV True K H') vs Ls ∧ Ls.length = i ∧ (∀ L ∈ Ls, ProgF (m + 1) L) ∧ Keep [h] H4 H' ∧ Hd H' h d)
    ⟨[], [], upd_same, .nil, rfl, fun L m => absurd m (List.not_mem_nil), Keep.new nP, hd4.new nP⟩ (fun i H5 hi p => ?_) (fun H5 p => ?_)
  · obtain ⟨vs, Ls, e1, e2, e3, e4, k5, hd5⟩ := p
    refine ⟨rfl, yes ?_⟩
    refine ⟨_, rfl, _, rfl, _, _, rfl, rfl, h, d, m + 1, rfl, hd5, by omega, fun v L H6 mv pf k6 hd6 => ?_⟩
    have e1' := k6.get e1 (by simpa using Pph)
    have k7 : Keep [Pp] H6 (upd H6 Pp (.lst (vs ++ [v]))) := Keep.set e1' (List.mem_cons_self ..)
    have lvs := mp_len e2
    refine ⟨vs, e1', Nat.lt_of_le_of_lt (show _ ≤ 10 by omega) (by decide), vs ++ [v], Ls ++ [L], upd_same, mp_imp (fun _ _ x => x.kp0 k7) (mp_app (mp_imp (fun _ _ x => x.kp0 k6) e2) (.cons mv .nil)), by rw [List.length_append, e3]; rfl, fun L' mL => ?_, ((k5.trans k6).cons.trans (k7.mono (by simp))).drop nP, hd6.upd Pph.symm Ppd.symm⟩
    rcases List.mem_append.mp mL with mL | mL
    · exact e4 L' mL
    · rw [List.mem_singleton.mp mL]; exact pf
  obtain ⟨pvs, Ls, eP, pP, lLs, okL, k5, hd5⟩ := p
  have lLs : Ls.length = n + 1 := by rw [lLs]; omega
  have lpv := mp_len pP
  have heads : ∀ L ∈ Ls, ∃ f0 : Fn, L[0]? = some f0 ∧ f0.2.1.length = m + 1 := fun L mL => by
    obtain ⟨⟨b0, Lr, eL⟩, _⟩ := okL L mL
    refine ⟨_, by rw [eL]; rfl, ?_⟩
    show (ws (xywv.take (m + 1))).length = _
    unfold ws
    rw [List.length_map, List.length_take]
    show min (m + 1) 4 = m + 1
    omega
  have ri : RingIn Ls m := ⟨fun L mL => (okL L mL).2.1, heads, ⟨by omega, by omega⟩, m2⟩
  have szb : ∀ L ∈ Ls, ∀ f ∈ L, f.2.2.size ≤ 1002 ∧ td f.2.2 ≤ 6 := fun L mL f mf => by
    obtain ⟨_, _, _, fnl, _⟩ := okL L mL
    obtain ⟨n, ps, b, e, _, _, lp, dp, sb⟩ := fnl f mf
    have e3 := (List.cons.inj (List.cons.inj (List.cons.inj (Tree.l.inj e)).2).2).1
    rw [e3]
    exact ⟨sb, td_deep 6 _ dp⟩
  have bd : RingBd Ls := by
    refine ⟨fun L mL => ?_, fun L mL => ?_, fun L mL => (okL L mL).2.2.2.2.1, szb⟩
    · obtain ⟨_, _, _, fnl, _⟩ := okL L mL
      refine wt_l (WTs.of fun t mt => ?_)
      obtain ⟨f, mf, rfl⟩ := List.mem_map.mp mt
      obtain ⟨_, _, _, e, w, _⟩ := fnl f mf
      exact w
    · have gP := (okL L mL).2.1
      have l5 := (okL L mL).2.2.2.2.1
      have := sizes_le (ts := L.map fnt) (b := 1100) fun t mt => by
        obtain ⟨f, mf, rfl⟩ := List.mem_map.mp mt
        have w := (gP.ps f mf).isW
        have l12 := (gP.ps f mf).1
        have := sizes_ws (wsOf f.2.1)
        rw [wsOf_back w] at this
        rw [fnt_size, this]
        unfold wsOf
        rw [List.length_map]
        have := (szb L mL f mf).1
        omega
      rw [List.length_map] at this
      rw [size_l]
      have := Nat.mul_le_mul_right 1100 l5
      omega
  -- kept, made
  refine ⟨_, rfl, Pp, pvs, rfl, .inl ⟨SqL.of eP, fun Kp nK => ?_⟩⟩
  have kK : Keep [] H5 (upd H5 Kp (.tup pvs)) := Keep.new nK
  have eK : (upd H5 Kp (.tup pvs)) Kp = some (.tup pvs) := upd_same
  generalize upd H5 Kp (.tup pvs) = H6 at kK eK
  have eP6 := kK.get eP (by simp)
  have pP6 := mp_imp (fun _ _ x => MpV.keep x kK) pP
  have hd6 := hd5.keep0 kK
  refine ⟨_, rfl, Pp, pvs, Ls, m, rfl, SqL.of eP6, pP6, ri, bd, fun Mp ys H7 nM eM pM k7 => ?_⟩
  have lys := mp_len pM
  rw [List.length_map, ringWs_len] at lys
  have eP7 := k7.get eP6 (by simp)
  have eK7 := k7.tup eK
  have hd7 := hd6.keep0 k7
  have pP7 := mp_imp (fun _ _ x => MpV.keep x k7) pP6
  obtain ⟨ty, u, q1, q2, q3⟩ := isi_listL (K := K) eM
  refine ⟨_, rfl, _, _, ty, u, _, rfl, q1, q2, q3, _, rfl, iteF ?_⟩
  refine ⟨_, rfl, Mp, _, rfl, .inl (SqL.of eM), _, rfl, Kp, _, rfl, .inr (SqT.of_tup eK7), rfl, _, rfl, ?_⟩
  rw [show (!decide (V.int ((ys.length : Nat) : Int) = V.int ((pvs.length : Nat) : Int))) = false by rw [lys, lpv]; simp]
  refine iteF ?_
  have refs : ∀ {vs : List V} {Ls : List (List Fn)} {G : Hp}, Paired (MpV True K G) vs Ls → ∀ v ∈ vs, ∃ r, v = .ref r := fun {vs Ls G} p => by
    induction p with
    | nil => intro v m; cases m
    | cons h _ ih =>
      intro v m
      rcases List.mem_cons.mp m with e | m
      · rw [e]
        obtain ⟨a, _, e2, _⟩ := h
        exact ⟨a, e2⟩
      · exact ih v m
  refine ⟨_, rfl, _, rfl, Kp, pvs, rfl, .inr (SqT.of_tup eK7), fun Lp nL => ?_⟩
  have kL0 : Keep [] H7 (upd H7 Lp (.lst pvs)) := Keep.new nL
  have eL0 : (upd H7 Lp (.lst pvs)) Lp = some (.lst pvs) := upd_same
  generalize upd H7 Lp (.lst pvs) = H8 at kL0 eL0
  have eP8 := kL0.get eP7 (by simp)
  have eK8 := kL0.tup eK7
  have eM8 := kL0.get eM (by simp)
  have hd8 := hd7.keep0 kL0
  have pP8 := mp_imp (fun _ _ x => MpV.keep x kL0) pP7
  have pM8 := mp_imp (fun _ _ x => MpV.keep x kL0) pM
  refine ⟨Pp, Lp, pvs, rfl, rfl, eP8, eL0, fun v mv => .inr (refs pP v mv), _, rfl, iteF ?_⟩
  -- inputs
  refine ⟨_, rfl, (m : Int), rfl, by omega, by omega, fun Ip nI => ?_⟩
  have Iph : Ip ≠ h := (hd8.neH nI).symm
  have Ipd : Ip ≠ d := (hd8.neD nI).symm
  refine lc_range (lo := 0) (n := (m : Int).toNat) (fun i H' => ∃ vs ts, H' Ip = some (.lst vs) ∧ Trs K H' vs ts ∧ ts.length = i ∧ (∀ t ∈ ts, VB 51 1002 t ∧ t.size ≤ 13) ∧ Keep [h] H8 H' ∧ Hd H' h d)
    ⟨[], [], upd_same, trs_nil, rfl, by simp, Keep.new nI, hd8.new nI⟩ (fun i H9 hi p => ?_) (fun H9 p => ?_)
  · obtain ⟨vs, ts, e1, e2, e3, e4, k9, hd9⟩ := p
    refine ⟨rfl, yes ?_⟩
    refine ⟨_, rfl, h, d, rfl, hd9, fun v t H10 tv wt sz dp k10 hd10 => ?_⟩
    have e1' : H10 Ip = some (.lst vs) := k10.get e1 (by simpa using Iph)
    have k11 : Keep [Ip] H10 (upd H10 Ip (.lst (vs ++ [v]))) := Keep.set e1' (List.mem_cons_self ..)
    refine ⟨vs, e1', ?_, vs ++ [v], ts ++ [t], upd_same, (e2.keep k10 |>.append (trs_cons tv trs_nil)).keep k11, by rw [List.length_append, e3]; rfl, ?_, ((k9.trans k10).cons.trans (k11.mono (by simp))).drop nI, hd10.upd Iph.symm Ipd.symm⟩
    · rw [e2.length]
      exact sizeLt (by omega)
    · intro u hu
      rcases List.mem_append.mp hu with mu | mu
      · exact e4 u mu
      · rw [List.mem_singleton.mp mu]
        have e13 : MV 2 = 13 := rfl
        exact ⟨vb_size' (Nat.le_trans (td_deep 2 _ dp) (by decide)) (by omega), by omega⟩
  obtain ⟨ivs, its, eI, tI, lI, bI, k9, hd9⟩ := p
  have lI : its.length = m := by rw [lI]; omega
  have livs := tI.length
  have hPh : Pp ≠ h ∧ Mp ≠ h := by
    obtain ⟨zs, eh⟩ := hd8.lst
    refine ⟨fun e => ?_, fun e => ?_⟩
    · have := nP
      obtain ⟨zs4, eh4⟩ := hd4.lst
      rw [e, eh4] at this
      cases this
    · have := nM
      obtain ⟨zs6, eh6⟩ := hd6.lst
      rw [e, eh6] at this
      cases this
  have eM9 := k9.get eM8 (by simpa using hPh.2)
  have eK9 := k9.tup eK8
  have pP9 := mp_imp (fun _ _ x => MpV.kp0 x k9) pP8
  have pM9 := mp_imp (fun _ _ x => MpV.kp0 x k9) pM8
  -- each of them
  refine ⟨_, rfl, Mp, _, rfl, .inl (SqL.of eM9), _, rfl, by omega, by omega, ?_⟩
  refine for_range (lo := 0) (n := ((ys.length : Nat) : Int).toNat) (fun i σ H' => ∃ y4 y8 y9 : Option V, σ = [some (.ref a), some (.ref h), some (.int (m : Nat)), some (.ref Pp), y4, some (.ref Kp), some (.ref Mp), some (.ref Ip), y8, y9] ∧ Keep [] H9 H')
    ⟨_, _, _, rfl, Keep.refl⟩ (fun i σ H10 hi pw => ?_) (fun σ H10 pw => q H10)
  obtain ⟨y4, y8, y9, rfl, k10⟩ := pw
  have il : i < Ls.length := by omega
  have eM10 := k10.get eM9 (by simp)
  have eK10 := k10.tup eK9
  have eI10 := k10.get eI (by simp)
  have tI10 := tI.keep k10
  have pP10 := mp_imp (fun _ _ x => MpV.keep x k10) pP9
  have pM10 := mp_imp (fun _ _ x => MpV.keep x k10) pM9
  have hL := List.getElem?_eq_getElem il
  have mL := List.getElem_mem il
  generalize Ls[i] = L at hL mL
  obtain ⟨f0, e0, lf0⟩ := heads L mL
  have gL := ri.g L mL
  obtain ⟨vk, hvk, mk⟩ := pr_get pP10 hL
  obtain ⟨y, hy, my⟩ := pr_get pM10 (i := i) (b := ringM Ls m (ringW i)) (by rw [List.getElem?_map, ringWs_get il]; rfl)
  obtain ⟨wM, zM, lM, vM⟩ := ringM_bd ri bd il
  have gM := ringM_good ri (ringW i)
  have eMh : (ringM Ls m (ringW i))[0]? = some (madeN (tot Ls + 3), mpsT m, fillB (madeN (tot Ls + 2)) (.w (ringW i)) m) := by rw [ringM_eq]; rfl
  have good := gM.bad (by intro e; rw [e] at eMh; cases eMh)
  have no : ∀ n, BadNo (.l ((ringM Ls m (ringW i)).map fnt)) (some n) → False := fun n h => by have := BadNo.uniq good h; cases this
  rw [show (0 : Int) + (i : Int) = (i : Int) by omega]
  refine ⟨_, rfl, _, rfl, Mp, ys, _, y, rfl, rfl, SqL.of eM10, atI_nat hy, y, _, rfl, my.tr, wM, by omega, fun fs e => by rw [← Tree.l.inj e, List.length_map]; omega, fun n hn => (no n hn).elim, fun H11 _ k11 => ?_⟩
  refine ⟨rfl, _, rfl, ?_⟩
  rw [show (!decide (V.non = V.non)) = false by simp]
  refine iteF ?_
  have eM11 := k11.get eM10 (by simp)
  have my11 := my.keep k11
  obtain ⟨ya, yvs, rfl, hY, pY⟩ := id my11
  have lyv := mp_len pY
  obtain ⟨v0, hv0, m0⟩ : ∃ v0, yvs[0]? = some v0 ∧ MfV True K H11 v0 (madeN (tot Ls + 3), mpsT m, fillB (madeN (tot Ls + 2)) (.w (ringW i)) m) := by
    obtain ⟨v0, h0, r⟩ := pr_get pY eMh
    exact ⟨v0, h0, r⟩
  obtain ⟨oa, vp, vb, rfl, hO, tp, _, tb⟩ := m0
  obtain ⟨qa, qvs, rfl, hQ, rQ⟩ := tp.list
  have lQ := rQ.length
  have lQ2 : qvs.length = m := by rw [lQ]; exact mpsT_len m
  refine ⟨_, rfl, _, rfl, Mp, ys, _, _, rfl, rfl, SqL.of eM11, atI_nat hy, ya, yvs, _, _, rfl, rfl, hY, atI_nat (j := 0) hv0, oa, _, _, _, rfl, rfl, hO, rfl, qa, qvs, rfl, .inr hQ, _, rfl, rfl, _, rfl, ?_⟩
  rw [show (!decide (V.int ((qvs.length : Nat) : Int) = V.int ((m : Nat) : Int))) = false by rw [lQ2]; simp]
  refine iteF ?_
  -- due
  have eK11 := k11.tup eK10
  have eI11 := k11.get eI10 (by simp)
  have pM11 := mp_imp (fun _ _ x => MpV.keep x k11) pM10
  have tTX := mpvs_tr pM11
  rw [List.map_map] at tTX
  refine ⟨_, rfl, _, rfl, Kp, pvs, _, vk, rfl, rfl, SqT.of_tup eK11, atI_nat hvk, _, rfl, Mp, ys, rfl, .inl ⟨SqL.of eM11, fun Tp nT => ⟨by show (1 : Nat) ≤ sizeLine; decide, fun q1' nq1 => ?_⟩⟩⟩
  obtain ⟨tTp, kTp⟩ := mk_tr (K := K) (H := H11) nT tTX
  generalize upd H11 Tp (.tup ys) = H12 at tTp kTp nq1
  have kq1 : Keep [] H12 (upd H12 q1' (.lst [.ref Tp])) := Keep.new nq1
  have eq1 : (upd H12 q1' (.lst [.ref Tp])) q1' = some (.lst [.ref Tp]) := upd_same
  generalize upd H12 q1' (.lst [.ref Tp]) = H13 at kq1 eq1
  have eI13 := (kTp.trans kq1).get eI11 (by simp)
  refine ⟨_, rfl, q1', Ip, _, _, rfl, rfl, eq1, eI13, Nat.le_trans (show _ ≤ 10 by rw [List.length_singleton]; omega) (by decide), fun q2' nq2 => ?_⟩
  have kq2 : Keep [] H13 (upd H13 q2' (.lst ([.ref Tp] ++ ivs))) := Keep.new nq2
  have eq2 : (upd H13 q2' (.lst ([.ref Tp] ++ ivs))) q2' = some (.lst ([.ref Tp] ++ ivs)) := upd_same
  generalize upd H13 q2' (.lst ([.ref Tp] ++ ivs)) = H14 at kq2 eq2
  have k11_14 := kTp.trans (kq1.trans kq2)
  have k10_14 := k11.trans k11_14
  have tTp14 := (tTp.keep kq1).keep kq2
  have tI14 := tI10.keep k10_14
  have mk14 := mk.keep k10_14
  have vTX : VB 51 1002 (.l ((ringWs Ls.length).map fun w => .l ((ringM Ls m w).map fnt))) := by
    have each : ∀ t ∈ (ringWs Ls.length).map (fun w => Tree.l ((ringM Ls m w).map fnt)), VB 50 1002 t := fun t mt => by
      obtain ⟨w, mw, rfl⟩ := List.mem_map.mp mt
      obtain ⟨i', mi', rfl⟩ := List.mem_map.mp mw
      exact (ringM_bd ri bd (List.mem_range.mp mi')).2.2.2
    exact ⟨td_l fun t mt => (each t mt).1, wid_l (by rw [List.length_map, ringWs_len]; omega) fun t mt => (each t mt).2⟩
  have hi1 : ∀ t ∈ Tree.l ((ringWs Ls.length).map fun w => .l ((ringM Ls m w).map fnt)) :: its, VB 51 1002 t := fun t mt => by
    rcases List.mem_cons.mp mt with e | mt
    · rw [e]; exact vTX
    · exact (bI t mt).1
  have ll1 : (Tree.l ((ringWs Ls.length).map fun w => .l ((ringM Ls m w).map fnt)) :: its).length = f0.2.1.length := by rw [List.length_cons, lI, lf0]
  have vbL : ∀ f ∈ L, VB 51 1002 f.2.2 := fun f mf => vb_size' (by have := (szb L mL f mf).2; omega) (szb L mL f mf).1
  have l5 := bd.ln L mL
  refine run0_half (E := E0) (lim := 4000) (D := 51) (W := 1002) (mk14.pw gL) gL (by omega) e0 (SqL.of eq2) (trs_cons tTp14 tI14) ll1 (by decide) vbL hi1 (by decide) (by decide) (by decide) fun r0 H15 R0 k15 => ?_
  have k10_15 := k10_14.trans k15
  have done : ∀ (z4 z8 z9 : Option V) (H16 : Hp), Keep [] H10 H16 → ∃ y4 y8 y9 : Option V, [some (V.ref a), some (.ref h), some (.int (m : Nat)), some (.ref Pp), z4, some (.ref Kp), some (.ref Mp), some (.ref Ip), z8, z9] = [some (.ref a), some (.ref h), some (.int (m : Nat)), some (.ref Pp), y4, some (.ref Kp), some (.ref Mp), some (.ref Ip), y8, y9] ∧ Keep [] H9 H16 := fun z4 z8 z9 H16 k16 => ⟨z4, z8, z9, rfl, k10.trans k16⟩
  rcases R0 with ⟨k', v, s, ht, hs, ra, u, rfl, era, tu⟩ | ⟨k', t, e', td, fd, _, ra, rfl, era⟩
  rotate_left
  · refine ⟨_, rfl, ra, _, _, _, rfl, rfl, SqT.of_tup era, atI_zero _ _, rfl, _, rfl, ?_⟩
    rw [sSF (show ("tired" : Str) ≠ "done" by decide +kernel)]
    exact iteF (iteF (done _ _ _ _ k10_15))
  refine ⟨_, rfl, ra, _, _, _, rfl, rfl, SqT.of_tup era, atI_zero _ _, rfl, _, rfl, ?_⟩
  rw [sST rfl]
  refine iteT ?_
  have vbv := run0_end gL e0 ll1 (by decide) vbL hi1 ht
  refine ⟨_, rfl, ra, _, _, _, rfl, rfl, SqT.of_tup era, atI_nat (j := 1) rfl, u, v, 2051, 3002, rfl, tu, vbv.mono (by omega) (by omega), by decide, by decide, fun b H16 hbs k16 => ⟨b, rfl, ?_⟩⟩
  have k10_16 := k10_15.trans k16
  cases b with
  | false => exact iteF (done _ _ _ _ k10_16)
  | true =>
  refine iteT ?_
  obtain ⟨j, c, hc, hj⟩ := ring_run ri hL e0 lI ht
  have hfr : m00 (toF0 (madeN (tot Ls + 3), mpsT m, fillB (madeN (tot Ls + 2)) (.w (ringW i)) m)) its = ⟨[.ev (fillB (madeN (tot Ls + 2)) (.w (ringW i)) m) ((mps m).zip its)], [], 0⟩ := by
    show MS.mk [.ev _ ((wsOf ((mps m).map Tree.w)).zip its)] [] 0 = _
    rw [wsOf_ws]
    rfl
  rw [← hfr] at hj
  have eM16 := k10_16.get eM10 (by simp)
  have eI16 := k10_16.get eI10 (by simp)
  have my16 := my.keep k10_16
  have tI16 := tI10.keep k10_16
  have hll : its.length = (madeN (tot Ls + 3), mpsT m, fillB (madeN (tot Ls + 2)) (.w (ringW i)) m).2.1.length := by rw [lI]; exact (mpsT_len m).symm
  refine ⟨_, rfl, _, rfl, Mp, ys, _, _, rfl, rfl, SqL.of eM16, atI_nat hy, _, rfl, ?_⟩
  refine run0_half (E := E0) (lim := 6000) (D := 51) (W := 1002) (my16.pw gM) gM (by omega) eMh (SqL.of eI16) tI16 hll (by decide) (fun f mf => (body_vb vM f mf).mono (by decide) (Nat.le_refl _)) (fun t mt => (bI t mt).1) (by decide) (by decide) (by decide) fun r1 H17 R1 k17 => ?_
  obtain ⟨rb, u2, rfl, erb, tu2⟩ := runres_done hj (by omega) R1
  refine ⟨_, rfl, rb, _, _, _, rfl, rfl, SqT.of_tup erb, atI_zero _ _, rfl, _, rfl, ?_⟩
  rw [show (!decide (V.str "done" = V.str "done")) = false by simp]
  refine iteF ?_
  have era17 := (k16.trans k17).tup era
  refine ⟨_, rfl, rb, _, _, _, rfl, rfl, SqT.of_tup erb, atI_nat (j := 1) rfl, _, rfl, ra, _, _, _, rfl, rfl, SqT.of_tup era17, atI_nat (j := 1) rfl, v, v, tu2, tu.keep (k16.trans k17), by have := vbv.1; omega, fun b2 hb2 => ⟨b2, rfl, ?_⟩⟩
  have eb2 : b2 = false := by
    cases b2 with
    | false => rfl
    | true => exact absurd rfl (hb2.mp rfl)
  subst eb2
  exact iteF (done _ _ _ _ (k10_16.trans k17))
end
end Og

namespace Og
open PySem PySem.Spec PyProof.Rows L2
theorem ok_law {P : Program} {w : World} {K : PySem.W.Frag} {mg : Str → Option Value} {base : Heap} {e : Addr} {ed : FuncData} (F : Fun K "law" "law" s_law e ed) (B : Bn mg) (M : Mc mg)
    (S_SPECIAL_WORDS : DictC K w mg "SPECIAL_WORDS" [([113, 117, 111, 116, 101], 1), ([105, 102], 3), ([115, 97, 109, 101], 2), ([119, 111, 114, 100], 1), ([104, 101, 97, 100], 1), ([116, 97, 105, 108], 1), ([106, 111, 105, 110], 2)])
    (E_BadProgram : ErrAll K mg "BadProgram" "BadProgram.__init__" "function" s_BadProgram_init)
    (C_BadInputs : ∃ a : Addr, mg "BadInputs" = some (.ref a))
    (W_BadProgram_BadInputs : ErrNot K mg "BadProgram" "BadInputs")
    (D_check_program : DefAt K mg "check_program" s_check_program p_check_program)
    (D_inputs_of : DefAt K mg "inputs_of" s_inputs_of p_inputs_of)
    (D_called_functions : DefAt K mg "_called_functions" s_called_functions p_called_functions)
    (D_looks_like_function : DefAt K mg "_looks_like_function" s_looks_like_function p_looks_like_function)
    (D_is_good_function : DefAt K mg "_is_good_function" s_is_good_function p_is_good_function)
    (D_is_good_name : DefAt K mg "_is_good_name" s_is_good_name p_is_good_name)
    (D_are_good_parameters : DefAt K mg "_are_good_parameters" s_are_good_parameters p_are_good_parameters)
    (D_is_good_body : DefAt K mg "_is_good_body" s_is_good_body p_is_good_body)
    (D_has_right_parts : DefAt K mg "_has_right_parts" s_has_right_parts p_has_right_parts)
    (D_fill : DefAt K mg "fill" s_fill p_fill)
    (D_made_name : DefAt K mg "made_name" s_made_name p_made_name)
    (D_made_parameters : DefAt K mg "made_parameters" s_made_parameters p_made_parameters)
    (D_listing : DefAt K mg "listing" s_listing p_listing)
    (D_filled : DefAt K mg "filled" s_filled p_filled)
    (D_side_by_side : DefAt K mg "side_by_side" s_side_by_side p_side_by_side)
    (D_with_front : DefAt K mg "with_front" s_with_front p_with_front)
    (D_renamed_good : DefAt K mg "_renamed_good" s_renamed_good p_renamed_good)
    (D_renamed_body : DefAt K mg "_renamed_body" s_renamed_body p_renamed_body)
    (D_expressions_of : DefAt K mg "_expressions_of" s_expressions_of p_expressions_of)
    (D_know_own : DefAt K mg "know_own" s_know_own p_know_own)
    (D_ring : DefAt K mg "ring" s_ring p_ring)
    (D_text_of_filled : DefAt K mg "_text_of_filled" s_text_of_filled p_text_of_filled)
    (D_texts_of_ring : DefAt K mg "_texts_of_ring" s_texts_of_ring p_texts_of_ring)
    (D_choice_by_word : DefAt K mg "_choice_by_word" s_choice_by_word p_choice_by_word)
    (D_law_draws : DefAt K mg "_law_draws" s_law_draws p_law_draws)
    (D_law_take : DefAt K mg "_law_take" s_law_take p_law_take)
    (D_law_value : DefAt K mg "_law_value" s_law_value p_law_value)
    (D_law_expression : DefAt K mg "_law_expression" s_law_expression p_law_expression)
    (D_law_library : DefAt K mg "_law_library" s_law_library p_law_library)
    (D_law_program : DefAt K mg "_law_program" s_law_program p_law_program)
    (D_law_do : DefAt K mg "_law_do" s_law_do p_law_do)
    (D_law_small : DefAt K mg "_law_small" s_law_small p_law_small)
    (D_law_run : DefAt K mg "_law_run" s_law_run p_law_run) :
    FnOk P w K mg base CX0 200 e ed ["script"] (spLaw K) := by
  obtain ⟨C, G, fI, fdI, T_BadProgram, Hh⟩ := E_BadProgram.ex
  obtain ⟨d, es, n, m, kd, en⟩ := S_SPECIAL_WORDS.ex
  have DD : DictD K w specials d := ⟨⟨es, n, kd, en⟩⟩
  have h_draws := has_draws (P := P) (w := w) (base := base) (k := 0) D_law_draws B
  have h_take := has_take (P := P) (w := w) (base := base) (k := 0) D_law_take B
  have h_val := has_val (P := P) (w := w) (base := base) (k := 1) D_law_value B h_take 2
  obtain ⟨fx, fdx, hx⟩ := has_expr (P := P) (w := w) (base := base) (k := 4) D_law_expression B (h_take.mono (by decide)) (h_val.mono (by decide))
  have h_expr := has_upto hx 3
  have h_lib := has_libF (P := P) (w := w) (base := base) (k := 0) D_law_library B
  have h_prog := has_progF (P := P) (w := w) (base := base) (k := 8) D_law_program B (h_take.mono (by decide)) (h_lib.mono (by decide)) h_expr
  have h_small := has_small (P := P) (w := w) (base := base) (k := 0) D_law_small B
  have h_looks := has_looks (P := P) (w := w) (base := base) (k := 0) D_looks_like_function B
  have h_gname := has_gname (P := P) (w := w) (base := base) (k := 0) m DD D_is_good_name B
  have h_gps := has_gps (P := P) (w := w) (base := base) (k := 0) m DD D_are_good_parameters B M
  have h_rp := has_rp (P := P) (w := w) (base := base) (k := 0) m DD D_has_right_parts B
  have h_gbody := has_gbody (P := P) (w := w) (base := base) (k := 1) D_is_good_body B h_rp
  have h_gfn := has_gfn (P := P) (w := w) (base := base) (k := 11) D_is_good_function B (h_looks.mono (by decide)) (h_gname.mono (by decide)) (h_gps.mono (by decide)) (h_gbody.mono (by decide))
  have h_called := has_called (P := P) (w := w) (base := base) (k := 11) D_called_functions B (h_looks.mono (by decide))
  have h_check := has_checkX (P := P) (w := w) (base := base) (k := 9) T_BadProgram D_check_program B h_called h_gfn
  have h_inputs := has_inputsX (P := P) (w := w) (base := base) (k := 13) D_inputs_of B h_check
  have h_name := has_madeName (P := P) (w := w) (base := base) (k := 0) D_made_name B
  have h_pars := has_madePars (P := P) (w := w) (base := base) (k := 0) D_made_parameters B
  have h_exs := has_exprs (P := P) (w := w) (base := base) (k := 0) D_expressions_of B
  have h_rb := has_renBody (P := P) (w := w) (base := base) (k := 1) D_renamed_body B h_exs
  have h_rg := has_renGood (P := P) (w := w) (base := base) (g := True) (k := 2) D_renamed_good B h_rb (h_name.mono (by decide))
  have h_front := has_front (P := P) (w := w) (base := base) (g := True) (k := 1) D_with_front B h_name
  have h_list := has_listing (P := P) (w := w) (base := base) (k := 0) D_listing B
  have h_filled := has_filled (P := P) (w := w) (base := base) (g := True) (k := 2) D_filled B (h_pars.mono (by decide)) h_front
  have h_sides := has_sides (P := P) (w := w) (base := base) (g := True) (k := 3) D_side_by_side B h_rg (h_name.mono (by decide))
  have h_fill := has_fill (P := P) (w := w) (base := base) (g := True) (k := 14) D_fill B M h_inputs (h_filled.mono (by decide))
  have h_txr := has_textsRing (P := P) (w := w) (base := base) (k := 1) D_texts_of_ring B h_name h_list
  have h_cho := has_choice (P := P) (w := w) (base := base) (k := 0) D_choice_by_word B
  have h_tof := has_tof (P := P) (w := w) (base := base) (k := 1) D_text_of_filled B h_name h_list
  have h_know := has_know (P := P) (w := w) (base := base) (k := 15) D_know_own B M (h_inputs.mono (by decide)) (h_pars.mono (by decide)) (h_sides.mono (by decide)) (h_tof.mono (by decide)) (h_front.mono (by decide)) h_fill
  have h_do := has_do (P := P) (w := w) (base := base) (k := 190) (n := 3200) (by decide) D_law_do B
  have h_run0 := has_run0 (P := P) (w := w) (base := base) D_law_run B h_do
  have h_ring := has_ring (P := P) (w := w) (base := base) (g := True) (k := 16) D_ring B M (h_inputs.mono (by decide)) (h_pars.mono (by decide)) (h_sides.mono (by decide)) (h_txr.mono (by decide)) (h_cho.mono (by decide)) (h_front.mono (by decide)) h_know (h_filled.mono (by decide))
  exact ok_law25 F B (h_draws.mono (by decide)) (h_take.mono (by decide)) (h_prog.mono (by decide)) (h_val.mono (by decide)) (h_ring.mono (by decide)) (h_check.mono (by decide)) (h_small.mono (by decide)) (h_run0.mono (by decide))
end Og

namespace Og
open PySem PySem.Spec PyProof.Rows L2
theorem all_mk {l : PySem.W.OpenLaw} {w : World} {K : PySem.W.Frag} {h : Heap} {mg : Str → Option Value} {fa f0 f1 f2 f3 f4 f5 f6 f7 f8 f9 f10 f11 f12 f13 f14 f15 f16 f17 f18 f19 f20 f21 f22 f23 f24 f25 f26 f27 f28 f29 f30 f31 f32 f33 : Addr} (X : K.In h) (G : h.Ns mainGlobals mg) (hfa : mg "law" = some (.ref fa))
    {Dd0 : Addr} {Des0 : Array DictEntry} {Dn0 : Nat}
    {PC0 : Addr}
    {CG : Addr} {C0 I0 N0 : Addr} {nm0 q0 : Str} {bs0 bm0 sub0 : List Value} {sn0 : List Str} {ab0 : Bool} {col0 : Option Bool} {dd0 eod0 ean0 : Option Addr} {u0 v0 w0 x0 y0 : Option Value} {esl0 : Array (Option Value)} {eoc0 ekV0 edc0 epm0 ecd0 ect0 : Value}
    {od0 an0 od1 an1 od2 an2 od3 an3 od4 an4 od5 an5 od6 an6 od7 an7 od8 an8 od9 an9 od10 an10 od11 an11 od12 an12 od13 an13 od14 an14 od15 an15 od16 an16 od17 an17 od18 an18 od19 an19 od20 an20 od21 an21 od22 an22 od23 an23 od24 an24 od25 an25 od26 an26 od27 an27 od28 an28 od29 an29 od30 an30 od31 an31 od32 an32 od33 an33 : Option Addr} {sl0 sl1 sl2 sl3 sl4 sl5 sl6 sl7 sl8 sl9 sl10 sl11 sl12 sl13 sl14 sl15 sl16 sl17 sl18 sl19 sl20 sl21 sl22 sl23 sl24 sl25 sl26 sl27 sl28 sl29 sl30 sl31 sl32 sl33 : Array (Option Value)} {oc0 kV0 dc0 pm0 cd0 ct0 oc1 kV1 dc1 pm1 cd1 ct1 oc2 kV2 dc2 pm2 cd2 ct2 oc3 kV3 dc3 pm3 cd3 ct3 oc4 kV4 dc4 pm4 cd4 ct4 oc5 kV5 dc5 pm5 cd5 ct5 oc6 kV6 dc6 pm6 cd6 ct6 oc7 kV7 dc7 pm7 cd7 ct7 oc8 kV8 dc8 pm8 cd8 ct8 oc9 kV9 dc9 pm9 cd9 ct9 oc10 kV10 dc10 pm10 cd10 ct10 oc11 kV11 dc11 pm11 cd11 ct11 oc12 kV12 dc12 pm12 cd12 ct12 oc13 kV13 dc13 pm13 cd13 ct13 oc14 kV14 dc14 pm14 cd14 ct14 oc15 kV15 dc15 pm15 cd15 ct15 oc16 kV16 dc16 pm16 cd16 ct16 oc17 kV17 dc17 pm17 cd17 ct17 oc18 kV18 dc18 pm18 cd18 ct18 oc19 kV19 dc19 pm19 cd19 ct19 oc20 kV20 dc20 pm20 cd20 ct20 oc21 kV21 dc21 pm21 cd21 ct21 oc22 kV22 dc22 pm22 cd22 ct22 oc23 kV23 dc23 pm23 cd23 ct23 oc24 kV24 dc24 pm24 cd24 ct24 oc25 kV25 dc25 pm25 cd25 ct25 oc26 kV26 dc26 pm26 cd26 ct26 oc27 kV27 dc27 pm27 cd27 ct27 oc28 kV28 dc28 pm28 cd28 ct28 oc29 kV29 dc29 pm29 cd29 ct29 oc30 kV30 dc30 pm30 cd30 ct30 oc31 kV31 dc31 pm31 cd31 ct31 oc32 kV32 dc32 pm32 cd32 ct32 oc33 kV33 dc33 pm33 cd33 ct33 : Value} {t0 t1 t2 : Tok}
    (a0 : PySem.W.nsIn K mainGlobals "check_program" = some (some (.ref f0))) (l0 : K.lookup f0 = some ⟨oc0, od0, .func (PySem.W.fnOf "check_program" "check_program" (defArgs s_check_program) (defBody s_check_program) (defScope s_check_program) .none kV0 dc0 pm0 an0 cd0 ct0), sl0⟩) (c0 : PySem.W.codeIn K cd0 "check_program" = true) (k0 : PySem.W.keepIn K (.ref f0) = true)
    (a1 : PySem.W.nsIn K mainGlobals "inputs_of" = some (some (.ref f1))) (l1 : K.lookup f1 = some ⟨oc1, od1, .func (PySem.W.fnOf "inputs_of" "inputs_of" (defArgs s_inputs_of) (defBody s_inputs_of) (defScope s_inputs_of) .none kV1 dc1 pm1 an1 cd1 ct1), sl1⟩) (c1 : PySem.W.codeIn K cd1 "inputs_of" = true) (k1 : PySem.W.keepIn K (.ref f1) = true)
    (a2 : PySem.W.nsIn K mainGlobals "_called_functions" = some (some (.ref f2))) (l2 : K.lookup f2 = some ⟨oc2, od2, .func (PySem.W.fnOf "_called_functions" "_called_functions" (defArgs s_called_functions) (defBody s_called_functions) (defScope s_called_functions) .none kV2 dc2 pm2 an2 cd2 ct2), sl2⟩) (c2 : PySem.W.codeIn K cd2 "_called_functions" = true) (k2 : PySem.W.keepIn K (.ref f2) = true)
    (a3 : PySem.W.nsIn K mainGlobals "_looks_like_function" = some (some (.ref f3))) (l3 : K.lookup f3 = some ⟨oc3, od3, .func (PySem.W.fnOf "_looks_like_function" "_looks_like_function" (defArgs s_looks_like_function) (defBody s_looks_like_function) (defScope s_looks_like_function) .none kV3 dc3 pm3 an3 cd3 ct3), sl3⟩) (c3 : PySem.W.codeIn K cd3 "_looks_like_function" = true) (k3 : PySem.W.keepIn K (.ref f3) = true)
    (a4 : PySem.W.nsIn K mainGlobals "_is_good_function" = some (some (.ref f4))) (l4 : K.lookup f4 = some ⟨oc4, od4, .func (PySem.W.fnOf "_is_good_function" "_is_good_function" (defArgs s_is_good_function) (defBody s_is_good_function) (defScope s_is_good_function) .none kV4 dc4 pm4 an4 cd4 ct4), sl4⟩) (c4 : PySem.W.codeIn K cd4 "_is_good_function" = true) (k4 : PySem.W.keepIn K (.ref f4) = true)
    (a5 : PySem.W.nsIn K mainGlobals "_is_good_name" = some (some (.ref f5))) (l5 : K.lookup f5 = some ⟨oc5, od5, .func (PySem.W.fnOf "_is_good_name" "_is_good_name" (defArgs s_is_good_name) (defBody s_is_good_name) (defScope s_is_good_name) .none kV5 dc5 pm5 an5 cd5 ct5), sl5⟩) (c5 : PySem.W.codeIn K cd5 "_is_good_name" = true) (k5 : PySem.W.keepIn K (.ref f5) = true)
    (a6 : PySem.W.nsIn K mainGlobals "_are_good_parameters" = some (some (.ref f6))) (l6 : K.lookup f6 = some ⟨oc6, od6, .func (PySem.W.fnOf "_are_good_parameters" "_are_good_parameters" (defArgs s_are_good_parameters) (defBody s_are_good_parameters) (defScope s_are_good_parameters) .none kV6 dc6 pm6 an6 cd6 ct6), sl6⟩) (c6 : PySem.W.codeIn K cd6 "_are_good_parameters" = true) (k6 : PySem.W.keepIn K (.ref f6) = true)
    (a7 : PySem.W.nsIn K mainGlobals "_is_good_body" = some (some (.ref f7))) (l7 : K.lookup f7 = some ⟨oc7, od7, .func (PySem.W.fnOf "_is_good_body" "_is_good_body" (defArgs s_is_good_body) (defBody s_is_good_body) (defScope s_is_good_body) .none kV7 dc7 pm7 an7 cd7 ct7), sl7⟩) (c7 : PySem.W.codeIn K cd7 "_is_good_body" = true) (k7 : PySem.W.keepIn K (.ref f7) = true)
    (a8 : PySem.W.nsIn K mainGlobals "_has_right_parts" = some (some (.ref f8))) (l8 : K.lookup f8 = some ⟨oc8, od8, .func (PySem.W.fnOf "_has_right_parts" "_has_right_parts" (defArgs s_has_right_parts) (defBody s_has_right_parts) (defScope s_has_right_parts) .none kV8 dc8 pm8 an8 cd8 ct8), sl8⟩) (c8 : PySem.W.codeIn K cd8 "_has_right_parts" = true) (k8 : PySem.W.keepIn K (.ref f8) = true)
    (a9 : PySem.W.nsIn K mainGlobals "fill" = some (some (.ref f9))) (l9 : K.lookup f9 = some ⟨oc9, od9, .func (PySem.W.fnOf "fill" "fill" (defArgs s_fill) (defBody s_fill) (defScope s_fill) .none kV9 dc9 pm9 an9 cd9 ct9), sl9⟩) (c9 : PySem.W.codeIn K cd9 "fill" = true) (k9 : PySem.W.keepIn K (.ref f9) = true)
    (a10 : PySem.W.nsIn K mainGlobals "made_name" = some (some (.ref f10))) (l10 : K.lookup f10 = some ⟨oc10, od10, .func (PySem.W.fnOf "made_name" "made_name" (defArgs s_made_name) (defBody s_made_name) (defScope s_made_name) .none kV10 dc10 pm10 an10 cd10 ct10), sl10⟩) (c10 : PySem.W.codeIn K cd10 "made_name" = true) (k10 : PySem.W.keepIn K (.ref f10) = true)
    (a11 : PySem.W.nsIn K mainGlobals "made_parameters" = some (some (.ref f11))) (l11 : K.lookup f11 = some ⟨oc11, od11, .func (PySem.W.fnOf "made_parameters" "made_parameters" (defArgs s_made_parameters) (defBody s_made_parameters) (defScope s_made_parameters) .none kV11 dc11 pm11 an11 cd11 ct11), sl11⟩) (c11 : PySem.W.codeIn K cd11 "made_parameters" = true) (k11 : PySem.W.keepIn K (.ref f11) = true)
    (a12 : PySem.W.nsIn K mainGlobals "listing" = some (some (.ref f12))) (l12 : K.lookup f12 = some ⟨oc12, od12, .func (PySem.W.fnOf "listing" "listing" (defArgs s_listing) (defBody s_listing) (defScope s_listing) .none kV12 dc12 pm12 an12 cd12 ct12), sl12⟩) (c12 : PySem.W.codeIn K cd12 "listing" = true) (k12 : PySem.W.keepIn K (.ref f12) = true)
    (a13 : PySem.W.nsIn K mainGlobals "filled" = some (some (.ref f13))) (l13 : K.lookup f13 = some ⟨oc13, od13, .func (PySem.W.fnOf "filled" "filled" (defArgs s_filled) (defBody s_filled) (defScope s_filled) .none kV13 dc13 pm13 an13 cd13 ct13), sl13⟩) (c13 : PySem.W.codeIn K cd13 "filled" = true) (k13 : PySem.W.keepIn K (.ref f13) = true)
    (a14 : PySem.W.nsIn K mainGlobals "side_by_side" = some (some (.ref f14))) (l14 : K.lookup f14 = some ⟨oc14, od14, .func (PySem.W.fnOf "side_by_side" "side_by_side" (defArgs s_side_by_side) (defBody s_side_by_side) (defScope s_side_by_side) .none kV14 dc14 pm14 an14 cd14 ct14), sl14⟩) (c14 : PySem.W.codeIn K cd14 "side_by_side" = true) (k14 : PySem.W.keepIn K (.ref f14) = true)
    (a15 : PySem.W.nsIn K mainGlobals "with_front" = some (some (.ref f15))) (l15 : K.lookup f15 = some ⟨oc15, od15, .func (PySem.W.fnOf "with_front" "with_front" (defArgs s_with_front) (defBody s_with_front) (defScope s_with_front) .none kV15 dc15 pm15 an15 cd15 ct15), sl15⟩) (c15 : PySem.W.codeIn K cd15 "with_front" = true) (k15 : PySem.W.keepIn K (.ref f15) = true)
    (a16 : PySem.W.nsIn K mainGlobals "_renamed_good" = some (some (.ref f16))) (l16 : K.lookup f16 = some ⟨oc16, od16, .func (PySem.W.fnOf "_renamed_good" "_renamed_good" (defArgs s_renamed_good) (defBody s_renamed_good) (defScope s_renamed_good) .none kV16 dc16 pm16 an16 cd16 ct16), sl16⟩) (c16 : PySem.W.codeIn K cd16 "_renamed_good" = true) (k16 : PySem.W.keepIn K (.ref f16) = true)
    (a17 : PySem.W.nsIn K mainGlobals "_renamed_body" = some (some (.ref f17))) (l17 : K.lookup f17 = some ⟨oc17, od17, .func (PySem.W.fnOf "_renamed_body" "_renamed_body" (defArgs s_renamed_body) (defBody s_renamed_body) (defScope s_renamed_body) .none kV17 dc17 pm17 an17 cd17 ct17), sl17⟩) (c17 : PySem.W.codeIn K cd17 "_renamed_body" = true) (k17 : PySem.W.keepIn K (.ref f17) = true)
    (a18 : PySem.W.nsIn K mainGlobals "_expressions_of" = some (some (.ref f18))) (l18 : K.lookup f18 = some ⟨oc18, od18, .func (PySem.W.fnOf "_expressions_of" "_expressions_of" (defArgs s_expressions_of) (defBody s_expressions_of) (defScope s_expressions_of) .none kV18 dc18 pm18 an18 cd18 ct18), sl18⟩) (c18 : PySem.W.codeIn K cd18 "_expressions_of" = true) (k18 : PySem.W.keepIn K (.ref f18) = true)
    (a19 : PySem.W.nsIn K mainGlobals "know_own" = some (some (.ref f19))) (l19 : K.lookup f19 = some ⟨oc19, od19, .func (PySem.W.fnOf "know_own" "know_own" (defArgs s_know_own) (defBody s_know_own) (defScope s_know_own) .none kV19 dc19 pm19 an19 cd19 ct19), sl19⟩) (c19 : PySem.W.codeIn K cd19 "know_own" = true) (k19 : PySem.W.keepIn K (.ref f19) = true)
    (a20 : PySem.W.nsIn K mainGlobals "ring" = some (some (.ref f20))) (l20 : K.lookup f20 = some ⟨oc20, od20, .func (PySem.W.fnOf "ring" "ring" (defArgs s_ring) (defBody s_ring) (defScope s_ring) .none kV20 dc20 pm20 an20 cd20 ct20), sl20⟩) (c20 : PySem.W.codeIn K cd20 "ring" = true) (k20 : PySem.W.keepIn K (.ref f20) = true)
    (a21 : PySem.W.nsIn K mainGlobals "_text_of_filled" = some (some (.ref f21))) (l21 : K.lookup f21 = some ⟨oc21, od21, .func (PySem.W.fnOf "_text_of_filled" "_text_of_filled" (defArgs s_text_of_filled) (defBody s_text_of_filled) (defScope s_text_of_filled) .none kV21 dc21 pm21 an21 cd21 ct21), sl21⟩) (c21 : PySem.W.codeIn K cd21 "_text_of_filled" = true) (k21 : PySem.W.keepIn K (.ref f21) = true)
    (a22 : PySem.W.nsIn K mainGlobals "_texts_of_ring" = some (some (.ref f22))) (l22 : K.lookup f22 = some ⟨oc22, od22, .func (PySem.W.fnOf "_texts_of_ring" "_texts_of_ring" (defArgs s_texts_of_ring) (defBody s_texts_of_ring) (defScope s_texts_of_ring) .none kV22 dc22 pm22 an22 cd22 ct22), sl22⟩) (c22 : PySem.W.codeIn K cd22 "_texts_of_ring" = true) (k22 : PySem.W.keepIn K (.ref f22) = true)
    (a23 : PySem.W.nsIn K mainGlobals "_choice_by_word" = some (some (.ref f23))) (l23 : K.lookup f23 = some ⟨oc23, od23, .func (PySem.W.fnOf "_choice_by_word" "_choice_by_word" (defArgs s_choice_by_word) (defBody s_choice_by_word) (defScope s_choice_by_word) .none kV23 dc23 pm23 an23 cd23 ct23), sl23⟩) (c23 : PySem.W.codeIn K cd23 "_choice_by_word" = true) (k23 : PySem.W.keepIn K (.ref f23) = true)
    (a24 : PySem.W.nsIn K mainGlobals "_law_draws" = some (some (.ref f24))) (l24 : K.lookup f24 = some ⟨oc24, od24, .func (PySem.W.fnOf "_law_draws" "_law_draws" (defArgs s_law_draws) (defBody s_law_draws) (defScope s_law_draws) .none kV24 dc24 pm24 an24 cd24 ct24), sl24⟩) (c24 : PySem.W.codeIn K cd24 "_law_draws" = true) (k24 : PySem.W.keepIn K (.ref f24) = true)
    (a25 : PySem.W.nsIn K mainGlobals "_law_take" = some (some (.ref f25))) (l25 : K.lookup f25 = some ⟨oc25, od25, .func (PySem.W.fnOf "_law_take" "_law_take" (defArgs s_law_take) (defBody s_law_take) (defScope s_law_take) .none kV25 dc25 pm25 an25 cd25 ct25), sl25⟩) (c25 : PySem.W.codeIn K cd25 "_law_take" = true) (k25 : PySem.W.keepIn K (.ref f25) = true)
    (a26 : PySem.W.nsIn K mainGlobals "_law_value" = some (some (.ref f26))) (l26 : K.lookup f26 = some ⟨oc26, od26, .func (PySem.W.fnOf "_law_value" "_law_value" (defArgs s_law_value) (defBody s_law_value) (defScope s_law_value) .none kV26 dc26 pm26 an26 cd26 ct26), sl26⟩) (c26 : PySem.W.codeIn K cd26 "_law_value" = true) (k26 : PySem.W.keepIn K (.ref f26) = true)
    (a27 : PySem.W.nsIn K mainGlobals "_law_expression" = some (some (.ref f27))) (l27 : K.lookup f27 = some ⟨oc27, od27, .func (PySem.W.fnOf "_law_expression" "_law_expression" (defArgs s_law_expression) (defBody s_law_expression) (defScope s_law_expression) .none kV27 dc27 pm27 an27 cd27 ct27), sl27⟩) (c27 : PySem.W.codeIn K cd27 "_law_expression" = true) (k27 : PySem.W.keepIn K (.ref f27) = true)
    (a28 : PySem.W.nsIn K mainGlobals "_law_library" = some (some (.ref f28))) (l28 : K.lookup f28 = some ⟨oc28, od28, .func (PySem.W.fnOf "_law_library" "_law_library" (defArgs s_law_library) (defBody s_law_library) (defScope s_law_library) .none kV28 dc28 pm28 an28 cd28 ct28), sl28⟩) (c28 : PySem.W.codeIn K cd28 "_law_library" = true) (k28 : PySem.W.keepIn K (.ref f28) = true)
    (a29 : PySem.W.nsIn K mainGlobals "_law_program" = some (some (.ref f29))) (l29 : K.lookup f29 = some ⟨oc29, od29, .func (PySem.W.fnOf "_law_program" "_law_program" (defArgs s_law_program) (defBody s_law_program) (defScope s_law_program) .none kV29 dc29 pm29 an29 cd29 ct29), sl29⟩) (c29 : PySem.W.codeIn K cd29 "_law_program" = true) (k29 : PySem.W.keepIn K (.ref f29) = true)
    (a30 : PySem.W.nsIn K mainGlobals "_law_do" = some (some (.ref f30))) (l30 : K.lookup f30 = some ⟨oc30, od30, .func (PySem.W.fnOf "_law_do" "_law_do" (defArgs s_law_do) (defBody s_law_do) (defScope s_law_do) .none kV30 dc30 pm30 an30 cd30 ct30), sl30⟩) (c30 : PySem.W.codeIn K cd30 "_law_do" = true) (k30 : PySem.W.keepIn K (.ref f30) = true)
    (a31 : PySem.W.nsIn K mainGlobals "_law_small" = some (some (.ref f31))) (l31 : K.lookup f31 = some ⟨oc31, od31, .func (PySem.W.fnOf "_law_small" "_law_small" (defArgs s_law_small) (defBody s_law_small) (defScope s_law_small) .none kV31 dc31 pm31 an31 cd31 ct31), sl31⟩) (c31 : PySem.W.codeIn K cd31 "_law_small" = true) (k31 : PySem.W.keepIn K (.ref f31) = true)
    (a32 : PySem.W.nsIn K mainGlobals "_law_run" = some (some (.ref f32))) (l32 : K.lookup f32 = some ⟨oc32, od32, .func (PySem.W.fnOf "_law_run" "_law_run" (defArgs s_law_run) (defBody s_law_run) (defScope s_law_run) .none kV32 dc32 pm32 an32 cd32 ct32), sl32⟩) (c32 : PySem.W.codeIn K cd32 "_law_run" = true) (k32 : PySem.W.keepIn K (.ref f32) = true)
    (a33 : PySem.W.nsIn K mainGlobals "law" = some (some (.ref f33))) (l33 : K.lookup f33 = some ⟨oc33, od33, .func (PySem.W.fnOf "law" "law" (defArgs s_law) (defBody s_law) (defScope s_law) .none kV33 dc33 pm33 an33 cd33 ct33), sl33⟩) (c33 : PySem.W.codeIn K cd33 "law" = true) (k33 : PySem.W.keepIn K (.ref f33) = true)
    (zlen : PySem.W.nsIn K mainGlobals "len" = some none)
    (zrange : PySem.W.nsIn K mainGlobals "range" = some none)
    (zint : PySem.W.nsIn K mainGlobals "int" = some none)
    (zabs : PySem.W.nsIn K mainGlobals "abs" = some none)
    (zstr : PySem.W.nsIn K mainGlobals "str" = some none)
    (ztuple : PySem.W.nsIn K mainGlobals "tuple" = some none)
    (zlist : PySem.W.nsIn K mainGlobals "list" = some none)
    (zbool : PySem.W.nsIn K mainGlobals "bool" = some none)
    (zisinstance : PySem.W.nsIn K mainGlobals "isinstance" = some none)
    (zValueError : PySem.W.nsIn K mainGlobals "ValueError" = some none)
    (zenumerate : PySem.W.nsIn K mainGlobals "enumerate" = some none)
    (zset : PySem.W.nsIn K mainGlobals "set" = some none)
    (zreversed : PySem.W.nsIn K mainGlobals "reversed" = some none)
    (eG : PySem.W.nsIn K mainGlobals "GlassError" = some (some (.ref CG))) (eRd : PySem.W.readsIn K CG (.type "type") = true) (eSg : PySem.W.specialIn K (.ref CG) "__getattribute__" = some (some (.builtin "type.__getattribute__"))) (eVv : PySem.W.findCls K (.ref CG) (.type "type") "__init__" = some (.val (.builtin "ValueError.__init__"))) (eGt : PySem.W.specialIn K (.builtin "object.__class__") "__get__" = some (some (.builtin "getset_descriptor.__get__"))) (eTk : PySem.W.takesIn K (.builtin "object.__class__") = some true)
    (eC0 : PySem.W.nsIn K mainGlobals "BadProgram" = some (some (.ref C0))) (eL0 : K.lookup C0 = some (excClassObj nm0 q0 C0 N0 bs0 bm0 true sn0 sub0 ab0 col0 dd0 u0 v0 w0 x0 y0 "ValueError.__new__")) (eR0 : PySem.HandSPX.refsVE bm0 = true)
    (eS0 : PySem.W.findIn K (.ref C0) "__setattr__" = some (some (.builtin "object.__setattr__"))) (eX0 : PySem.W.subIn K (.ref C0) (.type "BaseException") = some true) (eT0 : PySem.W.typeIn K (.ref C0) = some (.type "type")) (eK0 : PySem.W.keepIn K (.ref C0) = true)
    (eI0 : PySem.W.findIn K (.ref C0) "__init__" = some (some (.ref I0))) (eY0 : PySem.W.typeIn K (.ref I0) = some (.type "function")) (eN0 : PySem.W.findIn K (.ref C0) "function" = some none)
    (eF0 : K.lookup I0 = some ⟨eoc0, eod0, .func (PySem.W.fnOf "__init__" "BadProgram.__init__" (defArgs s_BadProgram_init) (defBody s_BadProgram_init) (defScope s_BadProgram_init) .none ekV0 edc0 epm0 ean0 ecd0 ect0), esl0⟩) (eD0 : PySem.W.codeIn K ecd0 "BadProgram.__init__" = true) (eP0 : PySem.W.keepIn K (.ref I0) = true)
    (eA0 : PySem.W.findIn K (.ref C0) "__getattribute__" = some (some (.builtin "BaseException.__getattribute__"))) (eB0 : PySem.W.findIn K (.ref C0) "__getattr__" = some none) (eH0 : PySem.W.hasDictIn K C0 = true) (eQ0 : PySem.W.isClsIn K C0 = true) (eZ0 : PySem.W.subIn K (.ref C0) (.ref C0) = some true)
    (eE0 : PySem.W.findIn K (.ref C0) "__class__" = some (some (.builtin "object.__class__"))) (eU0 : PySem.W.kitOne K (.ref C0) (.ref CG) = some true) (eV0 : PySem.W.kitOne K (.ref C0) (.type "ValueError") = some true) (eM0 : PySem.W.mroIn K C0 (.type "object") = some true)
    (xG0 : PySem.W.nsIn K mainGlobals "BadInputs" = some (some (.ref PC0)))
    (xK0p0 : PySem.W.kitOne K (.ref C0) (.ref PC0) = some false)
    (yg0 : PySem.W.nsIn K mainGlobals "SPECIAL_WORDS" = some (some (.ref Dd0))) (yl0 : K.lookup Dd0 = some ⟨.type "dict", none, .dict Des0 Dn0, #[]⟩) (yk0 : PySem.W.KeysLit w.params Des0.toList) (yw0 : (Dd0 == sysModules) = false) (yc0 : Ents Des0.toList [([113, 117, 111, 116, 101], 1), ([105, 102], 3), ([115, 97, 109, 101], 2), ([119, 111, 114, 100], 1), ([104, 101, 97, 100], 1), ([116, 97, 105, 108], 1), ([106, 111, 105, 110], 2)])
    (gc0 : PySem.W.nsIn K mainGlobals "MOST_PARAMETERS" = some (some (.int 12 t0)))
    (gc1 : PySem.W.nsIn K mainGlobals "MOST_INPUTS" = some (some (.int 8 t1)))
    (gc2 : PySem.W.nsIn K mainGlobals "MOST_PROGRAMS" = some (some (.int 12 t2)))
    : ∃ fd : FuncData, (∀ (s : Shared) (v : Value), BindsTo s fd ⟨[v], []⟩ [("script", v)]) ∧ ∀ base : Heap, K.In base → base.Ns mainGlobals mg → FnOk l.prog w K mg base CX0 200 fa fd ["script"] (spLaw K) := by
  have e := hfa.symm.trans (PySem.W.mg_of X G a33)
  cases e
  have B : Bn mg := ⟨PySem.W.mg_none_of X G zlen, PySem.W.mg_none_of X G zrange, PySem.W.mg_none_of X G zint, PySem.W.mg_none_of X G zabs, PySem.W.mg_none_of X G zstr, PySem.W.mg_none_of X G ztuple, PySem.W.mg_none_of X G zlist, PySem.W.mg_none_of X G zbool, PySem.W.mg_none_of X G zisinstance, PySem.W.mg_none_of X G zValueError, PySem.W.mg_none_of X G zenumerate, PySem.W.mg_none_of X G zset, PySem.W.mg_none_of X G zreversed⟩
  have M : Mc mg := ⟨⟨_, PySem.W.mg_of X G gc0⟩, ⟨_, PySem.W.mg_of X G gc1⟩, ⟨_, PySem.W.mg_of X G gc2⟩⟩
  have S_SPECIAL_WORDS : DictC K w mg "SPECIAL_WORDS" [([113, 117, 111, 116, 101], 1), ([105, 102], 3), ([115, 97, 109, 101], 2), ([119, 111, 114, 100], 1), ([104, 101, 97, 100], 1), ([116, 97, 105, 108], 1), ([106, 111, 105, 110], 2)] := ⟨⟨Dd0, Des0, Dn0, PySem.W.mg_of X G yg0, ⟨yl0, yk0, yw0⟩, yc0⟩⟩
  have EF0 := fun_mk (st := s_BadProgram_init) eF0 eD0 eP0
  have Eb0 := EF0.binds (ps := ["self", "function"]) fun _ _ _ _ _ _ us hl => match us, hl with | [_, _], _ => rfl
  have E_BadProgram : ErrAll K mg "BadProgram" "BadProgram.__init__" "function" s_BadProgram_init := ⟨⟨C0, CG, I0, _, ⟨PySem.W.mg_of X G eC0, PySem.W.mg_of X G eG, ⟨⟨nm0, q0, N0, bs0, bm0, sn0, sub0, ab0, col0, dd0, u0, v0, w0, x0, y0, eL0, eR0⟩, eS0, eX0, eT0, eK0⟩, eI0, eY0, eN0, eRd, eSg, eVv, EF0, Eb0⟩, ⟨eA0, eB0, eH0, eQ0, eZ0, eE0, eU0, eV0, eGt, eTk, eM0⟩⟩⟩
  have C_BadInputs : ∃ a : Addr, mg "BadInputs" = some (.ref a) := ⟨PC0, PySem.W.mg_of X G xG0⟩
  have W_BadProgram_BadInputs : ErrNot K mg "BadProgram" "BadInputs" := ⟨fun a b ha hb => by rw [PySem.W.mg_of X G eC0] at ha; rw [PySem.W.mg_of X G xG0] at hb; cases ha; cases hb; exact xK0p0⟩
  have F0 := fun_mk (st := s_check_program) l0 c0 k0
  have b0 := F0.binds (ps := p_check_program) fun _ _ _ _ _ _ us hl => match us, hl with | [_], _ => rfl
  have D_check_program : DefAt K mg "check_program" s_check_program p_check_program := ⟨⟨f0, _, F0, PySem.W.mg_of X G a0, b0⟩⟩
  have F1 := fun_mk (st := s_inputs_of) l1 c1 k1
  have b1 := F1.binds (ps := p_inputs_of) fun _ _ _ _ _ _ us hl => match us, hl with | [_], _ => rfl
  have D_inputs_of : DefAt K mg "inputs_of" s_inputs_of p_inputs_of := ⟨⟨f1, _, F1, PySem.W.mg_of X G a1, b1⟩⟩
  have F2 := fun_mk (st := s_called_functions) l2 c2 k2
  have b2 := F2.binds (ps := p_called_functions) fun _ _ _ _ _ _ us hl => match us, hl with | [_], _ => rfl
  have D_called_functions : DefAt K mg "_called_functions" s_called_functions p_called_functions := ⟨⟨f2, _, F2, PySem.W.mg_of X G a2, b2⟩⟩
  have F3 := fun_mk (st := s_looks_like_function) l3 c3 k3
  have b3 := F3.binds (ps := p_looks_like_function) fun _ _ _ _ _ _ us hl => match us, hl with | [_], _ => rfl
  have D_looks_like_function : DefAt K mg "_looks_like_function" s_looks_like_function p_looks_like_function := ⟨⟨f3, _, F3, PySem.W.mg_of X G a3, b3⟩⟩
  have F4 := fun_mk (st := s_is_good_function) l4 c4 k4
  have b4 := F4.binds (ps := p_is_good_function) fun _ _ _ _ _ _ us hl => match us, hl with | [_, _, _], _ => rfl
  have D_is_good_function : DefAt K mg "_is_good_function" s_is_good_function p_is_good_function := ⟨⟨f4, _, F4, PySem.W.mg_of X G a4, b4⟩⟩
  have F5 := fun_mk (st := s_is_good_name) l5 c5 k5
  have b5 := F5.binds (ps := p_is_good_name) fun _ _ _ _ _ _ us hl => match us, hl with | [_, _], _ => rfl
  have D_is_good_name : DefAt K mg "_is_good_name" s_is_good_name p_is_good_name := ⟨⟨f5, _, F5, PySem.W.mg_of X G a5, b5⟩⟩
  have F6 := fun_mk (st := s_are_good_parameters) l6 c6 k6
  have b6 := F6.binds (ps := p_are_good_parameters) fun _ _ _ _ _ _ us hl => match us, hl with | [_], _ => rfl
  have D_are_good_parameters : DefAt K mg "_are_good_parameters" s_are_good_parameters p_are_good_parameters := ⟨⟨f6, _, F6, PySem.W.mg_of X G a6, b6⟩⟩
  have F7 := fun_mk (st := s_is_good_body) l7 c7 k7
  have b7 := F7.binds (ps := p_is_good_body) fun _ _ _ _ _ _ us hl => match us, hl with | [_, _, _], _ => rfl
  have D_is_good_body : DefAt K mg "_is_good_body" s_is_good_body p_is_good_body := ⟨⟨f7, _, F7, PySem.W.mg_of X G a7, b7⟩⟩
  have F8 := fun_mk (st := s_has_right_parts) l8 c8 k8
  have b8 := F8.binds (ps := p_has_right_parts) fun _ _ _ _ _ _ us hl => match us, hl with | [_, _], _ => rfl
  have D_has_right_parts : DefAt K mg "_has_right_parts" s_has_right_parts p_has_right_parts := ⟨⟨f8, _, F8, PySem.W.mg_of X G a8, b8⟩⟩
  have F9 := fun_mk (st := s_fill) l9 c9 k9
  have b9 := F9.binds (ps := p_fill) fun _ _ _ _ _ _ us hl => match us, hl with | [_, _], _ => rfl
  have D_fill : DefAt K mg "fill" s_fill p_fill := ⟨⟨f9, _, F9, PySem.W.mg_of X G a9, b9⟩⟩
  have F10 := fun_mk (st := s_made_name) l10 c10 k10
  have b10 := F10.binds (ps := p_made_name) fun _ _ _ _ _ _ us hl => match us, hl with | [_], _ => rfl
  have D_made_name : DefAt K mg "made_name" s_made_name p_made_name := ⟨⟨f10, _, F10, PySem.W.mg_of X G a10, b10⟩⟩
  have F11 := fun_mk (st := s_made_parameters) l11 c11 k11
  have b11 := F11.binds (ps := p_made_parameters) fun _ _ _ _ _ _ us hl => match us, hl with | [_], _ => rfl
  have D_made_parameters : DefAt K mg "made_parameters" s_made_parameters p_made_parameters := ⟨⟨f11, _, F11, PySem.W.mg_of X G a11, b11⟩⟩
  have F12 := fun_mk (st := s_listing) l12 c12 k12
  have b12 := F12.binds (ps := p_listing) fun _ _ _ _ _ _ us hl => match us, hl with | [_], _ => rfl
  have D_listing : DefAt K mg "listing" s_listing p_listing := ⟨⟨f12, _, F12, PySem.W.mg_of X G a12, b12⟩⟩
  have F13 := fun_mk (st := s_filled) l13 c13 k13
  have b13 := F13.binds (ps := p_filled) fun _ _ _ _ _ _ us hl => match us, hl with | [_, _], _ => rfl
  have D_filled : DefAt K mg "filled" s_filled p_filled := ⟨⟨f13, _, F13, PySem.W.mg_of X G a13, b13⟩⟩
  have F14 := fun_mk (st := s_side_by_side) l14 c14 k14
  have b14 := F14.binds (ps := p_side_by_side) fun _ _ _ _ _ _ us hl => match us, hl with | [_], _ => rfl
  have D_side_by_side : DefAt K mg "side_by_side" s_side_by_side p_side_by_side := ⟨⟨f14, _, F14, PySem.W.mg_of X G a14, b14⟩⟩
  have F15 := fun_mk (st := s_with_front) l15 c15 k15
  have b15 := F15.binds (ps := p_with_front) fun _ _ _ _ _ _ us hl => match us, hl with | [_, _, _], _ => rfl
  have D_with_front : DefAt K mg "with_front" s_with_front p_with_front := ⟨⟨f15, _, F15, PySem.W.mg_of X G a15, b15⟩⟩
  have F16 := fun_mk (st := s_renamed_good) l16 c16 k16
  have b16 := F16.binds (ps := p_renamed_good) fun _ _ _ _ _ _ us hl => match us, hl with | [_, _], _ => rfl
  have D_renamed_good : DefAt K mg "_renamed_good" s_renamed_good p_renamed_good := ⟨⟨f16, _, F16, PySem.W.mg_of X G a16, b16⟩⟩
  have F17 := fun_mk (st := s_renamed_body) l17 c17 k17
  have b17 := F17.binds (ps := p_renamed_body) fun _ _ _ _ _ _ us hl => match us, hl with | [_, _], _ => rfl
  have D_renamed_body : DefAt K mg "_renamed_body" s_renamed_body p_renamed_body := ⟨⟨f17, _, F17, PySem.W.mg_of X G a17, b17⟩⟩
  have F18 := fun_mk (st := s_expressions_of) l18 c18 k18
  have b18 := F18.binds (ps := p_expressions_of) fun _ _ _ _ _ _ us hl => match us, hl with | [_], _ => rfl
  have D_expressions_of : DefAt K mg "_expressions_of" s_expressions_of p_expressions_of := ⟨⟨f18, _, F18, PySem.W.mg_of X G a18, b18⟩⟩
  have F19 := fun_mk (st := s_know_own) l19 c19 k19
  have b19 := F19.binds (ps := p_know_own) fun _ _ _ _ _ _ us hl => match us, hl with | [_], _ => rfl
  have D_know_own : DefAt K mg "know_own" s_know_own p_know_own := ⟨⟨f19, _, F19, PySem.W.mg_of X G a19, b19⟩⟩
  have F20 := fun_mk (st := s_ring) l20 c20 k20
  have b20 := F20.binds (ps := p_ring) fun _ _ _ _ _ _ us hl => match us, hl with | [_], _ => rfl
  have D_ring : DefAt K mg "ring" s_ring p_ring := ⟨⟨f20, _, F20, PySem.W.mg_of X G a20, b20⟩⟩
  have F21 := fun_mk (st := s_text_of_filled) l21 c21 k21
  have b21 := F21.binds (ps := p_text_of_filled) fun _ _ _ _ _ _ us hl => match us, hl with | [_, _], _ => rfl
  have D_text_of_filled : DefAt K mg "_text_of_filled" s_text_of_filled p_text_of_filled := ⟨⟨f21, _, F21, PySem.W.mg_of X G a21, b21⟩⟩
  have F22 := fun_mk (st := s_texts_of_ring) l22 c22 k22
  have b22 := F22.binds (ps := p_texts_of_ring) fun _ _ _ _ _ _ us hl => match us, hl with | [_, _, _], _ => rfl
  have D_texts_of_ring : DefAt K mg "_texts_of_ring" s_texts_of_ring p_texts_of_ring := ⟨⟨f22, _, F22, PySem.W.mg_of X G a22, b22⟩⟩
  have F23 := fun_mk (st := s_choice_by_word) l23 c23 k23
  have b23 := F23.binds (ps := p_choice_by_word) fun _ _ _ _ _ _ us hl => match us, hl with | [_, _], _ => rfl
  have D_choice_by_word : DefAt K mg "_choice_by_word" s_choice_by_word p_choice_by_word := ⟨⟨f23, _, F23, PySem.W.mg_of X G a23, b23⟩⟩
  have F24 := fun_mk (st := s_law_draws) l24 c24 k24
  have b24 := F24.binds (ps := p_law_draws) fun _ _ _ _ _ _ us hl => match us, hl with | [_, _], _ => rfl
  have D_law_draws : DefAt K mg "_law_draws" s_law_draws p_law_draws := ⟨⟨f24, _, F24, PySem.W.mg_of X G a24, b24⟩⟩
  have F25 := fun_mk (st := s_law_take) l25 c25 k25
  have b25 := F25.binds (ps := p_law_take) fun _ _ _ _ _ _ us hl => match us, hl with | [_, _], _ => rfl
  have D_law_take : DefAt K mg "_law_take" s_law_take p_law_take := ⟨⟨f25, _, F25, PySem.W.mg_of X G a25, b25⟩⟩
  have F26 := fun_mk (st := s_law_value) l26 c26 k26
  have b26 := F26.binds (ps := p_law_value) fun _ _ _ _ _ _ us hl => match us, hl with | [_, _], _ => rfl
  have D_law_value : DefAt K mg "_law_value" s_law_value p_law_value := ⟨⟨f26, _, F26, PySem.W.mg_of X G a26, b26⟩⟩
  have F27 := fun_mk (st := s_law_expression) l27 c27 k27
  have b27 := F27.binds (ps := p_law_expression) fun _ _ _ _ _ _ us hl => match us, hl with | [_, _, _, _], _ => rfl
  have D_law_expression : DefAt K mg "_law_expression" s_law_expression p_law_expression := ⟨⟨f27, _, F27, PySem.W.mg_of X G a27, b27⟩⟩
  have F28 := fun_mk (st := s_law_library) l28 c28 k28
  have b28 := F28.binds (ps := p_law_library) fun _ _ _ _ _ _ us hl => match us, hl with | [], _ => rfl
  have D_law_library : DefAt K mg "_law_library" s_law_library p_law_library := ⟨⟨f28, _, F28, PySem.W.mg_of X G a28, b28⟩⟩
  have F29 := fun_mk (st := s_law_program) l29 c29 k29
  have b29 := F29.binds (ps := p_law_program) fun _ _ _ _ _ _ us hl => match us, hl with | [_, _], _ => rfl
  have D_law_program : DefAt K mg "_law_program" s_law_program p_law_program := ⟨⟨f29, _, F29, PySem.W.mg_of X G a29, b29⟩⟩
  have F30 := fun_mk (st := s_law_do) l30 c30 k30
  have b30 := F30.binds (ps := p_law_do) fun _ _ _ _ _ _ us hl => match us, hl with | [_, _], _ => rfl
  have D_law_do : DefAt K mg "_law_do" s_law_do p_law_do := ⟨⟨f30, _, F30, PySem.W.mg_of X G a30, b30⟩⟩
  have F31 := fun_mk (st := s_law_small) l31 c31 k31
  have b31 := F31.binds (ps := p_law_small) fun _ _ _ _ _ _ us hl => match us, hl with | [_], _ => rfl
  have D_law_small : DefAt K mg "_law_small" s_law_small p_law_small := ⟨⟨f31, _, F31, PySem.W.mg_of X G a31, b31⟩⟩
  have F32 := fun_mk (st := s_law_run) l32 c32 k32
  have b32 := F32.binds (ps := p_law_run) fun _ _ _ _ _ _ us hl => match us, hl with | [_, _, _], _ => rfl
  have D_law_run : DefAt K mg "_law_run" s_law_run p_law_run := ⟨⟨f32, _, F32, PySem.W.mg_of X G a32, b32⟩⟩
  have F33 := fun_mk (st := s_law) l33 c33 k33
  have b33 := F33.binds (ps := p_law) fun _ _ _ _ _ _ us hl => match us, hl with | [_], _ => rfl
  refine ⟨PySem.W.fnOf "law" "law" (defArgs s_law) (defBody s_law) (defScope s_law) .none kV33 dc33 pm33 an33 cd33 ct33, fun s v => .of_eq rfl, fun base _ _ => ?_⟩
  exact ok_law F33 B M S_SPECIAL_WORDS E_BadProgram C_BadInputs W_BadProgram_BadInputs D_check_program D_inputs_of D_called_functions D_looks_like_function D_is_good_function D_is_good_name D_are_good_parameters D_is_good_body D_has_right_parts D_fill D_made_name D_made_parameters D_listing D_filled D_side_by_side D_with_front D_renamed_good D_renamed_body D_expressions_of D_know_own D_ring D_text_of_filled D_texts_of_ring D_choice_by_word D_law_draws D_law_take D_law_value D_law_expression D_law_library D_law_program D_law_do D_law_small D_law_run
theorem walk {l : PySem.W.OpenLaw} {q : Program} {loose : List Str} {XP : (Str → Option Value) → Heap → Prop} {YP : World → Heap → Prop} {d : DefRec} {K : Params → PySem.W.Frag} (hn : l.most = some 63) (hdf : d.params.defaults = [])
    (hY : ∀ (w : World) (h : Heap), YP w h → (K w.params).In h)
    (F : ∀ (w : World) (mg : Str → Option Value) (fa : Addr) (h : Heap), (K w.params).In h → h.Ns mainGlobals mg → mg d.name = some (.ref fa) →
      ∃ fd : FuncData, (∀ (s : Shared) (u : Value), BindsTo s fd ⟨[u], []⟩ [("script", u)]) ∧ ∀ base : Heap, (K w.params).In base → base.Ns mainGlobals mg → FnOk l.prog w (K w.params) mg base CX0 200 fa fd ["script"] (spLaw (K w.params))) :
    PySem.W.WalkO q loose XP YP l.row.toRowW d [] (fun f vs => PySem.call f vs) :=
  L2.walk_of (n := 63) (k := 200) (x := "script") (CX := fun _ => CX0) (sp := fun w => spLaw (K w.params)) hn (by decide) hdf ⟨rfl, by decide, by decide⟩ hY F (fun _ _ a ns hl _ hS => ⟨a, ns, rfl, hS, hl, fun _ => rfl⟩) fun _ _ _ _ _ z => z
end Og
open PySem PySem.W PyProof.Rows
set_option maxRecDepth 100000 in
set_option maxHeartbeats 0 in
theorem PySem.Challenge.cw_ownglass_k25_rings_holds : PySem.Challenge.rw_ownglass_k25_rings.Holds := by
  w_on; o_law; k_head; (case hw => w_witness2)
  k_fill
  refine Og.walk (l := PySem.Challenge.rw_ownglass_k25_rings) rfl rfl (fun w h Y => PySem.W.kIn_of Y) ?F
  case F =>
    intro w mg fa h KX G hmg
    refine' Og.all_mk KX G hmg ?a0 ?l0 ?c0 ?k0 ?a1 ?l1 ?c1 ?k1 ?a2 ?l2 ?c2 ?k2 ?a3 ?l3 ?c3 ?k3 ?a4 ?l4 ?c4 ?k4 ?a5 ?l5 ?c5 ?k5 ?a6 ?l6 ?c6 ?k6 ?a7 ?l7 ?c7 ?k7 ?a8 ?l8 ?c8 ?k8 ?a9 ?l9 ?c9 ?k9 ?a10 ?l10 ?c10 ?k10 ?a11 ?l11 ?c11 ?k11 ?a12 ?l12 ?c12 ?k12 ?a13 ?l13 ?c13 ?k13 ?a14 ?l14 ?c14 ?k14 ?a15 ?l15 ?c15 ?k15 ?a16 ?l16 ?c16 ?k16 ?a17 ?l17 ?c17 ?k17 ?a18 ?l18 ?c18 ?k18 ?a19 ?l19 ?c19 ?k19 ?a20 ?l20 ?c20 ?k20 ?a21 ?l21 ?c21 ?k21 ?a22 ?l22 ?c22 ?k22 ?a23 ?l23 ?c23 ?k23 ?a24 ?l24 ?c24 ?k24 ?a25 ?l25 ?c25 ?k25 ?a26 ?l26 ?c26 ?k26 ?a27 ?l27 ?c27 ?k27 ?a28 ?l28 ?c28 ?k28 ?a29 ?l29 ?c29 ?k29 ?a30 ?l30 ?c30 ?k30 ?a31 ?l31 ?c31 ?k31 ?a32 ?l32 ?c32 ?k32 ?a33 ?l33 ?c33 ?k33 ?zlen ?zrange ?zint ?zabs ?zstr ?ztuple ?zlist ?zbool ?zisinstance ?zValueError ?zenumerate ?zset ?zreversed ?eG ?eRd ?eSg ?eVv ?eGt ?eTk ?eC0 ?eL0 ?eR0 ?eS0 ?eX0 ?eT0 ?eK0 ?eI0 ?eY0 ?eN0 ?eF0 ?eD0 ?eP0 ?eA0 ?eB0 ?eH0 ?eQ0 ?eZ0 ?eE0 ?eU0 ?eV0 ?eM0 ?xG0 ?xK0p0 ?yg0 ?yl0 ?yk0 ?yw0 ?yc0 ?gc0 ?gc1 ?gc2
    (case a0 => first | k_is | rfl | decide +kernel)
    (case l0 => first | k_is | rfl | decide +kernel)
    (case c0 => first | k_is | rfl | decide +kernel)
    (case k0 => first | k_is | rfl | decide +kernel)
    (case a1 => first | k_is | rfl | decide +kernel)
    (case l1 => first | k_is | rfl | decide +kernel)
    (case c1 => first | k_is | rfl | decide +kernel)
    (case k1 => first | k_is | rfl | decide +kernel)
    (case a2 => first | k_is | rfl | decide +kernel)
    (case l2 => first | k_is | rfl | decide +kernel)
    (case c2 => first | k_is | rfl | decide +kernel)
    (case k2 => first | k_is | rfl | decide +kernel)
    (case a3 => first | k_is | rfl | decide +kernel)
    (case l3 => first | k_is | rfl | decide +kernel)
    (case c3 => first | k_is | rfl | decide +kernel)
    (case k3 => first | k_is | rfl | decide +kernel)
    (case a4 => first | k_is | rfl | decide +kernel)
    (case l4 => first | k_is | rfl | decide +kernel)
    (case c4 => first | k_is | rfl | decide +kernel)
    (case k4 => first | k_is | rfl | decide +kernel)
    (case a5 => first | k_is | rfl | decide +kernel)
    (case l5 => first | k_is | rfl | decide +kernel)
    (case c5 => first | k_is | rfl | decide +kernel)
    (case k5 => first | k_is | rfl | decide +kernel)
    (case a6 => first | k_is | rfl | decide +kernel)
    (case l6 => first | k_is | rfl | decide +kernel)
    (case c6 => first | k_is | rfl | decide +kernel)
    (case k6 => first | k_is | rfl | decide +kernel)
    (case a7 => first | k_is | rfl | decide +kernel)
    (case l7 => first | k_is | rfl | decide +kernel)
    (case c7 => first | k_is | rfl | decide +kernel)
    (case k7 => first | k_is | rfl | decide +kernel)
    (case a8 => first | k_is | rfl | decide +kernel)
    (case l8 => first | k_is | rfl | decide +kernel)
    (case c8 => first | k_is | rfl | decide +kernel)
    (case k8 => first | k_is | rfl | decide +kernel)
    (case a9 => first | k_is | rfl | decide +kernel)
    (case l9 => first | k_is | rfl | decide +kernel)
    (case c9 => first | k_is | rfl | decide +kernel)
    (case k9 => first | k_is | rfl | decide +kernel)
    (case a10 => first | k_is | rfl | decide +kernel)
    (case l10 => first | k_is | rfl | decide +kernel)
    (case c10 => first | k_is | rfl | decide +kernel)
    (case k10 => first | k_is | rfl | decide +kernel)
    (case a11 => first | k_is | rfl | decide +kernel)
    (case l11 => first | k_is | rfl | decide +kernel)
    (case c11 => first | k_is | rfl | decide +kernel)
    (case k11 => first | k_is | rfl | decide +kernel)
    (case a12 => first | k_is | rfl | decide +kernel)
    (case l12 => first | k_is | rfl | decide +kernel)
    (case c12 => first | k_is | rfl | decide +kernel)
    (case k12 => first | k_is | rfl | decide +kernel)
    (case a13 => first | k_is | rfl | decide +kernel)
    (case l13 => first | k_is | rfl | decide +kernel)
    (case c13 => first | k_is | rfl | decide +kernel)
    (case k13 => first | k_is | rfl | decide +kernel)
    (case a14 => first | k_is | rfl | decide +kernel)
    (case l14 => first | k_is | rfl | decide +kernel)
    (case c14 => first | k_is | rfl | decide +kernel)
    (case k14 => first | k_is | rfl | decide +kernel)
    (case a15 => first | k_is | rfl | decide +kernel)
    (case l15 => first | k_is | rfl | decide +kernel)
    (case c15 => first | k_is | rfl | decide +kernel)
    (case k15 => first | k_is | rfl | decide +kernel)
    (case a16 => first | k_is | rfl | decide +kernel)
    (case l16 => first | k_is | rfl | decide +kernel)
    (case c16 => first | k_is | rfl | decide +kernel)
    (case k16 => first | k_is | rfl | decide +kernel)
    (case a17 => first | k_is | rfl | decide +kernel)
    (case l17 => first | k_is | rfl | decide +kernel)
    (case c17 => first | k_is | rfl | decide +kernel)
    (case k17 => first | k_is | rfl | decide +kernel)
    (case a18 => first | k_is | rfl | decide +kernel)
    (case l18 => first | k_is | rfl | decide +kernel)
    (case c18 => first | k_is | rfl | decide +kernel)
    (case k18 => first | k_is | rfl | decide +kernel)
    (case a19 => first | k_is | rfl | decide +kernel)
    (case l19 => first | k_is | rfl | decide +kernel)
    (case c19 => first | k_is | rfl | decide +kernel)
    (case k19 => first | k_is | rfl | decide +kernel)
    (case a20 => first | k_is | rfl | decide +kernel)
    (case l20 => first | k_is | rfl | decide +kernel)
    (case c20 => first | k_is | rfl | decide +kernel)
    (case k20 => first | k_is | rfl | decide +kernel)
    (case a21 => first | k_is | rfl | decide +kernel)
    (case l21 => first | k_is | rfl | decide +kernel)
    (case c21 => first | k_is | rfl | decide +kernel)
    (case k21 => first | k_is | rfl | decide +kernel)
    (case a22 => first | k_is | rfl | decide +kernel)
    (case l22 => first | k_is | rfl | decide +kernel)
    (case c22 => first | k_is | rfl | decide +kernel)
    (case k22 => first | k_is | rfl | decide +kernel)
    (case a23 => first | k_is | rfl | decide +kernel)
    (case l23 => first | k_is | rfl | decide +kernel)
    (case c23 => first | k_is | rfl | decide +kernel)
    (case k23 => first | k_is | rfl | decide +kernel)
    (case a24 => first | k_is | rfl | decide +kernel)
    (case l24 => first | k_is | rfl | decide +kernel)
    (case c24 => first | k_is | rfl | decide +kernel)
    (case k24 => first | k_is | rfl | decide +kernel)
    (case a25 => first | k_is | rfl | decide +kernel)
    (case l25 => first | k_is | rfl | decide +kernel)
    (case c25 => first | k_is | rfl | decide +kernel)
    (case k25 => first | k_is | rfl | decide +kernel)
    (case a26 => first | k_is | rfl | decide +kernel)
    (case l26 => first | k_is | rfl | decide +kernel)
    (case c26 => first | k_is | rfl | decide +kernel)
    (case k26 => first | k_is | rfl | decide +kernel)
    (case a27 => first | k_is | rfl | decide +kernel)
    (case l27 => first | k_is | rfl | decide +kernel)
    (case c27 => first | k_is | rfl | decide +kernel)
    (case k27 => first | k_is | rfl | decide +kernel)
    (case a28 => first | k_is | rfl | decide +kernel)
    (case l28 => first | k_is | rfl | decide +kernel)
    (case c28 => first | k_is | rfl | decide +kernel)
    (case k28 => first | k_is | rfl | decide +kernel)
    (case a29 => first | k_is | rfl | decide +kernel)
    (case l29 => first | k_is | rfl | decide +kernel)
    (case c29 => first | k_is | rfl | decide +kernel)
    (case k29 => first | k_is | rfl | decide +kernel)
    (case a30 => first | k_is | rfl | decide +kernel)
    (case l30 => first | k_is | rfl | decide +kernel)
    (case c30 => first | k_is | rfl | decide +kernel)
    (case k30 => first | k_is | rfl | decide +kernel)
    (case a31 => first | k_is | rfl | decide +kernel)
    (case l31 => first | k_is | rfl | decide +kernel)
    (case c31 => first | k_is | rfl | decide +kernel)
    (case k31 => first | k_is | rfl | decide +kernel)
    (case a32 => first | k_is | rfl | decide +kernel)
    (case l32 => first | k_is | rfl | decide +kernel)
    (case c32 => first | k_is | rfl | decide +kernel)
    (case k32 => first | k_is | rfl | decide +kernel)
    (case a33 => first | k_is | rfl | decide +kernel)
    (case l33 => first | k_is | rfl | decide +kernel)
    (case c33 => first | k_is | rfl | decide +kernel)
    (case k33 => first | k_is | rfl | decide +kernel)
    (case zlen => first | k_is | rfl | decide +kernel)
    (case zrange => first | k_is | rfl | decide +kernel)
    (case zint => first | k_is | rfl | decide +kernel)
    (case zabs => first | k_is | rfl | decide +kernel)
    (case zstr => first | k_is | rfl | decide +kernel)
    (case ztuple => first | k_is | rfl | decide +kernel)
    (case zlist => first | k_is | rfl | decide +kernel)
    (case zbool => first | k_is | rfl | decide +kernel)
    (case zisinstance => first | k_is | rfl | decide +kernel)
    (case zValueError => first | k_is | rfl | decide +kernel)
    (case zenumerate => first | k_is | rfl | decide +kernel)
    (case zset => first | k_is | rfl | decide +kernel)
    (case zreversed => first | k_is | rfl | decide +kernel)
    (case eG => first | k_is | rfl | decide +kernel)
    (case eRd => first | k_is | rfl | decide +kernel)
    (case eSg => first | k_is | rfl | decide +kernel)
    (case eVv => first | k_is | rfl | decide +kernel)
    (case eGt => first | k_is | rfl | decide +kernel)
    (case eTk => first | k_is | rfl | decide +kernel)
    (case eC0 => first | k_is | rfl | decide +kernel)
    (case eL0 => first | k_is | rfl | decide +kernel)
    (case eR0 => decide +kernel)
    (case eS0 => first | k_is | rfl | decide +kernel)
    (case eX0 => first | k_is | rfl | decide +kernel)
    (case eT0 => first | k_is | rfl | decide +kernel)
    (case eK0 => first | k_is | rfl | decide +kernel)
    (case eI0 => first | k_is | rfl | decide +kernel)
    (case eY0 => first | k_is | rfl | decide +kernel)
    (case eN0 => first | k_is | rfl | decide +kernel)
    (case eF0 => first | k_is | rfl | decide +kernel)
    (case eD0 => first | k_is | rfl | decide +kernel)
    (case eP0 => first | k_is | rfl | decide +kernel)
    (case eA0 => first | k_is | rfl | decide +kernel)
    (case eB0 => first | k_is | rfl | decide +kernel)
    (case eH0 => first | k_is | rfl | decide +kernel)
    (case eQ0 => first | k_is | rfl | decide +kernel)
    (case eZ0 => first | k_is | rfl | decide +kernel)
    (case eE0 => first | k_is | rfl | decide +kernel)
    (case eU0 => first | k_is | rfl | decide +kernel)
    (case eV0 => first | k_is | rfl | decide +kernel)
    (case eM0 => first | k_is | rfl | decide +kernel)
    (case xG0 => first | k_is | rfl | decide +kernel)
    (case xK0p0 => first | k_is | rfl | decide +kernel)
    (case yg0 => first | k_is | rfl | decide +kernel)
    (case yl0 => first | k_is | rfl | decide +kernel)
    (case yk0 => exact ⟨⟨_, _, rfl, rfl⟩, ⟨⟨_, _, rfl, rfl⟩, ⟨⟨_, _, rfl, rfl⟩, ⟨⟨_, _, rfl, rfl⟩, ⟨⟨_, _, rfl, rfl⟩, ⟨⟨_, _, rfl, rfl⟩, ⟨⟨_, _, rfl, rfl⟩, trivial⟩⟩⟩⟩⟩⟩⟩)
    (case yw0 => first | k_is | rfl | decide +kernel)
    (case yc0 => exact ⟨⟨_, rfl⟩, ⟨_, rfl⟩, ⟨⟨_, rfl⟩, ⟨_, rfl⟩, ⟨⟨_, rfl⟩, ⟨_, rfl⟩, ⟨⟨_, rfl⟩, ⟨_, rfl⟩, ⟨⟨_, rfl⟩, ⟨_, rfl⟩, ⟨⟨_, rfl⟩, ⟨_, rfl⟩, ⟨⟨_, rfl⟩, ⟨_, rfl⟩, trivial⟩⟩⟩⟩⟩⟩⟩)
    (case gc0 => first | k_is | rfl | decide +kernel)
    (case gc1 => first | k_is | rfl | decide +kernel)
    (case gc2 => first | k_is | rfl | decide +kernel)
