import PyProof.Rows.All
import Wide.All
import OpenK.AllK
import Wide.FinOn
import HandS.ForMost
import HandS.IsInst
import HandS.TupAny
import HandS.Style
import HandS.Codes
import HandS.TryOnly
import HandS.TupMul
import HandS.SetKeys
import HandS.StrMore
import HandS.Zip
import KE.GoesEnum
import HandS.ForExc
import HandS.ExcInit
import HandS.ExcIs
import HandS.ExcField
import HandS.FStr
import HandS.WordsExc
import HandS.ExcValue
import KE.KIntText
import KE.IntTextText
import HandS.More
import HandS.Text
import PySem.Challenge.RW_ownglass_k04_good_and_bad_programs
set_option Elab.async false
set_option linter.all false
set_option maxRecDepth 100000
set_option maxHeartbeats 4000000
set_option Elab.async false
set_option linter.all false
set_option maxRecDepth 100000
/-! L0: what the proofs of all laws share: heaps that keep all but some lists, trees (words and lists of trees), the law's hand, callees. -/
namespace Og
open PySem PySem.Spec PyProof.Rows L2

/-! ### heaps: each tracked thing stays, but for lists at the places S -/
def Keep (S : List Addr) (H H' : Hp) : Prop := ∀ b o, H b = some o → H' b = some o ∨ (b ∈ S ∧ ∃ xs ys, o = .lst xs ∧ H' b = some (.lst ys))
theorem Keep.refl {S : List Addr} {H : Hp} : Keep S H H := fun _ _ e => .inl e
theorem Keep.trans {S : List Addr} {H H1 H2 : Hp} (a : Keep S H H1) (b : Keep S H1 H2) : Keep S H H2 := fun p o e => by
  rcases a p o e with h | ⟨h, xs, ys, e1, e2⟩
  · exact b p o h
  · rcases b p _ e2 with h' | ⟨_, xs', ys', e3, e4⟩
    · exact .inr ⟨h, xs, ys, e1, h'⟩
    · exact .inr ⟨h, xs, ys', e1, e4⟩
theorem Keep.mono {S S' : List Addr} {H H1 : Hp} (a : Keep S H H1) (h : ∀ x ∈ S, x ∈ S') : Keep S' H H1 := fun p o e => by
  rcases a p o e with q | ⟨q, r⟩
  · exact .inl q
  · exact .inr ⟨h _ q, r⟩
theorem Keep.new {S : List Addr} {H : Hp} {p : Addr} {o : HO} (h : H p = none) : Keep S H (upd H p o) := fun b u e => .inl (by rw [upd_ne (ne_of_none e h)]; exact e)
theorem Keep.newT {S : List Addr} {H H1 : Hp} {p : Addr} {o : HO} (a : Keep S H H1) (h : H1 p = none) : Keep S H (upd H1 p o) := a.trans (Keep.new h)
theorem Keep.set {S : List Addr} {H : Hp} {p : Addr} {xs ys : List V} (h : H p = some (.lst xs)) (m : p ∈ S) : Keep S H (upd H p (.lst ys)) := fun b u e => by
  by_cases hb : b = p
  · subst hb
    rw [h] at e
    cases e
    exact .inr ⟨m, xs, ys, rfl, upd_same⟩
  · exact .inl (by rw [upd_ne hb]; exact e)
theorem Keep.setT {S : List Addr} {H H1 : Hp} {p : Addr} {xs ys : List V} (a : Keep S H H1) (h : H1 p = some (.lst xs)) (m : p ∈ S) : Keep S H (upd H1 p (.lst ys)) := a.trans (Keep.set h m)
/-- a list that is new may change -/
theorem Keep.drop {S : List Addr} {H H1 : Hp} {p : Addr} (a : Keep (p :: S) H H1) (h : H p = none) : Keep S H H1 := fun b o e => by
  rcases a b o e with q | ⟨q, r⟩
  · exact .inl q
  · rcases List.mem_cons.mp q with q | q
    · subst q
      rw [h] at e
      cases e
    · exact .inr ⟨q, r⟩
theorem Keep.cons {S : List Addr} {H H1 : Hp} {p : Addr} (a : Keep S H H1) : Keep (p :: S) H H1 := a.mono fun _ h => List.mem_cons_of_mem _ h
theorem Keep.get {S : List Addr} {H H1 : Hp} {b : Addr} {o : HO} (a : Keep S H H1) (e : H b = some o) (h : b ∉ S) : H1 b = some o := by
  rcases a b o e with q | ⟨q, _⟩
  · exact q
  · exact absurd q h
theorem Keep.free {S : List Addr} {H H1 : Hp} {b : Addr} (a : Keep S H H1) (e : H1 b = none) : H b = none := by
  cases q : H b with
  | none => rfl
  | some o =>
    rcases a b o q with r | ⟨_, _, _, _, r⟩ <;> rw [r] at e <;> cases e
theorem Keep.rdT {S : List Addr} {H H1 : Hp} {b : Addr} {xs : List V} (a : Keep S H H1) (e : Rd H b (.tup xs)) : Rd H1 b (.tup xs) := by
  rcases e with e | ⟨o, e⟩
  · rcases a b _ e with q | ⟨_, _, _, q, _⟩
    · exact .inl q
    · cases q
  · rcases a b _ e with q | ⟨_, _, _, q, _⟩
    · exact .inr ⟨o, q⟩
    · cases q
theorem Keep.sqT {K : PySem.W.Frag} {S : List Addr} {H H1 : Hp} {b : Addr} {xs : List V} (a : Keep S H H1) (e : SqT K H b xs) : SqT K H1 b xs := by
  rcases e with e | e
  · exact .inl (a.rdT e)
  · exact .inr e
theorem Keep.sqL {K : PySem.W.Frag} {S : List Addr} {H H1 : Hp} {b : Addr} {xs : List V} (a : Keep S H H1) (h : b ∉ S) (e : SqL K H b xs) : SqL K H1 b xs := by
  rcases e with (e | ⟨o, e⟩) | e
  · exact .inl (.inl (a.get e h))
  · exact .inl (.inr ⟨o, a.get e h⟩)
  · exact .inr e
theorem Keep.tup {S : List Addr} {H H1 : Hp} {b : Addr} {xs : List V} (a : Keep S H H1) (e : H b = some (.tup xs)) : H1 b = some (.tup xs) := by
  rcases a b _ e with q | ⟨_, _, _, q, _⟩
  · exact q
  · cases q
theorem Keep.of_same {S : List Addr} {H H1 : Hp} (a : Same H H1) : Keep S H H1 := fun b o e => .inl (a b o e)
theorem Keep.same {H H1 : Hp} (a : Keep [] H H1) : Same H H1 := fun b o e => a.get e (by simp)

/-! ### texts by their codes -/
def tx (cs : List Nat) : Str := ⟨cs.toArray⟩
theorem tx_list (cs : List Nat) : (tx cs).cps.toList = cs := rfl
theorem tx_len (cs : List Nat) : (tx cs).length = cs.length := by
  show cs.toArray.size = cs.length
  simp
theorem tx_app (a b : List Nat) : tx a ++ tx b = tx (a ++ b) := by
  show Str.mk (a.toArray ++ b.toArray) = Str.mk (a ++ b).toArray
  simp
theorem tx_of (s : Str) : s = tx s.cps.toList := by
  cases s
  rfl
theorem tx_inj {a b : List Nat} (h : tx a = tx b) : a = b := by
  have q := congrArg (fun s : Str => s.cps.toList) h
  exact q
theorem tx_str {a b : List Nat} (h : V.str (tx a) = V.str (tx b)) : a = b := tx_inj (V.str.inj h)
theorem atI_tx {cs : List Nat} {z : Int} {c : Nat} (h : atI (tx cs).cps.toList z = some c) : atI cs z = some c := h
/-! ### trees -/
inductive Tree where
  | w (x : List Nat)
  | l (ts : List Tree)
mutual
def Tr (K : PySem.W.Frag) (H : Hp) : V → Tree → Prop
  | v, .w x => v = .str (tx x)
  | v, .l ts => ∃ a vs, v = .ref a ∧ SqT K H a vs ∧ Trs K H vs ts
def Trs (K : PySem.W.Frag) (H : Hp) : List V → List Tree → Prop
  | vs, [] => vs = []
  | vs, t :: ts => ∃ v r, vs = v :: r ∧ Tr K H v t ∧ Trs K H r ts
end
mutual
theorem Tr.keep {K : PySem.W.Frag} {S : List Addr} {H H1 : Hp} (a : Keep S H H1) : ∀ {v : V} {t : Tree}, Tr K H v t → Tr K H1 v t
  | v, .w x, h => by rw [Tr] at h ⊢; exact h
  | v, .l ts, h => by
    rw [Tr] at h ⊢
    obtain ⟨p, vs, e, h1, h2⟩ := h
    exact ⟨p, vs, e, a.sqT h1, Trs.keep a h2⟩
theorem Trs.keep {K : PySem.W.Frag} {S : List Addr} {H H1 : Hp} (a : Keep S H H1) : ∀ {vs : List V} {ts : List Tree}, Trs K H vs ts → Trs K H1 vs ts
  | vs, [], h => by rw [Trs] at h ⊢; exact h
  | vs, t :: ts, h => by
    rw [Trs] at h ⊢
    obtain ⟨v, r, e, h1, h2⟩ := h
    exact ⟨v, r, e, Tr.keep a h1, Trs.keep a h2⟩
end
section
variable {K : PySem.W.Frag} {H : Hp}
theorem tr_w {x : List Nat} : Tr K H (.str (tx x)) (.w x) := by rw [Tr]
theorem tr_l {a : Addr} {vs : List V} {ts : List Tree} (h : SqT K H a vs) (r : Trs K H vs ts) : Tr K H (.ref a) (.l ts) := by rw [Tr]; exact ⟨a, vs, rfl, h, r⟩
theorem trs_nil : Trs K H [] [] := by rw [Trs]
theorem trs_cons {v : V} {vs : List V} {t : Tree} {ts : List Tree} (h : Tr K H v t) (r : Trs K H vs ts) : Trs K H (v :: vs) (t :: ts) := by rw [Trs]; exact ⟨v, vs, rfl, h, r⟩
theorem Tr.word {v : V} {x : List Nat} (h : Tr K H v (.w x)) : v = .str (tx x) := by rw [Tr] at h; exact h
theorem Tr.list {v : V} {ts : List Tree} (h : Tr K H v (.l ts)) : ∃ a vs, v = .ref a ∧ SqT K H a vs ∧ Trs K H vs ts := by rw [Tr] at h; exact h
theorem Trs.nil {vs : List V} (h : Trs K H vs []) : vs = [] := by rw [Trs] at h; exact h
theorem Trs.cons {vs : List V} {t : Tree} {ts : List Tree} (h : Trs K H vs (t :: ts)) : ∃ v r, vs = v :: r ∧ Tr K H v t ∧ Trs K H r ts := by rw [Trs] at h; exact h
theorem Trs.length : ∀ {vs : List V} {ts : List Tree}, Trs K H vs ts → vs.length = ts.length
  | vs, [], h => by rw [h.nil]; rfl
  | vs, t :: ts, h => by
    obtain ⟨v, r, rfl, _, h2⟩ := h.cons
    rw [List.length_cons, List.length_cons, Trs.length h2]
theorem Trs.get : ∀ {vs : List V} {ts : List Tree} {i : Nat} {t : Tree}, Trs K H vs ts → ts[i]? = some t → ∃ v, vs[i]? = some v ∧ Tr K H v t
  | vs, [], i, t, h, e => by simp at e
  | vs, t' :: ts, 0, t, h, e => by
    obtain ⟨v, r, rfl, h1, h2⟩ := h.cons
    have e' : t' = t := Option.some.inj e
    subst e'
    exact ⟨v, rfl, h1⟩
  | vs, t' :: ts, i + 1, t, h, e => by
    obtain ⟨v, r, rfl, h1, h2⟩ := h.cons
    exact Trs.get (i := i) h2 e
theorem Trs.append : ∀ {vs ws : List V} {ts us : List Tree}, Trs K H vs ts → Trs K H ws us → Trs K H (vs ++ ws) (ts ++ us)
  | vs, ws, [], us, h, g => by rw [h.nil]; exact g
  | vs, ws, t :: ts, us, h, g => by
    obtain ⟨v, r, rfl, h1, h2⟩ := h.cons
    exact trs_cons h1 (Trs.append h2 g)
theorem Trs.take : ∀ {vs : List V} {ts : List Tree} (n : Nat), Trs K H vs ts → Trs K H (vs.take n) (ts.take n)
  | vs, ts, 0, h => trs_nil
  | vs, [], n + 1, h => by rw [h.nil]; exact trs_nil
  | vs, t :: ts, n + 1, h => by
    obtain ⟨v, r, rfl, h1, h2⟩ := h.cons
    exact trs_cons h1 (Trs.take n h2)
theorem Trs.drop : ∀ {vs : List V} {ts : List Tree} (n : Nat), Trs K H vs ts → Trs K H (vs.drop n) (ts.drop n)
  | vs, ts, 0, h => h
  | vs, [], n + 1, h => by rw [h.nil]; exact trs_nil
  | vs, t :: ts, n + 1, h => by
    obtain ⟨v, r, rfl, h1, h2⟩ := h.cons
    exact Trs.drop n h2
theorem tr_tup {a : Addr} {vs : List V} {ts : List Tree} (h : H a = some (.tup vs)) (r : Trs K H vs ts) : Tr K H (.ref a) (.l ts) := tr_l (.inl (.inl h)) r
end
theorem Trs.snoc {K : PySem.W.Frag} {H : Hp} {vs : List V} {its : List Tree} {x : Tree} (h : Trs K H vs (its ++ [x])) : ∃ vs' v, vs = vs' ++ [v] ∧ Trs K H vs' its ∧ Tr K H v x := by
  induction its generalizing vs with
  | nil =>
    obtain ⟨v, r, rfl, h1, h2⟩ := h.cons
    rw [h2.nil]
    exact ⟨[], v, rfl, trs_nil, h1⟩
  | cons t ts ih =>
    obtain ⟨v, r, rfl, h1, h2⟩ := h.cons
    obtain ⟨vs', v', rfl, h3, h4⟩ := ih h2
    exact ⟨v :: vs', v', rfl, trs_cons h1 h3, h4⟩
theorem Trs.one {K : PySem.W.Frag} {H : Hp} {v : V} {t : Tree} (h : Tr K H v t) : Trs K H [v] [t] := trs_cons h trs_nil
theorem last_get {α : Type} (xs : List α) (x : α) : (xs ++ [x])[(xs ++ [x]).length - 1]? = some x := by
  rw [List.length_append, List.length_singleton, Nat.add_sub_cancel, List.getElem?_append_right (Nat.le_refl _), Nat.sub_self]
  rfl
theorem snoc_of {α : Type} {xs : List α} (h : xs ≠ []) : ∃ ys y, xs = ys ++ [y] := ⟨xs.dropLast, xs.getLast h, (List.dropLast_concat_getLast h).symm⟩
theorem emp_iff {vs : List V} {its : List Tree} {K : PySem.W.Frag} {H : Hp} (h : Trs K H vs its) : vs.isEmpty = its.isEmpty := by
  cases its with
  | nil => rw [h.nil]; rfl
  | cons t r => obtain ⟨v, r', rfl, _⟩ := h.cons; rfl
theorem SqT.of_tup {K : PySem.W.Frag} {H : Hp} {a : Addr} {vs : List V} (h : H a = some (.tup vs)) : SqT K H a vs := .inl (.inl h)

/-- a comprehension without a test -/
theorem yes {σ : L2.St} {H : Hp} {A B : Hp → Prop} (h : A H) : tYes σ H fun b H3 => if b = true then A H3 else B H3 := by
  show (if true = true then A H else B H)
  rw [if_pos rfl]
  exact h
/-! ### lists of ints -/
theorem map_int_get {ns : List Int} {i : Nat} {x : V} (h : (ns.map V.int)[i]? = some x) : ∃ n, x = .int n ∧ ns[i]? = some n := by
  rw [List.getElem?_map] at h
  cases e : ns[i]? with
  | none => rw [e] at h; cases h
  | some n => rw [e] at h; exact ⟨n, (Option.some.inj h).symm, rfl⟩
theorem atI_of {α : Type} {xs : List α} {z : Int} (h0 : 0 ≤ z) (h : z < (xs.length : Int)) : ∃ x, atI xs z = some x ∧ xs[z.toNat]? = some x := by
  have l : z.toNat < xs.length := by omega
  refine ⟨xs[z.toNat], ?_, List.getElem?_eq_getElem l⟩
  have q := atI_nat (List.getElem?_eq_getElem l)
  rw [show ((z.toNat : Nat) : Int) = z by omega] at q
  exact q
theorem atI_zero {α : Type} (x : α) (xs : List α) : atI (x :: xs) 0 = some x := atI_nat (j := 0) rfl
theorem atI_int {ns : List Int} {z : Int} (h0 : 0 ≤ z) (h : z < (ns.length : Int)) : ∃ n, atI (ns.map V.int) z = some (.int n) := by
  obtain ⟨x, h1, h2⟩ := atI_of (xs := ns.map V.int) h0 (by rw [List.length_map]; exact h)
  obtain ⟨n, rfl, _⟩ := map_int_get h2
  exact ⟨n, h1⟩
theorem ixN_int {n : Nat} {z : Int} (h0 : 0 ≤ z) (h : z < (n : Int)) : ixN n z = some z.toNat := by
  unfold ixN
  rw [if_pos h0, if_pos h]
theorem map_int_set (ns : List Int) (j : Nat) (y : Int) : (ns.map V.int).set j (.int y) = (ns.set j y).map V.int := by
  rw [List.map_set]
theorem map_int_app (ns : List Int) (y : Int) : ns.map V.int ++ [V.int y] = (ns ++ [y]).map V.int := by
  rw [List.map_append]; rfl

/-! ### isinstance, truth -/
def Tree.isW : Tree → Bool
  | .w _ => true
  | .l _ => false
section
variable {K : PySem.W.Frag} {H : Hp}
theorem tyX_tup {a : Addr} {xs : List V} (h : SqT K H a xs) : TyX K H (.ref a) (.type "tuple") := by
  rcases h with (h | ⟨o, h⟩) | ⟨o, its, n, h, c, _⟩
  · exact .base (.tup h)
  · exact .fTuple h
  · exact .kTuple h c
theorem kit_ss : PySem.W.kitOne K (.type "str") (.type "str") = some true := kit_ty (by decide +kernel)
theorem kit_ts : PySem.W.kitOne K (.type "tuple") (.type "str") = some false := kit_ty (by decide +kernel)
theorem kit_st : PySem.W.kitOne K (.type "str") (.type "tuple") = some false := kit_ty (by decide +kernel)
theorem kit_tt : PySem.W.kitOne K (.type "tuple") (.type "tuple") = some true := kit_ty (by decide +kernel)
/-- the witnesses of isinstance(v, str), isinstance(v, tuple) for a tree v -/
theorem isi_str {v : V} {t : Tree} (h : Tr K H v t) : ∃ ty u, ClsV (.ty "str") u ∧ TyX K H v ty ∧ PySem.W.kitOne K ty u = some t.isW := by
  cases t with
  | w x => rw [h.word]; exact ⟨_, _, .ty _, .base (.str _), kit_ss⟩
  | l ts =>
    obtain ⟨a, vs, rfl, h1, _⟩ := h.list
    exact ⟨_, _, .ty _, tyX_tup h1, kit_ts⟩
theorem isi_tup {v : V} {t : Tree} (h : Tr K H v t) : ∃ ty u, ClsV (.ty "tuple") u ∧ TyX K H v ty ∧ PySem.W.kitOne K ty u = some (!t.isW) := by
  cases t with
  | w x => rw [h.word]; exact ⟨_, _, .ty _, .base (.str _), kit_st⟩
  | l ts =>
    obtain ⟨a, vs, rfl, h1, _⟩ := h.list
    exact ⟨_, _, .ty _, tyX_tup h1, kit_tt⟩
theorem isi_strS {x : Str} : ∃ ty u, ClsV (.ty "str") u ∧ TyX K H (.str x) ty ∧ PySem.W.kitOne K ty u = some true := ⟨_, _, .ty _, .base (.str _), kit_ty (by decide +kernel)⟩
theorem isi_boolB {x : Bool} : ∃ ty u, ClsV (.ty "bool") u ∧ TyX K H (.bl x) ty ∧ PySem.W.kitOne K ty u = some true := ⟨_, _, .ty _, .base (.bl _), kit_ty (by decide +kernel)⟩
/-- a test that is a value of True or False -/
theorem tru_list {p : Addr} {xs : List V} (h : H p = some (.lst xs)) : TruV K (.ref p) H (!xs.isEmpty) := .inl ⟨xs, SqL.of h, rfl⟩
end
theorem sIx0 (n : Nat) : HT.sIx n 0 none = 0 := rfl
/-- a text cut: from i to j -/
theorem cutS_nat (cs : List Nat) {i j : Nat} (h : i ≤ j) (hj : j ≤ cs.length) : cutS (tx cs) (some (i : Int)) (some (j : Int)) = tx ((cs.drop i).take (j - i)) := by
  unfold cutS
  rw [HT.sIx_nat, HT.sIx_nat, tx_len, tx_list]
  rw [Nat.min_eq_left hj, Nat.min_eq_left (Nat.le_trans h hj)]
  rfl
theorem cutS_to (cs : List Nat) {j : Nat} (hj : j ≤ cs.length) : cutS (tx cs) none (some (j : Int)) = tx (cs.take j) := by
  unfold cutS
  rw [HT.sIx_nat, tx_len, tx_list, Nat.min_eq_left hj, sIx0, Nat.sub_zero, List.drop_zero]
  rfl
theorem cutS_from (cs : List Nat) {i : Nat} (hj : i ≤ cs.length) : cutS (tx cs) (some (i : Int)) none = tx (cs.drop i) := by
  unfold cutS
  rw [HT.sIx_nat, tx_len, tx_list, Nat.min_eq_left hj, HT.sIx_none]
  show Str.mk (List.take (cs.length - i) (cs.drop i)).toArray = _
  rw [List.take_of_length_le (by rw [List.length_drop]; omega)]
  rfl

/-! ### callees -/
structure Callee (P : Program) (w : World) (K : PySem.W.Frag) (mg : Str → Option Value) (base : Heap) (CX : CXT) (k : Nat) (x : Str) (f : Addr) (fd : FuncData) (ps : List Str) (sp : Sp) : Prop where
  ok : FnOk P w K mg base CX k f fd ps sp
  mg : mg x = some (.ref f)
  kp : PySem.W.keepIn K (.ref f) = true
  bi : Binds K fd ps []
def Has (P : Program) (w : World) (K : PySem.W.Frag) (mg : Str → Option Value) (base : Heap) (k : Nat) (x : Str) (ps : List Str) (sp : Sp) : Prop := ∃ f fd, Callee P w K mg base CX0 k x f fd ps sp
theorem Has.mono {P : Program} {w : World} {K : PySem.W.Frag} {mg : Str → Option Value} {base : Heap} {j k : Nat} {x : Str} {ps : List Str} {sp : Sp} (h : Has P w K mg base j x ps sp) (l : j ≤ k) : Has P w K mg base k x ps sp := by
  obtain ⟨f, fd, c⟩ := h
  exact ⟨f, fd, c.ok.mono l, c.mg, c.kp, c.bi⟩
/-- a def with a promise for each n: one promise for all up to N -/
theorem has_upto {P : Program} {w : World} {K : PySem.W.Frag} {mg : Str → Option Value} {base : Heap} {k : Nat} {x : Str} {f : Addr} {fd : FuncData} {ps : List Str} {sp : Nat → Sp} (h : ∀ n, Callee P w K mg base CX0 (k + n + 1) x f fd ps (sp n)) (N : Nat) :
    Has P w K mg base (k + N + 1) x ps (fun vs H Q E => ∃ n, n ≤ N ∧ sp n vs H Q E) := by
  refine ⟨f, fd, ⟨fun vs H Q E q => ?_, fun A outer s H args us vs Q E hr e b v q => ?_⟩, (h 0).mg, (h 0).kp, (h 0).bi⟩
  · obtain ⟨n, _, q⟩ := q
    exact (h n).ok.len vs H Q E q
  · obtain ⟨n, hn, q⟩ := q
    exact ((h n).ok.mono (show k + n + 1 ≤ k + N + 1 by omega)).run A outer s H args us vs Q E hr e b v q
/-- a def as it stands behind the top -/
structure DefAt (K : PySem.W.Frag) (mg : Str → Option Value) (x : Str) (st : Stmt) (ps : List Str) : Prop where
  ex : ∃ f fd, Fun K x x st f fd ∧ mg x = some (.ref f) ∧ Binds K fd ps []
section
variable {X : Cx} {k : Nat} {x : Str} {f : Addr} {fd : FuncData} {ps : List Str} {sp : Sp} {p pos : Pos} {e : Expr} {es : List Expr} {t : TA}
theorem cal (C : Callee X.prog X.w X.K X.mg X.base CX0 k x f fd ps sp) (hr : Room k X.A) (hg : Gl X x) (ha : PA X (e :: es) t) (hdb : (x == ("__debug__" : Str)) = false := by decide)
    (he : starEach (e :: es) X.env = (false, eval e X.env) :: starEach es X.env := by rfl) (hpl : (backTo pos (starEach es X.env)).any (·.1) = false := by rfl) : PE X (.Call (.Name x p) (e :: es) [] pos) (tCall sp [] E0 t) :=
  pe_call C.ok hr hg C.mg C.kp C.bi .nil pass0 ha hdb he hpl
end
/-! ### the law's hand: a list of the draws (at d) and a number; all that is asked of it is that it is one -/
def Hd (H : Hp) (h d : Addr) : Prop := ∃ (n : Nat) (ds : List Int), H h = some (.lst [.ref d, .int n]) ∧ H d = some (.lst (ds.map V.int)) ∧ ds.length ≤ 100000
theorem Hd.ne {H : Hp} {h d : Addr} (a : Hd H h d) : d ≠ h := by
  intro q
  obtain ⟨n, ds, e, e2, _⟩ := a
  subst q
  rw [e] at e2
  have q := HO.lst.inj (Option.some.inj e2)
  cases ds with
  | nil => cases q
  | cons x r =>
    have := (List.cons.inj q).1
    cases this
theorem Hd.lst {H : Hp} {h d : Addr} (a : Hd H h d) : ∃ xs, H h = some (.lst xs) := by
  obtain ⟨n, ds, e, _⟩ := a
  exact ⟨_, e⟩
theorem Hd.neH {H : Hp} {h d p : Addr} (a : Hd H h d) (q : H p = none) : h ≠ p := by
  obtain ⟨n, ds, e, _⟩ := a
  exact ne_of_none e q
theorem Hd.neD {H : Hp} {h d p : Addr} (a : Hd H h d) (q : H p = none) : d ≠ p := by
  obtain ⟨n, ds, _, e, _⟩ := a
  exact ne_of_none e q
theorem Hd.keep {S : List Addr} {H H1 : Hp} {h d : Addr} (a : Hd H h d) (k : Keep S H H1) (hh : h ∉ S) (hd : d ∉ S) : Hd H1 h d := by
  obtain ⟨n, ds, e1, e2, l⟩ := a
  exact ⟨n, ds, k.get e1 hh, k.get e2 hd, l⟩
theorem Hd.keep0 {H H1 : Hp} {h d : Addr} (a : Hd H h d) (k : Keep [] H H1) : Hd H1 h d := a.keep k (by simp) (by simp)
theorem Hd.upd {H : Hp} {h d p : Addr} {o : HO} (a : Hd H h d) (q1 : h ≠ p) (q2 : d ≠ p) : Hd (upd H p o) h d := by
  obtain ⟨n, ds, e1, e2, l⟩ := a
  exact ⟨n, ds, by rw [upd_ne q1]; exact e1, by rw [upd_ne q2]; exact e2, l⟩
theorem Hd.new {H : Hp} {h d p : Addr} {o : HO} (a : Hd H h d) (q : H p = none) : Hd (L2.upd H p o) h d := a.upd (a.neH q) (a.neD q)
theorem sizeL {n : Nat} (h : n ≤ 100000) : n ≤ sizeLine := Nat.le_trans h (by decide)
theorem sizeLt {n : Nat} (h : n ≤ 100000) : n < sizeLine := Nat.lt_of_le_of_lt h (by decide)
end Og

namespace Og
open PySem PySem.Spec PyProof.Rows L2
/-! ### tuples of trees: index, slice, concatenation, length, making -/
def cutL {α : Type} (xs : List α) (lo hi : Option Int) : List α := (xs.drop (HT.sIx xs.length 0 lo)).take (HT.sIx xs.length xs.length hi - HT.sIx xs.length 0 lo)
theorem cutL_whole {α : Type} {xs : List α} {lo hi : Option Int} (h : HT.sIx xs.length 0 lo = 0 ∧ HT.sIx xs.length xs.length hi = xs.length) : cutL xs lo hi = xs := by
  unfold cutL
  rw [h.1, h.2, List.drop_zero, Nat.sub_zero, List.take_length]
theorem cutL_to {α : Type} (xs : List α) {j : Nat} (hj : j ≤ xs.length) : cutL xs none (some (j : Int)) = xs.take j := by
  unfold cutL
  rw [HT.sIx_nat, Nat.min_eq_left hj, sIx0, Nat.sub_zero, List.drop_zero]
theorem cutL_from {α : Type} (xs : List α) {i : Nat} (hj : i ≤ xs.length) : cutL xs (some (i : Int)) none = xs.drop i := by
  unfold cutL
  rw [HT.sIx_nat, Nat.min_eq_left hj, HT.sIx_none, List.take_of_length_le (by rw [List.length_drop]; exact Nat.le_refl _)]
theorem cutL_mid {α : Type} (xs : List α) {i j : Nat} (h : i ≤ j) (hj : j ≤ xs.length) : cutL xs (some (i : Int)) (some (j : Int)) = (xs.drop i).take (j - i) := by
  unfold cutL
  rw [HT.sIx_nat, HT.sIx_nat, Nat.min_eq_left hj, Nat.min_eq_left (Nat.le_trans h hj)]
theorem cutL_len {α : Type} (xs : List α) (lo hi : Option Int) : (cutL xs lo hi).length ≤ xs.length := by
  unfold cutL
  rw [List.length_take, List.length_drop]
  omega
theorem cutL_mem {α : Type} {xs : List α} {lo hi : Option Int} {x : α} (h : x ∈ cutL xs lo hi) : x ∈ xs := List.mem_of_mem_drop (List.mem_of_mem_take h)
section
variable {K : PySem.W.Frag} {H : Hp}
theorem Trs.cut {vs : List V} {ts : List Tree} (lo hi : Option Int) (h : Trs K H vs ts) : Trs K H (cutV vs lo hi) (cutL ts lo hi) := by
  unfold cutV cutL
  rw [h.length]
  exact (h.drop _).take _
theorem Tr.tup {v : V} {ts : List Tree} (h : Tr K H v (.l ts)) : ∃ a vs, v = .ref a ∧ SqT K H a vs ∧ vs.length = ts.length := by
  obtain ⟨a, vs, e, hs, r⟩ := h.list
  exact ⟨a, vs, e, hs, r.length⟩
/-- t[lo:hi] -/
theorem sl_tr {x : V} {ts : List Tree} {lo hi : Option Int} {Q : VK} (h : Tr K H x (.l ts)) (q : ∀ v H', Tr K H' v (.l (cutL ts lo hi)) → Keep [] H H' → Q v H') : rSlA K x lo hi H Q := by
  obtain ⟨a, vs, rfl, hs, r⟩ := h.list
  refine ⟨a, vs, rfl, hs, fun w => ?_, fun _ p np => ?_⟩
  · rw [r.length] at w
    exact q _ _ (by rw [cutL_whole w]; exact h) Keep.refl
  · exact q _ _ (tr_tup upd_same ((r.cut lo hi).keep (Keep.new (S := []) np))) (Keep.new np)
/-- t + u -/
theorem cat_tr {x y : V} {ts us : List Tree} {Q : VK} (hx : Tr K H x (.l ts)) (hy : Tr K H y (.l us)) (hz : ts.length + us.length ≤ sizeLine) (q : ∀ v H', Tr K H' v (.l (ts ++ us)) → Keep [] H H' → Q v H') : rCatA K x y H Q := by
  obtain ⟨a, vs, rfl, hs, r⟩ := hx.list
  obtain ⟨b, ws, rfl, hs2, r2⟩ := hy.list
  refine ⟨a, b, vs, ws, rfl, rfl, hs, hs2, by rw [r.length, r2.length]; exact hz, fun e => ?_, fun _ e => ?_, fun _ _ p np => ?_⟩
  · subst e
    have : ts = [] := List.length_eq_zero_iff.mp r.length.symm
    subst this
    exact q _ _ hy Keep.refl
  · subst e
    have : us = [] := List.length_eq_zero_iff.mp r2.length.symm
    subst this
    rw [List.append_nil] at q
    exact q _ _ hx Keep.refl
  · exact q _ _ (tr_tup upd_same ((r.append r2).keep (Keep.new (S := []) np))) (Keep.new np)
/-- t[i] -/
theorem ix_tr {x : V} {ts : List Tree} {i : Int} {t : Tree} {Q : VK} (h : Tr K H x (.l ts)) (e : atI ts i = some t) (q : ∀ v, Tr K H v t → Q v H) : rIxT K x (.int i) H Q := by
  obtain ⟨a, vs, rfl, hs, r⟩ := h.list
  unfold atI at e
  cases hi : ixN ts.length i with
  | none => rw [hi] at e; cases e
  | some j =>
    rw [hi] at e
    obtain ⟨v, hv, tv⟩ := r.get (i := j) e
    refine ⟨a, vs, i, v, rfl, rfl, hs, ?_, q v tv⟩
    unfold atI
    rw [r.length, hi]
    exact hv
/-- len(t) -/
theorem len_tr {x : V} {ts : List Tree} {Q : VK} (h : Tr K H x (.l ts)) (q : Q (.int (ts.length : Nat)) H) : ∃ p ys, [x] = [V.ref p] ∧ (SqL K H p ys ∨ SqT K H p ys) ∧ Q (.int ys.length) H := by
  obtain ⟨a, vs, rfl, hs, r⟩ := h.list
  exact ⟨a, vs, rfl, .inr hs, by rw [r.length]; exact q⟩
/-- (a, b, ..) -/
theorem mk_tr {p : Addr} {vs : List V} {ts : List Tree} (np : H p = none) (r : Trs K H vs ts) : Tr K (upd H p (.tup vs)) (.ref p) (.l ts) ∧ Keep [] H (upd H p (.tup vs)) :=
  ⟨tr_tup upd_same (r.keep (Keep.new (S := []) np)), Keep.new np⟩
end
/-- x != y, x == y of trees one of which is a word -/
def rNeTr (K : PySem.W.Frag) : R2 := fun x y H Q => ∃ t u : Tree, Tr K H x t ∧ Tr K H y u ∧ (t.isW = true ∨ u.isW = true) ∧ ∀ b : Bool, (b = true ↔ t ≠ u) → Q (.bl b) H
def rEqTr (K : PySem.W.Frag) : R2 := fun x y H Q => ∃ t u : Tree, Tr K H x t ∧ Tr K H y u ∧ (t.isW = true ∨ u.isW = true) ∧ ∀ b : Bool, (b = true ↔ t = u) → Q (.bl b) H
theorem op_neTr {X : Cx} (hu : X.A.units + 64 < cLine) : OpR X (compareOp .NotEq) (rNeTr X.K) := by
  intro pins s σ H x y v u Q I rx ry h
  obtain ⟨t, t', hx, hy, hw, q⟩ := h
  cases t with
  | w a =>
    have ex := hx.word
    subst ex
    cases t' with
    | w b =>
      have ey := hy.word
      subst ey
      refine op_ne pins s σ H _ _ v u Q I rx ry ⟨rfl, q _ ?_⟩
      by_cases e : a = b
      · subst e; simp
      · have : ¬ V.str (tx a) = V.str (tx b) := fun z => e (tx_str z)
        have e2 : ¬ Tree.w a = Tree.w b := fun z => e (Tree.w.inj z)
        simp [this, e2]
    | l us =>
      obtain ⟨p, ws, rfl, hs, _⟩ := hy.list
      obtain ⟨its, _, pt, _⟩ := I.tuple hs
      obtain ⟨tk, rfl⟩ := rx
      obtain rfl : u = Value.ref p := ry
      exact SeqAt.RcNeAt.str_tuple _ _ pt (by omega) _ _ _ _ ⟨.bl true, H, I, rfl, q true (by simp)⟩
  | l ts =>
    obtain ⟨p, ws, rfl, hs, _⟩ := hx.list
    cases t' with
    | w b =>
      have ey := hy.word
      subst ey
      obtain ⟨its, _, pt, _⟩ := I.tuple hs
      obtain ⟨tk, rfl⟩ := ry
      obtain rfl : v = Value.ref p := rx
      exact SeqAt.RcNeAt.tuple_str _ _ pt (by omega) _ _ _ _ ⟨.bl true, H, I, rfl, q true (by simp)⟩
    | l us => rcases hw with h | h <;> cases h
theorem op_eqTr {X : Cx} (hu : X.A.units + 64 < cLine) : OpR X (compareOp .Eq) (rEqTr X.K) := by
  intro pins s σ H x y v u Q I rx ry h
  obtain ⟨t, t', hx, hy, hw, q⟩ := h
  cases t with
  | w a =>
    have ex := hx.word
    subst ex
    cases t' with
    | w b =>
      have ey := hy.word
      subst ey
      refine op_eq pins s σ H _ _ v u Q I rx ry ⟨rfl, q _ ?_⟩
      by_cases e : a = b
      · subst e; simp
      · have : ¬ V.str (tx a) = V.str (tx b) := fun z => e (tx_str z)
        have e2 : ¬ Tree.w a = Tree.w b := fun z => e (Tree.w.inj z)
        simp [this, e2]
    | l us =>
      obtain ⟨p, ws, rfl, hs, _⟩ := hy.list
      obtain ⟨its, _, pt, _⟩ := I.tuple hs
      obtain ⟨tk, rfl⟩ := rx
      obtain rfl : u = Value.ref p := ry
      exact SeqAt.RcAt.str_tuple _ _ pt (by omega) _ _ _ _ ⟨.bl false, H, I, rfl, q false (by simp)⟩
  | l ts =>
    obtain ⟨p, ws, rfl, hs, _⟩ := hx.list
    cases t' with
    | w b =>
      have ey := hy.word
      subst ey
      obtain ⟨its, _, pt, _⟩ := I.tuple hs
      obtain ⟨tk, rfl⟩ := ry
      obtain rfl : v = Value.ref p := rx
      exact SeqAt.RcAt.tuple_str _ _ pt (by omega) _ _ _ _ ⟨.bl false, H, I, rfl, q false (by simp)⟩
    | l us => rcases hw with h | h <;> cases h
end Og

namespace Og
open PySem PySem.Spec PyProof.Rows L2
open AutoSeq1 (wpAny_loadPart')
/-! ### xs.extend(t), t a tuple -/
def rExtT (K : PySem.W.Frag) : V → List V → Hp → VK → Prop := fun x vs H Q => ∃ l b xs zs, x = .ref l ∧ vs = [.ref b] ∧ H l = some (.lst xs) ∧ SqT K H b zs ∧ xs.length + zs.length ≤ sizeLine ∧ Q .non (upd H l (.lst (xs ++ zs)))
theorem ext_tuple (l : Addr) (items : Array Value) (n : Nat) (b : Addr) (items2 : Array Value) (n2 : Nat) (dd : Option Addr) (sl : Array (Option Value)) (hs0 : ¬(!items.isEmpty && Builtin.List.listTooLong (items.size + items2.size)) = true) (hs1 : items.size ≤ sizeLine) (hs2 : items.size + items2.size ≤ sizeLine + 1) :
    Meets (Builtin.«list.extend» ⟨[.ref l, .ref b], []⟩) (fun _ R s => s.heap.get? l = some { cls := .type "list", dict := none, data := .seq items n, slots := #[] } ∧ s.heap.get? b = some { cls := .type "tuple", dict := dd, data := .seq items2 n2, slots := sl } ∧ R (.ok (.ret Value.none)) { s with heap := s.heap.update l (Obj.mapSeq fun x => x ++ items2), toks := s.toks }) :=
  .of_wp fun prog w A R s h => by
    obtain ⟨hp, g, d, tk, os⟩ := s; obtain ⟨hl, hb, h⟩ := h; have f1 := AutoSeq1.idx_int; have f2 := AutoSeq1.sub_tuple_tuple; have f3 := AutoSeq1.sub_list_list; have f4 := AutoSeq1.sub_tuple_list; have f5 := AutoSeq1.sub_list_tuple;
    have hz' : (items ++ items2).size ≤ sizeLine + 1 := by rw [Array.size_append]; exact hs2
    wp_walk using (wpAny_updateSeq hl rfl (hz := hs1) (_hz' := hz')), wpAny_loadPart' hl, wpAny_loadPart' hb; exact ⟨_, rfl, h⟩
theorem mt_extendT {X : Cx} : MtM X "list.extend" (rExtT X.K) := by
  intro pins s σ H x vs v us Q I rx rv h
  obtain ⟨l, b, xs, zs, rfl, rfl, hH, hB, hz, q⟩ := h
  cases rx
  obtain ⟨u, rfl, ru⟩ := rv.one
  cases ru
  obtain ⟨z, its, n, r, hl, e⟩ := I.lstM hH
  obtain ⟨its2, r2, ⟨⟨cls, dd, data, sl⟩, e2, hc2, n2, hd2⟩, hz2⟩ := I.tuple hB
  simp only at hc2 hd2
  subst hc2 hd2
  have hl2 := r2.length
  have hsz : its.toArray.size + its2.toArray.size ≤ sizeLine := by rw [List.size_toArray, List.size_toArray]; omega
  have hlong : ¬ (!its.toArray.isEmpty && Builtin.List.listTooLong (its.toArray.size + its2.toArray.size)) = true := by
    rw [notLongL hsz, Bool.and_false]
    exact Bool.false_ne_true
  refine call_meets F.slot_list_extend ⟨_, e, rfl⟩ F.entry_list_extend (F.args_list_extend_2 _ _)
    (ext_tuple l its.toArray n b its2.toArray n2 dd sl hlong (by rw [List.size_toArray]; omega) (by omega)) ⟨e, e2, ?_⟩
  refine ⟨.non, _, I.lset (its' := its ++ its2) hH e (by simp) (r.append r2) ?_, rfl, q⟩
  rw [List.length_append]
  omega
/-! ### t * n -/
theorem tuple_mul1 (l : Addr) (items : Array Value) (n : Nat) (dd : Option Addr) (sl : Array (Option Value)) (u : Tok) :
    Meets (Builtin.«tuple.__mul__» ⟨[.ref l, .int 1 u], []⟩) (fun _ R s => s.heap.get? l = some { cls := .type "tuple", dict := dd, data := .seq items n, slots := sl } ∧ R (.ok (.ret (Value.ref l))) s) :=
  .of_wp fun prog w A R s h => by
    obtain ⟨hp, g, d, tk, os⟩ := s
    obtain ⟨hl, h⟩ := h
    have f1 := AutoSeq1.idx_int
    have c1 : (items.isEmpty || (1 : Int) == 1) = true := by simp
    wp_walk using wpAny_loadPart' hl
    exact ⟨_, rfl, h⟩
theorem tuple_mul0 (l : Addr) (items : Array Value) (n : Nat) (dd : Option Addr) (sl : Array (Option Value)) (u : Tok) (hi : items.isEmpty = false) :
    Meets (Builtin.«tuple.__mul__» ⟨[.ref l, .int 0 u], []⟩) (fun _ R s => s.heap.get? l = some { cls := .type "tuple", dict := dd, data := .seq items n, slots := sl } ∧
      R (.ok (.ret (Value.ref s.heap.objs.size))) { s with heap := s.heap.push { cls := Value.type "tuple", data := Data.seq #[] }, toks := s.toks }) :=
  .of_wp fun prog w A R s h => by
    obtain ⟨hp, g, d, tk, os⟩ := s
    obtain ⟨hl, h⟩ := h
    have f1 := AutoSeq1.idx_int
    have c1 : (items.isEmpty || (0 : Int) == 1) = false := by rw [hi]; rfl
    wp_walk using wpAny_loadPart' hl
    repeat (first
      | (refine wpAny_ite_false (decide_eq_false (by rw [c1]; exact Bool.false_ne_true)) ?_; wp_walk using wpAny_loadPart' hl))
    exact ⟨_, rfl, h⟩
/-- t * k, t not empty, k from 0 -/
def rRepA (K : PySem.W.Frag) : R2 := fun x y H Q => ∃ (l : Addr) (k : Nat) (xs : List V), x = .ref l ∧ y = .int k ∧ SqT K H l xs ∧ xs ≠ [] ∧ k ≤ 1000 ∧ xs.length ≤ 1000 ∧
  (k = 1 → Q (.ref l) H) ∧ (k ≠ 1 → ∀ p, H p = none → Q (.ref p) (upd H p (.tup (List.replicate k xs).flatten)))
theorem op_repA {X : Cx} : OpR X (binaryOp .Mult) (rRepA X.K) := by
  intro pins s σ H x y v u Q I rx ry h
  obtain ⟨l, k, xs, rfl, rfl, hT, hne, h2, hz, q1, q⟩ := h
  by_cases hk2 : 2 ≤ k
  · exact op_repT pins s σ H _ _ v u Q I rx ry ⟨l, k, xs, rfl, rfl, hT, hne, by omega, by omega, hz, by rw [Int.toNat_natCast]; exact q (by omega)⟩
  cases rx
  obtain ⟨t, rfl⟩ := ry
  obtain ⟨its, r, ⟨⟨cls, dd, data, sl⟩, ho, hc, n, hd⟩, hs⟩ := I.tuple hT
  simp only at hc hd
  subst hc hd
  have hle : its.length = xs.length := r.length.symm
  have hi : its.toArray.isEmpty = false := by
    cases its with
    | nil => exact absurd (List.eq_nil_of_length_eq_zero hle.symm) hne
    | cons a b => rfl
  have c : k = 0 ∨ k = 1 := by omega
  rcases c with rfl | rfl
  · refine wpAny_binaryOp_repeat_ref (T := "tuple") (U := "int") (by decide) ⟨_, ho, rfl⟩ (fun s' => typeIs_int s' _ t) noFill_tuple_mul F.fills_int_mul F.slot_int_rmul repeat_tuple F.slot_int_index.lookup
      (call_meets F.slot_int_rmul (typeIs_int s _ t) F.entry_int_rmul (F.args_int_rmul_2 _ _) (int_rmul_tuple _ t l its.toArray n dd sl)
        ⟨ho, rfl, ⟨_, ho, rfl⟩, call_meets F.slot_tuple_mul ⟨_, ho, rfl⟩ F.entry_tuple_mul (F.args_tuple_mul_2 _ _) (tuple_mul0 l its.toArray n dd sl t hi) ⟨ho, ?_⟩⟩)
    refine ⟨.ref s.heap.objs.size, _, I.laid (t' := s.toks) (o := .tup []) (fun b ob q => Heap.get?_push_of_some _ q) (Nat.le_refl _) ?_, rfl, q (by decide) _ (I.hok.fresh (Nat.le_refl _))⟩
    exact ⟨Nat.zero_le _, [], .nil, IsTup.new _ _⟩
  · refine wpAny_binaryOp_repeat_ref (T := "tuple") (U := "int") (by decide) ⟨_, ho, rfl⟩ (fun s' => typeIs_int s' _ t) noFill_tuple_mul F.fills_int_mul F.slot_int_rmul repeat_tuple F.slot_int_index.lookup
      (call_meets F.slot_int_rmul (typeIs_int s _ t) F.entry_int_rmul (F.args_int_rmul_2 _ _) (int_rmul_tuple _ t l its.toArray n dd sl)
        ⟨ho, rfl, ⟨_, ho, rfl⟩, call_meets F.slot_tuple_mul ⟨_, ho, rfl⟩ F.entry_tuple_mul (F.args_tuple_mul_2 _ _) (tuple_mul1 l its.toArray n dd sl t) ⟨ho, ?_⟩⟩)
    exact ⟨.ref l, H, I, rfl, q1 rfl⟩
/-! ### t[::-1], t of two items -/
theorem sliceApplied_rev2 {prog : Program} {w : World} {A : Around} {E : Value → Shared → Prop} {s : Shared} {sl : Addr} {vl vu vs : Value} {Q : Int × Int × Nat → Shared → Prop} (hs : s.heap.IsSliceOf sl vl vu vs) (pl : IsPart vl none) (pu : IsPart vu none) (ps : IsPart vs (some (-1)))
    (h : Q (1, -1, 2) s) : wpAny (model prog w) A (Builtin.Slice.sliceApplied (.ref sl) (pure (2 : Int))) Q E s := by
  obtain ⟨os, hos, hcs, hds⟩ := id hs
  unfold Builtin.Slice.sliceApplied Builtin.Slice.sliceFields
  refine wpAny_bind (wpAny_bind (wpAny_field hos hds (x := vl) rfl (wpAny_bind (wpAny_field hos hds (x := vu) rfl (wpAny_bind (wpAny_field hos hds (x := vs) rfl (wpAny_pure ?_)))))))
  refine wpAny_bind (HT.slicePart_ ps ?_)
  show wpAny _ _ (if ((-1 : Int) == 0) = true then _ else _) _ _ s
  rw [if_neg (by decide)]
  refine wpAny_bind (HT.slicePart_ pl (wpAny_bind (HT.slicePart_ pu (wpAny_bind (wpAny_pure ?_)))))
  exact wpAny_pure h
theorem getItem_tuple_rev2 {prog : Program} {w : World} {A : Around} {E : Value → Shared → Prop} {s : Shared} {t sl : Addr} {u1 u2 : Value} {vl vu vs : Value} {Q : Value → Shared → Prop} (ht : IsTup s.heap t #[u1, u2]) (hs : s.heap.IsSliceOf sl vl vu vs) (pl : IsPart vl none) (pu : IsPart vu none) (ps : IsPart vs (some (-1)))
    (h : Q (.ref s.heap.objs.size) { s with heap := s.heap.push { cls := .type "tuple", data := .seq #[u2, u1] } }) : wpAny (model prog w) A (getItem (.ref t) (.ref sl)) Q E s := by
  obtain ⟨os, hos, hcs, hds⟩ := id hs
  have hTs : s.TypeIs (.ref sl) "slice" := ⟨os, hos, hcs⟩
  unfold getItem
  try with_reducible refine wpAny_holding ?_
  first | refine wpAny_bind (wpAny_pure ?_) | skip
  refine wpAny_bind (wpAny_sequenceKey ht.typeIs (by decide) ?_)
  refine wpAny_bind (wpAny_callSpecial?_slot (name := Str.ofString "__getitem__") ht.typeIs PyProof.Rows.slot_tuple_getitem
    (wpAny_call_entry PyProof.Rows.slot_tuple_getitem ht.typeIs PyProof.Rows.entry_tuple_getitem ?_ (PyProof.Rows.args_tuple_getitem _ _)))
  show wpAny _ _ (Builtin.Tuple.tupleItemsOf (.ref t) >>= _) _ _ s
  refine wpAny_bind (PyProof.Rows.tupleItemsOf_ ht ?_)
  refine wpAny_bind (wpAny_typeOf hTs ?_)
  rw [if_pos (by decide)]
  refine wpAny_bind (sliceApplied_rev2 hs pl pu ps ?_)
  show wpAny _ _ (if ((1 : Int) == 0 && (-1 : Int) == 1 && (2 : Nat) == 2) = true then _ else _) _ _ s
  rw [if_neg (by decide)]
  have e : ((List.range 2).filterMap fun (k : Nat) => (#[u1, u2] : Array Value)[((1 : Int) + (k : Int) * (-1)).toNat]?).toArray = #[u2, u1] := rfl
  rw [e]
  have htake : sizeOk (.seq #[u2, u1]) := by show 2 ≤ sizeLine; decide
  first
    | exact wpAny_bind (m := Builtin.Tuple.tupleExact _) (wpAny_newObj_type (wpAny_pure ⟨_, rfl, wpAny_pure h⟩) htake)
    | exact wpAny_bind (m := Builtin.Tuple.tupleExact _) (wpAny_newObj_type (wpAny_bind (wpAny_pure (wpAny_pure ⟨_, rfl, wpAny_pure h⟩))) htake)
    | exact wpAny_bind (wpAny_bind (m := Builtin.Tuple.tupleExact _) (wpAny_newObj_type (wpAny_pure (wpAny_pure ⟨_, rfl, wpAny_pure h⟩)) htake))
    | exact wpAny_bind (wpAny_bind (m := Builtin.Tuple.tupleExact _) (wpAny_newObj_type (wpAny_pure ⟨_, rfl, wpAny_pure h⟩) htake))
def tRevT2 (K : PySem.W.Frag) (te : TE) : TE := fun σ H Q => te σ H fun x H1 => ∃ a x1 x2, x = .ref a ∧ SqT K H1 a [x1, x2] ∧ ∀ p, H1 p = none → Q (.ref p) (upd H1 p (.tup [x2, x1]))
theorem pe_revT2 {X : Cx} {e : Expr} {te : TE} {k : Nat} {p1 p2 p3 pos : Pos} (he : PE X e te) : PE X (.Subscript e (.Slice none none (some (.UnaryOp .USub (.Constant (.int 1) k p1) p2)) p3) pos) (tRevT2 X.K te) := by
  refine ⟨fun pins s σ H Q I h => ?_⟩
  refine Subscript_ (thn (he.run pins s σ H _ I h) fun v s1 ⟨x, H1, I1, r1, q1⟩ => ?_)
  obtain ⟨a, x1, x2, ex, hx, q⟩ := q1
  subst ex
  cases r1
  have hst : PO X (some (.UnaryOp .USub (.Constant (.int 1) k p1) p2)) (tPart (tUn (rU fun i => .int (-i)) (tC (.int 1)))) := po_some (pe_un un_neg pe_int)
  refine wpAny_Slice (thn (po_none.run pins s1 σ H1 (fun o H2 => o = none ∧ H2 = H1) I1 ⟨rfl, rfl⟩) fun vl s2 ⟨l, H2, I2, pl, el, e2⟩ => ?_)
  subst el e2
  refine thn (po_none.run pins s2 σ H2 (fun o H3 => o = none ∧ H3 = H2) I2 ⟨rfl, rfl⟩) fun vu s3 ⟨u, H3, I3, pu, eu, e3⟩ => ?_
  subst eu e3
  refine thn (hst.run pins s3 σ H3 (fun o H4 => o = some (-1) ∧ H4 = H3) I3 ⟨1, rfl, -1, rfl, rfl, rfl⟩) fun vs s4 ⟨o, H4, I4, ps, eo, e4⟩ => ?_
  subst eo e4
  have I5 : Inv X pins σ H4 { s4 with heap := s4.heap.push { cls := .type "slice", data := .fields #[vl, vu, vs] } } := I4.kept (t' := s4.toks) fun b ob q => Heap.get?_push_of_some _ q
  obtain ⟨its, r, ht, hz⟩ := I5.tuple hx
  obtain ⟨w1, w2, rfl, rw1, rw2⟩ := vals2 r
  show wpAny (model X.prog X.w) X.A (subscriptTail e (.Slice none none (some (.UnaryOp .USub (.Constant (.int 1) k p1) p2)) p3) (.ref a) (.ref s4.heap.objs.size)) (EP X pins σ Q) X.xe { s4 with heap := s4.heap.push { cls := .type "slice", data := .fields #[vl, vu, vs] } }
  refine tail_any (ops := [.ref a, .ref s4.heap.objs.size]) ht.typeIs (PyProof.Rows.slot_tuple_getitem.lookup) ?_ (by with_unfolding_all rfl)
  refine getItem_tuple_rev2 ht (Heap.IsSliceOf.new _ vl vu vs) pl pu ps ?_
  refine ⟨.ref _, _, I5.laid (t' := s4.toks) (o := .tup [x2, x1]) (fun b ob q => Heap.get?_push_of_some _ q) (Nat.le_refl _) ?_, rfl, q _ (I5.hok.fresh (Nat.le_refl _))⟩
  exact ⟨by show 2 ≤ sizeLine; decide, [w2, w1], .cons rw2 (.cons rw1 .nil), IsTup.new _ _⟩
end Og

namespace Og
open PySem
theorem meets_enum1 {v : Value} {o : Obj} {H : Heap → Prop} (B : Begins v o H) :
    Meets (Builtin.«enumerate.__new__» ⟨[.type "enumerate", v], []⟩) (fun _ R s => H s.heap ∧
      R (.ok (.ret (.ref (s.heap.push o).objs.size))) { s with heap := (s.heap.push o).push { cls := .type "enumerate", data := .fields #[.none, .bool false, .ref s.heap.objs.size, rawInt 0, .none, .none] } }) :=
  .of_wp fun prog w A R s h => by
    obtain ⟨hp, g, d, tk, os⟩ := s; obtain ⟨h1, h⟩ := h
    have hsub := sub_enumerate
    have q1 : ∀ {A' : Around} {E : Value → Shared → Prop} {Q : Value → Shared → Prop}, Q (.ref hp.objs.size) ⟨hp.push o, g, d, tk, os⟩ → wpAny (model prog w) A' (pyIter v) Q E ⟨hp, g, d, tk, os⟩ :=
      fun q => B.iter prog w _ _ ⟨hp, g, d, tk, os⟩ _ h1 q
    wp_walk using q1
    refine wpAny_stack_any fun st => wpAny_pure ?_
    split
    · rename_i c _ _ _ _ _
      cases (c == Value.type "enumerate")
      · wp_walk using q1
        exact ⟨_, rfl, h⟩
      · wp_walk using q1
        exact ⟨_, rfl, h⟩
    · wp_walk using q1
      exact ⟨_, rfl, h⟩
section
variable {prog : Program} {w : World} {A : Around} {E : Value → Shared → Prop} {s : Shared}
theorem call_enum1 {v : Value} {o : Obj} {H : Heap → Prop} {Q : Value → Shared → Prop} (B : Begins v o H) (h1 : H s.heap)
    (h : ∀ h', IsEnum h' (s.heap.objs.size + 1) s.heap.objs.size 0 .none → h'.get? s.heap.objs.size = some o → h'.objs.size = s.heap.objs.size + 2 →
      (∀ b o, s.heap.get? b = some o → h'.get? b = some o) → Q (.ref (s.heap.objs.size + 1)) { s with heap := h' }) :
    wpAny (model prog w) A (call (.type "enumerate") [v]) Q E s := by
  refine callType_new F.called_enumerate (by decide) (F.typeCall_enumerate_1 _) (F.newCall_enumerate_1 _) (fun obj => F.args_object_init_2 obj _) F.entry_enumerate_new
    (meets_enum1 B) ⟨h1, ?_⟩
  have hz : (s.heap.push o).objs.size = s.heap.objs.size + 1 := Heap.size_push ..
  show _ ∧ _
  rw [hz]
  have he : IsEnum ((s.heap.push o).push { cls := .type "enumerate", data := .fields #[.none, .bool false, .ref s.heap.objs.size, rawInt 0, .none, .none] }) (s.heap.objs.size + 1) s.heap.objs.size 0 .none := by
    have := Heap.get?_push_size (s.heap.push o) (o := { cls := .type "enumerate", data := .fields #[.none, .bool false, .ref s.heap.objs.size, rawInt 0, .none, .none] }) rfl
    rw [hz] at this; exact this
  refine ⟨⟨_, he, rfl⟩, h _ he (Heap.get?_push_of_some _ (Heap.get?_push_size _ B.free)) (by rw [Heap.size_push, hz]) fun b o x => Heap.get?_push_of_some _ (Heap.get?_push_of_some _ x)⟩
end
end Og
namespace Og
open PySem PySem.Spec PyProof.Rows L2
/-- the tuple at a as it stands at each turn, each item in a new pair -/
def IteT (K : PySem.W.Frag) (a : Addr) : It :=
  ⟨fun i H => ∃ (xs : List V) (x : V), SqT K H a xs ∧ xs[i]? = some x, fun i H v H' => ∃ T x, v = .ref T ∧ H T = none ∧ H' = upd H T (.tup [.int (i : Nat), x]) ∧ ∀ xs, SqT K H a xs → xs[i]? = some x, fun i H => ∃ xs : List V, SqT K H a xs ∧ xs.length = i⟩
theorem turn_enumT {P : Program} {w : World} {K : PySem.W.Frag} {elts : List Expr} {kk : Nat} {tpos : Pos} (a e it : Addr) :
    Turn P w K (.Tuple elts kk tpos) (IteT K a) [e, it] e (fun i h => (∃ old, IsEnum h e it ((i : Nat) : Int) old) ∧ h.IsTupleIter it a i ∧ e ≠ it ∧ a ≠ it ∧ a ≠ e) where
  mem := by simp
  obj := fun i h st b hb => by
    obtain ⟨⟨old, he⟩, ⟨o, ho, hc, hd⟩, _⟩ := st
    have e' : b = e ∨ b = it := by simpa using hb
    rcases e' with z | z
    · rw [z]; exact ⟨_, he, fun v q => nomatch q⟩
    · rw [z]; exact ⟨o, ho, fun v q => by rw [hd] at q; cases q⟩
  keep := fun i h h' st k => let ⟨⟨old, he⟩, hi, hne⟩ := st; ⟨⟨old, k e (by simp) _ he⟩, hi.at fun o q => k it (by simp) o q, hne⟩
  item := by
    intro X hP hw hK hc i pins s σ H E I hf st hg
    subst hP hw hK
    obtain ⟨⟨old, he⟩, hit, hne, hai, hae⟩ := st
    obtain ⟨xs, x, hq, hx⟩ := hg
    obtain ⟨its, rv, p, hz⟩ := I.tuple hq
    obtain ⟨u, hu, ru⟩ := rv.get hx
    have hel : e < s.heap.objs.size := Heap.lt_size he
    have hil : it < s.heap.objs.size := by obtain ⟨_, q, _⟩ := hit; exact Heap.lt_size q
    have hlt : i < its.toArray.size := by
      have := (List.getElem?_eq_some_iff.mp hu).1
      simpa using this
    refine wpAny_pyNext_enum_itemC (Draws.tuple (A := X.A.in1) (show X.A.in1.handled = none from I.ok.hd hc) it a hai its.toArray) he ⟨hit, p⟩ hlt hne (by simp [hne, hae.symm]) fun y h' tk hy ho hit' hT hsz hk => ?_
    have hy' : y = u := by
      have : its.toArray[i]? = some u := by simpa using hu
      rw [this] at hy
      exact (Option.some.inj hy).symm
    subst hy'
    refine ⟨_, rfl, wpAny_letOwnedTupleGo_enum (s := { s with heap := h', toks := tk + 1 }) ho fun h'' he' sb => ?_⟩
    have hT2 : h''.get? s.heap.objs.size = some { cls := .type "tuple", data := .seq #[.int i tk, y] } := (sb.2 _ (Nat.ne_of_gt hel)).trans hT
    have new : ObjOk X.prog X.w (upd H s.heap.objs.size (.tup [.int (i : Nat), x])) h'' s.heap.objs.size (.tup [.int (i : Nat), x]) :=
      ⟨by show 2 ≤ sizeLine; decide, [.int i tk, y], .cons ⟨_, rfl⟩ (.cons ru .nil), ⟨_, hT2, rfl, _, rfl⟩⟩
    have I1 : Inv X pins σ (upd H s.heap.objs.size (.tup [.int (i : Nat), x])) { s with heap := h'', toks := tk + 1 } :=
      I.turnedNew (ch := [e, it]) (fun b ob hb q => (sb.2 b (fun z => hb (by simp [z]))).trans (hk b ob (fun z => hb (by simp [z])) (fun z => hb (by simp [z])) q)) hf (Nat.le_refl _) new
    refine ⟨.ref s.heap.objs.size, _, I1, rfl, ⟨_, x, rfl, I.hok.fresh (Nat.le_refl _), rfl, fun ys hy => by rw [I.tuple_inj hy hq]; exact hx⟩, ⟨⟨y, ?_⟩, hit'.1.at fun o q => (sb.2 it (Ne.symm hne)).trans q, hne, hai, hae⟩, fun b hb => ?_⟩
    · have e1 : ((i + 1 : Nat) : Int) = (i : Int) + 1 := by omega
      rw [e1]; exact he'
    · have hb' : b < s.heap.objs.size := by
        have e' : b = e ∨ b = it := by simpa using hb
        rcases e' with z | z
        · rw [z]; exact hel
        · rw [z]; exact hil
      rw [upd_ne (Nat.ne_of_lt hb')]
      exact (hf b hb).1
  done := by
    intro X hP hw hK hc i pins s σ H E I hf st hg
    subst hP hw hK
    obtain ⟨⟨old, he⟩, hit, hne, hai, hae⟩ := st
    obtain ⟨xs, hq, hx⟩ := hg
    obtain ⟨its, rv, p, hz⟩ := I.tuple hq
    obtain ⟨f0, f1, f2, f3, f4, f5⟩ := hf it (by simp)
    have hl := rv.length
    have hi : i = its.toArray.size := by simp; omega
    rw [hi] at hit
    exact wpAny_pyNext_enum_endD (Draws.tuple (A := X.A.in1) (show X.A.in1.handled = none from I.ok.hd hc) it a hai its.toArray) he ⟨hit, p⟩ fun h' eb => ⟨rfl, I.turned (t' := s.toks) (fun b o hb q => eb b o hb q) f0 f1 f3 f4 f5⟩
  self := fun A i s Q E st h => let ⟨⟨_, he⟩, _⟩ := st; wpAny_pyIter_enum he h
def iEnumT (K : PySem.W.Frag) (ta : TA) : TI := fun σ H R => ta σ H fun vs H1 => ∃ a xs, vs = [.ref a] ∧ SqT K H1 a xs ∧ R (IteT K a) H1
theorem pi_enumT {X : Cx} {e : Expr} {ta : TA} {p pos tpos : Pos} {elts : List Expr} {kk : Nat} (hg : Gl X "enumerate") (hm : X.mg "enumerate" = none) (ha : PA X [e] ta) (hs : starEach [e] X.env = [(false, eval e X.env)] := by rfl) :
    PI X (.Tuple elts kk tpos) (.Call (.Name "enumerate" p) [e] [] pos) (iEnumT X.K ta) := by
  refine ⟨fun pins s σ H R I h => ?_⟩
  refine Call_ (ld_blt I hg hm boot_enumerate (PyProof.Rows.callWith_type1 (thn (ha.run pos pins s σ H _ I h) fun us s1 ⟨vs, H1, I1, r1, q1⟩ => ?_) hs rfl))
  obtain ⟨a, xs, ex, hq, q⟩ := q1
  subst ex
  cases r1 with
  | cons r rr =>
    cases rr
    cases r
    obtain ⟨its, rv, p', hz⟩ := I1.tuple hq
    obtain ⟨oa, hoa, _⟩ := id p'
    have hal := Heap.lt_size hoa
    refine call_enum1 (begins_tuple a its.toArray) p' fun h' he hit hsz hk => wpAny_pyIter_enum he ?_
    have I2 : Inv X pins σ H1 { s1 with heap := h' } := I1.kept (t' := s1.toks) hk
    refine ⟨s1.heap.objs.size + 1, [s1.heap.objs.size + 1, s1.heap.objs.size], _, _, H1, rfl, I2, turn_enumT a (s1.heap.objs.size + 1) s1.heap.objs.size, ⟨⟨.none, he⟩, ⟨_, hit, rfl, rfl⟩, Nat.succ_ne_self _, Nat.ne_of_lt hal, Nat.ne_of_lt (Nat.lt_succ_of_lt hal)⟩, fun b hb => ?_, q⟩
    have e' : b = s1.heap.objs.size + 1 ∨ b = s1.heap.objs.size := by simpa using hb
    have hle : s1.heap.objs.size ≤ b := by
      rcases e' with z | z
      · rw [z]; exact Nat.le_add_right _ _
      · rw [z]; exact Nat.le_refl _
    exact I1.fpOk hle (I1.hok.fresh hle)
/-- a loop over enumerate of a tuple -/
theorem for_enumT {K : PySem.W.Frag} {a : Addr} {xs : List V} {g : TG} {tb : TS} {D : Ends} {σ : L2.St} {H : Hp} (Pv : Nat → L2.St → Hp → Prop) (h0 : Pv 0 σ H) (hq : ∀ i σ H, Pv i σ H → SqT K H a xs)
    (hs : ∀ (i : Nat) (x : V) (T : Addr) (σ : L2.St) (H : Hp), xs[i]? = some x → Pv i σ H → H T = none → g (.ref T) σ (upd H T (.tup [.int (i : Nat), x])) fun σ2 H2 => tb { D with nx := Pv (i + 1), ct := Pv (i + 1), bk := D.nx } σ2 H2) (hd : ∀ σ H, Pv xs.length σ H → D.nx σ H) :
    ∃ W : Nat → Nat → L2.St → Hp → Prop, (∃ m, W 0 m σ H) ∧ ∀ i m σ H, W i m σ H →
      ((IteT K a).stop i H ∧ D.nx σ H) ∨ ((IteT K a).go i H ∧ ∃ N : L2.St → Hp → Prop, (∀ σ' H', N σ' H' → ∃ m', m' < m ∧ W (i + 1) m' σ' H') ∧ ∀ v H', (IteT K a).yld i H v H' → g v σ H' fun σ2 H2 => tb { D with nx := N, ct := N, bk := D.nx } σ2 H2) := by
  refine ⟨fun i m σ H => m = xs.length - i ∧ i ≤ xs.length ∧ Pv i σ H, ⟨xs.length, rfl, Nat.zero_le _, h0⟩, ?_⟩
  rintro i m σ H ⟨rfl, hi, p⟩
  have qx := hq i σ H p
  by_cases hlt : i < xs.length
  · have hx : xs[i]? = some xs[i] := List.getElem?_eq_getElem hlt
    refine .inr ⟨⟨xs, _, qx, hx⟩, Pv (i + 1), fun σ' H' p' => ⟨xs.length - (i + 1), by omega, rfl, hlt, p'⟩, fun v H' y => ?_⟩
    obtain ⟨T, x', rfl, hT, rfl, f1⟩ := y
    exact hs i x' T σ H (f1 xs qx) p hT
  · have e : i = xs.length := by omega
    subst e
    exact .inl ⟨⟨xs, qx, rfl⟩, hd σ H p⟩
end Og

namespace Og
open PySem PySem.Spec PyProof.Rows L2
section
variable {X : Cx} {G : Addr} {e : Expr} {es : List Expr} {ta : TA} {x : Str} {p1 p2 pos : Pos}
/-- C.__init__(self, ..) of an own class C over ValueError that has no __init__ itself -/
theorem pe_clsinit {pl : Sem Bool} (hg : Gl X x) (hm : X.mg x = some (.ref G)) (rd : PySem.W.readsIn X.K G (.type "type") = true) (sg : PySem.W.specialIn X.K (.ref G) "__getattribute__" = some (some (.builtin "type.__getattribute__")))
    (vV : PySem.W.findCls X.K (.ref G) (.type "type") "__init__" = some (.val (.builtin "ValueError.__init__"))) (ha : PA X (e :: es) ta) (hdb : (x == ("__debug__" : Str)) = false := by decide)
    (hc : eval (.Call (.Attribute (.Name x p1) "__init__" p2) (e :: es) [] pos) X.env = (do
      let ob ← eval (.Name x p1) X.env
      standAt p2.atName
      let (fn, fst) ← holding [ob] (getMethod ob "__init__" pl)
      callWith pos fn fst (backTo pos (starEach (e :: es) X.env)) (backToKw pos (keywordEach [] X.env))) := by rfl)
    (hpl : (backTo pos (starEach es X.env)).any (·.1) = false := by rfl)
    (he : starEach (e :: es) X.env = (false, eval e X.env) :: starEach es X.env := by rfl) : PE X (.Call (.Attribute (.Name x p1) "__init__" p2) (e :: es) [] pos) (tVeI X.K ta) := by
  constructor
  intro pins s σ H Q I hQ
  refine PySem.W.methodCall_KW (ld_glob I hg hm ?_ hdb) hc
  refine PySem.W.method_cls I.kIn sg (PySem.W.cls_value I.kIn rd vV (by decide +kernel) ?_)
  refine PyProof.Rows.callWith_method1 (id := "ValueError.__init__") (thn (ha.run pos pins _ σ H _ (I.tok _) hQ) fun us s1 q => ?_) he hpl
  obtain ⟨vs, H1, I1, r1, a, C, ws, rfl, hl, T, ea, q⟩ := q
  cases r1 with
  | cons ra rw' =>
    cases ra
    have few := Paired.length rw'
    exact oinit_ok T I1 ea (by rw [← few, sizeLine_eq]; omega) fun s' J => ⟨.non, H1, J, rfl, q⟩
end
/-! ### callees that may raise -/
def HasX (P : Program) (w : World) (K : PySem.W.Frag) (mg : Str → Option Value) (base : Heap) (k : Nat) (x : Str) (ps : List Str) (sp : Sp) : Prop := ∃ f fd, Callee P w K mg base (L2.CX P w) k x f fd ps sp
theorem HasX.mono {P : Program} {w : World} {K : PySem.W.Frag} {mg : Str → Option Value} {base : Heap} {j k : Nat} {x : Str} {ps : List Str} {sp : Sp} (h : HasX P w K mg base j x ps sp) (l : j ≤ k) : HasX P w K mg base k x ps sp := by
  obtain ⟨f, fd, c⟩ := h
  exact ⟨f, fd, c.ok.mono l, c.mg, c.kp, c.bi⟩
section
variable {X : Cx} {CX : CXT} {E : XK} {k : Nat} {x : Str} {f : Addr} {fd : FuncData} {ps : List Str} {sp : Sp} {p pos : Pos} {e : Expr} {es : List Expr} {t : TA}
theorem calX (C : Callee X.prog X.w X.K X.mg X.base CX k x f fd ps sp) (hr : Room k X.A) (hg : Gl X x) (hx : Passes CX X E) (ha : PA X (e :: es) t) (hdb : (x == ("__debug__" : Str)) = false := by decide)
    (he : starEach (e :: es) X.env = (false, eval e X.env) :: starEach es X.env := by rfl) (hpl : (backTo pos (starEach es X.env)).any (·.1) = false := by rfl) : PE X (.Call (.Name x p) (e :: es) [] pos) (tCall sp [] E t) :=
  pe_call C.ok hr hg C.mg C.kp C.bi .nil hx ha hdb he hpl
end
/-- what a raise C(i) leaves: the error's own dict -/
theorem keep_raised {S : List Addr} {H : Hp} {a dx C : Addr} {f : Str} {i : Int} (na : H a = none) (nd : (upd H a (exo a C none)) dx = none) (ne : dx ≠ a) :
    Keep S H (upd (del (upd (upd (upd H a (exo a C none)) dx (exd dx [(f, .int i)])) a (exo a C (some dx))) a) dx (.xd [(f, .int i)])) := fun b o e => by
  have nd0 : H dx = none := by rw [upd_ne ne] at nd; exact nd
  have ba : b ≠ a := ne_of_none e na
  have bd : b ≠ dx := ne_of_none e nd0
  exact .inl (by rw [upd_ne bd, del_ne ba, upd_ne ba, upd_ne bd, upd_ne ba]; exact e)
/-! ### an own error class C (under GlassError, at G) with a number at one field -/
structure ErrT (K : PySem.W.Frag) (mg : Str → Option Value) (x qual field : Str) (st : Stmt) (C G fI : Addr) (fd : FuncData) : Prop where
  gC : mg x = some (.ref C)
  gG : mg "GlassError" = some (.ref G)
  ox : OexC K C
  iC : PySem.W.findIn K (.ref C) "__init__" = some (some (.ref fI))
  tI : PySem.W.typeIn K (.ref fI) = some (.type "function")
  no : PySem.W.findIn K (.ref C) field = some none
  rd : PySem.W.readsIn K G (.type "type") = true
  sg : PySem.W.specialIn K (.ref G) "__getattribute__" = some (some (.builtin "type.__getattribute__"))
  vV : PySem.W.findCls K (.ref G) (.type "type") "__init__" = some (.val (.builtin "ValueError.__init__"))
  fn : Fun K "__init__" qual st fI fd
  bi : Binds K fd ["self", field] []
structure ErrH (K : PySem.W.Frag) (C G : Addr) : Prop where
  ga : PySem.W.findIn K (.ref C) "__getattribute__" = some (some (.builtin "BaseException.__getattribute__"))
  gg : PySem.W.findIn K (.ref C) "__getattr__" = some none
  hd : PySem.W.hasDictIn K C = true
  ic : PySem.W.isClsIn K C = true
  se : PySem.W.subIn K (.ref C) (.ref C) = some true
  ck : PySem.W.findIn K (.ref C) "__class__" = some (some (.builtin "object.__class__"))
  kG : PySem.W.kitOne K (.ref C) (.ref G) = some true
  kV : PySem.W.kitOne K (.ref C) (.type "ValueError") = some true
  cg : PySem.W.specialIn K (.builtin "object.__class__") "__get__" = some (some (.builtin "getset_descriptor.__get__"))
  ct : PySem.W.takesIn K (.builtin "object.__class__") = some true
  cm : PySem.W.mroIn K C (.type "object") = some true
structure ErrAll (K : PySem.W.Frag) (mg : Str → Option Value) (x qual field : Str) (st : Stmt) : Prop where
  ex : ∃ C G fI fd, ErrT K mg x qual field st C G fI fd ∧ ErrH K C G
/-- an error of the one class is none of the other -/
structure ErrNot (K : PySem.W.Frag) (mg : Str → Option Value) (x y : Str) : Prop where
  no : ∀ a b : Addr, mg x = some (.ref a) → mg y = some (.ref b) → PySem.W.kitOne K (.ref a) (.ref b) = some false
/-- what the __init__ of such a class promises -/
def spErr (K : PySem.W.Frag) (field : Str) : Sp := fun vs H Q _ => ∃ (a C : Addr) (i : Int), vs = [.ref a, .int i] ∧ OexC K C ∧ PySem.W.findIn K (.ref C) field = some none ∧ i.natAbs < 10 ^ 9 ∧ H a = some (exo a C none) ∧
  ∀ dx : Addr, H dx = none → dx ≠ a → Q .non (upd (upd H dx (exd dx [(field, .int i)])) a (exo a C (some dx)))
end Og

namespace Og
open PySem PySem.W PySem.Calls PyProof.Rows
section
variable {prog : Program} {w : World} {A : Around} {E : Value → Shared → Prop} {s : Shared} {K : Frag} {x D : Addr} {ox : Obj} {od : Obj}
/-- e.__class__ of an error with a dict of its own -/
theorem exc_class {Q : Option Value → Shared → Prop} (g1 : findIn K (.ref D) "__getattribute__" = some (some (.builtin "BaseException.__getattribute__"))) (g2 : findIn K (.ref D) "__getattr__" = some none)
    (g3 : subIn K (.ref D) (.type "BaseException") = some true) (g4 : (clsIn K D).isSome = true) (g5 : findIn K (.ref D) "__class__" = some (some (.builtin "object.__class__")))
    (g6 : specialIn K (.builtin "object.__class__") "__get__" = some (some (.builtin "getset_descriptor.__get__"))) (g7 : takesIn K (.builtin "object.__class__") = some true) (g8 : mroIn K D (.type "object") = some true)
    (X : K.In s.heap) (I : InstAt s.heap x ox D (some od)) (fin : Q (some (.ref D)) { s with toks := s.toks + 1 }) : wpAny (model prog w) A (getAttr? (.ref x) "__class__") Q E s := by
  have found : findObj K D (some od) "__class__" = some (.bind (.builtin "getset_descriptor.__get__") (.builtin "object.__class__")) := findObj_data g4 g5 g6 g7
  obtain ⟨hp, ge, dr, tk, os⟩ := s
  have ty := I.type (M := model prog w)
  have la := looks_findIn (M := model prog w) X g1
  have lb := looks_findIn (M := model prog w) X g2
  have lc := looks_find (M := model prog w) X I found
  have isB : Looks (model prog w) hp (isInstance (.ref x) (.type "BaseException")) true := ty.andThen (looks_subIn X g3)
  have ne : (Value.builtin "BaseException.__getattribute__" == Value.builtin "object.__getattribute__") = false := by decide +kernel
  unfold getAttr? getAttrBy? getAttrBy
  refine wpAny_bind (wpAny_mkText (wpAny_bind (wpAny_attempt (wpAny_holding (wpAny_bind (ty.at (wpAny_bind (la.at ?_))))))))
  dsimp only
  rw [ne, Bool.and_false, if_neg Bool.false_ne_true]
  unfold getAttrByItsOwn hookBefore
  refine wpAny_bind ?_
  rw [if_pos (show onTheHeap (Value.ref D) = true from rfl)]
  refine lb.at ?_
  refine wpAny_bind (wpAny_attempt (wpAny_holding ?_))
  unfold callGetattribute
  rw [Bool.false_and, if_neg Bool.false_ne_true]
  unfold boundAndCalled
  rw [PySem.F.excAttr_ValueError.ga.bind (.ref x)]
  refine wpAny_bind (wpAny_pure ?_)
  refine wpAny_call (codeAny_call_builtin PySem.F.excAttr_ValueError.ga.plain PySem.F.entry_bexc_ga ?_)
  refine @check_slot (model prog w) _ _ ⟨hp, ge, dr, tk + 1, os⟩ "BaseException.__getattribute__" "BaseException" "__getattribute__" (.ref x) [.str "__class__" tk] [] _ (by decide +kernel) (by decide +kernel) isB (PySem.F.args_bexc_ga (.ref x) (.str "__class__" tk)) ?_
  unfold Builtin.«object.__getattribute__»
  refine wpAny_bind (wpAny_of_eq (a := ((Value.ref x : Value), [Value.str "__class__" tk])) (by first | rfl | (simp only [slotArgs]; rfl)) ?_)
  refine wpAny_bind (wpAny_pure (wpAny_bind (ty.at (wpAny_bind (lc.at ?_)))))
  refine wpAny_bind (wpAny_holding (wpAny_call (class_get (s := ⟨hp, ge, dr, tk + 1, os⟩) (ox := ox) (od := some od) X I g8 ?_)))
  refine wpAny_pure ?_
  show wpAny _ _ (handedOut (.ref D)) _ _ _
  rw [handedOut_of (v := .ref D) rfl]
  first
    | exact wpAny_pure (wpAny_pure fin)
    | exact wpAny_pure fin
    | exact wpAny_pure (wpAny_bind (wpAny_pure (wpAny_pure fin)))
theorem exc_kit (g1 : findIn K (.ref D) "__getattribute__" = some (some (.builtin "BaseException.__getattribute__"))) (g2 : findIn K (.ref D) "__getattr__" = some none)
    (g3 : subIn K (.ref D) (.type "BaseException") = some true) (g4 : hasDictIn K D = true) (g5 : findIn K (.ref D) "__class__" = some (some (.builtin "object.__class__")))
    (g6 : specialIn K (.builtin "object.__class__") "__get__" = some (some (.builtin "getset_descriptor.__get__"))) (g7 : takesIn K (.builtin "object.__class__") = some true) (g8 : mroIn K D (.type "object") = some true) :
    KitX K (.ref x) (.ref D) (fun h => InstAt h x ox D (some od)) where
  ty := fun _ _ _ I => I.type
  it := fun _ _ X _ => by
    obtain ⟨cd, hc, _⟩ := any_some g4
    unfold clsIn at hc
    split at hc
    · rename_i ho
      intro A' Q' E' s' k q
      unfold isType loadHead
      exact wpAny_bind (wpAny_loadPart (k _ _ (X _ _ ho)) (wpAny_pure q))
    · cases hc
  ne := fun h tp dd its n sl X htp => by
    obtain ⟨cd, hc, _⟩ := any_some g4
    refine Bool.eq_false_iff.mpr fun q => ?_
    have e : D = tp := Value.ref.inj (beq_iff_eq.mp q)
    subst e
    unfold clsIn at hc
    split at hc
    · rename_i ho
      exact nomatch (X _ _ ho).symm.trans htp
    · cases hc
  ca := fun X I k => exc_class g1 g2 g3 (by obtain ⟨cd, hc, _⟩ := any_some g4; rw [hc]; rfl) g5 g6 g7 g8 X I k
end
end Og
namespace Og
open PySem PySem.Spec PyProof.Rows L2
/-- what a suite's reading takes as given -/
theorem pss_ex {α : Type} {X : Cx} {sts : List Stmt} {t : α → TS} (h : ∀ x, PSs X sts (t x)) : PSs X sts (fun D σ H => ∃ x, t x D σ H) := ⟨fun pins s σ H D I q => by
  obtain ⟨x, q⟩ := q
  exact (h x).run pins s σ H D I q⟩
theorem pss_when {C : Prop} {X : Cx} {sts : List Stmt} {t : TS} (h : C → PSs X sts t) : PSs X sts (fun D σ H => C ∧ t D σ H) := ⟨fun pins s σ H D I q => (h q.1).run pins s σ H D I q.2⟩
/-- isinstance(e, c) of the error e that a suite holds, which has a dict of its own -/
def rIsD (K : PySem.W.Frag) (D a dd : Addr) : List V → Hp → VK → Prop := fun xs H Q => ∃ (c : V) (cv : Value) (b : Bool) (fs : List (Str × V)), xs = [.ref a, c] ∧ ClsV c cv ∧ H dd = some (.xd fs) ∧ PySem.W.kitOne K (.ref D) cv = some b ∧ Q (.bl b) H
theorem call_isD {X : Cx} {a D dd : Addr} {oe : Obj} {pn : List (Addr × Obj)} (C : ExcC X.K D) (hz : Zc (.ref D) (some dd) oe) (hf : ∃ vs, oe.data = .fields vs) : CallR (X.suite a ((a, oe) :: pn)) (.builtin "isinstance") (rIsD X.K D a dd) := by
  intro pins s σ H xs us Q I r h
  obtain ⟨c, cv, b, fs, rfl, hcv, ed, e, q⟩ := h
  obtain ⟨u1, u2, rfl, r1, r2⟩ := vals2 r
  have ec := hcv.eq r2
  subst ec
  obtain rfl : u1 = Value.ref a := r1
  obtain ⟨hget, _⟩ := I.pin (a, oe) (List.mem_append.mpr (.inl List.mem_cons_self))
  obtain ⟨vs, hv⟩ := hf
  have hx : ObjOk X.prog X.w H s.heap dd (.xd fs) := I.hok dd _ ed
  obtain ⟨mA, hns, _⟩ := hx
  obtain ⟨odd, ho, _⟩ := lookIn_ns hns
  have J : PySem.W.InstAt s.heap a oe D (some odd) := ⟨hget, hz.1, by unfold PySem.W.notCls; rw [hv], by rw [hz.2]; exact ho⟩
  exact PySem.W.kia_one (exc_kit C.hg C.hk C.hs C.hd C.ha C.hn C.ht C.hm) I.kIn J e (fun z => nomatch z) fun tk => ⟨.bl b, H, I.kept (t' := tk) fun _ _ z => z, rfl, q⟩
end Og

namespace Og
open PySem PySem.Spec PyProof.Rows L2
/-- an error of the class cls with the dict d, held as a value at a -/
def ErV (cls : Value) (d : Option Addr) (a : Addr) : HO := .ext fun h => ∃ (oe : Obj) (vs : Array Value), h.get? a = some oe ∧ Zc cls d oe ∧ oe.data = .fields vs
/-- isinstance(e, c) of such an error -/
def rIsV (K : PySem.W.Frag) : List V → Hp → VK → Prop := fun xs H Q => ∃ (a C dd : Addr) (c : V) (cv : Value) (b : Bool) (fs : List (Str × V)), xs = [.ref a, c] ∧ ClsV c cv ∧ ExcC K C ∧ H a = some (ErV (.ref C) (some dd) a) ∧ H dd = some (.xd fs) ∧ PySem.W.kitOne K (.ref C) cv = some b ∧ Q (.bl b) H
/-- e.f of such an error -/
def tXv (K : PySem.W.Frag) (f : Str) (te : TE) : TE := fun σ H Q => te σ H fun x H1 => ∃ (a C dd : Addr) (fs : List (Str × V)) (v : V), x = .ref a ∧ XfC K C ∧ PySem.W.findIn K (.ref C) f = some none ∧ H1 a = some (ErV (.ref C) (some dd) a) ∧ H1 dd = some (.xd fs) ∧ fs.lookup f = some v ∧ Q v H1
section
variable {X : Cx} {e : Expr} {te : TE} {p pos : Pos}
/-- what makes an error to raise it makes it as a value as well -/
theorem pe_made {t : L2.St → Hp → XK → Prop} (h : PMk X e t) : PE X e (fun σ H Q => t σ H fun cls d H1 => ∀ a : Addr, H1 a = none → Q (.ref a) (upd H1 a (ErV cls d a))) := by
  constructor
  intro pins s0 σ H Q I q
  refine wpAny_mono (h pins s0 σ H _ I q) (fun u s1 hu => ?_) fun _ _ no => no
  obtain ⟨a, oe, vs, sI, H', cls, d, rfl, J, grows, fresh, there, zc, dt, _, na, os, bare, _, q1⟩ := hu
  have new : ObjOk X.prog X.w (upd H' a (ErV cls d a)) s1.heap a (ErV cls d a) := ⟨⟨oe, vs, there, zc, dt⟩, ⟨oe, there⟩, fun _ _ ⟨o, w, y, r⟩ k => ⟨o, w, k o y, r⟩⟩
  exact ⟨.ref a, _, J.call' (ch := []) os (Un.laidN grows fresh na) (J.hok.laidN grows na new) bare (fun b z => absurd z (by simp)), rfl, q1 a na⟩
/-- the error and its dict, in the model's heap -/
theorem erv_at {H : Hp} {s1 : Shared} {a C dd : Addr} {fs : List (Str × V)} (hok : HOk X.prog X.w H s1.heap) (ea : H a = some (ErV (.ref C) (some dd) a)) (ed : H dd = some (.xd fs)) :
    ∃ (oe odd : Obj) (mA : Str → Option Value), PySem.W.InstAt s1.heap a oe C (some odd) ∧ (∀ f, RelO (fs.lookup f) (mA f)) ∧ ∀ f, PySem.W.lookIn f odd = some (mA f) := by
  have xa : ObjOk X.prog X.w H s1.heap a (.ext fun h => ∃ (oe : Obj) (vs : Array Value), h.get? a = some oe ∧ Zc (.ref C) (some dd) oe ∧ oe.data = .fields vs) := hok a _ ea
  have xd : ObjOk X.prog X.w H s1.heap dd (.xd fs) := hok dd _ ed
  obtain ⟨oe, vs, there, zc, dt⟩ := xa.1
  obtain ⟨mA, hns, rel⟩ := xd
  obtain ⟨odd, hd, look⟩ := lookIn_ns hns
  exact ⟨oe, odd, mA, ⟨there, zc.1, by unfold PySem.W.notCls; rw [dt], by rw [zc.2]; exact hd⟩, rel, look⟩
theorem call_isV : CallR X (.builtin "isinstance") (rIsV X.K) := by
  intro pins s1 σ H xs us Q I r h
  obtain ⟨a, C, dd, c, cv, b, fs, rfl, hcv, ec, ea, ed, z, q⟩ := h
  obtain ⟨u1, u2, rfl, v1, v2⟩ := vals2 r
  have ev := hcv.eq v2
  subst ev
  obtain rfl : u1 = Value.ref a := v1
  obtain ⟨oe, odd, mA, J, _, _⟩ := erv_at I.hok ea ed
  exact PySem.W.kia_one (exc_kit ec.hg ec.hk ec.hs ec.hd ec.ha ec.hn ec.ht ec.hm) I.kIn J z (fun y => nomatch y) fun tk => ⟨.bl b, H, I.kept (t' := tk) fun _ _ y => y, rfl, q⟩
theorem pe_xv {n : Str} (he : PE X e te) (hb : attributeBase e n X.env (eval e X.env) = eval e X.env := by rfl) : PE X (.Attribute e n pos) (tXv X.K n te) := by
  constructor
  intro pins s0 σ H Q I h
  refine attr_of hb (thn (he.run pins s0 σ H _ I h) fun u0 s1 g => ?_)
  obtain ⟨x, H1, I1, rx, a, C, dd, fs, v, ex, T, hno, ea, ed, l, q⟩ := g
  subst ex
  obtain rfl : u0 = Value.ref a := rx
  obtain ⟨oe, odd, mA, J, rel, look⟩ := erv_at I1.hok ea ed
  obtain ⟨u, hu, ru⟩ := RelO.some_of (v := v) (o := mA n) (by have := rel n; rw [l] at this; exact this)
  exact HandSPX.exc_get I1.kIn J T.ga T.gg T.exC (PySem.W.findObj_own T.hdC hno rfl (by rw [look, hu])) (handed_of ru) ⟨v, H1, I1.tok _, ru, q⟩
end
end Og

namespace Og
open PySem PySem.Spec PyProof.Rows L2
open PySem.NumText (AllDigits digitsVal)
/-! ### programs as trees, and which are good -/
def qw : List Nat := [113, 117, 111, 116, 101]
def specials : List (List Nat × Nat) := [(qw, 1), ([105, 102], 3), ([115, 97, 109, 101], 2), ([119, 111, 114, 100], 1), ([104, 101, 97, 100], 1), ([116, 97, 105, 108], 1), ([106, 111, 105, 110], 2)]
def spAr (x : List Nat) : Option Nat := (specials.find? fun p => decide (p.1 = x)).map (·.2)
def fn? : Tree → Option (List Nat × List Tree × Tree)
  | .l [.w n, .l ps, b] => some (n, ps, b)
  | _ => none
theorem fn?_iff {t : Tree} {n : List Nat} {ps : List Tree} {b : Tree} : fn? t = some (n, ps, b) ↔ t = .l [.w n, .l ps, b] := by
  unfold fn?
  split
  · rename_i n' ps' b'
    constructor
    · intro h
      have h1 := Option.some.inj h
      have h2 := (Prod.mk.inj h1).1
      have h3 := (Prod.mk.inj h1).2
      have h4 := (Prod.mk.inj h3).1
      have h5 := (Prod.mk.inj h3).2
      rw [h2, h4, h5]
    · intro h
      have h1 := Tree.l.inj h
      have h2 := Tree.w.inj (List.cons.inj h1).1
      have h3 := (List.cons.inj h1).2
      have h4 := Tree.l.inj (List.cons.inj h3).1
      have h5 := (List.cons.inj (List.cons.inj h3).2).1
      rw [h2, h4, h5]
  · rename_i no
    constructor
    · intro h; cases h
    · intro h; exact absurd h (no n ps b)
def arity : List Tree → List Nat → Option Nat
  | [], _ => none
  | t :: r, x => match fn? t with
    | some (n, ps, _) => if n = x then some ps.length else arity r x
    | none => arity r x
/-- how many parts stand behind the word x -/
def parts (fs : List Tree) (x : List Nat) : Option Nat := match spAr x with
  | some k => some k
  | none => arity fs x
mutual
def GoodE (fs ps : List Tree) : Tree → Prop
  | .w x => Tree.w x ∈ ps
  | .l [] => False
  | .l (.l _ :: _) => False
  | .l (.w n :: ts) => parts fs n = some ts.length ∧ (n = qw ∨ GoodEs fs ps ts)
def GoodEs (fs ps : List Tree) : List Tree → Prop
  | [] => True
  | t :: ts => GoodE fs ps t ∧ GoodEs fs ps ts
end
theorem goodE_w {fs ps : List Tree} {x : List Nat} : GoodE fs ps (.w x) ↔ Tree.w x ∈ ps := by rw [GoodE]
theorem goodEs_iff {fs ps : List Tree} : ∀ {ts : List Tree}, GoodEs fs ps ts ↔ ∀ t ∈ ts, GoodE fs ps t
  | [] => by rw [GoodEs]; exact ⟨fun _ t m => absurd m (List.not_mem_nil), fun _ => trivial⟩
  | u :: ts => by
    rw [GoodEs, goodEs_iff]
    constructor
    · rintro ⟨h1, h2⟩ t m
      rcases List.mem_cons.mp m with e | m
      · rw [e]; exact h1
      · exact h2 t m
    · intro h
      exact ⟨h u (List.mem_cons_self ..), fun t m => h t (List.mem_cons_of_mem _ m)⟩
/-- the list's first item is a word, with the right number of parts behind it -/
def Right (fs ts : List Tree) : Prop := ∃ n r, ts = .w n :: r ∧ parts fs n = some r.length
theorem goodE_l {fs ps ts : List Tree} : GoodE fs ps (.l ts) ↔ Right fs ts ∧ (ts.head? = some (.w qw) ∨ ∀ t ∈ ts.tail, GoodE fs ps t) := by
  cases ts with
  | nil =>
    rw [GoodE]
    constructor
    · intro h; exact h.elim
    · rintro ⟨⟨n, r, e, _⟩, _⟩; cases e
  | cons t r =>
    cases t with
    | l us =>
      rw [GoodE]
      constructor
      · intro h; exact h.elim
      · rintro ⟨⟨n, r', e, _⟩, _⟩
        have := (List.cons.inj e).1
        cases this
    | w n =>
      rw [GoodE, goodEs_iff]
      constructor
      · rintro ⟨h1, h2⟩
        refine ⟨⟨n, r, rfl, h1⟩, ?_⟩
        rcases h2 with h2 | h2
        · exact .inl (by rw [h2]; rfl)
        · exact .inr h2
      · rintro ⟨⟨n', r', e, h1⟩, h2⟩
        have e1 := Tree.w.inj (List.cons.inj e).1
        have e2 := (List.cons.inj e).2
        subst e1 e2
        refine ⟨h1, ?_⟩
        rcases h2 with h2 | h2
        · exact .inl (Tree.w.inj (Option.some.inj h2))
        · exact .inr h2
def GoodName (n : Nat) (x : List Nat) : Prop := spAr x = none ∧ ∀ ds, x = 102 :: ds → ds ≠ [] → AllDigits ds → (ds = [48] ∨ ds.head? ≠ some 48) ∧ digitsVal ds < n
def GoodPs (ps : List Tree) : Prop := ps.length ≤ 12 ∧ ∀ (i : Nat) (t : Tree), ps[i]? = some t → ∃ x, t = .w x ∧ spAr x = none ∧ ∀ j : Nat, j < i → ps[j]? ≠ some (.w x)
def Dupe (fs : List Tree) (i : Nat) (x : List Nat) : Prop := ∃ (j : Nat) (r : List Tree), j < i ∧ fs[j]? = some (.l (.w x :: r))
/-- the function is good, but for its name being used earlier -/
def GoodFn (fs : List Tree) (t : Tree) : Prop := ∃ n ps b, t = .l [.w n, .l ps, b] ∧ GoodName fs.length n ∧ GoodPs ps ∧ GoodE fs ps b
def GoodAt (fs : List Tree) (i : Nat) : Prop := ∃ n ps b, fs[i]? = some (.l [.w n, .l ps, b]) ∧ GoodName fs.length n ∧ GoodPs ps ∧ GoodE fs ps b ∧ ¬ Dupe fs i n
/-- what is found: none, or the number of the first function that is not good -/
def BadNo : Tree → Option Nat → Prop
  | .w _, o => o = some 0
  | .l fs, o => (fs = [] ∧ o = some 0) ∨ (fs ≠ [] ∧ ((o = none ∧ ∀ i, i < fs.length → GoodAt fs i) ∨ ∃ i, o = some i ∧ i < fs.length ∧ ¬ GoodAt fs i ∧ ∀ j, j < i → GoodAt fs j))
theorem BadNo.uniq {t : Tree} {a b : Option Nat} (h1 : BadNo t a) (h2 : BadNo t b) : a = b := by
  cases t with
  | w x => rw [show a = some 0 from h1, show b = some 0 from h2]
  | l fs =>
    rcases h1 with ⟨e1, o1⟩ | ⟨n1, h1⟩ <;> rcases h2 with ⟨e2, o2⟩ | ⟨n2, h2⟩
    · rw [o1, o2]
    · exact absurd e1 n2
    · exact absurd e2 n1
    · rcases h1 with ⟨o1, g1⟩ | ⟨i, o1, l1, b1, g1⟩ <;> rcases h2 with ⟨o2, g2⟩ | ⟨j, o2, l2, b2, g2⟩
      · rw [o1, o2]
      · exact absurd (g1 j l2) b2
      · exact absurd (g2 i l1) b1
      · rw [o1, o2]
        rcases Nat.lt_trichotomy i j with h | h | h
        · exact absurd (g2 i h) b1
        · rw [h]
        · exact absurd (g1 j h) b2
theorem arity_app {x : List Nat} : ∀ (a b : List Tree), arity (a ++ b) x = match arity a x with
    | some k => some k
    | none => arity b x
  | [], b => rfl
  | t :: a, b => by
    rw [List.cons_append, arity, arity, arity_app a b]
    cases fn? t with
    | none => rfl
    | some p =>
      obtain ⟨n, ps, bd⟩ := p
      show (if n = x then _ else _) = match (if n = x then _ else _) with | some k => some k | none => arity b x
      by_cases h : n = x
      · rw [if_pos h, if_pos h]
      · rw [if_neg h, if_neg h]
        cases arity a x <;> rfl
theorem arity_one_no {t : Tree} {x : List Nat} (h : fn? t = none) : arity [t] x = none := by
  rw [arity, h]; rfl
theorem arity_one {t : Tree} {n x : List Nat} {ps : List Tree} {b : Tree} (h : fn? t = some (n, ps, b)) : arity [t] x = if n = x then some ps.length else none := by
  rw [arity, h]; rfl
/-! ### numbers in names -/
theorem digitsVal_lt : ∀ (n : Nat) (ds : List Nat), ds.length = n → AllDigits ds → digitsVal ds < 10 ^ n := fun n => by
  induction n with
  | zero =>
    intro ds h _
    rw [List.length_eq_zero_iff.mp h]
    decide
  | succ n ih =>
    intro ds h a
    have ne : ds ≠ [] := by intro e; rw [e] at h; cases h
    obtain ⟨ys, y, rfl⟩ := snoc_of ne
    rw [List.length_append, List.length_singleton] at h
    have h1 := ih ys (by omega) fun c m => a c (List.mem_append.mpr (.inl m))
    have h2 := a y (List.mem_append.mpr (.inr (List.mem_singleton.mpr rfl)))
    rw [NumText.digitsVal_snoc, Nat.pow_succ]
    omega
/-- str(int(ds)) is ds just where there is no leading zero -/
theorem str_digits {ds : List Nat} (h : AllDigits ds) (ne : ds ≠ []) : Str.ofString (toString ((digitsVal ds : Nat) : Int)) = tx ds ↔ (ds = [48] ∨ ds.head? ≠ some 48) := by
  have e := PySem.W.KIN.signs_num (digitsVal ds)
  have chr : ∀ cs : List Nat, AllDigits cs → (cs.map Char.ofNat).map Char.toNat = cs := fun cs hc => by
    rw [List.map_map]
    conv => rhs; rw [← List.map_id cs]
    refine List.map_congr_left fun c m => ?_
    have := hc c m
    have v : ∀ k, k < 58 → (Char.ofNat k).toNat = k := by decide
    exact v c (by omega)
  obtain ⟨c, r, rfl⟩ : ∃ c r, ds = c :: r := by
    cases ds with
    | nil => exact absurd rfl ne
    | cons c r => exact ⟨c, r, rfl⟩
  have hc := h c (List.mem_cons_self ..)
  constructor
  · intro q
    rw [q] at e
    have e' : c :: r = (Nat.toDigits 10 (digitsVal (c :: r))).map Char.toNat := e
    by_cases z : c = 48
    · left
      subst z
      rw [NumText.toDigits_all _ h] at e'
      have d : ((48 :: r).dropWhile (· == 48)).length ≤ r.length := by
        rw [List.dropWhile_cons]
        exact (List.dropWhile_sublist _).length_le
      cases hd : (48 :: r).dropWhile (· == 48) with
      | nil =>
        rw [hd] at e'
        exact e'
      | cons a b =>
        rw [hd] at e' d
        have := congrArg List.length e'
        simp at this
        simp at d
        omega
    · right
      intro q2
      exact z (Option.some.inj q2)
  · intro q
    have key : (Nat.toDigits 10 (digitsVal (c :: r))).map Char.toNat = c :: r := by
      rcases q with q | q
      · rw [q]; decide
      · have z : c ≠ 48 := fun e => q (by rw [e]; rfl)
        rw [NumText.toDigits_digitsVal r.length (c :: r) (by rw [List.length_cons]) h (.inr ⟨c, r, rfl, by omega⟩)]
        exact chr _ h
    rw [key] at e
    rw [tx_of (Str.ofString (toString ((digitsVal (c :: r) : Nat) : Int))), e]
end Og

namespace Og
open PySem PySem.Spec PyProof.Rows L2
open PySem.NumText (AllDigits digitsVal)
/-! ### a dict of the module, of texts and numbers -/
def Ents : List DictEntry → List (List Nat × Nat) → Prop
  | [], [] => True
  | e :: r, p :: q => (∃ t, e.key = .str (tx p.1) t) ∧ (∃ t, e.val = .int (p.2 : Nat) t) ∧ Ents r q
  | _, _ => False
theorem Ents.find {z : List Nat} : ∀ {es : List DictEntry} {L : List (List Nat × Nat)}, Ents es L →
    match L.find? (fun p => decide (p.1 = z)) with
    | some p => ∃ e t, es.find? (·.key.isStr (tx z)) = some e ∧ e.val = .int (p.2 : Nat) t
    | none => es.find? (·.key.isStr (tx z)) = none ∧ es.any (·.refKey) = false
  | [], [], _ => ⟨rfl, rfl⟩
  | [], p :: q, h => h.elim
  | e :: r, [], h => h.elim
  | e :: r, p :: q, h => by
    obtain ⟨⟨t1, h1⟩, ⟨t2, h2⟩, h3⟩ := h
    have ih := Ents.find (z := z) h3
    have k1 : e.key.isStr (tx z) = decide (p.1 = z) := by
      rw [h1]
      show (tx p.1 == tx z) = _
      by_cases c : p.1 = z
      · rw [c, decide_eq_true rfl]; simp
      · rw [decide_eq_false c]
        exact beq_eq_false_iff_ne.mpr fun e => c (tx_inj e)
    have k2 : e.refKey = false := by
      unfold DictEntry.refKey
      rw [h1]
    rw [List.find?_cons, List.find?_cons, k1, List.any_cons, k2]
    by_cases c : p.1 = z
    · rw [decide_eq_true c]
      exact ⟨e, t2, rfl, h2⟩
    · rw [decide_eq_false c]
      exact ih
structure DictC (K : PySem.W.Frag) (w : World) (mg : Str → Option Value) (x : Str) (L : List (List Nat × Nat)) : Prop where
  ex : ∃ d es n, mg x = some (.ref d) ∧ KDict K w d es n ∧ Ents es.toList L
/-- the same, at d -/
structure DictD (K : PySem.W.Frag) (w : World) (L : List (List Nat × Nat)) (d : Addr) : Prop where
  ex : ∃ es n, KDict K w d es n ∧ Ents es.toList L
section
variable {K : PySem.W.Frag} {w : World} {L : List (List Nat × Nat)} {d : Addr} {X : Cx}
theorem DictD.get (D : DictD K w L d) (z : List Nat) : match L.find? (fun p => decide (p.1 = z)) with
    | some p => ∃ t, PySem.W.nsIn K d (tx z) = some (some (.int (p.2 : Nat) t))
    | none => PySem.W.nsIn K d (tx z) = some none := by
  obtain ⟨es, n, kd, en⟩ := D.ex
  have h := Ents.find (z := z) en
  cases hf : L.find? (fun p => decide (p.1 = z)) with
  | some p =>
    rw [hf] at h
    obtain ⟨e, t, h1, h2⟩ := h
    refine ⟨t, ?_⟩
    unfold PySem.W.nsIn
    rw [kd.at_]
    show (match es.toList.find? (·.key.isStr (tx z)) with | some e => some (some e.val) | none => _) = _
    rw [h1]
    show some (some e.val) = _
    rw [h2]
  | none =>
    rw [hf] at h
    unfold PySem.W.nsIn
    rw [kd.at_]
    show (match es.toList.find? (·.key.isStr (tx z)) with | some e => some (some e.val) | none => if es.toList.any (·.refKey) then none else some none) = _
    rw [h.1]
    show (if es.toList.any (·.refKey) then none else some none) = _
    rw [h.2]
    rfl
/-- x in D -/
def rInC (L : List (List Nat × Nat)) (d : Addr) : R2 := fun x y H Q => ∃ z, x = .str (tx z) ∧ y = .ref d ∧ Q (.bl (L.find? (fun p => decide (p.1 = z))).isSome) H
theorem op_inC (D : DictD X.K X.w L d) : OpR X (compareOp .In) (rInC L d) := by
  intro pins s σ H x y v u Q I rx ry h
  obtain ⟨z, rfl, rfl, q⟩ := h
  have g := D.get z
  obtain ⟨es, n, kd, en⟩ := D.ex
  cases hf : L.find? (fun p => decide (p.1 = z)) with
  | some p =>
    rw [hf] at g q
    obtain ⟨tk, g⟩ := g
    exact op_in_kd kd pins s σ H _ _ v u Q I rx ry ⟨tx z, _, rfl, rfl, g, q⟩
  | none =>
    rw [hf] at g q
    exact op_in_kd kd pins s σ H _ _ v u Q I rx ry ⟨tx z, _, rfl, rfl, g, q⟩
theorem DictD.item (D : DictD K w L d) {z : List Nat} {p : List Nat × Nat} (hf : L.find? (fun p => decide (p.1 = z)) = some p) : KDct K w d (tx z) (.int (p.2 : Nat)) := by
  have g := D.get z
  rw [hf] at g
  obtain ⟨tk, g⟩ := g
  obtain ⟨es, n, kd, en⟩ := D.ex
  exact ⟨es, n, _, kd.at_, kd.lit, g, tk, rfl⟩
end
theorem spAr_isSome (z : List Nat) : (specials.find? (fun p => decide (p.1 = z))).isSome = (spAr z).isSome := by
  unfold spAr
  cases specials.find? (fun p => decide (p.1 = z)) <;> rfl
/-! ### texts -/
theorem lit_f : ("f" : Str) = tx [102] := by decide +kernel
theorem sw_f (x : List Nat) : Txt.startswith (tx x) (tx [102]) = decide (x.head? = some 102) := by
  unfold Txt.startswith
  rw [PySem.StrLaws.subAt_eq, tx_list, tx_list, tx_len, tx_len]
  cases x with
  | nil => rfl
  | cons c r =>
    rw [List.drop_zero]
    show (decide (0 + 1 ≤ (c :: r).length) && (List.take 1 (c :: r) == [102])) = _
    have h : decide (0 + 1 ≤ (c :: r).length) = true := decide_eq_true (by rw [List.length_cons]; omega)
    rw [h, Bool.true_and]
    show ([c] == [102]) = decide (some c = some 102)
    by_cases e : c = 102
    · subst e; rfl
    · rw [decide_eq_false (fun z => e (Option.some.inj z))]
      exact beq_eq_false_iff_ne.mpr fun z => e (List.cons.inj z).1
theorem isdigit_iff {x : List Nat} (h : ∀ c ∈ x, c < 128) : Txt.isdigit (tx x) = true ↔ x ≠ [] ∧ AllDigits x := by
  unfold Txt.isdigit
  rw [tx_len, ← Array.all_toList]
  show (decide (x.length > 0) && x.all Unicode.isDigit) = true ↔ _
  rw [Bool.and_eq_true, decide_eq_true_eq, List.all_eq_true]
  have d : ∀ c, c < 128 → Unicode.isDigit c = decide (48 ≤ c ∧ c ≤ 57) := by decide +kernel
  constructor
  · rintro ⟨h1, h2⟩
    refine ⟨by intro e; rw [e] at h1; exact absurd h1 (by decide), fun c m => ?_⟩
    have := h2 c m
    rw [d c (h c m)] at this
    exact of_decide_eq_true this
  · rintro ⟨h1, h2⟩
    refine ⟨List.length_pos_iff.mpr h1, fun c m => ?_⟩
    rw [d c (h c m)]
    exact decide_eq_true (h2 c m)
end Og

namespace Og
open PySem PySem.Spec PyProof.Rows L2
def topS (i : Nat) : Stmt := PySem.Challenge.pw_ownglass_k04_good_and_bad_programs.main.body.getD i (.Pass ⟨0, 0, 0, 0⟩)
abbrev s_check_program : Stmt := topS 8
abbrev n_check_program : List Str := ["value", "called", "earlier_names", "number", "function"]
abbrev p_check_program : List Str := ["value"]
theorem sc_check_program : FnScope n_check_program p_check_program (defScope s_check_program) := ⟨rfl, rfl, rfl, by decide +kernel, rfl, by decide +kernel, by decide +kernel⟩
abbrev s_called_functions : Stmt := topS 9
abbrev n_called_functions : List Str := ["program", "called", "item"]
abbrev p_called_functions : List Str := ["program"]
theorem sc_called_functions : FnScope n_called_functions p_called_functions (defScope s_called_functions) := ⟨rfl, rfl, rfl, by decide +kernel, rfl, by decide +kernel, by decide +kernel⟩
abbrev s_looks_like_function : Stmt := topS 10
abbrev n_looks_like_function : List Str := ["item"]
abbrev p_looks_like_function : List Str := ["item"]
theorem sc_looks_like_function : FnScope n_looks_like_function p_looks_like_function (defScope s_looks_like_function) := ⟨rfl, rfl, rfl, by decide +kernel, rfl, by decide +kernel, by decide +kernel⟩
abbrev s_is_good_function : Stmt := topS 11
abbrev n_is_good_function : List Str := ["function", "called", "many_items", "name", "parameters", "body"]
abbrev p_is_good_function : List Str := ["function", "called", "many_items"]
theorem sc_is_good_function : FnScope n_is_good_function p_is_good_function (defScope s_is_good_function) := ⟨rfl, rfl, rfl, by decide +kernel, rfl, by decide +kernel, by decide +kernel⟩
abbrev s_is_good_name : Stmt := topS 12
abbrev n_is_good_name : List Str := ["name", "many_items", "digits", "number"]
abbrev p_is_good_name : List Str := ["name", "many_items"]
theorem sc_is_good_name : FnScope n_is_good_name p_is_good_name (defScope s_is_good_name) := ⟨rfl, rfl, rfl, by decide +kernel, rfl, by decide +kernel, by decide +kernel⟩
abbrev s_are_good_parameters : Stmt := topS 13
abbrev n_are_good_parameters : List Str := ["parameters", "earlier", "parameter"]
abbrev p_are_good_parameters : List Str := ["parameters"]
theorem sc_are_good_parameters : FnScope n_are_good_parameters p_are_good_parameters (defScope s_are_good_parameters) := ⟨rfl, rfl, rfl, by decide +kernel, rfl, by decide +kernel, by decide +kernel⟩
abbrev s_is_good_body : Stmt := topS 14
abbrev n_is_good_body : List Str := ["body", "parameters", "called", "waiting", "part"]
abbrev p_is_good_body : List Str := ["body", "parameters", "called"]
theorem sc_is_good_body : FnScope n_is_good_body p_is_good_body (defScope s_is_good_body) := ⟨rfl, rfl, rfl, by decide +kernel, rfl, by decide +kernel, by decide +kernel⟩
abbrev s_has_right_parts : Stmt := topS 15
abbrev n_has_right_parts : List Str := ["expression", "called", "word", "many_parts"]
abbrev p_has_right_parts : List Str := ["expression", "called"]
theorem sc_has_right_parts : FnScope n_has_right_parts p_has_right_parts (defScope s_has_right_parts) := ⟨rfl, rfl, rfl, by decide +kernel, rfl, by decide +kernel, by decide +kernel⟩
abbrev s_law_draws : Stmt := topS 17
abbrev n_law_draws : List Str := ["script", "many", "rests", "cell", "draws", "k", "at", "mixed"]
abbrev p_law_draws : List Str := ["script", "many"]
theorem sc_law_draws : FnScope n_law_draws p_law_draws (defScope s_law_draws) := ⟨rfl, rfl, rfl, by decide +kernel, rfl, by decide +kernel, by decide +kernel⟩
abbrev s_law_take : Stmt := topS 18
abbrev n_law_take : List Str := ["hand", "many", "at", "draws"]
abbrev p_law_take : List Str := ["hand", "many"]
theorem sc_law_take : FnScope n_law_take p_law_take (defScope s_law_take) := ⟨rfl, rfl, rfl, by decide +kernel, rfl, by decide +kernel, by decide +kernel⟩
abbrev s_law_value : Stmt := topS 19
abbrev n_law_value : List Str := ["hand", "depth", "k"]
abbrev p_law_value : List Str := ["hand", "depth"]
theorem sc_law_value : FnScope n_law_value p_law_value (defScope s_law_value) := ⟨rfl, rfl, rfl, by decide +kernel, rfl, by decide +kernel, by decide +kernel⟩
abbrev s_law_expression : Stmt := topS 20
abbrev n_law_expression : List Str := ["hand", "parameters", "calls", "depth", "kind", "parts", "k", "left", "name", "many"]
abbrev p_law_expression : List Str := ["hand", "parameters", "calls", "depth"]
theorem sc_law_expression : FnScope n_law_expression p_law_expression (defScope s_law_expression) := ⟨rfl, rfl, rfl, by decide +kernel, rfl, by decide +kernel, by decide +kernel⟩
abbrev s_law_library : Stmt := topS 21
abbrev n_law_library : List Str := ["has", "within", "put", "turn"]
abbrev p_law_library : List Str := []
theorem sc_law_library : FnScope n_law_library p_law_library (defScope s_law_library) := ⟨rfl, rfl, rfl, by decide +kernel, rfl, by decide +kernel, by decide +kernel⟩
abbrev s_law_program : Stmt := topS 22
abbrev n_law_program : List Str := ["hand", "inputs", "more", "calls", "one", "functions", "k", "name", "parameters", "main"]
abbrev p_law_program : List Str := ["hand", "inputs"]
theorem sc_law_program : FnScope n_law_program p_law_program (defScope s_law_program) := ⟨rfl, rfl, rfl, by decide +kernel, rfl, by decide +kernel, by decide +kernel⟩
abbrev s_law_many : Stmt := topS 23
abbrev n_law_many : List Str := ["program", "name", "one"]
abbrev p_law_many : List Str := ["program", "name"]
theorem sc_law_many : FnScope n_law_many p_law_many (defScope s_law_many) := ⟨rfl, rfl, rfl, by decide +kernel, rfl, by decide +kernel, by decide +kernel⟩
abbrev s_law_special : Stmt := topS 24
abbrev n_law_special : List Str := []
abbrev p_law_special : List Str := []
theorem sc_law_special : FnScope n_law_special p_law_special (defScope s_law_special) := ⟨rfl, rfl, rfl, by decide +kernel, rfl, by decide +kernel, by decide +kernel⟩
abbrev s_law_expression_good : Stmt := topS 25
abbrev n_law_expression_good : List Str := ["program", "parameters", "body", "todo", "step", "one", "parts", "many"]
abbrev p_law_expression_good : List Str := ["program", "parameters", "body"]
theorem sc_law_expression_good : FnScope n_law_expression_good p_law_expression_good (defScope s_law_expression_good) := ⟨rfl, rfl, rfl, by decide +kernel, rfl, by decide +kernel, by decide +kernel⟩
abbrev s_law_name_good : Stmt := topS 26
abbrev n_law_name_good : List Str := ["program", "at", "name", "one", "digits", "sign"]
abbrev p_law_name_good : List Str := ["program", "at"]
theorem sc_law_name_good : FnScope n_law_name_good p_law_name_good (defScope s_law_name_good) := ⟨rfl, rfl, rfl, by decide +kernel, rfl, by decide +kernel, by decide +kernel⟩
abbrev s_law_function_good : Stmt := topS 27
abbrev n_law_function_good : List Str := ["program", "at", "one", "k"]
abbrev p_law_function_good : List Str := ["program", "at"]
theorem sc_law_function_good : FnScope n_law_function_good p_law_function_good (defScope s_law_function_good) := ⟨rfl, rfl, rfl, by decide +kernel, rfl, by decide +kernel, by decide +kernel⟩
abbrev s_law_bad_function : Stmt := topS 28
abbrev n_law_bad_function : List Str := ["program", "at"]
abbrev p_law_bad_function : List Str := ["program"]
theorem sc_law_bad_function : FnScope n_law_bad_function p_law_bad_function (defScope s_law_bad_function) := ⟨rfl, rfl, rfl, by decide +kernel, rfl, by decide +kernel, by decide +kernel⟩
abbrev s_law_is_right : Stmt := topS 29
abbrev n_law_is_right : List Str := ["program", "due", "e"]
abbrev p_law_is_right : List Str := ["program"]
theorem sc_law_is_right : FnScope n_law_is_right p_law_is_right (defScope s_law_is_right) := ⟨rfl, rfl, rfl, by decide +kernel, rfl, by decide +kernel, by decide +kernel⟩
abbrev s_law_called : Stmt := topS 30
abbrev n_law_called : List Str := ["value", "old", "new", "parts", "one", "k"]
abbrev p_law_called : List Str := ["value", "old", "new"]
theorem sc_law_called : FnScope n_law_called p_law_called (defScope s_law_called) := ⟨rfl, rfl, rfl, by decide +kernel, rfl, by decide +kernel, by decide +kernel⟩
abbrev s_law_other_names : Stmt := topS 31
abbrev n_law_other_names : List Str := ["hand", "program", "old", "one", "new", "k", "digits", "name"]
abbrev p_law_other_names : List Str := ["hand", "program"]
theorem sc_law_other_names : FnScope n_law_other_names p_law_other_names (defScope s_law_other_names) := ⟨rfl, rfl, rfl, by decide +kernel, rfl, by decide +kernel, by decide +kernel⟩
abbrev s_law_odd : Stmt := topS 32
abbrev n_law_odd : List Str := ["hand", "program", "words", "kind", "name", "one", "word"]
abbrev p_law_odd : List Str := ["hand", "program"]
theorem sc_law_odd : FnScope n_law_odd p_law_odd (defScope s_law_odd) := ⟨rfl, rfl, rfl, by decide +kernel, rfl, by decide +kernel, by decide +kernel⟩
abbrev s_law_bent : Stmt := topS 33
abbrev n_law_bent : List Str := ["hand", "program", "value", "depth", "kind", "at"]
abbrev p_law_bent : List Str := ["hand", "program", "value", "depth"]
theorem sc_law_bent : FnScope n_law_bent p_law_bent (defScope s_law_bent) := ⟨rfl, rfl, rfl, by decide +kernel, rfl, by decide +kernel, by decide +kernel⟩
abbrev s_law_wide : Stmt := topS 34
abbrev n_law_wide : List Str := ["hand", "letters", "many", "parameters", "k", "call", "functions"]
abbrev p_law_wide : List Str := ["hand"]
theorem sc_law_wide : FnScope n_law_wide p_law_wide (defScope s_law_wide) := ⟨rfl, rfl, rfl, by decide +kernel, rfl, by decide +kernel, by decide +kernel⟩
abbrev s_law_numbered : Stmt := topS 35
abbrev n_law_numbered : List Str := ["hand", "many", "functions", "k", "at", "name"]
abbrev p_law_numbered : List Str := ["hand"]
theorem sc_law_numbered : FnScope n_law_numbered p_law_numbered (defScope s_law_numbered) := ⟨rfl, rfl, rfl, by decide +kernel, rfl, by decide +kernel, by decide +kernel⟩
abbrev s_law_deep_body : Stmt := topS 36
abbrev n_law_deep_body : List Str := ["hand", "inner", "body", "value", "k", "kind"]
abbrev p_law_deep_body : List Str := ["hand", "inner"]
theorem sc_law_deep_body : FnScope n_law_deep_body p_law_deep_body (defScope s_law_deep_body) := ⟨rfl, rfl, rfl, by decide +kernel, rfl, by decide +kernel, by decide +kernel⟩
abbrev s_law : Stmt := topS 37
abbrev n_law : List Str := ["script", "hand", "program", "step", "at", "bent", "other", "special", "named", "one", "inner"]
abbrev p_law : List Str := ["script"]
theorem sc_law : FnScope n_law p_law (defScope s_law) := ⟨rfl, rfl, rfl, by decide +kernel, rfl, by decide +kernel, by decide +kernel⟩
abbrev s_BadText_init : Stmt := inClass (topS 2) 0
abbrev n_BadText_init : List Str := ["self", "place"]
abbrev p_BadText_init : List Str := ["self", "place"]
theorem sc_BadText_init : FnScope n_BadText_init p_BadText_init (defScope s_BadText_init) := ⟨rfl, rfl, rfl, by decide +kernel, rfl, by decide +kernel, by decide +kernel⟩
abbrev s_BadProgram_init : Stmt := inClass (topS 3) 0
abbrev n_BadProgram_init : List Str := ["self", "function"]
abbrev p_BadProgram_init : List Str := ["self", "function"]
theorem sc_BadProgram_init : FnScope n_BadProgram_init p_BadProgram_init (defScope s_BadProgram_init) := ⟨rfl, rfl, rfl, by decide +kernel, rfl, by decide +kernel, by decide +kernel⟩
/-- the constants of the module -/
structure Mc (mg : Str → Option Value) : Prop where
  MOST_PARAMETERS : ∃ t, mg "MOST_PARAMETERS" = some (.int 12 t)
/-- the names of built-ins that no row of the program gives another meaning -/
structure Bn (mg : Str → Option Value) : Prop where
  len : mg "len" = none
  range : mg "range" = none
  int : mg "int" = none
  abs : mg "abs" = none
  str : mg "str" = none
  tuple : mg "tuple" = none
  list : mg "list" = none
  bool : mg "bool" = none
  isinstance : mg "isinstance" = none
  ValueError : mg "ValueError" = none
  enumerate : mg "enumerate" = none
  set : mg "set" = none
/-- what law(script) promises: for a list of at most 63 ints the answer is True -/
def spLaw (K : PySem.W.Frag) : Sp := fun vs H Q _ => ∃ (a : Addr) (ns : List Int), vs = [.ref a] ∧ SqL K H a (ns.map V.int) ∧ ns.length ≤ 63 ∧ ∀ H', Q (.bl true) H'
end Og

namespace Og
open PySem PySem.Spec PyProof.Rows L2
section
variable {P : Program} {w : World} {K : PySem.W.Frag} {mg : Str → Option Value} {base : Heap}
def spDraws (K : PySem.W.Frag) : Sp := fun vs H Q _ => ∃ (a : Addr) (ns : List Int) (m : Nat), vs = [.ref a, .int m] ∧ SqL K H a (ns.map V.int) ∧ ns.length ≤ 63 ∧ m ≤ 100000 ∧
  ∀ (p : Addr) (ds : List Int) (H' : Hp), Keep [] H H' → H p = none → H' p = some (.lst (ds.map V.int)) → ds.length = m → Q (.ref p) H'
theorem has_draws {k : Nat} (D : DefAt K mg "_law_draws" s_law_draws p_law_draws) (B : Bn mg) : Has P w K mg base (k + 1) "_law_draws" p_law_draws (spDraws K) := by
  obtain ⟨f, fd, F, hm, hb⟩ := D.ex
  refine ⟨f, fd, F.ok sc_law_draws (fun vs H Q E h => ?_) (fun cdv A outer s H vs Q E hr h => ?_), hm, F.kp, hb⟩
  · obtain ⟨a, ns, m, rfl, _⟩ := h
    rfl
  obtain ⟨a, ns, m, rfl, hS, h63, hm1, q⟩ := h
  refine ⟨_, (pss_cons (ps_setLc (i := 2) (own := [("cell", 3)]) (g := gName 3) (tt := tYes) rfl sc_law_draws.nd rfl rfl (sw_true rfl rfl rfl (by decide +kernel)) (pi_list (pv 0)) (blkOk_by (N := n_law_draws) (sc := defScope s_law_draws) (by decide +kernel)) (fun _ _ _ _ _ => pg_name (i := 3) sc_law_draws.nd rfl (Or.inl rfl)) (fun _ _ _ _ _ => pts_nil) (fun _ _ _ _ _ => (pe_callB call_abs (by rfl) B.abs (by decide +kernel) (pa_cons (pe_callTy call_int1 (by rfl) B.int (by decide +kernel) (pa_cons (pv 3) pa_nil)) pa_nil))))
    (pss_cons (ps_set (i := 4) sc_law_draws.nd rfl (.inl rfl) (pe_lst pa_nil))
    (pss_cons (ps_for PassesOwn.never rfl (pi_range1 (by rfl) B.range (pa_cons (pv 1) pa_nil)) (pg_name (i := 5) sc_law_draws.nd rfl (.inl rfl))
      (pss_cons (ps_set (i := 3) sc_law_draws.nd rfl (.inl rfl) (pv 5))
      (C8.pss_cut (ps_if (pt_cmpR op_gt (pe_callB call_len_seq (by rfl) B.len PySem.boot_len (pa_cons (pv 0) pa_nil)) pe_int (nomark _)) (pss_cons (ps_set (i := 6) sc_law_draws.nd rfl (.inl rfl) (pe_op op_mod (pv 5) (pe_callB call_len_seq (by rfl) B.len PySem.boot_len (pa_cons (pv 0) pa_nil))))
        (pss_cons (ps_set (i := 3) sc_law_draws.nd rfl (.inl rfl) (pe_callTy call_int1 (by rfl) B.int (by decide +kernel) (pa_cons (pe_ix ix_list (pv 0) (pv 6) (fun _ _ => rfl)) pa_nil)))
        (pss_one (ps_if (PW.pt (pw_and (pt_cmpR op_ge (pv 3) (pe_op op_pow pe_int pe_int) (nomark _)) (pw_and1 (pt_cmpR op_gt (pe_ix ix_list (pv 2) (pv 6) (fun _ _ => rfl)) pe_int (nomark _))))) (pss_cons (ps_expr (pe_bm PySem.F.plainAttrs_list PySem.F.slot_list_append PySem.F.type_list_append mt_append (pv 4) (pa_cons (pe_op op_mod (pe_callTy call_int1 (by rfl) B.int (by decide +kernel) (pa_cons (pe_ix ix_list (pv 2) (pv 6) (fun _ _ => rfl)) pa_nil)) pe_int) pa_nil)))
          (pss_cons (ps_asg (pe_op op_fdiv (pe_callTy call_int1 (by rfl) B.int (by decide +kernel) (pa_cons (pe_ix ix_list (pv 2) (pv 6) (fun _ _ => rfl)) pa_nil)) pe_int) (pg_sub (pv 2) (pv 6) set_list))
          (pss_one ps_continue))) pss_nil)))) pss_nil)
      (pss_cons (ps_set (i := 7) sc_law_draws.nd rfl (.inl rfl) (pe_op op_mod (pe_callTy call_int1 (by rfl) B.int (by decide +kernel) (pa_cons (pe_op op_add (pe_op op_add (pe_op op_mul (pv 3) pe_int) (pe_op op_mul (pv 5) pe_int)) pe_int) pa_nil)) pe_int))
      (pss_cons (ps_set (i := 7) sc_law_draws.nd rfl (.inl rfl) (pe_op op_mod (pe_callTy call_int1 (by rfl) B.int (by decide +kernel) (pa_cons (pe_op op_add (pe_op op_fdiv (pe_op op_mul (pv 7) (pv 7)) pe_int) (pv 7)) pa_nil)) pe_int))
      (pss_one (ps_expr (pe_bm PySem.F.plainAttrs_list PySem.F.slot_list_append PySem.F.type_list_append mt_append (pv 4) (pa_cons (pe_op op_mod (pe_callTy call_int1 (by rfl) B.int (by decide +kernel) (pa_cons (pe_op op_add (pe_op op_fdiv (pe_op op_mul (pv 7) (pv 7)) pe_int) (pe_op op_mul (pv 5) pe_int)) pa_nil)) pe_int) pa_nil)))))))))
    (pss_one (ps_ret (pv 4)))))), ?_⟩
  -- rests
  refine ⟨_, rfl, a, rfl, ⟨_, hS⟩, fun r nr => ?_⟩
  refine lc_list (K := K) (a := a) (xs := ns.map V.int) (fun i H' => Keep [] H H' ∧ ∃ rs : List Int, rs.length = i ∧ H' r = some (.lst (rs.map V.int))) ⟨Keep.new nr, [], rfl, upd_same⟩ (fun i H' _ p => p.1.sqL (by simp) hS) (fun i x H1 hx p => ?_) (fun H1 p => ?_)
  · obtain ⟨n, rfl, hn⟩ := map_int_get hx
    obtain ⟨k1, rs, e1, e2⟩ := p
    have hi : i < ns.length := (List.getElem?_eq_some_iff.mp hn).1
    refine ⟨rfl, yes ?_⟩
    refine ⟨_, rfl, .inl ⟨_, rfl, _, rfl, _, e2, ?_, ?_⟩⟩
    · rw [List.length_map]
      exact sizeLt (by omega)
    · refine ⟨(k1.cons.setT e2 (List.mem_cons_self ..)).drop nr, rs ++ [if n < 0 then -n else n], (by rw [List.length_append, e1]; rfl), ?_⟩
      rw [upd_same, map_int_app]
  -- draws
  obtain ⟨k1, rs, e1, e2⟩ := p
  rw [List.length_map] at e1
  refine ⟨Nat.zero_le _, fun d nd => ?_⟩
  have k2 : Keep [] H (upd H1 d (.lst [])) := k1.newT nd
  have drn : d ≠ r := (ne_of_none e2 nd).symm
  have nd0 : H d = none := k1.free nd
  have nr0 : H r = none := nr
  refine ⟨_, rfl, (m : Int), rfl, by omega, by omega, ?_⟩
  refine for_range (lo := 0) (n := (m : Int).toNat) (fun i σ H' => ∃ y3 y5 y6 y7, σ = [some (.ref a), some (.int m), some (.ref r), y3, some (.ref d), y5, y6, y7] ∧ Keep [] H H' ∧ (∃ rs : List Int, rs.length = ns.length ∧ H' r = some (.lst (rs.map V.int))) ∧ ∃ ds : List Int, ds.length = i ∧ H' d = some (.lst (ds.map V.int)))
    ⟨_, _, _, _, rfl, k2, ⟨rs, e1, by rw [upd_ne drn.symm]; exact e2⟩, [], rfl, upd_same⟩ (fun i σ H2 hi p => ?_) (fun σ H2 p => ?_)
  · obtain ⟨y3, y5, y6, y7, rfl, k3, ⟨rs, e3, e4⟩, ds, e5, e6⟩ := p
    have sL : SqL K H2 a (ns.map V.int) := k3.sqL (by simp) hS
    have dsz : (ds.map V.int).length < sizeLine := by rw [List.length_map]; exact sizeLt (by omega)
    -- cell = k
    refine ⟨_, rfl, ?_⟩
    refine ⟨fun σ' H' => H' = H2 ∧ ∃ (cell : Int) (y6 y7 : Option V), σ' = [some (.ref a), some (.int m), some (.ref r), some (.int cell), some (.ref d), some (.int (0 + i)), y6, y7], ?_, fun σ' H' hmid => ?_⟩
    refine ⟨_, rfl, _, _, rfl, .inl sL, _, _, rfl, rfl, _, rfl, ?_⟩
    refine ite2 (fun c => ?_) (fun c => ?_)
    · have c0 : (0 : Int) < ((ns.map V.int).length : Nat) := of_decide_eq_true c
      rw [List.length_map] at c0
      have at0 : 0 ≤ (0 + (i : Int)) % (ns.length : Int) := Int.emod_nonneg _ (by omega)
      have at1 : (0 + (i : Int)) % (ns.length : Int) < (ns.length : Int) := Int.emod_lt_of_pos _ c0
      obtain ⟨x, hx⟩ := atI_int (ns := ns) at0 at1
      obtain ⟨y, hy⟩ := atI_int (ns := rs) at0 (by rw [e3]; exact at1)
      refine ⟨_, rfl, _, rfl, _, _, rfl, .inl sL, _, _, rfl, rfl, (by show (0 : Int) < _; rw [List.length_map]; exact c0), ?_⟩
      rw [List.length_map]
      refine ⟨_, rfl, _, rfl, _, _, _, _, rfl, rfl, sL, hx, .inl ⟨_, rfl, ?_⟩⟩
      refine ⟨_, rfl, _, _, rfl, rfl, ⟨by decide, by decide, by decide⟩, _, _, rfl, rfl, _, rfl, ?_⟩
      refine ite2 (fun c1 => ?_) (fun c1 => ?_)
      · refine ⟨_, rfl, _, rfl, _, _, _, _, rfl, rfl, SqL.of e4, hy, _, _, rfl, rfl, _, rfl, ?_⟩
        refine ite2 (fun c2 => ?_) (fun c2 => ?_)
        · -- draws.append(..), rests[at] = .., continue
          refine ⟨_, rfl, .inl ⟨rfl, _, SqL.of e6⟩, _, rfl, _, rfl, _, _, _, _, rfl, rfl, SqL.of e4, hy, .inl ⟨_, rfl, _, _, rfl, rfl, by show (0 : Int) < 1000003; decide, _, _, _, rfl, rfl, e6, dsz, ?_⟩⟩
          have e4' : (upd H2 d (.lst (ds.map V.int ++ [.int (y % 1000003)]))) r = some (.lst (rs.map V.int)) := by rw [upd_ne drn.symm]; exact e4
          refine ⟨_, rfl, _, rfl, _, _, _, _, rfl, rfl, SqL.of e4', hy, .inl ⟨_, rfl, _, _, rfl, rfl, ⟨by decide, by decide⟩, _, rfl, _, rfl, _, _, _, _, rfl, rfl, e4', ixN_int at0 (by rw [List.length_map, e3]; exact at1), ?_⟩⟩
          refine ⟨_, _, _, _, rfl, ?_, ⟨rs.set ((0 + (i : Int)) % (ns.length : Int)).toNat (y / 1000003), by rw [List.length_set]; exact e3, by rw [upd_same, map_int_set]⟩, ds ++ [y % 1000003], by rw [List.length_append, e5]; rfl, by rw [upd_ne drn, upd_same, map_int_app]⟩
          exact (((k3.cons (p := d)).setT e6 (List.mem_cons_self ..)).cons (p := r)).setT e4' (List.mem_cons_self ..) |>.drop nr0 |>.drop nd0
        · exact ⟨rfl, _, _, _, rfl⟩
      · exact ⟨rfl, _, _, _, rfl⟩
    · exact ⟨rfl, _, _, _, rfl⟩
    · obtain ⟨rfl, cell, y6, y7, rfl⟩ := hmid
      have big : ∀ z : Int, 0 ≤ z % 2147483647 ∧ z % 2147483647 < 2147483647 := fun z => ⟨Int.emod_nonneg _ (by decide), Int.emod_lt_of_pos _ (by decide)⟩
      have big2 : ∀ z : Int, 0 ≤ z % 2147483629 ∧ z % 2147483629 < 2147483629 := fun z => ⟨Int.emod_nonneg _ (by decide), Int.emod_lt_of_pos _ (by decide)⟩
      refine ⟨_, rfl, _, _, rfl, rfl, .inr ⟨by decide, by decide⟩, _, rfl, _, _, rfl, rfl, .inr ⟨by decide, by decide⟩, _, _, rfl, rfl, _, _, rfl, rfl, .inl ⟨_, rfl, _, _, rfl, rfl, by show (0 : Int) < 2147483647; decide, ?_⟩⟩
      generalize e1 : (cell * 48271 + (0 + (i : Int)) * 69621 + 11) % 2147483647 = m1
      have b1 := big (cell * 48271 + (0 + (i : Int)) * 69621 + 11)
      rw [e1] at b1
      refine ⟨_, rfl, _, rfl, _, _, rfl, rfl, .inl ⟨by omega, by omega⟩, _, _, rfl, rfl, ⟨by decide, by decide⟩, _, rfl, _, _, rfl, rfl, .inl ⟨_, rfl, _, _, rfl, rfl, by show (0 : Int) < 2147483629; decide, ?_⟩⟩
      generalize e2 : (m1 * m1 / 4096 + m1) % 2147483629 = m2
      have b2 := big2 (m1 * m1 / 4096 + m1)
      rw [e2] at b2
      refine ⟨_, rfl, .inl ⟨rfl, _, SqL.of e6⟩, _, rfl, _, rfl, _, _, rfl, rfl, .inl ⟨by omega, by omega⟩, _, _, rfl, rfl, ⟨by decide, by decide⟩, _, rfl, _, _, rfl, rfl, .inr ⟨by decide, by decide⟩, _, _, rfl, rfl, .inl ⟨_, rfl, _, _, rfl, rfl, by show (0 : Int) < 2147483629; decide, _, _, _, rfl, rfl, e6, dsz, ?_⟩⟩
      exact ⟨_, _, _, _, rfl, (k3.cons.setT e6 (List.mem_cons_self ..)).drop nd0, ⟨rs, e3, by rw [upd_ne drn.symm]; exact e4⟩, ds ++ [_], by rw [List.length_append, e5]; rfl, by rw [upd_same, map_int_app]⟩
  · obtain ⟨y3, y5, y6, y7, rfl, k3, _, ds, e5, e6⟩ := p
    refine ⟨_, rfl, ?_⟩
    exact q d ds H2 k3 nd0 e6 (by omega)
end
end Og

namespace Og
open PySem PySem.Spec PyProof.Rows L2
section
variable {P : Program} {w : World} {K : PySem.W.Frag} {mg : Str → Option Value} {base : Heap}
def spTake : Sp := fun vs H Q _ => ∃ (h d : Addr) (m : Int), vs = [.ref h, .int m] ∧ Hd H h d ∧ 0 < m ∧
  ∀ (i : Int) (H' : Hp), 0 ≤ i → i < m → Keep [h] H H' → Hd H' h d → Q (.int i) H'
theorem has_take {k : Nat} (D : DefAt K mg "_law_take" s_law_take p_law_take) (B : Bn mg) : Has P w K mg base (k + 1) "_law_take" p_law_take spTake := by
  obtain ⟨f, fd, F, hm, hb⟩ := D.ex
  refine ⟨f, fd, F.ok sc_law_take (fun vs H Q E h => ?_) (fun cdv A outer s H vs Q E hr h => ?_), hm, F.kp, hb⟩
  · obtain ⟨a, d, m, rfl, _⟩ := h
    rfl
  obtain ⟨a, d, m, rfl, hd, hm1, q⟩ := h
  refine ⟨_, (pss_cons (ps_set (i := 2) sc_law_take.nd rfl (.inl rfl) (pe_ix ix_list (pv 0) pe_int (fun _ _ => rfl)))
    (pss_cons (ps_asg (pe_op op_add (pv 2) pe_int) (pg_sub (pv 0) pe_int set_list))
    (pss_cons (ps_set (i := 3) sc_law_take.nd rfl (.inl rfl) (pe_ix ix_list (pv 0) pe_int (fun _ _ => rfl)))
    (pss_cons (ps_if (pt_cmpR op_ge (pv 2) (pe_callB call_len_seq (by rfl) B.len PySem.boot_len (pa_cons (pv 3) pa_nil)) (nomark _)) (pss_one (ps_ret pe_int)) pss_nil)
    (pss_one (ps_ret (pe_op op_mod (pe_op op_fdiv (pe_callTy call_int1 (by rfl) B.int (by decide +kernel) (pa_cons (pe_ix ix_list (pv 3) (pv 2) (fun _ _ => rfl)) pa_nil)) pe_int) (pv 1)))))))), ?_⟩
  obtain ⟨n, ds, e1, e2, l⟩ := id hd
  refine ⟨_, rfl, _, _, _, _, rfl, rfl, SqL.of e1, rfl, ?_⟩
  refine ⟨_, rfl, _, _, rfl, rfl, _, rfl, _, _, _, _, rfl, rfl, e1, rfl, ?_⟩
  have e3 : (upd H a (.lst [.ref d, .int ((n : Int) + 1)])) a = some (.lst [.ref d, .int ((n : Int) + 1)]) := upd_same
  have e4 : (upd H a (.lst [.ref d, .int ((n : Int) + 1)])) d = some (.lst (ds.map V.int)) := by rw [upd_ne hd.ne]; exact e2
  have k1 : Keep [a] H (upd H a (.lst [.ref d, .int ((n : Int) + 1)])) := Keep.set e1 (List.mem_cons_self ..)
  have hd2 : Hd (upd H a (.lst [.ref d, .int ((n : Int) + 1)])) a d := ⟨n + 1, ds, upd_same, e4, l⟩
  refine ⟨_, rfl, _, _, _, _, rfl, rfl, SqL.of e3, rfl, ?_⟩
  refine ⟨_, rfl, _, rfl, _, _, rfl, .inl (SqL.of e4), _, _, rfl, rfl, _, rfl, ?_⟩
  refine ite2 (fun c => ?_) (fun c => ?_)
  · exact q 0 _ (by omega) hm1 k1 hd2
  · have c' : ¬ (((ds.map V.int).length : Nat) : Int) ≤ (n : Int) := of_decide_eq_false (Bool.eq_false_iff.mpr c)
    rw [List.length_map] at c'
    obtain ⟨x, hx⟩ := atI_int (ns := ds) (z := (n : Int)) (by omega) (by omega)
    refine ⟨_, rfl, _, rfl, _, _, _, _, rfl, rfl, SqL.of e4, hx, .inl ⟨_, rfl, _, _, rfl, rfl, ⟨by decide, by decide⟩, _, rfl, _, _, rfl, rfl, hm1, ?_⟩⟩
    exact q _ _ (Int.emod_nonneg _ (by omega)) (Int.emod_lt_of_pos _ hm1) k1 hd2
end
end Og

namespace Og
open PySem PySem.Spec PyProof.Rows L2
section
variable {P : Program} {w : World} {K : PySem.W.Frag} {mg : Str → Option Value} {base : Heap}
theorem str_len_app (a b : Str) : (a ++ b).length = a.length + b.length := by
  show (a.cps ++ b.cps).size = a.cps.size + b.cps.size
  simp
theorem num_fits {i : Int} (h : i.natAbs < 10 ^ 9) : (toString i : String).length ≤ 10 ∧ i.natAbs.log2 < 1920 := by
  refine ⟨int_text_length_le10 (by decide) h, ?_⟩
  have : i.natAbs.log2 ≤ i.natAbs.log2 := Nat.le_refl _
  by_cases hz : i.natAbs = 0
  · rw [hz]; decide
  · exact Nat.lt_trans ((Nat.log2_lt hz).mpr (show i.natAbs < 2 ^ 30 from Nat.lt_trans h (by decide))) (by decide)
theorem ok_BadProgram' {C G fI : Addr} {fd : FuncData} (T : ErrT K mg "BadProgram" "BadProgram.__init__" "function" s_BadProgram_init C G fI fd) : FnOk P w K mg base CX0 1 fI fd ["self", "function"] (spErr K "function") := by
  refine T.fn.ok sc_BadProgram_init (fun vs H Q E h => ?_) (fun cdv A outer s H vs Q E hr h => ?_)
  · obtain ⟨_, _, _, rfl, _⟩ := h
    rfl
  obtain ⟨a, C', i, rfl, ox, no, hi, ea, q⟩ := h
  refine ⟨_, pss_cons (ps_expr (pe_clsinit rfl T.gG T.rd T.sg T.vV (pa_cons (pv 0) (pa_cons (pe_joined (.cons pe_str (.cons (pe_fmt (pv 1)) (.cons pe_str .nil)))) pa_nil)))) (pss_one (ps_ost (pv 0) (pv 1))), ?_⟩
  have nf := num_fits hi
  have l1 : (Str.ofString (toString i)).length ≤ 10 := by rw [PySem.ofString_length]; exact nf.1
  have l0 : (Str.empty ++ Str.ofString "function ").length ≤ 100 := by decide +kernel
  have l2 : (Str.ofString " of the program is not good").length ≤ 100 := by decide +kernel
  refine ⟨_, rfl, _, rfl, ?_, _, rfl, .inr ⟨i, rfl, nf.2, _, rfl, ?_, _, rfl, ?_, ?_⟩⟩
  · exact Nat.le_trans l0 (by decide)
  · rw [str_len_app]
    exact Nat.le_trans (show _ ≤ 1000 by omega) (by decide)
  · rw [str_len_app, str_len_app]
    exact Nat.le_trans (show _ ≤ 1000 by omega) (by decide)
  · refine ⟨a, C', _, rfl, by show 1 ≤ 1000; decide, ox, ea, ?_⟩
    exact ⟨_, rfl, _, rfl, a, C', rfl, ox, no, .inl ⟨ea, fun dx hd ne => q dx hd ne⟩⟩
end
end Og

namespace Og
open PySem PySem.Spec PyProof.Rows L2
/-- a small letter; a letter or a digit -/
def Letter (c : Nat) : Prop := 97 ≤ c ∧ c ≤ 122
def Sign (c : Nat) : Prop := (97 ≤ c ∧ c ≤ 122) ∨ (48 ≤ c ∧ c ≤ 57)
/-- a word of the document -/
def IsWord (x : List Nat) : Prop := ∃ c cs, x = c :: cs ∧ Letter c ∧ (∀ y ∈ cs, Sign y) ∧ cs.length ≤ 11
theorem IsWord.ne {x : List Nat} (h : IsWord x) : x ≠ [] := by
  obtain ⟨c, cs, rfl, _⟩ := h
  simp
theorem IsWord.len {x : List Nat} (h : IsWord x) : x.length ≤ 12 := by
  obtain ⟨c, cs, rfl, _, _, l⟩ := h
  rw [List.length_cons]
  omega
theorem lit_letters : ("abcdefghijklmnopqrstuvwxyz" : Str) = tx ((List.range 26).map (· + 97)) := by decide +kernel
theorem lit_digits : ("0123456789" : Str) = tx ((List.range 10).map (· + 48)) := by decide +kernel
theorem letters_at {z : Int} (h0 : 0 ≤ z) (h : z < 26) : ∃ c, atI ((List.range 26).map (· + 97)) z = some c ∧ Letter c := by
  obtain ⟨x, h1, h2⟩ := atI_of (xs := (List.range 26).map (· + 97)) h0 (by simpa using h)
  refine ⟨x, h1, ?_⟩
  have m := List.mem_of_getElem? h2
  obtain ⟨y, hy, rfl⟩ := List.mem_map.mp m
  have := List.mem_range.mp hy
  exact ⟨by omega, by omega⟩
theorem signs_at {z : Int} (h0 : 0 ≤ z) (h : z < 36) : ∃ c, atI ((List.range 26).map (· + 97) ++ (List.range 10).map (· + 48)) z = some c ∧ Sign c := by
  obtain ⟨x, h1, h2⟩ := atI_of (xs := (List.range 26).map (· + 97) ++ (List.range 10).map (· + 48)) h0 (by simpa using h)
  refine ⟨x, h1, ?_⟩
  have m := List.mem_of_getElem? h2
  rcases List.mem_append.mp m with m | m
  · obtain ⟨y, hy, rfl⟩ := List.mem_map.mp m
    have := List.mem_range.mp hy
    exact .inl ⟨by omega, by omega⟩
  · obtain ⟨y, hy, rfl⟩ := List.mem_map.mp m
    have := List.mem_range.mp hy
    exact .inr ⟨by omega, by omega⟩
theorem four {j : Int} (h0 : 0 ≤ j) (h : j < 4) : j = 0 ∨ j = 1 ∨ j = 2 ∨ j = 3 := by omega
end Og

namespace Og
open PySem PySem.Spec PyProof.Rows L2
/-! ### drawn trees -/
mutual
def WT : Tree → Prop
  | .w x => IsWord x
  | .l ts => WTs ts
def WTs : List Tree → Prop
  | [] => True
  | t :: ts => WT t ∧ WTs ts
end
mutual
def Tree.size : Tree → Nat
  | .w _ => 1
  | .l ts => sizes ts + 1
def sizes : List Tree → Nat
  | [] => 0
  | t :: ts => t.size + sizes ts
end
theorem wt_w {x : List Nat} (h : IsWord x) : WT (.w x) := by rw [WT]; exact h
theorem wt_l {ts : List Tree} (h : WTs ts) : WT (.l ts) := by rw [WT]; exact h
theorem WT.word {x : List Nat} (h : WT (.w x)) : IsWord x := by rw [WT] at h; exact h
theorem WT.list {ts : List Tree} (h : WT (.l ts)) : WTs ts := by rw [WT] at h; exact h
theorem wts_nil : WTs [] := by rw [WTs]; trivial
theorem wts_cons {t : Tree} {ts : List Tree} (h : WT t) (r : WTs ts) : WTs (t :: ts) := by rw [WTs]; exact ⟨h, r⟩
theorem WTs.head {t : Tree} {ts : List Tree} (h : WTs (t :: ts)) : WT t := by rw [WTs] at h; exact h.1
theorem WTs.tail {t : Tree} {ts : List Tree} (h : WTs (t :: ts)) : WTs ts := by rw [WTs] at h; exact h.2
theorem WTs.app : ∀ {ts us : List Tree}, WTs ts → WTs us → WTs (ts ++ us)
  | [], us, _, g => g
  | t :: ts, us, h, g => wts_cons h.head (WTs.app h.tail g)
theorem WTs.all : ∀ {ts : List Tree}, WTs ts → ∀ t ∈ ts, WT t
  | [], _, t, m => absurd m (List.not_mem_nil)
  | u :: ts, h, t, m => by
    rcases List.mem_cons.mp m with e | m
    · rw [e]; exact h.head
    · exact WTs.all h.tail t m
theorem WTs.of : ∀ {ts : List Tree}, (∀ t ∈ ts, WT t) → WTs ts
  | [], _ => wts_nil
  | u :: ts, h => wts_cons (h u (List.mem_cons_self ..)) (WTs.of fun t m => h t (List.mem_cons_of_mem _ m))
theorem size_w (x : List Nat) : (Tree.w x).size = 1 := by rw [Tree.size]
theorem size_l (ts : List Tree) : (Tree.l ts).size = sizes ts + 1 := by rw [Tree.size]
theorem sizes_nil : sizes [] = 0 := by rw [sizes]
theorem sizes_cons (t : Tree) (ts : List Tree) : sizes (t :: ts) = t.size + sizes ts := by rw [sizes]
theorem sizes_app : ∀ (ts us : List Tree), sizes (ts ++ us) = sizes ts + sizes us
  | [], us => by rw [List.nil_append, sizes_nil, Nat.zero_add]
  | t :: ts, us => by rw [List.cons_append, sizes_cons, sizes_cons, sizes_app ts us, Nat.add_assoc]
theorem size_pos : ∀ t : Tree, 0 < t.size
  | .w x => by rw [size_w]; omega
  | .l ts => by rw [size_l]; omega
theorem len_sizes : ∀ ts : List Tree, ts.length ≤ sizes ts
  | [] => by rw [sizes_nil]; exact Nat.le_refl _
  | t :: ts => by
    have h := len_sizes ts
    have h2 := size_pos t
    rw [sizes_cons, List.length_cons]
    omega
theorem sizes_take : ∀ (ts : List Tree) (n : Nat), sizes (ts.take n) ≤ sizes ts
  | ts, 0 => by rw [List.take_zero, sizes_nil]; omega
  | [], n + 1 => by rw [List.take_nil]; omega
  | t :: ts, n + 1 => by
    rw [List.take_succ_cons, sizes_cons, sizes_cons]
    have := sizes_take ts n
    omega
theorem sizes_drop : ∀ (ts : List Tree) (n : Nat), sizes (ts.drop n) ≤ sizes ts
  | ts, 0 => by rw [List.drop_zero]; omega
  | [], n + 1 => by rw [List.drop_nil]; omega
  | t :: ts, n + 1 => by
    rw [List.drop_succ_cons, sizes_cons]
    have := sizes_drop ts n
    omega
theorem size_of_get {ts : List Tree} {i : Nat} {t : Tree} (h : ts[i]? = some t) : t.size ≤ sizes ts := by
  induction ts generalizing i with
  | nil => simp at h
  | cons u r ih =>
    rw [sizes_cons]
    cases i with
    | zero =>
      have e : u = t := Option.some.inj h
      rw [e]
      omega
    | succ j =>
      have := ih (i := j) h
      omega
/-- how many parts a drawn value has at most -/
def Most : Nat → Nat
  | 0 => 1
  | n + 1 => 1 + 11 * Most n
/-- nested at most n deep -/
def Deep : Nat → Tree → Prop
  | _, .w _ => True
  | 0, .l _ => False
  | n + 1, .l ts => ∀ t ∈ ts, Deep n t
theorem deep_w (n : Nat) (x : List Nat) : Deep n (.w x) := by cases n <;> trivial
theorem Deep.mono : ∀ {m n : Nat} {t : Tree}, m ≤ n → Deep m t → Deep n t
  | _, n, .w x, _, _ => deep_w n x
  | 0, _, .l _, _, h => h.elim
  | m + 1, 0, .l _, l, _ => absurd l (by omega)
  | m + 1, n + 1, .l ts, l, h => fun t q => Deep.mono (Nat.le_of_succ_le_succ l) (h t q)
def Drawn (n : Nat) (t : Tree) : Prop := WT t ∧ t.size ≤ Most n ∧ Deep n t
theorem Most.le (n : Nat) : Most n ≤ Most (n + 1) := by rw [show Most (n + 1) = 1 + 11 * Most n from rfl]; omega
theorem Most.mono {m n : Nat} (h : m ≤ n) : Most m ≤ Most n := by
  induction h with
  | refl => exact Nat.le_refl _
  | step _ ih => exact Nat.le_trans ih (Most.le _)
theorem most_pos (n : Nat) : 1 ≤ Most n := by
  have := Most.mono (Nat.zero_le n)
  exact this
theorem sizes_le {ts : List Tree} {b : Nat} (h : ∀ t ∈ ts, t.size ≤ b) : sizes ts ≤ ts.length * b := by
  induction ts with
  | nil => rw [sizes_nil]; omega
  | cons t r ih =>
    have h1 := h t (List.mem_cons_self ..)
    have h2 := ih fun u m => h u (List.mem_cons_of_mem _ m)
    rw [sizes_cons, List.length_cons, Nat.add_mul]
    omega
theorem sizes_split : ∀ {ts : List Tree} {n : Nat} {t : Tree}, ts[n]? = some t → sizes (ts.take n) + t.size + sizes (ts.drop (n + 1)) = sizes ts
  | [], n, t, h => by simp at h
  | u :: r, 0, t, h => by
    have e : u = t := Option.some.inj h
    subst e
    rw [List.take_zero, sizes_nil, sizes_cons, List.drop_succ_cons, List.drop_zero]
    omega
  | u :: r, n + 1, t, h => by
    have ih := sizes_split (ts := r) (n := n) (t := t) h
    rw [List.take_succ_cons, sizes_cons, sizes_cons, List.drop_succ_cons]
    omega
theorem sizes_two (ts : List Tree) (n : Nat) : sizes (ts.take n) + sizes (ts.drop n) = sizes ts := by
  have h := sizes_app (ts.take n) (ts.drop n)
  rw [List.take_append_drop] at h
  exact h.symm
theorem cutS_len2 (z : Str) (lo hi : Option Int) : (cutS z lo hi).length ≤ z.length := by
  unfold cutS
  show (List.toArray _).size ≤ _
  rw [List.size_toArray, List.length_take, List.length_drop]
  have e : z.cps.toList.length = z.length := by show z.cps.toList.length = z.cps.size; simp
  omega
end Og

namespace Og
open PySem PySem.Spec PyProof.Rows L2
theorem dT {i j : Int} (h : i = j) : decide (V.int i = V.int j) = true := by rw [h]; simp
theorem dF {i j : Int} (h : i ≠ j) : decide (V.int i = V.int j) = false := decide_eq_false fun e => h (V.int.inj e)
theorem nT {i j : Int} (h : i ≠ j) : (!decide (V.int i = V.int j)) = true := by rw [dF h]; rfl
theorem nF {i j : Int} (h : i = j) : (!decide (V.int i = V.int j)) = false := by rw [dT h]; rfl
theorem sT {a b : List Nat} (h : a = b) : decide (V.str (tx a) = V.str (tx b)) = true := by rw [h]; simp
theorem sF {a b : List Nat} (h : a ≠ b) : decide (V.str (tx a) = V.str (tx b)) = false := decide_eq_false fun e => h (tx_str e)
theorem nsT {a b : List Nat} (h : a ≠ b) : (!decide (V.str (tx a) = V.str (tx b))) = true := by rw [sF h]; rfl
theorem nsF {a b : List Nat} (h : a = b) : (!decide (V.str (tx a) = V.str (tx b))) = false := by rw [sT h]; rfl
theorem three_of {α : Type} {xs : List α} (h : xs.length = 3) : ∃ a b c, xs = [a, b, c] := by
  match xs, h with
  | [a, b, c], _ => exact ⟨a, b, c, rfl⟩
theorem Trs.three {K : PySem.W.Frag} {H : Hp} {vs : List V} {a b c : Tree} (h : Trs K H vs [a, b, c]) : ∃ x y z, vs = [x, y, z] ∧ Tr K H x a ∧ Tr K H y b ∧ Tr K H z c := by
  obtain ⟨x, r, rfl, h1, h2⟩ := h.cons
  obtain ⟨y, r, rfl, h3, h4⟩ := h2.cons
  obtain ⟨z, r, rfl, h5, h6⟩ := h4.cons
  rw [h6.nil]
  exact ⟨x, y, z, rfl, h1, h3, h5⟩
theorem Keep.updNew {S : List Addr} {H H1 : Hp} {p : Addr} {o : HO} (a : Keep S H H1) (h : H p = none) : Keep S H (upd H1 p o) := fun b u e => by
  have ne : b ≠ p := fun q => by rw [q, h] at e; cases e
  rw [upd_ne ne]
  exact a b u e
end Og
namespace Og
open PySem PySem.Spec PyProof.Rows L2
section
variable {X : Cx} {k : Nat} {x : Str} {f : Addr} {fd : FuncData} {ps : List Str} {sp : Sp} {p pos : Pos}
theorem cal0 (C : Callee X.prog X.w X.K X.mg X.base CX0 k x f fd ps sp) (hr : Room k X.A) (hg : Gl X x := by rfl) (hdb : (x == ("__debug__" : Str)) = false := by decide) : PE X (.Call (.Name x p) [] [] pos) (tCall sp [] E0 tNil) :=
  pe_call0 C.ok hr hg C.mg C.kp C.bi .nil pass0 hdb
end
/-- a loop over the signs of a text -/
theorem for_str {z : Str} {g : TG} {tb : TS} {D : Ends} {σ : L2.St} {H : Hp} (Pv : Nat → L2.St → Hp → Prop) (h0 : Pv 0 σ H)
    (hs : ∀ (i : Nat) (c : Nat) (σ : L2.St) (H : Hp), z.cps.toList[i]? = some c → Pv i σ H → g (.str ⟨#[c]⟩) σ H fun σ2 H2 => tb { D with nx := Pv (i + 1), ct := Pv (i + 1), bk := D.nx } σ2 H2) (hd : ∀ σ H, Pv z.cps.toList.length σ H → D.nx σ H) :
    ∃ W : Nat → Nat → L2.St → Hp → Prop, (∃ m, W 0 m σ H) ∧ ∀ i m σ H, W i m σ H →
      ((Its z).stop i H ∧ D.nx σ H) ∨ ((Its z).go i H ∧ ∃ N : L2.St → Hp → Prop, (∀ σ' H', N σ' H' → ∃ m', m' < m ∧ W (i + 1) m' σ' H') ∧ ∀ v H', (Its z).yld i H v H' → g v σ H' fun σ2 H2 => tb { D with nx := N, ct := N, bk := D.nx } σ2 H2) := by
  refine ⟨fun i m σ H => m = z.cps.toList.length - i ∧ i ≤ z.cps.toList.length ∧ Pv i σ H, ⟨z.cps.toList.length, rfl, Nat.zero_le _, h0⟩, ?_⟩
  rintro i m σ H ⟨rfl, hi, p⟩
  by_cases hlt : i < z.cps.toList.length
  · have hx : z.cps.toList[i]? = some z.cps.toList[i] := List.getElem?_eq_getElem hlt
    refine .inr ⟨?_, Pv (i + 1), fun σ' H' p' => ⟨z.cps.toList.length - (i + 1), by omega, rfl, hlt, p'⟩, fun v H' y => ?_⟩
    · show i < z.cps.size
      simpa using hlt
    · obtain ⟨rfl, c, hc, rfl⟩ := y
      exact hs i c σ _ (by rw [Array.getElem?_toList]; exact hc) p
  · have e : i = z.cps.toList.length := by omega
    subst e
    exact .inl ⟨by show z.cps.size ≤ _; simp, hd σ H p⟩
end Og
namespace Og
open PySem PySem.Spec PyProof.Rows L2
/-- len of a list or tuple -/
def rLenK (K : PySem.W.Frag) : List V → Hp → VK → Prop := fun xs H Q => ∃ p ys, xs = [V.ref p] ∧ (SqL K H p ys ∨ SqT K H p ys) ∧ Q (.int (ys.length : Nat)) H
end Og

namespace Og
open PySem PySem.Spec PyProof.Rows L2
open PySem.NumText (AllDigits digitsVal)
theorem isi_strV {K : PySem.W.Frag} {H : Hp} {v : V} {t : Tree} (h : Tr K H v t) : ∃ ty u, ClsV (.ty "str") u ∧ TyX K H v ty ∧ PySem.W.kitOne K ty u = some t.isW := isi_str h
section
variable {P : Program} {w : World} {K : PySem.W.Frag} {mg : Str → Option Value} {base : Heap}
/-! ### _looks_like_function -/
def spLooks (K : PySem.W.Frag) : Sp := fun vs H Q _ => ∃ (v : V) (t : Tree), vs = [v] ∧ Tr K H v t ∧ ∀ b : Bool, (b = true ↔ ∃ n ps bd, t = .l [.w n, .l ps, bd]) → Q (.bl b) H
theorem has_looks {k : Nat} (D : DefAt K mg "_looks_like_function" s_looks_like_function p_looks_like_function) (B : Bn mg) : Has P w K mg base (k + 1) "_looks_like_function" p_looks_like_function (spLooks K) := by
  obtain ⟨f, fd, F, hm, hb⟩ := D.ex
  refine ⟨f, fd, F.ok sc_looks_like_function (fun vs H Q E h => ?_) (fun cdv A outer s H vs Q E hr h => ?_), hm, F.kp, hb⟩
  · obtain ⟨_, _, rfl, _⟩ := h
    rfl
  obtain ⟨v, t, rfl, tv, q⟩ := h
  refine ⟨_, (pss_cons (ps_if (PW.pt (pw_or (pt_not (pt_val (pe_callB call_isi (by rfl) B.isinstance (by decide +kernel) (pa_cons (pv 0) (pa_cons (pe_bltn (v := .ty "tuple") rfl B.tuple (by decide +kernel) rfl) pa_nil))))) (pw_or1 (pt_cmpR op_ne (pe_callB call_len_seq (by rfl) B.len PySem.boot_len (pa_cons (pv 0) pa_nil)) pe_int (nomark _))))) (pss_one (ps_ret pe_bl)) pss_nil)
    (pss_one (ps_ret (pe_and (pe_callB call_isi (by rfl) B.isinstance (by decide +kernel) (pa_cons (pe_ix ix_tup (pv 0) pe_int (fun _ _ => rfl)) (pa_cons (pe_bltn (v := .ty "str") rfl B.str (by decide +kernel) rfl) pa_nil))) (pe_one (pe_callB call_isi (by rfl) B.isinstance (by decide +kernel) (pa_cons (pe_ix ix_tup (pv 0) pe_int (fun _ _ => rfl)) (pa_cons (pe_bltn (v := .ty "tuple") rfl B.tuple (by decide +kernel) rfl) pa_nil)))))))), ?_⟩
  obtain ⟨ty, u, q1, q2, q3⟩ := isi_tup tv
  refine ⟨_, rfl, _, _, ty, u, _, rfl, q1, q2, q3, _, rfl, ?_⟩
  cases t with
  | w x => exact iteT (iteT (q false ⟨fun h => (by cases h), fun ⟨_, _, _, h⟩ => (by cases h)⟩))
  | l ts =>
    refine iteF ?_
    obtain ⟨a, vs, rfl, hS, r⟩ := tv.list
    have lv := r.length
    refine ⟨_, rfl, a, vs, rfl, .inr hS, rfl, _, rfl, ?_⟩
    by_cases l3 : ts.length = 3
    · rw [nF (by rw [lv, l3]; rfl)]
      refine iteF ?_
      obtain ⟨t0, t1, t2, rfl⟩ := three_of l3
      obtain ⟨x, y, z, rfl, r0, r1, r2⟩ := r.three
      obtain ⟨ty0, u0, p1, p2, p3⟩ := isi_str r0
      refine ⟨_, rfl, a, _, _, x, rfl, rfl, hS, rfl, _, _, ty0, u0, _, rfl, p1, p2, p3, _, rfl, ?_⟩
      cases t0 with
      | l us =>
        refine iteF ?_
        exact q false ⟨fun h => (by cases h), fun ⟨_, _, _, h⟩ => (by have := (List.cons.inj (Tree.l.inj h)).1; cases this)⟩
      | w n =>
        refine iteT ?_
        obtain ⟨ty1, u1, w1, w2, w3⟩ := isi_tup r1
        refine ⟨_, rfl, a, _, _, y, rfl, rfl, hS, rfl, _, _, ty1, u1, _, rfl, w1, w2, w3, ?_⟩
        cases t1 with
        | w m => exact q _ ⟨fun h => (by cases h), fun ⟨_, _, _, h⟩ => (by have := (List.cons.inj (List.cons.inj (Tree.l.inj h)).2).1; cases this)⟩
        | l ps => exact q _ ⟨fun _ => ⟨n, ps, t2, rfl⟩, fun _ => rfl⟩
    · rw [nT (by rw [lv]; intro e; exact l3 (by omega))]
      refine iteT ?_
      refine q false ⟨fun h => (by cases h), fun ⟨n, ps, bd, h⟩ => absurd (by rw [Tree.l.inj h]; rfl) l3⟩
end
end Og

namespace Og
open PySem PySem.Spec PyProof.Rows L2
open PySem.NumText (AllDigits digitsVal)
section
variable {P : Program} {w : World} {K : PySem.W.Frag} {mg : Str → Option Value} {base : Heap}
/-! ### _is_good_name -/
def Ascii (x : List Nat) : Prop := ∀ c ∈ x, c < 128
def spGName : Sp := fun vs H Q _ => ∃ (x : List Nat) (n : Nat), vs = [.str (tx x), .int n] ∧ Ascii x ∧ x ≠ [] ∧ x.length ≤ 12 ∧ ∀ b : Bool, (b = true ↔ GoodName n x) → Q (.bl b) H
theorem has_gname {k : Nat} {d_SPECIAL_WORDS : Addr} (m_SPECIAL_WORDS : mg "SPECIAL_WORDS" = some (.ref d_SPECIAL_WORDS)) (D_SPECIAL_WORDS : DictD K w specials d_SPECIAL_WORDS) (D : DefAt K mg "_is_good_name" s_is_good_name p_is_good_name) (B : Bn mg) : Has P w K mg base (k + 1) "_is_good_name" p_is_good_name spGName := by
  obtain ⟨f, fd, F, hm, hb⟩ := D.ex
  refine ⟨f, fd, F.ok sc_is_good_name (fun vs H Q E h => ?_) (fun cdv A outer s H vs Q E hr h => ?_), hm, F.kp, hb⟩
  · obtain ⟨_, _, rfl, _⟩ := h
    rfl
  obtain ⟨x, n, rfl, asc, ne, len, q⟩ := h
  refine ⟨_, (pss_cons (ps_if (pt_cmpR (op_inC D_SPECIAL_WORDS) (pv 0) (pe_glob (v := .ref d_SPECIAL_WORDS) rfl m_SPECIAL_WORDS rfl) (by rfl)) (pss_one (ps_ret pe_bl)) pss_nil)
    (pss_cons (ps_set (i := 2) sc_is_good_name.nd rfl (.inl rfl) (pe_slice sl_str (pv 0) (po_some pe_int) po_none))
    (pss_cons (ps_if (PW.pt (pw_or (pt_not (pt_val (pe_m1 PySem.F.slot_str_startswith PySem.F.type_str_startswith mt_startswith (pv 0) pe_str))) (pw_or1 (pt_not (pt_val (pe_m0 PySem.F.slot_str_isdigit PySem.F.type_str_isdigit mt_isdigit (pv 2))))))) (pss_one (ps_ret pe_bl)) pss_nil)
    (pss_cons (ps_set (i := 3) sc_is_good_name.nd rfl (.inl rfl) (pe_callTy call_int_str (by rfl) B.int (by decide +kernel) (pa_cons (pv 2) pa_nil)))
    (pss_one (ps_ret (pe_and (pe_cmpR op_eq (pv 2) (pe_callTy call_str_int (by rfl) B.str (by decide +kernel) (pa_cons (pv 3) pa_nil)) (nomark _)) (pe_one (pe_cmpR op_lt (pv 3) (pv 1) (nomark _)))))))))), ?_⟩
  refine ⟨_, rfl, x, rfl, rfl, _, rfl, ?_⟩
  rw [spAr_isSome]
  cases hs : spAr x with
  | some k0 => exact iteT (q false ⟨fun h => (by cases h), fun h => (by have := h.1; rw [hs] at this; cases this)⟩)
  | none =>
  refine iteF ?_
  have l1 : 1 ≤ x.length := List.length_pos_iff.mpr ne
  have e1 := cutS_from x (i := 1) l1
  refine ⟨_, rfl, _, rfl, _, rfl, by rw [tx_len]; exact sizeL (by omega), ?_⟩
  rw [show (some (1 : Int)) = some ((1 : Nat) : Int) from rfl, e1]
  have yes : (∀ ds, x = 102 :: ds → ds ≠ [] → AllDigits ds → False) → Q (.bl true) H := fun h => q true ⟨fun _ => ⟨hs, fun ds e1 e2 e3 => (h ds e1 e2 e3).elim⟩, fun _ => rfl⟩
  refine ⟨_, rfl, ⟨_, rfl⟩, _, _, rfl, rfl, _, rfl, ?_⟩
  rw [lit_f, sw_f]
  by_cases hf : x.head? = some 102
  rotate_left
  · rw [decide_eq_false hf]
    exact iteT (iteT (yes fun ds e _ _ => hf (by rw [e]; rfl)))
  rw [decide_eq_true hf]
  obtain ⟨ds, rfl⟩ : ∃ ds, x = 102 :: ds := by
    cases x with
    | nil => cases hf
    | cons c r => exact ⟨r, by rw [Option.some.inj hf]⟩
  have asc2 : ∀ c ∈ ds, c < 128 := fun c m => asc c (List.mem_cons_of_mem _ m)
  refine iteF ?_
  refine ⟨_, rfl, ⟨_, rfl⟩, _, rfl, rfl, trivial, _, rfl, ?_⟩
  rw [show List.drop 1 (102 :: ds) = ds from rfl]
  cases hd : Txt.isdigit (tx ds) with
  | false =>
    refine iteT (yes fun ds' e h1 h2 => ?_)
    have := (List.cons.inj e).2
    subst this
    rw [(isdigit_iff asc2).mpr ⟨h1, h2⟩] at hd
    cases hd
  | true =>
    obtain ⟨dn, da⟩ := (isdigit_iff asc2).mp hd
    have dl : ds.length ≤ 11 := by rw [List.length_cons] at len; omega
    have dv : digitsVal ds < 10 ^ 11 := Nat.lt_of_lt_of_le (digitsVal_lt _ ds rfl da) (Nat.pow_le_pow_right (by decide) dl)
    refine iteF ?_
    refine ⟨_, rfl, tx ds, ((digitsVal ds : Nat) : Int), rfl, intText_digits da dn (by rw [tx_len]; omega), by rw [tx_len]; omega, ?_⟩
    have gn : GoodName n (102 :: ds) ↔ (ds = [48] ∨ ds.head? ≠ some 48) ∧ digitsVal ds < n := by
      constructor
      · intro h
        exact h.2 ds rfl dn da
      · intro h
        refine ⟨hs, fun ds' e _ _ => ?_⟩
        have := (List.cons.inj e).2
        subst this
        exact h
    refine ⟨_, rfl, _, rfl, _, rfl, ?_, rfl, _, rfl, ?_⟩
    · rw [Int.natAbs_natCast]
      by_cases z : digitsVal ds = 0
      · rw [z]; decide
      · exact Nat.lt_trans ((Nat.log2_lt z).mpr (show digitsVal ds < 2 ^ 40 from Nat.lt_trans dv (by decide))) (by decide)
    by_cases hz : ds = [48] ∨ ds.head? ≠ some 48
    · rw [(str_digits da dn).mpr hz, sT rfl]
      refine iteT ⟨_, rfl, _, rfl, _, _, rfl, rfl, q _ ?_⟩
      rw [gn, decide_eq_true_eq]
      constructor
      · intro h
        exact ⟨hz, by omega⟩
      · intro h
        have := h.2
        omega
    · have : ¬ V.str (tx ds) = V.str (Str.ofString (toString ((digitsVal ds : Nat) : Int))) := fun e => hz ((str_digits da dn).mp (V.str.inj e).symm)
      rw [decide_eq_false this]
      exact iteF (q false ⟨fun h => (by cases h), fun h => absurd (gn.mp h).1 hz⟩)
end
end Og

namespace Og
open PySem PySem.Spec PyProof.Rows L2
open PySem.NumText (AllDigits digitsVal)
/-- the dict of what can be called -/
def CallD (H : Hp) (cd : Addr) (fs : List Tree) : Prop := ∃ kvs : List (L2.Key × V), H cd = some (.dK kvs) ∧ ∀ x : List Nat, valV kvs (Sum.inr (tx x)) = (arity fs x).map fun k => V.int (k : Nat)
theorem CallD.keep {S : List Addr} {H H1 : Hp} {cd : Addr} {fs : List Tree} (h : CallD H cd fs) (k : Keep S H H1) : CallD H1 cd fs := by
  obtain ⟨kvs, e, r⟩ := h
  refine ⟨kvs, ?_, r⟩
  rcases k cd _ e with q | ⟨_, _, _, q, _⟩
  · exact q
  · cases q
theorem tru_tup {K : PySem.W.Frag} {H : Hp} {p : Addr} {xs : List V} (h : SqT K H p xs) : TruV K (.ref p) H (!xs.isEmpty) := .inr (.inl ⟨xs, h, rfl⟩)
section
variable {P : Program} {w : World} {K : PySem.W.Frag} {mg : Str → Option Value} {base : Heap}
/-! ### _are_good_parameters -/
def spGPs (K : PySem.W.Frag) : Sp := fun vs H Q _ => ∃ (v : V) (ps : List Tree), vs = [v] ∧ Tr K H v (.l ps) ∧ ∀ (b : Bool) (H' : Hp), (b = true ↔ GoodPs ps) → Keep [] H H' → Q (.bl b) H'
theorem has_gps {k : Nat} {d_SPECIAL_WORDS : Addr} (m_SPECIAL_WORDS : mg "SPECIAL_WORDS" = some (.ref d_SPECIAL_WORDS)) (D_SPECIAL_WORDS : DictD K w specials d_SPECIAL_WORDS) (D : DefAt K mg "_are_good_parameters" s_are_good_parameters p_are_good_parameters) (B : Bn mg) (M : Mc mg) : Has P w K mg base (k + 1) "_are_good_parameters" p_are_good_parameters (spGPs K) := by
  obtain ⟨f, fd, F, hm, hb⟩ := D.ex
  obtain ⟨_, M_MOST_PARAMETERS⟩ := M.MOST_PARAMETERS
  refine ⟨f, fd, F.ok sc_are_good_parameters (fun vs H Q E h => ?_) (fun cdv A outer s H vs Q E hr h => ?_), hm, F.kp, hb⟩
  · obtain ⟨_, _, rfl, _⟩ := h
    rfl
  obtain ⟨v, ps, rfl, tv, q⟩ := h
  refine ⟨_, (pss_cons (ps_if (pt_cmpR op_gt (pe_callB call_len_seq (by rfl) B.len PySem.boot_len (pa_cons (pv 0) pa_nil)) (pe_glob (v := .int 12) rfl M_MOST_PARAMETERS ⟨_, rfl⟩) (nomark _)) (pss_one (ps_ret pe_bl)) pss_nil)
    (pss_cons (ps_set (i := 1) sc_are_good_parameters.nd rfl (.inl rfl) (pe_callTy0 cr_set0K (by rfl) B.set (by decide +kernel)))
    (pss_cons (ps_for PassesOwn.never rfl (pi_tup (pv 0)) (pg_name (i := 2) sc_are_good_parameters.nd rfl (.inl rfl))
      (pss_cons (ps_if (PW.pt (pw_or (pt_not (pt_val (pe_callB call_isi (by rfl) B.isinstance (by decide +kernel) (pa_cons (pv 2) (pa_cons (pe_bltn (v := .ty "str") rfl B.str (by decide +kernel) rfl) pa_nil))))) (pw_or (pt_cmpR (op_inC D_SPECIAL_WORDS) (pv 2) (pe_glob (v := .ref d_SPECIAL_WORDS) rfl m_SPECIAL_WORDS rfl) (by rfl)) (pw_or1 (pt_cmpR or_sinK (pv 2) (pv 1) (by rfl)))))) (pss_one (ps_ret pe_bl)) pss_nil)
      (pss_one (ps_expr (pe_saddK (pv 1) (pa_cons (pv 2) pa_nil))))))
    (pss_one (ps_ret pe_bl))))), ?_⟩
  obtain ⟨a, vs, rfl, hS, r⟩ := tv.list
  have lv := r.length
  refine ⟨_, rfl, a, vs, rfl, .inr hS, _, _, rfl, rfl, _, rfl, ?_⟩
  by_cases hl : ps.length ≤ 12
  rotate_left
  · rw [decide_eq_true (show (12 : Int) < ((vs.length : Nat) : Int) by omega)]
    exact iteT (q false H ⟨fun h => (by cases h), fun h => absurd h.1 hl⟩ Keep.refl)
  rw [decide_eq_false (show ¬ (12 : Int) < ((vs.length : Nat) : Int) by omega)]
  refine iteF ?_
  refine ⟨rfl, fun e ne => ?_⟩
  refine ⟨_, rfl, a, rfl, ⟨_, (Keep.new (S := []) ne).sqT hS⟩, ?_⟩
  refine for_tup (K := K) (a := a) (xs := vs) (fun i σ H' => ∃ (y2 : Option V) (S : L2.Key → Bool) (n : Nat), σ = [some (.ref a), some (.ref e), y2] ∧ Keep [] H H' ∧ H' e = some (SetK P w e S n) ∧ n ≤ i ∧
      (∀ x : List Nat, S (Sum.inr (tx x)) = true ↔ ∃ j, j < i ∧ ps[j]? = some (.w x)) ∧ ∀ (j : Nat) (t : Tree), j < i → ps[j]? = some t → ∃ x, t = .w x ∧ spAr x = none ∧ ∀ j', j' < j → ps[j']? ≠ some (.w x))
    ⟨none, _, 0, rfl, Keep.new ne, upd_same, Nat.le_refl _, fun x => ⟨fun h => (by cases h), fun ⟨j, h, _⟩ => absurd h (Nat.not_lt_zero _)⟩, fun j t h => absurd h (Nat.not_lt_zero _)⟩ (fun i σ H' _ pw => ?_) (fun i z σ H1 hz pw => ?_) (fun σ H1 pw => ?_)
  · obtain ⟨_, _, _, _, k1, _⟩ := pw
    exact k1.sqT hS
  · obtain ⟨y2, S, n, rfl, k1, eS, ni, hS1, good⟩ := pw
    have il : i < vs.length := (List.getElem?_eq_some_iff.mp hz).1
    have hg : ps[i]? = some ps[i] := List.getElem?_eq_getElem (by omega)
    obtain ⟨z', hz', tz⟩ := r.get hg
    rw [hz] at hz'
    cases hz'
    generalize ht : ps[i] = t at hg tz
    have tz1 := tz.keep k1
    have no : (¬ ∃ x, t = .w x ∧ spAr x = none ∧ ∀ j', j' < i → ps[j']? ≠ some (.w x)) → Q (.bl false) H1 := fun h => q false H1 ⟨fun h => (by cases h), fun g => absurd (g.2 i t hg) h⟩ k1
    obtain ⟨ty, u, q1, q2, q3⟩ := isi_str tz1
    refine ⟨_, rfl, _, _, ty, u, _, rfl, q1, q2, q3, _, rfl, ?_⟩
    cases t with
    | l us => exact iteT (iteT (no fun ⟨x, e, _⟩ => (by cases e)))
    | w x =>
      refine iteF ?_
      have ez := tz1.word
      subst ez
      refine ⟨_, rfl, x, rfl, rfl, _, rfl, ?_⟩
      rw [spAr_isSome]
      cases hs : spAr x with
      | some k0 => exact iteT (iteT (no fun ⟨x', e, h, _⟩ => (by have := Tree.w.inj e; subst this; rw [hs] at h; cases h)))
      | none =>
        refine iteF ?_
        refine ⟨_, rfl, _, rfl, Sum.inr (tx x), e, S, n, rfl, rfl, eS, S (Sum.inr (tx x)), rfl, ?_⟩
        cases hk : S (Sum.inr (tx x)) with
        | true =>
          obtain ⟨j, j1, j2⟩ := (hS1 x).mp hk
          exact iteT (no fun ⟨x', e', _, h⟩ => (by have := Tree.w.inj e'; subst this; exact h j j1 j2))
        | false =>
          have fresh : ∀ j', j' < i → ps[j']? ≠ some (.w x) := fun j' l h => by
            rw [(hS1 x).mpr ⟨j', l, h⟩] at hk
            cases hk
          refine iteF ?_
          refine ⟨_, rfl, ⟨_, _, _, rfl, eS⟩, _, rfl, e, Sum.inr (tx x), S, n, rfl, rfl, eS, ?_, ?_⟩
          · exact Nat.lt_of_le_of_lt (show n + 1 ≤ 1000 by omega) (by decide)
          refine ⟨_, _, _, rfl, k1.updNew ne, upd_same, ?_, fun y => ?_, fun j t h1 h2 => ?_⟩
          · split <;> omega
          · rw [Bool.or_eq_true, decide_eq_true_eq, hS1]
            constructor
            · rintro (⟨j, h1, h2⟩ | h)
              · exact ⟨j, by omega, h2⟩
              · have := tx_inj (Sum.inr.inj h)
                subst this
                exact ⟨i, Nat.lt_succ_self _, hg⟩
            · rintro ⟨j, h1, h2⟩
              by_cases ji : j < i
              · exact .inl ⟨j, ji, h2⟩
              · have : j = i := by omega
                subst this
                rw [hg] at h2
                right
                rw [Tree.w.inj (Option.some.inj h2)]
          · by_cases ji : j < i
            · exact good j t ji h2
            · have : j = i := by omega
              subst this
              rw [hg] at h2
              exact ⟨x, (Option.some.inj h2).symm, hs, fresh⟩
  · obtain ⟨y2, S, n, rfl, k1, eS, ni, hS1, good⟩ := pw
    exact q true H1 ⟨fun _ => ⟨hl, fun i t h => good i t (by have := (List.getElem?_eq_some_iff.mp h).1; omega) h⟩, fun _ => rfl⟩ k1
/-! ### _has_right_parts -/
def spRp (K : PySem.W.Frag) : Sp := fun vs H Q _ => ∃ (v : V) (cd : Addr) (ts fs : List Tree), vs = [v, .ref cd] ∧ Tr K H v (.l ts) ∧ CallD H cd fs ∧ ∀ b : Bool, (b = true ↔ Right fs ts) → Q (.bl b) H
theorem has_rp {k : Nat} {d_SPECIAL_WORDS : Addr} (m_SPECIAL_WORDS : mg "SPECIAL_WORDS" = some (.ref d_SPECIAL_WORDS)) (D_SPECIAL_WORDS : DictD K w specials d_SPECIAL_WORDS) (D : DefAt K mg "_has_right_parts" s_has_right_parts p_has_right_parts) (B : Bn mg) : Has P w K mg base (k + 1) "_has_right_parts" p_has_right_parts (spRp K) := by
  obtain ⟨f, fd, F, hm, hb⟩ := D.ex
  refine ⟨f, fd, F.ok sc_has_right_parts (fun vs H Q E h => ?_) (fun cdv A outer s H vs Q E hr h => ?_), hm, F.kp, hb⟩
  · obtain ⟨_, _, _, _, rfl, _⟩ := h
    rfl
  obtain ⟨v, cd, ts, fs, rfl, tv, cD, q⟩ := h
  refine ⟨_, (pss_cons (ps_if (PW.pt (pw_or (pt_not (pt_truth (pv 0) (by intro _; rfl))) (pw_or1 (pt_not (pt_val (pe_callB call_isi (by rfl) B.isinstance (by decide +kernel) (pa_cons (pe_ix ix_tup (pv 0) pe_int (fun _ _ => rfl)) (pa_cons (pe_bltn (v := .ty "str") rfl B.str (by decide +kernel) rfl) pa_nil)))))))) (pss_one (ps_ret pe_bl)) pss_nil)
    (pss_cons (ps_set (i := 2) sc_has_right_parts.nd rfl (.inl rfl) (pe_ix ix_tup (pv 0) pe_int (fun _ _ => rfl)))
    (pss_cons (ps_set (i := 3) sc_has_right_parts.nd rfl (.inl rfl) (pe_op op_sub (pe_callB call_len_seq (by rfl) B.len PySem.boot_len (pa_cons (pv 0) pa_nil)) pe_int))
    (pss_cons (ps_if (pt_cmpR (op_inC D_SPECIAL_WORDS) (pv 2) (pe_glob (v := .ref d_SPECIAL_WORDS) rfl m_SPECIAL_WORDS rfl) (by rfl)) (pss_one (ps_ret (pe_cmpR op_eq (pv 3) (pe_ix ix_kdict (pe_glob (v := .ref d_SPECIAL_WORDS) rfl m_SPECIAL_WORDS rfl) (pv 2) (fun _ _ => rfl)) (nomark _)))) pss_nil)
    (pss_one (ps_ret (pe_and (pe_cmp (pc_din (hu_of hr) (pv 2) (pv 1)) rfl) (pe_one (pe_cmpR op_eq (pv 3) (pe_dget (hu_of hr) (pv 1) (pv 2) (fun _ _ => rfl)) (nomark _)))))))))), ?_⟩
  obtain ⟨a, vs, rfl, hS, r⟩ := tv.list
  refine ⟨_, rfl, _, tru_tup hS, ?_⟩
  rw [emp_iff r]
  cases ts with
  | nil => exact iteT (iteT (q false ⟨fun h => (by cases h), fun ⟨n, r, e, _⟩ => (by cases e)⟩))
  | cons t0 rest =>
    refine iteF ?_
    obtain ⟨v0, vr, rfl, r0, rr⟩ := r.cons
    have lr := rr.length
    obtain ⟨ty, u, q1, q2, q3⟩ := isi_str r0
    refine ⟨_, rfl, a, _, _, v0, rfl, rfl, hS, atI_zero _ _, _, _, ty, u, _, rfl, q1, q2, q3, _, rfl, ?_⟩
    cases t0 with
    | l us => exact iteT (q false ⟨fun h => (by cases h), fun ⟨n, r, e, _⟩ => (by have := (List.cons.inj e).1; cases this)⟩)
    | w n =>
      refine iteF ?_
      have e0 := r0.word
      subst e0
      have right : Right fs (.w n :: rest) ↔ parts fs n = some rest.length := by
        constructor
        · rintro ⟨n', r', e, h⟩
          have e1 := Tree.w.inj (List.cons.inj e).1
          have e2 := (List.cons.inj e).2
          subst e1 e2
          exact h
        · intro h
          exact ⟨n, rest, rfl, h⟩
      refine ⟨_, rfl, a, _, _, _, rfl, rfl, hS, atI_zero _ _, ?_⟩
      refine ⟨_, rfl, a, _, rfl, .inr hS, _, _, rfl, rfl, ?_⟩
      refine ⟨_, rfl, n, rfl, rfl, _, rfl, ?_⟩
      rw [spAr_isSome]
      have el : (((V.str (tx n) :: vr).length : Nat) : Int) - 1 = (rest.length : Nat) := by rw [List.length_cons, lr]; omega
      cases hs : spAr n with
      | some k0 =>
        have pe : parts fs n = some k0 := by unfold parts; rw [hs]
        have hf : ∃ p, specials.find? (fun p => decide (p.1 = n)) = some p ∧ p.2 = k0 := by
          unfold spAr at hs
          cases h : specials.find? (fun p => decide (p.1 = n)) with
          | none => rw [h] at hs; cases hs
          | some p => rw [h] at hs; exact ⟨p, rfl, Option.some.inj hs⟩
        obtain ⟨p, hf1, hf2⟩ := hf
        refine iteT ⟨_, rfl, _, rfl, d_SPECIAL_WORDS, tx n, _, rfl, rfl, D_SPECIAL_WORDS.item hf1, rfl, q _ ?_⟩
        rw [right, pe, decide_eq_true_eq, hf2]
        show V.int ((((V.str (tx n) :: vr).length : Nat) : Int) - 1) = _ ↔ _
        rw [el]
        constructor
        · intro h
          have := V.int.inj h
          exact congrArg some (by omega)
        · intro h
          rw [Option.some.inj h]
      | none =>
        have pe : parts fs n = arity fs n := by unfold parts; rw [hs]
        obtain ⟨kvs, ek, rel⟩ := id cD
        have rn := rel n
        refine iteF ⟨_, rfl, _, rfl, cd, _, rfl, DGet.k (k := Sum.inr (tx n)) ek, ?_⟩
        cases ha : arity fs n with
        | none =>
          rw [rn, ha]
          exact ⟨_, rfl, iteF (q false ⟨fun h => (by cases h), fun h => (by rw [right, pe, ha] at h; cases h)⟩)⟩
        | some m =>
          have dg : DGet H cd (.str (tx n)) (some (V.int (m : Nat))) := by
            have := DGet.k (k := Sum.inr (tx n)) ek
            rw [rn, ha] at this
            exact this
          rw [rn, ha]
          refine ⟨_, rfl, iteT ⟨_, rfl, _, rfl, _, rfl, cd, _, rfl, dg, rfl, q _ ?_⟩⟩
          rw [right, pe, ha, decide_eq_true_eq]
          show V.int ((((V.str (tx n) :: vr).length : Nat) : Int) - 1) = _ ↔ _
          rw [el]
          constructor
          · intro h
            have := V.int.inj h
            exact congrArg some (by omega)
          · intro h
            rw [Option.some.inj h]
end
end Og

namespace Og
open PySem PySem.Spec PyProof.Rows L2
open PySem.NumText (AllDigits digitsVal)
/-- a text among texts -/
theorem inV_words {x : List Nat} : ∀ {ps : List Tree} {vs : List V} {K : PySem.W.Frag} {H : Hp}, Trs K H vs ps → (∀ t ∈ ps, t.isW = true) → (inV (.str (tx x)) vs = true ↔ Tree.w x ∈ ps)
  | [], vs, K, H, r, _ => by
    rw [r.nil]
    exact ⟨fun h => (by cases h), fun h => absurd h (List.not_mem_nil)⟩
  | t :: ps, vs, K, H, r, hw => by
    obtain ⟨v, vr, rfl, r0, rr⟩ := r.cons
    have ih := inV_words (x := x) rr fun u m => hw u (List.mem_cons_of_mem _ m)
    cases t with
    | l us => have := hw _ (List.mem_cons_self ..); cases this
    | w y =>
      have e := r0.word
      subst e
      show (eqV (.str (tx y)) (.str (tx x)) || inV (.str (tx x)) vr) = true ↔ _
      rw [Bool.or_eq_true, ih, List.mem_cons]
      have h1 : eqV (.str (tx y)) (.str (tx x)) = true ↔ Tree.w x = Tree.w y := by
        show (tx y == tx x) = true ↔ _
        rw [beq_iff_eq]
        exact ⟨fun e => by rw [tx_inj e], fun e => by rw [Tree.w.inj e]⟩
      rw [h1]
theorem flat_words : ∀ {ps : List Tree} {vs : List V} {K : PySem.W.Frag} {H : Hp}, Trs K H vs ps → (∀ t ∈ ps, t.isW = true) → vs.all flatV = true
  | [], vs, K, H, r, _ => by rw [r.nil]; rfl
  | t :: ps, vs, K, H, r, hw => by
    obtain ⟨v, vr, rfl, r0, rr⟩ := r.cons
    have ih := flat_words rr fun u m => hw u (List.mem_cons_of_mem _ m)
    cases t with
    | l us => have := hw _ (List.mem_cons_self ..); cases this
    | w y =>
      rw [r0.word, List.all_cons, ih]
      rfl
theorem lit_q : ("quote" : Str) = tx qw := by decide +kernel
section
variable {P : Program} {w : World} {K : PySem.W.Frag} {mg : Str → Option Value} {base : Heap}
/-! ### _is_good_body -/
def spGBody (K : PySem.W.Frag) : Sp := fun vs H Q _ => ∃ (v pv : V) (cd : Addr) (t : Tree) (ps fs : List Tree), vs = [v, pv, .ref cd] ∧ Tr K H v t ∧ Tr K H pv (.l ps) ∧ (∀ t ∈ ps, t.isW = true) ∧ CallD H cd fs ∧ t.size ≤ 300000 ∧
  ∀ (b : Bool) (H' : Hp), (b = true ↔ GoodE fs ps t) → Keep [] H H' → Q (.bl b) H'
theorem has_gbody {k : Nat} (D : DefAt K mg "_is_good_body" s_is_good_body p_is_good_body) (B : Bn mg) (c1 : Has P w K mg base k "_has_right_parts" p_has_right_parts (spRp K)) : Has P w K mg base (k + 1) "_is_good_body" p_is_good_body (spGBody K) := by
  obtain ⟨f, fd, F, hm, hb⟩ := D.ex
  obtain ⟨_, _, c_has_right_parts⟩ := c1
  refine ⟨f, fd, F.ok sc_is_good_body (fun vs H Q E h => ?_) (fun cdv A outer s H vs Q E hr h => ?_), hm, F.kp, hb⟩
  · obtain ⟨_, _, _, _, _, _, rfl, _⟩ := h
    rfl
  obtain ⟨v, pv0, cd, t, ps, fs, rfl, tv, tp, pw, cD, sz, q⟩ := h
  refine ⟨_, (pss_cons (ps_set (i := 3) sc_is_good_body.nd rfl (.inl rfl) (pe_lst (pa_cons (pv 0) pa_nil)))
    (pss_cons (ps_while PassesOwn.never (pt_truth (pv 3) (by intro _; rfl)) (pss_cons (ps_set (i := 4) sc_is_good_body.nd rfl (.inl rfl) (pe_bm0 PySem.F.plainAttrs_list PySem.F.slot_list_pop PySem.F.type_list_pop mt_pop (pv 3)))
      (pss_one (ps_if (pt_val (pe_callB call_isi (by rfl) B.isinstance (by decide +kernel) (pa_cons (pv 4) (pa_cons (pe_bltn (v := .ty "str") rfl B.str (by decide +kernel) rfl) pa_nil)))) (pss_one (ps_if (pt_cmpR op_notIn_seq (pv 4) (pv 1) (by rfl)) (pss_one (ps_ret pe_bl)) pss_nil)) (pss_one (ps_if (pt_not (pt_val (cal c_has_right_parts hr rfl (pa_cons (pv 4) (pa_cons (pv 2) pa_nil))))) (pss_one (ps_ret pe_bl)) (pss_one (ps_if (pt_cmpR op_ne (pe_ix ix_tup (pv 4) pe_int (fun _ _ => rfl)) pe_str (nomark _)) (pss_one (ps_expr (pe_bm PySem.F.plainAttrs_list PySem.F.slot_list_extend PySem.F.type_list_extend mt_extendT (pv 3) (pa_cons (pe_slice sl_tupA (pv 4) (po_some pe_int) po_none) pa_nil)))) pss_nil))))))))
    (pss_one (ps_ret pe_bl)))), ?_⟩
  refine ⟨_, rfl, by show (1 : Nat) ≤ sizeLine; decide, fun p np => ?_⟩
  have k0 : Keep [] H (upd H p (.lst [v])) := Keep.new np
  obtain ⟨W, hW⟩ : ∃ W : Nat → L2.St → Hp → Prop, W = fun m σ H' => ∃ (y4 : Option V) (vs : List V) (ts : List Tree), σ = [some v, some pv0, some (.ref cd), some (.ref p), y4] ∧ m = sizes ts ∧ Keep [] H H' ∧ H' p = some (.lst vs) ∧ Trs K H' vs ts ∧ sizes ts ≤ 300000 ∧ (GoodE fs ps t ↔ ∀ z ∈ ts, GoodE fs ps z) := ⟨_, rfl⟩
  refine ⟨W, ⟨sizes [t], ?_⟩, fun m σ H1 pw0 => ?_⟩
  · rw [hW]
    refine ⟨none, _, [t], rfl, rfl, k0, upd_same, Trs.one (tv.keep k0), by rw [sizes_cons, sizes_nil]; omega, ?_⟩
    exact ⟨fun h z m => (by rw [List.mem_singleton.mp m]; exact h), fun h => h t (List.mem_singleton.mpr rfl)⟩
  rw [hW] at pw0
  obtain ⟨y4, vs, ts, rfl, rfl, k1, e1, tr, sz1, iff⟩ := pw0
  have vl := tr.length
  have tl := len_sizes ts
  refine ⟨_, rfl, _, tru_list e1, ?_⟩
  rw [emp_iff tr]
  by_cases hne : ts = []
  · subst hne
    refine iteF ?_
    exact q true H1 ⟨fun _ => iff.mpr fun z m => absurd m (List.not_mem_nil), fun _ => rfl⟩ k1
  obtain ⟨ts', z, rfl⟩ := snoc_of hne
  have b0 : (!(ts' ++ [z]).isEmpty) = true := by cases ts' <;> rfl
  rw [b0]
  refine iteT ⟨fun σ' H' => ∃ m', m' < sizes (ts' ++ [z]) ∧ W m' σ' H', fun _ _ h => h, ?_⟩
  obtain ⟨vs', zv, rfl, tr', tz⟩ := tr.snoc
  rw [sizes_app, sizes_cons, sizes_nil] at sz1 ⊢
  refine ⟨_, rfl, .inl ⟨rfl, _, SqL.of e1⟩, p, _, _, rfl, rfl, e1, last_get _ _, ?_⟩
  rw [List.dropLast_concat]
  generalize hH2 : upd H1 p (.lst vs') = H2
  have k2 : Keep [p] H1 H2 := by rw [← hH2]; exact Keep.set e1 (List.mem_cons_self ..)
  have e2 : H2 p = some (.lst vs') := by rw [← hH2, upd_same]
  have k2' : Keep [] H H2 := (k1.cons.trans (k2.mono (by simp))).drop np
  have tz2 := tz.keep k2
  have tr2 := tr'.keep k2
  have tp2 := tp.keep k2'
  have cD2 := cD.keep k2'
  have split : (∀ y ∈ ts' ++ [z], GoodE fs ps y) ↔ (∀ y ∈ ts', GoodE fs ps y) ∧ GoodE fs ps z := by
    constructor
    · intro h
      exact ⟨fun y m => h y (List.mem_append.mpr (.inl m)), h z (by simp)⟩
    · rintro ⟨h1, h2⟩ y m
      rcases List.mem_append.mp m with m | m
      · exact h1 y m
      · rw [List.mem_singleton.mp m]; exact h2
  have no : ¬ GoodE fs ps z → Q (.bl false) H2 := fun h => q false H2 ⟨fun e => (by cases e), fun e => absurd (split.mp (iff.mp e)).2 h⟩ k2'
  have zp := size_pos z
  have go : GoodE fs ps z → ∃ m', m' < sizes ts' + (z.size + 0) ∧ W m' [some v, some pv0, some (.ref cd), some (.ref p), some zv] H2 := fun h => by
    refine ⟨sizes ts', by omega, ?_⟩
    rw [hW]
    exact ⟨_, vs', ts', rfl, rfl, k2', e2, tr2, by omega, by rw [iff, split]; exact ⟨fun h => h.1, fun h2 => ⟨h2, h⟩⟩⟩
  obtain ⟨ty, u, q1, q2, q3⟩ := isi_str tz2
  refine ⟨_, rfl, _, _, ty, u, _, rfl, q1, q2, q3, _, rfl, ?_⟩
  cases z with
  | w x =>
    refine iteT ?_
    have ez := tz2.word
    subst ez
    obtain ⟨pa, pvs, rfl, hP, rP⟩ := tp2.list
    refine ⟨_, rfl, _, rfl, pa, _, rfl, .inr hP, rfl, ?_, _, rfl, ?_⟩
    · exact flat_words rP pw
    have iv := inV_words (x := x) rP pw
    by_cases hx : Tree.w x ∈ ps
    · rw [iv.mpr hx]
      exact iteF (go (goodE_w.mpr hx))
    · rw [Bool.eq_false_iff.mpr fun h => hx (iv.mp h)]
      exact iteT (no fun h => hx (goodE_w.mp h))
  | l us =>
    refine iteF ?_
    refine ⟨_, rfl, _, rfl, zv, cd, us, fs, rfl, tz2, cD2, fun b hb1 => ?_⟩
    refine ⟨_, rfl, ?_⟩
    cases b with
    | false => exact iteT (no fun h => (by have := hb1.mpr (goodE_l.mp h).1; cases this))
    | true =>
      refine iteF ?_
      obtain ⟨n, r, rfl, hp⟩ := hb1.mp rfl
      obtain ⟨za, zvs, rfl, hZ, rZ⟩ := tz2.list
      obtain ⟨v0, vr, rfl, r0, rr⟩ := rZ.cons
      have e0 := r0.word
      subst e0
      refine ⟨_, rfl, za, _, _, _, rfl, rfl, hZ, atI_zero _ _, rfl, _, rfl, ?_⟩
      rw [lit_q]
      have lr := rr.length
      have lz := len_sizes r
      rw [size_l, sizes_cons, size_w] at sz1 zp ⊢
      by_cases hq : n = qw
      · rw [nsF hq]
        have g : GoodE fs ps (.l (.w n :: r)) := goodE_l.mpr ⟨⟨n, r, rfl, hp⟩, .inl (by rw [hq]; rfl)⟩
        refine iteF ?_
        refine ⟨sizes ts', by omega, ?_⟩
        rw [hW]
        exact ⟨_, vs', ts', rfl, rfl, k2', e2, tr2, by omega, by rw [iff, split]; exact ⟨fun h => h.1, fun h2 => ⟨h2, g⟩⟩⟩
      · rw [nsT hq]
        refine iteT ?_
        have g : GoodE fs ps (.l (.w n :: r)) ↔ ∀ y ∈ r, GoodE fs ps y := by
          rw [goodE_l]
          constructor
          · rintro ⟨_, h | h⟩
            · exact absurd (Tree.w.inj (Option.some.inj h)) hq
            · exact h
          · intro h
            exact ⟨⟨n, r, rfl, hp⟩, .inr h⟩
        refine ⟨_, rfl, .inl ⟨rfl, _, SqL.of e2⟩, _, rfl, _, rfl, ?_⟩
        dsimp only [tNoPart]
        refine sl_tr tz2 fun v3 H3 tv3 k3 => ?_
        have d1 := cutL_from (Tree.w n :: r) (i := 1) (by rw [List.length_cons]; omega)
        rw [show (some (1 : Int)) = some ((1 : Nat) : Int) from rfl, d1, show List.drop 1 (Tree.w n :: r) = r from rfl] at tv3
        obtain ⟨xa, xvs, rfl, hX, rX⟩ := tv3.list
        have e3 : H3 p = some (.lst vs') := k3.get e2 (by simp)
        have lx := rX.length
        have lts := len_sizes ts'
        have lvs := tr2.length
        refine ⟨p, xa, vs', xvs, rfl, rfl, e3, hX, ?_, ?_⟩
        · exact Nat.le_trans (show _ ≤ 600000 by omega) (by decide)
        have k4 : Keep [p] H3 (upd H3 p (.lst (vs' ++ xvs))) := Keep.set e3 (List.mem_cons_self ..)
        refine ⟨sizes (ts' ++ r), by rw [sizes_app]; omega, ?_⟩
        rw [hW]
        refine ⟨_, vs' ++ xvs, ts' ++ r, rfl, rfl, ((k2'.trans k3).cons.trans k4).drop np, upd_same, ((tr2.keep k3).append rX).keep k4, by rw [sizes_app]; omega, ?_⟩
        rw [iff, split, g]
        constructor
        · rintro ⟨h1, h2⟩ y m
          rcases List.mem_append.mp m with m | m
          · exact h1 y m
          · exact h2 y m
        · intro h
          exact ⟨fun y m => h y (List.mem_append.mpr (.inl m)), fun y m => h y (List.mem_append.mpr (.inr m))⟩
end
end Og

namespace Og
open PySem PySem.Spec PyProof.Rows L2
open PySem.NumText (AllDigits digitsVal)
theorem IsWord.ascii {x : List Nat} (h : IsWord x) : Ascii x := by
  obtain ⟨c, cs, rfl, h1, h2, _⟩ := h
  intro y m
  rcases List.mem_cons.mp m with e | m
  · have := h1.2; omega
  · rcases h2 y m with h | h <;> omega
section
variable {P : Program} {w : World} {K : PySem.W.Frag} {mg : Str → Option Value} {base : Heap}
/-! ### _is_good_function -/
def spGFn (K : PySem.W.Frag) : Sp := fun vs H Q _ => ∃ (v : V) (cd : Addr) (t : Tree) (fs : List Tree), vs = [v, .ref cd, .int (fs.length : Nat)] ∧ Tr K H v t ∧ WT t ∧ CallD H cd fs ∧ t.size ≤ 300000 ∧ ∀ (b : Bool) (H' : Hp), (b = true ↔ GoodFn fs t) → Keep [] H H' → Q (.bl b) H'
theorem has_gfn {k : Nat} (D : DefAt K mg "_is_good_function" s_is_good_function p_is_good_function) (B : Bn mg) (c1 : Has P w K mg base k "_looks_like_function" p_looks_like_function (spLooks K)) (c2 : Has P w K mg base k "_is_good_name" p_is_good_name spGName) (c3 : Has P w K mg base k "_are_good_parameters" p_are_good_parameters (spGPs K)) (c4 : Has P w K mg base k "_is_good_body" p_is_good_body (spGBody K)) :
    Has P w K mg base (k + 1) "_is_good_function" p_is_good_function (spGFn K) := by
  obtain ⟨f, fd, F, hm, hb⟩ := D.ex
  obtain ⟨_, _, c_looks_like_function⟩ := c1
  obtain ⟨_, _, c_is_good_name⟩ := c2
  obtain ⟨_, _, c_are_good_parameters⟩ := c3
  obtain ⟨_, _, c_is_good_body⟩ := c4
  refine ⟨f, fd, F.ok sc_is_good_function (fun vs H Q E h => ?_) (fun cdv A outer s H vs Q E hr h => ?_), hm, F.kp, hb⟩
  · obtain ⟨_, _, _, _, rfl, _⟩ := h
    rfl
  obtain ⟨v, cd, t, fs, rfl, tv, wt, cD, sz, q⟩ := h
  refine ⟨_, (pss_cons (ps_if (pt_not (pt_val (cal c_looks_like_function hr rfl (pa_cons (pv 0) pa_nil)))) (pss_one (ps_ret pe_bl)) pss_nil)
    (pss_cons (ps_asg (pv 0) (pg_tup (by rfl) (pgs_cons (pg_name (i := 3) sc_is_good_function.nd rfl (.inl rfl)) (pgs_cons (pg_name (i := 4) sc_is_good_function.nd rfl (.inl rfl)) (pgs_cons (pg_name (i := 5) sc_is_good_function.nd rfl (.inl rfl)) pgs_nil)))))
    (pss_cons (ps_if (PW.pt (pw_or (pt_not (pt_val (cal c_is_good_name hr rfl (pa_cons (pv 3) (pa_cons (pv 2) pa_nil))))) (pw_or1 (pt_not (pt_val (cal c_are_good_parameters hr rfl (pa_cons (pv 4) pa_nil))))))) (pss_one (ps_ret pe_bl)) pss_nil)
    (pss_one (ps_ret (cal c_is_good_body hr rfl (pa_cons (pv 5) (pa_cons (pv 4) (pa_cons (pv 1) pa_nil))))))))), ?_⟩
  refine ⟨_, rfl, v, t, rfl, tv, fun b hb1 => ⟨_, rfl, ?_⟩⟩
  cases b with
  | false => exact iteT (q false H ⟨fun h => (by cases h), fun ⟨n, ps, bd, e, _⟩ => (by have := hb1.mpr ⟨n, ps, bd, e⟩; cases this)⟩ Keep.refl)
  | true =>
    refine iteF ?_
    obtain ⟨n, ps, bd, rfl⟩ := hb1.mp rfl
    have uniq : GoodFn fs (.l [.w n, .l ps, bd]) ↔ GoodName fs.length n ∧ GoodPs ps ∧ GoodE fs ps bd := by
      constructor
      · rintro ⟨n', ps', bd', e, h⟩
        have h1 := Tree.l.inj e
        have h2 := Tree.w.inj (List.cons.inj h1).1
        have h3 := (List.cons.inj h1).2
        have h4 := Tree.l.inj (List.cons.inj h3).1
        have h5 := (List.cons.inj (List.cons.inj h3).2).1
        rw [h2, h4, h5]
        exact h
      · intro h
        exact ⟨n, ps, bd, rfl, h⟩
    obtain ⟨a, vs, rfl, hS, r⟩ := tv.list
    obtain ⟨x, y, z, rfl, r0, r1, r2⟩ := r.three
    have e0 := r0.word
    subst e0
    have wn := wt.list.head.word
    refine ⟨_, rfl, a, _, rfl, hS, rfl, _, _, rfl, y, _, rfl, z, _, rfl, rfl, ?_⟩
    refine ⟨_, rfl, _, rfl, n, fs.length, rfl, wn.ascii, wn.ne, wn.len, fun b1 hb2 => ⟨_, rfl, ?_⟩⟩
    cases b1 with
    | false => exact iteT (iteT (q false H ⟨fun h => (by cases h), fun h => (by have := hb2.mpr (uniq.mp h).1; cases this)⟩ Keep.refl))
    | true =>
      refine iteF ?_
      refine ⟨_, rfl, y, ps, rfl, r1, fun b2 H1 hb3 k1 => ⟨_, rfl, ?_⟩⟩
      cases b2 with
      | false => exact iteT (q false H1 ⟨fun h => (by cases h), fun h => (by have := hb3.mpr (uniq.mp h).2.1; cases this)⟩ k1)
      | true =>
        refine iteF ?_
        have gp := hb3.mp rfl
        rw [size_l, sizes_cons, sizes_cons, sizes_cons, sizes_nil] at sz
        refine ⟨_, rfl, _, rfl, _, rfl, z, y, cd, bd, ps, fs, rfl, r2.keep k1, r1.keep k1, fun t m => ?_, cD.keep k1, by omega, fun b3 H2 hb4 k2 => ?_⟩
        · obtain ⟨i, hi⟩ := List.mem_iff_getElem?.mp m
          obtain ⟨x', e, _⟩ := gp.2 i t hi
          rw [e]; rfl
        · refine q b3 H2 ?_ (k1.trans k2)
          rw [uniq, hb4]
          exact ⟨fun h => ⟨hb2.mp rfl, gp, h⟩, fun h => h.2.2⟩
/-! ### _called_functions -/
def spCalled (K : PySem.W.Frag) : Sp := fun vs H Q _ => ∃ (v : V) (fs : List Tree), vs = [v] ∧ Tr K H v (.l fs) ∧ fs.length ≤ 300000 ∧ ∀ (cd : Addr) (H' : Hp), CallD H' cd fs → Keep [] H H' → H cd = none → Q (.ref cd) H'
theorem has_called {k : Nat} (D : DefAt K mg "_called_functions" s_called_functions p_called_functions) (B : Bn mg) (c1 : Has P w K mg base k "_looks_like_function" p_looks_like_function (spLooks K)) :
    Has P w K mg base (k + 1) "_called_functions" p_called_functions (spCalled K) := by
  obtain ⟨f, fd, F, hm, hb⟩ := D.ex
  obtain ⟨_, _, c_looks_like_function⟩ := c1
  refine ⟨f, fd, F.ok sc_called_functions (fun vs H Q E h => ?_) (fun cdv A outer s H vs Q E hr h => ?_), hm, F.kp, hb⟩
  · obtain ⟨_, _, rfl, _⟩ := h
    rfl
  obtain ⟨v, fs, rfl, tv, hl, q⟩ := h
  refine ⟨_, (pss_cons (ps_set (i := 1) sc_called_functions.nd rfl (.inl rfl) pe_dnewK)
    (pss_cons (ps_for PassesOwn.never rfl (pi_tup (pv 0)) (pg_name (i := 2) sc_called_functions.nd rfl (.inl rfl))
      (pss_one (ps_if (PW.pt (pw_and (pt_val (cal c_looks_like_function hr rfl (pa_cons (pv 2) pa_nil))) (pw_and1 (pt_cmp (pc_dnotin (hu_of hr) (pe_ix ix_tup (pv 2) pe_int (fun _ _ => rfl)) (pv 1)))))) (pss_one (ps_dput (hu_of hr) (pv 1) (pe_ix ix_tup (pv 2) pe_int (fun _ _ => rfl)) (pe_callB call_len_seq (by rfl) B.len PySem.boot_len (pa_cons (pe_ix ix_tup (pv 2) pe_int (fun _ _ => rfl)) pa_nil)) rfl)) pss_nil)))
    (pss_one (ps_ret (pv 1))))), ?_⟩
  obtain ⟨a, vs, rfl, hS, r⟩ := tv.list
  have lv := r.length
  refine fun cd nc => ?_
  refine ⟨_, rfl, a, rfl, ⟨_, (Keep.new (S := []) nc).sqT hS⟩, ?_⟩
  refine for_tup (K := K) (a := a) (xs := vs) (fun i σ H' => ∃ (y2 : Option V) (kvs : List (L2.Key × V)), σ = [some (.ref a), some (.ref cd), y2] ∧ Keep [] H H' ∧ H' cd = some (.dK kvs) ∧ kvs.length ≤ i ∧ ∀ x : List Nat, valV kvs (Sum.inr (tx x)) = (arity (fs.take i) x).map fun k => V.int (k : Nat))
    ⟨none, [], rfl, Keep.new nc, upd_same, Nat.le_refl _, fun x => rfl⟩ (fun i σ H' _ pw => ?_) (fun i z σ H1 hz pw => ?_) (fun σ H1 pw => ?_)
  · obtain ⟨_, _, _, k1, _⟩ := pw
    exact k1.sqT hS
  · obtain ⟨y2, kvs, rfl, k1, eD, ln, rel⟩ := pw
    have il : i < vs.length := (List.getElem?_eq_some_iff.mp hz).1
    have hg : fs[i]? = some fs[i] := List.getElem?_eq_getElem (by omega)
    obtain ⟨z', hz', tz⟩ := r.get hg
    rw [hz] at hz'
    cases hz'
    have tk : fs.take (i + 1) = fs.take i ++ [fs[i]] := by rw [List.take_add_one, hg]; rfl
    generalize fs[i] = t at hg tz tk
    have tz1 := tz.keep k1
    refine ⟨_, rfl, z, t, rfl, tz1, fun b hb1 => ⟨_, rfl, ?_⟩⟩
    cases b with
    | false =>
      refine iteF ?_
      have nf : fn? t = none := by
        cases h : fn? t with
        | none => rfl
        | some p =>
          obtain ⟨n, ps, bd⟩ := p
          have := hb1.mpr ⟨n, ps, bd, fn?_iff.mp h⟩
          cases this
      refine ⟨_, _, rfl, k1, eD, by omega, fun x => ?_⟩
      rw [rel, tk, arity_app]
      cases arity (fs.take i) x with
      | some k0 => rfl
      | none =>
        show _ = (arity [t] x).map _
        rw [arity_one_no nf]
    | true =>
      refine iteT ?_
      obtain ⟨n, ps, bd, rfl⟩ := hb1.mp rfl
      have ar : ∀ x, arity [Tree.l [.w n, .l ps, bd]] x = if n = x then some ps.length else none := fun x => arity_one (fn?_iff.mpr rfl)
      obtain ⟨za, zvs, rfl, hZ, rZ⟩ := tz1.list
      obtain ⟨x0, y0, z0, rfl, r0, r1, r2⟩ := rZ.three
      have e0 := r0.word
      subst e0
      refine ⟨_, rfl, za, _, _, _, rfl, rfl, hZ, atI_zero _ _, _, rfl, cd, _, rfl, DGet.k (k := Sum.inr (tx n)) eD, ?_⟩
      have rn := rel n
      rw [rn]
      cases ha : arity (fs.take i) n with
      | some k0 =>
        refine ⟨_, rfl, iteF ?_⟩
        refine ⟨_, _, rfl, k1, eD, by omega, fun x => ?_⟩
        rw [rel, tk, arity_app]
        cases hx : arity (fs.take i) x with
        | some k1 => rfl
        | none =>
          show _ = (arity [_] x).map _
          rw [ar]
          by_cases e : n = x
          · rw [e, hx] at ha; cases ha
          · rw [if_neg e]
      | none =>
        obtain ⟨pa, pvs, rfl, hP, rP⟩ := r1.list
        refine ⟨_, rfl, iteT ?_⟩
        refine ⟨_, rfl, za, _, _, _, rfl, rfl, hZ, atI_nat (j := 1) rfl, pa, pvs, rfl, .inr hP, _, rfl, _, rfl, za, _, _, _, rfl, rfl, hZ, atI_zero _ _, cd, _, rfl, DPut.k (k := Sum.inr (tx n)) eD ?_, ?_⟩
        · exact Nat.lt_of_le_of_lt (show kvs.length ≤ 300000 by omega) (by decide)
        refine ⟨_, _, rfl, k1.updNew nc, upd_same, Nat.le_trans (length_putK _ _ _) (by omega), fun x => ?_⟩
        rw [valV_put, tk, arity_app]
        by_cases e : n = x
        · subst e
          rw [if_pos rfl, ha]
          show _ = (arity [_] n).map _
          rw [ar, if_pos rfl, rP.length]
          rfl
        · rw [if_neg (fun z => e (tx_inj (Sum.inr.inj z)).symm), rel]
          cases hx : arity (fs.take i) x with
          | some k1 => rfl
          | none =>
            show _ = (arity [_] x).map _
            rw [ar, if_neg e]
  · obtain ⟨y2, kvs, rfl, k1, eD, ln, rel⟩ := pw
    refine ⟨_, rfl, ?_⟩
    rw [lv, List.take_length] at rel
    exact q cd H1 ⟨kvs, eD, rel⟩ k1 nc
end
end Og

namespace Og
open PySem PySem.Spec PyProof.Rows L2
open PySem.NumText (AllDigits digitsVal)
section
variable {P : Program} {w : World} {K : PySem.W.Frag} {mg : Str → Option Value} {base : Heap}
/-! ### check_program -/
/-- what is wished where an error with the number n leaves -/
def Wish (f : Str) (C : Addr) (n : Nat) (H : Hp) (E : XK) : Prop := ∀ (d : Addr) (H' : Hp), H' d = some (.xd [(f, .int n)]) → Keep [] H H' → E (.ref C) (some d) H'
def spCheckX (K : PySem.W.Frag) (C : Addr) : Sp := fun vs H Q E => ∃ (v : V) (t : Tree), vs = [v] ∧ Tr K H v t ∧ WT t ∧ t.size ≤ 300000 ∧ (∀ fs, t = .l fs → fs.length ≤ 1000) ∧ (∀ n, BadNo t (some n) → Wish "function" C n H E) ∧ (∀ H' : Hp, BadNo t none → Keep [] H H' → Q .non H')
theorem has_checkX {C G fI : Addr} {fdI : FuncData} {k : Nat} (T_BadProgram : ErrT K mg "BadProgram" "BadProgram.__init__" "function" s_BadProgram_init C G fI fdI) (D : DefAt K mg "check_program" s_check_program p_check_program) (B : Bn mg)
    (c1 : Has P w K mg base (k + 3) "_called_functions" p_called_functions (spCalled K)) (c2 : Has P w K mg base (k + 3) "_is_good_function" p_is_good_function (spGFn K)) : HasX P w K mg base (k + 4) "check_program" p_check_program (spCheckX K C) := by
  obtain ⟨f, fd, F, hm, hb⟩ := D.ex
  obtain ⟨_, _, c_called_functions⟩ := c1
  obtain ⟨_, _, c_is_good_function⟩ := c2
  have ok_BadProgram := ok_BadProgram' (P := P) (w := w) (base := base) T_BadProgram
  refine ⟨f, fd, F.okX sc_check_program (fun vs H Q E h => ?_) (fun cdv A outer s H vs Q E hr h => ?_), hm, F.kp, hb⟩
  · obtain ⟨_, _, rfl, _⟩ := h
    rfl
  obtain ⟨v, t, rfl, tv, wt, sz, few, bad, q⟩ := h
  have hr_BadProgram := hr.mono (show 2 ≤ k + 3 by omega)
  refine ⟨_, (pss_cons (ps_if (PW.pt (pw_or (pt_not (pt_val (pe_callB call_isi (by rfl) B.isinstance (by decide +kernel) (pa_cons (pv 0) (pa_cons (pe_bltn (v := .ty "tuple") rfl B.tuple (by decide +kernel) rfl) pa_nil))))) (pw_or1 (pt_not (pt_truth (pv 0) (by intro _; rfl)))))) (pss_one (ps_raise rfl (takes_of rfl rfl rfl rfl) (pmk_oex T_BadProgram.ox T_BadProgram.iC T_BadProgram.tI ok_BadProgram hr_BadProgram T_BadProgram.bi .nil pass0 rfl T_BadProgram.gC (pa_cons pe_int pa_nil)))) pss_nil)
    (pss_cons (ps_set (i := 1) sc_check_program.nd rfl (.inl rfl) (cal c_called_functions hr rfl (pa_cons (pv 0) pa_nil)))
    (pss_cons (ps_set (i := 2) sc_check_program.nd rfl (.inl rfl) (pe_callTy0 cr_set0K (by rfl) B.set (by decide +kernel)))
    (pss_one (ps_for (passes_of rfl) rfl (pi_enumT (by rfl) B.enumerate (pa_cons (pv 0) pa_nil)) (pg_tup (by rfl) (pgs_cons (pg_name (i := 3) sc_check_program.nd rfl (.inl rfl)) (pgs_cons (pg_name (i := 4) sc_check_program.nd rfl (.inl rfl)) pgs_nil)))
      (pss_cons (ps_if (pt_not (pt_val (cal c_is_good_function hr rfl (pa_cons (pv 4) (pa_cons (pv 1) (pa_cons (pe_callB call_len_seq (by rfl) B.len PySem.boot_len (pa_cons (pv 0) pa_nil)) pa_nil)))))) (pss_one (ps_raise rfl (takes_of rfl rfl rfl rfl) (pmk_oex T_BadProgram.ox T_BadProgram.iC T_BadProgram.tI ok_BadProgram hr_BadProgram T_BadProgram.bi .nil pass0 rfl T_BadProgram.gC (pa_cons (pv 3) pa_nil)))) pss_nil)
      (pss_cons (ps_if (pt_cmpR or_sinK (pe_ix ix_tup (pv 4) pe_int (fun _ _ => rfl)) (pv 2) (by rfl)) (pss_one (ps_raise rfl (takes_of rfl rfl rfl rfl) (pmk_oex T_BadProgram.ox T_BadProgram.iC T_BadProgram.tI ok_BadProgram hr_BadProgram T_BadProgram.bi .nil pass0 rfl T_BadProgram.gC (pa_cons (pv 3) pa_nil)))) pss_nil)
      (pss_one (ps_expr (pe_saddK (pv 2) (pa_cons (pe_ix ix_tup (pv 4) pe_int (fun _ _ => rfl)) pa_nil))))))))))), ?_⟩
  have raise : ∀ (n : Nat) (H1 : Hp), Keep [] H H1 → n ≤ 400000 → BadNo t (some n) → ∀ a : Addr, H1 a = none → spErr K "function" [V.ref a, V.int n] (upd H1 a (exo a C none)) (fun v H2 => v = .non ∧ ∃ (d : Addr) (fs : List (Str × V)), H2 a = some (exo a C (some d)) ∧ H2 d = some (exd d fs) ∧ H1 d = none ∧ E (.ref C) (some d) (upd (del H2 a) d (.xd fs))) (fun _ _ _ => False) := by
    intro n H1 kk hn hres a na
    refine ⟨a, C, n, rfl, T_BadProgram.ox, T_BadProgram.no, by omega, upd_same, fun dx hd ne => ⟨rfl, dx, _, upd_same, by rw [upd_ne ne, upd_same], by rw [upd_ne ne] at hd; exact hd, bad n hres dx _ upd_same (kk.trans (keep_raised na hd ne))⟩⟩
  obtain ⟨ty, u, q1, q2, q3⟩ := isi_tup tv
  refine ⟨_, rfl, _, _, ty, u, _, rfl, q1, q2, q3, _, rfl, ?_⟩
  cases t with
  | w x =>
    refine iteT (iteT ⟨by show 1 ≤ 1000; decide, fun a na => ?_⟩)
    exact raise 0 H Keep.refl (by omega) rfl a na
  | l fs =>
    refine iteF ?_
    obtain ⟨a, vs, rfl, hS, r⟩ := tv.list
    have lv := r.length
    have szl := sz
    rw [size_l] at szl
    have lsz := len_sizes fs
    have few := few fs rfl
    refine ⟨_, rfl, _, tru_tup hS, ?_⟩
    rw [emp_iff r]
    by_cases hne : fs = []
    · subst hne
      refine iteT ⟨by show 1 ≤ 1000; decide, fun a na => ?_⟩
      exact raise 0 H Keep.refl (by omega) (.inl ⟨rfl, rfl⟩) a na
    have b0 : fs.isEmpty = false := by
      cases fs with
      | nil => exact absurd rfl hne
      | cons _ _ => rfl
    rw [b0]
    refine iteF ?_
    refine ⟨_, rfl, _, fs, rfl, tv, by omega, fun cd H1 cD k1 ncd => ?_⟩
    refine ⟨rfl, fun e nE => ?_⟩
    have nE0 : H e = none := k1.free nE
    have cde : cd ≠ e := let ⟨_, ek, _⟩ := cD; ne_of_none ek nE
    have k2 : Keep [] H1 (upd H1 e (SetK P w e (fun _ => false) 0)) := Keep.new nE
    refine ⟨_, rfl, a, vs, rfl, (k1.trans k2).sqT hS, ?_⟩
    refine for_enumT (K := K) (a := a) (xs := vs) (fun i σ H' => ∃ (y3 y4 : Option V) (S : L2.Key → Bool) (n : Nat), σ = [some (.ref a), some (.ref cd), some (.ref e), y3, y4] ∧ Keep [] H H' ∧ CallD H' cd fs ∧ H' e = some (SetK P w e S n) ∧ n ≤ i ∧
        (∀ x : List Nat, S (Sum.inr (tx x)) = true ↔ Dupe fs i x) ∧ ∀ j, j < i → GoodAt fs j)
      ⟨none, none, _, 0, rfl, k1.trans k2, cD.keep k2, upd_same, Nat.le_refl _, fun x => ⟨fun h => (by cases h), fun ⟨j, _, h, _⟩ => absurd h (Nat.not_lt_zero _)⟩, fun j h => absurd h (Nat.not_lt_zero _)⟩ (fun i σ H' pw => ?_) (fun i z T σ H3 hz pw nT => ?_) (fun σ H3 pw => ?_)
    · obtain ⟨_, _, _, _, _, k3, _⟩ := pw
      exact k3.sqT hS
    · obtain ⟨y3, y4, S, n, rfl, k3, cD3, eS, ni, hS1, good⟩ := pw
      have il : i < vs.length := (List.getElem?_eq_some_iff.mp hz).1
      have hg : fs[i]? = some fs[i] := List.getElem?_eq_getElem (by omega)
      have mem := List.getElem_mem (show i < fs.length by omega)
      obtain ⟨z', hz', tz⟩ := r.get hg
      rw [hz] at hz'
      cases hz'
      have wz := wt.list.all _ mem
      have sg := size_of_get hg
      generalize fs[i] = u at hg tz wz sg mem
      have k4 : Keep [] H3 (upd H3 T (.tup [.int (i : Nat), z])) := Keep.new nT
      have eS4 : (upd H3 T (.tup [.int (i : Nat), z])) e = some (SetK P w e S n) := k4.get eS (by simp)
      have eT : (upd H3 T (.tup [.int (i : Nat), z])) T = some (.tup [.int (i : Nat), z]) := upd_same
      generalize upd H3 T (.tup [.int (i : Nat), z]) = H4 at k4 eS4 eT
      have k4' := k3.trans k4
      have cD4 := cD3.keep k4
      refine ⟨T, _, rfl, SqT.of_tup eT, rfl, _, _, rfl, _, _, rfl, rfl, ?_⟩
      have badi : ¬ GoodAt fs i → BadNo (.l fs) (some i) := fun h => .inr ⟨hne, .inr ⟨i, rfl, by omega, h, good⟩⟩
      refine ⟨_, rfl, _, rfl, _, rfl, a, vs, rfl, .inr (k4'.sqT hS), z, cd, u, fs, ?_, tz.keep k4', wz, cD4, by omega, fun b H5 hb1 k5 => ⟨_, rfl, ?_⟩⟩
      · rw [lv]; rfl
      have k5' := k4'.trans k5
      cases b with
      | false =>
        refine iteT ⟨_, rfl, by show 1 ≤ 1000; decide, fun a na => ?_⟩
        refine raise i H5 k5' (by omega) (badi fun ⟨n', ps, bd, e1, g1, g2, g3, _⟩ => ?_) a na
        rw [hg] at e1
        have := hb1.mpr ⟨n', ps, bd, Option.some.inj e1, g1, g2, g3⟩
        cases this
      | true =>
        refine iteF ?_
        obtain ⟨nm, ps, bd, rfl, g1, g2, g3⟩ := hb1.mp rfl
        have tz5 := tz.keep k5'
        obtain ⟨za, zvs, rfl, hZ, rZ⟩ := tz5.list
        obtain ⟨x0, y0, z0, rfl, r0, r1, r2⟩ := rZ.three
        have e0 := r0.word
        subst e0
        have eS5 := k5.get eS4 (by simp)
        refine ⟨_, rfl, za, _, _, _, rfl, rfl, hZ, atI_zero _ _, _, rfl, Sum.inr (tx nm), e, S, n, rfl, rfl, eS5, S (Sum.inr (tx nm)), rfl, ?_⟩
        have gi : GoodAt fs i ↔ ¬ Dupe fs i nm := by
          constructor
          · rintro ⟨n', ps', bd', e1, _, _, _, h⟩
            rw [hg] at e1
            have h1 := Tree.l.inj (Option.some.inj e1)
            have h2 := Tree.w.inj (List.cons.inj h1).1
            rw [h2]; exact h
          · intro h
            exact ⟨nm, ps, bd, hg, g1, g2, g3, h⟩
        cases hk : S (Sum.inr (tx nm)) with
        | true =>
          refine iteT ⟨_, rfl, by show 1 ≤ 1000; decide, fun a na => ?_⟩
          exact raise i H5 k5' (by omega) (badi fun h => gi.mp h ((hS1 nm).mp hk)) a na
        | false =>
          refine iteF ?_
          have nd : ¬ Dupe fs i nm := fun h => by rw [(hS1 nm).mpr h] at hk; cases hk
          refine ⟨_, rfl, ⟨_, _, _, rfl, eS5⟩, _, rfl, za, _, _, _, rfl, rfl, hZ, atI_zero _ _, e, Sum.inr (tx nm), S, n, rfl, rfl, eS5, ?_, ?_⟩
          · exact Nat.lt_of_le_of_lt (show n + 1 ≤ 1001 by omega) (by decide)
          refine ⟨_, _, _, _, rfl, k5'.updNew nE0, ?_, upd_same, ?_, fun y => ?_, fun j h => ?_⟩
          · obtain ⟨kvs, ek, rel⟩ := cD4.keep k5
            exact ⟨kvs, by rw [upd_ne cde]; exact ek, rel⟩
          · split <;> omega
          · rw [Bool.or_eq_true, decide_eq_true_eq, hS1]
            constructor
            · rintro (⟨j, rr, h1, h2⟩ | h)
              · exact ⟨j, rr, by omega, h2⟩
              · have := tx_inj (Sum.inr.inj h)
                subst this
                exact ⟨i, _, Nat.lt_succ_self _, hg⟩
            · rintro ⟨j, rr, h1, h2⟩
              by_cases ji : j < i
              · exact .inl ⟨j, rr, ji, h2⟩
              · have : j = i := by omega
                subst this
                rw [hg] at h2
                right
                have := Tree.w.inj (List.cons.inj (Tree.l.inj (Option.some.inj h2))).1
                rw [this]
          · by_cases ji : j < i
            · exact good j ji
            · have : j = i := by omega
              subst this
              exact gi.mpr nd
    · obtain ⟨y3, y4, S, n, rfl, k3, cD3, eS, ni, hS1, good⟩ := pw
      exact q H3 (.inr ⟨hne, .inl ⟨rfl, fun i h => good i (by omega)⟩⟩) k3
end
end Og

namespace Og
open PySem PySem.Spec PyProof.Rows L2
open PySem.NumText (AllDigits digitsVal)
def spw : List V := [.str "quote", .str "if", .str "same", .str "word", .str "head", .str "tail", .str "join"]
theorem spw_eq : spw = specials.map fun p => V.str (tx p.1) := by decide +kernel
theorem eqV_tx {a b : List Nat} : eqV (.str (tx a)) (.str (tx b)) = decide (a = b) := by
  show (tx a == tx b) = _
  by_cases e : a = b
  · rw [e]; simp
  · rw [decide_eq_false e]
    exact beq_eq_false_iff_ne.mpr fun z => e (tx_inj z)
theorem any_find {x : List Nat} : ∀ L : List (List Nat × Nat), (L.map fun p => V.str (tx p.1)).any (fun y => eqV y (.str (tx x))) = (L.find? fun p => decide (p.1 = x)).isSome
  | [] => rfl
  | p :: L => by
    rw [List.map_cons, List.any_cons, List.find?_cons, eqV_tx, any_find L]
    by_cases e : p.1 = x
    · rw [decide_eq_true e]; rfl
    · rw [decide_eq_false e]; rfl
theorem inV_spw (x : List Nat) : inV (.str (tx x)) spw = (spAr x).isSome := by
  rw [spw_eq, ← spAr_isSome]
  exact any_find specials
theorem flat_spw : spw.all flatV = true := by decide
section
variable {P : Program} {w : World} {K : PySem.W.Frag} {mg : Str → Option Value} {base : Heap}
/-! ### _law_special, _law_many -/
def spSpecial : Sp := fun vs H Q _ => vs = [] ∧ ∀ p : Addr, H p = none → Q (.ref p) (upd H p (.lst spw))
theorem has_special {k : Nat} (D : DefAt K mg "_law_special" s_law_special p_law_special) (B : Bn mg) : Has P w K mg base (k + 1) "_law_special" p_law_special spSpecial := by
  obtain ⟨f, fd, F, hm, hb⟩ := D.ex
  refine ⟨f, fd, F.ok sc_law_special (fun vs H Q E h => ?_) (fun cdv A outer s H vs Q E hr h => ?_), hm, F.kp, hb⟩
  · obtain ⟨rfl, _⟩ := h
    rfl
  obtain ⟨rfl, q⟩ := h
  refine ⟨_, (pss_one (ps_ret (pe_lst (pa_cons pe_str (pa_cons pe_str (pa_cons pe_str (pa_cons pe_str (pa_cons pe_str (pa_cons pe_str (pa_cons pe_str pa_nil)))))))))), ?_⟩
  exact ⟨by show (7 : Nat) ≤ sizeLine; decide, fun p np => q p np⟩
def spMany (K : PySem.W.Frag) : Sp := fun vs H Q _ => ∃ (v : V) (fs : List Tree) (x : List Nat), vs = [v, .str (tx x)] ∧ Tr K H v (.l fs) ∧ ∀ i : Int, (∀ k : Nat, arity fs x = some k → i = k) → (arity fs x = none → i = -1) → Q (.int i) H
theorem has_many {k : Nat} (D : DefAt K mg "_law_many" s_law_many p_law_many) (B : Bn mg) : Has P w K mg base (k + 1) "_law_many" p_law_many (spMany K) := by
  obtain ⟨f, fd, F, hm, hb⟩ := D.ex
  refine ⟨f, fd, F.ok sc_law_many (fun vs H Q E h => ?_) (fun cdv A outer s H vs Q E hr h => ?_), hm, F.kp, hb⟩
  · obtain ⟨_, _, _, rfl, _⟩ := h
    rfl
  obtain ⟨v, fs, x, rfl, tv, q⟩ := h
  refine ⟨_, (pss_cons (ps_for PassesOwn.never rfl (pi_tup (pv 0)) (pg_name (i := 2) sc_law_many.nd rfl (.inl rfl))
      (pss_one (ps_if (PW.pt (pw_and (pt_val (pe_callB call_isi (by rfl) B.isinstance (by decide +kernel) (pa_cons (pv 2) (pa_cons (pe_bltn (v := .ty "tuple") rfl B.tuple (by decide +kernel) rfl) pa_nil)))) (pw_and (pt_cmpR op_eq (pe_callB call_len_seq (by rfl) B.len PySem.boot_len (pa_cons (pv 2) pa_nil)) pe_int (nomark _)) (pw_and (pt_val (pe_callB call_isi (by rfl) B.isinstance (by decide +kernel) (pa_cons (pe_ix ix_tup (pv 2) pe_int (fun _ _ => rfl)) (pa_cons (pe_bltn (v := .ty "str") rfl B.str (by decide +kernel) rfl) pa_nil)))) (pw_and1 (pt_val (pe_callB call_isi (by rfl) B.isinstance (by decide +kernel) (pa_cons (pe_ix ix_tup (pv 2) pe_int (fun _ _ => rfl)) (pa_cons (pe_bltn (v := .ty "tuple") rfl B.tuple (by decide +kernel) rfl) pa_nil))))))))) (pss_one (ps_if (pt_cmpR op_eq (pe_ix ix_tup (pv 2) pe_int (fun _ _ => rfl)) (pv 1) (nomark _)) (pss_one (ps_ret (pe_callB call_len_seq (by rfl) B.len PySem.boot_len (pa_cons (pe_ix ix_tup (pv 2) pe_int (fun _ _ => rfl)) pa_nil)))) pss_nil)) pss_nil)))
    (pss_one (ps_ret (pe_un un_neg pe_int)))), ?_⟩
  obtain ⟨a, vs, rfl, hS, r⟩ := tv.list
  have lv := r.length
  refine ⟨_, rfl, a, rfl, ⟨_, hS⟩, ?_⟩
  refine for_tup (K := K) (a := a) (xs := vs) (fun i σ H' => ∃ (y2 : Option V), σ = [some (.ref a), some (.str (tx x)), y2] ∧ H' = H ∧ arity (fs.take i) x = none)
    ⟨none, rfl, rfl, rfl⟩ (fun i σ H' _ pw => ?_) (fun i z σ H1 hz pw => ?_) (fun σ H1 pw => ?_)
  · obtain ⟨_, _, rfl, _⟩ := pw
    exact hS
  · obtain ⟨y2, rfl, rfl, none_⟩ := pw
    have il : i < vs.length := (List.getElem?_eq_some_iff.mp hz).1
    have hg : fs[i]? = some fs[i] := List.getElem?_eq_getElem (by omega)
    obtain ⟨z', hz', tz⟩ := r.get hg
    rw [hz] at hz'
    cases hz'
    have tk : fs.take (i + 1) = fs.take i ++ [fs[i]] := by rw [List.take_add_one, hg]; rfl
    have dr : fs = fs.take i ++ (fs[i] :: fs.drop (i + 1)) := by rw [← List.drop_eq_getElem_cons, List.take_append_drop]
    generalize fs[i] = t at hg tz tk dr
    have next : (fn? t = none ∨ ∃ n ps b, fn? t = some (n, ps, b) ∧ n ≠ x) → ∃ y2 : Option V, ([some (V.ref a), some (V.str (tx x)), some z] : L2.St) = [some (.ref a), some (.str (tx x)), y2] ∧ H1 = H1 ∧ arity (fs.take (i + 1)) x = none := fun h => by
      refine ⟨_, rfl, rfl, ?_⟩
      rw [tk, arity_app, none_]
      rcases h with h | ⟨n, ps, b, h, ne⟩
      · exact arity_one_no h
      · show arity [t] x = none
        rw [arity_one h, if_neg ne]
    obtain ⟨ty, u, q1, q2, q3⟩ := isi_tup tz
    refine ⟨_, rfl, _, _, ty, u, _, rfl, q1, q2, q3, _, rfl, ?_⟩
    cases t with
    | w y => exact iteF (iteF (next (.inl rfl)))
    | l ts =>
      refine iteT ?_
      obtain ⟨za, zvs, rfl, hZ, rZ⟩ := tz.list
      have lz := rZ.length
      refine ⟨_, rfl, za, zvs, rfl, .inr hZ, rfl, _, rfl, ?_⟩
      by_cases l3 : ts.length = 3
      rotate_left
      · rw [dF (by rw [lz]; intro e; exact l3 (by omega))]
        refine iteF (iteF (next (.inl ?_)))
        cases h : fn? (.l ts) with
        | none => rfl
        | some p =>
          obtain ⟨n, ps, b⟩ := p
          have := Tree.l.inj (fn?_iff.mp h)
          exact absurd (by rw [this]; rfl) l3
      rw [dT (by rw [lz, l3]; rfl)]
      refine iteT ?_
      obtain ⟨t0, t1, t2, rfl⟩ := three_of l3
      obtain ⟨x0, y0, z0, rfl, r0, r1, r2⟩ := rZ.three
      obtain ⟨ty0, u0, p1, p2, p3⟩ := isi_str r0
      refine ⟨_, rfl, za, _, _, x0, rfl, rfl, hZ, rfl, _, _, ty0, u0, _, rfl, p1, p2, p3, _, rfl, ?_⟩
      cases t0 with
      | l us => exact iteF (iteF (next (.inl rfl)))
      | w n =>
        refine iteT ?_
        obtain ⟨ty1, u1, w1, w2, w3⟩ := isi_tup r1
        refine ⟨_, rfl, za, _, _, y0, rfl, rfl, hZ, rfl, _, _, ty1, u1, _, rfl, w1, w2, w3, _, rfl, ?_⟩
        cases t1 with
        | w m => exact iteF (next (.inl rfl))
        | l ps =>
          refine iteT ?_
          have e0 := r0.word
          subst e0
          refine ⟨_, rfl, za, _, _, _, rfl, rfl, hZ, rfl, _, rfl, rfl, _, rfl, ?_⟩
          by_cases e : n = x
          · rw [sT e]
            obtain ⟨pa, pvs, rfl, hP, rP⟩ := r1.list
            refine iteT ⟨_, rfl, za, _, _, _, rfl, rfl, hZ, rfl, pa, pvs, rfl, .inr hP, ?_⟩
            refine q _ (fun k hk => ?_) fun hk => ?_
            · rw [dr, arity_app, none_] at hk
              have hk : arity (Tree.l [.w n, .l ps, t2] :: fs.drop (i + 1)) x = some k := hk
              rw [arity, show fn? (Tree.l [.w n, .l ps, t2]) = some (n, ps, t2) from rfl] at hk
              have hk : (if n = x then some ps.length else arity (fs.drop (i + 1)) x) = some k := hk
              rw [if_pos e] at hk
              rw [rP.length, Option.some.inj hk]
            · rw [dr, arity_app, none_] at hk
              have hk : arity (Tree.l [.w n, .l ps, t2] :: fs.drop (i + 1)) x = none := hk
              rw [arity, show fn? (Tree.l [.w n, .l ps, t2]) = some (n, ps, t2) from rfl] at hk
              have hk : (if n = x then some ps.length else arity (fs.drop (i + 1)) x) = none := hk
              rw [if_pos e] at hk
              cases hk
          · rw [sF e]
            exact iteF (next (.inr ⟨n, ps, t2, rfl, e⟩))
  · obtain ⟨y2, rfl, rfl, none_⟩ := pw
    rw [lv, List.take_length] at none_
    exact ⟨_, rfl, q (-1) (fun k hk => by rw [none_] at hk; cases hk) fun _ => rfl⟩
end
end Og

namespace Og
open PySem PySem.Spec PyProof.Rows L2
open PySem.NumText (AllDigits digitsVal)
theorem find_idx {x : List Nat} {p : List Nat × Nat} : ∀ {L : List (List Nat × Nat)}, L.find? (fun p => decide (p.1 = x)) = some p → ∃ j : Nat, L[j]? = some p ∧ p.1 = x ∧ ∀ (m : Nat) (q : List Nat × Nat), m < j → L[m]? = some q → q.1 ≠ x
  | [], h => by cases h
  | q :: L, h => by
    rw [List.find?_cons] at h
    by_cases e : q.1 = x
    · rw [decide_eq_true e] at h
      have := Option.some.inj h
      subst this
      exact ⟨0, rfl, e, fun m q h => absurd h (Nat.not_lt_zero _)⟩
    · rw [decide_eq_false e] at h
      obtain ⟨j, h1, h2, h3⟩ := find_idx (L := L) h
      refine ⟨j + 1, h1, h2, fun m r hm hr => ?_⟩
      cases m with
      | zero =>
        have := Option.some.inj hr
        rw [← this]
        exact e
      | succ m => exact h3 m r (by omega) hr
def pvals : List V := [.int 1, .int 3, .int 2, .int 1, .int 1, .int 1, .int 2, .int (-1)]
theorem pvals_at {j : Nat} {p : List Nat × Nat} (h : specials[j]? = some p) : pvals[j]? = some (.int (p.2 : Nat)) := by
  have l : j < 7 := (List.getElem?_eq_some_iff.mp h).1
  have c : j = 0 ∨ j = 1 ∨ j = 2 ∨ j = 3 ∨ j = 4 ∨ j = 5 ∨ j = 6 := by omega
  rcases c with rfl | rfl | rfl | rfl | rfl | rfl | rfl <;> (rw [← Option.some.inj h]; rfl)
section
variable {P : Program} {w : World} {K : PySem.W.Frag} {mg : Str → Option Value} {base : Heap}
def spEGood (K : PySem.W.Frag) : Sp := fun vs H Q _ => ∃ (v pv bv : V) (fs ps : List Tree) (t : Tree), vs = [v, pv, bv] ∧ Tr K H v (.l fs) ∧ Tr K H pv (.l ps) ∧ (∀ t ∈ ps, t.isW = true) ∧ Tr K H bv t ∧ t.size ≤ 19990 ∧
  ∀ (b : Bool) (H' : Hp), (b = true ↔ GoodE fs ps t) → Keep [] H H' → Q (.bl b) H'
theorem has_egood {k : Nat} (D : DefAt K mg "_law_expression_good" s_law_expression_good p_law_expression_good) (B : Bn mg) (c1 : Has P w K mg base k "_law_special" p_law_special spSpecial) (c2 : Has P w K mg base k "_law_many" p_law_many (spMany K)) :
    Has P w K mg base (k + 1) "_law_expression_good" p_law_expression_good (spEGood K) := by
  obtain ⟨f, fd, F, hm, hb⟩ := D.ex
  obtain ⟨_, _, c_law_special⟩ := c1
  obtain ⟨_, _, c_law_many⟩ := c2
  refine ⟨f, fd, F.ok sc_law_expression_good (fun vs H Q E h => ?_) (fun cdv A outer s H vs Q E hr h => ?_), hm, F.kp, hb⟩
  · obtain ⟨_, _, _, _, _, _, rfl, _⟩ := h
    rfl
  obtain ⟨v, pv0, bv, fs, ps, t, rfl, tv, tp, pw, tb, sz, q⟩ := h
  refine ⟨_, (pss_cons (ps_set (i := 3) sc_law_expression_good.nd rfl (.inl rfl) (pe_lst (pa_cons (pv 2) pa_nil)))
    (pss_cons (ps_for PassesOwn.never rfl (pi_range1 (by rfl) B.range (pa_cons pe_int pa_nil)) (pg_name (i := 4) sc_law_expression_good.nd rfl (.inl rfl))
      (pss_cons (ps_if (pt_cmpR op_eq (pe_callB call_len_seq (by rfl) B.len PySem.boot_len (pa_cons (pv 3) pa_nil)) pe_int (nomark _)) (pss_one (ps_ret pe_bl)) pss_nil)
      (pss_cons (ps_set (i := 5) sc_law_expression_good.nd rfl (.inl rfl) (pe_bm0 PySem.F.plainAttrs_list PySem.F.slot_list_pop PySem.F.type_list_pop mt_pop (pv 3)))
      (pss_cons (ps_if (pt_val (pe_callB call_isi (by rfl) B.isinstance (by decide +kernel) (pa_cons (pv 5) (pa_cons (pe_bltn (v := .ty "str") rfl B.str (by decide +kernel) rfl) pa_nil)))) (pss_cons (ps_if (pt_cmpR op_notIn_seq (pv 5) (pv 1) (by rfl)) (pss_one (ps_ret pe_bl)) pss_nil)
        (pss_one ps_continue)) pss_nil)
      (pss_cons (ps_if (PW.pt (pw_or (pt_cmpR op_eq (pe_callB call_len_seq (by rfl) B.len PySem.boot_len (pa_cons (pv 5) pa_nil)) pe_int (nomark _)) (pw_or1 (pt_not (pt_val (pe_callB call_isi (by rfl) B.isinstance (by decide +kernel) (pa_cons (pe_ix ix_tup (pv 5) pe_int (fun _ _ => rfl)) (pa_cons (pe_bltn (v := .ty "str") rfl B.str (by decide +kernel) rfl) pa_nil)))))))) (pss_one (ps_ret pe_bl)) pss_nil)
      (pss_cons (ps_set (i := 6) sc_law_expression_good.nd rfl (.inl rfl) (pe_lst (pa_cons pe_int (pa_cons pe_int (pa_cons pe_int (pa_cons pe_int (pa_cons pe_int (pa_cons pe_int (pa_cons pe_int (pa_cons (pe_un un_neg pe_int) pa_nil))))))))))
      (C8.pss_cut (ps_if (pt_cmpR op_in_seq (pe_ix ix_tup (pv 5) pe_int (fun _ _ => rfl)) (cal0 c_law_special hr) (by rfl)) (pss_one (ps_set (i := 7) sc_law_expression_good.nd rfl (.inl rfl) (pe_ix ix_list (pv 6) (pe_bm PySem.F.plainAttrs_list PySem.F.slot_list_index PySem.F.type_list_index mt_index (cal0 c_law_special hr) (pa_cons (pe_ix ix_tup (pv 5) pe_int (fun _ _ => rfl)) pa_nil)) (fun _ _ => rfl)))) (pss_one (ps_set (i := 7) sc_law_expression_good.nd rfl (.inl rfl) (cal c_law_many hr rfl (pa_cons (pv 0) (pa_cons (pe_ix ix_tup (pv 5) pe_int (fun _ _ => rfl)) pa_nil))))))
      (pss_cons (ps_if (pt_cmpR op_ne (pv 7) (pe_op op_sub (pe_callB call_len_seq (by rfl) B.len PySem.boot_len (pa_cons (pv 5) pa_nil)) pe_int) (nomark _)) (pss_one (ps_ret pe_bl)) pss_nil)
      (pss_one (ps_if (pt_cmpR op_ne (pe_ix ix_tup (pv 5) pe_int (fun _ _ => rfl)) pe_str (nomark _)) (pss_one (ps_set (i := 3) sc_law_expression_good.nd rfl (.inl rfl) (pe_op op_cat (pv 3) (pe_callTy call_list_of (by rfl) B.list (by decide +kernel) (pa_cons (pe_slice sl_tupA (pv 5) (po_some pe_int) po_none) pa_nil))))) pss_nil))))))))))
    (pss_one (ps_ret pe_bl)))), ?_⟩
  refine ⟨_, rfl, by show (1 : Nat) ≤ sizeLine; decide, fun p np => ?_⟩
  refine ⟨(20000 : Int), rfl, by decide, by decide, ?_⟩
  refine for_range (lo := 0) (n := (20000 : Int).toNat) (fun i σ H' => ∃ (y4 y5 y6 y7 : Option V) (p : Addr) (vs : List V) (ts : List Tree), σ = [some v, some pv0, some bv, some (.ref p), y4, y5, y6, y7] ∧ Keep [] H H' ∧ H p = none ∧ H' p = some (.lst vs) ∧ Trs K H' vs ts ∧ sizes ts + i ≤ 19990 ∧ (GoodE fs ps t ↔ ∀ z ∈ ts, GoodE fs ps z))
    ⟨none, none, none, none, p, _, [t], rfl, Keep.new np, np, upd_same, Trs.one (tb.keep (Keep.new (S := []) np)), by rw [sizes_cons, sizes_nil]; omega, fun h z m => (by rw [List.mem_singleton.mp m]; exact h), fun h => h t (List.mem_singleton.mpr rfl)⟩ (fun i σ H1 hi pw0 => ?_) (fun σ H1 pw0 => ?_)
  rotate_left
  · obtain ⟨_, _, _, _, p, vs, ts, _, _, _, _, _, h, _⟩ := pw0
    exact absurd h (by have : (20000 : Int).toNat = 20000 := rfl; omega)
  obtain ⟨y4, y5, y6, y7, p, vs, ts, rfl, k1, np, e1, tr, sz1, iff⟩ := pw0
  have vl := tr.length
  have tl := len_sizes ts
  refine ⟨_, rfl, p, vs, rfl, .inl (SqL.of e1), rfl, _, rfl, ?_⟩
  by_cases hne : ts = []
  · subst hne
    rw [tr.nil]
    exact iteT (q true H1 ⟨fun _ => iff.mpr fun z m => absurd m (List.not_mem_nil), fun _ => rfl⟩ k1)
  obtain ⟨ts', z, rfl⟩ := snoc_of hne
  obtain ⟨vs', zv, rfl, tr', tz⟩ := tr.snoc
  rw [dF (by rw [List.length_append, List.length_singleton]; omega)]
  refine iteF ?_
  rw [sizes_app, sizes_cons, sizes_nil] at sz1
  refine ⟨_, rfl, .inl ⟨rfl, _, SqL.of e1⟩, p, _, _, rfl, rfl, e1, last_get _ _, ?_⟩
  rw [List.dropLast_concat]
  generalize hH2 : upd H1 p (.lst vs') = H2
  have k2 : Keep [p] H1 H2 := by rw [← hH2]; exact Keep.set e1 (List.mem_cons_self ..)
  have e2 : H2 p = some (.lst vs') := by rw [← hH2, upd_same]
  have k2' : Keep [] H H2 := (k1.cons.trans (k2.mono (by simp))).drop np
  have tz2 := tz.keep k2
  have tr2 := tr'.keep k2
  have tp2 := tp.keep k2'
  have tv2 := tv.keep k2'
  have split : (∀ y ∈ ts' ++ [z], GoodE fs ps y) ↔ (∀ y ∈ ts', GoodE fs ps y) ∧ GoodE fs ps z := by
    constructor
    · intro h
      exact ⟨fun y m => h y (List.mem_append.mpr (.inl m)), h z (by simp)⟩
    · rintro ⟨h1, h2⟩ y m
      rcases List.mem_append.mp m with m | m
      · exact h1 y m
      · rw [List.mem_singleton.mp m]; exact h2
  have no : ∀ H3, Keep [] H2 H3 → ¬ GoodE fs ps z → Q (.bl false) H3 := fun H3 k3 h => q false H3 ⟨fun e => (by cases e), fun e => absurd (split.mp (iff.mp e)).2 h⟩ (k2'.trans k3)
  have zp := size_pos z
  obtain ⟨ty, u, q1, q2, q3⟩ := isi_str tz2
  refine ⟨_, rfl, _, _, ty, u, _, rfl, q1, q2, q3, _, rfl, ?_⟩
  cases z with
  | w x =>
    refine iteT ?_
    have ez := tz2.word
    subst ez
    obtain ⟨pa, pvs, rfl, hP, rP⟩ := tp2.list
    refine ⟨_, rfl, _, rfl, pa, _, rfl, .inr hP, rfl, flat_words rP pw, _, rfl, ?_⟩
    have iv := inV_words (x := x) rP pw
    by_cases hx : Tree.w x ∈ ps
    · rw [iv.mpr hx]
      refine iteF ⟨_, _, _, _, p, vs', ts', rfl, k2', np, e2, tr2, by omega, ?_⟩
      rw [iff, split]
      exact ⟨fun h => h.1, fun h2 => ⟨h2, goodE_w.mpr hx⟩⟩
    · rw [Bool.eq_false_iff.mpr fun h => hx (iv.mp h)]
      exact iteT (no H2 Keep.refl fun h => hx (goodE_w.mp h))
  | l us =>
    refine iteF ?_
    obtain ⟨za, zvs, rfl, hZ, rZ⟩ := tz2.list
    have lz := rZ.length
    refine ⟨_, rfl, za, zvs, rfl, .inr hZ, rfl, _, rfl, ?_⟩
    cases us with
    | nil =>
      rw [rZ.nil]
      exact iteT (iteT (no H2 Keep.refl fun h => (by obtain ⟨n, r, e, _⟩ := (goodE_l.mp h).1; cases e)))
    | cons u0 r =>
      rw [dF (by rw [lz, List.length_cons]; omega)]
      refine iteF ?_
      obtain ⟨v0, vr, rfl, r0, rr⟩ := rZ.cons
      have lr := rr.length
      obtain ⟨ty0, u0', p1, p2, p3⟩ := isi_str r0
      refine ⟨_, rfl, za, _, _, v0, rfl, rfl, hZ, atI_zero _ _, _, _, ty0, u0', _, rfl, p1, p2, p3, _, rfl, ?_⟩
      cases u0 with
      | l us' => exact iteT (no H2 Keep.refl fun h => (by obtain ⟨n, r', e, _⟩ := (goodE_l.mp h).1; have := (List.cons.inj e).1; cases this))
      | w n =>
        refine iteF ?_
        have e0 := r0.word
        subst e0
        -- parts
        refine ⟨_, rfl, by show (8 : Nat) ≤ sizeLine; decide, fun p5 np5 => ?_⟩
        generalize hG : upd H2 p5 (HO.lst [V.int 1, V.int 3, V.int 2, V.int 1, V.int 1, V.int 1, V.int 2, (fun i : Int => V.int (-i)) 1]) = H3
        have k3 : Keep [] H2 H3 := by rw [← hG]; exact Keep.new np5
        have e5 : H3 p5 = some (.lst pvals) := by rw [← hG, upd_same]; rfl
        have hZ3 := k3.sqT hZ
        refine ⟨fun σ' H' => ∃ (m : Int), σ' = [some v, some pv0, some bv, some (.ref p), some (.int (0 + (i : Int))), some (.ref za), some (.ref p5), some (.int m)] ∧ Keep [] H3 H' ∧ (∀ k : Nat, parts fs n = some k → m = k) ∧ (parts fs n = none → m = -1), ?_, ?_⟩
        · refine ⟨_, rfl, za, _, _, _, rfl, rfl, hZ3, atI_zero _ _, rfl, fun s1 ns1 => ?_⟩
          have k4 : Keep [] H3 (upd H3 s1 (.lst spw)) := Keep.new ns1
          have es1 : (upd H3 s1 (.lst spw)) s1 = some (.lst spw) := upd_same
          generalize upd H3 s1 (.lst spw) = H4 at k4 es1
          refine ⟨s1, spw, rfl, .inl (SqL.of es1), rfl, flat_spw, _, rfl, ?_⟩
          rw [show (if false = true then !inV (V.str (tx n)) spw else inV (V.str (tx n)) spw) = inV (V.str (tx n)) spw from rfl, inV_spw]
          cases hs : spAr n with
          | some k0 =>
            have hf : ∃ pr, specials.find? (fun p => decide (p.1 = n)) = some pr ∧ pr.2 = k0 := by
              unfold spAr at hs
              cases h : specials.find? (fun p => decide (p.1 = n)) with
              | none => rw [h] at hs; cases hs
              | some pr => rw [h] at hs; exact ⟨pr, rfl, Option.some.inj hs⟩
            obtain ⟨pr, hf1, hf2⟩ := hf
            obtain ⟨j, j1, j2, j3⟩ := find_idx hf1
            refine iteT ⟨_, rfl, rfl, fun s2 ns2 => ?_⟩
            have k5 : Keep [] H4 (upd H4 s2 (.lst spw)) := Keep.new ns2
            have es2 : (upd H4 s2 (.lst spw)) s2 = some (.lst spw) := upd_same
            generalize upd H4 s2 (.lst spw) = H5 at k5 es2
            have k45 := k4.trans k5
            refine ⟨.inl ⟨rfl, _, SqL.of es2⟩, _, rfl, za, _, _, _, rfl, rfl, k45.sqT hZ3, atI_zero _ _, s2, spw, _, j, .str (tx pr.1), rfl, rfl, SqL.of es2, rfl, flat_spw, ?_, ?_, fun m z' hm hz' => ?_, ?_⟩
            · rw [spw_eq, List.getElem?_map, j1]; rfl
            · rw [eqV_tx, decide_eq_true j2]
            · rw [spw_eq, List.getElem?_map] at hz'
              cases hq : specials[m]? with
              | none => rw [hq] at hz'; cases hz'
              | some qq =>
                rw [hq] at hz'
                have e : V.str (tx qq.1) = z' := Option.some.inj hz'
                rw [← e, eqV_tx]
                exact decide_eq_false (j3 m qq hm hq)
            refine ⟨p5, pvals, _, _, rfl, rfl, SqL.of (k45.get e5 (by simp)), atI_nat (pvals_at j1), ?_⟩
            have pe : parts fs n = some k0 := by unfold parts; rw [hs]
            refine ⟨_, rfl, k45, fun k hk => ?_, fun hk => ?_⟩
            · rw [pe] at hk
              rw [hf2, Option.some.inj hk]
            · rw [pe] at hk; cases hk
          | none =>
            have pe : parts fs n = arity fs n := by unfold parts; rw [hs]
            refine iteF ⟨_, rfl, _, rfl, za, _, _, _, rfl, rfl, k4.sqT hZ3, atI_zero _ _, v, fs, n, rfl, (tv2.keep k3).keep k4, fun m m1 m2 => ?_⟩
            exact ⟨m, rfl, k4, by rw [pe]; exact m1, by rw [pe]; exact m2⟩
        rintro σ' H6 ⟨m, rfl, k6, m1, m2⟩
        have k36 := k3.trans k6
        have hZ6 := k36.sqT hZ
        have el : (((V.str (tx n) :: vr).length : Nat) : Int) - 1 = (r.length : Nat) := by rw [List.length_cons, lr]; omega
        refine ⟨_, rfl, _, rfl, za, _, rfl, .inr hZ6, _, _, rfl, rfl, rfl, _, rfl, ?_⟩
        rw [show (!decide (V.int m = (fun i j : Int => V.int (i - j)) (((V.str (tx n) :: vr).length : Nat) : Int) 1)) = !decide (V.int m = V.int (r.length : Nat)) by
          show (!decide (V.int m = V.int (_ - 1))) = _
          rw [el]]
        have right : Right fs (.w n :: r) ↔ m = (r.length : Nat) := by
          constructor
          · rintro ⟨n', r', e, h⟩
            have h1 := Tree.w.inj (List.cons.inj e).1
            have h2 := (List.cons.inj e).2
            subst h1 h2
            exact m1 _ h
          · intro h
            cases hp : parts fs n with
            | none => have := m2 hp; omega
            | some k0 =>
              have := m1 k0 hp
              exact ⟨n, r, rfl, by rw [hp]; exact congrArg some (by omega)⟩
        by_cases hm : m = (r.length : Nat)
        rotate_left
        · rw [nT hm]
          exact iteT (no H6 k36 fun h => hm (right.mp (goodE_l.mp h).1))
        rw [nF hm]
        refine iteF ?_
        refine ⟨_, rfl, za, _, _, _, rfl, rfl, hZ6, atI_zero _ _, rfl, _, rfl, ?_⟩
        rw [lit_q]
        have lrz := len_sizes r
        rw [size_l, sizes_cons, size_w] at sz1
        have e6 := k36.get e2 (by simp)
        have tr6 := tr2.keep k36
        by_cases hq : n = qw
        · rw [nsF hq]
          have g : GoodE fs ps (.l (.w n :: r)) := goodE_l.mpr ⟨right.mpr hm, .inl (by rw [hq]; rfl)⟩
          refine iteF ⟨_, _, _, _, p, vs', ts', rfl, k2'.trans k36, np, e6, tr6, by omega, ?_⟩
          rw [iff, split]
          exact ⟨fun h => h.1, fun h2 => ⟨h2, g⟩⟩
        · rw [nsT hq]
          have g : GoodE fs ps (.l (.w n :: r)) ↔ ∀ y ∈ r, GoodE fs ps y := by
            rw [goodE_l]
            constructor
            · rintro ⟨_, h | h⟩
              · exact absurd (Tree.w.inj (Option.some.inj h)) hq
              · exact h
            · intro h
              exact ⟨right.mpr hm, .inr h⟩
          refine iteT ⟨_, rfl, _, rfl, _, rfl, ?_⟩
          dsimp only [tNoPart]
          refine sl_tr (tz2.keep k36) fun v7 H7 tv7 k7 => ?_
          have d1 := cutL_from (Tree.w n :: r) (i := 1) (by rw [List.length_cons]; omega)
          rw [show (some (1 : Int)) = some ((1 : Nat) : Int) from rfl, d1, show List.drop 1 (Tree.w n :: r) = r from rfl] at tv7
          obtain ⟨xa, xvs, rfl, hX, rX⟩ := tv7.list
          have lx := rX.length
          have lts := len_sizes ts'
          have lvs := tr2.length
          refine ⟨xa, xvs, rfl, .inr hX, fun l nl => ?_⟩
          have k8 : Keep [] H7 (upd H7 l (.lst xvs)) := Keep.new nl
          have el8 : (upd H7 l (.lst xvs)) l = some (.lst xvs) := upd_same
          generalize upd H7 l (.lst xvs) = H8 at k8 el8
          have k68 := k7.trans k8
          refine ⟨p, l, vs', xvs, rfl, rfl, k68.get e6 (by simp), el8, Nat.le_trans (show _ ≤ 60000 by omega) (by decide), fun p9 np9 => ?_⟩
          have k9 : Keep [] H8 (upd H8 p9 (.lst (vs' ++ xvs))) := Keep.new np9
          have kall := (k2'.trans k36).trans k68
          refine ⟨_, _, _, _, p9, vs' ++ xvs, ts' ++ r, rfl, kall.trans k9, kall.free np9, upd_same, (((tr6.keep k68).append (rX.keep k8))).keep k9, by rw [sizes_app]; omega, ?_⟩
          rw [iff, split, g]
          constructor
          · rintro ⟨h1, h2⟩ y m
            rcases List.mem_append.mp m with m | m
            · exact h1 y m
            · exact h2 y m
          · intro h
            exact ⟨fun y m => h y (List.mem_append.mpr (.inl m)), fun y m => h y (List.mem_append.mpr (.inr m))⟩
end
end Og

namespace Og
open PySem PySem.Spec PyProof.Rows L2
open PySem.NumText (AllDigits digitsVal)
theorem lit_ten : ("0123456789" : Str) = tx [48, 49, 50, 51, 52, 53, 54, 55, 56, 57] := by decide +kernel
theorem lit_none : ("" : Str) = tx [] := by decide +kernel
theorem lit_zero : ("0" : Str) = tx [48] := by decide +kernel
theorem mem_ten {c : Nat} : c ∈ [48, 49, 50, 51, 52, 53, 54, 55, 56, 57] ↔ 48 ≤ c ∧ c ≤ 57 := by
  constructor
  · intro h
    simp only [List.mem_cons, List.not_mem_nil, or_false] at h
    omega
  · intro h
    simp only [List.mem_cons, List.not_mem_nil, or_false]
    omega
theorem tx_one (c : Nat) : (⟨#[c]⟩ : Str) = tx [c] := rfl
section
variable {P : Program} {w : World} {K : PySem.W.Frag} {mg : Str → Option Value} {base : Heap}
def spNGood (K : PySem.W.Frag) : Sp := fun vs H Q _ => ∃ (v : V) (fs rest : List Tree) (i : Nat) (x : List Nat), vs = [v, .int i] ∧ Tr K H v (.l fs) ∧ fs[i]? = some (.l (.w x :: rest)) ∧ Ascii x ∧ x ≠ [] ∧ x.length ≤ 12 ∧
  ∀ (b : Bool) (H' : Hp), (b = true ↔ GoodName fs.length x ∧ ¬ Dupe fs i x) → Keep [] H H' → Q (.bl b) H'
theorem has_ngood {k : Nat} (D : DefAt K mg "_law_name_good" s_law_name_good p_law_name_good) (B : Bn mg) (c1 : Has P w K mg base k "_law_special" p_law_special spSpecial) :
    Has P w K mg base (k + 1) "_law_name_good" p_law_name_good (spNGood K) := by
  obtain ⟨f, fd, F, hm, hb⟩ := D.ex
  obtain ⟨_, _, c_law_special⟩ := c1
  refine ⟨f, fd, F.ok sc_law_name_good (fun vs H Q E h => ?_) (fun cdv A outer s H vs Q E hr h => ?_), hm, F.kp, hb⟩
  · obtain ⟨_, _, _, _, _, rfl, _⟩ := h
    rfl
  obtain ⟨v, fs, rest, i, x, rfl, tv, hg, asc, ne, len, q⟩ := h
  refine ⟨_, (pss_cons (ps_set (i := 2) sc_law_name_good.nd rfl (.inl rfl) (pe_ix ix_tup (pe_ix ix_tup (pv 0) (pv 1) (fun _ _ => rfl)) pe_int (fun _ _ => rfl)))
    (pss_cons (ps_if (pt_cmpR op_in_seq (pv 2) (cal0 c_law_special hr) (by rfl)) (pss_one (ps_ret pe_bl)) pss_nil)
    (pss_cons (ps_for PassesOwn.never rfl (pi_tup (pe_slice sl_tupA (pv 0) po_none (po_some (pv 1)))) (pg_name (i := 3) sc_law_name_good.nd rfl (.inl rfl))
      (pss_one (ps_if (PW.pt (pw_and (pt_val (pe_callB call_isi (by rfl) B.isinstance (by decide +kernel) (pa_cons (pv 3) (pa_cons (pe_bltn (v := .ty "tuple") rfl B.tuple (by decide +kernel) rfl) pa_nil)))) (pw_and (pt_cmpR op_gt (pe_callB call_len_seq (by rfl) B.len PySem.boot_len (pa_cons (pv 3) pa_nil)) pe_int (nomark _)) (pw_and1 (pt_cmpR (op_eqTr hr.units) (pe_ix ix_tup (pv 3) pe_int (fun _ _ => rfl)) (pv 2) (nomark _)))))) (pss_one (ps_ret pe_bl)) pss_nil)))
    (pss_cons (ps_set (i := 4) sc_law_name_good.nd rfl (.inl rfl) (pe_slice sl_str (pv 2) (po_some pe_int) po_none))
    (pss_cons (ps_if (PW.pt (pw_or (pt_cmpR op_ne (pe_ix ix_str (pv 2) pe_int (fun _ _ => rfl)) pe_str (nomark _)) (pw_or1 (pt_cmpR op_eq (pv 4) pe_str (nomark _))))) (pss_one (ps_ret pe_bl)) pss_nil)
    (pss_cons (ps_for PassesOwn.never rfl (pi_str (pv 4)) (pg_name (i := 5) sc_law_name_good.nd rfl (.inl rfl))
      (pss_one (ps_if (pt_cmpR op_notIn_sign (pv 5) pe_str (by rfl)) (pss_one (ps_ret pe_bl)) pss_nil)))
    (pss_cons (ps_if (PW.pt (pw_and (pt_cmpR op_gt (pe_callB call_len_str (by rfl) B.len PySem.boot_len (pa_cons (pv 4) pa_nil)) pe_int (nomark _)) (pw_and1 (pt_cmpR op_eq (pe_ix ix_str (pv 4) pe_int (fun _ _ => rfl)) pe_str (nomark _))))) (pss_one (ps_ret pe_bl)) pss_nil)
    (pss_one (ps_ret (pe_cmpR op_lt (pe_callTy call_int_str (by rfl) B.int (by decide +kernel) (pa_cons (pv 4) pa_nil)) (pe_callB call_len_seq (by rfl) B.len PySem.boot_len (pa_cons (pv 0) pa_nil)) (nomark _))))))))))), ?_⟩
  obtain ⟨a, vs, rfl, hS, r⟩ := tv.list
  have lv := r.length
  have il : i < fs.length := (List.getElem?_eq_some_iff.mp hg).1
  obtain ⟨z, hz, tz⟩ := r.get hg
  obtain ⟨za, zvs, rfl, hZ, rZ⟩ := tz.list
  obtain ⟨v0, vr, rfl, r0, rr⟩ := rZ.cons
  have e0 := r0.word
  subst e0
  refine ⟨_, rfl, _, rfl, a, _, _, _, rfl, rfl, hS, atI_nat hz, za, _, _, _, rfl, rfl, hZ, atI_zero _ _, ?_⟩
  refine ⟨_, rfl, rfl, fun s1 ns1 => ?_⟩
  have k1 : Keep [] H (upd H s1 (.lst spw)) := Keep.new ns1
  have es1 : (upd H s1 (.lst spw)) s1 = some (.lst spw) := upd_same
  generalize upd H s1 (.lst spw) = H1 at k1 es1
  refine ⟨s1, spw, rfl, .inl (SqL.of es1), rfl, flat_spw, _, rfl, ?_⟩
  rw [show (if false = true then !inV (V.str (tx x)) spw else inV (V.str (tx x)) spw) = inV (V.str (tx x)) spw from rfl, inV_spw]
  cases hs : spAr x with
  | some k0 => exact iteT (q false H1 ⟨fun h => (by cases h), fun h => (by have := h.1.1; rw [hs] at this; cases this)⟩ k1)
  | none =>
  refine iteF ?_
  have tv1 := tv.keep k1
  -- the names ahead
  refine ⟨_, rfl, _, rfl, _, rfl, sl_tr tv1 fun v2 H2 tv2 k2 => ?_⟩
  rw [cutL_to fs (j := i) (by omega)] at tv2
  obtain ⟨a2, vs2, rfl, hS2, r2⟩ := tv2.list
  have l2 := r2.length
  rw [List.length_take, Nat.min_eq_left (by omega)] at l2
  refine ⟨a2, rfl, ⟨_, hS2⟩, ?_⟩
  have k02 := k1.trans k2
  refine for_tup (K := K) (a := a2) (xs := vs2) (fun j σ H' => ∃ (y3 y4 y5 : Option V), σ = [some (.ref a), some (.int i), some (.str (tx x)), y3, y4, y5] ∧ H' = H2 ∧ ∀ (j' : Nat) (r : List Tree), j' < j → fs[j']? ≠ some (.l (.w x :: r)))
    ⟨none, none, none, rfl, rfl, fun j' r h => absurd h (Nat.not_lt_zero _)⟩ (fun j σ H' _ pw => ?_) (fun j z σ H' hz2 pw => ?_) (fun σ H' pw => ?_)
  · obtain ⟨_, _, _, _, rfl, _⟩ := pw
    exact hS2
  · obtain ⟨y3, y4, y5, rfl, rfl, no⟩ := pw
    have jl : j < vs2.length := (List.getElem?_eq_some_iff.mp hz2).1
    have hgj : fs[j]? = some fs[j] := List.getElem?_eq_getElem (by omega)
    have hgj2 : (fs.take i)[j]? = some fs[j] := by rw [List.getElem?_take, if_pos (by omega)]; exact hgj
    obtain ⟨z', hz', tz2⟩ := r2.get hgj2
    rw [hz2] at hz'
    cases hz'
    generalize fs[j] = t at hgj tz2
    have next : (∀ r : List Tree, t ≠ .l (.w x :: r)) → ∀ y3' : V, ∃ (y3 y4' y5' : Option V), ([some (.ref a), some (.int i), some (.str (tx x)), some y3', y4, y5] : L2.St) = [some (.ref a), some (.int i), some (.str (tx x)), y3, y4', y5'] ∧ H' = H' ∧ ∀ (j' : Nat) (r : List Tree), j' < j + 1 → fs[j']? ≠ some (.l (.w x :: r)) := fun h y3' => by
      refine ⟨_, _, _, rfl, rfl, fun j' r hj => ?_⟩
      by_cases e : j' < j
      · exact no j' r e
      · have : j' = j := by omega
        subst this
        rw [hgj]
        intro e2
        exact h r (Option.some.inj e2)
    have dup : ∀ r : List Tree, t = .l (.w x :: r) → Q (.bl false) H' := fun r e => q false H' ⟨fun h => (by cases h), fun h => absurd ⟨j, r, by omega, by rw [hgj, e]⟩ h.2⟩ k02
    obtain ⟨ty, u, q1, q2, q3⟩ := isi_tup tz2
    refine ⟨_, rfl, _, _, ty, u, _, rfl, q1, q2, q3, _, rfl, ?_⟩
    cases t with
    | w y => exact iteF (iteF (next (fun r e => (by cases e)) _))
    | l ts =>
      refine iteT ?_
      obtain ⟨ta, tvs, rfl, hT, rT⟩ := tz2.list
      have lt := rT.length
      refine ⟨_, rfl, ta, tvs, rfl, .inr hT, _, _, rfl, rfl, _, rfl, ?_⟩
      cases ts with
      | nil =>
        rw [rT.nil]
        exact iteF (iteF (next (fun r e => (by have := Tree.l.inj e; cases this)) _))
      | cons u0 us =>
        rw [decide_eq_true (show (0 : Int) < ((tvs.length : Nat) : Int) by rw [lt, List.length_cons]; omega)]
        refine iteT ?_
        obtain ⟨w0, wr, rfl, s0, sr⟩ := rT.cons
        refine ⟨_, rfl, ta, _, _, w0, rfl, rfl, hT, atI_zero _ _, _, rfl, u0, .w x, s0, tr_w, .inr rfl, fun b hb => ⟨b, rfl, ?_⟩⟩
        cases b with
        | true => exact iteT (dup us (by rw [hb.mp rfl]))
        | false => exact iteF (next (fun r e => by have := hb.mpr (List.cons.inj (Tree.l.inj e)).1; cases this) _)
  · obtain ⟨y3, y4, y5, rfl, rfl, no⟩ := pw
    have nd : ¬ Dupe fs i x := fun ⟨j, r, h1, h2⟩ => no j r (by omega) h2
    have l1 : 1 ≤ x.length := List.length_pos_iff.mpr ne
    have e1 := cutS_from x (i := 1) l1
    have szx : (tx x).length ≤ sizeLine := by rw [tx_len]; exact sizeL (by omega)
    refine ⟨_, rfl, _, rfl, _, rfl, szx, ?_⟩
    rw [show (some (1 : Int)) = some ((1 : Nat) : Int) from rfl, e1]
    have yes : (∀ ds, x = 102 :: ds → ds ≠ [] → AllDigits ds → False) → Q (.bl true) H' := fun h => q true H' ⟨fun _ => ⟨⟨hs, fun ds e1 e2 e3 => (h ds e1 e2 e3).elim⟩, nd⟩, fun _ => rfl⟩ k02
    obtain ⟨c, ds, rfl⟩ : ∃ c ds, x = c :: ds := by
      cases x with
      | nil => exact absurd rfl ne
      | cons c ds => exact ⟨c, ds, rfl⟩
    refine ⟨_, rfl, _, _, c, rfl, rfl, szx, atI_zero _ _, rfl, _, rfl, ?_⟩
    rw [lit_f, tx_one]
    by_cases hc : c = 102
    rotate_left
    · rw [nsT (a := [c]) (b := [102]) (fun e => hc (List.cons.inj e).1)]
      exact iteT (iteT (yes fun ds' e _ _ => hc (List.cons.inj e).1))
    subst hc
    rw [nsF (a := [102]) (b := [102]) rfl]
    refine iteF ?_
    rw [show List.drop 1 (102 :: ds) = ds from rfl]
    refine ⟨_, rfl, rfl, _, rfl, ?_⟩
    rw [lit_none]
    by_cases hd : ds = []
    · rw [sT hd]
      exact iteT (yes fun ds' e h _ => h (by rw [← (List.cons.inj e).2]; exact hd))
    rw [sF hd]
    refine iteF ?_
    refine ⟨_, rfl, tx ds, rfl, ?_⟩
    refine for_str (z := tx ds) (fun j σ H'' => ∃ (y5 : Option V), σ = [some (.ref a), some (.int i), some (.str (tx (102 :: ds))), y3, some (.str (tx ds)), y5] ∧ H'' = H' ∧ ∀ (j' c : Nat), j' < j → ds[j']? = some c → 48 ≤ c ∧ c ≤ 57)
      ⟨_, rfl, rfl, fun j' c h => absurd h (Nat.not_lt_zero _)⟩ (fun j c σ H'' hcj pw => ?_) (fun σ H'' pw => ?_)
    · obtain ⟨y5, rfl, rfl, dig⟩ := pw
      rw [tx_list] at hcj
      refine ⟨_, rfl, c, _, rfl, rfl, _, rfl, ?_⟩
      rw [lit_ten, tx_list]
      by_cases hm : 48 ≤ c ∧ c ≤ 57
      · rw [decide_eq_true (mem_ten.mpr hm)]
        refine iteF ⟨_, rfl, rfl, fun j' c' h1 h2 => ?_⟩
        by_cases e : j' < j
        · exact dig j' c' e h2
        · have : j' = j := by omega
          subst this
          rw [hcj] at h2
          rw [← Option.some.inj h2]
          exact hm
      · rw [decide_eq_false (fun h => hm (mem_ten.mp h))]
        exact iteT (yes fun ds' e _ h => hm (h c (by rw [← (List.cons.inj e).2]; exact List.mem_of_getElem? hcj)))
    · obtain ⟨y5, rfl, rfl, dig⟩ := pw
      rw [tx_list] at dig
      have da : AllDigits ds := fun c m => by
        obtain ⟨j, hj⟩ := List.mem_iff_getElem?.mp m
        exact dig j c (List.getElem?_eq_some_iff.mp hj).1 hj
      have dl : ds.length ≤ 11 := by rw [List.length_cons] at len; omega
      have gn : GoodName fs.length (102 :: ds) ↔ (ds = [48] ∨ ds.head? ≠ some 48) ∧ digitsVal ds < fs.length := by
        constructor
        · intro h
          exact h.2 ds rfl hd da
        · intro h
          refine ⟨hs, fun ds' e _ _ => ?_⟩
          have := (List.cons.inj e).2
          subst this
          exact h
      have szd : (tx ds).length ≤ sizeLine := by rw [tx_len]; exact sizeL (by omega)
      obtain ⟨d0, dr, rfl⟩ : ∃ d0 dr, ds = d0 :: dr := by
        cases ds with
        | nil => exact absurd rfl hd
        | cons d0 dr => exact ⟨d0, dr, rfl⟩
      have last : (d0 :: dr = [48] ∨ (d0 :: dr).head? ≠ some 48) → (tRet (tOp (rI0 fun i j => V.bl (decide (i < j))) (tCB (fun xs H Q => ∃ a n, xs = [V.str a] ∧ intText? a = some n ∧ a.length ≤ 640 ∧ Q (V.int n) H) (tCons (tVar 4) tNil))
          (tCB (fun xs H_1 Q => ∃ p ys, xs = [V.ref p] ∧ (SqL K H_1 p ys ∨ SqT K H_1 p ys) ∧ Q (V.int (ys.length : Nat)) H_1) (tCons (tVar 0) tNil)))) { nx := fun _ _ => True, rt := Q } [some (.ref a), some (.int i), some (.str (tx (102 :: d0 :: dr))), y3, some (.str (tx (d0 :: dr))), y5] H'' := fun h => by
        refine ⟨_, rfl, tx (d0 :: dr), ((digitsVal (d0 :: dr) : Nat) : Int), rfl, intText_digits da hd (by rw [tx_len]; omega), by rw [tx_len]; omega, ?_⟩
        refine ⟨_, rfl, a, vs, rfl, .inr (k02.sqT hS), _, _, rfl, rfl, q _ H'' ?_ k02⟩
        rw [gn, decide_eq_true_eq, lv]
        exact ⟨fun h2 => ⟨⟨h, by omega⟩, nd⟩, fun h2 => by have := h2.1.2; omega⟩
      refine ⟨_, rfl, tx (d0 :: dr), rfl, szd, _, _, rfl, rfl, _, rfl, ?_⟩
      rw [tx_len]
      by_cases h1 : dr = []
      · subst h1
        rw [decide_eq_false (by simp)]
        refine iteF (iteF (last ?_))
        by_cases z : d0 = 48
        · left; rw [z]
        · right; intro e; exact z (Option.some.inj e)
      · have : 1 ≤ dr.length := List.length_pos_iff.mpr h1
        rw [decide_eq_true (by rw [List.length_cons]; omega)]
        refine iteT ?_
        refine ⟨_, rfl, _, _, d0, rfl, rfl, szd, atI_zero _ _, rfl, _, rfl, ?_⟩
        rw [lit_zero, tx_one]
        by_cases z : d0 = 48
        · rw [sT (a := [d0]) (b := [48]) (by rw [z])]
          refine iteT (q false H'' ⟨fun h => (by cases h), fun h => ?_⟩ k02)
          rcases (gn.mp h.1).1 with e | e
          · exact absurd (List.cons.inj e).2 h1
          · exact absurd (by rw [z]; rfl) e
        · rw [sF (a := [d0]) (b := [48]) (fun e => z (List.cons.inj e).1)]
          exact iteF (last (.inr fun e => z (Option.some.inj e)))
end
end Og

namespace Og
open PySem PySem.Spec PyProof.Rows L2
open PySem.NumText (AllDigits digitsVal)
section
variable {P : Program} {w : World} {K : PySem.W.Frag} {mg : Str → Option Value} {base : Heap}
def spFnGood (K : PySem.W.Frag) : Sp := fun vs H Q _ => ∃ (v : V) (fs : List Tree) (i : Nat), vs = [v, .int i] ∧ Tr K H v (.l fs) ∧ WT (.l fs) ∧ (Tree.l fs).size ≤ 19990 ∧ i < fs.length ∧
  ∀ (b : Bool) (H' : Hp), (b = true ↔ GoodAt fs i) → Keep [] H H' → Q (.bl b) H'
theorem has_fngood {k : Nat} (D : DefAt K mg "_law_function_good" s_law_function_good p_law_function_good) (B : Bn mg) (c1 : Has P w K mg base k "_law_special" p_law_special spSpecial) (c2 : Has P w K mg base k "_law_name_good" p_law_name_good (spNGood K)) (c3 : Has P w K mg base k "_law_expression_good" p_law_expression_good (spEGood K)) :
    Has P w K mg base (k + 1) "_law_function_good" p_law_function_good (spFnGood K) := by
  obtain ⟨f, fd, F, hm, hb⟩ := D.ex
  obtain ⟨_, _, c_law_special⟩ := c1
  obtain ⟨_, _, c_law_name_good⟩ := c2
  obtain ⟨_, _, c_law_expression_good⟩ := c3
  refine ⟨f, fd, F.ok sc_law_function_good (fun vs H Q E h => ?_) (fun cdv A outer s H vs Q E hr h => ?_), hm, F.kp, hb⟩
  · obtain ⟨_, _, _, rfl, _⟩ := h
    rfl
  obtain ⟨v, fs, i, rfl, tv, wt, sz, il, q⟩ := h
  refine ⟨_, (pss_cons (ps_set (i := 2) sc_law_function_good.nd rfl (.inl rfl) (pe_ix ix_tup (pv 0) (pv 1) (fun _ _ => rfl)))
    (pss_cons (ps_if (PW.pt (pw_or (pt_not (pt_val (pe_callB call_isi (by rfl) B.isinstance (by decide +kernel) (pa_cons (pv 2) (pa_cons (pe_bltn (v := .ty "tuple") rfl B.tuple (by decide +kernel) rfl) pa_nil))))) (pw_or (pt_cmpR op_ne (pe_callB call_len_seq (by rfl) B.len PySem.boot_len (pa_cons (pv 2) pa_nil)) pe_int (nomark _)) (pw_or (pt_not (pt_val (pe_callB call_isi (by rfl) B.isinstance (by decide +kernel) (pa_cons (pe_ix ix_tup (pv 2) pe_int (fun _ _ => rfl)) (pa_cons (pe_bltn (v := .ty "str") rfl B.str (by decide +kernel) rfl) pa_nil))))) (pw_or1 (pt_not (pt_val (pe_callB call_isi (by rfl) B.isinstance (by decide +kernel) (pa_cons (pe_ix ix_tup (pv 2) pe_int (fun _ _ => rfl)) (pa_cons (pe_bltn (v := .ty "tuple") rfl B.tuple (by decide +kernel) rfl) pa_nil)))))))))) (pss_one (ps_ret pe_bl)) pss_nil)
    (pss_cons (ps_if (pt_cmpR op_gt (pe_callB call_len_seq (by rfl) B.len PySem.boot_len (pa_cons (pe_ix ix_tup (pv 2) pe_int (fun _ _ => rfl)) pa_nil)) pe_int (nomark _)) (pss_one (ps_ret pe_bl)) pss_nil)
    (pss_cons (ps_for PassesOwn.never rfl (pi_range1 (by rfl) B.range (pa_cons (pe_callB call_len_seq (by rfl) B.len PySem.boot_len (pa_cons (pe_ix ix_tup (pv 2) pe_int (fun _ _ => rfl)) pa_nil)) pa_nil)) (pg_name (i := 3) sc_law_function_good.nd rfl (.inl rfl))
      (pss_one (ps_if (PW.pt (pw_or (pt_not (pt_val (pe_callB call_isi (by rfl) B.isinstance (by decide +kernel) (pa_cons (pe_ix ix_tup (pe_ix ix_tup (pv 2) pe_int (fun _ _ => rfl)) (pv 3) (fun _ _ => rfl)) (pa_cons (pe_bltn (v := .ty "str") rfl B.str (by decide +kernel) rfl) pa_nil))))) (pw_or (pt_cmpR op_in_seq (pe_ix ix_tup (pe_ix ix_tup (pv 2) pe_int (fun _ _ => rfl)) (pv 3) (fun _ _ => rfl)) (cal0 c_law_special hr) (by rfl)) (pw_or1 (pt_cmpR op_in_seq (pe_ix ix_tup (pe_ix ix_tup (pv 2) pe_int (fun _ _ => rfl)) (pv 3) (fun _ _ => rfl)) (pe_slice sl_tupA (pe_ix ix_tup (pv 2) pe_int (fun _ _ => rfl)) po_none (po_some (pv 3))) (by rfl)))))) (pss_one (ps_ret pe_bl)) pss_nil)))
    (pss_one (ps_ret (pe_and (cal c_law_name_good hr rfl (pa_cons (pv 0) (pa_cons (pv 1) pa_nil))) (pe_one (cal c_law_expression_good hr rfl (pa_cons (pv 0) (pa_cons (pe_ix ix_tup (pv 2) pe_int (fun _ _ => rfl)) (pa_cons (pe_ix ix_tup (pv 2) pe_int (fun _ _ => rfl)) pa_nil)))))))))))), ?_⟩
  obtain ⟨a, vs, rfl, hS, r⟩ := tv.list
  have lv := r.length
  have hg : fs[i]? = some fs[i] := List.getElem?_eq_getElem il
  have mem := List.getElem_mem il
  obtain ⟨z, hz, tz⟩ := r.get hg
  have wz := wt.list.all _ mem
  have sg := size_of_get hg
  rw [size_l] at sz
  generalize fs[i] = t at hg tz wz sg mem
  refine ⟨_, rfl, _, rfl, a, _, _, _, rfl, rfl, hS, atI_nat hz, ?_⟩
  have no : (∀ n ps b, t ≠ .l [.w n, .l ps, b]) → Q (.bl false) H := fun h => q false H ⟨fun h => (by cases h), fun ⟨n, ps, b, e, _⟩ => (by rw [hg] at e; exact absurd (Option.some.inj e) (h n ps b))⟩ Keep.refl
  obtain ⟨ty, u, q1, q2, q3⟩ := isi_tup tz
  refine ⟨_, rfl, _, _, ty, u, _, rfl, q1, q2, q3, _, rfl, ?_⟩
  cases t with
  | w x => exact iteT (iteT (no fun n ps b e => (by cases e)))
  | l ts =>
    refine iteF ?_
    obtain ⟨za, zvs, rfl, hZ, rZ⟩ := tz.list
    have lz := rZ.length
    refine ⟨_, rfl, za, zvs, rfl, .inr hZ, rfl, _, rfl, ?_⟩
    by_cases l3 : ts.length = 3
    rotate_left
    · rw [nT (by rw [lz]; intro e; exact l3 (by omega))]
      exact iteT (iteT (no fun n ps b e => l3 (by rw [Tree.l.inj e]; rfl)))
    rw [nF (by rw [lz, l3]; rfl)]
    refine iteF ?_
    obtain ⟨t0, t1, t2, rfl⟩ := three_of l3
    obtain ⟨x0, y0, z0, rfl, r0, r1, r2⟩ := rZ.three
    obtain ⟨ty0, u0, p1, p2, p3⟩ := isi_str r0
    refine ⟨_, rfl, za, _, _, x0, rfl, rfl, hZ, rfl, _, _, ty0, u0, _, rfl, p1, p2, p3, _, rfl, ?_⟩
    cases t0 with
    | l us => exact iteT (iteT (no fun n ps b e => (by have := (List.cons.inj (Tree.l.inj e)).1; cases this)))
    | w n =>
      refine iteF ?_
      have e0 := r0.word
      subst e0
      obtain ⟨ty1, u1, w1, w2, w3⟩ := isi_tup r1
      refine ⟨_, rfl, za, _, _, y0, rfl, rfl, hZ, rfl, _, _, ty1, u1, _, rfl, w1, w2, w3, _, rfl, ?_⟩
      cases t1 with
      | w m => exact iteT (no fun n ps b e => (by have := (List.cons.inj (List.cons.inj (Tree.l.inj e)).2).1; cases this))
      | l ps =>
        refine iteF ?_
        have uniq : GoodAt fs i ↔ GoodName fs.length n ∧ GoodPs ps ∧ GoodE fs ps t2 ∧ ¬ Dupe fs i n := by
          constructor
          · rintro ⟨n', ps', bd', e, h⟩
            rw [hg] at e
            have h1 := Tree.l.inj (Option.some.inj e)
            have h2 := Tree.w.inj (List.cons.inj h1).1
            have h3 := (List.cons.inj h1).2
            have h4 := Tree.l.inj (List.cons.inj h3).1
            have h5 := (List.cons.inj (List.cons.inj h3).2).1
            rw [h2, h4, h5]
            exact h
          · intro h
            exact ⟨n, ps, t2, hg, h⟩
        obtain ⟨pa, pvs, rfl, hP, rP⟩ := r1.list
        have lp := rP.length
        refine ⟨_, rfl, za, _, _, _, rfl, rfl, hZ, rfl, pa, pvs, rfl, .inr hP, _, _, rfl, rfl, _, rfl, ?_⟩
        by_cases hl : ps.length ≤ 12
        rotate_left
        · rw [decide_eq_true (show (12 : Int) < ((pvs.length : Nat) : Int) by omega)]
          exact iteT (q false H ⟨fun h => (by cases h), fun h => absurd (uniq.mp h).2.1.1 hl⟩ Keep.refl)
        rw [decide_eq_false (show ¬ (12 : Int) < ((pvs.length : Nat) : Int) by omega)]
        refine iteF ?_
        refine ⟨_, rfl, za, _, _, _, rfl, rfl, hZ, rfl, pa, pvs, rfl, .inr hP, _, rfl, by omega, by omega, ?_⟩
        refine for_range (lo := 0) (n := ((pvs.length : Nat) : Int).toNat) (fun j σ H' => ∃ (y3 : Option V), σ = [some (.ref a), some (.int i), some (.ref za), y3] ∧ Keep [] H H' ∧ ∀ (j' : Nat) (t : Tree), j' < j → ps[j']? = some t → ∃ x, t = .w x ∧ spAr x = none ∧ ∀ j'', j'' < j' → ps[j'']? ≠ some (.w x))
          ⟨none, rfl, Keep.refl, fun j' t h => absurd h (Nat.not_lt_zero _)⟩ (fun j σ H1 hj pw => ?_) (fun σ H1 pw => ?_)
        · obtain ⟨y3, rfl, k1, good⟩ := pw
          have jl : j < ps.length := by omega
          have hgj : ps[j]? = some ps[j] := List.getElem?_eq_getElem jl
          obtain ⟨pvj, hpj, tj⟩ := rP.get hgj
          generalize ps[j] = tt at hgj tj
          have ej : (0 : Int) + (j : Int) = (j : Int) := by omega
          have hZ1 := k1.sqT hZ
          have hP1 := k1.sqT hP
          have tj1 := tj.keep k1
          have bad : ∀ H2, Keep [] H H2 → (¬ ∃ x, tt = .w x ∧ spAr x = none ∧ ∀ j'', j'' < j → ps[j'']? ≠ some (.w x)) → Q (.bl false) H2 := fun H2 k2 h => q false H2 ⟨fun h => (by cases h), fun g => absurd ((uniq.mp g).2.1.2 j tt hgj) h⟩ k2
          obtain ⟨ty2, u2, b1, b2, b3⟩ := isi_str tj1
          refine ⟨_, rfl, za, _, _, _, rfl, rfl, hZ1, rfl, _, rfl, pa, _, _, _, rfl, rfl, hP1, by rw [ej]; exact atI_nat hpj, _, _, ty2, u2, _, rfl, b1, b2, b3, _, rfl, ?_⟩
          cases tt with
          | l us => exact iteT (iteT (bad H1 k1 fun ⟨x, e, _⟩ => (by cases e)))
          | w x =>
            refine iteF ?_
            have ex := tj1.word
            subst ex
            refine ⟨_, rfl, za, _, _, _, rfl, rfl, hZ1, rfl, _, rfl, pa, _, _, _, rfl, rfl, hP1, by rw [ej]; exact atI_nat hpj, rfl, fun s1 ns1 => ?_⟩
            have k2 : Keep [] H1 (upd H1 s1 (.lst spw)) := Keep.new ns1
            have es1 : (upd H1 s1 (.lst spw)) s1 = some (.lst spw) := upd_same
            generalize upd H1 s1 (.lst spw) = H2 at k2 es1
            have k12 := k1.trans k2
            refine ⟨s1, spw, rfl, .inl (SqL.of es1), rfl, flat_spw, _, rfl, ?_⟩
            rw [show (if false = true then !inV (V.str (tx x)) spw else inV (V.str (tx x)) spw) = inV (V.str (tx x)) spw from rfl, inV_spw]
            cases hs : spAr x with
            | some k0 => exact iteT (iteT (bad H2 k12 fun ⟨x', e, h, _⟩ => (by have := Tree.w.inj e; subst this; rw [hs] at h; cases h)))
            | none =>
              refine iteF ?_
              have hZ2 := k12.sqT hZ
              have hP2 := k12.sqT hP
              refine ⟨_, rfl, za, _, _, _, rfl, rfl, hZ2, rfl, _, rfl, pa, _, _, _, rfl, rfl, hP2, by rw [ej]; exact atI_nat hpj, ?_⟩
              refine ⟨_, rfl, za, _, _, _, rfl, rfl, hZ2, rfl, ?_⟩
              dsimp only [tNoPart]
              refine ⟨_, rfl, _, rfl, ?_⟩
              refine sl_tr (r1.keep k12) fun v3 H3 tv3 k3 => ?_
              rw [ej, cutL_to ps (j := j) (by omega)] at tv3
              obtain ⟨ca, cvs, rfl, hC, rC⟩ := tv3.list
              have words : ∀ t ∈ ps.take j, t.isW = true := fun t m => by
                obtain ⟨j', hj'⟩ := List.mem_iff_getElem?.mp m
                have lj : j' < j := by
                  have := (List.getElem?_eq_some_iff.mp hj').1
                  rw [List.length_take] at this
                  omega
                rw [List.getElem?_take, if_pos lj] at hj'
                obtain ⟨x', e, _⟩ := good j' t lj hj'
                rw [e]; rfl
              have iv := inV_words (x := x) rC words
              refine ⟨ca, cvs, rfl, .inr hC, rfl, flat_words rC words, _, rfl, ?_⟩
              rw [show (if false = true then !inV (V.str (tx x)) cvs else inV (V.str (tx x)) cvs) = inV (V.str (tx x)) cvs from rfl]
              have fresh : Tree.w x ∈ ps.take j ↔ ∃ j'', j'' < j ∧ ps[j'']? = some (.w x) := by
                constructor
                · intro m
                  obtain ⟨j', hj'⟩ := List.mem_iff_getElem?.mp m
                  have lj : j' < j := by
                    have := (List.getElem?_eq_some_iff.mp hj').1
                    rw [List.length_take] at this
                    omega
                  rw [List.getElem?_take, if_pos lj] at hj'
                  exact ⟨j', lj, hj'⟩
                · rintro ⟨j', lj, hj'⟩
                  exact List.mem_iff_getElem?.mpr ⟨j', by rw [List.getElem?_take, if_pos lj]; exact hj'⟩
              by_cases hx : Tree.w x ∈ ps.take j
              · rw [iv.mpr hx]
                obtain ⟨j'', h1, h2⟩ := fresh.mp hx
                exact iteT (bad H3 (k12.trans k3) fun ⟨x', e, _, h⟩ => (by have := Tree.w.inj e; subst this; exact h j'' h1 h2))
              · rw [Bool.eq_false_iff.mpr fun h => hx (iv.mp h)]
                refine iteF ⟨_, rfl, k12.trans k3, fun j' t h1 h2 => ?_⟩
                by_cases lj : j' < j
                · exact good j' t lj h2
                · have : j' = j := by omega
                  subst this
                  rw [hgj] at h2
                  exact ⟨x, (Option.some.inj h2).symm, hs, fun j'' h3 h4 => hx (fresh.mpr ⟨j'', h3, h4⟩)⟩
        · obtain ⟨y3, rfl, k1, good⟩ := pw
          have gp : GoodPs ps := ⟨hl, fun j t h => good j t (by have := (List.getElem?_eq_some_iff.mp h).1; omega) h⟩
          have wn := wz.list.head.word
          refine ⟨_, rfl, _, rfl, _, fs, _, i, n, rfl, tv.keep k1, hg, wn.ascii, wn.ne, wn.len, fun b H2 hb2 k2 => ⟨_, rfl, ?_⟩⟩
          have k12 := k1.trans k2
          cases b with
          | false => exact iteF (q false H2 ⟨fun h => (by cases h), fun h => (by have g := uniq.mp h; have := hb2.mpr ⟨g.1, g.2.2.2⟩; cases this)⟩ k12)
          | true =>
            have g0 := hb2.mp rfl
            rw [size_l, sizes_cons, sizes_cons, sizes_cons, sizes_nil] at sg
            refine iteT ⟨_, rfl, _, rfl, za, _, _, _, rfl, rfl, k12.sqT hZ, rfl, _, rfl, za, _, _, _, rfl, rfl, k12.sqT hZ, rfl, _, _, _, fs, ps, t2, rfl, tv.keep k12, r1.keep k12, fun t m => ?_, r2.keep k12, by omega, fun b H3 hb3 k3 => ?_⟩
            · obtain ⟨i, hi⟩ := List.mem_iff_getElem?.mp m
              obtain ⟨x', e, _⟩ := gp.2 i t hi
              rw [e]; rfl
            · refine q b H3 ?_ (k12.trans k3)
              rw [uniq, hb3]
              exact ⟨fun h => ⟨g0.1, gp, h, g0.2⟩, fun h => h.2.2.1⟩
/-! ### _law_bad_function -/
def spBadF (K : PySem.W.Frag) : Sp := fun vs H Q _ => ∃ (v : V) (t : Tree), vs = [v] ∧ Tr K H v t ∧ WT t ∧ t.size ≤ 19990 ∧
  ∀ (i : Int) (H' : Hp), ((∃ n : Nat, BadNo t (some n) ∧ i = n) ∨ (BadNo t none ∧ i = -1)) → Keep [] H H' → Q (.int i) H'
theorem has_badf {k : Nat} (D : DefAt K mg "_law_bad_function" s_law_bad_function p_law_bad_function) (B : Bn mg) (c1 : Has P w K mg base k "_law_function_good" p_law_function_good (spFnGood K)) : Has P w K mg base (k + 1) "_law_bad_function" p_law_bad_function (spBadF K) := by
  obtain ⟨f, fd, F, hm, hb⟩ := D.ex
  obtain ⟨_, _, c_law_function_good⟩ := c1
  refine ⟨f, fd, F.ok sc_law_bad_function (fun vs H Q E h => ?_) (fun cdv A outer s H vs Q E hr h => ?_), hm, F.kp, hb⟩
  · obtain ⟨_, _, rfl, _⟩ := h
    rfl
  obtain ⟨v, t, rfl, tv, wt, sz, q⟩ := h
  refine ⟨_, (pss_cons (ps_if (PW.pt (pw_or (pt_not (pt_val (pe_callB call_isi (by rfl) B.isinstance (by decide +kernel) (pa_cons (pv 0) (pa_cons (pe_bltn (v := .ty "tuple") rfl B.tuple (by decide +kernel) rfl) pa_nil))))) (pw_or1 (pt_cmpR op_eq (pe_callB call_len_seq (by rfl) B.len PySem.boot_len (pa_cons (pv 0) pa_nil)) pe_int (nomark _))))) (pss_one (ps_ret pe_int)) pss_nil)
    (pss_cons (ps_for PassesOwn.never rfl (pi_range1 (by rfl) B.range (pa_cons (pe_callB call_len_seq (by rfl) B.len PySem.boot_len (pa_cons (pv 0) pa_nil)) pa_nil)) (pg_name (i := 1) sc_law_bad_function.nd rfl (.inl rfl))
      (pss_one (ps_if (pt_not (pt_val (cal c_law_function_good hr rfl (pa_cons (pv 0) (pa_cons (pv 1) pa_nil))))) (pss_one (ps_ret (pe_callTy call_int1 (by rfl) B.int (by decide +kernel) (pa_cons (pv 1) pa_nil)))) pss_nil)))
    (pss_one (ps_ret (pe_un un_neg pe_int))))), ?_⟩
  obtain ⟨ty, u, q1, q2, q3⟩ := isi_tup tv
  refine ⟨_, rfl, _, _, ty, u, _, rfl, q1, q2, q3, _, rfl, ?_⟩
  cases t with
  | w x => exact iteT (iteT (q 0 H (.inl ⟨0, rfl, rfl⟩) Keep.refl))
  | l fs =>
    refine iteF ?_
    obtain ⟨a, vs, rfl, hS, r⟩ := tv.list
    have lv := r.length
    have szl := sz
    rw [size_l] at szl
    have lsz := len_sizes fs
    refine ⟨_, rfl, a, vs, rfl, .inr hS, rfl, _, rfl, ?_⟩
    by_cases hne : fs = []
    · rw [dT (by rw [lv, hne]; rfl)]
      exact iteT (q 0 H (.inl ⟨0, .inl ⟨hne, rfl⟩, rfl⟩) Keep.refl)
    have lp : 1 ≤ fs.length := List.length_pos_iff.mpr hne
    rw [dF (by omega)]
    refine iteF ?_
    refine ⟨_, rfl, a, vs, rfl, .inr hS, _, rfl, by omega, by omega, ?_⟩
    refine for_range (lo := 0) (n := ((vs.length : Nat) : Int).toNat) (fun j σ H' => ∃ (y1 : Option V), σ = [some (.ref a), y1] ∧ Keep [] H H' ∧ ∀ j', j' < j → GoodAt fs j')
      ⟨none, rfl, Keep.refl, fun j' h => absurd h (Nat.not_lt_zero _)⟩ (fun j σ H1 hj pw => ?_) (fun σ H1 pw => ?_)
    · obtain ⟨y1, rfl, k1, good⟩ := pw
      have jl : j < fs.length := by omega
      have ej : (0 : Int) + (j : Int) = (j : Int) := by omega
      refine ⟨_, rfl, _, rfl, _, fs, j, by rw [ej]; rfl, tv.keep k1, wt, sz, jl, fun b H2 hb2 k2 => ⟨_, rfl, ?_⟩⟩
      cases b with
      | true =>
        refine iteF ⟨_, rfl, k1.trans k2, fun j' h => ?_⟩
        by_cases lj : j' < j
        · exact good j' lj
        · have : j' = j := by omega
          subst this
          exact hb2.mp rfl
      | false =>
        refine iteT ?_
        have nb : ¬ GoodAt fs j := fun h => by have := hb2.mpr h; cases this
        exact ⟨_, rfl, .inl ⟨_, rfl, q _ H2 (.inl ⟨j, .inr ⟨hne, .inr ⟨j, rfl, jl, nb, good⟩⟩, ej⟩) (k1.trans k2)⟩⟩
    · obtain ⟨y1, rfl, k1, good⟩ := pw
      exact ⟨_, rfl, q (-1) H1 (.inr ⟨.inr ⟨hne, .inl ⟨rfl, fun i h => good i (by omega)⟩⟩, rfl⟩) k1⟩
end
end Og

namespace Og
open PySem PySem.Spec PyProof.Rows L2
section
variable {P : Program} {w : World} {K : PySem.W.Frag} {mg : Str → Option Value} {base : Heap}
/-- the except suite of the law -/
def suiteP (K : PySem.W.Frag) (C G CT CI a dd : Addr) (d : Option Addr) : TS :=
  tSeq (tIfS (tOr (tNot (tB (tCB (rIsD K C a dd) (tCons (tVar 2) (tCons (tC (.ref G)) tNil))))) (tOr (tB (tCB (rIsD K C a dd) (tCons (tVar 2) (tCons (tC (.ref CT)) tNil)))) (tB (tCB (rIsD K C a dd) (tCons (tVar 2) (tCons (tC (.ref CI)) tNil)))))) (tRet (tC (.bl false))) tNext)
    (tRet (tAndV (tOp (rI0 fun i j => V.bl (decide (j ≤ i))) (tVar 1) (tC (.int 0))) (tAndV (tCB (rIsi K) (tCons (tXf a (.ref C) d C "function" (tVar 2)) (tCons (tC (.ty "int")) tNil)))
      (tAndV (tNotV (tCB (rIsi K) (tCons (tXf a (.ref C) d C "function" (tVar 2)) (tCons (tC (.ty "bool")) tNil)))) (tOp rEq (tXf a (.ref C) d C "function" (tVar 2)) (tVar 1))))))
theorem isi_int {K : PySem.W.Frag} {H : Hp} {i : Int} : ∃ ty u, ClsV (.ty "int") u ∧ TyX K H (.int i) ty ∧ PySem.W.kitOne K ty u = some true := ⟨_, _, .ty _, .base (.int _), kit_ty (by decide +kernel)⟩
theorem isi_intbool {K : PySem.W.Frag} {H : Hp} {i : Int} : ∃ ty u, ClsV (.ty "bool") u ∧ TyX K H (.int i) ty ∧ PySem.W.kitOne K ty u = some false := ⟨_, _, .ty _, .base (.int _), kit_ty (by decide +kernel)⟩
def spRight (K : PySem.W.Frag) : Sp := fun vs H Q _ => ∃ (v : V) (t : Tree), vs = [v] ∧ Tr K H v t ∧ WT t ∧ t.size ≤ 19990 ∧ (∀ fs, t = .l fs → fs.length ≤ 1000) ∧ ∀ H', Keep [] H H' → Q (.bl true) H'
theorem has_isright {C G fI CT CI : Addr} {fdI : FuncData} {k : Nat} (T_BadProgram : ErrT K mg "BadProgram" "BadProgram.__init__" "function" s_BadProgram_init C G fI fdI) (Hh : ErrH K C G) (gT : mg "BadText" = some (.ref CT)) (nT : PySem.W.kitOne K (.ref C) (.ref CT) = some false) (gI : mg "BadInputs" = some (.ref CI)) (nI : PySem.W.kitOne K (.ref C) (.ref CI) = some false)
    (D : DefAt K mg "_law_is_right" s_law_is_right p_law_is_right) (B : Bn mg) (c1 : Has P w K mg base k "_law_bad_function" p_law_bad_function (spBadF K)) (c2 : HasX P w K mg base k "check_program" p_check_program (spCheckX K C)) :
    Has P w K mg base (k + 1) "_law_is_right" p_law_is_right (spRight K) := by
  obtain ⟨f, fd, F, hm, hb⟩ := D.ex
  obtain ⟨_, _, c_law_bad_function⟩ := c1
  obtain ⟨_, _, c_check_program⟩ := c2
  have ec : ExcC K C := ⟨Hh.ga, Hh.gg, T_BadProgram.ox.exC, Hh.hd, Hh.ck, Hh.cg, Hh.ct, Hh.cm⟩
  have xf : XfC K C := xfB_ok (by unfold xfB; rw [decide_eq_true Hh.ga, decide_eq_true Hh.gg, decide_eq_true T_BadProgram.ox.exC, Hh.hd]; rfl)
  have exm : PySem.W.exmOne K (.ref C) (.ref C) = some true := PySem.W.exm_ref T_BadProgram.ox.exC Hh.hd T_BadProgram.ox.tyC Hh.se
  refine ⟨f, fd, F.ok sc_law_is_right (fun vs H Q E h => ?_) (fun cdv A outer s H vs Q E hr h => ?_), hm, F.kp, hb⟩
  · obtain ⟨_, _, rfl, _⟩ := h
    rfl
  obtain ⟨v, t, rfl, tv, wt, sz, few, q⟩ := h
  refine ⟨_, pss_cons (ps_set (i := 1) sc_law_is_right.nd rfl (.inl rfl) (cal c_law_bad_function hr rfl (pa_cons (pv 0) pa_nil)))
    (pss_one (ps_try_as (i := 2) (tb := fun W => tRet (tAndV (tOp (fun x y H Q => y = .non ∧ Q (.bl (decide (x = .non))) H) (tCallS (spCheckX K C) (WE W) (tCons (tVar 0) tNil)) (tC .non)) (tOp (rI0 fun i j => V.bl (decide (i < j))) (tVar 1) (tC (.int 0))))) (ts := fun a cls d D σ H => ∃ dd : Addr, (cls = .ref C ∧ d = some dd) ∧ suiteP K C G CT CI a dd d D σ H) (Wout := fun _ _ _ _ => False) rfl rfl sc_law_is_right.nd rfl rfl ⟨rfl, by decide, Or.inl T_BadProgram.gC⟩ takes0
      (fun W pn xe tk _ => pss_one (ps_ret (pe_and (pe_cmpR op_isN (by exact (pe_callS c_check_program.ok hr rfl c_check_program.mg c_check_program.kp c_check_program.bi (fun σ => passAt tk σ) (pa_cons (pv 0) pa_nil))) pe_non (nomark _)) (pe_one (pe_cmpR op_lt (pv 1) pe_int (nomark _))))))
      (fun a oe cls d pn hz hf => pss_ex fun dd => pss_when fun hcd => by
        obtain ⟨rfl, rfl⟩ := hcd
        exact (pss_cons (ps_if (PW.pt (pw_or (pt_not (pt_val (pe_callB (call_isD ec hz hf) (by rfl) B.isinstance (by decide +kernel) (pa_cons (pv 2) (pa_cons (pe_glob rfl T_BadProgram.gG rfl) pa_nil))))) (pw_or (pt_val (pe_callB (call_isD ec hz hf) (by rfl) B.isinstance (by decide +kernel) (pa_cons (pv 2) (pa_cons (pe_glob rfl gT rfl) pa_nil)))) (pw_or1 (pt_val (pe_callB (call_isD ec hz hf) (by rfl) B.isinstance (by decide +kernel) (pa_cons (pv 2) (pa_cons (pe_glob rfl gI rfl) pa_nil)))))))) (pss_one (ps_ret pe_bl)) pss_nil)
          (pss_one (ps_ret (pe_and (pe_cmpR op_ge (pv 1) pe_int (nomark _)) (pe_and (pe_callB call_isi (by rfl) B.isinstance (by decide +kernel) (pa_cons (pe_xf xf T_BadProgram.no hz hf (pv 2)) (pa_cons (pe_bltn (v := .ty "int") rfl B.int (by decide +kernel) rfl) pa_nil)))
            (pe_and (pe_not (pe_callB call_isi (by rfl) B.isinstance (by decide +kernel) (pa_cons (pe_xf xf T_BadProgram.no hz hf (pv 2)) (pa_cons (pe_bltn (v := .ty "bool") rfl B.bool (by decide +kernel) rfl) pa_nil)))) (pe_one (pe_cmpR op_eq (pe_xf xf T_BadProgram.no hz hf (pv 2)) (pv 1) (nomark _)))))))))))), ?_⟩
  refine ⟨_, rfl, v, t, rfl, tv, wt, sz, fun i H1 out k1 => ?_⟩
  refine ⟨_, rfl, v, t, rfl, tv.keep k1, wt, by omega, few, fun n hn => ?_, fun H2 hn k2 => ?_⟩
  · -- an error with the number n
    rcases out with ⟨n', hn', rfl⟩ | ⟨hn', _⟩
    rotate_left
    · have := BadNo.uniq hn hn'; cases this
    have e := Option.some.inj (BadNo.uniq hn hn')
    subst e
    intro d H2 ed k2
    refine ⟨true, exm, fun _ a ha => ⟨d, ⟨rfl, rfl⟩, ?_⟩, fun q => nomatch q⟩
    refine ⟨_, rfl, _, _, true, _, rfl, .own G, ed, Hh.kG, _, rfl, iteF ?_⟩
    refine ⟨_, rfl, _, _, false, _, rfl, .own CT, ed, nT, _, rfl, iteF ?_⟩
    refine ⟨_, rfl, _, _, false, _, rfl, .own CI, ed, nI, _, rfl, iteF ?_⟩
    obtain ⟨ty, u, q1, q2, q3⟩ := isi_int (K := K) (H := H2) (i := (n : Int))
    obtain ⟨ty', u', q1', q2', q3'⟩ := isi_intbool (K := K) (H := H2) (i := (n : Int))
    refine ⟨_, rfl, _, _, rfl, rfl, _, rfl, ?_⟩
    rw [decide_eq_true (show (0 : Int) ≤ (n : Int) by omega)]
    refine iteT ⟨_, rfl, rfl, rfl, d, _, _, rfl, ed, rfl, _, _, ty, u, _, rfl, q1, q2, q3, _, rfl, iteT ?_⟩
    refine ⟨_, rfl, rfl, rfl, d, _, _, rfl, ed, rfl, _, _, ty', u', _, rfl, q1', q2', q3', _, rfl, _, rfl, iteT ?_⟩
    refine ⟨_, rfl, rfl, rfl, d, _, _, rfl, ed, rfl, _, rfl, rfl, ?_⟩
    rw [dT rfl]
    exact q H2 (k1.trans k2)
  · rcases out with ⟨n', hn', _⟩ | ⟨_, rfl⟩
    · have := BadNo.uniq hn hn'; cases this
    refine ⟨rfl, _, rfl, ?_⟩
    rw [decide_eq_true rfl]
    refine iteT ⟨_, rfl, _, _, rfl, rfl, ?_⟩
    exact q H2 (k1.trans k2)
end
end Og

namespace Og
open PySem PySem.Spec PyProof.Rows L2
/-! ### written words and tuples of such, as trees -/
def tL (K : PySem.W.Frag) (t : Tree) : TE := fun _ H Q => ∀ (v : V) (H' : Hp), Tr K H' v t → Keep [] H H' → Q v H'
def tLs (K : PySem.W.Frag) (ts : List Tree) : TA := fun _ H R => ∀ (vs : List V) (H' : Hp), Trs K H' vs ts → Keep [] H H' → R vs H'
section
variable {X : Cx} {e : Expr} {es : List Expr} {t : Tree} {ts : List Tree}
theorem pe_weak {e : Expr} {t t' : TE} (h : PE X e t) (w : ∀ σ H Q, t' σ H Q → t σ H Q) : PE X e t' := ⟨fun pins s σ H Q I q => h.run pins s σ H Q I (w σ H Q q)⟩
theorem pa_weak {es : List Expr} {t t' : TA} (h : PA X es t) (w : ∀ σ H R, t' σ H R → t σ H R) : PA X es t' := ⟨fun pos pins s σ H R I q => h.run pos pins s σ H R I (w σ H R q)⟩
theorem pe_lw {s : Str} {k : Nat} {pos : Pos} {x : List Nat} (h : s = tx x) : PE X (.Constant (.str s) k pos) (tL X.K (.w x)) :=
  pe_weak pe_str fun σ H Q q => q _ H (by rw [h]; exact tr_w) Keep.refl
theorem pl_nil : PA X [] (tLs X.K []) := pa_weak pa_nil fun σ H R q => q [] H trs_nil Keep.refl
theorem pl_cons (h : PE X e (tL X.K t)) (r : PA X es (tLs X.K ts)) (hs : starEach (e :: es) X.env = (false, eval e X.env) :: starEach es X.env := by rfl) : PA X (e :: es) (tLs X.K (t :: ts)) :=
  pa_weak (pa_cons h r hs) fun σ H R q v H1 tv k1 vs H2 tvs k2 => q (v :: vs) H2 (trs_cons (tv.keep k2) tvs) (k1.trans k2)
theorem pe_lt {k : Nat} {pos : Pos} (r : PA X es (tLs X.K ts)) (l : ts.length ≤ sizeLine) : PE X (.Tuple es k pos) (tL X.K (.l ts)) :=
  pe_weak (pe_tup r) fun σ H Q q vs H1 tvs k1 => ⟨by rw [tvs.length]; exact l, fun p np => q _ _ (tr_tup upd_same (tvs.keep (Keep.new (S := []) np))) (k1.trans (Keep.new np))⟩
end
/-! ### one of some written words -/
def isWordB : List Nat → Bool
  | [] => false
  | c :: cs => decide (97 ≤ c) && decide (c ≤ 122) && cs.all (fun y => (decide (97 ≤ y) && decide (y ≤ 122)) || (decide (48 ≤ y) && decide (y ≤ 57))) && decide (cs.length ≤ 11)
theorem isWord_of : ∀ {x : List Nat}, isWordB x = true → IsWord x
  | [], h => by cases h
  | c :: cs, h => by
    simp only [isWordB, Bool.and_eq_true, decide_eq_true_eq, List.all_eq_true, Bool.or_eq_true] at h
    exact ⟨c, cs, rfl, h.1.1, h.1.2, h.2⟩
theorem pick {L : List (List Nat)} {xs : List V} (e : xs = L.map fun c => V.str (tx c)) (w : L.all isWordB = true) {j : Int} (h0 : 0 ≤ j) (h1 : j < (L.length : Int)) : ∃ c, atI xs j = some (.str (tx c)) ∧ IsWord c ∧ c ∈ L := by
  obtain ⟨n, rfl⟩ := Int.eq_ofNat_of_zero_le h0
  have l : n < L.length := by omega
  refine ⟨L[n], ?_, isWord_of (List.all_eq_true.mp w _ (List.getElem_mem l)), List.getElem_mem l⟩
  exact atI_nat (by rw [e, List.getElem?_map, List.getElem?_eq_getElem l]; rfl)
mutual
def wtB : Tree → Bool
  | .w x => isWordB x
  | .l ts => wtsB ts
def wtsB : List Tree → Bool
  | [] => true
  | t :: ts => wtB t && wtsB ts
end
mutual
theorem wt_of : ∀ {t : Tree}, wtB t = true → WT t
  | .w x, h => by rw [wtB] at h; exact wt_w (isWord_of h)
  | .l ts, h => by rw [wtB] at h; exact wt_l (wts_of h)
theorem wts_of : ∀ {ts : List Tree}, wtsB ts = true → WTs ts
  | [], _ => wts_nil
  | t :: ts, h => by
    rw [wtsB, Bool.and_eq_true] at h
    exact wts_cons (wt_of h.1) (wts_of h.2)
end
mutual
def deepB : Nat → Tree → Bool
  | _, .w _ => true
  | 0, .l _ => false
  | n + 1, .l ts => deepsB n ts
def deepsB : Nat → List Tree → Bool
  | _, [] => true
  | n, t :: ts => deepB n t && deepsB n ts
end
mutual
theorem deep_of : ∀ {n : Nat} {t : Tree}, deepB n t = true → Deep n t
  | n, .w x, _ => deep_w n x
  | 0, .l _, h => by rw [deepB] at h; cases h
  | n + 1, .l ts, h => by rw [deepB] at h; exact deeps_of h
theorem deeps_of : ∀ {n : Nat} {ts : List Tree}, deepsB n ts = true → ∀ t ∈ ts, Deep n t
  | n, [], _ => fun t m => absurd m (List.not_mem_nil)
  | n, u :: ts, h => fun t m => by
    rw [deepsB, Bool.and_eq_true] at h
    rcases List.mem_cons.mp m with e | m
    · rw [e]; exact deep_of h.1
    · exact deeps_of h.2 t m
end
end Og

namespace Og
open PySem PySem.Spec PyProof.Rows L2
/-! ### _law_value, _law_expression -/
def MV : Nat → Nat
  | 0 => 1
  | n + 1 => 1 + 3 * MV n
theorem MV.pos (n : Nat) : 1 ≤ MV n := by
  cases n with
  | zero => exact Nat.le_refl _
  | succ n => show 1 ≤ 1 + 3 * MV n; omega
def vwords : List (List Nat) := [[121, 101, 115], [97], [113, 117, 111, 116, 101], [102, 48], [98, 50], [100, 111, 110, 101], [115, 112, 105, 110], [120]]
section
variable {P : Program} {w : World} {K : PySem.W.Frag} {mg : Str → Option Value} {base : Heap}
def spVal (K : PySem.W.Frag) (n : Nat) : Sp := fun vs H Q _ => ∃ (h d : Addr), vs = [.ref h, .int n] ∧ Hd H h d ∧
  ∀ (v : V) (t : Tree) (H' : Hp), Tr K H' v t → WT t → t.size ≤ MV n → Deep n t → Keep [h] H H' → Hd H' h d → Q v H'
theorem has_val {k : Nat} (D : DefAt K mg "_law_value" s_law_value p_law_value) (B : Bn mg) (c1 : Has P w K mg base k "_law_take" p_law_take spTake) : ∀ n, Has P w K mg base (k + n + 1) "_law_value" p_law_value (spVal K n) := by
  obtain ⟨f, fd, F, hm, hb⟩ := D.ex
  have step : ∀ n sp, Callee P w K mg base CX0 (k + n) "_law_value" f fd p_law_value sp → (∀ m, n = m + 1 → ∀ vs H Q E, spVal K m vs H Q E → sp vs H Q E) → FnOk P w K mg base CX0 (k + n + 1) f fd p_law_value (spVal K n) := fun n sp c_law_value hsp => by
    obtain ⟨_, _, c_law_take⟩ := c1.mono (show k ≤ k + n by omega)
    refine F.ok sc_law_value (fun vs H Q E h => ?_) (fun cdv A outer s H vs Q E hr h => ?_)
    · obtain ⟨_, _, rfl, _⟩ := h
      rfl
    obtain ⟨a, d, rfl, hd, q⟩ := h
    refine ⟨_, (pss_cons (ps_if (PW.pt (pw_or (pt_cmpR op_eq (pv 1) pe_int (nomark _)) (pw_or1 (pt_cmpR op_eq (cal c_law_take hr rfl (pa_cons (pv 0) (pa_cons pe_int pa_nil))) pe_int (nomark _))))) (pss_one (ps_ret (pe_ix ix_list (pe_lst (pa_cons pe_str (pa_cons pe_str (pa_cons pe_str (pa_cons pe_str (pa_cons pe_str (pa_cons pe_str (pa_cons pe_str (pa_cons pe_str pa_nil))))))))) (cal c_law_take hr rfl (pa_cons (pv 0) (pa_cons pe_int pa_nil))) (fun _ _ => rfl)))) pss_nil)
    (pss_one (ps_ret (pe_callTy call_tuple_of (by rfl) B.tuple (by decide +kernel) (pa_cons (pe_lc (own := [("k", 2)]) (g := gName 2) (tt := tYes) rfl sc_law_value.nd (pi_range1 (by rfl) B.range (pa_cons (cal c_law_take hr rfl (pa_cons (pv 0) (pa_cons pe_int pa_nil))) pa_nil)) (blkOk_by (N := n_law_value) (sc := defScope s_law_value) (by decide +kernel)) (fun _ _ _ _ _ => pg_name (i := 2) sc_law_value.nd rfl (Or.inl rfl)) (fun _ _ _ _ _ => pts_nil) (fun _ _ _ _ _ => (cal c_law_value hr rfl (pa_cons (pv 0) (pa_cons (pe_op op_sub (pv 1) pe_int) pa_nil))))) pa_nil))))), ?_⟩
    have word : ∀ (p : Addr) (H1 : Hp), Keep [a] H H1 → Hd H1 a d → H1 p = none → spTake [.ref a, .int 8] (upd H1 p (.lst [.str "yes", .str "a", .str "quote", .str "f0", .str "b2", .str "done", .str "spin", .str "x"])) (fun y H2 => rIxL K (.ref p) y H2 Q) E0 := fun p H1 k1 hd1 np => by
      refine ⟨a, d, 8, rfl, hd1.new np, by decide, fun j H2 j0 j1 k2 hd2 => ?_⟩
      have pa : p ≠ a := (hd1.neH np).symm
      obtain ⟨c, hc, wc, _⟩ := pick (L := vwords) (xs := [.str "yes", .str "a", .str "quote", .str "f0", .str "b2", .str "done", .str "spin", .str "x"]) (by decide +kernel) (by decide) j0 j1
      refine ⟨p, _, j, _, rfl, rfl, SqL.of (k2.get upd_same (by simpa using pa)), hc, ?_⟩
      exact q _ _ H2 tr_w (wt_w wc) (by rw [size_w]; exact MV.pos n) (deep_w _ _) ((k1.trans (Keep.new np)).trans k2) hd2
    refine ⟨_, rfl, rfl, _, rfl, ?_⟩
    cases n with
    | zero => exact iteT (iteT ⟨by show (8 : Nat) ≤ sizeLine; decide, fun p np => ⟨_, rfl, word p H Keep.refl hd np⟩⟩)
    | succ m =>
      rw [dF (by omega)]
      refine iteF ?_
      refine ⟨_, rfl, a, d, 3, rfl, hd, by decide, fun i H1 i0 i1 k1 hd1 => ?_⟩
      refine ⟨rfl, _, rfl, ite2 (fun c => ?_) (fun c => ?_)⟩
      · exact ⟨by show (8 : Nat) ≤ sizeLine; decide, fun p np => ⟨_, rfl, word p H1 k1 hd1 np⟩⟩
      refine ⟨_, rfl, a, d, 4, rfl, hd1, by decide, fun z H2 z0 z1 k2 hd2 => ?_⟩
      refine ⟨_, rfl, by omega, by omega, fun L nL => ?_⟩
      have La : L ≠ a := (hd2.neH nL).symm
      have Ld : L ≠ d := (hd2.neD nL).symm
      have k12 := k1.trans k2
      have nL0 : H L = none := k12.free nL
      refine lc_range (lo := 0) (n := z.toNat) (fun i H' => ∃ vs ts, H' L = some (.lst vs) ∧ Trs K H' vs ts ∧ ts.length = i ∧ (∀ t ∈ ts, WT t ∧ t.size ≤ MV m ∧ Deep m t) ∧ Keep [a] H H' ∧ Hd H' a d)
        ⟨[], [], upd_same, trs_nil, rfl, by simp, k12.newT nL, hd2.new nL⟩ (fun i H5 hi p => ?_) (fun H5 p => ?_)
      · obtain ⟨vs, ts, e1, e2, e3, e4, k6, hd5⟩ := p
        refine ⟨rfl, yes ?_⟩
        refine ⟨_, rfl, _, rfl, _, _, rfl, rfl, hsp m rfl _ _ _ _ ⟨a, d, ?_, hd5, fun v t H6 tv wt sz dp k7 hd6 => ?_⟩⟩
        · show [V.ref a, V.int ((((m + 1 : Nat)) : Int) - 1)] = [V.ref a, V.int (m : Int)]
          rw [show (((m + 1 : Nat)) : Int) - 1 = (m : Int) by omega]
        have e1' : H6 L = some (.lst vs) := k7.get e1 (by simpa using La)
        have k8 : Keep [L] H6 (upd H6 L (.lst (vs ++ [v]))) := Keep.set e1' (List.mem_cons_self ..)
        refine ⟨vs, e1', ?_, vs ++ [v], ts ++ [t], upd_same, (e2.keep k7 |>.append (trs_cons tv trs_nil)).keep k8, by rw [List.length_append, e3]; rfl, ?_, ((k6.trans k7).cons.trans (k8.mono (by simp))).drop nL0, hd6.upd La.symm Ld.symm⟩
        · rw [e2.length]
          exact sizeLt (by omega)
        · intro u hu
          rcases List.mem_append.mp hu with m | m
          · exact e4 u m
          · rw [List.mem_singleton.mp m]
            exact ⟨wt, sz, dp⟩
      · obtain ⟨vs, ts, e1, e2, e3, e4, k6, hd5⟩ := p
        refine ⟨L, vs, rfl, .inl ⟨SqL.of e1, fun T nT => ?_⟩⟩
        refine q _ (.l ts) _ (tr_tup upd_same (e2.keep (Keep.new (S := []) nT))) (wt_l (WTs.of fun t m => (e4 t m).1)) ?_ (fun t m => (e4 t m).2.2) (k6.newT nT) (hd5.new nT)
        rw [size_l]
        have h1 := sizes_le fun t m => (e4 t m).2.1
        have l : ts.length ≤ 3 := by omega
        have h2 := Nat.mul_le_mul_right (MV m) l
        show _ ≤ 1 + 3 * MV m
        omega
  have all : ∀ n, FnOk P w K mg base CX0 (k + n + 1) f fd p_law_value (spVal K n) := fun n => by
    induction n with
    | zero => exact step 0 (fun _ _ _ _ => False) ⟨⟨fun _ _ _ _ h => h.elim, fun _ _ _ _ _ _ _ _ _ _ _ _ _ h => h.elim⟩, hm, F.kp, hb⟩ fun m e => by cases e
    | succ m ih => exact step (m + 1) (spVal K m) ⟨ih, hm, F.kp, hb⟩ fun m' e vs H Q E q => by cases e; exact q
  exact fun n => ⟨f, fd, all n, hm, F.kp, hb⟩
end
end Og

namespace Og
open PySem PySem.Spec PyProof.Rows L2
def ME : Nat → Nat
  | 0 => 15
  | n + 1 => 2 + 4 * ME n
theorem ME.ge (n : Nat) : 15 ≤ ME n := by
  cases n with
  | zero => exact Nat.le_refl _
  | succ n => have := ME.ge n; show 15 ≤ 2 + 4 * ME n; omega
/-- the calls that an expression may hold -/
def Cls (H : Hp) (cl : Addr) : Prop := ∃ cvs : List V, H cl = some (.lst cvs) ∧ cvs.length ≤ 10 ∧ ∀ c ∈ cvs, ∃ (a : Addr) (nm : List Nat) (m : Nat), c = .ref a ∧ H a = some (.tup [.str (tx nm), .int m]) ∧ IsWord nm ∧ m ≤ 4
theorem Cls.keep {S : List Addr} {H H1 : Hp} {cl : Addr} (h : Cls H cl) (k : Keep S H H1) (n : cl ∉ S) : Cls H1 cl := by
  obtain ⟨cvs, e, l, q⟩ := h
  refine ⟨cvs, k.get e n, l, fun c m => ?_⟩
  obtain ⟨a, nm, j, e1, e2, e3, e4⟩ := q c m
  exact ⟨a, nm, j, e1, k.tup e2, e3, e4⟩
section
variable {P : Program} {w : World} {K : PySem.W.Frag} {mg : Str → Option Value} {base : Heap}
def spExpr (K : PySem.W.Frag) (n : Nat) : Sp := fun vs H Q _ => ∃ (h d cl : Addr) (pv : V) (ps : List Tree), vs = [.ref h, pv, .ref cl, .int n] ∧ Hd H h d ∧ Tr K H pv (.l ps) ∧ (∀ t ∈ ps, t.isW = true) ∧ WTs ps ∧ ps.length ≤ 1000 ∧ Cls H cl ∧ cl ≠ h ∧
  ∀ (v : V) (t : Tree) (H' : Hp), Tr K H' v t → WT t → t.size ≤ ME n → Deep (n + 3) t → Keep [h] H H' → Hd H' h d → Q v H'
theorem has_expr {k : Nat} (D : DefAt K mg "_law_expression" s_law_expression p_law_expression) (B : Bn mg) (c1 : Has P w K mg base k "_law_take" p_law_take spTake) (c2 : Has P w K mg base k "_law_value" p_law_value (spVal K 2)) : ∃ f fd, ∀ n, Callee P w K mg base CX0 (k + n + 1) "_law_expression" f fd p_law_expression (spExpr K n) := by
  obtain ⟨f, fd, F, hm, hb⟩ := D.ex
  have step : ∀ n sp, Callee P w K mg base CX0 (k + n) "_law_expression" f fd p_law_expression sp → (∀ m, n = m + 1 → ∀ vs H Q E, spExpr K m vs H Q E → sp vs H Q E) → FnOk P w K mg base CX0 (k + n + 1) f fd p_law_expression (spExpr K n) := fun n sp c_law_expression hsp => by
    obtain ⟨_, _, c_law_take⟩ := c1.mono (show k ≤ k + n by omega)
    obtain ⟨_, _, c_law_value⟩ := c2.mono (show k ≤ k + n by omega)
    refine F.ok sc_law_expression (fun vs H Q E h => ?_) (fun cdv A outer s H vs Q E hr h => ?_)
    · obtain ⟨_, _, _, _, _, rfl, _⟩ := h
      rfl
    obtain ⟨a, d, cl, pv0, ps, rfl, hd, tp, pw, wp, lps, cls, cla, q⟩ := h
    refine ⟨_, (pss_cons (ps_set (i := 4) sc_law_expression.nd rfl (.inl rfl) (cal c_law_take hr rfl (pa_cons (pv 0) (pa_cons pe_int pa_nil))))
    (pss_cons (ps_if (PW.pt (pw_or (pt_cmpR op_eq (pv 3) pe_int (nomark _)) (pw_or1 (pt_cmpR op_lt (pv 4) pe_int (nomark _))))) (pss_cons (ps_if (PW.pt (pw_and (pt_cmpR op_gt (pe_callB call_len_seq (by rfl) B.len PySem.boot_len (pa_cons (pv 1) pa_nil)) pe_int (nomark _)) (pw_and1 (pt_cmpR op_gt (cal c_law_take hr rfl (pa_cons (pv 0) (pa_cons pe_int pa_nil))) pe_int (nomark _))))) (pss_one (ps_ret (pe_ix ix_tup (pv 1) (cal c_law_take hr rfl (pa_cons (pv 0) (pa_cons (pe_callB call_len_seq (by rfl) B.len PySem.boot_len (pa_cons (pv 1) pa_nil)) pa_nil))) (fun _ _ => rfl)))) pss_nil)
      (pss_one (ps_ret (pe_tup (pa_cons pe_str (pa_cons (cal c_law_value hr rfl (pa_cons (pv 0) (pa_cons pe_int pa_nil))) pa_nil)))))) pss_nil)
    (pss_cons (ps_if (pt_cmpR op_lt (pv 4) pe_int (nomark _)) (pss_cons (ps_setLc (i := 5) (own := [("k", 6)]) (g := gName 6) (tt := tYes) rfl sc_law_expression.nd rfl rfl (sw_true rfl rfl rfl (by decide +kernel)) (pi_range1 (by rfl) B.range (pa_cons pe_int pa_nil)) (blkOk_by (N := n_law_expression) (sc := defScope s_law_expression) (by decide +kernel)) (fun _ _ _ _ _ => pg_name (i := 6) sc_law_expression.nd rfl (Or.inl rfl)) (fun _ _ _ _ _ => pts_nil) (fun _ _ _ _ _ => (cal c_law_expression hr rfl (pa_cons (pv 0) (pa_cons (pv 1) (pa_cons (pv 2) (pa_cons (pe_op op_sub (pv 3) pe_int) pa_nil)))))))
      (pss_one (ps_ret (pe_tup (pa_cons pe_str (pa_cons (pe_ix ix_list (pv 5) pe_int (fun _ _ => rfl)) (pa_cons (pe_ix ix_list (pv 5) pe_int (fun _ _ => rfl)) (pa_cons (pe_ix ix_list (pv 5) pe_int (fun _ _ => rfl)) pa_nil)))))))) pss_nil)
    (pss_cons (ps_if (PW.pt (pw_or (pt_cmpR op_eq (pv 4) pe_int (nomark _)) (pw_or1 (pt_cmpR op_eq (pv 4) pe_int (nomark _))))) (pss_cons (ps_set (i := 7) sc_law_expression.nd rfl (.inl rfl) (cal c_law_expression hr rfl (pa_cons (pv 0) (pa_cons (pv 1) (pa_cons (pv 2) (pa_cons (pe_op op_sub (pv 3) pe_int) pa_nil))))))
      (pss_one (ps_ret (pe_tup (pa_cons pe_str (pa_cons (pv 7) (pa_cons (cal c_law_expression hr rfl (pa_cons (pv 0) (pa_cons (pv 1) (pa_cons (pv 2) (pa_cons (pe_op op_sub (pv 3) pe_int) pa_nil))))) pa_nil))))))) pss_nil)
    (pss_cons (ps_if (pt_cmpR op_lt (pv 4) pe_int (nomark _)) (pss_cons (ps_set (i := 7) sc_law_expression.nd rfl (.inl rfl) (cal c_law_expression hr rfl (pa_cons (pv 0) (pa_cons (pv 1) (pa_cons (pv 2) (pa_cons (pe_op op_sub (pv 3) pe_int) pa_nil))))))
      (pss_one (ps_ret (pe_tup (pa_cons pe_str (pa_cons (pv 7) (pa_cons (cal c_law_expression hr rfl (pa_cons (pv 0) (pa_cons (pv 1) (pa_cons (pv 2) (pa_cons (pe_op op_sub (pv 3) pe_int) pa_nil))))) pa_nil))))))) pss_nil)
    (pss_cons (ps_if (pt_cmpR op_eq (pv 4) pe_int (nomark _)) (pss_one (ps_ret (pe_tup (pa_cons pe_str (pa_cons (cal c_law_expression hr rfl (pa_cons (pv 0) (pa_cons (pv 1) (pa_cons (pv 2) (pa_cons (pe_op op_sub (pv 3) pe_int) pa_nil))))) pa_nil))))) pss_nil)
    (pss_cons (ps_if (PW.pt (pw_or (pt_cmpR op_lt (pv 4) pe_int (nomark _)) (pw_or1 (pt_cmpR op_eq (pe_callB call_len_seq (by rfl) B.len PySem.boot_len (pa_cons (pv 2) pa_nil)) pe_int (nomark _))))) (pss_one (ps_ret (pe_tup (pa_cons (pe_ix ix_list (pe_lst (pa_cons pe_str (pa_cons pe_str pa_nil))) (pe_op op_mod (pv 4) pe_int) (fun _ _ => rfl)) (pa_cons (cal c_law_expression hr rfl (pa_cons (pv 0) (pa_cons (pv 1) (pa_cons (pv 2) (pa_cons (pe_op op_sub (pv 3) pe_int) pa_nil))))) pa_nil))))) pss_nil)
    (pss_cons (ps_asg (pe_ix ix_list (pv 2) (cal c_law_take hr rfl (pa_cons (pv 0) (pa_cons (pe_callB call_len_seq (by rfl) B.len PySem.boot_len (pa_cons (pv 2) pa_nil)) pa_nil))) (fun _ _ => rfl)) (pg_tup (by rfl) (pgs_cons (pg_name (i := 8) sc_law_expression.nd rfl (.inl rfl)) (pgs_cons (pg_name (i := 9) sc_law_expression.nd rfl (.inl rfl)) pgs_nil))))
    (pss_one (ps_ret (pe_op op_catA (pe_tup (pa_cons (pv 8) pa_nil)) (pe_callTy call_tuple_of (by rfl) B.tuple (by decide +kernel) (pa_cons (pe_lc (own := [("k", 6)]) (g := gName 6) (tt := tYes) rfl sc_law_expression.nd (pi_range1 (by rfl) B.range (pa_cons (pv 9) pa_nil)) (blkOk_by (N := n_law_expression) (sc := defScope s_law_expression) (by decide +kernel)) (fun _ _ _ _ _ => pg_name (i := 6) sc_law_expression.nd rfl (Or.inl rfl)) (fun _ _ _ _ _ => pts_nil) (fun _ _ _ _ _ => (cal c_law_expression hr rfl (pa_cons (pv 0) (pa_cons (pv 1) (pa_cons (pv 2) (pa_cons (pe_op op_sub (pv 3) pe_int) pa_nil))))))) pa_nil))))))))))))), ?_⟩
    obtain ⟨pa, pvs, rfl, hP, rP⟩ := tp.list
    have lp := rP.length
    -- kind
    refine ⟨_, rfl, a, d, 12, rfl, hd, by decide, fun kd H1 kd0 kd1 k1 hd1 => ?_⟩
    have tp1 := tp.keep k1
    have hP1 := k1.sqT hP
    have rP1 := rP.keep k1
    have cls1 := cls.keep k1 (by simpa using cla)
    -- a word or a quote
    have first : (tSeq (tIfS (tAnd (tTest (tOp (rI0 fun i j => V.bl (decide (j < i))) (tCB (fun xs H_1 Q => ∃ p ys, xs = [V.ref p] ∧ (SqL K H_1 p ys ∨ SqT K H_1 p ys) ∧ Q (V.int (ys.length : Nat)) H_1) (tCons (tVar 1) tNil)) (tC (V.int 0)))) (tTest (tOp (rI0 fun i j => V.bl (decide (j < i))) (tCall spTake [] E0 (tCons (tVar 0) (tCons (tC (V.int 3)) tNil))) (tC (V.int 0)))))
          (tRet (tOp (rIxT K) (tVar 1) (tCall spTake [] E0 (tCons (tVar 0) (tCons (tCB (fun xs H_1 Q => ∃ p ys, xs = [V.ref p] ∧ (SqL K H_1 p ys ∨ SqT K H_1 p ys) ∧ Q (V.int (ys.length : Nat)) H_1) (tCons (tVar 1) tNil)) tNil))))) tNext) (tRet (tTup (tCons (tC (V.str "quote")) (tCons (tCall (spVal K 2) [] E0 (tCons (tVar 0) (tCons (tC (V.int 2)) tNil))) tNil)))))
        { nx := fun _ _ => True, rt := Q } [some (.ref a), some (.ref pa), some (.ref cl), some (.int n), some (.int kd), none, none, none, none, none] H1 := by
      have quote : ∀ H2, Keep [a] H1 H2 → Hd H2 a d → (tRet (tTup (tCons (tC (V.str "quote")) (tCons (tCall (spVal K 2) [] E0 (tCons (tVar 0) (tCons (tC (V.int 2)) tNil))) tNil)))) { nx := fun _ _ => True, rt := Q } [some (.ref a), some (.ref pa), some (.ref cl), some (.int n), some (.int kd), none, none, none, none, none] H2 := fun H2 k2 hd2 => by
        refine ⟨_, rfl, a, d, rfl, hd2, fun v t H3 tv wt sz dp k3 hd3 => ?_⟩
        refine ⟨by show (2 : Nat) ≤ sizeLine; decide, fun p np => ?_⟩
        obtain ⟨tm, km⟩ := mk_tr (K := K) (H := H3) (vs := [.str "quote", v]) (ts := [.w qw, t]) np (by rw [lit_q]; exact trs_cons tr_w (Trs.one tv))
        refine q _ _ _ tm (wt_l (wts_cons (wt_w (isWord_of (by decide))) (wts_cons wt wts_nil))) ?_ ?_ (((k1.trans k2).trans k3).trans (km.mono (by simp))) (hd3.keep0 km)
        · rw [size_l, sizes_cons, sizes_cons, sizes_nil, size_w]
          have := ME.ge n
          have e : MV 2 = 13 := rfl
          omega
        · rw [show n + 3 = (n + 2) + 1 from rfl]
          intro t' m
          rcases List.mem_cons.mp m with e | m
          · rw [e]; exact deep_w _ _
          · rw [List.mem_singleton.mp m]
            exact dp.mono (by omega)
      refine ⟨_, rfl, pa, pvs, rfl, .inr hP1, _, _, rfl, rfl, _, rfl, ?_⟩
      by_cases h0 : ps.length = 0
      · rw [decide_eq_false (show ¬ (0 : Int) < ((pvs.length : Nat) : Int) by omega)]
        exact iteF (iteF (quote H1 Keep.refl hd1))
      rw [decide_eq_true (show (0 : Int) < ((pvs.length : Nat) : Int) by omega)]
      refine iteT ?_
      refine ⟨_, rfl, a, d, 3, rfl, hd1, by decide, fun i H2 i0 i1 k2 hd2 => ?_⟩
      refine ⟨_, _, rfl, rfl, _, rfl, ite2 (fun c => ?_) (fun c => quote H2 k2 hd2)⟩
      have hP2 := k2.sqT hP1
      refine ⟨_, rfl, _, rfl, _, rfl, pa, pvs, rfl, .inr hP2, a, d, _, rfl, hd2, by omega, fun j H3 j0 j1 k3 hd3 => ?_⟩
      obtain ⟨jn, rfl⟩ := Int.eq_ofNat_of_zero_le j0
      have jl : jn < ps.length := by omega
      have hg : ps[jn]? = some ps[jn] := List.getElem?_eq_getElem jl
      obtain ⟨x, hx, tx0⟩ := rP1.get hg
      have mem := List.getElem_mem jl
      have k23 := k2.trans k3
      refine ⟨pa, pvs, _, x, rfl, rfl, k3.sqT hP2, atI_nat hx, ?_⟩
      have iw := pw _ mem
      refine q x ps[jn] H3 (tx0.keep k23) (wp.all _ mem) ?_ ?_ (k1.trans k23) hd3
      · cases h : ps[jn] with
        | l us => rw [h] at iw; cases iw
        | w y => rw [size_w]; have := ME.ge n; omega
      · cases h : ps[jn] with
        | l us => rw [h] at iw; cases iw
        | w y => exact deep_w _ _
    refine ⟨_, rfl, rfl, _, rfl, ?_⟩
    cases n with
    | zero => exact iteT (iteT first)
    | succ m =>
    rw [dF (show (((m + 1 : Nat)) : Int) ≠ 0 by omega)]
    refine iteF ?_
    refine ⟨_, rfl, _, _, rfl, rfl, _, rfl, ite2 (fun _ => first) (fun _ => ?_)⟩
    have em : (((m + 1 : Nat)) : Int) - 1 = (m : Int) := by omega
    have eME : ME (m + 1) = 2 + 4 * ME m := rfl
    have rec_ : ∀ (H2 : Hp), Keep [a] H H2 → Hd H2 a d → ∀ Q' : VK, (∀ (v : V) (t : Tree) (H3 : Hp), Tr K H3 v t → WT t → t.size ≤ ME m → Deep (m + 3) t → Keep [a] H2 H3 → Hd H3 a d → Q' v H3) → sp [.ref a, .ref pa, .ref cl, .int ((((m + 1 : Nat)) : Int) - 1)] H2 Q' E0 := fun H2 k2 hd2 Q' hq =>
      hsp m rfl _ _ _ _ ⟨a, d, cl, .ref pa, ps, by rw [em], hd2, tp.keep k2, pw, wp, lps, cls.keep k2 (by simpa using cla), cla, hq⟩
    -- one part, two parts behind a written word
    have one : ∀ (s : Str) (wd : List Nat) (v : V) (t : Tree) (H3 : Hp) (p : Addr), s = tx wd → IsWord wd → Tr K H3 v t → WT t → t.size ≤ ME m → Deep (m + 3) t → Keep [a] H H3 → Hd H3 a d → H3 p = none → Q (.ref p) (upd H3 p (.tup [.str s, v])) := fun s wd v t H3 p es ww tv wt sz dp k3 hd3 np => by
      obtain ⟨tm, km⟩ := mk_tr (K := K) (H := H3) (vs := [.str s, v]) (ts := [.w wd, t]) np (by rw [es]; exact trs_cons tr_w (Trs.one tv))
      refine q _ _ _ tm (wt_l (wts_cons (wt_w ww) (wts_cons wt wts_nil))) ?_ ?_ (k3.trans (km.mono (by simp))) (hd3.keep0 km)
      · rw [size_l, sizes_cons, sizes_cons, sizes_nil, size_w]
        omega
      · intro t' m
        rcases List.mem_cons.mp m with e | m
        · rw [e]; exact deep_w _ _
        · rw [List.mem_singleton.mp m]; exact dp
    have two : ∀ (s : Str) (wd : List Nat), s = tx wd → IsWord wd → (tSeq (tAsg (tCall sp [] E0 (tCons (tVar 0) (tCons (tVar 1) (tCons (tVar 2) (tCons (tOp (rI0 fun i j => V.int (i - j)) (tVar 3) (tC (V.int 1))) tNil))))) (gName 7)) (tRet (tTup (tCons (tC (.str s)) (tCons (tVar 7) (tCons (tCall sp [] E0 (tCons (tVar 0) (tCons (tVar 1) (tCons (tVar 2) (tCons (tOp (rI0 fun i j => V.int (i - j)) (tVar 3) (tC (V.int 1))) tNil))))) tNil)))))) { nx := fun _ _ => True, rt := Q } [some (.ref a), some (.ref pa), some (.ref cl), some (.int ((m + 1 : Nat) : Int)), some (.int kd), none, none, none, none, none] H1 := fun s wd es ww => by
      refine ⟨_, rfl, _, rfl, _, rfl, _, rfl, _, _, rfl, rfl, rec_ H1 k1 hd1 _ fun v t H2 tv wt sz dp k2 hd2 => ?_⟩
      refine ⟨_, rfl, _, rfl, _, rfl, _, rfl, _, rfl, _, _, rfl, rfl, rec_ H2 (k1.trans k2) hd2 _ fun v2 t2 H3 tv2 wt2 sz2 dp2 k3 hd3 => ?_⟩
      refine ⟨by show (3 : Nat) ≤ sizeLine; decide, fun p np => ?_⟩
      obtain ⟨tm, km⟩ := mk_tr (K := K) (H := H3) (vs := [.str s, v, v2]) (ts := [.w wd, t, t2]) np (by rw [es]; exact trs_cons tr_w (trs_cons (tv.keep k3) (Trs.one tv2)))
      refine q _ _ _ tm (wt_l (wts_cons (wt_w ww) (wts_cons wt (wts_cons wt2 wts_nil)))) ?_ ?_ (((k1.trans k2).trans k3).trans (km.mono (by simp))) (hd3.keep0 km)
      · rw [size_l, sizes_cons, sizes_cons, sizes_cons, sizes_nil, size_w]
        omega
      · intro t' m
        rcases List.mem_cons.mp m with e | m
        · rw [e]; exact deep_w _ _
        · rcases List.mem_cons.mp m with e | m
          · rw [e]; exact dp
          · rw [List.mem_singleton.mp m]; exact dp2
    -- if
    refine ⟨_, rfl, _, _, rfl, rfl, _, rfl, ite2 (fun _ => ?_) (fun _ => ?_)⟩
    · refine ⟨(3 : Int), rfl, by decide, by decide, fun L nL => ?_⟩
      have La : L ≠ a := (hd1.neH nL).symm
      have Ld : L ≠ d := (hd1.neD nL).symm
      have nL0 : H L = none := k1.free nL
      refine lc_range (lo := 0) (n := (3 : Int).toNat) (fun i H' => ∃ vs ts, H' L = some (.lst vs) ∧ Trs K H' vs ts ∧ ts.length = i ∧ (∀ t ∈ ts, WT t ∧ t.size ≤ ME m ∧ Deep (m + 3) t) ∧ Keep [a] H H' ∧ Hd H' a d)
        ⟨[], [], upd_same, trs_nil, rfl, by simp, k1.newT nL, hd1.new nL⟩ (fun i H5 hi p => ?_) (fun H5 p => ?_)
      · obtain ⟨vs, ts, e1, e2, e3, e4, k6, hd5⟩ := p
        refine ⟨rfl, yes ?_⟩
        refine ⟨_, rfl, _, rfl, _, rfl, _, rfl, _, _, rfl, rfl, rec_ H5 k6 hd5 _ fun v t H6 tv wt sz dp k7 hd6 => ?_⟩
        have e1' : H6 L = some (.lst vs) := k7.get e1 (by simpa using La)
        have k8 : Keep [L] H6 (upd H6 L (.lst (vs ++ [v]))) := Keep.set e1' (List.mem_cons_self ..)
        refine ⟨vs, e1', ?_, vs ++ [v], ts ++ [t], upd_same, (e2.keep k7 |>.append (trs_cons tv trs_nil)).keep k8, by rw [List.length_append, e3]; rfl, ?_, ((k6.trans k7).cons.trans (k8.mono (by simp))).drop nL0, hd6.upd La.symm Ld.symm⟩
        · rw [e2.length]
          exact sizeLt (by have : (3 : Int).toNat = 3 := rfl; omega)
        · intro u hu
          rcases List.mem_append.mp hu with m | m
          · exact e4 u m
          · rw [List.mem_singleton.mp m]
            exact ⟨wt, sz, dp⟩
      · obtain ⟨vs, ts, e1, e2, e3, e4, k6, hd5⟩ := p
        obtain ⟨t0, t1, t2, rfl⟩ := three_of (show ts.length = 3 from e3)
        obtain ⟨x0, x1, x2, rfl, r0, r1, r2⟩ := e2.three
        refine ⟨_, rfl, L, _, _, _, rfl, rfl, SqL.of e1, rfl, _, rfl, L, _, _, _, rfl, rfl, SqL.of e1, rfl, _, rfl, L, _, _, _, rfl, rfl, SqL.of e1, rfl, by show (4 : Nat) ≤ sizeLine; decide, fun p np => ?_⟩
        obtain ⟨tm, km⟩ := mk_tr (K := K) (H := H5) (vs := [.str "if", x0, x1, x2]) (ts := [.w [105, 102], t0, t1, t2]) np (by rw [show ("if" : Str) = tx [105, 102] by decide +kernel]; exact trs_cons tr_w e2)
        have h0 := e4 t0 (by simp)
        have h1 := e4 t1 (by simp)
        have h2 := e4 t2 (by simp)
        refine q _ _ _ tm (wt_l (wts_cons (wt_w (isWord_of (by decide))) (wts_cons h0.1 (wts_cons h1.1 (wts_cons h2.1 wts_nil))))) ?_ ?_ (k6.trans (km.mono (by simp))) (hd5.keep0 km)
        · rw [size_l, sizes_cons, sizes_cons, sizes_cons, sizes_cons, sizes_nil, size_w]
          have := h0.2.1
          have := h1.2.1
          have := h2.2.1
          omega
        · intro t' m
          rcases List.mem_cons.mp m with e | m
          · rw [e]; exact deep_w _ _
          · exact (e4 t' m).2.2
    refine ⟨_, rfl, rfl, _, rfl, ite2 (fun _ => iteT (two "same" [115, 97, 109, 101] (by decide +kernel) (isWord_of (by decide)))) (fun _ => ?_)⟩
    refine ⟨_, rfl, rfl, _, rfl, ite2 (fun _ => two "same" [115, 97, 109, 101] (by decide +kernel) (isWord_of (by decide))) (fun _ => ?_)⟩
    refine ⟨_, rfl, _, _, rfl, rfl, _, rfl, ite2 (fun _ => two "join" [106, 111, 105, 110] (by decide +kernel) (isWord_of (by decide))) (fun _ => ?_)⟩
    refine ⟨_, rfl, rfl, _, rfl, ite2 (fun _ => ?_) (fun _ => ?_)⟩
    · refine ⟨_, rfl, _, rfl, _, rfl, _, rfl, _, _, rfl, rfl, rec_ H1 k1 hd1 _ fun v t H2 tv wt sz dp k2 hd2 => ?_⟩
      exact ⟨by show (2 : Nat) ≤ sizeLine; decide, fun p np => one "word" [119, 111, 114, 100] v t H2 p (by decide +kernel) (isWord_of (by decide)) tv wt sz dp (k1.trans k2) hd2 np⟩
    have ht : (tRet (tTup (tCons (tOp (rIxL K) (tLst (tCons (tC (.str "head")) (tCons (tC (.str "tail")) tNil))) (tOp (rI (fun _ j => 0 < j) fun i j => V.int (i % j)) (tVar 4) (tC (V.int 2)))) (tCons (tCall sp [] E0 (tCons (tVar 0) (tCons (tVar 1) (tCons (tVar 2) (tCons (tOp (rI0 fun i j => V.int (i - j)) (tVar 3) (tC (V.int 1))) tNil))))) tNil)))) { nx := fun _ _ => True, rt := Q } [some (.ref a), some (.ref pa), some (.ref cl), some (.int ((m + 1 : Nat) : Int)), some (.int kd), none, none, none, none, none] H1 := by
      refine ⟨by show (2 : Nat) ≤ sizeLine; decide, fun p2 np2 => ?_⟩
      have ka : Keep [] H1 (upd H1 p2 (.lst [.str "head", .str "tail"])) := Keep.new np2
      have ep2 : (upd H1 p2 (.lst [.str "head", .str "tail"])) p2 = some (.lst [.str "head", .str "tail"]) := upd_same
      generalize upd H1 p2 (.lst [.str "head", .str "tail"]) = H2 at ka ep2
      refine ⟨_, rfl, _, _, rfl, rfl, by show (0 : Int) < 2; decide, ?_⟩
      obtain ⟨c, hc, wc, _⟩ := pick (L := [[104, 101, 97, 100], [116, 97, 105, 108]]) (xs := [.str "head", .str "tail"]) (by decide +kernel) (by decide) (j := kd % 2) (Int.emod_nonneg _ (by decide)) (Int.emod_lt_of_pos _ (by decide))
      refine ⟨p2, _, _, _, rfl, rfl, SqL.of ep2, hc, ?_⟩
      have k12 := k1.trans (ka.mono (by simp : ∀ x ∈ ([] : List Addr), x ∈ [a]))
      refine ⟨_, rfl, _, rfl, _, rfl, _, rfl, _, _, rfl, rfl, rec_ H2 k12 (hd1.keep0 ka) _ fun v t H3 tv wt sz dp k3 hd3 => ?_⟩
      exact ⟨by show (2 : Nat) ≤ sizeLine; decide, fun p np => one (tx c) c v t H3 p rfl wc tv wt sz dp (k12.trans k3) hd3 np⟩
    refine ⟨_, rfl, _, _, rfl, rfl, _, rfl, ite2 (fun _ => iteT ht) (fun _ => ?_)⟩
    obtain ⟨cvs, ec, lc, each⟩ := id cls1
    refine ⟨_, rfl, cl, cvs, rfl, .inl (SqL.of ec), rfl, _, rfl, ?_⟩
    by_cases h0 : cvs.length = 0
    · rw [dT (by omega)]
      exact iteT ht
    rw [dF (by omega)]
    refine iteF ?_
    refine ⟨_, rfl, _, rfl, _, rfl, cl, cvs, rfl, .inl (SqL.of ec), a, d, _, rfl, hd1, by omega, fun j H2 j0 j1 k2 hd2 => ?_⟩
    obtain ⟨jn, rfl⟩ := Int.eq_ofNat_of_zero_le j0
    have jl : jn < cvs.length := by omega
    have hg : cvs[jn]? = some cvs[jn] := List.getElem?_eq_getElem jl
    obtain ⟨ca, nm, mm, e1, e2, e3_, e4_⟩ := each _ (List.getElem_mem jl)
    have ec2 := k2.get ec (by simpa using cla)
    have e2' := k2.tup e2
    rw [e1] at hg
    refine ⟨cl, cvs, _, _, rfl, rfl, SqL.of ec2, atI_nat hg, ?_⟩
    refine ⟨ca, _, rfl, SqT.of_tup e2', rfl, _, _, rfl, _, _, rfl, rfl, ?_⟩
    refine ⟨_, rfl, by show (1 : Nat) ≤ sizeLine; decide, fun t1 nt1 => ?_⟩
    obtain ⟨tn, kn⟩ := mk_tr (K := K) (H := H2) (vs := [.str (tx nm)]) (ts := [.w nm]) nt1 (Trs.one tr_w)
    generalize upd H2 t1 (.tup [.str (tx nm)]) = H3 at tn kn
    have k13 : Keep [a] H H3 := (k1.trans k2).trans (kn.mono (by simp))
    have hd3 := hd2.keep0 kn
    refine ⟨_, rfl, (mm : Int), rfl, by omega, by omega, fun L nL => ?_⟩
    have La : L ≠ a := (hd3.neH nL).symm
    have Ld : L ≠ d := (hd3.neD nL).symm
    have nL0 : H L = none := k13.free nL
    refine lc_range (lo := 0) (n := (mm : Int).toNat) (fun i H' => ∃ vs ts, H' L = some (.lst vs) ∧ Trs K H' vs ts ∧ ts.length = i ∧ (∀ t ∈ ts, WT t ∧ t.size ≤ ME m ∧ Deep (m + 3) t) ∧ Keep [a] H H' ∧ Hd H' a d ∧ Tr K H' (.ref t1) (.l [.w nm]))
      ⟨[], [], upd_same, trs_nil, rfl, by simp, k13.newT nL, hd3.new nL, tn.keep (Keep.new (S := []) nL)⟩ (fun i H5 hi p => ?_) (fun H5 p => ?_)
    · obtain ⟨vs, ts, e1, e2, e3, e4, k6, hd5, tn5⟩ := p
      refine ⟨rfl, yes ?_⟩
      refine ⟨_, rfl, _, rfl, _, rfl, _, rfl, _, _, rfl, rfl, rec_ H5 k6 hd5 _ fun v t H6 tv wt sz dp k7 hd6 => ?_⟩
      have e1' : H6 L = some (.lst vs) := k7.get e1 (by simpa using La)
      have k8 : Keep [L] H6 (upd H6 L (.lst (vs ++ [v]))) := Keep.set e1' (List.mem_cons_self ..)
      refine ⟨vs, e1', ?_, vs ++ [v], ts ++ [t], upd_same, (e2.keep k7 |>.append (trs_cons tv trs_nil)).keep k8, by rw [List.length_append, e3]; rfl, ?_, ((k6.trans k7).cons.trans (k8.mono (by simp))).drop nL0, hd6.upd La.symm Ld.symm, (tn5.keep k7).keep k8⟩
      · rw [e2.length]
        exact sizeLt (by omega)
      · intro u hu
        rcases List.mem_append.mp hu with m | m
        · exact e4 u m
        · rw [List.mem_singleton.mp m]
          exact ⟨wt, sz, dp⟩
    · obtain ⟨vs, ts, e1, e2, e3, e4, k6, hd5, tn5⟩ := p
      refine ⟨L, vs, rfl, .inl ⟨SqL.of e1, fun T nT => ?_⟩⟩
      obtain ⟨tm, km⟩ := mk_tr (K := K) (H := H5) nT e2
      refine cat_tr (tn5.keep km) tm (Nat.le_trans (show _ ≤ 100 by rw [List.length_singleton]; omega) (by decide)) fun v7 H7 tv7 k7 => ?_
      have szs := sizes_le fun t m => (e4 t m).2.1
      have l : ts.length ≤ 4 := by omega
      have mulle := Nat.mul_le_mul_right (ME m) l
      refine q v7 _ H7 tv7 (wt_l (wts_cons (wt_w e3_) (WTs.of fun t m => (e4 t m).1))) ?_ ?_ ((k6.trans (km.mono (by simp))).trans (k7.mono (by simp))) ((hd5.keep0 km).keep0 k7)
      · rw [size_l, List.singleton_append, sizes_cons, size_w]
        omega
      · intro t' m
        rcases List.mem_cons.mp m with e | m
        · rw [e]; exact deep_w _ _
        · exact (e4 t' m).2.2
  have all : ∀ n, FnOk P w K mg base CX0 (k + n + 1) f fd p_law_expression (spExpr K n) := fun n => by
    induction n with
    | zero => exact step 0 (fun _ _ _ _ => False) ⟨⟨fun _ _ _ _ h => h.elim, fun _ _ _ _ _ _ _ _ _ _ _ _ _ h => h.elim⟩, hm, F.kp, hb⟩ fun m e => by cases e
    | succ m ih => exact step (m + 1) (spExpr K m) ⟨ih, hm, F.kp, hb⟩ fun m' e vs H Q E q => by cases e; exact q
  exact ⟨f, fd, fun n => ⟨all n, hm, F.kp, hb⟩⟩
end
end Og

namespace Og
open PySem PySem.Spec PyProof.Rows L2
def tHas : Tree := (.l [(.w [104, 97, 115]), (.l [(.w [119]), (.w [118])]), (.l [(.w [105, 102]), (.l [(.w [115, 97, 109, 101]), (.w [119]), (.w [118])]), (.l [(.w [113, 117, 111, 116, 101]), (.w [121, 101, 115])]), (.l [(.w [119, 105, 116, 104, 105, 110]), (.w [119]), (.w [118])])])])
def tWithin : Tree := (.l [(.w [119, 105, 116, 104, 105, 110]), (.l [(.w [119]), (.w [118])]), (.l [(.w [105, 102]), (.w [118]), (.l [(.w [105, 102]), (.l [(.w [104, 97, 115]), (.w [119]), (.l [(.w [104, 101, 97, 100]), (.w [118])])]), (.l [(.w [113, 117, 111, 116, 101]), (.w [121, 101, 115])]), (.l [(.w [119, 105, 116, 104, 105, 110]), (.w [119]), (.l [(.w [116, 97, 105, 108]), (.w [118])])])]), (.l [(.w [113, 117, 111, 116, 101]), (.l [])])])])
def tPut : Tree := (.l [(.w [112, 117, 116]), (.l [(.w [118]), (.w [108])]), (.l [(.w [105, 102]), (.w [108]), (.l [(.w [106, 111, 105, 110]), (.l [(.w [104, 101, 97, 100]), (.w [108])]), (.l [(.w [112, 117, 116]), (.w [118]), (.l [(.w [116, 97, 105, 108]), (.w [108])])])]), (.l [(.w [106, 111, 105, 110]), (.w [118]), (.l [(.w [113, 117, 111, 116, 101]), (.l [])])])])])
def tTurn : Tree := (.l [(.w [116, 117, 114, 110]), (.l [(.w [108])]), (.l [(.w [105, 102]), (.w [108]), (.l [(.w [112, 117, 116]), (.l [(.w [104, 101, 97, 100]), (.w [108])]), (.l [(.w [116, 117, 114, 110]), (.l [(.w [116, 97, 105, 108]), (.w [108])])])]), (.l [(.w [113, 117, 111, 116, 101]), (.l [])])])])
/-- a function of a drawn program -/
def FnT (t : Tree) : Prop := ∃ n ps b, t = .l [.w n, .l ps, b] ∧ WT t ∧ (∀ p ∈ ps, p.isW = true) ∧ ps.length ≤ 4 ∧ Deep 7 b ∧ b.size ≤ 1002
theorem fn_has : FnT tHas := ⟨_, _, _, rfl, wt_of (by decide +kernel), by simp [Tree.isW], by decide, deep_of (by decide +kernel), by decide +kernel⟩
theorem fn_within : FnT tWithin := ⟨_, _, _, rfl, wt_of (by decide +kernel), by simp [Tree.isW], by decide, deep_of (by decide +kernel), by decide +kernel⟩
theorem fn_put : FnT tPut := ⟨_, _, _, rfl, wt_of (by decide +kernel), by simp [Tree.isW], by decide, deep_of (by decide +kernel), by decide +kernel⟩
theorem fn_turn : FnT tTurn := ⟨_, _, _, rfl, wt_of (by decide +kernel), by simp [Tree.isW], by decide, deep_of (by decide +kernel), by decide +kernel⟩
section
variable {P : Program} {w : World} {K : PySem.W.Frag} {mg : Str → Option Value} {base : Heap}
def spLib (K : PySem.W.Frag) : Sp := fun vs H Q _ => vs = [] ∧ ∀ (p : Addr) (a b c : V) (H' : Hp), H p = none → H' p = some (.lst [a, b, c]) → Tr K H' a (.l [tHas, tWithin]) → Tr K H' b (.l [tPut, tTurn]) → Tr K H' c (.l [tPut]) → Keep [] H H' → Q (.ref p) H'
theorem has_lib {k : Nat} (D : DefAt K mg "_law_library" s_law_library p_law_library) (B : Bn mg) : Has P w K mg base (k + 1) "_law_library" p_law_library (spLib K) := by
  obtain ⟨f, fd, F, hm, hb⟩ := D.ex
  refine ⟨f, fd, F.ok sc_law_library (fun vs H Q E h => ?_) (fun cdv A outer s H vs Q E hr h => ?_), hm, F.kp, hb⟩
  · obtain ⟨rfl, _⟩ := h
    rfl
  obtain ⟨rfl, q⟩ := h
  refine ⟨_, (pss_cons (ps_set (i := 0) sc_law_library.nd rfl (.inl rfl) (pe_lt (pl_cons (pe_lw (x := [104, 97, 115]) (by decide +kernel)) (pl_cons (pe_lt (pl_cons (pe_lw (x := [119]) (by decide +kernel)) (pl_cons (pe_lw (x := [118]) (by decide +kernel)) pl_nil)) (by show 2 ≤ sizeLine; decide)) (pl_cons (pe_lt (pl_cons (pe_lw (x := [105, 102]) (by decide +kernel)) (pl_cons (pe_lt (pl_cons (pe_lw (x := [115, 97, 109, 101]) (by decide +kernel)) (pl_cons (pe_lw (x := [119]) (by decide +kernel)) (pl_cons (pe_lw (x := [118]) (by decide +kernel)) pl_nil))) (by show 3 ≤ sizeLine; decide)) (pl_cons (pe_lt (pl_cons (pe_lw (x := [113, 117, 111, 116, 101]) (by decide +kernel)) (pl_cons (pe_lw (x := [121, 101, 115]) (by decide +kernel)) pl_nil)) (by show 2 ≤ sizeLine; decide)) (pl_cons (pe_lt (pl_cons (pe_lw (x := [119, 105, 116, 104, 105, 110]) (by decide +kernel)) (pl_cons (pe_lw (x := [119]) (by decide +kernel)) (pl_cons (pe_lw (x := [118]) (by decide +kernel)) pl_nil))) (by show 3 ≤ sizeLine; decide)) pl_nil)))) (by show 4 ≤ sizeLine; decide)) pl_nil))) (by show 3 ≤ sizeLine; decide)))
    (pss_cons (ps_set (i := 1) sc_law_library.nd rfl (.inl rfl) (pe_lt (pl_cons (pe_lw (x := [119, 105, 116, 104, 105, 110]) (by decide +kernel)) (pl_cons (pe_lt (pl_cons (pe_lw (x := [119]) (by decide +kernel)) (pl_cons (pe_lw (x := [118]) (by decide +kernel)) pl_nil)) (by show 2 ≤ sizeLine; decide)) (pl_cons (pe_lt (pl_cons (pe_lw (x := [105, 102]) (by decide +kernel)) (pl_cons (pe_lw (x := [118]) (by decide +kernel)) (pl_cons (pe_lt (pl_cons (pe_lw (x := [105, 102]) (by decide +kernel)) (pl_cons (pe_lt (pl_cons (pe_lw (x := [104, 97, 115]) (by decide +kernel)) (pl_cons (pe_lw (x := [119]) (by decide +kernel)) (pl_cons (pe_lt (pl_cons (pe_lw (x := [104, 101, 97, 100]) (by decide +kernel)) (pl_cons (pe_lw (x := [118]) (by decide +kernel)) pl_nil)) (by show 2 ≤ sizeLine; decide)) pl_nil))) (by show 3 ≤ sizeLine; decide)) (pl_cons (pe_lt (pl_cons (pe_lw (x := [113, 117, 111, 116, 101]) (by decide +kernel)) (pl_cons (pe_lw (x := [121, 101, 115]) (by decide +kernel)) pl_nil)) (by show 2 ≤ sizeLine; decide)) (pl_cons (pe_lt (pl_cons (pe_lw (x := [119, 105, 116, 104, 105, 110]) (by decide +kernel)) (pl_cons (pe_lw (x := [119]) (by decide +kernel)) (pl_cons (pe_lt (pl_cons (pe_lw (x := [116, 97, 105, 108]) (by decide +kernel)) (pl_cons (pe_lw (x := [118]) (by decide +kernel)) pl_nil)) (by show 2 ≤ sizeLine; decide)) pl_nil))) (by show 3 ≤ sizeLine; decide)) pl_nil)))) (by show 4 ≤ sizeLine; decide)) (pl_cons (pe_lt (pl_cons (pe_lw (x := [113, 117, 111, 116, 101]) (by decide +kernel)) (pl_cons (pe_lt pl_nil (by show 0 ≤ sizeLine; decide)) pl_nil)) (by show 2 ≤ sizeLine; decide)) pl_nil)))) (by show 4 ≤ sizeLine; decide)) pl_nil))) (by show 3 ≤ sizeLine; decide)))
    (pss_cons (ps_set (i := 2) sc_law_library.nd rfl (.inl rfl) (pe_lt (pl_cons (pe_lw (x := [112, 117, 116]) (by decide +kernel)) (pl_cons (pe_lt (pl_cons (pe_lw (x := [118]) (by decide +kernel)) (pl_cons (pe_lw (x := [108]) (by decide +kernel)) pl_nil)) (by show 2 ≤ sizeLine; decide)) (pl_cons (pe_lt (pl_cons (pe_lw (x := [105, 102]) (by decide +kernel)) (pl_cons (pe_lw (x := [108]) (by decide +kernel)) (pl_cons (pe_lt (pl_cons (pe_lw (x := [106, 111, 105, 110]) (by decide +kernel)) (pl_cons (pe_lt (pl_cons (pe_lw (x := [104, 101, 97, 100]) (by decide +kernel)) (pl_cons (pe_lw (x := [108]) (by decide +kernel)) pl_nil)) (by show 2 ≤ sizeLine; decide)) (pl_cons (pe_lt (pl_cons (pe_lw (x := [112, 117, 116]) (by decide +kernel)) (pl_cons (pe_lw (x := [118]) (by decide +kernel)) (pl_cons (pe_lt (pl_cons (pe_lw (x := [116, 97, 105, 108]) (by decide +kernel)) (pl_cons (pe_lw (x := [108]) (by decide +kernel)) pl_nil)) (by show 2 ≤ sizeLine; decide)) pl_nil))) (by show 3 ≤ sizeLine; decide)) pl_nil))) (by show 3 ≤ sizeLine; decide)) (pl_cons (pe_lt (pl_cons (pe_lw (x := [106, 111, 105, 110]) (by decide +kernel)) (pl_cons (pe_lw (x := [118]) (by decide +kernel)) (pl_cons (pe_lt (pl_cons (pe_lw (x := [113, 117, 111, 116, 101]) (by decide +kernel)) (pl_cons (pe_lt pl_nil (by show 0 ≤ sizeLine; decide)) pl_nil)) (by show 2 ≤ sizeLine; decide)) pl_nil))) (by show 3 ≤ sizeLine; decide)) pl_nil)))) (by show 4 ≤ sizeLine; decide)) pl_nil))) (by show 3 ≤ sizeLine; decide)))
    (pss_cons (ps_set (i := 3) sc_law_library.nd rfl (.inl rfl) (pe_lt (pl_cons (pe_lw (x := [116, 117, 114, 110]) (by decide +kernel)) (pl_cons (pe_lt (pl_cons (pe_lw (x := [108]) (by decide +kernel)) pl_nil) (by show 1 ≤ sizeLine; decide)) (pl_cons (pe_lt (pl_cons (pe_lw (x := [105, 102]) (by decide +kernel)) (pl_cons (pe_lw (x := [108]) (by decide +kernel)) (pl_cons (pe_lt (pl_cons (pe_lw (x := [112, 117, 116]) (by decide +kernel)) (pl_cons (pe_lt (pl_cons (pe_lw (x := [104, 101, 97, 100]) (by decide +kernel)) (pl_cons (pe_lw (x := [108]) (by decide +kernel)) pl_nil)) (by show 2 ≤ sizeLine; decide)) (pl_cons (pe_lt (pl_cons (pe_lw (x := [116, 117, 114, 110]) (by decide +kernel)) (pl_cons (pe_lt (pl_cons (pe_lw (x := [116, 97, 105, 108]) (by decide +kernel)) (pl_cons (pe_lw (x := [108]) (by decide +kernel)) pl_nil)) (by show 2 ≤ sizeLine; decide)) pl_nil)) (by show 2 ≤ sizeLine; decide)) pl_nil))) (by show 3 ≤ sizeLine; decide)) (pl_cons (pe_lt (pl_cons (pe_lw (x := [113, 117, 111, 116, 101]) (by decide +kernel)) (pl_cons (pe_lt pl_nil (by show 0 ≤ sizeLine; decide)) pl_nil)) (by show 2 ≤ sizeLine; decide)) pl_nil)))) (by show 4 ≤ sizeLine; decide)) pl_nil))) (by show 3 ≤ sizeLine; decide)))
    (pss_one (ps_ret (pe_lst (pa_cons (pe_tup (pa_cons (pv 0) (pa_cons (pv 1) pa_nil))) (pa_cons (pe_tup (pa_cons (pv 2) (pa_cons (pv 3) pa_nil))) (pa_cons (pe_tup (pa_cons (pv 2) pa_nil)) pa_nil)))))))))), ?_⟩
  refine fun v0 H1 t0 k1 => ?_
  refine fun v1 H2 t1 k2 => ?_
  refine fun v2 H3 t2 k3 => ?_
  refine fun v3 H4 t3 k4 => ?_
  have r0 : Tr K H4 v0 tHas := ((t0.keep k2).keep k3).keep k4
  have r1 : Tr K H4 v1 tWithin := (t1.keep k3).keep k4
  have r2 : Tr K H4 v2 tPut := t2.keep k4
  have r3 : Tr K H4 v3 tTurn := t3
  have k14 := ((k1.trans k2).trans k3).trans k4
  refine ⟨_, rfl, _, rfl, by show (2 : Nat) ≤ sizeLine; decide, fun p1 n1 => ?_⟩
  obtain ⟨tm1, km1⟩ := mk_tr (K := K) (H := H4) n1 (trs_cons r0 (Trs.one r1))
  generalize upd H4 p1 (.tup [v0, v1]) = H5 at tm1 km1
  refine ⟨_, rfl, _, rfl, by show (2 : Nat) ≤ sizeLine; decide, fun p2 n2 => ?_⟩
  obtain ⟨tm2, km2⟩ := mk_tr (K := K) (H := H5) n2 (trs_cons (r2.keep km1) (Trs.one (r3.keep km1)))
  generalize upd H5 p2 (.tup [v2, v3]) = H6 at tm2 km2
  refine ⟨_, rfl, by show (1 : Nat) ≤ sizeLine; decide, fun p3 n3 => ?_⟩
  obtain ⟨tm3, km3⟩ := mk_tr (K := K) (H := H6) n3 (Trs.one ((r2.keep km1).keep km2))
  generalize upd H6 p3 (.tup [v2]) = H7 at tm3 km3
  refine ⟨by show (3 : Nat) ≤ sizeLine; decide, fun p np => ?_⟩
  have k17 := ((k14.trans km1).trans km2).trans km3
  have kn : Keep [] H7 (upd H7 p (.lst [.ref p1, .ref p2, .ref p3])) := Keep.new np
  exact q p _ _ _ _ (k17.free np) upd_same (((tm1.keep km2).keep km3).keep kn) ((tm2.keep km3).keep kn) (tm3.keep kn) (k17.trans kn)
end
end Og

namespace Og
open PySem PySem.Spec PyProof.Rows L2
def ClsN (H : Hp) (cl : Addr) (n : Nat) : Prop := ∃ cvs : List V, H cl = some (.lst cvs) ∧ cvs.length ≤ n ∧ ∀ c ∈ cvs, ∃ (a : Addr) (nm : List Nat) (m : Nat), c = .ref a ∧ H a = some (.tup [.str (tx nm), .int m]) ∧ IsWord nm ∧ m ≤ 4
theorem ClsN.to {H : Hp} {cl : Addr} {n : Nat} (h : ClsN H cl n) (l : n ≤ 10) : Cls H cl := by
  obtain ⟨cvs, e, k, q⟩ := h
  exact ⟨cvs, e, Nat.le_trans k l, q⟩
theorem ClsN.keep {S : List Addr} {H H1 : Hp} {cl : Addr} {m : Nat} (h : ClsN H cl m) (k : Keep S H H1) (n : cl ∉ S) : ClsN H1 cl m := by
  obtain ⟨cvs, e, l, q⟩ := h
  refine ⟨cvs, k.get e n, l, fun c m => ?_⟩
  obtain ⟨a, nm, j, e1, e2, e3, e4⟩ := q c m
  exact ⟨a, nm, j, e1, k.tup e2, e3, e4⟩
/-- rows of written words -/
def ws (L : List (List Nat)) : List Tree := L.map Tree.w
theorem trs_ws {K : PySem.W.Frag} {H : Hp} : ∀ {L : List (List Nat)}, Trs K H (L.map fun c => V.str (tx c)) (ws L)
  | [] => trs_nil
  | x :: L => trs_cons tr_w (trs_ws (L := L))
theorem ws_w {L : List (List Nat)} : ∀ t ∈ ws L, t.isW = true := fun t m => by
  obtain ⟨x, _, rfl⟩ := List.mem_map.mp m
  rfl
theorem ws_wt {L : List (List Nat)} (h : L.all isWordB = true) : ∀ t ∈ ws L, WT t := fun t m => by
  obtain ⟨x, hx, rfl⟩ := List.mem_map.mp m
  exact wt_w (isWord_of (List.all_eq_true.mp h x hx))
section
variable {P : Program} {w : World} {K : PySem.W.Frag} {mg : Str → Option Value} {base : Heap}
def spProg (K : PySem.W.Frag) : Sp := fun vs H Q _ => ∃ (h d : Addr) (n : Nat), vs = [.ref h, .int n] ∧ Hd H h d ∧ n ≤ 4 ∧
  ∀ (v : V) (fs : List Tree) (H' : Hp), Tr K H' v (.l fs) → (∀ t ∈ fs, FnT t) → 1 ≤ fs.length → fs.length ≤ 5 → Keep [h] H H' → Hd H' h d → Q v H'
theorem has_prog {k : Nat} (D : DefAt K mg "_law_program" s_law_program p_law_program) (B : Bn mg) (c1 : Has P w K mg base k "_law_take" p_law_take spTake) (c2 : Has P w K mg base k "_law_library" p_law_library (spLib K)) (c3 : Has P w K mg base k "_law_expression" p_law_expression (fun vs H Q E => ∃ n, n ≤ 3 ∧ spExpr K n vs H Q E)) :
    Has P w K mg base (k + 1) "_law_program" p_law_program (spProg K) := by
  obtain ⟨f, fd, F, hm, hb⟩ := D.ex
  obtain ⟨_, _, c_law_take⟩ := c1
  obtain ⟨_, _, c_law_library⟩ := c2
  obtain ⟨_, _, c_law_expression⟩ := c3
  refine ⟨f, fd, F.ok sc_law_program (fun vs H Q E h => ?_) (fun cdv A outer s H vs Q E hr h => ?_), hm, F.kp, hb⟩
  · obtain ⟨_, _, _, rfl, _⟩ := h
    rfl
  obtain ⟨a, d, n, rfl, hd, hn, q⟩ := h
  refine ⟨_, (pss_cons (ps_set (i := 2) sc_law_program.nd rfl (.inl rfl) (pe_ix ix_list (cal0 c_law_library hr) (cal c_law_take hr rfl (pa_cons (pv 0) (pa_cons pe_int pa_nil))) (fun _ _ => rfl)))
    (pss_cons (ps_setLc (i := 3) (own := [("one", 4)]) (g := gName 4) (tt := tYes) rfl sc_law_program.nd rfl rfl (sw_true rfl rfl rfl (by decide +kernel)) (pi_tup (pv 2)) (blkOk_by (N := n_law_program) (sc := defScope s_law_program) (by decide +kernel)) (fun _ _ _ _ _ => pg_name (i := 4) sc_law_program.nd rfl (Or.inl rfl)) (fun _ _ _ _ _ => pts_nil) (fun _ _ _ _ _ => (pe_tup (pa_cons (pe_ix (show IxR _ (rIxT K) from ix_tup) (pv 4) pe_int (fun _ _ => rfl)) (pa_cons (pe_callB (show CallR _ _ (rLenK K) from call_len_seq) (by rfl) B.len PySem.boot_len (pa_cons (pe_ix (show IxR _ (rIxT K) from ix_tup) (pv 4) pe_int (fun _ _ => rfl)) pa_nil)) pa_nil)))))
    (pss_cons (ps_set (i := 5) sc_law_program.nd rfl (.inl rfl) (pe_lst pa_nil))
    (pss_cons (ps_for PassesOwn.never rfl (pi_range1 (by rfl) B.range (pa_cons (cal c_law_take hr rfl (pa_cons (pv 0) (pa_cons pe_int pa_nil))) pa_nil)) (pg_name (i := 6) sc_law_program.nd rfl (.inl rfl))
      (pss_cons (ps_set (i := 7) sc_law_program.nd rfl (.inl rfl) (pe_ix ix_list (pe_lst (pa_cons pe_str (pa_cons pe_str (pa_cons pe_str pa_nil)))) (pv 6) (fun _ _ => rfl)))
      (pss_cons (ps_set (i := 8) sc_law_program.nd rfl (.inl rfl) (pe_callTy call_tuple_of (by rfl) B.tuple (by decide +kernel) (pa_cons (pe_slice sl_list (pe_lst (pa_cons pe_str (pa_cons pe_str (pa_cons pe_str pa_nil)))) po_none (po_some (pe_op op_add pe_int (cal c_law_take hr rfl (pa_cons (pv 0) (pa_cons pe_int pa_nil)))))) pa_nil)))
      (pss_cons (ps_expr (pe_bm PySem.F.plainAttrs_list PySem.F.slot_list_append PySem.F.type_list_append mt_append (pv 5) (pa_cons (pe_tup (pa_cons (pv 7) (pa_cons (pv 8) (pa_cons (cal c_law_expression hr rfl (pa_cons (pv 0) (pa_cons (pv 8) (pa_cons (pv 3) (pa_cons pe_int pa_nil))))) pa_nil)))) pa_nil)))
      (pss_one (ps_expr (pe_bm PySem.F.plainAttrs_list PySem.F.slot_list_append PySem.F.type_list_append mt_append (pv 3) (pa_cons (pe_tup (pa_cons (pv 7) (pa_cons (pe_callB call_len_seq (by rfl) B.len PySem.boot_len (pa_cons (pv 8) pa_nil)) pa_nil))) pa_nil))))))))
    (pss_cons (ps_set (i := 8) sc_law_program.nd rfl (.inl rfl) (pe_callTy call_tuple_of (by rfl) B.tuple (by decide +kernel) (pa_cons (pe_slice sl_list (pe_lst (pa_cons pe_str (pa_cons pe_str (pa_cons pe_str (pa_cons pe_str pa_nil))))) po_none (po_some (pv 1))) pa_nil)))
    (pss_cons (ps_set (i := 9) sc_law_program.nd rfl (.inl rfl) (pe_tup (pa_cons pe_str (pa_cons (pv 8) (pa_cons (cal c_law_expression hr rfl (pa_cons (pv 0) (pa_cons (pv 8) (pa_cons (pv 3) (pa_cons pe_int pa_nil))))) pa_nil)))))
    (pss_cons (ps_if (pt_cmpR op_eq (cal c_law_take hr rfl (pa_cons (pv 0) (pa_cons pe_int pa_nil))) pe_int (nomark _)) (pss_one (ps_ret (pe_op op_catA (pe_op op_catA (pe_tup (pa_cons (pv 9) pa_nil)) (pv 2)) (pe_callTy call_tuple_of (by rfl) B.tuple (by decide +kernel) (pa_cons (pv 5) pa_nil))))) pss_nil)
    (pss_one (ps_ret (pe_op op_catA (pe_op op_catA (pe_tup (pa_cons (pv 9) pa_nil)) (pe_callTy call_tuple_of (by rfl) B.tuple (by decide +kernel) (pa_cons (pv 5) pa_nil))) (pv 2))))))))))), ?_⟩
  -- more
  refine ⟨rfl, fun p va vb vc H1 np ep ta tb tc k1 => ?_⟩
  have pa : p ≠ a := (hd.neH np).symm
  refine ⟨_, rfl, a, d, 3, rfl, hd.keep0 k1, by decide, fun j H2 j0 j1 k2 hd2 => ?_⟩
  have hz : ∃ z fl, atI [va, vb, vc] j = some z ∧ Tr K H2 z (.l fl) ∧ (∀ t ∈ fl, FnT t) ∧ 1 ≤ fl.length ∧ fl.length ≤ 2 := by
    have c : j = 0 ∨ j = 1 ∨ j = 2 := by omega
    rcases c with rfl | rfl | rfl
    · refine ⟨_, _, rfl, ta.keep k2, fun t m => ?_, by decide, by decide⟩
      rcases List.mem_cons.mp m with e | m
      · rw [e]; exact fn_has
      · rw [List.mem_singleton.mp m]; exact fn_within
    · refine ⟨_, _, rfl, tb.keep k2, fun t m => ?_, by decide, by decide⟩
      rcases List.mem_cons.mp m with e | m
      · rw [e]; exact fn_put
      · rw [List.mem_singleton.mp m]; exact fn_turn
    · refine ⟨_, _, rfl, tc.keep k2, fun t m => ?_, by decide, by decide⟩
      rw [List.mem_singleton.mp m]; exact fn_put
  obtain ⟨z, fl, hz1, tz, fnl, l1, l2⟩ := hz
  refine ⟨p, _, _, z, rfl, rfl, SqL.of (k2.get ep (by simpa using pa)), hz1, ?_⟩
  have k12 : Keep [a] H H2 := (k1.mono (by simp)).trans k2
  -- calls
  obtain ⟨za, zvs, rfl, hZ, rZ⟩ := tz.list
  have lz := rZ.length
  refine ⟨_, rfl, za, rfl, ⟨_, hZ⟩, fun L nL => ?_⟩
  have La : L ≠ a := (hd2.neH nL).symm
  have Ld : L ≠ d := (hd2.neD nL).symm
  have nL0 : H L = none := k12.free nL
  refine lc_tup (K := K) (a := za) (xs := zvs) (fun i H' => Keep [] H2 H' ∧ ClsN H' L i) ⟨Keep.new nL, [], upd_same, Nat.le_refl _, fun c m => absurd m (List.not_mem_nil)⟩ (fun i H' _ p => p.1.sqT hZ) (fun i x H3 hx p => ?_) (fun H3 p => ?_)
  · obtain ⟨k3, cvs, ec, lc, each⟩ := p
    have il : i < zvs.length := (List.getElem?_eq_some_iff.mp hx).1
    have hg : fl[i]? = some fl[i] := List.getElem?_eq_getElem (by omega)
    obtain ⟨y, hy, ty⟩ := rZ.get hg
    rw [hx] at hy
    cases hy
    obtain ⟨nm, ps, b, et, wt, pw, lp, dp, sz⟩ := fnl _ (List.getElem_mem (show i < fl.length by omega))
    rw [et] at ty wt
    obtain ⟨oa, ovs, rfl, hO, rO⟩ := (ty.keep k3).list
    obtain ⟨x0, y0, z0, rfl, r0, r1, r2⟩ := rO.three
    have e0 := r0.word
    subst e0
    obtain ⟨pp, pvs, rfl, hP, rP⟩ := r1.list
    refine ⟨rfl, yes ?_⟩
    refine ⟨_, rfl, oa, _, _, _, rfl, rfl, hO, atI_zero _ _, _, rfl, oa, _, _, _, rfl, rfl, hO, rfl, pp, pvs, rfl, .inr hP, by show (2 : Nat) ≤ sizeLine; decide, fun T nT => ?_⟩
    have kT : Keep [] H3 (upd H3 T (.tup [.str (tx nm), .int (pvs.length : Nat)])) := Keep.new nT
    have eT : (upd H3 T (.tup [.str (tx nm), .int (pvs.length : Nat)])) T = some (.tup [.str (tx nm), .int (pvs.length : Nat)]) := upd_same
    generalize upd H3 T (.tup [.str (tx nm), .int (pvs.length : Nat)]) = H4 at kT eT
    have ec4 := kT.get ec (by simp)
    have kL : Keep [L] H4 (upd H4 L (.lst (cvs ++ [.ref T]))) := Keep.set ec4 (List.mem_cons_self ..)
    refine ⟨cvs, ec4, Nat.lt_of_le_of_lt (show cvs.length ≤ 10 by omega) (by decide), ((k3.trans kT).cons.trans kL).drop nL, cvs ++ [.ref T], upd_same, by rw [List.length_append, List.length_singleton]; omega, fun c m => ?_⟩
    rcases List.mem_append.mp m with m | m
    · obtain ⟨ca, cn, cm, e1, e2, e3, e4⟩ := each c m
      exact ⟨ca, cn, cm, e1, kL.tup (kT.tup e2), e3, e4⟩
    · rw [List.mem_singleton.mp m]
      exact ⟨T, nm, pvs.length, rfl, kL.tup eT, wt.list.head.word, by rw [rP.length]; exact lp⟩
  obtain ⟨k3, cls3⟩ := p
  have hd3 := hd2.keep0 k3
  have k13 := k12.trans (k3.mono (by simp : ∀ x ∈ ([] : List Addr), x ∈ [a]))
  -- functions
  refine ⟨Nat.zero_le _, fun F nF => ?_⟩
  have FL : L ≠ F := let ⟨_, ec, _⟩ := cls3; ne_of_none ec nF
  have Fa : F ≠ a := (hd3.neH nF).symm
  have Fd : F ≠ d := (hd3.neD nF).symm
  have nF0 : H F = none := k13.free nF
  have kF : Keep [] H3 (upd H3 F (.lst [])) := Keep.new nF
  have eF : (upd H3 F (.lst [])) F = some (.lst []) := upd_same
  generalize upd H3 F (.lst []) = H4 at kF eF
  have k14 := k13.trans (kF.mono (by simp : ∀ x ∈ ([] : List Addr), x ∈ [a]))
  -- the loop
  refine ⟨_, rfl, a, d, 3, rfl, hd3.keep0 kF, by decide, fun m H5 m0 m1 k5 hd5 => ?_⟩
  refine ⟨_, rfl, by omega, by omega, ?_⟩
  have zt4 : Tr K H4 (.ref za) (.l fl) := (tz.keep k3).keep kF
  refine for_range (lo := 0) (n := m.toNat) (fun i σ H' => ∃ (y6 y7 y8 : Option V) (fvs : List V) (fts : List Tree), σ = [some (.ref a), some (.int n), some (.ref za), some (.ref L), none, some (.ref F), y6, y7, y8, none] ∧ Keep [a] H H' ∧ Hd H' a d ∧ ClsN H' L (2 + i) ∧ H' F = some (.lst fvs) ∧ Trs K H' fvs fts ∧ (∀ t ∈ fts, FnT t) ∧ fts.length = i ∧ Tr K H' (.ref za) (.l fl))
    ⟨none, none, none, [], [], rfl, k14.trans k5, hd5, ?_, k5.get eF (by simpa using Fa), trs_nil, fun t m => absurd m (List.not_mem_nil), rfl, zt4.keep k5⟩ (fun i σ H6 hi pw => ?_) (fun σ H6 pw => ?_)
  · obtain ⟨cvs, ec, lc, each⟩ := (cls3.keep kF (by simp)).keep k5 (by simpa using La)
    exact ⟨cvs, ec, by omega, each⟩
  · obtain ⟨y6, y7, y8, fvs, fts, rfl, k6, hd6, cls6, eF6, rF, fnF, lF, zt6⟩ := pw
    have i3 : i < 3 := by omega
    -- name
    refine ⟨by show (3 : Nat) ≤ sizeLine; decide, fun p1 np1 => ?_⟩
    have kn1 : Keep [] H6 (upd H6 p1 (.lst [.str "later", .str "q", .str "zz"])) := Keep.new np1
    have en1 : (upd H6 p1 (.lst [.str "later", .str "q", .str "zz"])) p1 = some (.lst [.str "later", .str "q", .str "zz"]) := upd_same
    generalize upd H6 p1 (.lst [.str "later", .str "q", .str "zz"]) = H7 at kn1 en1
    obtain ⟨nm, hc, wn, _⟩ := pick (L := [[108, 97, 116, 101, 114], [113], [122, 122]]) (xs := [.str "later", .str "q", .str "zz"]) (by decide +kernel) (by decide) (j := 0 + (i : Int)) (by omega) (by show 0 + (i : Int) < 3; omega)
    refine ⟨_, rfl, p1, _, _, _, rfl, rfl, SqL.of en1, hc, ?_⟩
    -- parameters
    refine ⟨by show (3 : Nat) ≤ sizeLine; decide, fun p2 np2 => ?_⟩
    have kn2 : Keep [] H7 (upd H7 p2 (.lst [.str "a", .str "b", .str "c"])) := Keep.new np2
    have en2 : (upd H7 p2 (.lst [.str "a", .str "b", .str "c"])) p2 = some (.lst [.str "a", .str "b", .str "c"]) := upd_same
    generalize upd H7 p2 (.lst [.str "a", .str "b", .str "c"]) = H8 at kn2 en2
    have k68 := kn1.trans kn2
    have hd8 := hd6.keep0 k68
    have p2a : p2 ≠ a := by
      intro e
      obtain ⟨xs, ea⟩ := (hd6.keep0 kn1).lst
      rw [e, ea] at np2
      cases np2
    dsimp only [tNoPart]
    refine ⟨_, rfl, a, d, 3, rfl, hd8, by decide, fun j2 H9 j20 j21 k9 hd9 => ?_⟩
    refine ⟨_, _, rfl, rfl, _, rfl, p2, _, rfl, SqL.of (k9.get en2 (by simpa using p2a)), fun p3 np3 => ?_⟩
    generalize hcv : cutV [V.str "a", V.str "b", V.str "c"] none (some (1 + j2)) = cv
    have kn3 : Keep [] H9 (upd H9 p3 (.lst cv)) := Keep.new np3
    have en3 : (upd H9 p3 (.lst cv)) p3 = some (.lst cv) := upd_same
    generalize upd H9 p3 (.lst cv) = H10 at kn3 en3
    refine ⟨p3, cv, rfl, .inl ⟨SqL.of en3, fun T nT => ?_⟩⟩
    obtain ⟨ps, rps, pw, pwt, lps⟩ : ∃ ps, Trs K H10 cv ps ∧ (∀ t ∈ ps, t.isW = true) ∧ (∀ t ∈ ps, WT t) ∧ ps.length ≤ 3 := by
      refine ⟨cutL (ws [[97], [98], [99]]) none (some (1 + j2)), ?_, fun t m => ws_w t (cutL_mem m), fun t m => ws_wt (by decide) t (cutL_mem m), Nat.le_trans (cutL_len _ _ _) (by decide)⟩
      rw [← hcv, show [V.str "a", V.str "b", V.str "c"] = [[97], [98], [99]].map (fun c => V.str (tx c)) by decide +kernel]
      exact trs_ws.cut _ _
    obtain ⟨tm, km⟩ := mk_tr (K := K) (H := H10) nT rps
    generalize upd H10 T (.tup cv) = H11 at tm km
    have k911 := kn3.trans km
    have k611 : Keep [a] H6 H11 := ((k68.mono (by simp)).trans k9).trans (k911.mono (by simp))
    have hd11 := hd9.keep0 k911
    have eF11 := k611.get eF6 (by simpa using Fa)
    have cls11 := cls6.keep k611 (by simpa using La)
    -- functions.append
    refine ⟨_, rfl, .inl ⟨rfl, _, SqL.of eF11⟩, _, rfl, _, rfl, _, rfl, _, rfl, _, rfl, 2, by decide, a, d, L, .ref T, ps, rfl, hd11, tm, pw, WTs.of pwt, by omega, cls11.to (by omega), La, fun v t H12 tv wt sz dp k12' hd12 => ?_⟩
    refine ⟨by show (3 : Nat) ≤ sizeLine; decide, fun p4 np4 => ?_⟩
    have tT := tm.keep k12'
    obtain ⟨tf, kf⟩ := mk_tr (K := K) (H := H12) (vs := [.str (tx nm), .ref T, v]) (ts := [.w nm, .l ps, t]) np4 (trs_cons tr_w (trs_cons tT (Trs.one tv)))
    generalize upd H12 p4 (.tup [.str (tx nm), .ref T, v]) = H13 at tf kf
    have k613 : Keep [a] H6 H13 := (k611.trans k12').trans (kf.mono (by simp))
    have eF13 := k613.get eF6 (by simpa using Fa)
    have hd13 := hd12.keep0 kf
    have fnew : FnT (.l [.w nm, .l ps, t]) := ⟨nm, ps, t, rfl, wt_l (wts_cons (wt_w wn) (wts_cons (wt_l (WTs.of pwt)) (wts_cons wt wts_nil))), pw, by omega, dp.mono (by decide), Nat.le_trans sz (by decide)⟩
    have lfv := rF.length
    refine ⟨F, fvs, _, rfl, rfl, eF13, Nat.lt_of_le_of_lt (show fvs.length ≤ 100 by omega) (by decide), ?_⟩
    have kF14 : Keep [F] H13 (upd H13 F (.lst (fvs ++ [.ref p4]))) := Keep.set eF13 (List.mem_cons_self ..)
    have eF14 : (upd H13 F (.lst (fvs ++ [.ref p4]))) F = some (.lst (fvs ++ [.ref p4])) := upd_same
    generalize upd H13 F (.lst (fvs ++ [.ref p4])) = H14 at kF14 eF14
    have hd14 := hd13.keep kF14 (by simpa using Fa.symm) (by simpa using Fd.symm)
    have cls14 := (cls6.keep k613 (by simpa using La)).keep kF14 (by simpa using FL)
    -- calls.append
    obtain ⟨cvs, ec, lc, each⟩ := cls14
    have tT14 := (tT.keep kf).keep kF14
    obtain ⟨Ta, Tvs, eTa, hT14, rT14⟩ := tT14.list
    refine ⟨_, rfl, .inl ⟨rfl, _, SqL.of ec⟩, _, rfl, _, rfl, Ta, Tvs, by rw [← eTa], .inr hT14, by show (2 : Nat) ≤ sizeLine; decide, fun p5 np5 => ?_⟩
    have k5' : Keep [] H14 (upd H14 p5 (.tup [.str (tx nm), .int (Tvs.length : Nat)])) := Keep.new np5
    have e5 : (upd H14 p5 (.tup [.str (tx nm), .int (Tvs.length : Nat)])) p5 = some (.tup [.str (tx nm), .int (Tvs.length : Nat)]) := upd_same
    generalize upd H14 p5 (.tup [.str (tx nm), .int (Tvs.length : Nat)]) = H15 at k5' e5
    have ec15 := k5'.get ec (by simp)
    refine ⟨L, cvs, _, rfl, rfl, ec15, Nat.lt_of_le_of_lt (show cvs.length ≤ 100 by omega) (by decide), ?_⟩
    have kL : Keep [L] H15 (upd H15 L (.lst (cvs ++ [.ref p5]))) := Keep.set ec15 (List.mem_cons_self ..)
    have kall : Keep [F, L] H13 (upd H15 L (.lst (cvs ++ [.ref p5]))) := ((kF14.mono (by simp)).trans (k5'.mono (by simp))).trans (kL.mono (by simp))
    have kH : Keep [a] H (upd H15 L (.lst (cvs ++ [.ref p5]))) := by
      have h1 : Keep (F :: L :: [a]) H (upd H15 L (.lst (cvs ++ [.ref p5]))) := ((k6.trans k613).mono (by simp)).trans (kall.mono (by simp))
      exact (h1.drop nF0).drop nL0
    refine ⟨_, _, _, fvs ++ [.ref p4], fts ++ [.l [.w nm, .l ps, t]], rfl, kH, (hd14.keep0 k5').upd La.symm Ld.symm, ⟨cvs ++ [.ref p5], upd_same, by rw [List.length_append, List.length_singleton]; omega, fun c mm => ?_⟩, ?_, ?_, fun t' mm => ?_, by rw [List.length_append, List.length_singleton]; omega, (zt6.keep k613).keep kall⟩
    · rcases List.mem_append.mp mm with mm | mm
      · obtain ⟨ca, cn, cm, e1, e2, e3, e4⟩ := each c mm
        exact ⟨ca, cn, cm, e1, kL.tup (k5'.tup e2), e3, e4⟩
      · rw [List.mem_singleton.mp mm]
        exact ⟨p5, nm, Tvs.length, rfl, kL.tup e5, wn, by rw [rT14.length]; omega⟩
    · rw [upd_ne FL.symm]
      exact k5'.get eF14 (by simp)
    · exact ((rF.keep k613).append (Trs.one tf)).keep kall
    · rcases List.mem_append.mp mm with mm | mm
      · exact fnF t' mm
      · rw [List.mem_singleton.mp mm]; exact fnew
  · obtain ⟨y6, y7, y8, fvs, fts, rfl, k6, hd6, cls6, eF6, rF, fnF, lF, zt6⟩ := pw
    dsimp only [tNoPart]
    refine ⟨by show (4 : Nat) ≤ sizeLine; decide, fun p2 np2 => ?_⟩
    have kn2 : Keep [] H6 (upd H6 p2 (.lst [.str "x", .str "y", .str "w", .str "v"])) := Keep.new np2
    have en2 : (upd H6 p2 (.lst [.str "x", .str "y", .str "w", .str "v"])) p2 = some (.lst [.str "x", .str "y", .str "w", .str "v"]) := upd_same
    generalize upd H6 p2 (.lst [.str "x", .str "y", .str "w", .str "v"]) = H7 at kn2 en2
    refine ⟨_, rfl, _, rfl, p2, _, rfl, SqL.of en2, fun p3 np3 => ?_⟩
    generalize hcv : cutV [V.str "x", V.str "y", V.str "w", V.str "v"] none (some (n : Int)) = cv
    have kn3 : Keep [] H7 (upd H7 p3 (.lst cv)) := Keep.new np3
    have en3 : (upd H7 p3 (.lst cv)) p3 = some (.lst cv) := upd_same
    generalize upd H7 p3 (.lst cv) = H10 at kn3 en3
    refine ⟨p3, cv, rfl, .inl ⟨SqL.of en3, fun T nT => ?_⟩⟩
    obtain ⟨ps, rps, pw, pwt, lps⟩ : ∃ ps, Trs K H10 cv ps ∧ (∀ t ∈ ps, t.isW = true) ∧ (∀ t ∈ ps, WT t) ∧ ps.length ≤ 4 := by
      refine ⟨cutL (ws [[120], [121], [119], [118]]) none (some (n : Int)), ?_, fun t m => ws_w t (cutL_mem m), fun t m => ws_wt (by decide) t (cutL_mem m), Nat.le_trans (cutL_len _ _ _) (by decide)⟩
      rw [← hcv, show [V.str "x", V.str "y", V.str "w", V.str "v"] = [[120], [121], [119], [118]].map (fun c => V.str (tx c)) by decide +kernel]
      exact trs_ws.cut _ _
    obtain ⟨tm, km⟩ := mk_tr (K := K) (H := H10) nT rps
    generalize upd H10 T (.tup cv) = H11 at tm km
    have k611 := (kn2.trans kn3).trans km
    have hd11 := hd6.keep0 k611
    -- main
    refine ⟨_, rfl, _, rfl, _, rfl, _, rfl, 3, by decide, a, d, L, .ref T, ps, rfl, hd11, tm, pw, WTs.of pwt, by omega, (cls6.keep k611 (by simp)).to (by omega), La, fun v t H12 tv wt sz dp k12' hd12 => ?_⟩
    refine ⟨by show (3 : Nat) ≤ sizeLine; decide, fun p4 np4 => ?_⟩
    obtain ⟨tf, kf⟩ := mk_tr (K := K) (H := H12) (vs := [.str "main", .ref T, v]) (ts := [.w [109, 97, 105, 110], .l ps, t]) np4 (by rw [show ("main" : Str) = tx [109, 97, 105, 110] by decide +kernel]; exact trs_cons tr_w (trs_cons (tm.keep k12') (Trs.one tv)))
    generalize upd H12 p4 (.tup [.str "main", .ref T, v]) = H13 at tf kf
    have hd13 := hd12.keep0 kf
    have k613 : Keep [a] H6 H13 := ((k611.mono (by simp)).trans k12').trans (kf.mono (by simp))
    have fnew : FnT (.l [.w [109, 97, 105, 110], .l ps, t]) := ⟨_, ps, t, rfl, wt_l (wts_cons (wt_w (isWord_of (by decide))) (wts_cons (wt_l (WTs.of pwt)) (wts_cons wt wts_nil))), pw, lps, dp.mono (by decide), Nat.le_trans sz (by decide)⟩
    generalize Tree.l [.w [109, 97, 105, 110], .l ps, t] = mt at tf fnew
    refine ⟨_, rfl, a, d, 4, rfl, hd13, by decide, fun j4 H14 j40 j41 k14' hd14 => ?_⟩
    have k614 := k613.trans k14'
    have kH := k6.trans k614
    have tf14 := tf.keep k14'
    have zt14 := zt6.keep k614
    have rF14 := rF.keep k614
    have eF14 := k614.get eF6 (by simpa using Fa)
    refine ⟨rfl, _, rfl, ite2 (fun _ => ?_) (fun _ => ?_)⟩
    · refine ⟨_, rfl, by show (1 : Nat) ≤ sizeLine; decide, fun t1 nt1 => ?_⟩
      obtain ⟨tm1, km1⟩ := mk_tr (K := K) (H := H14) nt1 (Trs.one tf14)
      generalize upd H14 t1 (.tup [.ref p4]) = H15 at tm1 km1
      refine ⟨_, rfl, cat_tr tm1 (zt14.keep km1) (Nat.le_trans (show _ ≤ 100 by rw [List.length_singleton]; omega) (by decide)) fun v16 H16 tv16 k16 => ?_⟩
      have k1416 := km1.trans k16
      refine ⟨_, rfl, F, fvs, rfl, .inl ⟨SqL.of (k1416.get eF14 (by simp)), fun T2 nT2 => ?_⟩⟩
      obtain ⟨tm2, km2⟩ := mk_tr (K := K) (H := H16) nT2 (rF14.keep k1416)
      refine cat_tr (tv16.keep km2) tm2 (Nat.le_trans (show _ ≤ 100 by rw [List.length_append, List.length_singleton]; omega) (by decide)) fun v17 H17 tv17 k17 => ?_
      have kk := (k1416.trans km2).trans k17
      refine q v17 _ H17 tv17 (fun t' mm => ?_) ?_ ?_ (kH.trans (kk.mono (by simp))) (hd14.keep0 kk)
      · rcases List.mem_append.mp mm with mm | mm
        · rcases List.mem_append.mp mm with mm | mm
          · rw [List.mem_singleton.mp mm]; exact fnew
          · exact fnl t' mm
        · exact fnF t' mm
      · rw [List.length_append, List.length_append, List.length_singleton]; omega
      · rw [List.length_append, List.length_append, List.length_singleton]; omega
    · refine ⟨_, rfl, by show (1 : Nat) ≤ sizeLine; decide, fun t1 nt1 => ?_⟩
      obtain ⟨tm1, km1⟩ := mk_tr (K := K) (H := H14) nt1 (Trs.one tf14)
      generalize upd H14 t1 (.tup [.ref p4]) = H15 at tm1 km1
      refine ⟨_, rfl, F, fvs, rfl, .inl ⟨SqL.of (km1.get eF14 (by simp)), fun T2 nT2 => ?_⟩⟩
      obtain ⟨tm2, km2⟩ := mk_tr (K := K) (H := H15) nT2 (rF14.keep km1)
      refine cat_tr (tm1.keep km2) tm2 (Nat.le_trans (show _ ≤ 100 by rw [List.length_singleton]; omega) (by decide)) fun v16 H16 tv16 k16 => ?_
      have k1416 := (km1.trans km2).trans k16
      refine ⟨_, rfl, cat_tr tv16 (zt14.keep k1416) (Nat.le_trans (show _ ≤ 100 by rw [List.length_append, List.length_singleton]; omega) (by decide)) fun v17 H17 tv17 k17 => ?_⟩
      have kk := k1416.trans k17
      refine q v17 _ H17 tv17 (fun t' mm => ?_) ?_ ?_ (kH.trans (kk.mono (by simp))) (hd14.keep0 kk)
      · rcases List.mem_append.mp mm with mm | mm
        · rcases List.mem_append.mp mm with mm | mm
          · rw [List.mem_singleton.mp mm]; exact fnew
          · exact fnF t' mm
        · exact fnl t' mm
      · rw [List.length_append, List.length_append, List.length_singleton]; omega
      · rw [List.length_append, List.length_append, List.length_singleton]; omega
end
end Og

namespace Og
open PySem PySem.Spec PyProof.Rows L2
/-- a list of words -/
def Wl (H : Hp) (l : Addr) (L : List (List Nat)) : Prop := H l = some (.lst (L.map fun c => V.str (tx c)))
theorem Wl.keep {S : List Addr} {H H1 : Hp} {l : Addr} {L : List (List Nat)} (h : Wl H l L) (k : Keep S H H1) (n : l ∉ S) : Wl H1 l L := k.get h n
theorem Wl.at {L : List (List Nat)} {j : Nat} {x : List Nat} (h : L[j]? = some x) : atI (L.map fun c => V.str (tx c)) (j : Int) = some (.str (tx x)) := atI_nat (by rw [List.getElem?_map, h]; rfl)
section
variable {P : Program} {w : World} {K : PySem.W.Frag} {mg : Str → Option Value} {base : Heap}
def spRen (K : PySem.W.Frag) (n : Nat) : Sp := fun vs H Q _ => ∃ (v : V) (ol nl : Addr) (t : Tree) (os ns : List (List Nat)), vs = [v, .ref ol, .ref nl] ∧ Tr K H v t ∧ WT t ∧ Deep n t ∧ t.size ≤ 300000 ∧ Wl H ol os ∧ Wl H nl ns ∧ os.length = ns.length ∧ os.length ≤ 100 ∧ (∀ x ∈ ns, IsWord x) ∧
  ∀ (v' : V) (t' : Tree) (H' : Hp), Tr K H' v' t' → WT t' → t'.size ≤ t.size → Keep [] H H' → Q v' H'
theorem has_ren {k : Nat} (D : DefAt K mg "_law_called" s_law_called p_law_called) (B : Bn mg) : ∀ n, Has P w K mg base (k + n + 1) "_law_called" p_law_called (spRen K n) := by
  obtain ⟨f, fd, F, hm, hb⟩ := D.ex
  have step : ∀ n sp, Callee P w K mg base CX0 (k + n) "_law_called" f fd p_law_called sp → (∀ m, n = m + 1 → ∀ vs H Q E, spRen K m vs H Q E → sp vs H Q E) → FnOk P w K mg base CX0 (k + n + 1) f fd p_law_called (spRen K n) := fun n sp c_law_called hsp => by
    refine F.ok sc_law_called (fun vs H Q E h => ?_) (fun cdv A outer s H vs Q E hr h => ?_)
    · obtain ⟨_, _, _, _, _, _, rfl, _⟩ := h
      rfl
    obtain ⟨v, ol, nl, t, os, ns, rfl, tv, wt, dp, sz, wo, wn, lon, lo, nsw, q⟩ := h
    refine ⟨_, (pss_cons (ps_if (pt_val (pe_callB call_isi (by rfl) B.isinstance (by decide +kernel) (pa_cons (pv 0) (pa_cons (pe_bltn (v := .ty "str") rfl B.str (by decide +kernel) rfl) pa_nil)))) (pss_one (ps_ret (pv 0))) pss_nil)
    (C8.pss_cut (ps_if (PW.pt (pw_and (pt_cmpR op_gt (pe_callB call_len_seq (by rfl) B.len PySem.boot_len (pa_cons (pv 0) pa_nil)) pe_int (nomark _)) (pw_and1 (pt_cmpR (op_eqTr hr.units) (pe_ix ix_tup (pv 0) pe_int (fun _ _ => rfl)) pe_str (nomark _))))) (pss_one (ps_ret (pv 0))) pss_nil)
    (pss_cons (ps_set (i := 3) sc_law_called.nd rfl (.inl rfl) (pe_callTy call_tuple_of (by rfl) B.tuple (by decide +kernel) (pa_cons (pe_lc (own := [("one", 4)]) (g := gName 4) (tt := tYes) rfl sc_law_called.nd (pi_tup (pe_slice sl_tupA (pv 0) (po_some pe_int) po_none)) (blkOk_by (N := n_law_called) (sc := defScope s_law_called) (by decide +kernel)) (fun _ _ _ _ _ => pg_name (i := 4) sc_law_called.nd rfl (Or.inl rfl)) (fun _ _ _ _ _ => pts_nil) (fun _ _ _ _ _ => (cal c_law_called hr rfl (pa_cons (pv 4) (pa_cons (pv 1) (pa_cons (pv 2) pa_nil)))))) pa_nil)))
    (pss_cons (ps_for PassesOwn.never rfl (pi_range1 (by rfl) B.range (pa_cons (pe_callB call_len_seq (by rfl) B.len PySem.boot_len (pa_cons (pv 1) pa_nil)) pa_nil)) (pg_name (i := 5) sc_law_called.nd rfl (.inl rfl))
      (pss_one (ps_if (PW.pt (pw_and (pt_cmpR op_gt (pe_callB call_len_seq (by rfl) B.len PySem.boot_len (pa_cons (pv 0) pa_nil)) pe_int (nomark _)) (pw_and1 (pt_cmpR (op_eqTr hr.units) (pe_ix ix_tup (pv 0) pe_int (fun _ _ => rfl)) (pe_ix ix_list (pv 1) (pv 5) (fun _ _ => rfl)) (nomark _))))) (pss_one (ps_ret (pe_op op_catA (pe_tup (pa_cons (pe_ix ix_list (pv 2) (pv 5) (fun _ _ => rfl)) pa_nil)) (pv 3)))) pss_nil)))
    (pss_one (ps_ret (pe_op op_catA (pe_slice sl_tupA (pv 0) po_none (po_some pe_int)) (pv 3)))))))), ?_⟩
    obtain ⟨ty, u, q1, q2, q3⟩ := isi_str tv
    refine ⟨_, rfl, _, _, ty, u, _, rfl, q1, q2, q3, _, rfl, ?_⟩
    cases t with
    | w x => exact iteT ⟨_, rfl, q v _ H tv wt (Nat.le_refl _) Keep.refl⟩
    | l ts =>
    refine iteF ?_
    cases n with
    | zero => exact (dp : False).elim
    | succ m =>
    have szl := sz
    rw [size_l] at szl
    have lsz := len_sizes ts
    obtain ⟨a, vs, rfl, hS, r⟩ := tv.list
    have lv := r.length
    refine ⟨fun σ' H' => σ' = [some (.ref a), some (.ref ol), some (.ref nl), none, none, none] ∧ H' = H, ?_, ?_⟩
    · refine ⟨_, rfl, a, vs, rfl, .inr hS, _, _, rfl, rfl, _, rfl, ?_⟩
      cases ts with
      | nil =>
        rw [r.nil]
        exact iteF (iteF ⟨rfl, rfl⟩)
      | cons t0 rest =>
        rw [decide_eq_true (show (0 : Int) < ((vs.length : Nat) : Int) by rw [lv, List.length_cons]; omega)]
        refine iteT ?_
        obtain ⟨v0, vr, rfl, r0, rr⟩ := r.cons
        refine ⟨_, rfl, a, _, _, v0, rfl, rfl, hS, atI_zero _ _, t0, .w qw, r0, by rw [lit_q]; exact tr_w, .inr rfl, fun b hb1 => ⟨b, rfl, ?_⟩⟩
        cases b with
        | true => exact iteT ⟨_, rfl, q _ _ H tv wt (Nat.le_refl _) Keep.refl⟩
        | false => exact iteF ⟨rfl, rfl⟩
    rintro σ' H' ⟨rfl, rfl⟩
    -- parts
    refine ⟨_, rfl, _, rfl, ?_⟩
    dsimp only [tNoPart]
    refine sl_tr tv fun v1 H1 tv1 k1 => ?_
    have d1 : cutL ts (some (1 : Int)) none = ts.drop 1 := by
      cases ts with
      | nil => unfold cutL; simp
      | cons t0 rest => exact cutL_from (t0 :: rest) (i := 1) (by rw [List.length_cons]; omega)
    rw [d1] at tv1
    obtain ⟨a1, vs1, rfl, hS1, r1⟩ := tv1.list
    have l1 := r1.length
    have wt1 : ∀ t ∈ ts.drop 1, WT t := fun t m => wt.list.all t (List.mem_of_mem_drop m)
    have dp1 : ∀ t ∈ ts.drop 1, Deep m t := fun t mm => dp t (List.mem_of_mem_drop mm)
    have sz1 := sizes_drop ts 1
    have lsz1 := len_sizes (ts.drop 1)
    refine ⟨a1, rfl, ⟨_, hS1⟩, fun L nL => ?_⟩
    have nL0 : H' L = none := k1.free nL
    refine lc_tup (K := K) (a := a1) (xs := vs1) (fun i H2 => Keep [] H1 H2 ∧ ∃ ws2 us, H2 L = some (.lst ws2) ∧ Trs K H2 ws2 us ∧ us.length = i ∧ (∀ t ∈ us, WT t) ∧ sizes us ≤ sizes ((ts.drop 1).take i)) ⟨Keep.new nL, [], [], upd_same, trs_nil, rfl, fun t m => absurd m (List.not_mem_nil), Nat.le_refl _⟩ (fun i H2 _ p => p.1.sqT hS1) (fun i x H2 hx p => ?_) (fun H2 p => ?_)
    · obtain ⟨k2, ws2, us, e1, ru, lu, wu, su⟩ := p
      have il : i < vs1.length := (List.getElem?_eq_some_iff.mp hx).1
      have il2 : i < (ts.drop 1).length := by omega
      have hg : (ts.drop 1)[i]? = some (ts.drop 1)[i] := List.getElem?_eq_getElem il2
      obtain ⟨y, hy, ty⟩ := r1.get hg
      rw [hx] at hy
      cases hy
      have mem := List.getElem_mem il2
      have sg := size_of_get hg
      have tk : sizes ((ts.drop 1).take (i + 1)) = sizes ((ts.drop 1).take i) + (ts.drop 1)[i].size := by
        rw [List.take_add_one, hg, sizes_app]
        show _ + sizes [_] = _
        rw [sizes_cons, sizes_nil]
        rfl
      have k12 := k1.trans k2
      refine ⟨rfl, yes ?_⟩
      refine ⟨_, rfl, _, rfl, _, rfl, hsp m rfl _ _ _ _ ⟨x, ol, nl, (ts.drop 1)[i], os, ns, rfl, ty.keep k2, wt1 _ mem, dp1 _ mem, by omega, wo.keep k12 (by simp), wn.keep k12 (by simp), lon, lo, nsw, fun v3 t3 H3 tv3 wt3 sz3 k3 => ?_⟩⟩
      have e3 := k3.get e1 (by simp)
      have k4 : Keep [L] H3 (upd H3 L (.lst (ws2 ++ [v3]))) := Keep.set e3 (List.mem_cons_self ..)
      have lw := ru.length
      refine ⟨ws2, e3, Nat.lt_of_le_of_lt (show ws2.length ≤ 300000 by omega) (by decide), ((k2.trans k3).cons.trans k4).drop nL, ws2 ++ [v3], us ++ [t3], upd_same, ((ru.keep k3).append (Trs.one tv3)).keep k4, by rw [List.length_append, List.length_singleton]; omega, fun t mm => ?_, ?_⟩
      · rcases List.mem_append.mp mm with mm | mm
        · exact wu t mm
        · rw [List.mem_singleton.mp mm]; exact wt3
      · rw [sizes_app, sizes_cons, sizes_nil, tk]
        omega
    · obtain ⟨k2, ws2, us, e1, ru, lu, wu, su⟩ := p
      rw [l1, List.take_length] at su
      rw [l1, List.length_drop] at lu
      refine ⟨L, ws2, rfl, .inl ⟨SqL.of e1, fun T nT => ?_⟩⟩
      obtain ⟨tm, km⟩ := mk_tr (K := K) (H := H2) nT ru
      generalize upd H2 T (.tup ws2) = H3 at tm km
      have k13 := (k1.trans k2).trans km
      -- the loop
      have wo3 := wo.keep k13 (by simp)
      have wn3 := wn.keep k13 (by simp)
      refine ⟨_, rfl, ol, _, rfl, .inl (SqL.of wo3), _, rfl, by omega, by rw [List.length_map]; omega, ?_⟩
      refine for_range (lo := 0) (n := (((os.map fun c => V.str (tx c)).length : Nat) : Int).toNat) (fun i σ H4 => ∃ y5 : Option V, σ = [some (.ref a), some (.ref ol), some (.ref nl), some (.ref T), none, y5] ∧ H4 = H3) ⟨none, rfl, rfl⟩ (fun i σ H4 hi pw => ?_) (fun σ H4 pw => ?_)
      · obtain ⟨y5, rfl, rfl⟩ := pw
        rw [Int.toNat_natCast, List.length_map] at hi
        have ei : (0 : Int) + (i : Int) = (i : Int) := by omega
        have hS4 := k13.sqT hS
        refine ⟨_, rfl, a, vs, rfl, .inr hS4, _, _, rfl, rfl, _, rfl, ?_⟩
        cases ts with
        | nil =>
          rw [r.nil]
          exact iteF (iteF ⟨_, rfl, rfl⟩)
        | cons t0 rest =>
          rw [decide_eq_true (show (0 : Int) < ((vs.length : Nat) : Int) by rw [lv, List.length_cons]; omega)]
          refine iteT ?_
          obtain ⟨v0, vr, rfl, r0, rr⟩ := r.cons
          have ho : os[i]? = some os[i] := List.getElem?_eq_getElem hi
          have hn2 : ns[i]? = some ns[i] := List.getElem?_eq_getElem (by omega)
          have nw := nsw _ (List.getElem_mem (show i < ns.length by omega))
          generalize ns[i] = nx at hn2 nw
          generalize os[i] = ox at ho
          refine ⟨_, rfl, a, _, _, v0, rfl, rfl, hS4, atI_zero _ _, _, rfl, _, rfl, ol, _, _, _, rfl, rfl, SqL.of wo3, by rw [ei]; exact Wl.at ho, t0, .w ox, r0.keep k13, tr_w, .inr rfl, fun b hb1 => ⟨b, rfl, ?_⟩⟩
          cases b with
          | false => exact iteF ⟨_, rfl, rfl⟩
          | true =>
            refine iteT ?_
            refine ⟨_, rfl, _, rfl, nl, _, _, _, rfl, rfl, SqL.of wn3, by rw [ei]; exact Wl.at hn2, by show (1 : Nat) ≤ sizeLine; decide, fun t1 nt1 => ?_⟩
            obtain ⟨tm1, km1⟩ := mk_tr (K := K) (H := H4) (vs := [.str (tx nx)]) (ts := [.w nx]) nt1 (Trs.one tr_w)
            refine ⟨_, rfl, cat_tr tm1 (tm.keep km1) (Nat.le_trans (show _ ≤ 400000 by rw [List.length_singleton]; omega) (by decide)) fun v5 H5 tv5 k5 => ?_⟩
            refine q v5 _ H5 tv5 (wt_l (wts_cons (wt_w nw) (WTs.of wu))) ?_ (k13.trans (km1.trans k5))
            rw [size_l, size_l, List.singleton_append, sizes_cons, sizes_cons, size_w]
            have := size_pos t0
            rw [List.drop_succ_cons, List.drop_zero] at su
            omega
      · obtain ⟨y5, rfl, rfl⟩ := pw
        dsimp only [tNoPart]
        refine ⟨_, rfl, _, rfl, ?_⟩
        refine sl_tr (tv.keep k13) fun v5 H5 tv5 k5 => ?_
        have d2 : cutL ts none (some (1 : Int)) = ts.take 1 := by
          cases ts with
          | nil => unfold cutL; simp
          | cons t0 rest => exact cutL_to (t0 :: rest) (j := 1) (by rw [List.length_cons]; omega)
        rw [d2] at tv5
        refine ⟨_, rfl, cat_tr tv5 (tm.keep k5) (Nat.le_trans (show _ ≤ 600000 by rw [List.length_take]; omega) (by decide)) fun v6 H6 tv6 k6 => ?_⟩
        refine q v6 _ H6 tv6 (wt_l (WTs.of fun t mm => ?_)) ?_ (k13.trans (k5.trans k6))
        · rcases List.mem_append.mp mm with mm | mm
          · exact wt.list.all t (List.mem_of_mem_take mm)
          · exact wu t mm
        · rw [size_l, size_l, sizes_app]
          have := sizes_two ts 1
          omega
  have all : ∀ n, FnOk P w K mg base CX0 (k + n + 1) f fd p_law_called (spRen K n) := fun n => by
    induction n with
    | zero => exact step 0 (fun _ _ _ _ => False) ⟨⟨fun _ _ _ _ h => h.elim, fun _ _ _ _ _ _ _ _ _ _ _ _ _ h => h.elim⟩, hm, F.kp, hb⟩ fun m e => by cases e
    | succ m ih => exact step (m + 1) (spRen K m) ⟨ih, hm, F.kp, hb⟩ fun m' e vs H Q E q => by cases e; exact q
  exact fun n => ⟨f, fd, all n, hm, F.kp, hb⟩
end
end Og

namespace Og
open PySem PySem.Spec PyProof.Rows L2
/-- a function of a drawn program, its functions under other names -/
def FnU (t : Tree) : Prop := ∃ n ps b, t = .l [.w n, .l ps, b] ∧ WT t ∧ (∀ p ∈ ps, p.isW = true) ∧ ps.length ≤ 4 ∧ b.size ≤ 1002
theorem dig_text : ∀ d : Nat, d < 10 → Str.ofString (toString ((d : Nat) : Int)) = tx [48 + d] := by decide +kernel
theorem le_trans3 {a b c : Nat} (h : a ≤ b) (k : b ≤ c) : a ≤ c := Nat.le_trans h k
theorem lit_x : ("x" : Str) = tx [120] := by decide +kernel
theorem f_word {cs : List Nat} (h : ∀ y ∈ cs, Sign y) (l : cs.length ≤ 11) : IsWord (102 :: cs) := ⟨102, cs, rfl, ⟨by decide, by decide⟩, h, l⟩
theorem flat_strs : ∀ (L : List (List Nat)), (L.map fun c => V.str (tx c)).all flatV = true
  | [] => rfl
  | x :: L => by rw [List.map_cons, List.all_cons, flat_strs L]; rfl
section
variable {P : Program} {w : World} {K : PySem.W.Frag} {mg : Str → Option Value} {base : Heap}
def spNames (K : PySem.W.Frag) : Sp := fun vs H Q _ => ∃ (h d : Addr) (v : V) (fs : List Tree), vs = [.ref h, v] ∧ Hd H h d ∧ Tr K H v (.l fs) ∧ (∀ t ∈ fs, FnT t) ∧ 1 ≤ fs.length ∧ fs.length ≤ 5 ∧
  ∀ (v' : V) (fs' : List Tree) (H' : Hp), Tr K H' v' (.l fs') → (∀ t ∈ fs', FnU t) → fs'.length = fs.length → Keep [h] H H' → Hd H' h d → Q v' H'
theorem has_names {k : Nat} (D : DefAt K mg "_law_other_names" s_law_other_names p_law_other_names) (B : Bn mg) (c1 : Has P w K mg base k "_law_take" p_law_take spTake) (c2 : Has P w K mg base k "_law_called" p_law_called (spRen K 7)) :
    Has P w K mg base (k + 1) "_law_other_names" p_law_other_names (spNames K) := by
  obtain ⟨f, fd, F, hm, hb⟩ := D.ex
  obtain ⟨_, _, c_law_take⟩ := c1
  obtain ⟨_, _, c_law_called⟩ := c2
  refine ⟨f, fd, F.ok sc_law_other_names (fun vs H Q E h => ?_) (fun cdv A outer s H vs Q E hr h => ?_), hm, F.kp, hb⟩
  · obtain ⟨_, _, _, _, rfl, _⟩ := h
    rfl
  obtain ⟨a, d, v, fs, rfl, hd, tv, fn, l1, l5, q⟩ := h
  refine ⟨_, (pss_cons (ps_set (i := 2) sc_law_other_names.nd rfl (.inr rfl) (pe_lc (own := [("one", 3)]) (g := gName 3) (tt := tYes) rfl sc_law_other_names.nd (pi_tup (pv 1)) (blkOk_by (N := n_law_other_names) (sc := defScope s_law_other_names) (by decide +kernel)) (fun _ _ _ _ _ => pg_name (i := 3) sc_law_other_names.nd rfl (Or.inl rfl)) (fun _ _ _ _ _ => pts_nil) (fun _ _ _ _ _ => (pe_ix (show IxR _ (rIxT K) from ix_tup) (pv 3) pe_int (fun _ _ => rfl)))))
    (pss_cons (ps_set (i := 4) sc_law_other_names.nd rfl (.inr rfl) (pe_lst pa_nil))
    (pss_cons (ps_for PassesOwn.never rfl (pi_range1 (by rfl) B.range (pa_cons (pe_callB call_len_seq (by rfl) B.len PySem.boot_len (pa_cons (pv 1) pa_nil)) pa_nil)) (pg_name (i := 5) sc_law_other_names.nd rfl (.inl rfl))
      (pss_cons (ps_set (i := 6) sc_law_other_names.nd rfl (.inl rfl) (pe_callTy call_str_int (by rfl) B.str (by decide +kernel) (pa_cons (pe_op op_mod (pe_callTy call_int1 (by rfl) B.int (by decide +kernel) (pa_cons (pe_op op_add (pv 5) (cal c_law_take hr rfl (pa_cons (pv 0) (pa_cons pe_int pa_nil)))) pa_nil)) (pe_callB call_len_seq (by rfl) B.len PySem.boot_len (pa_cons (pv 1) pa_nil))) pa_nil)))
      (pss_cons (ps_set (i := 7) sc_law_other_names.nd rfl (.inl rfl) (pe_ix ix_list (pe_lst (pa_cons (pe_ix ix_list (pv 2) (pv 5) (fun _ _ => rfl)) (pa_cons (pe_op op_add_str pe_str (pv 6)) (pa_cons (pe_op op_add_str pe_str (pe_ix ix_str pe_str (pv 5) (fun _ _ => rfl))) (pa_cons (pe_op op_add_str (pe_op op_add_str pe_str (pv 6)) pe_str) (pa_cons pe_str pa_nil)))))) (cal c_law_take hr rfl (pa_cons (pv 0) (pa_cons pe_int pa_nil))) (fun _ _ => rfl)))
      (C8.pss_cut (ps_if (PW.pt (pw_or (pt_cmpR op_in_seq (pv 7) (pv 4) (by rfl)) (pw_or1 (PW.pt (pw_and (pt_cmpR op_in_seq (pv 7) (pv 2) (by rfl)) (pw_and1 (pt_cmpR op_ne (pv 7) (pe_ix ix_list (pv 2) (pv 5) (fun _ _ => rfl)) (nomark _)))))))) (pss_one (ps_set (i := 7) sc_law_other_names.nd rfl (.inl rfl) (pe_ix ix_list (pv 2) (pv 5) (fun _ _ => rfl)))) pss_nil)
      (pss_one (ps_expr (pe_bm PySem.F.plainAttrs_list PySem.F.slot_list_append PySem.F.type_list_append mt_append (pv 4) (pa_cons (pv 7) pa_nil))))))))
    (pss_one (ps_ret (pe_callTy call_tuple_of (by rfl) B.tuple (by decide +kernel) (pa_cons (pe_lc (own := [("k", 5)]) (g := gName 5) (tt := tYes) rfl sc_law_other_names.nd (pi_range1 (by rfl) B.range (pa_cons (pe_callB call_len_seq (by rfl) B.len PySem.boot_len (pa_cons (pv 1) pa_nil)) pa_nil)) (blkOk_by (N := n_law_other_names) (sc := defScope s_law_other_names) (by decide +kernel)) (fun _ _ _ _ _ => pg_name (i := 5) sc_law_other_names.nd rfl (Or.inl rfl)) (fun _ _ _ _ _ => pts_nil) (fun _ _ _ _ _ => (pe_tup (pa_cons (pe_ix (show IxR _ (rIxL K) from ix_list) (pv 4) (pv 5) (fun _ _ => rfl)) (pa_cons (pe_ix (show IxR _ (rIxT K) from ix_tup) (pe_ix (show IxR _ (rIxT K) from ix_tup) (pv 1) (pv 5) (fun _ _ => rfl)) pe_int (fun _ _ => rfl)) (pa_cons (cal c_law_called hr rfl (pa_cons (pe_ix (show IxR _ (rIxT K) from ix_tup) (pe_ix (show IxR _ (rIxT K) from ix_tup) (pv 1) (pv 5) (fun _ _ => rfl)) pe_int (fun _ _ => rfl)) (pa_cons (pv 2) (pa_cons (pv 4) pa_nil)))) pa_nil)))))) pa_nil))))))), ?_⟩
  obtain ⟨pa, pvs, rfl, hP, rP⟩ := tv.list
  have lp := rP.length
  -- old
  refine ⟨_, rfl, pa, rfl, ⟨_, hP⟩, fun L nL => ?_⟩
  have La : L ≠ a := (hd.neH nL).symm
  refine lc_tup (K := K) (a := pa) (xs := pvs) (fun i H' => Keep [] H H' ∧ ∃ os : List (List Nat), Wl H' L os ∧ os.length = i ∧ ∀ x ∈ os, IsWord x) ⟨Keep.new nL, [], upd_same, rfl, fun x m => absurd m (List.not_mem_nil)⟩ (fun i H' _ p => p.1.sqT hP) (fun i x H1 hx p => ?_) (fun H1 p => ?_)
  · obtain ⟨k1, os, wo, lo, ow⟩ := p
    have il : i < pvs.length := (List.getElem?_eq_some_iff.mp hx).1
    have hg : fs[i]? = some fs[i] := List.getElem?_eq_getElem (by omega)
    obtain ⟨y, hy, ty⟩ := rP.get hg
    rw [hx] at hy
    cases hy
    obtain ⟨nm, ps, b, et, wt, pw, lps, dp, sz⟩ := fn _ (List.getElem_mem (show i < fs.length by omega))
    rw [et] at ty wt
    obtain ⟨oa, ovs, rfl, hO, rO⟩ := (ty.keep k1).list
    obtain ⟨x0, y0, z0, rfl, r0, r1, r2⟩ := rO.three
    have e0 := r0.word
    subst e0
    refine ⟨rfl, yes ?_⟩
    refine ⟨_, rfl, oa, _, _, _, rfl, rfl, hO, atI_zero _ _, ?_⟩
    have kL : Keep [L] H1 (upd H1 L (.lst ((os.map fun c => V.str (tx c)) ++ [.str (tx nm)]))) := Keep.set wo (List.mem_cons_self ..)
    refine ⟨_, wo, Nat.lt_of_le_of_lt (show _ ≤ 100 by rw [List.length_map]; omega) (by decide), (k1.cons.trans kL).drop nL, os ++ [nm], ?_, by rw [List.length_append, lo]; rfl, fun x m => ?_⟩
    · show upd _ _ _ _ = _
      rw [upd_same, List.map_append]
      rfl
    · rcases List.mem_append.mp m with m | m
      · exact ow x m
      · rw [List.mem_singleton.mp m]; exact wt.list.head.word
  obtain ⟨k1, os, wo, lo, ow⟩ := p
  have hd1 := hd.keep0 k1
  -- new
  refine ⟨Nat.zero_le _, fun N nN => ?_⟩
  have NL : L ≠ N := ne_of_none wo nN
  have Na : N ≠ a := (hd1.neH nN).symm
  have Nd : N ≠ d := (hd1.neD nN).symm
  have nN0 : H N = none := k1.free nN
  have kN : Keep [] H1 (upd H1 N (.lst [])) := Keep.new nN
  have eN : Wl (upd H1 N (.lst [])) N [] := upd_same
  generalize upd H1 N (.lst []) = H2 at kN eN
  have k2 := k1.trans kN
  refine ⟨_, rfl, pa, pvs, rfl, .inr (k2.sqT hP), _, rfl, by omega, by omega, ?_⟩
  refine for_range (lo := 0) (n := ((pvs.length : Nat) : Int).toNat) (fun i σ H' => ∃ (y5 y6 y7 : Option V) (ns : List (List Nat)), σ = [some (.ref a), some (.ref pa), some (.ref L), none, some (.ref N), y5, y6, y7] ∧ Keep [a] H H' ∧ Hd H' a d ∧ Wl H' N ns ∧ Wl H' L os ∧ ns.length = i ∧ ∀ x ∈ ns, IsWord x)
    ⟨none, none, none, [], rfl, k2.mono (by simp), hd1.keep0 kN, eN, wo.keep kN (by simp), rfl, fun x m => absurd m (List.not_mem_nil)⟩ (fun i σ H3 hi pw => ?_) (fun σ H3 pw => ?_)
  · obtain ⟨y5, y6, y7, ns, rfl, k03, hd3, wn, wo3, ln, nw⟩ := pw
    have hi2 : i < pvs.length := by omega
    have ei : (0 : Int) + (i : Int) = (i : Int) := by omega
    rw [ei]
    refine ⟨_, rfl, ?_⟩
    refine ⟨_, rfl, a, d, 2, rfl, hd3, by decide, fun j H4 j0 j1 k4 hd4 => ?_⟩
    refine ⟨_, _, rfl, rfl, .inl ⟨_, rfl, ?_⟩⟩
    have k04 := k03.trans k4
    refine ⟨_, rfl, pa, pvs, rfl, .inr (k04.sqT hP), _, _, rfl, rfl, by omega, ?_⟩
    obtain ⟨dg, ed, ld⟩ : ∃ dg : Nat, ((i : Int) + j) % ((pvs.length : Nat) : Int) = (dg : Int) ∧ dg < 10 := by
      have h0 := Int.emod_nonneg ((i : Int) + j) (b := ((pvs.length : Nat) : Int)) (by omega)
      have h1 := Int.emod_lt_of_pos ((i : Int) + j) (b := ((pvs.length : Nat) : Int)) (by omega)
      exact ⟨(((i : Int) + j) % ((pvs.length : Nat) : Int)).toNat, by omega, by omega⟩
    refine ⟨(dg : Int), congrArg (fun z => [V.int z]) ed, by rw [Int.natAbs_natCast]; exact Nat.lt_of_le_of_lt (Nat.log2_le_self dg) (by omega), ?_⟩
    rw [dig_text dg ld]
    have wo4 := wo3.keep k4 (by simpa using La)
    have wn4 := wn.keep k4 (by simpa using Na)
    have hoi : os[i]? = some os[i] := List.getElem?_eq_getElem (by omega)
    have owi := ow _ (List.getElem_mem (show i < os.length by omega))
    generalize os[i] = oi at hoi owi
    have hlc : atI ("abcdefgh" : Str).cps.toList (i : Int) = some (97 + i) := by
      have c : i = 0 ∨ i = 1 ∨ i = 2 ∨ i = 3 ∨ i = 4 := by omega
      rcases c with rfl | rfl | rfl | rfl | rfl <;> decide +kernel
    have i5 : i < 5 := by omega
    refine ⟨_, rfl, ?_⟩
    refine ⟨_, rfl, L, _, _, _, rfl, rfl, SqL.of wo4, Wl.at hoi, ?_⟩
    have h2 : ∀ c : Nat, ("f" : Str).length + (tx [c]).length ≤ sizeLine := fun c => by rw [lit_f, tx_len, tx_len]; show 2 ≤ sizeLine; decide
    have h3 : ∀ c : Nat, (("f" : Str) ++ tx [c]).length + ("x" : Str).length ≤ sizeLine := fun c => by rw [lit_f, lit_x, tx_app, tx_len, tx_len]; show 3 ≤ sizeLine; decide
    refine ⟨_, rfl, _, _, rfl, rfl, h2 _, ?_⟩
    refine ⟨_, rfl, _, _, _, rfl, rfl, by show (8 : Nat) ≤ sizeLine; decide, hlc, _, _, rfl, rfl, h2 (97 + i), ?_⟩
    refine ⟨_, rfl, _, _, rfl, rfl, h2 _, _, _, rfl, rfl, h3 _, ?_⟩
    refine ⟨by show (5 : Nat) ≤ sizeLine; decide, fun T nT => ?_⟩
    have Ta : T ≠ a := (hd4.neH nT).symm
    refine ⟨_, rfl, a, d, 5, rfl, hd4.new nT, by decide, fun z H5 z0 z1 k5 hd5 => ?_⟩
    have eT := k5.get (b := T) upd_same (by simpa using Ta)
    obtain ⟨c, hc, wc⟩ : ∃ c, atI [V.str (tx oi), .str (("f" : Str) ++ tx [48 + dg]), .str (("f" : Str) ++ tx [97 + i]), .str ((("f" : Str) ++ tx [48 + dg]) ++ ("x" : Str)), .str ("f" : Str)] z = some (.str (tx c)) ∧ IsWord c := by
      rw [lit_f, lit_x, tx_app, tx_app, tx_app]
      have c : z = 0 ∨ z = 1 ∨ z = 2 ∨ z = 3 ∨ z = 4 := by omega
      rcases c with rfl | rfl | rfl | rfl | rfl
      · exact ⟨_, rfl, owi⟩
      · exact ⟨_, rfl, f_word (cs := [48 + dg]) (fun y m => by rw [List.mem_singleton.mp m]; right; omega) (by show 1 ≤ 11; decide)⟩
      · exact ⟨_, rfl, f_word (cs := [97 + i]) (fun y m => by rw [List.mem_singleton.mp m]; left; omega) (by show 1 ≤ 11; decide)⟩
      · refine ⟨_, rfl, f_word (cs := [48 + dg, 120]) (fun y m => ?_) (by show 2 ≤ 11; decide)⟩
        rcases List.mem_cons.mp m with e | m
        · rw [e]; right; omega
        · rw [List.mem_singleton.mp m]; left; decide
      · exact ⟨_, rfl, f_word (cs := []) (by simp) (by decide)⟩
    refine ⟨T, _, _, _, rfl, rfl, SqL.of eT, hc, ?_⟩
    have kT : Keep [a] H4 H5 := (Keep.new (S := [a]) nT).trans k5
    have k05 := k04.trans kT
    have wo5 := wo4.keep kT (by simpa using La)
    have wn5 := wn4.keep kT (by simpa using Na)
    refine ⟨fun σ' H' => ∃ c', IsWord c' ∧ σ' = [some (.ref a), some (.ref pa), some (.ref L), none, some (.ref N), some (.int i), some (.str (tx [48 + dg])), some (.str (tx c'))] ∧ H' = H5, ?_, ?_⟩
    · refine ⟨_, rfl, _, rfl, N, _, rfl, .inl (SqL.of wn5), rfl, flat_strs _, ?_⟩
      have keepit : ∃ c', IsWord c' ∧ [some (V.ref a), some (.ref pa), some (.ref L), none, some (.ref N), some (.int i), some (.str (tx [48 + dg])), some (.str (tx c))] = [some (V.ref a), some (.ref pa), some (.ref L), none, some (.ref N), some (.int i), some (.str (tx [48 + dg])), some (.str (tx c'))] ∧ H5 = H5 := ⟨c, wc, rfl, rfl⟩
      refine ⟨_, rfl, ite2 (fun _ => iteT ?_) (fun _ => ?_)⟩
      · exact ⟨_, rfl, _, rfl, L, _, _, _, rfl, rfl, SqL.of wo5, Wl.at hoi, oi, owi, rfl, rfl⟩
      refine ⟨_, rfl, _, rfl, L, _, rfl, .inl (SqL.of wo5), rfl, flat_strs _, ?_⟩
      refine ⟨_, rfl, ite2 (fun _ => ?_) (fun _ => iteF keepit)⟩
      refine ⟨_, rfl, _, rfl, _, rfl, L, _, _, _, rfl, rfl, SqL.of wo5, Wl.at hoi, ?_⟩
      refine ⟨rfl, _, rfl, ite2 (fun _ => ?_) (fun _ => keepit)⟩
      exact ⟨_, rfl, _, rfl, L, _, _, _, rfl, rfl, SqL.of wo5, Wl.at hoi, oi, owi, rfl, rfl⟩
    rintro σ' H' ⟨c', wc', rfl, rfl⟩
    have kN2 : Keep [N] H' (upd H' N (.lst ((ns.map fun c => V.str (tx c)) ++ [.str (tx c')]))) := Keep.set wn5 (List.mem_cons_self ..)
    refine ⟨_, rfl, .inl ⟨rfl, _, SqL.of wn5⟩, _, rfl, N, _, _, rfl, rfl, wn5, Nat.lt_of_le_of_lt (show _ ≤ 100 by rw [List.length_map]; omega) (by decide), ?_⟩
    refine ⟨_, _, _, ns ++ [c'], rfl, ?_, hd5.upd Na.symm Nd.symm, ?_, wo5.keep kN2 (by simpa using NL), by rw [List.length_append, List.length_singleton]; omega, fun x m => ?_⟩
    · exact (k05.cons.trans (kN2.mono (by simp))).drop nN0
    · show upd _ _ _ _ = _
      rw [upd_same, List.map_append]
      rfl
    · rcases List.mem_append.mp m with m | m
      · exact nw x m
      · rw [List.mem_singleton.mp m]; exact wc'
  · obtain ⟨y5, y6, y7, ns, rfl, k3, hd3, wn, wo3, ln, nw⟩ := pw
    rw [Int.toNat_natCast] at ln
    refine ⟨_, rfl, pa, pvs, rfl, .inr (k3.sqT hP), _, rfl, by omega, by omega, fun M nM => ?_⟩
    have Ma : M ≠ a := (hd3.neH nM).symm
    have Md : M ≠ d := (hd3.neD nM).symm
    have nM0 : H M = none := k3.free nM
    have kM : Keep [] H3 (upd H3 M (.lst [])) := Keep.new nM
    refine lc_range (lo := 0) (n := ((pvs.length : Nat) : Int).toNat) (fun i H' => ∃ vs ts, H' M = some (.lst vs) ∧ Trs K H' vs ts ∧ ts.length = i ∧ (∀ t ∈ ts, FnU t) ∧ Keep [] H3 H')
        ⟨[], [], upd_same, trs_nil, rfl, fun t m => absurd m (List.not_mem_nil), kM⟩ (fun i H5 hi p => ?_) (fun H5 p => ?_)
    · obtain ⟨vs, ts, e1, r, lt, ft, k5⟩ := p
      have hi2 : i < fs.length := by omega
      have ei : (0 : Int) + (i : Int) = (i : Int) := by omega
      rw [ei]
      have k35 := k3.trans (k5.mono (by simp))
      have wn5 := wn.keep k5 (by simp)
      have wo5 := wo3.keep k5 (by simp)
      have tv5 : Tr K H5 (.ref pa) (.l fs) := tv.keep k35
      have hn : ns[i]? = some ns[i] := List.getElem?_eq_getElem (by omega)
      have hf : fs[i]? = some fs[i] := List.getElem?_eq_getElem hi2
      have hw := nw _ (List.getElem_mem (show i < ns.length by omega))
      obtain ⟨nm, ps, b, et, wt, pw, lps, dp, sz⟩ := fn _ (List.getElem_mem hi2)
      generalize ns[i] = nx at hn hw
      rw [et] at hf wt
      refine ⟨rfl, yes ?_⟩
      refine ⟨_, rfl, _, rfl, N, _, _, _, rfl, rfl, SqL.of wn5, Wl.at hn, ?_⟩
      obtain ⟨y, hy, ty⟩ := rP.get hf
      obtain ⟨oa, ovs, rfl, hO, rO⟩ := (ty.keep k35).list
      obtain ⟨x0, vps, vb, rfl, r0, tps, tb⟩ := rO.three
      have hP5 := k35.sqT hP
      refine ⟨_, rfl, _, rfl, pa, _, _, _, rfl, rfl, hP5, atI_nat hy, ?_⟩
      refine ⟨oa, _, _, _, rfl, rfl, hO, rfl, ?_⟩
      refine ⟨_, rfl, _, rfl, pa, _, _, _, rfl, rfl, hP5, atI_nat hy, ?_⟩
      refine ⟨oa, _, _, _, rfl, rfl, hO, rfl, ?_⟩
      refine ⟨_, rfl, _, rfl, ?_⟩
      refine ⟨vb, L, N, b, os, ns, rfl, tb, wt.list.tail.tail.head, dp, Nat.le_trans sz (by decide), wo5, wn5, by omega, by omega, nw, fun v3 t3 H6 tv3 wt3 sz3 k6 => ?_⟩
      refine ⟨by show (3 : Nat) ≤ sizeLine; decide, fun T nT => ?_⟩
      obtain ⟨tm, km⟩ := mk_tr (K := K) (H := H6) (vs := [.str (tx nx), vps, v3]) (ts := [.w nx, .l ps, t3]) nT (trs_cons tr_w (trs_cons (tps.keep k6) (Trs.one tv3)))
      generalize upd H6 T (.tup [.str (tx nx), vps, v3]) = H7 at tm km
      have k57 := k6.trans km
      have e7 := k57.get e1 (by simp)
      have kM7 : Keep [M] H7 (upd H7 M (.lst (vs ++ [.ref T]))) := Keep.set e7 (List.mem_cons_self ..)
      have lv := r.length
      refine ⟨vs, e7, Nat.lt_of_le_of_lt (show vs.length ≤ 100 by omega) (by decide), vs ++ [.ref T], ts ++ [.l [.w nx, .l ps, t3]], upd_same, ((r.keep k57).append (Trs.one tm)).keep kM7, by rw [List.length_append, lt]; rfl, fun t m => ?_, ((k5.trans k57).cons.trans kM7).drop nM⟩
      rcases List.mem_append.mp m with m | m
      · exact ft t m
      · rw [List.mem_singleton.mp m]
        exact ⟨nx, ps, t3, rfl, wt_l (wts_cons (wt_w hw) (wts_cons wt.list.tail.head (wts_cons wt3 wts_nil))), pw, lps, Nat.le_trans sz3 sz⟩
    · obtain ⟨vs, ts, e1, r, lt, ft, k5⟩ := p
      rw [Int.toNat_natCast] at lt
      refine ⟨M, vs, rfl, .inl ⟨SqL.of e1, fun T nT => ?_⟩⟩
      obtain ⟨tm, km⟩ := mk_tr (K := K) (H := H5) nT r
      exact q _ _ _ tm ft (by omega) (k3.trans ((k5.trans km).mono (by simp))) (hd3.keep0 (k5.trans km))
end
end Og

namespace Og
open PySem PySem.Spec PyProof.Rows L2
def oddw : List (List Nat) := ["x", "a", "v", "f0", "f1", "f01", "f99", "main", "zz", "quote", "if", "head", "join", "put", "same", "word", "tail"].map fun s => s.toList.map Char.toNat
def oddl : List Tree := [.l [], .l [.w [120]], .l [.l [.w [97]], .w [120]], .l [.w qw, .l [.w [97]]], .l [.w qw], .l [.w qw, .w [97], .w [98]]]
theorem oddl_wt : ∀ t ∈ oddl, WT t := WTs.all (wts_of (by decide +kernel))
theorem oddl_size : ∀ t ∈ oddl, t.size ≤ 20 := fun t m => of_decide_eq_true (List.all_eq_true.mp (show oddl.all (fun t => decide (Tree.size t ≤ 20)) = true by decide +kernel) t m)
theorem pickT {K : PySem.W.Frag} {H : Hp} {vs : List V} {ts : List Tree} (r : Trs K H vs ts) {j : Int} (h0 : 0 ≤ j) (h1 : j < (ts.length : Int)) : ∃ x t, atI vs j = some x ∧ Tr K H x t ∧ t ∈ ts := by
  obtain ⟨n, rfl⟩ := Int.eq_ofNat_of_zero_le h0
  have l : n < ts.length := by omega
  obtain ⟨x, hx, tx⟩ := r.get (List.getElem?_eq_getElem l)
  exact ⟨x, ts[n], atI_nat hx, tx, List.getElem_mem l⟩
theorem Trs.rep {K : PySem.W.Frag} {H : Hp} {vs : List V} {ts : List Tree} (r : Trs K H vs ts) : ∀ n : Nat, Trs K H (List.replicate n vs).flatten (List.replicate n ts).flatten
  | 0 => trs_nil
  | n + 1 => by
    rw [List.replicate_succ, List.replicate_succ, List.flatten_cons, List.flatten_cons]
    exact r.append (r.rep n)
section
variable {P : Program} {w : World} {K : PySem.W.Frag} {mg : Str → Option Value} {base : Heap}
/-- what the bending of programs makes of small things -/
def spOdd (K : PySem.W.Frag) : Sp := fun vs H Q _ => ∃ (h d : Addr) (v : V) (fs : List Tree), vs = [.ref h, v] ∧ Hd H h d ∧ Tr K H v (.l fs) ∧ (∀ t ∈ fs, FnU t) ∧ 1 ≤ fs.length ∧ fs.length ≤ 5 ∧
  ∀ (v' : V) (t : Tree) (H' : Hp), Tr K H' v' t → WT t → t.size ≤ 20 → Keep [h] H H' → Hd H' h d → Q v' H'
theorem has_odd {k : Nat} (D : DefAt K mg "_law_odd" s_law_odd p_law_odd) (B : Bn mg) (c1 : Has P w K mg base k "_law_take" p_law_take spTake) (c2 : Has P w K mg base k "_law_special" p_law_special spSpecial) :
    Has P w K mg base (k + 1) "_law_odd" p_law_odd (spOdd K) := by
  obtain ⟨f, fd, F, hm, hb⟩ := D.ex
  obtain ⟨_, _, c_law_take⟩ := c1
  obtain ⟨_, _, c_law_special⟩ := c2
  refine ⟨f, fd, F.ok sc_law_odd (fun vs H Q E h => ?_) (fun cdv A outer s H vs Q E hr h => ?_), hm, F.kp, hb⟩
  · obtain ⟨_, _, _, _, rfl, _⟩ := h
    rfl
  obtain ⟨a, d, v, fs, rfl, hd, tv, fn, l1, l5, q⟩ := h
  refine ⟨_, (pss_cons (ps_set (i := 2) sc_law_odd.nd rfl (.inl rfl) (pe_lst (pa_cons pe_str (pa_cons pe_str (pa_cons pe_str (pa_cons pe_str (pa_cons pe_str (pa_cons pe_str (pa_cons pe_str (pa_cons pe_str (pa_cons pe_str (pa_cons pe_str (pa_cons pe_str (pa_cons pe_str (pa_cons pe_str (pa_cons pe_str (pa_cons pe_str (pa_cons pe_str (pa_cons pe_str pa_nil)))))))))))))))))))
    (pss_cons (ps_set (i := 3) sc_law_odd.nd rfl (.inl rfl) (cal c_law_take hr rfl (pa_cons (pv 0) (pa_cons pe_int pa_nil))))
    (pss_cons (ps_if (pt_cmpR op_lt (pv 3) pe_int (nomark _)) (pss_one (ps_ret (pe_ix ix_list (pv 2) (cal c_law_take hr rfl (pa_cons (pv 0) (pa_cons (pe_callB call_len_seq (by rfl) B.len PySem.boot_len (pa_cons (pv 2) pa_nil)) pa_nil))) (fun _ _ => rfl)))) pss_nil)
    (pss_cons (ps_if (pt_cmpR op_eq (pv 3) pe_int (nomark _)) (pss_one (ps_ret (pe_ix ix_list (pe_lst (pl_cons (pe_lt pl_nil (by show 0 ≤ sizeLine; decide)) (pl_cons (pe_lt (pl_cons (pe_lw (x := [120]) (by decide +kernel)) pl_nil) (by show 1 ≤ sizeLine; decide)) (pl_cons (pe_lt (pl_cons (pe_lt (pl_cons (pe_lw (x := [97]) (by decide +kernel)) pl_nil) (by show 1 ≤ sizeLine; decide)) (pl_cons (pe_lw (x := [120]) (by decide +kernel)) pl_nil)) (by show 2 ≤ sizeLine; decide)) (pl_cons (pe_lt (pl_cons (pe_lw (x := [113, 117, 111, 116, 101]) (by decide +kernel)) (pl_cons (pe_lt (pl_cons (pe_lw (x := [97]) (by decide +kernel)) pl_nil) (by show 1 ≤ sizeLine; decide)) pl_nil)) (by show 2 ≤ sizeLine; decide)) (pl_cons (pe_lt (pl_cons (pe_lw (x := [113, 117, 111, 116, 101]) (by decide +kernel)) pl_nil) (by show 1 ≤ sizeLine; decide)) (pl_cons (pe_lt (pl_cons (pe_lw (x := [113, 117, 111, 116, 101]) (by decide +kernel)) (pl_cons (pe_lw (x := [97]) (by decide +kernel)) (pl_cons (pe_lw (x := [98]) (by decide +kernel)) pl_nil))) (by show 3 ≤ sizeLine; decide)) pl_nil))))))) (cal c_law_take hr rfl (pa_cons (pv 0) (pa_cons pe_int pa_nil))) (fun _ _ => rfl)))) pss_nil)
    (pss_cons (ps_set (i := 4) sc_law_odd.nd rfl (.inl rfl) (pe_ix ix_list (pe_lc (own := [("one", 5)]) (g := gName 5) (tt := tYes) rfl sc_law_odd.nd (pi_tup (pv 1)) (blkOk_by (N := n_law_odd) (sc := defScope s_law_odd) (by decide +kernel)) (fun _ _ _ _ _ => pg_name (i := 5) sc_law_odd.nd rfl (Or.inl rfl)) (fun _ _ _ _ _ => pts_nil) (fun _ _ _ _ _ => (pe_ix (show IxR _ (rIxT K) from ix_tup) (pv 5) pe_int (fun _ _ => rfl)))) (cal c_law_take hr rfl (pa_cons (pv 0) (pa_cons (pe_callB call_len_seq (by rfl) B.len PySem.boot_len (pa_cons (pv 1) pa_nil)) pa_nil))) (fun _ _ => rfl)))
    (pss_cons (ps_if (pt_cmpR op_eq (pv 3) pe_int (nomark _)) (pss_one (ps_ret (pe_op op_catA (pe_tup (pa_cons (pv 4) pa_nil)) (pe_slice sl_tupA (pe_lt (pl_cons (pe_lw (x := [120]) (by decide +kernel)) (pl_cons (pe_lw (x := [120]) (by decide +kernel)) (pl_cons (pe_lw (x := [120]) (by decide +kernel)) pl_nil))) (by show 3 ≤ sizeLine; decide)) po_none (po_some (cal c_law_take hr rfl (pa_cons (pv 0) (pa_cons pe_int pa_nil)))))))) pss_nil)
    (pss_cons (ps_set (i := 6) sc_law_odd.nd rfl (.inl rfl) (pe_ix ix_list (cal0 c_law_special hr) (cal c_law_take hr rfl (pa_cons (pv 0) (pa_cons pe_int pa_nil))) (fun _ _ => rfl)))
    (pss_one (ps_ret (pe_op op_catA (pe_tup (pa_cons (pv 6) pa_nil)) (pe_op op_repA (pe_lt (pl_cons (pe_lt (pl_cons (pe_lw (x := [113, 117, 111, 116, 101]) (by decide +kernel)) (pl_cons (pe_lt pl_nil (by show 0 ≤ sizeLine; decide)) pl_nil)) (by show 2 ≤ sizeLine; decide)) pl_nil) (by show 1 ≤ sizeLine; decide)) (cal c_law_take hr rfl (pa_cons (pv 0) (pa_cons pe_int pa_nil)))))))))))))), ?_⟩
  refine ⟨by show (17 : Nat) ≤ sizeLine; decide, fun W nW => ?_⟩
  have Wa : W ≠ a := (hd.neH nW).symm
  have kW : Keep [] H (upd H W (.lst [.str "x", .str "a", .str "v", .str "f0", .str "f1", .str "f01", .str "f99", .str "main", .str "zz", .str "quote", .str "if", .str "head", .str "join", .str "put", .str "same", .str "word", .str "tail"])) := Keep.new nW
  have eW : (upd H W (.lst [.str "x", .str "a", .str "v", .str "f0", .str "f1", .str "f01", .str "f99", .str "main", .str "zz", .str "quote", .str "if", .str "head", .str "join", .str "put", .str "same", .str "word", .str "tail"])) W = some (.lst [.str "x", .str "a", .str "v", .str "f0", .str "f1", .str "f01", .str "f99", .str "main", .str "zz", .str "quote", .str "if", .str "head", .str "join", .str "put", .str "same", .str "word", .str "tail"]) := upd_same
  generalize upd H W (.lst [.str "x", .str "a", .str "v", .str "f0", .str "f1", .str "f01", .str "f99", .str "main", .str "zz", .str "quote", .str "if", .str "head", .str "join", .str "put", .str "same", .str "word", .str "tail"]) = H1 at kW eW
  refine ⟨_, rfl, a, d, 5, rfl, hd.keep0 kW, by decide, fun kd H2 kd0 kd1 k2 hd2 => ?_⟩
  have eW2 := k2.get eW (by simpa using Wa)
  have k02 : Keep [a] H H2 := (kW.mono (by simp)).trans k2
  refine ⟨_, rfl, _, _, rfl, rfl, _, rfl, ite2 (fun _ => ?_) (fun _ => ?_)⟩
  · refine ⟨_, rfl, _, rfl, _, rfl, W, _, rfl, .inl (SqL.of eW2), a, d, _, rfl, hd2, by decide, fun j H3 j0 j1 k3 hd3 => ?_⟩
    obtain ⟨c, hc, wc, _⟩ := pick (L := oddw) (xs := [.str "x", .str "a", .str "v", .str "f0", .str "f1", .str "f01", .str "f99", .str "main", .str "zz", .str "quote", .str "if", .str "head", .str "join", .str "put", .str "same", .str "word", .str "tail"]) (by decide +kernel) (by decide) j0 j1
    exact ⟨W, _, _, _, rfl, rfl, SqL.of (k3.get eW2 (by simpa using Wa)), hc, q _ _ H3 tr_w (wt_w wc) (by rw [size_w]; decide) (k02.trans k3) hd3⟩
  refine ⟨_, rfl, rfl, _, rfl, ite2 (fun _ => ?_) (fun _ => ?_)⟩
  · refine fun vs H3 tvs k3 => ⟨by rw [tvs.length]; show (6 : Nat) ≤ sizeLine; decide, fun T nT => ?_⟩
    have hd3 := hd2.keep0 k3
    have Ta : T ≠ a := (hd3.neH nT).symm
    refine ⟨_, rfl, a, d, 6, rfl, hd3.new nT, by decide, fun j H4 j0 j1 k4 hd4 => ?_⟩
    have kT : Keep [a] H3 H4 := (Keep.new (S := [a]) nT).trans k4
    obtain ⟨x, t, hx, tx, mt⟩ := pickT (tvs.keep kT) j0 (by show j < 6; omega)
    refine ⟨T, _, _, _, rfl, rfl, SqL.of (k4.get upd_same (by simpa using Ta)), hx, ?_⟩
    exact q _ _ H4 tx (oddl_wt t mt) (oddl_size t mt) ((k02.trans (k3.mono (by simp))).trans kT) hd4
  -- name
  obtain ⟨pa, pvs, rfl, hP, rP⟩ := tv.list
  have lp := rP.length
  refine ⟨_, rfl, pa, rfl, ⟨_, k02.sqT hP⟩, fun L nL => ?_⟩
  have La : L ≠ a := (hd2.neH nL).symm
  refine lc_tup (K := K) (a := pa) (xs := pvs) (fun i H' => Keep [] H2 H' ∧ ∃ os : List (List Nat), Wl H' L os ∧ os.length = i ∧ ∀ x ∈ os, IsWord x) ⟨Keep.new nL, [], upd_same, rfl, fun x m => absurd m (List.not_mem_nil)⟩ (fun i H' _ p => p.1.sqT (k02.sqT hP)) (fun i x H3 hx p => ?_) (fun H3 p => ?_)
  · obtain ⟨k1, os, wo, lo, ow⟩ := p
    have il : i < pvs.length := (List.getElem?_eq_some_iff.mp hx).1
    have hg : fs[i]? = some fs[i] := List.getElem?_eq_getElem (by omega)
    obtain ⟨y, hy, ty⟩ := rP.get hg
    rw [hx] at hy
    cases hy
    obtain ⟨nm, ps, b, et, wt, pw, lps, sz⟩ := fn _ (List.getElem_mem (show i < fs.length by omega))
    rw [et] at ty wt
    obtain ⟨oa, ovs, rfl, hO, rO⟩ := ((ty.keep k02).keep k1).list
    obtain ⟨x0, y0, z0, rfl, r0, r1, r2⟩ := rO.three
    have e0 := r0.word
    subst e0
    refine ⟨rfl, yes ?_⟩
    refine ⟨_, rfl, oa, _, _, _, rfl, rfl, hO, atI_zero _ _, ?_⟩
    have kL : Keep [L] H3 (upd H3 L (.lst ((os.map fun c => V.str (tx c)) ++ [.str (tx nm)]))) := Keep.set wo (List.mem_cons_self ..)
    refine ⟨_, wo, Nat.lt_of_le_of_lt (show _ ≤ 100 by rw [List.length_map]; omega) (by decide), (k1.cons.trans kL).drop nL, os ++ [nm], ?_, by rw [List.length_append, lo]; rfl, fun x m => ?_⟩
    · show upd _ _ _ _ = _
      rw [upd_same, List.map_append]
      rfl
    · rcases List.mem_append.mp m with m | m
      · exact ow x m
      · rw [List.mem_singleton.mp m]; exact wt.list.head.word
  obtain ⟨k1, os, wo, lo, ow⟩ := p
  have hd3 := hd2.keep0 k1
  have k03 : Keep [a] H H3 := k02.trans (k1.mono (by simp))
  refine ⟨_, rfl, _, rfl, pa, pvs, rfl, .inr (k03.sqT hP), a, d, _, rfl, hd3, by omega, fun j H4 j0 j1 k4 hd4 => ?_⟩
  have k04 := k03.trans k4
  obtain ⟨n, rfl⟩ := Int.eq_ofNat_of_zero_le j0
  have hn : os[n]? = some os[n] := List.getElem?_eq_getElem (by omega)
  have hw := ow _ (List.getElem_mem (show n < os.length by omega))
  generalize os[n] = nm at hn hw
  refine ⟨L, _, _, _, rfl, rfl, SqL.of (wo.keep k4 (by simpa using La)), Wl.at hn, ?_⟩
  refine ⟨_, rfl, rfl, _, rfl, ite2 (fun _ => ?_) (fun _ => ?_)⟩
  · refine ⟨_, rfl, by show (1 : Nat) ≤ sizeLine; decide, fun T nT => ?_⟩
    obtain ⟨tm, km⟩ := mk_tr (K := K) (H := H4) (vs := [.str (tx nm)]) (ts := [.w nm]) nT (Trs.one tr_w)
    generalize upd H4 T (.tup [.str (tx nm)]) = H5 at tm km
    refine fun v1 H6 tv1 k6 => ?_
    dsimp only [tNoPart]
    refine ⟨_, rfl, a, d, 4, rfl, (hd4.keep0 km).keep0 k6, by decide, fun j2 H7 j20 j21 k7 hd7 => ?_⟩
    refine ⟨_, rfl, sl_tr (tv1.keep k7) fun v8 H8 tv8 k8 => ?_⟩
    generalize hcs : cutL [Tree.w [120], Tree.w [120], Tree.w [120]] none (some j2) = cs at tv8
    have lcs : cs.length ≤ 3 := by rw [← hcs]; exact cutL_len _ _ _
    have each : ∀ t ∈ cs, t = .w [120] := fun t m => by
      rw [← hcs] at m
      have := cutL_mem m
      simpa using this
    have k48 : Keep [a] H4 H8 := ((km.trans k6).mono (by simp)).trans (k7.trans (k8.mono (by simp)))
    refine cat_tr (((tm.keep k6).keep k7).keep k8) tv8 (Nat.le_trans (show _ ≤ 10 by rw [List.length_singleton]; omega) (by decide)) fun v9 H9 tv9 k9 => ?_
    refine q v9 _ H9 tv9 (wt_l (wts_cons (wt_w hw) (WTs.of fun t m => by rw [each t m]; exact wt_w (isWord_of (by decide))))) ?_ (k04.trans (k48.trans (k9.mono (by simp)))) ((hd7.keep0 k8).keep0 k9)
    rw [size_l, List.singleton_append, sizes_cons, size_w]
    have := sizes_le (ts := cs) (b := 1) fun t m => by rw [each t m, size_w]; exact Nat.le_refl _
    omega
  refine ⟨rfl, fun S nS => ?_⟩
  have Sa : S ≠ a := (hd4.neH nS).symm
  refine ⟨_, rfl, a, d, 7, rfl, hd4.new nS, by decide, fun j2 H5 j20 j21 k5 hd5 => ?_⟩
  obtain ⟨c, hc, wc, _⟩ := pick (L := specials.map (·.1)) (xs := spw) (by decide +kernel) (by decide) j20 j21
  refine ⟨S, _, _, _, rfl, rfl, SqL.of (k5.get upd_same (by simpa using Sa)), hc, ?_⟩
  have k05 := (k04.newT nS).trans k5
  refine ⟨_, rfl, by show (1 : Nat) ≤ sizeLine; decide, fun T nT => ?_⟩
  obtain ⟨tm, km⟩ := mk_tr (K := K) (H := H5) (vs := [.str (tx c)]) (ts := [.w c]) nT (Trs.one tr_w)
  generalize upd H5 T (.tup [.str (tx c)]) = H6 at tm km
  refine fun v1 H7 tv1 k7 => ?_
  refine ⟨_, rfl, a, d, 5, rfl, (hd5.keep0 km).keep0 k7, by decide, fun j3 H8 j30 j31 k8 hd8 => ?_⟩
  obtain ⟨n3, rfl⟩ := Int.eq_ofNat_of_zero_le j30
  obtain ⟨l, vs, rfl, hS, r⟩ := (tv1.keep k8).list
  have lr := r.length
  have k58 : Keep [a] H5 H8 := ((km.trans k7).mono (by simp)).trans k8
  have fin : ∀ v9 H9, Tr K H9 v9 (.l (List.replicate n3 (.l [.w qw, .l []]))) → Keep [] H8 H9 → rCatA K (.ref T) v9 H9 Q := fun v9 H9 tv9 k9 => by
    refine cat_tr (((tm.keep k7).keep k8).keep k9) tv9 (Nat.le_trans (show _ ≤ 10 by rw [List.length_singleton, List.length_replicate]; omega) (by decide)) fun v10 H10 tv10 k10 => ?_
    refine q v10 _ H10 tv10 (wt_l (wts_cons (wt_w wc) (WTs.of fun t m => by rw [List.eq_of_mem_replicate m]; exact wt_of (by decide)))) ?_ (k05.trans (k58.trans ((k9.trans k10).mono (by simp)))) ((hd8.keep0 k9).keep0 k10)
    rw [size_l, List.singleton_append, sizes_cons, size_w]
    have := sizes_le (ts := List.replicate n3 (Tree.l [.w qw, .l []])) (b := 3) fun t m => by rw [List.eq_of_mem_replicate m]; decide +kernel
    rw [List.length_replicate] at this
    omega
  refine ⟨l, n3, vs, rfl, rfl, hS, (fun e => by rw [e] at lr; cases lr), by omega, by rw [lr]; decide, fun e1 => ?_, fun e1 p np => ?_⟩
  · subst e1
    exact fin _ _ (tv1.keep k8) Keep.refl
  · have rr := r.rep n3
    rw [List.flatten_replicate_singleton] at rr
    obtain ⟨tm2, km2⟩ := mk_tr np rr
    exact fin _ _ tm2 km2
end
end Og

namespace Og
open PySem PySem.Spec PyProof.Rows L2
section
variable {P : Program} {w : World} {K : PySem.W.Frag} {mg : Str → Option Value} {base : Heap}
def spBent (K : PySem.W.Frag) (n : Nat) : Sp := fun vs H Q _ => ∃ (h d : Addr) (v x : V) (fs : List Tree) (t : Tree), vs = [.ref h, v, x, .int n] ∧ Hd H h d ∧ Tr K H v (.l fs) ∧ (∀ t ∈ fs, FnU t) ∧ 1 ≤ fs.length ∧ fs.length ≤ 5 ∧ Tr K H x t ∧ WT t ∧ t.size ≤ 10000 ∧
  ∀ (v' : V) (t' : Tree) (H' : Hp), Tr K H' v' t' → WT t' → t'.size ≤ 2 * t.size + 20 → (∀ ts', t' = .l ts' → ts'.length ≤ 20 ∨ ∃ ts, t = .l ts ∧ ts'.length ≤ ts.length + 1) → Keep [h] H H' → Hd H' h d → Q v' H'
theorem has_bent {k : Nat} (D : DefAt K mg "_law_bent" s_law_bent p_law_bent) (B : Bn mg) (c1 : Has P w K mg base k "_law_take" p_law_take spTake) (c2 : Has P w K mg base k "_law_odd" p_law_odd (spOdd K)) : ∀ n, Has P w K mg base (k + n + 1) "_law_bent" p_law_bent (spBent K n) := by
  obtain ⟨f, fd, F, hm, hb⟩ := D.ex
  have step : ∀ n sp, Callee P w K mg base CX0 (k + n) "_law_bent" f fd p_law_bent sp → (∀ m, n = m + 1 → ∀ vs H Q E, spBent K m vs H Q E → sp vs H Q E) → FnOk P w K mg base CX0 (k + n + 1) f fd p_law_bent (spBent K n) := fun n sp c_law_bent hsp => by
    obtain ⟨_, _, c_law_take⟩ := c1.mono (show k ≤ k + n by omega)
    obtain ⟨_, _, c_law_odd⟩ := c2.mono (show k ≤ k + n by omega)
    refine F.ok sc_law_bent (fun vs H Q E h => ?_) (fun cdv A outer s H vs Q E hr h => ?_)
    · obtain ⟨_, _, _, _, _, _, rfl, _⟩ := h
      rfl
    obtain ⟨a, d, v, x, fs, t, rfl, hd, tv, fn, l1, l5, tx0, wt, sz, q⟩ := h
    refine ⟨_, (pss_cons (ps_set (i := 4) sc_law_bent.nd rfl (.inl rfl) (cal c_law_take hr rfl (pa_cons (pv 0) (pa_cons pe_int pa_nil))))
    (pss_cons (ps_if (PW.pt (pw_or (pt_val (pe_callB call_isi (by rfl) B.isinstance (by decide +kernel) (pa_cons (pv 2) (pa_cons (pe_bltn (v := .ty "str") rfl B.str (by decide +kernel) rfl) pa_nil)))) (pw_or (pt_cmpR op_eq (pv 4) pe_int (nomark _)) (pw_or (pt_cmpR op_eq (pe_callB call_len_seq (by rfl) B.len PySem.boot_len (pa_cons (pv 2) pa_nil)) pe_int (nomark _)) (pw_or1 (pt_cmpR op_eq (pv 3) pe_int (nomark _))))))) (pss_one (ps_ret (cal c_law_odd hr rfl (pa_cons (pv 0) (pa_cons (pv 1) pa_nil))))) pss_nil)
    (pss_cons (ps_set (i := 5) sc_law_bent.nd rfl (.inl rfl) (cal c_law_take hr rfl (pa_cons (pv 0) (pa_cons (pe_callB call_len_seq (by rfl) B.len PySem.boot_len (pa_cons (pv 2) pa_nil)) pa_nil))))
    (pss_cons (ps_if (pt_cmpR op_eq (pv 4) pe_int (nomark _)) (pss_one (ps_ret (pe_op op_catA (pe_slice sl_tupA (pv 2) po_none (po_some (pv 5))) (pe_slice sl_tupA (pv 2) (po_some (pe_op op_add (pv 5) pe_int)) po_none)))) pss_nil)
    (pss_cons (ps_if (pt_cmpR op_eq (pv 4) pe_int (nomark _)) (pss_one (ps_ret (pe_op op_catA (pe_op op_catA (pe_slice sl_tupA (pv 2) po_none (po_some (pv 5))) (pe_tup (pa_cons (cal c_law_odd hr rfl (pa_cons (pv 0) (pa_cons (pv 1) pa_nil))) pa_nil))) (pe_slice sl_tupA (pv 2) (po_some (pv 5)) po_none)))) pss_nil)
    (pss_cons (ps_if (pt_cmpR op_eq (pv 4) pe_int (nomark _)) (pss_one (ps_ret (pe_op op_catA (pe_op op_catA (pe_slice sl_tupA (pv 2) po_none (po_some (pv 5))) (pe_slice sl_tupA (pv 2) (po_some (pv 5)) (po_some (pe_op op_add (pv 5) pe_int)))) (pe_slice sl_tupA (pv 2) (po_some (pv 5)) po_none)))) pss_nil)
    (pss_one (ps_ret (pe_op op_catA (pe_op op_catA (pe_slice sl_tupA (pv 2) po_none (po_some (pv 5))) (pe_tup (pa_cons (cal c_law_bent hr rfl (pa_cons (pv 0) (pa_cons (pv 1) (pa_cons (pe_ix ix_tup (pv 2) (pv 5) (fun _ _ => rfl)) (pa_cons (pe_op op_sub (pv 3) pe_int) pa_nil))))) pa_nil))) (pe_slice sl_tupA (pv 2) (po_some (pe_op op_add (pv 5) pe_int)) po_none)))))))))), ?_⟩
    refine ⟨_, rfl, a, d, 8, rfl, hd, by decide, fun kd H1 kd0 kd1 k1 hd1 => ?_⟩
    have odd : ∀ H1, Keep [a] H H1 → Hd H1 a d → tRet (tCall (spOdd K) [] E0 (tCons (tVar 0) (tCons (tVar 1) tNil))) { nx := fun _ _ => True, rt := Q } [some (.ref a), some v, some x, some (.int n), some (.int kd), none] H1 := fun H1 k1 hd1 => by
      refine ⟨_, rfl, _, rfl, a, d, v, fs, rfl, hd1, tv.keep k1, fn, l1, l5, fun v2 t2 H2 tv2 wt2 sz2 k2 hd2 => ?_⟩
      refine q v2 t2 H2 tv2 wt2 (by omega) (fun ts e => .inl ?_) (k1.trans k2) hd2
      subst e
      rw [size_l] at sz2
      have := len_sizes ts
      omega
    obtain ⟨ty, u, q1, q2, q3⟩ := isi_str (tx0.keep k1)
    refine ⟨_, rfl, _, _, ty, u, _, rfl, q1, q2, q3, _, rfl, ?_⟩
    cases t with
    | w y => exact iteT (iteT (odd H1 k1 hd1))
    | l ts =>
    refine iteF ?_
    refine ⟨_, rfl, rfl, _, rfl, ite2 (fun _ => iteT (odd H1 k1 hd1)) (fun _ => ?_)⟩
    have lsz := len_sizes ts
    have sz2 := sz
    rw [size_l] at sz2
    have tv1 := tx0.keep k1
    obtain ⟨av, vs, rfl, hS, lv⟩ := tv1.tup
    refine ⟨_, rfl, av, vs, rfl, .inr hS, rfl, _, rfl, ite2 (fun _ => iteT (odd H1 k1 hd1)) (fun c => ?_)⟩
    have ne : 0 < ts.length := by
      have : ¬ V.int ((vs.length : Nat) : Int) = V.int 0 := of_decide_eq_false (Bool.eq_false_iff.mpr c)
      rw [lv] at this
      have : ts.length ≠ 0 := fun z => this (by rw [z]; rfl)
      omega
    refine ⟨_, rfl, rfl, _, rfl, ?_⟩
    cases n with
    | zero => exact iteT (odd H1 k1 hd1)
    | succ m =>
    rw [dF (by omega)]
    refine iteF ?_
    refine ⟨_, rfl, _, rfl, av, vs, rfl, .inr hS, a, d, _, rfl, hd1, by omega, fun at' H2 at0 at1 k2 hd2 => ?_⟩
    rw [lv] at at1
    obtain ⟨n', rfl⟩ := Int.eq_ofNat_of_zero_le at0
    have nl : n' < ts.length := by omega
    have hg : ts[n']? = some ts[n'] := List.getElem?_eq_getElem nl
    have sp1 := sizes_split hg
    have sp2 := sizes_two ts n'
    have tv2 := tv1.keep k2
    have en : (some ((n' : Int) + 1)) = some ((n' + 1 : Nat) : Int) := by rw [show ((n' + 1 : Nat) : Int) = (n' : Int) + 1 by omega]
    have c1 := cutL_to ts (j := n') (by omega)
    have c2 := cutL_from ts (i := n' + 1) (by omega)
    have c3 := cutL_from ts (i := n') (by omega)
    have c4 := cutL_mid ts (i := n') (j := n' + 1) (by omega) (by omega)
    rw [← en] at c2 c4
    have k12 : Keep [a] H H2 := k1.trans k2
    have lt1 : (ts.take n').length = n' := by rw [List.length_take]; omega
    have ld1 : (ts.drop n').length = ts.length - n' := List.length_drop ..
    have ld2 : (ts.drop (n' + 1)).length = ts.length - (n' + 1) := List.length_drop ..
    have wtk : ∀ t ∈ ts.take n', WT t := fun t m => wt.list.all t (List.mem_of_mem_take m)
    have wdk : ∀ j, ∀ t ∈ ts.drop j, WT t := fun j t m => wt.list.all t (List.mem_of_mem_drop m)
    have small : ∀ {z : Nat}, z ≤ 100000 → z ≤ sizeLine := fun h => Nat.le_trans h (by decide)
    have fin : ∀ (us : List Tree) (v5 : V) (H5 : Hp), Tr K H5 v5 (.l us) → Keep [a] H2 H5 → Hd H5 a d → (∀ u ∈ us, WT u) → sizes us ≤ 2 * sizes ts + 20 → us.length ≤ ts.length + 1 → Q v5 H5 := fun us v5 H5 t5 k5 hd5 w5 s5 l5 => by
      refine q v5 _ H5 t5 (wt_l (WTs.of w5)) (by rw [size_l, size_l]; omega) (fun ts' e => .inr ⟨ts, rfl, ?_⟩) (k12.trans k5) hd5
      cases e
      exact l5
    refine ⟨_, rfl, rfl, _, rfl, ite2 (fun _ => ?_) (fun _ => ?_)⟩
    · refine ⟨_, rfl, _, rfl, _, rfl, sl_tr tv2 fun v3 H3 tv3 k3 => ⟨_, rfl, _, rfl, _, _, rfl, rfl, _, rfl, ?_⟩⟩
      dsimp only [tNoPart]
      refine sl_tr (tv2.keep k3) fun v4 H4 tv4 k4 => ?_
      rw [c1] at tv3
      rw [c2] at tv4
      refine cat_tr (tv3.keep k4) tv4 (small (by omega)) fun v5 H5 tv5 k5 => ?_
      refine fin _ v5 H5 tv5 (((k3.trans k4).trans k5).mono (by simp)) (((hd2.keep0 k3).keep0 k4).keep0 k5) (fun t m => ?_) (by rw [sizes_app]; omega) (by rw [List.length_append]; omega)
      rcases List.mem_append.mp m with m | m
      · exact wtk t m
      · exact wdk _ t m
    refine ⟨_, rfl, rfl, _, rfl, ite2 (fun _ => ?_) (fun _ => ?_)⟩
    · refine ⟨_, rfl, _, rfl, _, rfl, sl_tr tv2 fun v3 H3 tv3 k3 => ?_⟩
      rw [c1] at tv3
      have hd3 := hd2.keep0 k3
      refine ⟨_, rfl, _, rfl, a, d, v, fs, rfl, hd3, (tv.keep k12).keep k3, fn, l1, l5, fun v6 t6 H6 tv6 wt6 sz6 k6 hd6 => ?_⟩
      refine ⟨by show (1 : Nat) ≤ sizeLine; decide, fun t1 nt1 => ?_⟩
      obtain ⟨tm, km⟩ := mk_tr (K := K) (H := H6) nt1 (Trs.one tv6)
      refine cat_tr ((tv3.keep k6).keep km) tm (small (by rw [List.length_singleton]; omega)) fun v7 H7 tv7 k7 => ?_
      have kk : Keep [a] H2 H7 := (((k3.mono (by simp)).trans k6).trans (km.mono (by simp))).trans (k7.mono (by simp))
      refine ⟨_, rfl, _, rfl, _, rfl, ?_⟩
      dsimp only [tNoPart]
      refine sl_tr (tv2.keep kk) fun v8 H8 tv8 k8 => ?_
      rw [c3] at tv8
      refine cat_tr (tv7.keep k8) tv8 (small (by rw [List.length_append, List.length_singleton]; omega)) fun v9 H9 tv9 k9 => ?_
      refine fin _ v9 H9 tv9 (kk.trans ((k8.trans k9).mono (by simp))) (((hd6.keep0 km).keep0 k7).keep0 (k8.trans k9)) (fun t m => ?_) (by rw [sizes_app, sizes_app, sizes_cons, sizes_nil]; omega) (by rw [List.length_append, List.length_append, List.length_singleton]; omega)
      rcases List.mem_append.mp m with m | m
      · rcases List.mem_append.mp m with m | m
        · exact wtk t m
        · rw [List.mem_singleton.mp m]; exact wt6
      · exact wdk _ t m
    refine ⟨_, rfl, rfl, _, rfl, ite2 (fun _ => ?_) (fun _ => ?_)⟩
    · refine ⟨_, rfl, _, rfl, _, rfl, sl_tr tv2 fun v3 H3 tv3 k3 => ?_⟩
      rw [c1] at tv3
      refine ⟨_, rfl, _, rfl, _, rfl, _, rfl, _, _, rfl, rfl, _, rfl, ?_⟩
      refine sl_tr (tv2.keep k3) fun v4 H4 tv4 k4 => ?_
      rw [c4] at tv4
      have l4 : ((ts.drop n').take (n' + 1 - n')).length ≤ 1 := by rw [List.length_take]; omega
      have s4 := sizes_take (ts.drop n') (n' + 1 - n')
      refine cat_tr (tv3.keep k4) tv4 (small (by omega)) fun v7 H7 tv7 k7 => ?_
      have kk : Keep [a] H2 H7 := ((k3.trans k4).trans k7).mono (by simp)
      refine ⟨_, rfl, _, rfl, _, rfl, ?_⟩
      dsimp only [tNoPart]
      refine sl_tr (tv2.keep kk) fun v8 H8 tv8 k8 => ?_
      rw [c3] at tv8
      refine cat_tr (tv7.keep k8) tv8 (small (by rw [List.length_append]; omega)) fun v9 H9 tv9 k9 => ?_
      refine fin _ v9 H9 tv9 (kk.trans ((k8.trans k9).mono (by simp))) ((hd2.keep0 ((k3.trans k4).trans k7)).keep0 (k8.trans k9)) (fun t m => ?_) (by rw [sizes_app, sizes_app]; omega) (by rw [List.length_append, List.length_append]; omega)
      rcases List.mem_append.mp m with m | m
      · rcases List.mem_append.mp m with m | m
        · exact wtk t m
        · exact wdk _ t (List.mem_of_mem_take m)
      · exact wdk _ t m
    have mem := List.getElem_mem nl
    refine ⟨_, rfl, _, rfl, _, rfl, sl_tr tv2 fun v3 H3 tv3 k3 => ?_⟩
    rw [c1] at tv3
    have hd3 := hd2.keep0 k3
    refine ⟨_, rfl, _, rfl, _, rfl, _, rfl, ix_tr (t := ts[n']) (tv2.keep k3) (atI_nat hg) fun vb tvb => ?_⟩
    refine ⟨_, rfl, _, _, rfl, rfl, hsp m rfl _ _ _ _ ⟨a, d, v, vb, fs, ts[n'], ?_, hd3, (tv.keep k12).keep k3, fn, l1, l5, tvb, wt.list.all _ mem, by omega, fun v6 t6 H6 tv6 wt6 sz6 _ k6 hd6 => ?_⟩⟩
    · show [V.ref a, v, vb, V.int (((m + 1 : Nat) : Int) - 1)] = _
      rw [show ((m + 1 : Nat) : Int) - 1 = (m : Int) by omega]
    refine ⟨by show (1 : Nat) ≤ sizeLine; decide, fun t1 nt1 => ?_⟩
    obtain ⟨tm, km⟩ := mk_tr (K := K) (H := H6) nt1 (Trs.one tv6)
    refine cat_tr ((tv3.keep k6).keep km) tm (small (by rw [List.length_singleton]; omega)) fun v7 H7 tv7 k7 => ?_
    have kk : Keep [a] H2 H7 := (((k3.mono (by simp)).trans k6).trans (km.mono (by simp))).trans (k7.mono (by simp))
    refine ⟨_, rfl, _, rfl, _, _, rfl, rfl, _, rfl, ?_⟩
    dsimp only [tNoPart]
    refine sl_tr (tv2.keep kk) fun v8 H8 tv8 k8 => ?_
    rw [c2] at tv8
    refine cat_tr (tv7.keep k8) tv8 (small (by rw [List.length_append, List.length_singleton]; omega)) fun v9 H9 tv9 k9 => ?_
    refine fin _ v9 H9 tv9 (kk.trans ((k8.trans k9).mono (by simp))) (((hd6.keep0 km).keep0 k7).keep0 (k8.trans k9)) (fun t m => ?_) (by rw [sizes_app, sizes_app, sizes_cons, sizes_nil]; omega) (by rw [List.length_append, List.length_append, List.length_singleton]; omega)
    rcases List.mem_append.mp m with m | m
    · rcases List.mem_append.mp m with m | m
      · exact wtk t m
      · rw [List.mem_singleton.mp m]; exact wt6
    · exact wdk _ t m
  have all : ∀ n, FnOk P w K mg base CX0 (k + n + 1) f fd p_law_bent (spBent K n) := fun n => by
    induction n with
    | zero => exact step 0 (fun _ _ _ _ => False) ⟨⟨fun _ _ _ _ h => h.elim, fun _ _ _ _ _ _ _ _ _ _ _ _ _ h => h.elim⟩, hm, F.kp, hb⟩ fun m e => by cases e
    | succ m ih => exact step (m + 1) (spBent K m) ⟨ih, hm, F.kp, hb⟩ fun m' e vs H Q E q => by cases e; exact q
  exact fun n => ⟨f, fd, all n, hm, F.kp, hb⟩
end
end Og

namespace Og
open PySem PySem.Spec PyProof.Rows L2
theorem lets_at {i : Nat} (h : i < 15) : ∃ c, atI ("abcdeghijklmnop" : Str).cps.toList (i : Int) = some c ∧ Letter c := by
  have e : ("abcdeghijklmnop" : Str).cps.toList = [97, 98, 99, 100, 101, 103, 104, 105, 106, 107, 108, 109, 110, 111, 112] := by decide +kernel
  rw [e]
  have l : i < [97, 98, 99, 100, 101, 103, 104, 105, 106, 107, 108, 109, 110, 111, 112].length := h
  refine ⟨_, atI_nat (List.getElem?_eq_getElem l), ?_⟩
  have a : [97, 98, 99, 100, 101, 103, 104, 105, 106, 107, 108, 109, 110, 111, 112].all (fun c => decide (97 ≤ c) && decide (c ≤ 122)) = true := by decide
  have := List.all_eq_true.mp a _ (List.getElem_mem l)
  simp only [Bool.and_eq_true, decide_eq_true_eq] at this
  exact this
theorem ws_get {L : List (List Nat)} (h : ∀ x ∈ L, IsWord x) : ∀ t ∈ ws L, WT t ∧ t.size ≤ 1 := fun t m => by
  obtain ⟨x, hx, rfl⟩ := List.mem_map.mp m
  exact ⟨wt_w (h x hx), by rw [size_w]; exact Nat.le_refl _⟩
section
variable {P : Program} {w : World} {K : PySem.W.Frag} {mg : Str → Option Value} {base : Heap}
def spOne (K : PySem.W.Frag) : Sp := fun vs H Q _ => ∃ (h d : Addr), vs = [.ref h] ∧ Hd H h d ∧
  ∀ (v' : V) (ts : List Tree) (H' : Hp), Tr K H' v' (.l ts) → WTs ts → sizes ts ≤ 10000 → ts.length ≤ 200 → Keep [h] H H' → Hd H' h d → Q v' H'
theorem has_wide {k : Nat} (D : DefAt K mg "_law_wide" s_law_wide p_law_wide) (B : Bn mg) (c1 : Has P w K mg base k "_law_take" p_law_take spTake) :
    Has P w K mg base (k + 1) "_law_wide" p_law_wide (spOne K) := by
  obtain ⟨f, fd, F, hm, hb⟩ := D.ex
  obtain ⟨_, _, c_law_take⟩ := c1
  refine ⟨f, fd, F.ok sc_law_wide (fun vs H Q E h => ?_) (fun cdv A outer s H vs Q E hr h => ?_), hm, F.kp, hb⟩
  · obtain ⟨_, _, rfl, _⟩ := h
    rfl
  obtain ⟨a, d, rfl, hd, q⟩ := h
  refine ⟨_, (pss_cons (ps_set (i := 1) sc_law_wide.nd rfl (.inr rfl) pe_str)
    (pss_cons (ps_set (i := 2) sc_law_wide.nd rfl (.inl rfl) (pe_op op_add pe_int (cal c_law_take hr rfl (pa_cons (pv 0) (pa_cons pe_int pa_nil)))))
    (pss_cons (ps_set (i := 3) sc_law_wide.nd rfl (.inl rfl) (pe_callTy call_tuple_of (by rfl) B.tuple (by decide +kernel) (pa_cons (pe_lc (own := [("k", 4)]) (g := gName 4) (tt := tYes) rfl sc_law_wide.nd (pi_range1 (by rfl) B.range (pa_cons (pv 2) pa_nil)) (blkOk_by (N := n_law_wide) (sc := defScope s_law_wide) (by decide +kernel)) (fun _ _ _ _ _ => pg_name (i := 4) sc_law_wide.nd rfl (Or.inl rfl)) (fun _ _ _ _ _ => pts_nil) (fun _ _ _ _ _ => (pe_ix (show IxR _ (rIxS) from ix_str) (pv 1) (pv 4) (fun _ _ => rfl)))) pa_nil)))
    (pss_cons (ps_set (i := 5) sc_law_wide.nd rfl (.inl rfl) (pe_op op_catA (pe_lt (pl_cons (pe_lw (x := [102, 49]) (by decide +kernel)) pl_nil) (by show 1 ≤ sizeLine; decide)) (pe_slice sl_tupA (pv 3) po_none (po_some (pe_op op_sub (pv 2) (cal c_law_take hr rfl (pa_cons (pv 0) (pa_cons pe_int pa_nil))))))))
    (C8.pss_cut (ps_if (pt_cmpR op_eq (cal c_law_take hr rfl (pa_cons (pv 0) (pa_cons pe_int pa_nil))) pe_int (nomark _)) (pss_one (ps_set (i := 3) sc_law_wide.nd rfl (.inl rfl) (pe_op op_catA (pe_slice sl_tupA (pv 3) po_none (po_some (pe_un un_neg pe_int))) (pe_tup (pa_cons (pe_ix ix_list (pe_lst (pa_cons pe_str (pa_cons pe_str (pa_cons pe_str pa_nil)))) (cal c_law_take hr rfl (pa_cons (pv 0) (pa_cons pe_int pa_nil))) (fun _ _ => rfl)) pa_nil))))) pss_nil)
    (pss_cons (ps_set (i := 6) sc_law_wide.nd rfl (.inl rfl) (pe_tup (pa_cons (pe_lt (pl_cons (pe_lw (x := [109, 97, 105, 110]) (by decide +kernel)) (pl_cons (pe_lt (pl_cons (pe_lw (x := [97]) (by decide +kernel)) pl_nil) (by show 1 ≤ sizeLine; decide)) (pl_cons (pe_lw (x := [97]) (by decide +kernel)) pl_nil))) (by show 3 ≤ sizeLine; decide)) (pa_cons (pe_tup (pa_cons pe_str (pa_cons (pv 3) (pa_cons (pe_ix ix_list (pe_lst (pa_cons pe_str (pa_cons (pv 5) pa_nil))) (cal c_law_take hr rfl (pa_cons (pv 0) (pa_cons pe_int pa_nil))) (fun _ _ => rfl)) pa_nil)))) pa_nil))))
    (pss_one (ps_ret (pe_ix ix_list (pe_lst (pa_cons (pv 6) (pa_cons (pe_revT2 (pv 6)) pa_nil))) (cal c_law_take hr rfl (pa_cons (pv 0) (pa_cons pe_int pa_nil))) (fun _ _ => rfl)))))))))), ?_⟩
  refine ⟨_, rfl, a, d, 3, rfl, hd, by decide, fun j H1 j0 j1 k1 hd1 => ?_⟩
  refine ⟨_, _, rfl, rfl, ?_⟩
  obtain ⟨n, rfl⟩ := Int.eq_ofNat_of_zero_le j0
  refine ⟨_, rfl, _, rfl, by omega, by omega, fun L nL => ?_⟩
  have La : L ≠ a := (hd1.neH nL).symm
  refine lc_range (lo := 0) (n := (11 + (n : Int)).toNat) (fun i H' => Keep [] H1 H' ∧ ∃ os : List (List Nat), Wl H' L os ∧ os.length = i ∧ ∀ x ∈ os, IsWord x) ⟨Keep.new nL, [], upd_same, rfl, fun x m => absurd m (List.not_mem_nil)⟩ (fun i H3 hi p => ?_) (fun H3 p => ?_)
  · obtain ⟨k3, os, wo, lo, ow⟩ := p
    obtain ⟨c, hc, lc⟩ := lets_at (i := i) (by omega)
    have ei : (0 : Int) + (i : Int) = (i : Int) := by omega
    rw [ei]
    refine ⟨rfl, yes ?_⟩
    refine ⟨_, rfl, _, rfl, _, _, _, rfl, rfl, by show (15 : Nat) ≤ sizeLine; decide, hc, ?_⟩
    have kL : Keep [L] H3 (upd H3 L (.lst ((os.map fun c => V.str (tx c)) ++ [.str (tx [c])]))) := Keep.set wo (List.mem_cons_self ..)
    refine ⟨_, wo, Nat.lt_of_le_of_lt (show _ ≤ 100 by rw [List.length_map]; omega) (by decide), (k3.cons.trans kL).drop nL, os ++ [[c]], ?_, by rw [List.length_append, lo]; rfl, fun x m => ?_⟩
    · show upd _ _ _ _ = _
      rw [upd_same, List.map_append]
      rfl
    · rcases List.mem_append.mp m with m | m
      · exact ow x m
      · rw [List.mem_singleton.mp m]; exact ⟨c, [], rfl, lc, fun y m => absurd m (List.not_mem_nil), by decide⟩
  obtain ⟨k3, os, wo, lo, ow⟩ := p
  have hd3 := hd1.keep0 k3
  have k03 : Keep [a] H H3 := k1.trans (k3.mono (by simp))
  refine ⟨L, _, rfl, .inl ⟨SqL.of wo, fun T nT => ?_⟩⟩
  obtain ⟨tp, kp⟩ := mk_tr (K := K) (H := H3) nT (trs_ws (L := os))
  generalize upd H3 T (.tup (os.map fun c => V.str (tx c))) = H4 at tp kp
  have oall := ws_get ow
  have lws : (ws os).length = os.length := List.length_map ..
  -- call
  refine fun v1 H5 tv1 k5 => ?_
  refine ⟨_, rfl, ?_⟩
  dsimp only [tNoPart]
  have k35 := kp.trans k5
  refine ⟨_, rfl, _, rfl, a, d, 2, rfl, hd3.keep0 k35, by decide, fun j2 H6 j20 j21 k6 hd6 => ?_⟩
  refine ⟨_, _, rfl, rfl, _, rfl, sl_tr ((tp.keep k5).keep k6) fun v2 H7 tv2 k7 => ?_⟩
  generalize hcs : cutL (ws os) none (some (11 + (n : Int) - j2)) = cs at tv2
  have lcs : cs.length ≤ 13 := by rw [← hcs]; exact Nat.le_trans (cutL_len _ _ _) (by omega)
  have call : ∀ t ∈ cs, WT t ∧ t.size ≤ 1 := fun t m => oall t (cutL_mem (by rw [hcs]; exact m))
  refine cat_tr ((tv1.keep k6).keep k7) tv2 (Nat.le_trans (show _ ≤ 100 by rw [List.length_singleton]; omega) (by decide)) fun vc H8 tvc k8 => ?_
  have wtc : WT (.l ([.w [102, 49]] ++ cs)) := wt_l (wts_cons (wt_w (isWord_of (by decide))) (WTs.of fun t m => (call t m).1))
  have szc : (Tree.l ([.w [102, 49]] ++ cs)).size ≤ 20 := by
    rw [size_l, List.singleton_append, sizes_cons, size_w]
    have := sizes_le (ts := cs) (b := 1) fun t m => (call t m).2
    omega
  generalize Tree.l ([.w [102, 49]] ++ cs) = C at tvc wtc szc
  have k38 : Keep [a] H3 H8 := ((kp.trans k5).mono (by simp)).trans (k6.trans ((k7.trans k8).mono (by simp)))
  have k48 : Keep [a] H4 H8 := (k5.mono (by simp)).trans (k6.trans ((k7.trans k8).mono (by simp)))
  have hd8 := (hd6.keep0 k7).keep0 k8
  have k08 := k03.trans k38
  have tp8 := tp.keep k48
  refine ⟨fun σ' H' => ∃ (v3 : V) (qs : List Tree), σ' = [some (.ref a), some (.str "abcdeghijklmnop"), some (.int (11 + (n : Int))), some v3, none, some vc, none] ∧ Keep [a] H H' ∧ Hd H' a d ∧ Tr K H' v3 (.l qs) ∧ (∀ t ∈ qs, WT t ∧ t.size ≤ 1) ∧ qs.length ≤ 20 ∧ Tr K H' vc C, ?_, ?_⟩
  · refine ⟨_, rfl, a, d, 3, rfl, hd8, by decide, fun j3 H9 j30 j31 k9 hd9 => ?_⟩
    refine ⟨rfl, _, rfl, ite2 (fun _ => ?_) (fun _ => ?_)⟩
    · refine ⟨_, rfl, ?_⟩
      dsimp only [tNoPart]
      refine ⟨_, rfl, _, rfl, sl_tr (tp8.keep k9) fun v4 H10 tv4 k10 => ?_⟩
      generalize hcs2 : cutL (ws os) none (some (-1)) = cs2 at tv4
      have lcs2 : cs2.length ≤ 13 := by rw [← hcs2]; exact Nat.le_trans (cutL_len _ _ _) (by omega)
      have c2all : ∀ t ∈ cs2, WT t ∧ t.size ≤ 1 := fun t m => oall t (cutL_mem (by rw [hcs2]; exact m))
      have hd10 := hd9.keep0 k10
      refine ⟨by show (3 : Nat) ≤ sizeLine; decide, fun p np => ?_⟩
      have pa : p ≠ a := (hd10.neH np).symm
      refine ⟨_, rfl, a, d, 3, rfl, hd10.new np, by decide, fun j4 H11 j40 j41 k11 hd11 => ?_⟩
      obtain ⟨c, hc, wc, _⟩ := pick (L := [[97], [104, 101, 97, 100], [102, 49]]) (xs := [.str "a", .str "head", .str "f1"]) (by decide +kernel) (by decide) j40 j41
      refine ⟨p, _, _, _, rfl, rfl, SqL.of (k11.get upd_same (by simpa using pa)), hc, ?_⟩
      have k911 : Keep [a] H9 H11 := ((k10.mono (by simp)).newT np).trans k11
      have k1011 : Keep [a] H10 H11 := (Keep.new np).trans k11
      refine ⟨by show (1 : Nat) ≤ sizeLine; decide, fun T2 nT2 => ?_⟩
      obtain ⟨tm2, km2⟩ := mk_tr (K := K) (H := H11) nT2 (Trs.one (tr_w (x := c)))
      refine cat_tr ((tv4.keep k1011).keep km2) tm2 (Nat.le_trans (show _ ≤ 100 by rw [List.length_singleton]; omega) (by decide)) fun v5 H12 tv5 k12 => ?_
      refine ⟨v5, _, rfl, (k08.trans k9).trans (k911.trans ((km2.trans k12).mono (by simp))), (hd11.keep0 km2).keep0 k12, tv5, fun t m => ?_, by rw [List.length_append, List.length_singleton]; omega, (((tvc.keep k9).keep k911).keep km2).keep k12⟩
      rcases List.mem_append.mp m with m | m
      · exact c2all t m
      · rw [List.mem_singleton.mp m]; exact ⟨wt_w wc, by rw [size_w]; exact Nat.le_refl _⟩
    · exact ⟨_, ws os, rfl, k08.trans k9, hd9, tp8.keep k9, oall, by omega, tvc.keep k9⟩
  rintro σ' H9 ⟨v3, qs, rfl, k9, hd9, tq, qall, lq, tc9⟩
  refine fun v1 H10 tv1 k10 => ?_
  have hd10 := hd9.keep0 k10
  refine ⟨_, rfl, _, rfl, by show (2 : Nat) ≤ sizeLine; decide, fun p np => ?_⟩
  have pa : p ≠ a := (hd10.neH np).symm
  refine ⟨_, rfl, a, d, 2, rfl, hd10.new np, by decide, fun j4 H11 j40 j41 k11 hd11 => ?_⟩
  have k1011 : Keep [a] H10 H11 := (Keep.new np).trans k11
  have k911 : Keep [a] H9 H11 := (k10.mono (by simp)).trans k1011
  obtain ⟨z, t, hz, tz, wz, sz⟩ : ∃ z t, atI [V.str "a", vc] j4 = some z ∧ Tr K H11 z t ∧ WT t ∧ t.size ≤ 20 := by
    have c : j4 = 0 ∨ j4 = 1 := by omega
    rcases c with rfl | rfl
    · exact ⟨_, .w [97], rfl, by rw [show ("a" : Str) = tx [97] by decide +kernel]; exact tr_w, wt_w (isWord_of (by decide)), by rw [size_w]; decide⟩
    · exact ⟨_, C, rfl, tc9.keep k911, wtc, szc⟩
  refine ⟨p, _, _, _, rfl, rfl, SqL.of (k11.get upd_same (by simpa using pa)), hz, ?_⟩
  refine ⟨by show (3 : Nat) ≤ sizeLine; decide, fun T2 nT2 => ?_⟩
  obtain ⟨tm2, km2⟩ := mk_tr (K := K) (H := H11) (vs := [.str "f1", v3, z]) (ts := [.w [102, 49], .l qs, t]) nT2 (trs_cons (by rw [show ("f1" : Str) = tx [102, 49] by decide +kernel]; exact tr_w) (trs_cons (tq.keep k911) (Trs.one tz)))
  generalize upd H11 T2 (.tup [.str "f1", v3, z]) = H12 at tm2 km2
  have w2 : WT (.l [.w [102, 49], .l qs, t]) := wt_l (wts_cons (wt_w (isWord_of (by decide))) (wts_cons (wt_l (WTs.of fun t m => (qall t m).1)) (wts_cons wz wts_nil)))
  have s2 : (Tree.l [.w [102, 49], .l qs, t]).size ≤ 100 := by
    rw [size_l, sizes_cons, sizes_cons, sizes_cons, sizes_nil, size_w, size_l]
    have := sizes_le (ts := qs) (b := 1) fun t m => (qall t m).2
    omega
  generalize Tree.l [.w [102, 49], .l qs, t] = M2 at tm2 w2 s2
  have w1 : WT (.l [.w [109, 97, 105, 110], .l [.w [97]], .w [97]]) := wt_of (by decide +kernel)
  have s1 : (Tree.l [.w [109, 97, 105, 110], .l [.w [97]], .w [97]]).size ≤ 100 := by decide +kernel
  have tv12 := (tv1.keep k1011).keep km2
  generalize Tree.l [.w [109, 97, 105, 110], .l [.w [97]], .w [97]] = M1 at tv12 w1 s1
  refine ⟨by show (2 : Nat) ≤ sizeLine; decide, fun F2 nF2 => ?_⟩
  obtain ⟨tm3, km3⟩ := mk_tr (K := K) (H := H12) (vs := [v1, .ref T2]) (ts := [M1, M2]) nF2 (trs_cons tv12 (Trs.one tm2))
  have eF : (upd H12 F2 (.tup [v1, .ref T2])) F2 = some (.tup [v1, .ref T2]) := upd_same
  generalize upd H12 F2 (.tup [v1, .ref T2]) = H13 at tm3 km3 eF
  refine ⟨_, rfl, _, rfl, F2, v1, .ref T2, rfl, SqT.of_tup eF, fun p4 np4 => ?_⟩
  obtain ⟨tm4, km4⟩ := mk_tr (K := K) (H := H13) (vs := [.ref T2, v1]) (ts := [M2, M1]) np4 (trs_cons (tm2.keep km3) (Trs.one (tv12.keep km3)))
  generalize upd H13 p4 (.tup [.ref T2, v1]) = H14 at tm4 km4
  refine ⟨by show (2 : Nat) ≤ sizeLine; decide, fun p5 np5 => ?_⟩
  have hd14 := ((hd11.keep0 km2).keep0 km3).keep0 km4
  have p5a : p5 ≠ a := (hd14.neH np5).symm
  refine ⟨_, rfl, a, d, 2, rfl, hd14.new np5, by decide, fun j5 H15 j50 j51 k15 hd15 => ?_⟩
  have k1415 : Keep [a] H14 H15 := (Keep.new np5).trans k15
  have k915 : Keep [a] H9 H15 := (k911.trans (((km2.trans km3).trans km4).mono (by simp))).trans k1415
  obtain ⟨z, ts, hz, tz, wz, sz⟩ : ∃ z ts, atI [V.ref F2, .ref p4] j5 = some z ∧ Tr K H15 z (.l ts) ∧ WTs ts ∧ sizes ts ≤ 200 := by
    have c : j5 = 0 ∨ j5 = 1 := by omega
    rcases c with rfl | rfl
    · exact ⟨_, [M1, M2], rfl, (tm3.keep km4).keep k1415, wts_cons w1 (wts_cons w2 wts_nil), by rw [sizes_cons, sizes_cons, sizes_nil]; omega⟩
    · exact ⟨_, [M2, M1], rfl, tm4.keep k1415, wts_cons w2 (wts_cons w1 wts_nil), by rw [sizes_cons, sizes_cons, sizes_nil]; omega⟩
  refine ⟨p5, _, _, _, rfl, rfl, SqL.of (k15.get upd_same (by simpa using p5a)), hz, ?_⟩
  exact q _ _ _ tz wz (by omega) (by have := len_sizes ts; omega) (k9.trans k915) hd15
end
end Og

namespace Og
open PySem PySem.Spec PyProof.Rows L2
theorem Trs.set {K : PySem.W.Frag} {H : Hp} : ∀ {vs : List V} {ts : List Tree} {v : V} {t : Tree}, Trs K H vs ts → Tr K H v t → ∀ i : Nat, Trs K H (vs.set i v) (ts.set i t)
  | vs, [], v, t, r, h, i => by rw [r.nil]; exact trs_nil
  | vs, t0 :: ts, v, t, r, h, i => by
    obtain ⟨v0, vr, rfl, r0, rr⟩ := r.cons
    cases i with
    | zero => exact trs_cons h rr
    | succ i => exact trs_cons r0 (rr.set h i)
theorem lit_f0 : ("f0" : Str) = tx [102, 48] := by decide +kernel
theorem lit_f00 : ("f00" : Str) = tx [102, 48, 48] := by decide +kernel
def numT (d : Nat) : List Nat := (toString ((d : Nat) : Int)).toList.map Char.toNat
theorem num_text : ∀ d : Nat, d < 20 → Str.ofString (toString ((d : Nat) : Int)) = tx (numT d) ∧ (numT d).all (fun y => decide (48 ≤ y) && decide (y ≤ 57)) = true ∧ (numT d).length ≤ 2 := by decide +kernel
theorem num_word {d : Nat} (h : d < 20) {cs : List Nat} (hc : ∀ y ∈ cs, Sign y) (l : cs.length ≤ 9) : IsWord (102 :: (cs ++ numT d)) := by
  obtain ⟨_, e, k⟩ := num_text d h
  refine f_word (fun y m => ?_) (by rw [List.length_append]; omega)
  rcases List.mem_append.mp m with m | m
  · exact hc y m
  · have := List.all_eq_true.mp e y m
    simp only [Bool.and_eq_true, decide_eq_true_eq] at this
    exact .inr this
section
variable {P : Program} {w : World} {K : PySem.W.Frag} {mg : Str → Option Value} {base : Heap}
theorem has_numbered {k : Nat} (D : DefAt K mg "_law_numbered" s_law_numbered p_law_numbered) (B : Bn mg) (c1 : Has P w K mg base k "_law_take" p_law_take spTake) :
    Has P w K mg base (k + 1) "_law_numbered" p_law_numbered (spOne K) := by
  obtain ⟨f, fd, F, hm, hb⟩ := D.ex
  obtain ⟨_, _, c_law_take⟩ := c1
  refine ⟨f, fd, F.ok sc_law_numbered (fun vs H Q E h => ?_) (fun cdv A outer s H vs Q E hr h => ?_), hm, F.kp, hb⟩
  · obtain ⟨_, _, rfl, _⟩ := h
    rfl
  obtain ⟨a, d, rfl, hd, q⟩ := h
  refine ⟨_, (pss_cons (ps_set (i := 1) sc_law_numbered.nd rfl (.inl rfl) (pe_op op_add pe_int (cal c_law_take hr rfl (pa_cons (pv 0) (pa_cons pe_int pa_nil)))))
    (pss_cons (ps_set (i := 2) sc_law_numbered.nd rfl (.inl rfl) (pe_lst pa_nil))
    (pss_cons (ps_for PassesOwn.never rfl (pi_range1 (by rfl) B.range (pa_cons (pv 1) pa_nil)) (pg_name (i := 3) sc_law_numbered.nd rfl (.inl rfl))
      (pss_one (ps_expr (pe_bm PySem.F.plainAttrs_list PySem.F.slot_list_append PySem.F.type_list_append mt_append (pv 2) (pa_cons (pe_tup (pa_cons (pe_op op_add_str pe_str (pe_callTy call_str_int (by rfl) B.str (by decide +kernel) (pa_cons (pe_op op_sub (pe_op op_sub (pv 1) pe_int) (pv 3)) pa_nil))) (pa_cons (pe_lt pl_nil (by show 0 ≤ sizeLine; decide)) (pa_cons (pe_lt (pl_cons (pe_lw (x := [113, 117, 111, 116, 101]) (by decide +kernel)) (pl_cons (pe_lt pl_nil (by show 0 ≤ sizeLine; decide)) pl_nil)) (by show 2 ≤ sizeLine; decide)) pa_nil)))) pa_nil)))))
    (pss_cons (ps_set (i := 4) sc_law_numbered.nd rfl (.inl rfl) (cal c_law_take hr rfl (pa_cons (pv 0) (pa_cons (pv 1) pa_nil))))
    (pss_cons (ps_set (i := 5) sc_law_numbered.nd rfl (.inl rfl) (pe_ix ix_list (pe_lst (pa_cons (pe_op op_add_str pe_str (pe_callTy call_str_int (by rfl) B.str (by decide +kernel) (pa_cons (pv 1) pa_nil))) (pa_cons (pe_op op_add_str pe_str (pe_callTy call_str_int (by rfl) B.str (by decide +kernel) (pa_cons (pv 4) pa_nil))) (pa_cons (pe_op op_add_str pe_str (pe_callTy call_str_int (by rfl) B.str (by decide +kernel) (pa_cons (pv 4) pa_nil))) (pa_cons (pe_op op_add_str pe_str (pe_callTy call_str_int (by rfl) B.str (by decide +kernel) (pa_cons (pe_op op_sub (pv 1) pe_int) pa_nil))) (pa_cons pe_str pa_nil)))))) (cal c_law_take hr rfl (pa_cons (pv 0) (pa_cons pe_int pa_nil))) (fun _ _ => rfl)))
    (pss_cons (ps_asg (pe_tup (pa_cons (pv 5) (pa_cons (pe_lt pl_nil (by show 0 ≤ sizeLine; decide)) (pa_cons (pe_lt (pl_cons (pe_lw (x := [102, 48]) (by decide +kernel)) pl_nil) (by show 1 ≤ sizeLine; decide)) pa_nil)))) (pg_sub (pv 2) (pv 4) set_list))
    (pss_one (ps_ret (pe_callTy call_tuple_of (by rfl) B.tuple (by decide +kernel) (pa_cons (pv 2) pa_nil)))))))))), ?_⟩
  refine ⟨_, rfl, a, d, 14, rfl, hd, by decide, fun j H1 j0 j1 k1 hd1 => ?_⟩
  refine ⟨_, _, rfl, rfl, ?_⟩
  obtain ⟨n, rfl⟩ := Int.eq_ofNat_of_zero_le j0
  obtain ⟨m, em, m1, m14⟩ : ∃ m : Nat, 1 + (n : Int) = (m : Int) ∧ 1 ≤ m ∧ m ≤ 14 := ⟨1 + n, by omega, by omega, by omega⟩
  show gName 1 (V.int (1 + (n : Int))) _ _ _
  rw [em]
  refine ⟨Nat.zero_le _, fun N nN => ?_⟩
  have Na : N ≠ a := (hd1.neH nN).symm
  have Nd : N ≠ d := (hd1.neD nN).symm
  have nN0 : H N = none := k1.free nN
  refine ⟨_, rfl, _, rfl, by omega, by omega, ?_⟩
  refine for_range (lo := 0) (n := ((m : Nat) : Int).toNat) (fun i σ H' => ∃ (y3 : Option V) (vs : List V) (ts : List Tree), σ = [some (.ref a), some (.int m), some (.ref N), y3, none, none] ∧ Keep [a] H H' ∧ Hd H' a d ∧ H' N = some (.lst vs) ∧ Trs K H' vs ts ∧ ts.length = i ∧ ∀ t ∈ ts, WT t ∧ t.size ≤ 6)
    ⟨none, [], [], rfl, k1.newT nN, hd1.new nN, upd_same, trs_nil, rfl, fun t m => absurd m (List.not_mem_nil)⟩ (fun i σ H3 hi pw => ?_) (fun σ H3 pw => ?_)
  · obtain ⟨y3, vs, ts, rfl, k3, hd3, e3, r3, l3, all3⟩ := pw
    have hi2 : i < m := by omega
    have ei : (0 : Int) + (i : Int) = (i : Int) := by omega
    rw [ei]
    refine ⟨_, rfl, .inl ⟨rfl, _, SqL.of e3⟩, ?_⟩
    obtain ⟨nt, na, nl⟩ := num_text (m - 1 - i) (by omega)
    refine ⟨_, rfl, _, _, rfl, rfl, _, rfl, _, _, rfl, rfl, ((m - 1 - i : Nat) : Int), congrArg (fun z => [V.int z]) (show (m : Int) - 1 - (i : Int) = _ by omega), by rw [Int.natAbs_natCast]; exact Nat.lt_of_le_of_lt (Nat.log2_le_self _) (by omega), ?_⟩
    rw [nt]
    refine ⟨_, _, rfl, rfl, by rw [lit_f, tx_len, tx_len]; exact Nat.le_trans (show 1 + _ ≤ 10 by omega) (by decide), ?_⟩
    rw [lit_f, tx_app]
    refine fun v1 H4 t1 k4 => ?_
    refine fun v2 H5 t2 k5 => ?_
    refine ⟨by show (3 : Nat) ≤ sizeLine; decide, fun T nT => ?_⟩
    have w0 : IsWord ([102] ++ numT (m - 1 - i)) := num_word (d := m - 1 - i) (by omega) (cs := []) (fun y m => absurd m (List.not_mem_nil)) (by decide)
    generalize [102] ++ numT (m - 1 - i) = nm at w0
    obtain ⟨tm, km⟩ := mk_tr (K := K) (H := H5) (vs := [.str (tx nm), v1, v2]) (ts := [.w nm, .l [], .l [.w qw, .l []]]) nT (trs_cons tr_w (trs_cons (t1.keep k5) (Trs.one t2)))
    generalize upd H5 T (.tup [.str (tx nm), v1, v2]) = H6 at tm km
    have k36 := (k4.trans k5).trans km
    have e6 := k36.get e3 (by simp)
    have lv := r3.length
    have kN : Keep [N] H6 (upd H6 N (.lst (vs ++ [.ref T]))) := Keep.set e6 (List.mem_cons_self ..)
    refine ⟨N, vs, _, rfl, rfl, e6, Nat.lt_of_le_of_lt (show vs.length ≤ 100 by omega) (by decide), ?_⟩
    refine ⟨_, _, ts ++ [.l [.w nm, .l [], .l [.w qw, .l []]]], rfl, ((k3.trans (k36.mono (by simp))).cons.trans (kN.mono (by simp))).drop nN0, (hd3.keep0 k36).upd Na.symm Nd.symm, upd_same, ((r3.keep k36).append (Trs.one tm)).keep kN, by rw [List.length_append, l3]; rfl, fun t m => ?_⟩
    rcases List.mem_append.mp m with m | m
    · exact all3 t m
    · rw [List.mem_singleton.mp m]
      exact ⟨wt_l (wts_cons (wt_w w0) (wts_of (by decide +kernel))), by rw [size_l, sizes_cons, size_w]; show 1 + sizes [.l [], .l [.w qw, .l []]] + 1 ≤ 6; decide +kernel⟩
  · obtain ⟨y3, vs, ts, rfl, k3, hd3, e3, r3, l3, all3⟩ := pw
    rw [Int.toNat_natCast] at l3
    have lv := r3.length
    refine ⟨_, rfl, _, rfl, a, d, _, rfl, hd3, by omega, fun at' H4 at0 at1 k4 hd4 => ?_⟩
    obtain ⟨n', rfl⟩ := Int.eq_ofNat_of_zero_le at0
    have e4 := k4.get e3 (by simpa using Na)
    have an : n' < 20 := by omega
    have lg : ∀ z : Nat, z < 20 → ((z : Nat) : Int).natAbs.log2 < 1920 := fun z hz => by rw [Int.natAbs_natCast]; exact Nat.lt_of_le_of_lt (Nat.log2_le_self _) (by omega)
    have l1 : ∀ z : Nat, z < 20 → ("f" : Str).length + (tx (numT z)).length ≤ sizeLine := fun z hz => by
      obtain ⟨_, _, nl⟩ := num_text z hz
      rw [lit_f, tx_len, tx_len]; exact Nat.le_trans (show 1 + _ ≤ 10 by omega) (by decide)
    have l2 : ∀ z : Nat, z < 20 → ("f0" : Str).length + (tx (numT z)).length ≤ sizeLine := fun z hz => by
      obtain ⟨_, _, nl⟩ := num_text z hz
      rw [lit_f0, tx_len, tx_len]; exact Nat.le_trans (show 2 + _ ≤ 10 by omega) (by decide)
    refine ⟨_, rfl, _, rfl, lg m (by omega), ?_⟩
    rw [(num_text m (by omega)).1]
    refine ⟨_, _, rfl, rfl, l1 m (by omega), ?_⟩
    refine ⟨_, rfl, _, rfl, lg n' an, ?_⟩
    rw [(num_text n' an).1]
    refine ⟨_, _, rfl, rfl, l2 n' an, ?_⟩
    refine ⟨_, rfl, _, rfl, lg n' an, ?_⟩
    rw [(num_text n' an).1]
    refine ⟨_, _, rfl, rfl, l1 n' an, ?_⟩
    refine ⟨_, rfl, _, _, rfl, rfl, ((m - 1 : Nat) : Int), congrArg (fun z => [V.int z]) (show (m : Int) - 1 = _ by omega), lg (m - 1) (by omega), ?_⟩
    rw [(num_text (m - 1) (by omega)).1]
    refine ⟨_, _, rfl, rfl, l1 (m - 1) (by omega), ?_⟩
    refine ⟨by show (5 : Nat) ≤ sizeLine; decide, fun p np => ?_⟩
    have pa : p ≠ a := (hd4.neH np).symm
    refine ⟨_, rfl, a, d, 5, rfl, hd4.new np, by decide, fun j5 H5 j50 j51 k5 hd5 => ?_⟩
    have k45 : Keep [a] H4 H5 := (Keep.new np).trans k5
    obtain ⟨c, hc, wc⟩ : ∃ c, atI [V.str (("f" : Str) ++ tx (numT m)), .str (("f0" : Str) ++ tx (numT n')), .str (("f" : Str) ++ tx (numT n')), .str (("f" : Str) ++ tx (numT (m - 1))), .str "f00"] j5 = some (.str (tx c)) ∧ IsWord c := by
      rw [lit_f, lit_f0, lit_f00, tx_app, tx_app, tx_app, tx_app]
      have c : j5 = 0 ∨ j5 = 1 ∨ j5 = 2 ∨ j5 = 3 ∨ j5 = 4 := by omega
      rcases c with rfl | rfl | rfl | rfl | rfl
      · exact ⟨_, rfl, num_word (d := m) (cs := []) (by omega) (fun y m => absurd m (List.not_mem_nil)) (by decide)⟩
      · exact ⟨_, rfl, num_word (d := n') (cs := [48]) an (fun y m => by rw [List.mem_singleton.mp m]; exact .inr (by decide)) (by decide)⟩
      · exact ⟨_, rfl, num_word (d := n') (cs := []) an (fun y m => absurd m (List.not_mem_nil)) (by decide)⟩
      · exact ⟨_, rfl, num_word (d := m - 1) (cs := []) (by omega) (fun y m => absurd m (List.not_mem_nil)) (by decide)⟩
      · exact ⟨_, rfl, isWord_of (by decide)⟩
    refine ⟨p, _, _, _, rfl, rfl, SqL.of (k5.get upd_same (by simpa using pa)), hc, ?_⟩
    refine ⟨_, rfl, ?_⟩
    refine fun v1 H6 t1 k6 => ?_
    refine fun v2 H7 t2 k7 => ?_
    refine ⟨by show (3 : Nat) ≤ sizeLine; decide, fun T nT => ?_⟩
    obtain ⟨tm, km⟩ := mk_tr (K := K) (H := H7) (vs := [.str (tx c), v1, v2]) (ts := [.w c, .l [], .l [.w [102, 48]]]) nT (trs_cons tr_w (trs_cons (t1.keep k7) (Trs.one t2)))
    generalize upd H7 T (.tup [.str (tx c), v1, v2]) = H8 at tm km
    have k58 := (k6.trans k7).trans km
    have e8 := k58.get (k45.get e4 (by simpa using Na)) (by simp)
    have hlt : n' < vs.length := by omega
    refine ⟨_, rfl, _, rfl, N, _, _, n', rfl, rfl, e8, by rw [ixN_int (by omega) (by omega)]; rfl, ?_⟩
    have kN : Keep [N] H8 (upd H8 N (.lst (vs.set n' (.ref T)))) := Keep.set e8 (List.mem_cons_self ..)
    have e9 : (upd H8 N (.lst (vs.set n' (.ref T)))) N = some (.lst (vs.set n' (.ref T))) := upd_same
    have r9 := ((((r3.keep k4).keep k45).keep k58).set tm n').keep kN
    have hd9 : Hd (upd H8 N (.lst (vs.set n' (.ref T)))) a d := (hd5.keep0 k58).upd Na.symm Nd.symm
    have k09 : Keep [a] H (upd H8 N (.lst (vs.set n' (.ref T)))) := ((((k3.trans k4).trans k45).trans (k58.mono (by simp))).cons.trans (kN.mono (by simp))).drop nN0
    generalize upd H8 N (.lst (vs.set n' (.ref T))) = H9 at e9 r9 hd9 k09
    refine ⟨_, rfl, N, _, rfl, .inl ⟨SqL.of e9, fun U nU => ?_⟩⟩
    obtain ⟨tu, ku⟩ := mk_tr (K := K) (H := H9) nU r9
    have nall : ∀ t ∈ ts.set n' (.l [.w c, .l [], .l [.w [102, 48]]]), WT t ∧ t.size ≤ 6 := fun t mm => by
      rcases List.mem_or_eq_of_mem_set mm with mm | mm
      · exact all3 t mm
      · rw [mm]
        exact ⟨wt_l (wts_cons (wt_w wc) (wts_of (by decide +kernel))), by rw [size_l, sizes_cons, size_w]; show 1 + sizes [.l [], .l [.w [102, 48]]] + 1 ≤ 6; decide +kernel⟩
    have ll : (ts.set n' (.l [.w c, .l [], .l [.w [102, 48]]])).length = ts.length := List.length_set ..
    have ss := sizes_le (b := 6) fun t mm => (nall t mm).2
    exact q _ _ _ tu (WTs.of fun t mm => (nall t mm).1) (by omega) (by omega) (k09.trans (ku.mono (by simp))) (hd9.keep0 ku)
end
end Og

namespace Og
open PySem PySem.Spec PyProof.Rows L2
theorem tr_s {K : PySem.W.Frag} {H : Hp} {s : Str} {x : List Nat} (h : s = tx x) : Tr K H (.str s) (.w x) := by rw [h]; exact tr_w
theorem lit_main : ("main" : Str) = tx [109, 97, 105, 110] := by decide +kernel
theorem lit_head : ("head" : Str) = tx [104, 101, 97, 100] := by decide +kernel
theorem lit_join : ("join" : Str) = tx [106, 111, 105, 110] := by decide +kernel
theorem lit_if : ("if" : Str) = tx [105, 102] := by decide +kernel
theorem lit_a : ("a" : Str) = tx [97] := by decide +kernel
theorem ww {x : List Nat} (h : isWordB x = true) : WT (.w x) := wt_w (isWord_of h)
theorem spread4 {i : Nat} : (i : Int) % 4 = 0 ∨ (i : Int) % 4 = 1 ∨ (i : Int) % 4 = 2 ∨ (i : Int) % 4 = 3 := by omega
section
variable {P : Program} {w : World} {K : PySem.W.Frag} {mg : Str → Option Value} {base : Heap}
def spDeep (K : PySem.W.Frag) : Sp := fun vs H Q _ => ∃ (h d : Addr) (v : V) (t : Tree), vs = [.ref h, v] ∧ Hd H h d ∧ Tr K H v t ∧ WT t ∧ t.size ≤ 20 ∧
  ∀ (v' : V) (ts : List Tree) (H' : Hp), Tr K H' v' (.l ts) → WTs ts → sizes ts ≤ 10000 → ts.length ≤ 200 → Keep [h] H H' → Hd H' h d → Q v' H'
theorem has_deep {k : Nat} (D : DefAt K mg "_law_deep_body" s_law_deep_body p_law_deep_body) (B : Bn mg) (c1 : Has P w K mg base k "_law_take" p_law_take spTake) :
    Has P w K mg base (k + 1) "_law_deep_body" p_law_deep_body (spDeep K) := by
  obtain ⟨f, fd, F, hm, hb⟩ := D.ex
  obtain ⟨_, _, c_law_take⟩ := c1
  refine ⟨f, fd, F.ok sc_law_deep_body (fun vs H Q E h => ?_) (fun cdv A outer s H vs Q E hr h => ?_), hm, F.kp, hb⟩
  · obtain ⟨_, _, _, _, rfl, _⟩ := h
    rfl
  obtain ⟨a, d, v, t, rfl, hd, tv, wt, sz, q⟩ := h
  refine ⟨_, (pss_cons (ps_set (i := 2) sc_law_deep_body.nd rfl (.inl rfl) (pv 1))
    (pss_cons (ps_set (i := 3) sc_law_deep_body.nd rfl (.inl rfl) pe_str)
    (pss_cons (ps_for PassesOwn.never rfl (pi_range1 (by rfl) B.range (pa_cons (pe_op op_add pe_int (cal c_law_take hr rfl (pa_cons (pv 0) (pa_cons pe_int pa_nil)))) pa_nil)) (pg_name (i := 4) sc_law_deep_body.nd rfl (.inl rfl))
      (pss_cons (ps_set (i := 5) sc_law_deep_body.nd rfl (.inl rfl) (pe_op op_mod (pe_callTy call_int1 (by rfl) B.int (by decide +kernel) (pa_cons (pv 4) pa_nil)) pe_int))
      (pss_cons (ps_set (i := 2) sc_law_deep_body.nd rfl (.inl rfl) (pe_ix ix_list (pe_lst (pa_cons (pe_tup (pa_cons pe_str (pa_cons (pv 2) pa_nil))) (pa_cons (pe_tup (pa_cons pe_str (pa_cons pe_str (pa_cons (pv 2) pa_nil)))) (pa_cons (pe_tup (pa_cons pe_str (pa_cons (pv 2) (pa_cons pe_str pa_nil)))) (pa_cons (pe_tup (pa_cons pe_str (pa_cons (pv 2) pa_nil))) pa_nil))))) (pv 5) (fun _ _ => rfl)))
      (pss_one (ps_set (i := 3) sc_law_deep_body.nd rfl (.inl rfl) (pe_tup (pa_cons (pv 3) pa_nil)))))))
    (pss_one (ps_ret (pe_tup (pa_cons (pe_tup (pa_cons pe_str (pa_cons (pe_tup (pa_cons pe_str pa_nil)) (pa_cons (pe_tup (pa_cons pe_str (pa_cons (pv 2) (pa_cons (pe_tup (pa_cons pe_str (pa_cons (pv 3) pa_nil))) (pa_cons pe_str pa_nil))))) pa_nil)))) pa_nil))))))), ?_⟩
  refine ⟨_, rfl, ?_⟩
  refine ⟨_, rfl, a, d, 130, rfl, hd, by decide, fun j H1 j0 j1 k1 hd1 => ?_⟩
  refine ⟨_, _, rfl, rfl, ?_⟩
  obtain ⟨n, rfl⟩ := Int.eq_ofNat_of_zero_le j0
  refine ⟨_, rfl, by omega, by omega, ?_⟩
  refine for_range (lo := 0) (n := (60 + (n : Int)).toNat) (fun i σ H' => ∃ (v2 v3 : V) (y4 y5 : Option V) (t2 t3 : Tree), σ = [some (.ref a), some v, some v2, some v3, y4, y5] ∧ Keep [a] H H' ∧ Hd H' a d ∧ Tr K H' v2 t2 ∧ WT t2 ∧ t2.size ≤ 20 + 3 * i ∧ Tr K H' v3 t3 ∧ WT t3 ∧ t3.size ≤ 1 + i)
    ⟨v, .str "a", none, none, t, .w [97], rfl, k1, hd1, tv.keep k1, wt, by omega, tr_s lit_a, ww (by decide), by rw [size_w]; omega⟩ (fun i σ H3 hi pw => ?_) (fun σ H3 pw => ?_)
  · obtain ⟨v2, v3, y4, y5, t2, t3, rfl, k3, hd3, tv2, w2, s2, tv3, w3, s3⟩ := pw
    have ei : (0 : Int) + (i : Int) = (i : Int) := by omega
    rw [ei]
    refine ⟨_, rfl, .inl ⟨_, rfl, ?_⟩⟩
    refine ⟨_, _, rfl, rfl, by show (0 : Int) < 4; decide, ?_⟩
    refine ⟨_, rfl, by show (2 : Nat) ≤ sizeLine; decide, fun p0 n0 => ?_⟩
    obtain ⟨m0, q0⟩ := mk_tr (K := K) (H := H3) (vs := [.str "head", v2]) (ts := [.w [104, 101, 97, 100], t2]) n0 (trs_cons (tr_s lit_head) (Trs.one tv2))
    generalize upd H3 p0 (.tup [.str "head", v2]) = B0 at m0 q0
    refine ⟨_, rfl, by show (3 : Nat) ≤ sizeLine; decide, fun p1 n1 => ?_⟩
    obtain ⟨m1, q1⟩ := mk_tr (K := K) (H := B0) (vs := [.str "join", .str "x", v2]) (ts := [.w [106, 111, 105, 110], .w [120], t2]) n1 (trs_cons (tr_s lit_join) (trs_cons (tr_s lit_x) (Trs.one (tv2.keep q0))))
    generalize upd B0 p1 (.tup [.str "join", .str "x", v2]) = B1 at m1 q1
    have q01 := q0.trans q1
    refine ⟨_, rfl, by show (3 : Nat) ≤ sizeLine; decide, fun p2 n2 => ?_⟩
    obtain ⟨m2, q2⟩ := mk_tr (K := K) (H := B1) (vs := [.str "join", v2, .str "x"]) (ts := [.w [106, 111, 105, 110], t2, .w [120]]) n2 (trs_cons (tr_s lit_join) (trs_cons (tv2.keep q01) (Trs.one (tr_s lit_x))))
    generalize upd B1 p2 (.tup [.str "join", v2, .str "x"]) = B2 at m2 q2
    have q02 := q01.trans q2
    refine ⟨_, rfl, by show (2 : Nat) ≤ sizeLine; decide, fun p3 n3 => ?_⟩
    obtain ⟨m3, q3⟩ := mk_tr (K := K) (H := B2) (vs := [.str "main", v2]) (ts := [.w [109, 97, 105, 110], t2]) n3 (trs_cons (tr_s lit_main) (Trs.one (tv2.keep q02)))
    generalize upd B2 p3 (.tup [.str "main", v2]) = B3 at m3 q3
    have q03 := q02.trans q3
    have mm0 := ((m0.keep q1).keep q2).keep q3
    have mm1 := (m1.keep q2).keep q3
    have mm2 := m2.keep q3
    refine ⟨by show (4 : Nat) ≤ sizeLine; decide, fun p np => ?_⟩
    have kp : Keep [] B3 (upd B3 p (.lst [.ref p0, .ref p1, .ref p2, .ref p3])) := Keep.new np
    have ep : (upd B3 p (.lst [.ref p0, .ref p1, .ref p2, .ref p3])) p = some (.lst [.ref p0, .ref p1, .ref p2, .ref p3]) := upd_same
    generalize upd B3 p (.lst [.ref p0, .ref p1, .ref p2, .ref p3]) = B4 at kp ep
    have q04 := q03.trans kp
    obtain ⟨z, t4, hz, tz, wz, sz4⟩ : ∃ z t4, atI [V.ref p0, .ref p1, .ref p2, .ref p3] ((i : Int) % 4) = some z ∧ Tr K B4 z t4 ∧ WT t4 ∧ t4.size ≤ 3 + t2.size := by
      rcases spread4 (i := i) with e | e | e | e <;> rw [e]
      · exact ⟨_, _, rfl, mm0.keep kp, wt_l (wts_cons (ww (by decide)) (wts_cons w2 wts_nil)), by rw [size_l, sizes_cons, sizes_cons, sizes_nil, size_w]; omega⟩
      · exact ⟨_, _, rfl, mm1.keep kp, wt_l (wts_cons (ww (by decide)) (wts_cons (ww (by decide)) (wts_cons w2 wts_nil))), by rw [size_l, sizes_cons, sizes_cons, sizes_cons, sizes_nil, size_w, size_w]; omega⟩
      · exact ⟨_, _, rfl, mm2.keep kp, wt_l (wts_cons (ww (by decide)) (wts_cons w2 (wts_cons (ww (by decide)) wts_nil))), by rw [size_l, sizes_cons, sizes_cons, sizes_cons, sizes_nil, size_w, size_w]; omega⟩
      · exact ⟨_, _, rfl, m3.keep kp, wt_l (wts_cons (ww (by decide)) (wts_cons w2 wts_nil)), by rw [size_l, sizes_cons, sizes_cons, sizes_nil, size_w]; omega⟩
    refine ⟨_, rfl, p, _, _, _, rfl, rfl, SqL.of ep, hz, ?_⟩
    refine ⟨_, rfl, by show (1 : Nat) ≤ sizeLine; decide, fun U nU => ?_⟩
    obtain ⟨mu, ku⟩ := mk_tr (K := K) (H := B4) nU (Trs.one (tv3.keep q04))
    refine ⟨z, .ref U, _, _, t4, .l [t3], rfl, k3.trans ((q04.trans ku).mono (by simp)), (hd3.keep0 q04).keep0 ku, tz.keep ku, wz, by omega, mu, wt_l (wts_cons w3 wts_nil), by rw [size_l, sizes_cons, sizes_nil]; omega⟩
  · obtain ⟨v2, v3, y4, y5, t2, t3, rfl, k3, hd3, tv2, w2, s2, tv3, w3, s3⟩ := pw
    refine ⟨by show (1 : Nat) ≤ sizeLine; decide, fun p0 n0 => ?_⟩
    obtain ⟨m0, q0⟩ := mk_tr (K := K) (H := H3) (vs := [.str "x"]) (ts := [.w [120]]) n0 (Trs.one (tr_s lit_x))
    generalize upd H3 p0 (.tup [.str "x"]) = B0 at m0 q0
    refine ⟨_, rfl, _, rfl, by show (2 : Nat) ≤ sizeLine; decide, fun p1 n1 => ?_⟩
    obtain ⟨m1, q1⟩ := mk_tr (K := K) (H := B0) (vs := [.str "quote", v3]) (ts := [.w qw, t3]) n1 (trs_cons (tr_s lit_q) (Trs.one (tv3.keep q0)))
    generalize upd B0 p1 (.tup [.str "quote", v3]) = B1 at m1 q1
    have q01 := q0.trans q1
    refine ⟨by show (4 : Nat) ≤ sizeLine; decide, fun p2 n2 => ?_⟩
    obtain ⟨m2, q2⟩ := mk_tr (K := K) (H := B1) (vs := [.str "if", v2, .ref p1, .str "x"]) (ts := [.w [105, 102], t2, .l [.w qw, t3], .w [120]]) n2 (trs_cons (tr_s lit_if) (trs_cons (tv2.keep q01) (trs_cons m1 (Trs.one (tr_s lit_x)))))
    generalize upd B1 p2 (.tup [.str "if", v2, .ref p1, .str "x"]) = B2 at m2 q2
    refine ⟨by show (3 : Nat) ≤ sizeLine; decide, fun p3 n3 => ?_⟩
    obtain ⟨m3, q3⟩ := mk_tr (K := K) (H := B2) (vs := [.str "main", .ref p0, .ref p2]) (ts := [.w [109, 97, 105, 110], .l [.w [120]], .l [.w [105, 102], t2, .l [.w qw, t3], .w [120]]]) n3 (trs_cons (tr_s lit_main) (trs_cons ((m0.keep q1).keep q2) (Trs.one m2)))
    generalize upd B2 p3 (.tup [.str "main", .ref p0, .ref p2]) = B3 at m3 q3
    refine ⟨by show (1 : Nat) ≤ sizeLine; decide, fun p4 n4 => ?_⟩
    obtain ⟨m4, q4⟩ := mk_tr (K := K) (H := B3) (vs := [.ref p3]) n4 (Trs.one m3)
    have q05 := (((q0.trans q1).trans q2).trans q3).trans q4
    refine q _ _ _ m4 (wts_cons (wt_l (wts_cons (ww (by decide)) (wts_cons (wt_l (wts_cons (ww (by decide)) wts_nil)) (wts_cons (wt_l (wts_cons (ww (by decide)) (wts_cons w2 (wts_cons (wt_l (wts_cons (ww (by decide)) (wts_cons w3 wts_nil))) (wts_cons (ww (by decide)) wts_nil))))) wts_nil)))) wts_nil) ?_ (by show 1 ≤ 200; decide) (k3.trans (q05.mono (by simp))) (hd3.keep0 q05)
    simp only [size_l, sizes_cons, sizes_nil, size_w]
    omega
end
end Og

namespace Og
open PySem PySem.Spec PyProof.Rows L2
theorem FnU.of {t : Tree} (h : FnT t) : FnU t := by
  obtain ⟨n, ps, b, e, wt, pw, l, _, s⟩ := h
  exact ⟨n, ps, b, e, wt, pw, l, s⟩
theorem FnU.wt {t : Tree} (h : FnU t) : WT t := by
  obtain ⟨n, ps, b, e, wt, pw, l, s⟩ := h
  exact wt
theorem isW_size {t : Tree} (h : t.isW = true) : t.size ≤ 1 := by
  cases t with
  | w x => rw [size_w]; exact Nat.le_refl _
  | l ts => cases h
theorem FnU.size {t : Tree} (h : FnU t) : t.size ≤ 1009 := by
  obtain ⟨n, ps, b, e, wt, pw, l, s⟩ := h
  have := sizes_le (ts := ps) (b := 1) fun t m => isW_size (pw t m)
  rw [e, size_l, sizes_cons, sizes_cons, sizes_cons, sizes_nil, size_w, size_l]
  omega
/-- what is_right may be asked -/
def OkT (t : Tree) : Prop := WT t ∧ t.size ≤ 19990 ∧ ∀ fs, t = .l fs → fs.length ≤ 1000
theorem okT {ts : List Tree} (w : WTs ts) (s : sizes ts ≤ 19980) (l : ts.length ≤ 1000) : OkT (.l ts) := ⟨wt_l w, by rw [size_l]; omega, fun fs e => by cases e; exact l⟩
def innl : List Tree := [.w [120], .w [121], .l [.w qw], .l [.w [104, 101, 97, 100]], .l [.w [109, 97, 105, 110], .w [120], .w [120]], .l []]
theorem innl_wt : ∀ t ∈ innl, WT t := WTs.all (wts_of (by decide +kernel))
theorem innl_size : ∀ t ∈ innl, t.size ≤ 20 := fun t m => of_decide_eq_true (List.all_eq_true.mp (show innl.all (fun t => decide (Tree.size t ≤ 20)) = true by decide +kernel) t m)
theorem nat_of {i : Int} {m : Nat} (h0 : 0 ≤ i) (h : i < (m : Int)) : ∃ n : Nat, n < m ∧ i = (n : Int) := ⟨i.toNat, by omega, by omega⟩
theorem ok_law {P : Program} {w : World} {K : PySem.W.Frag} {mg : Str → Option Value} {base : Heap} {e : Addr} {ed : FuncData} (F : Fun K "law" "law" s_law e ed) (B : Bn mg) (M : Mc mg)
    (S_SPECIAL_WORDS : DictC K w mg "SPECIAL_WORDS" [([113, 117, 111, 116, 101], 1), ([105, 102], 3), ([115, 97, 109, 101], 2), ([119, 111, 114, 100], 1), ([104, 101, 97, 100], 1), ([116, 97, 105, 108], 1), ([106, 111, 105, 110], 2)])
    (E_BadText : ErrAll K mg "BadText" "BadText.__init__" "place" s_BadText_init)
    (E_BadProgram : ErrAll K mg "BadProgram" "BadProgram.__init__" "function" s_BadProgram_init)
    (W_BadText_BadProgram : ErrNot K mg "BadText" "BadProgram")
    (W_BadProgram_BadText : ErrNot K mg "BadProgram" "BadText")
    (C_BadInputs : ∃ a : Addr, mg "BadInputs" = some (.ref a))
    (W_BadText_BadInputs : ErrNot K mg "BadText" "BadInputs")
    (W_BadProgram_BadInputs : ErrNot K mg "BadProgram" "BadInputs")
    (D_check_program : DefAt K mg "check_program" s_check_program p_check_program)
    (D_called_functions : DefAt K mg "_called_functions" s_called_functions p_called_functions)
    (D_looks_like_function : DefAt K mg "_looks_like_function" s_looks_like_function p_looks_like_function)
    (D_is_good_function : DefAt K mg "_is_good_function" s_is_good_function p_is_good_function)
    (D_is_good_name : DefAt K mg "_is_good_name" s_is_good_name p_is_good_name)
    (D_are_good_parameters : DefAt K mg "_are_good_parameters" s_are_good_parameters p_are_good_parameters)
    (D_is_good_body : DefAt K mg "_is_good_body" s_is_good_body p_is_good_body)
    (D_has_right_parts : DefAt K mg "_has_right_parts" s_has_right_parts p_has_right_parts)
    (D_law_draws : DefAt K mg "_law_draws" s_law_draws p_law_draws)
    (D_law_take : DefAt K mg "_law_take" s_law_take p_law_take)
    (D_law_value : DefAt K mg "_law_value" s_law_value p_law_value)
    (D_law_expression : DefAt K mg "_law_expression" s_law_expression p_law_expression)
    (D_law_library : DefAt K mg "_law_library" s_law_library p_law_library)
    (D_law_program : DefAt K mg "_law_program" s_law_program p_law_program)
    (D_law_many : DefAt K mg "_law_many" s_law_many p_law_many)
    (D_law_special : DefAt K mg "_law_special" s_law_special p_law_special)
    (D_law_expression_good : DefAt K mg "_law_expression_good" s_law_expression_good p_law_expression_good)
    (D_law_name_good : DefAt K mg "_law_name_good" s_law_name_good p_law_name_good)
    (D_law_function_good : DefAt K mg "_law_function_good" s_law_function_good p_law_function_good)
    (D_law_bad_function : DefAt K mg "_law_bad_function" s_law_bad_function p_law_bad_function)
    (D_law_is_right : DefAt K mg "_law_is_right" s_law_is_right p_law_is_right)
    (D_law_called : DefAt K mg "_law_called" s_law_called p_law_called)
    (D_law_other_names : DefAt K mg "_law_other_names" s_law_other_names p_law_other_names)
    (D_law_odd : DefAt K mg "_law_odd" s_law_odd p_law_odd)
    (D_law_bent : DefAt K mg "_law_bent" s_law_bent p_law_bent)
    (D_law_wide : DefAt K mg "_law_wide" s_law_wide p_law_wide)
    (D_law_numbered : DefAt K mg "_law_numbered" s_law_numbered p_law_numbered)
    (D_law_deep_body : DefAt K mg "_law_deep_body" s_law_deep_body p_law_deep_body) :
    FnOk P w K mg base CX0 30 e ed ["script"] (spLaw K) := by
  obtain ⟨C, G, fI, fdI, T_BadProgram, Hh⟩ := E_BadProgram.ex
  obtain ⟨CT, GT, fT, fdT, T_BadText, _⟩ := E_BadText.ex
  obtain ⟨CI, gI⟩ := C_BadInputs
  obtain ⟨d, es, n, m, kd, en⟩ := S_SPECIAL_WORDS.ex
  have DD : DictD K w specials d := ⟨⟨es, n, kd, en⟩⟩
  have h_draws := has_draws (P := P) (w := w) (base := base) (k := 0) D_law_draws B
  have h_take := has_take (P := P) (w := w) (base := base) (k := 0) D_law_take B
  have h_val := has_val (P := P) (w := w) (base := base) (k := 1) D_law_value B h_take 2
  obtain ⟨fe, fde, h_expr⟩ := has_expr (P := P) (w := w) (base := base) (k := 4) D_law_expression B (h_take.mono (by decide)) h_val
  have h_expr := has_upto h_expr 3
  have h_lib := has_lib (P := P) (w := w) (base := base) (k := 0) D_law_library B
  have h_prog := has_prog (P := P) (w := w) (base := base) (k := 8) D_law_program B (h_take.mono (by decide)) (h_lib.mono (by decide)) h_expr
  have h_ren := has_ren (P := P) (w := w) (base := base) (k := 0) D_law_called B 7
  have h_names := has_names (P := P) (w := w) (base := base) (k := 8) D_law_other_names B (h_take.mono (by decide)) h_ren
  have h_special := has_special (P := P) (w := w) (base := base) (k := 0) D_law_special B
  have h_odd := has_odd (P := P) (w := w) (base := base) (k := 1) D_law_odd B h_take h_special
  have h_bent := has_bent (P := P) (w := w) (base := base) (k := 2) D_law_bent B (h_take.mono (by decide)) h_odd 6
  have h_wide := has_wide (P := P) (w := w) (base := base) (k := 1) D_law_wide B h_take
  have h_numbered := has_numbered (P := P) (w := w) (base := base) (k := 1) D_law_numbered B h_take
  have h_deep := has_deep (P := P) (w := w) (base := base) (k := 1) D_law_deep_body B h_take
  have h_many := has_many (P := P) (w := w) (base := base) (k := 0) D_law_many B
  have h_egood := has_egood (P := P) (w := w) (base := base) (k := 1) D_law_expression_good B h_special h_many
  have h_ngood := has_ngood (P := P) (w := w) (base := base) (k := 1) D_law_name_good B h_special
  have h_fngood := has_fngood (P := P) (w := w) (base := base) (k := 2) D_law_function_good B (h_special.mono (by decide)) h_ngood h_egood
  have h_badf := has_badf (P := P) (w := w) (base := base) (k := 3) D_law_bad_function B h_fngood
  have h_looks := has_looks (P := P) (w := w) (base := base) (k := 0) D_looks_like_function B
  have h_gname := has_gname (P := P) (w := w) (base := base) (k := 0) m DD D_is_good_name B
  have h_gps := has_gps (P := P) (w := w) (base := base) (k := 0) m DD D_are_good_parameters B M
  have h_rp := has_rp (P := P) (w := w) (base := base) (k := 0) m DD D_has_right_parts B
  have h_gbody := has_gbody (P := P) (w := w) (base := base) (k := 1) D_is_good_body B h_rp
  have h_gfn := has_gfn (P := P) (w := w) (base := base) (k := 2) D_is_good_function B (h_looks.mono (by decide)) (h_gname.mono (by decide)) (h_gps.mono (by decide)) h_gbody
  have h_called := has_called (P := P) (w := w) (base := base) (k := 1) D_called_functions B h_looks
  have h_check := has_checkX (P := P) (w := w) (base := base) (k := 0) T_BadProgram D_check_program B (h_called.mono (by decide)) h_gfn
  have h_isright := has_isright (P := P) (w := w) (base := base) (k := 4) T_BadProgram Hh T_BadText.gC (W_BadProgram_BadText.no _ _ T_BadProgram.gC T_BadText.gC) gI (W_BadProgram_BadInputs.no _ _ T_BadProgram.gC gI) D_law_is_right B h_badf h_check
  obtain ⟨_, _, c_law_draws⟩ := h_draws.mono (show _ ≤ 29 by decide)
  obtain ⟨_, _, c_law_take⟩ := h_take.mono (show _ ≤ 29 by decide)
  obtain ⟨_, _, c_law_program⟩ := h_prog.mono (show _ ≤ 29 by decide)
  obtain ⟨_, _, c_law_other_names⟩ := h_names.mono (show _ ≤ 29 by decide)
  obtain ⟨_, _, c_law_special⟩ := h_special.mono (show _ ≤ 29 by decide)
  obtain ⟨_, _, c_law_bent⟩ := h_bent.mono (show _ ≤ 29 by decide)
  obtain ⟨_, _, c_law_wide⟩ := h_wide.mono (show _ ≤ 29 by decide)
  obtain ⟨_, _, c_law_numbered⟩ := h_numbered.mono (show _ ≤ 29 by decide)
  obtain ⟨_, _, c_law_deep_body⟩ := h_deep.mono (show _ ≤ 29 by decide)
  obtain ⟨_, _, c_law_is_right⟩ := h_isright.mono (show _ ≤ 29 by decide)
  clear m DD en kd
  refine F.ok sc_law (fun vs H Q E h => ?_) (fun cdv A outer s H vs Q E hr h => ?_)
  · obtain ⟨a, ns, rfl, _⟩ := h
    rfl
  obtain ⟨a, ns, rfl, hS, h63, q⟩ := h
  refine ⟨_, (pss_cons (ps_set (i := 1) sc_law.nd rfl (.inl rfl) (pe_lst (pa_cons (cal c_law_draws hr rfl (pa_cons (pv 0) (pa_cons pe_int pa_nil))) (pa_cons pe_int pa_nil))))
    (pss_cons (ps_set (i := 2) sc_law.nd rfl (.inl rfl) (cal c_law_other_names hr rfl (pa_cons (pv 1) (pa_cons (cal c_law_program hr rfl (pa_cons (pv 1) (pa_cons (pe_op op_add pe_int (cal c_law_take hr rfl (pa_cons (pv 1) (pa_cons pe_int pa_nil)))) pa_nil))) pa_nil))))
    (pss_cons (ps_if (pt_not (pt_val (cal c_law_is_right hr rfl (pa_cons (pv 2) pa_nil)))) (pss_one (ps_ret pe_bl)) pss_nil)
    (pss_cons (ps_for PassesOwn.never rfl (pi_range1 (by rfl) B.range (pa_cons pe_int pa_nil)) (pg_name (i := 3) sc_law.nd rfl (.inl rfl))
      (pss_cons (ps_set (i := 4) sc_law.nd rfl (.inl rfl) (cal c_law_take hr rfl (pa_cons (pv 1) (pa_cons (pe_callB call_len_seq (by rfl) B.len PySem.boot_len (pa_cons (pv 2) pa_nil)) pa_nil))))
      (pss_cons (ps_set (i := 5) sc_law.nd rfl (.inl rfl) (pe_op op_catA (pe_op op_catA (pe_slice sl_tupA (pv 2) po_none (po_some (pv 4))) (pe_tup (pa_cons (cal c_law_bent hr rfl (pa_cons (pv 1) (pa_cons (pv 2) (pa_cons (pe_ix ix_tup (pv 2) (pv 4) (fun _ _ => rfl)) (pa_cons pe_int pa_nil))))) pa_nil))) (pe_slice sl_tupA (pv 2) (po_some (pe_op op_add (pv 4) pe_int)) po_none)))
      (pss_cons (ps_if (pt_not (pt_val (cal c_law_is_right hr rfl (pa_cons (pv 5) pa_nil)))) (pss_one (ps_ret pe_bl)) pss_nil)
      (pss_cons (ps_set (i := 4) sc_law.nd rfl (.inl rfl) (cal c_law_take hr rfl (pa_cons (pv 1) (pa_cons (pe_callB call_len_seq (by rfl) B.len PySem.boot_len (pa_cons (pv 2) pa_nil)) pa_nil))))
      (pss_cons (ps_set (i := 6) sc_law.nd rfl (.inl rfl) (pe_op op_catA (pe_op op_catA (pe_slice sl_tupA (pv 5) po_none (po_some (pv 4))) (pe_tup (pa_cons (cal c_law_bent hr rfl (pa_cons (pv 1) (pa_cons (pv 2) (pa_cons (pe_ix ix_tup (pv 2) (pv 4) (fun _ _ => rfl)) (pa_cons pe_int pa_nil))))) pa_nil))) (pe_slice sl_tupA (pv 5) (po_some (pe_op op_add (pv 4) pe_int)) po_none)))
      (pss_one (ps_if (PW.pt (pw_or (pt_not (pt_val (cal c_law_is_right hr rfl (pa_cons (pv 6) pa_nil)))) (pw_or1 (pt_not (pt_val (cal c_law_is_right hr rfl (pa_cons (cal c_law_bent hr rfl (pa_cons (pv 1) (pa_cons (pv 2) (pa_cons (pv 2) (pa_cons pe_int pa_nil))))) pa_nil))))))) (pss_one (ps_ret pe_bl)) pss_nil))))))))
    (pss_cons (ps_set (i := 7) sc_law.nd rfl (.inl rfl) (pe_tup (pa_cons (pe_ix ix_list (cal0 c_law_special hr) (cal c_law_take hr rfl (pa_cons (pv 1) (pa_cons pe_int pa_nil))) (fun _ _ => rfl)) (pa_cons (pe_lt (pl_cons (pe_lw (x := [120]) (by decide +kernel)) pl_nil) (by show 1 ≤ sizeLine; decide)) (pa_cons pe_str pa_nil)))))
    (pss_cons (ps_set (i := 8) sc_law.nd rfl (.inl rfl) (pe_op op_catA (pe_op op_catA (pe_slice sl_tupA (pv 2) po_none (po_some pe_int)) (pe_tup (pa_cons (pv 7) pa_nil))) (pe_slice sl_tupA (pv 2) (po_some pe_int) po_none)))
    (pss_cons (ps_for PassesOwn.never rfl (pi_list (pe_lst (pa_cons (cal c_law_wide hr rfl (pa_cons (pv 1) pa_nil)) (pa_cons (cal c_law_numbered hr rfl (pa_cons (pv 1) pa_nil)) (pa_cons (pv 8) (pa_cons (pe_lt pl_nil (by show 0 ≤ sizeLine; decide)) (pa_cons pe_str (pa_cons (pe_lt (pl_cons (pe_lt pl_nil (by show 0 ≤ sizeLine; decide)) pl_nil) (by show 1 ≤ sizeLine; decide)) (pa_cons (pe_lt (pl_cons (pe_lw (x := [109, 97, 105, 110]) (by decide +kernel)) (pl_cons (pe_lw (x := [120]) (by decide +kernel)) pl_nil)) (by show 2 ≤ sizeLine; decide)) (pa_cons (pe_op op_catA (pv 2) (pe_slice sl_tupA (pv 2) po_none (po_some pe_int))) pa_nil)))))))))) (pg_name (i := 9) sc_law.nd rfl (.inl rfl))
      (pss_one (ps_if (pt_not (pt_val (cal c_law_is_right hr rfl (pa_cons (pv 9) pa_nil)))) (pss_one (ps_ret pe_bl)) pss_nil)))
    (pss_cons (ps_if (pt_cmpR op_gt (cal c_law_take hr rfl (pa_cons (pv 1) (pa_cons pe_int pa_nil))) pe_int (nomark _)) (pss_one (ps_ret pe_bl)) pss_nil)
    (pss_cons (ps_set (i := 10) sc_law.nd rfl (.inl rfl) (pe_ix ix_list (pe_lst (pl_cons (pe_lw (x := [120]) (by decide +kernel)) (pl_cons (pe_lw (x := [121]) (by decide +kernel)) (pl_cons (pe_lt (pl_cons (pe_lw (x := [113, 117, 111, 116, 101]) (by decide +kernel)) pl_nil) (by show 1 ≤ sizeLine; decide)) (pl_cons (pe_lt (pl_cons (pe_lw (x := [104, 101, 97, 100]) (by decide +kernel)) pl_nil) (by show 1 ≤ sizeLine; decide)) (pl_cons (pe_lt (pl_cons (pe_lw (x := [109, 97, 105, 110]) (by decide +kernel)) (pl_cons (pe_lw (x := [120]) (by decide +kernel)) (pl_cons (pe_lw (x := [120]) (by decide +kernel)) pl_nil))) (by show 3 ≤ sizeLine; decide)) (pl_cons (pe_lt pl_nil (by show 0 ≤ sizeLine; decide)) pl_nil))))))) (cal c_law_take hr rfl (pa_cons (pv 1) (pa_cons pe_int pa_nil))) (fun _ _ => rfl)))
    (pss_one (ps_ret (cal c_law_is_right hr rfl (pa_cons (cal c_law_deep_body hr rfl (pa_cons (pv 1) (pa_cons (pv 10) pa_nil))) pa_nil))))))))))))), ?_⟩
  -- hand
  refine ⟨_, rfl, a, ns, 700, rfl, hS, h63, by decide, fun d ds H1 k1 nd ed1 dl => ?_⟩
  refine ⟨by show (2 : Nat) ≤ sizeLine; decide, fun h nh => ?_⟩
  have hd0 : Hd (upd H1 h (.lst [.ref d, .int 0])) h d := ⟨0, ds, upd_same, by rw [upd_ne (ne_of_none ed1 nh)]; exact ed1, by omega⟩
  generalize upd H1 h (.lst [.ref d, .int 0]) = H2 at hd0
  -- program
  refine ⟨_, rfl, _, rfl, _, rfl, h, d, 3, rfl, hd0, by decide, fun i H3 i0 i1 k3 hd3 => ?_⟩
  obtain ⟨n, n3, rfl⟩ := nat_of (m := 3) i0 i1
  refine ⟨_, _, rfl, rfl, h, d, 1 + n, ?_, hd3, by omega, fun v0 fs0 H4 tv0 fn0 l1 l5 k4 hd4 => ?_⟩
  · show [V.ref h, V.int (1 + (n : Int))] = _
    rw [show (1 + (n : Int)) = ((1 + n : Nat) : Int) by omega]
  refine ⟨h, d, v0, fs0, rfl, hd4, tv0, fn0, l1, l5, fun v fs H5 tv fn lf k5 hd5 => ?_⟩
  have f1 : 1 ≤ fs.length := by omega
  have f5 : fs.length ≤ 5 := by omega
  clear tv0 fn0 k4 k5
  have wfs : WTs fs := WTs.of fun t m => (fn t m).wt
  have sfs := sizes_le (b := 1009) fun t m => (fn t m).size
  have sfs5 : sizes fs ≤ 5045 := by omega
  refine ⟨_, rfl, v, .l fs, rfl, tv, wt_l wfs, by rw [size_l]; omega, fun ts e => by cases e; omega, fun H6 k6 => ?_⟩
  refine ⟨_, rfl, iteF ?_⟩
  have hd6 := hd5.keep0 k6
  have tv6 := tv.keep k6
  have small : ∀ {z : Nat}, z ≤ 100000 → z ≤ sizeLine := fun h => Nat.le_trans h (by decide)
  have lsz := len_sizes fs
  clear hd5 k6 tv hd4 hd3 hd0
  refine ⟨_, rfl, by decide, by decide, ?_⟩
  refine for_range (lo := 0) (n := (4 : Int).toNat) (fun i σ H' => ∃ (y3 y4 y5 y6 : Option V), σ = [some (.ref a), some (.ref h), some v, y3, y4, y5, y6, none, none, none, none] ∧ Keep [h] H6 H' ∧ Hd H' h d)
    ⟨none, none, none, none, rfl, Keep.refl, hd6⟩ (fun i σ H7 hi pw => ?_) (fun σ H7 pw => ?_)
  · obtain ⟨y3, y4, y5, y6, rfl, k7, hd7⟩ := pw
    have tv7 := tv6.keep k7
    obtain ⟨pa, pvs, rfl, hP, rP⟩ := tv6.list
    have lp := rP.length
    -- at
    refine ⟨_, rfl, _, rfl, pa, pvs, rfl, .inr (k7.sqT hP), h, d, _, rfl, hd7, by omega, fun at' H8 at0 at1 k8 hd8 => ?_⟩
    obtain ⟨n', rfl⟩ := Int.eq_ofNat_of_zero_le at0
    have nl : n' < fs.length := by omega
    have hg : fs[n']? = some fs[n'] := List.getElem?_eq_getElem nl
    have mem := List.getElem_mem nl
    have sp1 := sizes_split hg
    have en : (some ((n' : Int) + 1)) = some ((n' + 1 : Nat) : Int) := by rw [show ((n' + 1 : Nat) : Int) = (n' : Int) + 1 by omega]
    have c1 := cutL_to fs (j := n') (by omega)
    have c2 := cutL_from fs (i := n' + 1) (by omega)
    rw [← en] at c2
    have tv8 := tv7.keep k8
    refine ⟨_, rfl, _, rfl, _, rfl, sl_tr tv8 fun v3 H9 tv3 k9 => ?_⟩
    rw [c1] at tv3
    have hd9 := hd8.keep0 k9
    have tv9 := tv8.keep k9
    refine ⟨_, rfl, _, rfl, _, rfl, _, rfl, ix_tr (t := fs[n']) tv9 (atI_nat hg) fun vb tvb => ?_⟩
    refine ⟨h, d, .ref pa, vb, fs, fs[n'], rfl, hd9, tv9, fn, f1, f5, tvb, (fn _ mem).wt, Nat.le_trans (fn _ mem).size (by decide), fun v6 t6 H10 tv6' wt6 sz6 _ k10 hd10 => ?_⟩
    have sz6' : t6.size ≤ 2038 := Nat.le_trans sz6 (by have := (fn _ mem).size; omega)
    refine ⟨by show (1 : Nat) ≤ sizeLine; decide, fun T1 nT1 => ?_⟩
    obtain ⟨tm, km⟩ := mk_tr (K := K) (H := H10) nT1 (Trs.one tv6')
    refine cat_tr ((tv3.keep k10).keep km) tm (small (by rw [List.length_take, List.length_singleton]; omega)) fun v7 H11 tv7' k11 => ?_
    have kk : Keep [h] H9 H11 := (k10.trans (km.mono (by simp))).trans (k11.mono (by simp))
    refine ⟨_, rfl, _, rfl, _, _, rfl, rfl, _, rfl, ?_⟩
    dsimp only [tNoPart]
    refine sl_tr (tv9.keep kk) fun v8 H12 tv8' k12 => ?_
    rw [c2] at tv8'
    refine cat_tr (tv7'.keep k12) tv8' (small (by rw [List.length_append, List.length_take, List.length_drop, List.length_singleton]; omega)) fun v9 H13 tv9' k13 => ?_
    have k1113 := k12.trans k13
    have k913 := kk.trans (k1113.mono (by simp))
    have hd13 := ((hd10.keep0 km).keep0 k11).keep0 k1113
    obtain ⟨us, eus⟩ : ∃ us, us = List.take n' fs ++ [t6] ++ List.drop (n' + 1) fs := ⟨_, rfl⟩
    have us_l : us.length = fs.length := by rw [eus, List.length_append, List.length_append, List.length_take, List.length_drop, List.length_singleton]; omega
    have us_s : sizes us ≤ 7083 := by rw [eus, sizes_app, sizes_app, sizes_cons, sizes_nil]; omega
    have us_w : ∀ t ∈ us, WT t := fun t m => by
      rw [eus] at m
      rcases List.mem_append.mp m with m | m
      · rcases List.mem_append.mp m with m | m
        · exact (fn t (List.mem_of_mem_take m)).wt
        · rw [List.mem_singleton.mp m]; exact wt6
      · exact (fn t (List.mem_of_mem_drop m)).wt
    rw [← eus] at tv9'
    clear eus
    refine ⟨_, rfl, v9, .l us, rfl, tv9', wt_l (WTs.of us_w), by rw [size_l]; omega, fun ts e => by cases e; omega, fun H14 k14 => ?_⟩
    refine ⟨_, rfl, iteF ?_⟩
    have hd14 := hd13.keep0 k14
    have tu14 := tv9'.keep k14
    have k914 : Keep [h] H9 H14 := k913.trans (k14.mono (by simp))
    have tv14 := tv9.keep k914
    have k714 : Keep [h] H7 H14 := (k8.trans (k9.mono (by simp))).trans k914
    -- the other
    refine ⟨_, rfl, _, rfl, pa, pvs, rfl, .inr ((k7.trans k714).sqT hP), h, d, _, rfl, hd14, by omega, fun bt H15 bt0 bt1 k15 hd15 => ?_⟩
    obtain ⟨m', rfl⟩ := Int.eq_ofNat_of_zero_le bt0
    have ml : m' < fs.length := by omega
    have hgm : fs[m']? = some fs[m'] := List.getElem?_eq_getElem ml
    have memm := List.getElem_mem ml
    have hgu : us[m']? = some us[m'] := List.getElem?_eq_getElem (by omega)
    have sp2 := sizes_split hgu
    have en2 : (some ((m' : Int) + 1)) = some ((m' + 1 : Nat) : Int) := by rw [show ((m' + 1 : Nat) : Int) = (m' : Int) + 1 by omega]
    have d1 := cutL_to us (j := m') (by omega)
    have d2 := cutL_from us (i := m' + 1) (by omega)
    rw [← en2] at d2
    have tv15 := tv14.keep k15
    refine ⟨_, rfl, _, rfl, _, rfl, sl_tr (tu14.keep k15) fun w3 H16 tw3 k16 => ?_⟩
    rw [d1] at tw3
    have hd16 := hd15.keep0 k16
    have tv16 := tv15.keep k16
    have tu16 := (tu14.keep k15).keep k16
    refine ⟨_, rfl, _, rfl, _, rfl, _, rfl, ix_tr (t := fs[m']) tv16 (atI_nat hgm) fun vb2 tvb2 => ?_⟩
    refine ⟨h, d, .ref pa, vb2, fs, fs[m'], rfl, hd16, tv16, fn, f1, f5, tvb2, (fn _ memm).wt, Nat.le_trans (fn _ memm).size (by decide), fun v16 t16 H17 tv17 wt16 sz16 _ k17 hd17 => ?_⟩
    have sz16' : t16.size ≤ 2038 := Nat.le_trans sz16 (by have := (fn _ memm).size; omega)
    refine ⟨by show (1 : Nat) ≤ sizeLine; decide, fun T2 nT2 => ?_⟩
    obtain ⟨tm2, km2⟩ := mk_tr (K := K) (H := H17) nT2 (Trs.one tv17)
    refine cat_tr ((tw3.keep k17).keep km2) tm2 (small (by rw [List.length_take, List.length_singleton]; omega)) fun w7 H18 tw7 k18 => ?_
    have kk2 : Keep [h] H16 H18 := (k17.trans (km2.mono (by simp))).trans (k18.mono (by simp))
    refine ⟨_, rfl, _, rfl, _, _, rfl, rfl, _, rfl, ?_⟩
    dsimp only [tNoPart]
    refine sl_tr (tu16.keep kk2) fun w8 H19 tw8 k19 => ?_
    rw [d2] at tw8
    refine cat_tr (tw7.keep k19) tw8 (small (by rw [List.length_append, List.length_take, List.length_drop, List.length_singleton]; omega)) fun w9 H20 tw9 k20 => ?_
    have k1820 := k19.trans k20
    have k1620 := kk2.trans (k1820.mono (by simp))
    have hd20 := ((hd17.keep0 km2).keep0 k18).keep0 k1820
    obtain ⟨xs, exs⟩ : ∃ xs, xs = List.take m' us ++ [t16] ++ List.drop (m' + 1) us := ⟨_, rfl⟩
    have xs_l : xs.length = us.length := by rw [exs, List.length_append, List.length_append, List.length_take, List.length_drop, List.length_singleton]; omega
    have xs_s : sizes xs ≤ 9121 := by rw [exs, sizes_app, sizes_app, sizes_cons, sizes_nil]; omega
    have xs_w : ∀ t ∈ xs, WT t := fun t m => by
      rw [exs] at m
      rcases List.mem_append.mp m with m | m
      · rcases List.mem_append.mp m with m | m
        · exact us_w t (List.mem_of_mem_take m)
        · rw [List.mem_singleton.mp m]; exact wt16
      · exact us_w t (List.mem_of_mem_drop m)
    rw [← exs] at tw9
    clear exs
    refine ⟨_, rfl, w9, .l xs, rfl, tw9, wt_l (WTs.of xs_w), by rw [size_l]; omega, fun ts e => by cases e; omega, fun H21 k21 => ?_⟩
    refine ⟨_, rfl, iteF ?_⟩
    have hd21 := hd20.keep0 k21
    have k1621 : Keep [h] H16 H21 := k1620.trans (k21.mono (by simp))
    have tv21 := tv16.keep k1621
    refine ⟨_, rfl, _, rfl, _, rfl, h, d, .ref pa, .ref pa, fs, .l fs, rfl, hd21, tv21, fn, f1, f5, tv21, wt_l wfs, by rw [size_l]; omega, fun v22 t22 H22 tv22 wt22 sz22 few22 k22 hd22 => ?_⟩
    refine ⟨v22, t22, rfl, tv22, wt22, Nat.le_trans sz22 (by rw [size_l]; omega), fun ts e => ?_, fun H23 k23 => ?_⟩
    · rcases few22 ts e with l | ⟨ts0, e0, l⟩
      · omega
      · cases e0
        omega
    refine ⟨_, rfl, iteF ?_⟩
    refine ⟨_, _, _, _, rfl, ?_, hd22.keep0 k23⟩
    exact k7.trans (k714.trans (((k15.trans (k16.mono (by simp))).trans k1621).trans (k22.trans (k23.mono (by simp)))))
  · obtain ⟨y3, y4, y5, y6, rfl, k7, hd7⟩ := pw
    have tv7 := tv6.keep k7
    -- special
    refine ⟨rfl, fun S nS => ?_⟩
    have Sh : S ≠ h := (hd7.neH nS).symm
    refine ⟨_, rfl, h, d, 7, rfl, hd7.new nS, by decide, fun j2 H8 j20 j21 k8 hd8 => ?_⟩
    have k78 : Keep [h] H7 H8 := (Keep.new nS).trans k8
    obtain ⟨c, hc, wc, _⟩ := pick (L := specials.map (·.1)) (xs := spw) (by decide +kernel) (by decide) j20 j21
    refine ⟨S, _, _, _, rfl, rfl, SqL.of (k8.get upd_same (by simpa using Sh)), hc, ?_⟩
    refine fun v1 H9 tv1 k9 => ?_
    refine ⟨by show (3 : Nat) ≤ sizeLine; decide, fun T nT => ?_⟩
    obtain ⟨tm, km⟩ := mk_tr (K := K) (H := H9) (vs := [.str (tx c), v1, .str "x"]) (ts := [.w c, .l [.w [120]], .w [120]]) nT (trs_cons tr_w (trs_cons tv1 (Trs.one (tr_s lit_x))))
    generalize upd H9 T (.tup [.str (tx c), v1, .str "x"]) = H10 at tm km
    have wsp : WT (.l [.w c, .l [.w [120]], .w [120]]) := wt_l (wts_cons (wt_w wc) (wts_of (by decide +kernel)))
    have ssp : (Tree.l [.w c, .l [.w [120]], .w [120]]).size ≤ 5 := by rw [size_l, sizes_cons, size_w]; show 1 + sizes [.l [.w [120]], .w [120]] + 1 ≤ 5; decide +kernel
    generalize Tree.l [.w c, .l [.w [120]], .w [120]] = SP at tm wsp ssp
    have k810 := k9.trans km
    have k710 : Keep [h] H7 H10 := k78.trans (k810.mono (by simp))
    have hd10 := hd8.keep0 k810
    -- named
    have c1 := cutL_to fs (j := 1) f1
    have c2 := cutL_from fs (i := 1) f1
    refine ⟨_, rfl, ?_⟩
    dsimp only [tNoPart]
    refine ⟨_, rfl, sl_tr (tv7.keep k710) fun v3 H11 tv3 k11 => ?_⟩
    rw [show (some (1 : Int)) = some ((1 : Nat) : Int) from rfl, c1] at tv3
    refine ⟨_, rfl, by show (1 : Nat) ≤ sizeLine; decide, fun T2 nT2 => ?_⟩
    obtain ⟨tm2, km2⟩ := mk_tr (K := K) (H := H11) nT2 (Trs.one (tm.keep k11))
    refine cat_tr (tv3.keep km2) tm2 (small (by rw [List.length_take, List.length_singleton]; omega)) fun v4 H12 tv4 k12 => ?_
    have k1012 := (k11.trans km2).trans k12
    refine ⟨_, rfl, _, rfl, ?_⟩
    dsimp only [tNoPart]
    refine sl_tr ((tv7.keep k710).keep k1012) fun v5 H13 tv5 k13 => ?_
    rw [show (some (1 : Int)) = some ((1 : Nat) : Int) from rfl, c2] at tv5
    refine cat_tr (tv4.keep k13) tv5 (small (by rw [List.length_append, List.length_take, List.length_drop, List.length_singleton]; omega)) fun v9 H14 tv9 k14 => ?_
    have k1014 := (k1012.trans k13).trans k14
    have sp2 := sizes_two fs 1
    obtain ⟨us, eus⟩ : ∃ us, us = List.take 1 fs ++ [SP] ++ List.drop 1 fs := ⟨_, rfl⟩
    have us_l : us.length ≤ 10 := by rw [eus, List.length_append, List.length_append, List.length_take, List.length_drop, List.length_singleton]; omega
    have us_s : sizes us ≤ 6000 := by rw [eus, sizes_app, sizes_app, sizes_cons, sizes_nil]; omega
    have us_w : ∀ t ∈ us, WT t := fun t m => by
      rw [eus] at m
      rcases List.mem_append.mp m with m | m
      · rcases List.mem_append.mp m with m | m
        · exact (fn t (List.mem_of_mem_take m)).wt
        · rw [List.mem_singleton.mp m]; exact wsp
      · exact (fn t (List.mem_of_mem_drop m)).wt
    rw [← eus] at tv9
    clear eus
    have hd14 := hd10.keep0 k1014
    have tv14 := (tv7.keep k710).keep k1014
    have k714 : Keep [h] H7 H14 := k710.trans (k1014.mono (by simp))
    -- the list
    refine ⟨_, rfl, h, d, rfl, hd14, fun u1 ts1 H15 tu1 w1 s1 l1 k15 hd15 => ?_⟩
    refine ⟨_, rfl, h, d, rfl, hd15, fun u2 ts2 H16 tu2 w2 s2 l2 k16 hd16 => ?_⟩
    refine ⟨_, rfl, ?_⟩
    refine fun u4 H17 tu4 k17 => ?_
    refine fun u6 H18 tu6 k18 => ?_
    refine fun u7 H19 tu7 k19 => ?_
    have k1719 := k18.trans k19
    have k1619 := k17.trans k1719
    have k1419 : Keep [h] H14 H19 := (k15.trans k16).trans (k1619.mono (by simp))
    have k1519 : Keep [h] H15 H19 := k16.trans (k1619.mono (by simp))
    have tv19 := tv14.keep k1419
    refine ⟨_, rfl, _, rfl, ?_⟩
    dsimp only [tNoPart]
    refine ⟨_, rfl, sl_tr tv19 fun u0 H20 tu0 k20 => ?_⟩
    rw [show (some (1 : Int)) = some ((1 : Nat) : Int) from rfl, c1] at tu0
    refine cat_tr (tv19.keep k20) tu0 (small (by rw [List.length_take]; omega)) fun u8 H21 tu8 k21 => ?_
    have k1921 := k20.trans k21
    have k1621 := k1619.trans k1921
    have k1721 := k1719.trans k1921
    have k1521 := k1519.trans (k1921.mono (by simp))
    have k1421 : Keep [h] H14 H21 := k1419.trans (k1921.mono (by simp))
    have hd21 := (hd16.keep0 k1621)
    refine ⟨by show (8 : Nat) ≤ sizeLine; decide, fun p np => ?_⟩
    have ph : p ≠ h := (hd21.neH np).symm
    have kp : Keep [] H21 (upd H21 p (.lst [u1, u2, v9, u4, .str "main", u6, u7, u8])) := Keep.new np
    have ep : (upd H21 p (.lst [u1, u2, v9, u4, .str "main", u6, u7, u8])) p = some (.lst [u1, u2, v9, u4, .str "main", u6, u7, u8]) := upd_same
    have rr : Trs K H21 [u1, u2, v9, u4, .str "main", u6, u7, u8] [.l ts1, .l ts2, .l us, .l [], .w [109, 97, 105, 110], .l [.l []], .l [.w [109, 97, 105, 110], .w [120]], .l (fs ++ fs.take 1)] :=
      trs_cons (tu1.keep k1521) (trs_cons (tu2.keep k1621) (trs_cons (tv9.keep k1421) (trs_cons (tu4.keep k1721) (trs_cons (tr_s lit_main) (trs_cons ((tu6.keep k19).keep k1921) (trs_cons (tu7.keep k1921) (Trs.one tu8)))))))
    have rr := rr.keep kp
    have ok8 : ∀ t ∈ [.l ts1, .l ts2, .l us, .l [], .w [109, 97, 105, 110], .l [.l []], .l [.w [109, 97, 105, 110], .w [120]], .l (fs ++ fs.take 1)], OkT t := by
      have s8 := sizes_take fs 1
      intro t m
      simp only [List.mem_cons, List.not_mem_nil, or_false] at m
      rcases m with rfl | rfl | rfl | rfl | rfl | rfl | rfl | rfl
      · exact okT w1 (by omega) (by omega)
      · exact okT w2 (by omega) (by omega)
      · exact okT (WTs.of us_w) (by omega) (by omega)
      · exact okT wts_nil (by decide +kernel) (by decide)
      · exact ⟨ww (by decide), by rw [size_w]; decide, fun fs e => by cases e⟩
      · exact okT (wts_of (by decide +kernel)) (by decide +kernel) (by decide)
      · exact okT (wts_of (by decide +kernel)) (by decide +kernel) (by decide)
      · refine okT (WTs.of fun t m => ?_) (by rw [sizes_app]; omega) (by rw [List.length_append, List.length_take]; omega)
        rcases List.mem_append.mp m with m | m
        · exact (fn t m).wt
        · exact (fn t (List.mem_of_mem_take m)).wt
    have hd22 := hd21.keep0 kp
    generalize upd H21 p (.lst [u1, u2, v9, u4, .str "main", u6, u7, u8]) = H22 at kp ep rr hd22
    generalize [u1, u2, v9, u4, .str "main", u6, u7, u8] = xs at ep rr
    generalize ([.l ts1, .l ts2, .l us, .l [], .w [109, 97, 105, 110], .l [.l []], .l [.w [109, 97, 105, 110], .w [120]], .l (fs ++ fs.take 1)] : List Tree) = ys at rr ok8
    refine ⟨p, rfl, ⟨_, SqL.of ep⟩, ?_⟩
    refine for_list (K := K) (a := p) (xs := xs) (D := { nx := _, rt := Q }) (fun i σ H' => ∃ y9 : Option V, σ = [some (.ref a), some (.ref h), some v, y3, y4, y5, y6, some (.ref T), some v9, y9, none] ∧ Keep [] H22 H') ⟨none, rfl, Keep.refl⟩ (fun i σ H' _ pw => ?_) (fun i z σ H23 hz pw => ?_) (fun σ H23 pw => ?_)
    · obtain ⟨_, rfl, kk⟩ := pw
      exact SqL.of (kk.get ep (by simp))
    · obtain ⟨y9, rfl, kk⟩ := pw
      have lr := rr.length
      have il : i < xs.length := (List.getElem?_eq_some_iff.mp hz).1
      obtain ⟨z', hz', tz⟩ := rr.get (List.getElem?_eq_getElem (show i < ys.length by omega))
      rw [hz] at hz'
      cases hz'
      obtain ⟨o1, o2, o3⟩ := ok8 _ (List.getElem_mem (show i < ys.length by omega))
      refine ⟨_, rfl, z, _, rfl, tz.keep kk, o1, o2, o3, fun H24 k24 => ?_⟩
      refine ⟨_, rfl, iteF ?_⟩
      exact ⟨_, rfl, kk.trans k24⟩
    · obtain ⟨y9, rfl, kk⟩ := pw
      have hd23 := hd22.keep0 kk
      refine ⟨_, rfl, h, d, 2, rfl, hd23, by decide, fun j3 H24 j30 j31 k24 hd24 => ?_⟩
      refine ⟨_, _, rfl, rfl, _, rfl, ite2 (fun _ => q H24) (fun _ => ?_)⟩
      refine fun vs H25 tvs k25 => ⟨by rw [tvs.length]; show (6 : Nat) ≤ sizeLine; decide, fun U nU => ?_⟩
      have hd25 := hd24.keep0 k25
      have Uh : U ≠ h := (hd25.neH nU).symm
      refine ⟨_, rfl, h, d, 6, rfl, hd25.new nU, by decide, fun j6 H26 j60 j61 k26 hd26 => ?_⟩
      have kU : Keep [h] H25 H26 := (Keep.new (S := [h]) nU).trans k26
      obtain ⟨x, t, hx, tx', mt⟩ := pickT (tvs.keep kU) j60 (by show j6 < 6; omega)
      refine ⟨U, _, _, _, rfl, rfl, SqL.of (k26.get upd_same (by simpa using Uh)), hx, ?_⟩
      refine ⟨_, rfl, _, rfl, h, d, x, t, rfl, hd26, tx', innl_wt t mt, innl_size t mt, fun v2 ts H27 tv2 w2' s2' l2' k27 hd27 => ?_⟩
      refine ⟨v2, _, rfl, tv2, wt_l w2', by rw [size_l]; omega, fun fs e => by cases e; omega, fun H28 k28 => q H28⟩
theorem all_mk {l : PySem.W.OpenLaw} {w : World} {K : PySem.W.Frag} {h : Heap} {mg : Str → Option Value} {fa f0 f1 f2 f3 f4 f5 f6 f7 f8 f9 f10 f11 f12 f13 f14 f15 f16 f17 f18 f19 f20 f21 f22 f23 f24 f25 f26 f27 f28 : Addr} (X : K.In h) (G : h.Ns mainGlobals mg) (hfa : mg "law" = some (.ref fa))
    {Dd0 : Addr} {Des0 : Array DictEntry} {Dn0 : Nat}
    {PC0 : Addr}
    {CG : Addr} {C0 I0 N0 C1 I1 N1 : Addr} {nm0 q0 nm1 q1 : Str} {bs0 bm0 sub0 bs1 bm1 sub1 : List Value} {sn0 sn1 : List Str} {ab0 ab1 : Bool} {col0 col1 : Option Bool} {dd0 eod0 ean0 dd1 eod1 ean1 : Option Addr} {u0 v0 w0 x0 y0 u1 v1 w1 x1 y1 : Option Value} {esl0 esl1 : Array (Option Value)} {eoc0 ekV0 edc0 epm0 ecd0 ect0 eoc1 ekV1 edc1 epm1 ecd1 ect1 : Value}
    {od0 an0 od1 an1 od2 an2 od3 an3 od4 an4 od5 an5 od6 an6 od7 an7 od8 an8 od9 an9 od10 an10 od11 an11 od12 an12 od13 an13 od14 an14 od15 an15 od16 an16 od17 an17 od18 an18 od19 an19 od20 an20 od21 an21 od22 an22 od23 an23 od24 an24 od25 an25 od26 an26 od27 an27 od28 an28 : Option Addr} {sl0 sl1 sl2 sl3 sl4 sl5 sl6 sl7 sl8 sl9 sl10 sl11 sl12 sl13 sl14 sl15 sl16 sl17 sl18 sl19 sl20 sl21 sl22 sl23 sl24 sl25 sl26 sl27 sl28 : Array (Option Value)} {oc0 kV0 dc0 pm0 cd0 ct0 oc1 kV1 dc1 pm1 cd1 ct1 oc2 kV2 dc2 pm2 cd2 ct2 oc3 kV3 dc3 pm3 cd3 ct3 oc4 kV4 dc4 pm4 cd4 ct4 oc5 kV5 dc5 pm5 cd5 ct5 oc6 kV6 dc6 pm6 cd6 ct6 oc7 kV7 dc7 pm7 cd7 ct7 oc8 kV8 dc8 pm8 cd8 ct8 oc9 kV9 dc9 pm9 cd9 ct9 oc10 kV10 dc10 pm10 cd10 ct10 oc11 kV11 dc11 pm11 cd11 ct11 oc12 kV12 dc12 pm12 cd12 ct12 oc13 kV13 dc13 pm13 cd13 ct13 oc14 kV14 dc14 pm14 cd14 ct14 oc15 kV15 dc15 pm15 cd15 ct15 oc16 kV16 dc16 pm16 cd16 ct16 oc17 kV17 dc17 pm17 cd17 ct17 oc18 kV18 dc18 pm18 cd18 ct18 oc19 kV19 dc19 pm19 cd19 ct19 oc20 kV20 dc20 pm20 cd20 ct20 oc21 kV21 dc21 pm21 cd21 ct21 oc22 kV22 dc22 pm22 cd22 ct22 oc23 kV23 dc23 pm23 cd23 ct23 oc24 kV24 dc24 pm24 cd24 ct24 oc25 kV25 dc25 pm25 cd25 ct25 oc26 kV26 dc26 pm26 cd26 ct26 oc27 kV27 dc27 pm27 cd27 ct27 oc28 kV28 dc28 pm28 cd28 ct28 : Value} {t0 : Tok}
    (a0 : PySem.W.nsIn K mainGlobals "check_program" = some (some (.ref f0))) (l0 : K.lookup f0 = some ⟨oc0, od0, .func (PySem.W.fnOf "check_program" "check_program" (defArgs s_check_program) (defBody s_check_program) (defScope s_check_program) .none kV0 dc0 pm0 an0 cd0 ct0), sl0⟩) (c0 : PySem.W.codeIn K cd0 "check_program" = true) (k0 : PySem.W.keepIn K (.ref f0) = true)
    (a1 : PySem.W.nsIn K mainGlobals "_called_functions" = some (some (.ref f1))) (l1 : K.lookup f1 = some ⟨oc1, od1, .func (PySem.W.fnOf "_called_functions" "_called_functions" (defArgs s_called_functions) (defBody s_called_functions) (defScope s_called_functions) .none kV1 dc1 pm1 an1 cd1 ct1), sl1⟩) (c1 : PySem.W.codeIn K cd1 "_called_functions" = true) (k1 : PySem.W.keepIn K (.ref f1) = true)
    (a2 : PySem.W.nsIn K mainGlobals "_looks_like_function" = some (some (.ref f2))) (l2 : K.lookup f2 = some ⟨oc2, od2, .func (PySem.W.fnOf "_looks_like_function" "_looks_like_function" (defArgs s_looks_like_function) (defBody s_looks_like_function) (defScope s_looks_like_function) .none kV2 dc2 pm2 an2 cd2 ct2), sl2⟩) (c2 : PySem.W.codeIn K cd2 "_looks_like_function" = true) (k2 : PySem.W.keepIn K (.ref f2) = true)
    (a3 : PySem.W.nsIn K mainGlobals "_is_good_function" = some (some (.ref f3))) (l3 : K.lookup f3 = some ⟨oc3, od3, .func (PySem.W.fnOf "_is_good_function" "_is_good_function" (defArgs s_is_good_function) (defBody s_is_good_function) (defScope s_is_good_function) .none kV3 dc3 pm3 an3 cd3 ct3), sl3⟩) (c3 : PySem.W.codeIn K cd3 "_is_good_function" = true) (k3 : PySem.W.keepIn K (.ref f3) = true)
    (a4 : PySem.W.nsIn K mainGlobals "_is_good_name" = some (some (.ref f4))) (l4 : K.lookup f4 = some ⟨oc4, od4, .func (PySem.W.fnOf "_is_good_name" "_is_good_name" (defArgs s_is_good_name) (defBody s_is_good_name) (defScope s_is_good_name) .none kV4 dc4 pm4 an4 cd4 ct4), sl4⟩) (c4 : PySem.W.codeIn K cd4 "_is_good_name" = true) (k4 : PySem.W.keepIn K (.ref f4) = true)
    (a5 : PySem.W.nsIn K mainGlobals "_are_good_parameters" = some (some (.ref f5))) (l5 : K.lookup f5 = some ⟨oc5, od5, .func (PySem.W.fnOf "_are_good_parameters" "_are_good_parameters" (defArgs s_are_good_parameters) (defBody s_are_good_parameters) (defScope s_are_good_parameters) .none kV5 dc5 pm5 an5 cd5 ct5), sl5⟩) (c5 : PySem.W.codeIn K cd5 "_are_good_parameters" = true) (k5 : PySem.W.keepIn K (.ref f5) = true)
    (a6 : PySem.W.nsIn K mainGlobals "_is_good_body" = some (some (.ref f6))) (l6 : K.lookup f6 = some ⟨oc6, od6, .func (PySem.W.fnOf "_is_good_body" "_is_good_body" (defArgs s_is_good_body) (defBody s_is_good_body) (defScope s_is_good_body) .none kV6 dc6 pm6 an6 cd6 ct6), sl6⟩) (c6 : PySem.W.codeIn K cd6 "_is_good_body" = true) (k6 : PySem.W.keepIn K (.ref f6) = true)
    (a7 : PySem.W.nsIn K mainGlobals "_has_right_parts" = some (some (.ref f7))) (l7 : K.lookup f7 = some ⟨oc7, od7, .func (PySem.W.fnOf "_has_right_parts" "_has_right_parts" (defArgs s_has_right_parts) (defBody s_has_right_parts) (defScope s_has_right_parts) .none kV7 dc7 pm7 an7 cd7 ct7), sl7⟩) (c7 : PySem.W.codeIn K cd7 "_has_right_parts" = true) (k7 : PySem.W.keepIn K (.ref f7) = true)
    (a8 : PySem.W.nsIn K mainGlobals "_law_draws" = some (some (.ref f8))) (l8 : K.lookup f8 = some ⟨oc8, od8, .func (PySem.W.fnOf "_law_draws" "_law_draws" (defArgs s_law_draws) (defBody s_law_draws) (defScope s_law_draws) .none kV8 dc8 pm8 an8 cd8 ct8), sl8⟩) (c8 : PySem.W.codeIn K cd8 "_law_draws" = true) (k8 : PySem.W.keepIn K (.ref f8) = true)
    (a9 : PySem.W.nsIn K mainGlobals "_law_take" = some (some (.ref f9))) (l9 : K.lookup f9 = some ⟨oc9, od9, .func (PySem.W.fnOf "_law_take" "_law_take" (defArgs s_law_take) (defBody s_law_take) (defScope s_law_take) .none kV9 dc9 pm9 an9 cd9 ct9), sl9⟩) (c9 : PySem.W.codeIn K cd9 "_law_take" = true) (k9 : PySem.W.keepIn K (.ref f9) = true)
    (a10 : PySem.W.nsIn K mainGlobals "_law_value" = some (some (.ref f10))) (l10 : K.lookup f10 = some ⟨oc10, od10, .func (PySem.W.fnOf "_law_value" "_law_value" (defArgs s_law_value) (defBody s_law_value) (defScope s_law_value) .none kV10 dc10 pm10 an10 cd10 ct10), sl10⟩) (c10 : PySem.W.codeIn K cd10 "_law_value" = true) (k10 : PySem.W.keepIn K (.ref f10) = true)
    (a11 : PySem.W.nsIn K mainGlobals "_law_expression" = some (some (.ref f11))) (l11 : K.lookup f11 = some ⟨oc11, od11, .func (PySem.W.fnOf "_law_expression" "_law_expression" (defArgs s_law_expression) (defBody s_law_expression) (defScope s_law_expression) .none kV11 dc11 pm11 an11 cd11 ct11), sl11⟩) (c11 : PySem.W.codeIn K cd11 "_law_expression" = true) (k11 : PySem.W.keepIn K (.ref f11) = true)
    (a12 : PySem.W.nsIn K mainGlobals "_law_library" = some (some (.ref f12))) (l12 : K.lookup f12 = some ⟨oc12, od12, .func (PySem.W.fnOf "_law_library" "_law_library" (defArgs s_law_library) (defBody s_law_library) (defScope s_law_library) .none kV12 dc12 pm12 an12 cd12 ct12), sl12⟩) (c12 : PySem.W.codeIn K cd12 "_law_library" = true) (k12 : PySem.W.keepIn K (.ref f12) = true)
    (a13 : PySem.W.nsIn K mainGlobals "_law_program" = some (some (.ref f13))) (l13 : K.lookup f13 = some ⟨oc13, od13, .func (PySem.W.fnOf "_law_program" "_law_program" (defArgs s_law_program) (defBody s_law_program) (defScope s_law_program) .none kV13 dc13 pm13 an13 cd13 ct13), sl13⟩) (c13 : PySem.W.codeIn K cd13 "_law_program" = true) (k13 : PySem.W.keepIn K (.ref f13) = true)
    (a14 : PySem.W.nsIn K mainGlobals "_law_many" = some (some (.ref f14))) (l14 : K.lookup f14 = some ⟨oc14, od14, .func (PySem.W.fnOf "_law_many" "_law_many" (defArgs s_law_many) (defBody s_law_many) (defScope s_law_many) .none kV14 dc14 pm14 an14 cd14 ct14), sl14⟩) (c14 : PySem.W.codeIn K cd14 "_law_many" = true) (k14 : PySem.W.keepIn K (.ref f14) = true)
    (a15 : PySem.W.nsIn K mainGlobals "_law_special" = some (some (.ref f15))) (l15 : K.lookup f15 = some ⟨oc15, od15, .func (PySem.W.fnOf "_law_special" "_law_special" (defArgs s_law_special) (defBody s_law_special) (defScope s_law_special) .none kV15 dc15 pm15 an15 cd15 ct15), sl15⟩) (c15 : PySem.W.codeIn K cd15 "_law_special" = true) (k15 : PySem.W.keepIn K (.ref f15) = true)
    (a16 : PySem.W.nsIn K mainGlobals "_law_expression_good" = some (some (.ref f16))) (l16 : K.lookup f16 = some ⟨oc16, od16, .func (PySem.W.fnOf "_law_expression_good" "_law_expression_good" (defArgs s_law_expression_good) (defBody s_law_expression_good) (defScope s_law_expression_good) .none kV16 dc16 pm16 an16 cd16 ct16), sl16⟩) (c16 : PySem.W.codeIn K cd16 "_law_expression_good" = true) (k16 : PySem.W.keepIn K (.ref f16) = true)
    (a17 : PySem.W.nsIn K mainGlobals "_law_name_good" = some (some (.ref f17))) (l17 : K.lookup f17 = some ⟨oc17, od17, .func (PySem.W.fnOf "_law_name_good" "_law_name_good" (defArgs s_law_name_good) (defBody s_law_name_good) (defScope s_law_name_good) .none kV17 dc17 pm17 an17 cd17 ct17), sl17⟩) (c17 : PySem.W.codeIn K cd17 "_law_name_good" = true) (k17 : PySem.W.keepIn K (.ref f17) = true)
    (a18 : PySem.W.nsIn K mainGlobals "_law_function_good" = some (some (.ref f18))) (l18 : K.lookup f18 = some ⟨oc18, od18, .func (PySem.W.fnOf "_law_function_good" "_law_function_good" (defArgs s_law_function_good) (defBody s_law_function_good) (defScope s_law_function_good) .none kV18 dc18 pm18 an18 cd18 ct18), sl18⟩) (c18 : PySem.W.codeIn K cd18 "_law_function_good" = true) (k18 : PySem.W.keepIn K (.ref f18) = true)
    (a19 : PySem.W.nsIn K mainGlobals "_law_bad_function" = some (some (.ref f19))) (l19 : K.lookup f19 = some ⟨oc19, od19, .func (PySem.W.fnOf "_law_bad_function" "_law_bad_function" (defArgs s_law_bad_function) (defBody s_law_bad_function) (defScope s_law_bad_function) .none kV19 dc19 pm19 an19 cd19 ct19), sl19⟩) (c19 : PySem.W.codeIn K cd19 "_law_bad_function" = true) (k19 : PySem.W.keepIn K (.ref f19) = true)
    (a20 : PySem.W.nsIn K mainGlobals "_law_is_right" = some (some (.ref f20))) (l20 : K.lookup f20 = some ⟨oc20, od20, .func (PySem.W.fnOf "_law_is_right" "_law_is_right" (defArgs s_law_is_right) (defBody s_law_is_right) (defScope s_law_is_right) .none kV20 dc20 pm20 an20 cd20 ct20), sl20⟩) (c20 : PySem.W.codeIn K cd20 "_law_is_right" = true) (k20 : PySem.W.keepIn K (.ref f20) = true)
    (a21 : PySem.W.nsIn K mainGlobals "_law_called" = some (some (.ref f21))) (l21 : K.lookup f21 = some ⟨oc21, od21, .func (PySem.W.fnOf "_law_called" "_law_called" (defArgs s_law_called) (defBody s_law_called) (defScope s_law_called) .none kV21 dc21 pm21 an21 cd21 ct21), sl21⟩) (c21 : PySem.W.codeIn K cd21 "_law_called" = true) (k21 : PySem.W.keepIn K (.ref f21) = true)
    (a22 : PySem.W.nsIn K mainGlobals "_law_other_names" = some (some (.ref f22))) (l22 : K.lookup f22 = some ⟨oc22, od22, .func (PySem.W.fnOf "_law_other_names" "_law_other_names" (defArgs s_law_other_names) (defBody s_law_other_names) (defScope s_law_other_names) .none kV22 dc22 pm22 an22 cd22 ct22), sl22⟩) (c22 : PySem.W.codeIn K cd22 "_law_other_names" = true) (k22 : PySem.W.keepIn K (.ref f22) = true)
    (a23 : PySem.W.nsIn K mainGlobals "_law_odd" = some (some (.ref f23))) (l23 : K.lookup f23 = some ⟨oc23, od23, .func (PySem.W.fnOf "_law_odd" "_law_odd" (defArgs s_law_odd) (defBody s_law_odd) (defScope s_law_odd) .none kV23 dc23 pm23 an23 cd23 ct23), sl23⟩) (c23 : PySem.W.codeIn K cd23 "_law_odd" = true) (k23 : PySem.W.keepIn K (.ref f23) = true)
    (a24 : PySem.W.nsIn K mainGlobals "_law_bent" = some (some (.ref f24))) (l24 : K.lookup f24 = some ⟨oc24, od24, .func (PySem.W.fnOf "_law_bent" "_law_bent" (defArgs s_law_bent) (defBody s_law_bent) (defScope s_law_bent) .none kV24 dc24 pm24 an24 cd24 ct24), sl24⟩) (c24 : PySem.W.codeIn K cd24 "_law_bent" = true) (k24 : PySem.W.keepIn K (.ref f24) = true)
    (a25 : PySem.W.nsIn K mainGlobals "_law_wide" = some (some (.ref f25))) (l25 : K.lookup f25 = some ⟨oc25, od25, .func (PySem.W.fnOf "_law_wide" "_law_wide" (defArgs s_law_wide) (defBody s_law_wide) (defScope s_law_wide) .none kV25 dc25 pm25 an25 cd25 ct25), sl25⟩) (c25 : PySem.W.codeIn K cd25 "_law_wide" = true) (k25 : PySem.W.keepIn K (.ref f25) = true)
    (a26 : PySem.W.nsIn K mainGlobals "_law_numbered" = some (some (.ref f26))) (l26 : K.lookup f26 = some ⟨oc26, od26, .func (PySem.W.fnOf "_law_numbered" "_law_numbered" (defArgs s_law_numbered) (defBody s_law_numbered) (defScope s_law_numbered) .none kV26 dc26 pm26 an26 cd26 ct26), sl26⟩) (c26 : PySem.W.codeIn K cd26 "_law_numbered" = true) (k26 : PySem.W.keepIn K (.ref f26) = true)
    (a27 : PySem.W.nsIn K mainGlobals "_law_deep_body" = some (some (.ref f27))) (l27 : K.lookup f27 = some ⟨oc27, od27, .func (PySem.W.fnOf "_law_deep_body" "_law_deep_body" (defArgs s_law_deep_body) (defBody s_law_deep_body) (defScope s_law_deep_body) .none kV27 dc27 pm27 an27 cd27 ct27), sl27⟩) (c27 : PySem.W.codeIn K cd27 "_law_deep_body" = true) (k27 : PySem.W.keepIn K (.ref f27) = true)
    (a28 : PySem.W.nsIn K mainGlobals "law" = some (some (.ref f28))) (l28 : K.lookup f28 = some ⟨oc28, od28, .func (PySem.W.fnOf "law" "law" (defArgs s_law) (defBody s_law) (defScope s_law) .none kV28 dc28 pm28 an28 cd28 ct28), sl28⟩) (c28 : PySem.W.codeIn K cd28 "law" = true) (k28 : PySem.W.keepIn K (.ref f28) = true)
    (zlen : PySem.W.nsIn K mainGlobals "len" = some none)
    (zrange : PySem.W.nsIn K mainGlobals "range" = some none)
    (zint : PySem.W.nsIn K mainGlobals "int" = some none)
    (zabs : PySem.W.nsIn K mainGlobals "abs" = some none)
    (zstr : PySem.W.nsIn K mainGlobals "str" = some none)
    (ztuple : PySem.W.nsIn K mainGlobals "tuple" = some none)
    (zlist : PySem.W.nsIn K mainGlobals "list" = some none)
    (zbool : PySem.W.nsIn K mainGlobals "bool" = some none)
    (zisinstance : PySem.W.nsIn K mainGlobals "isinstance" = some none)
    (zValueError : PySem.W.nsIn K mainGlobals "ValueError" = some none)
    (zenumerate : PySem.W.nsIn K mainGlobals "enumerate" = some none)
    (zset : PySem.W.nsIn K mainGlobals "set" = some none)
    (eG : PySem.W.nsIn K mainGlobals "GlassError" = some (some (.ref CG))) (eRd : PySem.W.readsIn K CG (.type "type") = true) (eSg : PySem.W.specialIn K (.ref CG) "__getattribute__" = some (some (.builtin "type.__getattribute__"))) (eVv : PySem.W.findCls K (.ref CG) (.type "type") "__init__" = some (.val (.builtin "ValueError.__init__"))) (eGt : PySem.W.specialIn K (.builtin "object.__class__") "__get__" = some (some (.builtin "getset_descriptor.__get__"))) (eTk : PySem.W.takesIn K (.builtin "object.__class__") = some true)
    (eC0 : PySem.W.nsIn K mainGlobals "BadText" = some (some (.ref C0))) (eL0 : K.lookup C0 = some (excClassObj nm0 q0 C0 N0 bs0 bm0 true sn0 sub0 ab0 col0 dd0 u0 v0 w0 x0 y0 "ValueError.__new__")) (eR0 : PySem.HandSPX.refsVE bm0 = true)
    (eS0 : PySem.W.findIn K (.ref C0) "__setattr__" = some (some (.builtin "object.__setattr__"))) (eX0 : PySem.W.subIn K (.ref C0) (.type "BaseException") = some true) (eT0 : PySem.W.typeIn K (.ref C0) = some (.type "type")) (eK0 : PySem.W.keepIn K (.ref C0) = true)
    (eI0 : PySem.W.findIn K (.ref C0) "__init__" = some (some (.ref I0))) (eY0 : PySem.W.typeIn K (.ref I0) = some (.type "function")) (eN0 : PySem.W.findIn K (.ref C0) "place" = some none)
    (eF0 : K.lookup I0 = some ⟨eoc0, eod0, .func (PySem.W.fnOf "__init__" "BadText.__init__" (defArgs s_BadText_init) (defBody s_BadText_init) (defScope s_BadText_init) .none ekV0 edc0 epm0 ean0 ecd0 ect0), esl0⟩) (eD0 : PySem.W.codeIn K ecd0 "BadText.__init__" = true) (eP0 : PySem.W.keepIn K (.ref I0) = true)
    (eA0 : PySem.W.findIn K (.ref C0) "__getattribute__" = some (some (.builtin "BaseException.__getattribute__"))) (eB0 : PySem.W.findIn K (.ref C0) "__getattr__" = some none) (eH0 : PySem.W.hasDictIn K C0 = true) (eQ0 : PySem.W.isClsIn K C0 = true) (eZ0 : PySem.W.subIn K (.ref C0) (.ref C0) = some true)
    (eE0 : PySem.W.findIn K (.ref C0) "__class__" = some (some (.builtin "object.__class__"))) (eU0 : PySem.W.kitOne K (.ref C0) (.ref CG) = some true) (eV0 : PySem.W.kitOne K (.ref C0) (.type "ValueError") = some true) (eM0 : PySem.W.mroIn K C0 (.type "object") = some true)
    (eC1 : PySem.W.nsIn K mainGlobals "BadProgram" = some (some (.ref C1))) (eL1 : K.lookup C1 = some (excClassObj nm1 q1 C1 N1 bs1 bm1 true sn1 sub1 ab1 col1 dd1 u1 v1 w1 x1 y1 "ValueError.__new__")) (eR1 : PySem.HandSPX.refsVE bm1 = true)
    (eS1 : PySem.W.findIn K (.ref C1) "__setattr__" = some (some (.builtin "object.__setattr__"))) (eX1 : PySem.W.subIn K (.ref C1) (.type "BaseException") = some true) (eT1 : PySem.W.typeIn K (.ref C1) = some (.type "type")) (eK1 : PySem.W.keepIn K (.ref C1) = true)
    (eI1 : PySem.W.findIn K (.ref C1) "__init__" = some (some (.ref I1))) (eY1 : PySem.W.typeIn K (.ref I1) = some (.type "function")) (eN1 : PySem.W.findIn K (.ref C1) "function" = some none)
    (eF1 : K.lookup I1 = some ⟨eoc1, eod1, .func (PySem.W.fnOf "__init__" "BadProgram.__init__" (defArgs s_BadProgram_init) (defBody s_BadProgram_init) (defScope s_BadProgram_init) .none ekV1 edc1 epm1 ean1 ecd1 ect1), esl1⟩) (eD1 : PySem.W.codeIn K ecd1 "BadProgram.__init__" = true) (eP1 : PySem.W.keepIn K (.ref I1) = true)
    (eA1 : PySem.W.findIn K (.ref C1) "__getattribute__" = some (some (.builtin "BaseException.__getattribute__"))) (eB1 : PySem.W.findIn K (.ref C1) "__getattr__" = some none) (eH1 : PySem.W.hasDictIn K C1 = true) (eQ1 : PySem.W.isClsIn K C1 = true) (eZ1 : PySem.W.subIn K (.ref C1) (.ref C1) = some true)
    (eE1 : PySem.W.findIn K (.ref C1) "__class__" = some (some (.builtin "object.__class__"))) (eU1 : PySem.W.kitOne K (.ref C1) (.ref CG) = some true) (eV1 : PySem.W.kitOne K (.ref C1) (.type "ValueError") = some true) (eM1 : PySem.W.mroIn K C1 (.type "object") = some true)
    (eW0x1 : PySem.W.kitOne K (.ref C0) (.ref C1) = some false)
    (eW1x0 : PySem.W.kitOne K (.ref C1) (.ref C0) = some false)
    (xG0 : PySem.W.nsIn K mainGlobals "BadInputs" = some (some (.ref PC0)))
    (xK0p0 : PySem.W.kitOne K (.ref C0) (.ref PC0) = some false)
    (xK1p0 : PySem.W.kitOne K (.ref C1) (.ref PC0) = some false)
    (yg0 : PySem.W.nsIn K mainGlobals "SPECIAL_WORDS" = some (some (.ref Dd0))) (yl0 : K.lookup Dd0 = some ⟨.type "dict", none, .dict Des0 Dn0, #[]⟩) (yk0 : PySem.W.KeysLit w.params Des0.toList) (yw0 : (Dd0 == sysModules) = false) (yc0 : Ents Des0.toList [([113, 117, 111, 116, 101], 1), ([105, 102], 3), ([115, 97, 109, 101], 2), ([119, 111, 114, 100], 1), ([104, 101, 97, 100], 1), ([116, 97, 105, 108], 1), ([106, 111, 105, 110], 2)])
    (gc0 : PySem.W.nsIn K mainGlobals "MOST_PARAMETERS" = some (some (.int 12 t0)))
    : ∃ fd : FuncData, (∀ (s : Shared) (v : Value), BindsTo s fd ⟨[v], []⟩ [("script", v)]) ∧ ∀ base : Heap, K.In base → base.Ns mainGlobals mg → FnOk l.prog w K mg base CX0 30 fa fd ["script"] (spLaw K) := by
  have e := hfa.symm.trans (PySem.W.mg_of X G a28)
  cases e
  have B : Bn mg := ⟨PySem.W.mg_none_of X G zlen, PySem.W.mg_none_of X G zrange, PySem.W.mg_none_of X G zint, PySem.W.mg_none_of X G zabs, PySem.W.mg_none_of X G zstr, PySem.W.mg_none_of X G ztuple, PySem.W.mg_none_of X G zlist, PySem.W.mg_none_of X G zbool, PySem.W.mg_none_of X G zisinstance, PySem.W.mg_none_of X G zValueError, PySem.W.mg_none_of X G zenumerate, PySem.W.mg_none_of X G zset⟩
  have M : Mc mg := ⟨⟨_, PySem.W.mg_of X G gc0⟩⟩
  have S_SPECIAL_WORDS : DictC K w mg "SPECIAL_WORDS" [([113, 117, 111, 116, 101], 1), ([105, 102], 3), ([115, 97, 109, 101], 2), ([119, 111, 114, 100], 1), ([104, 101, 97, 100], 1), ([116, 97, 105, 108], 1), ([106, 111, 105, 110], 2)] := ⟨⟨Dd0, Des0, Dn0, PySem.W.mg_of X G yg0, ⟨yl0, yk0, yw0⟩, yc0⟩⟩
  have EF0 := fun_mk (st := s_BadText_init) eF0 eD0 eP0
  have Eb0 := EF0.binds (ps := ["self", "place"]) fun _ _ _ _ _ _ us hl => match us, hl with | [_, _], _ => rfl
  have E_BadText : ErrAll K mg "BadText" "BadText.__init__" "place" s_BadText_init := ⟨⟨C0, CG, I0, _, ⟨PySem.W.mg_of X G eC0, PySem.W.mg_of X G eG, ⟨⟨nm0, q0, N0, bs0, bm0, sn0, sub0, ab0, col0, dd0, u0, v0, w0, x0, y0, eL0, eR0⟩, eS0, eX0, eT0, eK0⟩, eI0, eY0, eN0, eRd, eSg, eVv, EF0, Eb0⟩, ⟨eA0, eB0, eH0, eQ0, eZ0, eE0, eU0, eV0, eGt, eTk, eM0⟩⟩⟩
  have EF1 := fun_mk (st := s_BadProgram_init) eF1 eD1 eP1
  have Eb1 := EF1.binds (ps := ["self", "function"]) fun _ _ _ _ _ _ us hl => match us, hl with | [_, _], _ => rfl
  have E_BadProgram : ErrAll K mg "BadProgram" "BadProgram.__init__" "function" s_BadProgram_init := ⟨⟨C1, CG, I1, _, ⟨PySem.W.mg_of X G eC1, PySem.W.mg_of X G eG, ⟨⟨nm1, q1, N1, bs1, bm1, sn1, sub1, ab1, col1, dd1, u1, v1, w1, x1, y1, eL1, eR1⟩, eS1, eX1, eT1, eK1⟩, eI1, eY1, eN1, eRd, eSg, eVv, EF1, Eb1⟩, ⟨eA1, eB1, eH1, eQ1, eZ1, eE1, eU1, eV1, eGt, eTk, eM1⟩⟩⟩
  have W_BadText_BadProgram : ErrNot K mg "BadText" "BadProgram" := ⟨fun a b ha hb => by rw [PySem.W.mg_of X G eC0] at ha; rw [PySem.W.mg_of X G eC1] at hb; cases ha; cases hb; exact eW0x1⟩
  have W_BadProgram_BadText : ErrNot K mg "BadProgram" "BadText" := ⟨fun a b ha hb => by rw [PySem.W.mg_of X G eC1] at ha; rw [PySem.W.mg_of X G eC0] at hb; cases ha; cases hb; exact eW1x0⟩
  have C_BadInputs : ∃ a : Addr, mg "BadInputs" = some (.ref a) := ⟨PC0, PySem.W.mg_of X G xG0⟩
  have W_BadText_BadInputs : ErrNot K mg "BadText" "BadInputs" := ⟨fun a b ha hb => by rw [PySem.W.mg_of X G eC0] at ha; rw [PySem.W.mg_of X G xG0] at hb; cases ha; cases hb; exact xK0p0⟩
  have W_BadProgram_BadInputs : ErrNot K mg "BadProgram" "BadInputs" := ⟨fun a b ha hb => by rw [PySem.W.mg_of X G eC1] at ha; rw [PySem.W.mg_of X G xG0] at hb; cases ha; cases hb; exact xK1p0⟩
  have F0 := fun_mk (st := s_check_program) l0 c0 k0
  have b0 := F0.binds (ps := p_check_program) fun _ _ _ _ _ _ us hl => match us, hl with | [_], _ => rfl
  have D_check_program : DefAt K mg "check_program" s_check_program p_check_program := ⟨⟨f0, _, F0, PySem.W.mg_of X G a0, b0⟩⟩
  have F1 := fun_mk (st := s_called_functions) l1 c1 k1
  have b1 := F1.binds (ps := p_called_functions) fun _ _ _ _ _ _ us hl => match us, hl with | [_], _ => rfl
  have D_called_functions : DefAt K mg "_called_functions" s_called_functions p_called_functions := ⟨⟨f1, _, F1, PySem.W.mg_of X G a1, b1⟩⟩
  have F2 := fun_mk (st := s_looks_like_function) l2 c2 k2
  have b2 := F2.binds (ps := p_looks_like_function) fun _ _ _ _ _ _ us hl => match us, hl with | [_], _ => rfl
  have D_looks_like_function : DefAt K mg "_looks_like_function" s_looks_like_function p_looks_like_function := ⟨⟨f2, _, F2, PySem.W.mg_of X G a2, b2⟩⟩
  have F3 := fun_mk (st := s_is_good_function) l3 c3 k3
  have b3 := F3.binds (ps := p_is_good_function) fun _ _ _ _ _ _ us hl => match us, hl with | [_, _, _], _ => rfl
  have D_is_good_function : DefAt K mg "_is_good_function" s_is_good_function p_is_good_function := ⟨⟨f3, _, F3, PySem.W.mg_of X G a3, b3⟩⟩
  have F4 := fun_mk (st := s_is_good_name) l4 c4 k4
  have b4 := F4.binds (ps := p_is_good_name) fun _ _ _ _ _ _ us hl => match us, hl with | [_, _], _ => rfl
  have D_is_good_name : DefAt K mg "_is_good_name" s_is_good_name p_is_good_name := ⟨⟨f4, _, F4, PySem.W.mg_of X G a4, b4⟩⟩
  have F5 := fun_mk (st := s_are_good_parameters) l5 c5 k5
  have b5 := F5.binds (ps := p_are_good_parameters) fun _ _ _ _ _ _ us hl => match us, hl with | [_], _ => rfl
  have D_are_good_parameters : DefAt K mg "_are_good_parameters" s_are_good_parameters p_are_good_parameters := ⟨⟨f5, _, F5, PySem.W.mg_of X G a5, b5⟩⟩
  have F6 := fun_mk (st := s_is_good_body) l6 c6 k6
  have b6 := F6.binds (ps := p_is_good_body) fun _ _ _ _ _ _ us hl => match us, hl with | [_, _, _], _ => rfl
  have D_is_good_body : DefAt K mg "_is_good_body" s_is_good_body p_is_good_body := ⟨⟨f6, _, F6, PySem.W.mg_of X G a6, b6⟩⟩
  have F7 := fun_mk (st := s_has_right_parts) l7 c7 k7
  have b7 := F7.binds (ps := p_has_right_parts) fun _ _ _ _ _ _ us hl => match us, hl with | [_, _], _ => rfl
  have D_has_right_parts : DefAt K mg "_has_right_parts" s_has_right_parts p_has_right_parts := ⟨⟨f7, _, F7, PySem.W.mg_of X G a7, b7⟩⟩
  have F8 := fun_mk (st := s_law_draws) l8 c8 k8
  have b8 := F8.binds (ps := p_law_draws) fun _ _ _ _ _ _ us hl => match us, hl with | [_, _], _ => rfl
  have D_law_draws : DefAt K mg "_law_draws" s_law_draws p_law_draws := ⟨⟨f8, _, F8, PySem.W.mg_of X G a8, b8⟩⟩
  have F9 := fun_mk (st := s_law_take) l9 c9 k9
  have b9 := F9.binds (ps := p_law_take) fun _ _ _ _ _ _ us hl => match us, hl with | [_, _], _ => rfl
  have D_law_take : DefAt K mg "_law_take" s_law_take p_law_take := ⟨⟨f9, _, F9, PySem.W.mg_of X G a9, b9⟩⟩
  have F10 := fun_mk (st := s_law_value) l10 c10 k10
  have b10 := F10.binds (ps := p_law_value) fun _ _ _ _ _ _ us hl => match us, hl with | [_, _], _ => rfl
  have D_law_value : DefAt K mg "_law_value" s_law_value p_law_value := ⟨⟨f10, _, F10, PySem.W.mg_of X G a10, b10⟩⟩
  have F11 := fun_mk (st := s_law_expression) l11 c11 k11
  have b11 := F11.binds (ps := p_law_expression) fun _ _ _ _ _ _ us hl => match us, hl with | [_, _, _, _], _ => rfl
  have D_law_expression : DefAt K mg "_law_expression" s_law_expression p_law_expression := ⟨⟨f11, _, F11, PySem.W.mg_of X G a11, b11⟩⟩
  have F12 := fun_mk (st := s_law_library) l12 c12 k12
  have b12 := F12.binds (ps := p_law_library) fun _ _ _ _ _ _ us hl => match us, hl with | [], _ => rfl
  have D_law_library : DefAt K mg "_law_library" s_law_library p_law_library := ⟨⟨f12, _, F12, PySem.W.mg_of X G a12, b12⟩⟩
  have F13 := fun_mk (st := s_law_program) l13 c13 k13
  have b13 := F13.binds (ps := p_law_program) fun _ _ _ _ _ _ us hl => match us, hl with | [_, _], _ => rfl
  have D_law_program : DefAt K mg "_law_program" s_law_program p_law_program := ⟨⟨f13, _, F13, PySem.W.mg_of X G a13, b13⟩⟩
  have F14 := fun_mk (st := s_law_many) l14 c14 k14
  have b14 := F14.binds (ps := p_law_many) fun _ _ _ _ _ _ us hl => match us, hl with | [_, _], _ => rfl
  have D_law_many : DefAt K mg "_law_many" s_law_many p_law_many := ⟨⟨f14, _, F14, PySem.W.mg_of X G a14, b14⟩⟩
  have F15 := fun_mk (st := s_law_special) l15 c15 k15
  have b15 := F15.binds (ps := p_law_special) fun _ _ _ _ _ _ us hl => match us, hl with | [], _ => rfl
  have D_law_special : DefAt K mg "_law_special" s_law_special p_law_special := ⟨⟨f15, _, F15, PySem.W.mg_of X G a15, b15⟩⟩
  have F16 := fun_mk (st := s_law_expression_good) l16 c16 k16
  have b16 := F16.binds (ps := p_law_expression_good) fun _ _ _ _ _ _ us hl => match us, hl with | [_, _, _], _ => rfl
  have D_law_expression_good : DefAt K mg "_law_expression_good" s_law_expression_good p_law_expression_good := ⟨⟨f16, _, F16, PySem.W.mg_of X G a16, b16⟩⟩
  have F17 := fun_mk (st := s_law_name_good) l17 c17 k17
  have b17 := F17.binds (ps := p_law_name_good) fun _ _ _ _ _ _ us hl => match us, hl with | [_, _], _ => rfl
  have D_law_name_good : DefAt K mg "_law_name_good" s_law_name_good p_law_name_good := ⟨⟨f17, _, F17, PySem.W.mg_of X G a17, b17⟩⟩
  have F18 := fun_mk (st := s_law_function_good) l18 c18 k18
  have b18 := F18.binds (ps := p_law_function_good) fun _ _ _ _ _ _ us hl => match us, hl with | [_, _], _ => rfl
  have D_law_function_good : DefAt K mg "_law_function_good" s_law_function_good p_law_function_good := ⟨⟨f18, _, F18, PySem.W.mg_of X G a18, b18⟩⟩
  have F19 := fun_mk (st := s_law_bad_function) l19 c19 k19
  have b19 := F19.binds (ps := p_law_bad_function) fun _ _ _ _ _ _ us hl => match us, hl with | [_], _ => rfl
  have D_law_bad_function : DefAt K mg "_law_bad_function" s_law_bad_function p_law_bad_function := ⟨⟨f19, _, F19, PySem.W.mg_of X G a19, b19⟩⟩
  have F20 := fun_mk (st := s_law_is_right) l20 c20 k20
  have b20 := F20.binds (ps := p_law_is_right) fun _ _ _ _ _ _ us hl => match us, hl with | [_], _ => rfl
  have D_law_is_right : DefAt K mg "_law_is_right" s_law_is_right p_law_is_right := ⟨⟨f20, _, F20, PySem.W.mg_of X G a20, b20⟩⟩
  have F21 := fun_mk (st := s_law_called) l21 c21 k21
  have b21 := F21.binds (ps := p_law_called) fun _ _ _ _ _ _ us hl => match us, hl with | [_, _, _], _ => rfl
  have D_law_called : DefAt K mg "_law_called" s_law_called p_law_called := ⟨⟨f21, _, F21, PySem.W.mg_of X G a21, b21⟩⟩
  have F22 := fun_mk (st := s_law_other_names) l22 c22 k22
  have b22 := F22.binds (ps := p_law_other_names) fun _ _ _ _ _ _ us hl => match us, hl with | [_, _], _ => rfl
  have D_law_other_names : DefAt K mg "_law_other_names" s_law_other_names p_law_other_names := ⟨⟨f22, _, F22, PySem.W.mg_of X G a22, b22⟩⟩
  have F23 := fun_mk (st := s_law_odd) l23 c23 k23
  have b23 := F23.binds (ps := p_law_odd) fun _ _ _ _ _ _ us hl => match us, hl with | [_, _], _ => rfl
  have D_law_odd : DefAt K mg "_law_odd" s_law_odd p_law_odd := ⟨⟨f23, _, F23, PySem.W.mg_of X G a23, b23⟩⟩
  have F24 := fun_mk (st := s_law_bent) l24 c24 k24
  have b24 := F24.binds (ps := p_law_bent) fun _ _ _ _ _ _ us hl => match us, hl with | [_, _, _, _], _ => rfl
  have D_law_bent : DefAt K mg "_law_bent" s_law_bent p_law_bent := ⟨⟨f24, _, F24, PySem.W.mg_of X G a24, b24⟩⟩
  have F25 := fun_mk (st := s_law_wide) l25 c25 k25
  have b25 := F25.binds (ps := p_law_wide) fun _ _ _ _ _ _ us hl => match us, hl with | [_], _ => rfl
  have D_law_wide : DefAt K mg "_law_wide" s_law_wide p_law_wide := ⟨⟨f25, _, F25, PySem.W.mg_of X G a25, b25⟩⟩
  have F26 := fun_mk (st := s_law_numbered) l26 c26 k26
  have b26 := F26.binds (ps := p_law_numbered) fun _ _ _ _ _ _ us hl => match us, hl with | [_], _ => rfl
  have D_law_numbered : DefAt K mg "_law_numbered" s_law_numbered p_law_numbered := ⟨⟨f26, _, F26, PySem.W.mg_of X G a26, b26⟩⟩
  have F27 := fun_mk (st := s_law_deep_body) l27 c27 k27
  have b27 := F27.binds (ps := p_law_deep_body) fun _ _ _ _ _ _ us hl => match us, hl with | [_, _], _ => rfl
  have D_law_deep_body : DefAt K mg "_law_deep_body" s_law_deep_body p_law_deep_body := ⟨⟨f27, _, F27, PySem.W.mg_of X G a27, b27⟩⟩
  have F28 := fun_mk (st := s_law) l28 c28 k28
  have b28 := F28.binds (ps := p_law) fun _ _ _ _ _ _ us hl => match us, hl with | [_], _ => rfl
  refine ⟨PySem.W.fnOf "law" "law" (defArgs s_law) (defBody s_law) (defScope s_law) .none kV28 dc28 pm28 an28 cd28 ct28, fun s v => .of_eq rfl, fun base _ _ => ?_⟩
  exact ok_law F28 B M S_SPECIAL_WORDS E_BadText E_BadProgram W_BadText_BadProgram W_BadProgram_BadText C_BadInputs W_BadText_BadInputs W_BadProgram_BadInputs D_check_program D_called_functions D_looks_like_function D_is_good_function D_is_good_name D_are_good_parameters D_is_good_body D_has_right_parts D_law_draws D_law_take D_law_value D_law_expression D_law_library D_law_program D_law_many D_law_special D_law_expression_good D_law_name_good D_law_function_good D_law_bad_function D_law_is_right D_law_called D_law_other_names D_law_odd D_law_bent D_law_wide D_law_numbered D_law_deep_body
theorem walk {l : PySem.W.OpenLaw} {q : Program} {loose : List Str} {XP : (Str → Option Value) → Heap → Prop} {YP : World → Heap → Prop} {d : DefRec} {K : Params → PySem.W.Frag} (hn : l.most = some 63) (hdf : d.params.defaults = [])
    (hY : ∀ (w : World) (h : Heap), YP w h → (K w.params).In h)
    (F : ∀ (w : World) (mg : Str → Option Value) (fa : Addr) (h : Heap), (K w.params).In h → h.Ns mainGlobals mg → mg d.name = some (.ref fa) →
      ∃ fd : FuncData, (∀ (s : Shared) (u : Value), BindsTo s fd ⟨[u], []⟩ [("script", u)]) ∧ ∀ base : Heap, (K w.params).In base → base.Ns mainGlobals mg → FnOk l.prog w (K w.params) mg base CX0 30 fa fd ["script"] (spLaw (K w.params))) :
    PySem.W.WalkO q loose XP YP l.row.toRowW d [] (fun f vs => PySem.call f vs) :=
  L2.walk_of (n := 63) (k := 30) (x := "script") (CX := fun _ => CX0) (sp := fun w => spLaw (K w.params)) hn (by decide) hdf ⟨rfl, by decide, by decide⟩ hY F (fun _ _ a ns hl _ hS => ⟨a, ns, rfl, hS, hl, fun _ => rfl⟩) fun _ _ _ _ _ z => z
end Og
open PySem PySem.W PyProof.Rows
set_option maxRecDepth 100000 in
set_option maxHeartbeats 0 in
theorem PySem.Challenge.cw_ownglass_k04_good_and_bad_programs_holds : PySem.Challenge.rw_ownglass_k04_good_and_bad_programs.Holds := by
  w_on; o_law; k_head; (case hw => w_witness2)
  k_fill
  refine Og.walk (l := PySem.Challenge.rw_ownglass_k04_good_and_bad_programs) rfl rfl (fun w h Y => PySem.W.kIn_of Y) ?F
  case F =>
    intro w mg fa h KX G hmg
    refine' Og.all_mk KX G hmg ?a0 ?l0 ?c0 ?k0 ?a1 ?l1 ?c1 ?k1 ?a2 ?l2 ?c2 ?k2 ?a3 ?l3 ?c3 ?k3 ?a4 ?l4 ?c4 ?k4 ?a5 ?l5 ?c5 ?k5 ?a6 ?l6 ?c6 ?k6 ?a7 ?l7 ?c7 ?k7 ?a8 ?l8 ?c8 ?k8 ?a9 ?l9 ?c9 ?k9 ?a10 ?l10 ?c10 ?k10 ?a11 ?l11 ?c11 ?k11 ?a12 ?l12 ?c12 ?k12 ?a13 ?l13 ?c13 ?k13 ?a14 ?l14 ?c14 ?k14 ?a15 ?l15 ?c15 ?k15 ?a16 ?l16 ?c16 ?k16 ?a17 ?l17 ?c17 ?k17 ?a18 ?l18 ?c18 ?k18 ?a19 ?l19 ?c19 ?k19 ?a20 ?l20 ?c20 ?k20 ?a21 ?l21 ?c21 ?k21 ?a22 ?l22 ?c22 ?k22 ?a23 ?l23 ?c23 ?k23 ?a24 ?l24 ?c24 ?k24 ?a25 ?l25 ?c25 ?k25 ?a26 ?l26 ?c26 ?k26 ?a27 ?l27 ?c27 ?k27 ?a28 ?l28 ?c28 ?k28 ?zlen ?zrange ?zint ?zabs ?zstr ?ztuple ?zlist ?zbool ?zisinstance ?zValueError ?zenumerate ?zset ?eG ?eRd ?eSg ?eVv ?eGt ?eTk ?eC0 ?eL0 ?eR0 ?eS0 ?eX0 ?eT0 ?eK0 ?eI0 ?eY0 ?eN0 ?eF0 ?eD0 ?eP0 ?eA0 ?eB0 ?eH0 ?eQ0 ?eZ0 ?eE0 ?eU0 ?eV0 ?eM0 ?eC1 ?eL1 ?eR1 ?eS1 ?eX1 ?eT1 ?eK1 ?eI1 ?eY1 ?eN1 ?eF1 ?eD1 ?eP1 ?eA1 ?eB1 ?eH1 ?eQ1 ?eZ1 ?eE1 ?eU1 ?eV1 ?eM1 ?eW0x1 ?eW1x0 ?xG0 ?xK0p0 ?xK1p0 ?yg0 ?yl0 ?yk0 ?yw0 ?yc0 ?gc0
    (case a0 => first | k_is | rfl | decide +kernel)
    (case l0 => first | k_is | rfl | decide +kernel)
    (case c0 => first | k_is | rfl | decide +kernel)
    (case k0 => first | k_is | rfl | decide +kernel)
    (case a1 => first | k_is | rfl | decide +kernel)
    (case l1 => first | k_is | rfl | decide +kernel)
    (case c1 => first | k_is | rfl | decide +kernel)
    (case k1 => first | k_is | rfl | decide +kernel)
    (case a2 => first | k_is | rfl | decide +kernel)
    (case l2 => first | k_is | rfl | decide +kernel)
    (case c2 => first | k_is | rfl | decide +kernel)
    (case k2 => first | k_is | rfl | decide +kernel)
    (case a3 => first | k_is | rfl | decide +kernel)
    (case l3 => first | k_is | rfl | decide +kernel)
    (case c3 => first | k_is | rfl | decide +kernel)
    (case k3 => first | k_is | rfl | decide +kernel)
    (case a4 => first | k_is | rfl | decide +kernel)
    (case l4 => first | k_is | rfl | decide +kernel)
    (case c4 => first | k_is | rfl | decide +kernel)
    (case k4 => first | k_is | rfl | decide +kernel)
    (case a5 => first | k_is | rfl | decide +kernel)
    (case l5 => first | k_is | rfl | decide +kernel)
    (case c5 => first | k_is | rfl | decide +kernel)
    (case k5 => first | k_is | rfl | decide +kernel)
    (case a6 => first | k_is | rfl | decide +kernel)
    (case l6 => first | k_is | rfl | decide +kernel)
    (case c6 => first | k_is | rfl | decide +kernel)
    (case k6 => first | k_is | rfl | decide +kernel)
    (case a7 => first | k_is | rfl | decide +kernel)
    (case l7 => first | k_is | rfl | decide +kernel)
    (case c7 => first | k_is | rfl | decide +kernel)
    (case k7 => first | k_is | rfl | decide +kernel)
    (case a8 => first | k_is | rfl | decide +kernel)
    (case l8 => first | k_is | rfl | decide +kernel)
    (case c8 => first | k_is | rfl | decide +kernel)
    (case k8 => first | k_is | rfl | decide +kernel)
    (case a9 => first | k_is | rfl | decide +kernel)
    (case l9 => first | k_is | rfl | decide +kernel)
    (case c9 => first | k_is | rfl | decide +kernel)
    (case k9 => first | k_is | rfl | decide +kernel)
    (case a10 => first | k_is | rfl | decide +kernel)
    (case l10 => first | k_is | rfl | decide +kernel)
    (case c10 => first | k_is | rfl | decide +kernel)
    (case k10 => first | k_is | rfl | decide +kernel)
    (case a11 => first | k_is | rfl | decide +kernel)
    (case l11 => first | k_is | rfl | decide +kernel)
    (case c11 => first | k_is | rfl | decide +kernel)
    (case k11 => first | k_is | rfl | decide +kernel)
    (case a12 => first | k_is | rfl | decide +kernel)
    (case l12 => first | k_is | rfl | decide +kernel)
    (case c12 => first | k_is | rfl | decide +kernel)
    (case k12 => first | k_is | rfl | decide +kernel)
    (case a13 => first | k_is | rfl | decide +kernel)
    (case l13 => first | k_is | rfl | decide +kernel)
    (case c13 => first | k_is | rfl | decide +kernel)
    (case k13 => first | k_is | rfl | decide +kernel)
    (case a14 => first | k_is | rfl | decide +kernel)
    (case l14 => first | k_is | rfl | decide +kernel)
    (case c14 => first | k_is | rfl | decide +kernel)
    (case k14 => first | k_is | rfl | decide +kernel)
    (case a15 => first | k_is | rfl | decide +kernel)
    (case l15 => first | k_is | rfl | decide +kernel)
    (case c15 => first | k_is | rfl | decide +kernel)
    (case k15 => first | k_is | rfl | decide +kernel)
    (case a16 => first | k_is | rfl | decide +kernel)
    (case l16 => first | k_is | rfl | decide +kernel)
    (case c16 => first | k_is | rfl | decide +kernel)
    (case k16 => first | k_is | rfl | decide +kernel)
    (case a17 => first | k_is | rfl | decide +kernel)
    (case l17 => first | k_is | rfl | decide +kernel)
    (case c17 => first | k_is | rfl | decide +kernel)
    (case k17 => first | k_is | rfl | decide +kernel)
    (case a18 => first | k_is | rfl | decide +kernel)
    (case l18 => first | k_is | rfl | decide +kernel)
    (case c18 => first | k_is | rfl | decide +kernel)
    (case k18 => first | k_is | rfl | decide +kernel)
    (case a19 => first | k_is | rfl | decide +kernel)
    (case l19 => first | k_is | rfl | decide +kernel)
    (case c19 => first | k_is | rfl | decide +kernel)
    (case k19 => first | k_is | rfl | decide +kernel)
    (case a20 => first | k_is | rfl | decide +kernel)
    (case l20 => first | k_is | rfl | decide +kernel)
    (case c20 => first | k_is | rfl | decide +kernel)
    (case k20 => first | k_is | rfl | decide +kernel)
    (case a21 => first | k_is | rfl | decide +kernel)
    (case l21 => first | k_is | rfl | decide +kernel)
    (case c21 => first | k_is | rfl | decide +kernel)
    (case k21 => first | k_is | rfl | decide +kernel)
    (case a22 => first | k_is | rfl | decide +kernel)
    (case l22 => first | k_is | rfl | decide +kernel)
    (case c22 => first | k_is | rfl | decide +kernel)
    (case k22 => first | k_is | rfl | decide +kernel)
    (case a23 => first | k_is | rfl | decide +kernel)
    (case l23 => first | k_is | rfl | decide +kernel)
    (case c23 => first | k_is | rfl | decide +kernel)
    (case k23 => first | k_is | rfl | decide +kernel)
    (case a24 => first | k_is | rfl | decide +kernel)
    (case l24 => first | k_is | rfl | decide +kernel)
    (case c24 => first | k_is | rfl | decide +kernel)
    (case k24 => first | k_is | rfl | decide +kernel)
    (case a25 => first | k_is | rfl | decide +kernel)
    (case l25 => first | k_is | rfl | decide +kernel)
    (case c25 => first | k_is | rfl | decide +kernel)
    (case k25 => first | k_is | rfl | decide +kernel)
    (case a26 => first | k_is | rfl | decide +kernel)
    (case l26 => first | k_is | rfl | decide +kernel)
    (case c26 => first | k_is | rfl | decide +kernel)
    (case k26 => first | k_is | rfl | decide +kernel)
    (case a27 => first | k_is | rfl | decide +kernel)
    (case l27 => first | k_is | rfl | decide +kernel)
    (case c27 => first | k_is | rfl | decide +kernel)
    (case k27 => first | k_is | rfl | decide +kernel)
    (case a28 => first | k_is | rfl | decide +kernel)
    (case l28 => first | k_is | rfl | decide +kernel)
    (case c28 => first | k_is | rfl | decide +kernel)
    (case k28 => first | k_is | rfl | decide +kernel)
    (case zlen => first | k_is | rfl | decide +kernel)
    (case zrange => first | k_is | rfl | decide +kernel)
    (case zint => first | k_is | rfl | decide +kernel)
    (case zabs => first | k_is | rfl | decide +kernel)
    (case zstr => first | k_is | rfl | decide +kernel)
    (case ztuple => first | k_is | rfl | decide +kernel)
    (case zlist => first | k_is | rfl | decide +kernel)
    (case zbool => first | k_is | rfl | decide +kernel)
    (case zisinstance => first | k_is | rfl | decide +kernel)
    (case zValueError => first | k_is | rfl | decide +kernel)
    (case zenumerate => first | k_is | rfl | decide +kernel)
    (case zset => first | k_is | rfl | decide +kernel)
    (case eG => first | k_is | rfl | decide +kernel)
    (case eRd => first | k_is | rfl | decide +kernel)
    (case eSg => first | k_is | rfl | decide +kernel)
    (case eVv => first | k_is | rfl | decide +kernel)
    (case eGt => first | k_is | rfl | decide +kernel)
    (case eTk => first | k_is | rfl | decide +kernel)
    (case eC0 => first | k_is | rfl | decide +kernel)
    (case eL0 => first | k_is | rfl | decide +kernel)
    (case eR0 => decide +kernel)
    (case eS0 => first | k_is | rfl | decide +kernel)
    (case eX0 => first | k_is | rfl | decide +kernel)
    (case eT0 => first | k_is | rfl | decide +kernel)
    (case eK0 => first | k_is | rfl | decide +kernel)
    (case eI0 => first | k_is | rfl | decide +kernel)
    (case eY0 => first | k_is | rfl | decide +kernel)
    (case eN0 => first | k_is | rfl | decide +kernel)
    (case eF0 => first | k_is | rfl | decide +kernel)
    (case eD0 => first | k_is | rfl | decide +kernel)
    (case eP0 => first | k_is | rfl | decide +kernel)
    (case eA0 => first | k_is | rfl | decide +kernel)
    (case eB0 => first | k_is | rfl | decide +kernel)
    (case eH0 => first | k_is | rfl | decide +kernel)
    (case eQ0 => first | k_is | rfl | decide +kernel)
    (case eZ0 => first | k_is | rfl | decide +kernel)
    (case eE0 => first | k_is | rfl | decide +kernel)
    (case eU0 => first | k_is | rfl | decide +kernel)
    (case eV0 => first | k_is | rfl | decide +kernel)
    (case eM0 => first | k_is | rfl | decide +kernel)
    (case eC1 => first | k_is | rfl | decide +kernel)
    (case eL1 => first | k_is | rfl | decide +kernel)
    (case eR1 => decide +kernel)
    (case eS1 => first | k_is | rfl | decide +kernel)
    (case eX1 => first | k_is | rfl | decide +kernel)
    (case eT1 => first | k_is | rfl | decide +kernel)
    (case eK1 => first | k_is | rfl | decide +kernel)
    (case eI1 => first | k_is | rfl | decide +kernel)
    (case eY1 => first | k_is | rfl | decide +kernel)
    (case eN1 => first | k_is | rfl | decide +kernel)
    (case eF1 => first | k_is | rfl | decide +kernel)
    (case eD1 => first | k_is | rfl | decide +kernel)
    (case eP1 => first | k_is | rfl | decide +kernel)
    (case eA1 => first | k_is | rfl | decide +kernel)
    (case eB1 => first | k_is | rfl | decide +kernel)
    (case eH1 => first | k_is | rfl | decide +kernel)
    (case eQ1 => first | k_is | rfl | decide +kernel)
    (case eZ1 => first | k_is | rfl | decide +kernel)
    (case eE1 => first | k_is | rfl | decide +kernel)
    (case eU1 => first | k_is | rfl | decide +kernel)
    (case eV1 => first | k_is | rfl | decide +kernel)
    (case eM1 => first | k_is | rfl | decide +kernel)
    (case eW0x1 => first | k_is | rfl | decide +kernel)
    (case eW1x0 => first | k_is | rfl | decide +kernel)
    (case xG0 => first | k_is | rfl | decide +kernel)
    (case xK0p0 => first | k_is | rfl | decide +kernel)
    (case xK1p0 => first | k_is | rfl | decide +kernel)
    (case yg0 => first | k_is | rfl | decide +kernel)
    (case yl0 => first | k_is | rfl | decide +kernel)
    (case yk0 => exact ⟨⟨_, _, rfl, rfl⟩, ⟨⟨_, _, rfl, rfl⟩, ⟨⟨_, _, rfl, rfl⟩, ⟨⟨_, _, rfl, rfl⟩, ⟨⟨_, _, rfl, rfl⟩, ⟨⟨_, _, rfl, rfl⟩, ⟨⟨_, _, rfl, rfl⟩, trivial⟩⟩⟩⟩⟩⟩⟩)
    (case yw0 => first | k_is | rfl | decide +kernel)
    (case yc0 => exact ⟨⟨_, rfl⟩, ⟨_, rfl⟩, ⟨⟨_, rfl⟩, ⟨_, rfl⟩, ⟨⟨_, rfl⟩, ⟨_, rfl⟩, ⟨⟨_, rfl⟩, ⟨_, rfl⟩, ⟨⟨_, rfl⟩, ⟨_, rfl⟩, ⟨⟨_, rfl⟩, ⟨_, rfl⟩, ⟨⟨_, rfl⟩, ⟨_, rfl⟩, trivial⟩⟩⟩⟩⟩⟩⟩)
    (case gc0 => first | k_is | rfl | decide +kernel)
