import PyProof.Rows.All
import Wide.All
import OpenK.AllK
import Wide.FinOn
import HandS.ForMost
import HandS.EndBits
import HandS.IsInst
import HandS.TupAny
import PySem.Challenge.RW_switchyard_k03_types
set_option Elab.async false
set_option linter.all false
set_option maxRecDepth 100000
set_option maxHeartbeats 4000000
/-! Sw0: readings walked step by step, what is known of the heap in one row. -/
namespace Sw
open PySem PySem.Spec PyProof.Rows L2

/-! ### what is known of the heap -/
structure Has (H0 : Hp) (ex : List Addr) (H : Hp) (L : List (Addr × HO)) : Prop where
  keep : ∀ a o, H0 a = some o → a ∉ ex → H a = some o
  get : ∀ x ∈ L, H x.1 = some x.2
  nd : (L.map Prod.fst).Nodup

theorem Has.start (H : Hp) (ex : List Addr) : Has H ex H [] := ⟨fun _ _ h _ => h, fun _ h => (nomatch h), List.nodup_nil⟩
theorem Has.new {H0 : Hp} {ex : List Addr} {H : Hp} {L : List (Addr × HO)} {p : Addr} {o : HO} (h : Has H0 ex H L) (n : H p = none) : Has H0 ex (upd H p o) ((p, o) :: L) := by
  refine ⟨fun a u e hx => ?_, fun x hx => ?_, ?_⟩
  · have k := h.keep a u e hx
    rw [upd_ne (ne_of_none k n)]
    exact k
  · rcases List.mem_cons.mp hx with rfl | hx
    · exact upd_same
    · have k := h.get x hx
      rw [upd_ne (ne_of_none k n)]
      exact k
  · rw [List.map_cons, List.nodup_cons]
    refine ⟨fun hm => ?_, h.nd⟩
    obtain ⟨x, hx, e⟩ := List.mem_map.mp hm
    have k := h.get x hx
    rw [e, n] at k
    cases k
/-- what is known, less -/
theorem Has.tail {H0 : Hp} {ex : List Addr} {H : Hp} {L : List (Addr × HO)} {x : Addr × HO} (h : Has H0 ex H (x :: L)) : Has H0 ex H L :=
  ⟨h.keep, fun y hy => h.get y (List.mem_cons_of_mem _ hy), (List.nodup_cons.mp (by simpa using h.nd)).2⟩
theorem Has.sub {H0 : Hp} {ex : List Addr} {H : Hp} {L L' : List (Addr × HO)} (h : Has H0 ex H L) (s : L'.Sublist L) : Has H0 ex H L' :=
  ⟨h.keep, fun y hy => h.get y (s.subset hy), (s.map Prod.fst).nodup h.nd⟩
theorem Has.add {H0 : Hp} {ex : List Addr} {H : Hp} {L : List (Addr × HO)} {a : Addr} {o : HO} (h : Has H0 ex H L) (e : H a = some o) (n : a ∉ L.map Prod.fst) : Has H0 ex H ((a, o) :: L) :=
  ⟨h.keep, fun y hy => (List.mem_cons.mp hy).elim (fun z => by subst z; exact e) (h.get y), List.nodup_cons.mpr ⟨n, h.nd⟩⟩
theorem Has.more {H0 : Hp} {ex ex' : List Addr} {H : Hp} {L : List (Addr × HO)} (h : Has H0 ex H L) (s : ∀ a ∈ ex, a ∈ ex') : Has H0 ex' H L :=
  ⟨fun a o e n => h.keep a o e fun m => n (s a m), h.get, h.nd⟩
/-- nothing that was known has changed -/
theorem Has.same {H0 : Hp} {ex : List Addr} {H H' : Hp} {L M : List (Addr × HO)} (h : Has H0 ex H L) (h' : Has H [] H' M) : Has H0 ex H' L :=
  ⟨fun a o e n => h'.keep a o (h.keep a o e n) (by simp), fun x hx => h'.keep _ _ (h.get x hx) (by simp), h.nd⟩
/-- .. and something new is known -/
theorem Has.same1 {H0 : Hp} {ex : List Addr} {H H' : Hp} {L : List (Addr × HO)} {p : Addr} {o : HO} (h : Has H0 ex H L) (h' : Has H [] H' [(p, o)]) (n : H p = none) : Has H0 ex H' ((p, o) :: L) :=
  (h.same h').add (h'.get (p, o) (by simp)) fun hm => by
    obtain ⟨x, hx, e⟩ := List.mem_map.mp hm
    have k := h.get x hx
    rw [e, n] at k
    cases k
/-- the object at a place of the row has changed -/
inductive Put : List (Addr × HO) → Addr → HO → HO → List (Addr × HO) → Prop
  | here {d : Addr} {o o' : HO} {L : List (Addr × HO)} : Put ((d, o) :: L) d o o' ((d, o') :: L)
  | there {x : Addr × HO} {d : Addr} {o o' : HO} {L L' : List (Addr × HO)} : Put L d o o' L' → Put (x :: L) d o o' (x :: L')
theorem Put.fst {L L' : List (Addr × HO)} {d : Addr} {o o' : HO} (p : Put L d o o' L') : L'.map Prod.fst = L.map Prod.fst := by
  induction p with
  | here => rfl
  | there _ ih => rw [List.map_cons, List.map_cons, ih]
theorem Put.mem {L L' : List (Addr × HO)} {d : Addr} {o o' : HO} (p : Put L d o o' L') : (d, o) ∈ L ∧ (d, o') ∈ L' := by
  induction p with
  | here => exact ⟨List.mem_cons_self, List.mem_cons_self⟩
  | there _ ih => exact ⟨List.mem_cons_of_mem _ ih.1, List.mem_cons_of_mem _ ih.2⟩
theorem Put.out {L L' : List (Addr × HO)} {d : Addr} {o o' : HO} (p : Put L d o o' L') (nd : (L.map Prod.fst).Nodup) : ∀ x ∈ L', x = (d, o') ∨ (x ∈ L ∧ x.1 ≠ d) := by
  induction p with
  | here =>
    intro x hx
    rcases List.mem_cons.mp hx with h | h
    · exact .inl h
    · refine .inr ⟨List.mem_cons_of_mem _ h, fun e => ?_⟩
      rw [List.map_cons, List.nodup_cons] at nd
      have m : x.1 ∈ List.map Prod.fst _ := List.mem_map_of_mem (f := Prod.fst) h
      rw [e] at m
      exact nd.1 m
  | @there y d o o' L L' q ih =>
    rw [List.map_cons, List.nodup_cons] at nd
    intro x hx
    rcases List.mem_cons.mp hx with h | h
    · subst h
      refine .inr ⟨List.mem_cons_self, fun e => nd.1 ?_⟩
      rw [e]
      exact List.mem_map_of_mem (f := Prod.fst) q.mem.1
    · rcases ih nd.2 x h with z | ⟨z, n⟩
      · exact .inl z
      · exact .inr ⟨List.mem_cons_of_mem _ z, n⟩
theorem Has.put {H0 : Hp} {ex : List Addr} {H : Hp} {L L' : List (Addr × HO)} {d : Addr} {o o' : HO} (h : Has H0 ex H L) (p : Put L d o o' L') (f : d ∈ ex ∨ H0 d = none) : Has H0 ex (upd H d o') L' := by
  refine ⟨fun a u e n => ?_, fun x hx => ?_, by rw [p.fst]; exact h.nd⟩
  · have k := h.keep a u e n
    rw [upd_ne (fun z => by subst z; rcases f with f | f; exact n f; rw [f] at e; cases e)]
    exact k
  · rcases p.out h.nd x hx with rfl | ⟨m, n⟩
    · exact upd_same
    · rw [upd_ne n]
      exact h.get x m
theorem Has.putC {H0 : Hp} {ex : List Addr} {H H' : Hp} {L L' M : List (Addr × HO)} {d : Addr} {o o' : HO} (h : Has H0 ex H L) (h' : Has H [d] H' ((d, o') :: M)) (p : Put L d o o' L') (f : d ∈ ex ∨ H0 d = none) : Has H0 ex H' L' := by
  refine ⟨fun a u e n => ?_, fun x hx => ?_, by rw [p.fst]; exact h.nd⟩
  · have k := h.keep a u e n
    refine h'.keep a u k fun m => ?_
    have z : a = d := by simpa using m
    subst z
    rcases f with f | f
    · exact n f
    · rw [f] at e; cases e
  · rcases p.out h.nd x hx with rfl | ⟨m, n⟩
    · exact h'.get _ (by simp)
    · exact h'.keep _ _ (h.get x m) (by simpa using n)

section
variable {H0 : Hp} {ex : List Addr} {H : Hp} {L : List (Addr × HO)} {K : PySem.W.Frag} {a : Addr} {xs : List V}
theorem Has.at (h : Has H0 ex H L) {o : HO} (m : (a, o) ∈ L) : H a = some o := h.get _ m
theorem Has.l (h : Has H0 ex H L) (m : (a, HO.lst xs) ∈ L) : SqL K H a xs := SqL.of (h.get _ m)
theorem Has.t (h : Has H0 ex H L) (m : (a, HO.tup xs) ∈ L) : SqT K H a xs := SqT.of (h.get _ m)
theorem Has.rd {u : HO} (h : Has H0 ex H L) (r : Rd H0 a u) (n : a ∉ ex) : Rd H a u := by
  rcases r with r | ⟨o, r⟩
  · exact .inl (h.keep _ _ r n)
  · exact .inr ⟨o, h.keep _ _ r n⟩
theorem Has.sl (h : Has H0 ex H L) (r : SqL K H0 a xs) (n : a ∉ ex) : SqL K H a xs := by
  rcases r with r | r
  · exact .inl (h.rd r n)
  · exact .inr r
theorem Has.st (h : Has H0 ex H L) (r : SqT K H0 a xs) (n : a ∉ ex) : SqT K H a xs := by
  rcases r with r | r
  · exact .inl (h.rd r n)
  · exact .inr r
end

/-! ### the steps -/
section
variable {X : Cx} {K : PySem.W.Frag} {σ : L2.St} {H : Hp} {Q : VK} {QA : List V → Hp → Prop} {QT : Bool → Hp → Prop} {x y z v : V} {te ta tb : TE} {t u : TT} {r : R2} {tt tu : TS} {nx ct bk : L2.St → Hp → Prop} {rt : VK} {i : Nat}
theorem c_ (h : Q v H) : tC v σ H Q := h
theorem var_ (i : Nat) (e : σ[i]? = some (some v)) (h : Q v H) : tVar i σ H Q := ⟨v, e, h⟩
theorem op_ (h : ta σ H fun x H1 => tb σ H1 fun y H2 => r x y H2 Q) : tOp r ta tb σ H Q := h
theorem un_ {r : V → Hp → VK → Prop} (h : ta σ H fun x H1 => r x H1 Q) : tUn r ta σ H Q := h
theorem nil_ (h : QA [] H) : tNil σ H QA := h
theorem cons_ {tr : TA} (h : te σ H fun x H1 => tr σ H1 fun xs H2 => QA (x :: xs) H2) : tCons te tr σ H QA := h
theorem cb_ {r : List V → Hp → VK → Prop} {t : TA} (h : t σ H fun vs H1 => r vs H1 Q) : tCB r t σ H Q := h
theorem call_ {sp : Sp} {t : TA} {E : XK} (h : t σ H fun vs H1 => sp vs H1 Q E) : tCall sp [] E t σ H Q := by
  show t σ H fun vs H1 => sp (vs ++ []) H1 Q E
  have e : (fun (vs : List V) (H1 : Hp) => sp (vs ++ []) H1 Q E) = fun vs H1 => sp vs H1 Q E := by
    funext vs H1
    rw [List.append_nil]
  rw [e]
  exact h
/-- a test's answer -/
def BlK (QT : Bool → Hp → Prop) (x : V) (H : Hp) : Prop := ∃ k, x = .bl k ∧ QT k H
theorem blk {k : Bool} (h : QT k H) : BlK QT (.bl k) H := ⟨k, rfl, h⟩
theorem test_ (h : te σ H fun x H1 => BlK QT x H1) : tTest te σ H QT := h
theorem b_ (h : te σ H fun x H1 => BlK QT x H1) : tB te σ H QT := h
theorem not_ (h : t σ H fun c H1 => QT (!c) H1) : tNot t σ H QT := h
theorem and_ (h : t σ H fun c H1 => if c = true then u σ H1 QT else QT false H1) : tAnd t u σ H QT := h
theorem or_ (h : t σ H fun c H1 => if c = true then QT true H1 else u σ H1 QT) : tOr t u σ H QT := h
def AndK (tb : TE) (σ : L2.St) (Q : VK) (x : V) (H1 : Hp) : Prop := ∃ c, x = .bl c ∧ if c = true then tb σ H1 Q else Q (.bl false) H1
def OrK (tb : TE) (σ : L2.St) (Q : VK) (x : V) (H1 : Hp) : Prop := ∃ c, x = .bl c ∧ if c = true then Q (.bl true) H1 else tb σ H1 Q
def NotK (Q : VK) (x : V) (H1 : Hp) : Prop := ∃ c, x = .bl c ∧ Q (.bl (!c)) H1
theorem andV_ (h : ta σ H fun x H1 => AndK tb σ Q x H1) : tAndV ta tb σ H Q := h
theorem orV_ (h : ta σ H fun x H1 => OrK tb σ Q x H1) : tOrV ta tb σ H Q := h
theorem notV_ (h : ta σ H fun x H1 => NotK Q x H1) : tNotV ta σ H Q := h
theorem andk {c : Bool} (h : if c = true then tb σ H Q else Q (.bl false) H) : AndK tb σ Q (.bl c) H := ⟨c, rfl, h⟩
theorem ork {c : Bool} (h : if c = true then Q (.bl true) H else tb σ H Q) : OrK tb σ Q (.bl c) H := ⟨c, rfl, h⟩
theorem notk {c : Bool} (h : Q (.bl (!c)) H) : NotK Q (.bl c) H := ⟨c, rfl, h⟩
theorem if_ (h : t σ H fun c H1 => if c = true then ta σ H1 Q else tb σ H1 Q) : tIf t ta tb σ H Q := h
theorem ite_t {c : Bool} {A B : Prop} (e : c = true) (h : A) : if c = true then A else B := by rw [if_pos e]; exact h
theorem ite_f {c : Bool} {A B : Prop} (e : c = false) (h : B) : if c = true then A else B := by rw [e]; exact h
theorem ite_c {c : Bool} {A B : Prop} (h1 : c = true → A) (h2 : c = false → B) : if c = true then A else B := by
  cases c with
  | true => exact h1 rfl
  | false => exact h2 rfl
/-- statements -/
theorem seq_ (h : tt ⟨tu ⟨nx, rt, bk, ct⟩, rt, bk, ct⟩ σ H) : tSeq tt tu ⟨nx, rt, bk, ct⟩ σ H := h
theorem next_ (h : nx σ H) : tNext ⟨nx, rt, bk, ct⟩ σ H := h
theorem break_ (h : bk σ H) : tBreak ⟨nx, rt, bk, ct⟩ σ H := h
theorem cont_ (h : ct σ H) : tCont ⟨nx, rt, bk, ct⟩ σ H := h
theorem drop_ (h : te σ H fun _ H1 => nx σ H1) : tDrop te ⟨nx, rt, bk, ct⟩ σ H := h
theorem ret_ (h : te σ H rt) : tRet te ⟨nx, rt, bk, ct⟩ σ H := h
theorem retN_ (h : rt .non H) : tRetN ⟨nx, rt, bk, ct⟩ σ H := h
theorem ifS_ (h : t σ H fun c H1 => if c = true then tt ⟨nx, rt, bk, ct⟩ σ H1 else tu ⟨nx, rt, bk, ct⟩ σ H1) : tIfS t tt tu ⟨nx, rt, bk, ct⟩ σ H := h
def SetK (σ : L2.St) (i : Nat) (nx : L2.St → Hp → Prop) (x : V) (H : Hp) : Prop := nx (σ.set i (some x)) H
theorem setk {σ' : L2.St} (e : σ.set i (some x) = σ') (h : nx σ' H) : SetK σ i nx x H := by
  subst e
  exact h
theorem set_ (h : te σ H fun x H1 => SetK σ i nx x H1) : tAsg te (gName i) ⟨nx, rt, bk, ct⟩ σ H := h
def AsgK (g : TG) (σ : L2.St) (nx : L2.St → Hp → Prop) (x : V) (H : Hp) : Prop := g x σ H nx
theorem asg_ {g : TG} (h : te σ H fun x H1 => AsgK g σ nx x H1) : tAsg te g ⟨nx, rt, bk, ct⟩ σ H := h
theorem gname (h : SetK σ i nx x H) : AsgK (gName i) σ nx x H := h
theorem gtup2 {i j : Nat} {a : Addr} {x y : V} (hs : SqT K H a [x, y]) {σ1 σ2 : L2.St} (e1 : σ.set i (some x) = σ1) (e2 : σ1.set j (some y) = σ2) (h : nx σ2 H) : AsgK (gTup K 2 (gCons (gName i) (gCons (gName j) gNil))) σ nx (.ref a) H := by
  subst e1 e2
  exact ⟨a, [x, y], rfl, hs, rfl, x, [y], rfl, y, [], rfl, rfl, h⟩
theorem aug_ {ti : TIp} (e : σ[i]? = some (some x)) (h : te σ H fun y H1 => ti x y H1 fun z H2 => SetK σ i nx z H2) : tAug i te ti ⟨nx, rt, bk, ct⟩ σ H := ⟨x, e, h⟩
theorem ipI_ {f : Int → Int → Int} {a b : Int} (h : Q (.int (f a b)) H) : ipI f (.int a) (.int b) H Q := ⟨a, b, rfl, rfl, h⟩
theorem augS_ {to ti : TE} {tg : V → V → Hp → VK → Prop} {tip : TIp} {ts : TSet} (h : to σ H fun o H1 => ti σ H1 fun i H2 => tg o i H2 fun x H3 => te σ H3 fun y H4 => tip x y H4 fun z H5 => ts o i z H5 fun H6 => nx σ H6) : tAugS to ti te tg tip ts ⟨nx, rt, bk, ct⟩ σ H := h

/-! ### operators by values -/
variable {a b : Int} {p q : Addr} {xs ys : List V}
theorem i0 {g : Int → Int → V} (h : Q (g a b) H) : rI0 g (.int a) (.int b) H Q := ⟨a, b, rfl, rfl, h⟩
theorem i1 {C : Int → Int → Prop} {g : Int → Int → V} (c : C a b) (h : Q (g a b) H) : rI C g (.int a) (.int b) H Q := ⟨a, b, rfl, rfl, c, h⟩
theorem iu {g : Int → V} (h : Q (g a) H) : rU g (.int a) H Q := ⟨a, rfl, h⟩
theorem eq_ (s : scal x y = true) (h : Q (.bl (decide (x = y))) H) : rEq x y H Q := ⟨s, h⟩
theorem ne_ (s : scal x y = true) (h : Q (.bl (!decide (x = y))) H) : rNe x y H Q := ⟨s, h⟩
theorem ixL {i : Int} (hs : SqL K H p xs) (e : atI xs i = some v) (h : Q v H) : rIx K (.ref p) (.int i) H Q := .inl ⟨p, xs, i, v, rfl, rfl, hs, e, h⟩
theorem ixT {i : Int} (hs : SqT K H p xs) (e : atI xs i = some v) (h : Q v H) : rIx K (.ref p) (.int i) H Q := .inr (.inl ⟨p, xs, i, v, rfl, rfl, hs, e, h⟩)
theorem ixS {i : Int} {w : Str} {c : Nat} (hl : w.length ≤ sizeLine) (e : atI w.cps.toList i = some c) (h : Q (.str ⟨#[c]⟩) H) : rIx K (.str w) (.int i) H Q := .inr (.inr ⟨w, i, c, rfl, rfl, hl, e, h⟩)
/-- == and != of scalars or data -/
def rEqU (K : PySem.W.Frag) : R2 := fun x y H Q => rEq x y H Q ∨ rEqD K x y H Q
def rNeU (K : PySem.W.Frag) : R2 := fun x y H Q => rNe x y H Q ∨ rNeD K x y H Q
theorem op_eqU (hu : X.A.units + 64 < cLine) : OpR X (compareOp .Eq) (rEqU X.K) := op_eq.or (op_eqD hu)
theorem op_neU (hu : X.A.units + 64 < cLine) : OpR X (compareOp .NotEq) (rNeU X.K) := op_ne.or (op_neD hu)
theorem equ (s : scal x y = true) (h : Q (.bl (decide (x = y))) H) : rEqU K x y H Q := .inl ⟨s, h⟩
theorem neu (s : scal x y = true) (h : Q (.bl (!decide (x = y))) H) : rNeU K x y H Q := .inl ⟨s, h⟩
theorem equD {d e : PyData} (hx : Dp K H x d) (hy : Dp K H y e) (sd : SeqAt.shaped d = true) (se : SeqAt.shaped e = true) (h : Q (.bl (PyData.eqv d e)) H) : rEqU K x y H Q := .inr ⟨d, e, hx, hy, sd, se, h⟩
theorem neuD {d e : PyData} (hx : Dp K H x d) (hy : Dp K H y e) (sd : SeqAt.shaped d = true) (se : SeqAt.shaped e = true) (h : Q (.bl (!PyData.eqv d e)) H) : rNeU K x y H Q := .inr ⟨d, e, hx, hy, sd, se, h⟩
/-- + -/
def rAddS : R2 := fun x y H Q => ∃ i j, x = .str i ∧ y = .str j ∧ i.length + j.length ≤ sizeLine ∧ Q (.str (i ++ j)) H
def rAddU (K : PySem.W.Frag) : R2 := fun x y H Q => (rI0 (fun i j => .int (i + j)) x y H Q) ∨ rAddS x y H Q ∨ rCat x y H Q ∨ rCatA K x y H Q
theorem op_addU : OpR X (binaryOp .Add) (rAddU X.K) := op_add.or ((show OpR X (binaryOp .Add) rAddS from op_add_str).or (op_cat.or op_catA))
theorem addI (h : Q (.int (a + b)) H) : rAddU K (.int a) (.int b) H Q := .inl ⟨a, b, rfl, rfl, h⟩
theorem addS {s t : Str} (hl : s.length + t.length ≤ sizeLine) (h : Q (.str (s ++ t)) H) : rAddU K (.str s) (.str t) H Q := .inr (.inl ⟨s, t, rfl, rfl, hl, h⟩)
end

/-! ### new objects -/
section
variable {H0 : Hp} {ex : List Addr} {H : Hp} {L : List (Addr × HO)} {K : PySem.W.Frag} {σ : L2.St} {Q : VK} {xs ys : List V} {p q : Addr}
def TupK (Q : VK) (xs : List V) (H1 : Hp) : Prop := xs.length ≤ sizeLine ∧ ∀ p, H1 p = none → Q (.ref p) (upd H1 p (.tup xs))
def LstK (Q : VK) (xs : List V) (H1 : Hp) : Prop := xs.length ≤ sizeLine ∧ ∀ p, H1 p = none → Q (.ref p) (upd H1 p (.lst xs))
theorem tup_ {t : TA} (h : t σ H fun xs H1 => TupK Q xs H1) : tTup t σ H Q := h
theorem lst_ {t : TA} (h : t σ H fun xs H1 => LstK Q xs H1) : tLst t σ H Q := h
theorem tupk (hH : Has H0 ex H L) (hl : xs.length ≤ 1000) (h : ∀ p H', H p = none → Has H0 ex H' ((p, .tup xs) :: L) → Q (.ref p) H') : TupK Q xs H :=
  ⟨Nat.le_of_lt (small1000 hl), fun p n => h p _ n (hH.new n)⟩
theorem lstk (hH : Has H0 ex H L) (hl : xs.length ≤ 1000) (h : ∀ p H', H p = none → Has H0 ex H' ((p, .lst xs) :: L) → Q (.ref p) H') : LstK Q xs H :=
  ⟨Nat.le_of_lt (small1000 hl), fun p n => h p _ n (hH.new n)⟩
theorem addL (hH : Has H0 ex H L) (h1 : (p, HO.lst xs) ∈ L) (h2 : (q, HO.lst ys) ∈ L) (hl : xs.length + ys.length ≤ 1000) (h : ∀ l H', H l = none → Has H0 ex H' ((l, .lst (xs ++ ys)) :: L) → Q (.ref l) H') : rAddU K (.ref p) (.ref q) H Q :=
  .inr (.inr (.inl ⟨p, q, xs, ys, rfl, rfl, hH.at h1, hH.at h2, Nat.le_of_lt (small1000 hl), fun l n => h l _ n (hH.new n)⟩))
end
/-- xs[i] += e: reading the item -/
theorem get_list {X : Cx} : PGet X (rIxL X.K) := by
  intro pins s σ H x y v u Q I rx ry h
  obtain ⟨p, xs, i, z, rfl, rfl, hq, he, q⟩ := h
  cases rx
  obtain ⟨t, rfl⟩ := ry
  obtain ⟨its, r, pl, hz⟩ := I.list hq
  obtain ⟨j, h1, h2, h3, h4, h5⟩ := atI_get he
  obtain ⟨w, ew, rw'⟩ := r.get h2
  have hl := r.length
  have hn := line63
  have fin : EP X pins σ Q w s := ⟨z, H, I, rw', q⟩
  by_cases h0 : 0 ≤ i
  · have hj : i.toNat = j := by
      rw [seqIndex_of h0 h5] at h1
      exact Option.some.inj h1
    refine thn (PySem.wpAny_getItem_list (Q := fun r s' => r = w ∧ EP X pins σ Q r s') pl.isList h0 (by omega) (by rw [hj]; simpa using ew) ⟨rfl, fin⟩) fun r s' h => h.2
  · have hj : (i + (its.toArray.size : Int)).toNat = j := by
      rw [seqIndex_neg (by omega) h4] at h1
      rw [List.size_toArray, ← hl]
      exact Option.some.inj h1
    refine thn (PySem.wpAny_getItem_list_neg (Q := fun r s' => r = w ∧ EP X pins σ Q r s') pl.isList (by omega) (by rw [List.size_toArray] <;> omega) (by omega) (by rw [hj]; simpa using ew) ⟨rfl, fin⟩) fun r s' h => h.2

/-! ### a def that may be called by its name -/
structure Cal (P : Program) (w : World) (K : PySem.W.Frag) (mg : Str → Option Value) (base : Heap) (CX : CXT) (k : Nat) (x : Str) (ps : List Str) (sp : Sp) : Prop where
  ex : ∃ (f : Addr) (fd : FuncData), FnOk P w K mg base CX k f fd ps sp ∧ mg x = some (.ref f) ∧ PySem.W.keepIn K (.ref f) = true ∧ Binds K fd ps []
theorem pe_cal {X : Cx} {CX : CXT} {j k : Nat} {x : Str} {ps : List Str} {sp : Sp} {E : XK} {p pos : Pos} {e : Expr} {es : List Expr} {t : TA} (c : Cal X.prog X.w X.K X.mg X.base CX j x ps sp) (hr : Room k X.A) (hjk : j ≤ k) (hg : Gl X x) (hx : Passes CX X E) (ha : PA X (e :: es) t)
    (hdb : (x == ("__debug__" : Str)) = false := by decide) (he : starEach (e :: es) X.env = (false, eval e X.env) :: starEach es X.env := by rfl) (hpl : (backTo pos (starEach es X.env)).any (·.1) = false := by rfl) :
    PE X (.Call (.Name x p) (e :: es) [] pos) (tCall sp [] E t) := by
  obtain ⟨f, fd, F, hm, hk, hb⟩ := c.ex
  exact pe_call F (hr.mono hjk) hg hm hk hb .nil hx ha hdb he hpl
/-! slots by number -/
theorem setk0 {a0 : Option V} {r : L2.St} {nx : L2.St → Hp → Prop} {x : V} {H : Hp} (h : nx (some x :: r) H) : SetK (a0 :: r) 0 nx x H := h
theorem var0 {r : L2.St} {v : V} {Q : VK} {H : Hp} (h : Q v H) : tVar 0 (some v :: r) H Q := ⟨v, rfl, h⟩
theorem aug0 {r : L2.St} {x : V} {te : TE} {ti : TIp} {nx bk ct : L2.St → Hp → Prop} {rt : VK} {H : Hp} (h : te (some x :: r) H fun y H1 => ti x y H1 fun z H2 => SetK (some x :: r) 0 nx z H2) : tAug 0 te ti ⟨nx, rt, bk, ct⟩ (some x :: r) H := ⟨x, rfl, h⟩
theorem setk1 {a0 a1 : Option V} {r : L2.St} {nx : L2.St → Hp → Prop} {x : V} {H : Hp} (h : nx (a0 :: some x :: r) H) : SetK (a0 :: a1 :: r) 1 nx x H := h
theorem var1 {a0 : Option V} {r : L2.St} {v : V} {Q : VK} {H : Hp} (h : Q v H) : tVar 1 (a0 :: some v :: r) H Q := ⟨v, rfl, h⟩
theorem aug1 {a0 : Option V} {r : L2.St} {x : V} {te : TE} {ti : TIp} {nx bk ct : L2.St → Hp → Prop} {rt : VK} {H : Hp} (h : te (a0 :: some x :: r) H fun y H1 => ti x y H1 fun z H2 => SetK (a0 :: some x :: r) 1 nx z H2) : tAug 1 te ti ⟨nx, rt, bk, ct⟩ (a0 :: some x :: r) H := ⟨x, rfl, h⟩
theorem setk2 {a0 a1 a2 : Option V} {r : L2.St} {nx : L2.St → Hp → Prop} {x : V} {H : Hp} (h : nx (a0 :: a1 :: some x :: r) H) : SetK (a0 :: a1 :: a2 :: r) 2 nx x H := h
theorem var2 {a0 a1 : Option V} {r : L2.St} {v : V} {Q : VK} {H : Hp} (h : Q v H) : tVar 2 (a0 :: a1 :: some v :: r) H Q := ⟨v, rfl, h⟩
theorem aug2 {a0 a1 : Option V} {r : L2.St} {x : V} {te : TE} {ti : TIp} {nx bk ct : L2.St → Hp → Prop} {rt : VK} {H : Hp} (h : te (a0 :: a1 :: some x :: r) H fun y H1 => ti x y H1 fun z H2 => SetK (a0 :: a1 :: some x :: r) 2 nx z H2) : tAug 2 te ti ⟨nx, rt, bk, ct⟩ (a0 :: a1 :: some x :: r) H := ⟨x, rfl, h⟩
theorem setk3 {a0 a1 a2 a3 : Option V} {r : L2.St} {nx : L2.St → Hp → Prop} {x : V} {H : Hp} (h : nx (a0 :: a1 :: a2 :: some x :: r) H) : SetK (a0 :: a1 :: a2 :: a3 :: r) 3 nx x H := h
theorem var3 {a0 a1 a2 : Option V} {r : L2.St} {v : V} {Q : VK} {H : Hp} (h : Q v H) : tVar 3 (a0 :: a1 :: a2 :: some v :: r) H Q := ⟨v, rfl, h⟩
theorem aug3 {a0 a1 a2 : Option V} {r : L2.St} {x : V} {te : TE} {ti : TIp} {nx bk ct : L2.St → Hp → Prop} {rt : VK} {H : Hp} (h : te (a0 :: a1 :: a2 :: some x :: r) H fun y H1 => ti x y H1 fun z H2 => SetK (a0 :: a1 :: a2 :: some x :: r) 3 nx z H2) : tAug 3 te ti ⟨nx, rt, bk, ct⟩ (a0 :: a1 :: a2 :: some x :: r) H := ⟨x, rfl, h⟩
theorem setk4 {a0 a1 a2 a3 a4 : Option V} {r : L2.St} {nx : L2.St → Hp → Prop} {x : V} {H : Hp} (h : nx (a0 :: a1 :: a2 :: a3 :: some x :: r) H) : SetK (a0 :: a1 :: a2 :: a3 :: a4 :: r) 4 nx x H := h
theorem var4 {a0 a1 a2 a3 : Option V} {r : L2.St} {v : V} {Q : VK} {H : Hp} (h : Q v H) : tVar 4 (a0 :: a1 :: a2 :: a3 :: some v :: r) H Q := ⟨v, rfl, h⟩
theorem aug4 {a0 a1 a2 a3 : Option V} {r : L2.St} {x : V} {te : TE} {ti : TIp} {nx bk ct : L2.St → Hp → Prop} {rt : VK} {H : Hp} (h : te (a0 :: a1 :: a2 :: a3 :: some x :: r) H fun y H1 => ti x y H1 fun z H2 => SetK (a0 :: a1 :: a2 :: a3 :: some x :: r) 4 nx z H2) : tAug 4 te ti ⟨nx, rt, bk, ct⟩ (a0 :: a1 :: a2 :: a3 :: some x :: r) H := ⟨x, rfl, h⟩
theorem setk5 {a0 a1 a2 a3 a4 a5 : Option V} {r : L2.St} {nx : L2.St → Hp → Prop} {x : V} {H : Hp} (h : nx (a0 :: a1 :: a2 :: a3 :: a4 :: some x :: r) H) : SetK (a0 :: a1 :: a2 :: a3 :: a4 :: a5 :: r) 5 nx x H := h
theorem var5 {a0 a1 a2 a3 a4 : Option V} {r : L2.St} {v : V} {Q : VK} {H : Hp} (h : Q v H) : tVar 5 (a0 :: a1 :: a2 :: a3 :: a4 :: some v :: r) H Q := ⟨v, rfl, h⟩
theorem aug5 {a0 a1 a2 a3 a4 : Option V} {r : L2.St} {x : V} {te : TE} {ti : TIp} {nx bk ct : L2.St → Hp → Prop} {rt : VK} {H : Hp} (h : te (a0 :: a1 :: a2 :: a3 :: a4 :: some x :: r) H fun y H1 => ti x y H1 fun z H2 => SetK (a0 :: a1 :: a2 :: a3 :: a4 :: some x :: r) 5 nx z H2) : tAug 5 te ti ⟨nx, rt, bk, ct⟩ (a0 :: a1 :: a2 :: a3 :: a4 :: some x :: r) H := ⟨x, rfl, h⟩
theorem setk6 {a0 a1 a2 a3 a4 a5 a6 : Option V} {r : L2.St} {nx : L2.St → Hp → Prop} {x : V} {H : Hp} (h : nx (a0 :: a1 :: a2 :: a3 :: a4 :: a5 :: some x :: r) H) : SetK (a0 :: a1 :: a2 :: a3 :: a4 :: a5 :: a6 :: r) 6 nx x H := h
theorem var6 {a0 a1 a2 a3 a4 a5 : Option V} {r : L2.St} {v : V} {Q : VK} {H : Hp} (h : Q v H) : tVar 6 (a0 :: a1 :: a2 :: a3 :: a4 :: a5 :: some v :: r) H Q := ⟨v, rfl, h⟩
theorem aug6 {a0 a1 a2 a3 a4 a5 : Option V} {r : L2.St} {x : V} {te : TE} {ti : TIp} {nx bk ct : L2.St → Hp → Prop} {rt : VK} {H : Hp} (h : te (a0 :: a1 :: a2 :: a3 :: a4 :: a5 :: some x :: r) H fun y H1 => ti x y H1 fun z H2 => SetK (a0 :: a1 :: a2 :: a3 :: a4 :: a5 :: some x :: r) 6 nx z H2) : tAug 6 te ti ⟨nx, rt, bk, ct⟩ (a0 :: a1 :: a2 :: a3 :: a4 :: a5 :: some x :: r) H := ⟨x, rfl, h⟩
theorem setk7 {a0 a1 a2 a3 a4 a5 a6 a7 : Option V} {r : L2.St} {nx : L2.St → Hp → Prop} {x : V} {H : Hp} (h : nx (a0 :: a1 :: a2 :: a3 :: a4 :: a5 :: a6 :: some x :: r) H) : SetK (a0 :: a1 :: a2 :: a3 :: a4 :: a5 :: a6 :: a7 :: r) 7 nx x H := h
theorem var7 {a0 a1 a2 a3 a4 a5 a6 : Option V} {r : L2.St} {v : V} {Q : VK} {H : Hp} (h : Q v H) : tVar 7 (a0 :: a1 :: a2 :: a3 :: a4 :: a5 :: a6 :: some v :: r) H Q := ⟨v, rfl, h⟩
theorem aug7 {a0 a1 a2 a3 a4 a5 a6 : Option V} {r : L2.St} {x : V} {te : TE} {ti : TIp} {nx bk ct : L2.St → Hp → Prop} {rt : VK} {H : Hp} (h : te (a0 :: a1 :: a2 :: a3 :: a4 :: a5 :: a6 :: some x :: r) H fun y H1 => ti x y H1 fun z H2 => SetK (a0 :: a1 :: a2 :: a3 :: a4 :: a5 :: a6 :: some x :: r) 7 nx z H2) : tAug 7 te ti ⟨nx, rt, bk, ct⟩ (a0 :: a1 :: a2 :: a3 :: a4 :: a5 :: a6 :: some x :: r) H := ⟨x, rfl, h⟩
theorem setk8 {a0 a1 a2 a3 a4 a5 a6 a7 a8 : Option V} {r : L2.St} {nx : L2.St → Hp → Prop} {x : V} {H : Hp} (h : nx (a0 :: a1 :: a2 :: a3 :: a4 :: a5 :: a6 :: a7 :: some x :: r) H) : SetK (a0 :: a1 :: a2 :: a3 :: a4 :: a5 :: a6 :: a7 :: a8 :: r) 8 nx x H := h
theorem var8 {a0 a1 a2 a3 a4 a5 a6 a7 : Option V} {r : L2.St} {v : V} {Q : VK} {H : Hp} (h : Q v H) : tVar 8 (a0 :: a1 :: a2 :: a3 :: a4 :: a5 :: a6 :: a7 :: some v :: r) H Q := ⟨v, rfl, h⟩
theorem aug8 {a0 a1 a2 a3 a4 a5 a6 a7 : Option V} {r : L2.St} {x : V} {te : TE} {ti : TIp} {nx bk ct : L2.St → Hp → Prop} {rt : VK} {H : Hp} (h : te (a0 :: a1 :: a2 :: a3 :: a4 :: a5 :: a6 :: a7 :: some x :: r) H fun y H1 => ti x y H1 fun z H2 => SetK (a0 :: a1 :: a2 :: a3 :: a4 :: a5 :: a6 :: a7 :: some x :: r) 8 nx z H2) : tAug 8 te ti ⟨nx, rt, bk, ct⟩ (a0 :: a1 :: a2 :: a3 :: a4 :: a5 :: a6 :: a7 :: some x :: r) H := ⟨x, rfl, h⟩
theorem setk9 {a0 a1 a2 a3 a4 a5 a6 a7 a8 a9 : Option V} {r : L2.St} {nx : L2.St → Hp → Prop} {x : V} {H : Hp} (h : nx (a0 :: a1 :: a2 :: a3 :: a4 :: a5 :: a6 :: a7 :: a8 :: some x :: r) H) : SetK (a0 :: a1 :: a2 :: a3 :: a4 :: a5 :: a6 :: a7 :: a8 :: a9 :: r) 9 nx x H := h
theorem var9 {a0 a1 a2 a3 a4 a5 a6 a7 a8 : Option V} {r : L2.St} {v : V} {Q : VK} {H : Hp} (h : Q v H) : tVar 9 (a0 :: a1 :: a2 :: a3 :: a4 :: a5 :: a6 :: a7 :: a8 :: some v :: r) H Q := ⟨v, rfl, h⟩
theorem aug9 {a0 a1 a2 a3 a4 a5 a6 a7 a8 : Option V} {r : L2.St} {x : V} {te : TE} {ti : TIp} {nx bk ct : L2.St → Hp → Prop} {rt : VK} {H : Hp} (h : te (a0 :: a1 :: a2 :: a3 :: a4 :: a5 :: a6 :: a7 :: a8 :: some x :: r) H fun y H1 => ti x y H1 fun z H2 => SetK (a0 :: a1 :: a2 :: a3 :: a4 :: a5 :: a6 :: a7 :: a8 :: some x :: r) 9 nx z H2) : tAug 9 te ti ⟨nx, rt, bk, ct⟩ (a0 :: a1 :: a2 :: a3 :: a4 :: a5 :: a6 :: a7 :: a8 :: some x :: r) H := ⟨x, rfl, h⟩
theorem setk10 {a0 a1 a2 a3 a4 a5 a6 a7 a8 a9 a10 : Option V} {r : L2.St} {nx : L2.St → Hp → Prop} {x : V} {H : Hp} (h : nx (a0 :: a1 :: a2 :: a3 :: a4 :: a5 :: a6 :: a7 :: a8 :: a9 :: some x :: r) H) : SetK (a0 :: a1 :: a2 :: a3 :: a4 :: a5 :: a6 :: a7 :: a8 :: a9 :: a10 :: r) 10 nx x H := h
theorem var10 {a0 a1 a2 a3 a4 a5 a6 a7 a8 a9 : Option V} {r : L2.St} {v : V} {Q : VK} {H : Hp} (h : Q v H) : tVar 10 (a0 :: a1 :: a2 :: a3 :: a4 :: a5 :: a6 :: a7 :: a8 :: a9 :: some v :: r) H Q := ⟨v, rfl, h⟩
theorem aug10 {a0 a1 a2 a3 a4 a5 a6 a7 a8 a9 : Option V} {r : L2.St} {x : V} {te : TE} {ti : TIp} {nx bk ct : L2.St → Hp → Prop} {rt : VK} {H : Hp} (h : te (a0 :: a1 :: a2 :: a3 :: a4 :: a5 :: a6 :: a7 :: a8 :: a9 :: some x :: r) H fun y H1 => ti x y H1 fun z H2 => SetK (a0 :: a1 :: a2 :: a3 :: a4 :: a5 :: a6 :: a7 :: a8 :: a9 :: some x :: r) 10 nx z H2) : tAug 10 te ti ⟨nx, rt, bk, ct⟩ (a0 :: a1 :: a2 :: a3 :: a4 :: a5 :: a6 :: a7 :: a8 :: a9 :: some x :: r) H := ⟨x, rfl, h⟩
theorem setk11 {a0 a1 a2 a3 a4 a5 a6 a7 a8 a9 a10 a11 : Option V} {r : L2.St} {nx : L2.St → Hp → Prop} {x : V} {H : Hp} (h : nx (a0 :: a1 :: a2 :: a3 :: a4 :: a5 :: a6 :: a7 :: a8 :: a9 :: a10 :: some x :: r) H) : SetK (a0 :: a1 :: a2 :: a3 :: a4 :: a5 :: a6 :: a7 :: a8 :: a9 :: a10 :: a11 :: r) 11 nx x H := h
theorem var11 {a0 a1 a2 a3 a4 a5 a6 a7 a8 a9 a10 : Option V} {r : L2.St} {v : V} {Q : VK} {H : Hp} (h : Q v H) : tVar 11 (a0 :: a1 :: a2 :: a3 :: a4 :: a5 :: a6 :: a7 :: a8 :: a9 :: a10 :: some v :: r) H Q := ⟨v, rfl, h⟩
theorem aug11 {a0 a1 a2 a3 a4 a5 a6 a7 a8 a9 a10 : Option V} {r : L2.St} {x : V} {te : TE} {ti : TIp} {nx bk ct : L2.St → Hp → Prop} {rt : VK} {H : Hp} (h : te (a0 :: a1 :: a2 :: a3 :: a4 :: a5 :: a6 :: a7 :: a8 :: a9 :: a10 :: some x :: r) H fun y H1 => ti x y H1 fun z H2 => SetK (a0 :: a1 :: a2 :: a3 :: a4 :: a5 :: a6 :: a7 :: a8 :: a9 :: a10 :: some x :: r) 11 nx z H2) : tAug 11 te ti ⟨nx, rt, bk, ct⟩ (a0 :: a1 :: a2 :: a3 :: a4 :: a5 :: a6 :: a7 :: a8 :: a9 :: a10 :: some x :: r) H := ⟨x, rfl, h⟩
theorem setk12 {a0 a1 a2 a3 a4 a5 a6 a7 a8 a9 a10 a11 a12 : Option V} {r : L2.St} {nx : L2.St → Hp → Prop} {x : V} {H : Hp} (h : nx (a0 :: a1 :: a2 :: a3 :: a4 :: a5 :: a6 :: a7 :: a8 :: a9 :: a10 :: a11 :: some x :: r) H) : SetK (a0 :: a1 :: a2 :: a3 :: a4 :: a5 :: a6 :: a7 :: a8 :: a9 :: a10 :: a11 :: a12 :: r) 12 nx x H := h
theorem var12 {a0 a1 a2 a3 a4 a5 a6 a7 a8 a9 a10 a11 : Option V} {r : L2.St} {v : V} {Q : VK} {H : Hp} (h : Q v H) : tVar 12 (a0 :: a1 :: a2 :: a3 :: a4 :: a5 :: a6 :: a7 :: a8 :: a9 :: a10 :: a11 :: some v :: r) H Q := ⟨v, rfl, h⟩
theorem aug12 {a0 a1 a2 a3 a4 a5 a6 a7 a8 a9 a10 a11 : Option V} {r : L2.St} {x : V} {te : TE} {ti : TIp} {nx bk ct : L2.St → Hp → Prop} {rt : VK} {H : Hp} (h : te (a0 :: a1 :: a2 :: a3 :: a4 :: a5 :: a6 :: a7 :: a8 :: a9 :: a10 :: a11 :: some x :: r) H fun y H1 => ti x y H1 fun z H2 => SetK (a0 :: a1 :: a2 :: a3 :: a4 :: a5 :: a6 :: a7 :: a8 :: a9 :: a10 :: a11 :: some x :: r) 12 nx z H2) : tAug 12 te ti ⟨nx, rt, bk, ct⟩ (a0 :: a1 :: a2 :: a3 :: a4 :: a5 :: a6 :: a7 :: a8 :: a9 :: a10 :: a11 :: some x :: r) H := ⟨x, rfl, h⟩
theorem setk13 {a0 a1 a2 a3 a4 a5 a6 a7 a8 a9 a10 a11 a12 a13 : Option V} {r : L2.St} {nx : L2.St → Hp → Prop} {x : V} {H : Hp} (h : nx (a0 :: a1 :: a2 :: a3 :: a4 :: a5 :: a6 :: a7 :: a8 :: a9 :: a10 :: a11 :: a12 :: some x :: r) H) : SetK (a0 :: a1 :: a2 :: a3 :: a4 :: a5 :: a6 :: a7 :: a8 :: a9 :: a10 :: a11 :: a12 :: a13 :: r) 13 nx x H := h
theorem var13 {a0 a1 a2 a3 a4 a5 a6 a7 a8 a9 a10 a11 a12 : Option V} {r : L2.St} {v : V} {Q : VK} {H : Hp} (h : Q v H) : tVar 13 (a0 :: a1 :: a2 :: a3 :: a4 :: a5 :: a6 :: a7 :: a8 :: a9 :: a10 :: a11 :: a12 :: some v :: r) H Q := ⟨v, rfl, h⟩
theorem aug13 {a0 a1 a2 a3 a4 a5 a6 a7 a8 a9 a10 a11 a12 : Option V} {r : L2.St} {x : V} {te : TE} {ti : TIp} {nx bk ct : L2.St → Hp → Prop} {rt : VK} {H : Hp} (h : te (a0 :: a1 :: a2 :: a3 :: a4 :: a5 :: a6 :: a7 :: a8 :: a9 :: a10 :: a11 :: a12 :: some x :: r) H fun y H1 => ti x y H1 fun z H2 => SetK (a0 :: a1 :: a2 :: a3 :: a4 :: a5 :: a6 :: a7 :: a8 :: a9 :: a10 :: a11 :: a12 :: some x :: r) 13 nx z H2) : tAug 13 te ti ⟨nx, rt, bk, ct⟩ (a0 :: a1 :: a2 :: a3 :: a4 :: a5 :: a6 :: a7 :: a8 :: a9 :: a10 :: a11 :: a12 :: some x :: r) H := ⟨x, rfl, h⟩
theorem setk14 {a0 a1 a2 a3 a4 a5 a6 a7 a8 a9 a10 a11 a12 a13 a14 : Option V} {r : L2.St} {nx : L2.St → Hp → Prop} {x : V} {H : Hp} (h : nx (a0 :: a1 :: a2 :: a3 :: a4 :: a5 :: a6 :: a7 :: a8 :: a9 :: a10 :: a11 :: a12 :: a13 :: some x :: r) H) : SetK (a0 :: a1 :: a2 :: a3 :: a4 :: a5 :: a6 :: a7 :: a8 :: a9 :: a10 :: a11 :: a12 :: a13 :: a14 :: r) 14 nx x H := h
theorem var14 {a0 a1 a2 a3 a4 a5 a6 a7 a8 a9 a10 a11 a12 a13 : Option V} {r : L2.St} {v : V} {Q : VK} {H : Hp} (h : Q v H) : tVar 14 (a0 :: a1 :: a2 :: a3 :: a4 :: a5 :: a6 :: a7 :: a8 :: a9 :: a10 :: a11 :: a12 :: a13 :: some v :: r) H Q := ⟨v, rfl, h⟩
theorem aug14 {a0 a1 a2 a3 a4 a5 a6 a7 a8 a9 a10 a11 a12 a13 : Option V} {r : L2.St} {x : V} {te : TE} {ti : TIp} {nx bk ct : L2.St → Hp → Prop} {rt : VK} {H : Hp} (h : te (a0 :: a1 :: a2 :: a3 :: a4 :: a5 :: a6 :: a7 :: a8 :: a9 :: a10 :: a11 :: a12 :: a13 :: some x :: r) H fun y H1 => ti x y H1 fun z H2 => SetK (a0 :: a1 :: a2 :: a3 :: a4 :: a5 :: a6 :: a7 :: a8 :: a9 :: a10 :: a11 :: a12 :: a13 :: some x :: r) 14 nx z H2) : tAug 14 te ti ⟨nx, rt, bk, ct⟩ (a0 :: a1 :: a2 :: a3 :: a4 :: a5 :: a6 :: a7 :: a8 :: a9 :: a10 :: a11 :: a12 :: a13 :: some x :: r) H := ⟨x, rfl, h⟩
theorem setk15 {a0 a1 a2 a3 a4 a5 a6 a7 a8 a9 a10 a11 a12 a13 a14 a15 : Option V} {r : L2.St} {nx : L2.St → Hp → Prop} {x : V} {H : Hp} (h : nx (a0 :: a1 :: a2 :: a3 :: a4 :: a5 :: a6 :: a7 :: a8 :: a9 :: a10 :: a11 :: a12 :: a13 :: a14 :: some x :: r) H) : SetK (a0 :: a1 :: a2 :: a3 :: a4 :: a5 :: a6 :: a7 :: a8 :: a9 :: a10 :: a11 :: a12 :: a13 :: a14 :: a15 :: r) 15 nx x H := h
theorem var15 {a0 a1 a2 a3 a4 a5 a6 a7 a8 a9 a10 a11 a12 a13 a14 : Option V} {r : L2.St} {v : V} {Q : VK} {H : Hp} (h : Q v H) : tVar 15 (a0 :: a1 :: a2 :: a3 :: a4 :: a5 :: a6 :: a7 :: a8 :: a9 :: a10 :: a11 :: a12 :: a13 :: a14 :: some v :: r) H Q := ⟨v, rfl, h⟩
theorem aug15 {a0 a1 a2 a3 a4 a5 a6 a7 a8 a9 a10 a11 a12 a13 a14 : Option V} {r : L2.St} {x : V} {te : TE} {ti : TIp} {nx bk ct : L2.St → Hp → Prop} {rt : VK} {H : Hp} (h : te (a0 :: a1 :: a2 :: a3 :: a4 :: a5 :: a6 :: a7 :: a8 :: a9 :: a10 :: a11 :: a12 :: a13 :: a14 :: some x :: r) H fun y H1 => ti x y H1 fun z H2 => SetK (a0 :: a1 :: a2 :: a3 :: a4 :: a5 :: a6 :: a7 :: a8 :: a9 :: a10 :: a11 :: a12 :: a13 :: a14 :: some x :: r) 15 nx z H2) : tAug 15 te ti ⟨nx, rt, bk, ct⟩ (a0 :: a1 :: a2 :: a3 :: a4 :: a5 :: a6 :: a7 :: a8 :: a9 :: a10 :: a11 :: a12 :: a13 :: a14 :: some x :: r) H := ⟨x, rfl, h⟩
theorem setk16 {a0 a1 a2 a3 a4 a5 a6 a7 a8 a9 a10 a11 a12 a13 a14 a15 a16 : Option V} {r : L2.St} {nx : L2.St → Hp → Prop} {x : V} {H : Hp} (h : nx (a0 :: a1 :: a2 :: a3 :: a4 :: a5 :: a6 :: a7 :: a8 :: a9 :: a10 :: a11 :: a12 :: a13 :: a14 :: a15 :: some x :: r) H) : SetK (a0 :: a1 :: a2 :: a3 :: a4 :: a5 :: a6 :: a7 :: a8 :: a9 :: a10 :: a11 :: a12 :: a13 :: a14 :: a15 :: a16 :: r) 16 nx x H := h
theorem var16 {a0 a1 a2 a3 a4 a5 a6 a7 a8 a9 a10 a11 a12 a13 a14 a15 : Option V} {r : L2.St} {v : V} {Q : VK} {H : Hp} (h : Q v H) : tVar 16 (a0 :: a1 :: a2 :: a3 :: a4 :: a5 :: a6 :: a7 :: a8 :: a9 :: a10 :: a11 :: a12 :: a13 :: a14 :: a15 :: some v :: r) H Q := ⟨v, rfl, h⟩
theorem aug16 {a0 a1 a2 a3 a4 a5 a6 a7 a8 a9 a10 a11 a12 a13 a14 a15 : Option V} {r : L2.St} {x : V} {te : TE} {ti : TIp} {nx bk ct : L2.St → Hp → Prop} {rt : VK} {H : Hp} (h : te (a0 :: a1 :: a2 :: a3 :: a4 :: a5 :: a6 :: a7 :: a8 :: a9 :: a10 :: a11 :: a12 :: a13 :: a14 :: a15 :: some x :: r) H fun y H1 => ti x y H1 fun z H2 => SetK (a0 :: a1 :: a2 :: a3 :: a4 :: a5 :: a6 :: a7 :: a8 :: a9 :: a10 :: a11 :: a12 :: a13 :: a14 :: a15 :: some x :: r) 16 nx z H2) : tAug 16 te ti ⟨nx, rt, bk, ct⟩ (a0 :: a1 :: a2 :: a3 :: a4 :: a5 :: a6 :: a7 :: a8 :: a9 :: a10 :: a11 :: a12 :: a13 :: a14 :: a15 :: some x :: r) H := ⟨x, rfl, h⟩
theorem setk17 {a0 a1 a2 a3 a4 a5 a6 a7 a8 a9 a10 a11 a12 a13 a14 a15 a16 a17 : Option V} {r : L2.St} {nx : L2.St → Hp → Prop} {x : V} {H : Hp} (h : nx (a0 :: a1 :: a2 :: a3 :: a4 :: a5 :: a6 :: a7 :: a8 :: a9 :: a10 :: a11 :: a12 :: a13 :: a14 :: a15 :: a16 :: some x :: r) H) : SetK (a0 :: a1 :: a2 :: a3 :: a4 :: a5 :: a6 :: a7 :: a8 :: a9 :: a10 :: a11 :: a12 :: a13 :: a14 :: a15 :: a16 :: a17 :: r) 17 nx x H := h
theorem var17 {a0 a1 a2 a3 a4 a5 a6 a7 a8 a9 a10 a11 a12 a13 a14 a15 a16 : Option V} {r : L2.St} {v : V} {Q : VK} {H : Hp} (h : Q v H) : tVar 17 (a0 :: a1 :: a2 :: a3 :: a4 :: a5 :: a6 :: a7 :: a8 :: a9 :: a10 :: a11 :: a12 :: a13 :: a14 :: a15 :: a16 :: some v :: r) H Q := ⟨v, rfl, h⟩
theorem aug17 {a0 a1 a2 a3 a4 a5 a6 a7 a8 a9 a10 a11 a12 a13 a14 a15 a16 : Option V} {r : L2.St} {x : V} {te : TE} {ti : TIp} {nx bk ct : L2.St → Hp → Prop} {rt : VK} {H : Hp} (h : te (a0 :: a1 :: a2 :: a3 :: a4 :: a5 :: a6 :: a7 :: a8 :: a9 :: a10 :: a11 :: a12 :: a13 :: a14 :: a15 :: a16 :: some x :: r) H fun y H1 => ti x y H1 fun z H2 => SetK (a0 :: a1 :: a2 :: a3 :: a4 :: a5 :: a6 :: a7 :: a8 :: a9 :: a10 :: a11 :: a12 :: a13 :: a14 :: a15 :: a16 :: some x :: r) 17 nx z H2) : tAug 17 te ti ⟨nx, rt, bk, ct⟩ (a0 :: a1 :: a2 :: a3 :: a4 :: a5 :: a6 :: a7 :: a8 :: a9 :: a10 :: a11 :: a12 :: a13 :: a14 :: a15 :: a16 :: some x :: r) H := ⟨x, rfl, h⟩
theorem setk18 {a0 a1 a2 a3 a4 a5 a6 a7 a8 a9 a10 a11 a12 a13 a14 a15 a16 a17 a18 : Option V} {r : L2.St} {nx : L2.St → Hp → Prop} {x : V} {H : Hp} (h : nx (a0 :: a1 :: a2 :: a3 :: a4 :: a5 :: a6 :: a7 :: a8 :: a9 :: a10 :: a11 :: a12 :: a13 :: a14 :: a15 :: a16 :: a17 :: some x :: r) H) : SetK (a0 :: a1 :: a2 :: a3 :: a4 :: a5 :: a6 :: a7 :: a8 :: a9 :: a10 :: a11 :: a12 :: a13 :: a14 :: a15 :: a16 :: a17 :: a18 :: r) 18 nx x H := h
theorem var18 {a0 a1 a2 a3 a4 a5 a6 a7 a8 a9 a10 a11 a12 a13 a14 a15 a16 a17 : Option V} {r : L2.St} {v : V} {Q : VK} {H : Hp} (h : Q v H) : tVar 18 (a0 :: a1 :: a2 :: a3 :: a4 :: a5 :: a6 :: a7 :: a8 :: a9 :: a10 :: a11 :: a12 :: a13 :: a14 :: a15 :: a16 :: a17 :: some v :: r) H Q := ⟨v, rfl, h⟩
theorem aug18 {a0 a1 a2 a3 a4 a5 a6 a7 a8 a9 a10 a11 a12 a13 a14 a15 a16 a17 : Option V} {r : L2.St} {x : V} {te : TE} {ti : TIp} {nx bk ct : L2.St → Hp → Prop} {rt : VK} {H : Hp} (h : te (a0 :: a1 :: a2 :: a3 :: a4 :: a5 :: a6 :: a7 :: a8 :: a9 :: a10 :: a11 :: a12 :: a13 :: a14 :: a15 :: a16 :: a17 :: some x :: r) H fun y H1 => ti x y H1 fun z H2 => SetK (a0 :: a1 :: a2 :: a3 :: a4 :: a5 :: a6 :: a7 :: a8 :: a9 :: a10 :: a11 :: a12 :: a13 :: a14 :: a15 :: a16 :: a17 :: some x :: r) 18 nx z H2) : tAug 18 te ti ⟨nx, rt, bk, ct⟩ (a0 :: a1 :: a2 :: a3 :: a4 :: a5 :: a6 :: a7 :: a8 :: a9 :: a10 :: a11 :: a12 :: a13 :: a14 :: a15 :: a16 :: a17 :: some x :: r) H := ⟨x, rfl, h⟩
theorem setk19 {a0 a1 a2 a3 a4 a5 a6 a7 a8 a9 a10 a11 a12 a13 a14 a15 a16 a17 a18 a19 : Option V} {r : L2.St} {nx : L2.St → Hp → Prop} {x : V} {H : Hp} (h : nx (a0 :: a1 :: a2 :: a3 :: a4 :: a5 :: a6 :: a7 :: a8 :: a9 :: a10 :: a11 :: a12 :: a13 :: a14 :: a15 :: a16 :: a17 :: a18 :: some x :: r) H) : SetK (a0 :: a1 :: a2 :: a3 :: a4 :: a5 :: a6 :: a7 :: a8 :: a9 :: a10 :: a11 :: a12 :: a13 :: a14 :: a15 :: a16 :: a17 :: a18 :: a19 :: r) 19 nx x H := h
theorem var19 {a0 a1 a2 a3 a4 a5 a6 a7 a8 a9 a10 a11 a12 a13 a14 a15 a16 a17 a18 : Option V} {r : L2.St} {v : V} {Q : VK} {H : Hp} (h : Q v H) : tVar 19 (a0 :: a1 :: a2 :: a3 :: a4 :: a5 :: a6 :: a7 :: a8 :: a9 :: a10 :: a11 :: a12 :: a13 :: a14 :: a15 :: a16 :: a17 :: a18 :: some v :: r) H Q := ⟨v, rfl, h⟩
theorem aug19 {a0 a1 a2 a3 a4 a5 a6 a7 a8 a9 a10 a11 a12 a13 a14 a15 a16 a17 a18 : Option V} {r : L2.St} {x : V} {te : TE} {ti : TIp} {nx bk ct : L2.St → Hp → Prop} {rt : VK} {H : Hp} (h : te (a0 :: a1 :: a2 :: a3 :: a4 :: a5 :: a6 :: a7 :: a8 :: a9 :: a10 :: a11 :: a12 :: a13 :: a14 :: a15 :: a16 :: a17 :: a18 :: some x :: r) H fun y H1 => ti x y H1 fun z H2 => SetK (a0 :: a1 :: a2 :: a3 :: a4 :: a5 :: a6 :: a7 :: a8 :: a9 :: a10 :: a11 :: a12 :: a13 :: a14 :: a15 :: a16 :: a17 :: a18 :: some x :: r) 19 nx z H2) : tAug 19 te ti ⟨nx, rt, bk, ct⟩ (a0 :: a1 :: a2 :: a3 :: a4 :: a5 :: a6 :: a7 :: a8 :: a9 :: a10 :: a11 :: a12 :: a13 :: a14 :: a15 :: a16 :: a17 :: a18 :: some x :: r) H := ⟨x, rfl, h⟩
theorem setk20 {a0 a1 a2 a3 a4 a5 a6 a7 a8 a9 a10 a11 a12 a13 a14 a15 a16 a17 a18 a19 a20 : Option V} {r : L2.St} {nx : L2.St → Hp → Prop} {x : V} {H : Hp} (h : nx (a0 :: a1 :: a2 :: a3 :: a4 :: a5 :: a6 :: a7 :: a8 :: a9 :: a10 :: a11 :: a12 :: a13 :: a14 :: a15 :: a16 :: a17 :: a18 :: a19 :: some x :: r) H) : SetK (a0 :: a1 :: a2 :: a3 :: a4 :: a5 :: a6 :: a7 :: a8 :: a9 :: a10 :: a11 :: a12 :: a13 :: a14 :: a15 :: a16 :: a17 :: a18 :: a19 :: a20 :: r) 20 nx x H := h
theorem var20 {a0 a1 a2 a3 a4 a5 a6 a7 a8 a9 a10 a11 a12 a13 a14 a15 a16 a17 a18 a19 : Option V} {r : L2.St} {v : V} {Q : VK} {H : Hp} (h : Q v H) : tVar 20 (a0 :: a1 :: a2 :: a3 :: a4 :: a5 :: a6 :: a7 :: a8 :: a9 :: a10 :: a11 :: a12 :: a13 :: a14 :: a15 :: a16 :: a17 :: a18 :: a19 :: some v :: r) H Q := ⟨v, rfl, h⟩
theorem aug20 {a0 a1 a2 a3 a4 a5 a6 a7 a8 a9 a10 a11 a12 a13 a14 a15 a16 a17 a18 a19 : Option V} {r : L2.St} {x : V} {te : TE} {ti : TIp} {nx bk ct : L2.St → Hp → Prop} {rt : VK} {H : Hp} (h : te (a0 :: a1 :: a2 :: a3 :: a4 :: a5 :: a6 :: a7 :: a8 :: a9 :: a10 :: a11 :: a12 :: a13 :: a14 :: a15 :: a16 :: a17 :: a18 :: a19 :: some x :: r) H fun y H1 => ti x y H1 fun z H2 => SetK (a0 :: a1 :: a2 :: a3 :: a4 :: a5 :: a6 :: a7 :: a8 :: a9 :: a10 :: a11 :: a12 :: a13 :: a14 :: a15 :: a16 :: a17 :: a18 :: a19 :: some x :: r) 20 nx z H2) : tAug 20 te ti ⟨nx, rt, bk, ct⟩ (a0 :: a1 :: a2 :: a3 :: a4 :: a5 :: a6 :: a7 :: a8 :: a9 :: a10 :: a11 :: a12 :: a13 :: a14 :: a15 :: a16 :: a17 :: a18 :: a19 :: some x :: r) H := ⟨x, rfl, h⟩
theorem setk21 {a0 a1 a2 a3 a4 a5 a6 a7 a8 a9 a10 a11 a12 a13 a14 a15 a16 a17 a18 a19 a20 a21 : Option V} {r : L2.St} {nx : L2.St → Hp → Prop} {x : V} {H : Hp} (h : nx (a0 :: a1 :: a2 :: a3 :: a4 :: a5 :: a6 :: a7 :: a8 :: a9 :: a10 :: a11 :: a12 :: a13 :: a14 :: a15 :: a16 :: a17 :: a18 :: a19 :: a20 :: some x :: r) H) : SetK (a0 :: a1 :: a2 :: a3 :: a4 :: a5 :: a6 :: a7 :: a8 :: a9 :: a10 :: a11 :: a12 :: a13 :: a14 :: a15 :: a16 :: a17 :: a18 :: a19 :: a20 :: a21 :: r) 21 nx x H := h
theorem var21 {a0 a1 a2 a3 a4 a5 a6 a7 a8 a9 a10 a11 a12 a13 a14 a15 a16 a17 a18 a19 a20 : Option V} {r : L2.St} {v : V} {Q : VK} {H : Hp} (h : Q v H) : tVar 21 (a0 :: a1 :: a2 :: a3 :: a4 :: a5 :: a6 :: a7 :: a8 :: a9 :: a10 :: a11 :: a12 :: a13 :: a14 :: a15 :: a16 :: a17 :: a18 :: a19 :: a20 :: some v :: r) H Q := ⟨v, rfl, h⟩
theorem aug21 {a0 a1 a2 a3 a4 a5 a6 a7 a8 a9 a10 a11 a12 a13 a14 a15 a16 a17 a18 a19 a20 : Option V} {r : L2.St} {x : V} {te : TE} {ti : TIp} {nx bk ct : L2.St → Hp → Prop} {rt : VK} {H : Hp} (h : te (a0 :: a1 :: a2 :: a3 :: a4 :: a5 :: a6 :: a7 :: a8 :: a9 :: a10 :: a11 :: a12 :: a13 :: a14 :: a15 :: a16 :: a17 :: a18 :: a19 :: a20 :: some x :: r) H fun y H1 => ti x y H1 fun z H2 => SetK (a0 :: a1 :: a2 :: a3 :: a4 :: a5 :: a6 :: a7 :: a8 :: a9 :: a10 :: a11 :: a12 :: a13 :: a14 :: a15 :: a16 :: a17 :: a18 :: a19 :: a20 :: some x :: r) 21 nx z H2) : tAug 21 te ti ⟨nx, rt, bk, ct⟩ (a0 :: a1 :: a2 :: a3 :: a4 :: a5 :: a6 :: a7 :: a8 :: a9 :: a10 :: a11 :: a12 :: a13 :: a14 :: a15 :: a16 :: a17 :: a18 :: a19 :: a20 :: some x :: r) H := ⟨x, rfl, h⟩
theorem setk22 {a0 a1 a2 a3 a4 a5 a6 a7 a8 a9 a10 a11 a12 a13 a14 a15 a16 a17 a18 a19 a20 a21 a22 : Option V} {r : L2.St} {nx : L2.St → Hp → Prop} {x : V} {H : Hp} (h : nx (a0 :: a1 :: a2 :: a3 :: a4 :: a5 :: a6 :: a7 :: a8 :: a9 :: a10 :: a11 :: a12 :: a13 :: a14 :: a15 :: a16 :: a17 :: a18 :: a19 :: a20 :: a21 :: some x :: r) H) : SetK (a0 :: a1 :: a2 :: a3 :: a4 :: a5 :: a6 :: a7 :: a8 :: a9 :: a10 :: a11 :: a12 :: a13 :: a14 :: a15 :: a16 :: a17 :: a18 :: a19 :: a20 :: a21 :: a22 :: r) 22 nx x H := h
theorem var22 {a0 a1 a2 a3 a4 a5 a6 a7 a8 a9 a10 a11 a12 a13 a14 a15 a16 a17 a18 a19 a20 a21 : Option V} {r : L2.St} {v : V} {Q : VK} {H : Hp} (h : Q v H) : tVar 22 (a0 :: a1 :: a2 :: a3 :: a4 :: a5 :: a6 :: a7 :: a8 :: a9 :: a10 :: a11 :: a12 :: a13 :: a14 :: a15 :: a16 :: a17 :: a18 :: a19 :: a20 :: a21 :: some v :: r) H Q := ⟨v, rfl, h⟩
theorem aug22 {a0 a1 a2 a3 a4 a5 a6 a7 a8 a9 a10 a11 a12 a13 a14 a15 a16 a17 a18 a19 a20 a21 : Option V} {r : L2.St} {x : V} {te : TE} {ti : TIp} {nx bk ct : L2.St → Hp → Prop} {rt : VK} {H : Hp} (h : te (a0 :: a1 :: a2 :: a3 :: a4 :: a5 :: a6 :: a7 :: a8 :: a9 :: a10 :: a11 :: a12 :: a13 :: a14 :: a15 :: a16 :: a17 :: a18 :: a19 :: a20 :: a21 :: some x :: r) H fun y H1 => ti x y H1 fun z H2 => SetK (a0 :: a1 :: a2 :: a3 :: a4 :: a5 :: a6 :: a7 :: a8 :: a9 :: a10 :: a11 :: a12 :: a13 :: a14 :: a15 :: a16 :: a17 :: a18 :: a19 :: a20 :: a21 :: some x :: r) 22 nx z H2) : tAug 22 te ti ⟨nx, rt, bk, ct⟩ (a0 :: a1 :: a2 :: a3 :: a4 :: a5 :: a6 :: a7 :: a8 :: a9 :: a10 :: a11 :: a12 :: a13 :: a14 :: a15 :: a16 :: a17 :: a18 :: a19 :: a20 :: a21 :: some x :: r) H := ⟨x, rfl, h⟩
theorem setk23 {a0 a1 a2 a3 a4 a5 a6 a7 a8 a9 a10 a11 a12 a13 a14 a15 a16 a17 a18 a19 a20 a21 a22 a23 : Option V} {r : L2.St} {nx : L2.St → Hp → Prop} {x : V} {H : Hp} (h : nx (a0 :: a1 :: a2 :: a3 :: a4 :: a5 :: a6 :: a7 :: a8 :: a9 :: a10 :: a11 :: a12 :: a13 :: a14 :: a15 :: a16 :: a17 :: a18 :: a19 :: a20 :: a21 :: a22 :: some x :: r) H) : SetK (a0 :: a1 :: a2 :: a3 :: a4 :: a5 :: a6 :: a7 :: a8 :: a9 :: a10 :: a11 :: a12 :: a13 :: a14 :: a15 :: a16 :: a17 :: a18 :: a19 :: a20 :: a21 :: a22 :: a23 :: r) 23 nx x H := h
theorem var23 {a0 a1 a2 a3 a4 a5 a6 a7 a8 a9 a10 a11 a12 a13 a14 a15 a16 a17 a18 a19 a20 a21 a22 : Option V} {r : L2.St} {v : V} {Q : VK} {H : Hp} (h : Q v H) : tVar 23 (a0 :: a1 :: a2 :: a3 :: a4 :: a5 :: a6 :: a7 :: a8 :: a9 :: a10 :: a11 :: a12 :: a13 :: a14 :: a15 :: a16 :: a17 :: a18 :: a19 :: a20 :: a21 :: a22 :: some v :: r) H Q := ⟨v, rfl, h⟩
theorem aug23 {a0 a1 a2 a3 a4 a5 a6 a7 a8 a9 a10 a11 a12 a13 a14 a15 a16 a17 a18 a19 a20 a21 a22 : Option V} {r : L2.St} {x : V} {te : TE} {ti : TIp} {nx bk ct : L2.St → Hp → Prop} {rt : VK} {H : Hp} (h : te (a0 :: a1 :: a2 :: a3 :: a4 :: a5 :: a6 :: a7 :: a8 :: a9 :: a10 :: a11 :: a12 :: a13 :: a14 :: a15 :: a16 :: a17 :: a18 :: a19 :: a20 :: a21 :: a22 :: some x :: r) H fun y H1 => ti x y H1 fun z H2 => SetK (a0 :: a1 :: a2 :: a3 :: a4 :: a5 :: a6 :: a7 :: a8 :: a9 :: a10 :: a11 :: a12 :: a13 :: a14 :: a15 :: a16 :: a17 :: a18 :: a19 :: a20 :: a21 :: a22 :: some x :: r) 23 nx z H2) : tAug 23 te ti ⟨nx, rt, bk, ct⟩ (a0 :: a1 :: a2 :: a3 :: a4 :: a5 :: a6 :: a7 :: a8 :: a9 :: a10 :: a11 :: a12 :: a13 :: a14 :: a15 :: a16 :: a17 :: a18 :: a19 :: a20 :: a21 :: a22 :: some x :: r) H := ⟨x, rfl, h⟩
theorem setk24 {a0 a1 a2 a3 a4 a5 a6 a7 a8 a9 a10 a11 a12 a13 a14 a15 a16 a17 a18 a19 a20 a21 a22 a23 a24 : Option V} {r : L2.St} {nx : L2.St → Hp → Prop} {x : V} {H : Hp} (h : nx (a0 :: a1 :: a2 :: a3 :: a4 :: a5 :: a6 :: a7 :: a8 :: a9 :: a10 :: a11 :: a12 :: a13 :: a14 :: a15 :: a16 :: a17 :: a18 :: a19 :: a20 :: a21 :: a22 :: a23 :: some x :: r) H) : SetK (a0 :: a1 :: a2 :: a3 :: a4 :: a5 :: a6 :: a7 :: a8 :: a9 :: a10 :: a11 :: a12 :: a13 :: a14 :: a15 :: a16 :: a17 :: a18 :: a19 :: a20 :: a21 :: a22 :: a23 :: a24 :: r) 24 nx x H := h
theorem var24 {a0 a1 a2 a3 a4 a5 a6 a7 a8 a9 a10 a11 a12 a13 a14 a15 a16 a17 a18 a19 a20 a21 a22 a23 : Option V} {r : L2.St} {v : V} {Q : VK} {H : Hp} (h : Q v H) : tVar 24 (a0 :: a1 :: a2 :: a3 :: a4 :: a5 :: a6 :: a7 :: a8 :: a9 :: a10 :: a11 :: a12 :: a13 :: a14 :: a15 :: a16 :: a17 :: a18 :: a19 :: a20 :: a21 :: a22 :: a23 :: some v :: r) H Q := ⟨v, rfl, h⟩
theorem aug24 {a0 a1 a2 a3 a4 a5 a6 a7 a8 a9 a10 a11 a12 a13 a14 a15 a16 a17 a18 a19 a20 a21 a22 a23 : Option V} {r : L2.St} {x : V} {te : TE} {ti : TIp} {nx bk ct : L2.St → Hp → Prop} {rt : VK} {H : Hp} (h : te (a0 :: a1 :: a2 :: a3 :: a4 :: a5 :: a6 :: a7 :: a8 :: a9 :: a10 :: a11 :: a12 :: a13 :: a14 :: a15 :: a16 :: a17 :: a18 :: a19 :: a20 :: a21 :: a22 :: a23 :: some x :: r) H fun y H1 => ti x y H1 fun z H2 => SetK (a0 :: a1 :: a2 :: a3 :: a4 :: a5 :: a6 :: a7 :: a8 :: a9 :: a10 :: a11 :: a12 :: a13 :: a14 :: a15 :: a16 :: a17 :: a18 :: a19 :: a20 :: a21 :: a22 :: a23 :: some x :: r) 24 nx z H2) : tAug 24 te ti ⟨nx, rt, bk, ct⟩ (a0 :: a1 :: a2 :: a3 :: a4 :: a5 :: a6 :: a7 :: a8 :: a9 :: a10 :: a11 :: a12 :: a13 :: a14 :: a15 :: a16 :: a17 :: a18 :: a19 :: a20 :: a21 :: a22 :: a23 :: some x :: r) H := ⟨x, rfl, h⟩
theorem setk25 {a0 a1 a2 a3 a4 a5 a6 a7 a8 a9 a10 a11 a12 a13 a14 a15 a16 a17 a18 a19 a20 a21 a22 a23 a24 a25 : Option V} {r : L2.St} {nx : L2.St → Hp → Prop} {x : V} {H : Hp} (h : nx (a0 :: a1 :: a2 :: a3 :: a4 :: a5 :: a6 :: a7 :: a8 :: a9 :: a10 :: a11 :: a12 :: a13 :: a14 :: a15 :: a16 :: a17 :: a18 :: a19 :: a20 :: a21 :: a22 :: a23 :: a24 :: some x :: r) H) : SetK (a0 :: a1 :: a2 :: a3 :: a4 :: a5 :: a6 :: a7 :: a8 :: a9 :: a10 :: a11 :: a12 :: a13 :: a14 :: a15 :: a16 :: a17 :: a18 :: a19 :: a20 :: a21 :: a22 :: a23 :: a24 :: a25 :: r) 25 nx x H := h
theorem var25 {a0 a1 a2 a3 a4 a5 a6 a7 a8 a9 a10 a11 a12 a13 a14 a15 a16 a17 a18 a19 a20 a21 a22 a23 a24 : Option V} {r : L2.St} {v : V} {Q : VK} {H : Hp} (h : Q v H) : tVar 25 (a0 :: a1 :: a2 :: a3 :: a4 :: a5 :: a6 :: a7 :: a8 :: a9 :: a10 :: a11 :: a12 :: a13 :: a14 :: a15 :: a16 :: a17 :: a18 :: a19 :: a20 :: a21 :: a22 :: a23 :: a24 :: some v :: r) H Q := ⟨v, rfl, h⟩
theorem aug25 {a0 a1 a2 a3 a4 a5 a6 a7 a8 a9 a10 a11 a12 a13 a14 a15 a16 a17 a18 a19 a20 a21 a22 a23 a24 : Option V} {r : L2.St} {x : V} {te : TE} {ti : TIp} {nx bk ct : L2.St → Hp → Prop} {rt : VK} {H : Hp} (h : te (a0 :: a1 :: a2 :: a3 :: a4 :: a5 :: a6 :: a7 :: a8 :: a9 :: a10 :: a11 :: a12 :: a13 :: a14 :: a15 :: a16 :: a17 :: a18 :: a19 :: a20 :: a21 :: a22 :: a23 :: a24 :: some x :: r) H fun y H1 => ti x y H1 fun z H2 => SetK (a0 :: a1 :: a2 :: a3 :: a4 :: a5 :: a6 :: a7 :: a8 :: a9 :: a10 :: a11 :: a12 :: a13 :: a14 :: a15 :: a16 :: a17 :: a18 :: a19 :: a20 :: a21 :: a22 :: a23 :: a24 :: some x :: r) 25 nx z H2) : tAug 25 te ti ⟨nx, rt, bk, ct⟩ (a0 :: a1 :: a2 :: a3 :: a4 :: a5 :: a6 :: a7 :: a8 :: a9 :: a10 :: a11 :: a12 :: a13 :: a14 :: a15 :: a16 :: a17 :: a18 :: a19 :: a20 :: a21 :: a22 :: a23 :: a24 :: some x :: r) H := ⟨x, rfl, h⟩
end Sw
set_option Elab.async false
set_option linter.all false
set_option maxRecDepth 100000
set_option maxHeartbeats 4000000
/-! Sw1: loops, comprehensions, built-ins. -/
namespace Sw
open PySem PySem.Spec PyProof.Rows L2
section
variable {H0 : Hp} {ex : List Addr} {H : Hp} {L : List (Addr × HO)} {K : PySem.W.Frag} {σ : L2.St} {Q : VK} {QT : Bool → Hp → Prop} {xs ys : List V} {p a : Addr} {g : TG} {tt : TT} {te tl : TE} {tb : TS} {vs : List Nat} {wi : TI} {R : It → Hp → Prop}
  {nx ct bk : L2.St → Hp → Prop} {rt : VK} {x y v : V}

/-! ### what is walked -/
def Rng1K (R : It → Hp → Prop) (vs : List V) (H : Hp) : Prop := ∃ j : Int, vs = [.int j] ∧ -(2 ^ 62) ≤ j ∧ j < 2 ^ 62 ∧ R (Itr 0 j.toNat) H
def Rng2K (R : It → Hp → Prop) (vs : List V) (H : Hp) : Prop := ∃ i j : Int, vs = [.int i, .int j] ∧ (-(2 ^ 62) ≤ i ∧ i < 2 ^ 62 ∧ -(2 ^ 62) ≤ j ∧ j < 2 ^ 62) ∧ R (Itr i (j - i).toNat) H
theorem rng1_ {ta : TA} (h : ta σ H fun vs H1 => Rng1K R vs H1) : iRng1 ta σ H R := h
theorem rng2_ {ta : TA} (h : ta σ H fun vs H1 => Rng2K R vs H1) : iRng2 ta σ H R := h
theorem rng1k {j : Int} (b : -(2 ^ 62) ≤ j ∧ j < 2 ^ 62) (h : R (Itr 0 j.toNat) H) : Rng1K R [.int j] H := ⟨j, rfl, b.1, b.2, h⟩
theorem rng2k {i j : Int} (b : -(2 ^ 62) ≤ i ∧ i < 2 ^ 62 ∧ -(2 ^ 62) ≤ j ∧ j < 2 ^ 62) (h : R (Itr i (j - i).toNat) H) : Rng2K R [.int i, .int j] H := ⟨i, j, rfl, b, h⟩
def IListK (K : PySem.W.Frag) (R : It → Hp → Prop) (x : V) (H1 : Hp) : Prop := ∃ a, x = .ref a ∧ (∃ xs, SqL K H1 a xs) ∧ R (Itl K a) H1
def ITupK (K : PySem.W.Frag) (R : It → Hp → Prop) (x : V) (H1 : Hp) : Prop := ∃ a, x = .ref a ∧ (∃ xs, SqT K H1 a xs) ∧ R (Itt K a) H1
theorem ilist_ (h : tl σ H fun x H1 => IListK K R x H1) : iList K tl σ H R := h
theorem itup_ (h : tl σ H fun x H1 => ITupK K R x H1) : iTup K tl σ H R := h
theorem ilistk (hs : SqL K H a xs) (h : R (Itl K a) H) : IListK K R (.ref a) H := ⟨a, rfl, ⟨xs, hs⟩, h⟩
theorem itupk (hs : SqT K H a xs) (h : R (Itt K a) H) : ITupK K R (.ref a) H := ⟨a, rfl, ⟨xs, hs⟩, h⟩

/-! ### for -/
def ForK (g : TG) (tb : TS) (nx : L2.St → Hp → Prop) (rt : VK) (σ : L2.St) (J : It) (H1 : Hp) : Prop := ∃ W : Nat → Nat → L2.St → Hp → Prop, (∃ m, W 0 m σ H1) ∧ ∀ i m σ H, W i m σ H →
  (J.stop i H ∧ nx σ H) ∨ (J.go i H ∧ ∃ N : L2.St → Hp → Prop, (∀ σ' H', N σ' H' → ∃ m', m' < m ∧ W (i + 1) m' σ' H') ∧ ∀ x H', J.yld i H x H' → g x σ H' fun σ2 H2 => tb ⟨N, rt, nx, N⟩ σ2 H2)
theorem for_ (h : wi σ H fun J H1 => ForK g tb nx rt σ J H1) : tFor wi g tb ⟨nx, rt, bk, ct⟩ σ H := h
theorem fork_rng {lo : Int} {n : Nat} (Pv : Nat → L2.St → Hp → Prop) (h0 : Pv 0 σ H) (hs : ∀ i σ H, i < n → Pv i σ H → g (.int (lo + i)) σ H fun σ2 H2 => tb ⟨Pv (i + 1), rt, nx, Pv (i + 1)⟩ σ2 H2) (hd : ∀ σ H, Pv n σ H → nx σ H) : ForK g tb nx rt σ (Itr lo n) H :=
  for_range (D := ⟨nx, rt, fun _ _ => False, fun _ _ => False⟩) Pv h0 hs hd
theorem fork_list (Pv : Nat → L2.St → Hp → Prop) (h0 : Pv 0 σ H) (hl : ∀ i σ H, i ≤ xs.length → Pv i σ H → SqL K H a xs) (hs : ∀ i x σ H, xs[i]? = some x → Pv i σ H → g x σ H fun σ2 H2 => tb ⟨Pv (i + 1), rt, nx, Pv (i + 1)⟩ σ2 H2)
    (hd : ∀ σ H, Pv xs.length σ H → nx σ H) : ForK g tb nx rt σ (Itl K a) H :=
  for_list (D := ⟨nx, rt, fun _ _ => False, fun _ _ => False⟩) Pv h0 hl hs hd
theorem fork_tup (Pv : Nat → L2.St → Hp → Prop) (h0 : Pv 0 σ H) (hl : ∀ i σ H, i ≤ xs.length → Pv i σ H → SqT K H a xs) (hs : ∀ i x σ H, xs[i]? = some x → Pv i σ H → g x σ H fun σ2 H2 => tb ⟨Pv (i + 1), rt, nx, Pv (i + 1)⟩ σ2 H2)
    (hd : ∀ σ H, Pv xs.length σ H → nx σ H) : ForK g tb nx rt σ (Itt K a) H :=
  for_tup (D := ⟨nx, rt, fun _ _ => False, fun _ _ => False⟩) Pv h0 hl hs hd
theorem gn_ {i : Nat} {Qs : L2.St → Hp → Prop} (h : SetK σ i Qs x H) : gName i x σ H Qs := h
theorem gt2_ {i j : Nat} {x y : V} {Qs : L2.St → Hp → Prop} (hs : SqT K H a [x, y]) (h : SetK σ i (fun σ1 H1 => SetK σ1 j Qs y H1) x H) : gTup K 2 (gCons (gName i) (gCons (gName j) gNil)) (.ref a) σ H Qs := ⟨a, [x, y], rfl, hs, rfl, x, [y], rfl, y, [], rfl, rfl, h⟩
theorem gt3_ {i j k : Nat} {x y z : V} {Qs : L2.St → Hp → Prop} (hs : SqT K H a [x, y, z]) (h : SetK σ i (fun σ1 H1 => SetK σ1 j (fun σ2 H2 => SetK σ2 k Qs z H2) y H1) x H) : gTup K 3 (gCons (gName i) (gCons (gName j) (gCons (gName k) gNil))) (.ref a) σ H Qs := ⟨a, [x, y, z], rfl, hs, rfl, x, [y, z], rfl, y, [z], rfl, z, [], rfl, rfl, h⟩
theorem gasg_ {g : TG} (h : g x σ H nx) : AsgK g σ nx x H := h
def ParK (i j : Nat) (σ : L2.St) (nx : L2.St → Hp → Prop) (vs : List V) (H1 : Hp) : Prop := ∃ v w, vs = [v, w] ∧ nx ((σ.set i (some v)).set j (some w)) H1
theorem par_ {i j : Nat} {ta : TA} (h : ta σ H fun vs H1 => ParK i j σ nx vs H1) : tPar i j ta ⟨nx, rt, bk, ct⟩ σ H := h
theorem park {i j : Nat} (h : SetK σ i (fun σ1 H1 => SetK σ1 j nx y H1) x H) : ParK i j σ nx [x, y] H := ⟨x, y, rfl, h⟩

/-! ### comprehensions -/
def CInv (H0 : Hp) (ex : List Addr) (P : Nat → Addr → List V → List (Addr × HO) → Prop) (D : Addr) (i : Nat) (H : Hp) : Prop :=
  ∃ acc L, acc.length ≤ i ∧ (D, HO.lst acc) ∈ L ∧ P i D acc L ∧ Has H0 ex H L
def LcN (D : Addr) (Nx : Hp → Prop) (y : V) (H4 : Hp) : Prop := ∃ acc, H4 D = some (.lst acc) ∧ acc.length < sizeLine ∧ Nx (upd H4 D (.lst (acc ++ [y])))
def LcT (vs : List Nat) (σ : L2.St) (tt : TT) (te : TE) (Nx : Hp → Prop) (D : Addr) (σ2 : L2.St) (H2 : Hp) : Prop :=
  wipe σ2 vs = wipe σ vs ∧ tt σ2 H2 fun b H3 => if b = true then te σ2 H3 (fun y H4 => LcN D Nx y H4) else Nx H3
def LcK (g : TG) (tt : TT) (te : TE) (vs : List Nat) (σ : L2.St) (Q : VK) (J : It) (H1 : Hp) : Prop := ∀ D, H1 D = none → ∃ W : Nat → Nat → Hp → Prop, (∃ m, W 0 m (upd H1 D (.lst []))) ∧ ∀ i m H, W i m H →
  (J.stop i H ∧ Q (.ref D) H) ∨ (J.go i H ∧ ∃ Nx : Hp → Prop, (∀ H', Nx H' → ∃ m', m' < m ∧ W (i + 1) m' H') ∧ ∀ x H', J.yld i H x H' → g x (wipe σ vs) H' fun σ2 H2 => LcT vs σ tt te Nx D σ2 H2)
theorem lc_ (h : wi σ H fun J H1 => LcK g tt te vs σ Q J H1) : tLc wi g tt te vs σ H Q := h
theorem yes_ (h : QT true H) : tYes σ H QT := h
theorem lct {σ2 : L2.St} {H2 : Hp} {D : Addr} {Nx : Hp → Prop} (e : wipe σ2 vs = wipe σ vs) (h : tt σ2 H2 fun b H3 => if b = true then te σ2 H3 (fun y H4 => LcN D Nx y H4) else Nx H3) : LcT vs σ tt te Nx D σ2 H2 := ⟨e, h⟩
theorem freshD {D : Addr} (h : Has H0 ex H L) (n : H D = none) : D ∈ ex ∨ H0 D = none := by
  by_cases m : D ∈ ex
  · exact .inl m
  · refine .inr ?_
    cases e : H0 D with
    | none => rfl
    | some o =>
      rw [h.keep D o e m] at n
      cases n
theorem lcn {D : Addr} {P : Nat → Addr → List V → List (Addr × HO) → Prop} {i : Nat} {acc : List V} {L4 L4' L5 : List (Addr × HO)} (hH : Has H0 ex H L4) (hD : D ∈ ex ∨ H0 D = none) (pt : Put L4 D (.lst acc) (.lst (acc ++ [y])) L4') (hl : acc.length ≤ i) (hi : i ≤ 100000)
    (sb : L5.Sublist L4') (hm : (D, HO.lst (acc ++ [y])) ∈ L5) (p : P (i + 1) D (acc ++ [y]) L5) : LcN D (CInv H0 ex P D (i + 1)) y H := by
  refine ⟨acc, hH.at pt.mem.1, Nat.lt_of_le_of_lt (Nat.le_trans hl hi) (by decide), acc ++ [y], L5, ?_, hm, p, (hH.put pt hD).sub sb⟩
  rw [List.length_append]
  exact Nat.add_le_add_right hl 1
theorem lck_rng {lo : Int} {n : Nat} (hH : Has H0 ex H L) (P : Nat → Addr → List V → List (Addr × HO) → Prop) (p0 : ∀ D, P 0 D [] ((D, .lst []) :: L))
    (turn : ∀ i D acc M H', i < n → (D ∈ ex ∨ H0 D = none) → acc.length ≤ i → (D, HO.lst acc) ∈ M → P i D acc M → Has H0 ex H' M → g (.int (lo + i)) (wipe σ vs) H' fun σ2 H2 => LcT vs σ tt te (CInv H0 ex P D (i + 1)) D σ2 H2)
    (done : ∀ D acc M H', acc.length ≤ n → (D, HO.lst acc) ∈ M → P n D acc M → Has H0 ex H' M → Q (.ref D) H') : LcK g tt te vs σ Q (Itr lo n) H := by
  intro D hD
  refine lc_range (D := D) (vs := vs) (σ := σ) (g := g) (tt := tt) (te := te) (CInv H0 ex P D) ⟨[], _, Nat.le_refl 0, List.mem_cons_self, p0 D, hH.new hD⟩ (fun i H hi hp => ?_) (fun H hp => ?_)
  · obtain ⟨acc, M, h1, h2, h3, h4⟩ := hp
    exact turn i D acc M H hi (freshD hH hD) h1 h2 h3 h4
  · obtain ⟨acc, M, h1, h2, h3, h4⟩ := hp
    exact done D acc M H h1 h2 h3 h4
theorem lck_list (hH : Has H0 ex H L) (P : Nat → Addr → List V → List (Addr × HO) → Prop) (p0 : ∀ D, P 0 D [] ((D, .lst []) :: L))
    (hl : ∀ i D acc M H', (D, HO.lst acc) ∈ M → P i D acc M → Has H0 ex H' M → SqL K H' a xs)
    (turn : ∀ i x D acc M H', xs[i]? = some x → (D ∈ ex ∨ H0 D = none) → acc.length ≤ i → (D, HO.lst acc) ∈ M → P i D acc M → Has H0 ex H' M → g x (wipe σ vs) H' fun σ2 H2 => LcT vs σ tt te (CInv H0 ex P D (i + 1)) D σ2 H2)
    (done : ∀ D acc M H', acc.length ≤ xs.length → (D, HO.lst acc) ∈ M → P xs.length D acc M → Has H0 ex H' M → Q (.ref D) H') : LcK g tt te vs σ Q (Itl K a) H := by
  intro D hD
  refine lc_list (xs := xs) (D := D) (vs := vs) (σ := σ) (g := g) (tt := tt) (te := te) (CInv H0 ex P D) ⟨[], _, Nat.le_refl 0, List.mem_cons_self, p0 D, hH.new hD⟩ (fun i H _ hp => ?_) (fun i x H hi hp => ?_) (fun H hp => ?_)
  · obtain ⟨acc, M, h1, h2, h3, h4⟩ := hp
    exact hl i D acc M H h2 h3 h4
  · obtain ⟨acc, M, h1, h2, h3, h4⟩ := hp
    exact turn i x D acc M H hi (freshD hH hD) h1 h2 h3 h4
  · obtain ⟨acc, M, h1, h2, h3, h4⟩ := hp
    exact done D acc M H h1 h2 h3 h4
theorem lck_tup (hH : Has H0 ex H L) (P : Nat → Addr → List V → List (Addr × HO) → Prop) (p0 : ∀ D, P 0 D [] ((D, .lst []) :: L))
    (hl : ∀ i D acc M H', (D, HO.lst acc) ∈ M → P i D acc M → Has H0 ex H' M → SqT K H' a xs)
    (turn : ∀ i x D acc M H', xs[i]? = some x → (D ∈ ex ∨ H0 D = none) → acc.length ≤ i → (D, HO.lst acc) ∈ M → P i D acc M → Has H0 ex H' M → g x (wipe σ vs) H' fun σ2 H2 => LcT vs σ tt te (CInv H0 ex P D (i + 1)) D σ2 H2)
    (done : ∀ D acc M H', acc.length ≤ xs.length → (D, HO.lst acc) ∈ M → P xs.length D acc M → Has H0 ex H' M → Q (.ref D) H') : LcK g tt te vs σ Q (Itt K a) H := by
  intro D hD
  refine lc_tup (xs := xs) (D := D) (vs := vs) (σ := σ) (g := g) (tt := tt) (te := te) (CInv H0 ex P D) ⟨[], _, Nat.le_refl 0, List.mem_cons_self, p0 D, hH.new hD⟩ (fun i H _ hp => ?_) (fun i x H hi hp => ?_) (fun H hp => ?_)
  · obtain ⟨acc, M, h1, h2, h3, h4⟩ := hp
    exact hl i D acc M H h2 h3 h4
  · obtain ⟨acc, M, h1, h2, h3, h4⟩ := hp
    exact turn i x D acc M H hi (freshD hH hD) h1 h2 h3 h4
  · obtain ⟨acc, M, h1, h2, h3, h4⟩ := hp
    exact done D acc M H h1 h2 h3 h4

/-! ### slices -/
def tPartK (Qo : Option Int → Hp → Prop) (x : V) (H : Hp) : Prop := ∃ i, x = .int i ∧ Qo (some i) H
def rSlU (K : PySem.W.Frag) : V → Option Int → Option Int → Hp → VK → Prop := fun x lo hi H Q => rSlL K x lo hi H Q ∨ rSlT K x lo hi H Q ∨ rSlS x lo hi H Q
theorem sl_seq {X : Cx} : SlR X (rSlU X.K) := sl_list.or (sl_tup.or sl_str)
theorem part_ {Qo : Option Int → Hp → Prop} (h : te σ H fun x H1 => tPartK Qo x H1) : tPart te σ H Qo := h
theorem partk {Qo : Option Int → Hp → Prop} {i : Int} (h : Qo (some i) H) : tPartK Qo (.int i) H := ⟨i, rfl, h⟩
theorem nopart_ {Qo : Option Int → Hp → Prop} (h : Qo none H) : tNoPart σ H Qo := h
theorem sl_ {r : V → Option Int → Option Int → Hp → VK → Prop} {tl th : TO} (h : te σ H fun x H1 => tl σ H1 fun l H2 => th σ H2 fun u H3 => r x l u H3 Q) : tSl r te tl th σ H Q := h
theorem slL {lo hi : Option Int} (hH : Has H0 ex H L) (hs : SqL K H a xs) (h : ∀ p H', H p = none → Has H0 ex H' ((p, .lst (cutV xs lo hi)) :: L) → Q (.ref p) H') : rSlU K (.ref a) lo hi H Q := .inl ⟨a, xs, rfl, hs, fun p n => h p _ n (hH.new n)⟩
theorem slT {lo hi : Option Int} (hH : Has H0 ex H L) (hs : SqT K H a xs) (hn : ¬ (HT.sIx xs.length 0 lo = 0 ∧ HT.sIx xs.length xs.length hi = xs.length)) (h : ∀ p H', H p = none → Has H0 ex H' ((p, .tup (cutV xs lo hi)) :: L) → Q (.ref p) H') : rSlU K (.ref a) lo hi H Q :=
  .inr (.inl ⟨a, xs, rfl, hs, hn, fun p n => h p _ n (hH.new n)⟩)
theorem slS {lo hi : Option Int} {z : Str} (hz : z.length ≤ sizeLine) (h : Q (.str (cutS z lo hi)) H) : rSlU K (.str z) lo hi H Q := .inr (.inr ⟨z, rfl, hz, h⟩)
theorem cut1 (x : V) (xs : List V) : cutV (x :: xs) (some 1) none = xs := by
  unfold cutV
  rw [show HT.sIx (x :: xs).length 0 (some 1) = min 1 (x :: xs).length from HT.sIx_nat _ 0 1, HT.sIx_none]
  rw [show min 1 (x :: xs).length = 1 by rw [List.length_cons]; omega]
  show (List.take ((x :: xs).length - 1) xs) = xs
  rw [List.length_cons, Nat.add_sub_cancel]
  exact List.take_length

/-! ### built-ins -/
theorem isi {t u : Value} {c : V} {b : Bool} (k : ClsV c u) (ty : TyX K H x t) (e : PySem.W.kitOne K t u = some b) (h : Q (.bl b) H) : rIsi K [x, c] H Q := ⟨x, c, t, u, b, rfl, k, ty, e, h⟩
theorem isi_str {z : Str} (h : Q (.bl true) H) : rIsi K [.str z, .ty "str"] H Q := isi (.ty _) (.base (.str z)) (kit_ty (by decide +kernel)) h
theorem inL {neg : Bool} (hs : SqL K H a xs) (hx : flatV x = true) (hf : xs.all flatV = true) (h : Q (.bl (if neg then !inV x xs else inV x xs)) H) : rIn K neg x (.ref a) H Q := ⟨a, xs, rfl, .inl hs, hx, hf, h⟩
theorem inT {neg : Bool} (hs : SqT K H a xs) (hx : flatV x = true) (hf : xs.all flatV = true) (h : Q (.bl (if neg then !inV x xs else inV x xs)) H) : rIn K neg x (.ref a) H Q := ⟨a, xs, rfl, .inr hs, hx, hf, h⟩
def rLen (K : PySem.W.Frag) : List V → Hp → VK → Prop := fun xs H Q => ∃ x n, xs = [x] ∧ LenV K x H n ∧ Q (.int n) H
theorem call_lenN {X : Cx} : CallR X (.builtin "len") (rLen X.K) := call_len
theorem lenL (hs : SqL K H a xs) (h : Q (.int xs.length) H) : rLen K [.ref a] H Q := ⟨_, _, rfl, .inl ⟨xs, hs, rfl⟩, h⟩
theorem lenT (hs : SqT K H a xs) (h : Q (.int xs.length) H) : rLen K [.ref a] H Q := ⟨_, _, rfl, .inr ⟨xs, hs, rfl⟩, h⟩
theorem lenS {z : Str} (hz : z.length ≤ sizeLine) (h : Q (.int z.length) H) : rLen K [.str z] H Q := ⟨_, _, rfl, ⟨hz, rfl⟩, h⟩
def rInt1 : List V → Hp → VK → Prop := fun xs H Q => (∃ i, xs = [.int i] ∧ Q (.int i) H) ∨ ∃ k, xs = [.bl k] ∧ Q (.int (if k then 1 else 0)) H
theorem call_intN {X : Cx} : CallR X (.type "int") rInt1 := call_int1
theorem int1 {i : Int} (h : Q (.int i) H) : rInt1 [.int i] H Q := .inl ⟨i, rfl, h⟩
def rStrI : List V → Hp → VK → Prop := fun xs H Q => ∃ i : Int, xs = [.int i] ∧ i.natAbs.log2 < 1920 ∧ Q (.str (toString i)) H
theorem call_strN {X : Cx} : CallR X (.type "str") rStrI := call_str_int
theorem strI {i : Int} (b : i.natAbs.log2 < 1920) (h : Q (.str (toString i)) H) : rStrI [.int i] H Q := ⟨i, rfl, b, h⟩
theorem all_ {bs : List Bool} (hs : SqL K H a (bs.map V.bl)) (h : Q (.bl (bs.all id)) H) : rAll K [.ref a] H Q := ⟨a, bs, rfl, hs, h⟩
theorem any_ {bs : List Bool} (hs : SqL K H a (bs.map V.bl)) (h : Q (.bl (bs.any id)) H) : rAny K [.ref a] H Q := ⟨a, bs, rfl, hs, h⟩
def rMin2 : List V → Hp → VK → Prop := fun xs H Q => ∃ i j : Int, xs = [.int i, .int j] ∧ Q (.int (if j < i then j else i)) H
def rMax2 : List V → Hp → VK → Prop := fun xs H Q => ∃ i j : Int, xs = [.int i, .int j] ∧ Q (.int (if j > i then j else i)) H
theorem call_minN {X : Cx} (hc : X.calm = true) : CallR X (.builtin "min") rMin2 := call_min2 hc
theorem call_maxN {X : Cx} (hc : X.calm = true) : CallR X (.builtin "max") rMax2 := call_max2 hc
theorem min2 {i j : Int} (h : Q (.int (if j < i then j else i)) H) : rMin2 [.int i, .int j] H Q := ⟨i, j, rfl, h⟩
theorem max2 {i j : Int} (h : Q (.int (if j > i then j else i)) H) : rMax2 [.int i, .int j] H Q := ⟨i, j, rfl, h⟩
theorem getL {i : Int} (hs : SqL K H a xs) (e : atI xs i = some v) (h : Q v H) : rIxL K (.ref a) (.int i) H Q := ⟨a, xs, i, v, rfl, rfl, hs, e, h⟩
def rSetK : V → V → V → Hp → (Hp → Prop) → Prop := rSetL
theorem setL {L' : List (Addr × HO)} {i : Int} {j : Nat} {Qh : Hp → Prop} (hH : Has H0 ex H L) (hj : ixN xs.length i = some j) (pt : Put L a (.lst xs) (.lst (xs.set j y)) L') (f : a ∈ ex ∨ H0 a = none) (h : ∀ H', Has H0 ex H' L' → Qh H') : rSetL (.ref a) (.int i) y H Qh :=
  ⟨a, xs, i, j, rfl, rfl, hH.at pt.mem.1, hj, h _ (hH.put pt f)⟩
end
theorem at0 {α : Type} {a0 : α} {r : List α} : atI (a0 :: r) 0 = some a0 := atI_nat (j := 0) rfl
theorem at1 {α : Type} {a0 a1 : α} {r : List α} : atI (a0 :: a1 :: r) 1 = some a1 := atI_nat (j := 1) rfl
theorem at2 {α : Type} {a0 a1 a2 : α} {r : List α} : atI (a0 :: a1 :: a2 :: r) 2 = some a2 := atI_nat (j := 2) rfl
theorem at3 {α : Type} {a0 a1 a2 a3 : α} {r : List α} : atI (a0 :: a1 :: a2 :: a3 :: r) 3 = some a3 := atI_nat (j := 3) rfl
theorem at4 {α : Type} {a0 a1 a2 a3 a4 : α} {r : List α} : atI (a0 :: a1 :: a2 :: a3 :: a4 :: r) 4 = some a4 := atI_nat (j := 4) rfl
theorem at5 {α : Type} {a0 a1 a2 a3 a4 a5 : α} {r : List α} : atI (a0 :: a1 :: a2 :: a3 :: a4 :: a5 :: r) 5 = some a5 := atI_nat (j := 5) rfl
theorem at6 {α : Type} {a0 a1 a2 a3 a4 a5 a6 : α} {r : List α} : atI (a0 :: a1 :: a2 :: a3 :: a4 :: a5 :: a6 :: r) 6 = some a6 := atI_nat (j := 6) rfl
theorem at7 {α : Type} {a0 a1 a2 a3 a4 a5 a6 a7 : α} {r : List α} : atI (a0 :: a1 :: a2 :: a3 :: a4 :: a5 :: a6 :: a7 :: r) 7 = some a7 := atI_nat (j := 7) rfl
theorem at8 {α : Type} {a0 a1 a2 a3 a4 a5 a6 a7 a8 : α} {r : List α} : atI (a0 :: a1 :: a2 :: a3 :: a4 :: a5 :: a6 :: a7 :: a8 :: r) 8 = some a8 := atI_nat (j := 8) rfl
theorem at9 {α : Type} {a0 a1 a2 a3 a4 a5 a6 a7 a8 a9 : α} {r : List α} : atI (a0 :: a1 :: a2 :: a3 :: a4 :: a5 :: a6 :: a7 :: a8 :: a9 :: r) 9 = some a9 := atI_nat (j := 9) rfl
theorem flat_strs (ns : List Str) : (ns.map V.str).all flatV = true := by
  rw [List.all_map]
  exact List.all_eq_true.mpr fun _ _ => rfl
theorem slT1 {H0 : Hp} {ex : List Addr} {H : Hp} {L : List (Addr × HO)} {K : PySem.W.Frag} {Q : VK} {xs : List V} {a : Addr} {x : V} (hH : Has H0 ex H L) (hs : SqT K H a (x :: xs)) (h : ∀ p H', H p = none → Has H0 ex H' ((p, .tup xs) :: L) → Q (.ref p) H') : rSlU K (.ref a) (some 1) none H Q := by
  refine slT hH hs (fun z => ?_) fun p H' n h' => h p H' n (by rw [← cut1 x xs]; exact h')
  have z1 := z.1
  rw [show HT.sIx (x :: xs).length 0 (some 1) = min 1 (x :: xs).length from HT.sIx_nat _ 0 1, List.length_cons] at z1
  omega
theorem snoc_str (ws : List Str) (x : Str) : ws.map V.str ++ [V.str x] = (ws ++ [x]).map V.str := by rw [List.map_append]; rfl
theorem map_range_succ {α : Type} (f : Nat → α) (i : Nat) : (List.range (i + 1)).map f = (List.range i).map f ++ [f i] := by
  rw [List.range_succ, List.map_append]
  rfl
/-! ### data -/
theorem dp_ints {K : PySem.W.Frag} {H : Hp} : ∀ ns : List Int, DpAll K H (ns.map V.int) (ns.map PyData.int)
  | [] => .nil
  | n :: ns => .cons (.int n) (dp_ints ns)
theorem eqv_ints_nil (ns : List Int) : PyData.eqv (.list (ns.map PyData.int)) (.list []) = decide (ns = []) := by
  cases ns with
  | nil => rfl
  | cons n ns => rfl
theorem rIx_L {K : PySem.W.Frag} {H : Hp} {Q : VK} {xs : List V} {a : Addr} {i : Int} {v : V} (hs : SqL K H a xs) (e : atI xs i = some v) (h : Q v H) : rIx K (.ref a) (.int i) H Q := ixL hs e h
theorem at_nat {xs : List V} {i : Int} (h0 : 0 ≤ i) (h1 : i < xs.length) : ∃ v, atI xs i = some v := by
  have hl : i.toNat < xs.length := by omega
  refine ⟨xs[i.toNat], ?_⟩
  have := atI_nat (j := i.toNat) (List.getElem?_eq_getElem hl)
  rwa [show ((i.toNat : Nat) : Int) = i by omega] at this
theorem fmod_lt {i j : Int} (h : 0 < j) : 0 ≤ i.fmod j ∧ i.fmod j < j := ⟨Int.fmod_nonneg_of_pos i h, Int.fmod_lt_of_pos i h⟩
section
variable {H : Hp} {Q : VK} {a b : Int}
theorem modP (c : 0 < b) (h : ∀ r : Int, 0 ≤ r → r < b → Q (.int r) H) : rI (fun x j => j ≠ 0) (fun i j => .int (i.fmod j)) (.int a) (.int b) H Q :=
  ⟨a, b, rfl, rfl, Int.ne_of_gt c, h _ (fmod_lt c).1 (fmod_lt c).2⟩
theorem divP (c : 0 < b ∧ b < 1073741824) (h : ∀ r : Int, (0 ≤ a → 0 ≤ r ∧ r ≤ a) → Q (.int r) H) : rI CDivN (fun i j => .int (i.fdiv j)) (.int a) (.int b) H Q :=
  ⟨a, b, rfl, rfl, ⟨Int.ne_of_gt c.1, by omega⟩, h _ fun ha => by
    rw [Int.fdiv_eq_ediv_of_nonneg a (Int.le_of_lt c.1)]
    exact ⟨Int.ediv_nonneg ha (Int.le_of_lt c.1), Int.ediv_le_self b ha⟩⟩
theorem mulR (c : -18446744073709551616 < b ∧ b < 18446744073709551616) (h : Q (.int (a * b)) H) : rI CMul (fun i j => .int (i * j)) (.int a) (.int b) H Q := ⟨a, b, rfl, rfl, .inr c, h⟩
theorem mulL (c : -18446744073709551616 < a ∧ a < 18446744073709551616) (h : Q (.int (a * b)) H) : rI CMul (fun i j => .int (i * j)) (.int a) (.int b) H Q := ⟨a, b, rfl, rfl, .inl c, h⟩
theorem powP (c : CPow a b) (h : Q (.int (a ^ b.toNat)) H) : rI CPow (fun i j => .int (i ^ j.toNat)) (.int a) (.int b) H Q := ⟨a, b, rfl, rfl, c, h⟩
end
theorem setL21 {H0 : Hp} {ex : List Addr} {H : Hp} {L L' : List (Addr × HO)} {a : Addr} {u v y : V} {Qh : Hp → Prop} (hH : Has H0 ex H L) (pt : Put L a (.lst [u, v]) (.lst [u, y]) L') (f : a ∈ ex ∨ H0 a = none) (h : ∀ H', Has H0 ex H' L' → Qh H') : rSetL (.ref a) (.int 1) y H Qh := setL (xs := [u, v]) (j := 1) hH rfl pt f h
theorem natAbs_log2_small {i : Int} (h : -1000000 ≤ i ∧ i ≤ 1000000) : i.natAbs.log2 < 1920 := by
  by_cases z : i.natAbs = 0
  · rw [z]; decide
  · rw [Nat.log2_lt z]
    have : i.natAbs ≤ 1000000 := by omega
    exact Nat.lt_of_le_of_lt this (Nat.lt_of_lt_of_le (by decide : 1000000 < 2 ^ 20) (Nat.pow_le_pow_right (by decide) (by decide)))
theorem min2P {i j : Int} {Q : VK} {H : Hp} (h : ∀ m : Int, m ≤ i → m ≤ j → (m = i ∨ m = j) → Q (.int m) H) : rMin2 [.int i, .int j] H Q := min2 (h _ (by split <;> omega) (by split <;> omega) (by split <;> simp))
theorem max2P {i j : Int} {Q : VK} {H : Hp} (h : ∀ m : Int, i ≤ m → j ≤ m → (m = i ∨ m = j) → Q (.int m) H) : rMax2 [.int i, .int j] H Q := max2 (h _ (by split <;> omega) (by split <;> omega) (by split <;> simp))
theorem strP {i : Int} {Q : VK} {H : Hp} (c : -1000000 ≤ i ∧ i ≤ 1000000) (h : ∀ x : Str, x = toString i → x.length ≤ 1921 → Q (.str x) H) : rStrI [.int i] H Q :=
  strI (natAbs_log2_small c) (h _ rfl (int_text_len_1921 (natAbs_log2_small c)))
theorem addSP {K : PySem.W.Frag} {s t : Str} {Q : VK} {H : Hp} (hs : s.length ≤ 5000000) (ht : t.length ≤ 5000000) (h : Q (.str (s ++ t)) H) : rAddU K (.str s) (.str t) H Q := addS (by rw [sizeLine_eq]; omega) h
/-! ### the written part by its name -/
section
variable {X : Cx} {K : PySem.W.Frag}
theorem k_eq (hK : X.K = K) (hu : X.A.units + 64 < cLine) : OpR X (compareOp .Eq) (rEqU K) := hK ▸ op_eqU hu
theorem k_ne (hK : X.K = K) (hu : X.A.units + 64 < cLine) : OpR X (compareOp .NotEq) (rNeU K) := hK ▸ op_neU hu
theorem k_add (hK : X.K = K) : OpR X (binaryOp .Add) (rAddU K) := hK ▸ op_addU
theorem k_ix (hK : X.K = K) : IxR X (rIx K) := hK ▸ ix_seq
theorem k_len (hK : X.K = K) : CallR X (.builtin "len") (rLen K) := hK ▸ call_lenN
theorem k_all (hK : X.K = K) (hc : X.calm = true) : CallR X (.builtin "all") (rAll K) := hK ▸ cr_all hc
theorem k_any (hK : X.K = K) (hc : X.calm = true) : CallR X (.builtin "any") (rAny K) := hK ▸ cr_any hc
theorem k_in (hK : X.K = K) : OpR X (compareOp .In) (rIn K false) := hK ▸ op_in_seq
theorem k_notIn (hK : X.K = K) : OpR X (compareOp .NotIn) (rIn K true) := hK ▸ op_notIn_seq
theorem k_sl (hK : X.K = K) : SlR X (rSlU K) := hK ▸ sl_seq
theorem k_isi (hK : X.K = K) : CallR X (.builtin "isinstance") (rIsi K) := hK ▸ call_isi
theorem k_isiT (hK : X.K = K) : CallR X (.builtin "isinstance") (rIsiT K) := hK ▸ call_isiT
theorem k_get (hK : X.K = K) : PGet X (rIxL K) := hK ▸ get_list
theorem k_list {tg l : Expr} {tl : TE} (hK : X.K = K) (hl : PE X l tl) : PI X tg l (iList K tl) := hK ▸ pi_list hl
theorem k_tup {tg l : Expr} {tl : TE} (hK : X.K = K) (hl : PE X l tl) : PI X tg l (iTup K tl) := hK ▸ pi_tup hl
theorem k_gtup {es : List Expr} {k : Nat} {pos : Pos} {t : TGs} {n : Nat} (hK : X.K = K) (hc : X.calm = true) (h : PGs X es t) (hn : (assignEach es X.env).length = n := by rfl) (hst : (assignEach es X.env).findIdx? (·.1) = none := by rfl) : PG X (.Tuple es k pos) (gTup K n t) := hK ▸ pg_tup hc h hn hst
def rTupOf (K : PySem.W.Frag) : List V → Hp → VK → Prop := fun xs H Q => ∃ p ys, xs = [.ref p] ∧ ((SqL K H p ys ∧ ∀ l, H l = none → Q (.ref l) (upd H l (.tup ys))) ∨ (SqT K H p ys ∧ Q (.ref p) H))
def rListOf (K : PySem.W.Frag) : List V → Hp → VK → Prop := fun xs H Q => ∃ p ys, xs = [.ref p] ∧ (SqL K H p ys ∨ SqT K H p ys) ∧ ∀ l, H l = none → Q (.ref l) (upd H l (.lst ys))
theorem k_tuple (hK : X.K = K) : CallR X (.type "tuple") (rTupOf K) := hK ▸ call_tuple_of
theorem k_listOf (hK : X.K = K) : CallR X (.type "list") (rListOf K) := hK ▸ call_list_of
end
/-! ### marking in a row -/
/-! ### comprehensions that leave what is known -/
section
variable {H0 : Hp} {ex : List Addr} {H : Hp} {L : List (Addr × HO)} {K : PySem.W.Frag} {σ : L2.St} {Q : VK} {xs : List V} {a : Addr} {g : TG} {tt : TT} {te : TE} {vs : List Nat}
def Sim (P : Nat → List V → Prop) (L : List (Addr × HO)) : Nat → Addr → List V → List (Addr × HO) → Prop := fun i D acc M => P i acc ∧ M = (D, .lst acc) :: L
theorem lcs {D : Addr} {acc : List V} {P : Nat → List V → Prop} {i : Nat} {y : V} {H4 : Hp} {M : List (Addr × HO)} (h : Has H0 ex H4 M) (s : List.Sublist ((D, HO.lst acc) :: L) M) (hD : D ∈ ex ∨ H0 D = none) (hl : acc.length ≤ i) (hi : i ≤ 100000) (p : P (i + 1) (acc ++ [y])) :
    LcN D (CInv H0 ex (Sim P L) D (i + 1)) y H4 := lcn (L5 := (D, .lst (acc ++ [y])) :: L) (h.sub s) hD .here hl hi (List.Sublist.refl _) List.mem_cons_self ⟨p, rfl⟩
/-- no item comes -/
theorem lcz {D : Addr} {acc : List V} {P : Nat → List V → Prop} {i : Nat} {H4 : Hp} {M : List (Addr × HO)} (h : Has H0 ex H4 M) (s : List.Sublist ((D, HO.lst acc) :: L) M) (hl : acc.length ≤ i) (p : P (i + 1) acc) : CInv H0 ex (Sim P L) D (i + 1) H4 :=
  ⟨acc, (D, .lst acc) :: L, Nat.le_succ_of_le hl, List.mem_cons_self, ⟨p, rfl⟩, h.sub s⟩
theorem lcs_tup (hH : Has H0 ex H L) (hs : ∀ H', Has H0 ex H' L → SqT K H' a xs) (P : Nat → List V → Prop) (p0 : P 0 [])
    (turn : ∀ i x D acc H', xs[i]? = some x → (D ∈ ex ∨ H0 D = none) → acc.length ≤ i → P i acc → Has H0 ex H' ((D, .lst acc) :: L) → g x (wipe σ vs) H' fun σ2 H2 => LcT vs σ tt te (CInv H0 ex (Sim P L) D (i + 1)) D σ2 H2)
    (done : ∀ D acc H', acc.length ≤ xs.length → P xs.length acc → Has H0 ex H' ((D, .lst acc) :: L) → Q (.ref D) H') : LcK g tt te vs σ Q (Itt K a) H := by
  refine lck_tup (xs := xs) hH (Sim P L) (fun D => ⟨p0, rfl⟩) (fun i D acc M H' _ hp h => ?_) (fun i x D acc M H' hx hD hl _ hp h => ?_) (fun D acc M H' hl _ hp h => ?_)
  · obtain ⟨_, rfl⟩ := hp
    exact hs H' h.tail
  · obtain ⟨p, rfl⟩ := hp
    exact turn i x D acc H' hx hD hl p h
  · obtain ⟨p, rfl⟩ := hp
    exact done D acc H' hl p h
theorem lcs_list (hH : Has H0 ex H L) (hs : ∀ H', Has H0 ex H' L → SqL K H' a xs) (P : Nat → List V → Prop) (p0 : P 0 [])
    (turn : ∀ i x D acc H', xs[i]? = some x → (D ∈ ex ∨ H0 D = none) → acc.length ≤ i → P i acc → Has H0 ex H' ((D, .lst acc) :: L) → g x (wipe σ vs) H' fun σ2 H2 => LcT vs σ tt te (CInv H0 ex (Sim P L) D (i + 1)) D σ2 H2)
    (done : ∀ D acc H', acc.length ≤ xs.length → P xs.length acc → Has H0 ex H' ((D, .lst acc) :: L) → Q (.ref D) H') : LcK g tt te vs σ Q (Itl K a) H := by
  refine lck_list (xs := xs) hH (Sim P L) (fun D => ⟨p0, rfl⟩) (fun i D acc M H' _ hp h => ?_) (fun i x D acc M H' hx hD hl _ hp h => ?_) (fun D acc M H' hl _ hp h => ?_)
  · obtain ⟨_, rfl⟩ := hp
    exact hs H' h.tail
  · obtain ⟨p, rfl⟩ := hp
    exact turn i x D acc H' hx hD hl p h
  · obtain ⟨p, rfl⟩ := hp
    exact done D acc H' hl p h
theorem lcs_rng {lo : Int} {n : Nat} (hH : Has H0 ex H L) (P : Nat → List V → Prop) (p0 : P 0 [])
    (turn : ∀ i D acc H', i < n → (D ∈ ex ∨ H0 D = none) → acc.length ≤ i → P i acc → Has H0 ex H' ((D, .lst acc) :: L) → g (.int (lo + i)) (wipe σ vs) H' fun σ2 H2 => LcT vs σ tt te (CInv H0 ex (Sim P L) D (i + 1)) D σ2 H2)
    (done : ∀ D acc H', acc.length ≤ n → P n acc → Has H0 ex H' ((D, .lst acc) :: L) → Q (.ref D) H') : LcK g tt te vs σ Q (Itr lo n) H := by
  refine lck_rng hH (Sim P L) (fun D => ⟨p0, rfl⟩) (fun i D acc M H' hx hD hl _ hp h => ?_) (fun D acc M H' hl _ hp h => ?_)
  · obtain ⟨p, rfl⟩ := hp
    exact turn i D acc H' hx hD hl p h
  · obtain ⟨p, rfl⟩ := hp
    exact done D acc H' hl p h
end
/-! ### loops that leave what is known -/
section
variable {H0 : Hp} {ex : List Addr} {H : Hp} {L : List (Addr × HO)} {K : PySem.W.Frag} {σ : L2.St} {Q : VK} {xs : List V} {a : Addr} {g : TG} {tb : TS} {nx : L2.St → Hp → Prop} {rt : VK}
theorem fors_list (hH : Has H0 ex H L) (hs : ∀ H', Has H0 ex H' L → SqL K H' a xs) (Pv : Nat → L2.St → Prop) (h0 : Pv 0 σ)
    (turn : ∀ i x σ H', xs[i]? = some x → Pv i σ → Has H0 ex H' L → g x σ H' fun σ2 H2 => tb ⟨fun σ H => Pv (i + 1) σ ∧ Has H0 ex H L, rt, nx, fun σ H => Pv (i + 1) σ ∧ Has H0 ex H L⟩ σ2 H2)
    (done : ∀ σ H', Pv xs.length σ → Has H0 ex H' L → nx σ H') : ForK g tb nx rt σ (Itl K a) H :=
  fork_list (xs := xs) (fun i σ H => Pv i σ ∧ Has H0 ex H L) ⟨h0, hH⟩ (fun i σ H _ h => hs H h.2) (fun i x σ H hx h => turn i x σ H hx h.1 h.2) (fun σ H h => done σ H h.1 h.2)
theorem fors_tup (hH : Has H0 ex H L) (hs : ∀ H', Has H0 ex H' L → SqT K H' a xs) (Pv : Nat → L2.St → Prop) (h0 : Pv 0 σ)
    (turn : ∀ i x σ H', xs[i]? = some x → Pv i σ → Has H0 ex H' L → g x σ H' fun σ2 H2 => tb ⟨fun σ H => Pv (i + 1) σ ∧ Has H0 ex H L, rt, nx, fun σ H => Pv (i + 1) σ ∧ Has H0 ex H L⟩ σ2 H2)
    (done : ∀ σ H', Pv xs.length σ → Has H0 ex H' L → nx σ H') : ForK g tb nx rt σ (Itt K a) H :=
  fork_tup (xs := xs) (fun i σ H => Pv i σ ∧ Has H0 ex H L) ⟨h0, hH⟩ (fun i σ H _ h => hs H h.2) (fun i x σ H hx h => turn i x σ H hx h.1 h.2) (fun σ H h => done σ H h.1 h.2)
end
def isStr : V → Bool
  | .str _ => true
  | _ => false
theorem isStr_at {xs : List V} (h : xs.all isStr = true) {i : Nat} {x : V} (e : xs[i]? = some x) : ∃ w, x = .str w := by
  have m := List.all_eq_true.mp h x (List.mem_of_getElem? e)
  cases x with
  | str w => exact ⟨w, rfl⟩
  | _ => cases m
theorem isStr_map (ws : List Str) : (ws.map V.str).all isStr = true := by
  rw [List.all_map]
  exact List.all_eq_true.mpr fun _ _ => rfl
theorem all_true (n : Nat) : (List.replicate n true).all id = true := by
  induction n with
  | zero => rfl
  | succ n ih =>
    rw [List.replicate_succ, List.all_cons, ih]
    rfl
end Sw
set_option Elab.async false
set_option linter.all false
set_option maxRecDepth 100000
set_option maxHeartbeats 4000000
namespace K03
open PySem PySem.Spec PyProof.Rows L2 Sw
local macro_rules | `(tactic| walk_at "sub") => `(tactic| first | with_reducible exact List.Sublist.refl _ | with_reducible exact List.nil_sublist _ | ((with_reducible refine' List.Sublist.cons_cons _ ?t); walk_at "sub") | ((with_reducible refine' List.Sublist.cons _ ?t); walk_at "sub"))
local macro_rules | `(tactic| walk_at "len") => `(tactic| (simp only [List.length_cons, List.length_nil, List.length_append, List.length_map]; omega))
local macro_rules | `(tactic| walk_at "om") => `(tactic| first | decide | omega | (constructor <;> omega) | (simp only [List.length_map]; first | omega | (constructor <;> omega)))
local macro_rules | `(tactic| walk_at "ati") => `(tactic| first | exact at0 | exact at1 | exact at2 | exact at3 | exact at4 | exact at5 | exact at6 | exact at7 | exact at8 | exact at9 | assumption)
local macro_rules | `(tactic| walk_at "mem") => `(tactic| first | with_reducible exact List.mem_cons_self | ((with_reducible refine' List.mem_cons_of_mem _ ?t); walk_at "mem"))
local macro_rules | `(tactic| walk_at "put") => `(tactic| first | with_reducible exact Put.here | ((with_reducible refine' Put.there ?t); walk_at "put"))
local macro_rules | `(tactic| walk_at "sq") => `(tactic| first | ((with_reducible refine' Has.l (by assumption) ?m); (case m => walk_at "mem")) | ((with_reducible refine' Has.t (by assumption) ?m); (case m => walk_at "mem")) | ((with_reducible refine' Has.sl (by assumption) (by assumption) ?n); (case n => walk_at "nin")) | ((with_reducible refine' Has.st (by assumption) (by assumption) ?n); (case n => walk_at "nin")))
local macro_rules | `(tactic| walk_at "nin") => `(tactic| (simp only [List.mem_cons, List.not_mem_nil, or_false, not_or, not_false_eq_true]; try (first | assumption | (refine ⟨?_, ?_⟩ <;> assumption))))
local macro_rules | `(tactic| walk_at "g1") => `(tactic| first
  | ((with_reducible refine' gt2_ ?s ?h); (case s => walk_at "sq"))
  | ((with_reducible refine' gt3_ ?s ?h); (case s => walk_at "sq"))
  | with_reducible refine' par_ ?_
  | with_reducible refine' park ?_
  | ((with_reducible refine' modP ?c ?h); (case c => walk_at "om"); (intro r_ r0_ r1_))
  | ((with_reducible refine' divP ?c ?h); (case c => walk_at "om"); (intro r_ r0_))
  | ((with_reducible refine' mulR ?c ?h); (case c => walk_at "om"))
  | ((with_reducible refine' mulL ?c ?h); (case c => walk_at "om"))
  | ((with_reducible refine' powP ?c ?h); (case c => exact ⟨by decide, by decide, by decide⟩))
  | with_reducible refine' rng1_ ?_
  | with_reducible refine' rng2_ ?_
  | with_reducible refine' ilist_ ?_
  | with_reducible refine' itup_ ?_
  | with_reducible refine' for_ ?_
  | with_reducible refine' lc_ ?_
  | with_reducible refine' yes_ ?_
  | with_reducible refine' part_ ?_
  | with_reducible refine' nopart_ ?_
  | with_reducible refine' sl_ ?_
  | with_reducible refine' gn_ ?_
  | with_reducible refine' partk ?_
  | with_reducible refine' isi_str ?_
  | with_reducible refine' int1 ?_
  | ((with_reducible refine' min2P ?h); (intro m_ m0_ m1_ m2_))
  | ((with_reducible refine' max2P ?h); (intro m_ m0_ m1_ m2_))
  | ((with_reducible refine' lenL ?s ?h); (case s => walk_at "sq"))
  | ((with_reducible refine' lenT ?s ?h); (case s => walk_at "sq"))
  | ((with_reducible refine' ilistk ?s ?h); (case s => walk_at "sq"))
  | ((with_reducible refine' itupk ?s ?h); (case s => walk_at "sq"))
  | ((with_reducible refine' getL ?s ?e ?h); (case s => walk_at "sq"); (case e => walk_at "ati"))
  | with_reducible refine' seq_ ?_
  | with_reducible refine' set_ ?_
  | with_reducible refine' asg_ ?_
  | with_reducible refine' op_ ?_
  | with_reducible refine' un_ ?_
  | with_reducible refine' nil_ ?_
  | with_reducible refine' cons_ ?_
  | with_reducible refine' cb_ ?_
  | with_reducible refine' call_ ?_
  | with_reducible refine' test_ ?_
  | with_reducible refine' b_ ?_
  | with_reducible refine' not_ ?_
  | with_reducible refine' and_ ?_
  | with_reducible refine' or_ ?_
  | with_reducible refine' andV_ ?_
  | with_reducible refine' orV_ ?_
  | with_reducible refine' notV_ ?_
  | with_reducible refine' if_ ?_
  | with_reducible refine' drop_ ?_
  | with_reducible refine' ret_ ?_
  | with_reducible refine' ifS_ ?_
  | with_reducible refine' augS_ ?_
  | with_reducible refine' tup_ ?_
  | with_reducible refine' lst_ ?_
  | with_reducible refine' c_ ?_
  | with_reducible refine' next_ ?_
  | with_reducible refine' break_ ?_
  | with_reducible refine' cont_ ?_
  | with_reducible exact retN_ (by assumption)
  | with_reducible refine' blk ?_
  | with_reducible refine' andk ?_
  | with_reducible refine' ork ?_
  | with_reducible refine' notk ?_
  | with_reducible refine' gname ?_
  | with_reducible refine' gasg_ ?_
  | with_reducible refine' ipI_ ?_
  | with_reducible refine' i0 ?_
  | with_reducible refine' iu ?_
  | with_reducible refine' addI ?_
  | with_reducible refine' setk0 ?_
  | with_reducible refine' var0 ?_
  | with_reducible refine' aug0 ?_
  | with_reducible refine' setk1 ?_
  | with_reducible refine' var1 ?_
  | with_reducible refine' aug1 ?_
  | with_reducible refine' setk2 ?_
  | with_reducible refine' var2 ?_
  | with_reducible refine' aug2 ?_
  | with_reducible refine' setk3 ?_
  | with_reducible refine' var3 ?_
  | with_reducible refine' aug3 ?_
  | with_reducible refine' setk4 ?_
  | with_reducible refine' var4 ?_
  | with_reducible refine' aug4 ?_
  | with_reducible refine' setk5 ?_
  | with_reducible refine' var5 ?_
  | with_reducible refine' aug5 ?_
  | with_reducible refine' setk6 ?_
  | with_reducible refine' var6 ?_
  | with_reducible refine' aug6 ?_
  | with_reducible refine' setk7 ?_
  | with_reducible refine' var7 ?_
  | with_reducible refine' aug7 ?_
  | with_reducible refine' setk8 ?_
  | with_reducible refine' var8 ?_
  | with_reducible refine' aug8 ?_
  | with_reducible refine' setk9 ?_
  | with_reducible refine' var9 ?_
  | with_reducible refine' aug9 ?_
  | with_reducible refine' setk10 ?_
  | with_reducible refine' var10 ?_
  | with_reducible refine' aug10 ?_
  | with_reducible refine' setk11 ?_
  | with_reducible refine' var11 ?_
  | with_reducible refine' aug11 ?_
  | with_reducible refine' setk12 ?_
  | with_reducible refine' var12 ?_
  | with_reducible refine' aug12 ?_
  | with_reducible refine' setk13 ?_
  | with_reducible refine' var13 ?_
  | with_reducible refine' aug13 ?_
  | with_reducible refine' setk14 ?_
  | with_reducible refine' var14 ?_
  | with_reducible refine' aug14 ?_
  | with_reducible refine' setk15 ?_
  | with_reducible refine' var15 ?_
  | with_reducible refine' aug15 ?_
  | with_reducible refine' setk16 ?_
  | with_reducible refine' var16 ?_
  | with_reducible refine' aug16 ?_
  | with_reducible refine' setk17 ?_
  | with_reducible refine' var17 ?_
  | with_reducible refine' aug17 ?_
  | with_reducible refine' setk18 ?_
  | with_reducible refine' var18 ?_
  | with_reducible refine' aug18 ?_
  | with_reducible refine' setk19 ?_
  | with_reducible refine' var19 ?_
  | with_reducible refine' aug19 ?_
  | with_reducible refine' setk20 ?_
  | with_reducible refine' var20 ?_
  | with_reducible refine' aug20 ?_
  | with_reducible refine' setk21 ?_
  | with_reducible refine' var21 ?_
  | with_reducible refine' aug21 ?_
  | with_reducible refine' setk22 ?_
  | with_reducible refine' var22 ?_
  | with_reducible refine' aug22 ?_
  | with_reducible refine' setk23 ?_
  | with_reducible refine' var23 ?_
  | with_reducible refine' aug23 ?_
  | with_reducible refine' setk24 ?_
  | with_reducible refine' var24 ?_
  | with_reducible refine' aug24 ?_
  | with_reducible refine' setk25 ?_
  | with_reducible refine' var25 ?_
  | with_reducible refine' aug25 ?_
  | ((with_reducible refine' equ ?e ?h); (case e => rfl))
  | ((with_reducible refine' neu ?e ?h); (case e => rfl))
  | ((with_reducible refine' addSP ?e ?f ?h); (case e => walk_at "om"); (case f => walk_at "om"))
  | ((with_reducible refine' strP ?c ?h); (case c => walk_at "om"); (intro x_ x0_ x1_))
  | ((with_reducible refine' addL (by assumption) ?a ?b ?l ?h); (case a => walk_at "mem"); (case b => walk_at "mem"); (case l => walk_at "len"); (intro p_ H_ n_ h_))
  | ((with_reducible refine' tupk (by assumption) ?e ?h); (case e => simp only [List.length_cons, List.length_nil]; decide); (intro p_ H_ n_ h_))
  | ((with_reducible refine' lstk (by assumption) ?e ?h); (case e => simp only [List.length_cons, List.length_nil]; decide); (intro p_ H_ n_ h_))
  | ((with_reducible refine' ixT ?s ?e ?h); (case s => walk_at "sq"); (case e => walk_at "ati"))
  | ((with_reducible refine' ixL ?s ?e ?h); (case s => walk_at "sq"); (case e => walk_at "ati"))
  | ((with_reducible refine' ite_t ?e ?h); (case e => rfl))
  | ((with_reducible refine' ite_f ?e ?h); (case e => rfl)))
local macro_rules | `(tactic| walk_at "go") => `(tactic| repeat walk_at "g1")

section
variable {P : Program} {w : World} {K : PySem.W.Frag} {mg : Str → Option Value} {base : Heap}
def topS (i : Nat) : Stmt := PySem.Challenge.pw_switchyard_k03_types.main.body.getD i (.Pass ⟨0, 0, 0, 0⟩)
abbrev s_is_of : Stmt := topS 1
theorem sc_is_of : FnScope ["kind", "word", "number"] ["kind", "word"] (defScope s_is_of) := ⟨rfl, rfl, rfl, by decide +kernel, rfl, by decide +kernel, by decide +kernel⟩
abbrev s__law_number : Stmt := topS 3
theorem sc__law_number : FnScope ["script", "index", "cell", "turn", "rest", "step", "blend"] ["script", "index"] (defScope s__law_number) := ⟨rfl, rfl, rfl, by decide +kernel, rfl, by decide +kernel, by decide +kernel⟩
abbrev s__law_take : Stmt := topS 4
theorem sc__law_take : FnScope ["draw", "many"] ["draw", "many"] (defScope s__law_take) := ⟨rfl, rfl, rfl, by decide +kernel, rfl, by decide +kernel, by decide +kernel⟩
abbrev s__law_pick : Stmt := topS 5
theorem sc__law_pick : FnScope ["draw", "items"] ["draw", "items"] (defScope s__law_pick) := ⟨rfl, rfl, rfl, by decide +kernel, rfl, by decide +kernel, by decide +kernel⟩
abbrev s__law_is_number : Stmt := topS 6
theorem sc__law_is_number : FnScope ["word", "low", "high", "number"] ["word", "low", "high"] (defScope s__law_is_number) := ⟨rfl, rfl, rfl, by decide +kernel, rfl, by decide +kernel, by decide +kernel⟩
abbrev s__law_is_of : Stmt := topS 7
theorem sc__law_is_of : FnScope ["kind", "word"] ["kind", "word"] (defScope s__law_is_of) := ⟨rfl, rfl, rfl, by decide +kernel, rfl, by decide +kernel, by decide +kernel⟩
abbrev s_law : Stmt := topS 8
theorem sc_law : FnScope ["script", "draw", "low", "high", "kinds", "words", "kind", "number", "word"] ["script"] (defScope s_law) := ⟨rfl, rfl, rfl, by decide +kernel, rfl, by decide +kernel, by decide +kernel⟩
/-! ### types -/
inductive Kind | any | chosen (ns : List Str) | number (lo hi : Int)
def Kind.vs : Kind → List V
  | .any => [.str "any"]
  | .chosen ns => .str "chosen" :: ns.map V.str
  | .number lo hi => [.str "number", .int lo, .int hi]
def Kind.Ok : Kind → Prop
  | .any => True
  | .chosen ns => ns.length ≤ 100
  | .number lo hi => -1000 ≤ lo ∧ lo ≤ 1000 ∧ -1000 ≤ hi ∧ hi ≤ 1000
def nums (lo hi : Int) : List V := (List.range (hi + 1 - lo).toNat).map fun (i : Nat) => V.str (toString (lo + (i : Int)))
def isOf : Kind → Str → Bool
  | .any, _ => true
  | .chosen ns, x => inV (.str x) (ns.map V.str)
  | .number lo hi, x => inV (.str x) (nums lo hi)
def spIsOf (K : PySem.W.Frag) : Sp := fun vs H Q _ => ∃ (a : Addr) (k : Kind) (x : Str), vs = [.ref a, .str x] ∧ SqT K H a k.vs ∧ k.Ok ∧ ∀ H', Has H [] H' [] → Q (.bl (isOf k x)) H'
theorem ok_is_of {f : Addr} {fd : FuncData} {k : Nat} (F : Fun K "is_of" "is_of" s_is_of f fd) (m_isinstance : mg "isinstance" = none) (m_str : mg "str" = none) (m_range : mg "range" = none) : FnOk P w K mg base CX0 (k + 1) f fd ["kind", "word"] (spIsOf K) := by
  refine F.ok sc_is_of (fun vs H Q E h => ?_) (fun cdv A outer s H vs Q E hr h => ?_)
  · obtain ⟨a, k, x, rfl, _⟩ := h
    rfl
  · obtain ⟨a, k, x, rfl, hS, hk, q⟩ := h
    refine ⟨_, (pss_cons (ps_if (pt_not (pt_val (pe_callB (k_isi (K := K) rfl) (by rfl) m_isinstance (by decide +kernel) (pa_cons (pv 1) (pa_cons (pe_bltn (v := .ty "str") (by rfl) m_str (by decide +kernel) rfl) pa_nil))))) (pss_one (ps_ret pe_bl)) pss_nil)
    (pss_cons (ps_if (pt_cmpR (k_eq (K := K) rfl (by exact hr.units)) (pe_ix (k_ix (K := K) rfl) (pv 0) pe_int (fun _ _ => rfl)) pe_str (nomark _)) (pss_one (ps_ret pe_bl)) pss_nil)
    (pss_cons (ps_if (pt_cmpR (k_eq (K := K) rfl (by exact hr.units)) (pe_ix (k_ix (K := K) rfl) (pv 0) pe_int (fun _ _ => rfl)) pe_str (nomark _)) (pss_one (ps_ret (pe_cmpR (k_in (K := K) rfl) (pv 1) (pe_slice (k_sl (K := K) rfl) (pv 0) (po_some pe_int) po_none) (by rfl)))) pss_nil)
    (pss_one (ps_ret (pe_cmpR (k_in (K := K) rfl) (pv 1) (pe_lc (own := [("number", 2)]) (g := gName 2) rfl sc_is_of.nd (pi_range2 (by rfl) m_range (pa_cons (pe_ix (k_ix (K := K) rfl) (pv 0) pe_int (fun _ _ => rfl)) (pa_cons (pe_op (k_add (K := K) rfl) (pe_ix (k_ix (K := K) rfl) (pv 0) pe_int (fun _ _ => rfl)) pe_int) pa_nil))) (blkOk_by (own := [("number", 2)]) (N := ["kind", "word", "number"]) (sc := defScope s_is_of) (by decide +kernel)) (fun _ _ _ _ _ => (pg_name (i := 2) sc_is_of.nd rfl (Or.inl rfl))) (fun _ _ _ _ _ => pts_nil) (fun _ _ _ _ _ => (pe_callTy call_strN (by rfl) m_str (by decide +kernel) (pa_cons (pv 2) pa_nil)))) (by rfl))))))), ?_⟩
    have h0 := Has.start H []
    show (_ : L2.St → Hp → Prop) [some (.ref a), some (.str x), none] H
    cases k with
    | any =>
      walk_at "go"
      exact q _ h0
    | chosen ns =>
      walk_at "go"
      refine slT1 h0 hS fun p H1 n1 h1 => ?_
      refine inT (h1.t (by walk_at "mem")) rfl (flat_strs ns) ?_
      exact q _ h1.tail
    | number lo hi =>
      obtain ⟨b1, b2, b3, b4⟩ : -1000 ≤ lo ∧ lo ≤ 1000 ∧ -1000 ≤ hi ∧ hi ≤ 1000 := hk
      · walk_at "go"
        refine rng2k (by omega) ?_
        refine lck_rng h0 (fun i D acc M => acc = (List.range i).map (fun (j : Nat) => V.str (toString (lo + (j : Int)))) ∧ M = [(D, .lst acc)]) (fun D => ⟨rfl, rfl⟩) (fun i D acc M H' hi hD hl hm hp hH => ?_) (fun D acc M H' hl hm hp hH => ?_)
        · obtain ⟨e, rfl⟩ := hp
          simp only [List.map, wipe, List.set]
          walk_at "go"
          refine lct rfl ?_
          walk_at "go"
          rename_i x_ x0_ x1_
          subst x0_
          refine lcn hH hD (by walk_at "put") hl (by omega) (List.Sublist.refl _) (by walk_at "mem") ⟨?_, rfl⟩
          rw [map_range_succ, e]
        · obtain ⟨e, rfl⟩ := hp
          refine inL (hH.l (by walk_at "mem")) rfl ?_ ?_
          · rw [e, List.all_map]
            exact List.all_eq_true.mpr fun _ _ => rfl
          · rw [e]
            exact q _ hH.tail
/-! ### drawing -/
def NumPost (H : Hp) (Q : VK) : Prop := ∀ (r : Int) H', Has H [] H' [] → 0 ≤ r → r < 2147483648 → Q (.int r) H'
theorem NumPost.use {H H' : Hp} {Q : VK} {r : Int} (h : NumPost H Q) (hh : Has H [] H' []) (h0 : 0 ≤ r) (h1 : r < 2147483648) : Q (.int r) H' := h r H' hh h0 h1
def spNumber (K : PySem.W.Frag) : Sp := fun vs H Q _ => ∃ (s : Addr) (ns : List Int) (i : Int), vs = [.ref s, .int i] ∧ SqL K H s (ns.map V.int) ∧ 0 ≤ i ∧ i ≤ 1000000 ∧ ns.length ≤ 63 ∧ NumPost H Q
local macro_rules | `(tactic| walk_at "num_tail") => `(tactic| (
  refine rng1k (by omega) ?_
  refine fork_rng (fun _ σ' H' => ∃ (a : Addr) (ix : Int) (ns : List Int) (cell turn rest : Int) (st : Option V), σ' = [some (.ref a), some (.int ix), some (.int cell), some (.int turn), some (.int rest), st, none] ∧ SqL _ H' a (ns.map V.int) ∧ ns.length ≤ 63 ∧ 0 ≤ ix ∧ ix ≤ 1000000 ∧ Has _ [] H' []) ⟨_, _, _, _, _, _, _, rfl, by walk_at "sq", by assumption, by assumption, by assumption, Has.sub (by assumption) (List.nil_sublist _)⟩ (fun i σ' H' hi hp => ?_) (fun σ' H' hp => ?_)
  · obtain ⟨a, ix, ns, cell, turn, rest, st, e, hs, hl, hi0, hi1, hh⟩ := hp
    subst e
    walk_at "go"
    exact ⟨_, _, _, _, _, _, _, rfl, hs, hl, hi0, hi1, hh⟩
  · obtain ⟨a, ix, ns, cell, turn, rest, st, e, hs, hl, hi0, hi1, hh⟩ := hp
    subst e
    walk_at "go"
    refine ite_c (fun hc => ?_) (fun hc => ?_)
    · walk_at "go"
      exact NumPost.use (by assumption) hh (by omega) (by omega)
    · walk_at "go"
      refine lenL hs ?_
      walk_at "go"
      exact NumPost.use (by assumption) hh (by omega) (by omega)))
theorem ok_number {f : Addr} {fd : FuncData} {k : Nat} (F : Fun K "_law_number" "_law_number" s__law_number f fd) (m_len : mg "len" = none) (m_int : mg "int" = none) (m_range : mg "range" = none) : FnOk P w K mg base CX0 (k + 1) f fd ["script", "index"] (spNumber K) := by
  refine F.ok sc__law_number (fun vs H Q E h => ?_) (fun cdv A outer s H vs Q E hr h => ?_)
  · obtain ⟨a, k, x, rfl, _⟩ := h
    rfl
  · obtain ⟨a, ns, ix, rfl, hS, hi0, hi1, hlen, q⟩ := h
    refine ⟨_, (pss_cons (ps_asg (pe_ifExp (pt_cmpR (k_ne (K := K) rfl (by exact hr.units)) (pv 0) (pe_lst pa_nil) (nomark _)) (pe_tup (pa_cons (pe_ix (k_ix (K := K) rfl) (pv 0) (pe_op op_modN (pv 1) (pe_callB (k_len (K := K) rfl) (by rfl) m_len (by decide +kernel) (pa_cons (pv 0) pa_nil))) (fun _ _ => rfl)) (pa_cons (pe_op op_fdivN (pv 1) (pe_callB (k_len (K := K) rfl) (by rfl) m_len (by decide +kernel) (pa_cons (pv 0) pa_nil))) pa_nil))) (pe_tup (pa_cons pe_int (pa_cons pe_int pa_nil)))) (k_gtup (K := K) (n := 2) rfl rfl (pgs_cons (pg_name (i := 2) sc__law_number.nd rfl (.inl rfl)) (pgs_cons (pg_name (i := 3) sc__law_number.nd rfl (.inl rfl)) pgs_nil))))
    (pss_cons (ps_set (i := 4) sc__law_number.nd rfl (.inl rfl) (pe_ifExp (pt_cmpR op_lt (pv 3) pe_int (nomark _)) (pe_op op_sub (pv 2) (pe_op op_pow pe_int pe_int)) pe_int))
    (pss_cons (ps_for PassesOwn.never rfl (pi_range1 (by rfl) m_range (pa_cons (pe_op op_modN (pe_callTy call_intN (by rfl) m_int (by decide +kernel) (pa_cons (pv 3) pa_nil)) pe_int) pa_nil)) (pg_name (i := 5) sc__law_number.nd rfl (.inl rfl)) (pss_one (ps_set (i := 4) sc__law_number.nd rfl (.inl rfl) (pe_op op_fdivN (pv 4) pe_int))))
    (pss_cons (ps_if (pt_cmpR op_gt (pv 4) pe_int (nomark _)) (pss_one (ps_ret (pe_op op_modN (pe_callTy call_intN (by rfl) m_int (by decide +kernel) (pa_cons (pv 4) pa_nil)) pe_int))) pss_nil)
    (pss_cons (ps_set (i := 6) sc__law_number.nd rfl (.inl rfl) (pe_op op_modN (pe_op (k_add (K := K) rfl) (pe_op op_mul (pe_callTy call_intN (by rfl) m_int (by decide +kernel) (pa_cons (pe_op (k_add (K := K) rfl) (pv 2) (pe_op op_mul pe_int (pv 1))) pa_nil)) pe_int) (pe_op op_mul pe_int (pe_callB (k_len (K := K) rfl) (by rfl) m_len (by decide +kernel) (pa_cons (pv 0) pa_nil)))) pe_int))
    (pss_cons (ps_set (i := 6) sc__law_number.nd rfl (.inl rfl) (pe_op op_modN (pe_op (k_add (K := K) rfl) (pe_op op_mul (pv 6) (pv 6)) (pe_op op_mul pe_int (pv 1))) pe_int))
    (pss_one (ps_ret (pe_callTy call_intN (by rfl) m_int (by decide +kernel) (pa_cons (pe_op op_modN (pe_op (k_add (K := K) rfl) (pe_op op_mul (pv 6) pe_int) (pe_op op_fdivN (pv 6) pe_int)) pe_int) pa_nil)))))))))), ?_⟩
    have h0 := Has.start H []
    show (_ : L2.St → Hp → Prop) [some (.ref a), some (.int ix), none, none, none, none, none] H
    walk_at "go"
    rename_i p1 H1 n1 h1
    refine neuD (Dp.lst (h1.sl hS (by simp)) (dp_ints ns)) (Dp.lst (h1.l (by walk_at "mem")) .nil) (PySem.W.ke_shaped_ints ns) rfl ?_
    rw [eqv_ints_nil]
    refine blk ?_
    by_cases e : ns = []
    · subst e
      walk_at "go"
      walk_at "num_tail"
    · have hp : 0 < ns.length := List.length_pos_iff.mpr e
      rw [decide_eq_false e]
      walk_at "go"
      rename_i r r0 r1
      simp only [List.length_map] at r1
      obtain ⟨v, hv⟩ : ∃ n : Int, ns[r.toNat]? = some n := ⟨_, List.getElem?_eq_getElem (i := r.toNat) (by omega)⟩
      have ha : atI (ns.map V.int) r = some (.int v) := at_of (j := r.toNat) (by omega) (by rw [List.getElem?_map, hv]; rfl)
      refine rIx_L (h1.sl hS (by simp)) ha ?_
      walk_at "go"
      refine ite_c (fun hc => ?_) (fun hc => ?_)
      · walk_at "go"
        walk_at "num_tail"
      · walk_at "go"
        walk_at "num_tail"

/-- the list that draws: the script and how many were drawn -/
def DrawP (K : PySem.W.Frag) (H : Hp) (d : Addr) (s : Addr) (ns : List Int) (i : Int) : Prop := H d = some (.lst [.ref s, .int i]) ∧ SqL K H s (ns.map V.int) ∧ 0 ≤ i ∧ ns.length ≤ 63
/-- the script stands, whatever is drawn -/
def Scr (K : PySem.W.Frag) (H0 : Hp) (ex : List Addr) (s : Addr) (ns : List Int) : Prop := ns.length ≤ 63 ∧ ∀ H L, Has H0 ex H L → SqL K H s (ns.map V.int)
theorem scr0 {K : PySem.W.Frag} {H0 : Hp} {s : Addr} {ns : List Int} (h : SqL K H0 s (ns.map V.int)) (hl : ns.length ≤ 63) : Scr K H0 [] s ns := ⟨hl, fun _ _ hh => hh.sl h (by simp)⟩
theorem DrawP.scr {K : PySem.W.Frag} {H : Hp} {d s : Addr} {ns : List Int} {i : Int} (h : DrawP K H d s ns i) : Scr K H [d] s ns := by
  obtain ⟨hd, hs, hi, hl⟩ := h
  refine ⟨hl, fun H' L hh => ?_⟩
  rcases hs with r | r
  · refine hh.sl (.inl r) ?_
    intro m
    have z : s = d := by simpa using m
    subst z
    rcases r with r | ⟨o, r⟩
    · rw [hd] at r
      injection r with r
      injection r with r
      cases ns with
      | nil => cases r
      | cons n ns => cases r
    · rw [hd] at r
      cases r
  · exact .inr r
def spTake (K : PySem.W.Frag) : Sp := fun vs H Q _ => ∃ (d s : Addr) (ns : List Int) (i m : Int), vs = [.ref d, .int m] ∧ DrawP K H d s ns i ∧ i < 1000000 ∧ 0 < m ∧ ∀ (r : Int) H', Has H [d] H' [(d, .lst [.ref s, .int (i + 1)])] → 0 ≤ r → r < m → Q (.int r) H'
theorem ok_take {f : Addr} {fd : FuncData} {k : Nat} (F : Fun K "_law_take" "_law_take" s__law_take f fd) (c__law_number : Cal P w K mg base CX0 k "_law_number" ["script", "index"] (spNumber K)) (m_int : mg "int" = none) : FnOk P w K mg base CX0 (k + 1) f fd ["draw", "many"] (spTake K) := by
  refine F.ok sc__law_take (fun vs H Q E h => ?_) (fun cdv A outer st H vs Q E hr h => ?_)
  · obtain ⟨a, b, c, d, e, rfl, _⟩ := h
    rfl
  · obtain ⟨d, s, ns, i, m, rfl, hD, hi1, hm, q⟩ := h
    have scr := hD.scr
    obtain ⟨hd, hS, hi0, hlen⟩ := hD
    refine ⟨_, (pss_cons (ps_augS (pv 0) pe_int (k_get (K := K) rfl) pe_int ip_add set_list)
    (pss_one (ps_ret (pe_op op_modN (pe_callTy call_intN (by rfl) m_int (by decide +kernel) (pa_cons (pe_cal c__law_number hr (by omega) (by rfl) pass0 (pa_cons (pe_ix (k_ix (K := K) rfl) (pv 0) pe_int (fun _ _ => rfl)) (pa_cons (pe_callTy call_intN (by rfl) m_int (by decide +kernel) (pa_cons (pe_ix (k_ix (K := K) rfl) (pv 0) pe_int (fun _ _ => rfl)) pa_nil)) pa_nil))) pa_nil)) (pv 1))))), ?_⟩
    have h0 : Has H [d] H [(d, .lst [.ref s, .int i])] := (Has.start H [d]).add hd (by simp)
    show (_ : L2.St → Hp → Prop) [some (.ref d), some (.int m)] H
    walk_at "go"
    refine setL21 h0 (by walk_at "put") (.inl (by simp)) fun H1 h1 => ?_
    walk_at "go"
    refine ⟨s, ns, i + 1, rfl, scr.2 _ _ h1, by omega, by omega, hlen, fun r H2 h2 r0 r1 => ?_⟩
    walk_at "go"
    rename_i t t0 t1
    exact q t H2 (h1.same h2) t0 t1
def spPick (K : PySem.W.Frag) : Sp := fun vs H Q _ => ∃ (d s p : Addr) (ns : List Int) (i : Int) (xs : List V), vs = [.ref d, .ref p] ∧ DrawP K H d s ns i ∧ i < 1000000 ∧ (SqL K H p xs ∨ SqT K H p xs) ∧ p ≠ d ∧ 0 < xs.length ∧ ∀ (j : Nat) (v : V) H', xs[j]? = some v → Has H [d] H' [(d, .lst [.ref s, .int (i + 1)])] → Q v H'
theorem ok_pick {f : Addr} {fd : FuncData} {k : Nat} (F : Fun K "_law_pick" "_law_pick" s__law_pick f fd) (c__law_take : Cal P w K mg base CX0 k "_law_take" ["draw", "many"] (spTake K)) (m_len : mg "len" = none) : FnOk P w K mg base CX0 (k + 1) f fd ["draw", "items"] (spPick K) := by
  refine F.ok sc__law_pick (fun vs H Q E h => ?_) (fun cdv A outer st H vs Q E hr h => ?_)
  · obtain ⟨a, b, c, d, e, g, rfl, _⟩ := h
    rfl
  · obtain ⟨d, s, p, ns, i, xs, rfl, hd, hi1, hS, hne, hl, q⟩ := h
    refine ⟨_, (pss_one (ps_ret (pe_ix (k_ix (K := K) rfl) (pv 1) (pe_cal c__law_take hr (by omega) (by rfl) pass0 (pa_cons (pv 0) (pa_cons (pe_callB (k_len (K := K) rfl) (by rfl) m_len (by decide +kernel) (pa_cons (pv 1) pa_nil)) pa_nil))) (fun _ _ => rfl)))), ?_⟩
    have h0 : Has H [d] H [] := Has.start H [d]
    show (_ : L2.St → Hp → Prop) [some (.ref d), some (.ref p)] H
    walk_at "go"
    rcases hS with hS | hS
    · refine lenL hS ?_
      walk_at "go"
      refine ⟨d, s, ns, i, _, rfl, hd, hi1, by omega, fun r H1 h1 r0 r1 => ?_⟩
      obtain ⟨v, hv⟩ : ∃ v, xs[r.toNat]? = some v := ⟨_, List.getElem?_eq_getElem (i := r.toNat) (by omega)⟩
      refine rIx_L (h1.sl hS (by simpa using hne)) (at_of (j := r.toNat) (by omega) hv) ?_
      exact q _ v H1 hv h1
    · refine lenT hS ?_
      walk_at "go"
      refine ⟨d, s, ns, i, _, rfl, hd, hi1, by omega, fun r H1 h1 r0 r1 => ?_⟩
      obtain ⟨v, hv⟩ : ∃ v, xs[r.toNat]? = some v := ⟨_, List.getElem?_eq_getElem (i := r.toNat) (by omega)⟩
      refine ixT (h1.st hS (by simpa using hne)) (at_of (j := r.toNat) (by omega) hv) ?_
      exact q _ v H1 hv h1

section
variable {H0 : Hp} {ex : List Addr} {H : Hp} {L L' M M' : List (Addr × HO)} {d s p : Addr} {ns : List Int} {i m : Int} {Q : VK} {E : XK} {xs : List V}
theorem take_ (scr : Scr K H0 ex s ns) (hH : Has H0 ex H L) (pt : Put L d (.lst [.ref s, .int i]) (.lst [.ref s, .int (i + 1)]) L') (f : d ∈ ex ∨ H0 d = none) (bi : 0 ≤ i ∧ i < 1000000) (bm : 0 < m)
    (h : ∀ (r : Int) H', Has H0 ex H' L' → 0 ≤ r → r < m → Q (.int r) H') : spTake K [.ref d, .int m] H Q E :=
  ⟨d, s, ns, i, m, rfl, ⟨hH.at pt.mem.1, scr.2 _ _ hH, bi.1, scr.1⟩, bi.2, bm, fun r H' h' r0 r1 => h r H' (hH.putC h' pt f) r0 r1⟩
theorem pick_ (scr : Scr K H0 ex s ns) (hH : Has H0 ex H ((p, .lst xs) :: M)) (pt : Put M d (.lst [.ref s, .int i]) (.lst [.ref s, .int (i + 1)]) M') (f : d ∈ ex ∨ H0 d = none) (bi : 0 ≤ i ∧ i < 1000000) (bl : 0 < xs.length)
    (h : ∀ (v : V) H', v ∈ xs → Has H0 ex H' ((p, .lst xs) :: M') → Q v H') : spPick K [.ref d, .ref p] H Q E := by
  have hne : p ≠ d := fun e => by
    have nd := hH.nd
    rw [List.map_cons, List.nodup_cons] at nd
    have m : d ∈ List.map Prod.fst M := List.mem_map_of_mem (f := Prod.fst) pt.mem.1
    rw [← e] at m
    exact nd.1 m
  exact ⟨d, s, p, ns, i, xs, rfl, ⟨hH.at (List.mem_cons_of_mem _ pt.mem.1), scr.2 _ _ hH, bi.1, scr.1⟩, bi.2, .inl (hH.l List.mem_cons_self), hne, bl, fun j v H' hv h' => h v H' (List.mem_of_getElem? hv) (hH.putC h' (.there pt) f)⟩
end

local macro_rules | `(tactic| walk_at "fr") => `(tactic| first | assumption | exact Or.inl List.mem_cons_self | (refine Or.inr ?_; assumption))
local macro_rules | `(tactic| walk_at "dr") => `(tactic| first
  | ((with_reducible refine' take_ (by assumption) (by assumption) ?c ?f ?bi ?bm ?h); (case c => walk_at "put"); (case f => walk_at "fr"); (case bi => omega); (case bm => omega); (intro r_ H_ h_ r0_ r1_))
  | ((with_reducible refine' pick_ (by assumption) (by assumption) ?c ?f ?bi ?bm ?h); (case c => walk_at "put"); (case f => walk_at "fr"); (case bi => omega); (case bm => decide); (intro v_ H_ m_ h_)))

local macro_rules | `(tactic| walk_at "fr") => `(tactic| first | assumption | exact Or.inl List.mem_cons_self | (refine Or.inr ?_; assumption))
local macro_rules | `(tactic| walk_at "dr") => `(tactic| first
  | ((with_reducible refine' take_ (by assumption) (by assumption) ?c ?f ?bi ?bm ?h); (case c => walk_at "put"); (case f => walk_at "fr"); (case bi => omega); (case bm => omega); (intro r_ H_ h_ r0_ r1_))
  | ((with_reducible refine' pick_ (by assumption) (by assumption) ?c ?f ?bi ?bm ?h); (case c => walk_at "put"); (case f => walk_at "fr"); (case bi => omega); (case bm => decide); (intro v_ H_ m_ h_)))

/-! ### the law's own -/
theorem spIsOf_cases {H : Hp} {Q : VK} {a : Addr} {k : Kind} {x : Str} : True := trivial
def spIsNum (K : PySem.W.Frag) : Sp := fun vs H Q _ => ∃ (lo hi : Int) (x : Str), vs = [.str x, .int lo, .int hi] ∧ (Kind.number lo hi).Ok ∧ ∀ H', Has H [] H' [] → Q (.bl (isOf (.number lo hi) x)) H'
theorem ok_is_number {f : Addr} {fd : FuncData} {k : Nat} (F : Fun K "_law_is_number" "_law_is_number" s__law_is_number f fd) (m_str : mg "str" = none) (m_range : mg "range" = none) : FnOk P w K mg base CX0 (k + 1) f fd ["word", "low", "high"] (spIsNum K) := by
  refine F.ok sc__law_is_number (fun vs H Q E h => ?_) (fun cdv A outer s H vs Q E hr h => ?_)
  · obtain ⟨a, k, x, rfl, _⟩ := h
    rfl
  · obtain ⟨lo, hi, x, rfl, ⟨b1, b2, b3, b4⟩, q⟩ := h
    refine ⟨_, (pss_one (ps_ret (pe_cmpR (k_in (K := K) rfl) (pv 0) (pe_lc (own := [("number", 3)]) (g := gName 3) rfl sc__law_is_number.nd (pi_range2 (by rfl) m_range (pa_cons (pv 1) (pa_cons (pe_op (k_add (K := K) rfl) (pv 2) pe_int) pa_nil))) (blkOk_by (own := [("number", 3)]) (N := ["word", "low", "high", "number"]) (sc := defScope s__law_is_number) (by decide +kernel)) (fun _ _ _ _ _ => (pg_name (i := 3) sc__law_is_number.nd rfl (Or.inl rfl))) (fun _ _ _ _ _ => pts_nil) (fun _ _ _ _ _ => (pe_callTy call_strN (by rfl) m_str (by decide +kernel) (pa_cons (pv 3) pa_nil)))) (by rfl)))), ?_⟩
    have h0 := Has.start H []
    show (_ : L2.St → Hp → Prop) [some (.str x), some (.int lo), some (.int hi), none] H
    walk_at "go"
    refine rng2k (by omega) ?_
    refine lck_rng h0 (fun i D acc M => acc = (List.range i).map (fun (j : Nat) => V.str (toString (lo + (j : Int)))) ∧ M = [(D, .lst acc)]) (fun D => ⟨rfl, rfl⟩) (fun i D acc M H' hi hD hl hm hp hH => ?_) (fun D acc M H' hl hm hp hH => ?_)
    · obtain ⟨e, rfl⟩ := hp
      simp only [List.map, wipe, List.set]
      walk_at "go"
      refine lct rfl ?_
      walk_at "go"
      rename_i x_ x0_ x1_
      subst x0_
      refine lcn hH hD (by walk_at "put") hl (by omega) (List.Sublist.refl _) (by walk_at "mem") ⟨?_, rfl⟩
      rw [map_range_succ, e]
    · obtain ⟨e, rfl⟩ := hp
      refine inL (hH.l (by walk_at "mem")) rfl ?_ ?_
      · rw [e, List.all_map]
        exact List.all_eq_true.mpr fun _ _ => rfl
      · rw [e]
        exact q _ hH.tail
theorem ok_is_of2 {f : Addr} {fd : FuncData} {k : Nat} (F : Fun K "_law_is_of" "_law_is_of" s__law_is_of f fd) (c__law_is_number : Cal P w K mg base CX0 k "_law_is_number" ["word", "low", "high"] (spIsNum K)) : FnOk P w K mg base CX0 (k + 1) f fd ["kind", "word"] (spIsOf K) := by
  refine F.ok sc__law_is_of (fun vs H Q E h => ?_) (fun cdv A outer s H vs Q E hr h => ?_)
  · obtain ⟨a, k, x, rfl, _⟩ := h
    rfl
  · obtain ⟨a, k, x, rfl, hS, hk, q⟩ := h
    refine ⟨_, (pss_cons (ps_if (pt_cmpR (k_eq (K := K) rfl (by exact hr.units)) (pe_ix (k_ix (K := K) rfl) (pv 0) pe_int (fun _ _ => rfl)) pe_str (nomark _)) (pss_one (ps_ret (pe_cal c__law_is_number hr (by omega) (by rfl) pass0 (pa_cons (pv 1) (pa_cons (pe_ix (k_ix (K := K) rfl) (pv 0) pe_int (fun _ _ => rfl)) (pa_cons (pe_ix (k_ix (K := K) rfl) (pv 0) pe_int (fun _ _ => rfl)) pa_nil)))))) pss_nil)
    (pss_one (ps_ret (pe_or (pe_cmpR (k_eq (K := K) rfl (by exact hr.units)) (pe_ix (k_ix (K := K) rfl) (pv 0) pe_int (fun _ _ => rfl)) pe_str (nomark _)) (pe_one (pe_cmpR (k_in (K := K) rfl) (pv 1) (pe_slice (k_sl (K := K) rfl) (pv 0) (po_some pe_int) po_none) (by rfl))))))), ?_⟩
    have h0 := Has.start H []
    show (_ : L2.St → Hp → Prop) [some (.ref a), some (.str x)] H
    cases k with
    | any =>
      walk_at "go"
      exact q _ h0
    | chosen ns =>
      walk_at "go"
      refine slT1 h0 hS fun p H1 n1 h1 => ?_
      refine inT (h1.t (by walk_at "mem")) rfl (flat_strs ns) ?_
      exact q _ h1.tail
    | number lo hi =>
      walk_at "go"
      exact ⟨lo, hi, x, rfl, hk, q⟩
def spLaw (K : PySem.W.Frag) : Sp := fun vs H Q _ => ∃ (s : Addr) (ns : List Int), vs = [.ref s] ∧ SqL K H s (ns.map V.int) ∧ ns.length ≤ 63 ∧ ∀ H', Q (.bl true) H'
theorem ok_law {f : Addr} {fd : FuncData} (F : Fun K "law" "law" s_law f fd) (c__law_take : Cal P w K mg base CX0 2 "_law_take" ["draw", "many"] (spTake K)) (c__law_pick : Cal P w K mg base CX0 3 "_law_pick" ["draw", "items"] (spPick K))
    (c_is_of : Cal P w K mg base CX0 1 "is_of" ["kind", "word"] (spIsOf K)) (c__law_is_of : Cal P w K mg base CX0 2 "_law_is_of" ["kind", "word"] (spIsOf K))
    (m_str : mg "str" = none) (m_min : mg "min" = none) (m_all : mg "all" = none) : FnOk P w K mg base CX0 4 f fd ["script"] (spLaw K) := by
  refine F.ok sc_law (fun vs H Q E h => ?_) (fun cdv A outer st H vs Q E hr h => ?_)
  · obtain ⟨a, ns, rfl, _⟩ := h
    rfl
  · obtain ⟨s, ns, rfl, hS, hlen, q⟩ := h
    refine ⟨_, (pss_cons (ps_set (i := 1) sc_law.nd rfl (.inl rfl) (pe_lst (pa_cons (pv 0) (pa_cons pe_int pa_nil))))
    (pss_cons (ps_set (i := 2) sc_law.nd rfl (.inl rfl) (pe_op op_sub (pe_cal c__law_take hr (by omega) (by rfl) pass0 (pa_cons (pv 1) (pa_cons pe_int pa_nil))) pe_int))
    (pss_cons (ps_set (i := 3) sc_law.nd rfl (.inl rfl) (pe_callB (call_minN rfl) (by rfl) m_min (by decide +kernel) (pa_cons pe_int (pa_cons (pe_op (k_add (K := K) rfl) (pv 2) (pe_cal c__law_pick hr (by omega) (by rfl) pass0 (pa_cons (pv 1) (pa_cons (pe_lst (pa_cons pe_int (pa_cons pe_int (pa_cons pe_int (pa_cons pe_int (pa_cons pe_int pa_nil)))))) pa_nil)))) pa_nil))))
    (pss_cons (ps_set (i := 4) sc_law.nd rfl (.inl rfl) (pe_lst (pa_cons (pe_tup (pa_cons pe_str pa_nil)) (pa_cons (pe_tup (pa_cons pe_str (pa_cons pe_str pa_nil))) (pa_cons (pe_tup (pa_cons pe_str (pa_cons pe_str (pa_cons pe_str (pa_cons pe_str pa_nil))))) (pa_cons (pe_tup (pa_cons pe_str (pa_cons (pv 2) (pa_cons (pv 3) pa_nil)))) (pa_cons (pe_tup (pa_cons pe_str (pa_cons (pe_un un_neg pe_int) (pa_cons pe_int pa_nil)))) (pa_cons (pe_tup (pa_cons pe_str (pa_cons pe_int (pa_cons pe_int pa_nil)))) pa_nil))))))))
    (pss_cons (ps_set (i := 5) sc_law.nd rfl (.inl rfl) (pe_lst (pa_cons pe_str (pa_cons pe_str (pa_cons pe_str (pa_cons pe_str (pa_cons pe_str (pa_cons pe_str (pa_cons pe_str (pa_cons pe_str (pa_cons pe_str (pa_cons pe_str (pa_cons pe_str (pa_cons pe_str (pa_cons pe_str (pa_cons pe_str (pa_cons pe_str (pa_cons pe_str (pa_cons pe_str (pa_cons pe_str (pa_cons pe_str (pa_cons pe_str (pa_cons pe_str (pa_cons pe_str (pa_cons pe_str (pa_cons pe_str (pa_cons pe_str pa_nil)))))))))))))))))))))))))))
    (pss_cons (ps_set (i := 5) sc_law.nd rfl (.inl rfl) (pe_op (k_add (K := K) rfl) (pe_op (k_add (K := K) rfl) (pv 5) (pe_lc (own := [("number", 7)]) (g := gName 7) rfl sc_law.nd (k_tup (K := K) rfl (pe_tup (pa_cons (pe_op op_sub (pv 2) pe_int) (pa_cons (pv 2) (pa_cons (pe_op (k_add (K := K) rfl) (pv 2) pe_int) (pa_cons (pe_op op_sub (pv 3) pe_int) (pa_cons (pv 3) (pa_cons (pe_op (k_add (K := K) rfl) (pv 3) pe_int) pa_nil)))))))) (blkOk_by (own := [("number", 7)]) (N := ["script", "draw", "low", "high", "kinds", "words", "kind", "number", "word"]) (sc := defScope s_law) (by decide +kernel)) (fun _ _ _ _ _ => (pg_name (i := 7) sc_law.nd rfl (Or.inl rfl))) (fun _ _ _ _ _ => pts_nil) (fun _ _ _ _ _ => (pe_callTy call_strN (by rfl) m_str (by decide +kernel) (pa_cons (pv 7) pa_nil))))) (pe_lst (pa_cons (pe_op (k_add (K := K) rfl) pe_str (pe_callTy call_strN (by rfl) m_str (by decide +kernel) (pa_cons (pv 3) pa_nil))) (pa_cons (pe_op (k_add (K := K) rfl) pe_str (pe_callTy call_strN (by rfl) m_str (by decide +kernel) (pa_cons (pv 3) pa_nil))) pa_nil)))))
    (pss_cons (ps_for PassesOwn.never rfl (k_list (K := K) rfl (pv 4)) (pg_name (i := 6) sc_law.nd rfl (.inr rfl)) (pss_one (ps_if (pt_not (pt_val (pe_callB (k_all (K := K) rfl rfl) (by rfl) m_all (by decide +kernel) (pa_cons (pe_lc (own := [("word", 8)]) (g := gName 8) rfl sc_law.nd (k_list (K := K) rfl (pv 5)) (blkOk_by (own := [("word", 8)]) (N := ["script", "draw", "low", "high", "kinds", "words", "kind", "number", "word"]) (sc := defScope s_law) (by decide +kernel)) (fun _ _ _ _ _ => (pg_name (i := 8) sc_law.nd rfl (Or.inl rfl))) (fun _ _ _ _ _ => pts_nil) (fun _ _ _ _ _ => (pe_cmpR (k_eq (K := K) rfl (by exact hr.units)) (pe_cal c_is_of hr (by omega) (by rfl) pass0 (pa_cons (pv 6) (pa_cons (pv 8) pa_nil))) (pe_cal c__law_is_of hr (by omega) (by rfl) pass0 (pa_cons (pv 6) (pa_cons (pv 8) pa_nil))) (nomark _)))) pa_nil)))) (pss_one (ps_ret pe_bl)) pss_nil)))
    (pss_one (ps_ret pe_bl))))))))), ?_⟩
    have h0 := Has.start H []
    show (_ : L2.St → Hp → Prop) [some (.ref s), none, none, none, none, none, none, none, none] H
    walk_at "go"
    have scr := scr0 hS hlen
    rename_i d Hd nd hd
    walk_at "dr"
    walk_at "go"
    walk_at "dr"
    rename_i lo0 H1 h1 lo1 lo2 p2 H2 n2 h2 v H3 mv h3
    obtain ⟨dv, rfl, dv0, dv1⟩ : ∃ n : Int, v = .int n ∧ 0 ≤ n ∧ n ≤ 198 := by
      simp only [List.mem_cons, List.not_mem_nil, or_false] at mv
      rcases mv with rfl | rfl | rfl | rfl | rfl <;> exact ⟨_, rfl, by decide, by decide⟩
    walk_at "go"
    rename_i hi hi1 hi2 hi3 pa Ha na ha pb Hb nb hb pc Hc nc hc pd Hd' nd' hd' pe He ne he pf Hf nf hf pk Hk nk hk pw Hw nw hw pn Hn nn hn
    refine lcs_tup (xs := _) hn (fun H' h => h.t List.mem_cons_self) (fun i acc => ∃ ws : List Str, acc = ws.map V.str) ⟨[], rfl⟩ (fun i x D acc H' hx hD hl hp hH => ?_) (fun D acc H' hl hp hH => ?_)
    · obtain ⟨ws, rfl⟩ := hp
      obtain ⟨n, rfl, n0, n1⟩ : ∃ n : Int, x = .int n ∧ -1000 ≤ n ∧ n ≤ 1000 := by
        have m := List.mem_of_getElem? hx
        simp only [List.mem_cons, List.not_mem_nil, or_false] at m
        rcases m with rfl | rfl | rfl | rfl | rfl | rfl <;> exact ⟨_, rfl, by omega, by omega⟩
      simp only [List.map, wipe, List.set]
      walk_at "go"
      refine lct rfl ?_
      walk_at "go"
      have hi := (List.getElem?_eq_some_iff.mp hx).1
      simp only [List.length_cons, List.length_nil] at hi
      exact lcs (by assumption) (by walk_at "sub") hD hl (by omega) ⟨_, snoc_str ws _⟩
    · obtain ⟨ws, rfl⟩ := hp
      simp only [List.length_map, List.length_cons, List.length_nil] at hl
      walk_at "go"
      rename_i pW HW nW hW
      have hall : ∀ {i : Nat} {x : V} {H'' : Hp} {L'' : List (Addr × HO)}, True := trivial
      refine fors_list (xs := [.ref pa, .ref pb, .ref pc, .ref pd, .ref pe, .ref pf]) hW (fun H' h => h.l (by walk_at "mem")) (fun _ σ' => ∃ kx, σ' = [some (.ref s), some (.ref d), some (.int (lo0 - 99)), some (.int hi), some (.ref pk), some (.ref pW), kx, none, none]) ⟨_, rfl⟩ (fun i x σ' H' hx hp hH => ?_) (fun σ' H' hp hH => ?_)
      · obtain ⟨kx, rfl⟩ := hp
        obtain ⟨kp, kd, rfl, kok, kh⟩ : ∃ (kp : Addr) (kd : Kind), x = .ref kp ∧ kd.Ok ∧ (∀ H'', Has H' [] H'' [] → SqT K H'' kp kd.vs) := by
          have m := List.mem_of_getElem? hx
          simp only [List.mem_cons, List.not_mem_nil, or_false] at m
          rcases m with rfl | rfl | rfl | rfl | rfl | rfl
          · exact ⟨_, .any, rfl, trivial, fun H'' h'' => show SqT K H'' _ [.str "any"] from h''.st (hH.t (by walk_at "mem")) (by simp)⟩
          · exact ⟨_, .chosen ["a"], rfl, by show (_ : Nat) ≤ 100; decide, fun H'' h'' => show SqT K H'' _ [.str "chosen", .str "a"] from h''.st (hH.t (by walk_at "mem")) (by simp)⟩
          · exact ⟨_, .chosen ["on", "off", "x9"], rfl, by show (_ : Nat) ≤ 100; decide, fun H'' h'' => show SqT K H'' _ [.str "chosen", .str "on", .str "off", .str "x9"] from h''.st (hH.t (by walk_at "mem")) (by simp)⟩
          · exact ⟨_, .number (lo0 - 99) hi, rfl, by refine ⟨?_, ?_, ?_, ?_⟩ <;> omega, fun H'' h'' => show SqT K H'' _ [.str "number", .int (lo0 - 99), .int hi] from h''.st (hH.t (by walk_at "mem")) (by simp)⟩
          · exact ⟨_, .number (-99) 99, rfl, by refine ⟨?_, ?_, ?_, ?_⟩ <;> decide, fun H'' h'' => show SqT K H'' _ [.str "number", .int (-99), .int 99] from h''.st (hH.t (by walk_at "mem")) (by simp)⟩
          · exact ⟨_, .number 0 0, rfl, by refine ⟨?_, ?_, ?_, ?_⟩ <;> decide, fun H'' h'' => show SqT K H'' _ [.str "number", .int 0, .int 0] from h''.st (hH.t (by walk_at "mem")) (by simp)⟩
        walk_at "go"
        refine lcs_list (xs := _) (Has.start H' []) (fun H'' h => h.sl (hH.l List.mem_cons_self) (by simp)) (fun i acc => acc = (List.replicate i true).map V.bl) rfl (fun i x D acc H'' hx hD hl hp hh => ?_) (fun D acc H'' hl hp hh => ?_)
        · obtain ⟨w, rfl⟩ : ∃ w, x = .str w := isStr_at (by simp only [List.all_append, isStr_map]; rfl) hx
          subst hp
          have hi := (List.getElem?_eq_some_iff.mp hx).1
          simp only [List.length_cons, List.length_nil, List.length_append, List.length_map] at hi hl
          simp only [List.map, wipe, List.set]
          walk_at "go"
          refine lct rfl ?_
          walk_at "go"
          refine ⟨kp, kd, w, rfl, kh _ hh.tail, kok, fun H3 h3 => ?_⟩
          walk_at "go"
          refine ⟨kp, kd, w, rfl, kh _ ((hh.same h3).tail), kok, fun H4 h4 => ?_⟩
          refine equ rfl ?_
          rw [decide_eq_true rfl]
          exact lcs ((hh.same h3).same h4) (by walk_at "sub") hD (by rw [List.length_map]; exact hl) (by omega) (by rw [List.replicate_succ', List.map_append]; rfl)
        · subst hp
          walk_at "go"
          refine all_ (hh.l List.mem_cons_self) ?_
          rw [all_true]
          walk_at "go"
          exact ⟨⟨_, rfl⟩, hH.same hh⟩
      · obtain ⟨kx, rfl⟩ := hp
        walk_at "go"
        exact q _
end
section
theorem all_mk {l : PySem.W.OpenLaw} {w : World} {K : PySem.W.Frag} {h : Heap} {mg : Str → Option Value} {fa f1 f2 f3 f4 f5 f6 f7 : Addr} (X : K.In h) (G : h.Ns mainGlobals mg) (hfa : mg "law" = some (.ref fa))
    {od1 an1 od2 an2 od3 an3 od4 an4 od5 an5 od6 an6 od7 an7 : Option Addr} {sl1 sl2 sl3 sl4 sl5 sl6 sl7 : Array (Option Value)} {oc1 kV1 dc1 pm1 cd1 ct1 oc2 kV2 dc2 pm2 cd2 ct2 oc3 kV3 dc3 pm3 cd3 ct3 oc4 kV4 dc4 pm4 cd4 ct4 oc5 kV5 dc5 pm5 cd5 ct5 oc6 kV6 dc6 pm6 cd6 ct6 oc7 kV7 dc7 pm7 cd7 ct7 : Value}
    (a1 : PySem.W.nsIn K mainGlobals "is_of" = some (some (.ref f1))) (l1 : K.lookup f1 = some ⟨oc1, od1, .func (PySem.W.fnOf "is_of" "is_of" (defArgs s_is_of) (defBody s_is_of) (defScope s_is_of) .none kV1 dc1 pm1 an1 cd1 ct1), sl1⟩) (c1 : PySem.W.codeIn K cd1 "is_of" = true) (k1 : PySem.W.keepIn K (.ref f1) = true)
    (a2 : PySem.W.nsIn K mainGlobals "_law_number" = some (some (.ref f2))) (l2 : K.lookup f2 = some ⟨oc2, od2, .func (PySem.W.fnOf "_law_number" "_law_number" (defArgs s__law_number) (defBody s__law_number) (defScope s__law_number) .none kV2 dc2 pm2 an2 cd2 ct2), sl2⟩) (c2 : PySem.W.codeIn K cd2 "_law_number" = true) (k2 : PySem.W.keepIn K (.ref f2) = true)
    (a3 : PySem.W.nsIn K mainGlobals "_law_take" = some (some (.ref f3))) (l3 : K.lookup f3 = some ⟨oc3, od3, .func (PySem.W.fnOf "_law_take" "_law_take" (defArgs s__law_take) (defBody s__law_take) (defScope s__law_take) .none kV3 dc3 pm3 an3 cd3 ct3), sl3⟩) (c3 : PySem.W.codeIn K cd3 "_law_take" = true) (k3 : PySem.W.keepIn K (.ref f3) = true)
    (a4 : PySem.W.nsIn K mainGlobals "_law_pick" = some (some (.ref f4))) (l4 : K.lookup f4 = some ⟨oc4, od4, .func (PySem.W.fnOf "_law_pick" "_law_pick" (defArgs s__law_pick) (defBody s__law_pick) (defScope s__law_pick) .none kV4 dc4 pm4 an4 cd4 ct4), sl4⟩) (c4 : PySem.W.codeIn K cd4 "_law_pick" = true) (k4 : PySem.W.keepIn K (.ref f4) = true)
    (a5 : PySem.W.nsIn K mainGlobals "_law_is_number" = some (some (.ref f5))) (l5 : K.lookup f5 = some ⟨oc5, od5, .func (PySem.W.fnOf "_law_is_number" "_law_is_number" (defArgs s__law_is_number) (defBody s__law_is_number) (defScope s__law_is_number) .none kV5 dc5 pm5 an5 cd5 ct5), sl5⟩) (c5 : PySem.W.codeIn K cd5 "_law_is_number" = true) (k5 : PySem.W.keepIn K (.ref f5) = true)
    (a6 : PySem.W.nsIn K mainGlobals "_law_is_of" = some (some (.ref f6))) (l6 : K.lookup f6 = some ⟨oc6, od6, .func (PySem.W.fnOf "_law_is_of" "_law_is_of" (defArgs s__law_is_of) (defBody s__law_is_of) (defScope s__law_is_of) .none kV6 dc6 pm6 an6 cd6 ct6), sl6⟩) (c6 : PySem.W.codeIn K cd6 "_law_is_of" = true) (k6 : PySem.W.keepIn K (.ref f6) = true)
    (a7 : PySem.W.nsIn K mainGlobals "law" = some (some (.ref f7))) (l7 : K.lookup f7 = some ⟨oc7, od7, .func (PySem.W.fnOf "law" "law" (defArgs s_law) (defBody s_law) (defScope s_law) .none kV7 dc7 pm7 an7 cd7 ct7), sl7⟩) (c7 : PySem.W.codeIn K cd7 "law" = true) (k7 : PySem.W.keepIn K (.ref f7) = true)
    (z1 : PySem.W.nsIn K mainGlobals "isinstance" = some none)
    (z2 : PySem.W.nsIn K mainGlobals "str" = some none)
    (z3 : PySem.W.nsIn K mainGlobals "range" = some none)
    (z4 : PySem.W.nsIn K mainGlobals "len" = some none)
    (z5 : PySem.W.nsIn K mainGlobals "int" = some none)
    (z6 : PySem.W.nsIn K mainGlobals "min" = some none)
    (z7 : PySem.W.nsIn K mainGlobals "all" = some none)
    : ∃ fd : FuncData, (∀ (s : Shared) (v : Value), BindsTo s fd ⟨[v], []⟩ [("script", v)]) ∧ ∀ base : Heap, K.In base → base.Ns mainGlobals mg → FnOk l.prog w K mg base CX0 4 fa fd ["script"] (spLaw K) := by
  have e := hfa.symm.trans (PySem.W.mg_of X G a7)
  cases e
  have Fis_of := fun_mk (st := s_is_of) l1 c1 k1
  have bis_of := Fis_of.binds (ps := ["kind", "word"]) fun _ _ _ _ _ _ us hl => match us, hl with | [_, _], _ => rfl
  have gis_of := PySem.W.mg_of X G a1
  have F_law_number := fun_mk (st := s__law_number) l2 c2 k2
  have b_law_number := F_law_number.binds (ps := ["script", "index"]) fun _ _ _ _ _ _ us hl => match us, hl with | [_, _], _ => rfl
  have g_law_number := PySem.W.mg_of X G a2
  have F_law_take := fun_mk (st := s__law_take) l3 c3 k3
  have b_law_take := F_law_take.binds (ps := ["draw", "many"]) fun _ _ _ _ _ _ us hl => match us, hl with | [_, _], _ => rfl
  have g_law_take := PySem.W.mg_of X G a3
  have F_law_pick := fun_mk (st := s__law_pick) l4 c4 k4
  have b_law_pick := F_law_pick.binds (ps := ["draw", "items"]) fun _ _ _ _ _ _ us hl => match us, hl with | [_, _], _ => rfl
  have g_law_pick := PySem.W.mg_of X G a4
  have F_law_is_number := fun_mk (st := s__law_is_number) l5 c5 k5
  have b_law_is_number := F_law_is_number.binds (ps := ["word", "low", "high"]) fun _ _ _ _ _ _ us hl => match us, hl with | [_, _, _], _ => rfl
  have g_law_is_number := PySem.W.mg_of X G a5
  have F_law_is_of := fun_mk (st := s__law_is_of) l6 c6 k6
  have b_law_is_of := F_law_is_of.binds (ps := ["kind", "word"]) fun _ _ _ _ _ _ us hl => match us, hl with | [_, _], _ => rfl
  have g_law_is_of := PySem.W.mg_of X G a6
  have Flaw := fun_mk (st := s_law) l7 c7 k7
  have blaw := Flaw.binds (ps := ["script"]) fun _ _ _ _ _ _ us hl => match us, hl with | [_], _ => rfl
  have glaw := PySem.W.mg_of X G a7
  have m_isinstance := PySem.W.mg_none_of X G z1
  have m_str := PySem.W.mg_none_of X G z2
  have m_range := PySem.W.mg_none_of X G z3
  have m_len := PySem.W.mg_none_of X G z4
  have m_int := PySem.W.mg_none_of X G z5
  have m_min := PySem.W.mg_none_of X G z6
  have m_all := PySem.W.mg_none_of X G z7
  refine ⟨PySem.W.fnOf "law" "law" (defArgs s_law) (defBody s_law) (defScope s_law) .none kV7 dc7 pm7 an7 cd7 ct7, fun s v => .of_eq rfl, fun base _ _ => ?_⟩
  have c_is_of : Cal l.prog w K mg base CX0 1 "is_of" ["kind", "word"] (spIsOf K) := ⟨⟨_, _, ok_is_of Fis_of m_isinstance m_str m_range, gis_of, Fis_of.kp, bis_of⟩⟩
  have c_num : Cal l.prog w K mg base CX0 1 "_law_number" ["script", "index"] (spNumber K) := ⟨⟨_, _, ok_number F_law_number m_len m_int m_range, g_law_number, F_law_number.kp, b_law_number⟩⟩
  have c_take : Cal l.prog w K mg base CX0 2 "_law_take" ["draw", "many"] (spTake K) := ⟨⟨_, _, ok_take F_law_take c_num m_int, g_law_take, F_law_take.kp, b_law_take⟩⟩
  have c_pick : Cal l.prog w K mg base CX0 3 "_law_pick" ["draw", "items"] (spPick K) := ⟨⟨_, _, ok_pick F_law_pick c_take m_len, g_law_pick, F_law_pick.kp, b_law_pick⟩⟩
  have c_isn : Cal l.prog w K mg base CX0 1 "_law_is_number" ["word", "low", "high"] (spIsNum K) := ⟨⟨_, _, ok_is_number F_law_is_number m_str m_range, g_law_is_number, F_law_is_number.kp, b_law_is_number⟩⟩
  have c_is2 : Cal l.prog w K mg base CX0 2 "_law_is_of" ["kind", "word"] (spIsOf K) := ⟨⟨_, _, ok_is_of2 F_law_is_of c_isn, g_law_is_of, F_law_is_of.kp, b_law_is_of⟩⟩
  exact ok_law Flaw c_take c_pick c_is_of c_is2 m_str m_min m_all
end
end K03
open PySem PySem.W PyProof.Rows
set_option maxHeartbeats 0 in
theorem PySem.Challenge.cw_switchyard_k03_types_holds : PySem.Challenge.rw_switchyard_k03_types.Holds := by
  w_on; o_law; k_head; (case hw => w_witness2)
  k_fill
  refine L2.walk_of (l := PySem.Challenge.rw_switchyard_k03_types) (n := 63) (k := 4) (x := "script") (CX := fun _ => L2.CX0) (sp := fun w => K03.spLaw _) rfl (by decide) rfl ⟨rfl, by decide, by decide⟩ (fun w h Y => PySem.W.kIn_of Y) ?F (fun _ _ a ns hl _ hS => ⟨a, ns, rfl, hS, hl, fun _ => rfl⟩) (fun _ _ _ _ _ h => h)
  case F =>
    intro w mg fa h KX G hmg
    refine' K03.all_mk KX G hmg ?a1 ?l1 ?c1 ?k1 ?a2 ?l2 ?c2 ?k2 ?a3 ?l3 ?c3 ?k3 ?a4 ?l4 ?c4 ?k4 ?a5 ?l5 ?c5 ?k5 ?a6 ?l6 ?c6 ?k6 ?a7 ?l7 ?c7 ?k7 ?z1 ?z2 ?z3 ?z4 ?z5 ?z6 ?z7
    (case a1 => k_is); (case l1 => k_is); (case c1 => k_is); (case k1 => k_is); (case a2 => k_is); (case l2 => k_is); (case c2 => k_is); (case k2 => k_is); (case a3 => k_is); (case l3 => k_is); (case c3 => k_is); (case k3 => k_is); (case a4 => k_is); (case l4 => k_is); (case c4 => k_is); (case k4 => k_is); (case a5 => k_is); (case l5 => k_is); (case c5 => k_is); (case k5 => k_is); (case a6 => k_is); (case l6 => k_is); (case c6 => k_is); (case k6 => k_is); (case a7 => k_is); (case l7 => k_is); (case c7 => k_is); (case k7 => k_is); (case z1 => k_is); (case z2 => k_is); (case z3 => k_is); (case z4 => k_is); (case z5 => k_is); (case z6 => k_is); (case z7 => k_is)
