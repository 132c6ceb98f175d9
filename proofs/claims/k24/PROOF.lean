import PyProof.Rows.All
import Wide.All
import OpenK.AllK
import Wide.FinOn
import HandS.ForMost
import HandS.EndBits
import HandS.IsInst
import HandS.TupAny
import HandS.Strs
import PyProof.Rows.SetFrom
import HandS.Exc
import HandS.TryMany
import HandS.Conv
import HandS.Small
import HandS.DictComp
import HandS.Star
import HandS.Flow
import HandS.ListItems
import HandS.More
import HandS.StrMore
import HandS.Style
import HandS.Lambda
import HandS.EndTab
import HandS.ExcField
import HandS.ExcInit
import HandS.ExcIs
import KE.KExcIs
import KE.KNest
import HandS.ReplaceLit
import HandS.ReplaceList
import KE.GoesMore
import HandS.SetTxt0
import HandS.Rev
import HandS.Defaults
import KE.DataEq
import HandS.Codes
import PySem.Challenge.RW_switchyard_k24_whole_aliases
set_option Elab.async false
set_option linter.all false
set_option maxRecDepth 100000
set_option maxHeartbeats 4000000
/-! Sw0: readings walked step by step, what is known of the heap in one row. -/
namespace Sw
open PySem PySem.Spec PyProof.Rows L2

/-! ### what is known of the heap -/
structure Has (H0 : Hp) (ex : List Addr) (H : Hp) (L : List (Addr × HO)) : Prop where
  keep : ∀ a o, H0 a = some o → a ∉ ex → H a = some o
  get : ∀ x ∈ L, H x.1 = some x.2
  nd : (L.map Prod.fst).Nodup

theorem Has.start (H : Hp) (ex : List Addr) : Has H ex H [] := ⟨fun _ _ h _ => h, fun _ h => (nomatch h), List.nodup_nil⟩
theorem Has.new {H0 : Hp} {ex : List Addr} {H : Hp} {L : List (Addr × HO)} {p : Addr} {o : HO} (h : Has H0 ex H L) (n : H p = none) : Has H0 ex (upd H p o) ((p, o) :: L) := by
  refine ⟨fun a u e hx => ?_, fun x hx => ?_, ?_⟩
  · have k := h.keep a u e hx
    rw [upd_ne (ne_of_none k n)]
    exact k
  · rcases List.mem_cons.mp hx with rfl | hx
    · exact upd_same
    · have k := h.get x hx
      rw [upd_ne (ne_of_none k n)]
      exact k
  · rw [List.map_cons, List.nodup_cons]
    refine ⟨fun hm => ?_, h.nd⟩
    obtain ⟨x, hx, e⟩ := List.mem_map.mp hm
    have k := h.get x hx
    rw [e, n] at k
    cases k
/-- what is known, less -/
theorem Has.tail {H0 : Hp} {ex : List Addr} {H : Hp} {L : List (Addr × HO)} {x : Addr × HO} (h : Has H0 ex H (x :: L)) : Has H0 ex H L :=
  ⟨h.keep, fun y hy => h.get y (List.mem_cons_of_mem _ hy), (List.nodup_cons.mp (by simpa using h.nd)).2⟩
theorem Has.sub {H0 : Hp} {ex : List Addr} {H : Hp} {L L' : List (Addr × HO)} (h : Has H0 ex H L) (s : L'.Sublist L) : Has H0 ex H L' :=
  ⟨h.keep, fun y hy => h.get y (s.subset hy), (s.map Prod.fst).nodup h.nd⟩
theorem Has.add {H0 : Hp} {ex : List Addr} {H : Hp} {L : List (Addr × HO)} {a : Addr} {o : HO} (h : Has H0 ex H L) (e : H a = some o) (n : a ∉ L.map Prod.fst) : Has H0 ex H ((a, o) :: L) :=
  ⟨h.keep, fun y hy => (List.mem_cons.mp hy).elim (fun z => by subst z; exact e) (h.get y), List.nodup_cons.mpr ⟨n, h.nd⟩⟩
theorem Has.more {H0 : Hp} {ex ex' : List Addr} {H : Hp} {L : List (Addr × HO)} (h : Has H0 ex H L) (s : ∀ a ∈ ex, a ∈ ex') : Has H0 ex' H L :=
  ⟨fun a o e n => h.keep a o e fun m => n (s a m), h.get, h.nd⟩
/-- nothing that was known has changed -/
theorem Has.same {H0 : Hp} {ex : List Addr} {H H' : Hp} {L M : List (Addr × HO)} (h : Has H0 ex H L) (h' : Has H [] H' M) : Has H0 ex H' L :=
  ⟨fun a o e n => h'.keep a o (h.keep a o e n) (by simp), fun x hx => h'.keep _ _ (h.get x hx) (by simp), h.nd⟩
/-- .. and something new is known -/
theorem Has.same1 {H0 : Hp} {ex : List Addr} {H H' : Hp} {L : List (Addr × HO)} {p : Addr} {o : HO} (h : Has H0 ex H L) (h' : Has H [] H' [(p, o)]) (n : H p = none) : Has H0 ex H' ((p, o) :: L) :=
  (h.same h').add (h'.get (p, o) (by simp)) fun hm => by
    obtain ⟨x, hx, e⟩ := List.mem_map.mp hm
    have k := h.get x hx
    rw [e, n] at k
    cases k
/-- the object at a place of the row has changed -/
inductive Put : List (Addr × HO) → Addr → HO → HO → List (Addr × HO) → Prop
  | here {d : Addr} {o o' : HO} {L : List (Addr × HO)} : Put ((d, o) :: L) d o o' ((d, o') :: L)
  | there {x : Addr × HO} {d : Addr} {o o' : HO} {L L' : List (Addr × HO)} : Put L d o o' L' → Put (x :: L) d o o' (x :: L')
theorem Put.fst {L L' : List (Addr × HO)} {d : Addr} {o o' : HO} (p : Put L d o o' L') : L'.map Prod.fst = L.map Prod.fst := by
  induction p with
  | here => rfl
  | there _ ih => rw [List.map_cons, List.map_cons, ih]
theorem Put.mem {L L' : List (Addr × HO)} {d : Addr} {o o' : HO} (p : Put L d o o' L') : (d, o) ∈ L ∧ (d, o') ∈ L' := by
  induction p with
  | here => exact ⟨List.mem_cons_self, List.mem_cons_self⟩
  | there _ ih => exact ⟨List.mem_cons_of_mem _ ih.1, List.mem_cons_of_mem _ ih.2⟩
theorem Put.out {L L' : List (Addr × HO)} {d : Addr} {o o' : HO} (p : Put L d o o' L') (nd : (L.map Prod.fst).Nodup) : ∀ x ∈ L', x = (d, o') ∨ (x ∈ L ∧ x.1 ≠ d) := by
  induction p with
  | here =>
    intro x hx
    rcases List.mem_cons.mp hx with h | h
    · exact .inl h
    · refine .inr ⟨List.mem_cons_of_mem _ h, fun e => ?_⟩
      rw [List.map_cons, List.nodup_cons] at nd
      have m : x.1 ∈ List.map Prod.fst _ := List.mem_map_of_mem (f := Prod.fst) h
      rw [e] at m
      exact nd.1 m
  | @there y d o o' L L' q ih =>
    rw [List.map_cons, List.nodup_cons] at nd
    intro x hx
    rcases List.mem_cons.mp hx with h | h
    · subst h
      refine .inr ⟨List.mem_cons_self, fun e => nd.1 ?_⟩
      rw [e]
      exact List.mem_map_of_mem (f := Prod.fst) q.mem.1
    · rcases ih nd.2 x h with z | ⟨z, n⟩
      · exact .inl z
      · exact .inr ⟨List.mem_cons_of_mem _ z, n⟩
theorem Has.put {H0 : Hp} {ex : List Addr} {H : Hp} {L L' : List (Addr × HO)} {d : Addr} {o o' : HO} (h : Has H0 ex H L) (p : Put L d o o' L') (f : d ∈ ex ∨ H0 d = none) : Has H0 ex (upd H d o') L' := by
  refine ⟨fun a u e n => ?_, fun x hx => ?_, by rw [p.fst]; exact h.nd⟩
  · have k := h.keep a u e n
    rw [upd_ne (fun z => by subst z; rcases f with f | f; exact n f; rw [f] at e; cases e)]
    exact k
  · rcases p.out h.nd x hx with rfl | ⟨m, n⟩
    · exact upd_same
    · rw [upd_ne n]
      exact h.get x m
theorem Has.putC {H0 : Hp} {ex : List Addr} {H H' : Hp} {L L' M : List (Addr × HO)} {d : Addr} {o o' : HO} (h : Has H0 ex H L) (h' : Has H [d] H' ((d, o') :: M)) (p : Put L d o o' L') (f : d ∈ ex ∨ H0 d = none) : Has H0 ex H' L' := by
  refine ⟨fun a u e n => ?_, fun x hx => ?_, by rw [p.fst]; exact h.nd⟩
  · have k := h.keep a u e n
    refine h'.keep a u k fun m => ?_
    have z : a = d := by simpa using m
    subst z
    rcases f with f | f
    · exact n f
    · rw [f] at e; cases e
  · rcases p.out h.nd x hx with rfl | ⟨m, n⟩
    · exact h'.get _ (by simp)
    · exact h'.keep _ _ (h.get x m) (by simpa using n)

section
variable {H0 : Hp} {ex : List Addr} {H : Hp} {L : List (Addr × HO)} {K : PySem.W.Frag} {a : Addr} {xs : List V}
theorem Has.at (h : Has H0 ex H L) {o : HO} (m : (a, o) ∈ L) : H a = some o := h.get _ m
theorem Has.l (h : Has H0 ex H L) (m : (a, HO.lst xs) ∈ L) : SqL K H a xs := SqL.of (h.get _ m)
theorem Has.t (h : Has H0 ex H L) (m : (a, HO.tup xs) ∈ L) : SqT K H a xs := SqT.of (h.get _ m)
theorem Has.rd {u : HO} (h : Has H0 ex H L) (r : Rd H0 a u) (n : a ∉ ex) : Rd H a u := by
  rcases r with r | ⟨o, r⟩
  · exact .inl (h.keep _ _ r n)
  · exact .inr ⟨o, h.keep _ _ r n⟩
theorem Has.sl (h : Has H0 ex H L) (r : SqL K H0 a xs) (n : a ∉ ex) : SqL K H a xs := by
  rcases r with r | r
  · exact .inl (h.rd r n)
  · exact .inr r
theorem Has.st (h : Has H0 ex H L) (r : SqT K H0 a xs) (n : a ∉ ex) : SqT K H a xs := by
  rcases r with r | r
  · exact .inl (h.rd r n)
  · exact .inr r
end

/-! ### the steps -/
section
variable {X : Cx} {K : PySem.W.Frag} {σ : L2.St} {H : Hp} {Q : VK} {QA : List V → Hp → Prop} {QT : Bool → Hp → Prop} {x y z v : V} {te ta tb : TE} {t u : TT} {r : R2} {tt tu : TS} {nx ct bk : L2.St → Hp → Prop} {rt : VK} {i : Nat}
theorem c_ (h : Q v H) : tC v σ H Q := h
theorem var_ (i : Nat) (e : σ[i]? = some (some v)) (h : Q v H) : tVar i σ H Q := ⟨v, e, h⟩
theorem op_ (h : ta σ H fun x H1 => tb σ H1 fun y H2 => r x y H2 Q) : tOp r ta tb σ H Q := h
theorem un_ {r : V → Hp → VK → Prop} (h : ta σ H fun x H1 => r x H1 Q) : tUn r ta σ H Q := h
theorem nil_ (h : QA [] H) : tNil σ H QA := h
theorem cons_ {tr : TA} (h : te σ H fun x H1 => tr σ H1 fun xs H2 => QA (x :: xs) H2) : tCons te tr σ H QA := h
theorem cb_ {r : List V → Hp → VK → Prop} {t : TA} (h : t σ H fun vs H1 => r vs H1 Q) : tCB r t σ H Q := h
theorem call_ {sp : Sp} {t : TA} {E : XK} (h : t σ H fun vs H1 => sp vs H1 Q E) : tCall sp [] E t σ H Q := by
  show t σ H fun vs H1 => sp (vs ++ []) H1 Q E
  have e : (fun (vs : List V) (H1 : Hp) => sp (vs ++ []) H1 Q E) = fun vs H1 => sp vs H1 Q E := by
    funext vs H1
    rw [List.append_nil]
  rw [e]
  exact h
/-- a test's answer -/
def BlK (QT : Bool → Hp → Prop) (x : V) (H : Hp) : Prop := ∃ k, x = .bl k ∧ QT k H
theorem blk {k : Bool} (h : QT k H) : BlK QT (.bl k) H := ⟨k, rfl, h⟩
theorem test_ (h : te σ H fun x H1 => BlK QT x H1) : tTest te σ H QT := h
theorem b_ (h : te σ H fun x H1 => BlK QT x H1) : tB te σ H QT := h
theorem not_ (h : t σ H fun c H1 => QT (!c) H1) : tNot t σ H QT := h
theorem and_ (h : t σ H fun c H1 => if c = true then u σ H1 QT else QT false H1) : tAnd t u σ H QT := h
theorem or_ (h : t σ H fun c H1 => if c = true then QT true H1 else u σ H1 QT) : tOr t u σ H QT := h
def AndK (tb : TE) (σ : L2.St) (Q : VK) (x : V) (H1 : Hp) : Prop := ∃ c, x = .bl c ∧ if c = true then tb σ H1 Q else Q (.bl false) H1
def OrK (tb : TE) (σ : L2.St) (Q : VK) (x : V) (H1 : Hp) : Prop := ∃ c, x = .bl c ∧ if c = true then Q (.bl true) H1 else tb σ H1 Q
def NotK (Q : VK) (x : V) (H1 : Hp) : Prop := ∃ c, x = .bl c ∧ Q (.bl (!c)) H1
theorem andV_ (h : ta σ H fun x H1 => AndK tb σ Q x H1) : tAndV ta tb σ H Q := h
theorem orV_ (h : ta σ H fun x H1 => OrK tb σ Q x H1) : tOrV ta tb σ H Q := h
theorem notV_ (h : ta σ H fun x H1 => NotK Q x H1) : tNotV ta σ H Q := h
theorem andk {c : Bool} (h : if c = true then tb σ H Q else Q (.bl false) H) : AndK tb σ Q (.bl c) H := ⟨c, rfl, h⟩
theorem ork {c : Bool} (h : if c = true then Q (.bl true) H else tb σ H Q) : OrK tb σ Q (.bl c) H := ⟨c, rfl, h⟩
theorem notk {c : Bool} (h : Q (.bl (!c)) H) : NotK Q (.bl c) H := ⟨c, rfl, h⟩
theorem if_ (h : t σ H fun c H1 => if c = true then ta σ H1 Q else tb σ H1 Q) : tIf t ta tb σ H Q := h
theorem ite_t {c : Bool} {A B : Prop} (e : c = true) (h : A) : if c = true then A else B := by rw [if_pos e]; exact h
theorem ite_f {c : Bool} {A B : Prop} (e : c = false) (h : B) : if c = true then A else B := by rw [e]; exact h
theorem ite_c {c : Bool} {A B : Prop} (h1 : c = true → A) (h2 : c = false → B) : if c = true then A else B := by
  cases c with
  | true => exact h1 rfl
  | false => exact h2 rfl
/-- statements -/
theorem seq_ (h : tt ⟨tu ⟨nx, rt, bk, ct⟩, rt, bk, ct⟩ σ H) : tSeq tt tu ⟨nx, rt, bk, ct⟩ σ H := h
theorem next_ (h : nx σ H) : tNext ⟨nx, rt, bk, ct⟩ σ H := h
theorem break_ (h : bk σ H) : tBreak ⟨nx, rt, bk, ct⟩ σ H := h
theorem cont_ (h : ct σ H) : tCont ⟨nx, rt, bk, ct⟩ σ H := h
theorem drop_ (h : te σ H fun _ H1 => nx σ H1) : tDrop te ⟨nx, rt, bk, ct⟩ σ H := h
theorem ret_ (h : te σ H rt) : tRet te ⟨nx, rt, bk, ct⟩ σ H := h
theorem retN_ (h : rt .non H) : tRetN ⟨nx, rt, bk, ct⟩ σ H := h
theorem ifS_ (h : t σ H fun c H1 => if c = true then tt ⟨nx, rt, bk, ct⟩ σ H1 else tu ⟨nx, rt, bk, ct⟩ σ H1) : tIfS t tt tu ⟨nx, rt, bk, ct⟩ σ H := h
def SetK (σ : L2.St) (i : Nat) (nx : L2.St → Hp → Prop) (x : V) (H : Hp) : Prop := nx (σ.set i (some x)) H
theorem setk {σ' : L2.St} (e : σ.set i (some x) = σ') (h : nx σ' H) : SetK σ i nx x H := by
  subst e
  exact h
theorem set_ (h : te σ H fun x H1 => SetK σ i nx x H1) : tAsg te (gName i) ⟨nx, rt, bk, ct⟩ σ H := h
def AsgK (g : TG) (σ : L2.St) (nx : L2.St → Hp → Prop) (x : V) (H : Hp) : Prop := g x σ H nx
theorem asg_ {g : TG} (h : te σ H fun x H1 => AsgK g σ nx x H1) : tAsg te g ⟨nx, rt, bk, ct⟩ σ H := h
theorem gname (h : SetK σ i nx x H) : AsgK (gName i) σ nx x H := h
theorem gtup2 {i j : Nat} {a : Addr} {x y : V} (hs : SqT K H a [x, y]) {σ1 σ2 : L2.St} (e1 : σ.set i (some x) = σ1) (e2 : σ1.set j (some y) = σ2) (h : nx σ2 H) : AsgK (gTup K 2 (gCons (gName i) (gCons (gName j) gNil))) σ nx (.ref a) H := by
  subst e1 e2
  exact ⟨a, [x, y], rfl, hs, rfl, x, [y], rfl, y, [], rfl, rfl, h⟩
theorem aug_ {ti : TIp} (e : σ[i]? = some (some x)) (h : te σ H fun y H1 => ti x y H1 fun z H2 => SetK σ i nx z H2) : tAug i te ti ⟨nx, rt, bk, ct⟩ σ H := ⟨x, e, h⟩
theorem ipI_ {f : Int → Int → Int} {a b : Int} (h : Q (.int (f a b)) H) : ipI f (.int a) (.int b) H Q := ⟨a, b, rfl, rfl, h⟩
theorem augS_ {to ti : TE} {tg : V → V → Hp → VK → Prop} {tip : TIp} {ts : TSet} (h : to σ H fun o H1 => ti σ H1 fun i H2 => tg o i H2 fun x H3 => te σ H3 fun y H4 => tip x y H4 fun z H5 => ts o i z H5 fun H6 => nx σ H6) : tAugS to ti te tg tip ts ⟨nx, rt, bk, ct⟩ σ H := h

/-! ### operators by values -/
variable {a b : Int} {p q : Addr} {xs ys : List V}
theorem i0 {g : Int → Int → V} (h : Q (g a b) H) : rI0 g (.int a) (.int b) H Q := ⟨a, b, rfl, rfl, h⟩
theorem i1 {C : Int → Int → Prop} {g : Int → Int → V} (c : C a b) (h : Q (g a b) H) : rI C g (.int a) (.int b) H Q := ⟨a, b, rfl, rfl, c, h⟩
theorem iu {g : Int → V} (h : Q (g a) H) : rU g (.int a) H Q := ⟨a, rfl, h⟩
theorem eq_ (s : scal x y = true) (h : Q (.bl (decide (x = y))) H) : rEq x y H Q := ⟨s, h⟩
theorem ne_ (s : scal x y = true) (h : Q (.bl (!decide (x = y))) H) : rNe x y H Q := ⟨s, h⟩
theorem ixL {i : Int} (hs : SqL K H p xs) (e : atI xs i = some v) (h : Q v H) : rIx K (.ref p) (.int i) H Q := .inl ⟨p, xs, i, v, rfl, rfl, hs, e, h⟩
theorem ixT {i : Int} (hs : SqT K H p xs) (e : atI xs i = some v) (h : Q v H) : rIx K (.ref p) (.int i) H Q := .inr (.inl ⟨p, xs, i, v, rfl, rfl, hs, e, h⟩)
theorem ixS {i : Int} {w : Str} {c : Nat} (hl : w.length ≤ sizeLine) (e : atI w.cps.toList i = some c) (h : Q (.str ⟨#[c]⟩) H) : rIx K (.str w) (.int i) H Q := .inr (.inr ⟨w, i, c, rfl, rfl, hl, e, h⟩)
/-- == and != of scalars or data -/
def rEqU (K : PySem.W.Frag) : R2 := fun x y H Q => rEq x y H Q ∨ rEqD K x y H Q
def rNeU (K : PySem.W.Frag) : R2 := fun x y H Q => rNe x y H Q ∨ rNeD K x y H Q
theorem op_eqU (hu : X.A.units + 64 < cLine) : OpR X (compareOp .Eq) (rEqU X.K) := op_eq.or (op_eqD hu)
theorem op_neU (hu : X.A.units + 64 < cLine) : OpR X (compareOp .NotEq) (rNeU X.K) := op_ne.or (op_neD hu)
theorem equ (s : scal x y = true) (h : Q (.bl (decide (x = y))) H) : rEqU K x y H Q := .inl ⟨s, h⟩
theorem neu (s : scal x y = true) (h : Q (.bl (!decide (x = y))) H) : rNeU K x y H Q := .inl ⟨s, h⟩
theorem equD {d e : PyData} (hx : Dp K H x d) (hy : Dp K H y e) (sd : SeqAt.shaped d = true) (se : SeqAt.shaped e = true) (h : Q (.bl (PyData.eqv d e)) H) : rEqU K x y H Q := .inr ⟨d, e, hx, hy, sd, se, h⟩
theorem neuD {d e : PyData} (hx : Dp K H x d) (hy : Dp K H y e) (sd : SeqAt.shaped d = true) (se : SeqAt.shaped e = true) (h : Q (.bl (!PyData.eqv d e)) H) : rNeU K x y H Q := .inr ⟨d, e, hx, hy, sd, se, h⟩
/-- + -/
def rAddS : R2 := fun x y H Q => ∃ i j, x = .str i ∧ y = .str j ∧ i.length + j.length ≤ sizeLine ∧ Q (.str (i ++ j)) H
def rAddU (K : PySem.W.Frag) : R2 := fun x y H Q => (rI0 (fun i j => .int (i + j)) x y H Q) ∨ rAddS x y H Q ∨ rCat x y H Q ∨ rCatA K x y H Q
theorem op_addU : OpR X (binaryOp .Add) (rAddU X.K) := op_add.or ((show OpR X (binaryOp .Add) rAddS from op_add_str).or (op_cat.or op_catA))
theorem addI (h : Q (.int (a + b)) H) : rAddU K (.int a) (.int b) H Q := .inl ⟨a, b, rfl, rfl, h⟩
theorem addS {s t : Str} (hl : s.length + t.length ≤ sizeLine) (h : Q (.str (s ++ t)) H) : rAddU K (.str s) (.str t) H Q := .inr (.inl ⟨s, t, rfl, rfl, hl, h⟩)
end

/-! ### new objects -/
section
variable {H0 : Hp} {ex : List Addr} {H : Hp} {L : List (Addr × HO)} {K : PySem.W.Frag} {σ : L2.St} {Q : VK} {xs ys : List V} {p q : Addr}
def TupK (Q : VK) (xs : List V) (H1 : Hp) : Prop := xs.length ≤ sizeLine ∧ ∀ p, H1 p = none → Q (.ref p) (upd H1 p (.tup xs))
def LstK (Q : VK) (xs : List V) (H1 : Hp) : Prop := xs.length ≤ sizeLine ∧ ∀ p, H1 p = none → Q (.ref p) (upd H1 p (.lst xs))
theorem tup_ {t : TA} (h : t σ H fun xs H1 => TupK Q xs H1) : tTup t σ H Q := h
theorem lst_ {t : TA} (h : t σ H fun xs H1 => LstK Q xs H1) : tLst t σ H Q := h
theorem tupk (hH : Has H0 ex H L) (hl : xs.length ≤ 1000) (h : ∀ p H', H p = none → Has H0 ex H' ((p, .tup xs) :: L) → Q (.ref p) H') : TupK Q xs H :=
  ⟨Nat.le_of_lt (small1000 hl), fun p n => h p _ n (hH.new n)⟩
theorem lstk (hH : Has H0 ex H L) (hl : xs.length ≤ 1000) (h : ∀ p H', H p = none → Has H0 ex H' ((p, .lst xs) :: L) → Q (.ref p) H') : LstK Q xs H :=
  ⟨Nat.le_of_lt (small1000 hl), fun p n => h p _ n (hH.new n)⟩
theorem addL (hH : Has H0 ex H L) (h1 : (p, HO.lst xs) ∈ L) (h2 : (q, HO.lst ys) ∈ L) (hl : xs.length + ys.length ≤ 1000) (h : ∀ l H', H l = none → Has H0 ex H' ((l, .lst (xs ++ ys)) :: L) → Q (.ref l) H') : rAddU K (.ref p) (.ref q) H Q :=
  .inr (.inr (.inl ⟨p, q, xs, ys, rfl, rfl, hH.at h1, hH.at h2, Nat.le_of_lt (small1000 hl), fun l n => h l _ n (hH.new n)⟩))
end
/-- xs[i] += e: reading the item -/
theorem get_list {X : Cx} : PGet X (rIxL X.K) := by
  intro pins s σ H x y v u Q I rx ry h
  obtain ⟨p, xs, i, z, rfl, rfl, hq, he, q⟩ := h
  cases rx
  obtain ⟨t, rfl⟩ := ry
  obtain ⟨its, r, pl, hz⟩ := I.list hq
  obtain ⟨j, h1, h2, h3, h4, h5⟩ := atI_get he
  obtain ⟨w, ew, rw'⟩ := r.get h2
  have hl := r.length
  have hn := line63
  have fin : EP X pins σ Q w s := ⟨z, H, I, rw', q⟩
  by_cases h0 : 0 ≤ i
  · have hj : i.toNat = j := by
      rw [seqIndex_of h0 h5] at h1
      exact Option.some.inj h1
    refine thn (PySem.wpAny_getItem_list (Q := fun r s' => r = w ∧ EP X pins σ Q r s') pl.isList h0 (by omega) (by rw [hj]; simpa using ew) ⟨rfl, fin⟩) fun r s' h => h.2
  · have hj : (i + (its.toArray.size : Int)).toNat = j := by
      rw [seqIndex_neg (by omega) h4] at h1
      rw [List.size_toArray, ← hl]
      exact Option.some.inj h1
    refine thn (PySem.wpAny_getItem_list_neg (Q := fun r s' => r = w ∧ EP X pins σ Q r s') pl.isList (by omega) (by rw [List.size_toArray] <;> omega) (by omega) (by rw [hj]; simpa using ew) ⟨rfl, fin⟩) fun r s' h => h.2

/-! ### a def that may be called by its name -/
structure Cal (P : Program) (w : World) (K : PySem.W.Frag) (mg : Str → Option Value) (base : Heap) (CX : CXT) (k : Nat) (x : Str) (ps : List Str) (sp : Sp) : Prop where
  ex : ∃ (f : Addr) (fd : FuncData), FnOk P w K mg base CX k f fd ps sp ∧ mg x = some (.ref f) ∧ PySem.W.keepIn K (.ref f) = true ∧ Binds K fd ps []
theorem pe_cal {X : Cx} {CX : CXT} {j k : Nat} {x : Str} {ps : List Str} {sp : Sp} {E : XK} {p pos : Pos} {e : Expr} {es : List Expr} {t : TA} (c : Cal X.prog X.w X.K X.mg X.base CX j x ps sp) (hr : Room k X.A) (hjk : j ≤ k) (hg : Gl X x) (hx : Passes CX X E) (ha : PA X (e :: es) t)
    (hdb : (x == ("__debug__" : Str)) = false := by decide) (he : starEach (e :: es) X.env = (false, eval e X.env) :: starEach es X.env := by rfl) (hpl : (backTo pos (starEach es X.env)).any (·.1) = false := by rfl) :
    PE X (.Call (.Name x p) (e :: es) [] pos) (tCall sp [] E t) := by
  obtain ⟨f, fd, F, hm, hk, hb⟩ := c.ex
  exact pe_call F (hr.mono hjk) hg hm hk hb .nil hx ha hdb he hpl
/-! slots by number -/
theorem setk0 {a0 : Option V} {r : L2.St} {nx : L2.St → Hp → Prop} {x : V} {H : Hp} (h : nx (some x :: r) H) : SetK (a0 :: r) 0 nx x H := h
theorem var0 {r : L2.St} {v : V} {Q : VK} {H : Hp} (h : Q v H) : tVar 0 (some v :: r) H Q := ⟨v, rfl, h⟩
theorem aug0 {r : L2.St} {x : V} {te : TE} {ti : TIp} {nx bk ct : L2.St → Hp → Prop} {rt : VK} {H : Hp} (h : te (some x :: r) H fun y H1 => ti x y H1 fun z H2 => SetK (some x :: r) 0 nx z H2) : tAug 0 te ti ⟨nx, rt, bk, ct⟩ (some x :: r) H := ⟨x, rfl, h⟩
theorem setk1 {a0 a1 : Option V} {r : L2.St} {nx : L2.St → Hp → Prop} {x : V} {H : Hp} (h : nx (a0 :: some x :: r) H) : SetK (a0 :: a1 :: r) 1 nx x H := h
theorem var1 {a0 : Option V} {r : L2.St} {v : V} {Q : VK} {H : Hp} (h : Q v H) : tVar 1 (a0 :: some v :: r) H Q := ⟨v, rfl, h⟩
theorem aug1 {a0 : Option V} {r : L2.St} {x : V} {te : TE} {ti : TIp} {nx bk ct : L2.St → Hp → Prop} {rt : VK} {H : Hp} (h : te (a0 :: some x :: r) H fun y H1 => ti x y H1 fun z H2 => SetK (a0 :: some x :: r) 1 nx z H2) : tAug 1 te ti ⟨nx, rt, bk, ct⟩ (a0 :: some x :: r) H := ⟨x, rfl, h⟩
theorem setk2 {a0 a1 a2 : Option V} {r : L2.St} {nx : L2.St → Hp → Prop} {x : V} {H : Hp} (h : nx (a0 :: a1 :: some x :: r) H) : SetK (a0 :: a1 :: a2 :: r) 2 nx x H := h
theorem var2 {a0 a1 : Option V} {r : L2.St} {v : V} {Q : VK} {H : Hp} (h : Q v H) : tVar 2 (a0 :: a1 :: some v :: r) H Q := ⟨v, rfl, h⟩
theorem aug2 {a0 a1 : Option V} {r : L2.St} {x : V} {te : TE} {ti : TIp} {nx bk ct : L2.St → Hp → Prop} {rt : VK} {H : Hp} (h : te (a0 :: a1 :: some x :: r) H fun y H1 => ti x y H1 fun z H2 => SetK (a0 :: a1 :: some x :: r) 2 nx z H2) : tAug 2 te ti ⟨nx, rt, bk, ct⟩ (a0 :: a1 :: some x :: r) H := ⟨x, rfl, h⟩
theorem setk3 {a0 a1 a2 a3 : Option V} {r : L2.St} {nx : L2.St → Hp → Prop} {x : V} {H : Hp} (h : nx (a0 :: a1 :: a2 :: some x :: r) H) : SetK (a0 :: a1 :: a2 :: a3 :: r) 3 nx x H := h
theorem var3 {a0 a1 a2 : Option V} {r : L2.St} {v : V} {Q : VK} {H : Hp} (h : Q v H) : tVar 3 (a0 :: a1 :: a2 :: some v :: r) H Q := ⟨v, rfl, h⟩
theorem aug3 {a0 a1 a2 : Option V} {r : L2.St} {x : V} {te : TE} {ti : TIp} {nx bk ct : L2.St → Hp → Prop} {rt : VK} {H : Hp} (h : te (a0 :: a1 :: a2 :: some x :: r) H fun y H1 => ti x y H1 fun z H2 => SetK (a0 :: a1 :: a2 :: some x :: r) 3 nx z H2) : tAug 3 te ti ⟨nx, rt, bk, ct⟩ (a0 :: a1 :: a2 :: some x :: r) H := ⟨x, rfl, h⟩
theorem setk4 {a0 a1 a2 a3 a4 : Option V} {r : L2.St} {nx : L2.St → Hp → Prop} {x : V} {H : Hp} (h : nx (a0 :: a1 :: a2 :: a3 :: some x :: r) H) : SetK (a0 :: a1 :: a2 :: a3 :: a4 :: r) 4 nx x H := h
theorem var4 {a0 a1 a2 a3 : Option V} {r : L2.St} {v : V} {Q : VK} {H : Hp} (h : Q v H) : tVar 4 (a0 :: a1 :: a2 :: a3 :: some v :: r) H Q := ⟨v, rfl, h⟩
theorem aug4 {a0 a1 a2 a3 : Option V} {r : L2.St} {x : V} {te : TE} {ti : TIp} {nx bk ct : L2.St → Hp → Prop} {rt : VK} {H : Hp} (h : te (a0 :: a1 :: a2 :: a3 :: some x :: r) H fun y H1 => ti x y H1 fun z H2 => SetK (a0 :: a1 :: a2 :: a3 :: some x :: r) 4 nx z H2) : tAug 4 te ti ⟨nx, rt, bk, ct⟩ (a0 :: a1 :: a2 :: a3 :: some x :: r) H := ⟨x, rfl, h⟩
theorem setk5 {a0 a1 a2 a3 a4 a5 : Option V} {r : L2.St} {nx : L2.St → Hp → Prop} {x : V} {H : Hp} (h : nx (a0 :: a1 :: a2 :: a3 :: a4 :: some x :: r) H) : SetK (a0 :: a1 :: a2 :: a3 :: a4 :: a5 :: r) 5 nx x H := h
theorem var5 {a0 a1 a2 a3 a4 : Option V} {r : L2.St} {v : V} {Q : VK} {H : Hp} (h : Q v H) : tVar 5 (a0 :: a1 :: a2 :: a3 :: a4 :: some v :: r) H Q := ⟨v, rfl, h⟩
theorem aug5 {a0 a1 a2 a3 a4 : Option V} {r : L2.St} {x : V} {te : TE} {ti : TIp} {nx bk ct : L2.St → Hp → Prop} {rt : VK} {H : Hp} (h : te (a0 :: a1 :: a2 :: a3 :: a4 :: some x :: r) H fun y H1 => ti x y H1 fun z H2 => SetK (a0 :: a1 :: a2 :: a3 :: a4 :: some x :: r) 5 nx z H2) : tAug 5 te ti ⟨nx, rt, bk, ct⟩ (a0 :: a1 :: a2 :: a3 :: a4 :: some x :: r) H := ⟨x, rfl, h⟩
theorem setk6 {a0 a1 a2 a3 a4 a5 a6 : Option V} {r : L2.St} {nx : L2.St → Hp → Prop} {x : V} {H : Hp} (h : nx (a0 :: a1 :: a2 :: a3 :: a4 :: a5 :: some x :: r) H) : SetK (a0 :: a1 :: a2 :: a3 :: a4 :: a5 :: a6 :: r) 6 nx x H := h
theorem var6 {a0 a1 a2 a3 a4 a5 : Option V} {r : L2.St} {v : V} {Q : VK} {H : Hp} (h : Q v H) : tVar 6 (a0 :: a1 :: a2 :: a3 :: a4 :: a5 :: some v :: r) H Q := ⟨v, rfl, h⟩
theorem aug6 {a0 a1 a2 a3 a4 a5 : Option V} {r : L2.St} {x : V} {te : TE} {ti : TIp} {nx bk ct : L2.St → Hp → Prop} {rt : VK} {H : Hp} (h : te (a0 :: a1 :: a2 :: a3 :: a4 :: a5 :: some x :: r) H fun y H1 => ti x y H1 fun z H2 => SetK (a0 :: a1 :: a2 :: a3 :: a4 :: a5 :: some x :: r) 6 nx z H2) : tAug 6 te ti ⟨nx, rt, bk, ct⟩ (a0 :: a1 :: a2 :: a3 :: a4 :: a5 :: some x :: r) H := ⟨x, rfl, h⟩
theorem setk7 {a0 a1 a2 a3 a4 a5 a6 a7 : Option V} {r : L2.St} {nx : L2.St → Hp → Prop} {x : V} {H : Hp} (h : nx (a0 :: a1 :: a2 :: a3 :: a4 :: a5 :: a6 :: some x :: r) H) : SetK (a0 :: a1 :: a2 :: a3 :: a4 :: a5 :: a6 :: a7 :: r) 7 nx x H := h
theorem var7 {a0 a1 a2 a3 a4 a5 a6 : Option V} {r : L2.St} {v : V} {Q : VK} {H : Hp} (h : Q v H) : tVar 7 (a0 :: a1 :: a2 :: a3 :: a4 :: a5 :: a6 :: some v :: r) H Q := ⟨v, rfl, h⟩
theorem aug7 {a0 a1 a2 a3 a4 a5 a6 : Option V} {r : L2.St} {x : V} {te : TE} {ti : TIp} {nx bk ct : L2.St → Hp → Prop} {rt : VK} {H : Hp} (h : te (a0 :: a1 :: a2 :: a3 :: a4 :: a5 :: a6 :: some x :: r) H fun y H1 => ti x y H1 fun z H2 => SetK (a0 :: a1 :: a2 :: a3 :: a4 :: a5 :: a6 :: some x :: r) 7 nx z H2) : tAug 7 te ti ⟨nx, rt, bk, ct⟩ (a0 :: a1 :: a2 :: a3 :: a4 :: a5 :: a6 :: some x :: r) H := ⟨x, rfl, h⟩
theorem setk8 {a0 a1 a2 a3 a4 a5 a6 a7 a8 : Option V} {r : L2.St} {nx : L2.St → Hp → Prop} {x : V} {H : Hp} (h : nx (a0 :: a1 :: a2 :: a3 :: a4 :: a5 :: a6 :: a7 :: some x :: r) H) : SetK (a0 :: a1 :: a2 :: a3 :: a4 :: a5 :: a6 :: a7 :: a8 :: r) 8 nx x H := h
theorem var8 {a0 a1 a2 a3 a4 a5 a6 a7 : Option V} {r : L2.St} {v : V} {Q : VK} {H : Hp} (h : Q v H) : tVar 8 (a0 :: a1 :: a2 :: a3 :: a4 :: a5 :: a6 :: a7 :: some v :: r) H Q := ⟨v, rfl, h⟩
theorem aug8 {a0 a1 a2 a3 a4 a5 a6 a7 : Option V} {r : L2.St} {x : V} {te : TE} {ti : TIp} {nx bk ct : L2.St → Hp → Prop} {rt : VK} {H : Hp} (h : te (a0 :: a1 :: a2 :: a3 :: a4 :: a5 :: a6 :: a7 :: some x :: r) H fun y H1 => ti x y H1 fun z H2 => SetK (a0 :: a1 :: a2 :: a3 :: a4 :: a5 :: a6 :: a7 :: some x :: r) 8 nx z H2) : tAug 8 te ti ⟨nx, rt, bk, ct⟩ (a0 :: a1 :: a2 :: a3 :: a4 :: a5 :: a6 :: a7 :: some x :: r) H := ⟨x, rfl, h⟩
theorem setk9 {a0 a1 a2 a3 a4 a5 a6 a7 a8 a9 : Option V} {r : L2.St} {nx : L2.St → Hp → Prop} {x : V} {H : Hp} (h : nx (a0 :: a1 :: a2 :: a3 :: a4 :: a5 :: a6 :: a7 :: a8 :: some x :: r) H) : SetK (a0 :: a1 :: a2 :: a3 :: a4 :: a5 :: a6 :: a7 :: a8 :: a9 :: r) 9 nx x H := h
theorem var9 {a0 a1 a2 a3 a4 a5 a6 a7 a8 : Option V} {r : L2.St} {v : V} {Q : VK} {H : Hp} (h : Q v H) : tVar 9 (a0 :: a1 :: a2 :: a3 :: a4 :: a5 :: a6 :: a7 :: a8 :: some v :: r) H Q := ⟨v, rfl, h⟩
theorem aug9 {a0 a1 a2 a3 a4 a5 a6 a7 a8 : Option V} {r : L2.St} {x : V} {te : TE} {ti : TIp} {nx bk ct : L2.St → Hp → Prop} {rt : VK} {H : Hp} (h : te (a0 :: a1 :: a2 :: a3 :: a4 :: a5 :: a6 :: a7 :: a8 :: some x :: r) H fun y H1 => ti x y H1 fun z H2 => SetK (a0 :: a1 :: a2 :: a3 :: a4 :: a5 :: a6 :: a7 :: a8 :: some x :: r) 9 nx z H2) : tAug 9 te ti ⟨nx, rt, bk, ct⟩ (a0 :: a1 :: a2 :: a3 :: a4 :: a5 :: a6 :: a7 :: a8 :: some x :: r) H := ⟨x, rfl, h⟩
theorem setk10 {a0 a1 a2 a3 a4 a5 a6 a7 a8 a9 a10 : Option V} {r : L2.St} {nx : L2.St → Hp → Prop} {x : V} {H : Hp} (h : nx (a0 :: a1 :: a2 :: a3 :: a4 :: a5 :: a6 :: a7 :: a8 :: a9 :: some x :: r) H) : SetK (a0 :: a1 :: a2 :: a3 :: a4 :: a5 :: a6 :: a7 :: a8 :: a9 :: a10 :: r) 10 nx x H := h
theorem var10 {a0 a1 a2 a3 a4 a5 a6 a7 a8 a9 : Option V} {r : L2.St} {v : V} {Q : VK} {H : Hp} (h : Q v H) : tVar 10 (a0 :: a1 :: a2 :: a3 :: a4 :: a5 :: a6 :: a7 :: a8 :: a9 :: some v :: r) H Q := ⟨v, rfl, h⟩
theorem aug10 {a0 a1 a2 a3 a4 a5 a6 a7 a8 a9 : Option V} {r : L2.St} {x : V} {te : TE} {ti : TIp} {nx bk ct : L2.St → Hp → Prop} {rt : VK} {H : Hp} (h : te (a0 :: a1 :: a2 :: a3 :: a4 :: a5 :: a6 :: a7 :: a8 :: a9 :: some x :: r) H fun y H1 => ti x y H1 fun z H2 => SetK (a0 :: a1 :: a2 :: a3 :: a4 :: a5 :: a6 :: a7 :: a8 :: a9 :: some x :: r) 10 nx z H2) : tAug 10 te ti ⟨nx, rt, bk, ct⟩ (a0 :: a1 :: a2 :: a3 :: a4 :: a5 :: a6 :: a7 :: a8 :: a9 :: some x :: r) H := ⟨x, rfl, h⟩
theorem setk11 {a0 a1 a2 a3 a4 a5 a6 a7 a8 a9 a10 a11 : Option V} {r : L2.St} {nx : L2.St → Hp → Prop} {x : V} {H : Hp} (h : nx (a0 :: a1 :: a2 :: a3 :: a4 :: a5 :: a6 :: a7 :: a8 :: a9 :: a10 :: some x :: r) H) : SetK (a0 :: a1 :: a2 :: a3 :: a4 :: a5 :: a6 :: a7 :: a8 :: a9 :: a10 :: a11 :: r) 11 nx x H := h
theorem var11 {a0 a1 a2 a3 a4 a5 a6 a7 a8 a9 a10 : Option V} {r : L2.St} {v : V} {Q : VK} {H : Hp} (h : Q v H) : tVar 11 (a0 :: a1 :: a2 :: a3 :: a4 :: a5 :: a6 :: a7 :: a8 :: a9 :: a10 :: some v :: r) H Q := ⟨v, rfl, h⟩
theorem aug11 {a0 a1 a2 a3 a4 a5 a6 a7 a8 a9 a10 : Option V} {r : L2.St} {x : V} {te : TE} {ti : TIp} {nx bk ct : L2.St → Hp → Prop} {rt : VK} {H : Hp} (h : te (a0 :: a1 :: a2 :: a3 :: a4 :: a5 :: a6 :: a7 :: a8 :: a9 :: a10 :: some x :: r) H fun y H1 => ti x y H1 fun z H2 => SetK (a0 :: a1 :: a2 :: a3 :: a4 :: a5 :: a6 :: a7 :: a8 :: a9 :: a10 :: some x :: r) 11 nx z H2) : tAug 11 te ti ⟨nx, rt, bk, ct⟩ (a0 :: a1 :: a2 :: a3 :: a4 :: a5 :: a6 :: a7 :: a8 :: a9 :: a10 :: some x :: r) H := ⟨x, rfl, h⟩
theorem setk12 {a0 a1 a2 a3 a4 a5 a6 a7 a8 a9 a10 a11 a12 : Option V} {r : L2.St} {nx : L2.St → Hp → Prop} {x : V} {H : Hp} (h : nx (a0 :: a1 :: a2 :: a3 :: a4 :: a5 :: a6 :: a7 :: a8 :: a9 :: a10 :: a11 :: some x :: r) H) : SetK (a0 :: a1 :: a2 :: a3 :: a4 :: a5 :: a6 :: a7 :: a8 :: a9 :: a10 :: a11 :: a12 :: r) 12 nx x H := h
theorem var12 {a0 a1 a2 a3 a4 a5 a6 a7 a8 a9 a10 a11 : Option V} {r : L2.St} {v : V} {Q : VK} {H : Hp} (h : Q v H) : tVar 12 (a0 :: a1 :: a2 :: a3 :: a4 :: a5 :: a6 :: a7 :: a8 :: a9 :: a10 :: a11 :: some v :: r) H Q := ⟨v, rfl, h⟩
theorem aug12 {a0 a1 a2 a3 a4 a5 a6 a7 a8 a9 a10 a11 : Option V} {r : L2.St} {x : V} {te : TE} {ti : TIp} {nx bk ct : L2.St → Hp → Prop} {rt : VK} {H : Hp} (h : te (a0 :: a1 :: a2 :: a3 :: a4 :: a5 :: a6 :: a7 :: a8 :: a9 :: a10 :: a11 :: some x :: r) H fun y H1 => ti x y H1 fun z H2 => SetK (a0 :: a1 :: a2 :: a3 :: a4 :: a5 :: a6 :: a7 :: a8 :: a9 :: a10 :: a11 :: some x :: r) 12 nx z H2) : tAug 12 te ti ⟨nx, rt, bk, ct⟩ (a0 :: a1 :: a2 :: a3 :: a4 :: a5 :: a6 :: a7 :: a8 :: a9 :: a10 :: a11 :: some x :: r) H := ⟨x, rfl, h⟩
theorem setk13 {a0 a1 a2 a3 a4 a5 a6 a7 a8 a9 a10 a11 a12 a13 : Option V} {r : L2.St} {nx : L2.St → Hp → Prop} {x : V} {H : Hp} (h : nx (a0 :: a1 :: a2 :: a3 :: a4 :: a5 :: a6 :: a7 :: a8 :: a9 :: a10 :: a11 :: a12 :: some x :: r) H) : SetK (a0 :: a1 :: a2 :: a3 :: a4 :: a5 :: a6 :: a7 :: a8 :: a9 :: a10 :: a11 :: a12 :: a13 :: r) 13 nx x H := h
theorem var13 {a0 a1 a2 a3 a4 a5 a6 a7 a8 a9 a10 a11 a12 : Option V} {r : L2.St} {v : V} {Q : VK} {H : Hp} (h : Q v H) : tVar 13 (a0 :: a1 :: a2 :: a3 :: a4 :: a5 :: a6 :: a7 :: a8 :: a9 :: a10 :: a11 :: a12 :: some v :: r) H Q := ⟨v, rfl, h⟩
theorem aug13 {a0 a1 a2 a3 a4 a5 a6 a7 a8 a9 a10 a11 a12 : Option V} {r : L2.St} {x : V} {te : TE} {ti : TIp} {nx bk ct : L2.St → Hp → Prop} {rt : VK} {H : Hp} (h : te (a0 :: a1 :: a2 :: a3 :: a4 :: a5 :: a6 :: a7 :: a8 :: a9 :: a10 :: a11 :: a12 :: some x :: r) H fun y H1 => ti x y H1 fun z H2 => SetK (a0 :: a1 :: a2 :: a3 :: a4 :: a5 :: a6 :: a7 :: a8 :: a9 :: a10 :: a11 :: a12 :: some x :: r) 13 nx z H2) : tAug 13 te ti ⟨nx, rt, bk, ct⟩ (a0 :: a1 :: a2 :: a3 :: a4 :: a5 :: a6 :: a7 :: a8 :: a9 :: a10 :: a11 :: a12 :: some x :: r) H := ⟨x, rfl, h⟩
theorem setk14 {a0 a1 a2 a3 a4 a5 a6 a7 a8 a9 a10 a11 a12 a13 a14 : Option V} {r : L2.St} {nx : L2.St → Hp → Prop} {x : V} {H : Hp} (h : nx (a0 :: a1 :: a2 :: a3 :: a4 :: a5 :: a6 :: a7 :: a8 :: a9 :: a10 :: a11 :: a12 :: a13 :: some x :: r) H) : SetK (a0 :: a1 :: a2 :: a3 :: a4 :: a5 :: a6 :: a7 :: a8 :: a9 :: a10 :: a11 :: a12 :: a13 :: a14 :: r) 14 nx x H := h
theorem var14 {a0 a1 a2 a3 a4 a5 a6 a7 a8 a9 a10 a11 a12 a13 : Option V} {r : L2.St} {v : V} {Q : VK} {H : Hp} (h : Q v H) : tVar 14 (a0 :: a1 :: a2 :: a3 :: a4 :: a5 :: a6 :: a7 :: a8 :: a9 :: a10 :: a11 :: a12 :: a13 :: some v :: r) H Q := ⟨v, rfl, h⟩
theorem aug14 {a0 a1 a2 a3 a4 a5 a6 a7 a8 a9 a10 a11 a12 a13 : Option V} {r : L2.St} {x : V} {te : TE} {ti : TIp} {nx bk ct : L2.St → Hp → Prop} {rt : VK} {H : Hp} (h : te (a0 :: a1 :: a2 :: a3 :: a4 :: a5 :: a6 :: a7 :: a8 :: a9 :: a10 :: a11 :: a12 :: a13 :: some x :: r) H fun y H1 => ti x y H1 fun z H2 => SetK (a0 :: a1 :: a2 :: a3 :: a4 :: a5 :: a6 :: a7 :: a8 :: a9 :: a10 :: a11 :: a12 :: a13 :: some x :: r) 14 nx z H2) : tAug 14 te ti ⟨nx, rt, bk, ct⟩ (a0 :: a1 :: a2 :: a3 :: a4 :: a5 :: a6 :: a7 :: a8 :: a9 :: a10 :: a11 :: a12 :: a13 :: some x :: r) H := ⟨x, rfl, h⟩
theorem setk15 {a0 a1 a2 a3 a4 a5 a6 a7 a8 a9 a10 a11 a12 a13 a14 a15 : Option V} {r : L2.St} {nx : L2.St → Hp → Prop} {x : V} {H : Hp} (h : nx (a0 :: a1 :: a2 :: a3 :: a4 :: a5 :: a6 :: a7 :: a8 :: a9 :: a10 :: a11 :: a12 :: a13 :: a14 :: some x :: r) H) : SetK (a0 :: a1 :: a2 :: a3 :: a4 :: a5 :: a6 :: a7 :: a8 :: a9 :: a10 :: a11 :: a12 :: a13 :: a14 :: a15 :: r) 15 nx x H := h
theorem var15 {a0 a1 a2 a3 a4 a5 a6 a7 a8 a9 a10 a11 a12 a13 a14 : Option V} {r : L2.St} {v : V} {Q : VK} {H : Hp} (h : Q v H) : tVar 15 (a0 :: a1 :: a2 :: a3 :: a4 :: a5 :: a6 :: a7 :: a8 :: a9 :: a10 :: a11 :: a12 :: a13 :: a14 :: some v :: r) H Q := ⟨v, rfl, h⟩
theorem aug15 {a0 a1 a2 a3 a4 a5 a6 a7 a8 a9 a10 a11 a12 a13 a14 : Option V} {r : L2.St} {x : V} {te : TE} {ti : TIp} {nx bk ct : L2.St → Hp → Prop} {rt : VK} {H : Hp} (h : te (a0 :: a1 :: a2 :: a3 :: a4 :: a5 :: a6 :: a7 :: a8 :: a9 :: a10 :: a11 :: a12 :: a13 :: a14 :: some x :: r) H fun y H1 => ti x y H1 fun z H2 => SetK (a0 :: a1 :: a2 :: a3 :: a4 :: a5 :: a6 :: a7 :: a8 :: a9 :: a10 :: a11 :: a12 :: a13 :: a14 :: some x :: r) 15 nx z H2) : tAug 15 te ti ⟨nx, rt, bk, ct⟩ (a0 :: a1 :: a2 :: a3 :: a4 :: a5 :: a6 :: a7 :: a8 :: a9 :: a10 :: a11 :: a12 :: a13 :: a14 :: some x :: r) H := ⟨x, rfl, h⟩
theorem setk16 {a0 a1 a2 a3 a4 a5 a6 a7 a8 a9 a10 a11 a12 a13 a14 a15 a16 : Option V} {r : L2.St} {nx : L2.St → Hp → Prop} {x : V} {H : Hp} (h : nx (a0 :: a1 :: a2 :: a3 :: a4 :: a5 :: a6 :: a7 :: a8 :: a9 :: a10 :: a11 :: a12 :: a13 :: a14 :: a15 :: some x :: r) H) : SetK (a0 :: a1 :: a2 :: a3 :: a4 :: a5 :: a6 :: a7 :: a8 :: a9 :: a10 :: a11 :: a12 :: a13 :: a14 :: a15 :: a16 :: r) 16 nx x H := h
theorem var16 {a0 a1 a2 a3 a4 a5 a6 a7 a8 a9 a10 a11 a12 a13 a14 a15 : Option V} {r : L2.St} {v : V} {Q : VK} {H : Hp} (h : Q v H) : tVar 16 (a0 :: a1 :: a2 :: a3 :: a4 :: a5 :: a6 :: a7 :: a8 :: a9 :: a10 :: a11 :: a12 :: a13 :: a14 :: a15 :: some v :: r) H Q := ⟨v, rfl, h⟩
theorem aug16 {a0 a1 a2 a3 a4 a5 a6 a7 a8 a9 a10 a11 a12 a13 a14 a15 : Option V} {r : L2.St} {x : V} {te : TE} {ti : TIp} {nx bk ct : L2.St → Hp → Prop} {rt : VK} {H : Hp} (h : te (a0 :: a1 :: a2 :: a3 :: a4 :: a5 :: a6 :: a7 :: a8 :: a9 :: a10 :: a11 :: a12 :: a13 :: a14 :: a15 :: some x :: r) H fun y H1 => ti x y H1 fun z H2 => SetK (a0 :: a1 :: a2 :: a3 :: a4 :: a5 :: a6 :: a7 :: a8 :: a9 :: a10 :: a11 :: a12 :: a13 :: a14 :: a15 :: some x :: r) 16 nx z H2) : tAug 16 te ti ⟨nx, rt, bk, ct⟩ (a0 :: a1 :: a2 :: a3 :: a4 :: a5 :: a6 :: a7 :: a8 :: a9 :: a10 :: a11 :: a12 :: a13 :: a14 :: a15 :: some x :: r) H := ⟨x, rfl, h⟩
theorem setk17 {a0 a1 a2 a3 a4 a5 a6 a7 a8 a9 a10 a11 a12 a13 a14 a15 a16 a17 : Option V} {r : L2.St} {nx : L2.St → Hp → Prop} {x : V} {H : Hp} (h : nx (a0 :: a1 :: a2 :: a3 :: a4 :: a5 :: a6 :: a7 :: a8 :: a9 :: a10 :: a11 :: a12 :: a13 :: a14 :: a15 :: a16 :: some x :: r) H) : SetK (a0 :: a1 :: a2 :: a3 :: a4 :: a5 :: a6 :: a7 :: a8 :: a9 :: a10 :: a11 :: a12 :: a13 :: a14 :: a15 :: a16 :: a17 :: r) 17 nx x H := h
theorem var17 {a0 a1 a2 a3 a4 a5 a6 a7 a8 a9 a10 a11 a12 a13 a14 a15 a16 : Option V} {r : L2.St} {v : V} {Q : VK} {H : Hp} (h : Q v H) : tVar 17 (a0 :: a1 :: a2 :: a3 :: a4 :: a5 :: a6 :: a7 :: a8 :: a9 :: a10 :: a11 :: a12 :: a13 :: a14 :: a15 :: a16 :: some v :: r) H Q := ⟨v, rfl, h⟩
theorem aug17 {a0 a1 a2 a3 a4 a5 a6 a7 a8 a9 a10 a11 a12 a13 a14 a15 a16 : Option V} {r : L2.St} {x : V} {te : TE} {ti : TIp} {nx bk ct : L2.St → Hp → Prop} {rt : VK} {H : Hp} (h : te (a0 :: a1 :: a2 :: a3 :: a4 :: a5 :: a6 :: a7 :: a8 :: a9 :: a10 :: a11 :: a12 :: a13 :: a14 :: a15 :: a16 :: some x :: r) H fun y H1 => ti x y H1 fun z H2 => SetK (a0 :: a1 :: a2 :: a3 :: a4 :: a5 :: a6 :: a7 :: a8 :: a9 :: a10 :: a11 :: a12 :: a13 :: a14 :: a15 :: a16 :: some x :: r) 17 nx z H2) : tAug 17 te ti ⟨nx, rt, bk, ct⟩ (a0 :: a1 :: a2 :: a3 :: a4 :: a5 :: a6 :: a7 :: a8 :: a9 :: a10 :: a11 :: a12 :: a13 :: a14 :: a15 :: a16 :: some x :: r) H := ⟨x, rfl, h⟩
theorem setk18 {a0 a1 a2 a3 a4 a5 a6 a7 a8 a9 a10 a11 a12 a13 a14 a15 a16 a17 a18 : Option V} {r : L2.St} {nx : L2.St → Hp → Prop} {x : V} {H : Hp} (h : nx (a0 :: a1 :: a2 :: a3 :: a4 :: a5 :: a6 :: a7 :: a8 :: a9 :: a10 :: a11 :: a12 :: a13 :: a14 :: a15 :: a16 :: a17 :: some x :: r) H) : SetK (a0 :: a1 :: a2 :: a3 :: a4 :: a5 :: a6 :: a7 :: a8 :: a9 :: a10 :: a11 :: a12 :: a13 :: a14 :: a15 :: a16 :: a17 :: a18 :: r) 18 nx x H := h
theorem var18 {a0 a1 a2 a3 a4 a5 a6 a7 a8 a9 a10 a11 a12 a13 a14 a15 a16 a17 : Option V} {r : L2.St} {v : V} {Q : VK} {H : Hp} (h : Q v H) : tVar 18 (a0 :: a1 :: a2 :: a3 :: a4 :: a5 :: a6 :: a7 :: a8 :: a9 :: a10 :: a11 :: a12 :: a13 :: a14 :: a15 :: a16 :: a17 :: some v :: r) H Q := ⟨v, rfl, h⟩
theorem aug18 {a0 a1 a2 a3 a4 a5 a6 a7 a8 a9 a10 a11 a12 a13 a14 a15 a16 a17 : Option V} {r : L2.St} {x : V} {te : TE} {ti : TIp} {nx bk ct : L2.St → Hp → Prop} {rt : VK} {H : Hp} (h : te (a0 :: a1 :: a2 :: a3 :: a4 :: a5 :: a6 :: a7 :: a8 :: a9 :: a10 :: a11 :: a12 :: a13 :: a14 :: a15 :: a16 :: a17 :: some x :: r) H fun y H1 => ti x y H1 fun z H2 => SetK (a0 :: a1 :: a2 :: a3 :: a4 :: a5 :: a6 :: a7 :: a8 :: a9 :: a10 :: a11 :: a12 :: a13 :: a14 :: a15 :: a16 :: a17 :: some x :: r) 18 nx z H2) : tAug 18 te ti ⟨nx, rt, bk, ct⟩ (a0 :: a1 :: a2 :: a3 :: a4 :: a5 :: a6 :: a7 :: a8 :: a9 :: a10 :: a11 :: a12 :: a13 :: a14 :: a15 :: a16 :: a17 :: some x :: r) H := ⟨x, rfl, h⟩
theorem setk19 {a0 a1 a2 a3 a4 a5 a6 a7 a8 a9 a10 a11 a12 a13 a14 a15 a16 a17 a18 a19 : Option V} {r : L2.St} {nx : L2.St → Hp → Prop} {x : V} {H : Hp} (h : nx (a0 :: a1 :: a2 :: a3 :: a4 :: a5 :: a6 :: a7 :: a8 :: a9 :: a10 :: a11 :: a12 :: a13 :: a14 :: a15 :: a16 :: a17 :: a18 :: some x :: r) H) : SetK (a0 :: a1 :: a2 :: a3 :: a4 :: a5 :: a6 :: a7 :: a8 :: a9 :: a10 :: a11 :: a12 :: a13 :: a14 :: a15 :: a16 :: a17 :: a18 :: a19 :: r) 19 nx x H := h
theorem var19 {a0 a1 a2 a3 a4 a5 a6 a7 a8 a9 a10 a11 a12 a13 a14 a15 a16 a17 a18 : Option V} {r : L2.St} {v : V} {Q : VK} {H : Hp} (h : Q v H) : tVar 19 (a0 :: a1 :: a2 :: a3 :: a4 :: a5 :: a6 :: a7 :: a8 :: a9 :: a10 :: a11 :: a12 :: a13 :: a14 :: a15 :: a16 :: a17 :: a18 :: some v :: r) H Q := ⟨v, rfl, h⟩
theorem aug19 {a0 a1 a2 a3 a4 a5 a6 a7 a8 a9 a10 a11 a12 a13 a14 a15 a16 a17 a18 : Option V} {r : L2.St} {x : V} {te : TE} {ti : TIp} {nx bk ct : L2.St → Hp → Prop} {rt : VK} {H : Hp} (h : te (a0 :: a1 :: a2 :: a3 :: a4 :: a5 :: a6 :: a7 :: a8 :: a9 :: a10 :: a11 :: a12 :: a13 :: a14 :: a15 :: a16 :: a17 :: a18 :: some x :: r) H fun y H1 => ti x y H1 fun z H2 => SetK (a0 :: a1 :: a2 :: a3 :: a4 :: a5 :: a6 :: a7 :: a8 :: a9 :: a10 :: a11 :: a12 :: a13 :: a14 :: a15 :: a16 :: a17 :: a18 :: some x :: r) 19 nx z H2) : tAug 19 te ti ⟨nx, rt, bk, ct⟩ (a0 :: a1 :: a2 :: a3 :: a4 :: a5 :: a6 :: a7 :: a8 :: a9 :: a10 :: a11 :: a12 :: a13 :: a14 :: a15 :: a16 :: a17 :: a18 :: some x :: r) H := ⟨x, rfl, h⟩
theorem setk20 {a0 a1 a2 a3 a4 a5 a6 a7 a8 a9 a10 a11 a12 a13 a14 a15 a16 a17 a18 a19 a20 : Option V} {r : L2.St} {nx : L2.St → Hp → Prop} {x : V} {H : Hp} (h : nx (a0 :: a1 :: a2 :: a3 :: a4 :: a5 :: a6 :: a7 :: a8 :: a9 :: a10 :: a11 :: a12 :: a13 :: a14 :: a15 :: a16 :: a17 :: a18 :: a19 :: some x :: r) H) : SetK (a0 :: a1 :: a2 :: a3 :: a4 :: a5 :: a6 :: a7 :: a8 :: a9 :: a10 :: a11 :: a12 :: a13 :: a14 :: a15 :: a16 :: a17 :: a18 :: a19 :: a20 :: r) 20 nx x H := h
theorem var20 {a0 a1 a2 a3 a4 a5 a6 a7 a8 a9 a10 a11 a12 a13 a14 a15 a16 a17 a18 a19 : Option V} {r : L2.St} {v : V} {Q : VK} {H : Hp} (h : Q v H) : tVar 20 (a0 :: a1 :: a2 :: a3 :: a4 :: a5 :: a6 :: a7 :: a8 :: a9 :: a10 :: a11 :: a12 :: a13 :: a14 :: a15 :: a16 :: a17 :: a18 :: a19 :: some v :: r) H Q := ⟨v, rfl, h⟩
theorem aug20 {a0 a1 a2 a3 a4 a5 a6 a7 a8 a9 a10 a11 a12 a13 a14 a15 a16 a17 a18 a19 : Option V} {r : L2.St} {x : V} {te : TE} {ti : TIp} {nx bk ct : L2.St → Hp → Prop} {rt : VK} {H : Hp} (h : te (a0 :: a1 :: a2 :: a3 :: a4 :: a5 :: a6 :: a7 :: a8 :: a9 :: a10 :: a11 :: a12 :: a13 :: a14 :: a15 :: a16 :: a17 :: a18 :: a19 :: some x :: r) H fun y H1 => ti x y H1 fun z H2 => SetK (a0 :: a1 :: a2 :: a3 :: a4 :: a5 :: a6 :: a7 :: a8 :: a9 :: a10 :: a11 :: a12 :: a13 :: a14 :: a15 :: a16 :: a17 :: a18 :: a19 :: some x :: r) 20 nx z H2) : tAug 20 te ti ⟨nx, rt, bk, ct⟩ (a0 :: a1 :: a2 :: a3 :: a4 :: a5 :: a6 :: a7 :: a8 :: a9 :: a10 :: a11 :: a12 :: a13 :: a14 :: a15 :: a16 :: a17 :: a18 :: a19 :: some x :: r) H := ⟨x, rfl, h⟩
theorem setk21 {a0 a1 a2 a3 a4 a5 a6 a7 a8 a9 a10 a11 a12 a13 a14 a15 a16 a17 a18 a19 a20 a21 : Option V} {r : L2.St} {nx : L2.St → Hp → Prop} {x : V} {H : Hp} (h : nx (a0 :: a1 :: a2 :: a3 :: a4 :: a5 :: a6 :: a7 :: a8 :: a9 :: a10 :: a11 :: a12 :: a13 :: a14 :: a15 :: a16 :: a17 :: a18 :: a19 :: a20 :: some x :: r) H) : SetK (a0 :: a1 :: a2 :: a3 :: a4 :: a5 :: a6 :: a7 :: a8 :: a9 :: a10 :: a11 :: a12 :: a13 :: a14 :: a15 :: a16 :: a17 :: a18 :: a19 :: a20 :: a21 :: r) 21 nx x H := h
theorem var21 {a0 a1 a2 a3 a4 a5 a6 a7 a8 a9 a10 a11 a12 a13 a14 a15 a16 a17 a18 a19 a20 : Option V} {r : L2.St} {v : V} {Q : VK} {H : Hp} (h : Q v H) : tVar 21 (a0 :: a1 :: a2 :: a3 :: a4 :: a5 :: a6 :: a7 :: a8 :: a9 :: a10 :: a11 :: a12 :: a13 :: a14 :: a15 :: a16 :: a17 :: a18 :: a19 :: a20 :: some v :: r) H Q := ⟨v, rfl, h⟩
theorem aug21 {a0 a1 a2 a3 a4 a5 a6 a7 a8 a9 a10 a11 a12 a13 a14 a15 a16 a17 a18 a19 a20 : Option V} {r : L2.St} {x : V} {te : TE} {ti : TIp} {nx bk ct : L2.St → Hp → Prop} {rt : VK} {H : Hp} (h : te (a0 :: a1 :: a2 :: a3 :: a4 :: a5 :: a6 :: a7 :: a8 :: a9 :: a10 :: a11 :: a12 :: a13 :: a14 :: a15 :: a16 :: a17 :: a18 :: a19 :: a20 :: some x :: r) H fun y H1 => ti x y H1 fun z H2 => SetK (a0 :: a1 :: a2 :: a3 :: a4 :: a5 :: a6 :: a7 :: a8 :: a9 :: a10 :: a11 :: a12 :: a13 :: a14 :: a15 :: a16 :: a17 :: a18 :: a19 :: a20 :: some x :: r) 21 nx z H2) : tAug 21 te ti ⟨nx, rt, bk, ct⟩ (a0 :: a1 :: a2 :: a3 :: a4 :: a5 :: a6 :: a7 :: a8 :: a9 :: a10 :: a11 :: a12 :: a13 :: a14 :: a15 :: a16 :: a17 :: a18 :: a19 :: a20 :: some x :: r) H := ⟨x, rfl, h⟩
theorem setk22 {a0 a1 a2 a3 a4 a5 a6 a7 a8 a9 a10 a11 a12 a13 a14 a15 a16 a17 a18 a19 a20 a21 a22 : Option V} {r : L2.St} {nx : L2.St → Hp → Prop} {x : V} {H : Hp} (h : nx (a0 :: a1 :: a2 :: a3 :: a4 :: a5 :: a6 :: a7 :: a8 :: a9 :: a10 :: a11 :: a12 :: a13 :: a14 :: a15 :: a16 :: a17 :: a18 :: a19 :: a20 :: a21 :: some x :: r) H) : SetK (a0 :: a1 :: a2 :: a3 :: a4 :: a5 :: a6 :: a7 :: a8 :: a9 :: a10 :: a11 :: a12 :: a13 :: a14 :: a15 :: a16 :: a17 :: a18 :: a19 :: a20 :: a21 :: a22 :: r) 22 nx x H := h
theorem var22 {a0 a1 a2 a3 a4 a5 a6 a7 a8 a9 a10 a11 a12 a13 a14 a15 a16 a17 a18 a19 a20 a21 : Option V} {r : L2.St} {v : V} {Q : VK} {H : Hp} (h : Q v H) : tVar 22 (a0 :: a1 :: a2 :: a3 :: a4 :: a5 :: a6 :: a7 :: a8 :: a9 :: a10 :: a11 :: a12 :: a13 :: a14 :: a15 :: a16 :: a17 :: a18 :: a19 :: a20 :: a21 :: some v :: r) H Q := ⟨v, rfl, h⟩
theorem aug22 {a0 a1 a2 a3 a4 a5 a6 a7 a8 a9 a10 a11 a12 a13 a14 a15 a16 a17 a18 a19 a20 a21 : Option V} {r : L2.St} {x : V} {te : TE} {ti : TIp} {nx bk ct : L2.St → Hp → Prop} {rt : VK} {H : Hp} (h : te (a0 :: a1 :: a2 :: a3 :: a4 :: a5 :: a6 :: a7 :: a8 :: a9 :: a10 :: a11 :: a12 :: a13 :: a14 :: a15 :: a16 :: a17 :: a18 :: a19 :: a20 :: a21 :: some x :: r) H fun y H1 => ti x y H1 fun z H2 => SetK (a0 :: a1 :: a2 :: a3 :: a4 :: a5 :: a6 :: a7 :: a8 :: a9 :: a10 :: a11 :: a12 :: a13 :: a14 :: a15 :: a16 :: a17 :: a18 :: a19 :: a20 :: a21 :: some x :: r) 22 nx z H2) : tAug 22 te ti ⟨nx, rt, bk, ct⟩ (a0 :: a1 :: a2 :: a3 :: a4 :: a5 :: a6 :: a7 :: a8 :: a9 :: a10 :: a11 :: a12 :: a13 :: a14 :: a15 :: a16 :: a17 :: a18 :: a19 :: a20 :: a21 :: some x :: r) H := ⟨x, rfl, h⟩
theorem setk23 {a0 a1 a2 a3 a4 a5 a6 a7 a8 a9 a10 a11 a12 a13 a14 a15 a16 a17 a18 a19 a20 a21 a22 a23 : Option V} {r : L2.St} {nx : L2.St → Hp → Prop} {x : V} {H : Hp} (h : nx (a0 :: a1 :: a2 :: a3 :: a4 :: a5 :: a6 :: a7 :: a8 :: a9 :: a10 :: a11 :: a12 :: a13 :: a14 :: a15 :: a16 :: a17 :: a18 :: a19 :: a20 :: a21 :: a22 :: some x :: r) H) : SetK (a0 :: a1 :: a2 :: a3 :: a4 :: a5 :: a6 :: a7 :: a8 :: a9 :: a10 :: a11 :: a12 :: a13 :: a14 :: a15 :: a16 :: a17 :: a18 :: a19 :: a20 :: a21 :: a22 :: a23 :: r) 23 nx x H := h
theorem var23 {a0 a1 a2 a3 a4 a5 a6 a7 a8 a9 a10 a11 a12 a13 a14 a15 a16 a17 a18 a19 a20 a21 a22 : Option V} {r : L2.St} {v : V} {Q : VK} {H : Hp} (h : Q v H) : tVar 23 (a0 :: a1 :: a2 :: a3 :: a4 :: a5 :: a6 :: a7 :: a8 :: a9 :: a10 :: a11 :: a12 :: a13 :: a14 :: a15 :: a16 :: a17 :: a18 :: a19 :: a20 :: a21 :: a22 :: some v :: r) H Q := ⟨v, rfl, h⟩
theorem aug23 {a0 a1 a2 a3 a4 a5 a6 a7 a8 a9 a10 a11 a12 a13 a14 a15 a16 a17 a18 a19 a20 a21 a22 : Option V} {r : L2.St} {x : V} {te : TE} {ti : TIp} {nx bk ct : L2.St → Hp → Prop} {rt : VK} {H : Hp} (h : te (a0 :: a1 :: a2 :: a3 :: a4 :: a5 :: a6 :: a7 :: a8 :: a9 :: a10 :: a11 :: a12 :: a13 :: a14 :: a15 :: a16 :: a17 :: a18 :: a19 :: a20 :: a21 :: a22 :: some x :: r) H fun y H1 => ti x y H1 fun z H2 => SetK (a0 :: a1 :: a2 :: a3 :: a4 :: a5 :: a6 :: a7 :: a8 :: a9 :: a10 :: a11 :: a12 :: a13 :: a14 :: a15 :: a16 :: a17 :: a18 :: a19 :: a20 :: a21 :: a22 :: some x :: r) 23 nx z H2) : tAug 23 te ti ⟨nx, rt, bk, ct⟩ (a0 :: a1 :: a2 :: a3 :: a4 :: a5 :: a6 :: a7 :: a8 :: a9 :: a10 :: a11 :: a12 :: a13 :: a14 :: a15 :: a16 :: a17 :: a18 :: a19 :: a20 :: a21 :: a22 :: some x :: r) H := ⟨x, rfl, h⟩
theorem setk24 {a0 a1 a2 a3 a4 a5 a6 a7 a8 a9 a10 a11 a12 a13 a14 a15 a16 a17 a18 a19 a20 a21 a22 a23 a24 : Option V} {r : L2.St} {nx : L2.St → Hp → Prop} {x : V} {H : Hp} (h : nx (a0 :: a1 :: a2 :: a3 :: a4 :: a5 :: a6 :: a7 :: a8 :: a9 :: a10 :: a11 :: a12 :: a13 :: a14 :: a15 :: a16 :: a17 :: a18 :: a19 :: a20 :: a21 :: a22 :: a23 :: some x :: r) H) : SetK (a0 :: a1 :: a2 :: a3 :: a4 :: a5 :: a6 :: a7 :: a8 :: a9 :: a10 :: a11 :: a12 :: a13 :: a14 :: a15 :: a16 :: a17 :: a18 :: a19 :: a20 :: a21 :: a22 :: a23 :: a24 :: r) 24 nx x H := h
theorem var24 {a0 a1 a2 a3 a4 a5 a6 a7 a8 a9 a10 a11 a12 a13 a14 a15 a16 a17 a18 a19 a20 a21 a22 a23 : Option V} {r : L2.St} {v : V} {Q : VK} {H : Hp} (h : Q v H) : tVar 24 (a0 :: a1 :: a2 :: a3 :: a4 :: a5 :: a6 :: a7 :: a8 :: a9 :: a10 :: a11 :: a12 :: a13 :: a14 :: a15 :: a16 :: a17 :: a18 :: a19 :: a20 :: a21 :: a22 :: a23 :: some v :: r) H Q := ⟨v, rfl, h⟩
theorem aug24 {a0 a1 a2 a3 a4 a5 a6 a7 a8 a9 a10 a11 a12 a13 a14 a15 a16 a17 a18 a19 a20 a21 a22 a23 : Option V} {r : L2.St} {x : V} {te : TE} {ti : TIp} {nx bk ct : L2.St → Hp → Prop} {rt : VK} {H : Hp} (h : te (a0 :: a1 :: a2 :: a3 :: a4 :: a5 :: a6 :: a7 :: a8 :: a9 :: a10 :: a11 :: a12 :: a13 :: a14 :: a15 :: a16 :: a17 :: a18 :: a19 :: a20 :: a21 :: a22 :: a23 :: some x :: r) H fun y H1 => ti x y H1 fun z H2 => SetK (a0 :: a1 :: a2 :: a3 :: a4 :: a5 :: a6 :: a7 :: a8 :: a9 :: a10 :: a11 :: a12 :: a13 :: a14 :: a15 :: a16 :: a17 :: a18 :: a19 :: a20 :: a21 :: a22 :: a23 :: some x :: r) 24 nx z H2) : tAug 24 te ti ⟨nx, rt, bk, ct⟩ (a0 :: a1 :: a2 :: a3 :: a4 :: a5 :: a6 :: a7 :: a8 :: a9 :: a10 :: a11 :: a12 :: a13 :: a14 :: a15 :: a16 :: a17 :: a18 :: a19 :: a20 :: a21 :: a22 :: a23 :: some x :: r) H := ⟨x, rfl, h⟩
theorem setk25 {a0 a1 a2 a3 a4 a5 a6 a7 a8 a9 a10 a11 a12 a13 a14 a15 a16 a17 a18 a19 a20 a21 a22 a23 a24 a25 : Option V} {r : L2.St} {nx : L2.St → Hp → Prop} {x : V} {H : Hp} (h : nx (a0 :: a1 :: a2 :: a3 :: a4 :: a5 :: a6 :: a7 :: a8 :: a9 :: a10 :: a11 :: a12 :: a13 :: a14 :: a15 :: a16 :: a17 :: a18 :: a19 :: a20 :: a21 :: a22 :: a23 :: a24 :: some x :: r) H) : SetK (a0 :: a1 :: a2 :: a3 :: a4 :: a5 :: a6 :: a7 :: a8 :: a9 :: a10 :: a11 :: a12 :: a13 :: a14 :: a15 :: a16 :: a17 :: a18 :: a19 :: a20 :: a21 :: a22 :: a23 :: a24 :: a25 :: r) 25 nx x H := h
theorem var25 {a0 a1 a2 a3 a4 a5 a6 a7 a8 a9 a10 a11 a12 a13 a14 a15 a16 a17 a18 a19 a20 a21 a22 a23 a24 : Option V} {r : L2.St} {v : V} {Q : VK} {H : Hp} (h : Q v H) : tVar 25 (a0 :: a1 :: a2 :: a3 :: a4 :: a5 :: a6 :: a7 :: a8 :: a9 :: a10 :: a11 :: a12 :: a13 :: a14 :: a15 :: a16 :: a17 :: a18 :: a19 :: a20 :: a21 :: a22 :: a23 :: a24 :: some v :: r) H Q := ⟨v, rfl, h⟩
theorem aug25 {a0 a1 a2 a3 a4 a5 a6 a7 a8 a9 a10 a11 a12 a13 a14 a15 a16 a17 a18 a19 a20 a21 a22 a23 a24 : Option V} {r : L2.St} {x : V} {te : TE} {ti : TIp} {nx bk ct : L2.St → Hp → Prop} {rt : VK} {H : Hp} (h : te (a0 :: a1 :: a2 :: a3 :: a4 :: a5 :: a6 :: a7 :: a8 :: a9 :: a10 :: a11 :: a12 :: a13 :: a14 :: a15 :: a16 :: a17 :: a18 :: a19 :: a20 :: a21 :: a22 :: a23 :: a24 :: some x :: r) H fun y H1 => ti x y H1 fun z H2 => SetK (a0 :: a1 :: a2 :: a3 :: a4 :: a5 :: a6 :: a7 :: a8 :: a9 :: a10 :: a11 :: a12 :: a13 :: a14 :: a15 :: a16 :: a17 :: a18 :: a19 :: a20 :: a21 :: a22 :: a23 :: a24 :: some x :: r) 25 nx z H2) : tAug 25 te ti ⟨nx, rt, bk, ct⟩ (a0 :: a1 :: a2 :: a3 :: a4 :: a5 :: a6 :: a7 :: a8 :: a9 :: a10 :: a11 :: a12 :: a13 :: a14 :: a15 :: a16 :: a17 :: a18 :: a19 :: a20 :: a21 :: a22 :: a23 :: a24 :: some x :: r) H := ⟨x, rfl, h⟩
end Sw
set_option Elab.async false
set_option linter.all false
set_option maxRecDepth 100000
set_option maxHeartbeats 4000000
/-! Sw1: loops, comprehensions, built-ins. -/
namespace Sw
open PySem PySem.Spec PyProof.Rows L2
section
variable {H0 : Hp} {ex : List Addr} {H : Hp} {L : List (Addr × HO)} {K : PySem.W.Frag} {σ : L2.St} {Q : VK} {QT : Bool → Hp → Prop} {xs ys : List V} {p a : Addr} {g : TG} {tt : TT} {te tl : TE} {tb : TS} {vs : List Nat} {wi : TI} {R : It → Hp → Prop}
  {nx ct bk : L2.St → Hp → Prop} {rt : VK} {x y v : V}

/-! ### what is walked -/
def Rng1K (R : It → Hp → Prop) (vs : List V) (H : Hp) : Prop := ∃ j : Int, vs = [.int j] ∧ -(2 ^ 62) ≤ j ∧ j < 2 ^ 62 ∧ R (Itr 0 j.toNat) H
def Rng2K (R : It → Hp → Prop) (vs : List V) (H : Hp) : Prop := ∃ i j : Int, vs = [.int i, .int j] ∧ (-(2 ^ 62) ≤ i ∧ i < 2 ^ 62 ∧ -(2 ^ 62) ≤ j ∧ j < 2 ^ 62) ∧ R (Itr i (j - i).toNat) H
theorem rng1_ {ta : TA} (h : ta σ H fun vs H1 => Rng1K R vs H1) : iRng1 ta σ H R := h
theorem rng2_ {ta : TA} (h : ta σ H fun vs H1 => Rng2K R vs H1) : iRng2 ta σ H R := h
theorem rng1k {j : Int} (b : -(2 ^ 62) ≤ j ∧ j < 2 ^ 62) (h : R (Itr 0 j.toNat) H) : Rng1K R [.int j] H := ⟨j, rfl, b.1, b.2, h⟩
theorem rng2k {i j : Int} (b : -(2 ^ 62) ≤ i ∧ i < 2 ^ 62 ∧ -(2 ^ 62) ≤ j ∧ j < 2 ^ 62) (h : R (Itr i (j - i).toNat) H) : Rng2K R [.int i, .int j] H := ⟨i, j, rfl, b, h⟩
def IListK (K : PySem.W.Frag) (R : It → Hp → Prop) (x : V) (H1 : Hp) : Prop := ∃ a, x = .ref a ∧ (∃ xs, SqL K H1 a xs) ∧ R (Itl K a) H1
def ITupK (K : PySem.W.Frag) (R : It → Hp → Prop) (x : V) (H1 : Hp) : Prop := ∃ a, x = .ref a ∧ (∃ xs, SqT K H1 a xs) ∧ R (Itt K a) H1
theorem ilist_ (h : tl σ H fun x H1 => IListK K R x H1) : iList K tl σ H R := h
theorem itup_ (h : tl σ H fun x H1 => ITupK K R x H1) : iTup K tl σ H R := h
theorem ilistk (hs : SqL K H a xs) (h : R (Itl K a) H) : IListK K R (.ref a) H := ⟨a, rfl, ⟨xs, hs⟩, h⟩
theorem itupk (hs : SqT K H a xs) (h : R (Itt K a) H) : ITupK K R (.ref a) H := ⟨a, rfl, ⟨xs, hs⟩, h⟩

/-! ### for -/
def ForK (g : TG) (tb : TS) (nx : L2.St → Hp → Prop) (rt : VK) (σ : L2.St) (J : It) (H1 : Hp) : Prop := ∃ W : Nat → Nat → L2.St → Hp → Prop, (∃ m, W 0 m σ H1) ∧ ∀ i m σ H, W i m σ H →
  (J.stop i H ∧ nx σ H) ∨ (J.go i H ∧ ∃ N : L2.St → Hp → Prop, (∀ σ' H', N σ' H' → ∃ m', m' < m ∧ W (i + 1) m' σ' H') ∧ ∀ x H', J.yld i H x H' → g x σ H' fun σ2 H2 => tb ⟨N, rt, nx, N⟩ σ2 H2)
theorem for_ (h : wi σ H fun J H1 => ForK g tb nx rt σ J H1) : tFor wi g tb ⟨nx, rt, bk, ct⟩ σ H := h
theorem fork_rng {lo : Int} {n : Nat} (Pv : Nat → L2.St → Hp → Prop) (h0 : Pv 0 σ H) (hs : ∀ i σ H, i < n → Pv i σ H → g (.int (lo + i)) σ H fun σ2 H2 => tb ⟨Pv (i + 1), rt, nx, Pv (i + 1)⟩ σ2 H2) (hd : ∀ σ H, Pv n σ H → nx σ H) : ForK g tb nx rt σ (Itr lo n) H :=
  for_range (D := ⟨nx, rt, fun _ _ => False, fun _ _ => False⟩) Pv h0 hs hd
theorem fork_list (Pv : Nat → L2.St → Hp → Prop) (h0 : Pv 0 σ H) (hl : ∀ i σ H, i ≤ xs.length → Pv i σ H → SqL K H a xs) (hs : ∀ i x σ H, xs[i]? = some x → Pv i σ H → g x σ H fun σ2 H2 => tb ⟨Pv (i + 1), rt, nx, Pv (i + 1)⟩ σ2 H2)
    (hd : ∀ σ H, Pv xs.length σ H → nx σ H) : ForK g tb nx rt σ (Itl K a) H :=
  for_list (D := ⟨nx, rt, fun _ _ => False, fun _ _ => False⟩) Pv h0 hl hs hd
theorem fork_tup (Pv : Nat → L2.St → Hp → Prop) (h0 : Pv 0 σ H) (hl : ∀ i σ H, i ≤ xs.length → Pv i σ H → SqT K H a xs) (hs : ∀ i x σ H, xs[i]? = some x → Pv i σ H → g x σ H fun σ2 H2 => tb ⟨Pv (i + 1), rt, nx, Pv (i + 1)⟩ σ2 H2)
    (hd : ∀ σ H, Pv xs.length σ H → nx σ H) : ForK g tb nx rt σ (Itt K a) H :=
  for_tup (D := ⟨nx, rt, fun _ _ => False, fun _ _ => False⟩) Pv h0 hl hs hd
theorem gn_ {i : Nat} {Qs : L2.St → Hp → Prop} (h : SetK σ i Qs x H) : gName i x σ H Qs := h
theorem gt2_ {i j : Nat} {x y : V} {Qs : L2.St → Hp → Prop} (hs : SqT K H a [x, y]) (h : SetK σ i (fun σ1 H1 => SetK σ1 j Qs y H1) x H) : gTup K 2 (gCons (gName i) (gCons (gName j) gNil)) (.ref a) σ H Qs := ⟨a, [x, y], rfl, hs, rfl, x, [y], rfl, y, [], rfl, rfl, h⟩
theorem gt3_ {i j k : Nat} {x y z : V} {Qs : L2.St → Hp → Prop} (hs : SqT K H a [x, y, z]) (h : SetK σ i (fun σ1 H1 => SetK σ1 j (fun σ2 H2 => SetK σ2 k Qs z H2) y H1) x H) : gTup K 3 (gCons (gName i) (gCons (gName j) (gCons (gName k) gNil))) (.ref a) σ H Qs := ⟨a, [x, y, z], rfl, hs, rfl, x, [y, z], rfl, y, [z], rfl, z, [], rfl, rfl, h⟩
theorem gasg_ {g : TG} (h : g x σ H nx) : AsgK g σ nx x H := h
def ParK (i j : Nat) (σ : L2.St) (nx : L2.St → Hp → Prop) (vs : List V) (H1 : Hp) : Prop := ∃ v w, vs = [v, w] ∧ nx ((σ.set i (some v)).set j (some w)) H1
theorem par_ {i j : Nat} {ta : TA} (h : ta σ H fun vs H1 => ParK i j σ nx vs H1) : tPar i j ta ⟨nx, rt, bk, ct⟩ σ H := h
theorem park {i j : Nat} (h : SetK σ i (fun σ1 H1 => SetK σ1 j nx y H1) x H) : ParK i j σ nx [x, y] H := ⟨x, y, rfl, h⟩

/-! ### comprehensions -/
def CInv (H0 : Hp) (ex : List Addr) (P : Nat → Addr → List V → List (Addr × HO) → Prop) (D : Addr) (i : Nat) (H : Hp) : Prop :=
  ∃ acc L, acc.length ≤ i ∧ (D, HO.lst acc) ∈ L ∧ P i D acc L ∧ Has H0 ex H L
def LcN (D : Addr) (Nx : Hp → Prop) (y : V) (H4 : Hp) : Prop := ∃ acc, H4 D = some (.lst acc) ∧ acc.length < sizeLine ∧ Nx (upd H4 D (.lst (acc ++ [y])))
def LcT (vs : List Nat) (σ : L2.St) (tt : TT) (te : TE) (Nx : Hp → Prop) (D : Addr) (σ2 : L2.St) (H2 : Hp) : Prop :=
  wipe σ2 vs = wipe σ vs ∧ tt σ2 H2 fun b H3 => if b = true then te σ2 H3 (fun y H4 => LcN D Nx y H4) else Nx H3
def LcK (g : TG) (tt : TT) (te : TE) (vs : List Nat) (σ : L2.St) (Q : VK) (J : It) (H1 : Hp) : Prop := ∀ D, H1 D = none → ∃ W : Nat → Nat → Hp → Prop, (∃ m, W 0 m (upd H1 D (.lst []))) ∧ ∀ i m H, W i m H →
  (J.stop i H ∧ Q (.ref D) H) ∨ (J.go i H ∧ ∃ Nx : Hp → Prop, (∀ H', Nx H' → ∃ m', m' < m ∧ W (i + 1) m' H') ∧ ∀ x H', J.yld i H x H' → g x (wipe σ vs) H' fun σ2 H2 => LcT vs σ tt te Nx D σ2 H2)
theorem lc_ (h : wi σ H fun J H1 => LcK g tt te vs σ Q J H1) : tLc wi g tt te vs σ H Q := h
theorem yes_ (h : QT true H) : tYes σ H QT := h
theorem lct {σ2 : L2.St} {H2 : Hp} {D : Addr} {Nx : Hp → Prop} (e : wipe σ2 vs = wipe σ vs) (h : tt σ2 H2 fun b H3 => if b = true then te σ2 H3 (fun y H4 => LcN D Nx y H4) else Nx H3) : LcT vs σ tt te Nx D σ2 H2 := ⟨e, h⟩
theorem freshD {D : Addr} (h : Has H0 ex H L) (n : H D = none) : D ∈ ex ∨ H0 D = none := by
  by_cases m : D ∈ ex
  · exact .inl m
  · refine .inr ?_
    cases e : H0 D with
    | none => rfl
    | some o =>
      rw [h.keep D o e m] at n
      cases n
theorem lcn {D : Addr} {P : Nat → Addr → List V → List (Addr × HO) → Prop} {i : Nat} {acc : List V} {L4 L4' L5 : List (Addr × HO)} (hH : Has H0 ex H L4) (hD : D ∈ ex ∨ H0 D = none) (pt : Put L4 D (.lst acc) (.lst (acc ++ [y])) L4') (hl : acc.length ≤ i) (hi : i ≤ 100000)
    (sb : L5.Sublist L4') (hm : (D, HO.lst (acc ++ [y])) ∈ L5) (p : P (i + 1) D (acc ++ [y]) L5) : LcN D (CInv H0 ex P D (i + 1)) y H := by
  refine ⟨acc, hH.at pt.mem.1, Nat.lt_of_le_of_lt (Nat.le_trans hl hi) (by decide), acc ++ [y], L5, ?_, hm, p, (hH.put pt hD).sub sb⟩
  rw [List.length_append]
  exact Nat.add_le_add_right hl 1
theorem lck_rng {lo : Int} {n : Nat} (hH : Has H0 ex H L) (P : Nat → Addr → List V → List (Addr × HO) → Prop) (p0 : ∀ D, P 0 D [] ((D, .lst []) :: L))
    (turn : ∀ i D acc M H', i < n → (D ∈ ex ∨ H0 D = none) → acc.length ≤ i → (D, HO.lst acc) ∈ M → P i D acc M → Has H0 ex H' M → g (.int (lo + i)) (wipe σ vs) H' fun σ2 H2 => LcT vs σ tt te (CInv H0 ex P D (i + 1)) D σ2 H2)
    (done : ∀ D acc M H', acc.length ≤ n → (D, HO.lst acc) ∈ M → P n D acc M → Has H0 ex H' M → Q (.ref D) H') : LcK g tt te vs σ Q (Itr lo n) H := by
  intro D hD
  refine lc_range (D := D) (vs := vs) (σ := σ) (g := g) (tt := tt) (te := te) (CInv H0 ex P D) ⟨[], _, Nat.le_refl 0, List.mem_cons_self, p0 D, hH.new hD⟩ (fun i H hi hp => ?_) (fun H hp => ?_)
  · obtain ⟨acc, M, h1, h2, h3, h4⟩ := hp
    exact turn i D acc M H hi (freshD hH hD) h1 h2 h3 h4
  · obtain ⟨acc, M, h1, h2, h3, h4⟩ := hp
    exact done D acc M H h1 h2 h3 h4
theorem lck_list (hH : Has H0 ex H L) (P : Nat → Addr → List V → List (Addr × HO) → Prop) (p0 : ∀ D, P 0 D [] ((D, .lst []) :: L))
    (hl : ∀ i D acc M H', (D, HO.lst acc) ∈ M → P i D acc M → Has H0 ex H' M → SqL K H' a xs)
    (turn : ∀ i x D acc M H', xs[i]? = some x → (D ∈ ex ∨ H0 D = none) → acc.length ≤ i → (D, HO.lst acc) ∈ M → P i D acc M → Has H0 ex H' M → g x (wipe σ vs) H' fun σ2 H2 => LcT vs σ tt te (CInv H0 ex P D (i + 1)) D σ2 H2)
    (done : ∀ D acc M H', acc.length ≤ xs.length → (D, HO.lst acc) ∈ M → P xs.length D acc M → Has H0 ex H' M → Q (.ref D) H') : LcK g tt te vs σ Q (Itl K a) H := by
  intro D hD
  refine lc_list (xs := xs) (D := D) (vs := vs) (σ := σ) (g := g) (tt := tt) (te := te) (CInv H0 ex P D) ⟨[], _, Nat.le_refl 0, List.mem_cons_self, p0 D, hH.new hD⟩ (fun i H _ hp => ?_) (fun i x H hi hp => ?_) (fun H hp => ?_)
  · obtain ⟨acc, M, h1, h2, h3, h4⟩ := hp
    exact hl i D acc M H h2 h3 h4
  · obtain ⟨acc, M, h1, h2, h3, h4⟩ := hp
    exact turn i x D acc M H hi (freshD hH hD) h1 h2 h3 h4
  · obtain ⟨acc, M, h1, h2, h3, h4⟩ := hp
    exact done D acc M H h1 h2 h3 h4
theorem lck_tup (hH : Has H0 ex H L) (P : Nat → Addr → List V → List (Addr × HO) → Prop) (p0 : ∀ D, P 0 D [] ((D, .lst []) :: L))
    (hl : ∀ i D acc M H', (D, HO.lst acc) ∈ M → P i D acc M → Has H0 ex H' M → SqT K H' a xs)
    (turn : ∀ i x D acc M H', xs[i]? = some x → (D ∈ ex ∨ H0 D = none) → acc.length ≤ i → (D, HO.lst acc) ∈ M → P i D acc M → Has H0 ex H' M → g x (wipe σ vs) H' fun σ2 H2 => LcT vs σ tt te (CInv H0 ex P D (i + 1)) D σ2 H2)
    (done : ∀ D acc M H', acc.length ≤ xs.length → (D, HO.lst acc) ∈ M → P xs.length D acc M → Has H0 ex H' M → Q (.ref D) H') : LcK g tt te vs σ Q (Itt K a) H := by
  intro D hD
  refine lc_tup (xs := xs) (D := D) (vs := vs) (σ := σ) (g := g) (tt := tt) (te := te) (CInv H0 ex P D) ⟨[], _, Nat.le_refl 0, List.mem_cons_self, p0 D, hH.new hD⟩ (fun i H _ hp => ?_) (fun i x H hi hp => ?_) (fun H hp => ?_)
  · obtain ⟨acc, M, h1, h2, h3, h4⟩ := hp
    exact hl i D acc M H h2 h3 h4
  · obtain ⟨acc, M, h1, h2, h3, h4⟩ := hp
    exact turn i x D acc M H hi (freshD hH hD) h1 h2 h3 h4
  · obtain ⟨acc, M, h1, h2, h3, h4⟩ := hp
    exact done D acc M H h1 h2 h3 h4

/-! ### slices -/
def tPartK (Qo : Option Int → Hp → Prop) (x : V) (H : Hp) : Prop := ∃ i, x = .int i ∧ Qo (some i) H
def rSlU (K : PySem.W.Frag) : V → Option Int → Option Int → Hp → VK → Prop := fun x lo hi H Q => rSlL K x lo hi H Q ∨ rSlT K x lo hi H Q ∨ rSlS x lo hi H Q
theorem sl_seq {X : Cx} : SlR X (rSlU X.K) := sl_list.or (sl_tup.or sl_str)
theorem part_ {Qo : Option Int → Hp → Prop} (h : te σ H fun x H1 => tPartK Qo x H1) : tPart te σ H Qo := h
theorem partk {Qo : Option Int → Hp → Prop} {i : Int} (h : Qo (some i) H) : tPartK Qo (.int i) H := ⟨i, rfl, h⟩
theorem nopart_ {Qo : Option Int → Hp → Prop} (h : Qo none H) : tNoPart σ H Qo := h
theorem sl_ {r : V → Option Int → Option Int → Hp → VK → Prop} {tl th : TO} (h : te σ H fun x H1 => tl σ H1 fun l H2 => th σ H2 fun u H3 => r x l u H3 Q) : tSl r te tl th σ H Q := h
theorem slL {lo hi : Option Int} (hH : Has H0 ex H L) (hs : SqL K H a xs) (h : ∀ p H', H p = none → Has H0 ex H' ((p, .lst (cutV xs lo hi)) :: L) → Q (.ref p) H') : rSlU K (.ref a) lo hi H Q := .inl ⟨a, xs, rfl, hs, fun p n => h p _ n (hH.new n)⟩
theorem slT {lo hi : Option Int} (hH : Has H0 ex H L) (hs : SqT K H a xs) (hn : ¬ (HT.sIx xs.length 0 lo = 0 ∧ HT.sIx xs.length xs.length hi = xs.length)) (h : ∀ p H', H p = none → Has H0 ex H' ((p, .tup (cutV xs lo hi)) :: L) → Q (.ref p) H') : rSlU K (.ref a) lo hi H Q :=
  .inr (.inl ⟨a, xs, rfl, hs, hn, fun p n => h p _ n (hH.new n)⟩)
theorem slS {lo hi : Option Int} {z : Str} (hz : z.length ≤ sizeLine) (h : Q (.str (cutS z lo hi)) H) : rSlU K (.str z) lo hi H Q := .inr (.inr ⟨z, rfl, hz, h⟩)
theorem cut1 (x : V) (xs : List V) : cutV (x :: xs) (some 1) none = xs := by
  unfold cutV
  rw [show HT.sIx (x :: xs).length 0 (some 1) = min 1 (x :: xs).length from HT.sIx_nat _ 0 1, HT.sIx_none]
  rw [show min 1 (x :: xs).length = 1 by rw [List.length_cons]; omega]
  show (List.take ((x :: xs).length - 1) xs) = xs
  rw [List.length_cons, Nat.add_sub_cancel]
  exact List.take_length

/-! ### built-ins -/
theorem isi {t u : Value} {c : V} {b : Bool} (k : ClsV c u) (ty : TyX K H x t) (e : PySem.W.kitOne K t u = some b) (h : Q (.bl b) H) : rIsi K [x, c] H Q := ⟨x, c, t, u, b, rfl, k, ty, e, h⟩
theorem isi_str {z : Str} (h : Q (.bl true) H) : rIsi K [.str z, .ty "str"] H Q := isi (.ty _) (.base (.str z)) (kit_ty (by decide +kernel)) h
theorem inL {neg : Bool} (hs : SqL K H a xs) (hx : flatV x = true) (hf : xs.all flatV = true) (h : Q (.bl (if neg then !inV x xs else inV x xs)) H) : rIn K neg x (.ref a) H Q := ⟨a, xs, rfl, .inl hs, hx, hf, h⟩
theorem inT {neg : Bool} (hs : SqT K H a xs) (hx : flatV x = true) (hf : xs.all flatV = true) (h : Q (.bl (if neg then !inV x xs else inV x xs)) H) : rIn K neg x (.ref a) H Q := ⟨a, xs, rfl, .inr hs, hx, hf, h⟩
def rLen (K : PySem.W.Frag) : List V → Hp → VK → Prop := fun xs H Q => ∃ x n, xs = [x] ∧ LenV K x H n ∧ Q (.int n) H
theorem call_lenN {X : Cx} : CallR X (.builtin "len") (rLen X.K) := call_len
theorem lenL (hs : SqL K H a xs) (h : Q (.int xs.length) H) : rLen K [.ref a] H Q := ⟨_, _, rfl, .inl ⟨xs, hs, rfl⟩, h⟩
theorem lenT (hs : SqT K H a xs) (h : Q (.int xs.length) H) : rLen K [.ref a] H Q := ⟨_, _, rfl, .inr ⟨xs, hs, rfl⟩, h⟩
theorem lenS {z : Str} (hz : z.length ≤ sizeLine) (h : Q (.int z.length) H) : rLen K [.str z] H Q := ⟨_, _, rfl, ⟨hz, rfl⟩, h⟩
def rInt1 : List V → Hp → VK → Prop := fun xs H Q => (∃ i, xs = [.int i] ∧ Q (.int i) H) ∨ ∃ k, xs = [.bl k] ∧ Q (.int (if k then 1 else 0)) H
theorem call_intN {X : Cx} : CallR X (.type "int") rInt1 := call_int1
theorem int1 {i : Int} (h : Q (.int i) H) : rInt1 [.int i] H Q := .inl ⟨i, rfl, h⟩
def rStrI : List V → Hp → VK → Prop := fun xs H Q => ∃ i : Int, xs = [.int i] ∧ i.natAbs.log2 < 1920 ∧ Q (.str (toString i)) H
theorem call_strN {X : Cx} : CallR X (.type "str") rStrI := call_str_int
theorem strI {i : Int} (b : i.natAbs.log2 < 1920) (h : Q (.str (toString i)) H) : rStrI [.int i] H Q := ⟨i, rfl, b, h⟩
theorem all_ {bs : List Bool} (hs : SqL K H a (bs.map V.bl)) (h : Q (.bl (bs.all id)) H) : rAll K [.ref a] H Q := ⟨a, bs, rfl, hs, h⟩
theorem any_ {bs : List Bool} (hs : SqL K H a (bs.map V.bl)) (h : Q (.bl (bs.any id)) H) : rAny K [.ref a] H Q := ⟨a, bs, rfl, hs, h⟩
def rMin2 : List V → Hp → VK → Prop := fun xs H Q => ∃ i j : Int, xs = [.int i, .int j] ∧ Q (.int (if j < i then j else i)) H
def rMax2 : List V → Hp → VK → Prop := fun xs H Q => ∃ i j : Int, xs = [.int i, .int j] ∧ Q (.int (if j > i then j else i)) H
theorem call_minN {X : Cx} (hc : X.calm = true) : CallR X (.builtin "min") rMin2 := call_min2 hc
theorem call_maxN {X : Cx} (hc : X.calm = true) : CallR X (.builtin "max") rMax2 := call_max2 hc
theorem min2 {i j : Int} (h : Q (.int (if j < i then j else i)) H) : rMin2 [.int i, .int j] H Q := ⟨i, j, rfl, h⟩
theorem max2 {i j : Int} (h : Q (.int (if j > i then j else i)) H) : rMax2 [.int i, .int j] H Q := ⟨i, j, rfl, h⟩
theorem getL {i : Int} (hs : SqL K H a xs) (e : atI xs i = some v) (h : Q v H) : rIxL K (.ref a) (.int i) H Q := ⟨a, xs, i, v, rfl, rfl, hs, e, h⟩
def rSetK : V → V → V → Hp → (Hp → Prop) → Prop := rSetL
theorem setL {L' : List (Addr × HO)} {i : Int} {j : Nat} {Qh : Hp → Prop} (hH : Has H0 ex H L) (hj : ixN xs.length i = some j) (pt : Put L a (.lst xs) (.lst (xs.set j y)) L') (f : a ∈ ex ∨ H0 a = none) (h : ∀ H', Has H0 ex H' L' → Qh H') : rSetL (.ref a) (.int i) y H Qh :=
  ⟨a, xs, i, j, rfl, rfl, hH.at pt.mem.1, hj, h _ (hH.put pt f)⟩
end
theorem at0 {α : Type} {a0 : α} {r : List α} : atI (a0 :: r) 0 = some a0 := atI_nat (j := 0) rfl
theorem at1 {α : Type} {a0 a1 : α} {r : List α} : atI (a0 :: a1 :: r) 1 = some a1 := atI_nat (j := 1) rfl
theorem at2 {α : Type} {a0 a1 a2 : α} {r : List α} : atI (a0 :: a1 :: a2 :: r) 2 = some a2 := atI_nat (j := 2) rfl
theorem at3 {α : Type} {a0 a1 a2 a3 : α} {r : List α} : atI (a0 :: a1 :: a2 :: a3 :: r) 3 = some a3 := atI_nat (j := 3) rfl
theorem at4 {α : Type} {a0 a1 a2 a3 a4 : α} {r : List α} : atI (a0 :: a1 :: a2 :: a3 :: a4 :: r) 4 = some a4 := atI_nat (j := 4) rfl
theorem at5 {α : Type} {a0 a1 a2 a3 a4 a5 : α} {r : List α} : atI (a0 :: a1 :: a2 :: a3 :: a4 :: a5 :: r) 5 = some a5 := atI_nat (j := 5) rfl
theorem at6 {α : Type} {a0 a1 a2 a3 a4 a5 a6 : α} {r : List α} : atI (a0 :: a1 :: a2 :: a3 :: a4 :: a5 :: a6 :: r) 6 = some a6 := atI_nat (j := 6) rfl
theorem at7 {α : Type} {a0 a1 a2 a3 a4 a5 a6 a7 : α} {r : List α} : atI (a0 :: a1 :: a2 :: a3 :: a4 :: a5 :: a6 :: a7 :: r) 7 = some a7 := atI_nat (j := 7) rfl
theorem at8 {α : Type} {a0 a1 a2 a3 a4 a5 a6 a7 a8 : α} {r : List α} : atI (a0 :: a1 :: a2 :: a3 :: a4 :: a5 :: a6 :: a7 :: a8 :: r) 8 = some a8 := atI_nat (j := 8) rfl
theorem at9 {α : Type} {a0 a1 a2 a3 a4 a5 a6 a7 a8 a9 : α} {r : List α} : atI (a0 :: a1 :: a2 :: a3 :: a4 :: a5 :: a6 :: a7 :: a8 :: a9 :: r) 9 = some a9 := atI_nat (j := 9) rfl
theorem flat_strs (ns : List Str) : (ns.map V.str).all flatV = true := by
  rw [List.all_map]
  exact List.all_eq_true.mpr fun _ _ => rfl
theorem slT1 {H0 : Hp} {ex : List Addr} {H : Hp} {L : List (Addr × HO)} {K : PySem.W.Frag} {Q : VK} {xs : List V} {a : Addr} {x : V} (hH : Has H0 ex H L) (hs : SqT K H a (x :: xs)) (h : ∀ p H', H p = none → Has H0 ex H' ((p, .tup xs) :: L) → Q (.ref p) H') : rSlU K (.ref a) (some 1) none H Q := by
  refine slT hH hs (fun z => ?_) fun p H' n h' => h p H' n (by rw [← cut1 x xs]; exact h')
  have z1 := z.1
  rw [show HT.sIx (x :: xs).length 0 (some 1) = min 1 (x :: xs).length from HT.sIx_nat _ 0 1, List.length_cons] at z1
  omega
theorem snoc_str (ws : List Str) (x : Str) : ws.map V.str ++ [V.str x] = (ws ++ [x]).map V.str := by rw [List.map_append]; rfl
theorem map_range_succ {α : Type} (f : Nat → α) (i : Nat) : (List.range (i + 1)).map f = (List.range i).map f ++ [f i] := by
  rw [List.range_succ, List.map_append]
  rfl
/-! ### data -/
theorem dp_ints {K : PySem.W.Frag} {H : Hp} : ∀ ns : List Int, DpAll K H (ns.map V.int) (ns.map PyData.int)
  | [] => .nil
  | n :: ns => .cons (.int n) (dp_ints ns)
theorem eqv_ints_nil (ns : List Int) : PyData.eqv (.list (ns.map PyData.int)) (.list []) = decide (ns = []) := by
  cases ns with
  | nil => rfl
  | cons n ns => rfl
theorem rIx_L {K : PySem.W.Frag} {H : Hp} {Q : VK} {xs : List V} {a : Addr} {i : Int} {v : V} (hs : SqL K H a xs) (e : atI xs i = some v) (h : Q v H) : rIx K (.ref a) (.int i) H Q := ixL hs e h
theorem at_nat {xs : List V} {i : Int} (h0 : 0 ≤ i) (h1 : i < xs.length) : ∃ v, atI xs i = some v := by
  have hl : i.toNat < xs.length := by omega
  refine ⟨xs[i.toNat], ?_⟩
  have := atI_nat (j := i.toNat) (List.getElem?_eq_getElem hl)
  rwa [show ((i.toNat : Nat) : Int) = i by omega] at this
theorem fmod_lt {i j : Int} (h : 0 < j) : 0 ≤ i.fmod j ∧ i.fmod j < j := ⟨Int.fmod_nonneg_of_pos i h, Int.fmod_lt_of_pos i h⟩
section
variable {H : Hp} {Q : VK} {a b : Int}
theorem modP (c : 0 < b) (h : ∀ r : Int, 0 ≤ r → r < b → Q (.int r) H) : rI (fun x j => j ≠ 0) (fun i j => .int (i.fmod j)) (.int a) (.int b) H Q :=
  ⟨a, b, rfl, rfl, Int.ne_of_gt c, h _ (fmod_lt c).1 (fmod_lt c).2⟩
theorem divP (c : 0 < b ∧ b < 1073741824) (h : ∀ r : Int, (0 ≤ a → 0 ≤ r ∧ r ≤ a) → Q (.int r) H) : rI CDivN (fun i j => .int (i.fdiv j)) (.int a) (.int b) H Q :=
  ⟨a, b, rfl, rfl, ⟨Int.ne_of_gt c.1, by omega⟩, h _ fun ha => by
    rw [Int.fdiv_eq_ediv_of_nonneg a (Int.le_of_lt c.1)]
    exact ⟨Int.ediv_nonneg ha (Int.le_of_lt c.1), Int.ediv_le_self b ha⟩⟩
theorem mulR (c : -18446744073709551616 < b ∧ b < 18446744073709551616) (h : Q (.int (a * b)) H) : rI CMul (fun i j => .int (i * j)) (.int a) (.int b) H Q := ⟨a, b, rfl, rfl, .inr c, h⟩
theorem mulL (c : -18446744073709551616 < a ∧ a < 18446744073709551616) (h : Q (.int (a * b)) H) : rI CMul (fun i j => .int (i * j)) (.int a) (.int b) H Q := ⟨a, b, rfl, rfl, .inl c, h⟩
theorem powP (c : CPow a b) (h : Q (.int (a ^ b.toNat)) H) : rI CPow (fun i j => .int (i ^ j.toNat)) (.int a) (.int b) H Q := ⟨a, b, rfl, rfl, c, h⟩
end
theorem setL21 {H0 : Hp} {ex : List Addr} {H : Hp} {L L' : List (Addr × HO)} {a : Addr} {u v y : V} {Qh : Hp → Prop} (hH : Has H0 ex H L) (pt : Put L a (.lst [u, v]) (.lst [u, y]) L') (f : a ∈ ex ∨ H0 a = none) (h : ∀ H', Has H0 ex H' L' → Qh H') : rSetL (.ref a) (.int 1) y H Qh := setL (xs := [u, v]) (j := 1) hH rfl pt f h
theorem natAbs_log2_small {i : Int} (h : -1000000 ≤ i ∧ i ≤ 1000000) : i.natAbs.log2 < 1920 := by
  by_cases z : i.natAbs = 0
  · rw [z]; decide
  · rw [Nat.log2_lt z]
    have : i.natAbs ≤ 1000000 := by omega
    exact Nat.lt_of_le_of_lt this (Nat.lt_of_lt_of_le (by decide : 1000000 < 2 ^ 20) (Nat.pow_le_pow_right (by decide) (by decide)))
theorem min2P {i j : Int} {Q : VK} {H : Hp} (h : ∀ m : Int, m ≤ i → m ≤ j → (m = i ∨ m = j) → Q (.int m) H) : rMin2 [.int i, .int j] H Q := min2 (h _ (by split <;> omega) (by split <;> omega) (by split <;> simp))
theorem max2P {i j : Int} {Q : VK} {H : Hp} (h : ∀ m : Int, i ≤ m → j ≤ m → (m = i ∨ m = j) → Q (.int m) H) : rMax2 [.int i, .int j] H Q := max2 (h _ (by split <;> omega) (by split <;> omega) (by split <;> simp))
theorem strP {i : Int} {Q : VK} {H : Hp} (c : -1000000 ≤ i ∧ i ≤ 1000000) (h : ∀ x : Str, x = toString i → x.length ≤ 1921 → Q (.str x) H) : rStrI [.int i] H Q :=
  strI (natAbs_log2_small c) (h _ rfl (int_text_len_1921 (natAbs_log2_small c)))
theorem addSP {K : PySem.W.Frag} {s t : Str} {Q : VK} {H : Hp} (hs : s.length ≤ 5000000) (ht : t.length ≤ 5000000) (h : Q (.str (s ++ t)) H) : rAddU K (.str s) (.str t) H Q := addS (by rw [sizeLine_eq]; omega) h
/-! ### the written part by its name -/
section
variable {X : Cx} {K : PySem.W.Frag}
theorem k_eq (hK : X.K = K) (hu : X.A.units + 64 < cLine) : OpR X (compareOp .Eq) (rEqU K) := hK ▸ op_eqU hu
theorem k_ne (hK : X.K = K) (hu : X.A.units + 64 < cLine) : OpR X (compareOp .NotEq) (rNeU K) := hK ▸ op_neU hu
theorem k_add (hK : X.K = K) : OpR X (binaryOp .Add) (rAddU K) := hK ▸ op_addU
theorem k_ix (hK : X.K = K) : IxR X (rIx K) := hK ▸ ix_seq
theorem k_len (hK : X.K = K) : CallR X (.builtin "len") (rLen K) := hK ▸ call_lenN
theorem k_all (hK : X.K = K) (hc : X.calm = true) : CallR X (.builtin "all") (rAll K) := hK ▸ cr_all hc
theorem k_any (hK : X.K = K) (hc : X.calm = true) : CallR X (.builtin "any") (rAny K) := hK ▸ cr_any hc
theorem k_in (hK : X.K = K) : OpR X (compareOp .In) (rIn K false) := hK ▸ op_in_seq
theorem k_notIn (hK : X.K = K) : OpR X (compareOp .NotIn) (rIn K true) := hK ▸ op_notIn_seq
theorem k_sl (hK : X.K = K) : SlR X (rSlU K) := hK ▸ sl_seq
theorem k_isi (hK : X.K = K) : CallR X (.builtin "isinstance") (rIsi K) := hK ▸ call_isi
theorem k_isiT (hK : X.K = K) : CallR X (.builtin "isinstance") (rIsiT K) := hK ▸ call_isiT
theorem k_get (hK : X.K = K) : PGet X (rIxL K) := hK ▸ get_list
theorem k_list {tg l : Expr} {tl : TE} (hK : X.K = K) (hl : PE X l tl) : PI X tg l (iList K tl) := hK ▸ pi_list hl
theorem k_tup {tg l : Expr} {tl : TE} (hK : X.K = K) (hl : PE X l tl) : PI X tg l (iTup K tl) := hK ▸ pi_tup hl
theorem k_gtup {es : List Expr} {k : Nat} {pos : Pos} {t : TGs} {n : Nat} (hK : X.K = K) (hc : X.calm = true) (h : PGs X es t) (hn : (assignEach es X.env).length = n := by rfl) (hst : (assignEach es X.env).findIdx? (·.1) = none := by rfl) : PG X (.Tuple es k pos) (gTup K n t) := hK ▸ pg_tup hc h hn hst
def rTupOf (K : PySem.W.Frag) : List V → Hp → VK → Prop := fun xs H Q => ∃ p ys, xs = [.ref p] ∧ ((SqL K H p ys ∧ ∀ l, H l = none → Q (.ref l) (upd H l (.tup ys))) ∨ (SqT K H p ys ∧ Q (.ref p) H))
def rListOf (K : PySem.W.Frag) : List V → Hp → VK → Prop := fun xs H Q => ∃ p ys, xs = [.ref p] ∧ (SqL K H p ys ∨ SqT K H p ys) ∧ ∀ l, H l = none → Q (.ref l) (upd H l (.lst ys))
theorem k_tuple (hK : X.K = K) : CallR X (.type "tuple") (rTupOf K) := hK ▸ call_tuple_of
theorem k_listOf (hK : X.K = K) : CallR X (.type "list") (rListOf K) := hK ▸ call_list_of
end
/-! ### marking in a row -/
/-! ### comprehensions that leave what is known -/
section
variable {H0 : Hp} {ex : List Addr} {H : Hp} {L : List (Addr × HO)} {K : PySem.W.Frag} {σ : L2.St} {Q : VK} {xs : List V} {a : Addr} {g : TG} {tt : TT} {te : TE} {vs : List Nat}
def Sim (P : Nat → List V → Prop) (L : List (Addr × HO)) : Nat → Addr → List V → List (Addr × HO) → Prop := fun i D acc M => P i acc ∧ M = (D, .lst acc) :: L
theorem lcs {D : Addr} {acc : List V} {P : Nat → List V → Prop} {i : Nat} {y : V} {H4 : Hp} {M : List (Addr × HO)} (h : Has H0 ex H4 M) (s : List.Sublist ((D, HO.lst acc) :: L) M) (hD : D ∈ ex ∨ H0 D = none) (hl : acc.length ≤ i) (hi : i ≤ 100000) (p : P (i + 1) (acc ++ [y])) :
    LcN D (CInv H0 ex (Sim P L) D (i + 1)) y H4 := lcn (L5 := (D, .lst (acc ++ [y])) :: L) (h.sub s) hD .here hl hi (List.Sublist.refl _) List.mem_cons_self ⟨p, rfl⟩
/-- no item comes -/
theorem lcz {D : Addr} {acc : List V} {P : Nat → List V → Prop} {i : Nat} {H4 : Hp} {M : List (Addr × HO)} (h : Has H0 ex H4 M) (s : List.Sublist ((D, HO.lst acc) :: L) M) (hl : acc.length ≤ i) (p : P (i + 1) acc) : CInv H0 ex (Sim P L) D (i + 1) H4 :=
  ⟨acc, (D, .lst acc) :: L, Nat.le_succ_of_le hl, List.mem_cons_self, ⟨p, rfl⟩, h.sub s⟩
theorem lcs_tup (hH : Has H0 ex H L) (hs : ∀ H', Has H0 ex H' L → SqT K H' a xs) (P : Nat → List V → Prop) (p0 : P 0 [])
    (turn : ∀ i x D acc H', xs[i]? = some x → (D ∈ ex ∨ H0 D = none) → acc.length ≤ i → P i acc → Has H0 ex H' ((D, .lst acc) :: L) → g x (wipe σ vs) H' fun σ2 H2 => LcT vs σ tt te (CInv H0 ex (Sim P L) D (i + 1)) D σ2 H2)
    (done : ∀ D acc H', acc.length ≤ xs.length → P xs.length acc → Has H0 ex H' ((D, .lst acc) :: L) → Q (.ref D) H') : LcK g tt te vs σ Q (Itt K a) H := by
  refine lck_tup (xs := xs) hH (Sim P L) (fun D => ⟨p0, rfl⟩) (fun i D acc M H' _ hp h => ?_) (fun i x D acc M H' hx hD hl _ hp h => ?_) (fun D acc M H' hl _ hp h => ?_)
  · obtain ⟨_, rfl⟩ := hp
    exact hs H' h.tail
  · obtain ⟨p, rfl⟩ := hp
    exact turn i x D acc H' hx hD hl p h
  · obtain ⟨p, rfl⟩ := hp
    exact done D acc H' hl p h
theorem lcs_list (hH : Has H0 ex H L) (hs : ∀ H', Has H0 ex H' L → SqL K H' a xs) (P : Nat → List V → Prop) (p0 : P 0 [])
    (turn : ∀ i x D acc H', xs[i]? = some x → (D ∈ ex ∨ H0 D = none) → acc.length ≤ i → P i acc → Has H0 ex H' ((D, .lst acc) :: L) → g x (wipe σ vs) H' fun σ2 H2 => LcT vs σ tt te (CInv H0 ex (Sim P L) D (i + 1)) D σ2 H2)
    (done : ∀ D acc H', acc.length ≤ xs.length → P xs.length acc → Has H0 ex H' ((D, .lst acc) :: L) → Q (.ref D) H') : LcK g tt te vs σ Q (Itl K a) H := by
  refine lck_list (xs := xs) hH (Sim P L) (fun D => ⟨p0, rfl⟩) (fun i D acc M H' _ hp h => ?_) (fun i x D acc M H' hx hD hl _ hp h => ?_) (fun D acc M H' hl _ hp h => ?_)
  · obtain ⟨_, rfl⟩ := hp
    exact hs H' h.tail
  · obtain ⟨p, rfl⟩ := hp
    exact turn i x D acc H' hx hD hl p h
  · obtain ⟨p, rfl⟩ := hp
    exact done D acc H' hl p h
theorem lcs_rng {lo : Int} {n : Nat} (hH : Has H0 ex H L) (P : Nat → List V → Prop) (p0 : P 0 [])
    (turn : ∀ i D acc H', i < n → (D ∈ ex ∨ H0 D = none) → acc.length ≤ i → P i acc → Has H0 ex H' ((D, .lst acc) :: L) → g (.int (lo + i)) (wipe σ vs) H' fun σ2 H2 => LcT vs σ tt te (CInv H0 ex (Sim P L) D (i + 1)) D σ2 H2)
    (done : ∀ D acc H', acc.length ≤ n → P n acc → Has H0 ex H' ((D, .lst acc) :: L) → Q (.ref D) H') : LcK g tt te vs σ Q (Itr lo n) H := by
  refine lck_rng hH (Sim P L) (fun D => ⟨p0, rfl⟩) (fun i D acc M H' hx hD hl _ hp h => ?_) (fun D acc M H' hl _ hp h => ?_)
  · obtain ⟨p, rfl⟩ := hp
    exact turn i D acc H' hx hD hl p h
  · obtain ⟨p, rfl⟩ := hp
    exact done D acc H' hl p h
end
/-! ### loops that leave what is known -/
section
variable {H0 : Hp} {ex : List Addr} {H : Hp} {L : List (Addr × HO)} {K : PySem.W.Frag} {σ : L2.St} {Q : VK} {xs : List V} {a : Addr} {g : TG} {tb : TS} {nx : L2.St → Hp → Prop} {rt : VK}
theorem fors_list (hH : Has H0 ex H L) (hs : ∀ H', Has H0 ex H' L → SqL K H' a xs) (Pv : Nat → L2.St → Prop) (h0 : Pv 0 σ)
    (turn : ∀ i x σ H', xs[i]? = some x → Pv i σ → Has H0 ex H' L → g x σ H' fun σ2 H2 => tb ⟨fun σ H => Pv (i + 1) σ ∧ Has H0 ex H L, rt, nx, fun σ H => Pv (i + 1) σ ∧ Has H0 ex H L⟩ σ2 H2)
    (done : ∀ σ H', Pv xs.length σ → Has H0 ex H' L → nx σ H') : ForK g tb nx rt σ (Itl K a) H :=
  fork_list (xs := xs) (fun i σ H => Pv i σ ∧ Has H0 ex H L) ⟨h0, hH⟩ (fun i σ H _ h => hs H h.2) (fun i x σ H hx h => turn i x σ H hx h.1 h.2) (fun σ H h => done σ H h.1 h.2)
theorem fors_tup (hH : Has H0 ex H L) (hs : ∀ H', Has H0 ex H' L → SqT K H' a xs) (Pv : Nat → L2.St → Prop) (h0 : Pv 0 σ)
    (turn : ∀ i x σ H', xs[i]? = some x → Pv i σ → Has H0 ex H' L → g x σ H' fun σ2 H2 => tb ⟨fun σ H => Pv (i + 1) σ ∧ Has H0 ex H L, rt, nx, fun σ H => Pv (i + 1) σ ∧ Has H0 ex H L⟩ σ2 H2)
    (done : ∀ σ H', Pv xs.length σ → Has H0 ex H' L → nx σ H') : ForK g tb nx rt σ (Itt K a) H :=
  fork_tup (xs := xs) (fun i σ H => Pv i σ ∧ Has H0 ex H L) ⟨h0, hH⟩ (fun i σ H _ h => hs H h.2) (fun i x σ H hx h => turn i x σ H hx h.1 h.2) (fun σ H h => done σ H h.1 h.2)
end
def isStr : V → Bool
  | .str _ => true
  | _ => false
theorem isStr_at {xs : List V} (h : xs.all isStr = true) {i : Nat} {x : V} (e : xs[i]? = some x) : ∃ w, x = .str w := by
  have m := List.all_eq_true.mp h x (List.mem_of_getElem? e)
  cases x with
  | str w => exact ⟨w, rfl⟩
  | _ => cases m
theorem isStr_map (ws : List Str) : (ws.map V.str).all isStr = true := by
  rw [List.all_map]
  exact List.all_eq_true.mpr fun _ _ => rfl
theorem all_true (n : Nat) : (List.replicate n true).all id = true := by
  induction n with
  | zero => rfl
  | succ n ih =>
    rw [List.replicate_succ, List.all_cons, ih]
    rfl
end Sw
set_option Elab.async false
set_option linter.all false
set_option maxRecDepth 100000
set_option maxHeartbeats 4000000
/-! SwSet: len(set(xs)) of texts: as many as there are exactly if none stands twice. -/
namespace SwSet
open PySem PySem.Spec PyProof.Rows
/-- what the set holds behind the first i texts -/
def Held (P : Program) (w : World) (h : Heap) (a : Addr) (xs : List Str) (i : Nat) : Prop :=
  ∃ c : Nat, h.SetOf (PySem.strKind P w) a (fun z => decide (z ∈ xs.take i)) c ∧ c ≤ i ∧ (c = i ↔ (xs.take i).Nodup)
theorem Held.keep {P : Program} {w : World} {h h' : Heap} {a : Addr} {xs : List Str} {i : Nat} (x : Held P w h a xs i) (k : ∀ o, h.get? a = some o → h'.get? a = some o) : Held P w h' a xs i := by
  obtain ⟨c, ⟨o, es, ep, t, ho, r⟩, b⟩ := x
  exact ⟨c, ⟨o, es, ep, t, k o ho, r⟩, b⟩
theorem take_one_more {xs : List Str} {i : Nat} {x : Str} (h : xs[i]? = some x) : xs.take (i + 1) = xs.take i ++ [x] := by
  rw [List.take_add_one, h]
  rfl
theorem Held.more {P : Program} {w : World} {h : Heap} {a : Addr} {xs : List Str} {i c : Nat} {x : Str} (hx : xs[i]? = some x) (hc : c ≤ i) (hn : c = i ↔ (xs.take i).Nodup)
    (s : h.SetOf (PySem.strKind P w) a (fun z => decide (z ∈ xs.take i) || decide (z = x)) (if decide (x ∈ xs.take i) = true then c else c + 1)) : Held P w h a xs (i + 1) := by
  have e := take_one_more hx
  refine ⟨_, PyProof.Rows.SetOf_congr s (fun z => ?_) rfl, ?_, ?_⟩
  · show (decide (z ∈ xs.take i) || decide (z = x)) = decide (z ∈ xs.take (i + 1))
    rw [e, ← Bool.decide_or]
    exact decide_eq_decide.mpr (by simp)
  · split <;> omega
  · rw [e, List.nodup_append]
    by_cases m : x ∈ xs.take i
    · rw [if_pos (decide_eq_true m)]
      refine ⟨fun z => by omega, fun z => ?_⟩
      exact absurd rfl (z.2.2 x m x (by simp))
    · rw [if_neg (by simpa using m)]
      refine ⟨fun z => ⟨hn.mp (by omega), by simp, fun y hy z' hz => ?_⟩, fun z => by rw [hn.mpr z.1]⟩
      have : z' = x := by simpa using hz
      subst this
      exact fun q => m (q ▸ hy)
section
variable {P : Program} {w : World} {A : Around} {R : Result → Shared → Prop} {I S : Addr} {fp wr : List Addr} {G : Array GenState → Array GenState → Prop} {n : Nat} {Pv : Nat → Value → Prop} {St : Nat → Shared → Prop} {xs : List Str}
theorem loop (W : WalksS P w A.in1 I fp wr G n Pv St) (out : S ∉ fp) (hn : xs.length = n) (few : n < 2000) (val : ∀ i v, Pv i v → ∃ x t, xs[i]? = some x ∧ v = .str x t) (m : Nat) :
    ∀ (i : Nat) (s : Shared), i + m = n → St i s → Held P w s.heap S xs i → (∀ s', Moved (S :: wr) G s s' → Held P w s'.heap S xs n → R (.ok (.ret .none)) s') →
      codeAny (model P w) A (.builtin "set.update.loop" ⟨[.ref S, .ref I], []⟩) R s := by
  have out2 : S ∉ wr := fun z => out (W.sub _ z)
  have up : ∀ b ∈ wr, b ∈ S :: wr := fun b z => List.mem_cons_of_mem S z
  induction m with
  | zero =>
    intro i s hi st held fin
    obtain rfl : i = n := by omega
    refine codeAny_builtin PyProof.Rows.F.entry_set_update_loop ?_
    rw [Around.under_plainId PyProof.Rows.F.plain_set_update_loop _]
    show wpAny _ A.in1 (pyNext (.ref I) >>= _) _ _ s
    refine wpAny_bind (W.done s _ _ st fun s1 mv => ?_)
    show wpAny _ A.in1 (ret Value.none) _ _ s1
    exact wpAny_pure (fin s1 (mv.mono up) (held.keep fun o e => mv.heap S o out2 e))
  | succ m ih =>
    intro i s hi st held fin
    refine codeAny_builtin PyProof.Rows.F.entry_set_update_loop ?_
    rw [Around.under_plainId PyProof.Rows.F.plain_set_update_loop _]
    show wpAny _ A.in1 (pyNext (.ref I) >>= _) _ _ s
    refine wpAny_bind (W.item i s _ _ (by omega) st fun v s1 pv st1 mv => ?_)
    obtain ⟨x, t, hx, rfl⟩ := val i v pv
    obtain ⟨c, hs, hc, hcn⟩ := held.keep (h' := s1.heap) fun o e => mv.heap S o out2 e
    show wpAny _ A.in1 (holding [Value.str x t] (setAdd S (.str x t)) >>= _) _ _ s1
    refine wpAny_bind (wpAny_holding ?_)
    unfold setAdd
    refine wpAny_holding (wpAny_bind ((PySem.strKind P w).pyHash (k := x) (strKind_is _ _ _ _) ?_))
    refine wpAny_setAddHashed_of (knd := PySem.strKind P w) (s := { s1 with toks := s1.toks + 1 }) (strKind_is _ _ _ _) rfl hs (by unfold scanBound; omega) fun h2 same hs2 => ?_
    refine wpAny_pure ⟨plainId_quiet PyProof.Rows.F.plain_set_update_loop _, ih (i + 1) _ (by omega) (W.frame _ s1 _ _ st1 (Nat.le_succ _) fun b hb o e => ?_) (Held.more hx hc hcn hs2) fun s3 mv3 held3 => ?_⟩
    · rw [same.2 b fun z => out (z ▸ hb)]
      exact e
    · refine fin s3 (Moved.trans W.gtrans ((mv.mono up).then_heap (Nat.le_succ _) fun b o hb e => ?_) mv3) held3
      rw [same.2 b fun z => hb (by rw [z]; exact List.mem_cons_self)]
      exact e
end
section
variable {P : Program} {w : World} {A : Around} {E : Value → Shared → Prop} {s : Shared}
/-- the set as it is made, empty -/
def fresh (led : Bool) : Obj := { cls := .type "set", dict := none, data := .set #[] 0 (.fresh 0 0 led) }
theorem held0 {h : Heap} {a : Addr} {led : Bool} {xs : List Str} (e : h.get? a = some (fresh led)) : Held P w h a xs 0 :=
  ⟨0, PyProof.Rows.SetOf_congr ((PyProof.Rows.setObjOf_fresh (knd := PySem.strKind P w) led).setOf e (by unfold scanBound; omega)) (fun z => by simp) rfl, Nat.le_refl 0, by simp⟩
theorem item_text {vs : List Value} {xs : List Str} (h : StrsAre vs xs) (i : Nat) (v : Value) (e : vs[i]? = some v) : ∃ x t, xs[i]? = some x ∧ v = .str x t := by
  induction h generalizing i with
  | nil => simp at e
  | cons n t hr ih =>
    cases i with
    | zero =>
      refine ⟨n, t, rfl, ?_⟩
      simpa using e.symm
    | succ i => exact ih i (by simpa using e)
/-- what comes behind the loop -/
def Done (P : Program) (w : World) (s : Shared) (xs : List Str) (s2 : Shared) : Prop :=
  ∃ (h' : Heap) (tk : Nat), s2 = { s with heap := h', toks := tk } ∧ Held P w h' s.heap.objs.size xs xs.length ∧ ∀ b o, s.heap.get? b = some o → h'.get? b = some o
theorem done_of {s s2 : Shared} {xs : List Str} {led : Bool} {it : Obj} {l : Addr} {tk : Nat} {n : Nat} (hl : l < s.heap.objs.size) (hn : xs.length = n)
    (mv : Moved (s.heap.objs.size :: [(s.heap.push (fresh led)).objs.size]) (fun a b => b = a) { s with heap := (s.heap.push (fresh led)).push it, toks := tk } s2) (hd : Held P w s2.heap s.heap.objs.size xs n) : Done P w s xs s2 := by
  obtain ⟨h', g', d', tk', os'⟩ := s2
  have eg : g' = s.gens := mv.gens
  have ed : d' = s.drawn := mv.drawn
  have eo : os' = s.os := mv.os
  subst eg ed eo
  refine ⟨h', tk', rfl, hn ▸ hd, fun b o e => ?_⟩
  have lt := Heap.lt_size e
  refine mv.heap b o ?_ (Heap.get?_push_of_some _ (Heap.get?_push_of_some _ e))
  simp only [List.mem_cons, List.not_mem_nil, or_false, not_or]
  refine ⟨Nat.ne_of_lt lt, ?_⟩
  rw [Heap.size_push]
  exact Nat.ne_of_lt (Nat.lt_succ_of_lt lt)

set_option maxHeartbeats 8000000 in
/-- set(xs), a list or a tuple of texts -/
theorem call_set {l : Addr} {items : Array Value} {xs : List Str} {Q : Value → Shared → Prop} (quiet : A.handled = none) (hl : s.heap.IsList l items ∨ s.heap.IsTuple l items) (texts : StrsAre items.toList xs) (few : xs.length < 2000)
    (fin : ∀ s2, Done P w s xs s2 → Q (.ref s.heap.objs.size) s2) : wpAny (model P w) A (call (.type "set") [.ref l]) Q E s := by
  have lt : l < s.heap.objs.size := by
    rcases hl with ⟨_, e, _⟩ | ⟨_, e, _⟩ <;> exact Heap.lt_size e
  have size : xs.length = items.size := by rw [← StrsAre.len_eq texts, Array.length_toList]
  have val : ∀ (i : Nat) (v : Value), items[i]? = some v → ∃ x t, xs[i]? = some x ∧ v = .str x t := fun i v e => item_text texts i v (by rw [Array.getElem?_toList]; exact e)
  obtain ⟨cc, tl, hmro⟩ := PySem.F.called_set.mro
  have hmade := PySem.F.called_set.made
  have hsub := PySem.F.called_set.sub
  have h1 := PySem.F.called_set.notType
  have h2 := PySem.F.called_set.canCreate
  have hct := PySem.F.typeCall_set_1 (.ref l)
  refine wpAny_call (codeAny_of_tree ?_)
  show wpAny _ _ (callAny (.type "set") _) _ _ _
  refine wpAny_pure ⟨Code.quiet_builtin _ (by decide +kernel), codeAny_builtin PySem.F.entry_type_call ?_⟩
  rw [Around.under_plain (weight_type_call_type "set" [.ref l] []) rfl]
  repeat (any_goals (first | assumption | wp_step))
  refine codeAny_mono (code_set_new_1 (.ref l) (E := E) (Q₁ := fun obj s1 => ∃ led : Bool, obj = .ref s.heap.objs.size ∧ s1 = { s with heap := s.heap.push (fresh led) }) fun led => ⟨led, rfl, rfl⟩) fun r s1 hr => ?_
  cases r with
  | error e => exact hr
  | ok fl =>
    cases fl with
    | ret obj =>
      obtain ⟨led, rfl, rfl⟩ := hr
      have at0 : (s.heap.push (fresh led)).get? s.heap.objs.size = some (fresh led) := Heap.get?_push_size _ rfl
      have ty : Shared.TypeIs { s with heap := s.heap.push (fresh led) } (.ref s.heap.objs.size) "set" := ⟨_, at0, rfl⟩
      have hli := PySem.F.called_set.init.lookup
      have hbi := PySem.F.called_set.init.bind (.ref s.heap.objs.size)
      repeat (any_goals (first | assumption | wp_step))
      refine codeAny_mono (codeAny_call_builtin (R := wants (fun r s2 => r = .none ∧ Done P w s xs s2) E) PySem.F.called_set.init.plain PySem.F.entry_set_init (check_set_init_1 ty ?_)) fun r2 s2 hr2 => ?_
      · have quiet3 : A.in1.in1.in1.handled = none := by simp [quiet]
        have apart : l ≠ (s.heap.push (fresh led)).objs.size := by
          rw [Heap.size_push]
          exact Nat.ne_of_lt (Nat.lt_succ_of_lt lt)
        have out : s.heap.objs.size ∉ [(s.heap.push (fresh led)).objs.size, l] := by
          rw [Heap.size_push]
          simp only [List.mem_cons, List.not_mem_nil, or_false, not_or]
          exact ⟨Nat.ne_of_lt (Nat.lt_succ_self _), Nat.ne_of_gt lt⟩
        have close : ∀ {it : Obj} {tk : Nat} (s2 : Shared), Moved (s.heap.objs.size :: [(s.heap.push (fresh led)).objs.size]) (fun a b => b = a) { s with heap := (s.heap.push (fresh led)).push it, toks := tk } s2 → Held P w s2.heap s.heap.objs.size xs items.size → Done P w s xs s2 :=
          fun s2 mv hd => done_of lt size mv hd
        rcases hl with hl | hl
        · obtain ⟨ol, hol, hcl, nl, hdl⟩ := hl
          obtain ⟨ocls, odict, odata, oslots⟩ := ol
          simp only at hcl hdl
          subst hcl; subst hdl
          have hol2 := Heap.get?_push_of_some (fresh led) hol
          have hsls := PySem.F.sub_list_set
          have hslf := PySem.F.sub_list_frozenset
          have hne : (Value.type "list" == Value.type "dict") = false := by decide
          have there : (s.heap.push (fresh led)).IsList l items := ⟨_, hol2, rfl, nl, rfl⟩
          unfold Builtin.«set.__init__» noKeywords Builtin.Frozenset.updateFrom
          generalize hPI : pyIter = PI
          wp_walk
          subst hPI
          refine wpAny_pyIter_list there (wpAny_bind (wpAny_runValue ?_))
          refine loop (xs := xs) ((Walks.list quiet3 _ l apart items).toS) out size (by omega) val items.size 0 _ (by omega) ⟨⟨_, Heap.get?_push_size _ rfl, rfl, rfl⟩, there.push _⟩ (held0 (Heap.get?_push_of_some _ at0)) fun s3 mv hd => ?_
          exact wpAny_pure (wpAny_pure ⟨rfl, close s3 mv hd⟩)
        · obtain ⟨ol, hol, hcl, nl, hdl⟩ := hl
          obtain ⟨ocls, odict, odata, oslots⟩ := ol
          simp only at hcl hdl
          subst hcl; subst hdl
          have hol2 := Heap.get?_push_of_some (fresh led) hol
          have hsls := PySem.F.sub_tuple_set
          have hslf := PySem.F.sub_tuple_frozenset
          have hne : (Value.type "tuple" == Value.type "dict") = false := by decide
          have there : (s.heap.push (fresh led)).IsTuple l items := ⟨_, hol2, rfl, nl, rfl⟩
          unfold Builtin.«set.__init__» noKeywords Builtin.Frozenset.updateFrom
          generalize hPI : pyIter = PI
          wp_walk
          subst hPI
          refine wpAny_pyIter_tuple there (wpAny_bind (wpAny_runValue ?_))
          refine loop (xs := xs) ((Walks.tuple quiet3 _ l apart items).toS) out size (by omega) val items.size 0 _ (by omega) ⟨⟨_, Heap.get?_push_size _ rfl, rfl, rfl⟩, there.push _⟩ (held0 (Heap.get?_push_of_some _ at0)) fun s3 mv hd => ?_
          exact wpAny_pure (wpAny_pure ⟨rfl, close s3 mv hd⟩)
      · cases r2 with
        | error e => exact hr2
        | ok fl2 =>
          cases fl2 with
          | ret r =>
            obtain ⟨rfl, hd⟩ := hr2
            repeat (any_goals (first | assumption | wp_step))
            exact fin _ hd
          | _ => exact hr2.elim
    | _ => exact hr.elim
end
end SwSet
set_option Elab.async false
set_option linter.all false
set_option maxRecDepth 100000
set_option maxHeartbeats 4000000
/-! SwLen: len(set(xs)) as an expression. -/
namespace Sw
open PySem PySem.Spec PyProof.Rows L2
def LenSetK (K : PySem.W.Frag) (Q : VK) (x : V) (H1 : Hp) : Prop :=
  ∃ (l : Addr) (xs : List Str), x = .ref l ∧ (SqL K H1 l (xs.map V.str) ∨ SqT K H1 l (xs.map V.str)) ∧ xs.length < 2000 ∧ ∀ c : Nat, c ≤ xs.length → (c = xs.length ↔ xs.Nodup) → Q (.int c) H1
def tLenSetU (K : PySem.W.Frag) (ta : TE) : TE := fun σ H Q => ta σ H fun x H1 => LenSetK K Q x H1
theorem texts_of : ∀ {ys : List Str} {us : List Value}, Vals (ys.map V.str) us → StrsAre us ys
  | [], _, .nil => .nil
  | y :: ys, _, .cons r t => by
    obtain ⟨k, rfl⟩ := r
    exact .cons y k (texts_of t)
theorem pe_lenSetU {X : Cx} {K : PySem.W.Frag} {a : Expr} {ta : TE} {p p2 q pos : Pos} (hK : X.K = K) (hc : X.calm = true) (hg : Gl X "len") (hm : X.mg "len" = none) (hg2 : Gl X "set") (hm2 : X.mg "set" = none) (ha : PE X a ta)
    (na : starEach [a] X.env = (false, eval a X.env) :: starEach [] X.env := by rfl) : PE X (.Call (.Name "len" p) [.Call (.Name "set" p2) [a] [] q] [] pos) (tLenSetU K ta) := by
  subst hK
  constructor
  intro pins s σ H Q I h
  refine Call_ (ld_blt I hg hm boot_len (PyProof.Rows.callWith_builtin1 (PyProof.Rows.args_cons ?_ rfl) rfl rfl))
  refine Call_ (ld_blt I hg2 hm2 boot_set (PyProof.Rows.callWith_type1 (PyProof.Rows.args_cons (thn (ha.run pins s σ H _ I h) fun v s1 z => PyProof.Rows.args_nil ?_) na) na rfl))
  obtain ⟨x, H1, I1, r1, l, xs, rfl, hq, few, k⟩ := z
  cases r1
  have main : ∀ its : List Value, Vals (xs.map V.str) its → s1.heap.IsList l its.toArray ∨ s1.heap.IsTuple l its.toArray →
      wpAny (model X.prog X.w) X.A (call (.type "set") [.ref l]) (fun u s2 => wpAny (model X.prog X.w) X.A (spliced (backTo pos (starEach [] X.env))) (fun vs s3 => wpAny (model X.prog X.w) X.A (call (.builtin "len") (u :: vs)) (EP X pins σ Q) X.xe s3) X.xe s2) X.xe s1 := by
    intro its r hl
    refine SwSet.call_set (I1.ok.hd hc) hl (by simpa using texts_of r) few fun s2 hd => ?_
    obtain ⟨h', tk, rfl, ⟨c, ⟨o, es, ep, t, ho, hex, hdt, _, _, _, hf, hn⟩, hc1, hc2⟩, keep⟩ := hd
    refine PyProof.Rows.args_nil ?_
    have I2 : Inv X pins σ H1 { s1 with heap := h', toks := tk } := I1.kept keep
    refine call_len_set ho hex hdt hf (by rw [hn] <;> omega) ⟨.int c, H1, I2.tok _, ⟨_, by rw [hn]⟩, k c hc1 ?_⟩
    rw [hc2, List.take_length]
  rcases hq with hq | hq
  · obtain ⟨its, r, pl, _⟩ := I1.list hq
    exact main its r (.inl pl.isList)
  · obtain ⟨its, r, pl, _⟩ := I1.tuple hq
    exact main its r (.inr pl)
theorem lenSet_ {K : PySem.W.Frag} {ta : TE} {σ : L2.St} {H : Hp} {Q : VK} (h : ta σ H fun x H1 => LenSetK K Q x H1) : tLenSetU K ta σ H Q := h
theorem lenSetL {K : PySem.W.Frag} {l : Addr} {xs : List Str} {H : Hp} {Q : VK} (hs : SqL K H l (xs.map V.str)) (few : xs.length < 2000) (h : ∀ c : Nat, c ≤ xs.length → (c = xs.length ↔ xs.Nodup) → Q (.int c) H) : LenSetK K Q (.ref l) H := ⟨l, xs, rfl, .inl hs, few, h⟩
theorem lenSetT {K : PySem.W.Frag} {l : Addr} {xs : List Str} {H : Hp} {Q : VK} (hs : SqT K H l (xs.map V.str)) (few : xs.length < 2000) (h : ∀ c : Nat, c ≤ xs.length → (c = xs.length ↔ xs.Nodup) → Q (.int c) H) : LenSetK K Q (.ref l) H := ⟨l, xs, rfl, .inr hs, few, h⟩
end Sw
set_option Elab.async false
set_option linter.all false
set_option maxRecDepth 100000
set_option maxHeartbeats 4000000
/-! SwMore: chains of three, one sign in a text, tuples of types, fields by a known class. -/
namespace Sw
open PySem PySem.Spec PyProof.Rows L2
section
variable {X : Cx} {K : PySem.W.Frag} {a b c d e : Expr} {ta tb tc td te : TE} {pos : Pos} {σ : L2.St} {H : Hp} {Q : VK}
/-- a op b op c op d -/
def ChK (r : R2) (tn : V → TE) (σ : L2.St) (Q : VK) (x y : V) (H : Hp) : Prop := r x y H fun z H1 => ∃ k, z = .bl k ∧ if k = true then tn y σ H1 Q else Q (.bl false) H1
def tLink (r : R2) (tb : TE) (tn : V → TE) (x : V) : TE := fun σ H Q => tb σ H fun y H1 => ChK r tn σ Q x y H1
def tEndC (r : R2) (tb : TE) (x : V) : TE := fun σ H Q => tb σ H fun y H1 => r x y H1 Q
def tChain2 (r1 r2 : R2) (ta tb tc : TE) : TE := fun σ H Q => ta σ H fun x H1 => tLink r1 tb (tEndC r2 tc) x σ H1 Q
def tChain3 (r1 r2 r3 : R2) (ta tb tc td : TE) : TE := fun σ H Q => ta σ H fun x H1 => tLink r1 tb (tLink r2 tc (tEndC r3 td)) x σ H1 Q
theorem pe_chain2 {o1 o2 : CmpOp} {r1 r2 : R2} (h1 : OpR X (compareOp o1) r1) (h2 : OpR X (compareOp o2) r2) (ha : PE X a ta) (hb : PE X b tb) (hc : PE X c tc) (hm : lastMarks [o1, o2] [b, c] = false := by with_unfolding_all rfl) :
    PE X (.Compare a [o1, o2] [b, c] pos) (tChain2 r1 r2 ta tb tc) := pe_chain h1 h2 ha hb hc hm
theorem pe_chain3 {o1 o2 o3 : CmpOp} {r1 r2 r3 : R2} (h1 : OpR X (compareOp o1) r1) (h2 : OpR X (compareOp o2) r2) (h3 : OpR X (compareOp o3) r3) (ha : PE X a ta) (hb : PE X b tb) (hc : PE X c tc) (hd : PE X d td)
    (hm : lastMarks [o1, o2, o3] [b, c, d] = false := by with_unfolding_all rfl) : PE X (.Compare a [o1, o2, o3] [b, c, d] pos) (tChain3 r1 r2 r3 ta tb tc td) := by
  constructor
  intro pins s σ H Q I h
  refine Compare_chain (thn (ha.run pins s σ H _ I h) fun v s1 ⟨x, H1, I1, q, w1⟩ => chain_link (thn (hb.run pins s1 σ H1 _ I1 w1) fun u s2 ⟨y, H2, I2, q2, w2⟩ => thn (h1 pins s2 σ H2 x y v u _ I2 q q2 w2) fun t s3 ⟨z, H3, I3, q3, k, ez, w3⟩ => ?_)) hm
  subst ez
  cases q3
  refine wpAny_truthy_bool ?_
  cases k with
  | false => exact ite_ff ⟨.bl false, H3, I3, rfl, w3⟩
  | true =>
    refine ite_tt (chain_link (thn (hc.run pins s3 σ H3 _ I3 w3) fun u2 s4 ⟨y2, H4, I4, q4, w4⟩ => thn (h2 pins s4 σ H4 y y2 u u2 _ I4 q2 q4 w4) fun t2 s5 ⟨z2, H5, I5, q5, k2, ez2, w5⟩ => ?_))
    subst ez2
    cases q5
    refine wpAny_truthy_bool ?_
    cases k2 with
    | false => exact ite_ff ⟨.bl false, H5, I5, rfl, w5⟩
    | true => exact ite_tt (chain_last (thn (hd.run pins s5 σ H5 _ I5 w5) fun u3 s6 ⟨y3, H6, I6, q6, w6⟩ => h3 pins s6 σ H6 y2 y3 u2 u3 Q I6 q4 q6 w6))
theorem chain2_ {r1 r2 : R2} (h : ta σ H fun x H1 => tLink r1 tb (tEndC r2 tc) x σ H1 Q) : tChain2 r1 r2 ta tb tc σ H Q := h
theorem chain3_ {r1 r2 r3 : R2} (h : ta σ H fun x H1 => tLink r1 tb (tLink r2 tc (tEndC r3 td)) x σ H1 Q) : tChain3 r1 r2 r3 ta tb tc td σ H Q := h
theorem link_ {r : R2} {tn : V → TE} {x : V} (h : tb σ H fun y H1 => ChK r tn σ Q x y H1) : tLink r tb tn x σ H Q := h
theorem endC_ {r : R2} {x : V} (h : tb σ H fun y H1 => r x y H1 Q) : tEndC r tb x σ H Q := h
theorem chI {g : Int → Int → Bool} {tn : V → TE} {i j : Int} (h : if g i j = true then tn (.int j) σ H Q else Q (.bl false) H) : ChK (rI0 fun i j => .bl (g i j)) tn σ Q (.int i) (.int j) H := ⟨i, j, rfl, rfl, g i j, rfl, h⟩
/-- one sign in a text -/
def rInS1 : R2 := fun x y H Q => ∃ (c : Nat) (z : Str), x = .str ⟨#[c]⟩ ∧ y = .str z ∧ Q (.bl (decide (c ∈ z.cps.toList))) H
def rInU (K : PySem.W.Frag) : R2 := fun x y H Q => rIn K false x y H Q ∨ rInS1 x y H Q
def rNiU (K : PySem.W.Frag) : R2 := fun x y H Q => rIn K true x y H Q
theorem k_inU (hK : X.K = K) : OpR X (compareOp .In) (rInU K) := hK ▸ op_in_seq.or (show OpR X (compareOp .In) rInS1 from op_in_sign)
theorem k_niU (hK : X.K = K) : OpR X (compareOp .NotIn) (rNiU K) := hK ▸ op_notIn_seq
theorem lenSP {z : Str} (hz : z.length ≤ 5000000) (h : Q (.int z.length) H) : rLen K [.str z] H Q := lenS (by rw [sizeLine_eq]; omega) h
theorem inS1 {c : Nat} {z : Str} (h : Q (.bl (decide (c ∈ z.cps.toList))) H) : rInU K (.str ⟨#[c]⟩) (.str z) H Q := .inr ⟨c, z, rfl, rfl, h⟩
theorem inUL {x : V} {p : Addr} {xs : List V} (hs : SqL K H p xs) (hx : flatV x = true) (hf : xs.all flatV = true) (h : Q (.bl (inV x xs)) H) : rInU K x (.ref p) H Q := .inl (inL hs hx hf h)
theorem inUT {x : V} {p : Addr} {xs : List V} (hs : SqT K H p xs) (hx : flatV x = true) (hf : xs.all flatV = true) (h : Q (.bl (inV x xs)) H) : rInU K x (.ref p) H Q := .inl (inT hs hx hf h)
theorem niUL {x : V} {p : Addr} {xs : List V} (hs : SqL K H p xs) (hx : flatV x = true) (hf : xs.all flatV = true) (h : Q (.bl (!inV x xs)) H) : rNiU K x (.ref p) H Q := inL hs hx hf h
theorem niUT {x : V} {p : Addr} {xs : List V} (hs : SqT K H p xs) (hx : flatV x = true) (hf : xs.all flatV = true) (h : Q (.bl (!inV x xs)) H) : rNiU K x (.ref p) H Q := inT hs hx hf h
/-- isinstance(x, (T, U)) -/
def rIsiU (K : PySem.W.Frag) : List V → Hp → VK → Prop := fun xs H Q => rIsi K xs H Q ∨ rIsiT K xs H Q
theorem k_isiU (hK : X.K = K) : CallR X (.builtin "isinstance") (rIsiU K) := hK ▸ call_isi.or call_isiT
theorem isiT2 {x : V} {t : Value} {p : Addr} {A B : String} {b : Bool} (hp : H p = some (.tup [.ty A, .ty B])) (ty : TyX K H x t) (e : PySem.W.kitAny K t [.type A, .type B] = some b) (h : Q (.bl b) H) : rIsiU K [x, .ref p] H Q :=
  .inr ⟨x, p, _, t, _, b, rfl, hp, .cons (.ty A) (.cons (.ty B) .nil), ty, e, h⟩
theorem isi1 {x : V} {t : Value} {n : String} {b : Bool} (ty : TyX K H x t) (e : PySem.W.kitOne K t (.type n) = some b) (h : Q (.bl b) H) : rIsiU K [x, .ty n] H Q := .inl (isi (.ty n) ty e h)
theorem isiC {x : V} {t : Value} {C : Addr} {b : Bool} (ty : TyX K H x t) (e : PySem.W.kitOne K t (.ref C) = some b) (h : Q (.bl b) H) : rIsiU K [x, .ref C] H Q := .inl (isi (.own C) ty e h)
theorem isiS {z : Str} (h : Q (.bl true) H) : rIsiU K [.str z, .ty "str"] H Q := isi1 (.base (.str z)) (kit_ty (by decide +kernel)) h
theorem isiI {i : Int} (h : Q (.bl true) H) : rIsiU K [.int i, .ty "int"] H Q := isi1 (.base (.int i)) (kit_ty (by decide +kernel)) h
theorem isiIb {i : Int} (h : Q (.bl false) H) : rIsiU K [.int i, .ty "bool"] H Q := isi1 (.base (.int i)) (kit_ty (by decide +kernel)) h
theorem isiTup {p : Addr} {xs : List V} (hp : H p = some (.tup xs)) (h : Q (.bl true) H) : rIsiU K [.ref p, .ty "tuple"] H Q := isi1 (.base (.tup hp)) (kit_ty (by decide +kernel)) h
theorem isiDict {p : Addr} {kvs : List (Key × V)} (hp : H p = some (.dK kvs)) (h : Q (.bl true) H) : rIsiU K [.ref p, .ty "dict"] H Q := isi1 (.base (.dK hp)) (kit_ty (by decide +kernel)) h
theorem isiRowL {p q : Addr} {xs : List V} (hq : H q = some (.tup [.ty "list", .ty "tuple"])) (hp : H p = some (.lst xs)) (h : Q (.bl true) H) : rIsiU K [.ref p, .ref q] H Q :=
  isiT2 hq (.base (.lst hp)) (kitAny_cons (kit_ty (r := true) (by decide +kernel)) (fun z => by cases z) fun _ => rfl) h
theorem isiRowT {p q : Addr} {xs : List V} (hq : H q = some (.tup [.ty "list", .ty "tuple"])) (hp : H p = some (.tup xs)) (h : Q (.bl true) H) : rIsiU K [.ref p, .ref q] H Q :=
  isiT2 hq (.base (.tup hp)) (kitAny_cons (kit_ty (r := false) (by decide +kernel)) (fun _ => kitAny_cons (kit_ty (r := true) (by decide +kernel)) (fun z => by cases z) fun _ => rfl) fun z => by cases z) h
/-- is None, is not None -/
def rIsN1 : R2 := fun x y H Q => y = .non ∧ Q (.bl (decide (x = .non))) H
def rNotN1 : R2 := fun x y H Q => y = .non ∧ Q (.bl (!decide (x = .non))) H
theorem k_isN : OpR X (compareOp .Is) rIsN1 := op_isN
theorem k_notN : OpR X (compareOp .IsNot) rNotN1 := op_notN
theorem isN_ {x : V} (h : Q (.bl (decide (x = .non))) H) : rIsN1 x .non H Q := ⟨rfl, h⟩
theorem notN_ {x : V} (h : Q (.bl (!decide (x = .non))) H) : rNotN1 x .non H Q := ⟨rfl, h⟩
/-- o.f -/
def FldK (K : PySem.W.Frag) (f : Str) (Q : VK) (x : V) (H1 : Hp) : Prop := ∃ a C dx fs v, x = .ref a ∧ H1 a = some (.ins C dx fs) ∧ Cls K C ∧ NoAttr K C f ∧ fs.lookup f = some v ∧ Q v H1
theorem k_fld {f : Str} (hK : X.K = K) (he : PE X e te) (hb : attributeBase e f X.env (eval e X.env) = eval e X.env) : PE X (.Attribute e f pos) (tFld K te f) := hK ▸ pe_fld he hb
theorem fld_ {f : Str} (h : te σ H fun x H1 => FldK K f Q x H1) : tFld K te f σ H Q := h
theorem fldk {f : Str} {a C dx : Addr} {fs : List (Str × V)} {v : V} (hp : H a = some (.ins C dx fs)) (c : Cls K C) (n : NoAttr K C f) (l : fs.lookup f = some v) (h : Q v H) : FldK K f Q (.ref a) H := ⟨a, C, dx, fs, v, rfl, hp, c, n, l, h⟩
end
/-! ### a comprehension over the signs of a text -/
section
variable {H0 : Hp} {ex : List Addr} {H : Hp} {L : List (Addr × HO)} {K : PySem.W.Frag} {σ : L2.St} {Q : VK} {g : TG} {tt : TT} {te tl : TE} {vs : List Nat} {R : It → Hp → Prop} {x : Str}
def IStrK (R : It → Hp → Prop) (v : V) (H1 : Hp) : Prop := ∃ x, v = .str x ∧ R (Its x) H1
theorem istr_ (h : tl σ H fun v H1 => IStrK R v H1) : iStr tl σ H R := h
theorem istrk (h : R (Its x) H) : IStrK R (.str x) H := ⟨x, rfl, h⟩
theorem lcs_str (hH : Has H0 ex H L) (P : Nat → List V → Prop) (p0 : P 0 [])
    (turn : ∀ i c D acc H', x.cps.toList[i]? = some c → (D ∈ ex ∨ H0 D = none) → acc.length ≤ i → P i acc → Has H0 ex H' ((D, .lst acc) :: L) → g (.str ⟨#[c]⟩) (wipe σ vs) H' fun σ2 H2 => LcT vs σ tt te (CInv H0 ex (Sim P L) D (i + 1)) D σ2 H2)
    (done : ∀ D acc H', acc.length ≤ x.cps.size → P x.cps.size acc → Has H0 ex H' ((D, .lst acc) :: L) → Q (.ref D) H') : LcK g tt te vs σ Q (Its x) H := by
  intro D hD
  refine ⟨fun i m H => m = x.cps.size - i ∧ i ≤ x.cps.size ∧ CInv H0 ex (Sim P L) D i H, ⟨_, rfl, Nat.zero_le _, [], _, Nat.le_refl 0, List.mem_cons_self, ⟨p0, rfl⟩, hH.new hD⟩, ?_⟩
  rintro i m H1 ⟨rfl, hi, acc, M, hl, hm, ⟨hp, rfl⟩, hh⟩
  by_cases lt : i < x.cps.size
  · refine .inr ⟨lt, CInv H0 ex (Sim P L) D (i + 1), fun H2 c => ⟨x.cps.size - (i + 1), by omega, rfl, lt, c⟩, fun v H2 y => ?_⟩
    obtain ⟨rfl, c, hc, rfl⟩ := y
    exact turn i c D acc _ (by rw [Array.getElem?_toList]; exact hc) (freshD hH hD) hl hp hh
  · have e : i = x.cps.size := by omega
    subst e
    exact .inl ⟨Nat.le_refl _, done D acc H1 hl hp hh⟩
end
/-! ### fields stored, objects made -/
section
variable {X : Cx} {H0 : Hp} {ex : List Addr} {H : Hp} {L L' : List (Addr × HO)} {K : PySem.W.Frag} {σ : L2.St} {Q : VK} {ta tv : TE} {nx bk ct : L2.St → Hp → Prop} {rt : VK} {f : Str} {x y : V} {a C dx : Addr} {fs : List (Str × V)}
theorem k_sfld {o value : Expr} {f : Str} {p' pos : Pos} (hK : X.K = K) (ha : PE X o ta) (hv : PE X value tv) (hs : swapsWith value (some (.Attribute o f p')) pos.line X.env = pure false := by rfl) : PS X (.Assign [.Attribute o f p'] value pos) (sFld K ta tv f) := hK ▸ ps_fld ha hv hs
def SFldK (K : PySem.W.Frag) (f : Str) (nx : L2.St → Hp → Prop) (σ : L2.St) (y x : V) (H2 : Hp) : Prop := ∃ a C dx fs, x = .ref a ∧ H2 a = some (.ins C dx fs) ∧ Cls K C ∧ NoAttr K C f ∧ fs.length < 1000 ∧ nx σ (upd H2 a (.ins C dx (putF f y fs)))
theorem sfld_ (h : tv σ H fun y H1 => ta σ H1 fun x H2 => SFldK K f nx σ y x H2) : sFld K ta tv f ⟨nx, rt, bk, ct⟩ σ H := h
theorem sfldk (hH : Has H0 ex H L) (pt : Put L a (.ins C dx fs) (.ins C dx (putF f y fs)) L') (fr : a ∈ ex ∨ H0 a = none) (c : Cls K C) (n : NoAttr K C f) (hl : fs.length < 1000) (h : ∀ H', Has H0 ex H' L' → nx σ H') : SFldK K f nx σ y (.ref a) H :=
  ⟨a, C, dx, fs, rfl, hH.at pt.mem.1, c, n, hl, h _ (hH.put pt fr)⟩
/-- C(..): what __init__ finds, what stands behind it -/
def MakeK (C : Addr) (sp : Sp) (Q : VK) (E : XK) (vs : List V) (H1 : Hp) : Prop := ∀ x dx, H1 x = none → H1 dx = none → dx ≠ x → sp (.ref x :: vs) (upd (upd H1 dx (.own x)) x (.ins C dx [])) (fun v H2 => v = .non ∧ Q (.ref x) H2) E
theorem make_ {sp : Sp} {E : XK} {t : TA} (h : t σ H fun vs H1 => MakeK C sp Q E vs H1) : tMake C sp [] E t σ H Q := by
  have e : (fun (vs : List V) (H1 : Hp) => ∀ x dx, H1 x = none → H1 dx = none → dx ≠ x → sp (.ref x :: (vs ++ [])) (upd (upd H1 dx (.own x)) x (.ins C dx [])) (fun v H2 => v = .non ∧ Q (.ref x) H2) E) = fun vs H1 => MakeK C sp Q E vs H1 := by
    funext vs H1
    rw [List.append_nil]
    rfl
  show t σ H fun (vs : List V) (H1 : Hp) => ∀ x dx, H1 x = none → H1 dx = none → dx ≠ x → sp (.ref x :: (vs ++ [])) (upd (upd H1 dx (.own x)) x (.ins C dx [])) (fun v H2 => v = .non ∧ Q (.ref x) H2) E
  rw [e]
  exact h
theorem Has.make (hH : Has H0 ex H L) {x : Addr} (n1 : H x = none) (n2 : H dx = none) (ne : dx ≠ x) : Has H0 ex (upd (upd H dx (.own x)) x (.ins C dx [])) ((x, .ins C dx []) :: (dx, .own x) :: L) :=
  (hH.new n2).new (by rw [upd_ne (Ne.symm ne)]; exact n1)
/-- a class of the text that may be made by its name -/
structure CalC (P : Program) (w : World) (K : PySem.W.Frag) (mg : Str → Option Value) (base : Heap) (CX : CXT) (k : Nat) (x : Str) (C : Addr) (ps : List Str) (sp : Sp) : Prop where
  ex : ∃ (f : Addr) (fd : FuncData), Mk K C f ∧ FnOk P w K mg base CX k f fd ps sp ∧ mg x = some (.ref C) ∧ Binds K fd ps []
theorem pe_calC {X : Cx} {CX : CXT} {j k : Nat} {x : Str} {ps : List Str} {sp : Sp} {E : XK} {p pos : Pos} {e : Expr} {es : List Expr} {t : TA} (c : CalC X.prog X.w X.K X.mg X.base CX j x C ps sp) (hr : Room k X.A) (hjk : j + 1 ≤ k) (hg : Gl X x) (hx : Passes CX X E) (ha : PA X (e :: es) t)
    (hdb : (x == ("__debug__" : Str)) = false := by decide) (he : starEach (e :: es) X.env = (false, eval e X.env) :: starEach es X.env := by rfl) (hpl : (backTo pos (starEach es X.env)).any (·.1) = false := by rfl) :
    PE X (.Call (.Name x p) (e :: es) [] pos) (tMake C sp [] E t) := by
  obtain ⟨f, fd, M, F, hm, hb⟩ := c.ex
  exact pe_make M F (hr.mono hjk) hg hm hb .nil hx ha hdb he hpl
end
theorem never_ {A B : Prop} {c : Bool} (e : c = false) (h : B) : if c = true then A else B := by rw [e]; exact h
end Sw
set_option Elab.async false
set_option linter.all false
set_option maxRecDepth 100000
set_option maxHeartbeats 4000000
/-! SwTry: several clauses, each with a name for what is caught. -/
namespace Sw
open PySem PySem.Spec PyProof.Rows L2
/-- the ends of a suite behind which a slot is empty again -/
def Leaves (i : Nat) (D : Ends) : Ends :=
  ⟨fun τ G => D.nx (τ.set i none) G, D.rt, fun τ G => D.bk (τ.set i none) G, fun τ G => D.ct (τ.set i none) G⟩
structure Clause where
  cl : Value
  slot : Nat
  does : Addr → Value → Option Addr → TS
def wCl (K : PySem.W.Frag) (W0 : WX) (D : Ends) : List Clause → WX
  | [] => W0
  | q :: r => fun cv d τ G => ∃ yes, PySem.W.exmOne K cv q.cl = some yes ∧
      (yes = true → ∀ o, G o = none → q.does o cv d (Leaves q.slot D) (τ.set q.slot (some (.ref o))) G) ∧ (yes = false → wCl K W0 D r cv d τ G)
inductive ClOk (X : Cx) : List ExceptHandler → List Clause → Prop
  | nil : ClOk X [] []
  | cons {x n : Str} {c : Value} {i : Nat} {ts : Addr → Value → Option Addr → TS} {b1 : Stmt} {su : List Stmt} {p1 p2 : Pos} {hds : List ExceptHandler} {l : List Clause} (hc : Names X x c)
      (hi : X.N[i]? = some n) (hln : X.env.kindOf n = some .local)
      (hsu : ∀ (o : Addr) (ob : Obj) (cv : Value) (d : Option Addr) (pn : List (Addr × Obj)), Zc cv d ob → (∃ fl, ob.data = .fields fl) → PSs (X.suite o ((o, ob) :: pn)) (b1 :: su) (ts o cv d)) (r : ClOk X hds l) :
      ClOk X (.ExceptHandler (some (.Name x p1)) (some n) (b1 :: su) p2 :: hds) (⟨c, i, ts⟩ :: l)
section
variable {X : Cx} {body : List Stmt} {h1 : ExceptHandler} {hds : List ExceptHandler} {l : List Clause} {at_ : Pos} {tb : WX → TS} {W0 : WX}
theorem ps_try_clauses (hst : X.stack = X.env :: X.outer) (hfr : X.env.frame = some X.env.locals) (hN : X.N.Nodup) (tk : Takes X W0)
    (hb : ∀ (W : WX) (pn : List (Addr × Obj)) (xe : Value → Shared → Prop), Takes (X.tr pn xe) W → PassesOwn (model X.prog X.w) X.A X.env xe → PSs (X.tr pn xe) body (tb W))
    (hh : ClOk X (h1 :: hds) l) : PS X (.Try body (h1 :: hds) [] [] at_) (fun D σ H => tb (wCl X.K W0 D l) D σ H) := by
  constructor
  intro pins s σ H D I hgo
  have fine := I.ok
  have frA : X.A.frames = some (X.env :: X.outer) := fine.frames.trans (congrArg some hst)
  apply wpAny_Try_except
  refine wpAny_mono ((hb (wCl X.K W0 D l) (X.pn ++ pins) (fun v t1 => wpAny (model X.prog X.w) X.A (noteFrame v X.env) (fun _ t2 => wpAny (model X.prog X.w) X.A (setFlight v none) (fun _ t3 =>
    wpAny (model X.prog X.w) X.A (handleBy v X.env (h1 :: hds)) (SP X pins D) X.xe t3) X.xe t2) X.xe t1) (fun v t0 caught => ?_) PassesOwn.looking).run [] s σ H D (I.toTry _) hgo) (fun f t1 ends => ?_) (fun v t1 z => z)
  · obtain ⟨o, B, sI, pins2, τ, G, cv, d, rfl, J0, noB, up0, sk, fresh, ofS, agr, wish⟩ := caught
    have J : Inv X pins τ G sI := Inv.ofTry J0 fine
    have sk2 : Sky B (X.env :: X.outer) o (Zc cv d) X.env.locals t0.heap := hst ▸ sk
    show wpAny (model X.prog X.w) X.A (noteFrame (.ref o) X.env) _ _ _
    refine Sky.land Zc.steady frA hfr sk2 fun hp fl up1 => ?_
    have Jl : Inv X pins τ G { t0 with heap := hp } := J.landed noB fl.1 (up0.trans up1) ofS agr
    obtain ⟨ob, flds, hob, hzc, hdat⟩ := fl.there
    have notFrame : ∀ {h : Heap} {q : Obj} {u : Array Value}, h.FunFrames B (X.env :: X.outer) → h.get? o = some q → q.data = .fields u → o ∉ frs (X.env :: X.outer) := by
      intro h q u ff hq hu hm
      obtain ⟨_, q2, hq2, bad⟩ := ff.mem hm
      cases hq.symm.trans hq2
      exact bad _ hu
    have nof := notFrame fl.2.2.1 hob hdat
    have noLoc : o ≠ X.env.locals := by
      intro z
      exact nof (List.mem_filterMap.mpr ⟨X.env, List.mem_cons_self, hfr.trans (congrArg some z.symm)⟩)
    have noFs : o ∉ X.fs := by
      intro hm
      obtain ⟨en, hen, z⟩ := List.mem_filterMap.mp hm
      exact nof (List.mem_filterMap.mpr ⟨en, List.mem_cons_of_mem _ hen, z⟩)
    have Su := Jl.suite hob hdat fresh noLoc noFs
    have walk : ∀ {hs : List ExceptHandler} {cs : List Clause}, ClOk X hs cs → wCl X.K W0 D cs cv d τ G →
        wpAny (model X.prog X.w) X.A (handleBy (.ref o) X.env hs) (SP X pins D) X.xe { t0 with heap := hp } := by
      intro hs cs ok
      induction ok with
      | nil =>
        intro wish
        apply wpAny_handleBy_nil
        obtain ⟨_, _, _, ob', flds', tb', otb, ts', hob', hz', hd', hf1, hr'⟩ := id fl
        unfold PySem.passOn
        refine wpAny_bind (wpAny_field hob' hd' hf1 ?_)
        rw [if_neg (show ¬ ((Value.ref tb' == Value.none) = true) by simp)]
        have away : wpAny (model X.prog X.w) X.A (setFlight (.ref o) X.env.frame) (fun _ t4 => wpAny (model X.prog X.w) X.A (throw (.ref o) : Sem Flow) (SP X pins D) X.xe t4) X.xe { t0 with heap := hp } := by
          rw [hfr]
          refine HandSPX.setFlight_upZ fl fun hp4 hh4 up4 => wpAny_throw (tk _ _ ?_)
          exact ⟨o, B, sI, pins, τ, G, cv, d, rfl, J, noB, (up0.trans up1).trans up4, .inr (.inr (hst ▸ hh4)), fresh, ofS, agr, wish⟩
        first
          | exact wpAny_bind away
          | exact wpAny_bind (wpAny_pure (wpAny_bind away))
      | @cons x n c i ts b1 su p1 p2 hs2 cs2 hc hi hln hsu r ih =>
        intro wish
        obtain ⟨yes, hyes, ifT, ifF⟩ := wish
        apply wpAny_handleBy_cons _ (by intro z; cases z)
        apply codeAny_handlers_test
        have look : PySem.W.Looks (model X.prog X.w) hp (typeOf (.ref o)) cv := by
          intro A Q E s k z
          exact wpAny_typeOf_ref (k _ _ hob) (hzc.1.symm ▸ z)
        have decides := PySem.W.exm_one (M := model X.prog X.w) Jl.kIn look hyes
        have named : ∀ {Q E : Value → Shared → Prop}, Q c { t0 with heap := hp } → wpAny (model X.prog X.w) (X.A.mark (some (.ref o))) (eval (.Name x p1) X.env) Q E { t0 with heap := hp } := by
          intro Q E z
          obtain ⟨g, db, m | ⟨m, bv, nn⟩⟩ := hc
          · exact ld_glob (X := X.suite o ((o, ob) :: (X.pn ++ pins))) Su g m z db
          · exact ld_blt (X := X.suite o ((o, ob) :: (X.pn ++ pins))) Su g m bv z nn db
        apply named
        apply decides.here
        cases yes with
        | false =>
          show wpAny _ X.A (handleBy (.ref o) X.env hs2) _ _ _
          exact ih (ifF rfl)
        | true =>
          apply codeAny_handlers_suite_as
          refine HandSPX.lands_againZ fl fun hp4 fl4 up4 => ?_
          have Jm : Inv X pins τ G { t0 with heap := hp4 } := J.landed noB fl4.1 ((up0.trans up1).trans up4) ofS agr
          obtain ⟨ob4, flds4, hob4, hzc4, hdat4⟩ := fl4.there
          have Sm := Jm.suite hob4 hdat4 fresh noLoc noFs
          refine store_ok (X := X.suite o ((o, ob4) :: (X.pn ++ pins))) (v := .ref o) Sm hN hi (.inl hln) rfl (fun t5 S5 => ?_) (.inr hln)
          refine wpAny_mono ((hsu o ob4 cv d (X.pn ++ pins) hzc4 ⟨_, hdat4⟩).run [] t5 _ G _ S5 (ifT rfl o fresh)) (fun f t6 ends => ?_) (fun _ _ z => z.elim)
          have close : ∀ {τ6 : L2.St} {G6 : Hp} {R : Shared → Prop}, Inv (X.suite o ((o, ob4) :: (X.pn ++ pins))) [] τ6 G6 t6 → (∀ t7, Inv X pins (τ6.set i none) G6 t7 → R t7) →
              wpAny (model X.prog X.w) X.A (do bindName X.env n .none; unbindBehindTheSuite X.env n p2) (fun _ t7 => R t7) X.xe t6 := by
            intro τ6 G6 R S6 hR
            exact gone_ok (S6.unsuite fine) hN hi hln hR
          cases f with
          | next =>
            obtain ⟨_, _, S6, z⟩ := ends
            exact close S6 fun t7 J7 => ⟨_, _, J7, z⟩
          | brk =>
            obtain ⟨_, _, S6, z⟩ := ends
            exact close S6 fun t7 J7 => ⟨_, _, J7, z⟩
          | cont =>
            obtain ⟨_, _, S6, z⟩ := ends
            exact close S6 fun t7 J7 => ⟨_, _, J7, z⟩
          | ret u =>
            obtain ⟨_, _, _, S6, rp, z⟩ := ends
            exact close S6 fun t7 J7 => ⟨_, _, _, J7, rp, z⟩
    exact walk hh wish
  · cases f with
    | next =>
      obtain ⟨_, _, J, z⟩ := ends
      exact wpAny_execs_nil ⟨_, _, Inv.ofTry J fine, z⟩
    | brk =>
      obtain ⟨_, _, J, z⟩ := ends
      exact ⟨_, _, Inv.ofTry J fine, z⟩
    | cont =>
      obtain ⟨_, _, J, z⟩ := ends
      exact ⟨_, _, Inv.ofTry J fine, z⟩
    | ret u =>
      obtain ⟨_, _, _, J, rp, z⟩ := ends
      exact ⟨_, _, _, Inv.ofTry J fine, rp, z⟩
end
end Sw
set_option Elab.async false
set_option linter.all false
set_option maxRecDepth 100000
set_option maxHeartbeats 4000000
/-! SwSeq: rows that are lists or tuples; sorted of either; bool of a dict; the values of a dict as a list. -/
namespace SwB
open PySem
open PySem.Sem (wp)
section
variable {prog : Program} {w : World} {A : Around} {E : Value → Shared → Prop} {s : Shared} {d : Addr} {b : Bool} {Q : Value → Shared → Prop}
def Tru (prog : Program) (w : World) (d : Addr) (b : Bool) (s : Shared) : Prop := ∀ (A : Around) (E : Value → Shared → Prop) (Q : Bool → Shared → Prop) (tk0 : Nat), (∀ tk, Q b { s with toks := tk }) → wpAny (model prog w) A (truthy (.ref d)) Q E { s with toks := tk0 }
theorem meets_bool_d : MeetsIn prog w (Builtin.«bool.__new__» ⟨[.type "bool", .ref d], []⟩) (fun _ R s => Tru prog w d b s ∧ ∀ tk, R (.ok (.ret (.bool b))) { s with toks := tk }) :=
  MeetsIn.of_wp fun A R s hs => by
    obtain ⟨hl, hs⟩ := hs
    unfold Tru at hl
    obtain ⟨hp, g, dd, tk, os⟩ := s
    have f1 := F.conv_sub_bool
    repeat (any_goals (first | assumption | (with_reducible refine hl _ _ _ _ fun tk => ?_) | wp_step))
    all_goals first | exact ⟨_, rfl, hs _⟩ | exact hs _ | skip
theorem call_bool_d (hl : Tru prog w d b s) (h : ∀ tk, Q (.bool b) { s with toks := tk }) : wpAny (model prog w) A (call (.type "bool") [.ref d]) Q E s :=
  callType_newIn F.called_bool F.newNe_bool (F.typeCall_bool_1 _) (F.newCall_bool_1 _) (fun obj => F.args_object_init_2 obj _) F.entry_bool_new meets_bool_d ⟨hl, fun tk => ⟨rfl, h tk⟩⟩
end
end SwB
namespace Sw
open PySem PySem.Spec PyProof.Rows L2
section
variable {X : Cx} {K : PySem.W.Frag}
/-- a list or a tuple -/
def Sq (K : PySem.W.Frag) (H : Hp) (a : Addr) (xs : List V) : Prop := SqL K H a xs ∨ SqT K H a xs
/-- for .. in a list or a tuple -/
def iSeq (K : PySem.W.Frag) (tl : TE) : TI := fun σ H R => tl σ H fun x H1 => ∃ a, x = .ref a ∧ (((∃ xs, SqL K H1 a xs) ∧ R (Itl K a) H1) ∨ ((∃ xs, SqT K H1 a xs) ∧ R (Itt K a) H1))
theorem pi_seq {tg l : Expr} {tl : TE} (hl : PE X l tl) : PI X tg l (iSeq X.K tl) := by
  constructor
  intro pins s σ H R I h
  refine thn (hl.run pins s σ H _ I h) ?_
  rintro v t ⟨x, G, J, r, a, rfl, z | z⟩
  all_goals
    cases r
    obtain ⟨⟨xs, hs⟩, q⟩ := z
  · obtain ⟨us, _, il, _⟩ := J.list hs
    apply wpAny_pyIter_list il.isList
    exact ⟨t.heap.objs.size, [t.heap.objs.size], _, _, G, rfl, J.kept (t' := t.toks) fun _ _ e => Heap.get?_push_of_some _ e, turn_list a _, ⟨_, Heap.get?_push_size _ rfl, rfl, rfl⟩,
      fun b hb => (show b = t.heap.objs.size by simpa using hb) ▸ J.fpOk (Nat.le_refl _) (J.hok.fresh (Nat.le_refl _)), q⟩
  · obtain ⟨us, _, il, _⟩ := J.tuple hs
    apply wpAny_pyIter_tuple (show t.heap.IsTuple a us.toArray from il)
    exact ⟨t.heap.objs.size, [t.heap.objs.size], _, _, G, rfl, J.kept (t' := t.toks) fun _ _ e => Heap.get?_push_of_some _ e, turn_tuple a _, ⟨_, Heap.get?_push_size _ rfl, rfl, rfl⟩,
      fun b hb => (show b = t.heap.objs.size by simpa using hb) ▸ J.fpOk (Nat.le_refl _) (J.hok.fresh (Nat.le_refl _)), q⟩
theorem k_seq {tg l : Expr} {tl : TE} (hK : X.K = K) (hl : PE X l tl) : PI X tg l (iSeq K tl) := hK ▸ pi_seq hl
/-- bool(x) of a dict or None -/
def rBoolD : List V → Hp → VK → Prop := fun xs H Q => (xs = [.non] ∧ Q (.bl false) H) ∨ ∃ (a : Addr) (kvs : List (Key × V)), xs = [.ref a] ∧ H a = some (.dK kvs) ∧ Q (.bl (!kvs.isEmpty)) H
theorem call_boolD : CallR X (.type "bool") rBoolD := by
  intro pins s σ H xs us Q I r h
  rcases h with ⟨rfl, q⟩ | ⟨a, kvs, rfl, hk, q⟩
  · cases r with
    | cons r rr =>
      cases rr
      cases r
      exact call_bool_none ⟨.bl false, H, I, rfl, q⟩
  · obtain rfl := Vals.ref1 r
    obtain ⟨hz, lo, vs, kv, m⟩ : kvs.length ≤ sizeLine ∧ (a == sysModules) = false ∧ ∃ vs, KV kvs vs ∧ s.heap.DictOf (mixKind X.prog X.w) a vs := I.hok a _ hk
    have hn : kvs.length = vs.length := Paired.length kv
    have big := line63
    refine SwB.call_bool_d (b := !kvs.isEmpty) (fun A E R tk0 hR => ?_) fun tk => ⟨.bl (!kvs.isEmpty), H, I.tok _, rfl, q⟩
    obtain ⟨hp, g, dr, tk, os⟩ := s
    exact wpAny_truthy_dict lo m (by omega) (by rw [isEmpty_kv kv]; exact hR _)
/-- list(d.values()) -/
def tVals (td : TE) : TE := fun σ H Q => td σ H fun x H1 => ∃ (d : Addr) (kvs : List (Key × V)), x = .ref d ∧ H1 d = some (.dK kvs) ∧ ∀ q, H1 q = none → Q (.ref q) (upd H1 q (.lst (kvs.map Prod.snd)))
theorem vals_nth : ∀ {xs : List V} {us : List Value}, xs.length = us.length → (∀ (i : Nat) (x : V) (u : Value), xs[i]? = some x → us[i]? = some u → RelV x u) → Vals xs us
  | [], [], _, _ => .nil
  | [], _ :: _, h, _ => nomatch h
  | _ :: _, [], h, _ => nomatch h
  | _ :: _, _ :: _, h, f => .cons (f 0 _ _ rfl rfl) (vals_nth (Nat.succ.inj h) fun i x u a b => f (i + 1) x u a b)
theorem pe_vals {e : Expr} {te : TE} {p apos cpos pos : Pos} (hc : X.calm = true) (he : PE X e te) (hg : Gl X "list") (hm : X.mg "list" = none) (hv : bootBuiltins "list" = some (.type "list")) (hbase : attributeBase e "values" X.env (eval e X.env) = eval e X.env := by rfl)
    (hline : (apos.endLine == cpos.line) = true := by rfl)
    (hs : starEach [.Call (.Attribute e "values" apos) [] [] cpos] X.env = (false, eval (.Call (.Attribute e "values" apos) [] [] cpos) X.env) :: starEach [] X.env := by rfl) :
    PE X (.Call (.Name "list" p) [.Call (.Attribute e "values" apos) [] [] cpos] [] pos) (tVals te) := by
  constructor
  intro pins s σ H Q I hq
  apply wpAny_Call_Name_kw
  refine ld_blt I hg hm hv ?_
  refine PyProof.Rows.callWith_type1 ?_ hs rfl
  rw [hs]
  show wpAny _ _ (spliced ((false, eval (.Call (.Attribute e "values" apos) [] [] cpos) X.env) :: backTo pos (starEach [] X.env))) _ _ s
  apply Calls.spliced_cons
  refine wpAny_Call_method (T := "dict") (id := "dict.values") hbase rfl hline F.plainAttrs_dict F.slot_dict_values F.type_dict_values (thn (he.run pins s σ H _ I hq) ?_)
  rintro v t ⟨x, G, J, r, d, kvs, rfl, hd, q⟩
  cases r
  obtain ⟨hz, lo, vs, kv, hdo⟩ := J.hok d _ hd
  obtain ⟨ep, hat⟩ := hdo.dictAt
  have hn : kvs.length = vs.length := Paired.length kv
  have J2 : Inv X pins σ G { t with heap := t.heap.push { cls := .type "dict_values", data := .fields #[.ref d] } } := J.kept (t' := t.toks) fun _ _ q => Heap.get?_push_of_some _ q
  refine ⟨hdo.typeIs, hdo.mapOf.noDict, ?_⟩
  show wpAny _ _ (callWith cpos (.builtin "dict.values") [.ref d] [] []) _ X.xe t
  refine method_meetsIn F.slot_dict_values F.entry_dict_values rfl (PySem.evalArgs_none ⟨rfl, hdo.typeIs, F.args_dict_values_1 _, _, meets_dict_values (mixKind X.prog X.w) d lo, ⟨vs, hdo⟩, ?_⟩)
  apply Calls.spliced_nil
  refine PySem.W.kdl_call (PySem.W.kdl_values (knd := mixKind X.prog X.w) (kvs := vs) (ep := ep)) (J.ok.hd hc) ⟨⟨_, Heap.get?_push_size _ rfl, rfl, rfl⟩, hat.push _⟩ (hn ▸ hz) fun h' tk acc c keep hS items => ?_
  refine ⟨.ref _, _, J2.laid keep (Nat.le_refl _) (show ObjOk X.prog X.w _ _ _ (.lst (kvs.map Prod.snd)) from ⟨by rw [List.length_map]; exact hz, acc.toList, c, ?_, by rw [Array.toArray_toList]; exact hS⟩), rfl, q _ (J2.hok.fresh (Nat.le_refl _))⟩
  refine vals_nth (by rw [List.length_map, hn, ← items.1, Array.length_toList]) fun i x u hx hu => ?_
  obtain ⟨k, hk⟩ := items.2 i u (by rw [← Array.getElem?_toList]; exact hu)
  rw [List.getElem?_map] at hx
  cases e : kvs[i]? with
  | none => rw [e] at hx; cases hx
  | some p =>
    rw [e] at hx
    cases hx
    obtain ⟨y, hy, ry⟩ := LiI.paired_get kv e
    rw [hk] at hy
    cases hy
    exact ry.2
/-- sorted of a list or tuple of texts -/
def rSortSq (K : PySem.W.Frag) : List V → Hp → VK → Prop := fun vs H Q => ∃ (a : Addr) (xs : List Str), vs = [V.ref a] ∧ Sq K H a (xs.map V.str) ∧ xs.length < 64 ∧ ∀ (ys : List Str) (p : Addr), ys.Perm xs → sortedS ys = true → H p = none → Q (.ref p) (upd H p (.lst (ys.map V.str)))
theorem call_sortSq : CallR X (.builtin "sorted") (rSortSq X.K) := by
  intro pins s σ H vs us Q I r h
  obtain ⟨a, xs, rfl, hs | hs, h64, q⟩ := h
  · exact cr_sortedS pins s σ H _ us Q I r ⟨a, xs, rfl, hs, h64, q⟩
  · obtain ⟨its, rv, ht, _⟩ := I.tuple hs
    rw [Vals.ref1 r]
    have hl := rv.length
    rw [List.length_map] at hl
    have texts : StrsAre its xs := rv.strs
    obtain ⟨o, ho, hcls, n, hdat⟩ := (show s.heap.IsTuple a its.toArray from ht)
    apply Calls.call_function_entry PyProof.Rows.kind_sorted PyProof.Rows.plain_sorted PyProof.Rows.entry_sorted (PyProof.Rows.args_sorted1 _)
    unfold Builtin.«sorted»
    refine wpAny_bind (m := checkCount "sorted" 1 1 _) (wpAny_pure ?_)
    refine wpAny_bind (wpAny_collect_seq a (.inr rfl) ho hcls hdat (fun h' keep => ?_) (by rw [List.size_toArray, sizeLine_eq]; omega))
    have I1 : Inv X pins σ H { s with heap := h' } := I.kept (t' := s.toks) keep
    refine wpAny_bind (wpAny_newList ?_ (by rw [sizeLine_eq]; simp; omega))
    have hD : (h'.push { cls := Value.type "list", data := Data.seq its.toArray.toList.toArray }).get? h'.objs.size = some (seqObj "list" its.toArray 0) := Heap.get?_push_size _ rfl
    refine wpAny_bind (wpAny_holding (wpAny_call_entry PyProof.Rows.slot_list_sort ⟨_, hD, rfl⟩ PyProof.Rows.entry_list_sort
      (list_sort_treeK strKind_oneLt (s := { s with heap := h'.push { cls := Value.type "list", data := Data.seq its.toArray.toList.toArray } }) hD texts.keysOf
        (fun u1 u2 rest e => keyKind_strs (e ▸ texts)) (by omega) fun st perm asc => ⟨_, rfl, ?_⟩) (PyProof.Rows.args_list_sort _)))
    obtain ⟨ys, t1, t2, t3⟩ := sorted_out_str texts perm asc
    obtain ⟨ep, at_⟩ := PyProof.Rows.sortedHeap_at (vs := its) (out := (arrOf st).map (·.2)) hD
    have small : (ys.map V.str).length ≤ sizeLine := by
      rw [List.length_map, t2.length_eq, sizeLine_eq]
      omega
    refine wpAny_pure ⟨_, rfl, .ref h'.objs.size, _, I1.laid (t' := s.toks) (fun b u e => ?_) (Nat.le_refl _) (show ObjOk X.prog X.w _ _ _ (.lst (ys.map V.str)) from ⟨small, _, ep, vals_of_strs t1, at_⟩), rfl, q ys _ t2 t3 (I1.hok.fresh (Nat.le_refl _))⟩
    have lt := Heap.lt_size e
    exact (PyProof.Rows.sortedHeap_old (Nat.ne_of_lt lt) (by rw [size_push']; exact Nat.lt_succ_of_lt lt)).trans (Heap.get?_push_of_some _ e)
end
end Sw
set_option Elab.async false
set_option linter.all false
set_option maxRecDepth 100000
set_option maxHeartbeats 4000000
/-! SwStr: loops with a measure, methods of texts, what is asked of a caught error, the end with tables. -/
namespace Sw
open PySem PySem.Spec PyProof.Rows L2
section
variable {H0 : Hp} {ex : List Addr} {H : Hp} {L : List (Addr × HO)} {K : PySem.W.Frag} {σ : L2.St} {Q : VK} {te to : TE} {t : TA} {tc : TT} {tb : TS} {nx ct bk : L2.St → Hp → Prop} {rt : VK} {x y z : V}
/-! ### while -/
def WhK (Pv : Nat → L2.St → Hp → Prop) (m : Nat) (tb : TS) (rt : VK) (nx : L2.St → Hp → Prop) (σ : L2.St) (b : Bool) (H1 : Hp) : Prop :=
  if b = true then ∃ N : L2.St → Hp → Prop, (∀ σ' H', N σ' H' → ∃ m', m' < m ∧ Pv m' σ' H') ∧ tb ⟨N, rt, nx, N⟩ σ H1 else nx σ H1
theorem while_ (Pv : Nat → L2.St → Hp → Prop) (m : Nat) (h0 : Pv m σ H) (turn : ∀ m σ H, Pv m σ H → tc σ H fun b H1 => WhK Pv m tb rt nx σ b H1) : tWhile tc tb ⟨nx, rt, bk, ct⟩ σ H :=
  ⟨Pv, ⟨m, h0⟩, turn⟩
theorem whk {Pv : Nat → L2.St → Hp → Prop} {m : Nat} {b : Bool} (h1 : b = true → tb ⟨fun σ' H' => ∃ m', m' < m ∧ Pv m' σ' H', rt, nx, fun σ' H' => ∃ m', m' < m ∧ Pv m' σ' H'⟩ σ H) (h2 : b = false → nx σ H) : WhK Pv m tb rt nx σ b H := by
  cases b with
  | true => exact ⟨_, fun _ _ z => z, h1 rfl⟩
  | false => exact h2 rfl
/-- x, y, z = a, b, c -/
def Par3K (i j l : Nat) (σ : L2.St) (nx : L2.St → Hp → Prop) (vs : List V) (H1 : Hp) : Prop := ∃ u v w, vs = [u, v, w] ∧ nx (((σ.set i (some u)).set j (some v)).set l (some w)) H1
theorem par3_ {i j l : Nat} {ta : TA} (h : ta σ H fun vs H1 => Par3K i j l σ nx vs H1) : tPar3 i j l ta ⟨nx, rt, bk, ct⟩ σ H := h
theorem par3k {i j l : Nat} (h : SetK σ i (fun σ1 H1 => SetK σ1 j (fun σ2 H2 => SetK σ2 l nx z H2) y H1) x H) : Par3K i j l σ nx [x, y, z] H := ⟨x, y, z, rfl, h⟩
/-! ### methods -/
def BmK (K : PySem.W.Frag) (T : String) (r : V → List V → Hp → VK → Prop) (t : TA) (σ : L2.St) (Q : VK) (x : V) (H1 : Hp) : Prop := tyV K T x H1 ∧ t σ H1 fun xs H2 => r x xs H2 Q
theorem bm_ {T : String} {r : V → List V → Hp → VK → Prop} (h : to σ H fun x H1 => BmK K T r t σ Q x H1) : tBM K T r to t σ H Q := h
theorem bmS {r : V → List V → Hp → VK → Prop} {a : Str} (h : t σ H fun xs H2 => r (.str a) xs H2 Q) : BmK K "str" r t σ Q (.str a) H := ⟨rfl, h⟩
theorem bmL {r : V → List V → Hp → VK → Prop} {a : Addr} {xs : List V} (hs : SqL K H a xs) (h : t σ H fun xs H2 => r (.ref a) xs H2 Q) : BmK K "list" r t σ Q (.ref a) H := ⟨.inl ⟨rfl, xs, hs⟩, h⟩
theorem k_bm {X : Cx} {o e : Expr} {es : List Expr} {name : Str} {apos cpos : Pos} {T id : String} {r : V → List V → Hp → VK → Prop} (hK : X.K = K) (pa : PlainAttrs T) (slot : Slot T name id) (hty : typeOf (.builtin id) = pure (.type "method_descriptor")) (hm : MtR X id r) (ho : PE X o to) (ha : PA X (e :: es) t)
    (hbase : attributeBase o name X.env (eval o X.env) = eval o X.env := by rfl)
    (hfew : ((backTo cpos (starEach (e :: es) X.env)).all (fun x => !x.1) && (backToKw cpos (keywordEach [] X.env)).all (fun x => x.1.isSome)
      && decide ((e :: es).length + ([] : List Keyword).length + (if ([] : List Keyword).isEmpty then 0 else 1) < 30)) = true := by rfl)
    (hline : (apos.endLine == cpos.line) = true := by rfl) (hs : starEach (e :: es) X.env = (false, eval e X.env) :: starEach es X.env := by rfl) (hplain : (backTo cpos (starEach es X.env)).any (·.1) = false := by rfl) :
    PE X (.Call (.Attribute o name apos) (e :: es) [] cpos) (tBM K T r to t) := hK ▸ pe_bm pa slot hty hm ho ha hbase hfew hline hs hplain
def rFind : V → List V → Hp → VK → Prop := fun x xs H Q => ∃ (a b : Str) (i : Int), x = .str a ∧ xs = [.str b, .int i] ∧ Q (.int (Txt.find3 a b i)) H
theorem k_find {X : Cx} : MtR X "str.find" rFind := mt_find3
theorem find_ {a b : Str} {i : Int} (h : Q (.int (Txt.find3 a b i)) H) : rFind (.str a) [.str b, .int i] H Q := ⟨a, b, i, rfl, rfl, h⟩
def rJoin (K : PySem.W.Frag) : V → List V → Hp → VK → Prop := fun x xs H Q => ∃ a p, ∃ ys : List Str, x = .str a ∧ xs = [.ref p] ∧ (SqL K H p (ys.map V.str) ∨ SqT K H p (ys.map V.str)) ∧ (ys.map (·.length)).sum + ys.length * a.length ≤ 16777216 ∧ Q (.str (Txt.join a ys)) H
theorem k_join {X : Cx} (hK : X.K = K) : MtR X "str.join" (rJoin K) := hK ▸ mt_join
theorem join_ {a : Str} {p : Addr} {ys : List Str} (hs : SqL K H p (ys.map V.str) ∨ SqT K H p (ys.map V.str)) (hl : (ys.map (·.length)).sum + ys.length * a.length ≤ 16777216) (h : Q (.str (Txt.join a ys)) H) : rJoin K (.str a) [.ref p] H Q := ⟨a, p, ys, rfl, rfl, hs, hl, h⟩
def rSplit1 : V → List V → Hp → VK → Prop := fun x xs H Q => ∃ a b, x = .str a ∧ xs = [.str b] ∧ (b.length == 0) = false ∧ a.length + 2 ≤ sizeLine ∧ rNewStrs (Txt.split a b) H Q
theorem k_split {X : Cx} : MtR X "str.split" rSplit1 := mt_split
theorem split_ {a b : Str} (hb : (b.length == 0) = false) (ha : a.length ≤ 1000000) (hH : Has H0 ex H L) (h : ∀ p H', H p = none → Has H0 ex H' ((p, .lst ((Txt.split a b).map V.str)) :: L) → Q (.ref p) H') : rSplit1 (.str a) [.str b] H Q :=
  ⟨a, b, rfl, rfl, hb, by rw [sizeLine_eq]; omega, fun p n => h p _ n (hH.new n)⟩
end
section
variable {H0 : Hp} {ex : List Addr} {H : Hp} {L L' : List (Addr × HO)} {Q : VK} {a : Addr} {xs : List V} {y : V}
theorem app_ (hH : Has H0 ex H L) (pt : Put L a (.lst xs) (.lst (xs ++ [y])) L') (f : a ∈ ex ∨ H0 a = none) (hl : xs.length ≤ 1000) (h : ∀ H', Has H0 ex H' L' → Q .non H') : rAppend (.ref a) [y] H Q :=
  ⟨a, xs, y, rfl, rfl, hH.at pt.mem.1, small1000 hl, h _ (hH.put pt f)⟩
end
/-! ### a value as a test -/
section
variable {H : Hp} {K : PySem.W.Frag} {σ : L2.St} {ta : TE} {QT : Bool → Hp → Prop}
def TruK (K : PySem.W.Frag) (QT : Bool → Hp → Prop) (x : V) (H : Hp) : Prop := ∃ k, TruV K x H k ∧ QT k H
def tTru (K : PySem.W.Frag) (ta : TE) : TT := fun σ H QT => ta σ H fun x H1 => TruK K QT x H1
theorem k_truth {X : Cx} {a : Expr} (hK : X.K = K) (ha : PE X a ta) (he : ∀ whole, isTrue a X.env whole = (do let v ← whole; standAt a.pos; holding [v] (truthy v))) : PT X a (tTru K ta) := hK ▸ pt_truth ha he
theorem tru_ (h : ta σ H fun x H1 => TruK K QT x H1) : tTru K ta σ H QT := h
theorem trub {b : Bool} (h : QT b H) : TruK K QT (.bl b) H := ⟨b, rfl, h⟩
end
/-! ### the first place of a sign -/
theorem find3_one {x : Str} {c i : Nat} (hi : i ≤ x.length) : (∃ j : Nat, Txt.find3 x ⟨#[c]⟩ (i : Int) = (j : Int) ∧ i ≤ j ∧ x.cps.toList[j]? = some c ∧ ∀ k, i ≤ k → k < j → x.cps.toList[k]? ≠ some c) ∨
    (Txt.find3 x ⟨#[c]⟩ (i : Int) = -1 ∧ ∀ k, i ≤ k → x.cps.toList[k]? ≠ some c) := by
  have e : fromIndex x.length (i : Int) = i := by
    unfold fromIndex
    have : ¬ ((i : Int) < 0) := by omega
    rw [if_neg this]
    omega
  have at_ : ∀ k, StrLaws.At x ⟨#[c]⟩ x.length k ↔ x.cps.toList[k]? = some c := fun k => by
    have hl : x.length = x.cps.toList.length := by rw [Array.length_toList]; rfl
    unfold StrLaws.At Builtin.Str.subAt
    show k + 1 ≤ x.length ∧ (x.cps.extract k (k + 1) == #[c]) = true ↔ _
    rw [beq_iff_eq, ← Array.toList_inj, Array.toList_extract]
    show _ ∧ (x.cps.toList.drop k).take (k + 1 - k) = [c] ↔ _
    rw [Nat.add_sub_cancel_left, hl]
    constructor
    · rintro ⟨h1, h2⟩
      have h3 := congrArg (fun l => l[0]?) h2
      simpa using h3
    · intro h
      obtain ⟨lt, e⟩ := List.getElem?_eq_some_iff.mp h
      refine ⟨lt, ?_⟩
      rw [List.drop_eq_getElem_cons lt, e]
      rfl
  unfold Txt.find3
  rw [e]
  rcases StrLaws.occ_head_from x ⟨#[c]⟩ i 1 (Nat.le_refl 1) with ⟨h, n⟩ | ⟨j, r, h, lo, hj, n⟩
  · right
    rw [h]
    exact ⟨rfl, fun k hk z => n k hk ((at_ k).mpr z)⟩
  · left
    rw [h]
    exact ⟨j, rfl, lo, (at_ j).mp hj, fun k a b z => n k a b ((at_ k).mpr z)⟩
/-! ### isinstance of what is caught -/
section
variable {X : Cx} {K : PySem.W.Frag}
def rIsX (K : PySem.W.Frag) (cls : Value) (d : Option Addr) (a : Addr) : List V → Hp → VK → Prop := fun xs H Q => ∃ (D dd : Addr) (fs : List (Str × V)) (c : V) (cv : Value) (b : Bool), cls = .ref D ∧ d = some dd ∧ ExcC K D ∧ H dd = some (.xd fs) ∧ xs = [.ref a, c] ∧ (∀ u, RelV c u → u = cv) ∧ PySem.W.kitOne K (.ref D) cv = some b ∧ Q (.bl b) H
theorem call_isX {a : Addr} {oe : Obj} {cls : Value} {d : Option Addr} {pn : List (Addr × Obj)} (hK : X.K = K) (hz : Zc cls d oe) (hf : ∃ vs, oe.data = .fields vs) : CallR (X.suite a ((a, oe) :: pn)) (.builtin "isinstance") (rIsX K cls d a) := by
  subst hK
  intro pins s σ H xs us Q I r h
  obtain ⟨D, dd, fs, c, cv, b, rfl, rfl, C, hd, rfl, hcv, e, q⟩ := h
  obtain ⟨u1, us1, rfl, r1, r2⟩ : ∃ u us', us = u :: us' ∧ RelV (V.ref a) u ∧ Vals [c] us' := by
    cases r with
    | cons r1 r2 => exact ⟨_, _, rfl, r1, r2⟩
  obtain ⟨u2, rfl, r3⟩ := vals1 r2
  cases r1
  have ec := hcv _ r3
  subst ec
  obtain ⟨hget, _⟩ := I.pin (a, oe) (List.mem_append.mpr (.inl List.mem_cons_self))
  obtain ⟨vs, hv⟩ := hf
  obtain ⟨mA, hns, _⟩ := (show ObjOk X.prog X.w H s.heap dd (.xd fs) from I.hok dd _ hd)
  obtain ⟨od, ho, _⟩ := lookIn_ns hns
  have J : PySem.W.InstAt s.heap a oe D (some od) := ⟨hget, hz.1, by unfold PySem.W.notCls; rw [hv], by rw [hz.2]; exact ho⟩
  have hcl : (PySem.W.clsIn X.K D).isSome = true := by
    obtain ⟨cd, hc, _⟩ := PySem.W.any_some C.hd
    rw [hc]
    rfl
  exact PySem.W.kia_one (PySem.W.kitx_exc hcl C.hg C.hk C.hs C.ha C.hn C.ht C.hm) I.kIn J e (fun z => nomatch z) fun tk => ⟨.bl b, H, I.kept (t' := tk) fun _ _ z => z, rfl, q⟩
end
end Sw
set_option Elab.async false
set_option linter.all false
set_option maxRecDepth 100000
set_option maxHeartbeats 4000000
/-! SwLam: lambdas handed on, errors raised and caught, the end of a law with tables. -/
namespace Sw
open PySem PySem.Spec PyProof.Rows L2
/-! ### tables of code objects beside what is known -/
section
variable {B H H1 : Hp} {ex : List Addr} {L : List (Addr × HO)} {T : List (Addr × Str)}
theorem Has.tabs (h : Has B ex H L) (t : LamX.Tabs T B) (hx : ∀ a ∈ ex, ∀ o, B a = some o → ∃ xs, o = .lst xs) : LamX.Tabs T H := by
  intro p hp
  obtain ⟨ps, h1, h2, h3⟩ := t p hp
  have keep : ∀ a o, B a = some o → (∀ xs, o ≠ .lst xs) → H a = some o := fun a o e n => h.keep a o e fun m => by
    obtain ⟨xs, z⟩ := hx a m o e
    exact n xs z
  refine ⟨ps, keep _ _ h1 (fun xs z => by cases z), h2, fun pos cv hc => ?_⟩
  obtain ⟨c, e1, e2⟩ := h3 pos cv hc
  exact ⟨c, e1, keep _ _ e2 (fun xs z => by unfold LamX.CodeO at z; cases z)⟩
theorem Has.rebase (h : Has B ex H L) (e : LamX.ExtN H H1) (hL : ∀ x ∈ L, ∀ ps, x.2 ≠ .tbl ps) (ex' : List Addr) : Has H1 ex' H1 L :=
  ⟨fun _ _ z _ => z, fun x hx => e _ _ (h.get x hx) (hL x hx), h.nd⟩
theorem sq_ext {K : PySem.W.Frag} {a : Addr} {xs : List V} (s : SqL K H a xs) (e : LamX.ExtN H H1) : SqL K H1 a xs := by
  rcases s with r | r
  · refine .inl ?_
    rcases r with r | ⟨o, r⟩
    · exact .inl (e _ _ r fun ps z => by cases z)
    · exact .inr ⟨o, e _ _ r fun ps z => by cases z⟩
  · exact .inr r
end
section
variable {σ : L2.St} {H : Hp} {Q : VK} {T : List (Addr × Str)} {TT : (XK → Hp → VK → Prop) → Hp → VK → Prop} {t : XK → TE}
theorem lam_ (hT : LamX.Tabs T H) (h : ∀ H1, LamX.ExtN H H1 → LamX.Tabs T H1 → TT (fun E H' Q' => t E σ H' Q') H1 Q) : LamX.tLam T TT t σ H Q := ⟨hT, h⟩
end
/-! ### what comes out of a call may be passed on -/
theorem passE {CXg : CXT} {P : Program} {w : World} {K : PySem.W.Frag} {mg : Str → Option Value} {base : Heap} {N : List Str} {qual : Str} {scope : Scope} {f : Addr} {cd : Value} {A : Around} {outer : List Env} {s : Shared} {H : Hp} {E : XK} :
    Passes (L2.CX P w) (cxOf (L2.CX P w) P w K mg base N qual scope f cd A outer s H E) E :=
  passes_call (X := cxOf (L2.CX P w) P w K mg base N qual scope f cd A outer s H E) (W := fun cls d _ H' => E cls d H') (takes_of rfl rfl rfl rfl) fun _ _ _ _ h => h
theorem takesE {P : Program} {w : World} {K : PySem.W.Frag} {mg : Str → Option Value} {base : Heap} {N : List Str} {qual : Str} {scope : Scope} {f : Addr} {cd : Value} {A : Around} {outer : List Env} {s : Shared} {H : Hp} {E : XK} :
    Takes (cxOf (L2.CX P w) P w K mg base N qual scope f cd A outer s H E) (fun cls d _ H' => E cls d H') := takes_of rfl rfl rfl rfl
theorem passLam {X : Cx} {A : Around} {outer : List Env} {s : Shared} {H : Hp} {E : XK} {scope : Scope} {f c' : Addr} : Passes (L2.CX X.prog X.w) (LamX.lamCx X A outer s H E scope f c') E :=
  passes_call (X := LamX.lamCx X A outer s H E scope f c') (W := fun cls d _ H' => E cls d H') (takes_of rfl rfl rfl rfl) fun _ _ _ _ h => h
/-- nothing comes out -/
theorem passN {X : Cx} : Passes (L2.CX X.prog X.w) X (fun _ _ _ => False) := passes_call (W := fun _ _ _ _ => False) LamX.takes0 fun _ _ _ _ h => h
/-! ### own errors with one field -/
/-- __init__ of an error: self.f = v -/
def spErr (C : Addr) (f : Str) : Sp := fun vs H Q _ => ∃ (a : Addr) (v : V), vs = [.ref a, v] ∧ H a = some (exo a C none) ∧ ∀ dx, H dx = none → dx ≠ a → Q .non (upd (upd H dx (exd dx [(f, v)])) a (exo a C (some dx)))
theorem ost_ {K : PySem.W.Frag} {f : Str} {to te : TE} {nx bk ct : L2.St → Hp → Prop} {rt : VK} {σ : L2.St} {H : Hp} {a C : Addr} {y : V} (T : OexC K C) (hno : PySem.W.findIn K (.ref C) f = some none) (ha : H a = some (exo a C none))
    (h1 : ∀ R : V → Hp → Prop, R y H → te σ H R) (h2 : ∀ R : V → Hp → Prop, R (.ref a) H → to σ H R) (h : ∀ dx, H dx = none → dx ≠ a → nx σ (upd (upd H dx (exd dx [(f, y)])) a (exo a C (some dx)))) : tOst K f to te ⟨nx, rt, bk, ct⟩ σ H :=
  h1 _ (h2 _ ⟨a, C, rfl, T, hno, .inl ⟨ha, h⟩⟩)
/-- raise C(e) -/
def RzK (C : Addr) (f : Str) (W : XK) (vs : List V) (H1 : Hp) : Prop := ∃ v, vs = [v] ∧ ∀ dd H', Has H1 [] H' [(dd, .xd [(f, v)])] → W (.ref C) (some dd) H'
theorem mko_ {C : Addr} {f : Str} {ta : TA} {σ : L2.St} {H : Hp} {W : XK} (h : ta σ H fun vs H1 => RzK C f W vs H1) (mono : ∀ R R' : List V → Hp → Prop, (∀ vs H1, R vs H1 → R' vs H1) → ta σ H R → ta σ H R') : tMkO C (spErr C f) [] ta σ H W := by
  refine mono _ _ (fun vs H1 q => ?_) h
  obtain ⟨v, rfl, q⟩ := q
  refine ⟨Nat.le_of_ble_eq_true rfl, fun a ha => ⟨a, v, rfl, upd_same, fun dx n ne => ⟨rfl, dx, [(f, v)], upd_same, ?_, ?_, ?_⟩⟩⟩
  · rw [upd_ne ne, upd_same]
  · rw [upd_ne ne] at n
    exact n
  · rw [upd_ne ne] at n
    refine q dx _ ⟨fun b o e _ => ?_, fun x hx => ?_, by simp⟩
    · have h1 : b ≠ dx := ne_of_none e n
      have h2 : b ≠ a := ne_of_none e ha
      rw [upd_ne h1, del_ne h2, upd_ne h2, upd_ne h1, upd_ne h2]
      exact e
    · rw [List.mem_singleton] at hx
      subst hx
      exact upd_same
/-! ### defs whose code object is known, defs that let errors out -/
section
variable {P : Program} {w : World} {K : PySem.W.Frag} {mg : Str → Option Value} {base : Heap} {x qual : Str} {st : Stmt} {f c : Addr} {oc : Value} {od an : Option Addr} {osl : Array (Option Value)} {kV doc pm ct : Value} {N ps : List Str} {k : Nat} {sp : Sp}
theorem ok_code (lk : K.lookup f = some ⟨oc, od, .func (PySem.W.fnOf x qual (defArgs st) (defBody st) (defScope st) .none kV doc pm an (.ref c) ct), osl⟩) (hcd : PySem.W.codeIn K (.ref c) qual = true) (S : FnScope N ps (defScope st)) (len : ∀ vs H Q E, sp vs H Q E → vs.length = ps.length)
    (hbody : ∀ (A : Around) (outer : List Env) (s : Shared) (H : Hp) (vs : List V) (Q : VK) (E : XK), Room k (A.deeper (envOfC qual (defScope st) s.heap.objs.size f (.ref c))) → sp vs H Q E →
      ∃ t, PSs (cxOf CX0 P w K mg base N qual (defScope st) f (.ref c) A outer s H E).nox (defBody st) t ∧ t { nx := fun _ H' => Q .non H', rt := Q } (start N vs) H) :
    FnOk P w K mg base CX0 (k + 1) f (PySem.W.fnOf x qual (defArgs st) (defBody st) (defScope st) .none kV doc pm an (.ref c) ct) ps sp := by
  refine fn_of lk hcd S len fun A outer s H vs Q E hr h => ?_
  obtain ⟨t, d, q⟩ := hbody A outer s H vs Q E hr h
  exact ⟨t, d.nox, q⟩
theorem Fun.okE {fd : FuncData} (F : Fun K x qual st f fd) (S : FnScope N ps (defScope st)) (len : ∀ vs H Q E, sp vs H Q E → vs.length = ps.length)
    (hbody : ∀ (cdv : Value) (A : Around) (outer : List Env) (s : Shared) (H : Hp) (vs : List V) (Q : VK) (E : XK), Room k (A.deeper (envOfC qual (defScope st) s.heap.objs.size f cdv)) → sp vs H Q E →
      ∃ t, PSs (cxOf (L2.CX P w) P w K mg base N qual (defScope st) f cdv A outer s H E) (defBody st) t ∧ t { nx := fun _ H' => Q .non H', rt := Q } (start N vs) H) : FnOk P w K mg base (L2.CX P w) (k + 1) f fd ps sp := by
  obtain ⟨oc, od, kV, doc, pm, an, cdv, ct, osl, rfl, lk, hcd⟩ := F.ex
  exact fn_of lk hcd S len fun A outer s H vs Q E hr h => hbody cdv A outer s H vs Q E hr h
end
/-! ### the end of a law with tables -/
theorem walk_top {l : PySem.W.OpenLaw} {n k : Nat} {q : Program} {loose : List Str} {XP : (Str → Option Value) → Heap → Prop} {YP : World → Heap → Prop} {d : DefRec} {K : Params → PySem.W.Frag} {CX : World → CXT} {x : Str}
    (hn : l.most = some n) (hn2 : n ≤ sizeLine) (hdf : d.params.defaults = []) (hr : Room k callerA) (hY : ∀ (w : World) (h : Heap), YP w h → (K w.params).In h)
    (F : ∀ (w : World) (mean : ExcName → Option Value) (mg mb : Str → Option Value) (fa : Addr) (h : Heap), YP w h → (K w.params).In h → PyProof.Rows.Top q (PySem.W.looseW q loose) mean mg mb h → mg d.name = some (.ref fa) → LamX.LawAtS l w (K w.params) (CX w) k n x mg fa h)
    (hCX : ∀ (w : World) (H : Hp) (s : Shared) (e : Value) (s' : Shared), CX w [] H s (fun _ _ _ => False) e s' → False) :
    PySem.W.WalkO q loose XP YP l.row.toRowW d [] (fun f vs => PySem.call f vs) := by
  refine Att.attach_callB hn hdf fun w s₀ s₁ mg mb fa o pm cd doc a vs ns G Y ho hd hcd hmg hob hints hlen hbits hgen => ?_
  have inK := hY w _ Y
  obtain ⟨fd, cs, sp, t1, t2, t3, hb, hsp, hF⟩ := F w _ mg mb fa _ Y inK G.T hmg
  exact LamX.law_callTs inK G.T.g G.T.b G.T.builtins G.T.nolimit hgen t1 t2 t3 G.T.bmain hob hints (Nat.le_trans hlen hn2) hr hF hb (fun H hH hS => hsp H a ns hlen hbits hH hS) fun H e s' => hCX w H s₁ e s'
end Sw
set_option Elab.async false
set_option linter.all false
set_option maxRecDepth 100000
set_option maxHeartbeats 4000000
/-! SwRz: raise C(e), enumerate over a list or a tuple, replace. -/
namespace SwEn
open PySem
open Sem (wp)
section
variable {prog : Program} {w : World} {A : Around}
set_option maxHeartbeats 1000000 in
theorem meetsEn {u : Value} {ob : Obj} {Hh : Heap → Prop} (B : Begins u ob Hh) :
    Meets (Builtin.«enumerate.__new__» ⟨[.type "enumerate", u], []⟩) (fun _ R z => Hh z.heap ∧
      R (.ok (.ret (.ref (z.heap.push ob).objs.size))) { z with heap := (z.heap.push ob).push ⟨.type "enumerate", none, .fields #[.none, .bool false, .ref z.heap.objs.size, rawInt 0, .none, .none], #[]⟩ }) :=
  .of_wp fun prog w A R z hz => by
    obtain ⟨H1, gg, dd, tt, oo⟩ := z
    obtain ⟨hb, hz⟩ := hz
    have hsub := sub_enumerate
    have itr : ∀ {A1 : Around} {E1 : Value → Shared → Prop} {Q1 : Value → Shared → Prop}, Q1 (.ref H1.objs.size) ⟨H1.push ob, gg, dd, tt, oo⟩ → wpAny (model prog w) A1 (pyIter u) Q1 E1 ⟨H1, gg, dd, tt, oo⟩ :=
      fun q => B.iter prog w _ _ ⟨H1, gg, dd, tt, oo⟩ _ hb q
    wp_walk using itr
    refine wpAny_stack_any fun _ => wpAny_pure ?_
    split
    · next c _ _ _ _ _ =>
      cases (c == Value.type "enumerate") <;>
      · wp_walk using itr
        exact ⟨_, rfl, hz⟩
    · wp_walk using itr
      exact ⟨_, rfl, hz⟩
end
end SwEn
namespace SwEn
open PySem PySem.Spec PyProof.Rows L2
open Sem (wp)
section
variable {prog : Program} {w : World} {A : Around} {E : Value → Shared → Prop} {s : Shared}
theorem callEn {u : Value} {ob : Obj} {Hh : Heap → Prop} {Q : Value → Shared → Prop} (B : Begins u ob Hh) (hb : Hh s.heap)
    (fin : ∀ G, IsEnum G (s.heap.objs.size + 1) s.heap.objs.size 0 .none → G.get? s.heap.objs.size = some ob → (∀ x y, s.heap.get? x = some y → G.get? x = some y) → Q (.ref (s.heap.objs.size + 1)) { s with heap := G }) :
    wpAny (model prog w) A (call (.type "enumerate") [u]) Q E s := by
  refine callType_new PySem.F.called_enumerate (by decide) (PySem.F.typeCall_enumerate_1 _) (PySem.F.newCall_enumerate_1 _) (fun obj => PySem.F.args_object_init_2 obj _) PySem.F.entry_enumerate_new (meetsEn B) ⟨hb, ?_⟩
  have sz : (s.heap.push ob).objs.size = s.heap.objs.size + 1 := Heap.size_push ..
  obtain ⟨eo, heo⟩ : ∃ eo : Obj, eo = ⟨.type "enumerate", none, .fields #[.none, .bool false, .ref s.heap.objs.size, rawInt 0, .none, .none], #[]⟩ := ⟨_, rfl⟩
  rw [← heo]
  have en : IsEnum ((s.heap.push ob).push eo) (s.heap.objs.size + 1) s.heap.objs.size 0 .none := by
    have z := Heap.get?_push_size (s.heap.push ob) (o := eo) (by rw [heo]; rfl)
    rw [sz, heo] at z
    rw [heo]
    exact z
  show _ ∧ _
  rw [sz]
  exact ⟨⟨_, en, rfl⟩, fin _ en (Heap.get?_push_of_some _ (Heap.get?_push_size _ B.free)) fun x y z => Heap.get?_push_of_some _ (Heap.get?_push_of_some _ z)⟩
end
/-- the tuple at a, each item in a new pair with its number -/
def ItEt (K : PySem.W.Frag) (a : Addr) : It :=
  ⟨fun i H => ∃ (ys : List V) (y : V), SqT K H a ys ∧ ys[i]? = some y, fun i H v H' => ∃ T y, v = .ref T ∧ H T = none ∧ H' = upd H T (.tup [.int (i : Nat), y]) ∧ ∀ ys, SqT K H a ys → ys[i]? = some y, fun i H => ∃ ys : List V, SqT K H a ys ∧ ys.length ≤ i⟩
theorem turnEt {P : Program} {w : World} {K : PySem.W.Frag} {elts : List Expr} {kk : Nat} {tpos : Pos} (a e j : Addr) :
    Turn P w K (.Tuple elts kk tpos) (ItEt K a) [e, j] e (fun i h => (∃ o, IsEnum h e j ((i : Nat) : Int) o) ∧ h.IsTupleIter j a i ∧ e ≠ j) where
  mem := by simp
  obj := fun i h st b hb => by
    obtain ⟨⟨o1, he⟩, ⟨o, ho, hc, hd⟩, _⟩ := st
    rcases (show b = e ∨ b = j by simpa using hb) with rfl | rfl
    · exact ⟨_, he, fun v q => nomatch q⟩
    · exact ⟨o, ho, fun v q => by rw [hd] at q; cases q⟩
  keep := fun i h h' st k => ⟨⟨st.1.choose, k e (by simp) _ st.1.choose_spec⟩, st.2.1.at fun o q => k j (by simp) o q, st.2.2⟩
  item := by
    intro X hP hw hK hc i pins s σ H E I hf st hg
    subst hP hw hK
    obtain ⟨⟨o1, he⟩, hj, ne⟩ := st
    obtain ⟨ys, y, hs, hy⟩ := hg
    obtain ⟨its, rv, p, hz⟩ := I.tuple hs
    have ht : s.heap.IsTuple a its.toArray := p
    obtain ⟨u, hu, ru⟩ := rv.get hy
    have le := Heap.lt_size he
    have lj : j < s.heap.objs.size := by
      obtain ⟨_, q, _⟩ := hj
      exact Heap.lt_size q
    have na : a ≠ j := fun z => by
      subst z
      obtain ⟨o2, g2, c2, _⟩ := hj
      obtain ⟨o3, g3, c3, _⟩ := ht
      rw [g2] at g3
      cases g3
      rw [c2] at c3
      exact absurd c3 (by decide)
    have nae : e ≠ a := fun z => by
      subst z
      obtain ⟨o3, g3, c3, _⟩ := ht
      rw [show s.heap.get? e = some _ from he] at g3
      cases g3
      exact absurd (Value.type.inj (show Value.type "enumerate" = Value.type "tuple" from c3)) (by decide)
    have D := Draws.tuple (prog := X.prog) (w := X.w) (A := X.A.in1) (I.ok.hd hc) j a na its.toArray
    refine wpAny_pyNext_enum_itemD D he ⟨hj, ht⟩ (show i < its.toArray.size from by
      have := (List.getElem?_eq_some_iff.mp hu).1
      simpa using this) ne (by simp [ne, nae]) fun x h' tk px ho st' hT hsz hk => ?_
    have ex : u = x := Option.some.inj (by rw [← px, ← hu]; simp)
    subst ex
    refine ⟨_, rfl, wpAny_letOwnedTupleGo_enum (s := { s with heap := h', toks := tk + 1 }) ho fun h2 he2 sb => ?_⟩
    have hT2 : h2.get? s.heap.objs.size = some { cls := .type "tuple", data := .seq #[.int i tk, u] } := (sb.2 _ (Nat.ne_of_gt le)).trans hT
    have I1 : Inv X pins σ (upd H s.heap.objs.size (.tup [.int (i : Nat), y])) { s with heap := h2, toks := tk + 1 } :=
      I.turnedNew (ch := [e, j]) (fun b ob hb q => (sb.2 b (fun z => hb (by simp [z]))).trans (hk b ob (fun z => hb (by simp [z])) (fun z => hb (by simp [z])) q)) hf (Nat.le_refl _)
        ⟨by show 2 ≤ sizeLine; decide, [.int i tk, u], .cons ⟨_, rfl⟩ (.cons ru .nil), ⟨_, hT2, rfl, _, rfl⟩⟩
    refine ⟨.ref s.heap.objs.size, _, I1, rfl, ⟨_, y, rfl, I.hok.fresh (Nat.le_refl _), rfl, fun zs hzs => by rw [I.tuple_inj hzs hs]; exact hy⟩, ⟨⟨u, ?_⟩, st'.1.at fun o q => (sb.2 j (Ne.symm ne)).trans q, ne⟩, fun b hb => ?_⟩
    · rw [show ((i + 1 : Nat) : Int) = (i : Int) + 1 by omega]
      exact he2
    · have hb' : b < s.heap.objs.size := by
        rcases (show b = e ∨ b = j by simpa using hb) with rfl | rfl
        · exact le
        · exact lj
      rw [upd_ne (Nat.ne_of_lt hb')]
      exact (hf b hb).1
  done := by
    intro X hP hw hK hc i pins s σ H E I hf st hg
    subst hP hw hK
    obtain ⟨⟨o1, he⟩, hj, ne⟩ := st
    obtain ⟨ys, hs, hy⟩ := hg
    obtain ⟨its, rv, p, hz⟩ := I.tuple hs
    have ht : s.heap.IsTuple a its.toArray := p
    obtain ⟨f0, f1, f2, f3, f4, f5⟩ := hf j (by simp)
    have hl := rv.length
    have T : s.TypeIs (.ref e) "enumerate" := ⟨_, he, rfl⟩
    unfold pyNext
    refine wpAny_bind (wpAny_attempt (wpAny_callSpecial?_slot (name := Str.ofString "__next__") T PySem.F.slot_enumerate_next (wpAny_call_entry PySem.F.slot_enumerate_next T PySem.F.entry_enumerate_next ?_ (PySem.F.args_enumerate_next_1 _))))
    show wpAny _ _ (field (.ref e) 2 >>= _) _ _ _
    refine wpAny_bind (wpAny_field he rfl (x := .ref j) rfl ?_)
    refine wpAny_bind (wpAny_nextOf_tuple_end (I.ok.hd hc) hj ht (by simp; omega) fun h' x eb hx => ?_)
    obtain ⟨o, ho, oc⟩ := hx
    refine wpAny_bind (wpAny_isInstance (T := "StopIteration") (b := true) ⟨o, ho, oc⟩ isSubtype_stop ?_)
    exact wpAny_pure ⟨rfl, I.turned (t' := s.toks) (fun b o hb q => eb b o hb q) f0 f1 f3 f4 f5⟩
  self := fun A i s Q E st h => wpAny_pyIter_enum st.1.choose_spec h
/-- enumerate(list or tuple) -/
def iEnS (K : PySem.W.Frag) (ta : TA) : TI := fun σ H R => ta σ H fun vs H1 => ∃ a, vs = [.ref a] ∧ (((∃ xs, SqL K H1 a xs) ∧ R (Ite K a) H1) ∨ ((∃ xs, SqT K H1 a xs) ∧ R (ItEt K a) H1))
theorem pi_enS {X : Cx} {e : Expr} {ta : TA} {p pos tpos : Pos} {elts : List Expr} {kk : Nat} (hg : Gl X "enumerate") (hm : X.mg "enumerate" = none) (ha : PA X [e] ta) (hs : starEach [e] X.env = [(false, eval e X.env)] := by rfl) :
    PI X (.Tuple elts kk tpos) (.Call (.Name "enumerate" p) [e] [] pos) (iEnS X.K ta) := by
  constructor
  intro pins s σ H R I h
  refine Call_ (ld_blt I hg hm boot_enumerate (PyProof.Rows.callWith_type1 (thn (ha.run pos pins s σ H _ I h) ?_) hs rfl))
  rintro us t ⟨vs, G, J, rv, a, rfl, z⟩
  cases rv with
  | cons r rr =>
  cases rr
  cases r
  have fr : ∀ b ∈ [t.heap.objs.size + 1, t.heap.objs.size], t.heap.objs.size ≤ b := fun b hb => by
    rcases (show b = t.heap.objs.size + 1 ∨ b = t.heap.objs.size by simpa using hb) with rfl | rfl
    · exact Nat.le_add_right _ _
    · exact Nat.le_refl _
  rcases z with ⟨⟨xs, hx⟩, q⟩ | ⟨⟨xs, hx⟩, q⟩
  · obtain ⟨us, _, il, _⟩ := J.list hx
    refine callEn (begins_list a us.toArray) il.isList fun G1 en g1 kp => wpAny_pyIter_enum en ?_
    exact ⟨t.heap.objs.size + 1, [t.heap.objs.size + 1, t.heap.objs.size], _, _, G, rfl, J.kept (t' := t.toks) kp, turn_enum a _ t.heap.objs.size, ⟨⟨.none, en⟩, ⟨_, g1, rfl, rfl⟩, Nat.succ_ne_self _⟩,
      fun b hb => J.fpOk (fr b hb) (J.hok.fresh (fr b hb)), q⟩
  · obtain ⟨us, _, il, _⟩ := J.tuple hx
    refine callEn (begins_tuple a us.toArray) il fun G1 en g1 kp => wpAny_pyIter_enum en ?_
    exact ⟨t.heap.objs.size + 1, [t.heap.objs.size + 1, t.heap.objs.size], _, _, G, rfl, J.kept (t' := t.toks) kp, turnEt a _ t.heap.objs.size, ⟨⟨.none, en⟩, ⟨_, g1, rfl, rfl⟩, Nat.succ_ne_self _⟩,
      fun b hb => J.fpOk (fr b hb) (J.hok.fresh (fr b hb)), q⟩
end SwEn
namespace Sw
open PySem PySem.Spec PyProof.Rows L2
/-! ### raise C(e) -/
def tRz (C : Addr) (f : Str) (ta : TA) (E : XK) : TS := fun _ σ H => tMkO C (spErr C f) [] ta σ H E
def RzE (C : Addr) (f : Str) (W : XK) (vs : List V) (H1 : Hp) : Prop := vs.length ≤ 1000 ∧ ∀ a, H1 a = none → spErr C f (.ref a :: (vs ++ [])) (upd H1 a (exo a C none))
  (fun v H2 => v = .non ∧ ∃ (d : Addr) (fs : List (Str × V)), H2 a = some (exo a C (some d)) ∧ H2 d = some (exd d fs) ∧ H1 d = none ∧ W (.ref C) (some d) (upd (del H2 a) d (.xd fs))) (fun _ _ _ => False)
section
variable {C : Addr} {f : Str} {ta : TA} {σ : L2.St} {H : Hp} {E : XK} {nx bk ct : L2.St → Hp → Prop} {rt : VK}
theorem rz_ (h : ta σ H fun vs H1 => RzE C f E vs H1) : tRz C f ta E ⟨nx, rt, bk, ct⟩ σ H := h
theorem rzE {v : V} (h : ∀ dd H', Has H [] H' [(dd, .xd [(f, v)])] → E (.ref C) (some dd) H') : RzE C f E [v] H := by
  refine ⟨Nat.le_of_ble_eq_true rfl, fun a ha => ⟨a, v, rfl, upd_same, fun dx n ne => ⟨rfl, dx, [(f, v)], upd_same, ?_, ?_, ?_⟩⟩⟩
  · rw [upd_ne ne, upd_same]
  · rwa [upd_ne ne] at n
  · rw [upd_ne ne] at n
    refine h dx _ ⟨fun b o e _ => ?_, fun x hx => ?_, by simp⟩
    · have h1 : b ≠ dx := ne_of_none e n
      have h2 : b ≠ a := ne_of_none e ha
      rwa [upd_ne h1, del_ne h2, upd_ne h2, upd_ne h1, upd_ne h2]
    · cases List.mem_singleton.mp hx
      exact upd_same
end
/-- an own class of errors that may be raised by its name -/
structure RzOk (P : Program) (w : World) (K : PySem.W.Frag) (mg : Str → Option Value) (base : Heap) (x : Str) (C : Addr) (f : Str) : Prop where
  T : OexC K C
  gm : mg x = some (.ref C)
  ini : ∃ (g : Addr) (fd : FuncData), PySem.W.findIn K (.ref C) "__init__" = some (some (.ref g)) ∧ PySem.W.typeIn K (.ref g) = some (.type "function") ∧ FnOk P w K mg base CX0 1 g fd ["self", f] (spErr C f) ∧ Binds K fd ["self", f] []
theorem ps_rz {X : Cx} {k : Nat} {x f : Str} {C : Addr} {e : Expr} {ta : TA} {E : XK} {p pos pos' : Pos} (R : RzOk X.prog X.w X.K X.mg X.base x C f) (hc : X.calm = true) (tk : Takes X (fun cls d _ H => E cls d H)) (hr : Room k X.A) (hk : 2 ≤ k) (hg : Gl X x) (ha : PA X [e] ta)
    (hdb : (x == ("__debug__" : Str)) = false := by decide) (he : starEach [e] X.env = (false, eval e X.env) :: starEach [] X.env := by rfl) (hpl : (backTo pos (starEach [] X.env)).any (·.1) = false := by rfl) :
    PS X (.Raise (some (.Call (.Name x p) [e] [] pos)) none pos') (tRz C f ta E) := by
  obtain ⟨g, fd, i1, i2, F, hb⟩ := R.ini
  exact ps_raise hc tk (pmk_oex R.T i1 i2 F (hr.mono hk) hb .nil pass0 hg R.gm ha hdb he hpl)
/-- self.f = e in such an __init__ -/
theorem k_ost {X : Cx} {K : PySem.W.Frag} {o e : Expr} {f : Str} {to te : TE} {p' pos : Pos} (hK : X.K = K) (ho : PE X o to) (he : PE X e te) (hs : swapsWith e (some (.Attribute o f p')) pos.line X.env = pure false := by rfl) :
    PS X (.Assign [.Attribute o f p'] e pos) (tOst K f to te) := hK ▸ ps_ost ho he hs
/-! ### enumerate -/
section
variable {K : PySem.W.Frag} {R : It → Hp → Prop} {ta : TA} {σ : L2.St} {H : Hp} {a : Addr} {xs : List V} {g : TG} {tb : TS} {nx : L2.St → Hp → Prop} {rt : VK}
theorem k_enS {X : Cx} {e : Expr} {p pos tpos : Pos} {elts : List Expr} {kk : Nat} (hK : X.K = K) (hg : Gl X "enumerate") (hm : X.mg "enumerate" = none) (ha : PA X [e] ta) (hs : starEach [e] X.env = [(false, eval e X.env)] := by rfl) :
    PI X (.Tuple elts kk tpos) (.Call (.Name "enumerate" p) [e] [] pos) (SwEn.iEnS K ta) := hK ▸ SwEn.pi_enS hg hm ha hs
def EnK (K : PySem.W.Frag) (R : It → Hp → Prop) (vs : List V) (H1 : Hp) : Prop := ∃ a, vs = [.ref a] ∧ (((∃ xs, SqL K H1 a xs) ∧ R (Ite K a) H1) ∨ ((∃ xs, SqT K H1 a xs) ∧ R (SwEn.ItEt K a) H1))
theorem en_ (h : ta σ H fun vs H1 => EnK K R vs H1) : SwEn.iEnS K ta σ H R := h
theorem fork_en (Pv : Nat → L2.St → Hp → Prop) (h0 : Pv 0 σ H) (hl : (∀ i σ H, i ≤ xs.length → Pv i σ H → SqL K H a xs) ∨ (∀ i σ H, i ≤ xs.length → Pv i σ H → SqT K H a xs))
    (hs : ∀ (i : Nat) x σ H T, xs[i]? = some x → Pv i σ H → H T = none → g (.ref T) σ (upd H T (.tup [.int i, x])) fun σ2 H2 => tb ⟨Pv (i + 1), rt, nx, Pv (i + 1)⟩ σ2 H2) (hd : ∀ σ H, Pv xs.length σ H → nx σ H) : EnK K (fun J H1 => ForK g tb nx rt σ J H1) [.ref a] H := by
  rcases hl with hl | hl
  all_goals refine ⟨a, rfl, ?_⟩
  · refine .inl ⟨⟨xs, hl 0 _ _ (Nat.zero_le _) h0⟩, fun i m σ H => m + i = xs.length ∧ Pv i σ H, ⟨xs.length, rfl, h0⟩, fun i m σ H ⟨hm, hp⟩ => ?_⟩
    by_cases z : i = xs.length
    · subst z
      exact .inl ⟨⟨xs, hl _ _ _ (Nat.le_refl _) hp, Nat.le_refl _⟩, hd _ _ hp⟩
    · have lt : i < xs.length := by omega
      refine .inr ⟨⟨xs, xs[i], hl i _ _ (by omega) hp, List.getElem?_eq_getElem lt⟩, Pv (i + 1), fun σ' H' q => ⟨m - 1, by omega, by omega, q⟩, fun x H' q => ?_⟩
      obtain ⟨T, y, rfl, n, rfl, hy⟩ := q
      exact hs i y σ H T (hy _ (hl i _ _ (by omega) hp)) hp n
  · refine .inr ⟨⟨xs, hl 0 _ _ (Nat.zero_le _) h0⟩, fun i m σ H => m + i = xs.length ∧ Pv i σ H, ⟨xs.length, rfl, h0⟩, fun i m σ H ⟨hm, hp⟩ => ?_⟩
    by_cases z : i = xs.length
    · subst z
      exact .inl ⟨⟨xs, hl _ _ _ (Nat.le_refl _) hp, Nat.le_refl _⟩, hd _ _ hp⟩
    · have lt : i < xs.length := by omega
      refine .inr ⟨⟨xs, xs[i], hl i _ _ (by omega) hp, List.getElem?_eq_getElem lt⟩, Pv (i + 1), fun σ' H' q => ⟨m - 1, by omega, by omega, q⟩, fun x H' q => ?_⟩
      obtain ⟨T, y, rfl, n, rfl, hy⟩ := q
      exact hs i y σ H T (hy _ (hl i _ _ (by omega) hp)) hp n
end
/-! ### replace -/
section
variable {X : Cx}
/-- a text and an operator ahead of what wants a token -/
theorem pe_opT {op : Operator} {r : R2} {z : Str} {j : Nat} {p1 pos : Pos} {e : Expr} {te : TE} (ho : OpR X (binaryOp op) r) (he : PET X e te) : PE X (.BinOp (.Constant (.str z) j p1) op e pos) (tOp r (tC (.str z)) te) := by
  constructor
  intro pins s σ H Q I h
  refine wpAny_BinOp (Calls.Constant_str ?_)
  exact thn (he pins { s with toks := s.toks + 1 } σ H _ (Nat.le_add_left _ _) (I.tok _) h) fun u s2 ⟨y, H2, I2, r2, q2⟩ => ho pins s2 σ H2 (.str z) y _ u Q I2 ⟨_, rfl⟩ r2 q2
def ReplK (y z : Str) (Q : VK) (v : V) (H1 : Hp) : Prop := ∃ x, v = .str x ∧ x.length + (x.length + 1) * z.length ≤ 16777216 ∧ Q (.str (Txt.replace x y z)) H1
theorem repl_ {to : TE} {y z : Str} {σ : L2.St} {H : Hp} {Q : VK} (h : to σ H fun v H1 => ReplK y z Q v H1) : CwR.tReplC to y z σ H Q := h
end
end Sw
set_option Elab.async false
set_option linter.all false
set_option maxRecDepth 100000
set_option maxHeartbeats 4000000
/-! SwLv: lambdas as values: made where they stand, kept, called later by a name. -/
namespace Sw
open PySem PySem.Spec PyProof.Rows L2
/-- the function at f: a lambda without parameters, its code object at c -/
def FunO (q : Str) (ar : Arguments) (bd : Expr) (sc : Scope) (cl : List (Str × Addr)) (c f : Addr) : HO := .ext fun h => ∃ pm ctv, h.get? f = some (PySem.W.kla_obj "<lambda>" q ar bd sc cl pm c ctv)
theorem funO_ok {P : Program} {w : World} {H : Hp} {h : Heap} {q : Str} {ar : Arguments} {bd : Expr} {sc : Scope} {cl : List (Str × Addr)} {c f : Addr} {pm ctv : Value} (e : h.get? f = some (PySem.W.kla_obj "<lambda>" q ar bd sc cl pm c ctv)) : ObjOk P w H h f (FunO q ar bd sc cl c f) :=
  ⟨⟨pm, ctv, e⟩, ⟨_, e⟩, fun _ _ z st => z.elim fun a z => z.elim fun b y => ⟨a, b, st _ y⟩⟩
section
variable {X : Cx} {pins : List (Addr × Obj)} {σ : L2.St} {H : Hp} {s : Shared}
theorem lamNew {T : List (Addr × Str)} {c P : Addr} {ar : Arguments} {bd : Expr} {sc : Scope} {pos : Pos} {E Q : Value → Shared → Prop} (I : Inv X pins σ H s) (TB : LamX.TabB X.base X.mg c P) (eqc : X.env.code = .ref c) (mT : (P, X.env.qual ++ "<lambda>") ∈ T)
    (uT : ∀ r ∈ T, r.1 = P → r.2 = X.env.qual ++ "<lambda>") (tabs : LamX.Tabs T H) (dflt : defaultsOf ar X.env = ([], [])) (free : ∀ y ∈ sc.names, y.2 = .free → ∃ z, X.env.cells.lookup y.1 = some z)
    (fin : ∀ (f k : Addr) (G : Hp) (r : Shared), Inv X pins σ G r → LamX.ExtN H G → LamX.Tabs T G → H f = none → G f = some (FunO (X.env.qual ++ "<lambda>") ar bd sc (cloFrom X.env.cells sc.names []) k f) → G k = some (LamX.CodeO k (X.env.qual ++ "<lambda>")) → Q (.ref f) r) :
    wpAny (model X.prog X.w) X.A (eval (.Lambda ar bd sc pos) X.env) Q E s := by
  obtain ⟨ps, hp, tri, all⟩ := tabs _ mT
  obtain ⟨qn, hq⟩ : ∃ qn, qn = X.env.qual ++ "<lambda>" := ⟨_, rfl⟩
  have got : s.heap.get? P = some { cls := .none, data := .fields ps } := I.hok P _ hp
  have bi : s.heap.BuiltinsAt X.mg P := TB.bm.keeps I.bk
  apply PySem.W.kla_eval dflt
  rcases ec : codeAmong pos ps.toList with _ | cv
  · refine PySem.W.kla_makeFunction (mg := X.mg) (c := c) (P := P) (ps := ps) (closure_ok free) I.ok.glob (I.mod.glob.keeps I.bk) eqc (TB.code.keeps I.bk) got tri ec TB.gP bi fun k ctv h1 tk kp ge lt rec tb => ?_
    obtain ⟨k2, oc, vs, tq, e2, r1, r2, r3⟩ := rec
    cases e2
    have fresh : H k = none := I.hok.fresh ge
    have I0 := LamX.inv_table (t' := tk) (h' := h1) I hp kp tb ge ⟨oc, vs, tq, r1, r2, r3⟩
    have ext : LamX.ExtN H (upd (upd H P (.tbl (ps ++ #[rawInt pos.line, rawInt pos.col, .ref k]))) k (LamX.CodeO k (X.env.qual ++ "<lambda>"))) := fun b o e n => by
      have n1 := ne_of_none e fresh
      have n2 : b ≠ P := fun z => n ps (Option.some.inj (e.symm.trans (z ▸ hp)))
      rwa [upd_ne n1, upd_ne n2]
    have le : s.heap.objs.size ≤ h1.objs.size := Nat.le_trans ge (Nat.le_of_lt lt)
    have nf : H h1.objs.size = none := I.hok.fresh le
    have put : ∀ b u, (upd (upd H P (.tbl (ps ++ #[rawInt pos.line, rawInt pos.col, .ref k]))) k (LamX.CodeO k (X.env.qual ++ "<lambda>"))) b = some u → b ≠ h1.objs.size := fun b u e => ne_of_none e (I0.hok.fresh (Nat.le_refl _))
    have I1 := I0.laid (t' := tk) (h' := h1.push (PySem.W.kla_obj "<lambda>" (X.env.qual ++ "<lambda>") ar bd sc (cloFrom X.env.cells sc.names []) ((X.mg "__name__").getD .none) k ctv)) (fun b o e => Heap.get?_push_of_some _ e) (Nat.le_refl _) (funO_ok (Heap.get?_push_size _ rfl))
    have ext2 := ext.trans (LamX.ExtN.of fun b o e => (upd_ne (put b o e)).trans e : LamX.ExtN _ (upd _ h1.objs.size (FunO (X.env.qual ++ "<lambda>") ar bd sc (cloFrom X.env.cells sc.names []) k h1.objs.size)))
    refine fin h1.objs.size k _ _ I1 ext2 (fun r hr => ?_) nf upd_same ((upd_ne (put k _ upd_same)).trans upd_same)
    by_cases hb : r.1 = P
    · rw [uT r hr hb, hb]
      have atP : (upd (upd H P (.tbl (ps ++ #[rawInt pos.line, rawInt pos.col, .ref k]))) k (LamX.CodeO k (X.env.qual ++ "<lambda>"))) P = some (.tbl (ps ++ #[rawInt pos.line, rawInt pos.col, .ref k])) := by rw [upd_ne (ne_of_none hp fresh), upd_same]
      have tl : (ps ++ #[rawInt pos.line, rawInt pos.col, .ref k]).toList = ps.toList ++ [rawInt pos.line, rawInt pos.col, .ref k] := by simp
      refine ⟨_, (upd_ne (put P _ atP)).trans atP, by rw [tl]; exact PySem.TriplesOk_snoc _ _ _ _ tri, fun p2 cv hcv => ?_⟩
      rw [tl] at hcv
      rcases LamX.among_app _ tri hcv with z | rfl
      · obtain ⟨c0, a1, a2⟩ := all p2 cv z
        exact ⟨c0, a1, ext2 _ _ a2 LamX.codeO_ne⟩
      · exact ⟨k, rfl, (upd_ne (put k _ upd_same)).trans upd_same⟩
    · obtain ⟨p1, a1, a2, a3⟩ := tabs r hr
      have at1 : (upd (upd H P (.tbl (ps ++ #[rawInt pos.line, rawInt pos.col, .ref k]))) k (LamX.CodeO k (X.env.qual ++ "<lambda>"))) r.1 = some (.tbl p1) := by rw [upd_ne (ne_of_none a1 fresh), upd_ne hb]; exact a1
      refine ⟨p1, (upd_ne (put _ _ at1)).trans at1, a2, fun p2 cv hcv => ?_⟩
      obtain ⟨c0, b1, b2⟩ := a3 p2 cv hcv
      exact ⟨c0, b1, ext2 _ _ b2 LamX.codeO_ne⟩
  · obtain ⟨k, rfl, hk⟩ := all pos cv ec
    refine PySem.W.kla_makeFunctionHit (mg := X.mg) (c := c) (P := P) (ps := ps) (closure_ok free) I.ok.glob (I.mod.glob.keeps I.bk) eqc (TB.code.keeps I.bk) got tri ec bi fun ctv h1 tk kp le => ?_
    have I0 : Inv X pins σ H { s with heap := h1, toks := tk } := I.kept kp
    have I1 := I0.laid (t' := tk) (h' := h1.push (PySem.W.kla_obj "<lambda>" (X.env.qual ++ "<lambda>") ar bd sc (cloFrom X.env.cells sc.names []) ((X.mg "__name__").getD .none) k ctv)) (fun b o e => Heap.get?_push_of_some _ e) (Nat.le_refl _) (funO_ok (Heap.get?_push_size _ rfl))
    have nf : H h1.objs.size = none := I.hok.fresh le
    have stay : ∀ b o, H b = some o → (upd H h1.objs.size (FunO (X.env.qual ++ "<lambda>") ar bd sc (cloFrom X.env.cells sc.names []) k h1.objs.size)) b = some o := fun b o e => (upd_ne (ne_of_none e nf)).trans e
    exact fin h1.objs.size k _ _ I1 (.of stay) (tabs.ext stay) nf upd_same (stay _ _ hk)
end
/-- a lambda where it stands -/
def tLamV (T : List (Addr × Str)) (q : Str) (ar : Arguments) (bd : Expr) (sc : Scope) (cl : List (Str × Addr)) : TE := fun _ H Q => LamX.Tabs T H ∧ ∀ (f k : Addr) (G : Hp), LamX.ExtN H G → LamX.Tabs T G → H f = none → G f = some (FunO q ar bd sc cl k f) → G k = some (LamX.CodeO k q) → Q (.ref f) G
section
variable {X : Cx}
theorem pe_lamV {T : List (Addr × Str)} {c P : Addr} {ar : Arguments} {bd : Expr} {sc : Scope} {pos : Pos} (TB : LamX.TabB X.base X.mg c P) (eqc : X.env.code = .ref c) (mT : (P, X.env.qual ++ "<lambda>") ∈ T)
    (uT : ∀ r ∈ T, r.1 = P → r.2 = X.env.qual ++ "<lambda>") (L : LamX.LamS X.env.scope sc) (dflt : defaultsOf ar X.env = ([], [])) : PE X (.Lambda ar bd sc pos) (tLamV T (X.env.qual ++ "<lambda>") ar bd sc (cloFrom X.env.cells sc.names [])) :=
  ⟨fun _ _ _ _ _ I h => lamNew I TB eqc mT uT h.1 dflt (L.has I.ok) fun f k G r J e t n a b => ⟨.ref f, G, J, rfl, h.2 f k G e t n a b⟩⟩
/-- a(), in the def that got such a lambda -/
theorem pe_actV {pins : List (Addr × Obj)} {σ : L2.St} {H : Hp} {s : Shared} {CXg : CXT} {Eg E : XK} {Ng : List Str} {qg a : Str} {sg sc : Scope} {g f k : Addr} {cdg : Value} {ar : Arguments} {bd : Expr} {n i : Nat} {pn : List (Addr × Obj)} {xe : Value → Shared → Prop} {W : WX} {tb : TE} {p1 p2 : Pos}
    (I : Inv X pins σ H s) (L : LamX.LamS X.env.scope sc) (nobind : ∀ (pm ctv : Value), bindArgs (PySem.W.kla_fn "<lambda>" (X.env.qual ++ "<lambda>") ar bd sc (cloFrom X.env.cells sc.names []) pm (.ref k) ctv) ⟨[], []⟩ = pure [])
    (tk : Takes ((cxOf CXg X.prog X.w X.K X.mg X.base Ng qg sg g cdg X.A X.stack s H Eg).tr pn xe) W) (hW : ∀ cls d σ' H', E cls d H' → W cls d σ' H') (hr : Room (n + 1) (X.A.deeper (envOfC qg sg s.heap.objs.size g cdg)))
    (body : ∀ (A : Around) (outer : List Env) (r : Shared) (G : Hp), Room n (A.deeper (LamX.lamEnv X sc r.heap.objs.size f k)) → PE (LamX.lamCx X A outer r G E sc f k) bd tb) (hN : Ng[i]? = some a) (hv : Vis sg a) (hd : (a == ("__debug__" : Str)) = false := by decide) (hcd : (a == ("__classdict__" : Str)) = false := by decide) :
    PE ((cxOf CXg X.prog X.w X.K X.mg X.base Ng qg sg g cdg X.A X.stack s H Eg).tr pn xe) (.Call (.Name a p1) [] [] p2)
      (fun τ G Q => τ[i]? = some (some (.ref f)) ∧ G k = some (LamX.CodeO k (X.env.qual ++ "<lambda>")) ∧ (G f = some (FunO (X.env.qual ++ "<lambda>") ar bd sc (cloFrom X.env.cells sc.names []) k f) ∧ tb σ G Q)) := by
  constructor
  rintro pinsZ sZ τ G Q IZ ⟨hs, hk, hf, ht⟩
  refine wpAny_Call_Name_kw (thn ((pe_var (pos := p1) (i := i) hN hv hd hcd).run pinsZ sZ τ G (fun v H1 => v = .ref f ∧ H1 = G) IZ ⟨.ref f, hs, rfl, rfl⟩) ?_)
  rintro u r ⟨v, H1, J, ru, ev, eH⟩
  subst ev
  rw [eH] at J
  cases ru
  obtain ⟨⟨pm, ctv, at_f⟩, _, _⟩ := J.hok f _ hf
  obtain ⟨⟨oc, vs, tq, c1, c2, c3⟩, _, _⟩ := J.hok k _ hk
  refine PySem.W.callWith_F0 ⟨_, _, _, _, at_f⟩ ?_
  have un : Un (frs X.stack) [] H G s.heap r.heap := J.base
  refine wpAny_call (codeAny_mono (R := CR (L2.CX X.prog X.w) (envOfC qg sg s.heap.objs.size g cdg :: X.stack) X.prog X.w G r Q E) ?_ fun z s' hq => ?_)
  · show codeAny _ _ (.call (.ref f) ⟨[], []⟩) _ _
    refine PySem.W.kla_callFunE hr.depth at_f rfl L.co L.gen rfl ⟨k, oc, vs, tq, rfl, c1, c2, c3⟩ ?_
    rw [nobind]
    refine wpAny_pure (wpAny_newFunctionEnv (fun y hy => (L.own y hy).2) (fun y hy => absurd hy (by simp)) (fun h1 hns hsb => ⟨J.nolimit.fresh _ hsb, ?_⟩) L.kind)
    have stay : ∀ b o, r.heap.get? b = some o → h1.get? b = some o := fun b o e => hsb.extBut b o (Nat.ne_of_lt (Heap.lt_size e)) (Heap.get?_push_of_some _ e)
    have J2 : Inv (LamX.lamCx X (X.A.deeper (envOfC qg sg s.heap.objs.size g cdg)) (envOfC qg sg s.heap.objs.size g cdg :: X.stack) r G E sc f k) [] σ G { r with heap := h1, toks := r.toks + ([] : List (Str × Value)).length } := LamX.lam_start2 I L J.env0 hr.hd un hns stay
    refine PySem.W.kla_codeExpr (wpAny_mono ((body _ _ r G (hr.deeper _)).run [] _ _ G Q J2 ht) ?_ fun e s' hq => hq)
    rintro v s' ⟨w', H', J3, rv, q⟩
    exact ⟨w', H', J3.os, J3.bare, J3.base, J3.hok, rv, q⟩
  · have pass : Passes (L2.CX X.prog X.w) ((cxOf CXg X.prog X.w X.K X.mg X.base Ng qg sg g cdg X.A X.stack s H Eg).tr pn xe) E := passes_call tk hW
    match z, hq with
    | .error e, hq => exact pass pinsZ τ G r e s' J hq
    | .ok (.ret u), hq => exact J.after hq
    | .ok .next, hq => exact hq.elim
    | .ok .brk, hq => exact hq.elim
    | .ok .cont, hq => exact hq.elim
/-- x(e), e one of some lambdas -/
def tLamC {J : Type} (q : Str) (ar : J → Arguments) (bd : J → Expr) (sc : J → Scope) (cl : J → List (Str × Addr)) (TT : (XK → Hp → VK → Prop) → Hp → VK → Prop) (t : J → XK → TE) (te : TE) : TE := fun σ H Q => te σ H fun v H1 => ∃ (j : J) (f k : Addr), v = .ref f ∧ H1 f = some (FunO q (ar j) (bd j) (sc j) (cl j) k f) ∧ H1 k = some (LamX.CodeO k q) ∧
  TT (fun E H' Q' => H' f = some (FunO q (ar j) (bd j) (sc j) (cl j) k f) ∧ t j E σ H' Q') H1 Q
theorem pe_lamC {J : Type} {TT : (XK → Hp → VK → Prop) → Hp → VK → Prop} {x a : Str} {g : Addr} {n : Nat} {pg : Arguments} {bg : List Stmt} {sg : Scope} {dV kV doc pm cdv ct oc : Value} {an od : Option Addr} {osl : Array (Option Value)} {Ng : List Str} {ar : J → Arguments} {bd : J → Expr} {sc : J → Scope} {t : J → XK → TE} {e : Expr} {te : TE} {p pos : Pos}
    (hg : Gl X x) (hm : X.mg x = some (.ref g)) (hk : PySem.W.keepIn X.K (.ref g) = true) (lk : X.K.lookup g = some ⟨oc, od, .func (PySem.W.fnOf x x pg bg sg dV kV doc pm an cdv ct), osl⟩) (hcg : PySem.W.codeIn X.K cdv x = true) (hb : L2.Binds X.K (PySem.W.fnOf x x pg bg sg dV kV doc pm an cdv ct) [a] []) (Sg : FnScope Ng [a] sg) (hNg : Ng[0]? = some a) (hva : Vis sg a)
    (hG : LamX.GivesTo X Ng x sg g cdv bg a (X.env.qual ++ "<lambda>") TT) (hr : Room (n + 2) X.A) (he : PE X e te) (L : ∀ j, LamX.LamS X.env.scope (sc j)) (nobind : ∀ j (q : Str) (cl : List (Str × Addr)) (pm cv ctv : Value), bindArgs (PySem.W.kla_fn "<lambda>" q (ar j) (bd j) (sc j) cl pm cv ctv) ⟨[], []⟩ = pure [])
    (body : ∀ j (A : Around) (outer : List Env) (r : Shared) (G : Hp) (E : XK) (f k : Addr), Room n (A.deeper (LamX.lamEnv X (sc j) r.heap.objs.size f k)) → PE (LamX.lamCx X A outer r G E (sc j) f k) (bd j) (t j E))
    (hs : starEach [e] X.env = (false, eval e X.env) :: starEach [] X.env := by rfl) (hpl : (backTo pos (starEach [] X.env)).any (·.1) = false := by rfl) (hdb : (x == ("__debug__" : Str)) = false := by decide) (hd : (a == ("__debug__" : Str)) = false := by decide) (hcd : (a == ("__classdict__" : Str)) = false := by decide) :
    PE X (.Call (.Name x p) [e] [] pos) (tLamC (X.env.qual ++ "<lambda>") ar bd sc (fun j => cloFrom X.env.cells (sc j).names []) TT t te) := by
  constructor
  intro pins s σ H Q I h
  refine wpAny_Call_Name_kw (ld_glob I hg hm ?_ hdb)
  refine PySem.W.callWith_K (h₀ := X.base) I.ok.mod.kin hk ?_ hs hpl
  rw [hs]
  refine Calls.spliced_cons (thn (he.run pins s σ H _ I h) ?_)
  rintro _ r ⟨v, H1, J1, rv, j, f, k, rfl, hf, hc, q⟩
  cases rv
  refine Calls.spliced_nil ⟨J1.kIn, ?_⟩
  refine wpAny_call (codeAny_mono (R := CR C8.CX0 X.stack X.prog X.w H1 r Q C8.E0) ?_ fun z s2 hq => ?_)
  · refine LamX.run_ofS (N := Ng) (ps := [a]) (us := [.ref f]) (vs := [.ref f]) lk hcg Sg hr J1.env0 (hb r [.ref f] J1.kIn rfl) (.cons rfl .nil) rfl fun hr' => ?_
    obtain ⟨t', ht', hq'⟩ := hG f k r H1 Q _ (fun W pn xe E p1 p2 tk hW => pe_actV (i := 0) J1 (L j) (fun pm ctv => nobind j _ _ pm _ ctv) tk hW hr' (fun A outer r2 G hr2 => body j A outer r2 G E f k hr2) hNg hva hd hcd) hc q
    exact ⟨t', ht'.nox, hq'⟩
  · match z, hq with
    | .error e, hq => exact (show False from hq).elim
    | .ok (.ret u), hq => exact J1.after hq
    | .ok .next, hq => exact hq.elim
    | .ok .brk, hq => exact hq.elim
    | .ok .cont, hq => exact hq.elim
end
end Sw
set_option Elab.async false
set_option linter.all false
set_option maxRecDepth 100000
set_option maxHeartbeats 4000000
/-! SwSort: sorted(set(xs)) of texts. -/
namespace SwSort
open PySem PySem.Spec PyProof.Rows PySem.Froz L2
section
variable {P : Program} {w : World}
theorem tail_ris {ep : Nat} {es : Array (Int × Value)} {t : SetTable} {b : Bool} (r : Ris t.place.toList) : Ris (tailTx ep es t b).2.2.place.toList := by
  unfold tailTx
  by_cases c : (!b && t.tooFull) = true
  · rw [if_pos c]
    exact relayAll_ris _ _ _
  · rw [if_neg c]
    exact r
theorem tail_led {ep : Nat} {es : Array (Int × Value)} {t : SetTable} {b : Bool} : (tailTx ep es t b).2.2.led = t.led := by
  unfold tailTx
  by_cases c : (!b && t.tooFull) = true
  · rw [if_pos c]
    exact relayAll_led _ _ _
  · rw [if_neg c]
theorem add_ris {h : Int} {v : Value} {D : SD} (r : Ris D.2.2.place.toList) : Ris (addTx h v D).2.2.place.toList := by
  refine tail_ris ?_
  by_cases c : (layNew D.2.2 D.1 h v).2.1.plain = true
  · rw [if_pos c]
    exact layNew_ris _ _ h v r
  · rw [if_neg c]
    exact layNew_ris _ _ h v r
theorem add_led {h : Int} {v : Value} {D : SD} : (addTx h v D).2.2.led = D.2.2.led := by
  refine tail_led.trans ?_
  by_cases c : (layNew D.2.2 D.1 h v).2.1.plain = true
  · rw [if_pos c]
    exact layNew_led _ _ h v
  · rw [if_neg c]
    exact layNew_led _ _ h v
/-- the payload holds the texts l, each once; it can be walked -/
structure TxR (P : Program) (w : World) (D : SD) (l : List Str) : Prop where
  ok : TxOk P w D l
  nd : l.Nodup
  ris : Ris D.2.2.place.toList
  led : w.params.followText "set-order" = true ∨ D.2.2.led = true
theorem TxR.add {D : SD} {l : List Str} {k : Str} {u : Tok} (R : TxR P w D l) (n : k ∉ l) : TxR P w (addTx (hashStr w k) (.str k u) D) (k :: l) :=
  ⟨add_ok u R.ok, List.nodup_cons.mpr ⟨n, R.nd⟩, add_ris R.ris, R.led.imp id fun z => by rw [add_led]; exact z⟩
section
variable {A : Around} {E : Value → Shared → Prop} {s : Shared}
/-- a text that is there already -/
theorem add_old {a : Addr} {T : String} {D : SD} {l : List Str} {k : Str} {u : Tok} {Q : Bool → Shared → Prop} (ho : s.heap.get? a = some (sObj T D)) (F : TxOk P w D l) (hk : k ∈ l) (hb : l.length < scanBound) (h : Q false s) :
    wpAny (model P w) A (setAddHashed a (.str k u) (hashStr w k)) Q E s := by
  obtain ⟨es, ep, t⟩ := D
  have da : (sObj T (es, ep, t)).data = .set es ep t := rfl
  have ft : t.fits es.size = true := F.fit
  have el : ElemsOf (strKind P w) es.toList := F.el
  have b0 : es.size < scanBound := by
    have z : es.size = l.length := F.sz
    omega
  have key : (strKind P w).is k (.str k u) = true := is_str k u
  obtain ⟨j, hj⟩ : ∃ j, List.findIdx? (fun e => (strKind P w).is k e.2) es.toList = some j := by
    cases hr : List.findIdx? (fun e => (strKind P w).is k e.2) es.toList with
    | some j => exact ⟨j, rfl⟩
    | none =>
      obtain ⟨e, he, q⟩ := (F.mem k).mp hk
      have := List.findIdx?_eq_none_iff.mp hr e he
      rw [q] at this
      cases this
  unfold setAddHashed setAddHashedIn
  refine wpAny_holding (wpAny_bind (wpAny_setState_of ho da ft ?_))
  dsimp only
  rw [byScan_of rfl b0 el]
  simp only [↓reduceIte]
  unfold setAddByScan
  refine wpAny_bind ?_
  refine wpAny_bind (wpAny_rule ?_)
  refine wpAny_bind (wpAny_setScan_of (knd := strKind P w) (k := k) key ho da ft el ?_)
  rw [hj]
  dsimp only
  exact wpAny_pure (wpAny_pure h)
end
end
/-! ### the set is made -/
def led (w : World) : Bool := !w.params.followText "set-order"
theorem newSet1 {P : Program} {w : World} {A : Around} {E : Value → Shared → Prop} {s : Shared} (u : Value) {Q1 : Value → Shared → Prop} (h : Q1 (.ref s.heap.objs.size) { s with heap := s.heap.push (SwSet.fresh (led w)) }) :
    codeAny (model P w) A (.call (.builtin "set.__new__") ⟨[.type "set", u], []⟩) (wants Q1 E) s := by
  apply codeAny_of_tree
  show wpAny _ A.in1 (do checkBuiltinCall "set.__new__" ⟨[.type "set", u], []⟩; again (.builtin "set.__new__" ⟨[.type "set", u], []⟩)) _ _ s
  refine wpAny_bind (wpAny_of_eq (PySem.F.newCall_set_1 u) (wpAny_pure ⟨plainId_quiet PySem.F.plain_set_new _, codeAny_builtin PySem.F.entry_set_new ?_⟩))
  rw [Around.under_plainId PySem.F.plain_set_new _]
  unfold Builtin.«set.__new__» Builtin.Frozenset.newClass
  have hsub := sub_set_self
  obtain ⟨h0, g0, d0, t0, o0⟩ := s
  dsimp only
  wp_walk
  refine wpAny_askSetting (wpAny_pure ?_)
  dsimp only
  simp only [newObj]
  exact wpAny_bind (wpAny_alloc (wpAny_pure (wpAny_pure h)))
/-- what it holds behind the first i texts -/
def HeldX (P : Program) (w : World) (h : Heap) (a : Addr) (xs : List Str) (i : Nat) : Prop := ∃ (D : SD) (l : List Str), h.get? a = some (sObj "set" D) ∧ TxR P w D l ∧ (∀ z, z ∈ l ↔ z ∈ xs.take i) ∧ l.length ≤ i
theorem HeldX.keep {P : Program} {w : World} {h h' : Heap} {a : Addr} {xs : List Str} {i : Nat} (x : HeldX P w h a xs i) (k : ∀ o, h.get? a = some o → h'.get? a = some o) : HeldX P w h' a xs i := by
  obtain ⟨D, l, e, r⟩ := x
  exact ⟨D, l, k _ e, r⟩
theorem heldX0 {P : Program} {w : World} {h : Heap} {a : Addr} {xs : List Str} (e : h.get? a = some (SwSet.fresh (led w))) : HeldX P w h a xs 0 :=
  ⟨(#[], 0, .fresh 0 0 (led w)), [], e, ⟨TxOk.nil (by rfl), List.nodup_nil, List.Pairwise.nil, by
    show _ ∨ led w = true
    unfold led
    cases w.params.followText "set-order"
    · exact .inr rfl
    · exact .inl rfl⟩, fun z => by simp, Nat.le_refl 0⟩
section
variable {P : Program} {w : World} {A : Around} {R : Result → Shared → Prop} {I S : Addr} {fp wr : List Addr} {G : Array GenState → Array GenState → Prop} {n : Nat} {Pv : Nat → Value → Prop} {St : Nat → Shared → Prop} {xs : List Str}
theorem loopX (W : WalksS P w A.in1 I fp wr G n Pv St) (out : S ∉ fp) (hn : xs.length = n) (few : n < 2000) (val : ∀ i v, Pv i v → ∃ x t, xs[i]? = some x ∧ v = .str x t) (m : Nat) :
    ∀ (i : Nat) (s : Shared), i + m = n → St i s → HeldX P w s.heap S xs i → (∀ s', Moved (S :: wr) G s s' → HeldX P w s'.heap S xs n → R (.ok (.ret .none)) s') →
      codeAny (model P w) A (.builtin "set.update.loop" ⟨[.ref S, .ref I], []⟩) R s := by
  have out2 : S ∉ wr := fun z => out (W.sub _ z)
  have up : ∀ b ∈ wr, b ∈ S :: wr := fun b z => List.mem_cons_of_mem S z
  induction m with
  | zero =>
    intro i s hi st held fin
    obtain rfl : i = n := by omega
    refine codeAny_builtin PyProof.Rows.F.entry_set_update_loop ?_
    rw [Around.under_plainId PyProof.Rows.F.plain_set_update_loop _]
    show wpAny _ A.in1 (pyNext (.ref I) >>= _) _ _ s
    refine wpAny_bind (W.done s _ _ st fun s1 mv => ?_)
    show wpAny _ A.in1 (ret Value.none) _ _ s1
    exact wpAny_pure (fin s1 (mv.mono up) (held.keep fun o e => mv.heap S o out2 e))
  | succ m ih =>
    intro i s hi st held fin
    refine codeAny_builtin PyProof.Rows.F.entry_set_update_loop ?_
    rw [Around.under_plainId PyProof.Rows.F.plain_set_update_loop _]
    show wpAny _ A.in1 (pyNext (.ref I) >>= _) _ _ s
    refine wpAny_bind (W.item i s _ _ (by omega) st fun v s1 pv st1 mv => ?_)
    obtain ⟨x, t, hx, rfl⟩ := val i v pv
    obtain ⟨D, l, ho, hr, hl, hle⟩ := held.keep (h' := s1.heap) fun o e => mv.heap S o out2 e
    have big : (2000 : Nat) < scanBound := by unfold scanBound; omega
    show wpAny _ A.in1 (holding [Value.str x t] (setAdd S (.str x t)) >>= _) _ _ s1
    refine wpAny_bind (wpAny_holding ?_)
    unfold setAdd
    refine wpAny_holding (wpAny_bind ((PySem.strKind P w).pyHash (k := x) (strKind_is _ _ _ _) ?_))
    have e1 := SwSet.take_one_more hx
    by_cases hm : x ∈ l
    · refine add_old (s := { s1 with toks := s1.toks + 1 }) ho hr.ok hm (by omega) ?_
      refine wpAny_pure ⟨plainId_quiet PyProof.Rows.F.plain_set_update_loop _, ih (i + 1) _ (by omega) (W.frame _ s1 _ _ st1 (Nat.le_succ _) fun b hb o e => e) ⟨D, l, ho, hr, fun z => ?_, by omega⟩ fun s3 mv3 held3 => ?_⟩
      · rw [e1, List.mem_append, List.mem_singleton, ← hl z]
        exact ⟨.inl, fun q => q.elim id fun q => q ▸ hm⟩
      · exact fin s3 (Moved.trans W.gtrans ((mv.mono up).then_heap (Nat.le_succ _) fun b o hb e => e) mv3) held3
    · refine add_x (s := { s1 with toks := s1.toks + 1 }) ho hr.ok hm (by omega) ?_
      have same : ∀ b o, b ≠ S → s1.heap.get? b = some o → (s1.heap.update S fun _ => sObj "set" (addTx (hashStr w x) (.str x t) D)).get? b = some o := fun b o hb e => (Heap.get?_update_other _ _ (Ne.symm hb)).trans e
      refine wpAny_pure ⟨plainId_quiet PyProof.Rows.F.plain_set_update_loop _, ih (i + 1) _ (by omega) (W.frame _ s1 _ _ st1 (Nat.le_succ _) fun b hb o e => same b o (fun z => out (z ▸ hb)) e) ⟨_, x :: l, get_upd _ ho rfl, hr.add hm, fun z => ?_, by rw [List.length_cons]; omega⟩ fun s3 mv3 held3 => ?_⟩
      · rw [e1, List.mem_append, List.mem_singleton, List.mem_cons, ← hl z]
        exact Or.comm
      · exact fin s3 (Moved.trans W.gtrans ((mv.mono up).then_heap (Nat.le_succ _) fun b o hb e => same b o (fun z => hb (by rw [z]; exact List.mem_cons_self)) e) mv3) held3
end
section
variable {P : Program} {w : World} {A : Around} {E : Value → Shared → Prop} {s : Shared}
/-- what comes behind the loop -/
def DoneX (P : Program) (w : World) (s : Shared) (xs : List Str) (s2 : Shared) : Prop :=
  ∃ (h' : Heap) (tk : Nat), s2 = { s with heap := h', toks := tk } ∧ HeldX P w h' s.heap.objs.size xs xs.length ∧ ∀ b o, s.heap.get? b = some o → h'.get? b = some o
theorem doneX_of {s s2 : Shared} {xs : List Str} {it : Obj} {l : Addr} {tk : Nat} {n : Nat} (hl : l < s.heap.objs.size) (hn : xs.length = n)
    (mv : Moved (s.heap.objs.size :: [(s.heap.push (SwSet.fresh (led w))).objs.size]) (fun a b => b = a) { s with heap := (s.heap.push (SwSet.fresh (led w))).push it, toks := tk } s2) (hd : HeldX P w s2.heap s.heap.objs.size xs n) : DoneX P w s xs s2 := by
  obtain ⟨h', g', d', tk', os'⟩ := s2
  have eg : g' = s.gens := mv.gens
  have ed : d' = s.drawn := mv.drawn
  have eo : os' = s.os := mv.os
  subst eg ed eo
  refine ⟨h', tk', rfl, hn ▸ hd, fun b o e => ?_⟩
  have lt := Heap.lt_size e
  refine mv.heap b o ?_ (Heap.get?_push_of_some _ (Heap.get?_push_of_some _ e))
  simp only [List.mem_cons, List.not_mem_nil, or_false, not_or]
  refine ⟨Nat.ne_of_lt lt, ?_⟩
  rw [Heap.size_push]
  exact Nat.ne_of_lt (Nat.lt_succ_of_lt lt)

set_option maxHeartbeats 8000000 in
/-- set(xs), a list or a tuple of texts -/
theorem call_setX {l : Addr} {items : Array Value} {xs : List Str} {Q : Value → Shared → Prop} (quiet : A.handled = none) (hl : s.heap.IsList l items ∨ s.heap.IsTuple l items) (texts : StrsAre items.toList xs) (few : xs.length < 2000)
    (fin : ∀ s2, DoneX P w s xs s2 → Q (.ref s.heap.objs.size) s2) : wpAny (model P w) A (call (.type "set") [.ref l]) Q E s := by
  have lt : l < s.heap.objs.size := by
    rcases hl with ⟨_, e, _⟩ | ⟨_, e, _⟩ <;> exact Heap.lt_size e
  have size : xs.length = items.size := by rw [← StrsAre.len_eq texts, Array.length_toList]
  have val : ∀ (i : Nat) (v : Value), items[i]? = some v → ∃ x t, xs[i]? = some x ∧ v = .str x t := fun i v e => SwSet.item_text texts i v (by rw [Array.getElem?_toList]; exact e)
  obtain ⟨cc, tl, hmro⟩ := PySem.F.called_set.mro
  have hmade := PySem.F.called_set.made
  have hsub := PySem.F.called_set.sub
  have h1 := PySem.F.called_set.notType
  have h2 := PySem.F.called_set.canCreate
  have hct := PySem.F.typeCall_set_1 (.ref l)
  refine wpAny_call (codeAny_of_tree ?_)
  show wpAny _ _ (callAny (.type "set") _) _ _ _
  refine wpAny_pure ⟨Code.quiet_builtin _ (by decide +kernel), codeAny_builtin PySem.F.entry_type_call ?_⟩
  rw [Around.under_plain (weight_type_call_type "set" [.ref l] []) rfl]
  repeat (any_goals (first | assumption | wp_step))
  refine codeAny_mono (newSet1 (w := w) (.ref l) (E := E) (Q1 := fun obj s1 => obj = .ref s.heap.objs.size ∧ s1 = { s with heap := s.heap.push (SwSet.fresh (led w)) }) ⟨rfl, rfl⟩) fun r s1 hr => ?_
  cases r with
  | error e => exact hr
  | ok fl =>
    cases fl with
    | ret obj =>
      obtain ⟨rfl, rfl⟩ := hr
      have at0 : (s.heap.push (SwSet.fresh (led w))).get? s.heap.objs.size = some (SwSet.fresh (led w)) := Heap.get?_push_size _ rfl
      have ty : Shared.TypeIs { s with heap := s.heap.push (SwSet.fresh (led w)) } (.ref s.heap.objs.size) "set" := ⟨_, at0, rfl⟩
      have hli := PySem.F.called_set.init.lookup
      have hbi := PySem.F.called_set.init.bind (.ref s.heap.objs.size)
      repeat (any_goals (first | assumption | wp_step))
      refine codeAny_mono (codeAny_call_builtin (R := wants (fun r s2 => r = .none ∧ DoneX P w s xs s2) E) PySem.F.called_set.init.plain PySem.F.entry_set_init (check_set_init_1 ty ?_)) fun r2 s2 hr2 => ?_
      · have quiet3 : A.in1.in1.in1.handled = none := by simp [quiet]
        have apart : l ≠ (s.heap.push (SwSet.fresh (led w))).objs.size := by
          rw [Heap.size_push]
          exact Nat.ne_of_lt (Nat.lt_succ_of_lt lt)
        have out : s.heap.objs.size ∉ [(s.heap.push (SwSet.fresh (led w))).objs.size, l] := by
          rw [Heap.size_push]
          simp only [List.mem_cons, List.not_mem_nil, or_false, not_or]
          exact ⟨Nat.ne_of_lt (Nat.lt_succ_self _), Nat.ne_of_gt lt⟩
        have close : ∀ {it : Obj} {tk : Nat} (s2 : Shared), Moved (s.heap.objs.size :: [(s.heap.push (SwSet.fresh (led w))).objs.size]) (fun a b => b = a) { s with heap := (s.heap.push (SwSet.fresh (led w))).push it, toks := tk } s2 → HeldX P w s2.heap s.heap.objs.size xs items.size → DoneX P w s xs s2 :=
          fun s2 mv hd => doneX_of lt size mv hd
        rcases hl with hl | hl
        · obtain ⟨ol, hol, hcl, nl, hdl⟩ := hl
          obtain ⟨ocls, odict, odata, oslots⟩ := ol
          simp only at hcl hdl
          subst hcl; subst hdl
          have hol2 := Heap.get?_push_of_some (SwSet.fresh (led w)) hol
          have hsls := PySem.F.sub_list_set
          have hslf := PySem.F.sub_list_frozenset
          have hne : (Value.type "list" == Value.type "dict") = false := by decide
          have there : (s.heap.push (SwSet.fresh (led w))).IsList l items := ⟨_, hol2, rfl, nl, rfl⟩
          unfold Builtin.«set.__init__» noKeywords Builtin.Frozenset.updateFrom
          generalize hPI : pyIter = PI
          wp_walk
          subst hPI
          refine wpAny_pyIter_list there (wpAny_bind (wpAny_runValue ?_))
          refine loopX (xs := xs) ((Walks.list quiet3 _ l apart items).toS) out size (by omega) val items.size 0 _ (by omega) ⟨⟨_, Heap.get?_push_size _ rfl, rfl, rfl⟩, there.push _⟩ (heldX0 (Heap.get?_push_of_some _ at0)) fun s3 mv hd => ?_
          exact wpAny_pure (wpAny_pure ⟨rfl, close s3 mv hd⟩)
        · obtain ⟨ol, hol, hcl, nl, hdl⟩ := hl
          obtain ⟨ocls, odict, odata, oslots⟩ := ol
          simp only at hcl hdl
          subst hcl; subst hdl
          have hol2 := Heap.get?_push_of_some (SwSet.fresh (led w)) hol
          have hsls := PySem.F.sub_tuple_set
          have hslf := PySem.F.sub_tuple_frozenset
          have hne : (Value.type "tuple" == Value.type "dict") = false := by decide
          have there : (s.heap.push (SwSet.fresh (led w))).IsTuple l items := ⟨_, hol2, rfl, nl, rfl⟩
          unfold Builtin.«set.__init__» noKeywords Builtin.Frozenset.updateFrom
          generalize hPI : pyIter = PI
          wp_walk
          subst hPI
          refine wpAny_pyIter_tuple there (wpAny_bind (wpAny_runValue ?_))
          refine loopX (xs := xs) ((Walks.tuple quiet3 _ l apart items).toS) out size (by omega) val items.size 0 _ (by omega) ⟨⟨_, Heap.get?_push_size _ rfl, rfl, rfl⟩, there.push _⟩ (heldX0 (Heap.get?_push_of_some _ at0)) fun s3 mv hd => ?_
          exact wpAny_pure (wpAny_pure ⟨rfl, close s3 mv hd⟩)
      · cases r2 with
        | error e => exact hr2
        | ok fl2 =>
          cases fl2 with
          | ret r =>
            obtain ⟨rfl, hd⟩ := hr2
            repeat (any_goals (first | assumption | wp_step))
            exact fin _ hd
          | _ => exact hr2.elim
    | _ => exact hr.elim
end
end SwSort
set_option Elab.async false
set_option linter.all false
set_option maxRecDepth 100000
set_option maxHeartbeats 4000000
/-! SwSrt: sorted(set(xs)) as an expression. -/
namespace SwSort
open PySem PySem.Spec PyProof.Rows PySem.Froz L2
theorem perm_sub {α : Type} [DecidableEq α] : ∀ {l ys : List α}, l.Nodup → (∀ x ∈ l, x ∈ ys) → ys.length ≤ l.length → ys.Perm l
  | [], ys, _, _, h => by
    have : ys = [] := List.length_eq_zero_iff.mp (Nat.le_zero.mp h)
    rw [this]
  | x :: l, ys, nd, hs, h => by
    obtain ⟨nx, nl⟩ := List.nodup_cons.mp nd
    have hx := hs x List.mem_cons_self
    refine (List.perm_cons_erase hx).trans ((perm_sub nl (fun y hy => ?_) ?_).cons x)
    · exact (List.mem_erase_of_ne (a := y) (b := x) fun e => nx (by rw [← e]; exact hy)).mpr (hs y (List.mem_cons_of_mem _ hy))
    · rw [List.length_erase_of_mem hx]
      rw [List.length_cons] at h
      omega
theorem isStr_eq {k : Str} {v : Value} (h : Value.isStrOf k v = true) : ∃ u, v = .str k u := by
  cases v with
  | str z u =>
    have e : z = k := by simpa [Value.isStrOf] using h
    exact ⟨u, by rw [e]⟩
  | _ => simp [Value.isStrOf] at h
theorem strs_ofL : ∀ {vs : List Value}, (∀ v ∈ vs, ∃ k u, v = .str k u) → ∃ ys, StrsAre vs ys
  | [], _ => ⟨[], .nil⟩
  | v :: vs, h => by
    obtain ⟨k, u, rfl⟩ := h v List.mem_cons_self
    obtain ⟨ys, r⟩ := strs_ofL fun x hx => h x (List.mem_cons_of_mem _ hx)
    exact ⟨k :: ys, .cons k u r⟩
theorem strs_mem {vs : List Value} {ys : List Str} (r : StrsAre vs ys) (k : Str) : k ∈ ys ↔ ∃ u, Value.str k u ∈ vs := by
  induction r with
  | nil => simp
  | cons n t hr ih =>
    rw [List.mem_cons, ih]
    constructor
    · rintro (rfl | ⟨u, hu⟩)
      · exact ⟨t, List.mem_cons_self⟩
      · exact ⟨u, List.mem_cons_of_mem _ hu⟩
    · rintro ⟨u, hu⟩
      rcases List.mem_cons.mp hu with e | hu
      · injection e with e _
        exact .inl e
      · exact .inr ⟨u, hu⟩
section
variable {X : Cx} {pins : List (Addr × Obj)} {σ : L2.St} {H : Hp} {s : Shared}
theorem call_sortX {a : Addr} {xs : List Str} {Q : VK} (I : Inv X pins σ H s) (quiet : X.A.handled = none) (held : HeldX X.prog X.w s.heap a xs xs.length) (few : xs.length < 64)
    (fin : ∀ (ys : List Str) (p : Addr), ys.Nodup → (∀ z, z ∈ ys ↔ z ∈ xs) → sortedS ys = true → H p = none → Q (.ref p) (upd H p (.lst (ys.map V.str)))) : wpAny (model X.prog X.w) X.A (call (.builtin "sorted") [.ref a]) (EP X pins σ Q) X.xe s := by
  obtain ⟨⟨es, ep, t⟩, l, ho, R, hm, hle⟩ := held
  have sz : es.size = l.length := R.ok.sz
  have big : (64 : Nat) < scanBound := by unfold scanBound; omega
  apply Calls.call_function_entry PyProof.Rows.kind_sorted PyProof.Rows.plain_sorted PyProof.Rows.entry_sorted (PyProof.Rows.args_sorted1 _)
  unfold Builtin.«sorted»
  refine wpAny_bind (m := checkCount "sorted" 1 1 _) (wpAny_pure ?_)
  refine wpAny_bind (collect_set (A := X.A.in1) (es := es) (ep := ep) (t := t) quiet ⟨_, ho, rfl, rfl⟩ R.ok.fit (by omega) R.ris R.led fun s1 vs k1 hz g1 o1 pm => ?_)
  have els : ∀ v ∈ vs, ∃ k u, v = Value.str k u := fun v hv => by
    obtain ⟨e, he, rfl⟩ := List.mem_map.mp (pm.mem_iff.mp hv)
    obtain ⟨⟨k, hk, _⟩, _⟩ := R.ok.el e he
    obtain ⟨u, hu⟩ := isStr_eq hk
    exact ⟨k, u, hu⟩
  obtain ⟨ys, texts⟩ := strs_ofL els
  have hlen : ys.length = vs.length := (StrsAre.len_eq texts).symm
  have vl : vs.length = l.length := by rw [pm.length_eq, List.length_map, Array.length_toList, sz]
  have py : ys.Perm l := perm_sub R.nd (fun k hk => by
    obtain ⟨e, he, q⟩ := (R.ok.mem k).mp hk
    obtain ⟨u, hu⟩ := isStr_eq q
    exact (strs_mem texts k).mpr ⟨u, hu ▸ pm.mem_iff.mpr (List.mem_map_of_mem he)⟩) (by omega)
  refine wpAny_bind (wpAny_newList ?_ (by rw [vl, sizeLine_eq]; omega))
  have hD : (s1.heap.push (seqObj "list" vs.toArray 0)).get? s1.heap.objs.size = some (seqObj "list" vs.toArray 0) := Heap.get?_push_size _ rfl
  refine wpAny_bind (wpAny_holding (wpAny_call_entry PyProof.Rows.slot_list_sort ⟨_, hD, rfl⟩ PyProof.Rows.entry_list_sort
    (list_sort_treeK strKind_oneLt (s := { s1 with heap := s1.heap.push (seqObj "list" vs.toArray 0) }) hD texts.keysOf (fun u1 u2 rest e => keyKind_strs (e ▸ texts)) (by omega) fun st perm asc => ⟨_, rfl, ?_⟩) (PyProof.Rows.args_list_sort _)))
  obtain ⟨zs, t1, t2, t3⟩ := sorted_out_str texts perm asc
  obtain ⟨c, at_⟩ := PyProof.Rows.sortedHeap_at (vs := vs) (out := (arrOf st).map (·.2)) hD
  have small : (zs.map V.str).length ≤ sizeLine := by
    rw [List.length_map, t2.length_eq, sizeLine_eq]
    omega
  have pz := t2.trans py
  have fresh : H s1.heap.objs.size = none := I.hok.fresh hz
  have kp : ∀ b u, s.heap.get? b = some u → (sortedHeap (s1.heap.push (seqObj "list" vs.toArray 0)) s1.heap.objs.size vs ((arrOf st).map (·.2))).get? b = some u := fun b u e => by
    have q := k1 b u e
    have lt := Heap.lt_size q
    rw [PyProof.Rows.sortedHeap_old (Nat.ne_of_lt lt) (by rw [size_push']; exact Nat.lt_succ_of_lt lt)]
    exact Heap.get?_push_of_some _ q
  obtain ⟨h1, g1', d1, tk1, os1⟩ := s1
  obtain ⟨h0, g0, d0, tk0, os0⟩ := s
  simp only at g1 o1 hz fresh kp hD at_
  subst g1 o1
  have J := I.call (g' := g1') (d' := d1) (t' := tk1) (ch := []) (Un.laid kp hz fresh) (I.hok.laid (o := .lst (zs.map V.str)) kp hz ⟨small, _, c, vals_of_strs t1, at_⟩) I.bare (fun _ z => nomatch z)
  exact wpAny_pure ⟨_, rfl, .ref h1.objs.size, _, J, rfl, fin zs _ (pz.nodup_iff.mpr R.nd) (fun z => by rw [pz.mem_iff, hm z, List.take_length]) t3 fresh⟩
end
end SwSort
namespace Sw
open PySem PySem.Spec PyProof.Rows L2
def SortSetK (K : PySem.W.Frag) (Q : VK) (x : V) (H1 : Hp) : Prop := ∃ (l : Addr) (xs : List Str), x = .ref l ∧ (SqL K H1 l (xs.map V.str) ∨ SqT K H1 l (xs.map V.str)) ∧ xs.length < 64 ∧
  ∀ (ys : List Str) (p : Addr), ys.Nodup → (∀ z, z ∈ ys ↔ z ∈ xs) → sortedS ys = true → H1 p = none → Q (.ref p) (upd H1 p (.lst (ys.map V.str)))
def tSortSetU (K : PySem.W.Frag) (ta : TE) : TE := fun σ H Q => ta σ H fun x H1 => SortSetK K Q x H1
theorem sortSet_ {K : PySem.W.Frag} {ta : TE} {σ : L2.St} {H : Hp} {Q : VK} (h : ta σ H fun x H1 => SortSetK K Q x H1) : tSortSetU K ta σ H Q := h
theorem pe_sortSetU {X : Cx} {K : PySem.W.Frag} {a : Expr} {ta : TE} {p p2 q pos : Pos} (hK : X.K = K) (hc : X.calm = true) (hg : Gl X "sorted") (hm : X.mg "sorted" = none) (hg2 : Gl X "set") (hm2 : X.mg "set" = none) (ha : PE X a ta)
    (na : starEach [a] X.env = (false, eval a X.env) :: starEach [] X.env := by rfl) : PE X (.Call (.Name "sorted" p) [.Call (.Name "set" p2) [a] [] q] [] pos) (tSortSetU K ta) := by
  subst hK
  constructor
  intro pins s σ H Q I h
  refine Call_ (ld_blt I hg hm (show bootBuiltins "sorted" = some (.builtin "sorted") by decide +kernel) (PyProof.Rows.callWith_builtin1 (PyProof.Rows.args_cons ?_ rfl) rfl rfl))
  refine Call_ (ld_blt I hg2 hm2 boot_set (PyProof.Rows.callWith_type1 (PyProof.Rows.args_cons (thn (ha.run pins s σ H _ I h) fun v s1 z => PyProof.Rows.args_nil ?_) na) na rfl))
  obtain ⟨x, H1, I1, r1, l, xs, rfl, hq, few, k⟩ := z
  cases r1
  have main : ∀ its : List Value, Vals (xs.map V.str) its → s1.heap.IsList l its.toArray ∨ s1.heap.IsTuple l its.toArray →
      wpAny (model X.prog X.w) X.A (call (.type "set") [.ref l]) (fun u s2 => wpAny (model X.prog X.w) X.A (spliced (backTo pos (starEach [] X.env))) (fun vs s3 => wpAny (model X.prog X.w) X.A (call (.builtin "sorted") (u :: vs)) (EP X pins σ Q) X.xe s3) X.xe s2) X.xe s1 := by
    intro its r hl
    refine SwSort.call_setX (I1.ok.hd hc) hl (by simpa using texts_of r) (by omega) fun s2 hd => ?_
    obtain ⟨h', tk, rfl, held, keep⟩ := hd
    refine PyProof.Rows.args_nil ?_
    exact SwSort.call_sortX (I1.kept (t' := tk) keep) (I1.ok.hd hc) held few k
  rcases hq with hq | hq
  · obtain ⟨its, r, pl, _⟩ := I1.list hq
    exact main its r (.inl pl.isList)
  · obtain ⟨its, r, pl, _⟩ := I1.tuple hq
    exact main its r (.inr pl)
end Sw
set_option Elab.async false
set_option linter.all false
set_option maxRecDepth 100000
set_option maxHeartbeats 4000000
/-! SwD: dicts, rows walked from their end, errors that leave a locked dict. -/
namespace SwExt
open PySem
open Sem (wp)
open AutoSeq1 (wpAny_loadPart' idx_int sub_tuple_tuple sub_list_list sub_tuple_list sub_list_tuple)
theorem extTup {l b : Addr} {xs ys : Array Value} {n m : Nat} {dc : Option Addr} {sl : Array (Option Value)} (ok : ¬ (!xs.isEmpty && Builtin.List.listTooLong (xs.size + ys.size)) = true) (h1 : xs.size ≤ sizeLine) (h2 : xs.size + ys.size ≤ sizeLine) :
    Meets (Builtin.«list.extend» ⟨[.ref l, .ref b], []⟩) (fun _ R z => z.heap.get? l = some ⟨.type "list", none, .seq xs n, #[]⟩ ∧ z.heap.get? b = some ⟨.type "tuple", dc, .seq ys m, sl⟩ ∧ R (.ok (.ret Value.none)) { z with heap := z.heap.update l (Obj.mapSeq fun q => q ++ ys), toks := z.toks }) :=
  .of_wp fun prog w A R z hz => by
    obtain ⟨hh, gg, dd, tt, oo⟩ := z
    obtain ⟨e1, e2, hz⟩ := hz
    have f1 := idx_int
    have f2 := sub_tuple_tuple
    have f3 := sub_list_list
    have f4 := sub_tuple_list
    have f5 := sub_list_tuple
    have sz : (xs ++ ys).size ≤ sizeLine + 1 := by rw [Array.size_append]; omega
    wp_walk using (wpAny_updateSeq e1 rfl (hz := h1) (_hz' := sz)), wpAny_loadPart' e1, wpAny_loadPart' e2
    exact ⟨_, rfl, hz⟩
end SwExt
namespace Sw
open PySem PySem.Spec PyProof.Rows L2
/-- a list or a tuple that stands in the heap -/
def RowH (H : Hp) (p : Addr) (xs : List V) : Prop := H p = some (.lst xs) ∨ H p = some (.tup xs)
theorem RowH.keep {H0 H : Hp} {ex : List Addr} {L : List (Addr × HO)} {p : Addr} {xs : List V} (r : RowH H0 p xs) (h : Has H0 ex H L) (n : p ∉ ex) : RowH H p xs := r.imp (fun e => h.keep p _ e n) fun e => h.keep p _ e n
theorem RowH.sq {K : PySem.W.Frag} {H : Hp} {p : Addr} {xs : List V} (r : RowH H p xs) : SqL K H p xs ∨ SqT K H p xs := r.imp SqL.of SqT.of
theorem Has.thn' {H0 H H' : Hp} {ex : List Addr} {L M : List (Addr × HO)} (h : Has H0 ex H L) (h' : Has H [] H' M) : Has H0 ex H' M :=
  ⟨fun a o e n => h'.keep a o (h.keep a o e n) (by simp), h'.get, h'.nd⟩
section
variable {X : Cx} {K : PySem.W.Frag} {H0 : Hp} {ex : List Addr} {H : Hp} {L L' : List (Addr × HO)} {Q : VK} {σ : L2.St} {a b : Addr} {xs zs : List V} {te ty td tv : TE}
/-! ### extend, pop, slices -/
def rExtU : V → List V → Hp → VK → Prop := fun x vs H Q => ∃ l b xs zs, x = .ref l ∧ vs = [.ref b] ∧ H l = some (.lst xs) ∧ RowH H b zs ∧ xs.length + zs.length ≤ sizeLine ∧ Q .non (upd H l (.lst (xs ++ zs)))
theorem mt_extU : MtM X "list.extend" rExtU := by
  intro pins s σ H x vs v us Q I rx rv h
  obtain ⟨l, b, xs, zs, rfl, rfl, h1, h2, sz, q⟩ := h
  rcases h2 with h2 | h2
  · exact mt_extend pins s σ H _ _ v us Q I rx rv ⟨l, b, xs, zs, rfl, rfl, h1, h2, sz, q⟩
  · cases rx
    obtain ⟨u, rfl, ru⟩ := rv.one
    cases ru
    obtain ⟨z, its, n, r, hl, e⟩ := I.lstM h1
    obtain ⟨its2, r2, ⟨⟨c2, d2, da2, s2⟩, g2, hc2, n2, hd2⟩, _⟩ := I.tuple (SqT.of h2)
    have hc2 : c2 = .type "tuple" := hc2
    have hd2 : da2 = .seq its2.toArray n2 := hd2
    subst hc2 hd2
    have hl2 := r2.length
    have hsz : its.toArray.size + its2.toArray.size ≤ sizeLine := by rw [List.size_toArray, List.size_toArray]; omega
    have ok : ¬ (!its.toArray.isEmpty && Builtin.List.listTooLong (its.toArray.size + its2.toArray.size)) = true := by
      rw [notLongL hsz, Bool.and_false]
      exact Bool.false_ne_true
    refine call_meets PySem.F.slot_list_extend ⟨_, e, rfl⟩ PySem.F.entry_list_extend (PySem.F.args_list_extend_2 _ _) (SwExt.extTup (n := n) (m := n2) ok (by rw [List.size_toArray]; omega) hsz) ⟨e, g2, ?_⟩
    refine ⟨.non, _, I.lset (its' := its ++ its2) h1 e (by simp) (r.append r2) ?_, rfl, q⟩
    rw [List.length_append]
    omega
def ExtK (Q : VK) (b : Addr) (x : V) (H1 : Hp) : Prop := ∃ l xs zs, x = .ref l ∧ H1 l = some (.lst xs) ∧ RowH H1 b zs ∧ xs.length + zs.length ≤ sizeLine ∧ Q .non (upd H1 l (.lst (xs ++ zs)))
theorem ext_ (hH : Has H0 ex H L) (pt : Put L a (.lst xs) (.lst (xs ++ zs)) L') (f : a ∈ ex ∨ H0 a = none) (r : RowH H b zs) (hl : xs.length + zs.length ≤ 5000000) (h : ∀ H', Has H0 ex H' L' → Q .non H') : rExtU (.ref a) [.ref b] H Q :=
  ⟨a, b, xs, zs, rfl, rfl, hH.at pt.mem.1, r, by rw [sizeLine_eq]; omega, h _ (hH.put pt f)⟩
theorem pop_ {y : V} {ys : List V} (hH : Has H0 ex H L) (pt : Put L a (.lst (ys ++ [y])) (.lst ys) L') (f : a ∈ ex ∨ H0 a = none) (h : ∀ H', Has H0 ex H' L' → Q y H') : rPop (.ref a) [] H Q :=
  ⟨a, ys ++ [y], y, rfl, rfl, hH.at pt.mem.1, by simp, by rw [List.dropLast_concat]; exact h _ (hH.put pt f)⟩
def rSlW (K : PySem.W.Frag) : V → Option Int → Option Int → Hp → VK → Prop := fun x lo hi H Q => rSlL K x lo hi H Q ∨ rSlA K x lo hi H Q
theorem k_slW (hK : X.K = K) : SlR X (rSlW K) := hK ▸ sl_list.or sl_tupA
theorem slW_ {lo hi : Option Int} (hH : Has H0 ex H L) (r : RowH H a xs) (hw : (HT.sIx xs.length 0 lo = 0 ∧ HT.sIx xs.length xs.length hi = xs.length) → cutV xs lo hi = xs) (h : ∀ p H', Has H0 ex H' L → RowH H' p (cutV xs lo hi) → Q (.ref p) H') : rSlW K (.ref a) lo hi H Q := by
  rcases r with r | r
  · exact .inl ⟨a, xs, rfl, SqL.of r, fun p n => h p _ (hH.new n).tail (.inl upd_same)⟩
  · refine .inr ⟨a, xs, rfl, SqT.of r, fun w => h a H hH (.inr (by rw [hw w]; exact r)), fun _ p n => h p _ (hH.new n).tail (.inr upd_same)⟩
theorem cut_from (xs : List V) {i : Nat} (hi : i ≤ xs.length) : cutV xs (some (i : Int)) none = xs.drop i := by
  unfold cutV
  rw [HT.sIx_nat, Nat.min_eq_left hi]
  show (xs.drop i).take (xs.length - i) = _
  rw [List.take_of_length_le (by rw [List.length_drop]; exact Nat.le_refl _)]
/-! ### dicts -/
def DInE (neg : Bool) (Q : VK) (y x : V) (H2 : Hp) : Prop := ∃ a o, x = .ref a ∧ DGet H2 a y o ∧ Q (.bl (if neg then !o.isSome else o.isSome)) H2
theorem din_ (h : ty σ H fun y H1 => td σ H1 fun x H2 => DInE false Q y x H2) : tDIn ty td σ H Q := h
theorem dnin_ (h : ty σ H fun y H1 => td σ H1 fun x H2 => DInE true Q y x H2) : tDNotIn ty td σ H Q := h
theorem dinS {kvs : List (Key × V)} {z : Str} (e : Rd H a (.dK kvs)) (h : Q (.bl (valV kvs (.inr z)).isSome) H) : DInE false Q (.str z) (.ref a) H := ⟨a, _, rfl, .inl ⟨kvs, .inr z, e, rfl, rfl⟩, h⟩
theorem dninS {kvs : List (Key × V)} {z : Str} (e : Rd H a (.dK kvs)) (h : Q (.bl (!(valV kvs (.inr z)).isSome)) H) : DInE true Q (.str z) (.ref a) H := ⟨a, _, rfl, .inl ⟨kvs, .inr z, e, rfl, rfl⟩, h⟩
def DGetK (Q : VK) (x y : V) (H2 : Hp) : Prop := ∃ a v, x = .ref a ∧ DGet H2 a y (some v) ∧ Q v H2
theorem dget_ (h : td σ H fun x H1 => ty σ H1 fun y H2 => DGetK Q x y H2) : tDGet td ty σ H Q := h
theorem dgetS {kvs : List (Key × V)} {z : Str} {v : V} (e : Rd H a (.dK kvs)) (hv : valV kvs (.inr z) = some v) (h : Q v H) : DGetK Q (.ref a) (.str z) H := ⟨a, v, rfl, .inl ⟨kvs, .inr z, e, rfl, hv.symm⟩, h⟩
def DPutK (nx : L2.St → Hp → Prop) (σ : L2.St) (v x y : V) (H3 : Hp) : Prop := ∃ a H4, x = .ref a ∧ DPut H3 a y v H4 ∧ nx σ H4
theorem dput_ {nx bk ct : L2.St → Hp → Prop} {rt : VK} (h : tv σ H fun v H1 => td σ H1 fun x H2 => ty σ H2 fun y H3 => DPutK nx σ v x y H3) : sDPut td ty tv ⟨nx, rt, bk, ct⟩ σ H := h
theorem dputS {nx : L2.St → Hp → Prop} {kvs : List (Key × V)} {z : Str} {v : V} (hH : Has H0 ex H L) (pt : Put L a (.dK kvs) (.dK (putK kvs (.inr z) v)) L') (f : a ∈ ex ∨ H0 a = none) (hl : kvs.length ≤ 1000) (h : ∀ H', Has H0 ex H' L' → nx σ H') : DPutK nx σ v (.ref a) (.str z) H :=
  ⟨a, _, rfl, .inl ⟨kvs, .inr z, hH.at pt.mem.1, rfl, by rw [sizeLine_eq]; omega, rfl⟩, h _ (hH.put pt f)⟩
theorem dnew_ (hH : Has H0 ex H L) (h : ∀ p H', H p = none → Has H0 ex H' ((p, .dK []) :: L) → Q (.ref p) H') : tDNewK σ H Q := fun p n => h p _ n (hH.new n)
end
/-! ### loops -/
section
variable {K : PySem.W.Frag} {σ : L2.St} {H : Hp} {a d : Addr} {o : Obj} {kvs : List (Key × V)} {xs : List V} {g : TG} {tb : TS} {nx : L2.St → Hp → Prop} {rt : VK} {td te : TE} {R : It → Hp → Prop}
def ItemsK (R : It → Hp → Prop) (x : V) (H1 : Hp) : Prop := ∃ d o kvs, x = .ref d ∧ H1 d = some (.frz o (.dK kvs)) ∧ R (Iti d o kvs) H1
theorem items_ (h : td σ H fun x H1 => ItemsK R x H1) : iItems td σ H R := h
theorem itemsk (e : H d = some (.frz o (.dK kvs))) (h : R (Iti d o kvs) H) : ItemsK R (.ref d) H := ⟨d, o, kvs, rfl, e, h⟩
theorem fork_items (Pv : Nat → L2.St → Hp → Prop) (h0 : Pv 0 σ H) (hl : ∀ i σ H, i ≤ kvs.length → Pv i σ H → H d = some (.frz o (.dK kvs)))
    (hs : ∀ i k v σ H T, kvs[i]? = some (k, v) → Pv i σ H → H T = none → g (.ref T) σ (upd H T (.tup [kV k, v])) fun σ2 H2 => tb ⟨Pv (i + 1), rt, nx, Pv (i + 1)⟩ σ2 H2) (hd : ∀ σ H, Pv kvs.length σ H → nx σ H) : ForK g tb nx rt σ (Iti d o kvs) H := by
  refine ⟨fun i m σ H => m + i = kvs.length ∧ Pv i σ H, ⟨kvs.length, rfl, h0⟩, fun i m σ H ⟨hm, hp⟩ => ?_⟩
  by_cases z : i = kvs.length
  · subst z
    exact .inl ⟨⟨hl _ _ _ (Nat.le_refl _) hp, Nat.le_refl _⟩, hd _ _ hp⟩
  · refine .inr ⟨⟨hl i _ _ (by omega) hp, by omega⟩, Pv (i + 1), fun σ' H' q => ⟨m - 1, by omega, by omega, q⟩, fun x H' q => ?_⟩
    obtain ⟨T, k, v, e, rfl, n, rfl⟩ := q
    exact hs i k v σ H T e hp n
def RevK (K : PySem.W.Frag) (R : It → Hp → Prop) (v : V) (H1 : Hp) : Prop := ∃ (a : Addr) (xs : List V), v = .ref a ∧ ((SqL K H1 a xs ∧ R (Itv K a xs.length) H1) ∨ (SqT K H1 a xs ∧ R (RT.ItvT K a xs.length) H1))
theorem rev_ (h : te σ H fun v H1 => RevK K R v H1) : RT.iRevA K te σ H R := h
theorem fork_rev (Pv : Nat → L2.St → Hp → Prop) (h0 : Pv 0 σ H) (hl : ∀ i σ H, i ≤ xs.length → Pv i σ H → SqL K H a xs)
    (hs : ∀ i x σ H, i < xs.length → xs[xs.length - 1 - i]? = some x → Pv i σ H → g x σ H fun σ2 H2 => tb ⟨Pv (i + 1), rt, nx, Pv (i + 1)⟩ σ2 H2) (hd : ∀ σ H, Pv xs.length σ H → nx σ H) : RevK K (fun J H1 => ForK g tb nx rt σ J H1) (.ref a) H := by
  refine ⟨a, xs, rfl, .inl ⟨hl 0 _ _ (Nat.zero_le _) h0, fun i m σ H => m + i = xs.length ∧ Pv i σ H, ⟨xs.length, rfl, h0⟩, fun i m σ H ⟨hm, hp⟩ => ?_⟩⟩
  by_cases z : i = xs.length
  · subst z
    exact .inl ⟨Nat.le_refl _, hd _ _ hp⟩
  · have lt : xs.length - 1 - i < xs.length := by omega
    refine .inr ⟨⟨by omega, xs, xs[xs.length - 1 - i], hl i _ _ (by omega) hp, List.getElem?_eq_getElem lt⟩, Pv (i + 1), fun σ' H' q => ⟨m - 1, by omega, by omega, q⟩, fun x H' q => ?_⟩
    obtain ⟨rfl, hx⟩ := q
    exact hs i x σ _ (by omega) (hx _ (hl i _ _ (by omega) hp)) hp
theorem k_revA {X : Cx} {tg e : Expr} {p pos : Pos} (hK : X.K = K) (hg : Gl X "reversed") (hm : X.mg "reversed" = none) (he : PE X e te) (hs : starEach [e] X.env = (false, eval e X.env) :: starEach [] X.env := by rfl) : PI X tg (.Call (.Name "reversed" p) [e] [] pos) (RT.iRevA K te) := hK ▸ RT.pi_revA hg hm he hs
end
theorem k_bm0 {X : Cx} {K : PySem.W.Frag} {o : Expr} {name : Str} {apos cpos : Pos} {T id : String} {r : V → List V → Hp → VK → Prop} {to : TE} (hK : X.K = K) (pa : PlainAttrs T) (slot : Slot T name id) (hty : typeOf (.builtin id) = pure (.type "method_descriptor")) (hm : MtR X id r) (ho : PE X o to)
    (hbase : attributeBase o name X.env (eval o X.env) = eval o X.env := by rfl) (hline : (apos.endLine == cpos.line) = true := by rfl) : PE X (.Call (.Attribute o name apos) [] [] cpos) (tBM0 K T r to) := hK ▸ pe_bm0 pa slot hty hm ho hbase hline
def Bm0K (K : PySem.W.Frag) (T : String) (r : V → List V → Hp → VK → Prop) (Q : VK) (x : V) (H1 : Hp) : Prop := tyV K T x H1 ∧ r x [] H1 Q
theorem bm0_ {K : PySem.W.Frag} {T : String} {r : V → List V → Hp → VK → Prop} {to : TE} {σ : L2.St} {H : Hp} {Q : VK} (h : to σ H fun x H1 => Bm0K K T r Q x H1) : tBM0 K T r to σ H Q := h
theorem bm0L {K : PySem.W.Frag} {r : V → List V → Hp → VK → Prop} {a : Addr} {xs : List V} {H : Hp} {Q : VK} (hs : SqL K H a xs) (h : r (.ref a) [] H Q) : Bm0K K "list" r Q (.ref a) H := ⟨.inl ⟨rfl, xs, hs⟩, h⟩
/-! ### errors that leave a locked dict -/
def Unl (H0 : Hp) (E : XK) : XK := fun cls dd H => ∃ d od u, (∀ o' u', H0 d ≠ some (.frz o' u')) ∧ H d = some (.frz od u) ∧ E cls dd (upd H d u)
theorem takes_unl {X : Cx} {E : XK} (tk : Takes X (fun cls dd _ H => E cls dd H)) : Takes X (fun cls dd _ H => Unl X.H_0 E cls dd H) := by
  rintro u s' ⟨a, B, sI, pins, σ, H, cls, dd, e, I, nb, up, sky, na, os, ag, d, od, v, hn, hd, w⟩
  refine tk u s' ⟨a, B, sI, pins, σ, upd H d v, cls, dd, e, I.unlock hd hn, nb, up, sky, ?_, os, ag, w⟩
  rw [upd_ne (fun z => by rw [z, hd] at na; cases na)]
  exact na
end Sw
namespace Sw
open PySem PySem.Spec PyProof.Rows L2
section
variable {K : PySem.W.Frag} {H0 : Hp} {ex : List Addr} {H : Hp} {L : List (Addr × HO)} {Q : VK} {σ : L2.St} {a : Addr} {xs : List V} {te tl : TE} {tt : TT} {g : TG} {vs : List Nat} {R : It → Hp → Prop} {tb : TS} {nx : L2.St → Hp → Prop} {rt : VK}
theorem RowH.all (r : RowH H0 a xs) (n : a ∉ ex) : (∀ H', Has H0 ex H' L → SqL K H' a xs) ∨ (∀ H', Has H0 ex H' L → SqT K H' a xs) := r.imp (fun e _ h => SqL.of (h.keep a _ e n)) fun e _ h => SqT.of (h.keep a _ e n)
def ISeqK (K : PySem.W.Frag) (R : It → Hp → Prop) (x : V) (H1 : Hp) : Prop := ∃ a, x = .ref a ∧ (((∃ xs, SqL K H1 a xs) ∧ R (Itl K a) H1) ∨ ((∃ xs, SqT K H1 a xs) ∧ R (Itt K a) H1))
theorem iseq_ (h : tl σ H fun x H1 => ISeqK K R x H1) : iSeq K tl σ H R := h
theorem lcs_row (hH : Has H0 ex H L) (hl : (∀ H', Has H0 ex H' L → SqL K H' a xs) ∨ (∀ H', Has H0 ex H' L → SqT K H' a xs)) (P : Nat → List V → Prop) (p0 : P 0 [])
    (turn : ∀ i x D acc H', xs[i]? = some x → (D ∈ ex ∨ H0 D = none) → acc.length ≤ i → P i acc → Has H0 ex H' ((D, .lst acc) :: L) → g x (wipe σ vs) H' fun σ2 H2 => LcT vs σ tt te (CInv H0 ex (Sim P L) D (i + 1)) D σ2 H2)
    (done : ∀ D acc H', acc.length ≤ xs.length → P xs.length acc → Has H0 ex H' ((D, .lst acc) :: L) → Q (.ref D) H') : ISeqK K (fun J H1 => LcK g tt te vs σ Q J H1) (.ref a) H := by
  rcases hl with hl | hl
  · exact ⟨a, rfl, .inl ⟨⟨xs, hl H hH⟩, lcs_list hH hl P p0 turn done⟩⟩
  · exact ⟨a, rfl, .inr ⟨⟨xs, hl H hH⟩, lcs_tup hH hl P p0 turn done⟩⟩
theorem fork_row (Pv : Nat → L2.St → Hp → Prop) (h0 : Pv 0 σ H) (hl : (∀ i σ H, i ≤ xs.length → Pv i σ H → SqL K H a xs) ∨ (∀ i σ H, i ≤ xs.length → Pv i σ H → SqT K H a xs))
    (hs : ∀ i x σ H, xs[i]? = some x → Pv i σ H → g x σ H fun σ2 H2 => tb ⟨Pv (i + 1), rt, nx, Pv (i + 1)⟩ σ2 H2) (hd : ∀ σ H, Pv xs.length σ H → nx σ H) : ISeqK K (fun J H1 => ForK g tb nx rt σ J H1) (.ref a) H := by
  rcases hl with hl | hl
  · exact ⟨a, rfl, .inl ⟨⟨xs, hl 0 _ _ (Nat.zero_le _) h0⟩, fork_list Pv h0 hl hs hd⟩⟩
  · exact ⟨a, rfl, .inr ⟨⟨xs, hl 0 _ _ (Nat.zero_le _) h0⟩, fork_tup Pv h0 hl hs hd⟩⟩
end
end Sw
set_option Elab.async false
set_option linter.all false
set_option maxRecDepth 100000
set_option maxHeartbeats 4000000
namespace K24
open PySem PySem.Spec PyProof.Rows L2 Sw
local macro_rules | `(tactic| walk_at "fr0") => `(tactic| first | assumption | exact Or.inl List.mem_cons_self | (refine Or.inr ?_; assumption))
local macro_rules | `(tactic| walk_at "at") => `(tactic| first | assumption | ((with_reducible refine' Has.at (by assumption) ?m); (case m => walk_at "mem")))
local macro_rules | `(tactic| walk_at "sub") => `(tactic| first | with_reducible exact List.Sublist.refl _ | with_reducible exact List.nil_sublist _ | ((with_reducible refine' List.Sublist.cons_cons _ ?t); walk_at "sub") | ((with_reducible refine' List.Sublist.cons _ ?t); walk_at "sub"))
local macro_rules | `(tactic| walk_at "len") => `(tactic| (simp only [List.length_cons, List.length_nil, List.length_append, List.length_map]; omega))
local macro_rules | `(tactic| walk_at "om") => `(tactic| first | decide | omega | (constructor <;> omega) | (simp only [List.length_map]; first | omega | (constructor <;> omega)))
local macro_rules | `(tactic| walk_at "ati") => `(tactic| first | exact at0 | exact at1 | exact at2 | exact at3 | exact at4 | exact at5 | exact at6 | exact at7 | exact at8 | exact at9 | assumption)
local macro_rules | `(tactic| walk_at "mem") => `(tactic| first | with_reducible exact List.mem_cons_self | ((with_reducible refine' List.mem_cons_of_mem _ ?t); walk_at "mem"))
local macro_rules | `(tactic| walk_at "put") => `(tactic| first | with_reducible exact Put.here | ((with_reducible refine' Put.there ?t); walk_at "put"))
local macro_rules | `(tactic| walk_at "sq") => `(tactic| first | ((with_reducible refine' Has.l (by assumption) ?m); (case m => walk_at "mem")) | ((with_reducible refine' Has.t (by assumption) ?m); (case m => walk_at "mem")) | ((with_reducible refine' Has.sl (by assumption) (by assumption) ?n); (case n => walk_at "nin")) | ((with_reducible refine' Has.st (by assumption) (by assumption) ?n); (case n => walk_at "nin")))
local macro_rules | `(tactic| walk_at "nin") => `(tactic| (simp only [List.mem_cons, List.not_mem_nil, or_false, not_or, not_false_eq_true]; try (first | assumption | (refine ⟨?_, ?_⟩ <;> assumption))))
local macro_rules | `(tactic| walk_at "g1") => `(tactic| first
  | ((with_reducible refine' sfldk (by assumption) ?p ?f ?c ?n ?l ?h); (case p => walk_at "put"); (case f => walk_at "fr0"); (case c => assumption); (case n => assumption); (case l => exact Nat.le_of_ble_eq_true rfl); (intro H_ h_))
  | ((with_reducible refine' fldk ?p ?c ?n ?l ?h); (case p => walk_at "at"); (case c => assumption); (case n => assumption); (case l => rfl))
  | with_reducible refine' sfld_ ?_
  | with_reducible refine' make_ ?_
  | with_reducible refine' lenSet_ ?_
  | with_reducible refine' chain2_ ?_
  | with_reducible refine' chain3_ ?_
  | with_reducible refine' link_ ?_
  | with_reducible refine' endC_ ?_
  | with_reducible refine' chI ?_
  | with_reducible refine' inS1 ?_
  | with_reducible refine' isiS ?_
  | with_reducible refine' isiI ?_
  | with_reducible refine' isiIb ?_
  | with_reducible refine' isN_ ?_
  | with_reducible refine' notN_ ?_
  | with_reducible refine' fld_ ?_
  | with_reducible refine' istr_ ?_
  | with_reducible refine' istrk ?_
  | ((with_reducible refine' lenSP ?c ?h); (case c => walk_at "om"))
  | ((with_reducible refine' isiTup ?p ?h); (case p => walk_at "at"))
  | ((with_reducible refine' isiDict ?p ?h); (case p => walk_at "at"))
  | ((with_reducible refine' gt2_ ?s ?h); (case s => walk_at "sq"))
  | ((with_reducible refine' gt3_ ?s ?h); (case s => walk_at "sq"))
  | with_reducible refine' tru_ ?_
  | with_reducible refine' trub ?_
  | with_reducible refine' par3_ ?_
  | with_reducible refine' par3k ?_
  | with_reducible refine' bm_ ?_
  | with_reducible refine' bmS ?_
  | ((with_reducible refine' bmL ?s ?h); (case s => walk_at "sq"))
  | with_reducible refine' find_ ?_
  | with_reducible refine' par_ ?_
  | with_reducible refine' park ?_
  | ((with_reducible refine' modP ?c ?h); (case c => walk_at "om"); (intro r_ r0_ r1_))
  | ((with_reducible refine' divP ?c ?h); (case c => walk_at "om"); (intro r_ r0_))
  | ((with_reducible refine' mulR ?c ?h); (case c => walk_at "om"))
  | ((with_reducible refine' mulL ?c ?h); (case c => walk_at "om"))
  | ((with_reducible refine' powP ?c ?h); (case c => exact ⟨by decide, by decide, by decide⟩))
  | with_reducible refine' rng1_ ?_
  | with_reducible refine' rng2_ ?_
  | with_reducible refine' ilist_ ?_
  | with_reducible refine' itup_ ?_
  | with_reducible refine' for_ ?_
  | with_reducible refine' lc_ ?_
  | with_reducible refine' yes_ ?_
  | with_reducible refine' part_ ?_
  | with_reducible refine' nopart_ ?_
  | with_reducible refine' sl_ ?_
  | with_reducible refine' gn_ ?_
  | with_reducible refine' partk ?_
  | with_reducible refine' isi_str ?_
  | with_reducible refine' int1 ?_
  | ((with_reducible refine' min2P ?h); (intro m_ m0_ m1_ m2_))
  | ((with_reducible refine' max2P ?h); (intro m_ m0_ m1_ m2_))
  | ((with_reducible refine' lenL ?s ?h); (case s => walk_at "sq"))
  | ((with_reducible refine' lenT ?s ?h); (case s => walk_at "sq"))
  | ((with_reducible refine' ilistk ?s ?h); (case s => walk_at "sq"))
  | ((with_reducible refine' itupk ?s ?h); (case s => walk_at "sq"))
  | ((with_reducible refine' getL ?s ?e ?h); (case s => walk_at "sq"); (case e => walk_at "ati"))
  | with_reducible refine' seq_ ?_
  | with_reducible refine' set_ ?_
  | with_reducible refine' asg_ ?_
  | with_reducible refine' op_ ?_
  | with_reducible refine' un_ ?_
  | with_reducible refine' nil_ ?_
  | with_reducible refine' cons_ ?_
  | with_reducible refine' cb_ ?_
  | with_reducible refine' call_ ?_
  | with_reducible refine' test_ ?_
  | with_reducible refine' b_ ?_
  | with_reducible refine' not_ ?_
  | with_reducible refine' and_ ?_
  | with_reducible refine' or_ ?_
  | with_reducible refine' andV_ ?_
  | with_reducible refine' orV_ ?_
  | with_reducible refine' notV_ ?_
  | with_reducible refine' if_ ?_
  | with_reducible refine' drop_ ?_
  | with_reducible refine' ret_ ?_
  | with_reducible refine' ifS_ ?_
  | with_reducible refine' augS_ ?_
  | with_reducible refine' tup_ ?_
  | with_reducible refine' lst_ ?_
  | with_reducible refine' c_ ?_
  | with_reducible refine' next_ ?_
  | with_reducible refine' break_ ?_
  | with_reducible refine' cont_ ?_
  | with_reducible exact retN_ (by assumption)
  | with_reducible refine' blk ?_
  | with_reducible refine' andk ?_
  | with_reducible refine' ork ?_
  | with_reducible refine' notk ?_
  | with_reducible refine' gname ?_
  | with_reducible refine' gasg_ ?_
  | with_reducible refine' ipI_ ?_
  | with_reducible refine' i0 ?_
  | with_reducible refine' iu ?_
  | with_reducible refine' addI ?_
  | with_reducible refine' setk0 ?_
  | with_reducible refine' var0 ?_
  | with_reducible refine' aug0 ?_
  | with_reducible refine' setk1 ?_
  | with_reducible refine' var1 ?_
  | with_reducible refine' aug1 ?_
  | with_reducible refine' setk2 ?_
  | with_reducible refine' var2 ?_
  | with_reducible refine' aug2 ?_
  | with_reducible refine' setk3 ?_
  | with_reducible refine' var3 ?_
  | with_reducible refine' aug3 ?_
  | with_reducible refine' setk4 ?_
  | with_reducible refine' var4 ?_
  | with_reducible refine' aug4 ?_
  | with_reducible refine' setk5 ?_
  | with_reducible refine' var5 ?_
  | with_reducible refine' aug5 ?_
  | with_reducible refine' setk6 ?_
  | with_reducible refine' var6 ?_
  | with_reducible refine' aug6 ?_
  | with_reducible refine' setk7 ?_
  | with_reducible refine' var7 ?_
  | with_reducible refine' aug7 ?_
  | with_reducible refine' setk8 ?_
  | with_reducible refine' var8 ?_
  | with_reducible refine' aug8 ?_
  | with_reducible refine' setk9 ?_
  | with_reducible refine' var9 ?_
  | with_reducible refine' aug9 ?_
  | with_reducible refine' setk10 ?_
  | with_reducible refine' var10 ?_
  | with_reducible refine' aug10 ?_
  | with_reducible refine' setk11 ?_
  | with_reducible refine' var11 ?_
  | with_reducible refine' aug11 ?_
  | with_reducible refine' setk12 ?_
  | with_reducible refine' var12 ?_
  | with_reducible refine' aug12 ?_
  | with_reducible refine' setk13 ?_
  | with_reducible refine' var13 ?_
  | with_reducible refine' aug13 ?_
  | with_reducible refine' setk14 ?_
  | with_reducible refine' var14 ?_
  | with_reducible refine' aug14 ?_
  | with_reducible refine' setk15 ?_
  | with_reducible refine' var15 ?_
  | with_reducible refine' aug15 ?_
  | with_reducible refine' setk16 ?_
  | with_reducible refine' var16 ?_
  | with_reducible refine' aug16 ?_
  | with_reducible refine' setk17 ?_
  | with_reducible refine' var17 ?_
  | with_reducible refine' aug17 ?_
  | with_reducible refine' setk18 ?_
  | with_reducible refine' var18 ?_
  | with_reducible refine' aug18 ?_
  | with_reducible refine' setk19 ?_
  | with_reducible refine' var19 ?_
  | with_reducible refine' aug19 ?_
  | with_reducible refine' setk20 ?_
  | with_reducible refine' var20 ?_
  | with_reducible refine' aug20 ?_
  | with_reducible refine' setk21 ?_
  | with_reducible refine' var21 ?_
  | with_reducible refine' aug21 ?_
  | with_reducible refine' setk22 ?_
  | with_reducible refine' var22 ?_
  | with_reducible refine' aug22 ?_
  | with_reducible refine' setk23 ?_
  | with_reducible refine' var23 ?_
  | with_reducible refine' aug23 ?_
  | with_reducible refine' setk24 ?_
  | with_reducible refine' var24 ?_
  | with_reducible refine' aug24 ?_
  | with_reducible refine' setk25 ?_
  | with_reducible refine' var25 ?_
  | with_reducible refine' aug25 ?_
  | ((with_reducible refine' equ ?e ?h); (case e => rfl))
  | ((with_reducible refine' neu ?e ?h); (case e => rfl))
  | ((with_reducible refine' addSP ?e ?f ?h); (case e => walk_at "om"); (case f => walk_at "om"))
  | ((with_reducible refine' strP ?c ?h); (case c => walk_at "om"); (intro x_ x0_ x1_))
  | ((with_reducible refine' addL (by assumption) ?a ?b ?l ?h); (case a => walk_at "mem"); (case b => walk_at "mem"); (case l => walk_at "len"); (intro p_ H_ n_ h_))
  | ((with_reducible refine' tupk (by assumption) ?e ?h); (case e => simp only [List.length_cons, List.length_nil]; decide); (intro p_ H_ n_ h_))
  | ((with_reducible refine' lstk (by assumption) ?e ?h); (case e => simp only [List.length_cons, List.length_nil]; decide); (intro p_ H_ n_ h_))
  | ((with_reducible refine' ixT ?s ?e ?h); (case s => walk_at "sq"); (case e => walk_at "ati"))
  | ((with_reducible refine' ixL ?s ?e ?h); (case s => walk_at "sq"); (case e => walk_at "ati"))
  | ((with_reducible refine' ite_t ?e ?h); (case e => rfl))
  | ((with_reducible refine' ite_f ?e ?h); (case e => rfl)))
local macro_rules | `(tactic| walk_at "go") => `(tactic| repeat walk_at "g1")

local macro_rules | `(tactic| walk_at "g1") => `(tactic| first
  | with_reducible refine' rz_ ?_
  | with_reducible refine' en_ ?_
  | with_reducible refine' din_ ?_
  | with_reducible refine' dnin_ ?_
  | with_reducible refine' dget_ ?_
  | with_reducible refine' dput_ ?_
  | with_reducible refine' bm0_ ?_
  | with_reducible refine' rev_ ?_
  | with_reducible refine' items_ ?_
  | with_reducible refine' iseq_ ?_
  | with_reducible refine' sortSet_ ?_
  | ((with_reducible refine' dnew_ (by assumption) ?h); (intro p_ H_ n_ h_))
  | ((with_reducible refine' bm0L ?s ?h); (case s => walk_at "sq"))
  | ((with_reducible refine' equ ?e ?h); (case e => rfl)))

section
variable {P : Program} {w : World} {K : PySem.W.Frag} {mg : Str → Option Value} {base : Heap}
def topS (i : Nat) : Stmt := PySem.Challenge.pw_switchyard_k24_whole_aliases.main.body.getD i (.Pass ⟨0, 0, 0, 0⟩)
abbrev s_BadWords___init__ : Stmt := inClass (topS 2) 0
theorem sc_BadWords___init__ : FnScope ["self", "number"] ["self", "number"] (defScope s_BadWords___init__) := ⟨rfl, rfl, rfl, by decide +kernel, rfl, by decide +kernel, by decide +kernel⟩
abbrev s_BadAlias___init__ : Stmt := inClass (topS 3) 0
theorem sc_BadAlias___init__ : FnScope ["self", "name"] ["self", "name"] (defScope s_BadAlias___init__) := ⟨rfl, rfl, rfl, by decide +kernel, rfl, by decide +kernel, by decide +kernel⟩
abbrev s_is_row : Stmt := topS 7
theorem sc_is_row : FnScope ["value"] ["value"] (defScope s_is_row) := ⟨rfl, rfl, rfl, by decide +kernel, rfl, by decide +kernel, by decide +kernel⟩
abbrev s_is_name : Stmt := topS 8
theorem sc_is_name : FnScope ["value", "sign"] ["value"] (defScope s_is_name) := ⟨rfl, rfl, rfl, by decide +kernel, rfl, by decide +kernel, by decide +kernel⟩
abbrev s_checked_words : Stmt := topS 9
theorem sc_checked_words : FnScope ["words", "number", "word"] ["words"] (defScope s_checked_words) := ⟨rfl, rfl, rfl, by decide +kernel, rfl, by decide +kernel, by decide +kernel⟩
abbrev s__check : Stmt := topS 14
theorem sc__check : FnScope ["aliases", "name", "words", "word"] ["aliases"] (defScope s__check) := ⟨rfl, rfl, rfl, by decide +kernel, rfl, by decide +kernel, by decide +kernel⟩
theorem ok_err_alias {BA f : Addr} {fd : FuncData} (F : Fun K "__init__" "BadAlias.__init__" s_BadAlias___init__ f fd) (T : OexC K BA) (no : PySem.W.findIn K (.ref BA) "name" = some none) : FnOk P w K mg base CX0 1 f fd ["self", "name"] (spErr BA "name") := by
  refine F.ok sc_BadAlias___init__ (fun vs H Q E h => ?_) (fun cdv A outer s H vs Q E hr h => ?_)
  · obtain ⟨a, v, rfl, _⟩ := h
    rfl
  · obtain ⟨a, v, rfl, ha, q⟩ := h
    refine ⟨_, (pss_one (k_ost (K := K) rfl (pv 0) (pv 1))), ?_⟩
    show (_ : L2.St → Hp → Prop) [some (.ref a), some (v)] H
    exact ost_ T no ha (fun R r => ⟨v, rfl, r⟩) (fun R r => ⟨.ref a, rfl, r⟩) fun dx n ne => q dx n ne
theorem ok_err_words {BW f : Addr} {fd : FuncData} (F : Fun K "__init__" "BadWords.__init__" s_BadWords___init__ f fd) (T : OexC K BW) (no : PySem.W.findIn K (.ref BW) "number" = some none) : FnOk P w K mg base CX0 1 f fd ["self", "number"] (spErr BW "number") := by
  refine F.ok sc_BadWords___init__ (fun vs H Q E h => ?_) (fun cdv A outer s H vs Q E hr h => ?_)
  · obtain ⟨a, v, rfl, _⟩ := h
    rfl
  · obtain ⟨a, v, rfl, ha, q⟩ := h
    refine ⟨_, (pss_one (k_ost (K := K) rfl (pv 0) (pv 1))), ?_⟩
    show (_ : L2.St → Hp → Prop) [some (.ref a), some (v)] H
    exact ost_ T no ha (fun R r => ⟨v, rfl, r⟩) (fun R r => ⟨.ref a, rfl, r⟩) fun dx n ne => q dx n ne
/-! ### rows, names -/
abbrev vT (ws : List Str) : List V := ws.map V.str
def RowB (H : Hp) (v : V) (b : Bool) : Prop := (∃ p xs, v = .ref p ∧ RowH H p xs ∧ b = true) ∨ (∃ x, v = .str x ∧ b = false)
def spRow (_ : PySem.W.Frag) : Sp := fun vs H Q _ => ∃ (v : V) (b : Bool), vs = [v] ∧ RowB H v b ∧ ∀ H', Has H [] H' [] → Q (.bl b) H'
theorem ok_is_row {f : Addr} {fd : FuncData} {k : Nat} (F : Fun K "is_row" "is_row" s_is_row f fd) (m_isinstance : mg "isinstance" = none) (m_list : mg "list" = none) (m_tuple : mg "tuple" = none) : FnOk P w K mg base CX0 (k + 1) f fd ["value"] (spRow K) := by
  refine F.ok sc_is_row (fun vs H Q E h => ?_) (fun cdv A outer s H vs Q E hr h => ?_)
  · obtain ⟨v, b, rfl, _⟩ := h
    rfl
  · obtain ⟨v, b, rfl, hb, q⟩ := h
    refine ⟨_, (pss_one (ps_ret (pe_callB (k_isiU (K := K) rfl) (by rfl) m_isinstance (by decide +kernel) (pa_cons (pv 0) (pa_cons (pe_tup (pa_cons (pe_bltn (v := .ty "list") (by rfl) m_list (by decide +kernel) rfl) (pa_cons (pe_bltn (v := .ty "tuple") (by rfl) m_tuple (by decide +kernel) rfl) pa_nil))) pa_nil))))), ?_⟩
    have h0 := Has.start H []
    show (_ : L2.St → Hp → Prop) [some (v)] H
    walk_at "go"
    rename_i p G n g
    have hq := g.at List.mem_cons_self
    rcases hb with ⟨a, xs, rfl, hr | hr, rfl⟩ | ⟨x, rfl, rfl⟩
    · exact isiRowL hq (g.keep a _ hr (by simp)) (q _ g.tail)
    · exact isiRowT hq (g.keep a _ hr (by simp)) (q _ g.tail)
    · exact isiT2 hq (.base (.str x)) (kitAny_cons (kit_ty (r := false) (by decide +kernel)) (fun _ => kitAny_cons (kit_ty (r := false) (by decide +kernel)) (fun _ => rfl) fun z => by cases z) fun z => by cases z) (q _ g.tail)
abbrev lettersS : Str := "abcdefghijklmnopqrstuvwxyz"
abbrev figuresS : Str := "0123456789"
def signOk (c : Nat) : Bool := decide (c ∈ (lettersS ++ figuresS).cps.toList)
def nameL : List Nat → Bool
  | [] => false
  | c :: r => decide (r.length ≤ 7) && decide (c ∈ lettersS.cps.toList) && (c :: r).all signOk
def nameB (x : Str) : Bool := nameL x.cps.toList
def NameB (v : V) (b : Bool) : Prop := (∃ x : Str, v = .str x ∧ x.length ≤ 100000 ∧ b = nameB x) ∨ (∃ i : Int, v = .int i ∧ b = false)
def spName (_ : PySem.W.Frag) : Sp := fun vs H Q _ => ∃ (v : V) (b : Bool), vs = [v] ∧ NameB v b ∧ ∀ H', Has H [] H' [] → Q (.bl b) H'
theorem ok_is_name {f : Addr} {fd : FuncData} {k : Nat} {tk tk2 : Tok} (F : Fun K "is_name" "is_name" s_is_name f fd) (m_isinstance : mg "isinstance" = none) (m_str : mg "str" = none) (m_len : mg "len" = none) (m_all : mg "all" = none)
    (g_LETTERS : mg "LETTERS" = some (.str lettersS tk)) (g_FIGURES : mg "FIGURES" = some (.str figuresS tk2)) : FnOk P w K mg base CX0 (k + 1) f fd ["value"] (spName K) := by
  refine F.ok sc_is_name (fun vs H Q E h => ?_) (fun cdv A outer s H vs Q E hr h => ?_)
  · obtain ⟨x, b, rfl, _⟩ := h
    rfl
  · obtain ⟨v, b, rfl, hb, q⟩ := h
    refine ⟨_, (pss_cons (ps_if (PW.pt (pw_or (pt_not (pt_val (pe_callB (k_isiU (K := K) rfl) (by rfl) m_isinstance (by decide +kernel) (pa_cons (pv 0) (pa_cons (pe_bltn (v := .ty "str") (by rfl) m_str (by decide +kernel) rfl) pa_nil))))) (pw_or (pt_cmpR op_lt (pe_callB (k_len (K := K) rfl) (by rfl) m_len (by decide +kernel) (pa_cons (pv 0) pa_nil)) pe_int (nomark _)) (pw_or1 (pt_cmpR op_gt (pe_callB (k_len (K := K) rfl) (by rfl) m_len (by decide +kernel) (pa_cons (pv 0) pa_nil)) pe_int (nomark _)))))) (pss_one (ps_ret pe_bl)) pss_nil)
    (pss_one (ps_ret (pe_and (pe_cmpR (k_inU (K := K) rfl) (pe_ix (k_ix (K := K) rfl) (pv 0) pe_int (fun _ _ => rfl)) (pe_glob (v := .str "abcdefghijklmnopqrstuvwxyz") (by rfl) g_LETTERS ⟨_, rfl⟩) (by rfl)) (pe_one (pe_callB (k_all (K := K) rfl rfl) (by rfl) m_all (by decide +kernel) (pa_cons (pe_lc (own := [("sign", 1)]) (g := gName 1) rfl sc_is_name.nd (pi_str (pv 0)) (blkOk_by (own := [("sign", 1)]) (N := ["value", "sign"]) (sc := defScope s_is_name) (by decide +kernel)) (fun _ _ _ _ _ => (pg_name (i := 1) sc_is_name.nd rfl (Or.inl rfl))) (fun _ _ _ _ _ => pts_nil) (fun _ _ _ _ _ => (pe_cmpR (k_inU (K := K) rfl) (pv 1) (pe_op (k_add (K := K) rfl) (pe_glob (v := .str "abcdefghijklmnopqrstuvwxyz") (by rfl) g_LETTERS ⟨_, rfl⟩) (pe_glob (v := .str "0123456789") (by rfl) g_FIGURES ⟨_, rfl⟩)) (by rfl)))) pa_nil))))))), ?_⟩
    have h0 := Has.start H []
    show (_ : L2.St → Hp → Prop) [some (v), none] H
    walk_at "go"
    rcases hb with ⟨x, rfl, hx, rfl⟩ | ⟨i, rfl, rfl⟩
    · walk_at "go"
      have hsz : x.length = x.cps.toList.length := by rw [Array.length_toList]; rfl
      refine ite_c (fun hc => ?_) (fun hc => ?_)
      · walk_at "go"
        have e : nameB x = false := by
          have z := of_decide_eq_true hc
          have z2 : x.cps.toList = [] := List.length_eq_zero_iff.mp (by omega)
          unfold nameB
          rw [z2]
          rfl
        rw [← e]
        exact q _ h0
      · walk_at "go"
        have z := of_decide_eq_false hc
        obtain ⟨c, r, hcr⟩ : ∃ c r, x.cps.toList = c :: r := by
          cases hx2 : x.cps.toList with
          | nil => rw [hx2] at hsz; simp at hsz; omega
          | cons c r => exact ⟨c, r, rfl⟩
        have hlen : x.length = r.length + 1 := by rw [hsz, hcr]; rfl
        refine ite_c (fun hc2 => ?_) (fun hc2 => ?_)
        · walk_at "go"
          have e : nameB x = false := by
            have z := of_decide_eq_true hc2
            unfold nameB nameL
            rw [hcr]
            have : ¬ r.length ≤ 7 := by omega
            simp [this]
          rw [← e]
          exact q _ h0
        · walk_at "go"
          have z2 := of_decide_eq_false hc2
          have e7 : decide (r.length ≤ 7) = true := decide_eq_true (by omega)
          refine ixS (c := c) (by rw [sizeLine_eq]; omega) (by rw [hcr]; exact at0) ?_
          walk_at "go"
          refine ite_c (fun hc3 => ?_) (fun hc3 => ?_)
          · walk_at "go"
            refine lcs_str h0 (fun i acc => acc = ((x.cps.toList.take i).map signOk).map V.bl) rfl (fun i c' D acc H' hi hD hl hp hH => ?_) (fun D acc H' hl hp hH => ?_)
            · subst hp
              have lt := (List.getElem?_eq_some_iff.mp hi).1
              simp only [List.map, wipe, List.set]
              walk_at "go"
              refine lct rfl ?_
              walk_at "go"
              exact lcs hH (by walk_at "sub") hD hl (by omega) (by rw [List.take_add_one, hi]; simp [signOk])
            · subst hp
              walk_at "go"
              refine all_ (hH.l List.mem_cons_self) ?_
              have e : nameB x = List.all (List.map signOk (List.take x.cps.size x.cps.toList)) id := by
                rw [List.take_of_length_le (by simp)]
                unfold nameB
                rw [hcr]
                show (decide (r.length ≤ 7) && decide (c ∈ lettersS.cps.toList) && (c :: r).all signOk) = _
                rw [e7, hc3]
                simp [List.all_map, Function.comp_def]
              rw [← e]
              exact q _ hH.tail
          · have e : nameB x = false := by
              unfold nameB
              rw [hcr]
              show (decide (r.length ≤ 7) && decide (c ∈ lettersS.cps.toList) && (c :: r).all signOk) = _
              rw [e7, hc3]
              rfl
            rw [← e]
            exact q _ h0
    · refine isi1 (.base (.int i)) (kit_ty (r := false) (by decide +kernel)) ?_
      walk_at "go"
      exact q _ h0

/-! ### lists of words, aliases -/
def spChecked (BW : Addr) (K : PySem.W.Frag) : Sp := fun vs H Q E => ∃ v, vs = [v] ∧ ((∃ (p : Addr) (us : List Str), v = .ref p ∧ RowH H p (vT us) ∧ us.length ≤ 1000 ∧ ∀ p' H', Has H [] H' [] → RowH H' p' (vT us) → Q (.ref p') H') ∨
  (∃ (p : Addr) (z : Str) (i : Int), v = .ref p ∧ H p = some (.lst [.str z, .int i]) ∧ ∀ dd H', Has H [] H' [(dd, .xd [("number", .int 1)])] → E (.ref BW) (some dd) H') ∨
  (∃ x : Str, v = .str x ∧ ∀ dd H', Has H [] H' [(dd, .xd [("number", .non)])] → E (.ref BW) (some dd) H'))
theorem ok_checked {BW f : Addr} {fd : FuncData} {k : Nat} (F : Fun K "checked_words" "checked_words" s_checked_words f fd) (c_is_row : Cal P w K mg base CX0 1 "is_row" ["value"] (spRow K)) (z_BadWords : RzOk P w K mg base "BadWords" BW "number")
    (m_isinstance : mg "isinstance" = none) (m_str : mg "str" = none) (m_tuple : mg "tuple" = none) (m_enumerate : mg "enumerate" = none) : FnOk P w K mg base (L2.CX P w) 3 f fd ["words"] (spChecked BW K) := by
  refine Sw.Fun.okE F sc_checked_words (fun vs H Q E h => ?_) (fun cdv A outer s H vs Q E hr h => ?_)
  · obtain ⟨v, rfl, _⟩ := h
    rfl
  · obtain ⟨v, rfl, h⟩ := h
    refine ⟨_, (pss_cons (ps_if (pt_not (pt_val (pe_cal c_is_row hr (by omega) (by rfl) pass0 (pa_cons (pv 0) pa_nil)))) (pss_one (ps_rz z_BadWords rfl takesE hr (by omega) (by rfl) (pa_cons pe_non pa_nil))) pss_nil)
    (pss_cons (ps_for (passes_of rfl) rfl (k_enS (K := K) rfl (by rfl) m_enumerate (pa_cons (pv 0) pa_nil)) (k_gtup (K := K) (n := 2) rfl rfl (pgs_cons (pg_name (i := 1) sc_checked_words.nd rfl (.inl rfl)) (pgs_cons (pg_name (i := 2) sc_checked_words.nd rfl (.inl rfl)) pgs_nil))) (pss_one (ps_if (pt_not (pt_val (pe_callB (k_isiU (K := K) rfl) (by rfl) m_isinstance (by decide +kernel) (pa_cons (pv 2) (pa_cons (pe_bltn (v := .ty "str") (by rfl) m_str (by decide +kernel) rfl) pa_nil))))) (pss_one (ps_rz z_BadWords rfl takesE hr (by omega) (by rfl) (pa_cons (pv 1) pa_nil))) pss_nil)))
    (pss_one (ps_ret (pe_callTy (k_tuple (K := K) rfl) (by rfl) m_tuple (by decide +kernel) (pa_cons (pv 0) pa_nil)))))), ?_⟩
    have h0 := Has.start H []
    show (_ : L2.St → Hp → Prop) [some (v), none, none] H
    walk_at "go"
    rcases h with ⟨p, us, rfl, hp, hl, q⟩ | ⟨p, y, i, rfl, hp, q⟩ | ⟨x, rfl, q⟩
    · refine ⟨_, true, rfl, .inl ⟨p, _, rfl, hp, rfl⟩, fun H1 h1 => ?_⟩
      walk_at "go"
      refine fork_en (xs := vT us) (fun i σ' H' => ∃ s1 s2, σ' = [some (.ref p), s1, s2] ∧ Has H [] H' []) ⟨_, _, rfl, h1⟩ ?_ (fun i x σ' H' T hx hq n => ?_) (fun σ' H' hq => ?_)
      · rcases hp with e | e
        · exact .inl fun i σ' H' _ ⟨_, _, _, h⟩ => SqL.of (h.keep p _ e (by simp))
        · exact .inr fun i σ' H' _ ⟨_, _, _, h⟩ => SqT.of (h.keep p _ e (by simp))
      · obtain ⟨s1, s2, rfl, hh⟩ := hq
        obtain ⟨u, hu, rfl⟩ : ∃ u, us[i]? = some u ∧ V.str u = x := by simpa [List.getElem?_map] using hx
        have hT := hh.new n (o := .tup [.int i, .str u])
        walk_at "go"
        exact ⟨_, _, rfl, hT.sub (List.nil_sublist _)⟩
      · obtain ⟨s1, s2, rfl, hh⟩ := hq
        walk_at "go"
        rcases hp.keep hh (by simp) with e | e
        · exact ⟨p, vT us, rfl, .inl ⟨SqL.of e, fun p7 n7 => q _ _ (hh.new n7 (o := .tup (vT us))).tail (.inr upd_same)⟩⟩
        · exact ⟨p, vT us, rfl, .inr ⟨SqT.of e, q _ _ hh (.inr e)⟩⟩
    · refine ⟨_, true, rfl, .inl ⟨p, _, rfl, .inl hp, rfl⟩, fun H1 h1 => ?_⟩
      walk_at "go"
      refine fork_en (xs := [.str y, .int i]) (fun j σ' H' => j ≤ 1 ∧ ∃ s1 s2, σ' = [some (.ref p), s1, s2] ∧ Has H [] H' []) ⟨by decide, _, _, rfl, h1⟩ (.inl fun i σ' H' _ ⟨_, _, _, _, h⟩ => SqL.of (h.keep p _ hp (by simp))) (fun j x σ' H' T hx hq n => ?_) (fun σ' H' hq => ?_)
      · obtain ⟨hi, s1, s2, rfl, hh⟩ := hq
        have hT := hh.new n (o := .tup [.int j, x])
        rcases (show j = 0 ∨ j = 1 by omega) with rfl | rfl
        · obtain rfl : V.str y = x := Option.some.inj hx
          walk_at "go"
          exact ⟨by decide, _, _, rfl, hT.sub (List.nil_sublist _)⟩
        · obtain rfl : V.int i = x := Option.some.inj hx
          walk_at "go"
          refine isi1 (.base (.int i)) (kit_ty (r := false) (by decide +kernel)) ?_
          walk_at "go"
          exact rzE fun dd H2 g => q dd H2 (hT.thn' g)
      · exact absurd hq.1 (show ¬ 2 ≤ 1 by decide)
    · refine ⟨_, false, rfl, .inr ⟨x, rfl, rfl⟩, fun H1 h1 => ?_⟩
      walk_at "go"
      exact rzE fun dd H2 g => q dd H2 (h1.thn' g)
def GoodI (H : Hp) (k : Key) (v : V) : Prop := ∃ z p ws, k = .inr z ∧ v = .ref p ∧ nameB z = true ∧ z.length ≤ 100000 ∧ RowH H p (vT ws) ∧ ws.length ≤ 1000
def BadI (H : Hp) (k : Key) (v : V) : Prop := (∃ i, k = .inl i) ∨ ∃ z, k = .inr z ∧ z.length ≤ 100000 ∧ (nameB z = false ∨ (nameB z = true ∧ ((∃ x, v = .str x) ∨ ∃ p y, v = .ref p ∧ H p = some (.lst [.str y, .non]))))
def NoDict (H : Hp) (v : V) : Prop := v = .non ∨ ∃ a xs, v = .ref a ∧ H a = some (.lst xs)
def spCheck (BA : Addr) : Sp := fun vs H Q E => ∃ v, vs = [v] ∧ ((∃ (pa : Addr) (kvs : List (Key × V)) (n : Nat), v = .ref pa ∧ H pa = some (.dK kvs) ∧ (∀ i k v, i < n → kvs[i]? = some (k, v) → GoodI H k v) ∧
    ((n = kvs.length ∧ ∀ H', Has H [] H' [] → Q .non H') ∨ ∃ k v, kvs[n]? = some (k, v) ∧ BadI H k v ∧ ∀ dd H', Has H [] H' [(dd, .xd [("name", kV k)])] → E (.ref BA) (some dd) H')) ∨
  (NoDict H v ∧ ∀ dd H', Has H [] H' [(dd, .xd [("name", .non)])] → E (.ref BA) (some dd) H'))
theorem Has.unl {H H2 : Hp} {M : List (Addr × HO)} {pa : Addr} {od : Obj} {u : HO} (h : Has (upd H pa (.frz od u)) [] H2 M) (e : H pa = some u) (n : pa ∉ M.map Prod.fst) : Has H [] (upd H2 pa u) M := by
  refine ⟨fun a o ea _ => ?_, fun x hx => ?_, h.nd⟩
  · by_cases z : a = pa
    · subst z
      rw [upd_same, ← e, ea]
    · rw [upd_ne z]
      exact h.keep a o (by rw [upd_ne z]; exact ea) (by simp)
  · have ne : x.1 ≠ pa := fun z => n (z ▸ List.mem_map_of_mem hx)
    rw [upd_ne ne]
    exact h.get x hx
theorem row_lock {H : Hp} {pa p : Addr} {od : Obj} {u : HO} {xs : List V} {kvs : List (Key × V)} (r : RowH H p xs) (e : H pa = some (.dK kvs)) : RowH (upd H pa (.frz od u)) p xs := by
  have ne : p ≠ pa := fun z => by
    subst z
    rcases r with r | r <;> (rw [r] at e; cases e)
  exact r.imp (fun q => by rw [upd_ne ne]; exact q) fun q => by rw [upd_ne ne]; exact q
theorem ok_check {BA f : Addr} {fd : FuncData} {k : Nat} (F : Fun K "_check" "_check" s__check f fd) (c_is_row : Cal P w K mg base CX0 1 "is_row" ["value"] (spRow K)) (c_is_name : Cal P w K mg base CX0 1 "is_name" ["value"] (spName K)) (z_BadAlias : RzOk P w K mg base "BadAlias" BA "name")
    (m_isinstance : mg "isinstance" = none) (m_str : mg "str" = none) (m_dict : mg "dict" = none) (m_all : mg "all" = none) : FnOk P w K mg base (L2.CX P w) 3 f fd ["aliases"] (spCheck BA) := by
  refine Sw.Fun.okE F sc__check (fun vs H Q E h => ?_) (fun cdv A outer s H vs Q E hr h => ?_)
  · obtain ⟨v, rfl, _⟩ := h
    rfl
  · obtain ⟨v, rfl, h⟩ := h
    refine ⟨_, (pss_cons (ps_if (pt_not (pt_val (pe_callB (k_isiU (K := K) rfl) (by rfl) m_isinstance (by decide +kernel) (pa_cons (pv 0) (pa_cons (pe_bltn (v := .ty "dict") (by rfl) m_dict (by decide +kernel) rfl) pa_nil))))) (pss_one (ps_rz z_BadAlias rfl takesE hr (by omega) (by rfl) (pa_cons pe_non pa_nil))) pss_nil)
    (pss_one (ps_lock (ps_for (passes_of rfl) rfl (pi_items (pv 0)) (k_gtup (K := K) (n := 2) rfl rfl (pgs_cons (pg_name (i := 1) sc__check.nd rfl (.inl rfl)) (pgs_cons (pg_name (i := 2) sc__check.nd rfl (.inl rfl)) pgs_nil))) (pss_one (ps_if (PW.pt (pw_or (pt_not (pt_val (pe_cal c_is_name hr (by omega) (by rfl) pass0 (pa_cons (pv 1) pa_nil)))) (pw_or (pt_not (pt_val (pe_cal c_is_row hr (by omega) (by rfl) pass0 (pa_cons (pv 2) pa_nil)))) (pw_or1 (pt_not (pt_val (pe_callB (k_all (K := K) rfl rfl) (by rfl) m_all (by decide +kernel) (pa_cons (pe_lc (own := [("word", 3)]) (g := gName 3) rfl sc__check.nd (k_seq (K := K) rfl (pv 2)) (blkOk_by (own := [("word", 3)]) (N := ["aliases", "name", "words", "word"]) (sc := defScope s__check) (by decide +kernel)) (fun _ _ _ _ _ => (pg_name (i := 3) sc__check.nd rfl (Or.inl rfl))) (fun _ _ _ _ _ => pts_nil) (fun _ _ _ _ _ => (pe_callB (k_isiU (K := K) rfl) (by rfl) m_isinstance (by decide +kernel) (pa_cons (pv 3) (pa_cons (pe_bltn (v := .ty "str") (by rfl) m_str (by decide +kernel) rfl) pa_nil))))) pa_nil)))))))) (pss_one (ps_rz z_BadAlias rfl (takes_unl takesE) hr (by omega) (by rfl) (pa_cons (pv 1) pa_nil))) pss_nil)))))), ?_⟩
    have h0 := Has.start H []
    show (_ : L2.St → Hp → Prop) [some (v), none, none, none] H
    walk_at "go"
    rcases h with ⟨pa, kvs, n, rfl, hpa, good, q⟩ | ⟨hn, q⟩
    · refine isiDict hpa ?_
      walk_at "go"
      refine ⟨pa, .dK kvs, hpa, trivial, fun od => ?_⟩
      have hn : n ≤ kvs.length := by
        rcases q with ⟨rfl, _⟩ | ⟨k, v, e, _⟩
        · exact Nat.le_refl _
        · exact Nat.le_of_lt (List.getElem?_eq_some_iff.mp e).1
      have hB := Has.start (upd H pa (.frz od (.dK kvs))) []
      walk_at "go"
      refine itemsk upd_same ?_
      refine fork_items (fun i σ' H' => i ≤ n ∧ ∃ s1 s2 s3, σ' = [some (.ref pa), s1, s2, s3] ∧ Has (upd H pa (.frz od (.dK kvs))) [] H' []) ⟨Nat.zero_le _, _, _, _, rfl, hB⟩ (fun i σ' H' _ ⟨_, _, _, _, _, h⟩ => h.keep pa _ upd_same (by simp)) (fun i k v σ' H' T hx hq nT => ?_) (fun σ' H' hq => ?_)
      · obtain ⟨hi, s1, s2, s3, rfl, hh⟩ := hq
        have hT := hh.new nT (o := .tup [kV k, v])
        walk_at "go"
        rcases Nat.lt_or_eq_of_le hi with hi | rfl
        · obtain ⟨z, p, ws, rfl, rfl, hz, hzl, hp, hwl⟩ := good i k v hi hx
          refine ⟨_, nameB z, rfl, .inl ⟨z, rfl, hzl, rfl⟩, fun G1 g1 => ?_⟩
          rw [hz]
          replace hT := hT.same g1
          walk_at "go"
          have hp1 := (row_lock (od := od) (u := .dK kvs) hp hpa).keep hT (by simp)
          refine ⟨_, true, rfl, .inl ⟨p, _, rfl, hp1, rfl⟩, fun G2 g2 => ?_⟩
          replace hT := hT.same g2
          walk_at "go"
          refine lcs_row (xs := vT ws) hT (((row_lock (od := od) (u := .dK kvs) hp hpa)).all (by simp)) (fun i acc => acc = List.replicate i (V.bl true)) rfl (fun i x D acc H' hi hD hl hp2 hH => ?_) (fun D acc H' hl hp2 hH => ?_)
          · subst hp2
            obtain ⟨u, hu, rfl⟩ : ∃ u, ws[i]? = some u ∧ V.str u = x := by simpa [List.getElem?_map] using hi
            have lt := (List.getElem?_eq_some_iff.mp hu).1
            simp only [List.map, wipe, List.set]
            walk_at "go"
            refine lct rfl ?_
            walk_at "go"
            exact lcs hH (by walk_at "sub") hD hl (by omega) (by rw [List.replicate_succ'])
          · subst hp2
            walk_at "go"
            refine all_ (bs := List.replicate (vT ws).length true) (by rw [List.map_replicate]; exact hH.l List.mem_cons_self) ?_
            rw [all_true]
            walk_at "go"
            exact ⟨hi, _, _, _, rfl, hH.sub (List.nil_sublist _)⟩
        · rcases q with ⟨rfl, _⟩ | ⟨k2, v2, e, bad, q⟩
          · exact absurd (List.getElem?_eq_some_iff.mp hx).1 (Nat.lt_irrefl _)
          · rw [hx] at e
            cases e
            have out : ∀ {G : Hp} {M : List (Addr × HO)}, Has (upd H pa (.frz od (.dK kvs))) [] G M → RzE BA "name" (Unl H E) [kV k] G := fun h => rzE fun dd H2 g => by
              have e2 : H2 pa = some (.frz od (.dK kvs)) := g.keep pa _ (h.keep pa _ upd_same (by simp)) (by simp)
              have ned : pa ≠ dd := fun z => by
                have := g.at List.mem_cons_self
                rw [← z, e2] at this
                cases this
              exact ⟨pa, od, .dK kvs, (fun o' u' e => by rw [hpa] at e; cases e), e2, q dd _ (Has.unl (h.thn' g) hpa (by simpa using ned))⟩
            rcases bad with ⟨j, rfl⟩ | ⟨z, rfl, hzl, hz | ⟨hz, hv⟩⟩
            · refine ⟨_, false, rfl, .inr ⟨j, rfl, rfl⟩, fun G1 g1 => ?_⟩
              replace hT := hT.same g1
              walk_at "go"
              exact out hT
            · refine ⟨_, nameB z, rfl, .inl ⟨z, rfl, hzl, rfl⟩, fun G1 g1 => ?_⟩
              rw [hz]
              replace hT := hT.same g1
              walk_at "go"
              exact out hT
            · refine ⟨_, nameB z, rfl, .inl ⟨z, rfl, hzl, rfl⟩, fun G1 g1 => ?_⟩
              rw [hz]
              replace hT := hT.same g1
              walk_at "go"
              rcases hv with ⟨x, rfl⟩ | ⟨p, y, rfl, hp⟩
              · refine ⟨_, false, rfl, .inr ⟨x, rfl, rfl⟩, fun G2 g2 => ?_⟩
                replace hT := hT.same g2
                walk_at "go"
                exact out hT
              · have rp : RowH H p [.str y, .non] := .inl hp
                have hp1 := (row_lock (od := od) (u := .dK kvs) rp hpa).keep hT (by simp)
                refine ⟨_, true, rfl, .inl ⟨p, _, rfl, hp1, rfl⟩, fun G2 g2 => ?_⟩
                replace hT := hT.same g2
                walk_at "go"
                refine lcs_row (xs := [.str y, .non]) hT (((row_lock (od := od) (u := .dK kvs) rp hpa)).all (by simp)) (fun i acc => acc = [V.bl true, V.bl false].take i) rfl (fun i x D acc H' hi hD hl hp2 hH => ?_) (fun D acc H' hl hp2 hH => ?_)
                · subst hp2
                  simp only [List.map, wipe, List.set]
                  have hi2 : i < 2 := (List.getElem?_eq_some_iff.mp hi).1
                  rcases (show i = 0 ∨ i = 1 by omega) with rfl | rfl
                  · obtain rfl : V.str y = x := Option.some.inj hi
                    walk_at "go"
                    refine lct rfl ?_
                    walk_at "go"
                    exact lcs hH (by walk_at "sub") hD hl (by omega) rfl
                  · obtain rfl : V.non = x := Option.some.inj hi
                    walk_at "go"
                    refine lct rfl ?_
                    walk_at "go"
                    refine isi1 (.base .non) (kit_ty (r := false) (by decide +kernel)) ?_
                    exact lcs hH (by walk_at "sub") hD hl (by omega) rfl
                · subst hp2
                  walk_at "go"
                  refine all_ (bs := [true, false]) (hH.l List.mem_cons_self) ?_
                  walk_at "go"
                  exact out hH
      · obtain ⟨hi, s1, s2, s3, rfl, hh⟩ := hq
        rcases q with ⟨rfl, q⟩ | ⟨k2, v2, e, _⟩
        · exact ⟨hh.keep pa _ upd_same (by simp), q _ (Has.unl hh hpa (by simp))⟩
        · exact absurd (List.getElem?_eq_some_iff.mp e).1 (Nat.not_lt.mpr hi)
    · have no : rIsiU K [v, .ty "dict"] H = fun Q => rIsiU K [v, .ty "dict"] H Q := rfl
      rcases hn with rfl | ⟨a, xs, rfl, ha⟩
      · refine isi1 (.base .non) (kit_ty (r := false) (by decide +kernel)) ?_
        walk_at "go"
        exact rzE fun dd H2 g => q dd H2 g
      · refine isi1 (.base (.lst ha)) (kit_ty (r := false) (by decide +kernel)) ?_
        walk_at "go"
        exact rzE fun dd H2 g => q dd H2 g

abbrev s_expanded : Stmt := topS 11
theorem sc_expanded : FnScope ["aliases", "words", "_", "rows", "left", "row", "at"] ["aliases", "words"] (defScope s_expanded) := ⟨rfl, rfl, rfl, by decide +kernel, rfl, by decide +kernel, by decide +kernel⟩
abbrev s_used_aliases : Stmt := topS 12
theorem sc_used_aliases : FnScope ["aliases", "words", "used", "_"] ["aliases", "words"] (defScope s_used_aliases) := ⟨rfl, rfl, rfl, by decide +kernel, rfl, by decide +kernel, by decide +kernel⟩
abbrev s_ringed : Stmt := topS 13
theorem sc_ringed : FnScope ["aliases", "name"] ["aliases"] (defScope s_ringed) := ⟨rfl, rfl, rfl, by decide +kernel, rfl, by decide +kernel, by decide +kernel⟩
abbrev s__followed : Stmt := topS 15
theorem sc__followed : FnScope ["aliases", "words", "used", "rows", "row", "at", "word"] ["aliases", "words"] (defScope s__followed) := ⟨rfl, rfl, rfl, by decide +kernel, rfl, by decide +kernel, by decide +kernel⟩
abbrev s__leads_to_an_alias : Stmt := topS 16
theorem sc__leads_to_an_alias : FnScope ["aliases", "name", "_", "rows", "row", "at"] ["aliases", "name"] (defScope s__leads_to_an_alias) := ⟨rfl, rfl, rfl, by decide +kernel, rfl, by decide +kernel, by decide +kernel⟩
/-! ### which aliases are used -/
abbrev Al := List (Str × Addr × List Str)
def look (al : Al) (z : Str) : Option (Addr × List Str) := (al.find? fun x => decide (x.1 = z)).map (·.2)
def kvsOf (al : Al) : List (Key × V) := al.map fun x => (Sum.inr x.1, V.ref x.2.1)
theorem valV_al (z : Str) : ∀ al : Al, valV (kvsOf al) (.inr z) = (look al z).map fun q => V.ref q.1
  | [] => rfl
  | x :: al => by
    unfold kvsOf look
    rw [List.map_cons, List.find?_cons]
    by_cases h : x.1 = z
    · rw [valV_pos (show (Sum.inr x.1 : Key) = .inr z by rw [h]), decide_eq_true h]
      rfl
    · rw [valV_neg (show ¬ (Sum.inr x.1 : Key) = .inr z from fun e => h (Sum.inr.inj e)), decide_eq_false h]
      exact valV_al z al
theorem look_mem {al : Al} {z : Str} {q : Addr × List Str} (h : look al z = some q) : (z, q) ∈ al := by
  unfold look at h
  cases e : al.find? fun x => decide (x.1 = z) with
  | none => rw [e] at h; cases h
  | some x =>
    rw [e] at h
    have h1 := List.find?_some e
    have h2 := List.mem_of_find?_eq_some e
    have h3 : x.1 = z := of_decide_eq_true h1
    have h4 : x.2 = q := Option.some.inj h
    rw [← h3, ← h4]
    exact h2
def AL (H : Hp) (pa : Addr) (al : Al) : Prop := H pa = some (.dK (kvsOf al)) ∧ ∀ x ∈ al, RowH H x.2.1 (vT x.2.2)
theorem AL.keep {H0 H : Hp} {L : List (Addr × HO)} {pa : Addr} {al : Al} (h : AL H0 pa al) (hh : Has H0 [] H L) : AL H pa al := ⟨hh.keep pa _ h.1 (by simp), fun x hx => (h.2 x hx).keep hh (by simp)⟩
def wordsOf (al : Al) (z : Str) : Option (List Str) := (look al z).map (·.2)
def Stopped (al : Al) (used late : List Str) : Prop := late = [] ∨ ∃ z r, late = z :: r ∧ (look al z = none ∨ z ∈ used)
inductive Fol (al : Al) : List Str → List Str → List Str → List Str → Prop
  | stop {used late : List Str} (h : Stopped al used late) : Fol al used late used late
  | step {used r u' l' : List Str} {z : Str} {q : Addr × List Str} (h : look al z = some q) (n : z ∉ used) (f : Fol al (used ++ [z]) (q.2 ++ r) u' l') : Fol al used (z :: r) u' l'
theorem Fol.det {al : Al} {used late u1 l1 u2 l2 : List Str} (a : Fol al used late u1 l1) (b : Fol al used late u2 l2) : u1 = u2 ∧ l1 = l2 := by
  induction a with
  | stop h =>
    cases b with
    | stop => exact ⟨rfl, rfl⟩
    | step e n f =>
      rcases h with h | ⟨z, r, h, h1 | h1⟩
      · cases h
      · cases h
        rw [e] at h1
        cases h1
      · cases h
        exact absurd h1 n
  | step e n f ih =>
    cases b with
    | stop h =>
      rcases h with h | ⟨z, r, h, h1 | h1⟩
      · cases h
      · cases h
        rw [e] at h1
        cases h1
      · cases h
        exact absurd h1 n
    | step e2 n2 f2 =>
      rw [e] at e2
      cases e2
      exact ih f2
/-! ### rows from a number on -/
abbrev Rs := List (Addr × Addr × Nat × List Str)
def flat (rs : Rs) : List Str := rs.reverse.flatMap fun x => x.2.2.2.drop x.2.2.1
theorem flat_snoc (rs : Rs) (x : Addr × Addr × Nat × List Str) : flat (rs ++ [x]) = x.2.2.2.drop x.2.2.1 ++ flat rs := by
  unfold flat
  rw [List.reverse_append, List.reverse_singleton, List.singleton_append, List.flatMap_cons]
def RowsAt (H0 H : Hp) (rs : Rs) : Prop := ∀ x ∈ rs, H x.1 = some (.tup [.ref x.2.1, .int (x.2.2.1 : Int)]) ∧ RowH H0 x.2.1 (vT x.2.2.2) ∧ x.2.2.1 ≤ x.2.2.2.length ∧ x.2.2.2.length ≤ 1000
abbrev vR (rs : Rs) : List V := rs.map fun x => V.ref x.1
def LastOk (rs : Rs) : Prop := ∀ rs' x, rs = rs' ++ [x] → x.2.2.1 < x.2.2.2.length
theorem nodup_len {α : Type} [DecidableEq α] : ∀ {l m : List α}, l.Nodup → (∀ x ∈ l, x ∈ m) → l.length ≤ m.length
  | [], _, _, _ => Nat.zero_le _
  | x :: l, m, nd, hs => by
    obtain ⟨nx, nl⟩ := List.nodup_cons.mp nd
    have hx := hs x List.mem_cons_self
    have ih := nodup_len (l := l) (m := m.erase x) nl fun y hy => (List.mem_erase_of_ne (a := y) (b := x) fun e => nx (by rw [← e]; exact hy)).mpr (hs y (List.mem_cons_of_mem _ hy))
    rw [List.length_erase_of_mem hx] at ih
    have := List.length_pos_of_mem hx
    rw [List.length_cons]
    omega
theorem len_row {H : Hp} {Q : VK} {a : Addr} {xs : List V} (r : RowH H a xs) (h : Q (.int xs.length) H) : Sw.rLen K [.ref a] H Q := r.elim (fun e => lenL (SqL.of e) h) fun e => lenT (SqT.of e) h
theorem ix_row {H : Hp} {Q : VK} {a : Addr} {xs : List V} {i : Nat} {v : V} (r : RowH H a xs) (e : xs[i]? = some v) (h : Q v H) : rIx K (.ref a) (.int (i : Int)) H Q := r.elim (fun z => ixL (SqL.of z) (atI_nat e) h) fun z => ixT (SqT.of z) (atI_nat e) h
theorem _root_.Sw.Has.seq {H0 H H' : Hp} {ex : List Addr} {L M : List (Addr × HO)} (h : Has H0 [] H L) (h' : Has H ex H' M) (n : ∀ a ∈ ex, H0 a = none) : Has H0 [] H' M :=
  ⟨fun a o e _ => h'.keep a o (h.keep a o e (by simp)) (fun m => by rw [n a m] at e; cases e), h'.get, h'.nd⟩
def kvU (used : List Str) : List (Key × V) := used.map fun z => (Sum.inr z, V.bl true)
theorem valV_used (z : Str) : ∀ used : List Str, (valV (kvU used) (.inr z)).isSome = decide (z ∈ used)
  | [] => by simp [kvU, valV]
  | x :: used => by
    unfold kvU
    rw [List.map_cons]
    by_cases h : x = z
    · rw [valV_pos (show (Sum.inr x : Key) = .inr z by rw [h])]
      simp [h]
    · rw [valV_neg (show ¬ (Sum.inr x : Key) = .inr z from fun e => h (Sum.inr.inj e))]
      have := valV_used z used
      unfold kvU at this
      rw [this]
      have h2 : z ≠ x := fun e => h e.symm
      simp [h2]
def SpFol (H : Hp) (al : Al) (ws : List Str) (Q : VK) : Prop := ∀ (used late : List Str) (p pu pr : Addr) (rs : Rs) (H' : Hp), Fol al [] ws used late → flat rs = late → RowsAt H H' rs → LastOk rs → rs.length ≤ 1000 → used.length ≤ 100 → H p = none → H pu = none → H pr = none →
  Has H [] H' [(p, .tup [.ref pu, .ref pr]), (pu, .lst (vT used)), (pr, .lst (vR rs))] → Q (.ref p) H'
def spFol (_ : PySem.W.Frag) : Sp := fun vs H Q _ => ∃ (pa pw : Addr) (al : Al) (ws : List Str), vs = [.ref pa, .ref pw] ∧ AL H pa al ∧ RowH H pw (vT ws) ∧ ws.length ≤ 100 ∧ al.length ≤ 20 ∧ (∀ x ∈ al, x.2.2.length ≤ 100) ∧ SpFol H al ws Q
structure FSt (H : Hp) (al : Al) (ws : List Str) (pr pu : Addr) (m : Nat) (H' : Hp) (used : List Str) (rs : Rs) : Prop where
  has : Has H [] H' [(pr, .lst (vR rs)), (pu, .dK (kvU used))]
  rows : RowsAt H H' rs
  fol : ∀ u' l', Fol al used (flat rs) u' l' → Fol al [] ws u' l'
  nd : used.Nodup
  sub : ∀ z ∈ used, z ∈ al.map (·.1)
  ms : 2 * (al.length - used.length) + rs.length = m
  cnt : rs.length ≤ 1 + used.length
theorem RowsAt.keep {H H1 H2 : Hp} {rs : Rs} {ex : List Addr} {L : List (Addr × HO)} (r : RowsAt H H1 rs) (h : Has H1 ex H2 L) (ne : ∀ a ∈ ex, ∀ xs, H1 a ≠ some (.tup xs)) : RowsAt H H2 rs := fun x hx => by
  obtain ⟨a, b, c⟩ := r x hx
  exact ⟨h.keep _ _ a fun m => ne _ m _ a, b, c⟩
theorem keys_used (used : List Str) : (kvU used).map (fun kv => kV kv.1) = vT used := by
  unfold kvU
  rw [List.map_map]
  rfl
theorem putU {used : List Str} {z : Str} (n : z ∉ used) : putK (kvU used) (.inr z) (.bl true) = kvU (used ++ [z]) := by
  rw [putK_new _ (Option.isNone_iff_eq_none.mp (by
    have := valV_used z used
    rw [decide_eq_false n] at this
    cases e : valV (kvU used) (.inr z) with
    | none => rfl
    | some v => rw [e] at this; cases this))]
  unfold kvU
  rw [List.map_append]
  rfl
theorem ok_followed {f : Addr} {fd : FuncData} {k : Nat} (F : Fun K "_followed" "_followed" s__followed f fd) (m_len : mg "len" = none) (m_list : mg "list" = none) : FnOk P w K mg base CX0 (k + 1) f fd ["aliases", "words"] (spFol K) := by
  refine F.ok sc__followed (fun vs H Q E h => ?_) (fun cdv A outer s H vs Q E hr h => ?_)
  · obtain ⟨pa, pw, al, ws, rfl, _⟩ := h
    rfl
  · obtain ⟨pa, pw, al, ws, rfl, hal, hw, hwl, hall, hawl, q⟩ := h
    refine ⟨_, (pss_cons (ps_set (i := 2) sc__followed.nd rfl (.inl rfl) pe_dnewK)
    (pss_cons (ps_set (i := 3) sc__followed.nd rfl (.inl rfl) (pe_lst (pa_cons (pe_tup (pa_cons (pv 1) (pa_cons pe_int pa_nil))) pa_nil)))
    (pss_cons (ps_while PassesOwn.never (pt_cmpR op_gt (pe_callB (k_len (K := K) rfl) (by rfl) m_len (by decide +kernel) (pa_cons (pv 3) pa_nil)) pe_int (nomark _)) (pss_cons (ps_asg (k_bm0 (K := K) rfl PySem.F.plainAttrs_list PySem.F.slot_list_pop PySem.F.type_list_pop mt_pop (pv 3)) (k_gtup (K := K) (n := 2) rfl rfl (pgs_cons (pg_name (i := 4) sc__followed.nd rfl (.inl rfl)) (pgs_cons (pg_name (i := 5) sc__followed.nd rfl (.inl rfl)) pgs_nil))))
    (pss_cons (ps_if (pt_cmpR (k_eq (K := K) rfl (by exact hr.units)) (pv 5) (pe_callB (k_len (K := K) rfl) (by rfl) m_len (by decide +kernel) (pa_cons (pv 4) pa_nil)) (nomark _)) (pss_one ps_continue) pss_nil)
    (pss_cons (ps_set (i := 6) sc__followed.nd rfl (.inl rfl) (pe_ix (k_ix (K := K) rfl) (pv 4) (pv 5) (fun _ _ => rfl)))
    (pss_cons (ps_if (PW.pt (pw_or (pt_cmp (pc_dnotin (Nat.lt_of_le_of_lt (Nat.add_le_add_left (by decide : 1 ≤ 64) _) hr.units) (pv 6) (pv 0)) (by rfl)) (pw_or1 (pt_cmp (pc_din (Nat.lt_of_le_of_lt (Nat.add_le_add_left (by decide : 1 ≤ 64) _) hr.units) (pv 6) (pv 2)) (by rfl))))) (pss_cons (ps_expr (k_bm (K := K) rfl PySem.F.plainAttrs_list PySem.F.slot_list_append PySem.F.type_list_append mt_append (pv 3) (pa_cons (pe_tup (pa_cons (pv 4) (pa_cons (pv 5) pa_nil))) pa_nil)))
    (pss_one (ps_ret (pe_tup (pa_cons (pe_callTy (call_listD rfl) (by rfl) m_list (by decide +kernel) (pa_cons (pv 2) pa_nil)) (pa_cons (pv 3) pa_nil)))))) pss_nil)
    (pss_cons (ps_dput (Nat.lt_of_le_of_lt (Nat.add_le_add_left (by decide : 1 ≤ 64) _) hr.units) (pv 2) (pv 6) pe_bl (by rfl))
    (pss_cons (ps_expr (k_bm (K := K) rfl PySem.F.plainAttrs_list PySem.F.slot_list_append PySem.F.type_list_append mt_append (pv 3) (pa_cons (pe_tup (pa_cons (pv 4) (pa_cons (pe_op (k_add (K := K) rfl) (pv 5) pe_int) pa_nil))) pa_nil)))
    (pss_one (ps_expr (k_bm (K := K) rfl PySem.F.plainAttrs_list PySem.F.slot_list_append PySem.F.type_list_append mt_append (pv 3) (pa_cons (pe_tup (pa_cons (pe_dget (Nat.lt_of_le_of_lt (Nat.add_le_add_left (by decide : 1 ≤ 64) _) hr.units) (pv 0) (pv 6) (fun _ _ => rfl)) (pa_cons pe_int pa_nil))) pa_nil)))))))))))
    (pss_one (ps_ret (pe_tup (pa_cons (pe_callTy (call_listD rfl) (by rfl) m_list (by decide +kernel) (pa_cons (pv 2) pa_nil)) (pa_cons (pv 3) pa_nil)))))))), ?_⟩
    have h0 := Has.start H []
    show (_ : L2.St → Hp → Prop) [some (.ref pa), some (.ref pw), none, none, none, none, none] H
    walk_at "go"
    rename_i pu G1 nu h1 t0 G2 nt h2 pr G3 nr h3
    have nU : H pu = none := nu
    have nR : H pr = none := (freshD h2 nr).resolve_left (by simp)
    refine while_ (fun m σ' H' => ∃ (used : List Str) (rs : Rs) (s4 s5 s6 : Option V), σ' = [some (.ref pa), some (.ref pw), some (.ref pu), some (.ref pr), s4, s5, s6] ∧ FSt H al ws pr pu m H' used rs) (2 * al.length + 1) ⟨[], [(t0, pw, 0, ws)], _, _, _, rfl, ⟨h3.sub (by
      refine .cons₂ _ ?_
      exact .cons _ (.refl _)), fun x hx => ?_, fun u' l' f => ?_, List.nodup_nil, fun z hz => absurd hz List.not_mem_nil, rfl, Nat.le_refl _⟩⟩ (fun m σ' H' hp => ?_)
    · cases List.mem_singleton.mp hx
      exact ⟨h3.at (by simp), hw, Nat.zero_le _, Nat.le_trans hwl (by decide)⟩
    · have e : flat [(t0, pw, 0, ws)] = ws := by simp [flat]
      rw [e] at f
      exact f
    · obtain ⟨used, rs, s4, s5, s6, rfl, st⟩ := hp
      have hH := st.has
      have hul : used.length ≤ al.length := by
        have := nodup_len st.nd st.sub
        rw [List.length_map] at this
        exact this
      have cnt := st.cnt
      have exT : ∀ {G : Hp} {M : List (Addr × HO)} {u1 : List V} {u2 : List (Key × V)}, G pr = some (.lst u1) → G pu = some (.dK u2) → ∀ a ∈ [pr, pu], ∀ xs, G a ≠ some (.tup xs) := fun e1 e2 a ha xs => by
        rcases List.mem_cons.mp ha with rfl | ha
        · rw [e1]
          exact fun z => by cases z
        · rw [List.mem_singleton.mp ha, e2]
          exact fun z => by cases z
      have ePR := hH.at (a := pr) (o := .lst (vR rs)) (by simp)
      have ePU := hH.at (a := pu) (o := .dK (kvU used)) (by simp)
      have npp : pr ≠ pu := fun z => by
        rw [z, ePU] at ePR
        cases ePR
      have hex : ∀ a ∈ [pr, pu], H a = none := fun a ha => by
        rcases List.mem_cons.mp ha with rfl | ha
        · exact nR
        · rw [List.mem_singleton.mp ha]
          exact nU
      have fin : ∀ {G : Hp} {used : List Str} {rs : Rs} {s4 s5 s6 : Option V}, Has H [] G [(pr, .lst (vR rs)), (pu, .dK (kvU used))] → RowsAt H G rs → LastOk rs → Fol al [] ws used (flat rs) → rs.length ≤ 1000 → used.length ≤ 100 →
          (fun xs H Q => ∃ (a : Addr) (kvs : List (Key × V)), xs = [.ref a] ∧ Rd H a (.dK kvs) ∧ ∀ p, H p = none → Q (.ref p) (upd H p (.lst (kvs.map fun kv => kV kv.1)))) [V.ref pu] G fun x H1 => tCons (tVar 3) tNil [some (V.ref pa), some (V.ref pw), some (V.ref pu), some (V.ref pr), s4, s5, s6] H1 fun xs H2 => TupK Q (x :: xs) H2 := fun {G used rs s4 s5 s6} hX rows last fol l1 l2 => by
        refine ⟨pu, kvU used, rfl, .inl (hX.at (by simp)), fun pl nl => ?_⟩
        have nl' : G pl = none := nl
        have hb := (((Has.start G []).add (hX.at (a := pu) (o := .dK (kvU used)) (by simp)) (by simp)).add (hX.at (a := pr) (o := .lst (vR rs)) (by simp)) (by simpa using npp)).new nl' (o := .lst ((kvU used).map fun kv => kV kv.1))
        rw [keys_used] at hb ⊢
        walk_at "go"
        rename_i p Gp np gp
        have nlH : H pl = none := (freshD hX nl').resolve_left (by simp)
        have npH : H p = none := by
          cases e : H p with
          | none => rfl
          | some o =>
            have := hb.keep p o (hX.keep p o e (by simp)) (by simp)
            rw [np] at this
            cases this
        exact q used (flat rs) p pl pr rs Gp fol rfl (rows.keep gp (by simp)) last l1 l2 npH nlH nR (hX.seq (gp.sub (by
          refine .cons₂ _ (.cons₂ _ (.cons₂ _ (.cons _ (.refl _))))) ) (by simp))
      walk_at "go"
      rcases List.eq_nil_or_concat rs with rfl | ⟨rs', x, rfl⟩
      · refine whk (fun z => by cases z) (fun _ => ?_)
        walk_at "go"
        exact fin hH st.rows (fun rs' x e => by simp at e) (st.fol _ _ (.stop (.inl rfl))) (by decide) (by omega)
      · rw [List.concat_eq_append] at hH cnt st ePR ⊢
        refine whk (fun _ => ?_) (fun z => by simp at z)
        have hb0 := ((Has.start H' [pr, pu]).add ePU (by simp)).add ePR (by simpa using npp)
        obtain ⟨t, pr2, at_, wr⟩ := x
        have rows := st.rows
        obtain ⟨et, rr, hat, hwr⟩ := rows (t, pr2, at_, wr) (by simp)
        rw [show vR (rs' ++ [(t, pr2, at_, wr)]) = vR rs' ++ [V.ref t] from List.map_append] at hb0
        walk_at "go"
        refine pop_ hb0 .here (.inl (by simp)) fun H1 hb1 => ?_
        have hH1 : Has H [] H1 _ := hH.seq hb1 hex
        have rows1 : RowsAt H H1 rs' := RowsAt.keep (fun x hx => rows x (by simp [hx])) hb1 (exT (M := []) ePR ePU)
        have et1 := (rows.keep hb1 (exT (M := []) ePR ePU) (t, pr2, at_, wr) (by simp)).1
        have rr1 := rr.keep hH1 (by simp)
        refine gasg_ (gt2_ (SqT.of et1) ?_)
        walk_at "go"
        refine len_row rr1 ?_
        walk_at "go"
        rw [show (vT wr).length = wr.length from List.length_map ..]
        by_cases hc : at_ = wr.length
        · rw [decide_eq_true (show V.int (at_ : Int) = V.int (wr.length : Int) by rw [hc])]
          walk_at "go"
          refine ⟨m - 1, by have := st.ms; rw [List.length_append, List.length_singleton] at this; omega, used, rs', _, _, _, rfl, ⟨hH1, rows1, fun u' l' f => st.fol u' l' ?_, st.nd, st.sub, ?_, ?_⟩⟩
          · rw [flat_snoc, hc, List.drop_length, List.nil_append]
            exact f
          · have := st.ms
            rw [List.length_append, List.length_singleton] at this
            omega
          · rw [List.length_append, List.length_singleton] at cnt
            omega
        · rw [decide_eq_false (show ¬ V.int (at_ : Int) = V.int (wr.length : Int) from fun z => hc (by have := V.int.inj z; omega))]
          walk_at "go"
          have hlt : at_ < wr.length := by
            have : at_ ≤ wr.length := hat
            omega
          obtain ⟨z, hz⟩ : ∃ z, wr[at_]? = some z := ⟨_, List.getElem?_eq_getElem hlt⟩
          have hdr : wr.drop at_ = z :: wr.drop (at_ + 1) := by
            obtain ⟨hi, e⟩ := List.getElem?_eq_some_iff.mp hz
            rw [← e]
            exact List.drop_eq_getElem_cons hi
          refine ix_row rr1 (by rw [List.getElem?_map, hz]; rfl) ?_
          walk_at "go"
          have al1 := hal.keep hH1
          refine dninS (.inl al1.1) ?_
          rw [valV_al]
          have flat1 : flat (rs' ++ [(t, pr2, at_, wr)]) = z :: (wr.drop (at_ + 1) ++ flat rs') := by
            rw [flat_snoc]
            show wr.drop at_ ++ flat rs' = _
            rw [hdr]
            rfl
          have rows0 : RowsAt H H' rs' := fun x hx => rows x (by simp [hx])
          have stopR : ∀ {G : Hp} {T2 : Addr} {M : List (Addr × HO)} {s4 s5 s6 : Option V}, Has H' [pr, pu] G ((T2, .tup [.ref pr2, .int (at_ : Int)]) :: (pr, .lst (vR rs' ++ [V.ref T2])) :: (pu, .dK (kvU used)) :: M) → (look al z = none ∨ z ∈ used) →
              (fun xs H Q => ∃ (a : Addr) (kvs : List (Key × V)), xs = [.ref a] ∧ Rd H a (.dK kvs) ∧ ∀ p, H p = none → Q (.ref p) (upd H p (.lst (kvs.map fun kv => kV kv.1)))) [V.ref pu] G fun x H1 => tCons (tVar 3) tNil [some (V.ref pa), some (V.ref pw), some (V.ref pu), some (V.ref pr), s4, s5, s6] H1 fun xs H2 => TupK Q (x :: xs) H2 := fun {G T2 M s4 s5 s6} hX hs => by
            refine fin (used := used) (rs := rs' ++ [(T2, pr2, at_, wr)]) ((hH.seq hX hex).sub ?_) (fun x hx => ?_) (fun r2 x e => ?_) (st.fol _ _ ?_) ?_ (by omega)
            · rw [show vR (rs' ++ [(T2, pr2, at_, wr)]) = vR rs' ++ [V.ref T2] from List.map_append]
              exact .cons _ (.cons₂ _ (.cons₂ _ (List.nil_sublist _)))
            · rcases List.mem_append.mp hx with hx | hx
              · exact (rows0.keep hX (exT (M := []) ePR ePU)) x hx
              · cases List.mem_singleton.mp hx
                exact ⟨hX.at (by simp), rr, hat, hwr⟩
            · obtain ⟨_, e2⟩ := List.append_inj' e rfl
              cases e2
              exact hlt
            · rw [show flat (rs' ++ [(T2, pr2, at_, wr)]) = flat (rs' ++ [(t, pr2, at_, wr)]) by rw [flat_snoc, flat_snoc], flat1]
              exact .stop (.inr ⟨z, _, rfl, hs⟩)
            · rw [List.length_append, List.length_singleton] at cnt ⊢
              omega
          replace hb1 := hb1
          cases hk : look al z with
          | none =>
            walk_at "go"
            rename_i T2 G2 n2 h2b
            refine app_ h2b (.there .here) (.inl (by simp)) (by rw [List.length_map]; rw [List.length_append, List.length_singleton] at cnt; omega) fun G4 hb4 => ?_
            walk_at "go"
            exact stopR hb4 (.inl hk)
          | some qq =>
            walk_at "go"
            refine dinS (kvs := kvU used) (.inl (hb1.at (by simp))) ?_
            rw [valV_used]
            by_cases hm : z ∈ used
            · rw [decide_eq_true hm]
              walk_at "go"
              rename_i T2 G2 n2 h2b
              refine app_ h2b (.there .here) (.inl (by simp)) (by rw [List.length_map]; rw [List.length_append, List.length_singleton] at cnt; omega) fun G4 hb4 => ?_
              walk_at "go"
              exact stopR hb4 (.inr hm)
            · rw [decide_eq_false hm]
              walk_at "go"
              refine dputS hb1 (.there .here) (.inl (by simp)) (by unfold kvU; rw [List.length_map]; omega) fun G2 hb2 => ?_
              rw [putU hm] at hb2
              walk_at "go"
              rename_i T2 G3 n3 hb3
              refine app_ hb3 (.there .here) (.inl (by simp)) (by rw [List.length_map]; rw [List.length_append, List.length_singleton] at cnt; omega) fun G4 hb4 => ?_
              walk_at "go"
              have al4 := hal.keep (hH.seq hb4 hex)
              refine dgetS (v := .ref qq.1) (.inl al4.1) (by rw [valV_al, hk]; rfl) ?_
              walk_at "go"
              rename_i T3 G5 n5 hb5
              refine app_ hb5 (.there (.there .here)) (.inl (by simp)) (by rw [List.length_append, List.length_map, List.length_singleton]; rw [List.length_append, List.length_singleton] at cnt; omega) fun G6 hb6 => ?_
              walk_at "go"
              have qm := look_mem hk
              refine ⟨m - 1, by have := st.ms; rw [List.length_append, List.length_singleton] at this; omega, used ++ [z], rs' ++ [(T2, pr2, at_ + 1, wr)] ++ [(T3, qq.1, 0, qq.2)], _, _, _, rfl, ⟨(hH.seq hb6 hex).sub ?_, fun x hx => ?_, fun u' l' f => st.fol u' l' ?_, ?_, fun y hy => ?_, ?_, ?_⟩⟩
              · rw [show vR (rs' ++ [(T2, pr2, at_ + 1, wr)] ++ [(T3, qq.1, 0, qq.2)]) = vR rs' ++ [V.ref T2] ++ [V.ref T3] by simp [vR]]
                exact .cons _ (.cons _ (.cons₂ _ (.cons₂ _ (List.nil_sublist _))))
              · rcases List.mem_append.mp hx with hx | hx
                · rcases List.mem_append.mp hx with hx | hx
                  · exact (rows0.keep hb6 (exT (M := []) ePR ePU)) x hx
                  · cases List.mem_singleton.mp hx
                    exact ⟨hb6.at (by simp), rr, hlt, hwr⟩
                · cases List.mem_singleton.mp hx
                  exact ⟨hb6.at (by simp), hal.2 _ qm, Nat.zero_le _, Nat.le_trans (hawl _ qm) (by decide)⟩
              · rw [flat1]
                refine .step hk hm ?_
                rw [flat_snoc, flat_snoc] at f
                exact f
              · rw [List.nodup_append]
                exact ⟨st.nd, by simp, fun a ha b hb e => hm (by rw [List.mem_singleton.mp hb] at e; rw [← e]; exact ha)⟩
              · rcases List.mem_append.mp hy with hy | hy
                · exact st.sub y hy
                · rw [List.mem_singleton.mp hy]
                  exact List.mem_map_of_mem (f := fun x : Str × Addr × List Str => x.1) qm
              · have := st.ms
                have ul : used.length < al.length := by
                  have := nodup_len (l := used ++ [z]) (m := al.map (·.1)) (by
                    rw [List.nodup_append]
                    exact ⟨st.nd, by simp, fun a ha b hb e => hm (by rw [List.mem_singleton.mp hb] at e; rw [← e]; exact ha)⟩) (fun y hy => by
                    rcases List.mem_append.mp hy with hy | hy
                    · exact st.sub y hy
                    · rw [List.mem_singleton.mp hy]
                      exact List.mem_map_of_mem (f := fun x : Str × Addr × List Str => x.1) qm)
                  rw [List.length_append, List.length_map, List.length_singleton] at this
                  omega
                simp only [List.length_append, List.length_singleton] at this ⊢
                omega
              · simp only [List.length_append, List.length_singleton] at cnt ⊢
                omega

/-! ### what the program's three functions keep -/
def GoodAl (al : Al) : Prop := al.length ≤ 20 ∧ ∀ x ∈ al, nameB x.1 = true ∧ x.1.length ≤ 100000 ∧ x.2.2.length ≤ 100
theorem good_items {H : Hp} {pa : Addr} {al : Al} (h : AL H pa al) (g : GoodAl al) {i : Nat} {k : Key} {v : V} (e : (kvsOf al)[i]? = some (k, v)) : GoodI H k v := by
  unfold kvsOf at e
  rw [List.getElem?_map] at e
  cases hx : al[i]? with
  | none => rw [hx] at e; cases e
  | some x =>
    rw [hx] at e
    cases e
    have m := List.mem_of_getElem? hx
    obtain ⟨a, b, c⟩ := g.2 x m
    exact ⟨x.1, x.2.1, x.2.2, rfl, rfl, a, b, h.2 x m, Nat.le_trans c (by decide)⟩
def ChkBad (BA : Addr) (H : Hp) (v : V) (E : XK) : Prop := (∃ (pa : Addr) (kvs : List (Key × V)) (n : Nat) (k : Key) (x : V), v = .ref pa ∧ H pa = some (.dK kvs) ∧ (∀ i k v, i < n → kvs[i]? = some (k, v) → GoodI H k v) ∧ kvs[n]? = some (k, x) ∧ BadI H k x ∧ ∀ dd H', Has H [] H' [(dd, .xd [("name", kV k)])] → E (.ref BA) (some dd) H') ∨
  (NoDict H v ∧ ∀ dd H', Has H [] H' [(dd, .xd [("name", .non)])] → E (.ref BA) (some dd) H')
theorem chk_bad {BA : Addr} {H : Hp} {v : V} {Q : VK} {E : XK} (h : ChkBad BA H v E) : spCheck BA [v] H Q E := by
  rcases h with ⟨pa, kvs, n, k, x, e1, e2, e3, e4, e5, e6⟩ | h
  · exact ⟨v, rfl, .inl ⟨pa, kvs, n, e1, e2, e3, .inr ⟨k, x, e4, e5, e6⟩⟩⟩
  · exact ⟨v, rfl, .inr h⟩
theorem chk_good {BA : Addr} {H : Hp} {pa : Addr} {al : Al} {Q : VK} {E : XK} (h : AL H pa al) (g : GoodAl al) (q : ∀ H', Has H [] H' [] → Q .non H') : spCheck BA [.ref pa] H Q E :=
  ⟨_, rfl, .inl ⟨pa, kvsOf al, (kvsOf al).length, rfl, h.1, fun i k v _ e => good_items h g e, .inl ⟨rfl, q⟩⟩⟩
def WrdBad (BW : Addr) (H : Hp) (y : V) (E : XK) : Prop := (∃ (p : Addr) (z : Str) (i : Int), y = .ref p ∧ H p = some (.lst [.str z, .int i]) ∧ ∀ dd H', Has H [] H' [(dd, .xd [("number", .int 1)])] → E (.ref BW) (some dd) H') ∨
  (∃ x : Str, y = .str x ∧ ∀ dd H', Has H [] H' [(dd, .xd [("number", .non)])] → E (.ref BW) (some dd) H')
theorem wrd_bad {BW : Addr} {H0 H : Hp} {y : V} {Q : VK} {E : XK} (h : WrdBad BW H0 y E) (hh : Has H0 [] H []) : spChecked BW K [y] H Q E := by
  rcases h with ⟨p, z, i, rfl, e, q⟩ | ⟨x, rfl, q⟩
  · exact ⟨_, rfl, .inr (.inl ⟨p, z, i, rfl, hh.keep p _ e (by simp), fun dd H' g => q dd H' (hh.thn' g)⟩)⟩
  · exact ⟨_, rfl, .inr (.inr ⟨x, rfl, fun dd H' g => q dd H' (hh.thn' g)⟩)⟩
def spExp (BA BW : Addr) : Sp := fun vs H Q E => ∃ v y, vs = [v, y] ∧ (ChkBad BA H v E ∨ ∃ (pa : Addr) (al : Al), v = .ref pa ∧ AL H pa al ∧ GoodAl al ∧ (WrdBad BW H y E ∨ ∃ (pw : Addr) (ws : List Str), y = .ref pw ∧ RowH H pw (vT ws) ∧ ws.length ≤ 100 ∧
  ∀ (used late : List Str) (p : Addr) H', Fol al [] ws used late → late.length ≤ 1000000 → H p = none → Has H [] H' [(p, .lst (vT late))] → Q (.ref p) H'))
theorem whole_cut {xs : List V} {i : Nat} (hi : i ≤ xs.length) (h : HT.sIx xs.length 0 (some (i : Int)) = 0 ∧ HT.sIx xs.length xs.length none = xs.length) : cutV xs (some (i : Int)) none = xs := by
  rw [cut_from xs hi]
  have := h.1
  rw [HT.sIx_nat] at this
  rcases Nat.eq_zero_or_pos i with rfl | h1
  · rfl
  · have : xs.length = 0 := by omega
    rw [List.length_eq_zero_iff.mp this]
    simp
theorem ok_expanded {BA BW f : Addr} {fd : FuncData} (F : Fun K "expanded" "expanded" s_expanded f fd) (c__check : Cal P w K mg base (L2.CX P w) 3 "_check" ["aliases"] (spCheck BA)) (c_checked_words : Cal P w K mg base (L2.CX P w) 3 "checked_words" ["words"] (spChecked BW K))
    (c__followed : Cal P w K mg base CX0 1 "_followed" ["aliases", "words"] (spFol K)) (m_reversed : mg "reversed" = none) : FnOk P w K mg base (L2.CX P w) 4 f fd ["aliases", "words"] (spExp BA BW) := by
  refine Sw.Fun.okE F sc_expanded (fun vs H Q E h => ?_) (fun cdv A outer s H vs Q E hr h => ?_)
  · obtain ⟨v, y, rfl, _⟩ := h
    rfl
  · obtain ⟨v, y, rfl, h⟩ := h
    refine ⟨_, (pss_cons (ps_expr (pe_cal c__check hr (by omega) (by rfl) (passE (CXg := CX0)) (pa_cons (pv 0) pa_nil)))
    (pss_cons (ps_asg (pe_cal c__followed hr (by omega) (by rfl) pass0 (pa_cons (pv 0) (pa_cons (pe_cal c_checked_words hr (by omega) (by rfl) (passE (CXg := CX0)) (pa_cons (pv 1) pa_nil)) pa_nil))) (k_gtup (K := K) (n := 2) rfl rfl (pgs_cons (pg_name (i := 2) sc_expanded.nd rfl (.inl rfl)) (pgs_cons (pg_name (i := 3) sc_expanded.nd rfl (.inl rfl)) pgs_nil))))
    (pss_cons (ps_set (i := 4) sc_expanded.nd rfl (.inl rfl) (pe_lst pa_nil))
    (pss_cons (ps_for (passes_of rfl) rfl (k_revA (K := K) rfl (by rfl) m_reversed (pv 3)) (k_gtup (K := K) (n := 2) rfl rfl (pgs_cons (pg_name (i := 5) sc_expanded.nd rfl (.inl rfl)) (pgs_cons (pg_name (i := 6) sc_expanded.nd rfl (.inl rfl)) pgs_nil))) (pss_one (ps_expr (k_bm (K := K) rfl PySem.F.plainAttrs_list PySem.F.slot_list_extend PySem.F.type_list_extend mt_extU (pv 4) (pa_cons (pe_slice (k_slW (K := K) rfl) (pv 5) (po_some (pv 6)) po_none) pa_nil)))))
    (pss_one (ps_ret (pv 4))))))), ?_⟩
    have h0 := Has.start H []
    show (_ : L2.St → Hp → Prop) [some (v), some (y), none, none, none, none, none] H
    walk_at "go"
    rcases h with hb | ⟨pa, al, rfl, hal, hg, hw⟩
    · exact chk_bad hb
    · refine chk_good hal hg fun H1 h1 => ?_
      walk_at "go"
      rcases hw with hw | ⟨pw, ws, rfl, hpw, hwl, q⟩
      · exact wrd_bad hw h1
      · refine ⟨_, rfl, .inl ⟨pw, ws, rfl, hpw.keep h1 (by simp), Nat.le_trans hwl (by decide), fun p' H2 h2 hp' => ?_⟩⟩
        have h12 : Has H [] H2 [] := h1.thn' h2
        walk_at "go"
        refine ⟨pa, p', al, ws, rfl, hal.keep h12, hp', hwl, hg.1, fun x hx => (hg.2 x hx).2.2, fun used late p pu pr rs H3 fol hfl rows last l1 l2 np nu nr h3 => ?_⟩
        have h13 : Has H [] H3 _ := h12.thn' h3
        refine gasg_ (gt2_ (SqT.of (h3.at List.mem_cons_self)) ?_)
        have hb := Has.start H3 []
        walk_at "go"
        rename_i pl H4 nl h4
        have er : H3 pr = some (.lst (vR rs)) := h3.at (by simp)
        refine fork_rev (xs := vR rs) (fun i σ' H' => i ≤ rs.length ∧ ∃ s5 s6, σ' = [some (.ref pa), some (.ref pw), some (.ref pu), some (.ref pr), some (.ref pl), s5, s6] ∧ Has H3 [] H' [(pl, .lst (vT ((rs.reverse.take i).flatMap fun x => x.2.2.2.drop x.2.2.1)))] ∧ ((rs.reverse.take i).flatMap fun x => x.2.2.2.drop x.2.2.1).length ≤ 1000 * i) ⟨Nat.zero_le _, _, _, rfl, h4, by simp⟩
          (fun i σ' H' _ ⟨_, _, _, _, h, _⟩ => SqL.of (h.keep pr _ er (by simp))) (fun i x σ' H' hi hx hp => ?_) (fun σ' H' hp => ?_)
        · obtain ⟨_, s5, s6, rfl, hh, hlen⟩ := hp
          rw [List.length_map] at hi hx
          obtain ⟨r, hr1, rfl⟩ : ∃ r, rs[rs.length - 1 - i]? = some r ∧ V.ref r.1 = x := by
            rw [List.getElem?_map] at hx
            cases e : rs[rs.length - 1 - i]? with
            | none => rw [e] at hx; cases hx
            | some r => exact ⟨r, rfl, by rw [e] at hx; exact Option.some.inj hx⟩
          have hrv : rs.reverse[i]? = some r := by rw [List.getElem?_reverse hi]; exact hr1
          have hm : r ∈ rs := List.mem_of_getElem? hr1
          obtain ⟨et, er2, hat, hwr⟩ := rows r hm
          refine gt2_ (SqT.of (hh.keep _ _ et (by simp))) ?_
          have rr := er2.keep (h3.thn' hh) (by simp)
          replace hh := hh
          walk_at "go"
          refine slW_ hh rr (whole_cut (by rw [List.length_map]; exact hat)) fun p2 H5 h5 r5 => ?_
          rw [cut_from _ (by rw [List.length_map]; exact hat), ← List.map_drop] at r5
          walk_at "go"
          refine ext_ h5 .here (.inr nl) r5 (by
            rw [List.length_map, List.length_map, List.length_drop]
            have : i < 1000 := by omega
            omega) fun H6 h6 => ?_
          walk_at "go"
          have e1 : rs.reverse.take (i + 1) = rs.reverse.take i ++ [r] := by rw [List.take_add_one, hrv]; rfl
          refine ⟨hi, _, _, rfl, ?_, ?_⟩
          · rw [e1, List.flatMap_append, List.flatMap_singleton, show vT (((rs.reverse.take i).flatMap fun x => x.2.2.2.drop x.2.2.1) ++ r.2.2.2.drop r.2.2.1) = vT ((rs.reverse.take i).flatMap fun x => x.2.2.2.drop x.2.2.1) ++ vT (r.2.2.2.drop r.2.2.1) from List.map_append]
            exact h6
          · rw [e1, List.flatMap_append, List.flatMap_singleton, List.length_append, List.length_drop]
            omega
        · obtain ⟨_, s5, s6, rfl, hh, hlen⟩ := hp
          rw [List.length_map, List.take_of_length_le (by simp)] at hh hlen
          walk_at "go"
          rw [← hfl] at fol
          exact q used (flat rs) pl _ fol (by show (List.flatMap _ _).length ≤ _; omega) ((freshD h13 nl).resolve_left (by simp)) (h13.thn' hh)
def spUsed (BA BW : Addr) : Sp := fun vs H Q E => ∃ v y, vs = [v, y] ∧ (ChkBad BA H v E ∨ ∃ (pa : Addr) (al : Al), v = .ref pa ∧ AL H pa al ∧ GoodAl al ∧ (WrdBad BW H y E ∨ ∃ (pw : Addr) (ws : List Str), y = .ref pw ∧ RowH H pw (vT ws) ∧ ws.length ≤ 100 ∧
  ∀ (used late : List Str) (p : Addr) H', Fol al [] ws used late → used.length ≤ 100 → H p = none → Has H [] H' [(p, .tup (vT used))] → Q (.ref p) H'))
theorem ok_used {BA BW f : Addr} {fd : FuncData} (F : Fun K "used_aliases" "used_aliases" s_used_aliases f fd) (c__check : Cal P w K mg base (L2.CX P w) 3 "_check" ["aliases"] (spCheck BA)) (c_checked_words : Cal P w K mg base (L2.CX P w) 3 "checked_words" ["words"] (spChecked BW K))
    (c__followed : Cal P w K mg base CX0 1 "_followed" ["aliases", "words"] (spFol K)) (m_tuple : mg "tuple" = none) : FnOk P w K mg base (L2.CX P w) 4 f fd ["aliases", "words"] (spUsed BA BW) := by
  refine Sw.Fun.okE F sc_used_aliases (fun vs H Q E h => ?_) (fun cdv A outer s H vs Q E hr h => ?_)
  · obtain ⟨v, y, rfl, _⟩ := h
    rfl
  · obtain ⟨v, y, rfl, h⟩ := h
    refine ⟨_, (pss_cons (ps_expr (pe_cal c__check hr (by omega) (by rfl) (passE (CXg := CX0)) (pa_cons (pv 0) pa_nil)))
    (pss_cons (ps_asg (pe_cal c__followed hr (by omega) (by rfl) pass0 (pa_cons (pv 0) (pa_cons (pe_cal c_checked_words hr (by omega) (by rfl) (passE (CXg := CX0)) (pa_cons (pv 1) pa_nil)) pa_nil))) (k_gtup (K := K) (n := 2) rfl rfl (pgs_cons (pg_name (i := 2) sc_used_aliases.nd rfl (.inl rfl)) (pgs_cons (pg_name (i := 3) sc_used_aliases.nd rfl (.inl rfl)) pgs_nil))))
    (pss_one (ps_ret (pe_callTy (k_tuple (K := K) rfl) (by rfl) m_tuple (by decide +kernel) (pa_cons (pv 2) pa_nil)))))), ?_⟩
    have h0 := Has.start H []
    show (_ : L2.St → Hp → Prop) [some (v), some (y), none, none] H
    walk_at "go"
    rcases h with hb | ⟨pa, al, rfl, hal, hg, hw⟩
    · exact chk_bad hb
    · refine chk_good hal hg fun H1 h1 => ?_
      walk_at "go"
      rcases hw with hw | ⟨pw, ws, rfl, hpw, hwl, q⟩
      · exact wrd_bad hw h1
      · refine ⟨_, rfl, .inl ⟨pw, ws, rfl, hpw.keep h1 (by simp), Nat.le_trans hwl (by decide), fun p' H2 h2 hp' => ?_⟩⟩
        have h12 : Has H [] H2 [] := h1.thn' h2
        walk_at "go"
        refine ⟨pa, p', al, ws, rfl, hal.keep h12, hp', hwl, hg.1, fun x hx => (hg.2 x hx).2.2, fun used late p pu pr rs H3 fol hfl rows last l1 l2 np nu nr h3 => ?_⟩
        have h13 : Has H [] H3 _ := h12.thn' h3
        refine gasg_ (gt2_ (SqT.of (h3.at List.mem_cons_self)) ?_)
        walk_at "go"
        refine ⟨pu, vT used, rfl, .inl ⟨SqL.of (h3.at (by simp)), fun p7 n7 => ?_⟩⟩
        exact q used late p7 _ fol l2 ((freshD h13 n7).resolve_left (by simp)) ((h13.new n7).sub (.cons₂ _ (List.nil_sublist _)))
/-! ### which lead to an alias -/
def LeadsTo (al : Al) (z : Str) : Prop := ∃ used late, Fol al [] [z] used late ∧ ∃ y r, late = y :: r ∧ (look al y).isSome = true
noncomputable def leadsB (al : Al) (z : Str) : Bool := @decide (LeadsTo al z) (Classical.propDecidable _)
theorem leads_of {al : Al} {z : Str} {used late : List Str} (f : Fol al [] [z] used late) : (∀ y r, late = y :: r → leadsB al z = (look al y).isSome) ∧ (late = [] → leadsB al z = false) := by
  constructor
  · rintro y r rfl
    unfold leadsB
    cases h : (look al y).isSome with
    | true => exact @decide_eq_true _ (Classical.propDecidable _) ⟨used, _, f, y, r, rfl, h⟩
    | false =>
      refine @decide_eq_false _ (Classical.propDecidable _) ?_
      rintro ⟨u2, l2, f2, y2, r2, rfl, h2⟩
      obtain ⟨_, e⟩ := f.det f2
      cases e
      rw [h] at h2
      cases h2
  · rintro rfl
    unfold leadsB
    refine @decide_eq_false _ (Classical.propDecidable _) ?_
    rintro ⟨u2, l2, f2, y2, r2, rfl, h2⟩
    obtain ⟨_, e⟩ := f.det f2
    cases e
def spLeads (_ : PySem.W.Frag) : Sp := fun vs H Q _ => ∃ (pa : Addr) (al : Al) (z : Str), vs = [.ref pa, .str z] ∧ AL H pa al ∧ GoodAl al ∧ ∀ H', Has H [] H' [] → Q (.bl (leadsB al z)) H'
theorem ok_leads {f : Addr} {fd : FuncData} (F : Fun K "_leads_to_an_alias" "_leads_to_an_alias" s__leads_to_an_alias f fd) (c__followed : Cal P w K mg base CX0 1 "_followed" ["aliases", "words"] (spFol K)) (m_len : mg "len" = none) : FnOk P w K mg base CX0 2 f fd ["aliases", "name"] (spLeads K) := by
  refine F.ok sc__leads_to_an_alias (fun vs H Q E h => ?_) (fun cdv A outer s H vs Q E hr h => ?_)
  · obtain ⟨pa, al, z, rfl, _⟩ := h
    rfl
  · obtain ⟨pa, al, z, rfl, hal, hg, q⟩ := h
    refine ⟨_, (pss_cons (ps_asg (pe_cal c__followed hr (by omega) (by rfl) pass0 (pa_cons (pv 0) (pa_cons (pe_tup (pa_cons (pv 1) pa_nil)) pa_nil))) (k_gtup (K := K) (n := 2) rfl rfl (pgs_cons (pg_name (i := 2) sc__leads_to_an_alias.nd rfl (.inl rfl)) (pgs_cons (pg_name (i := 3) sc__leads_to_an_alias.nd rfl (.inl rfl)) pgs_nil))))
    (pss_cons (ps_if (pt_cmpR (k_eq (K := K) rfl (by exact hr.units)) (pe_callB (k_len (K := K) rfl) (by rfl) m_len (by decide +kernel) (pa_cons (pv 3) pa_nil)) pe_int (nomark _)) (pss_one (ps_ret pe_bl)) pss_nil)
    (pss_cons (ps_asg (pe_ix (k_ix (K := K) rfl) (pv 3) (pe_un un_neg pe_int) (fun _ _ => rfl)) (k_gtup (K := K) (n := 2) rfl rfl (pgs_cons (pg_name (i := 4) sc__leads_to_an_alias.nd rfl (.inl rfl)) (pgs_cons (pg_name (i := 5) sc__leads_to_an_alias.nd rfl (.inl rfl)) pgs_nil))))
    (pss_one (ps_ret (pe_cmp (pc_din (Nat.lt_of_le_of_lt (Nat.add_le_add_left (by decide : 1 ≤ 64) _) hr.units) (pe_ix (k_ix (K := K) rfl) (pv 4) (pv 5) (fun _ _ => rfl)) (pv 0)) (by rfl))))))), ?_⟩
    have h0 := Has.start H []
    show (_ : L2.St → Hp → Prop) [some (.ref pa), some (.str z), none, none, none, none] H
    walk_at "go"
    rename_i pw H2 nw h2
    refine ⟨pa, pw, al, [z], rfl, hal.keep h2, .inr (h2.at List.mem_cons_self), (by decide : 1 ≤ 100), hg.1, fun x hx => (hg.2 x hx).2.2, fun used late p pu pr rs H3 fol hfl rows last l1 l2 np nu nr h3 => ?_⟩
    have h13 : Has H [] H3 _ := h2.thn' h3
    refine gasg_ (gt2_ (SqT.of (h3.at List.mem_cons_self)) ?_)
    replace h3 := h3
    walk_at "go"
    rw [List.length_map]
    rcases List.eq_nil_or_concat rs with rfl | ⟨rs', x, rfl⟩
    · refine ite_t (by rfl) ?_
      walk_at "go"
      rw [← (leads_of fol).2 (by rw [← hfl]; rfl)]
      exact q _ (h13.sub (List.nil_sublist _))
    · rw [List.concat_eq_append] at hfl rows last h3 h13 ⊢
      rw [decide_eq_false (fun e => by
        have := V.int.inj e
        rw [List.length_append] at this
        simp at this
        omega)]
      walk_at "go"
      have er : H3 pr = some (.lst (vR (rs' ++ [x]))) := h3.at (by simp)
      obtain ⟨t, pr2, at_, wr⟩ := x
      obtain ⟨et, rr, hat, hwr⟩ := rows (t, pr2, at_, wr) (by simp)
      have hlt := last rs' (t, pr2, at_, wr) rfl
      refine ixL (v := .ref t) (SqL.of er) (by
        rw [show vR (rs' ++ [(t, pr2, at_, wr)]) = vR rs' ++ [V.ref t] from List.map_append]
        exact atI_last _ _) ?_
      refine gasg_ (gt2_ (SqT.of et) ?_)
      walk_at "go"
      obtain ⟨y, hy⟩ : ∃ y, wr[at_]? = some y := ⟨_, List.getElem?_eq_getElem hlt⟩
      refine ix_row (rr.keep h3 (by simp)) (by rw [List.getElem?_map, hy]; rfl) ?_
      walk_at "go"
      refine dinS (.inl (hal.keep h13).1) ?_
      rw [valV_al]
      have e : flat (rs' ++ [(t, pr2, at_, wr)]) = y :: (wr.drop (at_ + 1) ++ flat rs') := by
        rw [flat_snoc]
        obtain ⟨hi, e⟩ := List.getElem?_eq_some_iff.mp hy
        show wr.drop at_ ++ _ = _
        rw [← e, List.drop_eq_getElem_cons hi]
        rfl
      have := (leads_of fol).1 y _ (by rw [← hfl, e])
      rw [Option.isSome_map, ← this]
      exact q _ (h13.sub (List.nil_sublist _))
noncomputable def ringL (al : Al) (ys : List Str) : List Str := ys.filter (leadsB al)
def spRinged (BA : Addr) : Sp := fun vs H Q E => ∃ v, vs = [v] ∧ (ChkBad BA H v E ∨ ∃ (pa : Addr) (al : Al), v = .ref pa ∧ AL H pa al ∧ GoodAl al ∧
  ∀ (ys : List Str) (p : Addr) H', ys.Perm (al.map (·.1)) → sortedS ys = true → H p = none → Has H [] H' [(p, .tup (vT (ringL al ys)))] → Q (.ref p) H')
theorem ok_ringed {BA f : Addr} {fd : FuncData} (F : Fun K "ringed" "ringed" s_ringed f fd) (c__check : Cal P w K mg base (L2.CX P w) 3 "_check" ["aliases"] (spCheck BA)) (c__leads_to_an_alias : Cal P w K mg base CX0 2 "_leads_to_an_alias" ["aliases", "name"] (spLeads K))
    (m_tuple : mg "tuple" = none) (m_sorted : mg "sorted" = none) : FnOk P w K mg base (L2.CX P w) 4 f fd ["aliases"] (spRinged BA) := by
  refine Sw.Fun.okE F sc_ringed (fun vs H Q E h => ?_) (fun cdv A outer s H vs Q E hr h => ?_)
  · obtain ⟨v, rfl, _⟩ := h
    rfl
  · obtain ⟨v, rfl, h⟩ := h
    refine ⟨_, (pss_cons (ps_expr (pe_cal c__check hr (by omega) (by rfl) (passE (CXg := CX0)) (pa_cons (pv 0) pa_nil)))
    (pss_one (ps_ret (pe_callTy (k_tuple (K := K) rfl) (by rfl) m_tuple (by decide +kernel) (pa_cons (pe_lc (own := [("name", 1)]) (g := gName 1) rfl sc_ringed.nd (k_list (K := K) rfl (pe_callB (call_sortedD rfl) (by rfl) m_sorted (by decide +kernel) (pa_cons (pv 0) pa_nil))) (blkOk_by (own := [("name", 1)]) (N := ["aliases", "name"]) (sc := defScope s_ringed) (by decide +kernel)) (fun _ _ _ _ _ => (pg_name (i := 1) sc_ringed.nd rfl (Or.inl rfl))) (fun _ _ _ _ _ => (pts_one (pt_val (pe_cal c__leads_to_an_alias hr (by omega) (by rfl) pass0 (pa_cons (pv 0) (pa_cons (pv 1) pa_nil)))))) (fun _ _ _ _ _ => (pv 1))) pa_nil))))), ?_⟩
    have h0 := Has.start H []
    show (_ : L2.St → Hp → Prop) [some (v), none] H
    walk_at "go"
    rcases h with hb | ⟨pa, al, rfl, hal, hg, q⟩
    · exact chk_bad hb
    · refine chk_good hal hg fun H1 h1 => ?_
      walk_at "go"
      refine ⟨pa, kvsOf al, al.map (·.1), rfl, .inl (hal.keep h1).1, by unfold kvsOf; rw [List.map_map, List.map_map]; rfl, by rw [List.length_map]; have := hg.1; omega, fun ys p hp hs n => ?_⟩
      have h2 := h1.new n (o := .lst (ys.map V.str))
      refine ilistk (xs := ys.map V.str) (SqL.of upd_same) ?_
      refine lcs_list (xs := ys.map V.str) h2 (fun H' h => h.l List.mem_cons_self) (fun i acc => acc = vT ((ys.take i).filter (leadsB al))) rfl (fun i x D acc H' hi hD hl hp2 hH => ?_) (fun D acc H' hl hp2 hH => ?_)
      · subst hp2
        obtain ⟨z, hz, rfl⟩ : ∃ z, ys[i]? = some z ∧ V.str z = x := by simpa [List.getElem?_map] using hi
        have lt := (List.getElem?_eq_some_iff.mp hz).1
        have hyl : ys.length ≤ 20 := by rw [hp.length_eq, List.length_map]; exact hg.1
        have e1 : (ys.take (i + 1)).filter (leadsB al) = (ys.take i).filter (leadsB al) ++ [z].filter (leadsB al) := by rw [List.take_add_one, hz, ← List.filter_append]; rfl
        simp only [List.map, wipe, List.set]
        walk_at "go"
        refine lct rfl ?_
        walk_at "go"
        refine ⟨pa, al, z, rfl, hal.keep hH, hg, fun G g => ?_⟩
        walk_at "go"
        cases hb : leadsB al z with
        | true =>
          walk_at "go"
          exact lcs (hH.same g) (by walk_at "sub") hD hl (by omega) (by rw [e1, List.filter_cons_of_pos hb, List.filter_nil]; simp only [List.map_append, List.map_cons, List.map_nil])
        | false =>
          walk_at "go"
          exact ⟨_, _, Nat.le_succ_of_le hl, List.mem_cons_self, ⟨by show _ = vT _; rw [e1, List.filter_cons_of_neg (by rw [hb]; exact Bool.false_ne_true), List.filter_nil, List.append_nil], rfl⟩, hH.same g⟩
      · subst hp2
        rw [List.length_map, List.take_length] at hH
        walk_at "go"
        refine ⟨D, vT (ys.filter (leadsB al)), rfl, .inl ⟨hH.l List.mem_cons_self, fun p7 n7 => ?_⟩⟩
        exact q ys p7 _ hp hs ((freshD hH n7).resolve_left (by simp)) ((hH.new n7).sub (.cons₂ _ (List.nil_sublist _)))

abbrev s__law_number : Stmt := topS 18
theorem sc__law_number : FnScope ["script", "index", "cell", "turn", "rest", "step", "blend"] ["script", "index"] (defScope s__law_number) := ⟨rfl, rfl, rfl, by decide +kernel, rfl, by decide +kernel, by decide +kernel⟩
abbrev s__law_take : Stmt := topS 19
theorem sc__law_take : FnScope ["draw", "many"] ["draw", "many"] (defScope s__law_take) := ⟨rfl, rfl, rfl, by decide +kernel, rfl, by decide +kernel, by decide +kernel⟩
abbrev s__law_pick : Stmt := topS 20
theorem sc__law_pick : FnScope ["draw", "items"] ["draw", "items"] (defScope s__law_pick) := ⟨rfl, rfl, rfl, by decide +kernel, rfl, by decide +kernel, by decide +kernel⟩
abbrev s__law_refused : Stmt := topS 21
theorem sc__law_refused : FnScope ["deed", "fault"] ["deed"] (defScope s__law_refused) := ⟨rfl, rfl, rfl, by decide +kernel, rfl, by decide +kernel, by decide +kernel⟩
abbrev s__law_words : Stmt := topS 22
theorem sc__law_words : FnScope ["draw", "turn"] ["draw"] (defScope s__law_words) := ⟨rfl, rfl, rfl, by decide +kernel, rfl, by decide +kernel, by decide +kernel⟩
abbrev s_law : Stmt := topS 23
theorem sc_law : FnScope ["script", "draw", "again", "aliases", "name", "given", "words", "rows", "back", "late", "used", "due", "bad", "wrong", "deed", "turn"] ["script"] (defScope s_law) := ⟨rfl, rfl, rfl, by decide +kernel, rfl, by decide +kernel, by decide +kernel⟩
/-! ### drawing -/
def NumPost (H : Hp) (Q : VK) : Prop := ∀ (r : Int) H', Has H [] H' [] → 0 ≤ r → r < 2147483648 → Q (.int r) H'
theorem NumPost.use {H H' : Hp} {Q : VK} {r : Int} (h : NumPost H Q) (hh : Has H [] H' []) (h0 : 0 ≤ r) (h1 : r < 2147483648) : Q (.int r) H' := h r H' hh h0 h1
def spNumber (K : PySem.W.Frag) : Sp := fun vs H Q _ => ∃ (s : Addr) (ns : List Int) (i : Int), vs = [.ref s, .int i] ∧ SqL K H s (ns.map V.int) ∧ 0 ≤ i ∧ i ≤ 1000000 ∧ ns.length ≤ 63 ∧ NumPost H Q
local macro_rules | `(tactic| walk_at "num_tail") => `(tactic| (
  refine rng1k (by omega) ?_
  refine fork_rng (fun _ σ' H' => ∃ (a : Addr) (ix : Int) (ns : List Int) (cell turn rest : Int) (st : Option V), σ' = [some (.ref a), some (.int ix), some (.int cell), some (.int turn), some (.int rest), st, none] ∧ SqL _ H' a (ns.map V.int) ∧ ns.length ≤ 63 ∧ 0 ≤ ix ∧ ix ≤ 1000000 ∧ Has _ [] H' []) ⟨_, _, _, _, _, _, _, rfl, by walk_at "sq", by assumption, by assumption, by assumption, Has.sub (by assumption) (List.nil_sublist _)⟩ (fun i σ' H' hi hp => ?_) (fun σ' H' hp => ?_)
  · obtain ⟨a, ix, ns, cell, turn, rest, st, e, hs, hl, hi0, hi1, hh⟩ := hp
    subst e
    walk_at "go"
    exact ⟨_, _, _, _, _, _, _, rfl, hs, hl, hi0, hi1, hh⟩
  · obtain ⟨a, ix, ns, cell, turn, rest, st, e, hs, hl, hi0, hi1, hh⟩ := hp
    subst e
    walk_at "go"
    refine ite_c (fun hc => ?_) (fun hc => ?_)
    · walk_at "go"
      exact NumPost.use (by assumption) hh (by omega) (by omega)
    · walk_at "go"
      refine lenL hs ?_
      walk_at "go"
      exact NumPost.use (by assumption) hh (by omega) (by omega)))
theorem ok_number {f : Addr} {fd : FuncData} {k : Nat} (F : Fun K "_law_number" "_law_number" s__law_number f fd) (m_len : mg "len" = none) (m_int : mg "int" = none) (m_range : mg "range" = none) : FnOk P w K mg base CX0 (k + 1) f fd ["script", "index"] (spNumber K) := by
  refine F.ok sc__law_number (fun vs H Q E h => ?_) (fun cdv A outer s H vs Q E hr h => ?_)
  · obtain ⟨a, k, x, rfl, _⟩ := h
    rfl
  · obtain ⟨a, ns, ix, rfl, hS, hi0, hi1, hlen, q⟩ := h
    refine ⟨_, (pss_cons (ps_asg (pe_ifExp (pt_cmpR (k_ne (K := K) rfl (by exact hr.units)) (pv 0) (pe_lst pa_nil) (nomark _)) (pe_tup (pa_cons (pe_ix (k_ix (K := K) rfl) (pv 0) (pe_op op_modN (pv 1) (pe_callB (k_len (K := K) rfl) (by rfl) m_len (by decide +kernel) (pa_cons (pv 0) pa_nil))) (fun _ _ => rfl)) (pa_cons (pe_op op_fdivN (pv 1) (pe_callB (k_len (K := K) rfl) (by rfl) m_len (by decide +kernel) (pa_cons (pv 0) pa_nil))) pa_nil))) (pe_tup (pa_cons pe_int (pa_cons pe_int pa_nil)))) (k_gtup (K := K) (n := 2) rfl rfl (pgs_cons (pg_name (i := 2) sc__law_number.nd rfl (.inl rfl)) (pgs_cons (pg_name (i := 3) sc__law_number.nd rfl (.inl rfl)) pgs_nil))))
    (pss_cons (ps_set (i := 4) sc__law_number.nd rfl (.inl rfl) (pe_ifExp (pt_cmpR op_lt (pv 3) pe_int (nomark _)) (pe_op op_sub (pv 2) (pe_op op_pow pe_int pe_int)) pe_int))
    (pss_cons (ps_for PassesOwn.never rfl (pi_range1 (by rfl) m_range (pa_cons (pe_op op_modN (pe_callTy call_intN (by rfl) m_int (by decide +kernel) (pa_cons (pv 3) pa_nil)) pe_int) pa_nil)) (pg_name (i := 5) sc__law_number.nd rfl (.inl rfl)) (pss_one (ps_set (i := 4) sc__law_number.nd rfl (.inl rfl) (pe_op op_fdivN (pv 4) pe_int))))
    (pss_cons (ps_if (pt_cmpR op_gt (pv 4) pe_int (nomark _)) (pss_one (ps_ret (pe_op op_modN (pe_callTy call_intN (by rfl) m_int (by decide +kernel) (pa_cons (pv 4) pa_nil)) pe_int))) pss_nil)
    (pss_cons (ps_set (i := 6) sc__law_number.nd rfl (.inl rfl) (pe_op op_modN (pe_op (k_add (K := K) rfl) (pe_op op_mul (pe_callTy call_intN (by rfl) m_int (by decide +kernel) (pa_cons (pe_op (k_add (K := K) rfl) (pv 2) (pe_op op_mul pe_int (pv 1))) pa_nil)) pe_int) (pe_op op_mul pe_int (pe_callB (k_len (K := K) rfl) (by rfl) m_len (by decide +kernel) (pa_cons (pv 0) pa_nil)))) pe_int))
    (pss_cons (ps_set (i := 6) sc__law_number.nd rfl (.inl rfl) (pe_op op_modN (pe_op (k_add (K := K) rfl) (pe_op op_mul (pv 6) (pv 6)) (pe_op op_mul pe_int (pv 1))) pe_int))
    (pss_one (ps_ret (pe_callTy call_intN (by rfl) m_int (by decide +kernel) (pa_cons (pe_op op_modN (pe_op (k_add (K := K) rfl) (pe_op op_mul (pv 6) pe_int) (pe_op op_fdivN (pv 6) pe_int)) pe_int) pa_nil)))))))))), ?_⟩
    have h0 := Has.start H []
    show (_ : L2.St → Hp → Prop) [some (.ref a), some (.int ix), none, none, none, none, none] H
    walk_at "go"
    rename_i p1 H1 n1 h1
    refine neuD (Dp.lst (h1.sl hS (by simp)) (dp_ints ns)) (Dp.lst (h1.l (by walk_at "mem")) .nil) (PySem.W.ke_shaped_ints ns) rfl ?_
    rw [eqv_ints_nil]
    refine blk ?_
    by_cases e : ns = []
    · subst e
      walk_at "go"
      walk_at "num_tail"
    · have hp : 0 < ns.length := List.length_pos_iff.mpr e
      rw [decide_eq_false e]
      walk_at "go"
      rename_i r r0 r1
      simp only [List.length_map] at r1
      obtain ⟨v, hv⟩ : ∃ n : Int, ns[r.toNat]? = some n := ⟨_, List.getElem?_eq_getElem (i := r.toNat) (by omega)⟩
      have ha : atI (ns.map V.int) r = some (.int v) := at_of (j := r.toNat) (by omega) (by rw [List.getElem?_map, hv]; rfl)
      refine rIx_L (h1.sl hS (by simp)) ha ?_
      walk_at "go"
      refine ite_c (fun hc => ?_) (fun hc => ?_)
      · walk_at "go"
        walk_at "num_tail"
      · walk_at "go"
        walk_at "num_tail"

/-- the list that draws: the script and how many were drawn -/
def DrawP (K : PySem.W.Frag) (H : Hp) (d : Addr) (s : Addr) (ns : List Int) (i : Int) : Prop := H d = some (.lst [.ref s, .int i]) ∧ SqL K H s (ns.map V.int) ∧ 0 ≤ i ∧ ns.length ≤ 63
/-- the script stands, whatever is drawn -/
def Scr (K : PySem.W.Frag) (H0 : Hp) (ex : List Addr) (s : Addr) (ns : List Int) : Prop := ns.length ≤ 63 ∧ ∀ H L, Has H0 ex H L → SqL K H s (ns.map V.int)
theorem scr0 {K : PySem.W.Frag} {H0 : Hp} {s : Addr} {ns : List Int} (h : SqL K H0 s (ns.map V.int)) (hl : ns.length ≤ 63) : Scr K H0 [] s ns := ⟨hl, fun _ _ hh => hh.sl h (by simp)⟩
theorem DrawP.scr {K : PySem.W.Frag} {H : Hp} {d s : Addr} {ns : List Int} {i : Int} (h : DrawP K H d s ns i) : Scr K H [d] s ns := by
  obtain ⟨hd, hs, hi, hl⟩ := h
  refine ⟨hl, fun H' L hh => ?_⟩
  rcases hs with r | r
  · refine hh.sl (.inl r) ?_
    intro m
    have z : s = d := by simpa using m
    subst z
    rcases r with r | ⟨o, r⟩
    · rw [hd] at r
      injection r with r
      injection r with r
      cases ns with
      | nil => cases r
      | cons n ns => cases r
    · rw [hd] at r
      cases r
  · exact .inr r
def spTake (K : PySem.W.Frag) : Sp := fun vs H Q _ => ∃ (d s : Addr) (ns : List Int) (i m : Int), vs = [.ref d, .int m] ∧ DrawP K H d s ns i ∧ i < 1000000 ∧ 0 < m ∧ ∀ (r : Int) H', Has H [d] H' [(d, .lst [.ref s, .int (i + 1)])] → 0 ≤ r → r < m → Q (.int r) H'
theorem ok_take {f : Addr} {fd : FuncData} {k : Nat} (F : Fun K "_law_take" "_law_take" s__law_take f fd) (c__law_number : Cal P w K mg base CX0 k "_law_number" ["script", "index"] (spNumber K)) (m_int : mg "int" = none) : FnOk P w K mg base CX0 (k + 1) f fd ["draw", "many"] (spTake K) := by
  refine F.ok sc__law_take (fun vs H Q E h => ?_) (fun cdv A outer st H vs Q E hr h => ?_)
  · obtain ⟨a, b, c, d, e, rfl, _⟩ := h
    rfl
  · obtain ⟨d, s, ns, i, m, rfl, hD, hi1, hm, q⟩ := h
    have scr := hD.scr
    obtain ⟨hd, hS, hi0, hlen⟩ := hD
    refine ⟨_, (pss_cons (ps_augS (pv 0) pe_int (k_get (K := K) rfl) pe_int ip_add set_list)
    (pss_one (ps_ret (pe_op op_modN (pe_callTy call_intN (by rfl) m_int (by decide +kernel) (pa_cons (pe_cal c__law_number hr (by omega) (by rfl) pass0 (pa_cons (pe_ix (k_ix (K := K) rfl) (pv 0) pe_int (fun _ _ => rfl)) (pa_cons (pe_callTy call_intN (by rfl) m_int (by decide +kernel) (pa_cons (pe_ix (k_ix (K := K) rfl) (pv 0) pe_int (fun _ _ => rfl)) pa_nil)) pa_nil))) pa_nil)) (pv 1))))), ?_⟩
    have h0 : Has H [d] H [(d, .lst [.ref s, .int i])] := (Has.start H [d]).add hd (by simp)
    show (_ : L2.St → Hp → Prop) [some (.ref d), some (.int m)] H
    walk_at "go"
    refine setL21 h0 (by walk_at "put") (.inl (by simp)) fun H1 h1 => ?_
    walk_at "go"
    refine ⟨s, ns, i + 1, rfl, scr.2 _ _ h1, by omega, by omega, hlen, fun r H2 h2 r0 r1 => ?_⟩
    walk_at "go"
    rename_i t t0 t1
    exact q t H2 (h1.same h2) t0 t1
def spPick (K : PySem.W.Frag) : Sp := fun vs H Q _ => ∃ (d s p : Addr) (ns : List Int) (i : Int) (xs : List V), vs = [.ref d, .ref p] ∧ DrawP K H d s ns i ∧ i < 1000000 ∧ (SqL K H p xs ∨ SqT K H p xs) ∧ p ≠ d ∧ 0 < xs.length ∧ ∀ (j : Nat) (v : V) H', xs[j]? = some v → Has H [d] H' [(d, .lst [.ref s, .int (i + 1)])] → Q v H'
theorem ok_pick {f : Addr} {fd : FuncData} {k : Nat} (F : Fun K "_law_pick" "_law_pick" s__law_pick f fd) (c__law_take : Cal P w K mg base CX0 k "_law_take" ["draw", "many"] (spTake K)) (m_len : mg "len" = none) : FnOk P w K mg base CX0 (k + 1) f fd ["draw", "items"] (spPick K) := by
  refine F.ok sc__law_pick (fun vs H Q E h => ?_) (fun cdv A outer st H vs Q E hr h => ?_)
  · obtain ⟨a, b, c, d, e, g, rfl, _⟩ := h
    rfl
  · obtain ⟨d, s, p, ns, i, xs, rfl, hd, hi1, hS, hne, hl, q⟩ := h
    refine ⟨_, (pss_one (ps_ret (pe_ix (k_ix (K := K) rfl) (pv 1) (pe_cal c__law_take hr (by omega) (by rfl) pass0 (pa_cons (pv 0) (pa_cons (pe_callB (k_len (K := K) rfl) (by rfl) m_len (by decide +kernel) (pa_cons (pv 1) pa_nil)) pa_nil))) (fun _ _ => rfl)))), ?_⟩
    have h0 : Has H [d] H [] := Has.start H [d]
    show (_ : L2.St → Hp → Prop) [some (.ref d), some (.ref p)] H
    walk_at "go"
    rcases hS with hS | hS
    · refine lenL hS ?_
      walk_at "go"
      refine ⟨d, s, ns, i, _, rfl, hd, hi1, by omega, fun r H1 h1 r0 r1 => ?_⟩
      obtain ⟨v, hv⟩ : ∃ v, xs[r.toNat]? = some v := ⟨_, List.getElem?_eq_getElem (i := r.toNat) (by omega)⟩
      refine rIx_L (h1.sl hS (by simpa using hne)) (at_of (j := r.toNat) (by omega) hv) ?_
      exact q _ v H1 hv h1
    · refine lenT hS ?_
      walk_at "go"
      refine ⟨d, s, ns, i, _, rfl, hd, hi1, by omega, fun r H1 h1 r0 r1 => ?_⟩
      obtain ⟨v, hv⟩ : ∃ v, xs[r.toNat]? = some v := ⟨_, List.getElem?_eq_getElem (i := r.toNat) (by omega)⟩
      refine ixT (h1.st hS (by simpa using hne)) (at_of (j := r.toNat) (by omega) hv) ?_
      exact q _ v H1 hv h1

section
variable {H0 : Hp} {ex : List Addr} {H : Hp} {L L' M M' : List (Addr × HO)} {d s p : Addr} {ns : List Int} {i m : Int} {Q : VK} {E : XK} {xs : List V}
theorem take_ (scr : Scr K H0 ex s ns) (hH : Has H0 ex H L) (pt : Put L d (.lst [.ref s, .int i]) (.lst [.ref s, .int (i + 1)]) L') (f : d ∈ ex ∨ H0 d = none) (bi : 0 ≤ i ∧ i < 1000000) (bm : 0 < m)
    (h : ∀ (r : Int) H', Has H0 ex H' L' → 0 ≤ r → r < m → Q (.int r) H') : spTake K [.ref d, .int m] H Q E :=
  ⟨d, s, ns, i, m, rfl, ⟨hH.at pt.mem.1, scr.2 _ _ hH, bi.1, scr.1⟩, bi.2, bm, fun r H' h' r0 r1 => h r H' (hH.putC h' pt f) r0 r1⟩
theorem pick_ (scr : Scr K H0 ex s ns) (hH : Has H0 ex H ((p, .lst xs) :: M)) (pt : Put M d (.lst [.ref s, .int i]) (.lst [.ref s, .int (i + 1)]) M') (f : d ∈ ex ∨ H0 d = none) (bi : 0 ≤ i ∧ i < 1000000) (bl : 0 < xs.length)
    (h : ∀ (v : V) H', v ∈ xs → Has H0 ex H' ((p, .lst xs) :: M') → Q v H') : spPick K [.ref d, .ref p] H Q E := by
  have hne : p ≠ d := fun e => by
    have nd := hH.nd
    rw [List.map_cons, List.nodup_cons] at nd
    have m : d ∈ List.map Prod.fst M := List.mem_map_of_mem (f := Prod.fst) pt.mem.1
    rw [← e] at m
    exact nd.1 m
  exact ⟨d, s, p, ns, i, xs, rfl, ⟨hH.at (List.mem_cons_of_mem _ pt.mem.1), scr.2 _ _ hH, bi.1, scr.1⟩, bi.2, .inl (hH.l List.mem_cons_self), hne, bl, fun j v H' hv h' => h v H' (List.mem_of_getElem? hv) (hH.putC h' (.there pt) f)⟩
end

/-! ### what a refusal tells -/
theorem takes_len {X : Cx} {W : WX} (t : Takes X W) : Takes X (fun cls d σ H => σ.length = X.N.length → W cls d σ H) := fun u s' ⟨a, B, sI, pins, σ, H, cls, d, e, I, nb, up, sky, na, os, ag, w⟩ =>
  t u s' ⟨a, B, sI, pins, σ, H, cls, d, e, I, nb, up, sky, na, os, ag, w I.len⟩
/-- the classes that are caught, with their field and the word that is told -/
def TRef (cs : List (Addr × Str × Str)) : (XK → Hp → VK → Prop) → Hp → VK → Prop := fun tl H Q =>
  tl (fun cls d H1 => ∃ q ∈ cs, cls = .ref q.1 ∧ ∃ dd v, d = some dd ∧ H1 dd = some (.xd [(q.2.1, v)]) ∧ ∀ H2 p, H1 p = none → Has H1 [] H2 [(p, .tup [.str q.2.2, v])] → Q (.ref p) H2) H (fun _ H1 => Q (.str "") H1)
theorem refused_gives {X : Cx} {g SE BA BW : Addr} {cdg : Value} {q : Str} (hK : X.K = K) (m_isinstance : X.mg "isinstance" = none) (g_SwitchError : X.mg "SwitchError" = some (.ref SE)) (g_BadAlias : X.mg "BadAlias" = some (.ref BA)) (g_BadWords : X.mg "BadWords" = some (.ref BW))
    (x11 : PySem.W.exmOne K (.ref BA) (.ref BA) = some true) (x21 : PySem.W.exmOne K (.ref BW) (.ref BA) = some false) (x22 : PySem.W.exmOne K (.ref BW) (.ref BW) = some true) (C : ExcC K BA) (T : XfC K BA) (T2 : XfC K BW)
    (f1 : PySem.W.findIn K (.ref BA) "name" = some none) (f2 : PySem.W.findIn K (.ref BW) "number" = some none) (is : PySem.W.kitOne K (.ref BA) (.ref SE) = some true) :
    LamX.GivesTo X ["deed", "fault"] "_law_refused" (defScope s__law_refused) g cdg (defBody s__law_refused) "deed" q (TRef [(BA, "name", "alias"), (BW, "number", "words")]) := by
  subst hK
  intro f c' s H Q tl act hc h
  refine ⟨_, pss_cons (ps_try_clauses (X := (cxOf C8.CX0 X.prog X.w X.K X.mg X.base ["deed", "fault"] "_law_refused" (defScope s__law_refused) g cdg X.A X.stack s H C8.E0).nox)
      (tb := fun W D σ H => ∃ Ech : XK, (∀ cls d σ' H', Ech cls d H' → σ'.length = 2 → W cls d σ' H') ∧ σ[0]? = some (some (.ref f)) ∧ H c' = some (LamX.CodeO c' q) ∧ tl Ech H (fun _ H1 => D.nx σ H1))
      (l := [⟨.ref BA, 1, _⟩, ⟨.ref BW, 1, _⟩])
      rfl rfl sc__law_refused.nd LamX.takes0 (fun W pn xe tk _ => ⟨fun pins s' σ H' D I h' => ?_⟩)
      (.cons ⟨rfl, by decide, .inl g_BadAlias⟩ rfl rfl (fun o ob cv d pn hz hf => pss_one (ps_ret (pe_ifExp (pt_val (pe_callB (call_isX rfl hz hf) (by rfl) m_isinstance (by decide +kernel) (pa_cons (pv 1) (pa_cons (pe_glob (v := .ref SE) (by rfl) g_SwitchError rfl) pa_nil)))) (pe_tup (pa_cons pe_str (pa_cons (pe_xf T f1 hz hf (pv 1)) pa_nil))) pe_str)))
        (.cons ⟨rfl, by decide, .inl g_BadWords⟩ rfl rfl (fun o ob cv d pn hz hf => pss_one (ps_ret (pe_tup (pa_cons pe_str (pa_cons (pe_xf T2 f2 hz hf (pv 1)) pa_nil))))) .nil))) (pss_one (ps_ret pe_str)), ?_⟩
  · obtain ⟨Ech, hW, h1, h2, h3⟩ := h'
    exact (pss_one (ps_expr (act _ pn xe Ech _ _ (takes_len tk) hW))).run pins s' σ H' D I ⟨h1, h2, h3⟩
  · refine ⟨fun cls d H1 => ∃ q ∈ [(BA, ("name" : Str), ("alias" : Str)), (BW, "number", "words")], cls = .ref q.1 ∧ ∃ dd v, d = some dd ∧ H1 dd = some (.xd [(q.2.1, v)]) ∧ ∀ H2 p, H1 p = none → Has H1 [] H2 [(p, .tup [.str q.2.2, v])] → Q (.ref p) H2, fun cls d σ' H' e hl => ?_, rfl, hc, h⟩
    obtain ⟨q, hq, rfl, dd, v, rfl, hd, k⟩ := e
    obtain ⟨u0, u1, rfl⟩ : ∃ u0 u1, σ' = [u0, u1] := by
      match σ', hl with
      | [u0, u1], _ => exact ⟨u0, u1, rfl⟩
    rcases List.mem_cons.mp hq with rfl | hq
    · refine ⟨true, x11, fun _ o no => ?_, fun z => by cases z⟩
      have hh := Has.start H' []
      dsimp only [] at hd k ⊢
      show tRet _ _ [u0, some (.ref o)] H'
      walk_at "go"
      refine ⟨BA, dd, _, _, _, true, rfl, rfl, C, hd, rfl, fun u r => r, is, ?_⟩
      walk_at "go"
      refine ⟨_, rfl, rfl, rfl, dd, _, v, rfl, hd, rfl, ?_⟩
      walk_at "go"
      rename_i p G n hG
      exact k G p n hG
    · rw [List.mem_singleton] at hq
      subst hq
      refine ⟨false, x21, fun z => (by cases z), fun _ => ?_⟩
      refine ⟨true, x22, fun _ o no => ?_, fun z => (by cases z)⟩
      have hh := Has.start H' []
      dsimp only [] at hd k ⊢
      show tRet _ _ [u0, some (.ref o)] H'
      walk_at "go"
      refine ⟨_, rfl, rfl, rfl, dd, _, v, rfl, hd, rfl, ?_⟩
      walk_at "go"
      rename_i p G n hG
      exact k G p n hG

/-! ### drawn words -/
abbrev alphaS : List Str := ["a", "b", "c", "dd", "e9", "-x", "", "--", "z"]
theorem Put.app {L L' : List (Addr × HO)} {d : Addr} {o o' : HO} (A : List (Addr × HO)) (p : Put L d o o' L') : Put (A ++ L) d o o' (A ++ L') := by
  induction A with
  | nil => exact p
  | cons x A ih => exact .there ih
section
variable {H0 : Hp} {ex : List Addr} {H : Hp} {L : List (Addr × HO)} {Q : VK} {σ : L2.St} {a : Addr} {xs : List V} {g : TG} {tt : TT} {te : TE} {vs : List Nat}
theorem lckF_rng {lo : Int} {n : Nat} (hH : Has H0 ex H L) (P : Nat → Addr → List V → List (Addr × HO) → Prop) (p0 : ∀ D, P 0 D [] ((D, .lst []) :: L))
    (turn : ∀ i D acc M H', i < n → H D = none → acc.length ≤ i → (D, HO.lst acc) ∈ M → P i D acc M → Has H0 ex H' M → g (.int (lo + i)) (wipe σ vs) H' fun σ2 H2 => LcT vs σ tt te (CInv H0 ex P D (i + 1)) D σ2 H2)
    (done : ∀ D acc M H', H D = none → acc.length ≤ n → (D, HO.lst acc) ∈ M → P n D acc M → Has H0 ex H' M → Q (.ref D) H') : LcK g tt te vs σ Q (Itr lo n) H := by
  intro D hD
  refine lc_range (D := D) (vs := vs) (σ := σ) (g := g) (tt := tt) (te := te) (CInv H0 ex P D) ⟨[], _, Nat.le_refl 0, List.mem_cons_self, p0 D, hH.new hD⟩ (fun i H hi hp => ?_) (fun H hp => ?_)
  · obtain ⟨acc, M, h1, h2, h3, h4⟩ := hp
    exact turn i D acc M H hi hD h1 h2 h3 h4
  · obtain ⟨acc, M, h1, h2, h3, h4⟩ := hp
    exact done D acc M H hD h1 h2 h3 h4
theorem lckF_list (hH : Has H0 ex H L) (P : Nat → Addr → List V → List (Addr × HO) → Prop) (p0 : ∀ D, P 0 D [] ((D, .lst []) :: L))
    (hl : ∀ i D acc M H', (D, HO.lst acc) ∈ M → P i D acc M → Has H0 ex H' M → SqL K H' a xs)
    (turn : ∀ i x D acc M H', xs[i]? = some x → H D = none → acc.length ≤ i → (D, HO.lst acc) ∈ M → P i D acc M → Has H0 ex H' M → g x (wipe σ vs) H' fun σ2 H2 => LcT vs σ tt te (CInv H0 ex P D (i + 1)) D σ2 H2)
    (done : ∀ D acc M H', H D = none → acc.length ≤ xs.length → (D, HO.lst acc) ∈ M → P xs.length D acc M → Has H0 ex H' M → Q (.ref D) H') : LcK g tt te vs σ Q (Itl K a) H := by
  intro D hD
  refine lc_list (xs := xs) (D := D) (vs := vs) (σ := σ) (g := g) (tt := tt) (te := te) (CInv H0 ex P D) ⟨[], _, Nat.le_refl 0, List.mem_cons_self, p0 D, hH.new hD⟩ (fun i H _ hp => ?_) (fun i x H hi hp => ?_) (fun H hp => ?_)
  · obtain ⟨acc, M, h1, h2, h3, h4⟩ := hp
    exact hl i D acc M H h2 h3 h4
  · obtain ⟨acc, M, h1, h2, h3, h4⟩ := hp
    exact turn i x D acc M H hi hD h1 h2 h3 h4
  · obtain ⟨acc, M, h1, h2, h3, h4⟩ := hp
    exact done D acc M H hD h1 h2 h3 h4
theorem fresh0 {D : Addr} (h : Has H0 ex H L) (n : H D = none) (hx : ∀ x ∈ ex, H x ≠ none) : H0 D = none := (freshD h n).resolve_left fun m => hx D m n
end
def spWords (K : PySem.W.Frag) : Sp := fun vs H Q _ => ∃ (d s : Addr) (ns : List Int) (i : Int), vs = [.ref d] ∧ DrawP K H d s ns i ∧ i < 900000 ∧ ∀ (ws : List Str) (p : Addr) (k : Int) H', ws.length ≤ 3 → (∀ x ∈ ws, x ∈ alphaS) → i ≤ k → k ≤ i + 4 → H p = none → Has H [d] H' [(p, .lst (vT ws)), (d, .lst [.ref s, .int k])] → Q (.ref p) H'
theorem ok_words {f : Addr} {fd : FuncData} (F : Fun K "_law_words" "_law_words" s__law_words f fd) (c__law_take : Cal P w K mg base CX0 2 "_law_take" ["draw", "many"] (spTake K)) (c__law_pick : Cal P w K mg base CX0 3 "_law_pick" ["draw", "items"] (spPick K)) (m_range : mg "range" = none) : FnOk P w K mg base CX0 4 f fd ["draw"] (spWords K) := by
  refine F.ok sc__law_words (fun vs H Q E h => ?_) (fun cdv A outer st H vs Q E hr h => ?_)
  · obtain ⟨d, s, ns, i, rfl, _⟩ := h
    rfl
  · obtain ⟨d, s, ns, i, rfl, hd, hi, q⟩ := h
    refine ⟨_, (pss_one (ps_ret (pe_lc (own := [("turn", 1)]) (g := gName 1) rfl sc__law_words.nd (pi_range1 (by rfl) m_range (pa_cons (pe_cal c__law_take hr (by omega) (by rfl) pass0 (pa_cons (pv 0) (pa_cons pe_int pa_nil))) pa_nil)) (blkOk_by (own := [("turn", 1)]) (N := ["draw", "turn"]) (sc := defScope s__law_words) (by decide +kernel)) (fun _ _ _ _ _ => (pg_name (i := 1) sc__law_words.nd rfl (Or.inl rfl))) (fun _ _ _ _ _ => pts_nil) (fun _ _ _ _ _ => (pe_cal c__law_pick hr (by omega) (by rfl) pass0 (pa_cons (pv 0) (pa_cons (pe_lst (pa_cons pe_str (pa_cons pe_str (pa_cons pe_str (pa_cons pe_str (pa_cons pe_str (pa_cons pe_str (pa_cons pe_str (pa_cons pe_str (pa_cons pe_str pa_nil)))))))))) pa_nil))))))), ?_⟩
    have hb : Has H [d] H [(d, .lst [.ref s, .int i])] := (Has.start H [d]).add hd.1 (by simp)
    have scr := hd.scr
    have i0 := hd.2.2.1
    show (_ : L2.St → Hp → Prop) [some (.ref d), none] H
    walk_at "go"
    refine take_ (i := i) scr hb .here (.inl (by simp)) ⟨i0, by omega⟩ (by decide) fun n0 G1 g1 n0a n0b => ?_
    walk_at "go"
    refine rng1k (by omega) ?_
    refine lckF_rng g1 (fun j D acc M => ∃ (ws : List Str), acc = vT ws ∧ (∀ x ∈ ws, x ∈ alphaS) ∧ ws.length = j ∧ M = [(D, .lst acc), (d, .lst [.ref s, .int (i + 1 + (j : Int))])]) (fun D => ⟨[], rfl, by simp, rfl, by simp⟩) (fun j D acc M G hj hD hl2 hm hp hG => ?_) (fun D acc M G hD hl2 hm hp hG => ?_)
    · obtain ⟨ws, rfl, hws, hwj, rfl⟩ := hp
      simp only [List.map, wipe, List.set]
      walk_at "go"
      refine lct rfl ?_
      walk_at "go"
      rename_i p5 G5 n5 h5
      refine pick_ (i := i + 1 + (j : Int)) scr h5 (.there .here) (.inl (by simp)) ⟨by omega, by omega⟩ (by decide) fun v G6 mv h6 => ?_
      obtain ⟨x, hx, rfl⟩ : ∃ x ∈ alphaS, V.str x = v := List.mem_map.mp mv
      refine lcn (L5 := [(D, .lst (vT ws ++ [V.str x])), (d, .lst [.ref s, .int (i + 1 + (j : Int) + 1)])]) h6 (freshD g1 hD) (.there .here) hl2 (by omega) (.cons _ (.refl _)) List.mem_cons_self ⟨ws ++ [x], by simp only [List.map_append, List.map_cons, List.map_nil], fun y hy => ?_, by simp [hwj], ?_⟩
      · rcases List.mem_append.mp hy with hy | hy
        · exact hws y hy
        · rw [List.mem_singleton.mp hy]
          exact hx
      · rw [show i + 1 + ((j + 1 : Nat) : Int) = i + 1 + (j : Int) + 1 by omega]
    · obtain ⟨ws, rfl, hws, hwj, rfl⟩ := hp
      have h3 : ws.length ≤ 3 := by omega
      have hn : H D = none := fresh0 g1 hD (fun x hx => by
        rw [List.mem_singleton.mp hx, g1.at List.mem_cons_self]
        exact fun z => by cases z)
      exact q ws D _ G h3 hws (by omega) (by omega) hn hG

/-! ### the def that tells what is refused, called with a lambda or with one of some -/
abbrev csR (BA BW : Addr) : List (Addr × Str × Str) := [(BA, "name", "alias"), (BW, "number", "words")]
structure RefOk (K : PySem.W.Frag) (mg : Str → Option Value) (BA BW : Addr) : Prop where
  gv : ∀ {X : Cx} {g : Addr} {cdg : Value} {q : Str}, X.K = K → X.mg = mg → LamX.GivesTo X ["deed", "fault"] "_law_refused" (defScope s__law_refused) g cdg (defBody s__law_refused) "deed" q (TRef (csR BA BW))
  fn : ∃ (g : Addr) (oc : Value) (od an : Option Addr) (osl : Array (Option Value)) (kV doc pm cdv ct : Value), mg "_law_refused" = some (.ref g) ∧ PySem.W.keepIn K (.ref g) = true ∧ K.lookup g = some ⟨oc, od, .func (PySem.W.fnOf "_law_refused" "_law_refused" (defArgs s__law_refused) (defBody s__law_refused) (defScope s__law_refused) .none kV doc pm an cdv ct), osl⟩ ∧ PySem.W.codeIn K cdv "_law_refused" = true
theorem pe_ref {X : Cx} {BA BW c P' : Addr} {k : Nat} {params : Arguments} {body : Expr} {scope : Scope} {t : XK → TE} {p lpos pos : Pos} (R : RefOk X.K X.mg BA BW) (hg : Gl X "_law_refused") (TB : LamX.TabB X.base X.mg c P') (hcode : X.env.code = .ref c) (hr : Room (k + 2) X.A) (L : LamX.LamS X.env.scope scope)
    (hdef : defaultsOf params X.env = ([], [])) (hbind : ∀ (q : Str) (cl : List (Str × Addr)) (pm cv ctv : Value), bindArgs (PySem.W.kla_fn "<lambda>" q params body scope cl pm cv ctv) ⟨[], []⟩ = pure [])
    (hbody : ∀ (A : Around) (outer : List Env) (s : Shared) (H : Hp) (E : XK) (f c' : Addr), Room k (A.deeper (LamX.lamEnv X scope s.heap.objs.size f c')) → PE (LamX.lamCx X A outer s H E scope f c') body (t E)) :
    PE X (.Call (.Name "_law_refused" p) [.Lambda params body scope lpos] [] pos) (LamX.tLam [(P', X.env.qual ++ "<lambda>")] (TRef (csR BA BW)) t) := by
  obtain ⟨g, oc, od, an, osl, kV, doc, pm, cdv, ct, hm, hk, lk, hcg⟩ := R.fn
  exact LamX.pe_lamcall (Ng := ["deed", "fault"]) hg hm hk lk hcg (.all fun us hl => match us, hl with | [_], _ => rfl) sc__law_refused rfl (.inl rfl) (R.gv rfl rfl) TB hcode List.mem_cons_self (fun q hq _ => by rw [List.mem_singleton] at hq; rw [hq]) hr L hdef hbind hbody
abbrev Lm : Type := Arguments × Expr × Scope
def lamsIn : List Expr → List Lm
  | [] => []
  | .Lambda a b c _ :: r => (a, b, c) :: lamsIn r
  | _ :: r => lamsIn r
def lamAt (i j : Nat) : Lm := match (defBody s_law).getD i (.Pass ⟨0, 0, 0, 0⟩) with
  | .For _ (.Tuple es _ _) _ _ _ => (lamsIn es).getD j (⟨[], [], none, [], [], none, []⟩, .Constant .none 0 ⟨0, 0, 0, 0⟩, defScope s_law)
  | _ => (⟨[], [], none, [], [], none, []⟩, .Constant .none 0 ⟨0, 0, 0, 0⟩, defScope s_law)
def f3 {α : Type} (a b c : α) : Fin 3 → α
  | ⟨0, _⟩ => a
  | ⟨1, _⟩ => b
  | ⟨_ + 2, _⟩ => c
def f2 {α : Type} (a b : α) : Fin 2 → α
  | ⟨0, _⟩ => a
  | ⟨_ + 1, _⟩ => b
theorem pe_refV3 {X : Cx} {BA BW : Addr} {k : Nat} (l0 l1 l2 : Lm) {t0 t1 t2 : XK → TE} {e : Expr} {te : TE} {p pos : Pos} (R : RefOk X.K X.mg BA BW) (hg : Gl X "_law_refused") (hr : Room (k + 2) X.A) (he : PE X e te)
    (L0 : LamX.LamS X.env.scope l0.2.2) (n0 : ∀ (q : Str) (cl : List (Str × Addr)) (pm cv ctv : Value), bindArgs (PySem.W.kla_fn "<lambda>" q l0.1 l0.2.1 l0.2.2 cl pm cv ctv) ⟨[], []⟩ = pure []) (b0 : ∀ (A : Around) (outer : List Env) (r : Shared) (G : Hp) (E : XK) (f c : Addr), Room k (A.deeper (LamX.lamEnv X l0.2.2 r.heap.objs.size f c)) → PE (LamX.lamCx X A outer r G E l0.2.2 f c) l0.2.1 (t0 E))
    (L1 : LamX.LamS X.env.scope l1.2.2) (n1 : ∀ (q : Str) (cl : List (Str × Addr)) (pm cv ctv : Value), bindArgs (PySem.W.kla_fn "<lambda>" q l1.1 l1.2.1 l1.2.2 cl pm cv ctv) ⟨[], []⟩ = pure []) (b1 : ∀ (A : Around) (outer : List Env) (r : Shared) (G : Hp) (E : XK) (f c : Addr), Room k (A.deeper (LamX.lamEnv X l1.2.2 r.heap.objs.size f c)) → PE (LamX.lamCx X A outer r G E l1.2.2 f c) l1.2.1 (t1 E))
    (L2 : LamX.LamS X.env.scope l2.2.2) (n2 : ∀ (q : Str) (cl : List (Str × Addr)) (pm cv ctv : Value), bindArgs (PySem.W.kla_fn "<lambda>" q l2.1 l2.2.1 l2.2.2 cl pm cv ctv) ⟨[], []⟩ = pure []) (b2 : ∀ (A : Around) (outer : List Env) (r : Shared) (G : Hp) (E : XK) (f c : Addr), Room k (A.deeper (LamX.lamEnv X l2.2.2 r.heap.objs.size f c)) → PE (LamX.lamCx X A outer r G E l2.2.2 f c) l2.2.1 (t2 E))
    (hs : starEach [e] X.env = (false, eval e X.env) :: starEach [] X.env := by rfl) (hpl : (backTo pos (starEach [] X.env)).any (·.1) = false := by rfl) :
    PE X (.Call (.Name "_law_refused" p) [e] [] pos) (tLamC (X.env.qual ++ "<lambda>") (fun j => (f3 l0 l1 l2 j).1) (fun j => (f3 l0 l1 l2 j).2.1) (fun j => (f3 l0 l1 l2 j).2.2) (fun j => cloFrom X.env.cells (f3 l0 l1 l2 j).2.2.names []) (TRef (csR BA BW)) (f3 t0 t1 t2) te) := by
  obtain ⟨g, oc, od, an, osl, kV, doc, pm, cdv, ct, hm, hk, lk, hcg⟩ := R.fn
  exact pe_lamC (Ng := ["deed", "fault"]) hg hm hk lk hcg (.all fun us hl => match us, hl with | [_], _ => rfl) sc__law_refused rfl (.inl rfl) (R.gv rfl rfl) hr he (fun | ⟨0, _⟩ => L0 | ⟨1, _⟩ => L1 | ⟨2, _⟩ => L2) (fun | ⟨0, _⟩ => n0 | ⟨1, _⟩ => n1 | ⟨2, _⟩ => n2) (fun | ⟨0, _⟩ => b0 | ⟨1, _⟩ => b1 | ⟨2, _⟩ => b2) hs hpl
theorem pe_refV2 {X : Cx} {BA BW : Addr} {k : Nat} (l0 l1 : Lm) {t0 t1 : XK → TE} {e : Expr} {te : TE} {p pos : Pos} (R : RefOk X.K X.mg BA BW) (hg : Gl X "_law_refused") (hr : Room (k + 2) X.A) (he : PE X e te)
    (L0 : LamX.LamS X.env.scope l0.2.2) (n0 : ∀ (q : Str) (cl : List (Str × Addr)) (pm cv ctv : Value), bindArgs (PySem.W.kla_fn "<lambda>" q l0.1 l0.2.1 l0.2.2 cl pm cv ctv) ⟨[], []⟩ = pure []) (b0 : ∀ (A : Around) (outer : List Env) (r : Shared) (G : Hp) (E : XK) (f c : Addr), Room k (A.deeper (LamX.lamEnv X l0.2.2 r.heap.objs.size f c)) → PE (LamX.lamCx X A outer r G E l0.2.2 f c) l0.2.1 (t0 E))
    (L1 : LamX.LamS X.env.scope l1.2.2) (n1 : ∀ (q : Str) (cl : List (Str × Addr)) (pm cv ctv : Value), bindArgs (PySem.W.kla_fn "<lambda>" q l1.1 l1.2.1 l1.2.2 cl pm cv ctv) ⟨[], []⟩ = pure []) (b1 : ∀ (A : Around) (outer : List Env) (r : Shared) (G : Hp) (E : XK) (f c : Addr), Room k (A.deeper (LamX.lamEnv X l1.2.2 r.heap.objs.size f c)) → PE (LamX.lamCx X A outer r G E l1.2.2 f c) l1.2.1 (t1 E))
    (hs : starEach [e] X.env = (false, eval e X.env) :: starEach [] X.env := by rfl) (hpl : (backTo pos (starEach [] X.env)).any (·.1) = false := by rfl) :
    PE X (.Call (.Name "_law_refused" p) [e] [] pos) (tLamC (X.env.qual ++ "<lambda>") (fun j => (f2 l0 l1 j).1) (fun j => (f2 l0 l1 j).2.1) (fun j => (f2 l0 l1 j).2.2) (fun j => cloFrom X.env.cells (f2 l0 l1 j).2.2.names []) (TRef (csR BA BW)) (f2 t0 t1) te) := by
  obtain ⟨g, oc, od, an, osl, kV, doc, pm, cdv, ct, hm, hk, lk, hcg⟩ := R.fn
  exact pe_lamC (Ng := ["deed", "fault"]) hg hm hk lk hcg (.all fun us hl => match us, hl with | [_], _ => rfl) sc__law_refused rfl (.inl rfl) (R.gv rfl rfl) hr he (fun | ⟨0, _⟩ => L0 | ⟨1, _⟩ => L1) (fun | ⟨0, _⟩ => n0 | ⟨1, _⟩ => n1) (fun | ⟨0, _⟩ => b0 | ⟨1, _⟩ => b1) hs hpl
/-! ### rows of objects -/
abbrev At := Addr × Str × Addr × List Str
def objs (mk : List V → HO) (ats : List At) : List (Addr × HO) := ats.flatMap fun x => [(x.1, .tup [.str x.2.1, .ref x.2.2.1]), (x.2.2.1, mk (vT x.2.2.2))]
theorem objs_cons (mk : List V → HO) (x : At) (ats : List At) : objs mk (x :: ats) = (x.1, .tup [.str x.2.1, .ref x.2.2.1]) :: (x.2.2.1, mk (vT x.2.2.2)) :: objs mk ats := rfl
theorem objs_mem {mk : List V → HO} {ats : List At} {x : At} (h : x ∈ ats) : (x.1, HO.tup [.str x.2.1, .ref x.2.2.1]) ∈ objs mk ats ∧ (x.2.2.1, mk (vT x.2.2.2)) ∈ objs mk ats :=
  ⟨List.mem_flatMap.mpr ⟨x, h, List.mem_cons_self⟩, List.mem_flatMap.mpr ⟨x, h, List.mem_cons_of_mem _ List.mem_cons_self⟩⟩
abbrev alOf (ats : List At) : Al := ats.reverse.map (·.2)
theorem paired_of {H : Hp} : ∀ l : List At, (∀ x ∈ l, SqT K H x.1 [.str x.2.1, .ref x.2.2.1]) → Paired (fun p kv => SqT K H p [kV kv.1, kv.2]) (l.map (·.1)) (kvsOf (l.map (·.2)))
  | [], _ => .nil
  | x :: l, h => .cons (h x List.mem_cons_self) (paired_of l fun y hy => h y (List.mem_cons_of_mem _ hy))
theorem put_new' {kvs : List (Key × V)} {z : Str} {v : V} (n : ∀ x ∈ kvs, x.1 ≠ .inr z) : putK kvs (.inr z) v = kvs ++ [(.inr z, v)] := by
  refine putK_new _ ?_
  unfold valV
  rw [List.find?_eq_none.mpr fun x hx => by simpa using n x hx]
  rfl
theorem merge_al : ∀ (al : Al) (kvs : List (Key × V)), (al.map (·.1)).Nodup → (∀ x ∈ al, ∀ y ∈ kvs, y.1 ≠ .inr x.1) → mergeK kvs (kvsOf al) = kvs ++ kvsOf al
  | [], kvs, _, _ => (List.append_nil kvs).symm
  | x :: al, kvs, nd, hs => by
    rw [List.map_cons, List.nodup_cons] at nd
    show mergeK (putK kvs (.inr x.1) (.ref x.2.1)) (kvsOf al) = _
    rw [put_new' (hs x List.mem_cons_self), merge_al al _ nd.2 fun y hy z hz => ?_, List.append_assoc]
    · rfl
    · rcases List.mem_append.mp hz with hz | hz
      · exact hs y (List.mem_cons_of_mem _ hy) z hz
      · rw [List.mem_singleton.mp hz]
        intro e
        exact nd.1 (by rw [show x.1 = y.1 from Sum.inr.inj e]; exact List.mem_map_of_mem (f := fun x : Str × Addr × List Str => x.1) hy)
theorem AL.keepE {H0 H : Hp} {ex : List Addr} {L : List (Addr × HO)} {pa : Addr} {al : Al} (h : AL H0 pa al) (hh : Has H0 ex H L) (n : ∀ a ∈ ex, ∃ xs, H0 a = some (.lst xs) ∧ ∀ x ∈ al, xs ≠ vT x.2.2) : AL H pa al := by
  refine ⟨hh.keep pa _ h.1 fun m => ?_, fun x hx => (h.2 x hx).keep hh fun m => ?_⟩
  · obtain ⟨xs, e, _⟩ := n _ m
    rw [h.1] at e
    cases e
  · obtain ⟨xs, e, ne⟩ := n _ m
    rcases h.2 x hx with r | r
    · rw [r] at e
      cases e
      exact ne x hx rfl
    · rw [r] at e
      cases e
theorem vT_ne {s : Addr} {r : List V} : ∀ ws : List Str, (V.ref s :: r) ≠ vT ws
  | [], e => by cases e
  | x :: ws, e => by cases e
theorem relock {H0 G G' : Hp} {ex : List Addr} {L M : List (Addr × HO)} {pa : Addr} {od : Obj} {u : HO} (hG : Has H0 ex G L) (e : G pa = some u) (hB : Has (upd G pa (.frz od u)) [] G' M) (fr : ∀ x ∈ M, G x.1 = none) : Has H0 ex (upd G' pa u) (M ++ L) := by
  have up : ∀ a o, G a = some o → (upd G' pa u) a = some o := fun a o ea => by
    by_cases z : a = pa
    · subst z
      rw [upd_same, ← e, ea]
    · rw [upd_ne z]
      exact hB.keep a o (by rw [upd_ne z]; exact ea) (by simp)
  refine ⟨fun a o ea n => up a o (hG.keep a o ea n), fun x hx => ?_, ?_⟩
  · rcases List.mem_append.mp hx with hx | hx
    · rw [upd_ne (fun z => by
        have := fr x hx
        rw [z, e] at this
        cases this)]
      exact hB.get x hx
    · exact up _ _ (hG.get x hx)
  · rw [List.map_append, List.nodup_append]
    refine ⟨hB.nd, hG.nd, fun a ha b hb eab => ?_⟩
    obtain ⟨x, hx, rfl⟩ := List.mem_map.mp ha
    obtain ⟨y, hy, rfl⟩ := List.mem_map.mp hb
    have := hG.get y hy
    rw [← eab, fr x hx] at this
    cases this
section
variable {H0 : Hp} {ex : List Addr} {H : Hp} {L : List (Addr × HO)} {Q : VK} {σ : L2.St} {g : TG} {tt : TT} {te : TE} {vs : List Nat} {d : Addr} {o : Obj} {kvs : List (Key × V)}
theorem lckF_items (hH : Has H0 ex H L) (hf : ∀ H' M, Has H0 ex H' M → H' d = some (.frz o (.dK kvs))) (P : Nat → Addr → List V → List (Addr × HO) → Prop) (p0 : ∀ D, P 0 D [] ((D, .lst []) :: L))
    (turn : ∀ i k v T D acc M H', kvs[i]? = some (k, v) → H D = none → acc.length ≤ i → (D, HO.lst acc) ∈ M → P i D acc M → Has H0 ex H' M → H' T = none → g (.ref T) (wipe σ vs) (upd H' T (.tup [kV k, v])) fun σ2 H2 => LcT vs σ tt te (CInv H0 ex P D (i + 1)) D σ2 H2)
    (done : ∀ D acc M H', H D = none → acc.length ≤ kvs.length → (D, HO.lst acc) ∈ M → P kvs.length D acc M → Has H0 ex H' M → Q (.ref D) H') : LcK g tt te vs σ Q (Iti d o kvs) H := by
  intro D hD
  refine ⟨fun i m H => m = kvs.length - i ∧ i ≤ kvs.length ∧ CInv H0 ex P D i H, ⟨_, rfl, Nat.zero_le _, [], _, Nat.le_refl 0, List.mem_cons_self, p0 D, hH.new hD⟩, ?_⟩
  rintro i m H1 ⟨rfl, hi, acc, M, hl, hm, hp, hh⟩
  by_cases lt : i < kvs.length
  · refine .inr ⟨⟨hf _ _ hh, lt⟩, CInv H0 ex P D (i + 1), fun H2 c => ⟨kvs.length - (i + 1), by omega, rfl, lt, c⟩, fun v H2 y => ?_⟩
    obtain ⟨T, k, v, e, rfl, n, rfl⟩ := y
    exact turn i k v T D acc M _ e hD hl hm hp hh n
  · have e : i = kvs.length := by omega
    subst e
    exact .inl ⟨⟨hf _ _ hh, Nat.le_refl _⟩, done D acc M H1 hD hl hm hp hh⟩
end
abbrev objsL (ls : List (Addr × List Str)) : List (Addr × HO) := ls.map fun x => (x.1, HO.lst (vT x.2))
def RowsL (G : Hp) (R : List (Addr × List Str)) : Prop := ∀ x ∈ R, G x.1 = some (.lst (vT x.2))
/-! ### comparisons -/
theorem rising_le : ∀ (p : Str) (l : List Str), risingS p l = true → (∀ x ∈ l, p.cps.toList ≤ x.cps.toList) ∧ l.Pairwise fun a b => a.cps.toList ≤ b.cps.toList
  | _, [], _ => ⟨fun x h => absurd h List.not_mem_nil, .nil⟩
  | p, x :: r, h => by
    have h' : (!ltCps x.cps.toList p.cps.toList && risingS x r) = true := h
    obtain ⟨h1, h2⟩ := Bool.and_eq_true_iff.mp h'
    rw [ltCps_eq] at h1
    have px : p.cps.toList ≤ x.cps.toList := by
      have : ¬ x.cps.toList < p.cps.toList := by simpa using h1
      exact List.not_lt.mp this
    obtain ⟨i1, i2⟩ := rising_le x r h2
    refine ⟨fun y hy => ?_, List.pairwise_cons.mpr ⟨i1, i2⟩⟩
    rcases List.mem_cons.mp hy with rfl | hy
    · exact px
    · exact List.le_trans px (i1 y hy)
theorem sorted_le {l : List Str} (h : sortedS l = true) : l.Pairwise fun a b => a.cps.toList ≤ b.cps.toList := by
  cases l with
  | nil => exact .nil
  | cons x r =>
    obtain ⟨i1, i2⟩ := rising_le x r h
    exact List.pairwise_cons.mpr ⟨i1, i2⟩
theorem sorted_one {l m : List Str} (hl : l.Pairwise fun a b => a.cps.toList ≤ b.cps.toList) (hm : m.Pairwise fun a b => a.cps.toList ≤ b.cps.toList) (nl : l.Nodup) (nm : m.Nodup) (h : ∀ z, z ∈ l ↔ z ∈ m) : l = m := by
  refine List.Perm.eq_of_pairwise (fun a b _ _ h1 h2 => Str.ext' (Array.toList_inj.mp (List.le_antisymm h1 h2))) hl hm ?_
  exact (List.perm_ext_iff_of_nodup nl nm).mpr h
theorem dp_T {K : PySem.W.Frag} {H : Hp} : ∀ ws : List Str, DpAll K H (vT ws) (ws.map PyData.str)
  | [] => .nil
  | w :: ws => .cons (.str _) (dp_T ws)
theorem lay_T : ∀ {ws : List Str}, (∀ u ∈ ws, u ∈ alphaS) → PyData.canLayAll0 (ws.map PyData.str) = true
  | [], _ => rfl
  | w :: ws, h => by
    rw [List.map_cons, PyData.canLayAll0, lay_T fun u hu => h u (List.mem_cons_of_mem _ hu), Bool.and_true, PyData.canLay0]
    have : ∀ u ∈ alphaS, PyData.strOk u = true := by decide +kernel
    exact this w (h w List.mem_cons_self)
theorem depth_T : ∀ ws : List Str, PyData.depthAll (ws.map PyData.str) = 0
  | [] => rfl
  | w :: ws => by rw [List.map_cons, PyData.depthAll, depth_T ws]; rfl
theorem shaped_L {ws : List Str} (h : ∀ u ∈ ws, u ∈ alphaS) : SeqAt.shaped (.list (ws.map PyData.str)) = true := by
  unfold SeqAt.shaped
  rw [PyData.canLay0, lay_T h, PyData.depth, depth_T]
  rfl
theorem shaped_T {ws : List Str} (h : ∀ u ∈ ws, u ∈ alphaS) : SeqAt.shaped (.tuple (ws.map PyData.str)) = true := by
  unfold SeqAt.shaped
  rw [PyData.canLay0, lay_T h, PyData.depth, depth_T]
  rfl
theorem eqv_L {ws : List Str} (h : ∀ u ∈ ws, u ∈ alphaS) : PyData.eqv (.list (ws.map PyData.str)) (.list (ws.map PyData.str)) = true := SeqAt.eqv_refl_plain _ (PyData.plain_of_canLay0 _ (SeqAt.canLay_of_shaped (shaped_L h)))
theorem eqv_T {ws : List Str} (h : ∀ u ∈ ws, u ∈ alphaS) : PyData.eqv (.tuple (ws.map PyData.str)) (.tuple (ws.map PyData.str)) = true := SeqAt.eqv_refl_plain _ (PyData.plain_of_canLay0 _ (SeqAt.canLay_of_shaped (shaped_T h)))
theorem inV_T (z : Str) : ∀ ws : List Str, inV (.str z) (vT ws) = decide (z ∈ ws)
  | [] => by simp [inV]
  | w :: ws => by
    have ih := inV_T z ws
    unfold inV at ih ⊢
    show (eqV (.str w) (.str z) || (vT ws).any fun y => eqV y (.str z)) = _
    rw [ih]
    by_cases e : w = z
    · subst e
      have : eqV (.str w) (.str w) = true := beq_self_eq_true w
      rw [this]
      simp
    · have : eqV (.str w) (.str z) = false := beq_eq_false_iff_ne.mpr e
      rw [this]
      have e2 : ¬ z = w := fun q => e q.symm
      simp [e2]
theorem flat_T : ∀ ws : List Str, (vT ws).all flatV = true
  | [] => rfl
  | w :: ws => by
    show (flatV (.str w) && (vT ws).all flatV) = true
    rw [flat_T ws]
    rfl
theorem _root_.Sw.Has.swap {H0 H : Hp} {ex : List Addr} {x y : Addr × HO} {L : List (Addr × HO)} (h : Has H0 ex H (x :: y :: L)) : Has H0 ex H (y :: x :: L) :=
  ⟨h.keep, fun z hz => h.get z (by
    rcases List.mem_cons.mp hz with rfl | hz
    · simp
    · rcases List.mem_cons.mp hz with rfl | hz
      · simp
      · simp [hz]), ((List.Perm.swap x y L).symm.map Prod.fst).nodup_iff.mp h.nd⟩
theorem eqv_nil : PyData.eqv (.list []) (.list []) = true := SeqAt.eqv_refl_plain (.list []) rfl
theorem eqv_cons (z : Str) (r : List PyData) : PyData.eqv (.list (.str z :: r)) (.list []) = false := by
  rw [PyData.eqv]
  rfl
theorem and_test {B G : Hp} {ex : List Addr} {L : List (Addr × HO)} {σ : L2.St} {QT : Bool → Hp → Prop} {t u : TT} {b : Bool} (h : ∀ QT' : Bool → Hp → Prop, (∀ G', Has B ex G' L → QT' b G') → tAnd t u σ G QT') (key : ∀ G', Has B ex G' L → QT b G') : tAnd t u σ G QT := h QT key
def inB (al : Al) (z : Str) : Bool := (look al z).isSome
def goB (al : Al) (used : List Str) : List Str → Bool
  | [] => false
  | z :: _ => (look al z).isSome && !decide (z ∈ used)
theorem stop_go {al : Al} {used late : List Str} (h : goB al used late = false) : Stopped al used late := by
  cases late with
  | nil => exact .inl rfl
  | cons z r =>
    refine .inr ⟨z, r, rfl, ?_⟩
    replace h : ((look al z).isSome && !decide (z ∈ used)) = false := h
    cases e : look al z with
    | none => exact .inl rfl
    | some q =>
      rw [e] at h
      by_cases m : z ∈ used
      · exact .inr m
      · rw [decide_eq_false m] at h
        cases h
noncomputable def fnd1 (al : Al) : List Str → List Str
  | [z] => if leadsB al z = true then [z] else []
  | _ => []
noncomputable def foundL (al : Al) (R : List (Addr × List Str)) : List Str := R.flatMap fun x => fnd1 al x.2
theorem look_congr {al al2 : Al} (h : al2.map (fun x => (x.1, x.2.2)) = al.map fun x => (x.1, x.2.2)) (z : Str) : (look al2 z).map (·.2) = (look al z).map (·.2) := by
  induction al generalizing al2 with
  | nil =>
    cases al2 with
    | nil => rfl
    | cons y al2 => cases h
  | cons x al ih =>
    cases al2 with
    | nil => cases h
    | cons y al2 =>
      rw [List.map_cons, List.map_cons] at h
      injection h with h1 h2
      have e1 : y.1 = x.1 := congrArg (fun q : Str × List Str => q.1) h1
      have e2 : y.2.2 = x.2.2 := congrArg (fun q : Str × List Str => q.2) h1
      unfold look
      rw [List.find?_cons, List.find?_cons, e1]
      by_cases c : x.1 = z
      · rw [decide_eq_true c]
        show some y.2.2 = some x.2.2
        rw [e2]
      · rw [decide_eq_false c]
        exact ih h2
theorem fol_congr {al al2 : Al} (h : al2.map (fun x => (x.1, x.2.2)) = al.map fun x => (x.1, x.2.2)) {used late u l : List Str} (f : Fol al2 used late u l) : Fol al used late u l := by
  induction f with
  | stop s =>
    refine .stop ?_
    rcases s with s | ⟨z, r, e, s | s⟩
    · exact .inl s
    · refine .inr ⟨z, r, e, .inl ?_⟩
      have := look_congr h z
      rw [s] at this
      cases e2 : look al z with
      | none => rfl
      | some q => rw [e2] at this; cases this
    · exact .inr ⟨z, r, e, .inr s⟩
  | @step used r u' l' z q e n f ih =>
    have := look_congr h z
    rw [e] at this
    cases e2 : look al z with
    | none => rw [e2] at this; cases this
    | some q2 =>
      rw [e2] at this
      have e3 : q.2 = q2.2 := Option.some.inj this
      rw [e3] at ih
      exact .step e2 n ih
abbrev namesS : List Str := ["dd", "a", "e9", "c", "b"]
abbrev namesV : List V := [.str "dd", .str "a", .str "e9", .str "c", .str "b"]
theorem names_good : ∀ z ∈ namesS, nameB z = true ∧ z.length ≤ 100000 := by decide +kernel
theorem words_ {H0 : Hp} {ex : List Addr} {H : Hp} {L : List (Addr × HO)} {L' : Int → List (Addr × HO)} {d s : Addr} {ns : List Int} {i : Int} {Q : VK} {E : XK} (scr : Scr K H0 ex s ns) (hH : Has H0 ex H L) (pt : ∀ k, Put L d (.lst [.ref s, .int i]) (.lst [.ref s, .int k]) (L' k)) (f : d ∈ ex ∨ H0 d = none) (bi : 0 ≤ i ∧ i < 900000)
    (h : ∀ (ws : List Str) (p : Addr) (k : Int) H', ws.length ≤ 3 → (∀ x ∈ ws, x ∈ alphaS) → i ≤ k → k ≤ i + 4 → H p = none → Has H0 ex H' ((p, .lst (vT ws)) :: L' k) → Q (.ref p) H') : spWords K [.ref d] H Q E :=
  ⟨d, s, ns, i, rfl, ⟨hH.at (pt 0).mem.1, scr.2 _ _ hH, bi.1, scr.1⟩, bi.2, fun ws p k H' h1 h2 h3 h4 n g => h ws p k H' h1 h2 h3 h4 n (by
    have g2 : Has H [d] H' ((d, .lst [.ref s, .int k]) :: []) := g.sub (.cons _ (.refl _))
    have g3 := hH.putC g2 (pt k) f
    refine g3.add (g.at List.mem_cons_self) fun hm => ?_
    rw [(pt k).fst] at hm
    obtain ⟨x, hx, e⟩ := List.mem_map.mp hm
    have := hH.get x hx
    rw [e, n] at this
    cases this)⟩
/-! ### displays with one pair; the dict that is wrong -/
section
variable {H0 : Hp} {ex : List Addr} {H G : Hp} {L L' : List (Addr × HO)} {Q : VK} {σ : L2.St} {p d : Addr} {y : V} {te : TE}
def DspK (p : Addr) (Q : VK) (x y : V) (G : Hp) : Prop := G p = some (.dK []) ∧ ∃ kvs : List (Key × V), [(x, y)] = kvs.map (fun kv => (L2.kV kv.1, kv.2)) ∧ kvs.length ≤ 15 ∧ Q (.ref p) (upd G p (.dK (mergeK [] kvs)))
theorem disp_ {tk tv : TE} (hH : Has H0 ex H L) (h : ∀ p G, (p ∈ ex ∨ H0 p = none) → Has H0 ex G ((p, .dK []) :: L) → tk σ G fun x G1 => tv σ G1 fun y G2 => DspK p Q x y G2) : tDisp [(tk, tv)] σ H Q := fun p n => h p _ (freshD hH n) (hH.new n)
theorem dspS {z : Str} (hH : Has H0 ex G L) (pt : Put L p (.dK []) (.dK [(.inr z, y)]) L') (f : p ∈ ex ∨ H0 p = none) (h : ∀ G', Has H0 ex G' L' → Q (.ref p) G') : DspK p Q (.str z) y G := ⟨hH.at pt.mem.1, [(.inr z, y)], rfl, Nat.le_of_ble_eq_true rfl, h _ (hH.put pt f)⟩
theorem dspI {i : Int} (hH : Has H0 ex G L) (pt : Put L p (.dK []) (.dK [(.inl i, y)]) L') (f : p ∈ ex ∨ H0 p = none) (h : ∀ G', Has H0 ex G' L' → Q (.ref p) G') : DspK p Q (.int i) y G := ⟨hH.at pt.mem.1, [(.inl i, y)], rfl, Nat.le_of_ble_eq_true rfl, h _ (hH.put pt f)⟩
theorem li_ (h : te σ H fun x H1 => LiI.rItemsL x H1 Q) : LiI.tListItems te σ H Q := h
theorem items1_ {key : Key} (hH : Has H0 ex H L) (e : H d = some (.dK [(key, y)])) (h : ∀ p t H', Has H0 ex H' ((p, .lst [.ref t]) :: (t, .tup [L2.kV key, y]) :: L) → Q (.ref p) H') : LiI.rItemsL (.ref d) H Q := by
  refine ⟨d, _, rfl, e, fun H' p ts st np nt pn ep pp => ?_⟩
  cases pp with
  | @cons t _ ts _ a b =>
  cases b
  have nt' := nt t List.mem_cons_self
  refine h p t H' ⟨fun a o ea n => st _ _ (hH.keep a o ea n), fun x hx => ?_, ?_⟩
  · rcases List.mem_cons.mp hx with rfl | hx
    · exact ep
    · rcases List.mem_cons.mp hx with rfl | hx
      · exact a
      · exact st _ _ (hH.get x hx)
  · have fr : ∀ z, H z = none → z ∉ L.map Prod.fst := fun z nz m => by
      obtain ⟨x, hx, rfl⟩ := List.mem_map.mp m
      have := hH.get x hx
      rw [nz] at this
      cases this
    rw [List.map_cons, List.map_cons, List.nodup_cons, List.nodup_cons]
    refine ⟨fun m => ?_, fr t nt', hH.nd⟩
    rcases List.mem_cons.mp m with z | m
    · exact pn (by rw [show p = t from z]; exact List.mem_cons_self)
    · exact fr p np m
theorem merge3 {key : Key} {u w : V} (hz : key ≠ .inr "z") (he : key ≠ .inr "") : mergeK [] [((.inr "z" : Key), u), (key, y), ((.inr "" : Key), w)] = [((.inr "z" : Key), u), (key, y), ((.inr "" : Key), w)] := by
  have e : ¬ ((.inr "z" : Key) = .inr "") := by decide
  have hz' : ¬ ((.inr "z" : Key) = key) := fun q => hz q.symm
  unfold mergeK putK
  simp [hz', he, e]
end
def dK : Key → PyData
  | .inl i => .int i
  | .inr z => .str z
theorem dp_key {K : PySem.W.Frag} {H : Hp} (k : Key) : Dp K H (L2.kV k) (dK k) := by
  cases k with
  | inl i => exact .int i
  | inr z => exact .str z
theorem neu_two {K : PySem.W.Frag} {H : Hp} {a b : Addr} {x : Str} {v : V} {dv : PyData} {Q : VK} (ha : SqT K H a [.str x, v]) (hb : SqT K H b [.str x, v]) (h : Dp K H v dv) (sh : SeqAt.shaped (.tuple [.str x, dv]) = true) (q : Q (.bl false) H) : rNeU K (.ref a) (.ref b) H Q :=
  neuD (Dp.tup ha (.cons (.str _) (.cons h .nil))) (Dp.tup hb (.cons (.str _) (.cons h .nil))) sh sh (by rw [SeqAt.eqv_refl_plain _ (PyData.plain_of_canLay0 _ (SeqAt.canLay_of_shaped sh))]; exact q)
theorem equ_two {K : PySem.W.Frag} {H : Hp} {a b : Addr} {x : Str} {v : V} {dv : PyData} {Q : VK} (ha : SqT K H a [.str x, v]) (hb : SqT K H b [.str x, v]) (h : Dp K H v dv) (sh : SeqAt.shaped (.tuple [.str x, dv]) = true) (q : Q (.bl true) H) : rEqU K (.ref a) (.ref b) H Q :=
  equD (Dp.tup ha (.cons (.str _) (.cons h .nil))) (Dp.tup hb (.cons (.str _) (.cons h .nil))) sh sh (by rw [SeqAt.eqv_refl_plain _ (PyData.plain_of_canLay0 _ (SeqAt.canLay_of_shaped sh))]; exact q)
theorem shaped_two {x : Str} {y : PyData} (hx : PyData.strOk x = true) (hy : PyData.canLay0 y = true) (hd : PyData.depth y = 0) : SeqAt.shaped (.tuple [.str x, y]) = true := by
  unfold SeqAt.shaped
  rw [PyData.canLay0, PyData.canLayAll0, PyData.canLay0, PyData.canLayAll0, PyData.canLayAll0, hx, hy, PyData.depth, PyData.depthAll, PyData.depthAll, PyData.depthAll, hd, PyData.depth]
  rfl
theorem funO_ne {q : Str} {ar : Arguments} {bd : Expr} {sc : Scope} {cl : List (Str × Addr)} {c f : Addr} (ps : Array Value) : FunO q ar bd sc cl c f ≠ .tbl ps := fun z => by
  unfold FunO at z
  cases z
/-- what is told of a refusal -/
def ERef (cs : List (Addr × Str × Str)) (Q : VK) : XK := fun cls d H1 => ∃ q ∈ cs, cls = .ref q.1 ∧ ∃ dd v, d = some dd ∧ H1 dd = some (.xd [(q.2.1, v)]) ∧ ∀ H2 p, H1 p = none → Has H1 [] H2 [(p, .tup [.str q.2.2, v])] → Q (.ref p) H2
theorem ref_ {cs : List (Addr × Str × Str)} {A : Hp → Prop} {tl : XK → Hp → VK → Prop} {H : Hp} {Q : VK} (a : A H) (h : tl (ERef cs Q) H fun _ H1 => Q (.str "") H1) : TRef cs (fun E H' Q' => A H' ∧ tl E H' Q') H Q := ⟨a, h⟩
theorem ref0_ {cs : List (Addr × Str × Str)} {tl : XK → Hp → VK → Prop} {H : Hp} {Q : VK} (h : tl (ERef cs Q) H fun _ H1 => Q (.str "") H1) : TRef cs tl H Q := h
theorem lamC_ {J : Type} {q : Str} {ar : J → Arguments} {bd : J → Expr} {sc : J → Scope} {cl : J → List (Str × Addr)} {TT : (XK → Hp → VK → Prop) → Hp → VK → Prop} {t : J → XK → TE} {te : TE} {σ : L2.St} {H : Hp} {Q : VK}
    (h : te σ H fun v H1 => ∃ (j : J) (f k : Addr), v = .ref f ∧ H1 f = some (FunO q (ar j) (bd j) (sc j) (cl j) k f) ∧ H1 k = some (LamX.CodeO k q) ∧ TT (fun E H' Q' => H' f = some (FunO q (ar j) (bd j) (sc j) (cl j) k f) ∧ t j E σ H' Q') H1 Q) : tLamC q ar bd sc cl TT t te σ H Q := h
section
variable {BA BW : Addr} {Q : VK} {H : Hp} {v : V}
theorem refA (h : ∀ G p, Has H [] G [(p, .tup [.str "alias", v])] → Q (.ref p) G) (dd : Addr) (H' : Hp) (g : Has H [] H' [(dd, .xd [("name", v)])]) : ERef (csR BA BW) Q (.ref BA) (some dd) H' :=
  ⟨(BA, "name", "alias"), List.mem_cons_self, rfl, dd, _, rfl, g.at List.mem_cons_self, fun _ p _ g2 => h _ p (g.thn' g2)⟩
theorem refW (h : ∀ G p, Has H [] G [(p, .tup [.str "words", v])] → Q (.ref p) G) (dd : Addr) (H' : Hp) (g : Has H [] H' [(dd, .xd [("number", v)])]) : ERef (csR BA BW) Q (.ref BW) (some dd) H' :=
  ⟨(BW, "number", "words"), List.mem_cons_of_mem _ List.mem_cons_self, rfl, dd, _, rfl, g.at List.mem_cons_self, fun _ p _ g2 => h _ p (g.thn' g2)⟩
end
/-- one alias that is none, under others -/
structure Wr (pw la : Addr) (key : Key) (y : V) (H : Hp) : Prop where
  w : H pw = some (.dK [((.inr "z" : Key), .ref la), (key, y), ((.inr "" : Key), .non)])
  l : H la = some (.lst [.str "a"])
  b : BadI H key y
theorem BadI.keep {H H' : Hp} {k : Key} {v : V} (b : BadI H k v) (h : ∀ a xs, H a = some (.lst xs) → H' a = some (.lst xs)) : BadI H' k v := by
  rcases b with b | ⟨z, e, l, b | ⟨n, b | ⟨p, y, e2, b⟩⟩⟩
  · exact .inl b
  · exact .inr ⟨z, e, l, .inl b⟩
  · exact .inr ⟨z, e, l, .inr ⟨n, .inl b⟩⟩
  · exact .inr ⟨z, e, l, .inr ⟨n, .inr ⟨p, y, e2, h _ _ b⟩⟩⟩
theorem Wr.keep {pw la : Addr} {key : Key} {y : V} {H H' : Hp} {L : List (Addr × HO)} (x : Wr pw la key y H) (h : Has H [] H' L) : Wr pw la key y H' := ⟨h.keep _ _ x.w (by simp), h.keep _ _ x.l (by simp), x.b.keep fun a xs e => h.keep _ _ e (by simp)⟩
theorem Wr.ext {pw la : Addr} {key : Key} {y : V} {H H' : Hp} (x : Wr pw la key y H) (h : LamX.ExtN H H') : Wr pw la key y H' := ⟨h _ _ x.w (fun ps z => by cases z), h _ _ x.l (fun ps z => by cases z), x.b.keep fun a xs e => h _ _ e (fun ps z => by cases z)⟩
theorem Wr.bad {BA BW pw la : Addr} {key : Key} {y : V} {H : Hp} {Q : VK} (x : Wr pw la key y H) (h : ∀ G p, Has H [] G [(p, .tup [.str "alias", L2.kV key])] → Q (.ref p) G) : ChkBad BA H (.ref pw) (ERef (csR BA BW) Q) := by
  refine .inl ⟨pw, _, 1, key, y, rfl, x.w, fun i k v hi e => ?_, rfl, x.b, refA h⟩
  obtain rfl : i = 0 := by omega
  obtain ⟨rfl, rfl⟩ := Prod.mk.inj (Option.some.inj e)
  exact ⟨"z", la, ["a"], rfl, rfl, by decide +kernel, by decide, .inl x.l, by decide⟩
local macro_rules | `(tactic| walk_at "g1") => `(tactic| first
  | with_reducible refine' li_ ?_
  | with_reducible refine' lamC_ ?_
  | ((with_reducible refine' disp_ (by assumption) ?h); (intro p_ G_ f_ h_))
  | ((with_reducible refine' dspS (by assumption) ?p ?f ?h); (case p => first | with_reducible exact Put.here | with_reducible exact Put.there Put.here | with_reducible exact Put.there (Put.there Put.here)); (case f => assumption); (intro G_ h_))
  | ((with_reducible refine' dspI (by assumption) ?p ?f ?h); (case p => first | with_reducible exact Put.here | with_reducible exact Put.there Put.here | with_reducible exact Put.there (Put.there Put.here)); (case f => assumption); (intro G_ h_)))

/-! ### the law -/
structure LSt (K : PySem.W.Frag) (T : List (Addr × Str)) (s d : Addr) (ns : List Int) (k : Int) (H' : Hp) : Prop where
  tabs : LamX.Tabs T H'
  drw : DrawP K H' d s ns k
theorem LSt.has {T : List (Addr × Str)} {s d : Addr} {ns : List Int} {k : Int} {H' : Hp} (h : LSt K T s d ns k H') : Has H' [d] H' [(d, .lst [.ref s, .int k])] := (Has.start H' [d]).add h.drw.1 (by simp)
theorem LSt.next {T : List (Addr × Str)} {s d : Addr} {ns : List Int} {k k' : Int} {B G : Hp} {L : List (Addr × HO)} (h : LSt K T s d ns k B) (g : Has B [d] G L) (m : (d, HO.lst [.ref s, .int k']) ∈ L) (hk : 0 ≤ k') : LSt K T s d ns k' G :=
  ⟨g.tabs h.tabs (fun a m o e => by
      have z : a = d := by simpa using m
      subst z
      rw [h.drw.1] at e
      exact ⟨_, (Option.some.inj e).symm⟩), ⟨g.at m, h.drw.scr.2 _ _ g, hk, h.drw.2.2.2⟩⟩
def spLaw (K : PySem.W.Frag) (P' : Addr) : Sp := fun vs H Q _ => ∃ (s : Addr) (ns : List Int), vs = [.ref s] ∧ SqL K H s (ns.map V.int) ∧ ns.length ≤ 63 ∧ H P' = some (.tbl #[]) ∧ ∀ H', Q (.bl true) H'
theorem ok_law {f BA BW c P' : Addr} {oc : Value} {od an : Option Addr} {osl : Array (Option Value)} {kV doc pm ct : Value} (lk : K.lookup f = some ⟨oc, od, .func (PySem.W.fnOf "law" "law" (defArgs s_law) (defBody s_law) (defScope s_law) .none kV doc pm an (.ref c) ct), osl⟩) (hcd : PySem.W.codeIn K (.ref c) "law" = true)
    (c__law_take : Cal P w K mg base CX0 2 "_law_take" ["draw", "many"] (spTake K)) (c__law_pick : Cal P w K mg base CX0 3 "_law_pick" ["draw", "items"] (spPick K)) (c__law_words : Cal P w K mg base CX0 4 "_law_words" ["draw"] (spWords K))
    (c_expanded : Cal P w K mg base (L2.CX P w) 4 "expanded" ["aliases", "words"] (spExp BA BW)) (c_used_aliases : Cal P w K mg base (L2.CX P w) 4 "used_aliases" ["aliases", "words"] (spUsed BA BW)) (c_ringed : Cal P w K mg base (L2.CX P w) 4 "ringed" ["aliases"] (spRinged BA)) (R : RefOk K mg BA BW) (TB : LamX.TabB base mg c P')
    (m_range : mg "range" = none) (m_len : mg "len" = none) (m_tuple : mg "tuple" = none) (m_list : mg "list" = none) (m_dict : mg "dict" = none) (m_sorted : mg "sorted" = none) (m_set : mg "set" = none) : FnOk P w K mg base CX0 9 f (PySem.W.fnOf "law" "law" (defArgs s_law) (defBody s_law) (defScope s_law) .none kV doc pm an (.ref c) ct) ["script"] (spLaw K P') := by
  refine ok_code lk hcd sc_law (fun vs H Q E h => ?_) (fun A outer st H vs Q E hr h => ?_)
  · obtain ⟨a, ns, rfl, _⟩ := h
    rfl
  · obtain ⟨s, ns, rfl, hS, hlen, hP, q⟩ := h
    refine ⟨_, (pss_cons (ps_set (i := 1) sc_law.nd rfl (.inr rfl) (pe_lst (pa_cons (pv 0) (pa_cons pe_int pa_nil))))
    (pss_cons (ps_for PassesOwn.never rfl (pi_range1 (by rfl) m_range (pa_cons pe_int pa_nil)) (pg_name (i := 2) sc_law.nd rfl (.inl rfl)) (pss_cons (ps_set (i := 3) sc_law.nd rfl (.inr rfl) (pe_callTy (call_dictP rfl) (by rfl) m_dict (by decide +kernel) (pa_cons (pe_lc (own := [("name", 4)]) (g := gName 4) rfl sc_law.nd (k_list (K := K) rfl (pe_lst (pa_cons pe_str (pa_cons pe_str (pa_cons pe_str (pa_cons pe_str (pa_cons pe_str pa_nil))))))) (blkOk_by (own := [("name", 4)]) (N := ["script", "draw", "again", "aliases", "name", "given", "words", "rows", "back", "late", "used", "due", "bad", "wrong", "deed", "turn"]) (sc := defScope s_law) (by decide +kernel)) (fun _ _ _ _ _ => (pg_name (i := 4) sc_law.nd rfl (Or.inl rfl))) (fun _ _ _ _ _ => (pts_one (pt_cmpR op_gt (pe_cal c__law_take hr (by omega) (by rfl) pass0 (pa_cons (pv 1) (pa_cons pe_int pa_nil))) pe_int (nomark _)))) (fun _ _ _ _ _ => (pe_tup (pa_cons (pv 4) (pa_cons (pe_cal c__law_words hr (by omega) (by rfl) pass0 (pa_cons (pv 1) pa_nil)) pa_nil))))) pa_nil)))
    (pss_cons (ps_set (i := 5) sc_law.nd rfl (.inl rfl) (pe_callTy (call_dictP rfl) (by rfl) m_dict (by decide +kernel) (pa_cons (pe_lock (pe_lc (own := [("name", 4), ("words", 6)]) rfl sc_law.nd (pi_items (pv 3)) (blkOk_by (own := [("name", 4), ("words", 6)]) (N := ["script", "draw", "again", "aliases", "name", "given", "words", "rows", "back", "late", "used", "due", "bad", "wrong", "deed", "turn"]) (sc := defScope s_law) (by decide +kernel)) (fun _ _ _ _ _ => (k_gtup (K := K) (n := 2) rfl rfl (pgs_cons (pg_name (i := 4) sc_law.nd rfl (Or.inl rfl)) (pgs_cons (pg_name (i := 6) sc_law.nd rfl (Or.inl rfl)) pgs_nil)))) (fun _ _ _ _ _ => pts_nil) (fun _ _ _ _ _ => (pe_tup (pa_cons (pv 4) (pa_cons (pe_callTy (k_tuple (K := K) rfl) (by rfl) m_tuple (by decide +kernel) (pa_cons (pv 6) pa_nil)) pa_nil)))))) pa_nil)))
    (pss_cons (ps_set (i := 7) sc_law.nd rfl (.inl rfl) (pe_op (k_add (K := K) rfl) (pe_lc (own := [("turn", 15)]) (g := gName 15) rfl sc_law.nd (pi_range1 (by rfl) m_range (pa_cons pe_int pa_nil)) (blkOk_by (own := [("turn", 15)]) (N := ["script", "draw", "again", "aliases", "name", "given", "words", "rows", "back", "late", "used", "due", "bad", "wrong", "deed", "turn"]) (sc := defScope s_law) (by decide +kernel)) (fun _ _ _ _ _ => (pg_name (i := 15) sc_law.nd rfl (Or.inl rfl))) (fun _ _ _ _ _ => pts_nil) (fun _ _ _ _ _ => (pe_cal c__law_words hr (by omega) (by rfl) pass0 (pa_cons (pv 1) pa_nil)))) (pe_lc (own := [("name", 4)]) (g := gName 4) rfl sc_law.nd (k_list (K := K) rfl (pe_callB (call_sortedD rfl) (by rfl) m_sorted (by decide +kernel) (pa_cons (pv 3) pa_nil))) (blkOk_by (own := [("name", 4)]) (N := ["script", "draw", "again", "aliases", "name", "given", "words", "rows", "back", "late", "used", "due", "bad", "wrong", "deed", "turn"]) (sc := defScope s_law) (by decide +kernel)) (fun _ _ _ _ _ => (pg_name (i := 4) sc_law.nd rfl (Or.inl rfl))) (fun _ _ _ _ _ => pts_nil) (fun _ _ _ _ _ => (pe_lst (pa_cons (pv 4) pa_nil))))))
    (pss_cons (ps_set (i := 8) sc_law.nd rfl (.inl rfl) (pe_lst pa_nil))
    (pss_cons (ps_for PassesOwn.never rfl (k_list (K := K) rfl (pv 7)) (pg_name (i := 6) sc_law.nd rfl (.inl rfl)) (pss_cons (ps_par (i := 9) (j := 10) (by rfl) sc_law.nd rfl rfl (by decide) rfl rfl (pa_cons (pe_callTy (k_listOf (K := K) rfl) (by rfl) m_list (by decide +kernel) (pa_cons (pv 6) pa_nil)) (pa_cons (pe_lst pa_nil) pa_nil)) (by rfl))
    (pss_cons (ps_while PassesOwn.never (PW.pt (pw_and (pt_cmpR (k_ne (K := K) rfl (by exact hr.units)) (pv 9) (pe_lst pa_nil) (nomark _)) (pw_and (pt_cmp (pc_din (Nat.lt_of_le_of_lt (Nat.add_le_add_left (by decide : 1 ≤ 64) _) hr.units) (pe_ix (k_ix (K := K) rfl) (pv 9) pe_int (fun _ _ => rfl)) (pv 3)) (by rfl)) (pw_and1 (pt_cmpR (k_niU (K := K) rfl) (pe_ix (k_ix (K := K) rfl) (pv 9) pe_int (fun _ _ => rfl)) (pv 10) (by rfl)))))) (pss_cons (ps_expr (k_bm (K := K) rfl PySem.F.plainAttrs_list PySem.F.slot_list_append PySem.F.type_list_append mt_append (pv 10) (pa_cons (pe_ix (k_ix (K := K) rfl) (pv 9) pe_int (fun _ _ => rfl)) pa_nil)))
    (pss_one (ps_set (i := 9) sc_law.nd rfl (.inl rfl) (pe_op (k_add (K := K) rfl) (pe_callTy (k_listOf (K := K) rfl) (by rfl) m_list (by decide +kernel) (pa_cons (pe_dget (Nat.lt_of_le_of_lt (Nat.add_le_add_left (by decide : 1 ≤ 64) _) hr.units) (pv 3) (pe_ix (k_ix (K := K) rfl) (pv 9) pe_int (fun _ _ => rfl)) (fun _ _ => rfl)) pa_nil)) (pe_slice (k_sl (K := K) rfl) (pv 9) (po_some pe_int) po_none))))))
    (pss_cons (ps_if (PW.pt (pw_or (pt_cmpR (k_ne (K := K) rfl (by exact hr.units)) (pe_cal c_expanded hr (by omega) (by rfl) passN (pa_cons (pv 3) (pa_cons (pv 6) pa_nil))) (pv 9) (nomark _)) (pw_or (pt_cmpR (k_ne (K := K) rfl (by exact hr.units)) (pe_cal c_expanded hr (by omega) (by rfl) passN (pa_cons (pv 5) (pa_cons (pe_callTy (k_tuple (K := K) rfl) (by rfl) m_tuple (by decide +kernel) (pa_cons (pv 6) pa_nil)) pa_nil))) (pv 9) (nomark _)) (pw_or1 (pt_cmpR (k_ne (K := K) rfl (by exact hr.units)) (pe_cal c_used_aliases hr (by omega) (by rfl) passN (pa_cons (pv 3) (pa_cons (pv 6) pa_nil))) (pe_callTy (k_tuple (K := K) rfl) (by rfl) m_tuple (by decide +kernel) (pa_cons (pv 10) pa_nil)) (nomark _)))))) (pss_one (ps_ret pe_bl)) pss_nil)
    (pss_one (ps_if (PW.pt (pw_and (pt_cmpR (k_eq (K := K) rfl (by exact hr.units)) (pe_callB (k_len (K := K) rfl) (by rfl) m_len (by decide +kernel) (pa_cons (pv 6) pa_nil)) pe_int (nomark _)) (pw_and (pt_cmpR (k_ne (K := K) rfl (by exact hr.units)) (pv 9) (pe_lst pa_nil) (nomark _)) (pw_and1 (pt_cmp (pc_din (Nat.lt_of_le_of_lt (Nat.add_le_add_left (by decide : 1 ≤ 64) _) hr.units) (pe_ix (k_ix (K := K) rfl) (pv 9) pe_int (fun _ _ => rfl)) (pv 3)) (by rfl)))))) (pss_one (ps_expr (k_bm (K := K) rfl PySem.F.plainAttrs_list PySem.F.slot_list_append PySem.F.type_list_append mt_append (pv 8) (pa_cons (pe_ix (k_ix (K := K) rfl) (pv 6) pe_int (fun _ _ => rfl)) pa_nil)))) pss_nil))))))
    (pss_cons (ps_set (i := 11) sc_law.nd rfl (.inl rfl) (pe_sortSetU (K := K) rfl rfl (by rfl) m_sorted (by rfl) m_set (pe_lc (own := [("name", 4)]) (g := gName 4) rfl sc_law.nd (k_list (K := K) rfl (pv 8)) (blkOk_by (own := [("name", 4)]) (N := ["script", "draw", "again", "aliases", "name", "given", "words", "rows", "back", "late", "used", "due", "bad", "wrong", "deed", "turn"]) (sc := defScope s_law) (by decide +kernel)) (fun _ _ _ _ _ => (pg_name (i := 4) sc_law.nd rfl (Or.inl rfl))) (fun _ _ _ _ _ => (pts_one (pt_cmp (pc_din (Nat.lt_of_le_of_lt (Nat.add_le_add_left (by decide : 1 ≤ 64) _) hr.units) (pv 4) (pv 3)) (by rfl)))) (fun _ _ _ _ _ => (pv 4)))))
    (pss_one (ps_if (PW.pt (pw_or (pt_cmpR (k_ne (K := K) rfl (by exact hr.units)) (pe_cal c_ringed hr (by omega) (by rfl) passN (pa_cons (pv 3) pa_nil)) (pe_callTy (k_tuple (K := K) rfl) (by rfl) m_tuple (by decide +kernel) (pa_cons (pv 11) pa_nil)) (nomark _)) (pw_or (pt_cmpR (k_ne (K := K) rfl (by exact hr.units)) (pe_cal c_ringed hr (by omega) (by rfl) passN (pa_cons pe_dnewK pa_nil)) (pe_tup pa_nil) (nomark _)) (pw_or1 (pt_cmpR (k_ne (K := K) rfl (by exact hr.units)) (pe_cal c_expanded hr (by omega) (by rfl) passN (pa_cons pe_dnewK (pa_cons (pe_lst (pa_cons pe_str pa_nil)) pa_nil))) (pe_lst (pa_cons pe_str pa_nil)) (nomark _)))))) (pss_one (ps_ret pe_bl)) pss_nil)))))))))
    (pss_cons (ps_set (i := 12) sc_law.nd rfl (.inl rfl) (pe_cal c__law_pick hr (by omega) (by rfl) pass0 (pa_cons (pv 1) (pa_cons (pe_lst (pa_cons (pe_disp (pps_cons pe_str (pe_lst pa_nil) pps_nil) rfl rfl (by simp) (by decide)) (pa_cons (pe_disp (pps_cons pe_str pe_str pps_nil) rfl rfl (by simp) (by decide)) (pa_cons (pe_disp (pps_cons pe_str (pe_lst (pa_cons pe_str (pa_cons pe_non pa_nil))) pps_nil) rfl rfl (by simp) (by decide)) (pa_cons (pe_disp (pps_cons pe_int (pe_lst pa_nil) pps_nil) rfl rfl (by simp) (by decide)) (pa_cons (pe_disp (pps_cons pe_str (pe_lst (pa_cons pe_str pa_nil)) pps_nil) rfl rfl (by simp) (by decide)) (pa_cons (pe_disp (pps_cons pe_str (pe_lst pa_nil) pps_nil) rfl rfl (by simp) (by decide)) pa_nil))))))) pa_nil))))
    (pss_cons (ps_set (i := 4) sc_law.nd rfl (.inl rfl) (pe_ix (k_ix (K := K) rfl) (pe_callTy (call_listD rfl) (by rfl) m_list (by decide +kernel) (pa_cons (pv 12) pa_nil)) pe_int (fun _ _ => rfl)))
    (pss_cons (ps_set (i := 13) sc_law.nd rfl (.inr rfl) (pe_callTy (call_dictP rfl) (by rfl) m_dict (by decide +kernel) (pa_cons (pe_op (k_add (K := K) rfl) (pe_op (k_add (K := K) rfl) (pe_lst (pa_cons (pe_tup (pa_cons pe_str (pa_cons (pe_lst (pa_cons pe_str pa_nil)) pa_nil))) pa_nil)) (LiI.pe_listItems rfl (pv 12) (by rfl) m_list rfl)) (pe_lst (pa_cons (pe_tup (pa_cons pe_str (pa_cons pe_non pa_nil))) pa_nil))) pa_nil)))
    (pss_cons (ps_for PassesOwn.never rfl (k_tup (K := K) rfl (pe_tup (pa_cons (pe_lamV (T := [(P', _)]) TB rfl List.mem_cons_self (fun r hr _ => by rw [List.mem_singleton.mp hr]) (LamX.lamS_by (sc := defScope s_law) (by decide +kernel)) rfl) (pa_cons (pe_lamV (T := [(P', _)]) TB rfl List.mem_cons_self (fun r hr _ => by rw [List.mem_singleton.mp hr]) (LamX.lamS_by (sc := defScope s_law) (by decide +kernel)) rfl) (pa_cons (pe_lamV (T := [(P', _)]) TB rfl List.mem_cons_self (fun r hr _ => by rw [List.mem_singleton.mp hr]) (LamX.lamS_by (sc := defScope s_law) (by decide +kernel)) rfl) pa_nil))))) (pg_name (i := 14) sc_law.nd rfl (.inl rfl)) (pss_one (ps_if (pt_cmpR (k_ne (K := K) rfl (by exact hr.units)) (pe_refV3 (l0 := lamAt 5 0) (l1 := lamAt 5 1) (l2 := lamAt 5 2) R (by rfl) hr (pv 14) (LamX.lamS_by (sc := defScope s_law) (by decide +kernel)) (fun _ _ _ _ _ => rfl) (fun _ _ _ _ _ _ _ hr2 => (pe_cal c_expanded hr2 (by omega) (by rfl) passLam (pa_cons (pv 13) (pa_cons (pe_lst (pa_cons pe_non pa_nil)) pa_nil)))) (LamX.lamS_by (sc := defScope s_law) (by decide +kernel)) (fun _ _ _ _ _ => rfl) (fun _ _ _ _ _ _ _ hr2 => (pe_cal c_used_aliases hr2 (by omega) (by rfl) passLam (pa_cons (pv 13) (pa_cons (pe_lst pa_nil) pa_nil)))) (LamX.lamS_by (sc := defScope s_law) (by decide +kernel)) (fun _ _ _ _ _ => rfl) (fun _ _ _ _ _ _ _ hr2 => (pe_cal c_ringed hr2 (by omega) (by rfl) passLam (pa_cons (pv 13) pa_nil)))) (pe_tup (pa_cons pe_str (pa_cons (pv 4) pa_nil))) (nomark _)) (pss_one (ps_ret pe_bl)) pss_nil)))
    (pss_cons (ps_for PassesOwn.never rfl (k_tup (K := K) rfl (pe_tup (pa_cons (pe_lamV (T := [(P', _)]) TB rfl List.mem_cons_self (fun r hr _ => by rw [List.mem_singleton.mp hr]) (LamX.lamS_by (sc := defScope s_law) (by decide +kernel)) rfl) (pa_cons (pe_lamV (T := [(P', _)]) TB rfl List.mem_cons_self (fun r hr _ => by rw [List.mem_singleton.mp hr]) (LamX.lamS_by (sc := defScope s_law) (by decide +kernel)) rfl) pa_nil)))) (pg_name (i := 14) sc_law.nd rfl (.inl rfl)) (pss_one (ps_if (pt_cmpR (k_ne (K := K) rfl (by exact hr.units)) (pe_refV2 (l0 := lamAt 6 0) (l1 := lamAt 6 1) R (by rfl) hr (pv 14) (LamX.lamS_by (sc := defScope s_law) (by decide +kernel)) (fun _ _ _ _ _ => rfl) (fun _ _ _ _ _ _ _ hr2 => (pe_cal c_expanded hr2 (by omega) (by rfl) passLam (pa_cons (pe_lst pa_nil) (pa_cons (pe_lst pa_nil) pa_nil)))) (LamX.lamS_by (sc := defScope s_law) (by decide +kernel)) (fun _ _ _ _ _ => rfl) (fun _ _ _ _ _ _ _ hr2 => (pe_cal c_ringed hr2 (by omega) (by rfl) passLam (pa_cons pe_non pa_nil)))) (pe_tup (pa_cons pe_str (pa_cons pe_non pa_nil))) (nomark _)) (pss_one (ps_ret pe_bl)) pss_nil)))
    (pss_cons (ps_if (pt_cmpR (k_ne (K := K) rfl (by exact hr.units)) (pe_ref R (by rfl) TB rfl hr (LamX.lamS_by (sc := defScope s_law) (by decide +kernel)) rfl (fun _ _ _ _ _ => rfl) (fun _ _ _ _ _ _ _ hr2 => (pe_cal c_expanded hr2 (by omega) (by rfl) passLam (pa_cons (pe_disp (pps_cons pe_str (pe_lst (pa_cons pe_str pa_nil)) pps_nil) rfl rfl (by simp) (by decide)) (pa_cons (pe_lst (pa_cons pe_str (pa_cons pe_int pa_nil))) pa_nil))))) (pe_tup (pa_cons pe_str (pa_cons pe_int pa_nil))) (nomark _)) (pss_one (ps_ret pe_bl)) pss_nil)
    (pss_one (ps_ret (pe_cmpR (k_eq (K := K) rfl (by exact hr.units)) (pe_ref R (by rfl) TB rfl hr (LamX.lamS_by (sc := defScope s_law) (by decide +kernel)) rfl (fun _ _ _ _ _ => rfl) (fun _ _ _ _ _ _ _ hr2 => (pe_cal c_used_aliases hr2 (by omega) (by rfl) passLam (pa_cons pe_dnewK (pa_cons pe_str pa_nil))))) (pe_tup (pa_cons pe_str (pa_cons pe_non pa_nil))) (nomark _)))))))))))), ?_⟩
    have h0 := Has.start H []
    show (_ : L2.St → Hp → Prop) [some (.ref s), none, none, none, none, none, none, none, none, none, none, none, none, none, none, none] H
    walk_at "go"
    rename_i d G1 nd h1
    obtain ⟨T, hTT⟩ : ∃ T, T = [(P', ((cxOf CX0 P w K mg base ["script", "draw", "again", "aliases", "name", "given", "words", "rows", "back", "late", "used", "due", "bad", "wrong", "deed", "turn"] "law" (defScope s_law) f (.ref c) A outer st H E).nox.env.qual ++ "<lambda>" : Str))] := ⟨_, rfl⟩
    have l0 : LSt K T s d ns 0 G1 := by
      refine ⟨fun p hp => ?_, ⟨h1.at (by simp), h1.sl hS (by simp), by decide, hlen⟩⟩
      rw [hTT, List.mem_singleton] at hp
      subst hp
      exact .nil (h1.keep _ _ hP (by simp))
    rw [← hTT]
    refine rng1k (by omega) ?_
    refine fork_rng (fun i σ' H' => ∃ (k : Int) (s2 s3 s4 s5 s6 s7 s8 s9 s10 s11 s12 s13 s14 s15 : Option V), σ' = [some (.ref s), some (.ref d), s2, s3, s4, s5, s6, s7, s8, s9, s10, s11, s12, s13, s14, s15] ∧ LSt K T s d ns k H' ∧ k ≤ 100 * (i : Int)) ⟨0, _, _, _, _, _, _, _, _, _, _, _, _, _, _, rfl, l0, by decide⟩ (fun i σ' H' hi hp => ?_) (fun σ' H' hp => ?_)
    · obtain ⟨k, s2, s3, s4, s5, s6, s7, s8, s9, s10, s11, s12, s13, s14, s15, rfl, hl, hk⟩ := hp
      have hb := hl.has
      have scr := hl.drw.scr
      have hk0 := hl.drw.2.2.1
      have hi' : i < 4 := hi
      walk_at "go"
      rename_i pn Gn nn hn
      refine lckF_list (xs := namesV) hn (fun j D acc M => ∃ (k2 : Int) (ats : List At), acc = (ats.reverse.map fun x => V.ref x.1) ∧ (ats.reverse.map fun x => x.2.1).Sublist (namesS.take j) ∧ (∀ x ∈ ats, x.2.2.2.length ≤ 3 ∧ ∀ y ∈ x.2.2.2, y ∈ alphaS) ∧ k ≤ k2 ∧ k2 ≤ k + 5 * (j : Int) ∧ M = objs .lst ats ++ (D, .lst acc) :: [(pn, .lst namesV), (d, .lst [.ref s, .int k2])])
        (fun D => ⟨k, [], rfl, List.nil_sublist _, by simp, by omega, by omega, rfl⟩) (fun j D acc M H2 _ hp h => by obtain ⟨k2, ats, _, _, _, _, _, rfl⟩ := hp; exact h.l (by simp)) (fun j x D acc M H2 hx hD hl2 hm hp hG => ?_) (fun D acc M H2 hD hl2 hm hp hG => ?_)
      · obtain ⟨k2, ats, rfl, hsub, hats, hk2, hk3, rfl⟩ := hp
        have hj : j < 5 := (List.getElem?_eq_some_iff.mp hx).1
        obtain ⟨z, hz, rfl⟩ : ∃ z, namesS[j]? = some z ∧ V.str z = x := by
          rw [show namesV = namesS.map V.str from rfl, List.getElem?_map] at hx
          cases e : namesS[j]? with
          | none => rw [e] at hx; cases hx
          | some z => rw [e] at hx; exact ⟨z, rfl, Option.some.inj hx⟩
        have hsub2 : (ats.reverse.map fun x => x.2.1).Sublist (namesS.take (j + 1)) := by
          rw [List.take_add_one]
          exact hsub.trans (List.sublist_append_left _ _)
        simp only [List.map, wipe, List.set]
        walk_at "go"
        refine lct rfl ?_
        walk_at "go"
        refine take_ (i := k2) scr hG (Put.app (objs .lst ats) (.there (.there .here))) (.inl (by simp)) ⟨by omega, by omega⟩ (by decide) fun n0 G3 g3 n0a n0b => ?_
        walk_at "go"
        refine ite_c (fun hc => ?_) (fun hc => ?_)
        · walk_at "go"
          refine words_ (i := k2 + 1) scr g3 (fun k' => Put.app (objs .lst ats) (.there (.there .here))) (.inl (by simp)) ⟨by omega, by omega⟩ fun ws p k' G4 w1 w2 w3 w4 np g4 => ?_
          walk_at "go"
          rename_i t5 G5 n5 g5
          have g6 : Has H' [d] G5 (objs .lst ((t5, z, p, ws) :: ats) ++ (D, .lst (ats.reverse.map fun x => V.ref x.1)) :: [(pn, .lst namesV), (d, .lst [.ref s, .int k'])]) := g5
          refine lcn g6 (freshD hn hD) (Put.app _ .here) hl2 (by omega) (.refl _) (by simp) ⟨k', (t5, z, p, ws) :: ats, by simp, ?_, fun x hx => ?_, by omega, by omega, rfl⟩
          · rw [List.reverse_cons, List.map_append, List.take_add_one, hz]
            exact hsub.append (.refl _)
          · rcases List.mem_cons.mp hx with rfl | hx
            · exact ⟨w1, w2⟩
            · exact hats x hx
        · walk_at "go"
          exact ⟨_, _, Nat.le_succ_of_le hl2, by simp, ⟨k2 + 1, ats, rfl, hsub2, hats, by omega, by omega, rfl⟩, g3⟩
      · obtain ⟨k2, ats, rfl, hsub, hats, hk2, hk3, rfl⟩ := hp
        walk_at "go"
        obtain ⟨al, hal⟩ : ∃ al, al = alOf ats := ⟨_, rfl⟩
        have hnd : (al.map (·.1)).Nodup := by
          rw [hal, List.map_map]
          exact hsub.nodup (by decide)
        have hnames : ∀ z ∈ al.map (·.1), z ∈ namesS := fun z hz => by
          rw [hal, List.map_map] at hz
          exact (List.take_subset _ _) (hsub.subset hz)
        refine ⟨D, ats.reverse.map (·.1), kvsOf al, rfl, by rw [List.map_map]; exact hG.l (by simp), by
          rw [hal]
          exact paired_of _ fun x hx => hG.t (List.mem_append_left _ (objs_mem (List.mem_reverse.mp hx)).1), fun pa npa => ?_⟩
        have npa' : H2 pa = none := npa
        rw [merge_al al [] hnd (fun _ _ _ h => absurd h List.not_mem_nil), List.nil_append]
        have hA := hG.new npa' (o := .dK (kvsOf al))
        obtain ⟨B, hB⟩ : ∃ B, B = upd H2 pa (.dK (kvsOf al)) := ⟨_, rfl⟩
        rw [← hB] at hA ⊢
        have alL : ∀ x ∈ al, B x.2.1 = some (.lst (vT x.2.2)) := fun x hx => by
          rw [hal] at hx
          obtain ⟨y, hy, rfl⟩ := List.mem_map.mp hx
          exact hA.at (List.mem_cons_of_mem _ (List.mem_append_left _ (objs_mem (List.mem_reverse.mp hy)).2))
        have alB : AL B pa al := ⟨hA.at List.mem_cons_self, fun x hx => .inl (alL x hx)⟩
        have alG : GoodAl al ∧ ∀ x ∈ al, x.2.2.length ≤ 3 ∧ ∀ y ∈ x.2.2, y ∈ alphaS := by
          have len : al.length ≤ 5 := by
            have := hsub.length_le
            rw [hal, List.length_map]
            rw [List.length_map] at this
            exact Nat.le_trans this (by simp)
          refine ⟨⟨by omega, fun x hx => ?_⟩, fun x hx => ?_⟩
          · rw [hal] at hx
            obtain ⟨y, hy, rfl⟩ := List.mem_map.mp hx
            have m := (List.take_subset _ _) (hsub.subset (List.mem_map_of_mem (f := fun x : At => x.2.1) hy))
            exact ⟨(names_good _ m).1, (names_good _ m).2, Nat.le_trans (hats y (List.mem_reverse.mp hy)).1 (by decide)⟩
          · rw [hal] at hx
            obtain ⟨y, hy, rfl⟩ := List.mem_map.mp hx
            exact hats y (List.mem_reverse.mp hy)
        have l1 := hl.next (k' := k2) hA (by simp) (by omega)
        clear hA hG hB npa npa' hn
        have hB0 := l1.has
        walk_at "go"
        refine ⟨pa, .dK (kvsOf al), alB.1, trivial, fun od => ?_⟩
        obtain ⟨C, hC⟩ : ∃ C, C = upd B pa (.frz od (.dK (kvsOf al))) := ⟨_, rfl⟩
        rw [← hC]
        have hc0 := Has.start C []
        have eC : C pa = some (.frz od (.dK (kvsOf al))) := by rw [hC, upd_same]
        have rC : ∀ x ∈ al, C x.2.1 = some (.lst (vT x.2.2)) := fun x hx => by
          rw [hC, upd_ne (fun z => by
            have := alL x hx
            rw [z, alB.1] at this
            cases this)]
          exact alL x hx
        walk_at "go"
        refine itemsk eC ?_
        refine lckF_items hc0 (fun H' M h => h.keep pa _ eC (by simp)) (fun j D acc M => ∃ gts : List At, acc = (gts.reverse.map fun x => V.ref x.1) ∧ (gts.reverse.map fun x => (x.2.1, x.2.2.2)) = (al.take j).map (fun x => (x.1, x.2.2)) ∧ (∀ x ∈ gts, C x.1 = none ∧ C x.2.2.1 = none) ∧ M = objs .tup gts ++ [(D, .lst acc)]) (fun D => ⟨[], rfl, rfl, by simp, rfl⟩) (fun j key v T' D2 acc M H3 hkv hD2 hl3 hm hp hG nT => ?_) (fun D2 acc M H3 hD2 hl3 hm hp hG => ?_)
        · obtain ⟨gts, rfl, hg, hfr, rfl⟩ := hp
          obtain ⟨y, hy, rfl, rfl⟩ : ∃ y, al[j]? = some y ∧ (Sum.inr y.1 : Key) = key ∧ V.ref y.2.1 = v := by
            unfold kvsOf at hkv
            rw [List.getElem?_map] at hkv
            cases e : al[j]? with
            | none => rw [e] at hkv; cases hkv
            | some y => rw [e] at hkv; cases hkv; exact ⟨y, rfl, rfl, rfl⟩
          have hjl : j < al.length := (List.getElem?_eq_some_iff.mp hy).1
          have hal5 : al.length ≤ 20 := alG.1.1
          obtain ⟨G0, hG0⟩ : ∃ G0, G0 = upd H3 T' (.tup [L2.kV (.inr y.1), .ref y.2.1]) := ⟨_, rfl⟩
          rw [← hG0]
          have hT : Has C [] G0 ((T', .tup [.str y.1, .ref y.2.1]) :: (objs .tup gts ++ [(D2, .lst (gts.reverse.map fun x => V.ref x.1))])) := by
            rw [hG0]
            exact hG.new nT
          simp only [List.map, wipe, List.set]
          walk_at "go"
          refine lct rfl ?_
          walk_at "go"
          refine ⟨y.2.1, vT y.2.2, rfl, .inl ⟨SqL.of (hT.keep _ _ (rC y (List.mem_of_getElem? hy)) (by simp)), fun q' nq => ?_⟩⟩
          have hq := hT.new nq (o := .tup (vT y.2.2))
          have fq : C q' = none := fresh0 hT nq (by simp)
          clear hT
          walk_at "go"
          rename_i t5 G5 n5 g5
          have f5 : C t5 = none := fresh0 hq n5 (by simp)
          have g6 : Has C [] G5 (objs .tup ((t5, y.1, q', y.2.2) :: gts) ++ [(D2, .lst (gts.reverse.map fun x => V.ref x.1))]) := g5.sub (.cons₂ _ (.cons₂ _ (.cons _ (.refl _))))
          refine lcn g6 (.inr hD2) (Put.app _ .here) hl3 (by omega) (.refl _) (by simp) ⟨(t5, y.1, q', y.2.2) :: gts, by simp, ?_, fun x hx => ?_, rfl⟩
          · rw [List.reverse_cons, List.map_append, List.take_add_one, hy, hg]
            simp
          · rcases List.mem_cons.mp hx with rfl | hx
            · exact ⟨f5, fq⟩
            · exact hfr x hx
        · obtain ⟨gts, rfl, hg, hfr, rfl⟩ := hp
          rw [show (kvsOf al).length = al.length from List.length_map .., List.take_length] at hg
          have ofC : ∀ {a : Addr}, C a = none → B a = none := fun {a} e => by
            rw [hC] at e
            by_cases z : a = pa
            · rw [z, upd_same] at e
              cases e
            · rwa [upd_ne z] at e
          refine ⟨hG.keep pa _ eC (by simp), ?_⟩
          have hR := relock hB0 alB.1 (by rw [← hC]; exact hG) fun x hx => ?_
          rotate_left
          · rcases List.mem_append.mp hx with hx | hx
            · obtain ⟨y, hy, hx⟩ := List.mem_flatMap.mp hx
              obtain ⟨f1, f2⟩ := hfr y hy
              rcases List.mem_cons.mp hx with rfl | hx
              · exact ofC f1
              · rw [List.mem_singleton.mp hx]
                exact ofC f2
            · rw [List.mem_singleton.mp hx]
              exact ofC hD2
          · obtain ⟨B2, hB2⟩ : ∃ B2, B2 = upd H3 pa (.dK (kvsOf al)) := ⟨_, rfl⟩
            rw [← hB2] at hR ⊢
            clear hG hc0
            walk_at "go"
            obtain ⟨al2, hal2⟩ : ∃ al2, al2 = alOf gts := ⟨_, rfl⟩
            have hmap : al2.map (fun x => (x.1, x.2.2)) = al.map (fun x => (x.1, x.2.2)) := by
              rw [hal2, List.map_map, ← hg]
              rfl
            have hnm : al2.map (·.1) = al.map (·.1) := by
              have := congrArg (List.map Prod.fst) hmap
              rw [List.map_map, List.map_map] at this
              exact this
            refine ⟨D2, gts.reverse.map (·.1), kvsOf al2, rfl, by rw [List.map_map]; exact hR.l (by simp), by
              rw [hal2]
              exact paired_of _ fun x hx => hR.t (List.mem_append_left _ (List.mem_append_left _ (objs_mem (List.mem_reverse.mp hx)).1)), fun pg npg => ?_⟩
            have npg' : B2 pg = none := npg
            rw [merge_al al2 [] (by rw [hnm]; exact hnd) (fun _ _ _ h => absurd h List.not_mem_nil), List.nil_append]
            have hA := hR.new npg' (o := .dK (kvsOf al2))
            obtain ⟨B3, hB3⟩ : ∃ B3, B3 = upd B2 pg (.dK (kvsOf al2)) := ⟨_, rfl⟩
            rw [← hB3] at hA ⊢
            have exd : ∀ al : Al, ∀ a ∈ [d], ∃ xs, B a = some (.lst xs) ∧ ∀ x ∈ al, xs ≠ vT x.2.2 := fun al a ha => by
              rw [List.mem_singleton.mp ha]
              exact ⟨_, l1.drw.1, fun x _ => vT_ne _⟩
            have ga : AL B3 pg al2 := ⟨hA.at List.mem_cons_self, fun x hx => by
              rw [hal2] at hx
              obtain ⟨y, hy, rfl⟩ := List.mem_map.mp hx
              exact .inr (hA.at (List.mem_cons_of_mem _ (List.mem_append_left _ (List.mem_append_left _ (objs_mem (List.mem_reverse.mp hy)).2))))⟩
            have aa : AL B3 pa al := alB.keepE hA (exd al)
            have l2 := l1.next (k' := k2) hA (by simp) (by omega)
            clear hA hR hB2 hB3 npg npg' hB0
            have hB0 := l2.has
            have scr3 := l2.drw.scr
            walk_at "go"
            have hk3' : k2 ≤ k + 25 := by
              have : k2 ≤ k + 5 * ((5 : Nat) : Int) := hk3
              omega
            refine rng1k (by omega) ?_
            refine lckF_rng hB0 (fun j D acc M => ∃ (k3 : Int) (ls : List (Addr × List Str)), acc = (ls.reverse.map fun x => V.ref x.1) ∧ ls.length = j ∧ (∀ x ∈ ls, x.2.length ≤ 3 ∧ ∀ y ∈ x.2, y ∈ alphaS) ∧ k2 ≤ k3 ∧ k3 ≤ k2 + 4 * (j : Int) ∧ M = objsL ls ++ (D, .lst acc) :: [(d, .lst [.ref s, .int k3])])
              (fun D => ⟨k2, [], rfl, rfl, by simp, by omega, by omega, rfl⟩) (fun j D4 acc M H4 hj hD4 hl4 hm hp hG => ?_) (fun D4 acc M H4 hD4 hl4 hm hp hG => ?_)
            · obtain ⟨k3, ls, rfl, hlj, hls, hk4, hk5, rfl⟩ := hp
              have hj4 : j < 4 := hj
              simp only [List.map, wipe, List.set]
              walk_at "go"
              refine lct rfl ?_
              walk_at "go"
              refine words_ (i := k3) scr3 hG (fun k' => Put.app (objsL ls) (.there .here)) (.inl (by simp)) ⟨by omega, by omega⟩ fun ws p k' G4 w1 w2 w3 w4 np g4 => ?_
              have g6 : Has B3 [d] G4 (objsL ((p, ws) :: ls) ++ (D4, .lst (ls.reverse.map fun x => V.ref x.1)) :: [(d, .lst [.ref s, .int k'])]) := g4
              refine lcn g6 (freshD hB0 hD4) (Put.app _ .here) hl4 (by omega) (.refl _) (by simp) ⟨k', (p, ws) :: ls, by simp, by simp [hlj], fun x hx => ?_, by omega, by omega, rfl⟩
              rcases List.mem_cons.mp hx with rfl | hx
              · exact ⟨w1, w2⟩
              · exact hls x hx
            · obtain ⟨k3, ls, rfl, hlj, hls, hk4, hk5, rfl⟩ := hp
              have hlj4 : ls.length = 4 := hlj
              have exd3 : ∀ al : Al, ∀ a ∈ [d], ∃ xs, B3 a = some (.lst xs) ∧ ∀ x ∈ al, xs ≠ vT x.2.2 := fun al a ha => by
                rw [List.mem_singleton.mp ha]
                exact ⟨_, l2.drw.1, fun x _ => vT_ne _⟩
              walk_at "go"
              have hal5 : al.length ≤ 20 := alG.1.1
              refine ⟨pa, kvsOf al, al.map (·.1), rfl, .inl (aa.keepE hG (exd3 al)).1, by unfold kvsOf; rw [List.map_map, List.map_map]; rfl, by rw [List.length_map]; omega, fun ys py hpy hsy npy => ?_⟩
              have hyl : ys.length ≤ 20 := by rw [hpy.length_eq, List.length_map]; exact hal5
              have npy' : H4 py = none := npy
              have hY := hG.new npy' (o := .lst (ys.map V.str))
              obtain ⟨B5, hB5⟩ : ∃ B5, B5 = upd H4 py (.lst (ys.map V.str)) := ⟨_, rfl⟩
              rw [← hB5] at hY ⊢
              clear hG hB5 npy npy'
              refine ilistk (xs := ys.map V.str) (hY.l List.mem_cons_self) ?_
              refine lckF_list (xs := ys.map V.str) hY (fun j D acc M => ∃ ls2 : List (Addr × List Str), acc = (ls2.reverse.map fun x => V.ref x.1) ∧ ls2.reverse.map (·.2) = (ys.take j).map (fun z => [z]) ∧ M = objsL ls2 ++ (D, .lst acc) :: (py, .lst (ys.map V.str)) :: (objsL ls ++ (D4, .lst (ls.reverse.map fun x => V.ref x.1)) :: [(d, .lst [.ref s, .int k3])]))
                (fun D => ⟨[], rfl, rfl, rfl⟩) (fun j D acc M H5 _ hp h => by obtain ⟨ls2, _, _, rfl⟩ := hp; exact h.l (by simp)) (fun j x D5 acc M H5 hx hD5 hl5 hm hp hG => ?_) (fun D5 acc M H5 hD5 hl5 hm hp hG => ?_)
              · obtain ⟨ls2, rfl, hl2, rfl⟩ := hp
                obtain ⟨z, hz, rfl⟩ : ∃ z, ys[j]? = some z ∧ V.str z = x := by simpa [List.getElem?_map] using hx
                have lt := (List.getElem?_eq_some_iff.mp hz).1
                simp only [List.map, wipe, List.set]
                walk_at "go"
                refine lct rfl ?_
                walk_at "go"
                rename_i p5 G5 n5 g5
                have g6 : Has B3 [d] G5 (objsL ((p5, [z]) :: ls2) ++ (D5, .lst (ls2.reverse.map fun x => V.ref x.1)) :: (py, .lst (ys.map V.str)) :: (objsL ls ++ (D4, .lst (ls.reverse.map fun x => V.ref x.1)) :: [(d, .lst [.ref s, .int k3])])) := g5
                refine lcn g6 (freshD hY hD5) (Put.app _ .here) hl5 (by omega) (.refl _) (by simp) ⟨(p5, [z]) :: ls2, by simp, ?_, rfl⟩
                rw [List.reverse_cons, List.map_append, List.take_add_one, hz, hl2]
                simp
              · obtain ⟨ls2, rfl, hl2, rfl⟩ := hp
                rw [List.length_map, List.take_length] at hl2
                walk_at "go"
                have hl2l : ls2.length ≤ 20 := by
                  have := congrArg List.length hl2
                  rw [List.length_map, List.length_map, List.length_reverse] at this
                  omega
                obtain ⟨R, hR⟩ : ∃ R, R = ls.reverse ++ ls2.reverse := ⟨_, rfl⟩
                refine addL (xs := ls.reverse.map fun x => V.ref x.1) (ys := ls2.reverse.map fun x => V.ref x.1) hG (by simp) (by simp) (by rw [List.length_map, List.length_map, List.length_reverse, List.length_reverse]; omega) fun pr B6 npr hR6 => ?_
                rw [← List.map_append, ← hR] at hR6
                have rl : RowsL B6 R := fun x hx => by
                  rw [hR] at hx
                  rcases List.mem_append.mp hx with hx | hx
                  · exact hR6.at (List.mem_cons_of_mem _ (List.mem_append_right _ (List.mem_cons_of_mem _ (List.mem_cons_of_mem _ (List.mem_append_left _ (List.mem_map_of_mem (f := fun x : Addr × List Str => (x.1, HO.lst (vT x.2))) (List.mem_reverse.mp hx)))))))
                  · exact hR6.at (List.mem_cons_of_mem _ (List.mem_append_left _ (List.mem_map_of_mem (f := fun x : Addr × List Str => (x.1, HO.lst (vT x.2))) (List.mem_reverse.mp hx))))
                have rw3 : ∀ x ∈ R, x.2.length ≤ 3 ∧ ∀ y ∈ x.2, y ∈ alphaS := fun x hx => by
                  rw [hR] at hx
                  rcases List.mem_append.mp hx with hx | hx
                  · exact hls x (List.mem_reverse.mp hx)
                  · have := List.mem_map_of_mem (f := fun x : Addr × List Str => x.2) hx
                    rw [hl2] at this
                    obtain ⟨z, hz, e⟩ := List.mem_map.mp this
                    rw [← e]
                    have hzn := hnames z (hpy.mem_iff.mp hz)
                    have sub : ∀ z ∈ namesS, z ∈ alphaS := by decide +kernel
                    exact ⟨by simp, fun y hy => by rw [List.mem_singleton.mp hy]; exact sub z hzn⟩
                have a6 : AL B6 pa al := aa.keepE hR6 (exd3 al)
                have g6 : AL B6 pg al2 := ga.keepE hR6 (exd3 al2)
                have l3 := l2.next (k' := k3) hR6 (by simp) (by omega)
                have er : B6 pr = some (.lst (R.map fun x => V.ref x.1)) := hR6.at (by simp)
                clear hR6 hG hY hB0
                have hB6 := l3.has
                walk_at "go"
                rename_i pb B7 nb hb7
                have exd6 : ∀ al : Al, ∀ a ∈ [d], ∃ xs, B6 a = some (.lst xs) ∧ ∀ x ∈ al, xs ≠ vT x.2.2 := fun al a ha => by
                  rw [List.mem_singleton.mp ha]
                  exact ⟨_, l3.drw.1, fun x _ => vT_ne _⟩
                have a7 : AL B7 pa al := a6.keepE hb7 (exd6 al)
                have g7 : AL B7 pg al2 := g6.keepE hb7 (exd6 al2)
                have l4 := l3.next (k' := k3) hb7 (by simp) (by omega)
                have nd_ : ∀ {a : Addr} {o : HO}, B6 a = some o → (∀ xs, o = .lst (V.ref s :: xs) → False) → a ≠ d := fun {a o} e n z => by
                  rw [z, l3.drw.1] at e
                  exact n _ (Option.some.inj e).symm
                have er7 : B7 pr = some (.lst (R.map fun x => V.ref x.1)) := hb7.keep _ _ er (by
                  intro m
                  rw [List.mem_singleton.mp m, l3.drw.1] at er
                  cases hRR : R with
                  | nil => rw [hRR] at er; cases er
                  | cons r0 R' =>
                    cases hRR2 : R' with
                    | nil => rw [hRR, hRR2] at er; cases er
                    | cons r1 R'' => rw [hRR, hRR2] at er; cases er)
                have rl7 : RowsL B7 R := fun x hx => hb7.keep _ _ (rl x hx) (by
                  intro m
                  have e := rl x hx
                  rw [List.mem_singleton.mp m, l3.drw.1] at e
                  exact vT_ne _ (HO.lst.inj (Option.some.inj e)))
                have hbb : Has B7 [pb] B7 [(pb, .lst [])] := (Has.start B7 [pb]).add (hb7.at (by simp)) (by simp)
                clear hb7 hB6
                refine ilistk (xs := R.map fun x => V.ref x.1) (SqL.of er7) ?_
                have npb : B6 pb = none := nb
                have ne_pb : ∀ {a : Addr} {o : HO}, B6 a = some o → a ≠ pb := fun {a o} e z => by
                  rw [z, npb] at e
                  cases e
                refine fork_list (xs := R.map fun x => V.ref x.1) (fun j σ' G => ∃ (bk : List Str) (u4 u6 u9 u10 u11 u12 u13 u14 u15 : Option V), σ' = [some (.ref s), some (.ref d), some (V.int (0 + ↑i)), some (.ref pa), u4, some (.ref pg), u6, some (.ref pr), some (.ref pb), u9, u10, u11, u12, u13, u14, u15] ∧ Has B7 [pb] G [(pb, .lst (vT bk))] ∧ bk = foundL al (R.take j) ∧ bk.length ≤ j) ⟨[], _, _, _, _, _, _, _, _, _, rfl, hbb, rfl, by simp⟩ (fun j σ' G _ hp => ?_) (fun j x σ' G hx hp => ?_) (fun σ' G hp => ?_)
                · obtain ⟨bk, _, _, _, _, _, _, _, _, _, _, h, _⟩ := hp
                  exact SqL.of (h.keep _ _ er7 (by simpa using ne_pb er))
                · obtain ⟨bk, u4, u6, u9, u10, u11, u12, u13, u14, u15, rfl, hG, hbk, hbl⟩ := hp
                  obtain ⟨r, hr, rfl⟩ : ∃ r, R[j]? = some r ∧ V.ref r.1 = x := by
                    rw [List.getElem?_map] at hx
                    cases e : R[j]? with
                    | none => rw [e] at hx; cases hx
                    | some r => rw [e] at hx; exact ⟨r, rfl, Option.some.inj hx⟩
                  have hrm : r ∈ R := List.mem_of_getElem? hr
                  obtain ⟨hr3, hra⟩ := rw3 r hrm
                  have hjR : j < R.length := (List.getElem?_eq_some_iff.mp hr).1
                  have hR24 : R.length ≤ 24 := by
                    rw [hR, List.length_append, List.length_reverse, List.length_reverse]
                    have := congrArg List.length hl2
                    rw [List.length_map, List.length_map, List.length_reverse] at this
                    omega
                  have exb : ∀ al : Al, (∀ x ∈ al, ∃ o, B6 x.2.1 = some o) → ∀ {G : Hp} {M : List (Addr × HO)}, AL B7 pa al → Has B7 [pb] G M → AL G pa al := fun al ho G M h hh => ⟨hh.keep _ _ h.1 (by simpa using ne_pb a6.1), fun x hx => (h.2 x hx).keep hh (by
                    obtain ⟨o, e⟩ := ho x hx
                    simpa using ne_pb e)⟩
                  have aG : ∀ {G : Hp} {M : List (Addr × HO)}, Has B7 [pb] G M → AL G pa al := fun hh => ⟨hh.keep _ _ a7.1 (by simpa using ne_pb a6.1), fun x hx => (a7.2 x hx).keep hh (by
                    rcases a6.2 x hx with e | e <;> simpa using ne_pb e)⟩
                  have gG : ∀ {G : Hp} {M : List (Addr × HO)}, Has B7 [pb] G M → AL G pg al2 := fun hh => ⟨hh.keep _ _ g7.1 (by simpa using ne_pb g6.1), fun x hx => (g7.2 x hx).keep hh (by
                    rcases g6.2 x hx with e | e <;> simpa using ne_pb e)⟩
                  have rG : ∀ {G : Hp} {M : List (Addr × HO)}, Has B7 [pb] G M → G r.1 = some (.lst (vT r.2)) := fun hh => hh.keep _ _ (rl7 r hrm) (by simpa using ne_pb (rl r hrm))
                  clear exb
                  have g2 : GoodAl al2 := by
                    have len : al2.length = al.length := by
                      have := congrArg List.length hmap
                      rwa [List.length_map, List.length_map] at this
                    refine ⟨by rw [len]; exact alG.1.1, fun x hx => ?_⟩
                    have := List.mem_map_of_mem (f := fun x : Str × Addr × List Str => (x.1, x.2.2)) hx
                    rw [hmap] at this
                    obtain ⟨y, hy, e⟩ := List.mem_map.mp this
                    obtain ⟨b1, b2, b3⟩ := alG.1.2 y hy
                    have e1 : y.1 = x.1 := congrArg (fun q : Str × List Str => q.1) e
                    have e2 : y.2.2 = x.2.2 := congrArg (fun q : Str × List Str => q.2) e
                    rw [← e1, ← e2]
                    exact ⟨b1, b2, b3⟩
                  walk_at "go"
                  refine ⟨r.1, vT r.2, rfl, .inl (SqL.of (rG hG)), fun pl npl => ?_⟩
                  have h1' := hG.new npl (o := .lst (vT r.2))
                  clear hG
                  walk_at "go"
                  rename_i pu G2 npu h2'
                  refine while_ (fun m σ' G => ∃ (late used : List Str) (pl : Addr), σ' = [some (.ref s), some (.ref d), some (V.int (0 + ↑i)), some (.ref pa), u4, some (.ref pg), some (.ref r.1), some (.ref pr), some (.ref pb), some (.ref pl), some (.ref pu), u11, u12, u13, u14, u15] ∧
                    Has B7 [pb] G [(pl, .lst (vT late)), (pu, .lst (vT used)), (pb, .lst (vT bk))] ∧ (∀ u' l', Fol al used late u' l' → Fol al [] r.2 u' l') ∧ used.Nodup ∧ (∀ z ∈ used, z ∈ al.map (·.1)) ∧ m + used.length = al.length ∧ late.length ≤ 3 + 3 * used.length ∧ (∀ z ∈ late, z ∈ alphaS)) al.length
                    ⟨r.2, [], pl, rfl, h2'.swap, fun _ _ f => f, List.nodup_nil, by simp, by simp, by omega, hra⟩ (fun m σ' G3 hw => ?_)
                  obtain ⟨late, used, pl, rfl, hG, hfol, hund, husub, hms, hll, hla⟩ := hw
                  have fpu : pu ∈ [pb] ∨ B7 pu = none := freshD h1' npu
                  have husA : ∀ z ∈ used, z ∈ alphaS := fun z hz => by
                    have sub : ∀ z ∈ namesS, z ∈ alphaS := by decide +kernel
                    exact sub z (hnames z (husub z hz))
                  have hul : used.length ≤ 20 := by
                    have := alG.1.1
                    omega
                  clear h2' h1'
                  refine and_test (B := B7) (ex := [pb]) (L := [(pl, .lst (vT late)), (pu, .lst (vT used)), (pb, .lst (vT bk))]) (b := goB al used late) (fun QT key => ?_) (fun G4 hG4 => ?_)
                  · walk_at "go"
                    rename_i pe G4 npe h4
                    refine neuD (Dp.lst (h4.l (xs := vT late) (by simp)) (dp_T late)) (Dp.lst (h4.l (xs := []) (by simp)) .nil) (shaped_L hla) rfl ?_
                    cases late with
                    | nil =>
                      rw [show PyData.eqv (.list (([] : List Str).map PyData.str)) (.list []) = true from eqv_nil]
                      walk_at "go"
                      exact key _ h4.tail
                    | cons z rest =>
                      rw [show PyData.eqv (.list ((z :: rest).map PyData.str)) (.list []) = false from eqv_cons z _]
                      have h5 : Has B7 [pb] G4 [(pl, .lst (V.str z :: vT rest)), (pu, .lst (vT used)), (pb, .lst (vT bk))] := h4.tail
                      clear h4
                      walk_at "go"
                      refine dinS (.inl (aG h5).1) ?_
                      rw [valV_al, Option.isSome_map]
                      cases hk : look al z with
                      | none =>
                        walk_at "go"
                        have := key _ h5
                        rw [show goB al used (z :: rest) = false by
                          show ((look al z).isSome && _) = false
                          rw [hk]
                          rfl] at this
                        exact this
                      | some qq =>
                        walk_at "go"
                        refine niUL (h5.l (xs := vT used) (by simp)) rfl (flat_T used) ?_
                        rw [inV_T]
                        walk_at "go"
                        have := key _ h5
                        rw [show goB al used (z :: rest) = !decide (z ∈ used) by
                          show ((look al z).isSome && _) = _
                          rw [hk]
                          rfl] at this
                        exact this
                  · refine whk (fun hgo => ?_) (fun hst => ?_)
                    · clear hG
                      cases late with
                      | nil => cases hgo
                      | cons z rest =>
                        replace hgo : ((look al z).isSome && !decide (z ∈ used)) = true := hgo
                        obtain ⟨g1, g2'⟩ := Bool.and_eq_true_iff.mp hgo
                        have hzu : z ∉ used := by simpa using g2'
                        obtain ⟨qq, hk⟩ := Option.isSome_iff_exists.mp g1
                        have qm := look_mem hk
                        have h5 : Has B7 [pb] G4 [(pl, .lst (V.str z :: vT rest)), (pu, .lst (vT used)), (pb, .lst (vT bk))] := hG4
                        clear hG4
                        walk_at "go"
                        refine app_ h5 (.there .here) fpu (by rw [List.length_map]; omega) fun G5 h6 => ?_
                        clear h5
                        walk_at "go"
                        refine dgetS (v := .ref qq.1) (.inl (aG h6).1) (by rw [valV_al, hk]; rfl) ?_
                        walk_at "go"
                        refine ⟨qq.1, vT qq.2, rfl, ((aG h6).2 _ qm).sq, fun pc npc => ?_⟩
                        have h7 := h6.new npc (o := .lst (vT qq.2))
                        clear h6
                        walk_at "go"
                        refine slL h7 (h7.l (xs := V.str z :: vT rest) (by simp)) fun pd G8 npd h8 => ?_
                        rw [show cutV (V.str z :: vT rest) (some 1) none = vT rest from cut_from (V.str z :: vT rest) (i := 1) (by simp)] at h8
                        refine addL (xs := vT qq.2) (ys := vT rest) h8 (by simp) (by simp) (by
                          rw [List.length_map, List.length_map]
                          have : qq.2.length ≤ 3 := (alG.2 _ qm).1
                          rw [List.length_cons] at hll
                          omega) fun pe G9 npe h9 => ?_
                        rw [show vT qq.2 ++ vT rest = vT (qq.2 ++ rest) from List.map_append.symm] at h9
                        walk_at "go"
                        have ul : used.length < al.length := by
                          have := nodup_len (l := used ++ [z]) (m := al.map (·.1)) (by
                            rw [List.nodup_append]
                            exact ⟨hund, by simp, fun a ha b hb e => hzu (by rw [List.mem_singleton.mp hb] at e; rw [← e]; exact ha)⟩) (fun y hy => by
                            rcases List.mem_append.mp hy with hy | hy
                            · exact husub y hy
                            · rw [List.mem_singleton.mp hy]
                              exact List.mem_map_of_mem (f := fun x : Str × Addr × List Str => x.1) qm)
                          rw [List.length_append, List.length_map, List.length_singleton] at this
                          omega
                        refine ⟨m - 1, by omega, qq.2 ++ rest, used ++ [z], pe, rfl, ?_, fun u' l' f => hfol u' l' (.step hk hzu f), ?_, fun y hy => ?_, ?_, ?_, fun y hy => ?_⟩
                        · rw [show vT (used ++ [z]) = vT used ++ [V.str z] from List.map_append]
                          exact h9.sub (.cons₂ _ (.cons _ (.cons _ (.cons _ (.refl _)))))
                        · rw [List.nodup_append]
                          exact ⟨hund, by simp, fun a ha b hb e => hzu (by rw [List.mem_singleton.mp hb] at e; rw [← e]; exact ha)⟩
                        · rcases List.mem_append.mp hy with hy | hy
                          · exact husub y hy
                          · rw [List.mem_singleton.mp hy]
                            exact List.mem_map_of_mem (f := fun x : Str × Addr × List Str => x.1) qm
                        · rw [List.length_append, List.length_singleton]
                          omega
                        · have : qq.2.length ≤ 3 := (alG.2 _ qm).1
                          rw [List.length_append, List.length_append, List.length_singleton]
                          rw [List.length_cons] at hll
                          omega
                        · rcases List.mem_append.mp hy with hy | hy
                          · exact (alG.2 _ qm).2 y hy
                          · exact hla y (List.mem_cons_of_mem _ hy)
                    · clear hG
                      have fol : Fol al [] r.2 used late := hfol used late (.stop (stop_go hst))
                      walk_at "go"
                      refine ⟨_, _, rfl, .inr ⟨pa, al, rfl, aG hG4, alG.1, .inr ⟨r.1, r.2, rfl, .inl (rG hG4), by omega, fun u2 l2 p5 G5 fol2 len2 np5 g5 => ?_⟩⟩⟩
                      obtain ⟨_, rfl⟩ := fol.det fol2
                      replace hG4 := hG4.same1 g5 np5
                      walk_at "go"
                      refine neuD (Dp.lst (hG4.l (xs := vT late) (by simp)) (dp_T late)) (Dp.lst (hG4.l (xs := vT late) (by simp)) (dp_T late)) (shaped_L hla) (shaped_L hla) ?_
                      rw [eqv_L hla]
                      walk_at "go"
                      refine ⟨r.1, vT r.2, rfl, .inl ⟨SqL.of (rG hG4), fun pt npt => ?_⟩⟩
                      have h5 := hG4.new npt (o := .tup (vT r.2))
                      clear hG4
                      walk_at "go"
                      refine ⟨_, _, rfl, .inr ⟨pg, al2, rfl, gG h5, g2, .inr ⟨pt, r.2, rfl, .inr (h5.at List.mem_cons_self), by omega, fun u3 l3 p6 G6 fol3 len3 np6 g6 => ?_⟩⟩⟩
                      obtain ⟨_, rfl⟩ := fol.det (fol_congr hmap fol3)
                      replace h5 := h5.same1 g6 np6
                      walk_at "go"
                      refine neuD (Dp.lst (h5.at List.mem_cons_self |> fun e => SqL.of e) (dp_T late)) (Dp.lst (h5.l (xs := vT late) (by simp)) (dp_T late)) (shaped_L hla) (shaped_L hla) ?_
                      rw [eqv_L hla]
                      walk_at "go"
                      refine ⟨_, _, rfl, .inr ⟨pa, al, rfl, aG h5, alG.1, .inr ⟨r.1, r.2, rfl, .inl (rG h5), by omega, fun u4 l4 p7 G7 fol4 len4 np7 g7 => ?_⟩⟩⟩
                      obtain ⟨rfl, _⟩ := fol.det fol4
                      replace h5 := h5.same1 g7 np7
                      walk_at "go"
                      refine ⟨pu, vT used, rfl, .inl ⟨h5.l (xs := vT used) (by simp), fun pt2 npt2 => ?_⟩⟩
                      have h6 := h5.new npt2 (o := .tup (vT used))
                      clear h5
                      walk_at "go"
                      refine neuD (Dp.tup (h6.t (xs := vT used) (by simp)) (dp_T used)) (Dp.tup (h6.t (xs := vT used) List.mem_cons_self) (dp_T used)) (shaped_T husA) (shaped_T husA) ?_
                      rw [eqv_T husA]
                      walk_at "go"
                      have e1 : foundL al (R.take (j + 1)) = foundL al (R.take j) ++ foundL al [r] := by
                        rw [List.take_add_one, hr]
                        exact List.flatMap_append
                      obtain ⟨wr, hwr⟩ : ∃ wr, wr = r.2 := ⟨_, rfl⟩
                      have eFr : foundL al [r] = fnd1 al wr := by
                        rw [hwr]
                        unfold foundL
                        rw [List.flatMap_singleton]
                      have h6b : ∀ {G : Hp} {M : List (Addr × HO)}, Has B7 [pb] G M → (pb, HO.lst (vT bk)) ∈ M → foundL al [r] = [] → ∃ (bk : List Str) (w4 w6 w9 w10 w11 w12 w13 w14 w15 : Option V), [some (.ref s), some (.ref d), some (V.int (0 + ↑i)), some (.ref pa), u4, some (.ref pg), some (.ref r.1), some (.ref pr), some (.ref pb), some (.ref pl), some (.ref pu), u11, u12, u13, u14, u15] = [some (.ref s), some (.ref d), some (V.int (0 + ↑i)), some (.ref pa), w4, some (.ref pg), w6, some (.ref pr), some (.ref pb), w9, w10, w11, w12, w13, w14, w15] ∧ Has B7 [pb] G [(pb, .lst (vT bk))] ∧ bk = foundL al (R.take (j + 1)) ∧ bk.length ≤ j + 1 := fun h m e =>
                        ⟨bk, _, _, _, _, _, _, _, _, _, rfl, (h.sub (List.nil_sublist _)).add (h.at m) (by simp), by rw [e1, e, List.append_nil]; exact hbk, by omega⟩
                      refine lenL (SqL.of (rG h6)) ?_
                      rw [List.length_map]
                      rw [← hwr] at fol ⊢
                      rcases wr with _ | ⟨z, _ | ⟨y, rest⟩⟩
                      · walk_at "go"
                        exact h6b h6 (by simp) eFr
                      · walk_at "go"
                        rename_i pe G8 npe h8
                        refine neuD (Dp.lst (h8.l (xs := vT late) (by simp)) (dp_T late)) (Dp.lst (h8.l (xs := []) (by simp)) .nil) (shaped_L hla) rfl ?_
                        obtain ⟨ld1, ld2⟩ := leads_of fol
                        cases late with
                        | nil =>
                          rw [show PyData.eqv (.list (([] : List Str).map PyData.str)) (.list []) = true from eqv_nil]
                          walk_at "go"
                          exact h6b h8 (by simp) (by rw [eFr]; exact if_neg (by rw [ld2 rfl]; exact Bool.false_ne_true))
                        | cons y rest =>
                          rw [show PyData.eqv (.list ((y :: rest).map PyData.str)) (.list []) = false from eqv_cons y _]
                          have h9 := h8
                          clear h8
                          have epl : SqL K G8 pl (V.str y :: vT rest) := h9.l (xs := vT (y :: rest)) (by simp)
                          walk_at "go"
                          refine dinS (.inl (aG h9).1) ?_
                          rw [valV_al, Option.isSome_map, ← ld1 y rest rfl]
                          cases hb : leadsB al z with
                          | false =>
                            walk_at "go"
                            exact h6b h9 (by simp) (by rw [eFr]; exact if_neg (by rw [hb]; exact Bool.false_ne_true))
                          | true =>
                            walk_at "go"
                            have er1 : SqL K G8 r.1 [V.str z] := SqL.of ((rG h9).trans (by rw [← hwr]; rfl))
                            refine ixL (v := .str z) er1 at0 ?_
                            walk_at "go"
                            refine app_ (L' := [(pe, .lst []), (pt2, .tup (vT used)), (p7, .tup (vT used)), (p6, .lst (vT (y :: rest))), (pt, .tup (vT r.2)), (p5, .lst (vT (y :: rest))), (pl, .lst (vT (y :: rest))), (pu, .lst (vT used)), (pb, .lst (vT bk ++ [V.str z]))]) h9 (.there (.there (.there (.there (.there (.there (.there (.there .here)))))))) (.inl (by simp)) (by rw [List.length_map]; omega) fun G9 h10 => ?_
                            refine ⟨bk ++ [z], _, _, _, _, _, _, _, _, _, rfl, ?_, by rw [e1, eFr, hbk]; show _ = _ ++ (if leadsB al z = true then [z] else []); rw [if_pos hb], by rw [List.length_append, List.length_singleton]; omega⟩
                            rw [show vT (bk ++ [z]) = vT bk ++ [V.str z] from List.map_append]
                            exact (h10.sub (List.nil_sublist _)).add (h10.at (by simp)) (by simp)
                      · walk_at "go"
                        exact h6b h6 (by simp) eFr
                · obtain ⟨bk, u4, u6, u9, u10, u11, u12, u13, u14, u15, rfl, hG, hbk, hbl⟩ := hp
                  rw [List.length_map, List.take_length] at hbk
                  rw [List.length_map] at hbl
                  have hR24 : R.length ≤ 24 := by
                    rw [hR, List.length_append, List.length_reverse, List.length_reverse]
                    have := congrArg List.length hl2
                    rw [List.length_map, List.length_map, List.length_reverse] at this
                    omega
                  have aG : ∀ {G : Hp} {M : List (Addr × HO)}, Has B7 [pb] G M → AL G pa al := fun hh => ⟨hh.keep _ _ a7.1 (by simpa using ne_pb a6.1), fun x hx => (a7.2 x hx).keep hh (by
                    rcases a6.2 x hx with e | e <;> simpa using ne_pb e)⟩
                  have inAl : ∀ z, (look al z).isSome = true ↔ z ∈ al.map (·.1) := fun z => by
                    constructor
                    · intro h
                      obtain ⟨q2, hq⟩ := Option.isSome_iff_exists.mp h
                      exact List.mem_map_of_mem (f := fun x : Str × Addr × List Str => x.1) (look_mem hq)
                    · intro h
                      obtain ⟨y, hy, e⟩ := List.mem_map.mp h
                      unfold look
                      rw [Option.isSome_map, List.find?_isSome]
                      exact ⟨y, hy, decide_eq_true e⟩
                  have inBk : ∀ z, z ∈ al.map (·.1) → (z ∈ bk ↔ leadsB al z = true) := fun z hz => by
                    rw [hbk]
                    unfold foundL
                    rw [List.mem_flatMap]
                    constructor
                    · rintro ⟨x, hx, h⟩
                      obtain ⟨wx, hwx⟩ : ∃ wx, wx = x.2 := ⟨_, rfl⟩
                      rw [← hwx] at h
                      rcases wx with _ | ⟨y, _ | ⟨y2, rest⟩⟩
                      · cases h
                      · replace h : z ∈ (if leadsB al y = true then [y] else []) := h
                        by_cases c : leadsB al y = true
                        · rw [if_pos c, List.mem_singleton] at h
                          rw [h]
                          exact c
                        · rw [if_neg c] at h
                          cases h
                      · cases h
                    · intro c
                      have hzy : z ∈ ys := hpy.mem_iff.mpr hz
                      have : [z] ∈ ls2.reverse.map (·.2) := by
                        rw [hl2]
                        exact List.mem_map_of_mem (f := fun z : Str => [z]) hzy
                      obtain ⟨x, hx, e⟩ := List.mem_map.mp this
                      refine ⟨x, by rw [hR]; exact List.mem_append_right _ hx, ?_⟩
                      rw [e]
                      show z ∈ (if leadsB al z = true then [z] else [])
                      rw [if_pos c]
                      exact List.mem_singleton.mpr rfl
                  walk_at "go"
                  refine lcs_list (xs := vT bk) hG (fun H' h => h.l List.mem_cons_self) (fun j acc => acc = vT ((bk.take j).filter (inB al))) rfl (fun j x D9 acc G3 hx hD9 hl9 hp hH => ?_) (fun D9 acc G3 hl9 hp hH => ?_)
                  · subst hp
                    obtain ⟨z, hz, rfl⟩ : ∃ z, bk[j]? = some z ∧ V.str z = x := by simpa [List.getElem?_map] using hx
                    have lt := (List.getElem?_eq_some_iff.mp hz).1
                    have e1 : (bk.take (j + 1)).filter (inB al) = (bk.take j).filter (inB al) ++ [z].filter (inB al) := by rw [List.take_add_one, hz, ← List.filter_append]; rfl
                    simp only [List.map, wipe, List.set]
                    walk_at "go"
                    refine lct rfl ?_
                    walk_at "go"
                    refine dinS (.inl (aG hH).1) ?_
                    rw [valV_al, Option.isSome_map]
                    walk_at "go"
                    rw [show (look al z).isSome = inB al z from rfl]
                    cases hb : inB al z with
                    | true =>
                      walk_at "go"
                      exact lcs hH (by walk_at "sub") hD9 hl9 (by omega) (by rw [e1, List.filter_cons_of_pos hb, List.filter_nil]; simp only [List.map_append, List.map_cons, List.map_nil])
                    | false =>
                      walk_at "go"
                      exact ⟨_, _, Nat.le_succ_of_le hl9, List.mem_cons_self, ⟨by show _ = vT _; rw [e1, List.filter_cons_of_neg (by rw [hb]; exact Bool.false_ne_true), List.filter_nil, List.append_nil], rfl⟩, hH⟩
                  · subst hp
                    rw [List.length_map, List.take_length] at hH
                    walk_at "go"
                    have hfl : (bk.filter (inB al)).length ≤ 24 := Nat.le_trans (List.length_filter_le _ _) (Nat.le_trans hbl hR24)
                    refine ⟨D9, bk.filter (inB al), rfl, .inl (hH.l List.mem_cons_self), by omega, fun ds p9 hdn hdm hds np9 => ?_⟩
                    have h1 := hH.new np9 (o := .lst (ds.map V.str))
                    have hdsl : ∀ z ∈ ds, z ∈ al.map (·.1) := fun z hz => by
                      have := (hdm z).mp hz
                      exact (inAl z).mp (List.mem_filter.mp this).2
                    have husA : ∀ z ∈ ds, z ∈ alphaS := fun z hz => by
                      have sub : ∀ z ∈ namesS, z ∈ alphaS := by decide +kernel
                      exact sub z (hnames z (hdsl z hz))
                    clear hH hG
                    walk_at "go"
                    refine ⟨_, rfl, .inr ⟨pa, al, rfl, aG h1, alG.1, fun ys2 p5 G5 hp5 hs5 np5 g5 => ?_⟩⟩
                    have hring : ringL al ys2 = ds := by
                      refine sorted_one ((sorted_le hs5).filter _) (sorted_le hds) ((hp5.nodup_iff.mpr hnd).filter _) hdn fun z => ?_
                      show z ∈ ys2.filter (leadsB al) ↔ _
                      rw [hdm z, List.mem_filter, List.mem_filter, hp5.mem_iff]
                      constructor
                      · rintro ⟨a, b⟩
                        exact ⟨(inBk z a).mpr b, (inAl z).mpr a⟩
                      · rintro ⟨a, b⟩
                        exact ⟨(inAl z).mp b, (inBk z ((inAl z).mp b)).mp a⟩
                    rw [hring] at g5
                    replace h1 := h1.same1 g5 np5
                    walk_at "go"
                    refine ⟨p9, vT ds, rfl, .inl ⟨h1.l (by simp), fun pt npt => ?_⟩⟩
                    have h2 := h1.new npt (o := .tup (vT ds))
                    clear h1
                    walk_at "go"
                    refine neuD (Dp.tup (h2.t (xs := vT ds) (by simp)) (dp_T ds)) (Dp.tup (h2.t (xs := vT ds) List.mem_cons_self) (dp_T ds)) (shaped_T husA) (shaped_T husA) ?_
                    rw [eqv_T husA]
                    walk_at "go"
                    rename_i pe0 Ge0 ne0 he0
                    refine ⟨_, rfl, .inr ⟨pe0, [], rfl, ⟨he0.at List.mem_cons_self, fun x hx => absurd hx List.not_mem_nil⟩, ⟨by decide, fun x hx => absurd hx List.not_mem_nil⟩, fun ys3 p6 G6 hp6 hs6 np6 g6 => ?_⟩⟩
                    have hy3 : ys3 = [] := List.Perm.eq_nil hp6
                    subst hy3
                    replace he0 := he0.same1 g6 np6
                    walk_at "go"
                    rename_i pe1 Ge1 ne1 he1
                    refine neuD (Dp.tup (he1.t (xs := vT []) (by simp [ringL])) (dp_T [])) (Dp.tup (he1.t (xs := []) List.mem_cons_self) .nil) rfl rfl ?_
                    rw [show PyData.eqv (.tuple (([] : List Str).map PyData.str)) (.tuple []) = true from SeqAt.eqv_refl_plain (.tuple []) rfl]
                    clear h2 he0
                    walk_at "go"
                    rename_i pe2 Ge2 ne2 he2 pe3 Ge3 ne3 he3
                    refine ⟨_, _, rfl, .inr ⟨pe2, [], rfl, ⟨he3.at (by simp [kvsOf]), fun x hx => absurd hx List.not_mem_nil⟩, ⟨by decide, fun x hx => absurd hx List.not_mem_nil⟩, .inr ⟨pe3, ["a"], rfl, .inl (he3.at List.mem_cons_self), (by decide : 1 ≤ 100), fun u5 l5 p8 G8 fol5 len5 np8 g8 => ?_⟩⟩⟩
                    obtain ⟨_, rfl⟩ := (Fol.stop (al := []) (used := []) (late := ["a"]) (.inr ⟨"a", [], rfl, .inl rfl⟩)).det fol5
                    replace he3 := he3.same1 g8 np8
                    walk_at "go"
                    rename_i pe4 Ge4 ne4 he4
                    have hA1 : ∀ u ∈ (["a"] : List Str), u ∈ alphaS := by decide +kernel
                    refine neuD (Dp.lst (he4.l (xs := vT ["a"]) (by simp)) (dp_T ["a"])) (Dp.lst (he4.l (xs := vT ["a"]) List.mem_cons_self) (dp_T ["a"])) (shaped_L hA1) (shaped_L hA1) ?_
                    rw [eqv_L hA1]
                    walk_at "go"
                    have l5 : LSt K T s d ns k3 Ge4 := by
                      refine ⟨he4.tabs l4.tabs (fun a m o e => ?_), he4.keep _ _ l4.drw.1 ?_, ?_, l4.drw.2.2.1, l4.drw.2.2.2⟩
                      · rw [List.mem_singleton.mp m, hbb.at List.mem_cons_self] at e
                        exact ⟨_, (Option.some.inj e).symm⟩
                      · simpa using ne_pb l3.drw.1
                      · rcases l3.drw.2.1 with e | e
                        · refine he4.sl l4.drw.2.1 ?_
                          rcases e with e | ⟨o, e⟩ <;> simpa using ne_pb e
                        · exact .inr e
                    exact ⟨k3, _, _, _, _, _, _, _, _, _, _, _, _, _, _, rfl, l5, by omega⟩
    · obtain ⟨k, s2, s3, s4, s5, s6, s7, s8, s9, s10, s11, s12, s13, s14, s15, rfl, hl, hk⟩ := hp
      have hk4 : k ≤ 400 := hk
      have hk0 := hl.drw.2.2.1
      have hb := hl.has
      have scr := hl.drw.scr
      walk_at "go"
      rename_i q1 _ _ _ r1 _ _ _ _ _ q2 _ _ _ _ _ q3 _ _ _ r3 _ _ _ _ _ q4 _ _ _ r4 _ _ _ _ _ q5 _ _ _ r5 _ _ _ _ _ q6 _ _ _ r6 _ _ _ _ _ pl Gl nl hL
      refine pick_ (i := k) scr hL (.there (.there (.there (.there (.there (.there (.there (.there (.there (.there (.there .here))))))))))) (.inl (by simp)) ⟨hk0, by omega⟩ (Nat.le_of_ble_eq_true rfl) fun bad Gc mb hc => ?_
      have l1 : LSt K T s d ns (k + 1) Gc := hl.next (k' := k + 1) hc (by simp) (by omega)
      obtain ⟨pb, key, y, rfl, eb, kz, ke, bi, sk⟩ : ∃ (pb : Addr) (key : Key) (y : V), bad = .ref pb ∧ Gc pb = some (.dK [(key, y)]) ∧ key ≠ .inr "z" ∧ key ≠ .inr "" ∧ BadI Gc key y ∧ SeqAt.shaped (.tuple [.str "alias", dK key]) = true := by
        simp only [List.mem_cons, List.not_mem_nil, or_false] at mb
        rcases mb with rfl | rfl | rfl | rfl | rfl | rfl
        · exact ⟨q1, .inr "A", .ref r1, rfl, hc.at (by simp), by decide, by decide, .inr ⟨"A", rfl, by decide, .inl (by decide +kernel)⟩, shaped_two (by decide +kernel) (by decide +kernel) (by decide +kernel)⟩
        · exact ⟨q2, .inr "a", .str "b", rfl, hc.at (by simp), by decide, by decide, .inr ⟨"a", rfl, by decide, .inr ⟨by decide +kernel, .inl ⟨_, rfl⟩⟩⟩, shaped_two (by decide +kernel) (by decide +kernel) (by decide +kernel)⟩
        · exact ⟨q3, .inr "a", .ref r3, rfl, hc.at (by simp), by decide, by decide, .inr ⟨"a", rfl, by decide, .inr ⟨by decide +kernel, .inr ⟨r3, "b", rfl, hc.at (by simp)⟩⟩⟩, shaped_two (by decide +kernel) (by decide +kernel) (by decide +kernel)⟩
        · exact ⟨q4, .inl 7, .ref r4, rfl, hc.at (by simp), by decide, by decide, .inl ⟨_, rfl⟩, shaped_two (by decide +kernel) (by decide +kernel) (by decide +kernel)⟩
        · exact ⟨q5, .inr "a-b", .ref r5, rfl, hc.at (by simp), by decide, by decide, .inr ⟨"a-b", rfl, by decide, .inl (by decide +kernel)⟩, shaped_two (by decide +kernel) (by decide +kernel) (by decide +kernel)⟩
        · exact ⟨q6, .inr "abcdefghi", .ref r6, rfl, hc.at (by simp), by decide, by decide, .inr ⟨"abcdefghi", rfl, by decide, .inl (by decide +kernel)⟩, shaped_two (by decide +kernel) (by decide +kernel) (by decide +kernel)⟩
      clear hc hL mb
      have tb1 := l1.tabs
      have hs1 := Has.start Gc []
      walk_at "go"
      refine ⟨pb, _, rfl, .inl eb, fun pn npn => ?_⟩
      obtain ⟨Hn, hHn⟩ : ∃ B, B = upd Gc pn (.lst (List.map (fun kv : Key × V => L2.kV kv.1) [(key, y)])) := ⟨_, rfl⟩
      rw [← hHn]
      have hs2 : Has Gc [] Hn [(pn, .lst [L2.kV key])] := by
        rw [hHn]
        exact hs1.new npn
      clear hHn npn
      walk_at "go"
      rename_i la Ga na ha pz Gz nz hz p1 Gp np hp1
      refine items1_ (key := key) (y := y) hp1 (hp1.keep _ _ eb (by simp)) fun p2 t2 Gi hi => ?_
      refine addL (xs := [V.ref pz]) (ys := [V.ref t2]) hi (by simp) (by simp) (by simp) fun p3 Gj nj hj => ?_
      walk_at "go"
      rename_i pe Ge ne he p7 Gf nf hf p4 Gg ng hg
      refine ⟨p4, [pz, t2, pe], [((.inr "z" : Key), .ref la), (key, y), ((.inr "" : Key), .non)], rfl, hg.l (by simp), .cons (hg.t (xs := [.str "z", .ref la]) (by simp)) (.cons (hg.t (xs := [L2.kV key, y]) (by simp)) (.cons (hg.t (xs := [.str "", .non]) (by simp)) .nil)), fun pw npw => ?_⟩
      have hw := hg.new npw (o := .dK (mergeK [] [((.inr "z" : Key), .ref la), (key, y), ((.inr "" : Key), .non)]))
      obtain ⟨G0, hG0⟩ : ∃ B, B = upd Gg pw (.dK (mergeK [] [((.inr "z" : Key), .ref la), (key, y), ((.inr "" : Key), .non)])) := ⟨_, rfl⟩
      rw [← hG0] at hw ⊢
      rw [merge3 kz ke] at hw
      have wr0 : Wr pw la key y G0 := ⟨hw.at (by simp), hw.at (by simp), bi.keep fun a xs e => hw.keep _ _ e (by simp)⟩
      have tb0 : LamX.Tabs T G0 := hw.tabs tb1 (by simp)
      clear hw hG0 hg hf he hj hi hp1 hz ha hs2 hs1 hb
      walk_at "go"
      refine ⟨tb0, fun f1 k1 G1 e1 tb1 _ a1 b1 => ?_⟩
      walk_at "go"
      refine ⟨tb1, fun f2 k2 G2 e2 tb2 _ a2 b2 => ?_⟩
      walk_at "go"
      refine ⟨tb2, fun f3' k3 G3 e3 tb3 _ a3 b3 => ?_⟩
      have hs3 := Has.start G3 []
      have wr3 := ((wr0.ext e1).ext e2).ext e3
      replace a1 := e3 _ _ (e2 _ _ a1 funO_ne) funO_ne
      replace a2 := e3 _ _ a2 funO_ne
      replace b1 := e3 _ _ (e2 _ _ b1 LamX.codeO_ne) LamX.codeO_ne
      replace b2 := e3 _ _ b2 LamX.codeO_ne
      clear e1 e2 e3 wr0 tb0 tb1 tb2
      walk_at "go"
      rename_i pt G4 nt h4
      have ht4 : SqT K G4 pt [.ref f1, .ref f2, .ref f3'] := h4.t (by simp)
      have wr4 := wr3.keep h4
      replace a1 := h4.keep _ _ a1 (by simp)
      replace a2 := h4.keep _ _ a2 (by simp)
      replace a3 := h4.keep _ _ a3 (by simp)
      replace b1 := h4.keep _ _ b1 (by simp)
      replace b2 := h4.keep _ _ b2 (by simp)
      replace b3 := h4.keep _ _ b3 (by simp)
      have tb4 : LamX.Tabs T G4 := h4.tabs tb3 (by simp)
      have hs4 := Has.start G4 []
      clear h4 hs3 wr3 tb3
      refine fork_tup (xs := [.ref f1, .ref f2, .ref f3']) (fun i σ' H' => ∃ u14, σ' = [some (.ref s), some (.ref d), s2, s3, some (L2.kV key), s5, s6, s7, s8, s9, s10, s11, some (.ref pb), some (.ref pw), u14, s15] ∧ Has G4 [] H' []) ⟨_, rfl, hs4⟩ (fun i σ' H' _ hq => ?_) (fun i x σ' H' hx hq => ?_) (fun σ' H' hq => ?_)
      · obtain ⟨u, rfl, h⟩ := hq
        exact h.st ht4 (by simp)
      · obtain ⟨u, rfl, h⟩ := hq
        clear hs4
        rcases i with _ | _ | _ | i
        · obtain rfl : V.ref f1 = x := Option.some.inj hx
          walk_at "go"
          refine ⟨0, f1, k1, rfl, h.keep _ _ a1 (by simp), h.keep _ _ b1 (by simp), ref_ (h.keep _ _ a1 (by simp)) ?_⟩
          show tCall (spExp BA BW) [] _ (tCons (tVar 13) (tCons (tLst (tCons (tC V.non) tNil)) tNil)) _ _ _
          walk_at "go"
          rename_i pl Gl nl hl2
          refine ⟨_, _, rfl, .inl ((wr4.keep hl2).bad fun G p g => ?_)⟩
          have hl3 := hl2.thn' g
          clear hl2 h
          walk_at "go"
          rename_i q1 Gq nq hq
          refine neu_two (hq.t (xs := [.str "alias", L2.kV key]) (by simp)) (hq.t (xs := [.str "alias", L2.kV key]) (by simp)) (dp_key key) sk ?_
          walk_at "go"
          exact ⟨_, rfl, hq.sub (List.nil_sublist _)⟩
        · obtain rfl : V.ref f2 = x := Option.some.inj hx
          walk_at "go"
          refine ⟨1, f2, k2, rfl, h.keep _ _ a2 (by simp), h.keep _ _ b2 (by simp), ref_ (h.keep _ _ a2 (by simp)) ?_⟩
          show tCall (spUsed BA BW) [] _ (tCons (tVar 13) (tCons (tLst tNil) tNil)) _ _ _
          walk_at "go"
          rename_i pl Gl nl hl2
          refine ⟨_, _, rfl, .inl ((wr4.keep hl2).bad fun G p g => ?_)⟩
          have hl3 := hl2.thn' g
          clear hl2 h
          walk_at "go"
          rename_i q1 Gq nq hq
          refine neu_two (hq.t (xs := [.str "alias", L2.kV key]) (by simp)) (hq.t (xs := [.str "alias", L2.kV key]) (by simp)) (dp_key key) sk ?_
          walk_at "go"
          exact ⟨_, rfl, hq.sub (List.nil_sublist _)⟩
        · obtain rfl : V.ref f3' = x := Option.some.inj hx
          walk_at "go"
          refine ⟨2, f3', k3, rfl, h.keep _ _ a3 (by simp), h.keep _ _ b3 (by simp), ref_ (h.keep _ _ a3 (by simp)) ?_⟩
          show tCall (spRinged BA) [] _ (tCons (tVar 13) tNil) _ _ _
          walk_at "go"
          refine ⟨_, rfl, .inl ((wr4.keep h).bad fun G p g => ?_)⟩
          have hl3 := h.thn' g
          clear h
          walk_at "go"
          rename_i q1 Gq nq hq
          refine neu_two (hq.t (xs := [.str "alias", L2.kV key]) (by simp)) (hq.t (xs := [.str "alias", L2.kV key]) (by simp)) (dp_key key) sk ?_
          walk_at "go"
          exact ⟨_, rfl, hq.sub (List.nil_sublist _)⟩
        · cases hx
      · obtain ⟨u, rfl, h⟩ := hq
        clear hs4 a1 a2 a3 b1 b2 b3
        have tb5 : LamX.Tabs T H' := h.tabs tb4 (by simp)
        clear h
        walk_at "go"
        refine ⟨tb5, fun f1 k1 G1 e1 tb1 _ a1 b1 => ?_⟩
        walk_at "go"
        refine ⟨tb1, fun f2 k2 G2 e2 tb2 _ a2 b2 => ?_⟩
        have hs2 := Has.start G2 []
        replace a1 := e2 _ _ a1 funO_ne
        replace b1 := e2 _ _ b1 LamX.codeO_ne
        clear e1 e2 tb1 tb5
        walk_at "go"
        rename_i pt G4 nt h4
        have ht4 : SqT K G4 pt [.ref f1, .ref f2] := h4.t (by simp)
        replace a1 := h4.keep _ _ a1 (by simp)
        replace a2 := h4.keep _ _ a2 (by simp)
        replace b1 := h4.keep _ _ b1 (by simp)
        replace b2 := h4.keep _ _ b2 (by simp)
        have tb4 : LamX.Tabs T G4 := h4.tabs tb2 (by simp)
        have hs4 := Has.start G4 []
        clear h4 hs2 tb2
        have sh0 : SeqAt.shaped (.tuple [.str "alias", .none]) = true := shaped_two (by decide +kernel) rfl rfl
        refine fork_tup (xs := [.ref f1, .ref f2]) (fun i σ' H' => ∃ u14, σ' = [some (.ref s), some (.ref d), s2, s3, some (L2.kV key), s5, s6, s7, s8, s9, s10, s11, some (.ref pb), some (.ref pw), u14, s15] ∧ Has G4 [] H' []) ⟨_, rfl, hs4⟩ (fun i σ' H' _ hq => ?_) (fun i x σ' H' hx hq => ?_) (fun σ' H' hq => ?_)
        · obtain ⟨u, rfl, h⟩ := hq
          exact h.st ht4 (by simp)
        · obtain ⟨u, rfl, h⟩ := hq
          clear hs4
          rcases i with _ | _ | i
          · obtain rfl : V.ref f1 = x := Option.some.inj hx
            walk_at "go"
            refine ⟨0, f1, k1, rfl, h.keep _ _ a1 (by simp), h.keep _ _ b1 (by simp), ref_ (h.keep _ _ a1 (by simp)) ?_⟩
            show tCall (spExp BA BW) [] _ (tCons (tLst tNil) (tCons (tLst tNil) tNil)) _ _ _
            walk_at "go"
            rename_i p1 Gl nl hl1 p2 Gm nm hl2
            refine ⟨_, _, rfl, .inl (.inr ⟨.inr ⟨_, [], rfl, hl2.at (by simp)⟩, refA fun G p g => ?_⟩)⟩
            have hl3 := hl2.thn' g
            clear hl2 hl1 h
            walk_at "go"
            rename_i q1 Gq nq hq
            refine neu_two (hq.t (xs := [.str "alias", .non]) (by simp)) (hq.t (xs := [.str "alias", .non]) (by simp)) .non sh0 ?_
            walk_at "go"
            exact ⟨_, rfl, hq.sub (List.nil_sublist _)⟩
          · obtain rfl : V.ref f2 = x := Option.some.inj hx
            walk_at "go"
            refine ⟨1, f2, k2, rfl, h.keep _ _ a2 (by simp), h.keep _ _ b2 (by simp), ref_ (h.keep _ _ a2 (by simp)) ?_⟩
            show tCall (spRinged BA) [] _ (tCons (tC V.non) tNil) _ _ _
            walk_at "go"
            refine ⟨_, rfl, .inl (.inr ⟨.inl rfl, refA fun G p g => ?_⟩)⟩
            have hl3 := h.thn' g
            clear h
            walk_at "go"
            rename_i q1 Gq nq hq
            refine neu_two (hq.t (xs := [.str "alias", .non]) (by simp)) (hq.t (xs := [.str "alias", .non]) (by simp)) .non sh0 ?_
            walk_at "go"
            exact ⟨_, rfl, hq.sub (List.nil_sublist _)⟩
          · cases hx
        · obtain ⟨u, rfl, h⟩ := hq
          have tb6 : LamX.Tabs T H' := h.tabs tb4 (by simp)
          clear h hs4
          walk_at "go"
          refine lam_ tb6 fun Gd ed td => ref0_ ?_
          have hd := Has.start Gd []
          show tCall (spExp BA BW) [] _ (tCons (tDisp [(tC (V.str "a"), tLst (tCons (tC (V.str "b")) tNil))]) (tCons (tLst (tCons (tC (V.str "a")) (tCons (tC (V.int 3)) tNil))) tNil)) _ Gd _
          walk_at "go"
          rename_i p1 _ _ _ p2 _ _ _ _ _ p3 Ge ne he
          refine ⟨_, _, rfl, .inr ⟨p1, [("a", p2, ["b"])], rfl, ⟨he.at (by simp [kvsOf]), fun x hx => ?_⟩, ⟨Nat.le_of_ble_eq_true rfl, fun x hx => ?_⟩, .inl (.inl ⟨p3, "a", 3, rfl, he.at (by simp), refW fun G p g => ?_⟩)⟩⟩
          · rw [List.mem_singleton.mp hx]
            exact .inl (he.at (by simp))
          · rw [List.mem_singleton.mp hx]
            exact ⟨(by decide +kernel : nameB "a" = true), Nat.le_of_ble_eq_true rfl, Nat.le_of_ble_eq_true rfl⟩
          · have he2 := he.thn' g
            clear he hd ed tb6
            walk_at "go"
            rename_i q1 Gq nq hq
            refine neu_two (hq.t (xs := [.str "words", .int 1]) (by simp)) (hq.t (xs := [.str "words", .int 1]) (by simp)) (.int 1) (shaped_two (by decide +kernel) rfl rfl) ?_
            have td3 := hq.tabs td (by simp)
            walk_at "go"
            refine lam_ td3 fun Gf ef tf => ref0_ ?_
            have hf := Has.start Gf []
            show tCall (spUsed BA BW) [] _ (tCons tDNewK (tCons (tC (V.str "a")) tNil)) _ Gf _
            walk_at "go"
            rename_i p4 Gg ng hg
            refine ⟨_, _, rfl, .inr ⟨p4, [], rfl, ⟨hg.at (by simp [kvsOf]), fun x hx => absurd hx List.not_mem_nil⟩, ⟨by decide, fun x hx => absurd hx List.not_mem_nil⟩, .inl (.inr ⟨"a", rfl, refW fun G p g => ?_⟩)⟩⟩
            have hg2 := hg.thn' g
            clear hg hf
            walk_at "go"
            rename_i q2 Gr nr hr2
            refine equ_two (hr2.t (xs := [.str "words", .non]) (by simp)) (hr2.t (xs := [.str "words", .non]) (by simp)) .non (shaped_two (by decide +kernel) rfl rfl) ?_
            exact q _


end
section
theorem all_mk {l : PySem.W.OpenLaw} {w : World} {K : PySem.W.Frag} {h : Heap} {mg : Str → Option Value} {fa f1 f2 f3 f4 f5 f6 f7 f8 f9 f10 f11 f12 f13 f14 f15 : Addr} {SE BL BW c P' fL fW : Addr} {odL anL odW anW : Option Addr} {slL slW : Array (Option Value)} {ocL kVL dcL pmL cdL ctL ocW kVW dcW pmW cdW ctW : Value} {tkB tkC : Tok} {nmL qL nmW qW : Str} {NL NW : Addr} {bsL bmL sbL bsW bmW sbW : List Value} {snL snW : List Str} {abL abW : Bool} {clL clW : Option Bool} {ddL ddW : Option Addr} {k0L k1L k2L k3L k5L k0W k1W k2W k3W k5W : Option Value} (X : K.In h) (G : h.Ns mainGlobals mg) (hfa : mg "law" = some (.ref fa))
    {od1 an1 od2 an2 od3 an3 od4 an4 od5 an5 od6 an6 od7 an7 od8 an8 od9 an9 od10 an10 od11 an11 od12 an12 od13 an13 od14 an14 od15 an15 : Option Addr} {sl1 sl2 sl3 sl4 sl5 sl6 sl7 sl8 sl9 sl10 sl11 sl12 sl13 sl14 sl15 : Array (Option Value)} {oc1 kV1 dc1 pm1 cd1 ct1 oc2 kV2 dc2 pm2 cd2 ct2 oc3 kV3 dc3 pm3 cd3 ct3 oc4 kV4 dc4 pm4 cd4 ct4 oc5 kV5 dc5 pm5 cd5 ct5 oc6 kV6 dc6 pm6 ct6 oc7 kV7 dc7 pm7 cd7 ct7 oc8 kV8 dc8 pm8 cd8 ct8 oc9 kV9 dc9 pm9 cd9 ct9 oc10 kV10 dc10 pm10 cd10 ct10 oc11 kV11 dc11 pm11 cd11 ct11 oc12 kV12 dc12 pm12 cd12 ct12 oc13 kV13 dc13 pm13 cd13 ct13 oc14 kV14 dc14 pm14 cd14 ct14 oc15 kV15 dc15 pm15 cd15 ct15 : Value}
    (a1 : PySem.W.nsIn K mainGlobals "_law_number" = some (some (.ref f1))) (l1 : K.lookup f1 = some ⟨oc1, od1, .func (PySem.W.fnOf "_law_number" "_law_number" (defArgs s__law_number) (defBody s__law_number) (defScope s__law_number) .none kV1 dc1 pm1 an1 cd1 ct1), sl1⟩) (c1 : PySem.W.codeIn K cd1 "_law_number" = true) (k1 : PySem.W.keepIn K (.ref f1) = true)
    (a2 : PySem.W.nsIn K mainGlobals "_law_take" = some (some (.ref f2))) (l2 : K.lookup f2 = some ⟨oc2, od2, .func (PySem.W.fnOf "_law_take" "_law_take" (defArgs s__law_take) (defBody s__law_take) (defScope s__law_take) .none kV2 dc2 pm2 an2 cd2 ct2), sl2⟩) (c2 : PySem.W.codeIn K cd2 "_law_take" = true) (k2 : PySem.W.keepIn K (.ref f2) = true)
    (a3 : PySem.W.nsIn K mainGlobals "_law_pick" = some (some (.ref f3))) (l3 : K.lookup f3 = some ⟨oc3, od3, .func (PySem.W.fnOf "_law_pick" "_law_pick" (defArgs s__law_pick) (defBody s__law_pick) (defScope s__law_pick) .none kV3 dc3 pm3 an3 cd3 ct3), sl3⟩) (c3 : PySem.W.codeIn K cd3 "_law_pick" = true) (k3 : PySem.W.keepIn K (.ref f3) = true)
    (a4 : PySem.W.nsIn K mainGlobals "_law_refused" = some (some (.ref f4))) (l4 : K.lookup f4 = some ⟨oc4, od4, .func (PySem.W.fnOf "_law_refused" "_law_refused" (defArgs s__law_refused) (defBody s__law_refused) (defScope s__law_refused) .none kV4 dc4 pm4 an4 cd4 ct4), sl4⟩) (c4 : PySem.W.codeIn K cd4 "_law_refused" = true) (k4 : PySem.W.keepIn K (.ref f4) = true)
    (a5 : PySem.W.nsIn K mainGlobals "_law_words" = some (some (.ref f5))) (l5 : K.lookup f5 = some ⟨oc5, od5, .func (PySem.W.fnOf "_law_words" "_law_words" (defArgs s__law_words) (defBody s__law_words) (defScope s__law_words) .none kV5 dc5 pm5 an5 cd5 ct5), sl5⟩) (c5 : PySem.W.codeIn K cd5 "_law_words" = true) (k5 : PySem.W.keepIn K (.ref f5) = true)
    (a6 : PySem.W.nsIn K mainGlobals "law" = some (some (.ref f6))) (l6 : K.lookup f6 = some ⟨oc6, od6, .func (PySem.W.fnOf "law" "law" (defArgs s_law) (defBody s_law) (defScope s_law) .none kV6 dc6 pm6 an6 (.ref c) ct6), sl6⟩) (c6 : PySem.W.codeIn K (.ref c) "law" = true) (k6 : PySem.W.keepIn K (.ref f6) = true)
    (a7 : PySem.W.nsIn K mainGlobals "is_row" = some (some (.ref f7))) (l7 : K.lookup f7 = some ⟨oc7, od7, .func (PySem.W.fnOf "is_row" "is_row" (defArgs s_is_row) (defBody s_is_row) (defScope s_is_row) .none kV7 dc7 pm7 an7 cd7 ct7), sl7⟩) (c7 : PySem.W.codeIn K cd7 "is_row" = true) (k7 : PySem.W.keepIn K (.ref f7) = true)
    (a8 : PySem.W.nsIn K mainGlobals "is_name" = some (some (.ref f8))) (l8 : K.lookup f8 = some ⟨oc8, od8, .func (PySem.W.fnOf "is_name" "is_name" (defArgs s_is_name) (defBody s_is_name) (defScope s_is_name) .none kV8 dc8 pm8 an8 cd8 ct8), sl8⟩) (c8 : PySem.W.codeIn K cd8 "is_name" = true) (k8 : PySem.W.keepIn K (.ref f8) = true)
    (a9 : PySem.W.nsIn K mainGlobals "checked_words" = some (some (.ref f9))) (l9 : K.lookup f9 = some ⟨oc9, od9, .func (PySem.W.fnOf "checked_words" "checked_words" (defArgs s_checked_words) (defBody s_checked_words) (defScope s_checked_words) .none kV9 dc9 pm9 an9 cd9 ct9), sl9⟩) (c9 : PySem.W.codeIn K cd9 "checked_words" = true) (k9 : PySem.W.keepIn K (.ref f9) = true)
    (a10 : PySem.W.nsIn K mainGlobals "_check" = some (some (.ref f10))) (l10 : K.lookup f10 = some ⟨oc10, od10, .func (PySem.W.fnOf "_check" "_check" (defArgs s__check) (defBody s__check) (defScope s__check) .none kV10 dc10 pm10 an10 cd10 ct10), sl10⟩) (c10 : PySem.W.codeIn K cd10 "_check" = true) (k10 : PySem.W.keepIn K (.ref f10) = true)
    (a11 : PySem.W.nsIn K mainGlobals "_followed" = some (some (.ref f11))) (l11 : K.lookup f11 = some ⟨oc11, od11, .func (PySem.W.fnOf "_followed" "_followed" (defArgs s__followed) (defBody s__followed) (defScope s__followed) .none kV11 dc11 pm11 an11 cd11 ct11), sl11⟩) (c11 : PySem.W.codeIn K cd11 "_followed" = true) (k11 : PySem.W.keepIn K (.ref f11) = true)
    (a12 : PySem.W.nsIn K mainGlobals "expanded" = some (some (.ref f12))) (l12 : K.lookup f12 = some ⟨oc12, od12, .func (PySem.W.fnOf "expanded" "expanded" (defArgs s_expanded) (defBody s_expanded) (defScope s_expanded) .none kV12 dc12 pm12 an12 cd12 ct12), sl12⟩) (c12 : PySem.W.codeIn K cd12 "expanded" = true) (k12 : PySem.W.keepIn K (.ref f12) = true)
    (a13 : PySem.W.nsIn K mainGlobals "used_aliases" = some (some (.ref f13))) (l13 : K.lookup f13 = some ⟨oc13, od13, .func (PySem.W.fnOf "used_aliases" "used_aliases" (defArgs s_used_aliases) (defBody s_used_aliases) (defScope s_used_aliases) .none kV13 dc13 pm13 an13 cd13 ct13), sl13⟩) (c13 : PySem.W.codeIn K cd13 "used_aliases" = true) (k13 : PySem.W.keepIn K (.ref f13) = true)
    (a14 : PySem.W.nsIn K mainGlobals "_leads_to_an_alias" = some (some (.ref f14))) (l14 : K.lookup f14 = some ⟨oc14, od14, .func (PySem.W.fnOf "_leads_to_an_alias" "_leads_to_an_alias" (defArgs s__leads_to_an_alias) (defBody s__leads_to_an_alias) (defScope s__leads_to_an_alias) .none kV14 dc14 pm14 an14 cd14 ct14), sl14⟩) (c14 : PySem.W.codeIn K cd14 "_leads_to_an_alias" = true) (k14 : PySem.W.keepIn K (.ref f14) = true)
    (a15 : PySem.W.nsIn K mainGlobals "ringed" = some (some (.ref f15))) (l15 : K.lookup f15 = some ⟨oc15, od15, .func (PySem.W.fnOf "ringed" "ringed" (defArgs s_ringed) (defBody s_ringed) (defScope s_ringed) .none kV15 dc15 pm15 an15 cd15 ct15), sl15⟩) (c15 : PySem.W.codeIn K cd15 "ringed" = true) (k15 : PySem.W.keepIn K (.ref f15) = true)
    (z1 : PySem.W.nsIn K mainGlobals "isinstance" = some none)
    (z2 : PySem.W.nsIn K mainGlobals "range" = some none)
    (z3 : PySem.W.nsIn K mainGlobals "len" = some none)
    (z4 : PySem.W.nsIn K mainGlobals "int" = some none)
    (z5 : PySem.W.nsIn K mainGlobals "all" = some none)
    (z6 : PySem.W.nsIn K mainGlobals "tuple" = some none)
    (z7 : PySem.W.nsIn K mainGlobals "str" = some none)
    (z8 : PySem.W.nsIn K mainGlobals "list" = some none)
    (z9 : PySem.W.nsIn K mainGlobals "dict" = some none)
    (z10 : PySem.W.nsIn K mainGlobals "enumerate" = some none)
    (z11 : PySem.W.nsIn K mainGlobals "reversed" = some none)
    (z12 : PySem.W.nsIn K mainGlobals "sorted" = some none)
    (z13 : PySem.W.nsIn K mainGlobals "set" = some none)
    (y1 : PySem.W.nsIn K mainGlobals "SwitchError" = some (some (.ref SE)))
    (y2 : PySem.W.nsIn K mainGlobals "BadAlias" = some (some (.ref BL)))
    (y3 : PySem.W.nsIn K mainGlobals "BadWords" = some (some (.ref BW)))
    (x11 : PySem.W.exmOne K (.ref BL) (.ref BL) = some true)
    (x21 : PySem.W.exmOne K (.ref BW) (.ref BL) = some false)
    (x22 : PySem.W.exmOne K (.ref BW) (.ref BW) = some true)
    (i1 : PySem.W.findIn K (.ref BL) "name" = some none)
    (i2 : PySem.W.findIn K (.ref BW) "number" = some none)
    (isx : PySem.W.kitOne K (.ref BL) (.ref SE) = some true)
    (tl : xfB K BL = true)
    (tw : xfB K BW = true)
    (e1 : PySem.W.findIn K (.ref BL) "__getattribute__" = some (some (.builtin "BaseException.__getattribute__")))
    (e2 : PySem.W.findIn K (.ref BL) "__getattr__" = some none)
    (e3 : PySem.W.subIn K (.ref BL) (.type "BaseException") = some true)
    (e4 : PySem.W.hasDictIn K BL = true)
    (e5 : PySem.W.findIn K (.ref BL) "__class__" = some (some (.builtin "object.__class__")))
    (e6 : PySem.W.specialIn K (.builtin "object.__class__") "__get__" = some (some (.builtin "getset_descriptor.__get__")))
    (e7 : PySem.W.takesIn K (.builtin "object.__class__") = some true)
    (e8 : PySem.W.mroIn K BL (.type "object") = some true)
    (ch : PySem.W.codeHdIn K c P' = true)
    (lp : K.lookup P' = none)
    (oL : K.lookup BL = some (excClassObj nmL qL BL NL bsL bmL true snL sbL abL clL ddL k0L k1L k2L k3L k5L "ValueError.__new__"))
    (rL : PySem.HandSPX.refsVE bmL = true)
    (sL : PySem.W.findIn K (.ref BL) "__setattr__" = some (some (.builtin "object.__setattr__")))
    (vL : PySem.W.subIn K (.ref BL) (.type "BaseException") = some true)
    (tyL : PySem.W.typeIn K (.ref BL) = some (.type "type"))
    (kkL : PySem.W.keepIn K (.ref BL) = true)
    (nL : PySem.W.findIn K (.ref BL) "__init__" = some (some (.ref fL)))
    (uL : PySem.W.typeIn K (.ref fL) = some (.type "function"))
    (lL : K.lookup fL = some ⟨ocL, odL, .func (PySem.W.fnOf "__init__" "BadAlias.__init__" (defArgs s_BadAlias___init__) (defBody s_BadAlias___init__) (defScope s_BadAlias___init__) .none kVL dcL pmL anL cdL ctL), slL⟩)
    (cL : PySem.W.codeIn K cdL "BadAlias.__init__" = true)
    (pL : PySem.W.keepIn K (.ref fL) = true)
    (oW : K.lookup BW = some (excClassObj nmW qW BW NW bsW bmW true snW sbW abW clW ddW k0W k1W k2W k3W k5W "ValueError.__new__"))
    (rW : PySem.HandSPX.refsVE bmW = true)
    (sW : PySem.W.findIn K (.ref BW) "__setattr__" = some (some (.builtin "object.__setattr__")))
    (vW : PySem.W.subIn K (.ref BW) (.type "BaseException") = some true)
    (tyW : PySem.W.typeIn K (.ref BW) = some (.type "type"))
    (kkW : PySem.W.keepIn K (.ref BW) = true)
    (nW : PySem.W.findIn K (.ref BW) "__init__" = some (some (.ref fW)))
    (uW : PySem.W.typeIn K (.ref fW) = some (.type "function"))
    (lW : K.lookup fW = some ⟨ocW, odW, .func (PySem.W.fnOf "__init__" "BadWords.__init__" (defArgs s_BadWords___init__) (defBody s_BadWords___init__) (defScope s_BadWords___init__) .none kVW dcW pmW anW cdW ctW), slW⟩)
    (cW : PySem.W.codeIn K cdW "BadWords.__init__" = true)
    (pW : PySem.W.keepIn K (.ref fW) = true)
    (yb : PySem.W.nsIn K mainGlobals "LETTERS" = some (some (.str lettersS tkB)))
    (yc : PySem.W.nsIn K mainGlobals "FIGURES" = some (some (.str figuresS tkC)))
    (htab : h.get? P' = some { cls := .none, data := .fields #[] })
    : LamX.LawAtS l w K CX0 9 63 "script" mg fa h := by
  have e := hfa.symm.trans (PySem.W.mg_of X G a6)
  cases e
  have F_law_number := fun_mk (st := s__law_number) l1 c1 k1
  have b_law_number := F_law_number.binds (ps := ["script", "index"]) fun _ _ _ _ _ _ us hl => match us, hl with | [_, _], _ => rfl
  have g_law_number := PySem.W.mg_of X G a1
  have F_law_take := fun_mk (st := s__law_take) l2 c2 k2
  have b_law_take := F_law_take.binds (ps := ["draw", "many"]) fun _ _ _ _ _ _ us hl => match us, hl with | [_, _], _ => rfl
  have g_law_take := PySem.W.mg_of X G a2
  have F_law_pick := fun_mk (st := s__law_pick) l3 c3 k3
  have b_law_pick := F_law_pick.binds (ps := ["draw", "items"]) fun _ _ _ _ _ _ us hl => match us, hl with | [_, _], _ => rfl
  have g_law_pick := PySem.W.mg_of X G a3
  have F_law_refused := fun_mk (st := s__law_refused) l4 c4 k4
  have b_law_refused := F_law_refused.binds (ps := ["deed"]) fun _ _ _ _ _ _ us hl => match us, hl with | [_], _ => rfl
  have g_law_refused := PySem.W.mg_of X G a4
  have F_law_words := fun_mk (st := s__law_words) l5 c5 k5
  have b_law_words := F_law_words.binds (ps := ["draw"]) fun _ _ _ _ _ _ us hl => match us, hl with | [_], _ => rfl
  have g_law_words := PySem.W.mg_of X G a5
  have Flaw := fun_mk (st := s_law) l6 c6 k6
  have blaw := Flaw.binds (ps := ["script"]) fun _ _ _ _ _ _ us hl => match us, hl with | [_], _ => rfl
  have glaw := PySem.W.mg_of X G a6
  have Fis_row := fun_mk (st := s_is_row) l7 c7 k7
  have bis_row := Fis_row.binds (ps := ["value"]) fun _ _ _ _ _ _ us hl => match us, hl with | [_], _ => rfl
  have gis_row := PySem.W.mg_of X G a7
  have Fis_name := fun_mk (st := s_is_name) l8 c8 k8
  have bis_name := Fis_name.binds (ps := ["value"]) fun _ _ _ _ _ _ us hl => match us, hl with | [_], _ => rfl
  have gis_name := PySem.W.mg_of X G a8
  have Fchecked_words := fun_mk (st := s_checked_words) l9 c9 k9
  have bchecked_words := Fchecked_words.binds (ps := ["words"]) fun _ _ _ _ _ _ us hl => match us, hl with | [_], _ => rfl
  have gchecked_words := PySem.W.mg_of X G a9
  have F_check := fun_mk (st := s__check) l10 c10 k10
  have b_check := F_check.binds (ps := ["aliases"]) fun _ _ _ _ _ _ us hl => match us, hl with | [_], _ => rfl
  have g_check := PySem.W.mg_of X G a10
  have F_followed := fun_mk (st := s__followed) l11 c11 k11
  have b_followed := F_followed.binds (ps := ["aliases", "words"]) fun _ _ _ _ _ _ us hl => match us, hl with | [_, _], _ => rfl
  have g_followed := PySem.W.mg_of X G a11
  have Fexpanded := fun_mk (st := s_expanded) l12 c12 k12
  have bexpanded := Fexpanded.binds (ps := ["aliases", "words"]) fun _ _ _ _ _ _ us hl => match us, hl with | [_, _], _ => rfl
  have gexpanded := PySem.W.mg_of X G a12
  have Fused_aliases := fun_mk (st := s_used_aliases) l13 c13 k13
  have bused_aliases := Fused_aliases.binds (ps := ["aliases", "words"]) fun _ _ _ _ _ _ us hl => match us, hl with | [_, _], _ => rfl
  have gused_aliases := PySem.W.mg_of X G a13
  have F_leads_to_an_alias := fun_mk (st := s__leads_to_an_alias) l14 c14 k14
  have b_leads_to_an_alias := F_leads_to_an_alias.binds (ps := ["aliases", "name"]) fun _ _ _ _ _ _ us hl => match us, hl with | [_, _], _ => rfl
  have g_leads_to_an_alias := PySem.W.mg_of X G a14
  have Fringed := fun_mk (st := s_ringed) l15 c15 k15
  have bringed := Fringed.binds (ps := ["aliases"]) fun _ _ _ _ _ _ us hl => match us, hl with | [_], _ => rfl
  have gringed := PySem.W.mg_of X G a15
  have m_isinstance := PySem.W.mg_none_of X G z1
  have m_range := PySem.W.mg_none_of X G z2
  have m_len := PySem.W.mg_none_of X G z3
  have m_int := PySem.W.mg_none_of X G z4
  have m_all := PySem.W.mg_none_of X G z5
  have m_tuple := PySem.W.mg_none_of X G z6
  have m_str := PySem.W.mg_none_of X G z7
  have m_list := PySem.W.mg_none_of X G z8
  have m_dict := PySem.W.mg_none_of X G z9
  have m_enumerate := PySem.W.mg_none_of X G z10
  have m_reversed := PySem.W.mg_none_of X G z11
  have m_sorted := PySem.W.mg_none_of X G z12
  have m_set := PySem.W.mg_none_of X G z13
  have gSE := PySem.W.mg_of X G y1
  have gBL := PySem.W.mg_of X G y2
  have gBW := PySem.W.mg_of X G y3
  have eC : ExcC K BL := ⟨e1, e2, e3, e4, e5, e6, e7, e8⟩
  have tL := xfB_ok tl
  have tW := xfB_ok tw
  have hcode := PySem.W.codeHd_of_K X ch
  refine ⟨PySem.W.fnOf "law" "law" (defArgs s_law) (defBody s_law) (defScope s_law) .none kV6 dc6 pm6 an6 (.ref c) ct6, [(c, P')], spLaw K P', fun p hp => ?_, fun p hp => ?_, fun p hp => ?_, fun s v => .of_eq rfl, fun H a ns hl _ hT hS => ?_, fun base _ _ hTB => ?_⟩
  · rw [List.mem_singleton.mp hp]; exact htab
  · rw [List.mem_singleton.mp hp]; exact lp
  · rw [List.mem_singleton.mp hp]; exact hcode
  · exact ⟨a, ns, rfl, hS, hl, hT (c, P') List.mem_cons_self, fun _ => rfl⟩
  have TB := hTB (c, P') List.mem_cons_self
  have c_num : Cal l.prog w K mg base CX0 1 "_law_number" ["script", "index"] (spNumber K) := ⟨⟨_, _, ok_number F_law_number m_len m_int m_range, g_law_number, F_law_number.kp, b_law_number⟩⟩
  have c_take : Cal l.prog w K mg base CX0 2 "_law_take" ["draw", "many"] (spTake K) := ⟨⟨_, _, ok_take F_law_take c_num m_int, g_law_take, F_law_take.kp, b_law_take⟩⟩
  have c_pick : Cal l.prog w K mg base CX0 3 "_law_pick" ["draw", "items"] (spPick K) := ⟨⟨_, _, ok_pick F_law_pick c_take m_len, g_law_pick, F_law_pick.kp, b_law_pick⟩⟩
  have c_words : Cal l.prog w K mg base CX0 4 "_law_words" ["draw"] (spWords K) := ⟨⟨_, _, ok_words F_law_words c_take c_pick m_range, g_law_words, F_law_words.kp, b_law_words⟩⟩
  have R : RefOk K mg BL BW := ⟨fun {X g cdg q} hK hm => by
      subst hm
      exact refused_gives hK m_isinstance gSE gBL gBW x11 x21 x22 eC tL tW i1 i2 isx, ⟨_, _, _, _, _, _, _, _, _, _, g_law_refused, k4, l4, c4⟩⟩
  have T_L : OexC K BL := ⟨⟨nmL, qL, NL, bsL, bmL, snL, sbL, abL, clL, ddL, k0L, k1L, k2L, k3L, k5L, oL, rL⟩, sL, vL, tyL, kkL⟩
  have T_W : OexC K BW := ⟨⟨nmW, qW, NW, bsW, bmW, snW, sbW, abW, clW, ddW, k0W, k1W, k2W, k3W, k5W, oW, rW⟩, sW, vW, tyW, kkW⟩
  have F_L := fun_mk (st := s_BadAlias___init__) lL cL pL
  have F_W := fun_mk (st := s_BadWords___init__) lW cW pW
  have b_L := F_L.binds (ps := ["self", "name"]) fun _ _ _ _ _ _ us hl => match us, hl with | [_, _], _ => rfl
  have b_W := F_W.binds (ps := ["self", "number"]) fun _ _ _ _ _ _ us hl => match us, hl with | [_, _], _ => rfl
  have z_BadAlias : RzOk l.prog w K mg base "BadAlias" BL "name" := ⟨T_L, gBL, fL, _, nL, uL, ok_err_alias F_L T_L i1, b_L⟩
  have z_BadWords : RzOk l.prog w K mg base "BadWords" BW "number" := ⟨T_W, gBW, fW, _, nW, uW, ok_err_words F_W T_W i2, b_W⟩
  have gLE := PySem.W.mg_of X G yb
  have gFI := PySem.W.mg_of X G yc
  have c_row : Cal l.prog w K mg base CX0 1 "is_row" ["value"] (spRow K) := ⟨⟨_, _, ok_is_row Fis_row m_isinstance m_list m_tuple, gis_row, Fis_row.kp, bis_row⟩⟩
  have c_name : Cal l.prog w K mg base CX0 1 "is_name" ["value"] (spName K) := ⟨⟨_, _, ok_is_name Fis_name m_isinstance m_str m_len m_all gLE gFI, gis_name, Fis_name.kp, bis_name⟩⟩
  have c_checked : Cal l.prog w K mg base (L2.CX l.prog w) 3 "checked_words" ["words"] (spChecked BW K) := ⟨⟨_, _, ok_checked (k := 0) Fchecked_words c_row z_BadWords m_isinstance m_str m_tuple m_enumerate, gchecked_words, Fchecked_words.kp, bchecked_words⟩⟩
  have c_check : Cal l.prog w K mg base (L2.CX l.prog w) 3 "_check" ["aliases"] (spCheck BL) := ⟨⟨_, _, ok_check (k := 0) F_check c_row c_name z_BadAlias m_isinstance m_str m_dict m_all, g_check, F_check.kp, b_check⟩⟩
  have c_followed : Cal l.prog w K mg base CX0 1 "_followed" ["aliases", "words"] (spFol K) := ⟨⟨_, _, ok_followed F_followed m_len m_list, g_followed, F_followed.kp, b_followed⟩⟩
  have c_expanded : Cal l.prog w K mg base (L2.CX l.prog w) 4 "expanded" ["aliases", "words"] (spExp BL BW) := ⟨⟨_, _, ok_expanded Fexpanded c_check c_checked c_followed m_reversed, gexpanded, Fexpanded.kp, bexpanded⟩⟩
  have c_used : Cal l.prog w K mg base (L2.CX l.prog w) 4 "used_aliases" ["aliases", "words"] (spUsed BL BW) := ⟨⟨_, _, ok_used Fused_aliases c_check c_checked c_followed m_tuple, gused_aliases, Fused_aliases.kp, bused_aliases⟩⟩
  have c_leads : Cal l.prog w K mg base CX0 2 "_leads_to_an_alias" ["aliases", "name"] (spLeads K) := ⟨⟨_, _, ok_leads F_leads_to_an_alias c_followed m_len, g_leads_to_an_alias, F_leads_to_an_alias.kp, b_leads_to_an_alias⟩⟩
  have c_ringed : Cal l.prog w K mg base (L2.CX l.prog w) 4 "ringed" ["aliases"] (spRinged BL) := ⟨⟨_, _, ok_ringed Fringed c_check c_leads m_tuple m_sorted, gringed, Fringed.kp, bringed⟩⟩
  exact ok_law l6 c6 c_take c_pick c_words c_expanded c_used c_ringed R TB m_range m_len m_tuple m_list m_dict m_sorted m_set
end
end K24
open PySem PySem.W PyProof.Rows
set_option maxHeartbeats 0 in
theorem PySem.Challenge.cw_switchyard_k24_whole_aliases_holds : PySem.Challenge.rw_switchyard_k24_whole_aliases.Holds := by
  w_on; o_law; k_head; (case hw => w_witness2)
  k_fill
  refine LamX.walk_ofTs (l := PySem.Challenge.rw_switchyard_k24_whole_aliases) (n := 63) (k := 9) (x := "script") (CX := fun _ => L2.CX0) rfl (by decide) rfl ⟨rfl, by decide, by decide⟩ (fun w h Y => PySem.W.km_in_of Y) ?F (fun _ _ _ _ _ h => h)
  case F =>
    intro w mg fa h Y KX G hmg
    refine' K24.all_mk KX G hmg ?a1 ?l1 ?c1 ?k1 ?a2 ?l2 ?c2 ?k2 ?a3 ?l3 ?c3 ?k3 ?a4 ?l4 ?c4 ?k4 ?a5 ?l5 ?c5 ?k5 ?a6 ?l6 ?c6 ?k6 ?a7 ?l7 ?c7 ?k7 ?a8 ?l8 ?c8 ?k8 ?a9 ?l9 ?c9 ?k9 ?a10 ?l10 ?c10 ?k10 ?a11 ?l11 ?c11 ?k11 ?a12 ?l12 ?c12 ?k12 ?a13 ?l13 ?c13 ?k13 ?a14 ?l14 ?c14 ?k14 ?a15 ?l15 ?c15 ?k15 ?z1 ?z2 ?z3 ?z4 ?z5 ?z6 ?z7 ?z8 ?z9 ?z10 ?z11 ?z12 ?z13 ?y1 ?y2 ?y3 ?x11 ?x21 ?x22 ?i1 ?i2 ?isx ?tl ?tw ?e1 ?e2 ?e3 ?e4 ?e5 ?e6 ?e7 ?e8 ?ch ?lp ?oL ?rL ?sL ?vL ?tyL ?kkL ?nL ?uL ?lL ?cL ?pL ?oW ?rW ?sW ?vW ?tyW ?kkW ?nW ?uW ?lW ?cW ?pW ?yb ?yc ?htab
    case htab => exact PySem.W.km_tabs_of Y _ List.mem_cons_self
    (case a1 => k_is); (case l1 => k_is); (case c1 => k_is); (case k1 => k_is); (case a2 => k_is); (case l2 => k_is); (case c2 => k_is); (case k2 => k_is); (case a3 => k_is); (case l3 => k_is); (case c3 => k_is); (case k3 => k_is); (case a4 => k_is); (case l4 => k_is); (case c4 => k_is); (case k4 => k_is); (case a5 => k_is); (case l5 => k_is); (case c5 => k_is); (case k5 => k_is); (case a6 => k_is); (case l6 => k_is); (case c6 => k_is); (case k6 => k_is); (case a7 => k_is); (case l7 => k_is); (case c7 => k_is); (case k7 => k_is); (case a8 => k_is); (case l8 => k_is); (case c8 => k_is); (case k8 => k_is); (case a9 => k_is); (case l9 => k_is); (case c9 => k_is); (case k9 => k_is); (case a10 => k_is); (case l10 => k_is); (case c10 => k_is); (case k10 => k_is); (case a11 => k_is); (case l11 => k_is); (case c11 => k_is); (case k11 => k_is); (case a12 => k_is); (case l12 => k_is); (case c12 => k_is); (case k12 => k_is); (case a13 => k_is); (case l13 => k_is); (case c13 => k_is); (case k13 => k_is); (case a14 => k_is); (case l14 => k_is); (case c14 => k_is); (case k14 => k_is); (case a15 => k_is); (case l15 => k_is); (case c15 => k_is); (case k15 => k_is); (case z1 => k_is); (case z2 => k_is); (case z3 => k_is); (case z4 => k_is); (case z5 => k_is); (case z6 => k_is); (case z7 => k_is); (case z8 => k_is); (case z9 => k_is); (case z10 => k_is); (case z11 => k_is); (case z12 => k_is); (case z13 => k_is); (case y1 => k_is); (case y2 => k_is); (case y3 => k_is); (case x11 => kernel_rfl); (case x21 => kernel_rfl); (case x22 => kernel_rfl); (case i1 => k_is); (case i2 => k_is); (case isx => kernel_rfl); (case tl => kernel_rfl); (case tw => kernel_rfl); (case e1 => k_is); (case e2 => k_is); (case e3 => k_is); (case e4 => k_is); (case e5 => k_is); (case e6 => k_is); (case e7 => k_is); (case e8 => k_is); (case ch => kernel_rfl); (case lp => kernel_rfl); (case oL => k_is); (case rL => kernel_rfl); (case sL => k_is); (case vL => k_is); (case tyL => k_is); (case kkL => k_is); (case nL => k_is); (case uL => k_is); (case lL => k_is); (case cL => k_is); (case pL => k_is); (case oW => k_is); (case rW => kernel_rfl); (case sW => k_is); (case vW => k_is); (case tyW => k_is); (case kkW => k_is); (case nW => k_is); (case uW => k_is); (case lW => k_is); (case cW => k_is); (case pW => k_is); (case yb => k_is); (case yc => k_is)

