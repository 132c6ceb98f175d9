import PyProof.Rows.All
import Wide.All
import OpenK.AllK
import Wide.FinOn
import HandS.ForMost
import HandS.EndBits
import HandS.IsInst
import HandS.TupAny
import HandS.Strs
import PyProof.Rows.SetFrom
import HandS.Exc
import HandS.TryMany
import HandS.Conv
import HandS.Small
import HandS.DictComp
import HandS.Star
import HandS.Flow
import HandS.ListItems
import HandS.More
import HandS.StrMore
import HandS.Style
import HandS.Lambda
import HandS.EndTab
import HandS.ExcField
import HandS.ExcInit
import HandS.ExcIs
import KE.KExcIs
import KE.KNest
import HandS.ReplaceLit
import HandS.ReplaceList
import KE.GoesMore
import HandS.Defaults
import KE.DataEq
import HandS.Codes
import PySem.Challenge.RW_switchyard_k18_whole_lines
set_option Elab.async false
set_option linter.all false
set_option maxRecDepth 100000
set_option maxHeartbeats 4000000
/-! Sw0: readings walked step by step, what is known of the heap in one row. -/
namespace Sw
open PySem PySem.Spec PyProof.Rows L2

/-! ### what is known of the heap -/
structure Has (H0 : Hp) (ex : List Addr) (H : Hp) (L : List (Addr × HO)) : Prop where
  keep : ∀ a o, H0 a = some o → a ∉ ex → H a = some o
  get : ∀ x ∈ L, H x.1 = some x.2
  nd : (L.map Prod.fst).Nodup

theorem Has.start (H : Hp) (ex : List Addr) : Has H ex H [] := ⟨fun _ _ h _ => h, fun _ h => (nomatch h), List.nodup_nil⟩
theorem Has.new {H0 : Hp} {ex : List Addr} {H : Hp} {L : List (Addr × HO)} {p : Addr} {o : HO} (h : Has H0 ex H L) (n : H p = none) : Has H0 ex (upd H p o) ((p, o) :: L) := by
  refine ⟨fun a u e hx => ?_, fun x hx => ?_, ?_⟩
  · have k := h.keep a u e hx
    rw [upd_ne (ne_of_none k n)]
    exact k
  · rcases List.mem_cons.mp hx with rfl | hx
    · exact upd_same
    · have k := h.get x hx
      rw [upd_ne (ne_of_none k n)]
      exact k
  · rw [List.map_cons, List.nodup_cons]
    refine ⟨fun hm => ?_, h.nd⟩
    obtain ⟨x, hx, e⟩ := List.mem_map.mp hm
    have k := h.get x hx
    rw [e, n] at k
    cases k
/-- what is known, less -/
theorem Has.tail {H0 : Hp} {ex : List Addr} {H : Hp} {L : List (Addr × HO)} {x : Addr × HO} (h : Has H0 ex H (x :: L)) : Has H0 ex H L :=
  ⟨h.keep, fun y hy => h.get y (List.mem_cons_of_mem _ hy), (List.nodup_cons.mp (by simpa using h.nd)).2⟩
theorem Has.sub {H0 : Hp} {ex : List Addr} {H : Hp} {L L' : List (Addr × HO)} (h : Has H0 ex H L) (s : L'.Sublist L) : Has H0 ex H L' :=
  ⟨h.keep, fun y hy => h.get y (s.subset hy), (s.map Prod.fst).nodup h.nd⟩
theorem Has.add {H0 : Hp} {ex : List Addr} {H : Hp} {L : List (Addr × HO)} {a : Addr} {o : HO} (h : Has H0 ex H L) (e : H a = some o) (n : a ∉ L.map Prod.fst) : Has H0 ex H ((a, o) :: L) :=
  ⟨h.keep, fun y hy => (List.mem_cons.mp hy).elim (fun z => by subst z; exact e) (h.get y), List.nodup_cons.mpr ⟨n, h.nd⟩⟩
theorem Has.more {H0 : Hp} {ex ex' : List Addr} {H : Hp} {L : List (Addr × HO)} (h : Has H0 ex H L) (s : ∀ a ∈ ex, a ∈ ex') : Has H0 ex' H L :=
  ⟨fun a o e n => h.keep a o e fun m => n (s a m), h.get, h.nd⟩
/-- nothing that was known has changed -/
theorem Has.same {H0 : Hp} {ex : List Addr} {H H' : Hp} {L M : List (Addr × HO)} (h : Has H0 ex H L) (h' : Has H [] H' M) : Has H0 ex H' L :=
  ⟨fun a o e n => h'.keep a o (h.keep a o e n) (by simp), fun x hx => h'.keep _ _ (h.get x hx) (by simp), h.nd⟩
/-- .. and something new is known -/
theorem Has.same1 {H0 : Hp} {ex : List Addr} {H H' : Hp} {L : List (Addr × HO)} {p : Addr} {o : HO} (h : Has H0 ex H L) (h' : Has H [] H' [(p, o)]) (n : H p = none) : Has H0 ex H' ((p, o) :: L) :=
  (h.same h').add (h'.get (p, o) (by simp)) fun hm => by
    obtain ⟨x, hx, e⟩ := List.mem_map.mp hm
    have k := h.get x hx
    rw [e, n] at k
    cases k
/-- the object at a place of the row has changed -/
inductive Put : List (Addr × HO) → Addr → HO → HO → List (Addr × HO) → Prop
  | here {d : Addr} {o o' : HO} {L : List (Addr × HO)} : Put ((d, o) :: L) d o o' ((d, o') :: L)
  | there {x : Addr × HO} {d : Addr} {o o' : HO} {L L' : List (Addr × HO)} : Put L d o o' L' → Put (x :: L) d o o' (x :: L')
theorem Put.fst {L L' : List (Addr × HO)} {d : Addr} {o o' : HO} (p : Put L d o o' L') : L'.map Prod.fst = L.map Prod.fst := by
  induction p with
  | here => rfl
  | there _ ih => rw [List.map_cons, List.map_cons, ih]
theorem Put.mem {L L' : List (Addr × HO)} {d : Addr} {o o' : HO} (p : Put L d o o' L') : (d, o) ∈ L ∧ (d, o') ∈ L' := by
  induction p with
  | here => exact ⟨List.mem_cons_self, List.mem_cons_self⟩
  | there _ ih => exact ⟨List.mem_cons_of_mem _ ih.1, List.mem_cons_of_mem _ ih.2⟩
theorem Put.out {L L' : List (Addr × HO)} {d : Addr} {o o' : HO} (p : Put L d o o' L') (nd : (L.map Prod.fst).Nodup) : ∀ x ∈ L', x = (d, o') ∨ (x ∈ L ∧ x.1 ≠ d) := by
  induction p with
  | here =>
    intro x hx
    rcases List.mem_cons.mp hx with h | h
    · exact .inl h
    · refine .inr ⟨List.mem_cons_of_mem _ h, fun e => ?_⟩
      rw [List.map_cons, List.nodup_cons] at nd
      have m : x.1 ∈ List.map Prod.fst _ := List.mem_map_of_mem (f := Prod.fst) h
      rw [e] at m
      exact nd.1 m
  | @there y d o o' L L' q ih =>
    rw [List.map_cons, List.nodup_cons] at nd
    intro x hx
    rcases List.mem_cons.mp hx with h | h
    · subst h
      refine .inr ⟨List.mem_cons_self, fun e => nd.1 ?_⟩
      rw [e]
      exact List.mem_map_of_mem (f := Prod.fst) q.mem.1
    · rcases ih nd.2 x h with z | ⟨z, n⟩
      · exact .inl z
      · exact .inr ⟨List.mem_cons_of_mem _ z, n⟩
theorem Has.put {H0 : Hp} {ex : List Addr} {H : Hp} {L L' : List (Addr × HO)} {d : Addr} {o o' : HO} (h : Has H0 ex H L) (p : Put L d o o' L') (f : d ∈ ex ∨ H0 d = none) : Has H0 ex (upd H d o') L' := by
  refine ⟨fun a u e n => ?_, fun x hx => ?_, by rw [p.fst]; exact h.nd⟩
  · have k := h.keep a u e n
    rw [upd_ne (fun z => by subst z; rcases f with f | f; exact n f; rw [f] at e; cases e)]
    exact k
  · rcases p.out h.nd x hx with rfl | ⟨m, n⟩
    · exact upd_same
    · rw [upd_ne n]
      exact h.get x m
theorem Has.putC {H0 : Hp} {ex : List Addr} {H H' : Hp} {L L' M : List (Addr × HO)} {d : Addr} {o o' : HO} (h : Has H0 ex H L) (h' : Has H [d] H' ((d, o') :: M)) (p : Put L d o o' L') (f : d ∈ ex ∨ H0 d = none) : Has H0 ex H' L' := by
  refine ⟨fun a u e n => ?_, fun x hx => ?_, by rw [p.fst]; exact h.nd⟩
  · have k := h.keep a u e n
    refine h'.keep a u k fun m => ?_
    have z : a = d := by simpa using m
    subst z
    rcases f with f | f
    · exact n f
    · rw [f] at e; cases e
  · rcases p.out h.nd x hx with rfl | ⟨m, n⟩
    · exact h'.get _ (by simp)
    · exact h'.keep _ _ (h.get x m) (by simpa using n)

section
variable {H0 : Hp} {ex : List Addr} {H : Hp} {L : List (Addr × HO)} {K : PySem.W.Frag} {a : Addr} {xs : List V}
theorem Has.at (h : Has H0 ex H L) {o : HO} (m : (a, o) ∈ L) : H a = some o := h.get _ m
theorem Has.l (h : Has H0 ex H L) (m : (a, HO.lst xs) ∈ L) : SqL K H a xs := SqL.of (h.get _ m)
theorem Has.t (h : Has H0 ex H L) (m : (a, HO.tup xs) ∈ L) : SqT K H a xs := SqT.of (h.get _ m)
theorem Has.rd {u : HO} (h : Has H0 ex H L) (r : Rd H0 a u) (n : a ∉ ex) : Rd H a u := by
  rcases r with r | ⟨o, r⟩
  · exact .inl (h.keep _ _ r n)
  · exact .inr ⟨o, h.keep _ _ r n⟩
theorem Has.sl (h : Has H0 ex H L) (r : SqL K H0 a xs) (n : a ∉ ex) : SqL K H a xs := by
  rcases r with r | r
  · exact .inl (h.rd r n)
  · exact .inr r
theorem Has.st (h : Has H0 ex H L) (r : SqT K H0 a xs) (n : a ∉ ex) : SqT K H a xs := by
  rcases r with r | r
  · exact .inl (h.rd r n)
  · exact .inr r
end

/-! ### the steps -/
section
variable {X : Cx} {K : PySem.W.Frag} {σ : L2.St} {H : Hp} {Q : VK} {QA : List V → Hp → Prop} {QT : Bool → Hp → Prop} {x y z v : V} {te ta tb : TE} {t u : TT} {r : R2} {tt tu : TS} {nx ct bk : L2.St → Hp → Prop} {rt : VK} {i : Nat}
theorem c_ (h : Q v H) : tC v σ H Q := h
theorem var_ (i : Nat) (e : σ[i]? = some (some v)) (h : Q v H) : tVar i σ H Q := ⟨v, e, h⟩
theorem op_ (h : ta σ H fun x H1 => tb σ H1 fun y H2 => r x y H2 Q) : tOp r ta tb σ H Q := h
theorem un_ {r : V → Hp → VK → Prop} (h : ta σ H fun x H1 => r x H1 Q) : tUn r ta σ H Q := h
theorem nil_ (h : QA [] H) : tNil σ H QA := h
theorem cons_ {tr : TA} (h : te σ H fun x H1 => tr σ H1 fun xs H2 => QA (x :: xs) H2) : tCons te tr σ H QA := h
theorem cb_ {r : List V → Hp → VK → Prop} {t : TA} (h : t σ H fun vs H1 => r vs H1 Q) : tCB r t σ H Q := h
theorem call_ {sp : Sp} {t : TA} {E : XK} (h : t σ H fun vs H1 => sp vs H1 Q E) : tCall sp [] E t σ H Q := by
  show t σ H fun vs H1 => sp (vs ++ []) H1 Q E
  have e : (fun (vs : List V) (H1 : Hp) => sp (vs ++ []) H1 Q E) = fun vs H1 => sp vs H1 Q E := by
    funext vs H1
    rw [List.append_nil]
  rw [e]
  exact h
/-- a test's answer -/
def BlK (QT : Bool → Hp → Prop) (x : V) (H : Hp) : Prop := ∃ k, x = .bl k ∧ QT k H
theorem blk {k : Bool} (h : QT k H) : BlK QT (.bl k) H := ⟨k, rfl, h⟩
theorem test_ (h : te σ H fun x H1 => BlK QT x H1) : tTest te σ H QT := h
theorem b_ (h : te σ H fun x H1 => BlK QT x H1) : tB te σ H QT := h
theorem not_ (h : t σ H fun c H1 => QT (!c) H1) : tNot t σ H QT := h
theorem and_ (h : t σ H fun c H1 => if c = true then u σ H1 QT else QT false H1) : tAnd t u σ H QT := h
theorem or_ (h : t σ H fun c H1 => if c = true then QT true H1 else u σ H1 QT) : tOr t u σ H QT := h
def AndK (tb : TE) (σ : L2.St) (Q : VK) (x : V) (H1 : Hp) : Prop := ∃ c, x = .bl c ∧ if c = true then tb σ H1 Q else Q (.bl false) H1
def OrK (tb : TE) (σ : L2.St) (Q : VK) (x : V) (H1 : Hp) : Prop := ∃ c, x = .bl c ∧ if c = true then Q (.bl true) H1 else tb σ H1 Q
def NotK (Q : VK) (x : V) (H1 : Hp) : Prop := ∃ c, x = .bl c ∧ Q (.bl (!c)) H1
theorem andV_ (h : ta σ H fun x H1 => AndK tb σ Q x H1) : tAndV ta tb σ H Q := h
theorem orV_ (h : ta σ H fun x H1 => OrK tb σ Q x H1) : tOrV ta tb σ H Q := h
theorem notV_ (h : ta σ H fun x H1 => NotK Q x H1) : tNotV ta σ H Q := h
theorem andk {c : Bool} (h : if c = true then tb σ H Q else Q (.bl false) H) : AndK tb σ Q (.bl c) H := ⟨c, rfl, h⟩
theorem ork {c : Bool} (h : if c = true then Q (.bl true) H else tb σ H Q) : OrK tb σ Q (.bl c) H := ⟨c, rfl, h⟩
theorem notk {c : Bool} (h : Q (.bl (!c)) H) : NotK Q (.bl c) H := ⟨c, rfl, h⟩
theorem if_ (h : t σ H fun c H1 => if c = true then ta σ H1 Q else tb σ H1 Q) : tIf t ta tb σ H Q := h
theorem ite_t {c : Bool} {A B : Prop} (e : c = true) (h : A) : if c = true then A else B := by rw [if_pos e]; exact h
theorem ite_f {c : Bool} {A B : Prop} (e : c = false) (h : B) : if c = true then A else B := by rw [e]; exact h
theorem ite_c {c : Bool} {A B : Prop} (h1 : c = true → A) (h2 : c = false → B) : if c = true then A else B := by
  cases c with
  | true => exact h1 rfl
  | false => exact h2 rfl
/-- statements -/
theorem seq_ (h : tt ⟨tu ⟨nx, rt, bk, ct⟩, rt, bk, ct⟩ σ H) : tSeq tt tu ⟨nx, rt, bk, ct⟩ σ H := h
theorem next_ (h : nx σ H) : tNext ⟨nx, rt, bk, ct⟩ σ H := h
theorem break_ (h : bk σ H) : tBreak ⟨nx, rt, bk, ct⟩ σ H := h
theorem cont_ (h : ct σ H) : tCont ⟨nx, rt, bk, ct⟩ σ H := h
theorem drop_ (h : te σ H fun _ H1 => nx σ H1) : tDrop te ⟨nx, rt, bk, ct⟩ σ H := h
theorem ret_ (h : te σ H rt) : tRet te ⟨nx, rt, bk, ct⟩ σ H := h
theorem retN_ (h : rt .non H) : tRetN ⟨nx, rt, bk, ct⟩ σ H := h
theorem ifS_ (h : t σ H fun c H1 => if c = true then tt ⟨nx, rt, bk, ct⟩ σ H1 else tu ⟨nx, rt, bk, ct⟩ σ H1) : tIfS t tt tu ⟨nx, rt, bk, ct⟩ σ H := h
def SetK (σ : L2.St) (i : Nat) (nx : L2.St → Hp → Prop) (x : V) (H : Hp) : Prop := nx (σ.set i (some x)) H
theorem setk {σ' : L2.St} (e : σ.set i (some x) = σ') (h : nx σ' H) : SetK σ i nx x H := by
  subst e
  exact h
theorem set_ (h : te σ H fun x H1 => SetK σ i nx x H1) : tAsg te (gName i) ⟨nx, rt, bk, ct⟩ σ H := h
def AsgK (g : TG) (σ : L2.St) (nx : L2.St → Hp → Prop) (x : V) (H : Hp) : Prop := g x σ H nx
theorem asg_ {g : TG} (h : te σ H fun x H1 => AsgK g σ nx x H1) : tAsg te g ⟨nx, rt, bk, ct⟩ σ H := h
theorem gname (h : SetK σ i nx x H) : AsgK (gName i) σ nx x H := h
theorem gtup2 {i j : Nat} {a : Addr} {x y : V} (hs : SqT K H a [x, y]) {σ1 σ2 : L2.St} (e1 : σ.set i (some x) = σ1) (e2 : σ1.set j (some y) = σ2) (h : nx σ2 H) : AsgK (gTup K 2 (gCons (gName i) (gCons (gName j) gNil))) σ nx (.ref a) H := by
  subst e1 e2
  exact ⟨a, [x, y], rfl, hs, rfl, x, [y], rfl, y, [], rfl, rfl, h⟩
theorem aug_ {ti : TIp} (e : σ[i]? = some (some x)) (h : te σ H fun y H1 => ti x y H1 fun z H2 => SetK σ i nx z H2) : tAug i te ti ⟨nx, rt, bk, ct⟩ σ H := ⟨x, e, h⟩
theorem ipI_ {f : Int → Int → Int} {a b : Int} (h : Q (.int (f a b)) H) : ipI f (.int a) (.int b) H Q := ⟨a, b, rfl, rfl, h⟩
theorem augS_ {to ti : TE} {tg : V → V → Hp → VK → Prop} {tip : TIp} {ts : TSet} (h : to σ H fun o H1 => ti σ H1 fun i H2 => tg o i H2 fun x H3 => te σ H3 fun y H4 => tip x y H4 fun z H5 => ts o i z H5 fun H6 => nx σ H6) : tAugS to ti te tg tip ts ⟨nx, rt, bk, ct⟩ σ H := h

/-! ### operators by values -/
variable {a b : Int} {p q : Addr} {xs ys : List V}
theorem i0 {g : Int → Int → V} (h : Q (g a b) H) : rI0 g (.int a) (.int b) H Q := ⟨a, b, rfl, rfl, h⟩
theorem i1 {C : Int → Int → Prop} {g : Int → Int → V} (c : C a b) (h : Q (g a b) H) : rI C g (.int a) (.int b) H Q := ⟨a, b, rfl, rfl, c, h⟩
theorem iu {g : Int → V} (h : Q (g a) H) : rU g (.int a) H Q := ⟨a, rfl, h⟩
theorem eq_ (s : scal x y = true) (h : Q (.bl (decide (x = y))) H) : rEq x y H Q := ⟨s, h⟩
theorem ne_ (s : scal x y = true) (h : Q (.bl (!decide (x = y))) H) : rNe x y H Q := ⟨s, h⟩
theorem ixL {i : Int} (hs : SqL K H p xs) (e : atI xs i = some v) (h : Q v H) : rIx K (.ref p) (.int i) H Q := .inl ⟨p, xs, i, v, rfl, rfl, hs, e, h⟩
theorem ixT {i : Int} (hs : SqT K H p xs) (e : atI xs i = some v) (h : Q v H) : rIx K (.ref p) (.int i) H Q := .inr (.inl ⟨p, xs, i, v, rfl, rfl, hs, e, h⟩)
theorem ixS {i : Int} {w : Str} {c : Nat} (hl : w.length ≤ sizeLine) (e : atI w.cps.toList i = some c) (h : Q (.str ⟨#[c]⟩) H) : rIx K (.str w) (.int i) H Q := .inr (.inr ⟨w, i, c, rfl, rfl, hl, e, h⟩)
/-- == and != of scalars or data -/
def rEqU (K : PySem.W.Frag) : R2 := fun x y H Q => rEq x y H Q ∨ rEqD K x y H Q
def rNeU (K : PySem.W.Frag) : R2 := fun x y H Q => rNe x y H Q ∨ rNeD K x y H Q
theorem op_eqU (hu : X.A.units + 64 < cLine) : OpR X (compareOp .Eq) (rEqU X.K) := op_eq.or (op_eqD hu)
theorem op_neU (hu : X.A.units + 64 < cLine) : OpR X (compareOp .NotEq) (rNeU X.K) := op_ne.or (op_neD hu)
theorem equ (s : scal x y = true) (h : Q (.bl (decide (x = y))) H) : rEqU K x y H Q := .inl ⟨s, h⟩
theorem neu (s : scal x y = true) (h : Q (.bl (!decide (x = y))) H) : rNeU K x y H Q := .inl ⟨s, h⟩
theorem equD {d e : PyData} (hx : Dp K H x d) (hy : Dp K H y e) (sd : SeqAt.shaped d = true) (se : SeqAt.shaped e = true) (h : Q (.bl (PyData.eqv d e)) H) : rEqU K x y H Q := .inr ⟨d, e, hx, hy, sd, se, h⟩
theorem neuD {d e : PyData} (hx : Dp K H x d) (hy : Dp K H y e) (sd : SeqAt.shaped d = true) (se : SeqAt.shaped e = true) (h : Q (.bl (!PyData.eqv d e)) H) : rNeU K x y H Q := .inr ⟨d, e, hx, hy, sd, se, h⟩
/-- + -/
def rAddS : R2 := fun x y H Q => ∃ i j, x = .str i ∧ y = .str j ∧ i.length + j.length ≤ sizeLine ∧ Q (.str (i ++ j)) H
def rAddU (K : PySem.W.Frag) : R2 := fun x y H Q => (rI0 (fun i j => .int (i + j)) x y H Q) ∨ rAddS x y H Q ∨ rCat x y H Q ∨ rCatA K x y H Q
theorem op_addU : OpR X (binaryOp .Add) (rAddU X.K) := op_add.or ((show OpR X (binaryOp .Add) rAddS from op_add_str).or (op_cat.or op_catA))
theorem addI (h : Q (.int (a + b)) H) : rAddU K (.int a) (.int b) H Q := .inl ⟨a, b, rfl, rfl, h⟩
theorem addS {s t : Str} (hl : s.length + t.length ≤ sizeLine) (h : Q (.str (s ++ t)) H) : rAddU K (.str s) (.str t) H Q := .inr (.inl ⟨s, t, rfl, rfl, hl, h⟩)
end

/-! ### new objects -/
section
variable {H0 : Hp} {ex : List Addr} {H : Hp} {L : List (Addr × HO)} {K : PySem.W.Frag} {σ : L2.St} {Q : VK} {xs ys : List V} {p q : Addr}
def TupK (Q : VK) (xs : List V) (H1 : Hp) : Prop := xs.length ≤ sizeLine ∧ ∀ p, H1 p = none → Q (.ref p) (upd H1 p (.tup xs))
def LstK (Q : VK) (xs : List V) (H1 : Hp) : Prop := xs.length ≤ sizeLine ∧ ∀ p, H1 p = none → Q (.ref p) (upd H1 p (.lst xs))
theorem tup_ {t : TA} (h : t σ H fun xs H1 => TupK Q xs H1) : tTup t σ H Q := h
theorem lst_ {t : TA} (h : t σ H fun xs H1 => LstK Q xs H1) : tLst t σ H Q := h
theorem tupk (hH : Has H0 ex H L) (hl : xs.length ≤ 1000) (h : ∀ p H', H p = none → Has H0 ex H' ((p, .tup xs) :: L) → Q (.ref p) H') : TupK Q xs H :=
  ⟨Nat.le_of_lt (small1000 hl), fun p n => h p _ n (hH.new n)⟩
theorem lstk (hH : Has H0 ex H L) (hl : xs.length ≤ 1000) (h : ∀ p H', H p = none → Has H0 ex H' ((p, .lst xs) :: L) → Q (.ref p) H') : LstK Q xs H :=
  ⟨Nat.le_of_lt (small1000 hl), fun p n => h p _ n (hH.new n)⟩
theorem addL (hH : Has H0 ex H L) (h1 : (p, HO.lst xs) ∈ L) (h2 : (q, HO.lst ys) ∈ L) (hl : xs.length + ys.length ≤ 1000) (h : ∀ l H', H l = none → Has H0 ex H' ((l, .lst (xs ++ ys)) :: L) → Q (.ref l) H') : rAddU K (.ref p) (.ref q) H Q :=
  .inr (.inr (.inl ⟨p, q, xs, ys, rfl, rfl, hH.at h1, hH.at h2, Nat.le_of_lt (small1000 hl), fun l n => h l _ n (hH.new n)⟩))
end
/-- xs[i] += e: reading the item -/
theorem get_list {X : Cx} : PGet X (rIxL X.K) := by
  intro pins s σ H x y v u Q I rx ry h
  obtain ⟨p, xs, i, z, rfl, rfl, hq, he, q⟩ := h
  cases rx
  obtain ⟨t, rfl⟩ := ry
  obtain ⟨its, r, pl, hz⟩ := I.list hq
  obtain ⟨j, h1, h2, h3, h4, h5⟩ := atI_get he
  obtain ⟨w, ew, rw'⟩ := r.get h2
  have hl := r.length
  have hn := line63
  have fin : EP X pins σ Q w s := ⟨z, H, I, rw', q⟩
  by_cases h0 : 0 ≤ i
  · have hj : i.toNat = j := by
      rw [seqIndex_of h0 h5] at h1
      exact Option.some.inj h1
    refine thn (PySem.wpAny_getItem_list (Q := fun r s' => r = w ∧ EP X pins σ Q r s') pl.isList h0 (by omega) (by rw [hj]; simpa using ew) ⟨rfl, fin⟩) fun r s' h => h.2
  · have hj : (i + (its.toArray.size : Int)).toNat = j := by
      rw [seqIndex_neg (by omega) h4] at h1
      rw [List.size_toArray, ← hl]
      exact Option.some.inj h1
    refine thn (PySem.wpAny_getItem_list_neg (Q := fun r s' => r = w ∧ EP X pins σ Q r s') pl.isList (by omega) (by rw [List.size_toArray] <;> omega) (by omega) (by rw [hj]; simpa using ew) ⟨rfl, fin⟩) fun r s' h => h.2

/-! ### a def that may be called by its name -/
structure Cal (P : Program) (w : World) (K : PySem.W.Frag) (mg : Str → Option Value) (base : Heap) (CX : CXT) (k : Nat) (x : Str) (ps : List Str) (sp : Sp) : Prop where
  ex : ∃ (f : Addr) (fd : FuncData), FnOk P w K mg base CX k f fd ps sp ∧ mg x = some (.ref f) ∧ PySem.W.keepIn K (.ref f) = true ∧ Binds K fd ps []
theorem pe_cal {X : Cx} {CX : CXT} {j k : Nat} {x : Str} {ps : List Str} {sp : Sp} {E : XK} {p pos : Pos} {e : Expr} {es : List Expr} {t : TA} (c : Cal X.prog X.w X.K X.mg X.base CX j x ps sp) (hr : Room k X.A) (hjk : j ≤ k) (hg : Gl X x) (hx : Passes CX X E) (ha : PA X (e :: es) t)
    (hdb : (x == ("__debug__" : Str)) = false := by decide) (he : starEach (e :: es) X.env = (false, eval e X.env) :: starEach es X.env := by rfl) (hpl : (backTo pos (starEach es X.env)).any (·.1) = false := by rfl) :
    PE X (.Call (.Name x p) (e :: es) [] pos) (tCall sp [] E t) := by
  obtain ⟨f, fd, F, hm, hk, hb⟩ := c.ex
  exact pe_call F (hr.mono hjk) hg hm hk hb .nil hx ha hdb he hpl
/-! slots by number -/
theorem setk0 {a0 : Option V} {r : L2.St} {nx : L2.St → Hp → Prop} {x : V} {H : Hp} (h : nx (some x :: r) H) : SetK (a0 :: r) 0 nx x H := h
theorem var0 {r : L2.St} {v : V} {Q : VK} {H : Hp} (h : Q v H) : tVar 0 (some v :: r) H Q := ⟨v, rfl, h⟩
theorem aug0 {r : L2.St} {x : V} {te : TE} {ti : TIp} {nx bk ct : L2.St → Hp → Prop} {rt : VK} {H : Hp} (h : te (some x :: r) H fun y H1 => ti x y H1 fun z H2 => SetK (some x :: r) 0 nx z H2) : tAug 0 te ti ⟨nx, rt, bk, ct⟩ (some x :: r) H := ⟨x, rfl, h⟩
theorem setk1 {a0 a1 : Option V} {r : L2.St} {nx : L2.St → Hp → Prop} {x : V} {H : Hp} (h : nx (a0 :: some x :: r) H) : SetK (a0 :: a1 :: r) 1 nx x H := h
theorem var1 {a0 : Option V} {r : L2.St} {v : V} {Q : VK} {H : Hp} (h : Q v H) : tVar 1 (a0 :: some v :: r) H Q := ⟨v, rfl, h⟩
theorem aug1 {a0 : Option V} {r : L2.St} {x : V} {te : TE} {ti : TIp} {nx bk ct : L2.St → Hp → Prop} {rt : VK} {H : Hp} (h : te (a0 :: some x :: r) H fun y H1 => ti x y H1 fun z H2 => SetK (a0 :: some x :: r) 1 nx z H2) : tAug 1 te ti ⟨nx, rt, bk, ct⟩ (a0 :: some x :: r) H := ⟨x, rfl, h⟩
theorem setk2 {a0 a1 a2 : Option V} {r : L2.St} {nx : L2.St → Hp → Prop} {x : V} {H : Hp} (h : nx (a0 :: a1 :: some x :: r) H) : SetK (a0 :: a1 :: a2 :: r) 2 nx x H := h
theorem var2 {a0 a1 : Option V} {r : L2.St} {v : V} {Q : VK} {H : Hp} (h : Q v H) : tVar 2 (a0 :: a1 :: some v :: r) H Q := ⟨v, rfl, h⟩
theorem aug2 {a0 a1 : Option V} {r : L2.St} {x : V} {te : TE} {ti : TIp} {nx bk ct : L2.St → Hp → Prop} {rt : VK} {H : Hp} (h : te (a0 :: a1 :: some x :: r) H fun y H1 => ti x y H1 fun z H2 => SetK (a0 :: a1 :: some x :: r) 2 nx z H2) : tAug 2 te ti ⟨nx, rt, bk, ct⟩ (a0 :: a1 :: some x :: r) H := ⟨x, rfl, h⟩
theorem setk3 {a0 a1 a2 a3 : Option V} {r : L2.St} {nx : L2.St → Hp → Prop} {x : V} {H : Hp} (h : nx (a0 :: a1 :: a2 :: some x :: r) H) : SetK (a0 :: a1 :: a2 :: a3 :: r) 3 nx x H := h
theorem var3 {a0 a1 a2 : Option V} {r : L2.St} {v : V} {Q : VK} {H : Hp} (h : Q v H) : tVar 3 (a0 :: a1 :: a2 :: some v :: r) H Q := ⟨v, rfl, h⟩
theorem aug3 {a0 a1 a2 : Option V} {r : L2.St} {x : V} {te : TE} {ti : TIp} {nx bk ct : L2.St → Hp → Prop} {rt : VK} {H : Hp} (h : te (a0 :: a1 :: a2 :: some x :: r) H fun y H1 => ti x y H1 fun z H2 => SetK (a0 :: a1 :: a2 :: some x :: r) 3 nx z H2) : tAug 3 te ti ⟨nx, rt, bk, ct⟩ (a0 :: a1 :: a2 :: some x :: r) H := ⟨x, rfl, h⟩
theorem setk4 {a0 a1 a2 a3 a4 : Option V} {r : L2.St} {nx : L2.St → Hp → Prop} {x : V} {H : Hp} (h : nx (a0 :: a1 :: a2 :: a3 :: some x :: r) H) : SetK (a0 :: a1 :: a2 :: a3 :: a4 :: r) 4 nx x H := h
theorem var4 {a0 a1 a2 a3 : Option V} {r : L2.St} {v : V} {Q : VK} {H : Hp} (h : Q v H) : tVar 4 (a0 :: a1 :: a2 :: a3 :: some v :: r) H Q := ⟨v, rfl, h⟩
theorem aug4 {a0 a1 a2 a3 : Option V} {r : L2.St} {x : V} {te : TE} {ti : TIp} {nx bk ct : L2.St → Hp → Prop} {rt : VK} {H : Hp} (h : te (a0 :: a1 :: a2 :: a3 :: some x :: r) H fun y H1 => ti x y H1 fun z H2 => SetK (a0 :: a1 :: a2 :: a3 :: some x :: r) 4 nx z H2) : tAug 4 te ti ⟨nx, rt, bk, ct⟩ (a0 :: a1 :: a2 :: a3 :: some x :: r) H := ⟨x, rfl, h⟩
theorem setk5 {a0 a1 a2 a3 a4 a5 : Option V} {r : L2.St} {nx : L2.St → Hp → Prop} {x : V} {H : Hp} (h : nx (a0 :: a1 :: a2 :: a3 :: a4 :: some x :: r) H) : SetK (a0 :: a1 :: a2 :: a3 :: a4 :: a5 :: r) 5 nx x H := h
theorem var5 {a0 a1 a2 a3 a4 : Option V} {r : L2.St} {v : V} {Q : VK} {H : Hp} (h : Q v H) : tVar 5 (a0 :: a1 :: a2 :: a3 :: a4 :: some v :: r) H Q := ⟨v, rfl, h⟩
theorem aug5 {a0 a1 a2 a3 a4 : Option V} {r : L2.St} {x : V} {te : TE} {ti : TIp} {nx bk ct : L2.St → Hp → Prop} {rt : VK} {H : Hp} (h : te (a0 :: a1 :: a2 :: a3 :: a4 :: some x :: r) H fun y H1 => ti x y H1 fun z H2 => SetK (a0 :: a1 :: a2 :: a3 :: a4 :: some x :: r) 5 nx z H2) : tAug 5 te ti ⟨nx, rt, bk, ct⟩ (a0 :: a1 :: a2 :: a3 :: a4 :: some x :: r) H := ⟨x, rfl, h⟩
theorem setk6 {a0 a1 a2 a3 a4 a5 a6 : Option V} {r : L2.St} {nx : L2.St → Hp → Prop} {x : V} {H : Hp} (h : nx (a0 :: a1 :: a2 :: a3 :: a4 :: a5 :: some x :: r) H) : SetK (a0 :: a1 :: a2 :: a3 :: a4 :: a5 :: a6 :: r) 6 nx x H := h
theorem var6 {a0 a1 a2 a3 a4 a5 : Option V} {r : L2.St} {v : V} {Q : VK} {H : Hp} (h : Q v H) : tVar 6 (a0 :: a1 :: a2 :: a3 :: a4 :: a5 :: some v :: r) H Q := ⟨v, rfl, h⟩
theorem aug6 {a0 a1 a2 a3 a4 a5 : Option V} {r : L2.St} {x : V} {te : TE} {ti : TIp} {nx bk ct : L2.St → Hp → Prop} {rt : VK} {H : Hp} (h : te (a0 :: a1 :: a2 :: a3 :: a4 :: a5 :: some x :: r) H fun y H1 => ti x y H1 fun z H2 => SetK (a0 :: a1 :: a2 :: a3 :: a4 :: a5 :: some x :: r) 6 nx z H2) : tAug 6 te ti ⟨nx, rt, bk, ct⟩ (a0 :: a1 :: a2 :: a3 :: a4 :: a5 :: some x :: r) H := ⟨x, rfl, h⟩
theorem setk7 {a0 a1 a2 a3 a4 a5 a6 a7 : Option V} {r : L2.St} {nx : L2.St → Hp → Prop} {x : V} {H : Hp} (h : nx (a0 :: a1 :: a2 :: a3 :: a4 :: a5 :: a6 :: some x :: r) H) : SetK (a0 :: a1 :: a2 :: a3 :: a4 :: a5 :: a6 :: a7 :: r) 7 nx x H := h
theorem var7 {a0 a1 a2 a3 a4 a5 a6 : Option V} {r : L2.St} {v : V} {Q : VK} {H : Hp} (h : Q v H) : tVar 7 (a0 :: a1 :: a2 :: a3 :: a4 :: a5 :: a6 :: some v :: r) H Q := ⟨v, rfl, h⟩
theorem aug7 {a0 a1 a2 a3 a4 a5 a6 : Option V} {r : L2.St} {x : V} {te : TE} {ti : TIp} {nx bk ct : L2.St → Hp → Prop} {rt : VK} {H : Hp} (h : te (a0 :: a1 :: a2 :: a3 :: a4 :: a5 :: a6 :: some x :: r) H fun y H1 => ti x y H1 fun z H2 => SetK (a0 :: a1 :: a2 :: a3 :: a4 :: a5 :: a6 :: some x :: r) 7 nx z H2) : tAug 7 te ti ⟨nx, rt, bk, ct⟩ (a0 :: a1 :: a2 :: a3 :: a4 :: a5 :: a6 :: some x :: r) H := ⟨x, rfl, h⟩
theorem setk8 {a0 a1 a2 a3 a4 a5 a6 a7 a8 : Option V} {r : L2.St} {nx : L2.St → Hp → Prop} {x : V} {H : Hp} (h : nx (a0 :: a1 :: a2 :: a3 :: a4 :: a5 :: a6 :: a7 :: some x :: r) H) : SetK (a0 :: a1 :: a2 :: a3 :: a4 :: a5 :: a6 :: a7 :: a8 :: r) 8 nx x H := h
theorem var8 {a0 a1 a2 a3 a4 a5 a6 a7 : Option V} {r : L2.St} {v : V} {Q : VK} {H : Hp} (h : Q v H) : tVar 8 (a0 :: a1 :: a2 :: a3 :: a4 :: a5 :: a6 :: a7 :: some v :: r) H Q := ⟨v, rfl, h⟩
theorem aug8 {a0 a1 a2 a3 a4 a5 a6 a7 : Option V} {r : L2.St} {x : V} {te : TE} {ti : TIp} {nx bk ct : L2.St → Hp → Prop} {rt : VK} {H : Hp} (h : te (a0 :: a1 :: a2 :: a3 :: a4 :: a5 :: a6 :: a7 :: some x :: r) H fun y H1 => ti x y H1 fun z H2 => SetK (a0 :: a1 :: a2 :: a3 :: a4 :: a5 :: a6 :: a7 :: some x :: r) 8 nx z H2) : tAug 8 te ti ⟨nx, rt, bk, ct⟩ (a0 :: a1 :: a2 :: a3 :: a4 :: a5 :: a6 :: a7 :: some x :: r) H := ⟨x, rfl, h⟩
theorem setk9 {a0 a1 a2 a3 a4 a5 a6 a7 a8 a9 : Option V} {r : L2.St} {nx : L2.St → Hp → Prop} {x : V} {H : Hp} (h : nx (a0 :: a1 :: a2 :: a3 :: a4 :: a5 :: a6 :: a7 :: a8 :: some x :: r) H) : SetK (a0 :: a1 :: a2 :: a3 :: a4 :: a5 :: a6 :: a7 :: a8 :: a9 :: r) 9 nx x H := h
theorem var9 {a0 a1 a2 a3 a4 a5 a6 a7 a8 : Option V} {r : L2.St} {v : V} {Q : VK} {H : Hp} (h : Q v H) : tVar 9 (a0 :: a1 :: a2 :: a3 :: a4 :: a5 :: a6 :: a7 :: a8 :: some v :: r) H Q := ⟨v, rfl, h⟩
theorem aug9 {a0 a1 a2 a3 a4 a5 a6 a7 a8 : Option V} {r : L2.St} {x : V} {te : TE} {ti : TIp} {nx bk ct : L2.St → Hp → Prop} {rt : VK} {H : Hp} (h : te (a0 :: a1 :: a2 :: a3 :: a4 :: a5 :: a6 :: a7 :: a8 :: some x :: r) H fun y H1 => ti x y H1 fun z H2 => SetK (a0 :: a1 :: a2 :: a3 :: a4 :: a5 :: a6 :: a7 :: a8 :: some x :: r) 9 nx z H2) : tAug 9 te ti ⟨nx, rt, bk, ct⟩ (a0 :: a1 :: a2 :: a3 :: a4 :: a5 :: a6 :: a7 :: a8 :: some x :: r) H := ⟨x, rfl, h⟩
theorem setk10 {a0 a1 a2 a3 a4 a5 a6 a7 a8 a9 a10 : Option V} {r : L2.St} {nx : L2.St → Hp → Prop} {x : V} {H : Hp} (h : nx (a0 :: a1 :: a2 :: a3 :: a4 :: a5 :: a6 :: a7 :: a8 :: a9 :: some x :: r) H) : SetK (a0 :: a1 :: a2 :: a3 :: a4 :: a5 :: a6 :: a7 :: a8 :: a9 :: a10 :: r) 10 nx x H := h
theorem var10 {a0 a1 a2 a3 a4 a5 a6 a7 a8 a9 : Option V} {r : L2.St} {v : V} {Q : VK} {H : Hp} (h : Q v H) : tVar 10 (a0 :: a1 :: a2 :: a3 :: a4 :: a5 :: a6 :: a7 :: a8 :: a9 :: some v :: r) H Q := ⟨v, rfl, h⟩
theorem aug10 {a0 a1 a2 a3 a4 a5 a6 a7 a8 a9 : Option V} {r : L2.St} {x : V} {te : TE} {ti : TIp} {nx bk ct : L2.St → Hp → Prop} {rt : VK} {H : Hp} (h : te (a0 :: a1 :: a2 :: a3 :: a4 :: a5 :: a6 :: a7 :: a8 :: a9 :: some x :: r) H fun y H1 => ti x y H1 fun z H2 => SetK (a0 :: a1 :: a2 :: a3 :: a4 :: a5 :: a6 :: a7 :: a8 :: a9 :: some x :: r) 10 nx z H2) : tAug 10 te ti ⟨nx, rt, bk, ct⟩ (a0 :: a1 :: a2 :: a3 :: a4 :: a5 :: a6 :: a7 :: a8 :: a9 :: some x :: r) H := ⟨x, rfl, h⟩
theorem setk11 {a0 a1 a2 a3 a4 a5 a6 a7 a8 a9 a10 a11 : Option V} {r : L2.St} {nx : L2.St → Hp → Prop} {x : V} {H : Hp} (h : nx (a0 :: a1 :: a2 :: a3 :: a4 :: a5 :: a6 :: a7 :: a8 :: a9 :: a10 :: some x :: r) H) : SetK (a0 :: a1 :: a2 :: a3 :: a4 :: a5 :: a6 :: a7 :: a8 :: a9 :: a10 :: a11 :: r) 11 nx x H := h
theorem var11 {a0 a1 a2 a3 a4 a5 a6 a7 a8 a9 a10 : Option V} {r : L2.St} {v : V} {Q : VK} {H : Hp} (h : Q v H) : tVar 11 (a0 :: a1 :: a2 :: a3 :: a4 :: a5 :: a6 :: a7 :: a8 :: a9 :: a10 :: some v :: r) H Q := ⟨v, rfl, h⟩
theorem aug11 {a0 a1 a2 a3 a4 a5 a6 a7 a8 a9 a10 : Option V} {r : L2.St} {x : V} {te : TE} {ti : TIp} {nx bk ct : L2.St → Hp → Prop} {rt : VK} {H : Hp} (h : te (a0 :: a1 :: a2 :: a3 :: a4 :: a5 :: a6 :: a7 :: a8 :: a9 :: a10 :: some x :: r) H fun y H1 => ti x y H1 fun z H2 => SetK (a0 :: a1 :: a2 :: a3 :: a4 :: a5 :: a6 :: a7 :: a8 :: a9 :: a10 :: some x :: r) 11 nx z H2) : tAug 11 te ti ⟨nx, rt, bk, ct⟩ (a0 :: a1 :: a2 :: a3 :: a4 :: a5 :: a6 :: a7 :: a8 :: a9 :: a10 :: some x :: r) H := ⟨x, rfl, h⟩
theorem setk12 {a0 a1 a2 a3 a4 a5 a6 a7 a8 a9 a10 a11 a12 : Option V} {r : L2.St} {nx : L2.St → Hp → Prop} {x : V} {H : Hp} (h : nx (a0 :: a1 :: a2 :: a3 :: a4 :: a5 :: a6 :: a7 :: a8 :: a9 :: a10 :: a11 :: some x :: r) H) : SetK (a0 :: a1 :: a2 :: a3 :: a4 :: a5 :: a6 :: a7 :: a8 :: a9 :: a10 :: a11 :: a12 :: r) 12 nx x H := h
theorem var12 {a0 a1 a2 a3 a4 a5 a6 a7 a8 a9 a10 a11 : Option V} {r : L2.St} {v : V} {Q : VK} {H : Hp} (h : Q v H) : tVar 12 (a0 :: a1 :: a2 :: a3 :: a4 :: a5 :: a6 :: a7 :: a8 :: a9 :: a10 :: a11 :: some v :: r) H Q := ⟨v, rfl, h⟩
theorem aug12 {a0 a1 a2 a3 a4 a5 a6 a7 a8 a9 a10 a11 : Option V} {r : L2.St} {x : V} {te : TE} {ti : TIp} {nx bk ct : L2.St → Hp → Prop} {rt : VK} {H : Hp} (h : te (a0 :: a1 :: a2 :: a3 :: a4 :: a5 :: a6 :: a7 :: a8 :: a9 :: a10 :: a11 :: some x :: r) H fun y H1 => ti x y H1 fun z H2 => SetK (a0 :: a1 :: a2 :: a3 :: a4 :: a5 :: a6 :: a7 :: a8 :: a9 :: a10 :: a11 :: some x :: r) 12 nx z H2) : tAug 12 te ti ⟨nx, rt, bk, ct⟩ (a0 :: a1 :: a2 :: a3 :: a4 :: a5 :: a6 :: a7 :: a8 :: a9 :: a10 :: a11 :: some x :: r) H := ⟨x, rfl, h⟩
theorem setk13 {a0 a1 a2 a3 a4 a5 a6 a7 a8 a9 a10 a11 a12 a13 : Option V} {r : L2.St} {nx : L2.St → Hp → Prop} {x : V} {H : Hp} (h : nx (a0 :: a1 :: a2 :: a3 :: a4 :: a5 :: a6 :: a7 :: a8 :: a9 :: a10 :: a11 :: a12 :: some x :: r) H) : SetK (a0 :: a1 :: a2 :: a3 :: a4 :: a5 :: a6 :: a7 :: a8 :: a9 :: a10 :: a11 :: a12 :: a13 :: r) 13 nx x H := h
theorem var13 {a0 a1 a2 a3 a4 a5 a6 a7 a8 a9 a10 a11 a12 : Option V} {r : L2.St} {v : V} {Q : VK} {H : Hp} (h : Q v H) : tVar 13 (a0 :: a1 :: a2 :: a3 :: a4 :: a5 :: a6 :: a7 :: a8 :: a9 :: a10 :: a11 :: a12 :: some v :: r) H Q := ⟨v, rfl, h⟩
theorem aug13 {a0 a1 a2 a3 a4 a5 a6 a7 a8 a9 a10 a11 a12 : Option V} {r : L2.St} {x : V} {te : TE} {ti : TIp} {nx bk ct : L2.St → Hp → Prop} {rt : VK} {H : Hp} (h : te (a0 :: a1 :: a2 :: a3 :: a4 :: a5 :: a6 :: a7 :: a8 :: a9 :: a10 :: a11 :: a12 :: some x :: r) H fun y H1 => ti x y H1 fun z H2 => SetK (a0 :: a1 :: a2 :: a3 :: a4 :: a5 :: a6 :: a7 :: a8 :: a9 :: a10 :: a11 :: a12 :: some x :: r) 13 nx z H2) : tAug 13 te ti ⟨nx, rt, bk, ct⟩ (a0 :: a1 :: a2 :: a3 :: a4 :: a5 :: a6 :: a7 :: a8 :: a9 :: a10 :: a11 :: a12 :: some x :: r) H := ⟨x, rfl, h⟩
theorem setk14 {a0 a1 a2 a3 a4 a5 a6 a7 a8 a9 a10 a11 a12 a13 a14 : Option V} {r : L2.St} {nx : L2.St → Hp → Prop} {x : V} {H : Hp} (h : nx (a0 :: a1 :: a2 :: a3 :: a4 :: a5 :: a6 :: a7 :: a8 :: a9 :: a10 :: a11 :: a12 :: a13 :: some x :: r) H) : SetK (a0 :: a1 :: a2 :: a3 :: a4 :: a5 :: a6 :: a7 :: a8 :: a9 :: a10 :: a11 :: a12 :: a13 :: a14 :: r) 14 nx x H := h
theorem var14 {a0 a1 a2 a3 a4 a5 a6 a7 a8 a9 a10 a11 a12 a13 : Option V} {r : L2.St} {v : V} {Q : VK} {H : Hp} (h : Q v H) : tVar 14 (a0 :: a1 :: a2 :: a3 :: a4 :: a5 :: a6 :: a7 :: a8 :: a9 :: a10 :: a11 :: a12 :: a13 :: some v :: r) H Q := ⟨v, rfl, h⟩
theorem aug14 {a0 a1 a2 a3 a4 a5 a6 a7 a8 a9 a10 a11 a12 a13 : Option V} {r : L2.St} {x : V} {te : TE} {ti : TIp} {nx bk ct : L2.St → Hp → Prop} {rt : VK} {H : Hp} (h : te (a0 :: a1 :: a2 :: a3 :: a4 :: a5 :: a6 :: a7 :: a8 :: a9 :: a10 :: a11 :: a12 :: a13 :: some x :: r) H fun y H1 => ti x y H1 fun z H2 => SetK (a0 :: a1 :: a2 :: a3 :: a4 :: a5 :: a6 :: a7 :: a8 :: a9 :: a10 :: a11 :: a12 :: a13 :: some x :: r) 14 nx z H2) : tAug 14 te ti ⟨nx, rt, bk, ct⟩ (a0 :: a1 :: a2 :: a3 :: a4 :: a5 :: a6 :: a7 :: a8 :: a9 :: a10 :: a11 :: a12 :: a13 :: some x :: r) H := ⟨x, rfl, h⟩
theorem setk15 {a0 a1 a2 a3 a4 a5 a6 a7 a8 a9 a10 a11 a12 a13 a14 a15 : Option V} {r : L2.St} {nx : L2.St → Hp → Prop} {x : V} {H : Hp} (h : nx (a0 :: a1 :: a2 :: a3 :: a4 :: a5 :: a6 :: a7 :: a8 :: a9 :: a10 :: a11 :: a12 :: a13 :: a14 :: some x :: r) H) : SetK (a0 :: a1 :: a2 :: a3 :: a4 :: a5 :: a6 :: a7 :: a8 :: a9 :: a10 :: a11 :: a12 :: a13 :: a14 :: a15 :: r) 15 nx x H := h
theorem var15 {a0 a1 a2 a3 a4 a5 a6 a7 a8 a9 a10 a11 a12 a13 a14 : Option V} {r : L2.St} {v : V} {Q : VK} {H : Hp} (h : Q v H) : tVar 15 (a0 :: a1 :: a2 :: a3 :: a4 :: a5 :: a6 :: a7 :: a8 :: a9 :: a10 :: a11 :: a12 :: a13 :: a14 :: some v :: r) H Q := ⟨v, rfl, h⟩
theorem aug15 {a0 a1 a2 a3 a4 a5 a6 a7 a8 a9 a10 a11 a12 a13 a14 : Option V} {r : L2.St} {x : V} {te : TE} {ti : TIp} {nx bk ct : L2.St → Hp → Prop} {rt : VK} {H : Hp} (h : te (a0 :: a1 :: a2 :: a3 :: a4 :: a5 :: a6 :: a7 :: a8 :: a9 :: a10 :: a11 :: a12 :: a13 :: a14 :: some x :: r) H fun y H1 => ti x y H1 fun z H2 => SetK (a0 :: a1 :: a2 :: a3 :: a4 :: a5 :: a6 :: a7 :: a8 :: a9 :: a10 :: a11 :: a12 :: a13 :: a14 :: some x :: r) 15 nx z H2) : tAug 15 te ti ⟨nx, rt, bk, ct⟩ (a0 :: a1 :: a2 :: a3 :: a4 :: a5 :: a6 :: a7 :: a8 :: a9 :: a10 :: a11 :: a12 :: a13 :: a14 :: some x :: r) H := ⟨x, rfl, h⟩
theorem setk16 {a0 a1 a2 a3 a4 a5 a6 a7 a8 a9 a10 a11 a12 a13 a14 a15 a16 : Option V} {r : L2.St} {nx : L2.St → Hp → Prop} {x : V} {H : Hp} (h : nx (a0 :: a1 :: a2 :: a3 :: a4 :: a5 :: a6 :: a7 :: a8 :: a9 :: a10 :: a11 :: a12 :: a13 :: a14 :: a15 :: some x :: r) H) : SetK (a0 :: a1 :: a2 :: a3 :: a4 :: a5 :: a6 :: a7 :: a8 :: a9 :: a10 :: a11 :: a12 :: a13 :: a14 :: a15 :: a16 :: r) 16 nx x H := h
theorem var16 {a0 a1 a2 a3 a4 a5 a6 a7 a8 a9 a10 a11 a12 a13 a14 a15 : Option V} {r : L2.St} {v : V} {Q : VK} {H : Hp} (h : Q v H) : tVar 16 (a0 :: a1 :: a2 :: a3 :: a4 :: a5 :: a6 :: a7 :: a8 :: a9 :: a10 :: a11 :: a12 :: a13 :: a14 :: a15 :: some v :: r) H Q := ⟨v, rfl, h⟩
theorem aug16 {a0 a1 a2 a3 a4 a5 a6 a7 a8 a9 a10 a11 a12 a13 a14 a15 : Option V} {r : L2.St} {x : V} {te : TE} {ti : TIp} {nx bk ct : L2.St → Hp → Prop} {rt : VK} {H : Hp} (h : te (a0 :: a1 :: a2 :: a3 :: a4 :: a5 :: a6 :: a7 :: a8 :: a9 :: a10 :: a11 :: a12 :: a13 :: a14 :: a15 :: some x :: r) H fun y H1 => ti x y H1 fun z H2 => SetK (a0 :: a1 :: a2 :: a3 :: a4 :: a5 :: a6 :: a7 :: a8 :: a9 :: a10 :: a11 :: a12 :: a13 :: a14 :: a15 :: some x :: r) 16 nx z H2) : tAug 16 te ti ⟨nx, rt, bk, ct⟩ (a0 :: a1 :: a2 :: a3 :: a4 :: a5 :: a6 :: a7 :: a8 :: a9 :: a10 :: a11 :: a12 :: a13 :: a14 :: a15 :: some x :: r) H := ⟨x, rfl, h⟩
theorem setk17 {a0 a1 a2 a3 a4 a5 a6 a7 a8 a9 a10 a11 a12 a13 a14 a15 a16 a17 : Option V} {r : L2.St} {nx : L2.St → Hp → Prop} {x : V} {H : Hp} (h : nx (a0 :: a1 :: a2 :: a3 :: a4 :: a5 :: a6 :: a7 :: a8 :: a9 :: a10 :: a11 :: a12 :: a13 :: a14 :: a15 :: a16 :: some x :: r) H) : SetK (a0 :: a1 :: a2 :: a3 :: a4 :: a5 :: a6 :: a7 :: a8 :: a9 :: a10 :: a11 :: a12 :: a13 :: a14 :: a15 :: a16 :: a17 :: r) 17 nx x H := h
theorem var17 {a0 a1 a2 a3 a4 a5 a6 a7 a8 a9 a10 a11 a12 a13 a14 a15 a16 : Option V} {r : L2.St} {v : V} {Q : VK} {H : Hp} (h : Q v H) : tVar 17 (a0 :: a1 :: a2 :: a3 :: a4 :: a5 :: a6 :: a7 :: a8 :: a9 :: a10 :: a11 :: a12 :: a13 :: a14 :: a15 :: a16 :: some v :: r) H Q := ⟨v, rfl, h⟩
theorem aug17 {a0 a1 a2 a3 a4 a5 a6 a7 a8 a9 a10 a11 a12 a13 a14 a15 a16 : Option V} {r : L2.St} {x : V} {te : TE} {ti : TIp} {nx bk ct : L2.St → Hp → Prop} {rt : VK} {H : Hp} (h : te (a0 :: a1 :: a2 :: a3 :: a4 :: a5 :: a6 :: a7 :: a8 :: a9 :: a10 :: a11 :: a12 :: a13 :: a14 :: a15 :: a16 :: some x :: r) H fun y H1 => ti x y H1 fun z H2 => SetK (a0 :: a1 :: a2 :: a3 :: a4 :: a5 :: a6 :: a7 :: a8 :: a9 :: a10 :: a11 :: a12 :: a13 :: a14 :: a15 :: a16 :: some x :: r) 17 nx z H2) : tAug 17 te ti ⟨nx, rt, bk, ct⟩ (a0 :: a1 :: a2 :: a3 :: a4 :: a5 :: a6 :: a7 :: a8 :: a9 :: a10 :: a11 :: a12 :: a13 :: a14 :: a15 :: a16 :: some x :: r) H := ⟨x, rfl, h⟩
theorem setk18 {a0 a1 a2 a3 a4 a5 a6 a7 a8 a9 a10 a11 a12 a13 a14 a15 a16 a17 a18 : Option V} {r : L2.St} {nx : L2.St → Hp → Prop} {x : V} {H : Hp} (h : nx (a0 :: a1 :: a2 :: a3 :: a4 :: a5 :: a6 :: a7 :: a8 :: a9 :: a10 :: a11 :: a12 :: a13 :: a14 :: a15 :: a16 :: a17 :: some x :: r) H) : SetK (a0 :: a1 :: a2 :: a3 :: a4 :: a5 :: a6 :: a7 :: a8 :: a9 :: a10 :: a11 :: a12 :: a13 :: a14 :: a15 :: a16 :: a17 :: a18 :: r) 18 nx x H := h
theorem var18 {a0 a1 a2 a3 a4 a5 a6 a7 a8 a9 a10 a11 a12 a13 a14 a15 a16 a17 : Option V} {r : L2.St} {v : V} {Q : VK} {H : Hp} (h : Q v H) : tVar 18 (a0 :: a1 :: a2 :: a3 :: a4 :: a5 :: a6 :: a7 :: a8 :: a9 :: a10 :: a11 :: a12 :: a13 :: a14 :: a15 :: a16 :: a17 :: some v :: r) H Q := ⟨v, rfl, h⟩
theorem aug18 {a0 a1 a2 a3 a4 a5 a6 a7 a8 a9 a10 a11 a12 a13 a14 a15 a16 a17 : Option V} {r : L2.St} {x : V} {te : TE} {ti : TIp} {nx bk ct : L2.St → Hp → Prop} {rt : VK} {H : Hp} (h : te (a0 :: a1 :: a2 :: a3 :: a4 :: a5 :: a6 :: a7 :: a8 :: a9 :: a10 :: a11 :: a12 :: a13 :: a14 :: a15 :: a16 :: a17 :: some x :: r) H fun y H1 => ti x y H1 fun z H2 => SetK (a0 :: a1 :: a2 :: a3 :: a4 :: a5 :: a6 :: a7 :: a8 :: a9 :: a10 :: a11 :: a12 :: a13 :: a14 :: a15 :: a16 :: a17 :: some x :: r) 18 nx z H2) : tAug 18 te ti ⟨nx, rt, bk, ct⟩ (a0 :: a1 :: a2 :: a3 :: a4 :: a5 :: a6 :: a7 :: a8 :: a9 :: a10 :: a11 :: a12 :: a13 :: a14 :: a15 :: a16 :: a17 :: some x :: r) H := ⟨x, rfl, h⟩
theorem setk19 {a0 a1 a2 a3 a4 a5 a6 a7 a8 a9 a10 a11 a12 a13 a14 a15 a16 a17 a18 a19 : Option V} {r : L2.St} {nx : L2.St → Hp → Prop} {x : V} {H : Hp} (h : nx (a0 :: a1 :: a2 :: a3 :: a4 :: a5 :: a6 :: a7 :: a8 :: a9 :: a10 :: a11 :: a12 :: a13 :: a14 :: a15 :: a16 :: a17 :: a18 :: some x :: r) H) : SetK (a0 :: a1 :: a2 :: a3 :: a4 :: a5 :: a6 :: a7 :: a8 :: a9 :: a10 :: a11 :: a12 :: a13 :: a14 :: a15 :: a16 :: a17 :: a18 :: a19 :: r) 19 nx x H := h
theorem var19 {a0 a1 a2 a3 a4 a5 a6 a7 a8 a9 a10 a11 a12 a13 a14 a15 a16 a17 a18 : Option V} {r : L2.St} {v : V} {Q : VK} {H : Hp} (h : Q v H) : tVar 19 (a0 :: a1 :: a2 :: a3 :: a4 :: a5 :: a6 :: a7 :: a8 :: a9 :: a10 :: a11 :: a12 :: a13 :: a14 :: a15 :: a16 :: a17 :: a18 :: some v :: r) H Q := ⟨v, rfl, h⟩
theorem aug19 {a0 a1 a2 a3 a4 a5 a6 a7 a8 a9 a10 a11 a12 a13 a14 a15 a16 a17 a18 : Option V} {r : L2.St} {x : V} {te : TE} {ti : TIp} {nx bk ct : L2.St → Hp → Prop} {rt : VK} {H : Hp} (h : te (a0 :: a1 :: a2 :: a3 :: a4 :: a5 :: a6 :: a7 :: a8 :: a9 :: a10 :: a11 :: a12 :: a13 :: a14 :: a15 :: a16 :: a17 :: a18 :: some x :: r) H fun y H1 => ti x y H1 fun z H2 => SetK (a0 :: a1 :: a2 :: a3 :: a4 :: a5 :: a6 :: a7 :: a8 :: a9 :: a10 :: a11 :: a12 :: a13 :: a14 :: a15 :: a16 :: a17 :: a18 :: some x :: r) 19 nx z H2) : tAug 19 te ti ⟨nx, rt, bk, ct⟩ (a0 :: a1 :: a2 :: a3 :: a4 :: a5 :: a6 :: a7 :: a8 :: a9 :: a10 :: a11 :: a12 :: a13 :: a14 :: a15 :: a16 :: a17 :: a18 :: some x :: r) H := ⟨x, rfl, h⟩
theorem setk20 {a0 a1 a2 a3 a4 a5 a6 a7 a8 a9 a10 a11 a12 a13 a14 a15 a16 a17 a18 a19 a20 : Option V} {r : L2.St} {nx : L2.St → Hp → Prop} {x : V} {H : Hp} (h : nx (a0 :: a1 :: a2 :: a3 :: a4 :: a5 :: a6 :: a7 :: a8 :: a9 :: a10 :: a11 :: a12 :: a13 :: a14 :: a15 :: a16 :: a17 :: a18 :: a19 :: some x :: r) H) : SetK (a0 :: a1 :: a2 :: a3 :: a4 :: a5 :: a6 :: a7 :: a8 :: a9 :: a10 :: a11 :: a12 :: a13 :: a14 :: a15 :: a16 :: a17 :: a18 :: a19 :: a20 :: r) 20 nx x H := h
theorem var20 {a0 a1 a2 a3 a4 a5 a6 a7 a8 a9 a10 a11 a12 a13 a14 a15 a16 a17 a18 a19 : Option V} {r : L2.St} {v : V} {Q : VK} {H : Hp} (h : Q v H) : tVar 20 (a0 :: a1 :: a2 :: a3 :: a4 :: a5 :: a6 :: a7 :: a8 :: a9 :: a10 :: a11 :: a12 :: a13 :: a14 :: a15 :: a16 :: a17 :: a18 :: a19 :: some v :: r) H Q := ⟨v, rfl, h⟩
theorem aug20 {a0 a1 a2 a3 a4 a5 a6 a7 a8 a9 a10 a11 a12 a13 a14 a15 a16 a17 a18 a19 : Option V} {r : L2.St} {x : V} {te : TE} {ti : TIp} {nx bk ct : L2.St → Hp → Prop} {rt : VK} {H : Hp} (h : te (a0 :: a1 :: a2 :: a3 :: a4 :: a5 :: a6 :: a7 :: a8 :: a9 :: a10 :: a11 :: a12 :: a13 :: a14 :: a15 :: a16 :: a17 :: a18 :: a19 :: some x :: r) H fun y H1 => ti x y H1 fun z H2 => SetK (a0 :: a1 :: a2 :: a3 :: a4 :: a5 :: a6 :: a7 :: a8 :: a9 :: a10 :: a11 :: a12 :: a13 :: a14 :: a15 :: a16 :: a17 :: a18 :: a19 :: some x :: r) 20 nx z H2) : tAug 20 te ti ⟨nx, rt, bk, ct⟩ (a0 :: a1 :: a2 :: a3 :: a4 :: a5 :: a6 :: a7 :: a8 :: a9 :: a10 :: a11 :: a12 :: a13 :: a14 :: a15 :: a16 :: a17 :: a18 :: a19 :: some x :: r) H := ⟨x, rfl, h⟩
theorem setk21 {a0 a1 a2 a3 a4 a5 a6 a7 a8 a9 a10 a11 a12 a13 a14 a15 a16 a17 a18 a19 a20 a21 : Option V} {r : L2.St} {nx : L2.St → Hp → Prop} {x : V} {H : Hp} (h : nx (a0 :: a1 :: a2 :: a3 :: a4 :: a5 :: a6 :: a7 :: a8 :: a9 :: a10 :: a11 :: a12 :: a13 :: a14 :: a15 :: a16 :: a17 :: a18 :: a19 :: a20 :: some x :: r) H) : SetK (a0 :: a1 :: a2 :: a3 :: a4 :: a5 :: a6 :: a7 :: a8 :: a9 :: a10 :: a11 :: a12 :: a13 :: a14 :: a15 :: a16 :: a17 :: a18 :: a19 :: a20 :: a21 :: r) 21 nx x H := h
theorem var21 {a0 a1 a2 a3 a4 a5 a6 a7 a8 a9 a10 a11 a12 a13 a14 a15 a16 a17 a18 a19 a20 : Option V} {r : L2.St} {v : V} {Q : VK} {H : Hp} (h : Q v H) : tVar 21 (a0 :: a1 :: a2 :: a3 :: a4 :: a5 :: a6 :: a7 :: a8 :: a9 :: a10 :: a11 :: a12 :: a13 :: a14 :: a15 :: a16 :: a17 :: a18 :: a19 :: a20 :: some v :: r) H Q := ⟨v, rfl, h⟩
theorem aug21 {a0 a1 a2 a3 a4 a5 a6 a7 a8 a9 a10 a11 a12 a13 a14 a15 a16 a17 a18 a19 a20 : Option V} {r : L2.St} {x : V} {te : TE} {ti : TIp} {nx bk ct : L2.St → Hp → Prop} {rt : VK} {H : Hp} (h : te (a0 :: a1 :: a2 :: a3 :: a4 :: a5 :: a6 :: a7 :: a8 :: a9 :: a10 :: a11 :: a12 :: a13 :: a14 :: a15 :: a16 :: a17 :: a18 :: a19 :: a20 :: some x :: r) H fun y H1 => ti x y H1 fun z H2 => SetK (a0 :: a1 :: a2 :: a3 :: a4 :: a5 :: a6 :: a7 :: a8 :: a9 :: a10 :: a11 :: a12 :: a13 :: a14 :: a15 :: a16 :: a17 :: a18 :: a19 :: a20 :: some x :: r) 21 nx z H2) : tAug 21 te ti ⟨nx, rt, bk, ct⟩ (a0 :: a1 :: a2 :: a3 :: a4 :: a5 :: a6 :: a7 :: a8 :: a9 :: a10 :: a11 :: a12 :: a13 :: a14 :: a15 :: a16 :: a17 :: a18 :: a19 :: a20 :: some x :: r) H := ⟨x, rfl, h⟩
theorem setk22 {a0 a1 a2 a3 a4 a5 a6 a7 a8 a9 a10 a11 a12 a13 a14 a15 a16 a17 a18 a19 a20 a21 a22 : Option V} {r : L2.St} {nx : L2.St → Hp → Prop} {x : V} {H : Hp} (h : nx (a0 :: a1 :: a2 :: a3 :: a4 :: a5 :: a6 :: a7 :: a8 :: a9 :: a10 :: a11 :: a12 :: a13 :: a14 :: a15 :: a16 :: a17 :: a18 :: a19 :: a20 :: a21 :: some x :: r) H) : SetK (a0 :: a1 :: a2 :: a3 :: a4 :: a5 :: a6 :: a7 :: a8 :: a9 :: a10 :: a11 :: a12 :: a13 :: a14 :: a15 :: a16 :: a17 :: a18 :: a19 :: a20 :: a21 :: a22 :: r) 22 nx x H := h
theorem var22 {a0 a1 a2 a3 a4 a5 a6 a7 a8 a9 a10 a11 a12 a13 a14 a15 a16 a17 a18 a19 a20 a21 : Option V} {r : L2.St} {v : V} {Q : VK} {H : Hp} (h : Q v H) : tVar 22 (a0 :: a1 :: a2 :: a3 :: a4 :: a5 :: a6 :: a7 :: a8 :: a9 :: a10 :: a11 :: a12 :: a13 :: a14 :: a15 :: a16 :: a17 :: a18 :: a19 :: a20 :: a21 :: some v :: r) H Q := ⟨v, rfl, h⟩
theorem aug22 {a0 a1 a2 a3 a4 a5 a6 a7 a8 a9 a10 a11 a12 a13 a14 a15 a16 a17 a18 a19 a20 a21 : Option V} {r : L2.St} {x : V} {te : TE} {ti : TIp} {nx bk ct : L2.St → Hp → Prop} {rt : VK} {H : Hp} (h : te (a0 :: a1 :: a2 :: a3 :: a4 :: a5 :: a6 :: a7 :: a8 :: a9 :: a10 :: a11 :: a12 :: a13 :: a14 :: a15 :: a16 :: a17 :: a18 :: a19 :: a20 :: a21 :: some x :: r) H fun y H1 => ti x y H1 fun z H2 => SetK (a0 :: a1 :: a2 :: a3 :: a4 :: a5 :: a6 :: a7 :: a8 :: a9 :: a10 :: a11 :: a12 :: a13 :: a14 :: a15 :: a16 :: a17 :: a18 :: a19 :: a20 :: a21 :: some x :: r) 22 nx z H2) : tAug 22 te ti ⟨nx, rt, bk, ct⟩ (a0 :: a1 :: a2 :: a3 :: a4 :: a5 :: a6 :: a7 :: a8 :: a9 :: a10 :: a11 :: a12 :: a13 :: a14 :: a15 :: a16 :: a17 :: a18 :: a19 :: a20 :: a21 :: some x :: r) H := ⟨x, rfl, h⟩
theorem setk23 {a0 a1 a2 a3 a4 a5 a6 a7 a8 a9 a10 a11 a12 a13 a14 a15 a16 a17 a18 a19 a20 a21 a22 a23 : Option V} {r : L2.St} {nx : L2.St → Hp → Prop} {x : V} {H : Hp} (h : nx (a0 :: a1 :: a2 :: a3 :: a4 :: a5 :: a6 :: a7 :: a8 :: a9 :: a10 :: a11 :: a12 :: a13 :: a14 :: a15 :: a16 :: a17 :: a18 :: a19 :: a20 :: a21 :: a22 :: some x :: r) H) : SetK (a0 :: a1 :: a2 :: a3 :: a4 :: a5 :: a6 :: a7 :: a8 :: a9 :: a10 :: a11 :: a12 :: a13 :: a14 :: a15 :: a16 :: a17 :: a18 :: a19 :: a20 :: a21 :: a22 :: a23 :: r) 23 nx x H := h
theorem var23 {a0 a1 a2 a3 a4 a5 a6 a7 a8 a9 a10 a11 a12 a13 a14 a15 a16 a17 a18 a19 a20 a21 a22 : Option V} {r : L2.St} {v : V} {Q : VK} {H : Hp} (h : Q v H) : tVar 23 (a0 :: a1 :: a2 :: a3 :: a4 :: a5 :: a6 :: a7 :: a8 :: a9 :: a10 :: a11 :: a12 :: a13 :: a14 :: a15 :: a16 :: a17 :: a18 :: a19 :: a20 :: a21 :: a22 :: some v :: r) H Q := ⟨v, rfl, h⟩
theorem aug23 {a0 a1 a2 a3 a4 a5 a6 a7 a8 a9 a10 a11 a12 a13 a14 a15 a16 a17 a18 a19 a20 a21 a22 : Option V} {r : L2.St} {x : V} {te : TE} {ti : TIp} {nx bk ct : L2.St → Hp → Prop} {rt : VK} {H : Hp} (h : te (a0 :: a1 :: a2 :: a3 :: a4 :: a5 :: a6 :: a7 :: a8 :: a9 :: a10 :: a11 :: a12 :: a13 :: a14 :: a15 :: a16 :: a17 :: a18 :: a19 :: a20 :: a21 :: a22 :: some x :: r) H fun y H1 => ti x y H1 fun z H2 => SetK (a0 :: a1 :: a2 :: a3 :: a4 :: a5 :: a6 :: a7 :: a8 :: a9 :: a10 :: a11 :: a12 :: a13 :: a14 :: a15 :: a16 :: a17 :: a18 :: a19 :: a20 :: a21 :: a22 :: some x :: r) 23 nx z H2) : tAug 23 te ti ⟨nx, rt, bk, ct⟩ (a0 :: a1 :: a2 :: a3 :: a4 :: a5 :: a6 :: a7 :: a8 :: a9 :: a10 :: a11 :: a12 :: a13 :: a14 :: a15 :: a16 :: a17 :: a18 :: a19 :: a20 :: a21 :: a22 :: some x :: r) H := ⟨x, rfl, h⟩
theorem setk24 {a0 a1 a2 a3 a4 a5 a6 a7 a8 a9 a10 a11 a12 a13 a14 a15 a16 a17 a18 a19 a20 a21 a22 a23 a24 : Option V} {r : L2.St} {nx : L2.St → Hp → Prop} {x : V} {H : Hp} (h : nx (a0 :: a1 :: a2 :: a3 :: a4 :: a5 :: a6 :: a7 :: a8 :: a9 :: a10 :: a11 :: a12 :: a13 :: a14 :: a15 :: a16 :: a17 :: a18 :: a19 :: a20 :: a21 :: a22 :: a23 :: some x :: r) H) : SetK (a0 :: a1 :: a2 :: a3 :: a4 :: a5 :: a6 :: a7 :: a8 :: a9 :: a10 :: a11 :: a12 :: a13 :: a14 :: a15 :: a16 :: a17 :: a18 :: a19 :: a20 :: a21 :: a22 :: a23 :: a24 :: r) 24 nx x H := h
theorem var24 {a0 a1 a2 a3 a4 a5 a6 a7 a8 a9 a10 a11 a12 a13 a14 a15 a16 a17 a18 a19 a20 a21 a22 a23 : Option V} {r : L2.St} {v : V} {Q : VK} {H : Hp} (h : Q v H) : tVar 24 (a0 :: a1 :: a2 :: a3 :: a4 :: a5 :: a6 :: a7 :: a8 :: a9 :: a10 :: a11 :: a12 :: a13 :: a14 :: a15 :: a16 :: a17 :: a18 :: a19 :: a20 :: a21 :: a22 :: a23 :: some v :: r) H Q := ⟨v, rfl, h⟩
theorem aug24 {a0 a1 a2 a3 a4 a5 a6 a7 a8 a9 a10 a11 a12 a13 a14 a15 a16 a17 a18 a19 a20 a21 a22 a23 : Option V} {r : L2.St} {x : V} {te : TE} {ti : TIp} {nx bk ct : L2.St → Hp → Prop} {rt : VK} {H : Hp} (h : te (a0 :: a1 :: a2 :: a3 :: a4 :: a5 :: a6 :: a7 :: a8 :: a9 :: a10 :: a11 :: a12 :: a13 :: a14 :: a15 :: a16 :: a17 :: a18 :: a19 :: a20 :: a21 :: a22 :: a23 :: some x :: r) H fun y H1 => ti x y H1 fun z H2 => SetK (a0 :: a1 :: a2 :: a3 :: a4 :: a5 :: a6 :: a7 :: a8 :: a9 :: a10 :: a11 :: a12 :: a13 :: a14 :: a15 :: a16 :: a17 :: a18 :: a19 :: a20 :: a21 :: a22 :: a23 :: some x :: r) 24 nx z H2) : tAug 24 te ti ⟨nx, rt, bk, ct⟩ (a0 :: a1 :: a2 :: a3 :: a4 :: a5 :: a6 :: a7 :: a8 :: a9 :: a10 :: a11 :: a12 :: a13 :: a14 :: a15 :: a16 :: a17 :: a18 :: a19 :: a20 :: a21 :: a22 :: a23 :: some x :: r) H := ⟨x, rfl, h⟩
theorem setk25 {a0 a1 a2 a3 a4 a5 a6 a7 a8 a9 a10 a11 a12 a13 a14 a15 a16 a17 a18 a19 a20 a21 a22 a23 a24 a25 : Option V} {r : L2.St} {nx : L2.St → Hp → Prop} {x : V} {H : Hp} (h : nx (a0 :: a1 :: a2 :: a3 :: a4 :: a5 :: a6 :: a7 :: a8 :: a9 :: a10 :: a11 :: a12 :: a13 :: a14 :: a15 :: a16 :: a17 :: a18 :: a19 :: a20 :: a21 :: a22 :: a23 :: a24 :: some x :: r) H) : SetK (a0 :: a1 :: a2 :: a3 :: a4 :: a5 :: a6 :: a7 :: a8 :: a9 :: a10 :: a11 :: a12 :: a13 :: a14 :: a15 :: a16 :: a17 :: a18 :: a19 :: a20 :: a21 :: a22 :: a23 :: a24 :: a25 :: r) 25 nx x H := h
theorem var25 {a0 a1 a2 a3 a4 a5 a6 a7 a8 a9 a10 a11 a12 a13 a14 a15 a16 a17 a18 a19 a20 a21 a22 a23 a24 : Option V} {r : L2.St} {v : V} {Q : VK} {H : Hp} (h : Q v H) : tVar 25 (a0 :: a1 :: a2 :: a3 :: a4 :: a5 :: a6 :: a7 :: a8 :: a9 :: a10 :: a11 :: a12 :: a13 :: a14 :: a15 :: a16 :: a17 :: a18 :: a19 :: a20 :: a21 :: a22 :: a23 :: a24 :: some v :: r) H Q := ⟨v, rfl, h⟩
theorem aug25 {a0 a1 a2 a3 a4 a5 a6 a7 a8 a9 a10 a11 a12 a13 a14 a15 a16 a17 a18 a19 a20 a21 a22 a23 a24 : Option V} {r : L2.St} {x : V} {te : TE} {ti : TIp} {nx bk ct : L2.St → Hp → Prop} {rt : VK} {H : Hp} (h : te (a0 :: a1 :: a2 :: a3 :: a4 :: a5 :: a6 :: a7 :: a8 :: a9 :: a10 :: a11 :: a12 :: a13 :: a14 :: a15 :: a16 :: a17 :: a18 :: a19 :: a20 :: a21 :: a22 :: a23 :: a24 :: some x :: r) H fun y H1 => ti x y H1 fun z H2 => SetK (a0 :: a1 :: a2 :: a3 :: a4 :: a5 :: a6 :: a7 :: a8 :: a9 :: a10 :: a11 :: a12 :: a13 :: a14 :: a15 :: a16 :: a17 :: a18 :: a19 :: a20 :: a21 :: a22 :: a23 :: a24 :: some x :: r) 25 nx z H2) : tAug 25 te ti ⟨nx, rt, bk, ct⟩ (a0 :: a1 :: a2 :: a3 :: a4 :: a5 :: a6 :: a7 :: a8 :: a9 :: a10 :: a11 :: a12 :: a13 :: a14 :: a15 :: a16 :: a17 :: a18 :: a19 :: a20 :: a21 :: a22 :: a23 :: a24 :: some x :: r) H := ⟨x, rfl, h⟩
end Sw
set_option Elab.async false
set_option linter.all false
set_option maxRecDepth 100000
set_option maxHeartbeats 4000000
/-! Sw1: loops, comprehensions, built-ins. -/
namespace Sw
open PySem PySem.Spec PyProof.Rows L2
section
variable {H0 : Hp} {ex : List Addr} {H : Hp} {L : List (Addr × HO)} {K : PySem.W.Frag} {σ : L2.St} {Q : VK} {QT : Bool → Hp → Prop} {xs ys : List V} {p a : Addr} {g : TG} {tt : TT} {te tl : TE} {tb : TS} {vs : List Nat} {wi : TI} {R : It → Hp → Prop}
  {nx ct bk : L2.St → Hp → Prop} {rt : VK} {x y v : V}

/-! ### what is walked -/
def Rng1K (R : It → Hp → Prop) (vs : List V) (H : Hp) : Prop := ∃ j : Int, vs = [.int j] ∧ -(2 ^ 62) ≤ j ∧ j < 2 ^ 62 ∧ R (Itr 0 j.toNat) H
def Rng2K (R : It → Hp → Prop) (vs : List V) (H : Hp) : Prop := ∃ i j : Int, vs = [.int i, .int j] ∧ (-(2 ^ 62) ≤ i ∧ i < 2 ^ 62 ∧ -(2 ^ 62) ≤ j ∧ j < 2 ^ 62) ∧ R (Itr i (j - i).toNat) H
theorem rng1_ {ta : TA} (h : ta σ H fun vs H1 => Rng1K R vs H1) : iRng1 ta σ H R := h
theorem rng2_ {ta : TA} (h : ta σ H fun vs H1 => Rng2K R vs H1) : iRng2 ta σ H R := h
theorem rng1k {j : Int} (b : -(2 ^ 62) ≤ j ∧ j < 2 ^ 62) (h : R (Itr 0 j.toNat) H) : Rng1K R [.int j] H := ⟨j, rfl, b.1, b.2, h⟩
theorem rng2k {i j : Int} (b : -(2 ^ 62) ≤ i ∧ i < 2 ^ 62 ∧ -(2 ^ 62) ≤ j ∧ j < 2 ^ 62) (h : R (Itr i (j - i).toNat) H) : Rng2K R [.int i, .int j] H := ⟨i, j, rfl, b, h⟩
def IListK (K : PySem.W.Frag) (R : It → Hp → Prop) (x : V) (H1 : Hp) : Prop := ∃ a, x = .ref a ∧ (∃ xs, SqL K H1 a xs) ∧ R (Itl K a) H1
def ITupK (K : PySem.W.Frag) (R : It → Hp → Prop) (x : V) (H1 : Hp) : Prop := ∃ a, x = .ref a ∧ (∃ xs, SqT K H1 a xs) ∧ R (Itt K a) H1
theorem ilist_ (h : tl σ H fun x H1 => IListK K R x H1) : iList K tl σ H R := h
theorem itup_ (h : tl σ H fun x H1 => ITupK K R x H1) : iTup K tl σ H R := h
theorem ilistk (hs : SqL K H a xs) (h : R (Itl K a) H) : IListK K R (.ref a) H := ⟨a, rfl, ⟨xs, hs⟩, h⟩
theorem itupk (hs : SqT K H a xs) (h : R (Itt K a) H) : ITupK K R (.ref a) H := ⟨a, rfl, ⟨xs, hs⟩, h⟩

/-! ### for -/
def ForK (g : TG) (tb : TS) (nx : L2.St → Hp → Prop) (rt : VK) (σ : L2.St) (J : It) (H1 : Hp) : Prop := ∃ W : Nat → Nat → L2.St → Hp → Prop, (∃ m, W 0 m σ H1) ∧ ∀ i m σ H, W i m σ H →
  (J.stop i H ∧ nx σ H) ∨ (J.go i H ∧ ∃ N : L2.St → Hp → Prop, (∀ σ' H', N σ' H' → ∃ m', m' < m ∧ W (i + 1) m' σ' H') ∧ ∀ x H', J.yld i H x H' → g x σ H' fun σ2 H2 => tb ⟨N, rt, nx, N⟩ σ2 H2)
theorem for_ (h : wi σ H fun J H1 => ForK g tb nx rt σ J H1) : tFor wi g tb ⟨nx, rt, bk, ct⟩ σ H := h
theorem fork_rng {lo : Int} {n : Nat} (Pv : Nat → L2.St → Hp → Prop) (h0 : Pv 0 σ H) (hs : ∀ i σ H, i < n → Pv i σ H → g (.int (lo + i)) σ H fun σ2 H2 => tb ⟨Pv (i + 1), rt, nx, Pv (i + 1)⟩ σ2 H2) (hd : ∀ σ H, Pv n σ H → nx σ H) : ForK g tb nx rt σ (Itr lo n) H :=
  for_range (D := ⟨nx, rt, fun _ _ => False, fun _ _ => False⟩) Pv h0 hs hd
theorem fork_list (Pv : Nat → L2.St → Hp → Prop) (h0 : Pv 0 σ H) (hl : ∀ i σ H, i ≤ xs.length → Pv i σ H → SqL K H a xs) (hs : ∀ i x σ H, xs[i]? = some x → Pv i σ H → g x σ H fun σ2 H2 => tb ⟨Pv (i + 1), rt, nx, Pv (i + 1)⟩ σ2 H2)
    (hd : ∀ σ H, Pv xs.length σ H → nx σ H) : ForK g tb nx rt σ (Itl K a) H :=
  for_list (D := ⟨nx, rt, fun _ _ => False, fun _ _ => False⟩) Pv h0 hl hs hd
theorem fork_tup (Pv : Nat → L2.St → Hp → Prop) (h0 : Pv 0 σ H) (hl : ∀ i σ H, i ≤ xs.length → Pv i σ H → SqT K H a xs) (hs : ∀ i x σ H, xs[i]? = some x → Pv i σ H → g x σ H fun σ2 H2 => tb ⟨Pv (i + 1), rt, nx, Pv (i + 1)⟩ σ2 H2)
    (hd : ∀ σ H, Pv xs.length σ H → nx σ H) : ForK g tb nx rt σ (Itt K a) H :=
  for_tup (D := ⟨nx, rt, fun _ _ => False, fun _ _ => False⟩) Pv h0 hl hs hd
theorem gn_ {i : Nat} {Qs : L2.St → Hp → Prop} (h : SetK σ i Qs x H) : gName i x σ H Qs := h
theorem gt2_ {i j : Nat} {x y : V} {Qs : L2.St → Hp → Prop} (hs : SqT K H a [x, y]) (h : SetK σ i (fun σ1 H1 => SetK σ1 j Qs y H1) x H) : gTup K 2 (gCons (gName i) (gCons (gName j) gNil)) (.ref a) σ H Qs := ⟨a, [x, y], rfl, hs, rfl, x, [y], rfl, y, [], rfl, rfl, h⟩
theorem gt3_ {i j k : Nat} {x y z : V} {Qs : L2.St → Hp → Prop} (hs : SqT K H a [x, y, z]) (h : SetK σ i (fun σ1 H1 => SetK σ1 j (fun σ2 H2 => SetK σ2 k Qs z H2) y H1) x H) : gTup K 3 (gCons (gName i) (gCons (gName j) (gCons (gName k) gNil))) (.ref a) σ H Qs := ⟨a, [x, y, z], rfl, hs, rfl, x, [y, z], rfl, y, [z], rfl, z, [], rfl, rfl, h⟩
theorem gasg_ {g : TG} (h : g x σ H nx) : AsgK g σ nx x H := h
def ParK (i j : Nat) (σ : L2.St) (nx : L2.St → Hp → Prop) (vs : List V) (H1 : Hp) : Prop := ∃ v w, vs = [v, w] ∧ nx ((σ.set i (some v)).set j (some w)) H1
theorem par_ {i j : Nat} {ta : TA} (h : ta σ H fun vs H1 => ParK i j σ nx vs H1) : tPar i j ta ⟨nx, rt, bk, ct⟩ σ H := h
theorem park {i j : Nat} (h : SetK σ i (fun σ1 H1 => SetK σ1 j nx y H1) x H) : ParK i j σ nx [x, y] H := ⟨x, y, rfl, h⟩

/-! ### comprehensions -/
def CInv (H0 : Hp) (ex : List Addr) (P : Nat → Addr → List V → List (Addr × HO) → Prop) (D : Addr) (i : Nat) (H : Hp) : Prop :=
  ∃ acc L, acc.length ≤ i ∧ (D, HO.lst acc) ∈ L ∧ P i D acc L ∧ Has H0 ex H L
def LcN (D : Addr) (Nx : Hp → Prop) (y : V) (H4 : Hp) : Prop := ∃ acc, H4 D = some (.lst acc) ∧ acc.length < sizeLine ∧ Nx (upd H4 D (.lst (acc ++ [y])))
def LcT (vs : List Nat) (σ : L2.St) (tt : TT) (te : TE) (Nx : Hp → Prop) (D : Addr) (σ2 : L2.St) (H2 : Hp) : Prop :=
  wipe σ2 vs = wipe σ vs ∧ tt σ2 H2 fun b H3 => if b = true then te σ2 H3 (fun y H4 => LcN D Nx y H4) else Nx H3
def LcK (g : TG) (tt : TT) (te : TE) (vs : List Nat) (σ : L2.St) (Q : VK) (J : It) (H1 : Hp) : Prop := ∀ D, H1 D = none → ∃ W : Nat → Nat → Hp → Prop, (∃ m, W 0 m (upd H1 D (.lst []))) ∧ ∀ i m H, W i m H →
  (J.stop i H ∧ Q (.ref D) H) ∨ (J.go i H ∧ ∃ Nx : Hp → Prop, (∀ H', Nx H' → ∃ m', m' < m ∧ W (i + 1) m' H') ∧ ∀ x H', J.yld i H x H' → g x (wipe σ vs) H' fun σ2 H2 => LcT vs σ tt te Nx D σ2 H2)
theorem lc_ (h : wi σ H fun J H1 => LcK g tt te vs σ Q J H1) : tLc wi g tt te vs σ H Q := h
theorem yes_ (h : QT true H) : tYes σ H QT := h
theorem lct {σ2 : L2.St} {H2 : Hp} {D : Addr} {Nx : Hp → Prop} (e : wipe σ2 vs = wipe σ vs) (h : tt σ2 H2 fun b H3 => if b = true then te σ2 H3 (fun y H4 => LcN D Nx y H4) else Nx H3) : LcT vs σ tt te Nx D σ2 H2 := ⟨e, h⟩
theorem freshD {D : Addr} (h : Has H0 ex H L) (n : H D = none) : D ∈ ex ∨ H0 D = none := by
  by_cases m : D ∈ ex
  · exact .inl m
  · refine .inr ?_
    cases e : H0 D with
    | none => rfl
    | some o =>
      rw [h.keep D o e m] at n
      cases n
theorem lcn {D : Addr} {P : Nat → Addr → List V → List (Addr × HO) → Prop} {i : Nat} {acc : List V} {L4 L4' L5 : List (Addr × HO)} (hH : Has H0 ex H L4) (hD : D ∈ ex ∨ H0 D = none) (pt : Put L4 D (.lst acc) (.lst (acc ++ [y])) L4') (hl : acc.length ≤ i) (hi : i ≤ 100000)
    (sb : L5.Sublist L4') (hm : (D, HO.lst (acc ++ [y])) ∈ L5) (p : P (i + 1) D (acc ++ [y]) L5) : LcN D (CInv H0 ex P D (i + 1)) y H := by
  refine ⟨acc, hH.at pt.mem.1, Nat.lt_of_le_of_lt (Nat.le_trans hl hi) (by decide), acc ++ [y], L5, ?_, hm, p, (hH.put pt hD).sub sb⟩
  rw [List.length_append]
  exact Nat.add_le_add_right hl 1
theorem lck_rng {lo : Int} {n : Nat} (hH : Has H0 ex H L) (P : Nat → Addr → List V → List (Addr × HO) → Prop) (p0 : ∀ D, P 0 D [] ((D, .lst []) :: L))
    (turn : ∀ i D acc M H', i < n → (D ∈ ex ∨ H0 D = none) → acc.length ≤ i → (D, HO.lst acc) ∈ M → P i D acc M → Has H0 ex H' M → g (.int (lo + i)) (wipe σ vs) H' fun σ2 H2 => LcT vs σ tt te (CInv H0 ex P D (i + 1)) D σ2 H2)
    (done : ∀ D acc M H', acc.length ≤ n → (D, HO.lst acc) ∈ M → P n D acc M → Has H0 ex H' M → Q (.ref D) H') : LcK g tt te vs σ Q (Itr lo n) H := by
  intro D hD
  refine lc_range (D := D) (vs := vs) (σ := σ) (g := g) (tt := tt) (te := te) (CInv H0 ex P D) ⟨[], _, Nat.le_refl 0, List.mem_cons_self, p0 D, hH.new hD⟩ (fun i H hi hp => ?_) (fun H hp => ?_)
  · obtain ⟨acc, M, h1, h2, h3, h4⟩ := hp
    exact turn i D acc M H hi (freshD hH hD) h1 h2 h3 h4
  · obtain ⟨acc, M, h1, h2, h3, h4⟩ := hp
    exact done D acc M H h1 h2 h3 h4
theorem lck_list (hH : Has H0 ex H L) (P : Nat → Addr → List V → List (Addr × HO) → Prop) (p0 : ∀ D, P 0 D [] ((D, .lst []) :: L))
    (hl : ∀ i D acc M H', (D, HO.lst acc) ∈ M → P i D acc M → Has H0 ex H' M → SqL K H' a xs)
    (turn : ∀ i x D acc M H', xs[i]? = some x → (D ∈ ex ∨ H0 D = none) → acc.length ≤ i → (D, HO.lst acc) ∈ M → P i D acc M → Has H0 ex H' M → g x (wipe σ vs) H' fun σ2 H2 => LcT vs σ tt te (CInv H0 ex P D (i + 1)) D σ2 H2)
    (done : ∀ D acc M H', acc.length ≤ xs.length → (D, HO.lst acc) ∈ M → P xs.length D acc M → Has H0 ex H' M → Q (.ref D) H') : LcK g tt te vs σ Q (Itl K a) H := by
  intro D hD
  refine lc_list (xs := xs) (D := D) (vs := vs) (σ := σ) (g := g) (tt := tt) (te := te) (CInv H0 ex P D) ⟨[], _, Nat.le_refl 0, List.mem_cons_self, p0 D, hH.new hD⟩ (fun i H _ hp => ?_) (fun i x H hi hp => ?_) (fun H hp => ?_)
  · obtain ⟨acc, M, h1, h2, h3, h4⟩ := hp
    exact hl i D acc M H h2 h3 h4
  · obtain ⟨acc, M, h1, h2, h3, h4⟩ := hp
    exact turn i x D acc M H hi (freshD hH hD) h1 h2 h3 h4
  · obtain ⟨acc, M, h1, h2, h3, h4⟩ := hp
    exact done D acc M H h1 h2 h3 h4
theorem lck_tup (hH : Has H0 ex H L) (P : Nat → Addr → List V → List (Addr × HO) → Prop) (p0 : ∀ D, P 0 D [] ((D, .lst []) :: L))
    (hl : ∀ i D acc M H', (D, HO.lst acc) ∈ M → P i D acc M → Has H0 ex H' M → SqT K H' a xs)
    (turn : ∀ i x D acc M H', xs[i]? = some x → (D ∈ ex ∨ H0 D = none) → acc.length ≤ i → (D, HO.lst acc) ∈ M → P i D acc M → Has H0 ex H' M → g x (wipe σ vs) H' fun σ2 H2 => LcT vs σ tt te (CInv H0 ex P D (i + 1)) D σ2 H2)
    (done : ∀ D acc M H', acc.length ≤ xs.length → (D, HO.lst acc) ∈ M → P xs.length D acc M → Has H0 ex H' M → Q (.ref D) H') : LcK g tt te vs σ Q (Itt K a) H := by
  intro D hD
  refine lc_tup (xs := xs) (D := D) (vs := vs) (σ := σ) (g := g) (tt := tt) (te := te) (CInv H0 ex P D) ⟨[], _, Nat.le_refl 0, List.mem_cons_self, p0 D, hH.new hD⟩ (fun i H _ hp => ?_) (fun i x H hi hp => ?_) (fun H hp => ?_)
  · obtain ⟨acc, M, h1, h2, h3, h4⟩ := hp
    exact hl i D acc M H h2 h3 h4
  · obtain ⟨acc, M, h1, h2, h3, h4⟩ := hp
    exact turn i x D acc M H hi (freshD hH hD) h1 h2 h3 h4
  · obtain ⟨acc, M, h1, h2, h3, h4⟩ := hp
    exact done D acc M H h1 h2 h3 h4

/-! ### slices -/
def tPartK (Qo : Option Int → Hp → Prop) (x : V) (H : Hp) : Prop := ∃ i, x = .int i ∧ Qo (some i) H
def rSlU (K : PySem.W.Frag) : V → Option Int → Option Int → Hp → VK → Prop := fun x lo hi H Q => rSlL K x lo hi H Q ∨ rSlT K x lo hi H Q ∨ rSlS x lo hi H Q
theorem sl_seq {X : Cx} : SlR X (rSlU X.K) := sl_list.or (sl_tup.or sl_str)
theorem part_ {Qo : Option Int → Hp → Prop} (h : te σ H fun x H1 => tPartK Qo x H1) : tPart te σ H Qo := h
theorem partk {Qo : Option Int → Hp → Prop} {i : Int} (h : Qo (some i) H) : tPartK Qo (.int i) H := ⟨i, rfl, h⟩
theorem nopart_ {Qo : Option Int → Hp → Prop} (h : Qo none H) : tNoPart σ H Qo := h
theorem sl_ {r : V → Option Int → Option Int → Hp → VK → Prop} {tl th : TO} (h : te σ H fun x H1 => tl σ H1 fun l H2 => th σ H2 fun u H3 => r x l u H3 Q) : tSl r te tl th σ H Q := h
theorem slL {lo hi : Option Int} (hH : Has H0 ex H L) (hs : SqL K H a xs) (h : ∀ p H', H p = none → Has H0 ex H' ((p, .lst (cutV xs lo hi)) :: L) → Q (.ref p) H') : rSlU K (.ref a) lo hi H Q := .inl ⟨a, xs, rfl, hs, fun p n => h p _ n (hH.new n)⟩
theorem slT {lo hi : Option Int} (hH : Has H0 ex H L) (hs : SqT K H a xs) (hn : ¬ (HT.sIx xs.length 0 lo = 0 ∧ HT.sIx xs.length xs.length hi = xs.length)) (h : ∀ p H', H p = none → Has H0 ex H' ((p, .tup (cutV xs lo hi)) :: L) → Q (.ref p) H') : rSlU K (.ref a) lo hi H Q :=
  .inr (.inl ⟨a, xs, rfl, hs, hn, fun p n => h p _ n (hH.new n)⟩)
theorem slS {lo hi : Option Int} {z : Str} (hz : z.length ≤ sizeLine) (h : Q (.str (cutS z lo hi)) H) : rSlU K (.str z) lo hi H Q := .inr (.inr ⟨z, rfl, hz, h⟩)
theorem cut1 (x : V) (xs : List V) : cutV (x :: xs) (some 1) none = xs := by
  unfold cutV
  rw [show HT.sIx (x :: xs).length 0 (some 1) = min 1 (x :: xs).length from HT.sIx_nat _ 0 1, HT.sIx_none]
  rw [show min 1 (x :: xs).length = 1 by rw [List.length_cons]; omega]
  show (List.take ((x :: xs).length - 1) xs) = xs
  rw [List.length_cons, Nat.add_sub_cancel]
  exact List.take_length

/-! ### built-ins -/
theorem isi {t u : Value} {c : V} {b : Bool} (k : ClsV c u) (ty : TyX K H x t) (e : PySem.W.kitOne K t u = some b) (h : Q (.bl b) H) : rIsi K [x, c] H Q := ⟨x, c, t, u, b, rfl, k, ty, e, h⟩
theorem isi_str {z : Str} (h : Q (.bl true) H) : rIsi K [.str z, .ty "str"] H Q := isi (.ty _) (.base (.str z)) (kit_ty (by decide +kernel)) h
theorem inL {neg : Bool} (hs : SqL K H a xs) (hx : flatV x = true) (hf : xs.all flatV = true) (h : Q (.bl (if neg then !inV x xs else inV x xs)) H) : rIn K neg x (.ref a) H Q := ⟨a, xs, rfl, .inl hs, hx, hf, h⟩
theorem inT {neg : Bool} (hs : SqT K H a xs) (hx : flatV x = true) (hf : xs.all flatV = true) (h : Q (.bl (if neg then !inV x xs else inV x xs)) H) : rIn K neg x (.ref a) H Q := ⟨a, xs, rfl, .inr hs, hx, hf, h⟩
def rLen (K : PySem.W.Frag) : List V → Hp → VK → Prop := fun xs H Q => ∃ x n, xs = [x] ∧ LenV K x H n ∧ Q (.int n) H
theorem call_lenN {X : Cx} : CallR X (.builtin "len") (rLen X.K) := call_len
theorem lenL (hs : SqL K H a xs) (h : Q (.int xs.length) H) : rLen K [.ref a] H Q := ⟨_, _, rfl, .inl ⟨xs, hs, rfl⟩, h⟩
theorem lenT (hs : SqT K H a xs) (h : Q (.int xs.length) H) : rLen K [.ref a] H Q := ⟨_, _, rfl, .inr ⟨xs, hs, rfl⟩, h⟩
theorem lenS {z : Str} (hz : z.length ≤ sizeLine) (h : Q (.int z.length) H) : rLen K [.str z] H Q := ⟨_, _, rfl, ⟨hz, rfl⟩, h⟩
def rInt1 : List V → Hp → VK → Prop := fun xs H Q => (∃ i, xs = [.int i] ∧ Q (.int i) H) ∨ ∃ k, xs = [.bl k] ∧ Q (.int (if k then 1 else 0)) H
theorem call_intN {X : Cx} : CallR X (.type "int") rInt1 := call_int1
theorem int1 {i : Int} (h : Q (.int i) H) : rInt1 [.int i] H Q := .inl ⟨i, rfl, h⟩
def rStrI : List V → Hp → VK → Prop := fun xs H Q => ∃ i : Int, xs = [.int i] ∧ i.natAbs.log2 < 1920 ∧ Q (.str (toString i)) H
theorem call_strN {X : Cx} : CallR X (.type "str") rStrI := call_str_int
theorem strI {i : Int} (b : i.natAbs.log2 < 1920) (h : Q (.str (toString i)) H) : rStrI [.int i] H Q := ⟨i, rfl, b, h⟩
theorem all_ {bs : List Bool} (hs : SqL K H a (bs.map V.bl)) (h : Q (.bl (bs.all id)) H) : rAll K [.ref a] H Q := ⟨a, bs, rfl, hs, h⟩
theorem any_ {bs : List Bool} (hs : SqL K H a (bs.map V.bl)) (h : Q (.bl (bs.any id)) H) : rAny K [.ref a] H Q := ⟨a, bs, rfl, hs, h⟩
def rMin2 : List V → Hp → VK → Prop := fun xs H Q => ∃ i j : Int, xs = [.int i, .int j] ∧ Q (.int (if j < i then j else i)) H
def rMax2 : List V → Hp → VK → Prop := fun xs H Q => ∃ i j : Int, xs = [.int i, .int j] ∧ Q (.int (if j > i then j else i)) H
theorem call_minN {X : Cx} (hc : X.calm = true) : CallR X (.builtin "min") rMin2 := call_min2 hc
theorem call_maxN {X : Cx} (hc : X.calm = true) : CallR X (.builtin "max") rMax2 := call_max2 hc
theorem min2 {i j : Int} (h : Q (.int (if j < i then j else i)) H) : rMin2 [.int i, .int j] H Q := ⟨i, j, rfl, h⟩
theorem max2 {i j : Int} (h : Q (.int (if j > i then j else i)) H) : rMax2 [.int i, .int j] H Q := ⟨i, j, rfl, h⟩
theorem getL {i : Int} (hs : SqL K H a xs) (e : atI xs i = some v) (h : Q v H) : rIxL K (.ref a) (.int i) H Q := ⟨a, xs, i, v, rfl, rfl, hs, e, h⟩
def rSetK : V → V → V → Hp → (Hp → Prop) → Prop := rSetL
theorem setL {L' : List (Addr × HO)} {i : Int} {j : Nat} {Qh : Hp → Prop} (hH : Has H0 ex H L) (hj : ixN xs.length i = some j) (pt : Put L a (.lst xs) (.lst (xs.set j y)) L') (f : a ∈ ex ∨ H0 a = none) (h : ∀ H', Has H0 ex H' L' → Qh H') : rSetL (.ref a) (.int i) y H Qh :=
  ⟨a, xs, i, j, rfl, rfl, hH.at pt.mem.1, hj, h _ (hH.put pt f)⟩
end
theorem at0 {α : Type} {a0 : α} {r : List α} : atI (a0 :: r) 0 = some a0 := atI_nat (j := 0) rfl
theorem at1 {α : Type} {a0 a1 : α} {r : List α} : atI (a0 :: a1 :: r) 1 = some a1 := atI_nat (j := 1) rfl
theorem at2 {α : Type} {a0 a1 a2 : α} {r : List α} : atI (a0 :: a1 :: a2 :: r) 2 = some a2 := atI_nat (j := 2) rfl
theorem at3 {α : Type} {a0 a1 a2 a3 : α} {r : List α} : atI (a0 :: a1 :: a2 :: a3 :: r) 3 = some a3 := atI_nat (j := 3) rfl
theorem at4 {α : Type} {a0 a1 a2 a3 a4 : α} {r : List α} : atI (a0 :: a1 :: a2 :: a3 :: a4 :: r) 4 = some a4 := atI_nat (j := 4) rfl
theorem at5 {α : Type} {a0 a1 a2 a3 a4 a5 : α} {r : List α} : atI (a0 :: a1 :: a2 :: a3 :: a4 :: a5 :: r) 5 = some a5 := atI_nat (j := 5) rfl
theorem at6 {α : Type} {a0 a1 a2 a3 a4 a5 a6 : α} {r : List α} : atI (a0 :: a1 :: a2 :: a3 :: a4 :: a5 :: a6 :: r) 6 = some a6 := atI_nat (j := 6) rfl
theorem at7 {α : Type} {a0 a1 a2 a3 a4 a5 a6 a7 : α} {r : List α} : atI (a0 :: a1 :: a2 :: a3 :: a4 :: a5 :: a6 :: a7 :: r) 7 = some a7 := atI_nat (j := 7) rfl
theorem at8 {α : Type} {a0 a1 a2 a3 a4 a5 a6 a7 a8 : α} {r : List α} : atI (a0 :: a1 :: a2 :: a3 :: a4 :: a5 :: a6 :: a7 :: a8 :: r) 8 = some a8 := atI_nat (j := 8) rfl
theorem at9 {α : Type} {a0 a1 a2 a3 a4 a5 a6 a7 a8 a9 : α} {r : List α} : atI (a0 :: a1 :: a2 :: a3 :: a4 :: a5 :: a6 :: a7 :: a8 :: a9 :: r) 9 = some a9 := atI_nat (j := 9) rfl
theorem flat_strs (ns : List Str) : (ns.map V.str).all flatV = true := by
  rw [List.all_map]
  exact List.all_eq_true.mpr fun _ _ => rfl
theorem slT1 {H0 : Hp} {ex : List Addr} {H : Hp} {L : List (Addr × HO)} {K : PySem.W.Frag} {Q : VK} {xs : List V} {a : Addr} {x : V} (hH : Has H0 ex H L) (hs : SqT K H a (x :: xs)) (h : ∀ p H', H p = none → Has H0 ex H' ((p, .tup xs) :: L) → Q (.ref p) H') : rSlU K (.ref a) (some 1) none H Q := by
  refine slT hH hs (fun z => ?_) fun p H' n h' => h p H' n (by rw [← cut1 x xs]; exact h')
  have z1 := z.1
  rw [show HT.sIx (x :: xs).length 0 (some 1) = min 1 (x :: xs).length from HT.sIx_nat _ 0 1, List.length_cons] at z1
  omega
theorem snoc_str (ws : List Str) (x : Str) : ws.map V.str ++ [V.str x] = (ws ++ [x]).map V.str := by rw [List.map_append]; rfl
theorem map_range_succ {α : Type} (f : Nat → α) (i : Nat) : (List.range (i + 1)).map f = (List.range i).map f ++ [f i] := by
  rw [List.range_succ, List.map_append]
  rfl
/-! ### data -/
theorem dp_ints {K : PySem.W.Frag} {H : Hp} : ∀ ns : List Int, DpAll K H (ns.map V.int) (ns.map PyData.int)
  | [] => .nil
  | n :: ns => .cons (.int n) (dp_ints ns)
theorem eqv_ints_nil (ns : List Int) : PyData.eqv (.list (ns.map PyData.int)) (.list []) = decide (ns = []) := by
  cases ns with
  | nil => rfl
  | cons n ns => rfl
theorem rIx_L {K : PySem.W.Frag} {H : Hp} {Q : VK} {xs : List V} {a : Addr} {i : Int} {v : V} (hs : SqL K H a xs) (e : atI xs i = some v) (h : Q v H) : rIx K (.ref a) (.int i) H Q := ixL hs e h
theorem at_nat {xs : List V} {i : Int} (h0 : 0 ≤ i) (h1 : i < xs.length) : ∃ v, atI xs i = some v := by
  have hl : i.toNat < xs.length := by omega
  refine ⟨xs[i.toNat], ?_⟩
  have := atI_nat (j := i.toNat) (List.getElem?_eq_getElem hl)
  rwa [show ((i.toNat : Nat) : Int) = i by omega] at this
theorem fmod_lt {i j : Int} (h : 0 < j) : 0 ≤ i.fmod j ∧ i.fmod j < j := ⟨Int.fmod_nonneg_of_pos i h, Int.fmod_lt_of_pos i h⟩
section
variable {H : Hp} {Q : VK} {a b : Int}
theorem modP (c : 0 < b) (h : ∀ r : Int, 0 ≤ r → r < b → Q (.int r) H) : rI (fun x j => j ≠ 0) (fun i j => .int (i.fmod j)) (.int a) (.int b) H Q :=
  ⟨a, b, rfl, rfl, Int.ne_of_gt c, h _ (fmod_lt c).1 (fmod_lt c).2⟩
theorem divP (c : 0 < b ∧ b < 1073741824) (h : ∀ r : Int, (0 ≤ a → 0 ≤ r ∧ r ≤ a) → Q (.int r) H) : rI CDivN (fun i j => .int (i.fdiv j)) (.int a) (.int b) H Q :=
  ⟨a, b, rfl, rfl, ⟨Int.ne_of_gt c.1, by omega⟩, h _ fun ha => by
    rw [Int.fdiv_eq_ediv_of_nonneg a (Int.le_of_lt c.1)]
    exact ⟨Int.ediv_nonneg ha (Int.le_of_lt c.1), Int.ediv_le_self b ha⟩⟩
theorem mulR (c : -18446744073709551616 < b ∧ b < 18446744073709551616) (h : Q (.int (a * b)) H) : rI CMul (fun i j => .int (i * j)) (.int a) (.int b) H Q := ⟨a, b, rfl, rfl, .inr c, h⟩
theorem mulL (c : -18446744073709551616 < a ∧ a < 18446744073709551616) (h : Q (.int (a * b)) H) : rI CMul (fun i j => .int (i * j)) (.int a) (.int b) H Q := ⟨a, b, rfl, rfl, .inl c, h⟩
theorem powP (c : CPow a b) (h : Q (.int (a ^ b.toNat)) H) : rI CPow (fun i j => .int (i ^ j.toNat)) (.int a) (.int b) H Q := ⟨a, b, rfl, rfl, c, h⟩
end
theorem setL21 {H0 : Hp} {ex : List Addr} {H : Hp} {L L' : List (Addr × HO)} {a : Addr} {u v y : V} {Qh : Hp → Prop} (hH : Has H0 ex H L) (pt : Put L a (.lst [u, v]) (.lst [u, y]) L') (f : a ∈ ex ∨ H0 a = none) (h : ∀ H', Has H0 ex H' L' → Qh H') : rSetL (.ref a) (.int 1) y H Qh := setL (xs := [u, v]) (j := 1) hH rfl pt f h
theorem natAbs_log2_small {i : Int} (h : -1000000 ≤ i ∧ i ≤ 1000000) : i.natAbs.log2 < 1920 := by
  by_cases z : i.natAbs = 0
  · rw [z]; decide
  · rw [Nat.log2_lt z]
    have : i.natAbs ≤ 1000000 := by omega
    exact Nat.lt_of_le_of_lt this (Nat.lt_of_lt_of_le (by decide : 1000000 < 2 ^ 20) (Nat.pow_le_pow_right (by decide) (by decide)))
theorem min2P {i j : Int} {Q : VK} {H : Hp} (h : ∀ m : Int, m ≤ i → m ≤ j → (m = i ∨ m = j) → Q (.int m) H) : rMin2 [.int i, .int j] H Q := min2 (h _ (by split <;> omega) (by split <;> omega) (by split <;> simp))
theorem max2P {i j : Int} {Q : VK} {H : Hp} (h : ∀ m : Int, i ≤ m → j ≤ m → (m = i ∨ m = j) → Q (.int m) H) : rMax2 [.int i, .int j] H Q := max2 (h _ (by split <;> omega) (by split <;> omega) (by split <;> simp))
theorem strP {i : Int} {Q : VK} {H : Hp} (c : -1000000 ≤ i ∧ i ≤ 1000000) (h : ∀ x : Str, x = toString i → x.length ≤ 1921 → Q (.str x) H) : rStrI [.int i] H Q :=
  strI (natAbs_log2_small c) (h _ rfl (int_text_len_1921 (natAbs_log2_small c)))
theorem addSP {K : PySem.W.Frag} {s t : Str} {Q : VK} {H : Hp} (hs : s.length ≤ 5000000) (ht : t.length ≤ 5000000) (h : Q (.str (s ++ t)) H) : rAddU K (.str s) (.str t) H Q := addS (by rw [sizeLine_eq]; omega) h
/-! ### the written part by its name -/
section
variable {X : Cx} {K : PySem.W.Frag}
theorem k_eq (hK : X.K = K) (hu : X.A.units + 64 < cLine) : OpR X (compareOp .Eq) (rEqU K) := hK ▸ op_eqU hu
theorem k_ne (hK : X.K = K) (hu : X.A.units + 64 < cLine) : OpR X (compareOp .NotEq) (rNeU K) := hK ▸ op_neU hu
theorem k_add (hK : X.K = K) : OpR X (binaryOp .Add) (rAddU K) := hK ▸ op_addU
theorem k_ix (hK : X.K = K) : IxR X (rIx K) := hK ▸ ix_seq
theorem k_len (hK : X.K = K) : CallR X (.builtin "len") (rLen K) := hK ▸ call_lenN
theorem k_all (hK : X.K = K) (hc : X.calm = true) : CallR X (.builtin "all") (rAll K) := hK ▸ cr_all hc
theorem k_any (hK : X.K = K) (hc : X.calm = true) : CallR X (.builtin "any") (rAny K) := hK ▸ cr_any hc
theorem k_in (hK : X.K = K) : OpR X (compareOp .In) (rIn K false) := hK ▸ op_in_seq
theorem k_notIn (hK : X.K = K) : OpR X (compareOp .NotIn) (rIn K true) := hK ▸ op_notIn_seq
theorem k_sl (hK : X.K = K) : SlR X (rSlU K) := hK ▸ sl_seq
theorem k_isi (hK : X.K = K) : CallR X (.builtin "isinstance") (rIsi K) := hK ▸ call_isi
theorem k_isiT (hK : X.K = K) : CallR X (.builtin "isinstance") (rIsiT K) := hK ▸ call_isiT
theorem k_get (hK : X.K = K) : PGet X (rIxL K) := hK ▸ get_list
theorem k_list {tg l : Expr} {tl : TE} (hK : X.K = K) (hl : PE X l tl) : PI X tg l (iList K tl) := hK ▸ pi_list hl
theorem k_tup {tg l : Expr} {tl : TE} (hK : X.K = K) (hl : PE X l tl) : PI X tg l (iTup K tl) := hK ▸ pi_tup hl
theorem k_gtup {es : List Expr} {k : Nat} {pos : Pos} {t : TGs} {n : Nat} (hK : X.K = K) (hc : X.calm = true) (h : PGs X es t) (hn : (assignEach es X.env).length = n := by rfl) (hst : (assignEach es X.env).findIdx? (·.1) = none := by rfl) : PG X (.Tuple es k pos) (gTup K n t) := hK ▸ pg_tup hc h hn hst
def rTupOf (K : PySem.W.Frag) : List V → Hp → VK → Prop := fun xs H Q => ∃ p ys, xs = [.ref p] ∧ ((SqL K H p ys ∧ ∀ l, H l = none → Q (.ref l) (upd H l (.tup ys))) ∨ (SqT K H p ys ∧ Q (.ref p) H))
def rListOf (K : PySem.W.Frag) : List V → Hp → VK → Prop := fun xs H Q => ∃ p ys, xs = [.ref p] ∧ (SqL K H p ys ∨ SqT K H p ys) ∧ ∀ l, H l = none → Q (.ref l) (upd H l (.lst ys))
theorem k_tuple (hK : X.K = K) : CallR X (.type "tuple") (rTupOf K) := hK ▸ call_tuple_of
theorem k_listOf (hK : X.K = K) : CallR X (.type "list") (rListOf K) := hK ▸ call_list_of
end
/-! ### marking in a row -/
/-! ### comprehensions that leave what is known -/
section
variable {H0 : Hp} {ex : List Addr} {H : Hp} {L : List (Addr × HO)} {K : PySem.W.Frag} {σ : L2.St} {Q : VK} {xs : List V} {a : Addr} {g : TG} {tt : TT} {te : TE} {vs : List Nat}
def Sim (P : Nat → List V → Prop) (L : List (Addr × HO)) : Nat → Addr → List V → List (Addr × HO) → Prop := fun i D acc M => P i acc ∧ M = (D, .lst acc) :: L
theorem lcs {D : Addr} {acc : List V} {P : Nat → List V → Prop} {i : Nat} {y : V} {H4 : Hp} {M : List (Addr × HO)} (h : Has H0 ex H4 M) (s : List.Sublist ((D, HO.lst acc) :: L) M) (hD : D ∈ ex ∨ H0 D = none) (hl : acc.length ≤ i) (hi : i ≤ 100000) (p : P (i + 1) (acc ++ [y])) :
    LcN D (CInv H0 ex (Sim P L) D (i + 1)) y H4 := lcn (L5 := (D, .lst (acc ++ [y])) :: L) (h.sub s) hD .here hl hi (List.Sublist.refl _) List.mem_cons_self ⟨p, rfl⟩
/-- no item comes -/
theorem lcz {D : Addr} {acc : List V} {P : Nat → List V → Prop} {i : Nat} {H4 : Hp} {M : List (Addr × HO)} (h : Has H0 ex H4 M) (s : List.Sublist ((D, HO.lst acc) :: L) M) (hl : acc.length ≤ i) (p : P (i + 1) acc) : CInv H0 ex (Sim P L) D (i + 1) H4 :=
  ⟨acc, (D, .lst acc) :: L, Nat.le_succ_of_le hl, List.mem_cons_self, ⟨p, rfl⟩, h.sub s⟩
theorem lcs_tup (hH : Has H0 ex H L) (hs : ∀ H', Has H0 ex H' L → SqT K H' a xs) (P : Nat → List V → Prop) (p0 : P 0 [])
    (turn : ∀ i x D acc H', xs[i]? = some x → (D ∈ ex ∨ H0 D = none) → acc.length ≤ i → P i acc → Has H0 ex H' ((D, .lst acc) :: L) → g x (wipe σ vs) H' fun σ2 H2 => LcT vs σ tt te (CInv H0 ex (Sim P L) D (i + 1)) D σ2 H2)
    (done : ∀ D acc H', acc.length ≤ xs.length → P xs.length acc → Has H0 ex H' ((D, .lst acc) :: L) → Q (.ref D) H') : LcK g tt te vs σ Q (Itt K a) H := by
  refine lck_tup (xs := xs) hH (Sim P L) (fun D => ⟨p0, rfl⟩) (fun i D acc M H' _ hp h => ?_) (fun i x D acc M H' hx hD hl _ hp h => ?_) (fun D acc M H' hl _ hp h => ?_)
  · obtain ⟨_, rfl⟩ := hp
    exact hs H' h.tail
  · obtain ⟨p, rfl⟩ := hp
    exact turn i x D acc H' hx hD hl p h
  · obtain ⟨p, rfl⟩ := hp
    exact done D acc H' hl p h
theorem lcs_list (hH : Has H0 ex H L) (hs : ∀ H', Has H0 ex H' L → SqL K H' a xs) (P : Nat → List V → Prop) (p0 : P 0 [])
    (turn : ∀ i x D acc H', xs[i]? = some x → (D ∈ ex ∨ H0 D = none) → acc.length ≤ i → P i acc → Has H0 ex H' ((D, .lst acc) :: L) → g x (wipe σ vs) H' fun σ2 H2 => LcT vs σ tt te (CInv H0 ex (Sim P L) D (i + 1)) D σ2 H2)
    (done : ∀ D acc H', acc.length ≤ xs.length → P xs.length acc → Has H0 ex H' ((D, .lst acc) :: L) → Q (.ref D) H') : LcK g tt te vs σ Q (Itl K a) H := by
  refine lck_list (xs := xs) hH (Sim P L) (fun D => ⟨p0, rfl⟩) (fun i D acc M H' _ hp h => ?_) (fun i x D acc M H' hx hD hl _ hp h => ?_) (fun D acc M H' hl _ hp h => ?_)
  · obtain ⟨_, rfl⟩ := hp
    exact hs H' h.tail
  · obtain ⟨p, rfl⟩ := hp
    exact turn i x D acc H' hx hD hl p h
  · obtain ⟨p, rfl⟩ := hp
    exact done D acc H' hl p h
theorem lcs_rng {lo : Int} {n : Nat} (hH : Has H0 ex H L) (P : Nat → List V → Prop) (p0 : P 0 [])
    (turn : ∀ i D acc H', i < n → (D ∈ ex ∨ H0 D = none) → acc.length ≤ i → P i acc → Has H0 ex H' ((D, .lst acc) :: L) → g (.int (lo + i)) (wipe σ vs) H' fun σ2 H2 => LcT vs σ tt te (CInv H0 ex (Sim P L) D (i + 1)) D σ2 H2)
    (done : ∀ D acc H', acc.length ≤ n → P n acc → Has H0 ex H' ((D, .lst acc) :: L) → Q (.ref D) H') : LcK g tt te vs σ Q (Itr lo n) H := by
  refine lck_rng hH (Sim P L) (fun D => ⟨p0, rfl⟩) (fun i D acc M H' hx hD hl _ hp h => ?_) (fun D acc M H' hl _ hp h => ?_)
  · obtain ⟨p, rfl⟩ := hp
    exact turn i D acc H' hx hD hl p h
  · obtain ⟨p, rfl⟩ := hp
    exact done D acc H' hl p h
end
/-! ### loops that leave what is known -/
section
variable {H0 : Hp} {ex : List Addr} {H : Hp} {L : List (Addr × HO)} {K : PySem.W.Frag} {σ : L2.St} {Q : VK} {xs : List V} {a : Addr} {g : TG} {tb : TS} {nx : L2.St → Hp → Prop} {rt : VK}
theorem fors_list (hH : Has H0 ex H L) (hs : ∀ H', Has H0 ex H' L → SqL K H' a xs) (Pv : Nat → L2.St → Prop) (h0 : Pv 0 σ)
    (turn : ∀ i x σ H', xs[i]? = some x → Pv i σ → Has H0 ex H' L → g x σ H' fun σ2 H2 => tb ⟨fun σ H => Pv (i + 1) σ ∧ Has H0 ex H L, rt, nx, fun σ H => Pv (i + 1) σ ∧ Has H0 ex H L⟩ σ2 H2)
    (done : ∀ σ H', Pv xs.length σ → Has H0 ex H' L → nx σ H') : ForK g tb nx rt σ (Itl K a) H :=
  fork_list (xs := xs) (fun i σ H => Pv i σ ∧ Has H0 ex H L) ⟨h0, hH⟩ (fun i σ H _ h => hs H h.2) (fun i x σ H hx h => turn i x σ H hx h.1 h.2) (fun σ H h => done σ H h.1 h.2)
theorem fors_tup (hH : Has H0 ex H L) (hs : ∀ H', Has H0 ex H' L → SqT K H' a xs) (Pv : Nat → L2.St → Prop) (h0 : Pv 0 σ)
    (turn : ∀ i x σ H', xs[i]? = some x → Pv i σ → Has H0 ex H' L → g x σ H' fun σ2 H2 => tb ⟨fun σ H => Pv (i + 1) σ ∧ Has H0 ex H L, rt, nx, fun σ H => Pv (i + 1) σ ∧ Has H0 ex H L⟩ σ2 H2)
    (done : ∀ σ H', Pv xs.length σ → Has H0 ex H' L → nx σ H') : ForK g tb nx rt σ (Itt K a) H :=
  fork_tup (xs := xs) (fun i σ H => Pv i σ ∧ Has H0 ex H L) ⟨h0, hH⟩ (fun i σ H _ h => hs H h.2) (fun i x σ H hx h => turn i x σ H hx h.1 h.2) (fun σ H h => done σ H h.1 h.2)
end
def isStr : V → Bool
  | .str _ => true
  | _ => false
theorem isStr_at {xs : List V} (h : xs.all isStr = true) {i : Nat} {x : V} (e : xs[i]? = some x) : ∃ w, x = .str w := by
  have m := List.all_eq_true.mp h x (List.mem_of_getElem? e)
  cases x with
  | str w => exact ⟨w, rfl⟩
  | _ => cases m
theorem isStr_map (ws : List Str) : (ws.map V.str).all isStr = true := by
  rw [List.all_map]
  exact List.all_eq_true.mpr fun _ _ => rfl
theorem all_true (n : Nat) : (List.replicate n true).all id = true := by
  induction n with
  | zero => rfl
  | succ n ih =>
    rw [List.replicate_succ, List.all_cons, ih]
    rfl
end Sw
set_option Elab.async false
set_option linter.all false
set_option maxRecDepth 100000
set_option maxHeartbeats 4000000
/-! SwSet: len(set(xs)) of texts: as many as there are exactly if none stands twice. -/
namespace SwSet
open PySem PySem.Spec PyProof.Rows
/-- what the set holds behind the first i texts -/
def Held (P : Program) (w : World) (h : Heap) (a : Addr) (xs : List Str) (i : Nat) : Prop :=
  ∃ c : Nat, h.SetOf (PySem.strKind P w) a (fun z => decide (z ∈ xs.take i)) c ∧ c ≤ i ∧ (c = i ↔ (xs.take i).Nodup)
theorem Held.keep {P : Program} {w : World} {h h' : Heap} {a : Addr} {xs : List Str} {i : Nat} (x : Held P w h a xs i) (k : ∀ o, h.get? a = some o → h'.get? a = some o) : Held P w h' a xs i := by
  obtain ⟨c, ⟨o, es, ep, t, ho, r⟩, b⟩ := x
  exact ⟨c, ⟨o, es, ep, t, k o ho, r⟩, b⟩
theorem take_one_more {xs : List Str} {i : Nat} {x : Str} (h : xs[i]? = some x) : xs.take (i + 1) = xs.take i ++ [x] := by
  rw [List.take_add_one, h]
  rfl
theorem Held.more {P : Program} {w : World} {h : Heap} {a : Addr} {xs : List Str} {i c : Nat} {x : Str} (hx : xs[i]? = some x) (hc : c ≤ i) (hn : c = i ↔ (xs.take i).Nodup)
    (s : h.SetOf (PySem.strKind P w) a (fun z => decide (z ∈ xs.take i) || decide (z = x)) (if decide (x ∈ xs.take i) = true then c else c + 1)) : Held P w h a xs (i + 1) := by
  have e := take_one_more hx
  refine ⟨_, PyProof.Rows.SetOf_congr s (fun z => ?_) rfl, ?_, ?_⟩
  · show (decide (z ∈ xs.take i) || decide (z = x)) = decide (z ∈ xs.take (i + 1))
    rw [e, ← Bool.decide_or]
    exact decide_eq_decide.mpr (by simp)
  · split <;> omega
  · rw [e, List.nodup_append]
    by_cases m : x ∈ xs.take i
    · rw [if_pos (decide_eq_true m)]
      refine ⟨fun z => by omega, fun z => ?_⟩
      exact absurd rfl (z.2.2 x m x (by simp))
    · rw [if_neg (by simpa using m)]
      refine ⟨fun z => ⟨hn.mp (by omega), by simp, fun y hy z' hz => ?_⟩, fun z => by rw [hn.mpr z.1]⟩
      have : z' = x := by simpa using hz
      subst this
      exact fun q => m (q ▸ hy)
section
variable {P : Program} {w : World} {A : Around} {R : Result → Shared → Prop} {I S : Addr} {fp wr : List Addr} {G : Array GenState → Array GenState → Prop} {n : Nat} {Pv : Nat → Value → Prop} {St : Nat → Shared → Prop} {xs : List Str}
theorem loop (W : WalksS P w A.in1 I fp wr G n Pv St) (out : S ∉ fp) (hn : xs.length = n) (few : n < 2000) (val : ∀ i v, Pv i v → ∃ x t, xs[i]? = some x ∧ v = .str x t) (m : Nat) :
    ∀ (i : Nat) (s : Shared), i + m = n → St i s → Held P w s.heap S xs i → (∀ s', Moved (S :: wr) G s s' → Held P w s'.heap S xs n → R (.ok (.ret .none)) s') →
      codeAny (model P w) A (.builtin "set.update.loop" ⟨[.ref S, .ref I], []⟩) R s := by
  have out2 : S ∉ wr := fun z => out (W.sub _ z)
  have up : ∀ b ∈ wr, b ∈ S :: wr := fun b z => List.mem_cons_of_mem S z
  induction m with
  | zero =>
    intro i s hi st held fin
    obtain rfl : i = n := by omega
    refine codeAny_builtin PyProof.Rows.F.entry_set_update_loop ?_
    rw [Around.under_plainId PyProof.Rows.F.plain_set_update_loop _]
    show wpAny _ A.in1 (pyNext (.ref I) >>= _) _ _ s
    refine wpAny_bind (W.done s _ _ st fun s1 mv => ?_)
    show wpAny _ A.in1 (ret Value.none) _ _ s1
    exact wpAny_pure (fin s1 (mv.mono up) (held.keep fun o e => mv.heap S o out2 e))
  | succ m ih =>
    intro i s hi st held fin
    refine codeAny_builtin PyProof.Rows.F.entry_set_update_loop ?_
    rw [Around.under_plainId PyProof.Rows.F.plain_set_update_loop _]
    show wpAny _ A.in1 (pyNext (.ref I) >>= _) _ _ s
    refine wpAny_bind (W.item i s _ _ (by omega) st fun v s1 pv st1 mv => ?_)
    obtain ⟨x, t, hx, rfl⟩ := val i v pv
    obtain ⟨c, hs, hc, hcn⟩ := held.keep (h' := s1.heap) fun o e => mv.heap S o out2 e
    show wpAny _ A.in1 (holding [Value.str x t] (setAdd S (.str x t)) >>= _) _ _ s1
    refine wpAny_bind (wpAny_holding ?_)
    unfold setAdd
    refine wpAny_holding (wpAny_bind ((PySem.strKind P w).pyHash (k := x) (strKind_is _ _ _ _) ?_))
    refine wpAny_setAddHashed_of (knd := PySem.strKind P w) (s := { s1 with toks := s1.toks + 1 }) (strKind_is _ _ _ _) rfl hs (by unfold scanBound; omega) fun h2 same hs2 => ?_
    refine wpAny_pure ⟨plainId_quiet PyProof.Rows.F.plain_set_update_loop _, ih (i + 1) _ (by omega) (W.frame _ s1 _ _ st1 (Nat.le_succ _) fun b hb o e => ?_) (Held.more hx hc hcn hs2) fun s3 mv3 held3 => ?_⟩
    · rw [same.2 b fun z => out (z ▸ hb)]
      exact e
    · refine fin s3 (Moved.trans W.gtrans ((mv.mono up).then_heap (Nat.le_succ _) fun b o hb e => ?_) mv3) held3
      rw [same.2 b fun z => hb (by rw [z]; exact List.mem_cons_self)]
      exact e
end
section
variable {P : Program} {w : World} {A : Around} {E : Value → Shared → Prop} {s : Shared}
/-- the set as it is made, empty -/
def fresh (led : Bool) : Obj := { cls := .type "set", dict := none, data := .set #[] 0 (.fresh 0 0 led) }
theorem held0 {h : Heap} {a : Addr} {led : Bool} {xs : List Str} (e : h.get? a = some (fresh led)) : Held P w h a xs 0 :=
  ⟨0, PyProof.Rows.SetOf_congr ((PyProof.Rows.setObjOf_fresh (knd := PySem.strKind P w) led).setOf e (by unfold scanBound; omega)) (fun z => by simp) rfl, Nat.le_refl 0, by simp⟩
theorem item_text {vs : List Value} {xs : List Str} (h : StrsAre vs xs) (i : Nat) (v : Value) (e : vs[i]? = some v) : ∃ x t, xs[i]? = some x ∧ v = .str x t := by
  induction h generalizing i with
  | nil => simp at e
  | cons n t hr ih =>
    cases i with
    | zero =>
      refine ⟨n, t, rfl, ?_⟩
      simpa using e.symm
    | succ i => exact ih i (by simpa using e)
/-- what comes behind the loop -/
def Done (P : Program) (w : World) (s : Shared) (xs : List Str) (s2 : Shared) : Prop :=
  ∃ (h' : Heap) (tk : Nat), s2 = { s with heap := h', toks := tk } ∧ Held P w h' s.heap.objs.size xs xs.length ∧ ∀ b o, s.heap.get? b = some o → h'.get? b = some o
theorem done_of {s s2 : Shared} {xs : List Str} {led : Bool} {it : Obj} {l : Addr} {tk : Nat} {n : Nat} (hl : l < s.heap.objs.size) (hn : xs.length = n)
    (mv : Moved (s.heap.objs.size :: [(s.heap.push (fresh led)).objs.size]) (fun a b => b = a) { s with heap := (s.heap.push (fresh led)).push it, toks := tk } s2) (hd : Held P w s2.heap s.heap.objs.size xs n) : Done P w s xs s2 := by
  obtain ⟨h', g', d', tk', os'⟩ := s2
  have eg : g' = s.gens := mv.gens
  have ed : d' = s.drawn := mv.drawn
  have eo : os' = s.os := mv.os
  subst eg ed eo
  refine ⟨h', tk', rfl, hn ▸ hd, fun b o e => ?_⟩
  have lt := Heap.lt_size e
  refine mv.heap b o ?_ (Heap.get?_push_of_some _ (Heap.get?_push_of_some _ e))
  simp only [List.mem_cons, List.not_mem_nil, or_false, not_or]
  refine ⟨Nat.ne_of_lt lt, ?_⟩
  rw [Heap.size_push]
  exact Nat.ne_of_lt (Nat.lt_succ_of_lt lt)

set_option maxHeartbeats 8000000 in
/-- set(xs), a list or a tuple of texts -/
theorem call_set {l : Addr} {items : Array Value} {xs : List Str} {Q : Value → Shared → Prop} (quiet : A.handled = none) (hl : s.heap.IsList l items ∨ s.heap.IsTuple l items) (texts : StrsAre items.toList xs) (few : xs.length < 2000)
    (fin : ∀ s2, Done P w s xs s2 → Q (.ref s.heap.objs.size) s2) : wpAny (model P w) A (call (.type "set") [.ref l]) Q E s := by
  have lt : l < s.heap.objs.size := by
    rcases hl with ⟨_, e, _⟩ | ⟨_, e, _⟩ <;> exact Heap.lt_size e
  have size : xs.length = items.size := by rw [← StrsAre.len_eq texts, Array.length_toList]
  have val : ∀ (i : Nat) (v : Value), items[i]? = some v → ∃ x t, xs[i]? = some x ∧ v = .str x t := fun i v e => item_text texts i v (by rw [Array.getElem?_toList]; exact e)
  obtain ⟨cc, tl, hmro⟩ := PySem.F.called_set.mro
  have hmade := PySem.F.called_set.made
  have hsub := PySem.F.called_set.sub
  have h1 := PySem.F.called_set.notType
  have h2 := PySem.F.called_set.canCreate
  have hct := PySem.F.typeCall_set_1 (.ref l)
  refine wpAny_call (codeAny_of_tree ?_)
  show wpAny _ _ (callAny (.type "set") _) _ _ _
  refine wpAny_pure ⟨Code.quiet_builtin _ (by decide +kernel), codeAny_builtin PySem.F.entry_type_call ?_⟩
  rw [Around.under_plain (weight_type_call_type "set" [.ref l] []) rfl]
  repeat (any_goals (first | assumption | wp_step))
  refine codeAny_mono (code_set_new_1 (.ref l) (E := E) (Q₁ := fun obj s1 => ∃ led : Bool, obj = .ref s.heap.objs.size ∧ s1 = { s with heap := s.heap.push (fresh led) }) fun led => ⟨led, rfl, rfl⟩) fun r s1 hr => ?_
  cases r with
  | error e => exact hr
  | ok fl =>
    cases fl with
    | ret obj =>
      obtain ⟨led, rfl, rfl⟩ := hr
      have at0 : (s.heap.push (fresh led)).get? s.heap.objs.size = some (fresh led) := Heap.get?_push_size _ rfl
      have ty : Shared.TypeIs { s with heap := s.heap.push (fresh led) } (.ref s.heap.objs.size) "set" := ⟨_, at0, rfl⟩
      have hli := PySem.F.called_set.init.lookup
      have hbi := PySem.F.called_set.init.bind (.ref s.heap.objs.size)
      repeat (any_goals (first | assumption | wp_step))
      refine codeAny_mono (codeAny_call_builtin (R := wants (fun r s2 => r = .none ∧ Done P w s xs s2) E) PySem.F.called_set.init.plain PySem.F.entry_set_init (check_set_init_1 ty ?_)) fun r2 s2 hr2 => ?_
      · have quiet3 : A.in1.in1.in1.handled = none := by simp [quiet]
        have apart : l ≠ (s.heap.push (fresh led)).objs.size := by
          rw [Heap.size_push]
          exact Nat.ne_of_lt (Nat.lt_succ_of_lt lt)
        have out : s.heap.objs.size ∉ [(s.heap.push (fresh led)).objs.size, l] := by
          rw [Heap.size_push]
          simp only [List.mem_cons, List.not_mem_nil, or_false, not_or]
          exact ⟨Nat.ne_of_lt (Nat.lt_succ_self _), Nat.ne_of_gt lt⟩
        have close : ∀ {it : Obj} {tk : Nat} (s2 : Shared), Moved (s.heap.objs.size :: [(s.heap.push (fresh led)).objs.size]) (fun a b => b = a) { s with heap := (s.heap.push (fresh led)).push it, toks := tk } s2 → Held P w s2.heap s.heap.objs.size xs items.size → Done P w s xs s2 :=
          fun s2 mv hd => done_of lt size mv hd
        rcases hl with hl | hl
        · obtain ⟨ol, hol, hcl, nl, hdl⟩ := hl
          obtain ⟨ocls, odict, odata, oslots⟩ := ol
          simp only at hcl hdl
          subst hcl; subst hdl
          have hol2 := Heap.get?_push_of_some (fresh led) hol
          have hsls := PySem.F.sub_list_set
          have hslf := PySem.F.sub_list_frozenset
          have hne : (Value.type "list" == Value.type "dict") = false := by decide
          have there : (s.heap.push (fresh led)).IsList l items := ⟨_, hol2, rfl, nl, rfl⟩
          unfold Builtin.«set.__init__» noKeywords Builtin.Frozenset.updateFrom
          generalize hPI : pyIter = PI
          wp_walk
          subst hPI
          refine wpAny_pyIter_list there (wpAny_bind (wpAny_runValue ?_))
          refine loop (xs := xs) ((Walks.list quiet3 _ l apart items).toS) out size (by omega) val items.size 0 _ (by omega) ⟨⟨_, Heap.get?_push_size _ rfl, rfl, rfl⟩, there.push _⟩ (held0 (Heap.get?_push_of_some _ at0)) fun s3 mv hd => ?_
          exact wpAny_pure (wpAny_pure ⟨rfl, close s3 mv hd⟩)
        · obtain ⟨ol, hol, hcl, nl, hdl⟩ := hl
          obtain ⟨ocls, odict, odata, oslots⟩ := ol
          simp only at hcl hdl
          subst hcl; subst hdl
          have hol2 := Heap.get?_push_of_some (fresh led) hol
          have hsls := PySem.F.sub_tuple_set
          have hslf := PySem.F.sub_tuple_frozenset
          have hne : (Value.type "tuple" == Value.type "dict") = false := by decide
          have there : (s.heap.push (fresh led)).IsTuple l items := ⟨_, hol2, rfl, nl, rfl⟩
          unfold Builtin.«set.__init__» noKeywords Builtin.Frozenset.updateFrom
          generalize hPI : pyIter = PI
          wp_walk
          subst hPI
          refine wpAny_pyIter_tuple there (wpAny_bind (wpAny_runValue ?_))
          refine loop (xs := xs) ((Walks.tuple quiet3 _ l apart items).toS) out size (by omega) val items.size 0 _ (by omega) ⟨⟨_, Heap.get?_push_size _ rfl, rfl, rfl⟩, there.push _⟩ (held0 (Heap.get?_push_of_some _ at0)) fun s3 mv hd => ?_
          exact wpAny_pure (wpAny_pure ⟨rfl, close s3 mv hd⟩)
      · cases r2 with
        | error e => exact hr2
        | ok fl2 =>
          cases fl2 with
          | ret r =>
            obtain ⟨rfl, hd⟩ := hr2
            repeat (any_goals (first | assumption | wp_step))
            exact fin _ hd
          | _ => exact hr2.elim
    | _ => exact hr.elim
end
end SwSet
set_option Elab.async false
set_option linter.all false
set_option maxRecDepth 100000
set_option maxHeartbeats 4000000
/-! SwLen: len(set(xs)) as an expression. -/
namespace Sw
open PySem PySem.Spec PyProof.Rows L2
def LenSetK (K : PySem.W.Frag) (Q : VK) (x : V) (H1 : Hp) : Prop :=
  ∃ (l : Addr) (xs : List Str), x = .ref l ∧ (SqL K H1 l (xs.map V.str) ∨ SqT K H1 l (xs.map V.str)) ∧ xs.length < 2000 ∧ ∀ c : Nat, c ≤ xs.length → (c = xs.length ↔ xs.Nodup) → Q (.int c) H1
def tLenSetU (K : PySem.W.Frag) (ta : TE) : TE := fun σ H Q => ta σ H fun x H1 => LenSetK K Q x H1
theorem texts_of : ∀ {ys : List Str} {us : List Value}, Vals (ys.map V.str) us → StrsAre us ys
  | [], _, .nil => .nil
  | y :: ys, _, .cons r t => by
    obtain ⟨k, rfl⟩ := r
    exact .cons y k (texts_of t)
theorem pe_lenSetU {X : Cx} {K : PySem.W.Frag} {a : Expr} {ta : TE} {p p2 q pos : Pos} (hK : X.K = K) (hc : X.calm = true) (hg : Gl X "len") (hm : X.mg "len" = none) (hg2 : Gl X "set") (hm2 : X.mg "set" = none) (ha : PE X a ta)
    (na : starEach [a] X.env = (false, eval a X.env) :: starEach [] X.env := by rfl) : PE X (.Call (.Name "len" p) [.Call (.Name "set" p2) [a] [] q] [] pos) (tLenSetU K ta) := by
  subst hK
  constructor
  intro pins s σ H Q I h
  refine Call_ (ld_blt I hg hm boot_len (PyProof.Rows.callWith_builtin1 (PyProof.Rows.args_cons ?_ rfl) rfl rfl))
  refine Call_ (ld_blt I hg2 hm2 boot_set (PyProof.Rows.callWith_type1 (PyProof.Rows.args_cons (thn (ha.run pins s σ H _ I h) fun v s1 z => PyProof.Rows.args_nil ?_) na) na rfl))
  obtain ⟨x, H1, I1, r1, l, xs, rfl, hq, few, k⟩ := z
  cases r1
  have main : ∀ its : List Value, Vals (xs.map V.str) its → s1.heap.IsList l its.toArray ∨ s1.heap.IsTuple l its.toArray →
      wpAny (model X.prog X.w) X.A (call (.type "set") [.ref l]) (fun u s2 => wpAny (model X.prog X.w) X.A (spliced (backTo pos (starEach [] X.env))) (fun vs s3 => wpAny (model X.prog X.w) X.A (call (.builtin "len") (u :: vs)) (EP X pins σ Q) X.xe s3) X.xe s2) X.xe s1 := by
    intro its r hl
    refine SwSet.call_set (I1.ok.hd hc) hl (by simpa using texts_of r) few fun s2 hd => ?_
    obtain ⟨h', tk, rfl, ⟨c, ⟨o, es, ep, t, ho, hex, hdt, _, _, _, hf, hn⟩, hc1, hc2⟩, keep⟩ := hd
    refine PyProof.Rows.args_nil ?_
    have I2 : Inv X pins σ H1 { s1 with heap := h', toks := tk } := I1.kept keep
    refine call_len_set ho hex hdt hf (by rw [hn] <;> omega) ⟨.int c, H1, I2.tok _, ⟨_, by rw [hn]⟩, k c hc1 ?_⟩
    rw [hc2, List.take_length]
  rcases hq with hq | hq
  · obtain ⟨its, r, pl, _⟩ := I1.list hq
    exact main its r (.inl pl.isList)
  · obtain ⟨its, r, pl, _⟩ := I1.tuple hq
    exact main its r (.inr pl)
theorem lenSet_ {K : PySem.W.Frag} {ta : TE} {σ : L2.St} {H : Hp} {Q : VK} (h : ta σ H fun x H1 => LenSetK K Q x H1) : tLenSetU K ta σ H Q := h
theorem lenSetL {K : PySem.W.Frag} {l : Addr} {xs : List Str} {H : Hp} {Q : VK} (hs : SqL K H l (xs.map V.str)) (few : xs.length < 2000) (h : ∀ c : Nat, c ≤ xs.length → (c = xs.length ↔ xs.Nodup) → Q (.int c) H) : LenSetK K Q (.ref l) H := ⟨l, xs, rfl, .inl hs, few, h⟩
theorem lenSetT {K : PySem.W.Frag} {l : Addr} {xs : List Str} {H : Hp} {Q : VK} (hs : SqT K H l (xs.map V.str)) (few : xs.length < 2000) (h : ∀ c : Nat, c ≤ xs.length → (c = xs.length ↔ xs.Nodup) → Q (.int c) H) : LenSetK K Q (.ref l) H := ⟨l, xs, rfl, .inr hs, few, h⟩
end Sw
set_option Elab.async false
set_option linter.all false
set_option maxRecDepth 100000
set_option maxHeartbeats 4000000
/-! SwMore: chains of three, one sign in a text, tuples of types, fields by a known class. -/
namespace Sw
open PySem PySem.Spec PyProof.Rows L2
section
variable {X : Cx} {K : PySem.W.Frag} {a b c d e : Expr} {ta tb tc td te : TE} {pos : Pos} {σ : L2.St} {H : Hp} {Q : VK}
/-- a op b op c op d -/
def ChK (r : R2) (tn : V → TE) (σ : L2.St) (Q : VK) (x y : V) (H : Hp) : Prop := r x y H fun z H1 => ∃ k, z = .bl k ∧ if k = true then tn y σ H1 Q else Q (.bl false) H1
def tLink (r : R2) (tb : TE) (tn : V → TE) (x : V) : TE := fun σ H Q => tb σ H fun y H1 => ChK r tn σ Q x y H1
def tEndC (r : R2) (tb : TE) (x : V) : TE := fun σ H Q => tb σ H fun y H1 => r x y H1 Q
def tChain2 (r1 r2 : R2) (ta tb tc : TE) : TE := fun σ H Q => ta σ H fun x H1 => tLink r1 tb (tEndC r2 tc) x σ H1 Q
def tChain3 (r1 r2 r3 : R2) (ta tb tc td : TE) : TE := fun σ H Q => ta σ H fun x H1 => tLink r1 tb (tLink r2 tc (tEndC r3 td)) x σ H1 Q
theorem pe_chain2 {o1 o2 : CmpOp} {r1 r2 : R2} (h1 : OpR X (compareOp o1) r1) (h2 : OpR X (compareOp o2) r2) (ha : PE X a ta) (hb : PE X b tb) (hc : PE X c tc) (hm : lastMarks [o1, o2] [b, c] = false := by with_unfolding_all rfl) :
    PE X (.Compare a [o1, o2] [b, c] pos) (tChain2 r1 r2 ta tb tc) := pe_chain h1 h2 ha hb hc hm
theorem pe_chain3 {o1 o2 o3 : CmpOp} {r1 r2 r3 : R2} (h1 : OpR X (compareOp o1) r1) (h2 : OpR X (compareOp o2) r2) (h3 : OpR X (compareOp o3) r3) (ha : PE X a ta) (hb : PE X b tb) (hc : PE X c tc) (hd : PE X d td)
    (hm : lastMarks [o1, o2, o3] [b, c, d] = false := by with_unfolding_all rfl) : PE X (.Compare a [o1, o2, o3] [b, c, d] pos) (tChain3 r1 r2 r3 ta tb tc td) := by
  constructor
  intro pins s σ H Q I h
  refine Compare_chain (thn (ha.run pins s σ H _ I h) fun v s1 ⟨x, H1, I1, q, w1⟩ => chain_link (thn (hb.run pins s1 σ H1 _ I1 w1) fun u s2 ⟨y, H2, I2, q2, w2⟩ => thn (h1 pins s2 σ H2 x y v u _ I2 q q2 w2) fun t s3 ⟨z, H3, I3, q3, k, ez, w3⟩ => ?_)) hm
  subst ez
  cases q3
  refine wpAny_truthy_bool ?_
  cases k with
  | false => exact ite_ff ⟨.bl false, H3, I3, rfl, w3⟩
  | true =>
    refine ite_tt (chain_link (thn (hc.run pins s3 σ H3 _ I3 w3) fun u2 s4 ⟨y2, H4, I4, q4, w4⟩ => thn (h2 pins s4 σ H4 y y2 u u2 _ I4 q2 q4 w4) fun t2 s5 ⟨z2, H5, I5, q5, k2, ez2, w5⟩ => ?_))
    subst ez2
    cases q5
    refine wpAny_truthy_bool ?_
    cases k2 with
    | false => exact ite_ff ⟨.bl false, H5, I5, rfl, w5⟩
    | true => exact ite_tt (chain_last (thn (hd.run pins s5 σ H5 _ I5 w5) fun u3 s6 ⟨y3, H6, I6, q6, w6⟩ => h3 pins s6 σ H6 y2 y3 u2 u3 Q I6 q4 q6 w6))
theorem chain2_ {r1 r2 : R2} (h : ta σ H fun x H1 => tLink r1 tb (tEndC r2 tc) x σ H1 Q) : tChain2 r1 r2 ta tb tc σ H Q := h
theorem chain3_ {r1 r2 r3 : R2} (h : ta σ H fun x H1 => tLink r1 tb (tLink r2 tc (tEndC r3 td)) x σ H1 Q) : tChain3 r1 r2 r3 ta tb tc td σ H Q := h
theorem link_ {r : R2} {tn : V → TE} {x : V} (h : tb σ H fun y H1 => ChK r tn σ Q x y H1) : tLink r tb tn x σ H Q := h
theorem endC_ {r : R2} {x : V} (h : tb σ H fun y H1 => r x y H1 Q) : tEndC r tb x σ H Q := h
theorem chI {g : Int → Int → Bool} {tn : V → TE} {i j : Int} (h : if g i j = true then tn (.int j) σ H Q else Q (.bl false) H) : ChK (rI0 fun i j => .bl (g i j)) tn σ Q (.int i) (.int j) H := ⟨i, j, rfl, rfl, g i j, rfl, h⟩
/-- one sign in a text -/
def rInS1 : R2 := fun x y H Q => ∃ (c : Nat) (z : Str), x = .str ⟨#[c]⟩ ∧ y = .str z ∧ Q (.bl (decide (c ∈ z.cps.toList))) H
def rInU (K : PySem.W.Frag) : R2 := fun x y H Q => rIn K false x y H Q ∨ rInS1 x y H Q
def rNiU (K : PySem.W.Frag) : R2 := fun x y H Q => rIn K true x y H Q
theorem k_inU (hK : X.K = K) : OpR X (compareOp .In) (rInU K) := hK ▸ op_in_seq.or (show OpR X (compareOp .In) rInS1 from op_in_sign)
theorem k_niU (hK : X.K = K) : OpR X (compareOp .NotIn) (rNiU K) := hK ▸ op_notIn_seq
theorem lenSP {z : Str} (hz : z.length ≤ 5000000) (h : Q (.int z.length) H) : rLen K [.str z] H Q := lenS (by rw [sizeLine_eq]; omega) h
theorem inS1 {c : Nat} {z : Str} (h : Q (.bl (decide (c ∈ z.cps.toList))) H) : rInU K (.str ⟨#[c]⟩) (.str z) H Q := .inr ⟨c, z, rfl, rfl, h⟩
theorem inUL {x : V} {p : Addr} {xs : List V} (hs : SqL K H p xs) (hx : flatV x = true) (hf : xs.all flatV = true) (h : Q (.bl (inV x xs)) H) : rInU K x (.ref p) H Q := .inl (inL hs hx hf h)
theorem inUT {x : V} {p : Addr} {xs : List V} (hs : SqT K H p xs) (hx : flatV x = true) (hf : xs.all flatV = true) (h : Q (.bl (inV x xs)) H) : rInU K x (.ref p) H Q := .inl (inT hs hx hf h)
theorem niUL {x : V} {p : Addr} {xs : List V} (hs : SqL K H p xs) (hx : flatV x = true) (hf : xs.all flatV = true) (h : Q (.bl (!inV x xs)) H) : rNiU K x (.ref p) H Q := inL hs hx hf h
theorem niUT {x : V} {p : Addr} {xs : List V} (hs : SqT K H p xs) (hx : flatV x = true) (hf : xs.all flatV = true) (h : Q (.bl (!inV x xs)) H) : rNiU K x (.ref p) H Q := inT hs hx hf h
/-- isinstance(x, (T, U)) -/
def rIsiU (K : PySem.W.Frag) : List V → Hp → VK → Prop := fun xs H Q => rIsi K xs H Q ∨ rIsiT K xs H Q
theorem k_isiU (hK : X.K = K) : CallR X (.builtin "isinstance") (rIsiU K) := hK ▸ call_isi.or call_isiT
theorem isiT2 {x : V} {t : Value} {p : Addr} {A B : String} {b : Bool} (hp : H p = some (.tup [.ty A, .ty B])) (ty : TyX K H x t) (e : PySem.W.kitAny K t [.type A, .type B] = some b) (h : Q (.bl b) H) : rIsiU K [x, .ref p] H Q :=
  .inr ⟨x, p, _, t, _, b, rfl, hp, .cons (.ty A) (.cons (.ty B) .nil), ty, e, h⟩
theorem isi1 {x : V} {t : Value} {n : String} {b : Bool} (ty : TyX K H x t) (e : PySem.W.kitOne K t (.type n) = some b) (h : Q (.bl b) H) : rIsiU K [x, .ty n] H Q := .inl (isi (.ty n) ty e h)
theorem isiC {x : V} {t : Value} {C : Addr} {b : Bool} (ty : TyX K H x t) (e : PySem.W.kitOne K t (.ref C) = some b) (h : Q (.bl b) H) : rIsiU K [x, .ref C] H Q := .inl (isi (.own C) ty e h)
theorem isiS {z : Str} (h : Q (.bl true) H) : rIsiU K [.str z, .ty "str"] H Q := isi1 (.base (.str z)) (kit_ty (by decide +kernel)) h
theorem isiI {i : Int} (h : Q (.bl true) H) : rIsiU K [.int i, .ty "int"] H Q := isi1 (.base (.int i)) (kit_ty (by decide +kernel)) h
theorem isiIb {i : Int} (h : Q (.bl false) H) : rIsiU K [.int i, .ty "bool"] H Q := isi1 (.base (.int i)) (kit_ty (by decide +kernel)) h
theorem isiTup {p : Addr} {xs : List V} (hp : H p = some (.tup xs)) (h : Q (.bl true) H) : rIsiU K [.ref p, .ty "tuple"] H Q := isi1 (.base (.tup hp)) (kit_ty (by decide +kernel)) h
theorem isiDict {p : Addr} {kvs : List (Key × V)} (hp : H p = some (.dK kvs)) (h : Q (.bl true) H) : rIsiU K [.ref p, .ty "dict"] H Q := isi1 (.base (.dK hp)) (kit_ty (by decide +kernel)) h
theorem isiRowL {p q : Addr} {xs : List V} (hq : H q = some (.tup [.ty "list", .ty "tuple"])) (hp : H p = some (.lst xs)) (h : Q (.bl true) H) : rIsiU K [.ref p, .ref q] H Q :=
  isiT2 hq (.base (.lst hp)) (kitAny_cons (kit_ty (r := true) (by decide +kernel)) (fun z => by cases z) fun _ => rfl) h
theorem isiRowT {p q : Addr} {xs : List V} (hq : H q = some (.tup [.ty "list", .ty "tuple"])) (hp : H p = some (.tup xs)) (h : Q (.bl true) H) : rIsiU K [.ref p, .ref q] H Q :=
  isiT2 hq (.base (.tup hp)) (kitAny_cons (kit_ty (r := false) (by decide +kernel)) (fun _ => kitAny_cons (kit_ty (r := true) (by decide +kernel)) (fun z => by cases z) fun _ => rfl) fun z => by cases z) h
/-- is None, is not None -/
def rIsN1 : R2 := fun x y H Q => y = .non ∧ Q (.bl (decide (x = .non))) H
def rNotN1 : R2 := fun x y H Q => y = .non ∧ Q (.bl (!decide (x = .non))) H
theorem k_isN : OpR X (compareOp .Is) rIsN1 := op_isN
theorem k_notN : OpR X (compareOp .IsNot) rNotN1 := op_notN
theorem isN_ {x : V} (h : Q (.bl (decide (x = .non))) H) : rIsN1 x .non H Q := ⟨rfl, h⟩
theorem notN_ {x : V} (h : Q (.bl (!decide (x = .non))) H) : rNotN1 x .non H Q := ⟨rfl, h⟩
/-- o.f -/
def FldK (K : PySem.W.Frag) (f : Str) (Q : VK) (x : V) (H1 : Hp) : Prop := ∃ a C dx fs v, x = .ref a ∧ H1 a = some (.ins C dx fs) ∧ Cls K C ∧ NoAttr K C f ∧ fs.lookup f = some v ∧ Q v H1
theorem k_fld {f : Str} (hK : X.K = K) (he : PE X e te) (hb : attributeBase e f X.env (eval e X.env) = eval e X.env) : PE X (.Attribute e f pos) (tFld K te f) := hK ▸ pe_fld he hb
theorem fld_ {f : Str} (h : te σ H fun x H1 => FldK K f Q x H1) : tFld K te f σ H Q := h
theorem fldk {f : Str} {a C dx : Addr} {fs : List (Str × V)} {v : V} (hp : H a = some (.ins C dx fs)) (c : Cls K C) (n : NoAttr K C f) (l : fs.lookup f = some v) (h : Q v H) : FldK K f Q (.ref a) H := ⟨a, C, dx, fs, v, rfl, hp, c, n, l, h⟩
end
/-! ### a comprehension over the signs of a text -/
section
variable {H0 : Hp} {ex : List Addr} {H : Hp} {L : List (Addr × HO)} {K : PySem.W.Frag} {σ : L2.St} {Q : VK} {g : TG} {tt : TT} {te tl : TE} {vs : List Nat} {R : It → Hp → Prop} {x : Str}
def IStrK (R : It → Hp → Prop) (v : V) (H1 : Hp) : Prop := ∃ x, v = .str x ∧ R (Its x) H1
theorem istr_ (h : tl σ H fun v H1 => IStrK R v H1) : iStr tl σ H R := h
theorem istrk (h : R (Its x) H) : IStrK R (.str x) H := ⟨x, rfl, h⟩
theorem lcs_str (hH : Has H0 ex H L) (P : Nat → List V → Prop) (p0 : P 0 [])
    (turn : ∀ i c D acc H', x.cps.toList[i]? = some c → (D ∈ ex ∨ H0 D = none) → acc.length ≤ i → P i acc → Has H0 ex H' ((D, .lst acc) :: L) → g (.str ⟨#[c]⟩) (wipe σ vs) H' fun σ2 H2 => LcT vs σ tt te (CInv H0 ex (Sim P L) D (i + 1)) D σ2 H2)
    (done : ∀ D acc H', acc.length ≤ x.cps.size → P x.cps.size acc → Has H0 ex H' ((D, .lst acc) :: L) → Q (.ref D) H') : LcK g tt te vs σ Q (Its x) H := by
  intro D hD
  refine ⟨fun i m H => m = x.cps.size - i ∧ i ≤ x.cps.size ∧ CInv H0 ex (Sim P L) D i H, ⟨_, rfl, Nat.zero_le _, [], _, Nat.le_refl 0, List.mem_cons_self, ⟨p0, rfl⟩, hH.new hD⟩, ?_⟩
  rintro i m H1 ⟨rfl, hi, acc, M, hl, hm, ⟨hp, rfl⟩, hh⟩
  by_cases lt : i < x.cps.size
  · refine .inr ⟨lt, CInv H0 ex (Sim P L) D (i + 1), fun H2 c => ⟨x.cps.size - (i + 1), by omega, rfl, lt, c⟩, fun v H2 y => ?_⟩
    obtain ⟨rfl, c, hc, rfl⟩ := y
    exact turn i c D acc _ (by rw [Array.getElem?_toList]; exact hc) (freshD hH hD) hl hp hh
  · have e : i = x.cps.size := by omega
    subst e
    exact .inl ⟨Nat.le_refl _, done D acc H1 hl hp hh⟩
end
/-! ### fields stored, objects made -/
section
variable {X : Cx} {H0 : Hp} {ex : List Addr} {H : Hp} {L L' : List (Addr × HO)} {K : PySem.W.Frag} {σ : L2.St} {Q : VK} {ta tv : TE} {nx bk ct : L2.St → Hp → Prop} {rt : VK} {f : Str} {x y : V} {a C dx : Addr} {fs : List (Str × V)}
theorem k_sfld {o value : Expr} {f : Str} {p' pos : Pos} (hK : X.K = K) (ha : PE X o ta) (hv : PE X value tv) (hs : swapsWith value (some (.Attribute o f p')) pos.line X.env = pure false := by rfl) : PS X (.Assign [.Attribute o f p'] value pos) (sFld K ta tv f) := hK ▸ ps_fld ha hv hs
def SFldK (K : PySem.W.Frag) (f : Str) (nx : L2.St → Hp → Prop) (σ : L2.St) (y x : V) (H2 : Hp) : Prop := ∃ a C dx fs, x = .ref a ∧ H2 a = some (.ins C dx fs) ∧ Cls K C ∧ NoAttr K C f ∧ fs.length < 1000 ∧ nx σ (upd H2 a (.ins C dx (putF f y fs)))
theorem sfld_ (h : tv σ H fun y H1 => ta σ H1 fun x H2 => SFldK K f nx σ y x H2) : sFld K ta tv f ⟨nx, rt, bk, ct⟩ σ H := h
theorem sfldk (hH : Has H0 ex H L) (pt : Put L a (.ins C dx fs) (.ins C dx (putF f y fs)) L') (fr : a ∈ ex ∨ H0 a = none) (c : Cls K C) (n : NoAttr K C f) (hl : fs.length < 1000) (h : ∀ H', Has H0 ex H' L' → nx σ H') : SFldK K f nx σ y (.ref a) H :=
  ⟨a, C, dx, fs, rfl, hH.at pt.mem.1, c, n, hl, h _ (hH.put pt fr)⟩
/-- C(..): what __init__ finds, what stands behind it -/
def MakeK (C : Addr) (sp : Sp) (Q : VK) (E : XK) (vs : List V) (H1 : Hp) : Prop := ∀ x dx, H1 x = none → H1 dx = none → dx ≠ x → sp (.ref x :: vs) (upd (upd H1 dx (.own x)) x (.ins C dx [])) (fun v H2 => v = .non ∧ Q (.ref x) H2) E
theorem make_ {sp : Sp} {E : XK} {t : TA} (h : t σ H fun vs H1 => MakeK C sp Q E vs H1) : tMake C sp [] E t σ H Q := by
  have e : (fun (vs : List V) (H1 : Hp) => ∀ x dx, H1 x = none → H1 dx = none → dx ≠ x → sp (.ref x :: (vs ++ [])) (upd (upd H1 dx (.own x)) x (.ins C dx [])) (fun v H2 => v = .non ∧ Q (.ref x) H2) E) = fun vs H1 => MakeK C sp Q E vs H1 := by
    funext vs H1
    rw [List.append_nil]
    rfl
  show t σ H fun (vs : List V) (H1 : Hp) => ∀ x dx, H1 x = none → H1 dx = none → dx ≠ x → sp (.ref x :: (vs ++ [])) (upd (upd H1 dx (.own x)) x (.ins C dx [])) (fun v H2 => v = .non ∧ Q (.ref x) H2) E
  rw [e]
  exact h
theorem Has.make (hH : Has H0 ex H L) {x : Addr} (n1 : H x = none) (n2 : H dx = none) (ne : dx ≠ x) : Has H0 ex (upd (upd H dx (.own x)) x (.ins C dx [])) ((x, .ins C dx []) :: (dx, .own x) :: L) :=
  (hH.new n2).new (by rw [upd_ne (Ne.symm ne)]; exact n1)
/-- a class of the text that may be made by its name -/
structure CalC (P : Program) (w : World) (K : PySem.W.Frag) (mg : Str → Option Value) (base : Heap) (CX : CXT) (k : Nat) (x : Str) (C : Addr) (ps : List Str) (sp : Sp) : Prop where
  ex : ∃ (f : Addr) (fd : FuncData), Mk K C f ∧ FnOk P w K mg base CX k f fd ps sp ∧ mg x = some (.ref C) ∧ Binds K fd ps []
theorem pe_calC {X : Cx} {CX : CXT} {j k : Nat} {x : Str} {ps : List Str} {sp : Sp} {E : XK} {p pos : Pos} {e : Expr} {es : List Expr} {t : TA} (c : CalC X.prog X.w X.K X.mg X.base CX j x C ps sp) (hr : Room k X.A) (hjk : j + 1 ≤ k) (hg : Gl X x) (hx : Passes CX X E) (ha : PA X (e :: es) t)
    (hdb : (x == ("__debug__" : Str)) = false := by decide) (he : starEach (e :: es) X.env = (false, eval e X.env) :: starEach es X.env := by rfl) (hpl : (backTo pos (starEach es X.env)).any (·.1) = false := by rfl) :
    PE X (.Call (.Name x p) (e :: es) [] pos) (tMake C sp [] E t) := by
  obtain ⟨f, fd, M, F, hm, hb⟩ := c.ex
  exact pe_make M F (hr.mono hjk) hg hm hb .nil hx ha hdb he hpl
end
theorem never_ {A B : Prop} {c : Bool} (e : c = false) (h : B) : if c = true then A else B := by rw [e]; exact h
end Sw
set_option Elab.async false
set_option linter.all false
set_option maxRecDepth 100000
set_option maxHeartbeats 4000000
/-! SwTry: several clauses, each with a name for what is caught. -/
namespace Sw
open PySem PySem.Spec PyProof.Rows L2
/-- the ends of a suite behind which a slot is empty again -/
def Leaves (i : Nat) (D : Ends) : Ends :=
  ⟨fun τ G => D.nx (τ.set i none) G, D.rt, fun τ G => D.bk (τ.set i none) G, fun τ G => D.ct (τ.set i none) G⟩
structure Clause where
  cl : Value
  slot : Nat
  does : Addr → Value → Option Addr → TS
def wCl (K : PySem.W.Frag) (W0 : WX) (D : Ends) : List Clause → WX
  | [] => W0
  | q :: r => fun cv d τ G => ∃ yes, PySem.W.exmOne K cv q.cl = some yes ∧
      (yes = true → ∀ o, G o = none → q.does o cv d (Leaves q.slot D) (τ.set q.slot (some (.ref o))) G) ∧ (yes = false → wCl K W0 D r cv d τ G)
inductive ClOk (X : Cx) : List ExceptHandler → List Clause → Prop
  | nil : ClOk X [] []
  | cons {x n : Str} {c : Value} {i : Nat} {ts : Addr → Value → Option Addr → TS} {b1 : Stmt} {su : List Stmt} {p1 p2 : Pos} {hds : List ExceptHandler} {l : List Clause} (hc : Names X x c)
      (hi : X.N[i]? = some n) (hln : X.env.kindOf n = some .local)
      (hsu : ∀ (o : Addr) (ob : Obj) (cv : Value) (d : Option Addr) (pn : List (Addr × Obj)), Zc cv d ob → (∃ fl, ob.data = .fields fl) → PSs (X.suite o ((o, ob) :: pn)) (b1 :: su) (ts o cv d)) (r : ClOk X hds l) :
      ClOk X (.ExceptHandler (some (.Name x p1)) (some n) (b1 :: su) p2 :: hds) (⟨c, i, ts⟩ :: l)
section
variable {X : Cx} {body : List Stmt} {h1 : ExceptHandler} {hds : List ExceptHandler} {l : List Clause} {at_ : Pos} {tb : WX → TS} {W0 : WX}
theorem ps_try_clauses (hst : X.stack = X.env :: X.outer) (hfr : X.env.frame = some X.env.locals) (hN : X.N.Nodup) (tk : Takes X W0)
    (hb : ∀ (W : WX) (pn : List (Addr × Obj)) (xe : Value → Shared → Prop), Takes (X.tr pn xe) W → PassesOwn (model X.prog X.w) X.A X.env xe → PSs (X.tr pn xe) body (tb W))
    (hh : ClOk X (h1 :: hds) l) : PS X (.Try body (h1 :: hds) [] [] at_) (fun D σ H => tb (wCl X.K W0 D l) D σ H) := by
  constructor
  intro pins s σ H D I hgo
  have fine := I.ok
  have frA : X.A.frames = some (X.env :: X.outer) := fine.frames.trans (congrArg some hst)
  apply wpAny_Try_except
  refine wpAny_mono ((hb (wCl X.K W0 D l) (X.pn ++ pins) (fun v t1 => wpAny (model X.prog X.w) X.A (noteFrame v X.env) (fun _ t2 => wpAny (model X.prog X.w) X.A (setFlight v none) (fun _ t3 =>
    wpAny (model X.prog X.w) X.A (handleBy v X.env (h1 :: hds)) (SP X pins D) X.xe t3) X.xe t2) X.xe t1) (fun v t0 caught => ?_) PassesOwn.looking).run [] s σ H D (I.toTry _) hgo) (fun f t1 ends => ?_) (fun v t1 z => z)
  · obtain ⟨o, B, sI, pins2, τ, G, cv, d, rfl, J0, noB, up0, sk, fresh, ofS, agr, wish⟩ := caught
    have J : Inv X pins τ G sI := Inv.ofTry J0 fine
    have sk2 : Sky B (X.env :: X.outer) o (Zc cv d) X.env.locals t0.heap := hst ▸ sk
    show wpAny (model X.prog X.w) X.A (noteFrame (.ref o) X.env) _ _ _
    refine Sky.land Zc.steady frA hfr sk2 fun hp fl up1 => ?_
    have Jl : Inv X pins τ G { t0 with heap := hp } := J.landed noB fl.1 (up0.trans up1) ofS agr
    obtain ⟨ob, flds, hob, hzc, hdat⟩ := fl.there
    have notFrame : ∀ {h : Heap} {q : Obj} {u : Array Value}, h.FunFrames B (X.env :: X.outer) → h.get? o = some q → q.data = .fields u → o ∉ frs (X.env :: X.outer) := by
      intro h q u ff hq hu hm
      obtain ⟨_, q2, hq2, bad⟩ := ff.mem hm
      cases hq.symm.trans hq2
      exact bad _ hu
    have nof := notFrame fl.2.2.1 hob hdat
    have noLoc : o ≠ X.env.locals := by
      intro z
      exact nof (List.mem_filterMap.mpr ⟨X.env, List.mem_cons_self, hfr.trans (congrArg some z.symm)⟩)
    have noFs : o ∉ X.fs := by
      intro hm
      obtain ⟨en, hen, z⟩ := List.mem_filterMap.mp hm
      exact nof (List.mem_filterMap.mpr ⟨en, List.mem_cons_of_mem _ hen, z⟩)
    have Su := Jl.suite hob hdat fresh noLoc noFs
    have walk : ∀ {hs : List ExceptHandler} {cs : List Clause}, ClOk X hs cs → wCl X.K W0 D cs cv d τ G →
        wpAny (model X.prog X.w) X.A (handleBy (.ref o) X.env hs) (SP X pins D) X.xe { t0 with heap := hp } := by
      intro hs cs ok
      induction ok with
      | nil =>
        intro wish
        apply wpAny_handleBy_nil
        obtain ⟨_, _, _, ob', flds', tb', otb, ts', hob', hz', hd', hf1, hr'⟩ := id fl
        unfold PySem.passOn
        refine wpAny_bind (wpAny_field hob' hd' hf1 ?_)
        rw [if_neg (show ¬ ((Value.ref tb' == Value.none) = true) by simp)]
        have away : wpAny (model X.prog X.w) X.A (setFlight (.ref o) X.env.frame) (fun _ t4 => wpAny (model X.prog X.w) X.A (throw (.ref o) : Sem Flow) (SP X pins D) X.xe t4) X.xe { t0 with heap := hp } := by
          rw [hfr]
          refine HandSPX.setFlight_upZ fl fun hp4 hh4 up4 => wpAny_throw (tk _ _ ?_)
          exact ⟨o, B, sI, pins, τ, G, cv, d, rfl, J, noB, (up0.trans up1).trans up4, .inr (.inr (hst ▸ hh4)), fresh, ofS, agr, wish⟩
        first
          | exact wpAny_bind away
          | exact wpAny_bind (wpAny_pure (wpAny_bind away))
      | @cons x n c i ts b1 su p1 p2 hs2 cs2 hc hi hln hsu r ih =>
        intro wish
        obtain ⟨yes, hyes, ifT, ifF⟩ := wish
        apply wpAny_handleBy_cons _ (by intro z; cases z)
        apply codeAny_handlers_test
        have look : PySem.W.Looks (model X.prog X.w) hp (typeOf (.ref o)) cv := by
          intro A Q E s k z
          exact wpAny_typeOf_ref (k _ _ hob) (hzc.1.symm ▸ z)
        have decides := PySem.W.exm_one (M := model X.prog X.w) Jl.kIn look hyes
        have named : ∀ {Q E : Value → Shared → Prop}, Q c { t0 with heap := hp } → wpAny (model X.prog X.w) (X.A.mark (some (.ref o))) (eval (.Name x p1) X.env) Q E { t0 with heap := hp } := by
          intro Q E z
          obtain ⟨g, db, m | ⟨m, bv, nn⟩⟩ := hc
          · exact ld_glob (X := X.suite o ((o, ob) :: (X.pn ++ pins))) Su g m z db
          · exact ld_blt (X := X.suite o ((o, ob) :: (X.pn ++ pins))) Su g m bv z nn db
        apply named
        apply decides.here
        cases yes with
        | false =>
          show wpAny _ X.A (handleBy (.ref o) X.env hs2) _ _ _
          exact ih (ifF rfl)
        | true =>
          apply codeAny_handlers_suite_as
          refine HandSPX.lands_againZ fl fun hp4 fl4 up4 => ?_
          have Jm : Inv X pins τ G { t0 with heap := hp4 } := J.landed noB fl4.1 ((up0.trans up1).trans up4) ofS agr
          obtain ⟨ob4, flds4, hob4, hzc4, hdat4⟩ := fl4.there
          have Sm := Jm.suite hob4 hdat4 fresh noLoc noFs
          refine store_ok (X := X.suite o ((o, ob4) :: (X.pn ++ pins))) (v := .ref o) Sm hN hi (.inl hln) rfl (fun t5 S5 => ?_) (.inr hln)
          refine wpAny_mono ((hsu o ob4 cv d (X.pn ++ pins) hzc4 ⟨_, hdat4⟩).run [] t5 _ G _ S5 (ifT rfl o fresh)) (fun f t6 ends => ?_) (fun _ _ z => z.elim)
          have close : ∀ {τ6 : L2.St} {G6 : Hp} {R : Shared → Prop}, Inv (X.suite o ((o, ob4) :: (X.pn ++ pins))) [] τ6 G6 t6 → (∀ t7, Inv X pins (τ6.set i none) G6 t7 → R t7) →
              wpAny (model X.prog X.w) X.A (do bindName X.env n .none; unbindBehindTheSuite X.env n p2) (fun _ t7 => R t7) X.xe t6 := by
            intro τ6 G6 R S6 hR
            exact gone_ok (S6.unsuite fine) hN hi hln hR
          cases f with
          | next =>
            obtain ⟨_, _, S6, z⟩ := ends
            exact close S6 fun t7 J7 => ⟨_, _, J7, z⟩
          | brk =>
            obtain ⟨_, _, S6, z⟩ := ends
            exact close S6 fun t7 J7 => ⟨_, _, J7, z⟩
          | cont =>
            obtain ⟨_, _, S6, z⟩ := ends
            exact close S6 fun t7 J7 => ⟨_, _, J7, z⟩
          | ret u =>
            obtain ⟨_, _, _, S6, rp, z⟩ := ends
            exact close S6 fun t7 J7 => ⟨_, _, _, J7, rp, z⟩
    exact walk hh wish
  · cases f with
    | next =>
      obtain ⟨_, _, J, z⟩ := ends
      exact wpAny_execs_nil ⟨_, _, Inv.ofTry J fine, z⟩
    | brk =>
      obtain ⟨_, _, J, z⟩ := ends
      exact ⟨_, _, Inv.ofTry J fine, z⟩
    | cont =>
      obtain ⟨_, _, J, z⟩ := ends
      exact ⟨_, _, Inv.ofTry J fine, z⟩
    | ret u =>
      obtain ⟨_, _, _, J, rp, z⟩ := ends
      exact ⟨_, _, _, Inv.ofTry J fine, rp, z⟩
end
end Sw
set_option Elab.async false
set_option linter.all false
set_option maxRecDepth 100000
set_option maxHeartbeats 4000000
/-! SwSeq: rows that are lists or tuples; sorted of either; bool of a dict; the values of a dict as a list. -/
namespace SwB
open PySem
open PySem.Sem (wp)
section
variable {prog : Program} {w : World} {A : Around} {E : Value → Shared → Prop} {s : Shared} {d : Addr} {b : Bool} {Q : Value → Shared → Prop}
def Tru (prog : Program) (w : World) (d : Addr) (b : Bool) (s : Shared) : Prop := ∀ (A : Around) (E : Value → Shared → Prop) (Q : Bool → Shared → Prop) (tk0 : Nat), (∀ tk, Q b { s with toks := tk }) → wpAny (model prog w) A (truthy (.ref d)) Q E { s with toks := tk0 }
theorem meets_bool_d : MeetsIn prog w (Builtin.«bool.__new__» ⟨[.type "bool", .ref d], []⟩) (fun _ R s => Tru prog w d b s ∧ ∀ tk, R (.ok (.ret (.bool b))) { s with toks := tk }) :=
  MeetsIn.of_wp fun A R s hs => by
    obtain ⟨hl, hs⟩ := hs
    unfold Tru at hl
    obtain ⟨hp, g, dd, tk, os⟩ := s
    have f1 := F.conv_sub_bool
    repeat (any_goals (first | assumption | (with_reducible refine hl _ _ _ _ fun tk => ?_) | wp_step))
    all_goals first | exact ⟨_, rfl, hs _⟩ | exact hs _ | skip
theorem call_bool_d (hl : Tru prog w d b s) (h : ∀ tk, Q (.bool b) { s with toks := tk }) : wpAny (model prog w) A (call (.type "bool") [.ref d]) Q E s :=
  callType_newIn F.called_bool F.newNe_bool (F.typeCall_bool_1 _) (F.newCall_bool_1 _) (fun obj => F.args_object_init_2 obj _) F.entry_bool_new meets_bool_d ⟨hl, fun tk => ⟨rfl, h tk⟩⟩
end
end SwB
namespace Sw
open PySem PySem.Spec PyProof.Rows L2
section
variable {X : Cx} {K : PySem.W.Frag}
/-- a list or a tuple -/
def Sq (K : PySem.W.Frag) (H : Hp) (a : Addr) (xs : List V) : Prop := SqL K H a xs ∨ SqT K H a xs
/-- for .. in a list or a tuple -/
def iSeq (K : PySem.W.Frag) (tl : TE) : TI := fun σ H R => tl σ H fun x H1 => ∃ a, x = .ref a ∧ (((∃ xs, SqL K H1 a xs) ∧ R (Itl K a) H1) ∨ ((∃ xs, SqT K H1 a xs) ∧ R (Itt K a) H1))
theorem pi_seq {tg l : Expr} {tl : TE} (hl : PE X l tl) : PI X tg l (iSeq X.K tl) := by
  constructor
  intro pins s σ H R I h
  refine thn (hl.run pins s σ H _ I h) ?_
  rintro v t ⟨x, G, J, r, a, rfl, z | z⟩
  all_goals
    cases r
    obtain ⟨⟨xs, hs⟩, q⟩ := z
  · obtain ⟨us, _, il, _⟩ := J.list hs
    apply wpAny_pyIter_list il.isList
    exact ⟨t.heap.objs.size, [t.heap.objs.size], _, _, G, rfl, J.kept (t' := t.toks) fun _ _ e => Heap.get?_push_of_some _ e, turn_list a _, ⟨_, Heap.get?_push_size _ rfl, rfl, rfl⟩,
      fun b hb => (show b = t.heap.objs.size by simpa using hb) ▸ J.fpOk (Nat.le_refl _) (J.hok.fresh (Nat.le_refl _)), q⟩
  · obtain ⟨us, _, il, _⟩ := J.tuple hs
    apply wpAny_pyIter_tuple (show t.heap.IsTuple a us.toArray from il)
    exact ⟨t.heap.objs.size, [t.heap.objs.size], _, _, G, rfl, J.kept (t' := t.toks) fun _ _ e => Heap.get?_push_of_some _ e, turn_tuple a _, ⟨_, Heap.get?_push_size _ rfl, rfl, rfl⟩,
      fun b hb => (show b = t.heap.objs.size by simpa using hb) ▸ J.fpOk (Nat.le_refl _) (J.hok.fresh (Nat.le_refl _)), q⟩
theorem k_seq {tg l : Expr} {tl : TE} (hK : X.K = K) (hl : PE X l tl) : PI X tg l (iSeq K tl) := hK ▸ pi_seq hl
/-- bool(x) of a dict or None -/
def rBoolD : List V → Hp → VK → Prop := fun xs H Q => (xs = [.non] ∧ Q (.bl false) H) ∨ ∃ (a : Addr) (kvs : List (Key × V)), xs = [.ref a] ∧ H a = some (.dK kvs) ∧ Q (.bl (!kvs.isEmpty)) H
theorem call_boolD : CallR X (.type "bool") rBoolD := by
  intro pins s σ H xs us Q I r h
  rcases h with ⟨rfl, q⟩ | ⟨a, kvs, rfl, hk, q⟩
  · cases r with
    | cons r rr =>
      cases rr
      cases r
      exact call_bool_none ⟨.bl false, H, I, rfl, q⟩
  · obtain rfl := Vals.ref1 r
    obtain ⟨hz, lo, vs, kv, m⟩ : kvs.length ≤ sizeLine ∧ (a == sysModules) = false ∧ ∃ vs, KV kvs vs ∧ s.heap.DictOf (mixKind X.prog X.w) a vs := I.hok a _ hk
    have hn : kvs.length = vs.length := Paired.length kv
    have big := line63
    refine SwB.call_bool_d (b := !kvs.isEmpty) (fun A E R tk0 hR => ?_) fun tk => ⟨.bl (!kvs.isEmpty), H, I.tok _, rfl, q⟩
    obtain ⟨hp, g, dr, tk, os⟩ := s
    exact wpAny_truthy_dict lo m (by omega) (by rw [isEmpty_kv kv]; exact hR _)
/-- list(d.values()) -/
def tVals (td : TE) : TE := fun σ H Q => td σ H fun x H1 => ∃ (d : Addr) (kvs : List (Key × V)), x = .ref d ∧ H1 d = some (.dK kvs) ∧ ∀ q, H1 q = none → Q (.ref q) (upd H1 q (.lst (kvs.map Prod.snd)))
theorem vals_nth : ∀ {xs : List V} {us : List Value}, xs.length = us.length → (∀ (i : Nat) (x : V) (u : Value), xs[i]? = some x → us[i]? = some u → RelV x u) → Vals xs us
  | [], [], _, _ => .nil
  | [], _ :: _, h, _ => nomatch h
  | _ :: _, [], h, _ => nomatch h
  | _ :: _, _ :: _, h, f => .cons (f 0 _ _ rfl rfl) (vals_nth (Nat.succ.inj h) fun i x u a b => f (i + 1) x u a b)
theorem pe_vals {e : Expr} {te : TE} {p apos cpos pos : Pos} (hc : X.calm = true) (he : PE X e te) (hg : Gl X "list") (hm : X.mg "list" = none) (hv : bootBuiltins "list" = some (.type "list")) (hbase : attributeBase e "values" X.env (eval e X.env) = eval e X.env := by rfl)
    (hline : (apos.endLine == cpos.line) = true := by rfl)
    (hs : starEach [.Call (.Attribute e "values" apos) [] [] cpos] X.env = (false, eval (.Call (.Attribute e "values" apos) [] [] cpos) X.env) :: starEach [] X.env := by rfl) :
    PE X (.Call (.Name "list" p) [.Call (.Attribute e "values" apos) [] [] cpos] [] pos) (tVals te) := by
  constructor
  intro pins s σ H Q I hq
  apply wpAny_Call_Name_kw
  refine ld_blt I hg hm hv ?_
  refine PyProof.Rows.callWith_type1 ?_ hs rfl
  rw [hs]
  show wpAny _ _ (spliced ((false, eval (.Call (.Attribute e "values" apos) [] [] cpos) X.env) :: backTo pos (starEach [] X.env))) _ _ s
  apply Calls.spliced_cons
  refine wpAny_Call_method (T := "dict") (id := "dict.values") hbase rfl hline F.plainAttrs_dict F.slot_dict_values F.type_dict_values (thn (he.run pins s σ H _ I hq) ?_)
  rintro v t ⟨x, G, J, r, d, kvs, rfl, hd, q⟩
  cases r
  obtain ⟨hz, lo, vs, kv, hdo⟩ := J.hok d _ hd
  obtain ⟨ep, hat⟩ := hdo.dictAt
  have hn : kvs.length = vs.length := Paired.length kv
  have J2 : Inv X pins σ G { t with heap := t.heap.push { cls := .type "dict_values", data := .fields #[.ref d] } } := J.kept (t' := t.toks) fun _ _ q => Heap.get?_push_of_some _ q
  refine ⟨hdo.typeIs, hdo.mapOf.noDict, ?_⟩
  show wpAny _ _ (callWith cpos (.builtin "dict.values") [.ref d] [] []) _ X.xe t
  refine method_meetsIn F.slot_dict_values F.entry_dict_values rfl (PySem.evalArgs_none ⟨rfl, hdo.typeIs, F.args_dict_values_1 _, _, meets_dict_values (mixKind X.prog X.w) d lo, ⟨vs, hdo⟩, ?_⟩)
  apply Calls.spliced_nil
  refine PySem.W.kdl_call (PySem.W.kdl_values (knd := mixKind X.prog X.w) (kvs := vs) (ep := ep)) (J.ok.hd hc) ⟨⟨_, Heap.get?_push_size _ rfl, rfl, rfl⟩, hat.push _⟩ (hn ▸ hz) fun h' tk acc c keep hS items => ?_
  refine ⟨.ref _, _, J2.laid keep (Nat.le_refl _) (show ObjOk X.prog X.w _ _ _ (.lst (kvs.map Prod.snd)) from ⟨by rw [List.length_map]; exact hz, acc.toList, c, ?_, by rw [Array.toArray_toList]; exact hS⟩), rfl, q _ (J2.hok.fresh (Nat.le_refl _))⟩
  refine vals_nth (by rw [List.length_map, hn, ← items.1, Array.length_toList]) fun i x u hx hu => ?_
  obtain ⟨k, hk⟩ := items.2 i u (by rw [← Array.getElem?_toList]; exact hu)
  rw [List.getElem?_map] at hx
  cases e : kvs[i]? with
  | none => rw [e] at hx; cases hx
  | some p =>
    rw [e] at hx
    cases hx
    obtain ⟨y, hy, ry⟩ := LiI.paired_get kv e
    rw [hk] at hy
    cases hy
    exact ry.2
/-- sorted of a list or tuple of texts -/
def rSortSq (K : PySem.W.Frag) : List V → Hp → VK → Prop := fun vs H Q => ∃ (a : Addr) (xs : List Str), vs = [V.ref a] ∧ Sq K H a (xs.map V.str) ∧ xs.length < 64 ∧ ∀ (ys : List Str) (p : Addr), ys.Perm xs → sortedS ys = true → H p = none → Q (.ref p) (upd H p (.lst (ys.map V.str)))
theorem call_sortSq : CallR X (.builtin "sorted") (rSortSq X.K) := by
  intro pins s σ H vs us Q I r h
  obtain ⟨a, xs, rfl, hs | hs, h64, q⟩ := h
  · exact cr_sortedS pins s σ H _ us Q I r ⟨a, xs, rfl, hs, h64, q⟩
  · obtain ⟨its, rv, ht, _⟩ := I.tuple hs
    rw [Vals.ref1 r]
    have hl := rv.length
    rw [List.length_map] at hl
    have texts : StrsAre its xs := rv.strs
    obtain ⟨o, ho, hcls, n, hdat⟩ := (show s.heap.IsTuple a its.toArray from ht)
    apply Calls.call_function_entry PyProof.Rows.kind_sorted PyProof.Rows.plain_sorted PyProof.Rows.entry_sorted (PyProof.Rows.args_sorted1 _)
    unfold Builtin.«sorted»
    refine wpAny_bind (m := checkCount "sorted" 1 1 _) (wpAny_pure ?_)
    refine wpAny_bind (wpAny_collect_seq a (.inr rfl) ho hcls hdat (fun h' keep => ?_) (by rw [List.size_toArray, sizeLine_eq]; omega))
    have I1 : Inv X pins σ H { s with heap := h' } := I.kept (t' := s.toks) keep
    refine wpAny_bind (wpAny_newList ?_ (by rw [sizeLine_eq]; simp; omega))
    have hD : (h'.push { cls := Value.type "list", data := Data.seq its.toArray.toList.toArray }).get? h'.objs.size = some (seqObj "list" its.toArray 0) := Heap.get?_push_size _ rfl
    refine wpAny_bind (wpAny_holding (wpAny_call_entry PyProof.Rows.slot_list_sort ⟨_, hD, rfl⟩ PyProof.Rows.entry_list_sort
      (list_sort_treeK strKind_oneLt (s := { s with heap := h'.push { cls := Value.type "list", data := Data.seq its.toArray.toList.toArray } }) hD texts.keysOf
        (fun u1 u2 rest e => keyKind_strs (e ▸ texts)) (by omega) fun st perm asc => ⟨_, rfl, ?_⟩) (PyProof.Rows.args_list_sort _)))
    obtain ⟨ys, t1, t2, t3⟩ := sorted_out_str texts perm asc
    obtain ⟨ep, at_⟩ := PyProof.Rows.sortedHeap_at (vs := its) (out := (arrOf st).map (·.2)) hD
    have small : (ys.map V.str).length ≤ sizeLine := by
      rw [List.length_map, t2.length_eq, sizeLine_eq]
      omega
    refine wpAny_pure ⟨_, rfl, .ref h'.objs.size, _, I1.laid (t' := s.toks) (fun b u e => ?_) (Nat.le_refl _) (show ObjOk X.prog X.w _ _ _ (.lst (ys.map V.str)) from ⟨small, _, ep, vals_of_strs t1, at_⟩), rfl, q ys _ t2 t3 (I1.hok.fresh (Nat.le_refl _))⟩
    have lt := Heap.lt_size e
    exact (PyProof.Rows.sortedHeap_old (Nat.ne_of_lt lt) (by rw [size_push']; exact Nat.lt_succ_of_lt lt)).trans (Heap.get?_push_of_some _ e)
end
end Sw
set_option Elab.async false
set_option linter.all false
set_option maxRecDepth 100000
set_option maxHeartbeats 4000000
/-! SwStr: loops with a measure, methods of texts, what is asked of a caught error, the end with tables. -/
namespace Sw
open PySem PySem.Spec PyProof.Rows L2
section
variable {H0 : Hp} {ex : List Addr} {H : Hp} {L : List (Addr × HO)} {K : PySem.W.Frag} {σ : L2.St} {Q : VK} {te to : TE} {t : TA} {tc : TT} {tb : TS} {nx ct bk : L2.St → Hp → Prop} {rt : VK} {x y z : V}
/-! ### while -/
def WhK (Pv : Nat → L2.St → Hp → Prop) (m : Nat) (tb : TS) (rt : VK) (nx : L2.St → Hp → Prop) (σ : L2.St) (b : Bool) (H1 : Hp) : Prop :=
  if b = true then ∃ N : L2.St → Hp → Prop, (∀ σ' H', N σ' H' → ∃ m', m' < m ∧ Pv m' σ' H') ∧ tb ⟨N, rt, nx, N⟩ σ H1 else nx σ H1
theorem while_ (Pv : Nat → L2.St → Hp → Prop) (m : Nat) (h0 : Pv m σ H) (turn : ∀ m σ H, Pv m σ H → tc σ H fun b H1 => WhK Pv m tb rt nx σ b H1) : tWhile tc tb ⟨nx, rt, bk, ct⟩ σ H :=
  ⟨Pv, ⟨m, h0⟩, turn⟩
theorem whk {Pv : Nat → L2.St → Hp → Prop} {m : Nat} {b : Bool} (h1 : b = true → tb ⟨fun σ' H' => ∃ m', m' < m ∧ Pv m' σ' H', rt, nx, fun σ' H' => ∃ m', m' < m ∧ Pv m' σ' H'⟩ σ H) (h2 : b = false → nx σ H) : WhK Pv m tb rt nx σ b H := by
  cases b with
  | true => exact ⟨_, fun _ _ z => z, h1 rfl⟩
  | false => exact h2 rfl
/-- x, y, z = a, b, c -/
def Par3K (i j l : Nat) (σ : L2.St) (nx : L2.St → Hp → Prop) (vs : List V) (H1 : Hp) : Prop := ∃ u v w, vs = [u, v, w] ∧ nx (((σ.set i (some u)).set j (some v)).set l (some w)) H1
theorem par3_ {i j l : Nat} {ta : TA} (h : ta σ H fun vs H1 => Par3K i j l σ nx vs H1) : tPar3 i j l ta ⟨nx, rt, bk, ct⟩ σ H := h
theorem par3k {i j l : Nat} (h : SetK σ i (fun σ1 H1 => SetK σ1 j (fun σ2 H2 => SetK σ2 l nx z H2) y H1) x H) : Par3K i j l σ nx [x, y, z] H := ⟨x, y, z, rfl, h⟩
/-! ### methods -/
def BmK (K : PySem.W.Frag) (T : String) (r : V → List V → Hp → VK → Prop) (t : TA) (σ : L2.St) (Q : VK) (x : V) (H1 : Hp) : Prop := tyV K T x H1 ∧ t σ H1 fun xs H2 => r x xs H2 Q
theorem bm_ {T : String} {r : V → List V → Hp → VK → Prop} (h : to σ H fun x H1 => BmK K T r t σ Q x H1) : tBM K T r to t σ H Q := h
theorem bmS {r : V → List V → Hp → VK → Prop} {a : Str} (h : t σ H fun xs H2 => r (.str a) xs H2 Q) : BmK K "str" r t σ Q (.str a) H := ⟨rfl, h⟩
theorem bmL {r : V → List V → Hp → VK → Prop} {a : Addr} {xs : List V} (hs : SqL K H a xs) (h : t σ H fun xs H2 => r (.ref a) xs H2 Q) : BmK K "list" r t σ Q (.ref a) H := ⟨.inl ⟨rfl, xs, hs⟩, h⟩
theorem k_bm {X : Cx} {o e : Expr} {es : List Expr} {name : Str} {apos cpos : Pos} {T id : String} {r : V → List V → Hp → VK → Prop} (hK : X.K = K) (pa : PlainAttrs T) (slot : Slot T name id) (hty : typeOf (.builtin id) = pure (.type "method_descriptor")) (hm : MtR X id r) (ho : PE X o to) (ha : PA X (e :: es) t)
    (hbase : attributeBase o name X.env (eval o X.env) = eval o X.env := by rfl)
    (hfew : ((backTo cpos (starEach (e :: es) X.env)).all (fun x => !x.1) && (backToKw cpos (keywordEach [] X.env)).all (fun x => x.1.isSome)
      && decide ((e :: es).length + ([] : List Keyword).length + (if ([] : List Keyword).isEmpty then 0 else 1) < 30)) = true := by rfl)
    (hline : (apos.endLine == cpos.line) = true := by rfl) (hs : starEach (e :: es) X.env = (false, eval e X.env) :: starEach es X.env := by rfl) (hplain : (backTo cpos (starEach es X.env)).any (·.1) = false := by rfl) :
    PE X (.Call (.Attribute o name apos) (e :: es) [] cpos) (tBM K T r to t) := hK ▸ pe_bm pa slot hty hm ho ha hbase hfew hline hs hplain
def rFind : V → List V → Hp → VK → Prop := fun x xs H Q => ∃ (a b : Str) (i : Int), x = .str a ∧ xs = [.str b, .int i] ∧ Q (.int (Txt.find3 a b i)) H
theorem k_find {X : Cx} : MtR X "str.find" rFind := mt_find3
theorem find_ {a b : Str} {i : Int} (h : Q (.int (Txt.find3 a b i)) H) : rFind (.str a) [.str b, .int i] H Q := ⟨a, b, i, rfl, rfl, h⟩
def rJoin (K : PySem.W.Frag) : V → List V → Hp → VK → Prop := fun x xs H Q => ∃ a p, ∃ ys : List Str, x = .str a ∧ xs = [.ref p] ∧ (SqL K H p (ys.map V.str) ∨ SqT K H p (ys.map V.str)) ∧ (ys.map (·.length)).sum + ys.length * a.length ≤ 16777216 ∧ Q (.str (Txt.join a ys)) H
theorem k_join {X : Cx} (hK : X.K = K) : MtR X "str.join" (rJoin K) := hK ▸ mt_join
theorem join_ {a : Str} {p : Addr} {ys : List Str} (hs : SqL K H p (ys.map V.str) ∨ SqT K H p (ys.map V.str)) (hl : (ys.map (·.length)).sum + ys.length * a.length ≤ 16777216) (h : Q (.str (Txt.join a ys)) H) : rJoin K (.str a) [.ref p] H Q := ⟨a, p, ys, rfl, rfl, hs, hl, h⟩
def rSplit1 : V → List V → Hp → VK → Prop := fun x xs H Q => ∃ a b, x = .str a ∧ xs = [.str b] ∧ (b.length == 0) = false ∧ a.length + 2 ≤ sizeLine ∧ rNewStrs (Txt.split a b) H Q
theorem k_split {X : Cx} : MtR X "str.split" rSplit1 := mt_split
theorem split_ {a b : Str} (hb : (b.length == 0) = false) (ha : a.length ≤ 1000000) (hH : Has H0 ex H L) (h : ∀ p H', H p = none → Has H0 ex H' ((p, .lst ((Txt.split a b).map V.str)) :: L) → Q (.ref p) H') : rSplit1 (.str a) [.str b] H Q :=
  ⟨a, b, rfl, rfl, hb, by rw [sizeLine_eq]; omega, fun p n => h p _ n (hH.new n)⟩
end
section
variable {H0 : Hp} {ex : List Addr} {H : Hp} {L L' : List (Addr × HO)} {Q : VK} {a : Addr} {xs : List V} {y : V}
theorem app_ (hH : Has H0 ex H L) (pt : Put L a (.lst xs) (.lst (xs ++ [y])) L') (f : a ∈ ex ∨ H0 a = none) (hl : xs.length ≤ 1000) (h : ∀ H', Has H0 ex H' L' → Q .non H') : rAppend (.ref a) [y] H Q :=
  ⟨a, xs, y, rfl, rfl, hH.at pt.mem.1, small1000 hl, h _ (hH.put pt f)⟩
end
/-! ### a value as a test -/
section
variable {H : Hp} {K : PySem.W.Frag} {σ : L2.St} {ta : TE} {QT : Bool → Hp → Prop}
def TruK (K : PySem.W.Frag) (QT : Bool → Hp → Prop) (x : V) (H : Hp) : Prop := ∃ k, TruV K x H k ∧ QT k H
def tTru (K : PySem.W.Frag) (ta : TE) : TT := fun σ H QT => ta σ H fun x H1 => TruK K QT x H1
theorem k_truth {X : Cx} {a : Expr} (hK : X.K = K) (ha : PE X a ta) (he : ∀ whole, isTrue a X.env whole = (do let v ← whole; standAt a.pos; holding [v] (truthy v))) : PT X a (tTru K ta) := hK ▸ pt_truth ha he
theorem tru_ (h : ta σ H fun x H1 => TruK K QT x H1) : tTru K ta σ H QT := h
theorem trub {b : Bool} (h : QT b H) : TruK K QT (.bl b) H := ⟨b, rfl, h⟩
end
/-! ### the first place of a sign -/
theorem find3_one {x : Str} {c i : Nat} (hi : i ≤ x.length) : (∃ j : Nat, Txt.find3 x ⟨#[c]⟩ (i : Int) = (j : Int) ∧ i ≤ j ∧ x.cps.toList[j]? = some c ∧ ∀ k, i ≤ k → k < j → x.cps.toList[k]? ≠ some c) ∨
    (Txt.find3 x ⟨#[c]⟩ (i : Int) = -1 ∧ ∀ k, i ≤ k → x.cps.toList[k]? ≠ some c) := by
  have e : fromIndex x.length (i : Int) = i := by
    unfold fromIndex
    have : ¬ ((i : Int) < 0) := by omega
    rw [if_neg this]
    omega
  have at_ : ∀ k, StrLaws.At x ⟨#[c]⟩ x.length k ↔ x.cps.toList[k]? = some c := fun k => by
    have hl : x.length = x.cps.toList.length := by rw [Array.length_toList]; rfl
    unfold StrLaws.At Builtin.Str.subAt
    show k + 1 ≤ x.length ∧ (x.cps.extract k (k + 1) == #[c]) = true ↔ _
    rw [beq_iff_eq, ← Array.toList_inj, Array.toList_extract]
    show _ ∧ (x.cps.toList.drop k).take (k + 1 - k) = [c] ↔ _
    rw [Nat.add_sub_cancel_left, hl]
    constructor
    · rintro ⟨h1, h2⟩
      have h3 := congrArg (fun l => l[0]?) h2
      simpa using h3
    · intro h
      obtain ⟨lt, e⟩ := List.getElem?_eq_some_iff.mp h
      refine ⟨lt, ?_⟩
      rw [List.drop_eq_getElem_cons lt, e]
      rfl
  unfold Txt.find3
  rw [e]
  rcases StrLaws.occ_head_from x ⟨#[c]⟩ i 1 (Nat.le_refl 1) with ⟨h, n⟩ | ⟨j, r, h, lo, hj, n⟩
  · right
    rw [h]
    exact ⟨rfl, fun k hk z => n k hk ((at_ k).mpr z)⟩
  · left
    rw [h]
    exact ⟨j, rfl, lo, (at_ j).mp hj, fun k a b z => n k a b ((at_ k).mpr z)⟩
/-! ### isinstance of what is caught -/
section
variable {X : Cx} {K : PySem.W.Frag}
def rIsX (K : PySem.W.Frag) (cls : Value) (d : Option Addr) (a : Addr) : List V → Hp → VK → Prop := fun xs H Q => ∃ (D dd : Addr) (fs : List (Str × V)) (c : V) (cv : Value) (b : Bool), cls = .ref D ∧ d = some dd ∧ ExcC K D ∧ H dd = some (.xd fs) ∧ xs = [.ref a, c] ∧ (∀ u, RelV c u → u = cv) ∧ PySem.W.kitOne K (.ref D) cv = some b ∧ Q (.bl b) H
theorem call_isX {a : Addr} {oe : Obj} {cls : Value} {d : Option Addr} {pn : List (Addr × Obj)} (hK : X.K = K) (hz : Zc cls d oe) (hf : ∃ vs, oe.data = .fields vs) : CallR (X.suite a ((a, oe) :: pn)) (.builtin "isinstance") (rIsX K cls d a) := by
  subst hK
  intro pins s σ H xs us Q I r h
  obtain ⟨D, dd, fs, c, cv, b, rfl, rfl, C, hd, rfl, hcv, e, q⟩ := h
  obtain ⟨u1, us1, rfl, r1, r2⟩ : ∃ u us', us = u :: us' ∧ RelV (V.ref a) u ∧ Vals [c] us' := by
    cases r with
    | cons r1 r2 => exact ⟨_, _, rfl, r1, r2⟩
  obtain ⟨u2, rfl, r3⟩ := vals1 r2
  cases r1
  have ec := hcv _ r3
  subst ec
  obtain ⟨hget, _⟩ := I.pin (a, oe) (List.mem_append.mpr (.inl List.mem_cons_self))
  obtain ⟨vs, hv⟩ := hf
  obtain ⟨mA, hns, _⟩ := (show ObjOk X.prog X.w H s.heap dd (.xd fs) from I.hok dd _ hd)
  obtain ⟨od, ho, _⟩ := lookIn_ns hns
  have J : PySem.W.InstAt s.heap a oe D (some od) := ⟨hget, hz.1, by unfold PySem.W.notCls; rw [hv], by rw [hz.2]; exact ho⟩
  have hcl : (PySem.W.clsIn X.K D).isSome = true := by
    obtain ⟨cd, hc, _⟩ := PySem.W.any_some C.hd
    rw [hc]
    rfl
  exact PySem.W.kia_one (PySem.W.kitx_exc hcl C.hg C.hk C.hs C.ha C.hn C.ht C.hm) I.kIn J e (fun z => nomatch z) fun tk => ⟨.bl b, H, I.kept (t' := tk) fun _ _ z => z, rfl, q⟩
end
end Sw
set_option Elab.async false
set_option linter.all false
set_option maxRecDepth 100000
set_option maxHeartbeats 4000000
/-! SwLam: lambdas handed on, errors raised and caught, the end of a law with tables. -/
namespace Sw
open PySem PySem.Spec PyProof.Rows L2
/-! ### tables of code objects beside what is known -/
section
variable {B H H1 : Hp} {ex : List Addr} {L : List (Addr × HO)} {T : List (Addr × Str)}
theorem Has.tabs (h : Has B ex H L) (t : LamX.Tabs T B) (hx : ∀ a ∈ ex, ∀ o, B a = some o → ∃ xs, o = .lst xs) : LamX.Tabs T H := by
  intro p hp
  obtain ⟨ps, h1, h2, h3⟩ := t p hp
  have keep : ∀ a o, B a = some o → (∀ xs, o ≠ .lst xs) → H a = some o := fun a o e n => h.keep a o e fun m => by
    obtain ⟨xs, z⟩ := hx a m o e
    exact n xs z
  refine ⟨ps, keep _ _ h1 (fun xs z => by cases z), h2, fun pos cv hc => ?_⟩
  obtain ⟨c, e1, e2⟩ := h3 pos cv hc
  exact ⟨c, e1, keep _ _ e2 (fun xs z => by unfold LamX.CodeO at z; cases z)⟩
theorem Has.rebase (h : Has B ex H L) (e : LamX.ExtN H H1) (hL : ∀ x ∈ L, ∀ ps, x.2 ≠ .tbl ps) (ex' : List Addr) : Has H1 ex' H1 L :=
  ⟨fun _ _ z _ => z, fun x hx => e _ _ (h.get x hx) (hL x hx), h.nd⟩
theorem sq_ext {K : PySem.W.Frag} {a : Addr} {xs : List V} (s : SqL K H a xs) (e : LamX.ExtN H H1) : SqL K H1 a xs := by
  rcases s with r | r
  · refine .inl ?_
    rcases r with r | ⟨o, r⟩
    · exact .inl (e _ _ r fun ps z => by cases z)
    · exact .inr ⟨o, e _ _ r fun ps z => by cases z⟩
  · exact .inr r
end
section
variable {σ : L2.St} {H : Hp} {Q : VK} {T : List (Addr × Str)} {TT : (XK → Hp → VK → Prop) → Hp → VK → Prop} {t : XK → TE}
theorem lam_ (hT : LamX.Tabs T H) (h : ∀ H1, LamX.ExtN H H1 → LamX.Tabs T H1 → TT (fun E H' Q' => t E σ H' Q') H1 Q) : LamX.tLam T TT t σ H Q := ⟨hT, h⟩
end
/-! ### what comes out of a call may be passed on -/
theorem passE {CXg : CXT} {P : Program} {w : World} {K : PySem.W.Frag} {mg : Str → Option Value} {base : Heap} {N : List Str} {qual : Str} {scope : Scope} {f : Addr} {cd : Value} {A : Around} {outer : List Env} {s : Shared} {H : Hp} {E : XK} :
    Passes (L2.CX P w) (cxOf (L2.CX P w) P w K mg base N qual scope f cd A outer s H E) E :=
  passes_call (X := cxOf (L2.CX P w) P w K mg base N qual scope f cd A outer s H E) (W := fun cls d _ H' => E cls d H') (takes_of rfl rfl rfl rfl) fun _ _ _ _ h => h
theorem takesE {P : Program} {w : World} {K : PySem.W.Frag} {mg : Str → Option Value} {base : Heap} {N : List Str} {qual : Str} {scope : Scope} {f : Addr} {cd : Value} {A : Around} {outer : List Env} {s : Shared} {H : Hp} {E : XK} :
    Takes (cxOf (L2.CX P w) P w K mg base N qual scope f cd A outer s H E) (fun cls d _ H' => E cls d H') := takes_of rfl rfl rfl rfl
theorem passLam {X : Cx} {A : Around} {outer : List Env} {s : Shared} {H : Hp} {E : XK} {scope : Scope} {f c' : Addr} : Passes (L2.CX X.prog X.w) (LamX.lamCx X A outer s H E scope f c') E :=
  passes_call (X := LamX.lamCx X A outer s H E scope f c') (W := fun cls d _ H' => E cls d H') (takes_of rfl rfl rfl rfl) fun _ _ _ _ h => h
/-- nothing comes out -/
theorem passN {X : Cx} : Passes (L2.CX X.prog X.w) X (fun _ _ _ => False) := passes_call (W := fun _ _ _ _ => False) LamX.takes0 fun _ _ _ _ h => h
/-! ### own errors with one field -/
/-- __init__ of an error: self.f = v -/
def spErr (C : Addr) (f : Str) : Sp := fun vs H Q _ => ∃ (a : Addr) (v : V), vs = [.ref a, v] ∧ H a = some (exo a C none) ∧ ∀ dx, H dx = none → dx ≠ a → Q .non (upd (upd H dx (exd dx [(f, v)])) a (exo a C (some dx)))
theorem ost_ {K : PySem.W.Frag} {f : Str} {to te : TE} {nx bk ct : L2.St → Hp → Prop} {rt : VK} {σ : L2.St} {H : Hp} {a C : Addr} {y : V} (T : OexC K C) (hno : PySem.W.findIn K (.ref C) f = some none) (ha : H a = some (exo a C none))
    (h1 : ∀ R : V → Hp → Prop, R y H → te σ H R) (h2 : ∀ R : V → Hp → Prop, R (.ref a) H → to σ H R) (h : ∀ dx, H dx = none → dx ≠ a → nx σ (upd (upd H dx (exd dx [(f, y)])) a (exo a C (some dx)))) : tOst K f to te ⟨nx, rt, bk, ct⟩ σ H :=
  h1 _ (h2 _ ⟨a, C, rfl, T, hno, .inl ⟨ha, h⟩⟩)
/-- raise C(e) -/
def RzK (C : Addr) (f : Str) (W : XK) (vs : List V) (H1 : Hp) : Prop := ∃ v, vs = [v] ∧ ∀ dd H', Has H1 [] H' [(dd, .xd [(f, v)])] → W (.ref C) (some dd) H'
theorem mko_ {C : Addr} {f : Str} {ta : TA} {σ : L2.St} {H : Hp} {W : XK} (h : ta σ H fun vs H1 => RzK C f W vs H1) (mono : ∀ R R' : List V → Hp → Prop, (∀ vs H1, R vs H1 → R' vs H1) → ta σ H R → ta σ H R') : tMkO C (spErr C f) [] ta σ H W := by
  refine mono _ _ (fun vs H1 q => ?_) h
  obtain ⟨v, rfl, q⟩ := q
  refine ⟨Nat.le_of_ble_eq_true rfl, fun a ha => ⟨a, v, rfl, upd_same, fun dx n ne => ⟨rfl, dx, [(f, v)], upd_same, ?_, ?_, ?_⟩⟩⟩
  · rw [upd_ne ne, upd_same]
  · rw [upd_ne ne] at n
    exact n
  · rw [upd_ne ne] at n
    refine q dx _ ⟨fun b o e _ => ?_, fun x hx => ?_, by simp⟩
    · have h1 : b ≠ dx := ne_of_none e n
      have h2 : b ≠ a := ne_of_none e ha
      rw [upd_ne h1, del_ne h2, upd_ne h2, upd_ne h1, upd_ne h2]
      exact e
    · rw [List.mem_singleton] at hx
      subst hx
      exact upd_same
/-! ### defs whose code object is known, defs that let errors out -/
section
variable {P : Program} {w : World} {K : PySem.W.Frag} {mg : Str → Option Value} {base : Heap} {x qual : Str} {st : Stmt} {f c : Addr} {oc : Value} {od an : Option Addr} {osl : Array (Option Value)} {kV doc pm ct : Value} {N ps : List Str} {k : Nat} {sp : Sp}
theorem ok_code (lk : K.lookup f = some ⟨oc, od, .func (PySem.W.fnOf x qual (defArgs st) (defBody st) (defScope st) .none kV doc pm an (.ref c) ct), osl⟩) (hcd : PySem.W.codeIn K (.ref c) qual = true) (S : FnScope N ps (defScope st)) (len : ∀ vs H Q E, sp vs H Q E → vs.length = ps.length)
    (hbody : ∀ (A : Around) (outer : List Env) (s : Shared) (H : Hp) (vs : List V) (Q : VK) (E : XK), Room k (A.deeper (envOfC qual (defScope st) s.heap.objs.size f (.ref c))) → sp vs H Q E →
      ∃ t, PSs (cxOf CX0 P w K mg base N qual (defScope st) f (.ref c) A outer s H E).nox (defBody st) t ∧ t { nx := fun _ H' => Q .non H', rt := Q } (start N vs) H) :
    FnOk P w K mg base CX0 (k + 1) f (PySem.W.fnOf x qual (defArgs st) (defBody st) (defScope st) .none kV doc pm an (.ref c) ct) ps sp := by
  refine fn_of lk hcd S len fun A outer s H vs Q E hr h => ?_
  obtain ⟨t, d, q⟩ := hbody A outer s H vs Q E hr h
  exact ⟨t, d.nox, q⟩
theorem Fun.okE {fd : FuncData} (F : Fun K x qual st f fd) (S : FnScope N ps (defScope st)) (len : ∀ vs H Q E, sp vs H Q E → vs.length = ps.length)
    (hbody : ∀ (cdv : Value) (A : Around) (outer : List Env) (s : Shared) (H : Hp) (vs : List V) (Q : VK) (E : XK), Room k (A.deeper (envOfC qual (defScope st) s.heap.objs.size f cdv)) → sp vs H Q E →
      ∃ t, PSs (cxOf (L2.CX P w) P w K mg base N qual (defScope st) f cdv A outer s H E) (defBody st) t ∧ t { nx := fun _ H' => Q .non H', rt := Q } (start N vs) H) : FnOk P w K mg base (L2.CX P w) (k + 1) f fd ps sp := by
  obtain ⟨oc, od, kV, doc, pm, an, cdv, ct, osl, rfl, lk, hcd⟩ := F.ex
  exact fn_of lk hcd S len fun A outer s H vs Q E hr h => hbody cdv A outer s H vs Q E hr h
end
/-! ### the end of a law with tables -/
theorem walk_top {l : PySem.W.OpenLaw} {n k : Nat} {q : Program} {loose : List Str} {XP : (Str → Option Value) → Heap → Prop} {YP : World → Heap → Prop} {d : DefRec} {K : Params → PySem.W.Frag} {CX : World → CXT} {x : Str}
    (hn : l.most = some n) (hn2 : n ≤ sizeLine) (hdf : d.params.defaults = []) (hr : Room k callerA) (hY : ∀ (w : World) (h : Heap), YP w h → (K w.params).In h)
    (F : ∀ (w : World) (mean : ExcName → Option Value) (mg mb : Str → Option Value) (fa : Addr) (h : Heap), YP w h → (K w.params).In h → PyProof.Rows.Top q (PySem.W.looseW q loose) mean mg mb h → mg d.name = some (.ref fa) → LamX.LawAtS l w (K w.params) (CX w) k n x mg fa h)
    (hCX : ∀ (w : World) (H : Hp) (s : Shared) (e : Value) (s' : Shared), CX w [] H s (fun _ _ _ => False) e s' → False) :
    PySem.W.WalkO q loose XP YP l.row.toRowW d [] (fun f vs => PySem.call f vs) := by
  refine Att.attach_callB hn hdf fun w s₀ s₁ mg mb fa o pm cd doc a vs ns G Y ho hd hcd hmg hob hints hlen hbits hgen => ?_
  have inK := hY w _ Y
  obtain ⟨fd, cs, sp, t1, t2, t3, hb, hsp, hF⟩ := F w _ mg mb fa _ Y inK G.T hmg
  exact LamX.law_callTs inK G.T.g G.T.b G.T.builtins G.T.nolimit hgen t1 t2 t3 G.T.bmain hob hints (Nat.le_trans hlen hn2) hr hF hb (fun H hH hS => hsp H a ns hlen hbits hH hS) fun H e s' => hCX w H s₁ e s'
end Sw
set_option Elab.async false
set_option linter.all false
set_option maxRecDepth 100000
set_option maxHeartbeats 4000000
/-! SwRz: raise C(e), enumerate over a list or a tuple, replace. -/
namespace SwEn
open PySem
open Sem (wp)
section
variable {prog : Program} {w : World} {A : Around}
set_option maxHeartbeats 1000000 in
theorem meetsEn {u : Value} {ob : Obj} {Hh : Heap → Prop} (B : Begins u ob Hh) :
    Meets (Builtin.«enumerate.__new__» ⟨[.type "enumerate", u], []⟩) (fun _ R z => Hh z.heap ∧
      R (.ok (.ret (.ref (z.heap.push ob).objs.size))) { z with heap := (z.heap.push ob).push ⟨.type "enumerate", none, .fields #[.none, .bool false, .ref z.heap.objs.size, rawInt 0, .none, .none], #[]⟩ }) :=
  .of_wp fun prog w A R z hz => by
    obtain ⟨H1, gg, dd, tt, oo⟩ := z
    obtain ⟨hb, hz⟩ := hz
    have hsub := sub_enumerate
    have itr : ∀ {A1 : Around} {E1 : Value → Shared → Prop} {Q1 : Value → Shared → Prop}, Q1 (.ref H1.objs.size) ⟨H1.push ob, gg, dd, tt, oo⟩ → wpAny (model prog w) A1 (pyIter u) Q1 E1 ⟨H1, gg, dd, tt, oo⟩ :=
      fun q => B.iter prog w _ _ ⟨H1, gg, dd, tt, oo⟩ _ hb q
    wp_walk using itr
    refine wpAny_stack_any fun _ => wpAny_pure ?_
    split
    · next c _ _ _ _ _ =>
      cases (c == Value.type "enumerate") <;>
      · wp_walk using itr
        exact ⟨_, rfl, hz⟩
    · wp_walk using itr
      exact ⟨_, rfl, hz⟩
end
end SwEn
namespace SwEn
open PySem PySem.Spec PyProof.Rows L2
open Sem (wp)
section
variable {prog : Program} {w : World} {A : Around} {E : Value → Shared → Prop} {s : Shared}
theorem callEn {u : Value} {ob : Obj} {Hh : Heap → Prop} {Q : Value → Shared → Prop} (B : Begins u ob Hh) (hb : Hh s.heap)
    (fin : ∀ G, IsEnum G (s.heap.objs.size + 1) s.heap.objs.size 0 .none → G.get? s.heap.objs.size = some ob → (∀ x y, s.heap.get? x = some y → G.get? x = some y) → Q (.ref (s.heap.objs.size + 1)) { s with heap := G }) :
    wpAny (model prog w) A (call (.type "enumerate") [u]) Q E s := by
  refine callType_new PySem.F.called_enumerate (by decide) (PySem.F.typeCall_enumerate_1 _) (PySem.F.newCall_enumerate_1 _) (fun obj => PySem.F.args_object_init_2 obj _) PySem.F.entry_enumerate_new (meetsEn B) ⟨hb, ?_⟩
  have sz : (s.heap.push ob).objs.size = s.heap.objs.size + 1 := Heap.size_push ..
  obtain ⟨eo, heo⟩ : ∃ eo : Obj, eo = ⟨.type "enumerate", none, .fields #[.none, .bool false, .ref s.heap.objs.size, rawInt 0, .none, .none], #[]⟩ := ⟨_, rfl⟩
  rw [← heo]
  have en : IsEnum ((s.heap.push ob).push eo) (s.heap.objs.size + 1) s.heap.objs.size 0 .none := by
    have z := Heap.get?_push_size (s.heap.push ob) (o := eo) (by rw [heo]; rfl)
    rw [sz, heo] at z
    rw [heo]
    exact z
  show _ ∧ _
  rw [sz]
  exact ⟨⟨_, en, rfl⟩, fin _ en (Heap.get?_push_of_some _ (Heap.get?_push_size _ B.free)) fun x y z => Heap.get?_push_of_some _ (Heap.get?_push_of_some _ z)⟩
end
/-- the tuple at a, each item in a new pair with its number -/
def ItEt (K : PySem.W.Frag) (a : Addr) : It :=
  ⟨fun i H => ∃ (ys : List V) (y : V), SqT K H a ys ∧ ys[i]? = some y, fun i H v H' => ∃ T y, v = .ref T ∧ H T = none ∧ H' = upd H T (.tup [.int (i : Nat), y]) ∧ ∀ ys, SqT K H a ys → ys[i]? = some y, fun i H => ∃ ys : List V, SqT K H a ys ∧ ys.length ≤ i⟩
theorem turnEt {P : Program} {w : World} {K : PySem.W.Frag} {elts : List Expr} {kk : Nat} {tpos : Pos} (a e j : Addr) :
    Turn P w K (.Tuple elts kk tpos) (ItEt K a) [e, j] e (fun i h => (∃ o, IsEnum h e j ((i : Nat) : Int) o) ∧ h.IsTupleIter j a i ∧ e ≠ j) where
  mem := by simp
  obj := fun i h st b hb => by
    obtain ⟨⟨o1, he⟩, ⟨o, ho, hc, hd⟩, _⟩ := st
    rcases (show b = e ∨ b = j by simpa using hb) with rfl | rfl
    · exact ⟨_, he, fun v q => nomatch q⟩
    · exact ⟨o, ho, fun v q => by rw [hd] at q; cases q⟩
  keep := fun i h h' st k => ⟨⟨st.1.choose, k e (by simp) _ st.1.choose_spec⟩, st.2.1.at fun o q => k j (by simp) o q, st.2.2⟩
  item := by
    intro X hP hw hK hc i pins s σ H E I hf st hg
    subst hP hw hK
    obtain ⟨⟨o1, he⟩, hj, ne⟩ := st
    obtain ⟨ys, y, hs, hy⟩ := hg
    obtain ⟨its, rv, p, hz⟩ := I.tuple hs
    have ht : s.heap.IsTuple a its.toArray := p
    obtain ⟨u, hu, ru⟩ := rv.get hy
    have le := Heap.lt_size he
    have lj : j < s.heap.objs.size := by
      obtain ⟨_, q, _⟩ := hj
      exact Heap.lt_size q
    have na : a ≠ j := fun z => by
      subst z
      obtain ⟨o2, g2, c2, _⟩ := hj
      obtain ⟨o3, g3, c3, _⟩ := ht
      rw [g2] at g3
      cases g3
      rw [c2] at c3
      exact absurd c3 (by decide)
    have nae : e ≠ a := fun z => by
      subst z
      obtain ⟨o3, g3, c3, _⟩ := ht
      rw [show s.heap.get? e = some _ from he] at g3
      cases g3
      exact absurd (Value.type.inj (show Value.type "enumerate" = Value.type "tuple" from c3)) (by decide)
    have D := Draws.tuple (prog := X.prog) (w := X.w) (A := X.A.in1) (I.ok.hd hc) j a na its.toArray
    refine wpAny_pyNext_enum_itemD D he ⟨hj, ht⟩ (show i < its.toArray.size from by
      have := (List.getElem?_eq_some_iff.mp hu).1
      simpa using this) ne (by simp [ne, nae]) fun x h' tk px ho st' hT hsz hk => ?_
    have ex : u = x := Option.some.inj (by rw [← px, ← hu]; simp)
    subst ex
    refine ⟨_, rfl, wpAny_letOwnedTupleGo_enum (s := { s with heap := h', toks := tk + 1 }) ho fun h2 he2 sb => ?_⟩
    have hT2 : h2.get? s.heap.objs.size = some { cls := .type "tuple", data := .seq #[.int i tk, u] } := (sb.2 _ (Nat.ne_of_gt le)).trans hT
    have I1 : Inv X pins σ (upd H s.heap.objs.size (.tup [.int (i : Nat), y])) { s with heap := h2, toks := tk + 1 } :=
      I.turnedNew (ch := [e, j]) (fun b ob hb q => (sb.2 b (fun z => hb (by simp [z]))).trans (hk b ob (fun z => hb (by simp [z])) (fun z => hb (by simp [z])) q)) hf (Nat.le_refl _)
        ⟨by show 2 ≤ sizeLine; decide, [.int i tk, u], .cons ⟨_, rfl⟩ (.cons ru .nil), ⟨_, hT2, rfl, _, rfl⟩⟩
    refine ⟨.ref s.heap.objs.size, _, I1, rfl, ⟨_, y, rfl, I.hok.fresh (Nat.le_refl _), rfl, fun zs hzs => by rw [I.tuple_inj hzs hs]; exact hy⟩, ⟨⟨u, ?_⟩, st'.1.at fun o q => (sb.2 j (Ne.symm ne)).trans q, ne⟩, fun b hb => ?_⟩
    · rw [show ((i + 1 : Nat) : Int) = (i : Int) + 1 by omega]
      exact he2
    · have hb' : b < s.heap.objs.size := by
        rcases (show b = e ∨ b = j by simpa using hb) with rfl | rfl
        · exact le
        · exact lj
      rw [upd_ne (Nat.ne_of_lt hb')]
      exact (hf b hb).1
  done := by
    intro X hP hw hK hc i pins s σ H E I hf st hg
    subst hP hw hK
    obtain ⟨⟨o1, he⟩, hj, ne⟩ := st
    obtain ⟨ys, hs, hy⟩ := hg
    obtain ⟨its, rv, p, hz⟩ := I.tuple hs
    have ht : s.heap.IsTuple a its.toArray := p
    obtain ⟨f0, f1, f2, f3, f4, f5⟩ := hf j (by simp)
    have hl := rv.length
    have T : s.TypeIs (.ref e) "enumerate" := ⟨_, he, rfl⟩
    unfold pyNext
    refine wpAny_bind (wpAny_attempt (wpAny_callSpecial?_slot (name := Str.ofString "__next__") T PySem.F.slot_enumerate_next (wpAny_call_entry PySem.F.slot_enumerate_next T PySem.F.entry_enumerate_next ?_ (PySem.F.args_enumerate_next_1 _))))
    show wpAny _ _ (field (.ref e) 2 >>= _) _ _ _
    refine wpAny_bind (wpAny_field he rfl (x := .ref j) rfl ?_)
    refine wpAny_bind (wpAny_nextOf_tuple_end (I.ok.hd hc) hj ht (by simp; omega) fun h' x eb hx => ?_)
    obtain ⟨o, ho, oc⟩ := hx
    refine wpAny_bind (wpAny_isInstance (T := "StopIteration") (b := true) ⟨o, ho, oc⟩ isSubtype_stop ?_)
    exact wpAny_pure ⟨rfl, I.turned (t' := s.toks) (fun b o hb q => eb b o hb q) f0 f1 f3 f4 f5⟩
  self := fun A i s Q E st h => wpAny_pyIter_enum st.1.choose_spec h
/-- enumerate(list or tuple) -/
def iEnS (K : PySem.W.Frag) (ta : TA) : TI := fun σ H R => ta σ H fun vs H1 => ∃ a, vs = [.ref a] ∧ (((∃ xs, SqL K H1 a xs) ∧ R (Ite K a) H1) ∨ ((∃ xs, SqT K H1 a xs) ∧ R (ItEt K a) H1))
theorem pi_enS {X : Cx} {e : Expr} {ta : TA} {p pos tpos : Pos} {elts : List Expr} {kk : Nat} (hg : Gl X "enumerate") (hm : X.mg "enumerate" = none) (ha : PA X [e] ta) (hs : starEach [e] X.env = [(false, eval e X.env)] := by rfl) :
    PI X (.Tuple elts kk tpos) (.Call (.Name "enumerate" p) [e] [] pos) (iEnS X.K ta) := by
  constructor
  intro pins s σ H R I h
  refine Call_ (ld_blt I hg hm boot_enumerate (PyProof.Rows.callWith_type1 (thn (ha.run pos pins s σ H _ I h) ?_) hs rfl))
  rintro us t ⟨vs, G, J, rv, a, rfl, z⟩
  cases rv with
  | cons r rr =>
  cases rr
  cases r
  have fr : ∀ b ∈ [t.heap.objs.size + 1, t.heap.objs.size], t.heap.objs.size ≤ b := fun b hb => by
    rcases (show b = t.heap.objs.size + 1 ∨ b = t.heap.objs.size by simpa using hb) with rfl | rfl
    · exact Nat.le_add_right _ _
    · exact Nat.le_refl _
  rcases z with ⟨⟨xs, hx⟩, q⟩ | ⟨⟨xs, hx⟩, q⟩
  · obtain ⟨us, _, il, _⟩ := J.list hx
    refine callEn (begins_list a us.toArray) il.isList fun G1 en g1 kp => wpAny_pyIter_enum en ?_
    exact ⟨t.heap.objs.size + 1, [t.heap.objs.size + 1, t.heap.objs.size], _, _, G, rfl, J.kept (t' := t.toks) kp, turn_enum a _ t.heap.objs.size, ⟨⟨.none, en⟩, ⟨_, g1, rfl, rfl⟩, Nat.succ_ne_self _⟩,
      fun b hb => J.fpOk (fr b hb) (J.hok.fresh (fr b hb)), q⟩
  · obtain ⟨us, _, il, _⟩ := J.tuple hx
    refine callEn (begins_tuple a us.toArray) il fun G1 en g1 kp => wpAny_pyIter_enum en ?_
    exact ⟨t.heap.objs.size + 1, [t.heap.objs.size + 1, t.heap.objs.size], _, _, G, rfl, J.kept (t' := t.toks) kp, turnEt a _ t.heap.objs.size, ⟨⟨.none, en⟩, ⟨_, g1, rfl, rfl⟩, Nat.succ_ne_self _⟩,
      fun b hb => J.fpOk (fr b hb) (J.hok.fresh (fr b hb)), q⟩
end SwEn
namespace Sw
open PySem PySem.Spec PyProof.Rows L2
/-! ### raise C(e) -/
def tRz (C : Addr) (f : Str) (ta : TA) (E : XK) : TS := fun _ σ H => tMkO C (spErr C f) [] ta σ H E
def RzE (C : Addr) (f : Str) (W : XK) (vs : List V) (H1 : Hp) : Prop := vs.length ≤ 1000 ∧ ∀ a, H1 a = none → spErr C f (.ref a :: (vs ++ [])) (upd H1 a (exo a C none))
  (fun v H2 => v = .non ∧ ∃ (d : Addr) (fs : List (Str × V)), H2 a = some (exo a C (some d)) ∧ H2 d = some (exd d fs) ∧ H1 d = none ∧ W (.ref C) (some d) (upd (del H2 a) d (.xd fs))) (fun _ _ _ => False)
section
variable {C : Addr} {f : Str} {ta : TA} {σ : L2.St} {H : Hp} {E : XK} {nx bk ct : L2.St → Hp → Prop} {rt : VK}
theorem rz_ (h : ta σ H fun vs H1 => RzE C f E vs H1) : tRz C f ta E ⟨nx, rt, bk, ct⟩ σ H := h
theorem rzE {v : V} (h : ∀ dd H', Has H [] H' [(dd, .xd [(f, v)])] → E (.ref C) (some dd) H') : RzE C f E [v] H := by
  refine ⟨Nat.le_of_ble_eq_true rfl, fun a ha => ⟨a, v, rfl, upd_same, fun dx n ne => ⟨rfl, dx, [(f, v)], upd_same, ?_, ?_, ?_⟩⟩⟩
  · rw [upd_ne ne, upd_same]
  · rwa [upd_ne ne] at n
  · rw [upd_ne ne] at n
    refine h dx _ ⟨fun b o e _ => ?_, fun x hx => ?_, by simp⟩
    · have h1 : b ≠ dx := ne_of_none e n
      have h2 : b ≠ a := ne_of_none e ha
      rwa [upd_ne h1, del_ne h2, upd_ne h2, upd_ne h1, upd_ne h2]
    · cases List.mem_singleton.mp hx
      exact upd_same
end
/-- an own class of errors that may be raised by its name -/
structure RzOk (P : Program) (w : World) (K : PySem.W.Frag) (mg : Str → Option Value) (base : Heap) (x : Str) (C : Addr) (f : Str) : Prop where
  T : OexC K C
  gm : mg x = some (.ref C)
  ini : ∃ (g : Addr) (fd : FuncData), PySem.W.findIn K (.ref C) "__init__" = some (some (.ref g)) ∧ PySem.W.typeIn K (.ref g) = some (.type "function") ∧ FnOk P w K mg base CX0 1 g fd ["self", f] (spErr C f) ∧ Binds K fd ["self", f] []
theorem ps_rz {X : Cx} {k : Nat} {x f : Str} {C : Addr} {e : Expr} {ta : TA} {E : XK} {p pos pos' : Pos} (R : RzOk X.prog X.w X.K X.mg X.base x C f) (hc : X.calm = true) (tk : Takes X (fun cls d _ H => E cls d H)) (hr : Room k X.A) (hk : 2 ≤ k) (hg : Gl X x) (ha : PA X [e] ta)
    (hdb : (x == ("__debug__" : Str)) = false := by decide) (he : starEach [e] X.env = (false, eval e X.env) :: starEach [] X.env := by rfl) (hpl : (backTo pos (starEach [] X.env)).any (·.1) = false := by rfl) :
    PS X (.Raise (some (.Call (.Name x p) [e] [] pos)) none pos') (tRz C f ta E) := by
  obtain ⟨g, fd, i1, i2, F, hb⟩ := R.ini
  exact ps_raise hc tk (pmk_oex R.T i1 i2 F (hr.mono hk) hb .nil pass0 hg R.gm ha hdb he hpl)
/-- self.f = e in such an __init__ -/
theorem k_ost {X : Cx} {K : PySem.W.Frag} {o e : Expr} {f : Str} {to te : TE} {p' pos : Pos} (hK : X.K = K) (ho : PE X o to) (he : PE X e te) (hs : swapsWith e (some (.Attribute o f p')) pos.line X.env = pure false := by rfl) :
    PS X (.Assign [.Attribute o f p'] e pos) (tOst K f to te) := hK ▸ ps_ost ho he hs
/-! ### enumerate -/
section
variable {K : PySem.W.Frag} {R : It → Hp → Prop} {ta : TA} {σ : L2.St} {H : Hp} {a : Addr} {xs : List V} {g : TG} {tb : TS} {nx : L2.St → Hp → Prop} {rt : VK}
theorem k_enS {X : Cx} {e : Expr} {p pos tpos : Pos} {elts : List Expr} {kk : Nat} (hK : X.K = K) (hg : Gl X "enumerate") (hm : X.mg "enumerate" = none) (ha : PA X [e] ta) (hs : starEach [e] X.env = [(false, eval e X.env)] := by rfl) :
    PI X (.Tuple elts kk tpos) (.Call (.Name "enumerate" p) [e] [] pos) (SwEn.iEnS K ta) := hK ▸ SwEn.pi_enS hg hm ha hs
def EnK (K : PySem.W.Frag) (R : It → Hp → Prop) (vs : List V) (H1 : Hp) : Prop := ∃ a, vs = [.ref a] ∧ (((∃ xs, SqL K H1 a xs) ∧ R (Ite K a) H1) ∨ ((∃ xs, SqT K H1 a xs) ∧ R (SwEn.ItEt K a) H1))
theorem en_ (h : ta σ H fun vs H1 => EnK K R vs H1) : SwEn.iEnS K ta σ H R := h
theorem fork_en (Pv : Nat → L2.St → Hp → Prop) (h0 : Pv 0 σ H) (hl : (∀ i σ H, i ≤ xs.length → Pv i σ H → SqL K H a xs) ∨ (∀ i σ H, i ≤ xs.length → Pv i σ H → SqT K H a xs))
    (hs : ∀ (i : Nat) x σ H T, xs[i]? = some x → Pv i σ H → H T = none → g (.ref T) σ (upd H T (.tup [.int i, x])) fun σ2 H2 => tb ⟨Pv (i + 1), rt, nx, Pv (i + 1)⟩ σ2 H2) (hd : ∀ σ H, Pv xs.length σ H → nx σ H) : EnK K (fun J H1 => ForK g tb nx rt σ J H1) [.ref a] H := by
  rcases hl with hl | hl
  all_goals refine ⟨a, rfl, ?_⟩
  · refine .inl ⟨⟨xs, hl 0 _ _ (Nat.zero_le _) h0⟩, fun i m σ H => m + i = xs.length ∧ Pv i σ H, ⟨xs.length, rfl, h0⟩, fun i m σ H ⟨hm, hp⟩ => ?_⟩
    by_cases z : i = xs.length
    · subst z
      exact .inl ⟨⟨xs, hl _ _ _ (Nat.le_refl _) hp, Nat.le_refl _⟩, hd _ _ hp⟩
    · have lt : i < xs.length := by omega
      refine .inr ⟨⟨xs, xs[i], hl i _ _ (by omega) hp, List.getElem?_eq_getElem lt⟩, Pv (i + 1), fun σ' H' q => ⟨m - 1, by omega, by omega, q⟩, fun x H' q => ?_⟩
      obtain ⟨T, y, rfl, n, rfl, hy⟩ := q
      exact hs i y σ H T (hy _ (hl i _ _ (by omega) hp)) hp n
  · refine .inr ⟨⟨xs, hl 0 _ _ (Nat.zero_le _) h0⟩, fun i m σ H => m + i = xs.length ∧ Pv i σ H, ⟨xs.length, rfl, h0⟩, fun i m σ H ⟨hm, hp⟩ => ?_⟩
    by_cases z : i = xs.length
    · subst z
      exact .inl ⟨⟨xs, hl _ _ _ (Nat.le_refl _) hp, Nat.le_refl _⟩, hd _ _ hp⟩
    · have lt : i < xs.length := by omega
      refine .inr ⟨⟨xs, xs[i], hl i _ _ (by omega) hp, List.getElem?_eq_getElem lt⟩, Pv (i + 1), fun σ' H' q => ⟨m - 1, by omega, by omega, q⟩, fun x H' q => ?_⟩
      obtain ⟨T, y, rfl, n, rfl, hy⟩ := q
      exact hs i y σ H T (hy _ (hl i _ _ (by omega) hp)) hp n
end
/-! ### replace -/
section
variable {X : Cx}
/-- a text and an operator ahead of what wants a token -/
theorem pe_opT {op : Operator} {r : R2} {z : Str} {j : Nat} {p1 pos : Pos} {e : Expr} {te : TE} (ho : OpR X (binaryOp op) r) (he : PET X e te) : PE X (.BinOp (.Constant (.str z) j p1) op e pos) (tOp r (tC (.str z)) te) := by
  constructor
  intro pins s σ H Q I h
  refine wpAny_BinOp (Calls.Constant_str ?_)
  exact thn (he pins { s with toks := s.toks + 1 } σ H _ (Nat.le_add_left _ _) (I.tok _) h) fun u s2 ⟨y, H2, I2, r2, q2⟩ => ho pins s2 σ H2 (.str z) y _ u Q I2 ⟨_, rfl⟩ r2 q2
def ReplK (y z : Str) (Q : VK) (v : V) (H1 : Hp) : Prop := ∃ x, v = .str x ∧ x.length + (x.length + 1) * z.length ≤ 16777216 ∧ Q (.str (Txt.replace x y z)) H1
theorem repl_ {to : TE} {y z : Str} {σ : L2.St} {H : Hp} {Q : VK} (h : to σ H fun v H1 => ReplK y z Q v H1) : CwR.tReplC to y z σ H Q := h
end
end Sw
set_option Elab.async false
set_option linter.all false
set_option maxRecDepth 100000
set_option maxHeartbeats 4000000
namespace K18
open PySem PySem.Spec PyProof.Rows L2 Sw
local macro_rules | `(tactic| walk_at "fr0") => `(tactic| first | assumption | exact Or.inl List.mem_cons_self | (refine Or.inr ?_; assumption))
local macro_rules | `(tactic| walk_at "at") => `(tactic| first | assumption | ((with_reducible refine' Has.at (by assumption) ?m); (case m => walk_at "mem")))
local macro_rules | `(tactic| walk_at "sub") => `(tactic| first | with_reducible exact List.Sublist.refl _ | with_reducible exact List.nil_sublist _ | ((with_reducible refine' List.Sublist.cons_cons _ ?t); walk_at "sub") | ((with_reducible refine' List.Sublist.cons _ ?t); walk_at "sub"))
local macro_rules | `(tactic| walk_at "len") => `(tactic| (simp only [List.length_cons, List.length_nil, List.length_append, List.length_map]; omega))
local macro_rules | `(tactic| walk_at "om") => `(tactic| first | decide | omega | (constructor <;> omega) | (simp only [List.length_map]; first | omega | (constructor <;> omega)))
local macro_rules | `(tactic| walk_at "ati") => `(tactic| first | exact at0 | exact at1 | exact at2 | exact at3 | exact at4 | exact at5 | exact at6 | exact at7 | exact at8 | exact at9 | assumption)
local macro_rules | `(tactic| walk_at "mem") => `(tactic| first | with_reducible exact List.mem_cons_self | ((with_reducible refine' List.mem_cons_of_mem _ ?t); walk_at "mem"))
local macro_rules | `(tactic| walk_at "put") => `(tactic| first | with_reducible exact Put.here | ((with_reducible refine' Put.there ?t); walk_at "put"))
local macro_rules | `(tactic| walk_at "sq") => `(tactic| first | ((with_reducible refine' Has.l (by assumption) ?m); (case m => walk_at "mem")) | ((with_reducible refine' Has.t (by assumption) ?m); (case m => walk_at "mem")) | ((with_reducible refine' Has.sl (by assumption) (by assumption) ?n); (case n => walk_at "nin")) | ((with_reducible refine' Has.st (by assumption) (by assumption) ?n); (case n => walk_at "nin")))
local macro_rules | `(tactic| walk_at "nin") => `(tactic| (simp only [List.mem_cons, List.not_mem_nil, or_false, not_or, not_false_eq_true]; try (first | assumption | (refine ⟨?_, ?_⟩ <;> assumption))))
local macro_rules | `(tactic| walk_at "g1") => `(tactic| first
  | ((with_reducible refine' sfldk (by assumption) ?p ?f ?c ?n ?l ?h); (case p => walk_at "put"); (case f => walk_at "fr0"); (case c => assumption); (case n => assumption); (case l => exact Nat.le_of_ble_eq_true rfl); (intro H_ h_))
  | ((with_reducible refine' fldk ?p ?c ?n ?l ?h); (case p => walk_at "at"); (case c => assumption); (case n => assumption); (case l => rfl))
  | with_reducible refine' sfld_ ?_
  | with_reducible refine' make_ ?_
  | with_reducible refine' lenSet_ ?_
  | with_reducible refine' chain2_ ?_
  | with_reducible refine' chain3_ ?_
  | with_reducible refine' link_ ?_
  | with_reducible refine' endC_ ?_
  | with_reducible refine' chI ?_
  | with_reducible refine' inS1 ?_
  | with_reducible refine' isiS ?_
  | with_reducible refine' isiI ?_
  | with_reducible refine' isiIb ?_
  | with_reducible refine' isN_ ?_
  | with_reducible refine' notN_ ?_
  | with_reducible refine' fld_ ?_
  | with_reducible refine' istr_ ?_
  | with_reducible refine' istrk ?_
  | ((with_reducible refine' lenSP ?c ?h); (case c => walk_at "om"))
  | ((with_reducible refine' isiTup ?p ?h); (case p => walk_at "at"))
  | ((with_reducible refine' isiDict ?p ?h); (case p => walk_at "at"))
  | ((with_reducible refine' gt2_ ?s ?h); (case s => walk_at "sq"))
  | ((with_reducible refine' gt3_ ?s ?h); (case s => walk_at "sq"))
  | with_reducible refine' tru_ ?_
  | with_reducible refine' trub ?_
  | with_reducible refine' par3_ ?_
  | with_reducible refine' par3k ?_
  | with_reducible refine' bm_ ?_
  | with_reducible refine' bmS ?_
  | ((with_reducible refine' bmL ?s ?h); (case s => walk_at "sq"))
  | with_reducible refine' find_ ?_
  | with_reducible refine' par_ ?_
  | with_reducible refine' park ?_
  | ((with_reducible refine' modP ?c ?h); (case c => walk_at "om"); (intro r_ r0_ r1_))
  | ((with_reducible refine' divP ?c ?h); (case c => walk_at "om"); (intro r_ r0_))
  | ((with_reducible refine' mulR ?c ?h); (case c => walk_at "om"))
  | ((with_reducible refine' mulL ?c ?h); (case c => walk_at "om"))
  | ((with_reducible refine' powP ?c ?h); (case c => exact ⟨by decide, by decide, by decide⟩))
  | with_reducible refine' rng1_ ?_
  | with_reducible refine' rng2_ ?_
  | with_reducible refine' ilist_ ?_
  | with_reducible refine' itup_ ?_
  | with_reducible refine' for_ ?_
  | with_reducible refine' lc_ ?_
  | with_reducible refine' yes_ ?_
  | with_reducible refine' part_ ?_
  | with_reducible refine' nopart_ ?_
  | with_reducible refine' sl_ ?_
  | with_reducible refine' gn_ ?_
  | with_reducible refine' partk ?_
  | with_reducible refine' isi_str ?_
  | with_reducible refine' int1 ?_
  | ((with_reducible refine' min2P ?h); (intro m_ m0_ m1_ m2_))
  | ((with_reducible refine' max2P ?h); (intro m_ m0_ m1_ m2_))
  | ((with_reducible refine' lenL ?s ?h); (case s => walk_at "sq"))
  | ((with_reducible refine' lenT ?s ?h); (case s => walk_at "sq"))
  | ((with_reducible refine' ilistk ?s ?h); (case s => walk_at "sq"))
  | ((with_reducible refine' itupk ?s ?h); (case s => walk_at "sq"))
  | ((with_reducible refine' getL ?s ?e ?h); (case s => walk_at "sq"); (case e => walk_at "ati"))
  | with_reducible refine' seq_ ?_
  | with_reducible refine' set_ ?_
  | with_reducible refine' asg_ ?_
  | with_reducible refine' op_ ?_
  | with_reducible refine' un_ ?_
  | with_reducible refine' nil_ ?_
  | with_reducible refine' cons_ ?_
  | with_reducible refine' cb_ ?_
  | with_reducible refine' call_ ?_
  | with_reducible refine' test_ ?_
  | with_reducible refine' b_ ?_
  | with_reducible refine' not_ ?_
  | with_reducible refine' and_ ?_
  | with_reducible refine' or_ ?_
  | with_reducible refine' andV_ ?_
  | with_reducible refine' orV_ ?_
  | with_reducible refine' notV_ ?_
  | with_reducible refine' if_ ?_
  | with_reducible refine' drop_ ?_
  | with_reducible refine' ret_ ?_
  | with_reducible refine' ifS_ ?_
  | with_reducible refine' augS_ ?_
  | with_reducible refine' tup_ ?_
  | with_reducible refine' lst_ ?_
  | with_reducible refine' c_ ?_
  | with_reducible refine' next_ ?_
  | with_reducible refine' break_ ?_
  | with_reducible refine' cont_ ?_
  | with_reducible exact retN_ (by assumption)
  | with_reducible refine' blk ?_
  | with_reducible refine' andk ?_
  | with_reducible refine' ork ?_
  | with_reducible refine' notk ?_
  | with_reducible refine' gname ?_
  | with_reducible refine' gasg_ ?_
  | with_reducible refine' ipI_ ?_
  | with_reducible refine' i0 ?_
  | with_reducible refine' iu ?_
  | with_reducible refine' addI ?_
  | with_reducible refine' setk0 ?_
  | with_reducible refine' var0 ?_
  | with_reducible refine' aug0 ?_
  | with_reducible refine' setk1 ?_
  | with_reducible refine' var1 ?_
  | with_reducible refine' aug1 ?_
  | with_reducible refine' setk2 ?_
  | with_reducible refine' var2 ?_
  | with_reducible refine' aug2 ?_
  | with_reducible refine' setk3 ?_
  | with_reducible refine' var3 ?_
  | with_reducible refine' aug3 ?_
  | with_reducible refine' setk4 ?_
  | with_reducible refine' var4 ?_
  | with_reducible refine' aug4 ?_
  | with_reducible refine' setk5 ?_
  | with_reducible refine' var5 ?_
  | with_reducible refine' aug5 ?_
  | with_reducible refine' setk6 ?_
  | with_reducible refine' var6 ?_
  | with_reducible refine' aug6 ?_
  | with_reducible refine' setk7 ?_
  | with_reducible refine' var7 ?_
  | with_reducible refine' aug7 ?_
  | with_reducible refine' setk8 ?_
  | with_reducible refine' var8 ?_
  | with_reducible refine' aug8 ?_
  | with_reducible refine' setk9 ?_
  | with_reducible refine' var9 ?_
  | with_reducible refine' aug9 ?_
  | with_reducible refine' setk10 ?_
  | with_reducible refine' var10 ?_
  | with_reducible refine' aug10 ?_
  | with_reducible refine' setk11 ?_
  | with_reducible refine' var11 ?_
  | with_reducible refine' aug11 ?_
  | with_reducible refine' setk12 ?_
  | with_reducible refine' var12 ?_
  | with_reducible refine' aug12 ?_
  | with_reducible refine' setk13 ?_
  | with_reducible refine' var13 ?_
  | with_reducible refine' aug13 ?_
  | with_reducible refine' setk14 ?_
  | with_reducible refine' var14 ?_
  | with_reducible refine' aug14 ?_
  | with_reducible refine' setk15 ?_
  | with_reducible refine' var15 ?_
  | with_reducible refine' aug15 ?_
  | with_reducible refine' setk16 ?_
  | with_reducible refine' var16 ?_
  | with_reducible refine' aug16 ?_
  | with_reducible refine' setk17 ?_
  | with_reducible refine' var17 ?_
  | with_reducible refine' aug17 ?_
  | with_reducible refine' setk18 ?_
  | with_reducible refine' var18 ?_
  | with_reducible refine' aug18 ?_
  | with_reducible refine' setk19 ?_
  | with_reducible refine' var19 ?_
  | with_reducible refine' aug19 ?_
  | with_reducible refine' setk20 ?_
  | with_reducible refine' var20 ?_
  | with_reducible refine' aug20 ?_
  | with_reducible refine' setk21 ?_
  | with_reducible refine' var21 ?_
  | with_reducible refine' aug21 ?_
  | with_reducible refine' setk22 ?_
  | with_reducible refine' var22 ?_
  | with_reducible refine' aug22 ?_
  | with_reducible refine' setk23 ?_
  | with_reducible refine' var23 ?_
  | with_reducible refine' aug23 ?_
  | with_reducible refine' setk24 ?_
  | with_reducible refine' var24 ?_
  | with_reducible refine' aug24 ?_
  | with_reducible refine' setk25 ?_
  | with_reducible refine' var25 ?_
  | with_reducible refine' aug25 ?_
  | ((with_reducible refine' equ ?e ?h); (case e => rfl))
  | ((with_reducible refine' neu ?e ?h); (case e => rfl))
  | ((with_reducible refine' addSP ?e ?f ?h); (case e => walk_at "om"); (case f => walk_at "om"))
  | ((with_reducible refine' strP ?c ?h); (case c => walk_at "om"); (intro x_ x0_ x1_))
  | ((with_reducible refine' addL (by assumption) ?a ?b ?l ?h); (case a => walk_at "mem"); (case b => walk_at "mem"); (case l => walk_at "len"); (intro p_ H_ n_ h_))
  | ((with_reducible refine' tupk (by assumption) ?e ?h); (case e => simp only [List.length_cons, List.length_nil]; decide); (intro p_ H_ n_ h_))
  | ((with_reducible refine' lstk (by assumption) ?e ?h); (case e => simp only [List.length_cons, List.length_nil]; decide); (intro p_ H_ n_ h_))
  | ((with_reducible refine' ixT ?s ?e ?h); (case s => walk_at "sq"); (case e => walk_at "ati"))
  | ((with_reducible refine' ixL ?s ?e ?h); (case s => walk_at "sq"); (case e => walk_at "ati"))
  | ((with_reducible refine' ite_t ?e ?h); (case e => rfl))
  | ((with_reducible refine' ite_f ?e ?h); (case e => rfl)))
local macro_rules | `(tactic| walk_at "go") => `(tactic| repeat walk_at "g1")

local macro_rules | `(tactic| walk_at "g1") => `(tactic| first | with_reducible refine' rz_ ?_ | with_reducible refine' en_ ?_ | with_reducible refine' repl_ ?_)

section
variable {P : Program} {w : World} {K : PySem.W.Frag} {mg : Str → Option Value} {base : Heap}
def topS (i : Nat) : Stmt := PySem.Challenge.pw_switchyard_k18_whole_lines.main.body.getD i (.Pass ⟨0, 0, 0, 0⟩)
abbrev s__law_number : Stmt := topS 16
theorem sc__law_number : FnScope ["script", "index", "cell", "turn", "rest", "step", "blend"] ["script", "index"] (defScope s__law_number) := ⟨rfl, rfl, rfl, by decide +kernel, rfl, by decide +kernel, by decide +kernel⟩
abbrev s__law_take : Stmt := topS 17
theorem sc__law_take : FnScope ["draw", "many"] ["draw", "many"] (defScope s__law_take) := ⟨rfl, rfl, rfl, by decide +kernel, rfl, by decide +kernel, by decide +kernel⟩
abbrev s__law_pick : Stmt := topS 18
theorem sc__law_pick : FnScope ["draw", "items"] ["draw", "items"] (defScope s__law_pick) := ⟨rfl, rfl, rfl, by decide +kernel, rfl, by decide +kernel, by decide +kernel⟩
abbrev s__law_split : Stmt := topS 19
theorem sc__law_split : FnScope ["line", "words", "word", "at", "sign", "end", "begin", "is_told"] ["line"] (defScope s__law_split) := ⟨rfl, rfl, rfl, by decide +kernel, rfl, by decide +kernel, by decide +kernel⟩
abbrev s__law_refused : Stmt := topS 20
theorem sc__law_refused : FnScope ["deed", "fault"] ["deed"] (defScope s__law_refused) := ⟨rfl, rfl, rfl, by decide +kernel, rfl, by decide +kernel, by decide +kernel⟩
abbrev s_law : Stmt := topS 21
theorem sc_law : FnScope ["script", "draw", "signs", "turn", "line", "due", "words", "word", "is_plain", "bad", "number", "again", "sign"] ["script"] (defScope s_law) := ⟨rfl, rfl, rfl, by decide +kernel, rfl, by decide +kernel, by decide +kernel⟩
/-! ### drawing -/
def NumPost (H : Hp) (Q : VK) : Prop := ∀ (r : Int) H', Has H [] H' [] → 0 ≤ r → r < 2147483648 → Q (.int r) H'
theorem NumPost.use {H H' : Hp} {Q : VK} {r : Int} (h : NumPost H Q) (hh : Has H [] H' []) (h0 : 0 ≤ r) (h1 : r < 2147483648) : Q (.int r) H' := h r H' hh h0 h1
def spNumber (K : PySem.W.Frag) : Sp := fun vs H Q _ => ∃ (s : Addr) (ns : List Int) (i : Int), vs = [.ref s, .int i] ∧ SqL K H s (ns.map V.int) ∧ 0 ≤ i ∧ i ≤ 1000000 ∧ ns.length ≤ 63 ∧ NumPost H Q
local macro_rules | `(tactic| walk_at "num_tail") => `(tactic| (
  refine rng1k (by omega) ?_
  refine fork_rng (fun _ σ' H' => ∃ (a : Addr) (ix : Int) (ns : List Int) (cell turn rest : Int) (st : Option V), σ' = [some (.ref a), some (.int ix), some (.int cell), some (.int turn), some (.int rest), st, none] ∧ SqL _ H' a (ns.map V.int) ∧ ns.length ≤ 63 ∧ 0 ≤ ix ∧ ix ≤ 1000000 ∧ Has _ [] H' []) ⟨_, _, _, _, _, _, _, rfl, by walk_at "sq", by assumption, by assumption, by assumption, Has.sub (by assumption) (List.nil_sublist _)⟩ (fun i σ' H' hi hp => ?_) (fun σ' H' hp => ?_)
  · obtain ⟨a, ix, ns, cell, turn, rest, st, e, hs, hl, hi0, hi1, hh⟩ := hp
    subst e
    walk_at "go"
    exact ⟨_, _, _, _, _, _, _, rfl, hs, hl, hi0, hi1, hh⟩
  · obtain ⟨a, ix, ns, cell, turn, rest, st, e, hs, hl, hi0, hi1, hh⟩ := hp
    subst e
    walk_at "go"
    refine ite_c (fun hc => ?_) (fun hc => ?_)
    · walk_at "go"
      exact NumPost.use (by assumption) hh (by omega) (by omega)
    · walk_at "go"
      refine lenL hs ?_
      walk_at "go"
      exact NumPost.use (by assumption) hh (by omega) (by omega)))
theorem ok_number {f : Addr} {fd : FuncData} {k : Nat} (F : Fun K "_law_number" "_law_number" s__law_number f fd) (m_len : mg "len" = none) (m_int : mg "int" = none) (m_range : mg "range" = none) : FnOk P w K mg base CX0 (k + 1) f fd ["script", "index"] (spNumber K) := by
  refine F.ok sc__law_number (fun vs H Q E h => ?_) (fun cdv A outer s H vs Q E hr h => ?_)
  · obtain ⟨a, k, x, rfl, _⟩ := h
    rfl
  · obtain ⟨a, ns, ix, rfl, hS, hi0, hi1, hlen, q⟩ := h
    refine ⟨_, (pss_cons (ps_asg (pe_ifExp (pt_cmpR (k_ne (K := K) rfl (by exact hr.units)) (pv 0) (pe_lst pa_nil) (nomark _)) (pe_tup (pa_cons (pe_ix (k_ix (K := K) rfl) (pv 0) (pe_op op_modN (pv 1) (pe_callB (k_len (K := K) rfl) (by rfl) m_len (by decide +kernel) (pa_cons (pv 0) pa_nil))) (fun _ _ => rfl)) (pa_cons (pe_op op_fdivN (pv 1) (pe_callB (k_len (K := K) rfl) (by rfl) m_len (by decide +kernel) (pa_cons (pv 0) pa_nil))) pa_nil))) (pe_tup (pa_cons pe_int (pa_cons pe_int pa_nil)))) (k_gtup (K := K) (n := 2) rfl rfl (pgs_cons (pg_name (i := 2) sc__law_number.nd rfl (.inl rfl)) (pgs_cons (pg_name (i := 3) sc__law_number.nd rfl (.inl rfl)) pgs_nil))))
    (pss_cons (ps_set (i := 4) sc__law_number.nd rfl (.inl rfl) (pe_ifExp (pt_cmpR op_lt (pv 3) pe_int (nomark _)) (pe_op op_sub (pv 2) (pe_op op_pow pe_int pe_int)) pe_int))
    (pss_cons (ps_for PassesOwn.never rfl (pi_range1 (by rfl) m_range (pa_cons (pe_op op_modN (pe_callTy call_intN (by rfl) m_int (by decide +kernel) (pa_cons (pv 3) pa_nil)) pe_int) pa_nil)) (pg_name (i := 5) sc__law_number.nd rfl (.inl rfl)) (pss_one (ps_set (i := 4) sc__law_number.nd rfl (.inl rfl) (pe_op op_fdivN (pv 4) pe_int))))
    (pss_cons (ps_if (pt_cmpR op_gt (pv 4) pe_int (nomark _)) (pss_one (ps_ret (pe_op op_modN (pe_callTy call_intN (by rfl) m_int (by decide +kernel) (pa_cons (pv 4) pa_nil)) pe_int))) pss_nil)
    (pss_cons (ps_set (i := 6) sc__law_number.nd rfl (.inl rfl) (pe_op op_modN (pe_op (k_add (K := K) rfl) (pe_op op_mul (pe_callTy call_intN (by rfl) m_int (by decide +kernel) (pa_cons (pe_op (k_add (K := K) rfl) (pv 2) (pe_op op_mul pe_int (pv 1))) pa_nil)) pe_int) (pe_op op_mul pe_int (pe_callB (k_len (K := K) rfl) (by rfl) m_len (by decide +kernel) (pa_cons (pv 0) pa_nil)))) pe_int))
    (pss_cons (ps_set (i := 6) sc__law_number.nd rfl (.inl rfl) (pe_op op_modN (pe_op (k_add (K := K) rfl) (pe_op op_mul (pv 6) (pv 6)) (pe_op op_mul pe_int (pv 1))) pe_int))
    (pss_one (ps_ret (pe_callTy call_intN (by rfl) m_int (by decide +kernel) (pa_cons (pe_op op_modN (pe_op (k_add (K := K) rfl) (pe_op op_mul (pv 6) pe_int) (pe_op op_fdivN (pv 6) pe_int)) pe_int) pa_nil)))))))))), ?_⟩
    have h0 := Has.start H []
    show (_ : L2.St → Hp → Prop) [some (.ref a), some (.int ix), none, none, none, none, none] H
    walk_at "go"
    rename_i p1 H1 n1 h1
    refine neuD (Dp.lst (h1.sl hS (by simp)) (dp_ints ns)) (Dp.lst (h1.l (by walk_at "mem")) .nil) (PySem.W.ke_shaped_ints ns) rfl ?_
    rw [eqv_ints_nil]
    refine blk ?_
    by_cases e : ns = []
    · subst e
      walk_at "go"
      walk_at "num_tail"
    · have hp : 0 < ns.length := List.length_pos_iff.mpr e
      rw [decide_eq_false e]
      walk_at "go"
      rename_i r r0 r1
      simp only [List.length_map] at r1
      obtain ⟨v, hv⟩ : ∃ n : Int, ns[r.toNat]? = some n := ⟨_, List.getElem?_eq_getElem (i := r.toNat) (by omega)⟩
      have ha : atI (ns.map V.int) r = some (.int v) := at_of (j := r.toNat) (by omega) (by rw [List.getElem?_map, hv]; rfl)
      refine rIx_L (h1.sl hS (by simp)) ha ?_
      walk_at "go"
      refine ite_c (fun hc => ?_) (fun hc => ?_)
      · walk_at "go"
        walk_at "num_tail"
      · walk_at "go"
        walk_at "num_tail"

/-- the list that draws: the script and how many were drawn -/
def DrawP (K : PySem.W.Frag) (H : Hp) (d : Addr) (s : Addr) (ns : List Int) (i : Int) : Prop := H d = some (.lst [.ref s, .int i]) ∧ SqL K H s (ns.map V.int) ∧ 0 ≤ i ∧ ns.length ≤ 63
/-- the script stands, whatever is drawn -/
def Scr (K : PySem.W.Frag) (H0 : Hp) (ex : List Addr) (s : Addr) (ns : List Int) : Prop := ns.length ≤ 63 ∧ ∀ H L, Has H0 ex H L → SqL K H s (ns.map V.int)
theorem scr0 {K : PySem.W.Frag} {H0 : Hp} {s : Addr} {ns : List Int} (h : SqL K H0 s (ns.map V.int)) (hl : ns.length ≤ 63) : Scr K H0 [] s ns := ⟨hl, fun _ _ hh => hh.sl h (by simp)⟩
theorem DrawP.scr {K : PySem.W.Frag} {H : Hp} {d s : Addr} {ns : List Int} {i : Int} (h : DrawP K H d s ns i) : Scr K H [d] s ns := by
  obtain ⟨hd, hs, hi, hl⟩ := h
  refine ⟨hl, fun H' L hh => ?_⟩
  rcases hs with r | r
  · refine hh.sl (.inl r) ?_
    intro m
    have z : s = d := by simpa using m
    subst z
    rcases r with r | ⟨o, r⟩
    · rw [hd] at r
      injection r with r
      injection r with r
      cases ns with
      | nil => cases r
      | cons n ns => cases r
    · rw [hd] at r
      cases r
  · exact .inr r
def spTake (K : PySem.W.Frag) : Sp := fun vs H Q _ => ∃ (d s : Addr) (ns : List Int) (i m : Int), vs = [.ref d, .int m] ∧ DrawP K H d s ns i ∧ i < 1000000 ∧ 0 < m ∧ ∀ (r : Int) H', Has H [d] H' [(d, .lst [.ref s, .int (i + 1)])] → 0 ≤ r → r < m → Q (.int r) H'
theorem ok_take {f : Addr} {fd : FuncData} {k : Nat} (F : Fun K "_law_take" "_law_take" s__law_take f fd) (c__law_number : Cal P w K mg base CX0 k "_law_number" ["script", "index"] (spNumber K)) (m_int : mg "int" = none) : FnOk P w K mg base CX0 (k + 1) f fd ["draw", "many"] (spTake K) := by
  refine F.ok sc__law_take (fun vs H Q E h => ?_) (fun cdv A outer st H vs Q E hr h => ?_)
  · obtain ⟨a, b, c, d, e, rfl, _⟩ := h
    rfl
  · obtain ⟨d, s, ns, i, m, rfl, hD, hi1, hm, q⟩ := h
    have scr := hD.scr
    obtain ⟨hd, hS, hi0, hlen⟩ := hD
    refine ⟨_, (pss_cons (ps_augS (pv 0) pe_int (k_get (K := K) rfl) pe_int ip_add set_list)
    (pss_one (ps_ret (pe_op op_modN (pe_callTy call_intN (by rfl) m_int (by decide +kernel) (pa_cons (pe_cal c__law_number hr (by omega) (by rfl) pass0 (pa_cons (pe_ix (k_ix (K := K) rfl) (pv 0) pe_int (fun _ _ => rfl)) (pa_cons (pe_callTy call_intN (by rfl) m_int (by decide +kernel) (pa_cons (pe_ix (k_ix (K := K) rfl) (pv 0) pe_int (fun _ _ => rfl)) pa_nil)) pa_nil))) pa_nil)) (pv 1))))), ?_⟩
    have h0 : Has H [d] H [(d, .lst [.ref s, .int i])] := (Has.start H [d]).add hd (by simp)
    show (_ : L2.St → Hp → Prop) [some (.ref d), some (.int m)] H
    walk_at "go"
    refine setL21 h0 (by walk_at "put") (.inl (by simp)) fun H1 h1 => ?_
    walk_at "go"
    refine ⟨s, ns, i + 1, rfl, scr.2 _ _ h1, by omega, by omega, hlen, fun r H2 h2 r0 r1 => ?_⟩
    walk_at "go"
    rename_i t t0 t1
    exact q t H2 (h1.same h2) t0 t1
def spPick (K : PySem.W.Frag) : Sp := fun vs H Q _ => ∃ (d s p : Addr) (ns : List Int) (i : Int) (xs : List V), vs = [.ref d, .ref p] ∧ DrawP K H d s ns i ∧ i < 1000000 ∧ (SqL K H p xs ∨ SqT K H p xs) ∧ p ≠ d ∧ 0 < xs.length ∧ ∀ (j : Nat) (v : V) H', xs[j]? = some v → Has H [d] H' [(d, .lst [.ref s, .int (i + 1)])] → Q v H'
theorem ok_pick {f : Addr} {fd : FuncData} {k : Nat} (F : Fun K "_law_pick" "_law_pick" s__law_pick f fd) (c__law_take : Cal P w K mg base CX0 k "_law_take" ["draw", "many"] (spTake K)) (m_len : mg "len" = none) : FnOk P w K mg base CX0 (k + 1) f fd ["draw", "items"] (spPick K) := by
  refine F.ok sc__law_pick (fun vs H Q E h => ?_) (fun cdv A outer st H vs Q E hr h => ?_)
  · obtain ⟨a, b, c, d, e, g, rfl, _⟩ := h
    rfl
  · obtain ⟨d, s, p, ns, i, xs, rfl, hd, hi1, hS, hne, hl, q⟩ := h
    refine ⟨_, (pss_one (ps_ret (pe_ix (k_ix (K := K) rfl) (pv 1) (pe_cal c__law_take hr (by omega) (by rfl) pass0 (pa_cons (pv 0) (pa_cons (pe_callB (k_len (K := K) rfl) (by rfl) m_len (by decide +kernel) (pa_cons (pv 1) pa_nil)) pa_nil))) (fun _ _ => rfl)))), ?_⟩
    have h0 : Has H [d] H [] := Has.start H [d]
    show (_ : L2.St → Hp → Prop) [some (.ref d), some (.ref p)] H
    walk_at "go"
    rcases hS with hS | hS
    · refine lenL hS ?_
      walk_at "go"
      refine ⟨d, s, ns, i, _, rfl, hd, hi1, by omega, fun r H1 h1 r0 r1 => ?_⟩
      obtain ⟨v, hv⟩ : ∃ v, xs[r.toNat]? = some v := ⟨_, List.getElem?_eq_getElem (i := r.toNat) (by omega)⟩
      refine rIx_L (h1.sl hS (by simpa using hne)) (at_of (j := r.toNat) (by omega) hv) ?_
      exact q _ v H1 hv h1
    · refine lenT hS ?_
      walk_at "go"
      refine ⟨d, s, ns, i, _, rfl, hd, hi1, by omega, fun r H1 h1 r0 r1 => ?_⟩
      obtain ⟨v, hv⟩ : ∃ v, xs[r.toNat]? = some v := ⟨_, List.getElem?_eq_getElem (i := r.toNat) (by omega)⟩
      refine ixT (h1.st hS (by simpa using hne)) (at_of (j := r.toNat) (by omega) hv) ?_
      exact q _ v H1 hv h1

section
variable {H0 : Hp} {ex : List Addr} {H : Hp} {L L' M M' : List (Addr × HO)} {d s p : Addr} {ns : List Int} {i m : Int} {Q : VK} {E : XK} {xs : List V}
theorem take_ (scr : Scr K H0 ex s ns) (hH : Has H0 ex H L) (pt : Put L d (.lst [.ref s, .int i]) (.lst [.ref s, .int (i + 1)]) L') (f : d ∈ ex ∨ H0 d = none) (bi : 0 ≤ i ∧ i < 1000000) (bm : 0 < m)
    (h : ∀ (r : Int) H', Has H0 ex H' L' → 0 ≤ r → r < m → Q (.int r) H') : spTake K [.ref d, .int m] H Q E :=
  ⟨d, s, ns, i, m, rfl, ⟨hH.at pt.mem.1, scr.2 _ _ hH, bi.1, scr.1⟩, bi.2, bm, fun r H' h' r0 r1 => h r H' (hH.putC h' pt f) r0 r1⟩
theorem pick_ (scr : Scr K H0 ex s ns) (hH : Has H0 ex H ((p, .lst xs) :: M)) (pt : Put M d (.lst [.ref s, .int i]) (.lst [.ref s, .int (i + 1)]) M') (f : d ∈ ex ∨ H0 d = none) (bi : 0 ≤ i ∧ i < 1000000) (bl : 0 < xs.length)
    (h : ∀ (v : V) H', v ∈ xs → Has H0 ex H' ((p, .lst xs) :: M') → Q v H') : spPick K [.ref d, .ref p] H Q E := by
  have hne : p ≠ d := fun e => by
    have nd := hH.nd
    rw [List.map_cons, List.nodup_cons] at nd
    have m : d ∈ List.map Prod.fst M := List.mem_map_of_mem (f := Prod.fst) pt.mem.1
    rw [← e] at m
    exact nd.1 m
  exact ⟨d, s, p, ns, i, xs, rfl, ⟨hH.at (List.mem_cons_of_mem _ pt.mem.1), scr.2 _ _ hH, bi.1, scr.1⟩, bi.2, .inl (hH.l List.mem_cons_self), hne, bl, fun j v H' hv h' => h v H' (List.mem_of_getElem? hv) (hH.putC h' (.there pt) f)⟩
end

/-! ### what a refusal tells -/
theorem takes_len {X : Cx} {W : WX} (t : Takes X W) : Takes X (fun cls d σ H => σ.length = X.N.length → W cls d σ H) := fun u s' ⟨a, B, sI, pins, σ, H, cls, d, e, I, nb, up, sky, na, os, ag, w⟩ =>
  t u s' ⟨a, B, sI, pins, σ, H, cls, d, e, I, nb, up, sky, na, os, ag, w I.len⟩
/-- the classes that are caught, with their field and the word that is told -/
def TRef (cs : List (Addr × Str × Str)) : (XK → Hp → VK → Prop) → Hp → VK → Prop := fun tl H Q =>
  tl (fun cls d H1 => ∃ q ∈ cs, cls = .ref q.1 ∧ ∃ dd v, d = some dd ∧ H1 dd = some (.xd [(q.2.1, v)]) ∧ ∀ H2 p, H1 p = none → Has H1 [] H2 [(p, .tup [.str q.2.2, v])] → Q (.ref p) H2) H (fun _ H1 => Q .non H1)
theorem refused_gives {X : Cx} {g SE BL BW : Addr} {cdg : Value} {q : Str} (hK : X.K = K) (m_isinstance : X.mg "isinstance" = none) (g_SwitchError : X.mg "SwitchError" = some (.ref SE)) (g_BadLine : X.mg "BadLine" = some (.ref BL)) (g_BadWords : X.mg "BadWords" = some (.ref BW))
    (x11 : PySem.W.exmOne K (.ref BL) (.ref BL) = some true) (x21 : PySem.W.exmOne K (.ref BW) (.ref BL) = some false) (x22 : PySem.W.exmOne K (.ref BW) (.ref BW) = some true) (C : ExcC K BL) (T : XfC K BL) (T2 : XfC K BW)
    (f1 : PySem.W.findIn K (.ref BL) "column" = some none) (f2 : PySem.W.findIn K (.ref BW) "number" = some none) (is : PySem.W.kitOne K (.ref BL) (.ref SE) = some true) :
    LamX.GivesTo X ["deed", "fault"] "_law_refused" (defScope s__law_refused) g cdg (defBody s__law_refused) "deed" q (TRef [(BL, "column", "line"), (BW, "number", "words")]) := by
  subst hK
  intro f c' s H Q tl act hc h
  refine ⟨_, pss_cons (ps_try_clauses (X := (cxOf C8.CX0 X.prog X.w X.K X.mg X.base ["deed", "fault"] "_law_refused" (defScope s__law_refused) g cdg X.A X.stack s H C8.E0).nox)
      (tb := fun W D σ H => ∃ Ech : XK, (∀ cls d σ' H', Ech cls d H' → σ'.length = 2 → W cls d σ' H') ∧ σ[0]? = some (some (.ref f)) ∧ H c' = some (LamX.CodeO c' q) ∧ tl Ech H (fun _ H1 => D.nx σ H1))
      (l := [⟨.ref BL, 1, _⟩, ⟨.ref BW, 1, _⟩])
      rfl rfl sc__law_refused.nd LamX.takes0 (fun W pn xe tk _ => ⟨fun pins s' σ H' D I h' => ?_⟩)
      (.cons ⟨rfl, by decide, .inl g_BadLine⟩ rfl rfl (fun o ob cv d pn hz hf => pss_one (ps_ret (pe_ifExp (pt_val (pe_callB (call_isX rfl hz hf) (by rfl) m_isinstance (by decide +kernel) (pa_cons (pv 1) (pa_cons (pe_glob (v := .ref SE) (by rfl) g_SwitchError rfl) pa_nil)))) (pe_tup (pa_cons pe_str (pa_cons (pe_xf T f1 hz hf (pv 1)) pa_nil))) pe_non)))
        (.cons ⟨rfl, by decide, .inl g_BadWords⟩ rfl rfl (fun o ob cv d pn hz hf => pss_one (ps_ret (pe_tup (pa_cons pe_str (pa_cons (pe_xf T2 f2 hz hf (pv 1)) pa_nil))))) .nil))) (pss_one (ps_ret pe_non)), ?_⟩
  · obtain ⟨Ech, hW, h1, h2, h3⟩ := h'
    exact (pss_one (ps_expr (act _ pn xe Ech _ _ (takes_len tk) hW))).run pins s' σ H' D I ⟨h1, h2, h3⟩
  · refine ⟨fun cls d H1 => ∃ q ∈ [(BL, ("column" : Str), ("line" : Str)), (BW, "number", "words")], cls = .ref q.1 ∧ ∃ dd v, d = some dd ∧ H1 dd = some (.xd [(q.2.1, v)]) ∧ ∀ H2 p, H1 p = none → Has H1 [] H2 [(p, .tup [.str q.2.2, v])] → Q (.ref p) H2, fun cls d σ' H' e hl => ?_, rfl, hc, h⟩
    obtain ⟨q, hq, rfl, dd, v, rfl, hd, k⟩ := e
    obtain ⟨u0, u1, rfl⟩ : ∃ u0 u1, σ' = [u0, u1] := by
      match σ', hl with
      | [u0, u1], _ => exact ⟨u0, u1, rfl⟩
    rcases List.mem_cons.mp hq with rfl | hq
    · refine ⟨true, x11, fun _ o no => ?_, fun z => by cases z⟩
      have hh := Has.start H' []
      dsimp only [] at hd k ⊢
      show tRet _ _ [u0, some (.ref o)] H'
      walk_at "go"
      refine ⟨BL, dd, _, _, _, true, rfl, rfl, C, hd, rfl, fun u r => r, is, ?_⟩
      walk_at "go"
      refine ⟨_, rfl, rfl, rfl, dd, _, v, rfl, hd, rfl, ?_⟩
      walk_at "go"
      rename_i p G n hG
      exact k G p n hG
    · rw [List.mem_singleton] at hq
      subst hq
      refine ⟨false, x21, fun z => (by cases z), fun _ => ?_⟩
      refine ⟨true, x22, fun _ o no => ?_, fun z => (by cases z)⟩
      have hh := Has.start H' []
      dsimp only [] at hd k ⊢
      show tRet _ _ [u0, some (.ref o)] H'
      walk_at "go"
      refine ⟨_, rfl, rfl, rfl, dd, _, v, rfl, hd, rfl, ?_⟩
      walk_at "go"
      rename_i p G n hG
      exact k G p n hG

/-! ### what a line tells -/
def S (l : List Nat) : Str := ⟨l.toArray⟩
inductive Md | out | sq (b : Nat) | dq (b : Nat)
def spl : Md → Nat → List (List Nat) → Option (List Nat) → List Nat → Except Nat (List (List Nat))
  | .out, _, ws, w, [] => .ok (ws ++ w.toList)
  | .sq b, _, _, _, [] => .error b
  | .dq b, _, _, _, [] => .error b
  | .out, i, ws, w, [c] =>
    if c = 32 then spl .out (i + 1) (ws ++ w.toList) none [] else if c = 92 then .error (i + 1) else if c = 39 then spl (.sq (i + 1)) (i + 1) ws (some (w.getD [])) [] else if c = 34 then spl (.dq (i + 1)) (i + 1) ws (some (w.getD [])) []
    else spl .out (i + 1) ws (some (w.getD [] ++ [c])) []
  | .out, i, ws, w, c :: d :: r =>
    if c = 32 then spl .out (i + 1) (ws ++ w.toList) none (d :: r) else if c = 92 then spl .out (i + 2) ws (some (w.getD [] ++ [d])) r else if c = 39 then spl (.sq (i + 1)) (i + 1) ws (some (w.getD [])) (d :: r)
    else if c = 34 then spl (.dq (i + 1)) (i + 1) ws (some (w.getD [])) (d :: r) else spl .out (i + 1) ws (some (w.getD [] ++ [c])) (d :: r)
  | .sq b, i, ws, w, c :: r => if c = 39 then spl .out (i + 1) ws w r else spl (.sq b) (i + 1) ws (some (w.getD [] ++ [c])) r
  | .dq b, i, ws, w, [c] => if c = 34 then spl .out (i + 1) ws w [] else spl (.dq b) (i + 1) ws (some (w.getD [] ++ [c])) []
  | .dq b, i, ws, w, c :: d :: r =>
    if c = 34 then spl .out (i + 1) ws w (d :: r) else if c = 92 ∧ (d = 34 ∨ d = 92) then spl (.dq b) (i + 2) ws (some (w.getD [] ++ [d])) r else spl (.dq b) (i + 1) ws (some (w.getD [] ++ [c])) (d :: r)
def vW : Option (List Nat) → V
  | none => .non
  | some l => .str (S l)
abbrev vWs (ws : List (List Nat)) : List V := ws.map fun l => V.str (S l)
theorem sg {c d : Nat} : decide (V.str ⟨#[c]⟩ = V.str ⟨#[d]⟩) = decide (c = d) := decide_eq_decide.mpr ⟨fun e => by
  have := V.str.inj e
  simpa using congrArg (fun z => z.cps.toList) this, fun e => by rw [e]⟩
theorem eqS {c d : Nat} : eqV (V.str ⟨#[c]⟩) (V.str ⟨#[d]⟩) = decide (c = d) := by
  rw [← sg]
  show ((⟨#[c]⟩ : Str) == ⟨#[d]⟩) = _
  by_cases h : (⟨#[c]⟩ : Str) = ⟨#[d]⟩
  · rw [h, decide_eq_true rfl]
    exact beq_self_eq_true _
  · rw [decide_eq_false fun e => h (V.str.inj e)]
    exact beq_eq_false_iff_ne.mpr h
theorem S_add (l : List Nat) (c : Nat) : S l ++ ⟨#[c]⟩ = S (l ++ [c]) := by
  show (⟨l.toArray ++ #[c]⟩ : Str) = ⟨(l ++ [c]).toArray⟩
  simp
theorem S_len (l : List Nat) : (S l).length = l.length := rfl
theorem at_nat {α : Type} {xs : List α} {j : Nat} {v : α} (h : xs[j]? = some v) : atI xs (j : Int) = some v := atI_nat h
theorem at_n {α : Type} {xs : List α} {z : Int} {j : Nat} {v : α} (e : z = (j : Int)) (h : xs[j]? = some v) : atI xs z = some v := by
  rw [e]
  exact atI_nat h
theorem S_app (l m : List Nat) : S l ++ S m = S (l ++ m) := by
  show (⟨l.toArray ++ m.toArray⟩ : Str) = ⟨(l ++ m).toArray⟩
  simp
theorem cutS_nat {z : Str} {a b : Nat} {i j : Int} (h2 : b ≤ z.cps.toList.length) (h1 : a ≤ b) (ei : i = (a : Int)) (ej : j = (b : Int)) : cutS z (some i) (some j) = S ((z.cps.toList.drop a).take (b - a)) := by
  subst ei ej
  have hl : z.length = z.cps.toList.length := by rw [Array.length_toList]; rfl
  unfold cutS
  rw [HT.sIx_nat, HT.sIx_nat, hl, Nat.min_eq_left (Nat.le_trans h1 h2), Nat.min_eq_left h2]
  rfl
theorem idx_some {c : Nat} : ∀ {r : List Nat} {j : Nat}, r[j]? = some c → (∀ k, k < j → r[k]? ≠ some c) → r.findIdx? (· == c) = some j
  | [], j, h, _ => by simp at h
  | d :: r, 0, h, _ => by
    have : d = c := by simpa using h
    subst this
    simp [List.findIdx?_cons]
  | d :: r, j + 1, h, n => by
    have hd : (d == c) = false := by
      have := n 0 (Nat.succ_pos j)
      simpa using this
    rw [List.findIdx?_cons, hd, idx_some (r := r) (j := j) (by simpa using h) fun k hk => by simpa using n (k + 1) (by omega)]
    rfl
theorem idx_none {c : Nat} {r : List Nat} (n : ∀ k : Nat, r[k]? ≠ some c) : r.findIdx? (· == c) = none := by
  rw [List.findIdx?_eq_none_iff]
  intro x hx
  obtain ⟨k, hk⟩ := List.getElem?_of_mem hx
  have : x ≠ c := fun e => n k (by rw [hk, e])
  simpa using this
/-- a quote with `'`: up to the next one -/
theorem spl_sq (b : Nat) (ws : List (List Nat)) : ∀ (r : List Nat) (i : Nat) (w : List Nat), spl (.sq b) i ws (some w) r =
    match r.findIdx? (· == 39) with
    | none => .error b
    | some j => spl .out (i + j + 1) ws (some (w ++ r.take j)) (r.drop (j + 1))
  | [], i, w => by rw [spl]; rfl
  | c :: r, i, w => by
    rw [spl, List.findIdx?_cons]
    by_cases h : c = 39
    · subst h
      simp
    · rw [if_neg h, spl_sq b ws r (i + 1) _]
      have : (c == 39) = false := by simpa using h
      rw [this]
      cases e : r.findIdx? (· == 39) with
      | none => simp
      | some j =>
        simp only [Option.getD_some, Bool.false_eq_true, if_false, Option.map_some, List.take_succ_cons, List.drop_succ_cons, List.append_assoc, List.singleton_append]
        rw [show i + 1 + j + 1 = i + (j + 1) + 1 by omega]
section
variable {i b c d : Nat} {ws : List (List Nat)} {w : Option (List Nat)} {r : List Nat}
theorem spl_blank : spl .out i ws w (32 :: r) = spl .out (i + 1) (ws ++ w.toList) none r := by cases r <;> rw [spl] <;> rfl
theorem spl_bs0 : spl .out i ws w [92] = .error (i + 1) := by rw [spl]; rfl
theorem spl_bs : spl .out i ws w (92 :: d :: r) = spl .out (i + 2) ws (some (w.getD [] ++ [d])) r := by rw [spl]; rfl
theorem spl_q1 : spl .out i ws w (39 :: r) = spl (.sq (i + 1)) (i + 1) ws (some (w.getD [])) r := by cases r <;> rw [spl] <;> rfl
theorem spl_q2 : spl .out i ws w (34 :: r) = spl (.dq (i + 1)) (i + 1) ws (some (w.getD [])) r := by cases r <;> rw [spl] <;> rfl
theorem spl_sign (h1 : c ≠ 32) (h2 : c ≠ 92) (h3 : c ≠ 39) (h4 : c ≠ 34) : spl .out i ws w (c :: r) = spl .out (i + 1) ws (some (w.getD [] ++ [c])) r := by cases r <;> (conv => lhs; rw [spl, if_neg h1, if_neg h2, if_neg h3, if_neg h4])
theorem spl_dqe : spl (.dq b) i ws w (34 :: r) = spl .out (i + 1) ws w r := by cases r <;> rw [spl] <;> rfl
theorem spl_dqx (h : d = 34 ∨ d = 92) : spl (.dq b) i ws w (92 :: d :: r) = spl (.dq b) (i + 2) ws (some (w.getD [] ++ [d])) r := by rw [spl, if_neg (by decide), if_pos ⟨rfl, h⟩]
theorem spl_dqc (h1 : c ≠ 34) (h2 : ¬ (c = 92 ∧ ∃ d r', r = d :: r' ∧ (d = 34 ∨ d = 92))) : spl (.dq b) i ws w (c :: r) = spl (.dq b) (i + 1) ws (some (w.getD [] ++ [c])) r := by
  cases r with
  | nil => conv => lhs; rw [spl, if_neg h1]
  | cons d r => rw [spl, if_neg h1, if_neg fun z => h2 ⟨z.1, d, r, rfl, z.2⟩]
end
theorem wd {w : Option (List Nat)} {σ : L2.St} {H : Hp} {Q : VK} {i : Nat} (e : σ[i]? = some (some (vW w))) (h : Q (.str (S (w.getD []))) H) : tIf (tTest (tOp rIsN1 (tVar i) (tC V.non))) (tC (V.str "")) (tVar i) σ H Q := by
  cases w with
  | none => exact ⟨.non, e, rfl, true, rfl, h⟩
  | some l => exact ⟨.str (S l), e, rfl, false, rfl, .str (S l), e, h⟩
/-- what is so between two signs -/
def SInv (H : Hp) (x : Str) (cs : List Nat) (m : Nat) (σ' : L2.St) (H' : Hp) : Prop := ∃ (i : Nat) (ws : List (List Nat)) (w : Option (List Nat)) (pw : Addr) (s4 s5 s6 s7 : Option V), σ' = [some (.str x), some (.ref pw), some (vW w), some (.int i), s4, s5, s6, s7] ∧ m + i = cs.length ∧ ws.length ≤ i ∧ (w.getD []).length ≤ i ∧
  spl .out i ws w (cs.drop i) = spl .out 0 [] none cs ∧ Has H [] H' [(pw, .lst (vWs ws))]
theorem SInv.back {H : Hp} {x : Str} {cs : List Nat} {m i i' : Nat} {ws : List (List Nat)} {w : Option (List Nat)} {pw : Addr} {s4 s5 s6 s7 : Option V} {σ' : L2.St} {H' : Hp} {L : List (Addr × HO)} (e : σ' = [some (.str x), some (.ref pw), some (vW w), some (.int (i' : Int)), s4, s5, s6, s7]) (hm : m + i = cs.length) (h1 : i < i') (h2 : i' ≤ cs.length)
    (h3 : ws.length ≤ i') (h4 : (w.getD []).length ≤ i') (h5 : spl .out i' ws w (cs.drop i') = spl .out 0 [] none cs) (h6 : Has H [] H' L) (h7 : [(pw, HO.lst (vWs ws))].Sublist L) : ∃ m', m' < m ∧ SInv H x cs m' σ' H' :=
  ⟨cs.length - i', by omega, i', ws, w, pw, s4, s5, s6, s7, e, by omega, h3, h4, h5, h6.sub h7⟩
def splitL (cs : List Nat) : Except Nat (List (List Nat)) := spl .out 0 [] none cs
def spLSplit (_ : PySem.W.Frag) : Sp := fun vs H Q _ => ∃ x : Str, vs = [.str x] ∧ x.length ≤ 900 ∧ match splitL x.cps.toList with
  | .error c => ∀ H', Has H [] H' [] → Q (.int c) H'
  | .ok ws => ∀ p H', H p = none → Has H [] H' [(p, .lst (vWs ws))] → Q (.ref p) H'
theorem ok_law_split {f : Addr} {fd : FuncData} {k : Nat} (F : Fun K "_law_split" "_law_split" s__law_split f fd) (m_len : mg "len" = none) : FnOk P w K mg base CX0 (k + 1) f fd ["line"] (spLSplit K) := by
  refine F.ok sc__law_split (fun vs H Q E h => ?_) (fun cdv A outer s H vs Q E hr h => ?_)
  · obtain ⟨x, rfl, _⟩ := h
    rfl
  · obtain ⟨x, rfl, hx, q⟩ := h
    refine ⟨_, (pss_cons (ps_par3 (i := 1) (j := 2) (l := 3) (by rfl) sc__law_split.nd rfl rfl rfl (by decide) (by decide) (by decide) rfl rfl rfl (pa_cons (pe_lst pa_nil) (pa_cons pe_non (pa_cons pe_int pa_nil))) (by rfl))
    (pss_cons (ps_while PassesOwn.never (pt_cmpR op_lt (pv 3) (pe_callB (k_len (K := K) rfl) (by rfl) m_len (by decide +kernel) (pa_cons (pv 0) pa_nil)) (nomark _)) (pss_cons (ps_set (i := 4) sc__law_split.nd rfl (.inl rfl) (pe_ix (k_ix (K := K) rfl) (pv 0) (pv 3) (fun _ _ => rfl)))
    (pss_cons (ps_if (pt_cmpR (k_eq (K := K) rfl (by exact hr.units)) (pv 4) pe_str (nomark _)) (pss_cons (ps_par3 (i := 1) (j := 2) (l := 3) (by rfl) sc__law_split.nd rfl rfl rfl (by decide) (by decide) (by decide) rfl rfl rfl (pa_cons (pe_op (k_add (K := K) rfl) (pv 1) (pe_ifExp (pt_cmpR k_notN (pv 2) pe_non (nomark _)) (pe_lst (pa_cons (pv 2) pa_nil)) (pe_lst pa_nil))) (pa_cons pe_non (pa_cons (pe_op (k_add (K := K) rfl) (pv 3) pe_int) pa_nil))) (by rfl))
    (pss_one ps_continue)) pss_nil)
    (pss_cons (ps_set (i := 2) sc__law_split.nd rfl (.inl rfl) (pe_ifExp (pt_cmpR k_isN (pv 2) pe_non (nomark _)) pe_str (pv 2)))
    (pss_one (ps_if (pt_cmpR (k_eq (K := K) rfl (by exact hr.units)) (pv 4) pe_str (nomark _)) (pss_cons (ps_if (pt_cmpR (k_eq (K := K) rfl (by exact hr.units)) (pe_op (k_add (K := K) rfl) (pv 3) pe_int) (pe_callB (k_len (K := K) rfl) (by rfl) m_len (by decide +kernel) (pa_cons (pv 0) pa_nil)) (nomark _)) (pss_one (ps_ret (pe_op (k_add (K := K) rfl) (pv 3) pe_int))) pss_nil)
    (pss_one (ps_par (i := 2) (j := 3) (by rfl) sc__law_split.nd rfl rfl (by decide) rfl rfl (pa_cons (pe_op (k_add (K := K) rfl) (pv 2) (pe_ix (k_ix (K := K) rfl) (pv 0) (pe_op (k_add (K := K) rfl) (pv 3) pe_int) (fun _ _ => rfl))) (pa_cons (pe_op (k_add (K := K) rfl) (pv 3) pe_int) pa_nil)) (by rfl)))) (pss_one (ps_if (pt_cmpR (k_eq (K := K) rfl (by exact hr.units)) (pv 4) pe_str (nomark _)) (pss_cons (ps_set (i := 5) sc__law_split.nd rfl (.inl rfl) (k_bm (K := K) rfl PySem.F.plainAttrs_str PySem.F.slot_str_find PySem.F.type_str_find k_find (pv 0) (pa_cons pe_str (pa_cons (pe_op (k_add (K := K) rfl) (pv 3) pe_int) pa_nil))))
    (pss_cons (ps_if (pt_cmpR op_lt (pv 5) pe_int (nomark _)) (pss_one (ps_ret (pe_op (k_add (K := K) rfl) (pv 3) pe_int))) pss_nil)
    (pss_one (ps_par (i := 2) (j := 3) (by rfl) sc__law_split.nd rfl rfl (by decide) rfl rfl (pa_cons (pe_op (k_add (K := K) rfl) (pv 2) (pe_slice (k_sl (K := K) rfl) (pv 0) (po_some (pe_op (k_add (K := K) rfl) (pv 3) pe_int)) (po_some (pv 5)))) (pa_cons (pe_op (k_add (K := K) rfl) (pv 5) pe_int) pa_nil)) (by rfl))))) (pss_one (ps_if (pt_cmpR (k_eq (K := K) rfl (by exact hr.units)) (pv 4) pe_str (nomark _)) (pss_cons (ps_par (i := 6) (j := 3) (by rfl) sc__law_split.nd rfl rfl (by decide) rfl rfl (pa_cons (pe_op (k_add (K := K) rfl) (pv 3) pe_int) (pa_cons (pe_op (k_add (K := K) rfl) (pv 3) pe_int) pa_nil)) (by rfl))
    (pss_cons (ps_while PassesOwn.never (PW.pt (pw_and (pt_cmpR op_lt (pv 3) (pe_callB (k_len (K := K) rfl) (by rfl) m_len (by decide +kernel) (pa_cons (pv 0) pa_nil)) (nomark _)) (pw_and1 (pt_cmpR (k_ne (K := K) rfl (by exact hr.units)) (pe_ix (k_ix (K := K) rfl) (pv 0) (pv 3) (fun _ _ => rfl)) pe_str (nomark _))))) (pss_cons (ps_set (i := 7) sc__law_split.nd rfl (.inl rfl) (pe_and (pe_cmpR (k_eq (K := K) rfl (by exact hr.units)) (pe_ix (k_ix (K := K) rfl) (pv 0) (pv 3) (fun _ _ => rfl)) pe_str (nomark _)) (pe_and (pe_cmpR op_lt (pe_op (k_add (K := K) rfl) (pv 3) pe_int) (pe_callB (k_len (K := K) rfl) (by rfl) m_len (by decide +kernel) (pa_cons (pv 0) pa_nil)) (nomark _)) (pe_one (pe_cmpR (k_inU (K := K) rfl) (pe_ix (k_ix (K := K) rfl) (pv 0) (pe_op (k_add (K := K) rfl) (pv 3) pe_int) (fun _ _ => rfl)) (pe_tup (pa_cons pe_str (pa_cons pe_str pa_nil))) (by rfl))))))
    (pss_one (ps_par (i := 2) (j := 3) (by rfl) sc__law_split.nd rfl rfl (by decide) rfl rfl (pa_cons (pe_op (k_add (K := K) rfl) (pv 2) (pe_ix (k_ix (K := K) rfl) (pv 0) (pe_op (k_add (K := K) rfl) (pv 3) (pe_ifExp (k_truth (K := K) rfl (pv 7) (by intro _; rfl)) pe_int pe_int)) (fun _ _ => rfl))) (pa_cons (pe_op (k_add (K := K) rfl) (pv 3) (pe_ifExp (k_truth (K := K) rfl (pv 7) (by intro _; rfl)) pe_int pe_int)) pa_nil)) (by rfl)))))
    (pss_cons (ps_if (pt_cmpR op_ge (pv 3) (pe_callB (k_len (K := K) rfl) (by rfl) m_len (by decide +kernel) (pa_cons (pv 0) pa_nil)) (nomark _)) (pss_one (ps_ret (pv 6))) pss_nil)
    (pss_one (ps_set (i := 3) sc__law_split.nd rfl (.inl rfl) (pe_op (k_add (K := K) rfl) (pv 3) pe_int)))))) (pss_one (ps_par (i := 2) (j := 3) (by rfl) sc__law_split.nd rfl rfl (by decide) rfl rfl (pa_cons (pe_op (k_add (K := K) rfl) (pv 2) (pv 4)) (pa_cons (pe_op (k_add (K := K) rfl) (pv 3) pe_int) pa_nil)) (by rfl)))))))))))))
    (pss_one (ps_ret (pe_op (k_add (K := K) rfl) (pv 1) (pe_ifExp (pt_cmpR k_notN (pv 2) pe_non (nomark _)) (pe_lst (pa_cons (pv 2) pa_nil)) (pe_lst pa_nil))))))), ?_⟩
    have h0 := Has.start H []
    show (_ : L2.St → Hp → Prop) [some (.str x), none, none, none, none, none, none, none] H
    walk_at "go"
    rename_i pw0 G0 n0 hG0
    have hsz : x.length = x.cps.toList.length := by rw [Array.length_toList]; rfl
    obtain ⟨cs, hcs⟩ : ∃ cs, x.cps.toList = cs := ⟨_, rfl⟩
    rw [hcs] at q hsz
    refine while_ (SInv H x cs) cs.length ⟨0, [], none, pw0, _, _, _, _, rfl, by omega, by decide, by decide, rfl, hG0⟩ (fun m σ' H' hp => ?_)
    obtain ⟨i, ws, w, pw, s4, s5, s6, s7, rfl, hm, hws, hw, hspl, hH⟩ := hp
    rw [show spl .out 0 [] none cs = splitL cs from rfl] at hspl
    walk_at "go"
    refine whk (fun hc => ?_) (fun hc => ?_)
    · have hi : i < cs.length := by
        have := of_decide_eq_true hc
        omega
      obtain ⟨c, r, hcr⟩ : ∃ c r, cs.drop i = c :: r := ⟨cs[i], cs.drop (i + 1), List.drop_eq_getElem_cons hi⟩
      have hci : cs[i]? = some c := by
        have := congrArg (fun l => l[0]?) hcr
        simpa using this
      have hr1 : cs.drop (i + 1) = r := by
        rw [← List.drop_drop, hcr]
        rfl
      rw [hcr] at hspl
      have hx9 : x.length ≤ sizeLine := by rw [sizeLine_eq]; omega
      walk_at "go"
      refine ixS (c := c) hx9 (by rw [hcs]; exact at_nat hci) ?_
      walk_at "go"
      rw [show decide (V.str ⟨#[c]⟩ = V.str " ") = decide (c = 32) from sg]
      by_cases c32 : c = 32
      · subst c32
        rw [decide_eq_true rfl]
        rw [spl_blank, ← hr1] at hspl
        cases w with
        | none =>
          walk_at "go"
          rename_i h2
          refine SInv.back (i' := i + 1) (ws := ws) (w := none) rfl hm (by omega) (by omega) (by omega) (by simp) (show _ = splitL cs by simpa using hspl) h2 ?_
          rw [List.append_nil]
          walk_at "sub"
        | some l =>
          walk_at "go"
          rename_i h2
          refine SInv.back (i' := i + 1) (ws := ws ++ [l]) (w := none) rfl hm (by omega) (by omega) (by simp; omega) (by simp) (show _ = splitL cs by simpa using hspl) h2 ?_
          rw [show vWs (ws ++ [l]) = vWs ws ++ [vW (some l)] from List.map_append]
          walk_at "sub"
      · rw [decide_eq_false c32]
        refine ite_f rfl (next_ (seq_ (set_ (wd rfl ?_))))
        obtain ⟨l, hl⟩ : ∃ l, w.getD [] = l := ⟨_, rfl⟩
        rw [hl] at hw ⊢
        have hll : (S l).length ≤ 900 := by
          rw [S_len]
          omega
        walk_at "go"
        rw [show decide (V.str ⟨#[c]⟩ = V.str "\\") = decide (c = 92) from sg]
        by_cases c92 : c = 92
        · subst c92
          rw [decide_eq_true rfl]
          walk_at "go"
          refine ite_c (fun he => ?_) (fun he => ?_)
          · walk_at "go"
            have hr : r = [] := by
              rw [← hr1]
              have := V.int.inj (of_decide_eq_true he)
              exact List.drop_eq_nil_of_le (by omega)
            subst hr
            rw [spl_bs0] at hspl
            rw [← hspl] at q
            exact (show ∀ H', Has H [] H' [] → Q (.int ((i + 1 : Nat) : Int)) H' from q) _ (hH.sub (List.nil_sublist _))
          · walk_at "go"
            have hne : ¬ (i + 1 = x.length) := fun z => by
              rw [show (i : Int) + 1 = (x.length : Int) by omega, decide_eq_true rfl] at he
              cases he
            obtain ⟨d, r2, hr⟩ : ∃ d r2, r = d :: r2 := by
              cases r with
              | nil =>
                have := congrArg List.length hr1
                simp at this
                omega
              | cons d r2 => exact ⟨d, r2, rfl⟩
            subst hr
            have hdi : cs[i + 1]? = some d := by
              have := congrArg (fun l => l[0]?) hr1
              simpa using this
            have hr2 : cs.drop (i + 2) = r2 := by
              rw [show i + 2 = i + 1 + 1 from rfl, ← List.drop_drop, hr1]
              rfl
            refine ixS (c := d) hx9 (by rw [hcs]; exact at_n (j := i + 1) (by omega) hdi) ?_
            refine addSP (by omega) (by show (1 : Nat) ≤ _; decide) ?_
            rw [S_add]
            walk_at "go"
            refine SInv.back (i' := i + 2) (ws := ws) (w := some (l ++ [d])) rfl hm (by omega) (by omega) (by omega) (by simp; omega) ?_ hH (by walk_at "sub")
            rw [hr2, show spl .out 0 [] none cs = splitL cs from rfl, ← hspl, spl_bs, hl]
        · rw [decide_eq_false c92]
          walk_at "go"
          rw [show decide (V.str ⟨#[c]⟩ = V.str "'") = decide (c = 39) from sg]
          by_cases c39 : c = 39
          · subst c39
            rw [decide_eq_true rfl]
            walk_at "go"
            rw [spl_q1, hl, spl_sq] at hspl
            rcases find3_one (x := x) (c := 39) (i := i + 1) (by omega) with ⟨j, e, lo, hj, hn⟩ | ⟨e, hn⟩
            · rw [show Txt.find3 x "'" ((i : Int) + 1) = (j : Int) from e, decide_eq_false (show ¬ ((j : Int) < 0) by omega)]
              rw [hcs] at hj hn
              have hjl : j < cs.length := (List.getElem?_eq_some_iff.mp hj).1
              have hix : r.findIdx? (· == 39) = some (j - (i + 1)) := by
                rw [← hr1]
                refine idx_some ?_ fun k hk => ?_
                · rw [List.getElem?_drop, show i + 1 + (j - (i + 1)) = j by omega]
                  exact hj
                · rw [List.getElem?_drop]
                  exact hn _ (by omega) (by omega)
              rw [hix] at hspl
              dsimp only [] at hspl
              walk_at "go"
              refine slS hx9 ?_
              rw [cutS_nat (a := i + 1) (b := j) (by rw [hcs]; omega) (by omega) (by omega) (by omega), hcs, hr1]
              refine addSP (by omega) (by rw [S_len, List.length_take]; omega) ?_
              rw [S_app]
              walk_at "go"
              refine SInv.back (i' := j + 1) (ws := ws) (w := some (l ++ r.take (j - (i + 1)))) rfl hm (by omega) (by omega) (by omega) (by simp; omega) ?_ hH (by walk_at "sub")
              rw [show spl .out 0 [] none cs = splitL cs from rfl, ← hspl, ← hr1, List.drop_drop, show i + 1 + (j - (i + 1)) + 1 = j + 1 by omega, show i + 1 + (j - (i + 1) + 1) = j + 1 by omega]
            · rw [show Txt.find3 x "'" ((i : Int) + 1) = -1 from e, decide_eq_true (show (-1 : Int) < 0 by decide)]
              rw [hcs] at hn
              have hix : r.findIdx? (· == 39) = none := by
                rw [← hr1]
                refine idx_none fun k => ?_
                rw [List.getElem?_drop]
                exact hn _ (by omega)
              rw [hix] at hspl
              dsimp only [] at hspl
              rw [← hspl] at q
              walk_at "go"
              exact (show ∀ H', Has H [] H' [] → Q (.int ((i + 1 : Nat) : Int)) H' from q) _ (hH.sub (List.nil_sublist _))
          · rw [decide_eq_false c39]
            walk_at "go"
            rw [show decide (V.str ⟨#[c]⟩ = V.str "\"") = decide (c = 34) from sg]
            by_cases c34 : c = 34
            · subst c34
              rw [decide_eq_true rfl]
              walk_at "go"
              rw [spl_q2, hl] at hspl
              have tup2 : ∀ {H1 : Hp} {p : Addr} {L : List (Addr × HO)}, Has H [] H1 ((p, .tup [.str "\"", .str "\\"]) :: L) → SqT K H1 p [.str "\"", .str "\\"] := fun h => h.t List.mem_cons_self
              refine while_ (fun m2 σ2 H2 => ∃ (k : Nat) (l : List Nat) (s7 : Option V), σ2 = [some (.str x), some (.ref pw), some (.str (S l)), some (.int k), some (.str ⟨#[34]⟩), s5, some (.int ((i + 1 : Nat) : Int)), s7] ∧ m2 + k = cs.length ∧ i < k ∧ l.length ≤ k ∧
                spl (.dq (i + 1)) k ws (some l) (cs.drop k) = splitL cs ∧ Has H [] H2 [(pw, .lst (vWs ws))]) (cs.length - (i + 1)) ⟨i + 1, l, _, rfl, by omega, by omega, by omega, by rw [hr1]; exact hspl, hH⟩ (fun m2 σ2 H2 hp => ?_)
              obtain ⟨k, l2, t7, rfl, hm2, hik, hl2, hspl2, hH2⟩ := hp
              have hS2 : (S l2).length ≤ 900 := by
                rw [S_len]
                omega
              walk_at "go"
              by_cases hk : k < cs.length
              · rw [decide_eq_true (show (k : Int) < (x.length : Int) by omega)]
                obtain ⟨c, r2, hcr2⟩ : ∃ c r2, cs.drop k = c :: r2 := ⟨cs[k], cs.drop (k + 1), List.drop_eq_getElem_cons hk⟩
                have hck : cs[k]? = some c := by
                  have := congrArg (fun l => l[0]?) hcr2
                  simpa using this
                have hr2 : cs.drop (k + 1) = r2 := by
                  rw [← List.drop_drop, hcr2]
                  rfl
                rw [hcr2] at hspl2
                walk_at "go"
                refine ixS (c := c) hx9 (by rw [hcs]; exact at_nat hck) ?_
                walk_at "go"
                rw [show decide (V.str ⟨#[c]⟩ = V.str "\"") = decide (c = 34) from sg]
                by_cases c34 : c = 34
                · subst c34
                  rw [decide_eq_true rfl]
                  refine whk (fun z => by cases z) (fun _ => ?_)
                  walk_at "go"
                  rw [decide_eq_false (show ¬ ((x.length : Int) ≤ (k : Int)) by omega)]
                  walk_at "go"
                  refine SInv.back (i' := k + 1) (ws := ws) (w := some l2) rfl hm (by omega) (by omega) (by omega) (by simp; omega) ?_ hH2 (by walk_at "sub")
                  rw [hr2, show spl .out 0 [] none cs = splitL cs from rfl, ← hspl2, spl_dqe]
                · rw [decide_eq_false c34]
                  refine whk (fun _ => ?_) (fun z => by cases z)
                  walk_at "go"
                  refine ixS (c := c) hx9 (by rw [hcs]; exact at_nat hck) ?_
                  walk_at "go"
                  rw [show decide (V.str ⟨#[c]⟩ = V.str "\\") = decide (c = 92) from sg]
                  by_cases c92 : c = 92
                  · rw [decide_eq_true c92]
                    walk_at "go"
                    by_cases hk1 : k + 1 < cs.length
                    · rw [decide_eq_true (show (k : Int) + 1 < (x.length : Int) by omega)]
                      obtain ⟨d, r3, hr3⟩ : ∃ d r3, r2 = d :: r3 := by
                        cases r2 with
                        | nil =>
                          have := congrArg List.length hr2
                          simp at this
                          omega
                        | cons d r3 => exact ⟨d, r3, rfl⟩
                      subst hr3
                      have hdk : cs[k + 1]? = some d := by
                        have := congrArg (fun l => l[0]?) hr2
                        simpa using this
                      have hr3 : cs.drop (k + 2) = r3 := by
                        rw [show k + 2 = k + 1 + 1 from rfl, ← List.drop_drop, hr2]
                        rfl
                      walk_at "go"
                      refine ixS (c := d) hx9 (by rw [hcs]; exact at_n (j := k + 1) (by omega) hdk) ?_
                      walk_at "go"
                      rename_i hT
                      refine inUT (tup2 hT) rfl rfl ?_
                      have hb : inV (V.str ⟨#[d]⟩) [V.str "\"", V.str "\\"] = decide (d = 34 ∨ d = 92) := by
                        show (eqV (V.str ⟨#[34]⟩) (V.str ⟨#[d]⟩) || (eqV (V.str ⟨#[92]⟩) (V.str ⟨#[d]⟩) || false)) = _
                        rw [eqS, eqS, Bool.or_false, ← Bool.decide_or]
                        exact decide_eq_decide.mpr ⟨fun z => z.imp Eq.symm Eq.symm, fun z => z.imp Eq.symm Eq.symm⟩
                      rw [hb]
                      by_cases hd : d = 34 ∨ d = 92
                      · rw [decide_eq_true hd]
                        walk_at "go"
                        refine ixS (c := d) hx9 (by rw [hcs]; exact at_n (j := k + 1) (by omega) hdk) ?_
                        refine addSP (by omega) (by show (1 : Nat) ≤ _; decide) ?_
                        rw [S_add]
                        walk_at "go"
                        refine ⟨m2 - 2, by omega, k + 2, l2 ++ [d], _, rfl, by omega, by omega, by simp; omega, ?_, hT.sub (by walk_at "sub")⟩
                        rw [← hspl2, c92, spl_dqx hd, hr3]
                        rfl
                      · rw [decide_eq_false hd]
                        walk_at "go"
                        refine ixS (c := c) hx9 (by rw [hcs]; exact at_n (j := k) (by omega) hck) ?_
                        refine addSP (by omega) (by show (1 : Nat) ≤ _; decide) ?_
                        rw [S_add]
                        walk_at "go"
                        have hz := hT
                        refine ⟨m2 - 1, by omega, k + 1, l2 ++ [c], _, rfl, by omega, by omega, by simp; omega, ?_, hz.sub (by walk_at "sub")⟩
                        rw [← hspl2, spl_dqc c34 (fun z => hd (by obtain ⟨_, d', r', e, h⟩ := z; cases e; exact h)), hr2]
                        rfl
                    · rw [decide_eq_false (show ¬ (k : Int) + 1 < (x.length : Int) by omega)]
                      have hz := hH2
                      walk_at "go"
                      refine ixS (c := c) hx9 (by rw [hcs]; exact at_n (j := k) (by omega) hck) ?_
                      refine addSP (by omega) (by show (1 : Nat) ≤ _; decide) ?_
                      rw [S_add]
                      walk_at "go"
                      refine ⟨m2 - 1, by omega, k + 1, l2 ++ [c], _, rfl, by omega, by omega, by simp; omega, ?_, hz.sub (by walk_at "sub")⟩
                      rw [← hspl2, spl_dqc c34 (fun z => hk1 (by obtain ⟨_, d', r', e, h⟩ := z; have := congrArg List.length hr2; rw [e] at this; simp at this; omega)), hr2]
                      rfl
                  · rw [decide_eq_false c92]
                    have hz := hH2
                    walk_at "go"
                    refine ixS (c := c) hx9 (by rw [hcs]; exact at_n (j := k) (by omega) hck) ?_
                    refine addSP (by omega) (by show (1 : Nat) ≤ _; decide) ?_
                    rw [S_add]
                    walk_at "go"
                    refine ⟨m2 - 1, by omega, k + 1, l2 ++ [c], _, rfl, by omega, by omega, by simp; omega, ?_, hz.sub (by walk_at "sub")⟩
                    rw [← hspl2, spl_dqc c34 (fun z => c92 z.1), hr2]
                    rfl
              · rw [decide_eq_false (show ¬ (k : Int) < (x.length : Int) by omega)]
                walk_at "go"
                refine whk (fun z => by cases z) (fun _ => ?_)
                walk_at "go"
                rw [decide_eq_true (show (x.length : Int) ≤ (k : Int) by omega)]
                walk_at "go"
                rw [List.drop_eq_nil_of_le (by omega), spl] at hspl2
                rw [← hspl2] at q
                exact (show ∀ H', Has H [] H' [] → Q (.int ((i + 1 : Nat) : Int)) H' from q) _ (hH2.sub (List.nil_sublist _))
            · rw [decide_eq_false c34]
              walk_at "go"
              refine addSP (by omega) (by show (1 : Nat) ≤ _; decide) ?_
              rw [S_add]
              walk_at "go"
              refine SInv.back (i' := i + 1) (ws := ws) (w := some (l ++ [c])) rfl hm (by omega) (by omega) (by omega) (by simp; omega) ?_ hH (by walk_at "sub")
              rw [hr1, show spl .out 0 [] none cs = splitL cs from rfl, ← hspl, spl_sign c32 c92 c39 c34, hl]
    · have hi : i = cs.length := by
        have := of_decide_eq_false hc
        omega
      rw [hi, List.drop_length, spl] at hspl
      rw [← hspl] at q
      have q' : ∀ p H', H p = none → Has H [] H' [(p, .lst (vWs (ws ++ w.toList)))] → Q (.ref p) H' := q
      have fresh : ∀ {p : Addr} {H1 : Hp} {L : List (Addr × HO)}, Has H [] H1 L → H1 p = none → H p = none := fun h n => (freshD h n).resolve_left (by simp)
      cases w with
      | none =>
        walk_at "go"
        rename_i p1 G1 n1 h1 p2 G2 n2 h2
        refine q' _ _ (fresh h1 n2) ?_
        rw [show vWs (ws ++ none.toList) = vWs ws ++ [] from List.map_append]
        exact h2.sub (by walk_at "sub")
      | some l =>
        walk_at "go"
        rename_i p1 G1 n1 h1 p2 G2 n2 h2
        refine q' _ _ (fresh h1 n2) ?_
        rw [show vWs (ws ++ (some l).toList) = vWs ws ++ [vW (some l)] from List.map_append]
        exact h2.sub (by walk_at "sub")

local macro_rules | `(tactic| walk_at "fr") => `(tactic| first | assumption | exact Or.inl List.mem_cons_self | (refine Or.inr ?_; assumption))
local macro_rules | `(tactic| walk_at "dr") => `(tactic| first
  | ((with_reducible refine' take_ (by assumption) (by assumption) ?c ?f ?bi ?bm ?h); (case c => walk_at "put"); (case f => walk_at "fr"); (case bi => omega); (case bm => omega); (intro r_ H_ h_ r0_ r1_))
  | ((with_reducible refine' pick_ (by assumption) (by assumption) ?c ?f ?bi ?bm ?h); (case c => walk_at "put"); (case f => walk_at "fr"); (case bi => omega); (case bm => decide); (intro v_ H_ m_ h_)))

section
variable {i b c d : Nat} {ws : List (List Nat)} {w : Option (List Nat)} {r : List Nat}
theorem spl_sqe : spl (.sq b) i ws w (39 :: r) = spl .out (i + 1) ws w r := by rw [spl]; rfl
theorem spl_sqc (h : c ≠ 39) : spl (.sq b) i ws w (c :: r) = spl (.sq b) (i + 1) ws (some (w.getD [] ++ [c])) r := by rw [spl, if_neg h]
end
/-! ### writing -/
/-- signs that need no quotes -/
def plainC (c : Nat) : Bool := (decide (97 ≤ c) && decide (c ≤ 122)) || (decide (65 ≤ c) && decide (c ≤ 90)) || (decide (48 ≤ c) && decide (c ≤ 57)) || decide (c ∈ [45, 95, 61, 46, 47, 44, 58, 43, 64])
def quoteS (c : Nat) : List Nat := if c = 39 then [39, 92, 39, 39] else [c]
def quoteL (w : List Nat) : List Nat := 39 :: (w.flatMap quoteS ++ [39])
def wordL (w : List Nat) : List Nat := if (!w.isEmpty && w.all plainC) = true then w else quoteL w
def writeL : List (List Nat) → List Nat
  | [] => []
  | [w] => wordL w
  | w :: v :: r => wordL w ++ 32 :: writeL (v :: r)
theorem plain_ne {c : Nat} (h : plainC c = true) : c ≠ 32 ∧ c ≠ 92 ∧ c ≠ 39 ∧ c ≠ 34 := by
  refine ⟨?_, ?_, ?_, ?_⟩ <;> (rintro rfl; exact absurd h (by decide))
theorem spl_plain (ws : List (List Nat)) (r : List Nat) : ∀ (w : List Nat) (i : Nat) (v : Option (List Nat)), w.all plainC = true → w ≠ [] → ∃ j, spl .out i ws v (w ++ r) = spl .out j ws (some (v.getD [] ++ w)) r
  | [], _, _, _, h => absurd rfl h
  | [c], i, v, h, _ => by
    obtain ⟨a, b, d, e⟩ := plain_ne (c := c) (by simpa using h)
    exact ⟨i + 1, spl_sign a b d e⟩
  | c :: d :: w, i, v, h, _ => by
    have hc : plainC c = true := by
      have := List.all_eq_true.mp h c List.mem_cons_self
      exact this
    obtain ⟨a, b, e, f⟩ := plain_ne hc
    obtain ⟨j, hj⟩ := spl_plain ws r (d :: w) (i + 1) (some (v.getD [] ++ [c])) (by
      rw [List.all_cons] at h
      exact (Bool.and_eq_true_iff.mp h).2) (by simp)
    refine ⟨j, ?_⟩
    rw [List.cons_append, spl_sign a b e f, hj]
    simp
theorem spl_quoted (ws : List (List Nat)) (r : List Nat) : ∀ (w : List Nat) (i b : Nat) (v : List Nat), ∃ j, spl (.sq b) i ws (some v) (w.flatMap quoteS ++ 39 :: r) = spl .out j ws (some (v ++ w)) r
  | [], i, b, v => ⟨i + 1, by rw [List.flatMap_nil, List.nil_append, spl_sqe, List.append_nil]⟩
  | c :: w, i, b, v => by
    rw [List.flatMap_cons]
    by_cases h : c = 39
    · subst h
      obtain ⟨j, hj⟩ := spl_quoted ws r w (i + 1 + 2 + 1) (i + 1 + 2 + 1) (v ++ [39])
      refine ⟨j, ?_⟩
      show spl (.sq b) i ws (some v) (39 :: 92 :: 39 :: 39 :: (w.flatMap quoteS ++ 39 :: r)) = _
      rw [spl_sqe, spl_bs, spl_q1]
      simp only [Option.getD_some]
      rw [hj]
      simp
    · obtain ⟨j, hj⟩ := spl_quoted ws r w (i + 1) b (v ++ [c])
      refine ⟨j, ?_⟩
      rw [show quoteS c = [c] from if_neg h]
      show spl (.sq b) i ws (some v) (c :: (w.flatMap quoteS ++ 39 :: r)) = _
      rw [spl_sqc h]
      simp only [Option.getD_some]
      rw [hj]
      simp
theorem spl_word (ws : List (List Nat)) (w r : List Nat) (i : Nat) : ∃ j, spl .out i ws none (wordL w ++ r) = spl .out j ws (some w) r := by
  unfold wordL
  split
  · rename_i h
    obtain ⟨h1, h2⟩ := Bool.and_eq_true_iff.mp h
    obtain ⟨j, hj⟩ := spl_plain ws r w i none h2 (by
      intro e
      rw [e] at h1
      cases h1)
    exact ⟨j, by rw [hj]; simp⟩
  · obtain ⟨j, hj⟩ := spl_quoted ws r w (i + 1) (i + 1) []
    refine ⟨j, ?_⟩
    unfold quoteL
    rw [List.cons_append, List.append_assoc, List.singleton_append, spl_q1]
    simp only [Option.getD_none]
    rw [hj]
    simp
theorem spl_write : ∀ (us ws : List (List Nat)) (i : Nat), spl .out i ws none (writeL us) = .ok (ws ++ us)
  | [], ws, i => by
    show spl .out i ws none [] = _
    rw [spl]
    rfl
  | [w], ws, i => by
    obtain ⟨j, hj⟩ := spl_word ws w [] i
    show spl .out i ws none (wordL w) = _
    rw [List.append_nil] at hj
    rw [hj, spl]
    rfl
  | w :: v :: r, ws, i => by
    obtain ⟨j, hj⟩ := spl_word ws w (32 :: writeL (v :: r)) i
    show spl .out i ws none (wordL w ++ 32 :: writeL (v :: r)) = _
    rw [hj, spl_blank, spl_write (v :: r)]
    simp
theorem split_write (us : List (List Nat)) : splitL (writeL us) = .ok us := by
  unfold splitL
  rw [spl_write]
  rfl
theorem flat_len : ∀ w : List Nat, (w.flatMap quoteS).length ≤ 4 * w.length
  | [] => Nat.le_refl _
  | c :: w => by
    have ih := flat_len w
    rw [List.flatMap_cons, List.length_append, List.length_cons]
    have : (quoteS c).length ≤ 4 := by
      unfold quoteS
      split
      · decide
      · exact Nat.le_of_ble_eq_true rfl
    omega
theorem wordL_len {n : Nat} {w : List Nat} (h : w.length ≤ n) : (wordL w).length ≤ 4 * n + 2 := by
  unfold wordL
  split
  · omega
  · have := flat_len w
    unfold quoteL
    rw [List.length_cons, List.length_append, List.length_singleton]
    omega
theorem writeL_len (n : Nat) : ∀ us : List (List Nat), (∀ u ∈ us, u.length ≤ n) → (writeL us).length ≤ us.length * (4 * n + 3)
  | [], _ => Nat.zero_le _
  | [w], h => by
    have := wordL_len (h w List.mem_cons_self)
    show (wordL w).length ≤ 1 * (4 * n + 3)
    omega
  | w :: v :: r, h => by
    have h1 := wordL_len (h w List.mem_cons_self)
    have h2 := writeL_len n (v :: r) fun u hu => h u (List.mem_cons_of_mem _ hu)
    show (wordL w ++ 32 :: writeL (v :: r)).length ≤ _
    rw [List.length_append, List.length_cons, List.length_cons, Nat.succ_mul]
    omega
/-- the law's own writing of a word -/
theorem own_word {w : List Nat} (hs : ∀ c ∈ w, c ∈ [32, 39, 34, 92, 97, 98, 45, 61, 95, 90, 57, 42, 10, 126]) : (w.all fun c => decide (c ∈ [97, 98, 90, 57, 45, 61, 95])) = w.all plainC := by
  have key : ∀ c ∈ w, decide (c ∈ [97, 98, 90, 57, 45, 61, 95]) = plainC c := fun c hc => ?_
  · induction w with
    | nil => rfl
    | cons c w ih =>
      rw [List.all_cons, List.all_cons, key c List.mem_cons_self, ih (fun d hd => hs d (List.mem_cons_of_mem _ hd)) fun d hd => key d (List.mem_cons_of_mem _ hd)]
  have := hs c hc
  simp only [List.mem_cons, List.not_mem_nil, or_false] at this
  rcases this with rfl | rfl | rfl | rfl | rfl | rfl | rfl | rfl | rfl | rfl | rfl | rfl | rfl | rfl <;> decide
theorem spl_all (P : Nat → Prop) (m : Md) (i : Nat) (ws : List (List Nat)) (w : Option (List Nat)) (r : List Nat) : ∀ us, spl m i ws w r = .ok us → (∀ u ∈ ws, ∀ c ∈ u, P c) → (∀ c ∈ w.getD [], P c) → (∀ c ∈ r, P c) → ∀ u ∈ us, ∀ c ∈ u, P c := by
  have opt : ∀ (ws : List (List Nat)) (w : Option (List Nat)), (∀ u ∈ ws, ∀ c ∈ u, P c) → (∀ c ∈ w.getD [], P c) → ∀ u ∈ ws ++ w.toList, ∀ c ∈ u, P c := fun ws w h1 h2 u hu => by
    rcases List.mem_append.mp hu with h | h
    · exact h1 u h
    · cases w with
      | none => simp at h
      | some l =>
        have : u = l := by simpa using h
        subst this
        exact h2
  have app : ∀ (l : List Nat) (c : Nat), (∀ d ∈ l, P d) → P c → ∀ d ∈ l ++ [c], P d := fun l c h1 h2 d hd => by
    rcases List.mem_append.mp hd with h | h
    · exact h1 d h
    · have : d = c := by simpa using h
      subst this
      exact h2
  fun_induction spl m i ws w r <;> intro us e h1 h2 h3
  all_goals try (first | (cases e; exact opt _ _ h1 h2) | (cases e; done))
  all_goals
    rename_i ih
    refine ih us e ?_ ?_ ?_
    · first
        | exact h1
        | exact opt _ _ h1 h2
    · first
        | exact h2
        | (intro c hc; cases hc)
        | exact app _ _ h2 (h3 _ (by simp))
    · intro c hc
      exact h3 c (by first | exact hc | exact List.mem_cons_of_mem _ hc | exact List.mem_cons_of_mem _ (List.mem_cons_of_mem _ hc) | cases hc)
/-! the law's own quoting -/
theorem pre_one {c d : Nat} {r : List Nat} : TL.pre [d] (c :: r) = decide (c = d) := by
  unfold TL.pre
  by_cases h : c = d
  · subst h
    simp
  · rw [decide_eq_false h]
    simpa using h
theorem spl_ne (d : Nat) : ∀ (r acc : List Nat), TL.spl [d] 0 acc r ≠ []
  | [], acc => by simp [TL.spl]
  | c :: r, acc => by
    rw [TL.spl, pre_one]
    by_cases h : c = d
    · rw [decide_eq_true h]
      simp
    · rw [decide_eq_false h]
      exact spl_ne d r _
theorem joinL_cons {q p : List Nat} {l : List (List Nat)} (h : l ≠ []) : TL.joinL q (p :: l) = p ++ (q ++ TL.joinL q l) := by
  cases l with
  | nil => exact absurd rfl h
  | cons _ _ => rfl
theorem join_quote : ∀ (r acc : List Nat), TL.joinL [39, 92, 39, 39] (TL.spl [39] 0 acc r) = acc ++ r.flatMap quoteS
  | [], acc => by
    rw [TL.spl]
    simp [TL.joinL]
  | c :: r, acc => by
    rw [TL.spl, pre_one, List.flatMap_cons]
    by_cases h : c = 39
    · subst h
      rw [decide_eq_true rfl]
      show TL.joinL _ (acc :: TL.spl [39] 0 [] r) = _
      rw [joinL_cons (spl_ne 39 r []), join_quote r []]
      rfl
    · rw [decide_eq_false h]
      show TL.joinL _ (TL.spl [39] 0 (acc ++ [c]) r) = _
      rw [join_quote r (acc ++ [c]), show quoteS c = [c] from if_neg h, List.append_assoc]
theorem spl_small : ∀ (r acc : List Nat), (TL.spl [39] 0 acc r).length ≤ r.length + 1 ∧ ((TL.spl [39] 0 acc r).map List.length).sum ≤ acc.length + r.length
  | [], acc => by simp [TL.spl]
  | c :: r, acc => by
    rw [TL.spl, pre_one]
    by_cases h : c = 39
    · rw [decide_eq_true h]
      obtain ⟨h1, h2⟩ := spl_small r []
      show (acc :: TL.spl [39] 0 [] r).length ≤ _ ∧ ((acc :: TL.spl [39] 0 [] r).map List.length).sum ≤ _
      rw [List.length_cons, List.map_cons, List.sum_cons, List.length_cons]
      simp only [List.length_nil] at h2
      constructor <;> omega
    · rw [decide_eq_false h]
      obtain ⟨h1, h2⟩ := spl_small r (acc ++ [c])
      show (TL.spl [39] 0 (acc ++ [c]) r).length ≤ _ ∧ ((TL.spl [39] 0 (acc ++ [c]) r).map List.length).sum ≤ _
      rw [List.length_append, List.length_singleton] at h2
      rw [List.length_cons]
      constructor <;> omega
theorem join_write : ∀ us : List (List Nat), TL.joinL [32] (us.map wordL) = writeL us
  | [] => rfl
  | [_] => rfl
  | w :: v :: r => by
    show wordL w ++ ([32] ++ TL.joinL [32] ((v :: r).map wordL)) = _
    rw [join_write (v :: r)]
    rfl

/-! ### what the program keeps -/
def NoStr (H : Hp) (v : V) : Prop := v = .non ∨ (∃ i, v = .int i) ∨ ∃ a xs, v = .ref a ∧ H a = some (.lst xs)
def spSplit (BL : Addr) : Sp := fun vs H Q E => ∃ v, vs = [v] ∧ ((∃ x : Str, v = .str x ∧ x.length ≤ 900 ∧ match splitL x.cps.toList with
    | .error c => ∀ dd H', Has H [] H' [(dd, .xd [("column", .int c)])] → E (.ref BL) (some dd) H'
    | .ok ws => ∀ p H', H p = none → Has H [] H' [(p, .lst (vWs ws))] → Q (.ref p) H') ∨
  (NoStr H v ∧ ∀ dd H', Has H [] H' [(dd, .xd [("column", .int 0)])] → E (.ref BL) (some dd) H'))
def RowH (H : Hp) (p : Addr) (xs : List V) : Prop := H p = some (.lst xs) ∨ H p = some (.tup xs)
def spWrite (BW : Addr) (K : PySem.W.Frag) : Sp := fun vs H Q E => (∃ (p : Addr) (us : List (List Nat)), vs = [.ref p] ∧ RowH H p (vWs us) ∧ us.length ≤ 20 ∧ (∀ u ∈ us, u.length ≤ 40) ∧ ∀ H', Has H [] H' [] → Q (.str (S (writeL us))) H') ∨
  (∃ (p : Addr) (y : V), vs = [.ref p] ∧ H p = some (.lst [.str "a", y]) ∧ NoStr H y ∧ ∀ dd H', Has H [] H' [(dd, .xd [("number", .int 1)])] → E (.ref BW) (some dd) H') ∨
  (∃ x : Str, vs = [.str x] ∧ ∀ dd H', Has H [] H' [(dd, .xd [("number", .non)])] → E (.ref BW) (some dd) H')
/-- the def that tells what is refused, called with a lambda -/
structure RefOk (K : PySem.W.Frag) (mg : Str → Option Value) (BL BW : Addr) : Prop where
  gv : ∀ {X : Cx} {g : Addr} {cdg : Value} {q : Str}, X.K = K → X.mg = mg → LamX.GivesTo X ["deed", "fault"] "_law_refused" (defScope s__law_refused) g cdg (defBody s__law_refused) "deed" q (TRef [(BL, "column", "line"), (BW, "number", "words")])
  fn : ∃ (g : Addr) (oc : Value) (od an : Option Addr) (osl : Array (Option Value)) (kV doc pm cdv ct : Value), mg "_law_refused" = some (.ref g) ∧ PySem.W.keepIn K (.ref g) = true ∧ K.lookup g = some ⟨oc, od, .func (PySem.W.fnOf "_law_refused" "_law_refused" (defArgs s__law_refused) (defBody s__law_refused) (defScope s__law_refused) .none kV doc pm an cdv ct), osl⟩ ∧ PySem.W.codeIn K cdv "_law_refused" = true
theorem pe_ref {X : Cx} {BL BW c P' : Addr} {k : Nat} {params : Arguments} {body : Expr} {scope : Scope} {t : XK → TE} {p lpos pos : Pos} (R : RefOk X.K X.mg BL BW) (hg : Gl X "_law_refused") (TB : LamX.TabB X.base X.mg c P') (hcode : X.env.code = .ref c) (hr : Room (k + 2) X.A) (L : LamX.LamS X.env.scope scope)
    (hdef : defaultsOf params X.env = ([], [])) (hbind : ∀ (q : Str) (cl : List (Str × Addr)) (pm cv ctv : Value), bindArgs (PySem.W.kla_fn "<lambda>" q params body scope cl pm cv ctv) ⟨[], []⟩ = pure [])
    (hbody : ∀ (A : Around) (outer : List Env) (s : Shared) (H : Hp) (E : XK) (f c' : Addr), Room k (A.deeper (LamX.lamEnv X scope s.heap.objs.size f c')) → PE (LamX.lamCx X A outer s H E scope f c') body (t E)) :
    PE X (.Call (.Name "_law_refused" p) [.Lambda params body scope lpos] [] pos) (LamX.tLam [(P', X.env.qual ++ "<lambda>")] (TRef [(BL, "column", "line"), (BW, "number", "words")]) t) := by
  obtain ⟨g, oc, od, an, osl, kV, doc, pm, cdv, ct, hm, hk, lk, hcg⟩ := R.fn
  exact LamX.pe_lamcall (Ng := ["deed", "fault"]) hg hm hk lk hcg (.all fun us hl => match us, hl with | [_], _ => rfl) sc__law_refused rfl (.inl rfl) (R.gv rfl rfl) TB hcode List.mem_cons_self (fun q hq _ => by rw [List.mem_singleton] at hq; rw [hq]) hr L hdef hbind hbody
/-! ### texts of signs, rows of texts -/
theorem join_one (cs : List Nat) : Txt.join "" (cs.map fun c => S [c]) = S cs := by
  have e : ∀ cs : List Nat, TL.joinL [] (cs.map fun c => [c]) = cs := fun cs => by
    induction cs with
    | nil => rfl
    | cons c cs ih =>
      cases cs with
      | nil => rfl
      | cons d cs =>
        show c :: TL.joinL [] ((d :: cs).map fun c => [c]) = _
        rw [ih]
  have := SX.join_S [] (cs.map fun c => [c])
  rw [e, List.map_map] at this
  exact this
theorem dp_strs {K : PySem.W.Frag} {H : Hp} : ∀ ws : List (List Nat), DpAll K H (vWs ws) (ws.map fun l => PyData.str (S l))
  | [] => .nil
  | w :: ws => .cons (.str _) (dp_strs ws)
theorem lay_strs : ∀ {ws : List (List Nat)}, (∀ u ∈ ws, ∀ c ∈ u, c < 1114112) → PyData.canLayAll0 (ws.map fun l => PyData.str (S l)) = true
  | [], _ => rfl
  | w :: ws, h => by
    rw [List.map_cons, PyData.canLayAll0, lay_strs fun u hu => h u (List.mem_cons_of_mem _ hu), Bool.and_true, PyData.canLay0]
    unfold PyData.strOk S
    rw [Array.all_eq_true_iff_forall_mem]
    intro c hc
    exact decide_eq_true (h w List.mem_cons_self c (by simpa using hc))
theorem depth_strs : ∀ ws : List (List Nat), PyData.depthAll (ws.map fun l => PyData.str (S l)) = 0
  | [] => rfl
  | w :: ws => by rw [List.map_cons, PyData.depthAll, depth_strs ws]; rfl
theorem shaped_strs {ws : List (List Nat)} (h : ∀ u ∈ ws, ∀ c ∈ u, c < 1114112) : SeqAt.shaped (.list (ws.map fun l => PyData.str (S l))) = true := by
  unfold SeqAt.shaped
  rw [PyData.canLay0, lay_strs h, PyData.depth, depth_strs]
  rfl
theorem eq_strs {ws : List (List Nat)} (h : ∀ u ∈ ws, ∀ c ∈ u, c < 1114112) : PyData.eqv (.list (ws.map fun l => PyData.str (S l))) (.list (ws.map fun l => PyData.str (S l))) = true :=
  SeqAt.eqv_refl_plain _ (PyData.plain_of_canLay0 _ (SeqAt.canLay_of_shaped (shaped_strs h)))
theorem shaped_two {x : Str} {y : PyData} (hx : PyData.strOk x = true) (hy : PyData.canLay0 y = true) (hd : PyData.depth y = 0) : SeqAt.shaped (.tuple [.str x, y]) = true := by
  unfold SeqAt.shaped
  rw [PyData.canLay0, PyData.canLayAll0, PyData.canLay0, PyData.canLayAll0, PyData.canLayAll0, hx, hy, PyData.depth, PyData.depthAll, PyData.depthAll, PyData.depthAll, hd, PyData.depth]
  rfl
theorem sum_one (cs : List Nat) : ((cs.map fun c => S [c]).map (·.length)).sum = cs.length := by
  induction cs with
  | nil => rfl
  | cons c cs ih =>
    rw [List.map_cons, List.map_cons, List.sum_cons, ih, List.length_cons]
    show 1 + cs.length = _
    omega
theorem pickM {H0 : Hp} {ex : List Addr} {H : Hp} {L L' : List (Addr × HO)} {d s p : Addr} {ns : List Int} {i : Int} {Q : VK} {E : XK} {xs : List V} (scr : Scr K H0 ex s ns) (hH : Has H0 ex H L) (m : (p, HO.lst xs) ∈ L) (pt : Put L d (.lst [.ref s, .int i]) (.lst [.ref s, .int (i + 1)]) L') (ne : p ≠ d) (f : d ∈ ex ∨ H0 d = none) (bi : 0 ≤ i ∧ i < 1000000) (bl : 0 < xs.length)
    (h : ∀ (v : V) H', v ∈ xs → Has H0 ex H' L' → Q v H') : spPick K [.ref d, .ref p] H Q E :=
  ⟨d, s, p, ns, i, xs, rfl, ⟨hH.at pt.mem.1, scr.2 _ _ hH, bi.1, scr.1⟩, bi.2, .inl (hH.l m), ne, bl, fun j v H' hv h' => h v H' (List.mem_of_getElem? hv) (hH.putC h' pt f)⟩
theorem S_nil (u : List Nat) : decide (V.str (S u) = V.str "") = u.isEmpty := by
  cases u with
  | nil => exact decide_eq_true rfl
  | cons c u =>
    refine decide_eq_false fun e => ?_
    have := congrArg (fun z => z.cps.toList) (V.str.inj e)
    cases this
theorem q_split (u : List Nat) : Txt.split (S u) "'" = (TL.spl [39] 0 [] u).map S := SX.split_S (a := u) (b := [39]) (by simp) (by decide)
theorem q_join (u : List Nat) : Txt.join "'\\''" (Txt.split (S u) "'") = S (u.flatMap quoteS) := by
  rw [q_split]
  have := SX.join_S [39, 92, 39, 39] (TL.spl [39] 0 [] u)
  rw [join_quote] at this
  exact this
theorem len_S (l : List (List Nat)) : (l.map S).map (·.length) = l.map List.length := by
  rw [List.map_map]
  rfl
theorem q_len {u : List Nat} (h : u.length ≤ 5) : ((Txt.split (S u) "'").map (·.length)).sum + (Txt.split (S u) "'").length * 4 ≤ 16777216 := by
  obtain ⟨h1, h2⟩ := spl_small u []
  rw [q_split, len_S, List.length_map]
  simp only [List.length_nil] at h2
  omega
theorem w_join (us : List (List Nat)) : Txt.join " " ((us.map wordL).map S) = S (writeL us) := by
  have := SX.join_S [32] (us.map wordL)
  rw [join_write] at this
  exact this
theorem sum_le {n : Nat} : ∀ l : List Nat, (∀ x ∈ l, x ≤ n) → l.sum ≤ l.length * n
  | [], _ => Nat.zero_le _
  | x :: l, h => by
    have h1 := h x List.mem_cons_self
    have h2 := sum_le l fun y hy => h y (List.mem_cons_of_mem _ hy)
    rw [List.sum_cons, List.length_cons, Nat.succ_mul]
    omega
theorem andS {B : Hp} {ex : List Addr} {L : List (Addr × HO)} {c b : Bool} {X : V → Hp → Prop} {Y : Prop} {G : Hp} (key : ∀ G', Has B ex G' L → X (.bl b) G') (hG : Has B ex G L) (h1 : c = true → (∀ G', Has B ex G' L → X (.bl b) G') → Y) (h2 : c = false → b = false) :
    if c = true then Y else X (.bl false) G := by
  cases c with
  | true => exact h1 rfl key
  | false =>
    have := key G hG
    rw [h2 rfl] at this
    exact this
/-! ### what stands between two turns -/
abbrev sgL : List Nat := [32, 32, 39, 34, 92, 97, 98, 45, 61, 95, 90, 57, 42, 10, 126]
abbrev sgV : List V := [.str " ", .str " ", .str "'", .str "\"", .str "\\", .str "a", .str "b", .str "-", .str "=", .str "_", .str "Z", .str "9", .str "*", .str "\n", .str "~"]
theorem sgV_eq : sgV = sgL.map fun c => V.str (S [c]) := rfl
structure LSt (K : PySem.W.Frag) (T : List (Addr × Str)) (s d sg : Addr) (ns : List Int) (k : Int) (H' : Hp) : Prop where
  tabs : LamX.Tabs T H'
  drw : DrawP K H' d s ns k
  sgs : H' sg = some (.lst sgV)
  ne : sg ≠ d
theorem LSt.has {T : List (Addr × Str)} {s d sg : Addr} {ns : List Int} {k : Int} {H' : Hp} (h : LSt K T s d sg ns k H') : Has H' [d] H' [(sg, .lst sgV), (d, .lst [.ref s, .int k])] :=
  ((Has.start H' [d]).add h.drw.1 (by simp)).add h.sgs (by simpa using h.ne)
theorem LSt.next {T : List (Addr × Str)} {s d sg : Addr} {ns : List Int} {k k' : Int} {B G : Hp} {L : List (Addr × HO)} (h : LSt K T s d sg ns k B) (g : Has B [d] G L) (m1 : (sg, HO.lst sgV) ∈ L) (m2 : (d, HO.lst [.ref s, .int k']) ∈ L) (hk : 0 ≤ k') : LSt K T s d sg ns k' G :=
  ⟨g.tabs h.tabs (fun a m o e => by
      have z : a = d := by simpa using m
      subst z
      rw [h.drw.1] at e
      exact ⟨_, (Option.some.inj e).symm⟩), ⟨g.at m2, h.drw.scr.2 _ _ g, hk, h.drw.2.2.2⟩, g.at m1, h.ne⟩
/-- across the making of a lambda -/
theorem LSt.ext {T : List (Addr × Str)} {s d sg : Addr} {ns : List Int} {k : Int} {B G : Hp} (h : LSt K T s d sg ns k B) (e : LamX.ExtN B G) (t : LamX.Tabs T G) : LSt K T s d sg ns k G :=
  ⟨t, ⟨e _ _ h.drw.1 (fun ps z => by cases z), sq_ext h.drw.2.1 e, h.drw.2.2.1, h.drw.2.2.2⟩, e _ _ h.sgs (fun ps z => by cases z), h.ne⟩
def spLaw (K : PySem.W.Frag) (P' : Addr) : Sp := fun vs H Q _ => ∃ (s : Addr) (ns : List Int), vs = [.ref s] ∧ SqL K H s (ns.map V.int) ∧ ns.length ≤ 63 ∧ H P' = some (.tbl #[]) ∧ ∀ H', Q (.bl true) H'
theorem ok_law {f BL BW c P' : Addr} {oc : Value} {od an : Option Addr} {osl : Array (Option Value)} {kV doc pm ct : Value} (lk : K.lookup f = some ⟨oc, od, .func (PySem.W.fnOf "law" "law" (defArgs s_law) (defBody s_law) (defScope s_law) .none kV doc pm an (.ref c) ct), osl⟩) (hcd : PySem.W.codeIn K (.ref c) "law" = true)
    (c__law_take : Cal P w K mg base CX0 2 "_law_take" ["draw", "many"] (spTake K)) (c__law_pick : Cal P w K mg base CX0 3 "_law_pick" ["draw", "items"] (spPick K)) (c__law_split : Cal P w K mg base CX0 1 "_law_split" ["line"] (spLSplit K))
    (c_split_line : Cal P w K mg base (L2.CX P w) 5 "split_line" ["line"] (spSplit BL)) (c_write_line : Cal P w K mg base (L2.CX P w) 4 "write_line" ["words"] (spWrite BW K)) (R : RefOk K mg BL BW) (TB : LamX.TabB base mg c P')
    (m_range : mg "range" = none) (m_isinstance : mg "isinstance" = none) (m_int : mg "int" = none) (m_all : mg "all" = none) (m_tuple : mg "tuple" = none) : FnOk P w K mg base CX0 9 f (PySem.W.fnOf "law" "law" (defArgs s_law) (defBody s_law) (defScope s_law) .none kV doc pm an (.ref c) ct) ["script"] (spLaw K P') := by
  refine ok_code lk hcd sc_law (fun vs H Q E h => ?_) (fun A outer st H vs Q E hr h => ?_)
  · obtain ⟨a, ns, rfl, _⟩ := h
    rfl
  · obtain ⟨s, ns, rfl, hS, hlen, hP, q⟩ := h
    refine ⟨_, (pss_cons (ps_set (i := 1) sc_law.nd rfl (.inr rfl) (pe_lst (pa_cons (pv 0) (pa_cons pe_int pa_nil))))
    (pss_cons (ps_set (i := 2) sc_law.nd rfl (.inr rfl) (pe_lst (pa_cons pe_str (pa_cons pe_str (pa_cons pe_str (pa_cons pe_str (pa_cons pe_str (pa_cons pe_str (pa_cons pe_str (pa_cons pe_str (pa_cons pe_str (pa_cons pe_str (pa_cons pe_str (pa_cons pe_str (pa_cons pe_str (pa_cons pe_str (pa_cons pe_str pa_nil)))))))))))))))))
    (pss_cons (ps_for PassesOwn.never rfl (pi_range1 (by rfl) m_range (pa_cons pe_int pa_nil)) (pg_name (i := 3) sc_law.nd rfl (.inl rfl)) (pss_cons (ps_set (i := 4) sc_law.nd rfl (.inr rfl) (k_bm (K := K) rfl PySem.F.plainAttrs_str PySem.F.slot_str_join PySem.F.type_str_join (k_join (K := K) rfl) pe_str (pa_cons (pe_lc (own := [("number", 10)]) (g := gName 10) rfl sc_law.nd (pi_range1 (by rfl) m_range (pa_cons (pe_cal c__law_take hr (by omega) (by rfl) pass0 (pa_cons (pv 1) (pa_cons pe_int pa_nil))) pa_nil)) (blkOk_by (own := [("number", 10)]) (N := ["script", "draw", "signs", "turn", "line", "due", "words", "word", "is_plain", "bad", "number", "again", "sign"]) (sc := defScope s_law) (by decide +kernel)) (fun _ _ _ _ _ => (pg_name (i := 10) sc_law.nd rfl (Or.inl rfl))) (fun _ _ _ _ _ => pts_nil) (fun _ _ _ _ _ => (pe_cal c__law_pick hr (by omega) (by rfl) pass0 (pa_cons (pv 1) (pa_cons (pe_slice (k_sl (K := K) rfl) (pv 2) po_none (po_some (pe_cal c__law_pick hr (by omega) (by rfl) pass0 (pa_cons (pv 1) (pa_cons (pe_lst (pa_cons pe_int (pa_cons pe_int (pa_cons pe_int pa_nil)))) pa_nil))))) pa_nil))))) pa_nil)))
    (pss_cons (ps_set (i := 5) sc_law.nd rfl (.inl rfl) (pe_cal c__law_split hr (by omega) (by rfl) pass0 (pa_cons (pv 4) pa_nil)))
    (pss_one (ps_if (pt_val (pe_callB (k_isiU (K := K) rfl) (by rfl) m_isinstance (by decide +kernel) (pa_cons (pv 5) (pa_cons (pe_bltn (v := .ty "int") (by rfl) m_int (by decide +kernel) rfl) pa_nil)))) (pss_one (ps_if (pt_cmpR (k_ne (K := K) rfl (by exact hr.units)) (pe_ref R (by rfl) TB rfl hr (LamX.lamS_by (sc := defScope s_law) (by decide +kernel)) rfl (fun _ _ _ _ _ => rfl) (fun _ _ _ _ _ _ _ hr2 => (pe_cal c_split_line hr2 (by omega) (by rfl) passLam (pa_cons (pv 4) pa_nil)))) (pe_tup (pa_cons pe_str (pa_cons (pv 5) pa_nil))) (nomark _)) (pss_one (ps_ret pe_bl)) pss_nil)) (pss_one (ps_if (pt_cmpR (k_ne (K := K) rfl (by exact hr.units)) (pe_cal c_split_line hr (by omega) (by rfl) passN (pa_cons (pv 4) pa_nil)) (pv 5) (nomark _)) (pss_one (ps_ret pe_bl)) pss_nil)))))))
    (pss_cons (ps_for PassesOwn.never rfl (pi_range1 (by rfl) m_range (pa_cons pe_int pa_nil)) (pg_name (i := 3) sc_law.nd rfl (.inl rfl)) (pss_cons (ps_setLc (i := 6) (own := [("again", 11)]) (g := gName 11) rfl sc_law.nd rfl rfl (sw_true rfl rfl rfl (by decide +kernel)) (pi_range1 (by rfl) m_range (pa_cons (pe_cal c__law_take hr (by omega) (by rfl) pass0 (pa_cons (pv 1) (pa_cons pe_int pa_nil))) pa_nil)) (blkOk_by (own := [("again", 11)]) (N := ["script", "draw", "signs", "turn", "line", "due", "words", "word", "is_plain", "bad", "number", "again", "sign"]) (sc := defScope s_law) (by decide +kernel)) (fun _ _ _ _ _ => (pg_name (i := 11) sc_law.nd rfl (Or.inl rfl))) (fun _ _ _ _ _ => pts_nil) (fun _ _ _ _ _ => (k_bm (K := K) rfl PySem.F.plainAttrs_str PySem.F.slot_str_join PySem.F.type_str_join (k_join (K := K) rfl) pe_str (pa_cons (pe_lc (own := [("number", 10)]) (g := gName 10) rfl sc_law.nd (pi_range1 (by rfl) m_range (pa_cons (pe_cal c__law_take hr (by omega) (by rfl) pass0 (pa_cons (pv 1) (pa_cons pe_int pa_nil))) pa_nil)) (by dsimp only [L2.Cx.blk, PySem.compEnvC, L2.cxOf, L2.Cx.nox]; exact blkOk_by (own := [("number", 10)]) (by rfl)) (fun _ _ _ _ _ => (pg_name (i := 10) sc_law.nd rfl (Or.inl rfl))) (fun _ _ _ _ _ => pts_nil) (fun _ _ _ _ _ => (pe_cal c__law_pick hr (by omega) (by rfl) pass0 (pa_cons (pv 1) (pa_cons (pv 2) pa_nil))))) pa_nil))))
    (pss_cons (ps_set (i := 4) sc_law.nd rfl (.inr rfl) (pe_cal c_write_line hr (by omega) (by rfl) passN (pa_cons (pv 6) pa_nil)))
    (pss_cons (ps_set (i := 5) sc_law.nd rfl (.inl rfl) (pe_lst pa_nil))
    (pss_cons (ps_for PassesOwn.never rfl (k_list (K := K) rfl (pv 6)) (pg_name (i := 7) sc_law.nd rfl (.inl rfl)) (pss_cons (ps_set (i := 8) sc_law.nd rfl (.inl rfl) (pe_and (pe_cmpR (k_ne (K := K) rfl (by exact hr.units)) (pv 7) pe_str (nomark _)) (pe_one (pe_callB (k_all (K := K) rfl rfl) (by rfl) m_all (by decide +kernel) (pa_cons (pe_lc (own := [("sign", 12)]) (g := gName 12) rfl sc_law.nd (pi_str (pv 7)) (blkOk_by (own := [("sign", 12)]) (N := ["script", "draw", "signs", "turn", "line", "due", "words", "word", "is_plain", "bad", "number", "again", "sign"]) (sc := defScope s_law) (by decide +kernel)) (fun _ _ _ _ _ => (pg_name (i := 12) sc_law.nd rfl (Or.inl rfl))) (fun _ _ _ _ _ => pts_nil) (fun _ _ _ _ _ => (pe_cmpR (k_inU (K := K) rfl) (pv 12) pe_str (by rfl)))) pa_nil)))))
    (pss_one (ps_expr (k_bm (K := K) rfl PySem.F.plainAttrs_list PySem.F.slot_list_append PySem.F.type_list_append mt_append (pv 5) (pa_cons (pe_ifExp (k_truth (K := K) rfl (pv 8) (by intro _; rfl)) (pv 7) (pe_op (k_add (K := K) rfl) (pe_op (k_add (K := K) rfl) pe_str (k_bm (K := K) rfl PySem.F.plainAttrs_str PySem.F.slot_str_join PySem.F.type_str_join (k_join (K := K) rfl) pe_str (pa_cons (k_bm (K := K) rfl PySem.F.plainAttrs_str PySem.F.slot_str_split PySem.F.type_str_split k_split (pv 7) (pa_cons pe_str pa_nil)) pa_nil))) pe_str)) pa_nil))))))
    (pss_one (ps_if (PW.pt (pw_or (pt_cmpR (k_ne (K := K) rfl (by exact hr.units)) (pv 4) (k_bm (K := K) rfl PySem.F.plainAttrs_str PySem.F.slot_str_join PySem.F.type_str_join (k_join (K := K) rfl) pe_str (pa_cons (pv 5) pa_nil)) (nomark _)) (pw_or (pt_cmpR (k_ne (K := K) rfl (by exact hr.units)) (pe_cal c_split_line hr (by omega) (by rfl) passN (pa_cons (pv 4) pa_nil)) (pv 6) (nomark _)) (pw_or1 (pt_cmpR (k_ne (K := K) rfl (by exact hr.units)) (pe_cal c_write_line hr (by omega) (by rfl) passN (pa_cons (pe_callTy (k_tuple (K := K) rfl) (by rfl) m_tuple (by decide +kernel) (pa_cons (pv 6) pa_nil)) pa_nil)) (pv 4) (nomark _)))))) (pss_one (ps_ret pe_bl)) pss_nil)))))))
    (pss_cons (ps_if (PW.pt (pw_or (pt_cmpR (k_ne (K := K) rfl (by exact hr.units)) (pe_cal c_write_line hr (by omega) (by rfl) passN (pa_cons (pe_lst (pa_cons pe_str pa_nil)) pa_nil)) pe_str (nomark _)) (pw_or (pt_cmpR (k_ne (K := K) rfl (by exact hr.units)) (pe_cal c_split_line hr (by omega) (by rfl) passN (pa_cons pe_str pa_nil)) (pe_lst pa_nil) (nomark _)) (pw_or (pt_cmpR (k_ne (K := K) rfl (by exact hr.units)) (pe_cal c_split_line hr (by omega) (by rfl) passN (pa_cons pe_str pa_nil)) (pe_lst pa_nil) (nomark _)) (pw_or1 (pt_cmpR (k_ne (K := K) rfl (by exact hr.units)) (pe_cal c_write_line hr (by omega) (by rfl) passN (pa_cons (pe_lst pa_nil) pa_nil)) pe_str (nomark _))))))) (pss_one (ps_ret pe_bl)) pss_nil)
    (pss_cons (ps_set (i := 9) sc_law.nd rfl (.inr rfl) (pe_cal c__law_pick hr (by omega) (by rfl) pass0 (pa_cons (pv 1) (pa_cons (pe_lst (pa_cons pe_non (pa_cons pe_int (pa_cons (pe_lst (pa_cons pe_str pa_nil)) pa_nil)))) pa_nil))))
    (pss_cons (ps_if (pt_cmpR (k_ne (K := K) rfl (by exact hr.units)) (pe_ref R (by rfl) TB rfl hr (LamX.lamS_by (sc := defScope s_law) (by decide +kernel)) rfl (fun _ _ _ _ _ => rfl) (fun _ _ _ _ _ _ _ hr2 => (pe_cal c_split_line hr2 (by omega) (by rfl) passLam (pa_cons (pv 9) pa_nil)))) (pe_tup (pa_cons pe_str (pa_cons pe_int pa_nil))) (nomark _)) (pss_one (ps_ret pe_bl)) pss_nil)
    (pss_cons (ps_if (pt_cmpR (k_ne (K := K) rfl (by exact hr.units)) (pe_ref R (by rfl) TB rfl hr (LamX.lamS_by (sc := defScope s_law) (by decide +kernel)) rfl (fun _ _ _ _ _ => rfl) (fun _ _ _ _ _ _ _ hr2 => (pe_cal c_write_line hr2 (by omega) (by rfl) passLam (pa_cons (pe_lst (pa_cons pe_str (pa_cons (pv 9) pa_nil))) pa_nil)))) (pe_tup (pa_cons pe_str (pa_cons pe_int pa_nil))) (nomark _)) (pss_one (ps_ret pe_bl)) pss_nil)
    (pss_one (ps_ret (pe_cmpR (k_eq (K := K) rfl (by exact hr.units)) (pe_ref R (by rfl) TB rfl hr (LamX.lamS_by (sc := defScope s_law) (by decide +kernel)) rfl (fun _ _ _ _ _ => rfl) (fun _ _ _ _ _ _ _ hr2 => (pe_cal c_write_line hr2 (by omega) (by rfl) passLam (pa_cons pe_str pa_nil)))) (pe_tup (pa_cons pe_str (pa_cons pe_non pa_nil))) (nomark _)))))))))))), ?_⟩
    have h0 := Has.start H []
    show (_ : L2.St → Hp → Prop) [some (.ref s), none, none, none, none, none, none, none, none, none, none, none, none] H
    walk_at "go"
    rename_i d G1 nd h1 sg G2 nsg h2
    obtain ⟨T, hTT⟩ : ∃ T, T = [(P', ((cxOf CX0 P w K mg base ["script", "draw", "signs", "turn", "line", "due", "words", "word", "is_plain", "bad", "number", "again", "sign"] "law" (defScope s_law) f (.ref c) A outer st H E).nox.env.qual ++ "<lambda>" : Str))] := ⟨_, rfl⟩
    have l0 : LSt K T s d sg ns 0 G2 := by
      refine ⟨fun p hp => ?_, ⟨h2.at (by simp), h2.sl hS (by simp), by decide, hlen⟩, h2.at (by simp), fun e => ?_⟩
      · rw [hTT, List.mem_singleton] at hp
        subst hp
        exact .nil (h2.keep _ _ hP (by simp))
      · have := h2.nd
        simp [e] at this
    rw [← hTT]
    refine rng1k (by omega) ?_
    refine fork_rng (fun i σ' H' => ∃ (k : Int) (s3 s4 s5 s6 s7 s8 s9 s10 s11 s12 : Option V), σ' = [some (.ref s), some (.ref d), some (.ref sg), s3, s4, s5, s6, s7, s8, s9, s10, s11, s12] ∧ LSt K T s d sg ns k H' ∧ k ≤ 40 * (i : Int)) ⟨0, _, _, _, _, _, _, _, _, _, _, rfl, l0, by decide⟩ (fun i σ' H' hi hp => ?_) (fun σ' H' hp => ?_)
    · obtain ⟨k, s3, s4, s5, s6, s7, s8, s9, s10, s11, s12, rfl, hl, hk⟩ := hp
      have hb := hl.has
      have scr := hl.drw.scr
      have hk0 := hl.drw.2.2.1
      have hi' : i < 12 := hi
      walk_at "go"
      refine take_ (i := k) scr hb (.there .here) (.inl (by simp)) ⟨hk0, by omega⟩ (by decide) fun n0 G1 g1 n0a n0b => ?_
      walk_at "go"
      refine rng1k (by omega) ?_
      have hk1 : 0 ≤ k + 1 := by omega
      refine lck_rng g1 (fun i D acc M => ∃ (k2 : Int) (cs : List Nat), acc = cs.map (fun c => V.str (S [c])) ∧ (∀ c ∈ cs, c ∈ sgL) ∧ cs.length = i ∧ k + 1 ≤ k2 ∧ k2 ≤ k + 1 + 2 * (i : Int) ∧ M = [(D, .lst acc), (sg, .lst sgV), (d, .lst [.ref s, .int k2])]) (fun D => ⟨k + 1, [], rfl, by simp, rfl, by omega, by omega, rfl⟩) (fun i2 D acc M G hi2 hD hl2 hm hp hG => ?_) (fun D acc M G hl2 hm hp hG => ?_)
      · obtain ⟨k2, cs, rfl, hcs, hci, hk2, hk3, rfl⟩ := hp
        have hk20 : 0 ≤ k2 := by omega
        simp only [List.map, wipe, List.set]
        walk_at "go"
        refine lct rfl ?_
        walk_at "go"
        rename_i p5 G5 n5 h5
        refine pick_ (i := k2) scr h5 (.there (.there .here)) (.inl (by simp)) ⟨hk20, by omega⟩ (by decide) fun v G6 mv h6 => ?_
        obtain ⟨m, rfl, hm0, hm1⟩ : ∃ m : Int, v = .int m ∧ 0 < (cutV sgV none (some m)).length ∧ ∀ u ∈ cutV sgV none (some m), u ∈ sgV := by
          simp only [List.mem_cons, List.not_mem_nil, or_false] at mv
          rcases mv with rfl | rfl | rfl <;> exact ⟨_, rfl, by decide, fun u hu => List.mem_of_mem_drop (List.mem_of_mem_take hu)⟩
        walk_at "go"
        refine slL h6 (h6.l (xs := sgV) (List.mem_cons_of_mem _ (List.mem_cons_of_mem _ List.mem_cons_self))) fun p7 G7 n7 h7 => ?_
        walk_at "go"
        refine pick_ (i := k2 + 1) scr h7 (.there (.there (.there .here))) (.inl (by simp)) ⟨by omega, by omega⟩ hm0 fun u G8 mu h8 => ?_
        obtain ⟨c, hc, rfl⟩ : ∃ c ∈ sgL, V.str (S [c]) = u := List.mem_map.mp (hm1 u mu)
        refine lcn h8 hD (.there (.there .here)) hl2 (by omega) (by walk_at "sub") List.mem_cons_self ⟨k2 + 1 + 1, cs ++ [c], by rw [List.map_append]; rfl, fun x hx => ?_, by simp [hci], by omega, by omega, rfl⟩
        rcases List.mem_append.mp hx with hx | hx
        · exact hcs x hx
        · rw [List.mem_singleton] at hx
          rw [hx]
          exact hc
      · obtain ⟨k2, cs, rfl, hcs, hci, hk2, hk3, rfl⟩ := hp
        have hcl : (S cs).length ≤ 900 := by
          rw [S_len]
          omega
        walk_at "go"
        refine join_ (ys := cs.map fun c => S [c]) (.inl (by rw [List.map_map]; exact hG.l (by simp))) (by rw [sum_one, List.length_map]; show cs.length + cs.length * 0 ≤ _; omega) ?_
        rw [join_one]
        walk_at "go"
        refine ⟨S cs, rfl, hcl, ?_⟩
        rw [show (S cs).cps.toList = cs from rfl]
        cases e : splitL cs with
        | error col =>
          intro G2 g2
          walk_at "go"
          have l2 := hl.next (hG.same g2) (k' := k2) (by simp) (by simp) (by omega)
          refine lam_ l2.tabs fun G3 e3 t3 => ?_
          have l3 := l2.ext e3 t3
          show tCall (spSplit BL) [] _ (tCons (tVar 4) tNil) _ G3 _
          walk_at "go"
          refine ⟨_, rfl, .inl ⟨S cs, rfl, hcl, ?_⟩⟩
          rw [show (S cs).cps.toList = cs from rfl, e]
          intro dd G4 g4
          refine ⟨(BL, "column", "line"), List.mem_cons_self, rfl, dd, _, rfl, g4.at List.mem_cons_self, fun G5 p n5 g5 => ?_⟩
          have b5 := (l3.has.same g4).same1 g5 n5
          walk_at "go"
          rename_i p6 G6 n6 h6
          refine neuD (Dp.tup (h6.t (List.mem_cons_of_mem _ List.mem_cons_self)) (.cons (.str _) (.cons (.int _) .nil))) (Dp.tup (h6.t List.mem_cons_self) (.cons (.str _) (.cons (.int _) .nil))) (shaped_two (x := "line") (by decide +kernel) rfl rfl) (shaped_two (x := "line") (by decide +kernel) rfl rfl) ?_
          rw [SeqAt.eqv_refl_plain _ rfl]
          walk_at "go"
          exact ⟨k2, _, _, _, _, _, _, _, _, _, _, rfl, l3.next h6 (by simp) (by simp) (by omega), by omega⟩
        | ok ws =>
          intro p2 G2 n2 g2
          have hall : ∀ u ∈ ws, ∀ c ∈ u, c < 1114112 := spl_all (· < 1114112) _ _ _ _ _ ws e (by simp) (by simp) fun c hc => by
            have := hcs c hc
            simp only [sgL, List.mem_cons, List.not_mem_nil, or_false] at this
            omega
          walk_at "go"
          refine isi1 (.base (.lst (g2.at List.mem_cons_self))) (kit_ty (r := false) (by decide +kernel)) ?_
          have b2 := hG.same1 g2 n2
          walk_at "go"
          refine ⟨_, rfl, .inl ⟨S cs, rfl, hcl, ?_⟩⟩
          rw [show (S cs).cps.toList = cs from rfl, e]
          intro p3 G3 n3 g3
          have b3 := b2.same1 g3 n3
          walk_at "go"
          refine neuD (Dp.lst (b3.l List.mem_cons_self) (dp_strs ws)) (Dp.lst (b3.l (List.mem_cons_of_mem _ List.mem_cons_self)) (dp_strs ws)) (shaped_strs hall) (shaped_strs hall) ?_
          rw [eq_strs hall]
          walk_at "go"
          exact ⟨k2, _, _, _, _, _, _, _, _, _, _, rfl, hl.next b3 (by simp) (by simp) (by omega), by omega⟩
    · obtain ⟨k0, s3, s4, s5, s6, s7, s8, s9, s10, s11, s12, rfl, hl0, hk0⟩ := hp
      have hk0' : k0 ≤ 480 := hk0
      walk_at "go"
      refine rng1k (by omega) ?_
      refine fork_rng (fun i σ' H' => ∃ (k : Int) (s3 s4 s5 s6 s7 s8 s9 s10 s11 s12 : Option V), σ' = [some (.ref s), some (.ref d), some (.ref sg), s3, s4, s5, s6, s7, s8, s9, s10, s11, s12] ∧ LSt K T s d sg ns k H' ∧ k ≤ 480 + 40 * (i : Int)) ⟨k0, _, _, _, _, _, _, _, _, _, _, rfl, hl0, by omega⟩ (fun i σ' H' hi hp => ?_) (fun σ' H' hp => ?_)
      · obtain ⟨k, s3, s4, s5, s6, s7, s8, s9, s10, s11, s12, rfl, hl, hk⟩ := hp
        have hb := hl.has
        have scr := hl.drw.scr
        have hk0 := hl.drw.2.2.1
        have hi' : i < 6 := hi
        walk_at "go"
        refine take_ (i := k) scr hb (.there .here) (.inl (by simp)) ⟨hk0, by omega⟩ (by decide) fun n0 G1 g1 n0a n0b => ?_
        walk_at "go"
        refine rng1k (by omega) ?_
        refine lck_rng g1 (fun i D acc M => ∃ (k2 : Int) (us : List (List Nat)), acc = vWs us ∧ (∀ u ∈ us, u.length ≤ 5 ∧ ∀ c ∈ u, c ∈ sgL) ∧ us.length = i ∧ k + 1 ≤ k2 ∧ k2 ≤ k + 1 + 6 * (i : Int) ∧ M = [(D, .lst acc), (sg, .lst sgV), (d, .lst [.ref s, .int k2])]) (fun D => ⟨k + 1, [], rfl, by simp, rfl, by omega, by omega, rfl⟩) (fun i2 D acc M G hi2 hD hl2 hm hp hG => ?_) (fun D acc M G hl2 hm hp hG => ?_)
        · obtain ⟨k2, us, rfl, hus, hui, hk2, hk3, rfl⟩ := hp
          simp only [List.map, wipe, List.set]
          walk_at "go"
          refine lct rfl ?_
          walk_at "go"
          refine take_ (i := k2) scr hG (.there (.there .here)) (.inl (by simp)) ⟨by omega, by omega⟩ (by decide) fun n1 G2 g2 n1a n1b => ?_
          walk_at "go"
          refine rng1k (by omega) ?_
          refine lck_rng g2 (fun i D' acc' M => ∃ (k3 : Int) (cs : List Nat), acc' = cs.map (fun c => V.str (S [c])) ∧ (∀ c ∈ cs, c ∈ sgL) ∧ cs.length = i ∧ k2 + 1 ≤ k3 ∧ k3 ≤ k2 + 1 + (i : Int) ∧ M = [(D', .lst acc'), (D, .lst (vWs us)), (sg, .lst sgV), (d, .lst [.ref s, .int k3])]) (fun D' => ⟨k2 + 1, [], rfl, by simp, rfl, by omega, by omega, rfl⟩) (fun i3 D' acc' M G3 hi3 hD' hl3 hm' hp hG3 => ?_) (fun D' acc' M G3 hl3 hm' hp hG3 => ?_)
          · obtain ⟨k3, cs, rfl, hcs, hci, hk4, hk5, rfl⟩ := hp
            simp only [List.map, wipe, List.set]
            walk_at "go"
            refine lct rfl ?_
            walk_at "go"
            refine pickM (xs := sgV) (i := k3) scr hG3 (by simp) (.there (.there (.there .here))) hl.ne (.inl (by simp)) ⟨by omega, by omega⟩ (by decide) fun v G4 mv g4 => ?_
            obtain ⟨c, hc, rfl⟩ : ∃ c ∈ sgL, V.str (S [c]) = v := List.mem_map.mp mv
            refine lcn g4 hD' .here hl3 (by omega) (by walk_at "sub") List.mem_cons_self ⟨k3 + 1, cs ++ [c], by rw [List.map_append]; rfl, fun x hx => ?_, by simp [hci], by omega, by omega, rfl⟩
            rcases List.mem_append.mp hx with hx | hx
            · exact hcs x hx
            · rw [List.mem_singleton] at hx
              rw [hx]
              exact hc
          · obtain ⟨k3, cs, rfl, hcs, hci, hk4, hk5, rfl⟩ := hp
            walk_at "go"
            refine join_ (ys := cs.map fun c => S [c]) (.inl (by rw [List.map_map]; exact hG3.l (by simp))) (by rw [sum_one, List.length_map]; show cs.length + cs.length * 0 ≤ _; omega) ?_
            rw [join_one]
            walk_at "go"
            refine lcn (hG3.sub (List.sublist_cons_self _ _)) hD .here hl2 (by omega) (by walk_at "sub") List.mem_cons_self ⟨k3, us ++ [cs], (List.map_append (f := fun l => V.str (S l)) (l₁ := us) (l₂ := [cs])).symm, fun u hu => ?_, by simp [hui], by omega, by omega, rfl⟩
            rcases List.mem_append.mp hu with hu | hu
            · exact hus u hu
            · rw [List.mem_singleton] at hu
              subst hu
              exact ⟨by omega, hcs⟩
        · obtain ⟨k2, us, rfl, hus, hui, hk2, hk3, rfl⟩ := hp
          walk_at "go"
          have hul : us.length ≤ 4 := by omega
          refine .inl ⟨D, us, rfl, .inl (hG.at (by simp)), by omega, fun u hu => Nat.le_trans (hus u hu).1 (by decide), fun G2 g2 => ?_⟩
          replace g2 := hG.same g2
          walk_at "go"
          rename_i pd G3 n3 g3
          refine fork_list (xs := vWs us) (fun i2 σ' G => ∃ (s7 s8 s12 : Option V), σ' = [some (.ref s), some (.ref d), some (.ref sg), some (V.int (0 + ↑i)), some (.str (S (writeL us))), some (.ref pd), some (.ref D), s7, s8, s9, s10, s11, s12] ∧
            Has H' [d] G [(pd, .lst ((us.take i2).map fun u => V.str (S (wordL u)))), (D, .lst (vWs us)), (sg, .lst sgV), (d, .lst [.ref s, .int k2])]) ⟨_, _, _, rfl, g3⟩ (fun i2 σ' G h2 hp => ?_) (fun i2 x σ' G hx hp => ?_) (fun σ' G hp => ?_)
          · obtain ⟨_, _, _, _, h⟩ := hp
            exact h.l (List.mem_cons_of_mem _ List.mem_cons_self)
          · obtain ⟨s7, s8, s12, rfl, h⟩ := hp
            obtain ⟨u, hu, rfl⟩ : ∃ u, us[i2]? = some u ∧ V.str (S u) = x := by
              rw [List.getElem?_map] at hx
              cases e : us[i2]? with
              | none => rw [e] at hx; cases hx
              | some u => rw [e] at hx; exact ⟨u, rfl, Option.some.inj hx⟩
            obtain ⟨hu5, hus5⟩ := hus u (List.mem_of_getElem? hu)
            walk_at "go"
            rw [show decide (V.str (S u) = V.str "") = u.isEmpty from S_nil u]
            refine andS (b := !u.isEmpty && u.all plainC) (fun G2 h => ?_) h (fun hc key => ?_) (fun hc => ?_)
            · walk_at "go"
              cases hpl : (!u.isEmpty && u.all plainC) with
              | true =>
                walk_at "go"
                refine app_ h .here (freshD g2 n3) (by simp; omega) fun G3 h3 => ?_
                refine ⟨_, _, _, rfl, ?_⟩
                rw [List.take_add_one, hu, List.map_append, show (some u).toList.map (fun u => V.str (S (wordL u))) = [V.str (S u)] by rw [Option.toList_some, List.map_singleton, show wordL u = u from if_pos hpl]]
                exact h3
              | false =>
                walk_at "go"
                refine split_ (by decide) (by rw [S_len]; omega) h fun p5 G5 n5 h5 => ?_
                walk_at "go"
                refine join_ (.inl (h5.l List.mem_cons_self)) (q_len hu5) ?_
                rw [q_join]
                have hfl := flat_len u
                refine addSP (by decide) (by rw [S_len]; omega) ?_
                rw [show ("'" : Str) ++ S (u.flatMap quoteS) = S ([39] ++ u.flatMap quoteS) from S_app [39] _]
                walk_at "go"
                refine addSP (by rw [S_len, List.length_append]; simp only [List.length_cons, List.length_nil]; omega) (by decide) ?_
                rw [show S ([39] ++ u.flatMap quoteS) ++ ("'" : Str) = S ([39] ++ u.flatMap quoteS ++ [39]) from S_app _ [39]]
                walk_at "go"
                refine app_ h5 (.there .here) (freshD g2 n3) (by simp; omega) fun G3 h3 => ?_
                refine ⟨_, _, _, rfl, ?_⟩
                rw [List.take_add_one, hu, List.map_append, show (some u).toList.map (fun u => V.str (S (wordL u))) = [V.str (S ([39] ++ u.flatMap quoteS ++ [39]))] by
                  rw [Option.toList_some, List.map_singleton, show wordL u = quoteL u from if_neg (by rw [hpl]; decide)]
                  rfl]
                exact h3.tail
            · walk_at "go"
              refine lcs_str h (fun i acc => acc = ((u.take i).map fun c => decide (c ∈ [97, 98, 90, 57, 45, 61, 95])).map V.bl) rfl (fun i3 c' D5 acc G5 hi3 hD5 hl5 hp5 h5 => ?_) (fun D5 acc G5 hl5 hp5 h5 => ?_)
              · subst hp5
                have hi4 : u[i3]? = some c' := hi3
                have lt := (List.getElem?_eq_some_iff.mp hi4).1
                simp only [List.map, wipe, List.set]
                walk_at "go"
                refine lct rfl ?_
                walk_at "go"
                exact lcs h5 (by walk_at "sub") hD5 hl5 (by omega) (by rw [List.take_add_one, hi4, List.map_append, List.map_append]; rfl)
              · subst hp5
                walk_at "go"
                refine all_ (h5.l List.mem_cons_self) ?_
                rw [show List.all ((u.take (S u).cps.size).map fun c => decide (c ∈ [97, 98, 90, 57, 45, 61, 95])) id = (!u.isEmpty && u.all plainC) by
                  rw [hc, Bool.true_and, List.take_of_length_le (by simp [S]), List.all_map, ← own_word fun c hc => ?_]
                  · rfl
                  · have := hus5 c hc
                    simp only [sgL, List.mem_cons, List.not_mem_nil, or_false] at this ⊢
                    omega]
                exact key _ h5.tail
            · rw [hc]
              rfl
          · obtain ⟨s7, s8, s12, rfl, h⟩ := hp
            walk_at "go"
            refine join_ (ys := (us.map wordL).map S) (.inl ?_) ?_ ?_
            · rw [List.map_map, List.map_map]
              rw [List.length_map, List.take_length] at h
              exact h.l List.mem_cons_self
            · rw [len_S, List.map_map, List.length_map, List.length_map]
              have := sum_le (n := 22) (us.map (List.length ∘ wordL)) fun x hx => by
                obtain ⟨u, hu, rfl⟩ := List.mem_map.mp hx
                exact wordL_len (n := 5) (hus u hu).1
              rw [List.length_map] at this
              show _ + us.length * 1 ≤ _
              omega
            rw [w_join]
            rw [List.length_map, List.take_length] at h
            walk_at "go"
            rw [decide_eq_true rfl]
            have hwl : (S (writeL us)).length ≤ 900 := by
              have := writeL_len 5 us fun u hu => (hus u hu).1
              rw [S_len]
              have h2 : us.length * (4 * 5 + 3) ≤ 4 * 23 := Nat.mul_le_mul_right _ hul
              omega
            have hall : ∀ u ∈ us, ∀ c ∈ u, c < 1114112 := fun u hu c hc => by
              have := (hus u hu).2 c hc
              simp only [sgL, List.mem_cons, List.not_mem_nil, or_false] at this
              omega
            walk_at "go"
            refine ⟨_, rfl, .inl ⟨S (writeL us), rfl, hwl, ?_⟩⟩
            rw [show (S (writeL us)).cps.toList = writeL us from rfl, split_write]
            intro p6 G6 n6 g6
            replace h := h.same1 g6 n6
            walk_at "go"
            refine neuD (Dp.lst (h.l List.mem_cons_self) (dp_strs us)) (Dp.lst (h.l (List.mem_cons_of_mem _ (List.mem_cons_of_mem _ List.mem_cons_self))) (dp_strs us)) (shaped_strs hall) (shaped_strs hall) ?_
            rw [eq_strs hall]
            walk_at "go"
            refine ⟨D, vWs us, rfl, .inl ⟨h.l (List.mem_cons_of_mem _ (List.mem_cons_of_mem _ List.mem_cons_self)), fun p7 n7 => ?_⟩⟩
            have h7 := h.new n7 (o := .tup (vWs us))
            walk_at "go"
            refine .inl ⟨p7, us, rfl, .inr (h7.at List.mem_cons_self), by omega, fun u hu => Nat.le_trans (hus u hu).1 (by decide), fun G8 g8 => ?_⟩
            have h8 := h7.same g8
            walk_at "go"
            rw [decide_eq_true rfl]
            walk_at "go"
            exact ⟨k2, _, _, _, _, _, _, _, _, _, _, rfl, hl.next h8 (by simp) (by simp) (by omega), by omega⟩
      · obtain ⟨k, s3, s4, s5, s6, s7, s8, s9, s10, s11, s12, rfl, hl, hk⟩ := hp
        have hk1 : k ≤ 720 := hk
        have hk0 := hl.drw.2.2.1
        have hb := hl.has
        have scr := hl.drw.scr
        walk_at "go"
        rename_i p1 G1 n1 h1
        refine .inl ⟨p1, [[97, 45, 95, 61, 46, 47, 44, 58, 43, 64, 81, 48]], rfl, .inl (h1.at List.mem_cons_self), by decide, by simp, fun G2 g2 => ?_⟩
        replace h1 := h1.same g2
        rw [show S (writeL [[97, 45, 95, 61, 46, 47, 44, 58, 43, 64, 81, 48]]) = ("a-_=./,:+@Q0" : Str) from rfl]
        walk_at "go"
        refine ⟨_, rfl, .inl ⟨"", rfl, by decide, ?_⟩⟩
        rw [show splitL ("" : Str).cps.toList = .ok [] by rw [show ("" : Str).cps.toList = [] from rfl]; unfold splitL; rw [spl]; rfl]
        intro p3 G3 n3 g3
        replace h1 := h1.same1 g3 n3
        walk_at "go"
        rename_i p4 G4 n4 h4
        refine neuD (Dp.lst (h4.l (List.mem_cons_of_mem _ List.mem_cons_self)) (dp_strs [])) (Dp.lst (h4.l List.mem_cons_self) .nil) rfl rfl ?_
        rw [show PyData.eqv (.list (([] : List (List Nat)).map fun l => PyData.str (S l))) (.list []) = true from SeqAt.eqv_refl_plain (.list []) rfl]
        walk_at "go"
        refine ⟨_, rfl, .inl ⟨"   ", rfl, by decide, ?_⟩⟩
        rw [show splitL ("   " : Str).cps.toList = .ok [] by rw [show ("   " : Str).cps.toList = [32, 32, 32] from rfl]; unfold splitL; rw [spl_blank, spl_blank, spl_blank, spl]; rfl]
        intro p5 G5 n5 g5
        replace h4 := h4.same1 g5 n5
        walk_at "go"
        rename_i p6 G6 n6 h6
        refine neuD (Dp.lst (h6.l (List.mem_cons_of_mem _ List.mem_cons_self)) (dp_strs [])) (Dp.lst (h6.l List.mem_cons_self) .nil) rfl rfl ?_
        rw [show PyData.eqv (.list (([] : List (List Nat)).map fun l => PyData.str (S l))) (.list []) = true from SeqAt.eqv_refl_plain (.list []) rfl]
        walk_at "go"
        rename_i p7 G7 n7 h7
        refine .inl ⟨p7, [], rfl, .inl (h7.at List.mem_cons_self), by decide, by simp, fun G8 g8 => ?_⟩
        replace h7 := h7.same g8
        rw [show S (writeL []) = ("" : Str) from rfl]
        walk_at "go"
        rename_i pa Ga na ha pb Gb nb hb2
        refine pick_ (i := k) scr hb2 (.there (.there (.there (.there (.there (.there (.there (.there .here)))))))) (.inl (by simp)) ⟨hk0, by omega⟩ (Nat.le_of_ble_eq_true rfl) fun bad Gc mb hc => ?_
        have nos : ∀ {G : Hp}, G pa = some (.lst [.str "a"]) → NoStr G bad := fun e => by
          simp only [List.mem_cons, List.not_mem_nil, or_false] at mb
          rcases mb with rfl | rfl | rfl
          · exact .inl rfl
          · exact .inr (.inl ⟨_, rfl⟩)
          · exact .inr (.inr ⟨pa, _, rfl, e⟩)
        walk_at "go"
        have l1 := hl.next hc (k' := k + 1) (by simp) (by simp) (by omega)
        have pe1 : Gc pa = some (.lst [.str "a"]) := hc.at (by simp)
        refine lam_ l1.tabs fun Gd ed td => ?_
        have m1 := l1.ext ed td
        have pd1 : Gd pa = some (.lst [.str "a"]) := ed _ _ pe1 (fun ps z => by cases z)
        have b1 := m1.has
        show tCall (spSplit BL) [] _ (tCons (tVar 9) tNil) _ Gd _
        walk_at "go"
        refine ⟨bad, rfl, .inr ⟨nos pd1, fun dd Ge ge => ?_⟩⟩
        refine ⟨(BL, "column", "line"), List.mem_cons_self, rfl, dd, _, rfl, ge.at List.mem_cons_self, fun Gf p nf gf => ?_⟩
        have c1 := (b1.same ge).same1 gf nf
        have pf1 : Gf pa = some (.lst [.str "a"]) := gf.keep _ _ (ge.keep _ _ pd1 (by simp)) (by simp)
        walk_at "go"
        rename_i q1 Gg ng hg
        refine neuD (Dp.tup (hg.t (List.mem_cons_of_mem _ List.mem_cons_self)) (.cons (.str _) (.cons (.int _) .nil))) (Dp.tup (hg.t List.mem_cons_self) (.cons (.str _) (.cons (.int _) .nil))) (shaped_two (x := "line") (by decide +kernel) rfl rfl) (shaped_two (x := "line") (by decide +kernel) rfl rfl) ?_
        rw [SeqAt.eqv_refl_plain _ rfl]
        walk_at "go"
        have l2 := m1.next hg (k' := k + 1) (by simp) (by simp) (by omega)
        have pg1 : Gg pa = some (.lst [.str "a"]) := by
          have e := hg.keep pa _ pd1 (by
            intro m
            have z : pa = d := by simpa using m
            rw [z, m1.drw.1] at pd1
            cases pd1)
          exact e
        refine lam_ l2.tabs fun Gh eh th => ?_
        have m2 := l2.ext eh th
        have pd2 : Gh pa = some (.lst [.str "a"]) := eh _ _ pg1 (fun ps z => by cases z)
        have b2 := m2.has
        show tCall (spWrite BW K) [] _ (tCons (tLst (tCons (tC (V.str "a")) (tCons (tVar 9) tNil))) tNil) _ Gh _
        walk_at "go"
        rename_i pz Gi nz hz
        refine .inr (.inl ⟨pz, bad, rfl, hz.at List.mem_cons_self, nos (hz.keep _ _ pd2 (by
            intro m
            have z : pa = d := by simpa using m
            rw [z, m2.drw.1] at pd2
            cases pd2)), fun dd2 Gj gj => ?_⟩)
        refine ⟨(BW, "number", "words"), List.mem_cons_of_mem _ List.mem_cons_self, rfl, dd2, _, rfl, gj.at List.mem_cons_self, fun Gk p2 nk gk => ?_⟩
        have c2 := (hz.same gj).same1 gk nk
        walk_at "go"
        rename_i q2 Gl nl hl2
        refine neuD (Dp.tup (hl2.t (List.mem_cons_of_mem _ List.mem_cons_self)) (.cons (.str _) (.cons (.int _) .nil))) (Dp.tup (hl2.t List.mem_cons_self) (.cons (.str _) (.cons (.int _) .nil))) (shaped_two (x := "words") (by decide +kernel) rfl rfl) (shaped_two (x := "words") (by decide +kernel) rfl rfl) ?_
        rw [SeqAt.eqv_refl_plain _ rfl]
        walk_at "go"
        have l3 := m2.next hl2 (k' := k + 1) (by simp) (by simp) (by omega)
        refine lam_ l3.tabs fun Gm em tm => ?_
        have m3 := l3.ext em tm
        have b3 := m3.has
        show tCall (spWrite BW K) [] _ (tCons (tC (V.str "ab")) tNil) _ Gm _
        walk_at "go"
        refine .inr (.inr ⟨_, rfl, fun dd3 Gn gn => ?_⟩)
        refine ⟨(BW, "number", "words"), List.mem_cons_of_mem _ List.mem_cons_self, rfl, dd3, _, rfl, gn.at List.mem_cons_self, fun Go p3 no go => ?_⟩
        have c3 := (b3.same gn).same1 go no
        walk_at "go"
        rename_i q3 Gp np hp3
        refine equD (Dp.tup (hp3.t (List.mem_cons_of_mem _ List.mem_cons_self)) (.cons (.str _) (.cons .non .nil))) (Dp.tup (hp3.t List.mem_cons_self) (.cons (.str _) (.cons .non .nil))) (shaped_two (x := "words") (by decide +kernel) rfl rfl) (shaped_two (x := "words") (by decide +kernel) rfl rfl) ?_
        rw [SeqAt.eqv_refl_plain _ rfl]
        exact q _

/-! ### the program's own functions -/
open PySem.StrLaws
abbrev s_BadWords___init__ : Stmt := inClass (topS 2) 0
theorem sc_BadWords___init__ : FnScope ["self", "number"] ["self", "number"] (defScope s_BadWords___init__) := ⟨rfl, rfl, rfl, by decide +kernel, rfl, by decide +kernel, by decide +kernel⟩
abbrev s_BadLine___init__ : Stmt := inClass (topS 3) 0
theorem sc_BadLine___init__ : FnScope ["self", "column"] ["self", "column"] (defScope s_BadLine___init__) := ⟨rfl, rfl, rfl, by decide +kernel, rfl, by decide +kernel, by decide +kernel⟩
abbrev s_is_row : Stmt := topS 5
theorem sc_is_row : FnScope ["value"] ["value"] (defScope s_is_row) := ⟨rfl, rfl, rfl, by decide +kernel, rfl, by decide +kernel, by decide +kernel⟩
abbrev s_checked_words : Stmt := topS 6
theorem sc_checked_words : FnScope ["words", "number", "word"] ["words"] (defScope s_checked_words) := ⟨rfl, rfl, rfl, by decide +kernel, rfl, by decide +kernel, by decide +kernel⟩
abbrev s_split_line : Stmt := topS 9
theorem sc_split_line : FnScope ["line", "words", "parts", "at", "text"] ["line"] (defScope s_split_line) := ⟨rfl, rfl, rfl, by decide +kernel, rfl, by decide +kernel, by decide +kernel⟩
abbrev s_write_line : Stmt := topS 10
theorem sc_write_line : FnScope ["words", "word"] ["words"] (defScope s_write_line) := ⟨rfl, rfl, rfl, by decide +kernel, rfl, by decide +kernel, by decide +kernel⟩
abbrev s__part : Stmt := topS 11
theorem sc__part : FnScope ["line", "at", "sign"] ["line", "at"] (defScope s__part) := ⟨rfl, rfl, rfl, by decide +kernel, rfl, by decide +kernel, by decide +kernel⟩
abbrev s__single_quoted : Stmt := topS 12
theorem sc__single_quoted : FnScope ["line", "opened", "closed"] ["line", "opened"] (defScope s__single_quoted) := ⟨rfl, rfl, rfl, by decide +kernel, rfl, by decide +kernel, by decide +kernel⟩
abbrev s__double_quoted : Stmt := topS 13
theorem sc__double_quoted : FnScope ["line", "opened", "told", "at"] ["line", "opened"] (defScope s__double_quoted) := ⟨rfl, rfl, rfl, by decide +kernel, rfl, by decide +kernel, by decide +kernel⟩
abbrev s__written : Stmt := topS 14
theorem sc__written : FnScope ["word", "sign"] ["word"] (defScope s__written) := ⟨rfl, rfl, rfl, by decide +kernel, rfl, by decide +kernel, by decide +kernel⟩
theorem _root_.Sw.Has.thn {H0 H H' : Hp} {ex : List Addr} {L M : List (Addr × HO)} (h : Has H0 ex H L) (h' : Has H [] H' M) : Has H0 ex H' M :=
  ⟨fun a o e n => h'.keep a o (h.keep a o e n) (by simp), h'.get, h'.nd⟩
theorem ok_err_line {BL f : Addr} {fd : FuncData} (F : Fun K "__init__" "BadLine.__init__" s_BadLine___init__ f fd) (T : OexC K BL) (no : PySem.W.findIn K (.ref BL) "column" = some none) : FnOk P w K mg base CX0 1 f fd ["self", "column"] (spErr BL "column") := by
  refine F.ok sc_BadLine___init__ (fun vs H Q E h => ?_) (fun cdv A outer s H vs Q E hr h => ?_)
  · obtain ⟨a, v, rfl, _⟩ := h
    rfl
  · obtain ⟨a, v, rfl, ha, q⟩ := h
    refine ⟨_, (pss_one (k_ost (K := K) rfl (pv 0) (pv 1))), ?_⟩
    show (_ : L2.St → Hp → Prop) [some (.ref a), some (v)] H
    exact ost_ T no ha (fun R r => ⟨v, rfl, r⟩) (fun R r => ⟨.ref a, rfl, r⟩) fun dx n ne => q dx n ne
theorem ok_err_words {BW f : Addr} {fd : FuncData} (F : Fun K "__init__" "BadWords.__init__" s_BadWords___init__ f fd) (T : OexC K BW) (no : PySem.W.findIn K (.ref BW) "number" = some none) : FnOk P w K mg base CX0 1 f fd ["self", "number"] (spErr BW "number") := by
  refine F.ok sc_BadWords___init__ (fun vs H Q E h => ?_) (fun cdv A outer s H vs Q E hr h => ?_)
  · obtain ⟨a, v, rfl, _⟩ := h
    rfl
  · obtain ⟨a, v, rfl, ha, q⟩ := h
    refine ⟨_, (pss_one (k_ost (K := K) rfl (pv 0) (pv 1))), ?_⟩
    show (_ : L2.St → Hp → Prop) [some (.ref a), some (v)] H
    exact ost_ T no ha (fun R r => ⟨v, rfl, r⟩) (fun R r => ⟨.ref a, rfl, r⟩) fun dx n ne => q dx n ne
/-! ### lists of words -/
def spRow (_ : PySem.W.Frag) : Sp := fun vs H Q _ => ∃ (v : V) (b : Bool), vs = [v] ∧ ((∃ p xs, v = .ref p ∧ RowH H p xs ∧ b = true) ∨ (∃ x, v = .str x ∧ b = false)) ∧ ∀ H', Has H [] H' [] → Q (.bl b) H'
theorem ok_is_row {f : Addr} {fd : FuncData} {k : Nat} (F : Fun K "is_row" "is_row" s_is_row f fd) (m_isinstance : mg "isinstance" = none) (m_list : mg "list" = none) (m_tuple : mg "tuple" = none) : FnOk P w K mg base CX0 (k + 1) f fd ["value"] (spRow K) := by
  refine F.ok sc_is_row (fun vs H Q E h => ?_) (fun cdv A outer s H vs Q E hr h => ?_)
  · obtain ⟨v, b, rfl, _⟩ := h
    rfl
  · obtain ⟨v, b, rfl, hb, q⟩ := h
    refine ⟨_, (pss_one (ps_ret (pe_callB (k_isiU (K := K) rfl) (by rfl) m_isinstance (by decide +kernel) (pa_cons (pv 0) (pa_cons (pe_tup (pa_cons (pe_bltn (v := .ty "list") (by rfl) m_list (by decide +kernel) rfl) (pa_cons (pe_bltn (v := .ty "tuple") (by rfl) m_tuple (by decide +kernel) rfl) pa_nil))) pa_nil))))), ?_⟩
    have h0 := Has.start H []
    show (_ : L2.St → Hp → Prop) [some (v)] H
    walk_at "go"
    rename_i p G n g
    have hq := g.at List.mem_cons_self
    rcases hb with ⟨a, xs, rfl, hr | hr, rfl⟩ | ⟨x, rfl, rfl⟩
    · exact isiRowL hq (g.keep a _ hr (by simp)) (q _ g.tail)
    · exact isiRowT hq (g.keep a _ hr (by simp)) (q _ g.tail)
    · exact isiT2 hq (.base (.str x)) (kitAny_cons (kit_ty (r := false) (by decide +kernel)) (fun _ => kitAny_cons (kit_ty (r := false) (by decide +kernel)) (fun _ => rfl) fun z => by cases z) fun z => by cases z) (q _ g.tail)
theorem NoStr.keep {H H' : Hp} {L : List (Addr × HO)} {v : V} (n : NoStr H v) (h : Has H [] H' L) : NoStr H' v := by
  rcases n with n | n | ⟨a, xs, e, p⟩
  · exact .inl n
  · exact .inr (.inl n)
  · exact .inr (.inr ⟨a, xs, e, h.keep a _ p (by simp)⟩)
theorem isi_no {H : Hp} {Q : VK} {y : V} (n : NoStr H y) (h : Q (.bl false) H) : rIsiU K [y, .ty "str"] H Q := by
  rcases n with rfl | ⟨i, rfl⟩ | ⟨a, xs, rfl, p⟩
  · exact isi1 (.base .non) (kit_ty (by decide +kernel)) h
  · exact isi1 (.base (.int i)) (kit_ty (by decide +kernel)) h
  · exact isi1 (.base (.lst p)) (kit_ty (by decide +kernel)) h
def spChecked (BW : Addr) (K : PySem.W.Frag) : Sp := fun vs H Q E => ∃ v, vs = [v] ∧ ((∃ (p : Addr) (us : List (List Nat)), v = .ref p ∧ RowH H p (vWs us) ∧ us.length ≤ 20 ∧ ∀ p' H', Has H [] H' [] → SqT K H' p' (vWs us) → Q (.ref p') H') ∨
  (∃ (p : Addr) (y : V), v = .ref p ∧ H p = some (.lst [.str "a", y]) ∧ NoStr H y ∧ ∀ dd H', Has H [] H' [(dd, .xd [("number", .int 1)])] → E (.ref BW) (some dd) H') ∨
  (∃ x : Str, v = .str x ∧ ∀ dd H', Has H [] H' [(dd, .xd [("number", .non)])] → E (.ref BW) (some dd) H'))
theorem ok_checked {BW f : Addr} {fd : FuncData} {k : Nat} (F : Fun K "checked_words" "checked_words" s_checked_words f fd) (c_is_row : Cal P w K mg base CX0 1 "is_row" ["value"] (spRow K)) (z_BadWords : RzOk P w K mg base "BadWords" BW "number")
    (m_isinstance : mg "isinstance" = none) (m_str : mg "str" = none) (m_tuple : mg "tuple" = none) (m_enumerate : mg "enumerate" = none) : FnOk P w K mg base (L2.CX P w) 3 f fd ["words"] (spChecked BW K) := by
  refine Sw.Fun.okE F sc_checked_words (fun vs H Q E h => ?_) (fun cdv A outer s H vs Q E hr h => ?_)
  · obtain ⟨v, rfl, _⟩ := h
    rfl
  · obtain ⟨v, rfl, h⟩ := h
    refine ⟨_, (pss_cons (ps_if (pt_not (pt_val (pe_cal c_is_row hr (by omega) (by rfl) pass0 (pa_cons (pv 0) pa_nil)))) (pss_one (ps_rz z_BadWords rfl takesE hr (by omega) (by rfl) (pa_cons pe_non pa_nil))) pss_nil)
    (pss_cons (ps_for (passes_of rfl) rfl (k_enS (K := K) rfl (by rfl) m_enumerate (pa_cons (pv 0) pa_nil)) (k_gtup (K := K) (n := 2) rfl rfl (pgs_cons (pg_name (i := 1) sc_checked_words.nd rfl (.inl rfl)) (pgs_cons (pg_name (i := 2) sc_checked_words.nd rfl (.inl rfl)) pgs_nil))) (pss_one (ps_if (pt_not (pt_val (pe_callB (k_isiU (K := K) rfl) (by rfl) m_isinstance (by decide +kernel) (pa_cons (pv 2) (pa_cons (pe_bltn (v := .ty "str") (by rfl) m_str (by decide +kernel) rfl) pa_nil))))) (pss_one (ps_rz z_BadWords rfl takesE hr (by omega) (by rfl) (pa_cons (pv 1) pa_nil))) pss_nil)))
    (pss_one (ps_ret (pe_callTy (k_tuple (K := K) rfl) (by rfl) m_tuple (by decide +kernel) (pa_cons (pv 0) pa_nil)))))), ?_⟩
    have h0 := Has.start H []
    show (_ : L2.St → Hp → Prop) [some (v), none, none] H
    walk_at "go"
    rcases h with ⟨p, us, rfl, hp, hl, q⟩ | ⟨p, y, rfl, hp, hy, q⟩ | ⟨x, rfl, q⟩
    · refine ⟨_, true, rfl, .inl ⟨p, _, rfl, hp, rfl⟩, fun H1 h1 => ?_⟩
      walk_at "go"
      have hrow : ∀ {H'}, Has H [] H' [] → RowH H' p (vWs us) := fun h => hp.imp (fun e => h.keep p _ e (by simp)) fun e => h.keep p _ e (by simp)
      refine fork_en (xs := vWs us) (fun i σ' H' => ∃ s1 s2, σ' = [some (.ref p), s1, s2] ∧ Has H [] H' []) ⟨_, _, rfl, h1⟩ ?_ (fun i x σ' H' T hx hq n => ?_) (fun σ' H' hq => ?_)
      · rcases hp with e | e
        · exact .inl fun i σ' H' _ ⟨_, _, _, h⟩ => SqL.of (h.keep p _ e (by simp))
        · exact .inr fun i σ' H' _ ⟨_, _, _, h⟩ => SqT.of (h.keep p _ e (by simp))
      · obtain ⟨s1, s2, rfl, hh⟩ := hq
        obtain ⟨u, hu, rfl⟩ : ∃ u, us[i]? = some u ∧ V.str (S u) = x := by simpa [List.getElem?_map] using hx
        have hT := hh.new n (o := .tup [.int i, .str (S u)])
        walk_at "go"
        exact ⟨_, _, rfl, hT.sub (List.nil_sublist _)⟩
      · obtain ⟨s1, s2, rfl, hh⟩ := hq
        walk_at "go"
        rcases hrow hh with e | e
        · exact ⟨p, vWs us, rfl, .inl ⟨SqL.of e, fun p7 n7 => q _ _ (hh.new n7 (o := .tup (vWs us))).tail (SqT.of upd_same)⟩⟩
        · exact ⟨p, vWs us, rfl, .inr ⟨SqT.of e, q _ _ hh (SqT.of e)⟩⟩
    · refine ⟨_, true, rfl, .inl ⟨p, _, rfl, .inl hp, rfl⟩, fun H1 h1 => ?_⟩
      walk_at "go"
      refine fork_en (xs := [.str "a", y]) (fun i σ' H' => i ≤ 1 ∧ ∃ s1 s2, σ' = [some (.ref p), s1, s2] ∧ Has H [] H' []) ⟨by decide, _, _, rfl, h1⟩ (.inl fun i σ' H' _ ⟨_, _, _, _, h⟩ => SqL.of (h.keep p _ hp (by simp))) (fun i x σ' H' T hx hq n => ?_) (fun σ' H' hq => ?_)
      · obtain ⟨hi, s1, s2, rfl, hh⟩ := hq
        have hT := hh.new n (o := .tup [.int i, x])
        rcases (show i = 0 ∨ i = 1 by omega) with rfl | rfl
        · obtain rfl : V.str "a" = x := Option.some.inj hx
          walk_at "go"
          exact ⟨by decide, _, _, rfl, hT.sub (List.nil_sublist _)⟩
        · obtain rfl : y = x := Option.some.inj hx
          walk_at "go"
          refine isi_no (hy.keep hT) ?_
          walk_at "go"
          exact rzE fun dd H2 g => q dd H2 (hT.thn g)
      · exact absurd hq.1 (show ¬ 2 ≤ 1 by decide)
    · refine ⟨_, false, rfl, .inr ⟨x, rfl, rfl⟩, fun H1 h1 => ?_⟩
      walk_at "go"
      exact rzE fun dd H2 g => q dd H2 (h1.thn g)
/-! ### writing -/
abbrev bareS : Str := "ABCDEFGHIJKLMNOPQRSTUVWXYZabcdefghijklmnopqrstuvwxyz0123456789-_=./,:+@"
theorem bare_plain (c : Nat) : decide (c ∈ bareS.cps.toList) = plainC c := by
  have e : bareS.cps.toList = [65, 66, 67, 68, 69, 70, 71, 72, 73, 74, 75, 76, 77, 78, 79, 80, 81, 82, 83, 84, 85, 86, 87, 88, 89, 90, 97, 98, 99, 100, 101, 102, 103, 104, 105, 106, 107, 108, 109, 110, 111, 112, 113, 114, 115, 116, 117, 118, 119, 120, 121, 122, 48, 49, 50, 51, 52, 53, 54, 55, 56, 57, 45, 95, 61, 46, 47, 44, 58, 43, 64] := rfl
  rw [e]
  by_cases h : c < 128
  · revert c
    decide +kernel
  · unfold plainC
    have h1 : decide (c ≤ 122) = false := decide_eq_false (by omega)
    have h2 : decide (c ≤ 90) = false := decide_eq_false (by omega)
    have h3 : decide (c ≤ 57) = false := decide_eq_false (by omega)
    have h4 : ∀ l : List Nat, (∀ x ∈ l, x < 128) → decide (c ∈ l) = false := fun l z => decide_eq_false fun m => h (z c m)
    rw [h1, h2, h3, h4 _ (by decide), h4 _ (by decide)]
    simp
theorem repl_quote (u : List Nat) : replL [39] [39, 92, 39, 39] u = u.flatMap quoteS := by
  induction u with
  | nil => rw [replL_nil, List.flatMap_nil]
  | cons c u ih =>
    rw [List.flatMap_cons]
    by_cases h : c = 39
    · subst h
      rw [replL_hit (by simp) (by rfl)]
      show _ ++ replL _ _ (List.drop 1 (39 :: u)) = _
      rw [List.drop_succ_cons, List.drop_zero, ih]
      rfl
    · rw [replL_miss (by simpa using h), ih, show quoteS c = [c] from if_neg h]
      rfl
theorem S_repl (u : List Nat) : Txt.replace (S u) "'" "'\\''" = S (u.flatMap quoteS) := by
  refine Str.ext' (Array.toList_inj.mp ?_)
  rw [replace_list (by decide)]
  exact repl_quote u
def spWritten (_ : PySem.W.Frag) : Sp := fun vs H Q _ => ∃ u : List Nat, vs = [.str (S u)] ∧ u.length ≤ 40 ∧ ∀ H', Has H [] H' [] → Q (.str (S (wordL u))) H'
theorem ok_written {f : Addr} {fd : FuncData} {k : Nat} {tk : Tok} (F : Fun K "_written" "_written" s__written f fd) (m_all : mg "all" = none) (g_BARE : mg "BARE" = some (.str bareS tk)) : FnOk P w K mg base CX0 (k + 1) f fd ["word"] (spWritten K) := by
  refine F.ok sc__written (fun vs H Q E h => ?_) (fun cdv A outer s H vs Q E hr h => ?_)
  · obtain ⟨u, rfl, _⟩ := h
    rfl
  · obtain ⟨u, rfl, hu, q⟩ := h
    refine ⟨_, (pss_cons (ps_if (PW.pt (pw_and (pt_cmpR (k_ne (K := K) rfl (by exact hr.units)) (pv 0) pe_str (nomark _)) (pw_and1 (pt_val (pe_callB (k_all (K := K) rfl rfl) (by rfl) m_all (by decide +kernel) (pa_cons (pe_lc (own := [("sign", 1)]) (g := gName 1) rfl sc__written.nd (pi_str (pv 0)) (blkOk_by (own := [("sign", 1)]) (N := ["word", "sign"]) (sc := defScope s__written) (by decide +kernel)) (fun _ _ _ _ _ => (pg_name (i := 1) sc__written.nd rfl (Or.inl rfl))) (fun _ _ _ _ _ => pts_nil) (fun _ _ _ _ _ => (pe_cmpR (k_inU (K := K) rfl) (pv 1) (pe_glob (v := .str "ABCDEFGHIJKLMNOPQRSTUVWXYZabcdefghijklmnopqrstuvwxyz0123456789-_=./,:+@") (by rfl) g_BARE ⟨_, rfl⟩) (by rfl)))) pa_nil)))))) (pss_one (ps_ret (pv 0))) pss_nil)
    (pss_one (ps_ret (pe_op (k_add (K := K) rfl) (pe_opT (k_add (K := K) rfl) (CwR.pet_replC (pv 0))) pe_str)))), ?_⟩
    have h0 := Has.start H []
    show (_ : L2.St → Hp → Prop) [some (.str (S u)), none] H
    walk_at "go"
    rw [S_nil]
    have quoted : (u.isEmpty = true ∨ u.all plainC = false) → wordL u = quoteL u := fun z => by
      unfold wordL
      rw [if_neg]
      rcases z with z | z <;> simp [z]
    have fin : ∀ {H1 : Hp}, Has H [] H1 [] → wordL u = quoteL u → Q (.str (("'" : Str) ++ S (u.flatMap quoteS) ++ "'")) H1 := fun h e => by
      have : ("'" : Str) ++ S (u.flatMap quoteS) ++ "'" = S (wordL u) := by
        rw [e, show ("'" : Str) = S [39] from rfl, S_app, S_app]
        rfl
      rw [this]
      exact q _ h
    have hb : (u.flatMap quoteS).length ≤ 200 := by
      have := flat_len u
      omega
    have quote : ∀ {H1 : Hp}, Has H [] H1 [] → wordL u = quoteL u → rAddU K (V.str "'") (V.str (S (u.flatMap quoteS))) H1 fun y H2 => rAddU K y (V.str "'") H2 Q := fun h e => by
      refine addSP (by decide) (by rw [S_len]; omega) ?_
      refine addSP (by rw [show ("'" : Str) = S [39] from rfl, S_app, S_len, List.length_append, List.length_singleton]; omega) (by decide) ?_
      exact fin h e
    cases he : u.isEmpty with
    | true =>
      walk_at "go"
      refine ⟨S u, rfl, by rw [S_len]; show u.length + (u.length + 1) * 4 ≤ _; omega, ?_⟩
      rw [S_repl]
      exact quote h0 (quoted (.inl he))
    | false =>
      walk_at "go"
      refine lcs_str h0 (fun i acc => acc = ((u.take i).map plainC).map V.bl) rfl (fun i c' D acc H' hi hD hl hp hH => ?_) (fun D acc H' hl hp hH => ?_)
      · subst hp
        have hi : u[i]? = some c' := hi
        have lt := (List.getElem?_eq_some_iff.mp hi).1
        simp only [List.map, wipe, List.set]
        walk_at "go"
        refine lct rfl ?_
        walk_at "go"
        exact lcs hH (by walk_at "sub") hD hl (by omega) (by rw [List.take_add_one, hi, show decide (c' ∈ bareS.cps.toList) = plainC c' from bare_plain c']; simp only [Option.toList_some, List.map_append, List.map_cons, List.map_nil])
      · subst hp
        walk_at "go"
        refine all_ (hH.l List.mem_cons_self) ?_
        rw [show (S u).cps.size = u.length from rfl, List.take_length, List.all_map, show (id ∘ plainC) = plainC from rfl]
        walk_at "go"
        cases hb2 : u.all plainC with
        | true =>
          walk_at "go"
          have e : wordL u = u := by
            unfold wordL
            rw [if_pos (by simp [he, hb2])]
          have := q _ hH.tail
          rw [e] at this
          exact this
        | false =>
          walk_at "go"
          refine ⟨S u, rfl, by rw [S_len]; show u.length + (u.length + 1) * 4 ≤ _; omega, ?_⟩
          rw [S_repl]
          exact quote hH.tail (quoted (.inr hb2))
theorem ok_write {BW f : Addr} {fd : FuncData} (F : Fun K "write_line" "write_line" s_write_line f fd) (c_checked_words : Cal P w K mg base (L2.CX P w) 3 "checked_words" ["words"] (spChecked BW K)) (c__written : Cal P w K mg base CX0 1 "_written" ["word"] (spWritten K)) : FnOk P w K mg base (L2.CX P w) 4 f fd ["words"] (spWrite BW K) := by
  refine Sw.Fun.okE F sc_write_line (fun vs H Q E h => ?_) (fun cdv A outer s H vs Q E hr h => ?_)
  · rcases h with ⟨p, us, rfl, _⟩ | ⟨p, y, rfl, _⟩ | ⟨x, rfl, _⟩ <;> rfl
  · obtain ⟨v, hv, hh⟩ : ∃ v, vs = [v] ∧ ((∃ (p : Addr) (us : List (List Nat)), v = .ref p ∧ RowH H p (vWs us) ∧ us.length ≤ 20 ∧ (∀ u ∈ us, u.length ≤ 40) ∧ ∀ H', Has H [] H' [] → Q (.str (S (writeL us))) H') ∨
        (∃ (p : Addr) (y : V), v = .ref p ∧ H p = some (.lst [.str "a", y]) ∧ NoStr H y ∧ ∀ dd H', Has H [] H' [(dd, .xd [("number", .int 1)])] → E (.ref BW) (some dd) H') ∨
        (∃ x : Str, v = .str x ∧ ∀ dd H', Has H [] H' [(dd, .xd [("number", .non)])] → E (.ref BW) (some dd) H')) := by
      rcases h with ⟨p, us, rfl, h⟩ | ⟨p, y, rfl, h⟩ | ⟨x, rfl, h⟩
      · exact ⟨_, rfl, .inl ⟨p, us, rfl, h⟩⟩
      · exact ⟨_, rfl, .inr (.inl ⟨p, y, rfl, h⟩)⟩
      · exact ⟨_, rfl, .inr (.inr ⟨x, rfl, h⟩)⟩
    subst hv
    refine ⟨_, (pss_one (ps_ret (k_bm (K := K) rfl PySem.F.plainAttrs_str PySem.F.slot_str_join PySem.F.type_str_join (k_join (K := K) rfl) pe_str (pa_cons (pe_lc (own := [("word", 1)]) (g := gName 1) rfl sc_write_line.nd (k_tup (K := K) rfl (pe_cal c_checked_words hr (by omega) (by rfl) (passE (CXg := CX0)) (pa_cons (pv 0) pa_nil))) (blkOk_by (own := [("word", 1)]) (N := ["words", "word"]) (sc := defScope s_write_line) (by decide +kernel)) (fun _ _ _ _ _ => (pg_name (i := 1) sc_write_line.nd rfl (Or.inl rfl))) (fun _ _ _ _ _ => pts_nil) (fun _ _ _ _ _ => (pe_cal c__written hr (by omega) (by rfl) pass0 (pa_cons (pv 1) pa_nil)))) pa_nil)))), ?_⟩
    have h0 := Has.start H []
    show (_ : L2.St → Hp → Prop) [some (v), none] H
    walk_at "go"
    rcases hh with ⟨p, us, rfl, hp, hl, hus, q⟩ | ⟨p, y, rfl, hp, hy, q⟩ | ⟨x, rfl, q⟩
    · refine ⟨_, rfl, .inl ⟨p, us, rfl, hp, hl, fun p' H1 h1 sq => ?_⟩⟩
      refine itupk sq ?_
      refine lcs_tup (xs := vWs us) (Has.start H1 []) (fun H' h => h.st sq (by simp)) (fun i acc => acc = ((us.take i).map wordL).map fun l => V.str (S l)) rfl (fun i x D acc H' hi hD hl2 hp2 hH => ?_) (fun D acc H' hl2 hp2 hH => ?_)
      · subst hp2
        obtain ⟨u, hu, rfl⟩ : ∃ u, us[i]? = some u ∧ V.str (S u) = x := by simpa [List.getElem?_map] using hi
        have lt := (List.getElem?_eq_some_iff.mp hu).1
        simp only [List.map, wipe, List.set]
        walk_at "go"
        refine lct rfl ?_
        walk_at "go"
        refine ⟨u, rfl, hus u (List.mem_of_getElem? hu), fun H2 g2 => ?_⟩
        exact lcs (hH.same g2) (by walk_at "sub") hD hl2 (by omega) (by rw [List.take_add_one, hu]; simp)
      · subst hp2
        rw [show (vWs us).length = us.length from List.length_map .., List.take_length] at hH
        walk_at "go"
        refine join_ (ys := (us.map wordL).map S) (.inl (by rw [List.map_map]; exact hH.l List.mem_cons_self)) ?_ ?_
        · rw [len_S, List.map_map, List.length_map, List.length_map]
          have := sum_le (n := 200) (us.map (List.length ∘ wordL)) fun z hz => by
            obtain ⟨u, hu, rfl⟩ := List.mem_map.mp hz
            have := wordL_len (hus u hu)
            simp only [Function.comp]
            omega
          rw [List.length_map] at this
          show _ + us.length * 1 ≤ _
          omega
        · rw [w_join]
          exact q _ (h1.thn hH.tail)
    · exact ⟨_, rfl, .inr (.inl ⟨p, y, rfl, hp, hy, q⟩)⟩
    · exact ⟨_, rfl, .inr (.inr ⟨x, rfl, q⟩)⟩

/-! ### reading -/
def PartR (BL : Addr) (x : Str) (i : Nat) (H : Hp) (Q : VK) (E : XK) : Prop := (∀ (e : Nat) (z : Int) (dd : Addr) H', z = (e : Int) → (∀ ws w, spl .out i ws w (x.cps.toList.drop i) = .error e) → Has H [] H' [(dd, .xd [("column", .int z)])] → E (.ref BL) (some dd) H') ∧
  ∀ (t : List Nat) (j : Nat) (z : Int) (p : Addr) H', z = (j : Int) → i < j → j ≤ x.cps.toList.length → t.length + i ≤ j → (∀ ws w, spl .out i ws w (x.cps.toList.drop i) = spl .out j ws (some (w.getD [] ++ t)) (x.cps.toList.drop j)) → H p = none → Has H [] H' [(p, .tup [.str (S t), .int z])] → Q (.ref p) H'
def spPart (BL : Addr) (ok : Nat → Prop) : Sp := fun vs H Q E => ∃ (x : Str) (i c : Nat), vs = [.str x, .int i] ∧ x.length ≤ 900 ∧ x.cps.toList[i]? = some c ∧ ok c ∧ PartR BL x i H Q E
theorem dropAt {cs : List Nat} {i c : Nat} (h : cs[i]? = some c) : cs.drop i = c :: cs.drop (i + 1) := by
  obtain ⟨hi, e⟩ := List.getElem?_eq_some_iff.mp h
  rw [← e]
  exact List.drop_eq_getElem_cons hi
theorem cutS_one {z : Str} {k : Nat} : cutS z (some ((k : Int) + 1)) (some ((k : Int) + 2)) = S ((z.cps.toList.drop (k + 1)).take 1) := by
  by_cases h : k + 2 ≤ z.cps.toList.length
  · rw [cutS_nat (a := k + 1) (b := k + 2) h (by omega) (by omega) (by omega), show k + 2 - (k + 1) = 1 by omega]
  · have hl : z.length = z.cps.toList.length := by rw [Array.length_toList]; rfl
    unfold cutS
    rw [show (k : Int) + 1 = ((k + 1 : Nat) : Int) by omega, show (k : Int) + 2 = ((k + 2 : Nat) : Int) by omega, HT.sIx_nat, HT.sIx_nat, hl, Nat.min_eq_right (show z.cps.toList.length ≤ k + 2 by omega), Nat.min_eq_right (show z.cps.toList.length ≤ k + 1 by omega), List.drop_eq_nil_of_le (show z.cps.toList.length ≤ k + 1 by omega), List.take_nil]
    show S ((z.cps.toList.drop z.cps.toList.length).take _) = _
    rw [List.drop_length, List.take_nil]
theorem ok_single {BL f : Addr} {fd : FuncData} (F : Fun K "_single_quoted" "_single_quoted" s__single_quoted f fd) (z_BadLine : RzOk P w K mg base "BadLine" BL "column") : FnOk P w K mg base (L2.CX P w) 3 f fd ["line", "opened"] (spPart BL (· = 39)) := by
  refine Sw.Fun.okE F sc__single_quoted (fun vs H Q E h => ?_) (fun cdv A outer s H vs Q E hr h => ?_)
  · obtain ⟨x, i, c, rfl, _⟩ := h
    rfl
  · obtain ⟨x, i, c, rfl, hx, hc, rfl, hE, hQ⟩ := h
    refine ⟨_, (pss_cons (ps_set (i := 2) sc__single_quoted.nd rfl (.inl rfl) (k_bm (K := K) rfl PySem.F.plainAttrs_str PySem.F.slot_str_find PySem.F.type_str_find k_find (pv 0) (pa_cons pe_str (pa_cons (pe_op (k_add (K := K) rfl) (pv 1) pe_int) pa_nil))))
    (pss_cons (ps_if (pt_cmpR op_lt (pv 2) pe_int (nomark _)) (pss_one (ps_rz z_BadLine rfl takesE hr (by omega) (by rfl) (pa_cons (pe_op (k_add (K := K) rfl) (pv 1) pe_int) pa_nil))) pss_nil)
    (pss_one (ps_ret (pe_tup (pa_cons (pe_slice (k_sl (K := K) rfl) (pv 0) (po_some (pe_op (k_add (K := K) rfl) (pv 1) pe_int)) (po_some (pv 2))) (pa_cons (pe_op (k_add (K := K) rfl) (pv 2) pe_int) pa_nil))))))), ?_⟩
    have h0 := Has.start H []
    show (_ : L2.St → Hp → Prop) [some (.str x), some (.int i), none] H
    have hx9 : x.length ≤ sizeLine := by rw [sizeLine_eq]; omega
    have hsz : x.length = x.cps.toList.length := by rw [Array.length_toList]; rfl
    have hi : i < x.cps.toList.length := (List.getElem?_eq_some_iff.mp hc).1
    have hd := dropAt hc
    walk_at "go"
    rcases find3_one (x := x) (c := 39) (i := i + 1) (by omega) with ⟨j, e, lo, hj, hn⟩ | ⟨e, hn⟩
    · rw [show Txt.find3 x "'" ((i : Int) + 1) = (j : Int) from e, decide_eq_false (show ¬ ((j : Int) < 0) by omega)]
      have hjl := (List.getElem?_eq_some_iff.mp hj).1
      have hix : (x.cps.toList.drop (i + 1)).findIdx? (· == 39) = some (j - (i + 1)) := by
        refine idx_some ?_ fun k hk => ?_
        · rw [List.getElem?_drop, show i + 1 + (j - (i + 1)) = j by omega]
          exact hj
        · rw [List.getElem?_drop]
          exact hn _ (by omega) (by omega)
      walk_at "go"
      refine slS hx9 ?_
      rw [cutS_nat (a := i + 1) (b := j) (by omega) (by omega) (by omega) (by omega)]
      walk_at "go"
      rename_i p G n g
      refine hQ ((x.cps.toList.drop (i + 1)).take (j - (i + 1))) (j + 1) _ p G (by omega) (by omega) (by omega) (by rw [List.length_take]; omega) (fun ws w => ?_) n g
      rw [hd, spl_q1, spl_sq, hix]
      dsimp only []
      rw [List.drop_drop, show i + 1 + (j - (i + 1)) + 1 = j + 1 by omega, show i + 1 + (j - (i + 1) + 1) = j + 1 by omega]
    · rw [show Txt.find3 x "'" ((i : Int) + 1) = -1 from e, decide_eq_true (show (-1 : Int) < 0 by decide)]
      have hix : (x.cps.toList.drop (i + 1)).findIdx? (· == 39) = none := idx_none fun k => by
        rw [List.getElem?_drop]
        exact hn _ (by omega)
      walk_at "go"
      refine rzE fun dd H2 g => hE (i + 1) ((i : Int) + 1) dd H2 (by omega) (fun ws w => ?_) g
      rw [hd, spl_q1, spl_sq, hix]
theorem ok_double {BL f : Addr} {fd : FuncData} (F : Fun K "_double_quoted" "_double_quoted" s__double_quoted f fd) (z_BadLine : RzOk P w K mg base "BadLine" BL "column") (m_len : mg "len" = none) : FnOk P w K mg base (L2.CX P w) 3 f fd ["line", "opened"] (spPart BL (· = 34)) := by
  refine Sw.Fun.okE F sc__double_quoted (fun vs H Q E h => ?_) (fun cdv A outer s H vs Q E hr h => ?_)
  · obtain ⟨x, i, c, rfl, _⟩ := h
    rfl
  · obtain ⟨x, i, c, rfl, hx, hc, rfl, hE, hQ⟩ := h
    refine ⟨_, (pss_cons (ps_set (i := 2) sc__double_quoted.nd rfl (.inl rfl) (pe_lst pa_nil))
    (pss_cons (ps_set (i := 3) sc__double_quoted.nd rfl (.inl rfl) (pe_op (k_add (K := K) rfl) (pv 1) pe_int))
    (pss_cons (ps_while (passes_of rfl) (PW.pt (pw_and (pt_cmpR op_lt (pv 3) (pe_callB (k_len (K := K) rfl) (by rfl) m_len (by decide +kernel) (pa_cons (pv 0) pa_nil)) (nomark _)) (pw_and1 (pt_cmpR (k_ne (K := K) rfl (by exact hr.units)) (pe_ix (k_ix (K := K) rfl) (pv 0) (pv 3) (fun _ _ => rfl)) pe_str (nomark _))))) (pss_cons (ps_if (PW.pt (pw_and (pt_cmpR (k_eq (K := K) rfl (by exact hr.units)) (pe_ix (k_ix (K := K) rfl) (pv 0) (pv 3) (fun _ _ => rfl)) pe_str (nomark _)) (pw_and1 (pt_cmpR (k_inU (K := K) rfl) (pe_slice (k_sl (K := K) rfl) (pv 0) (po_some (pe_op (k_add (K := K) rfl) (pv 3) pe_int)) (po_some (pe_op (k_add (K := K) rfl) (pv 3) pe_int))) (pe_tup (pa_cons pe_str (pa_cons pe_str pa_nil))) (by rfl))))) (pss_one (ps_aug (i := 3) sc__double_quoted.nd rfl (.inl rfl) pe_int ip_add)) pss_nil)
    (pss_cons (ps_expr (k_bm (K := K) rfl PySem.F.plainAttrs_list PySem.F.slot_list_append PySem.F.type_list_append mt_append (pv 2) (pa_cons (pe_ix (k_ix (K := K) rfl) (pv 0) (pv 3) (fun _ _ => rfl)) pa_nil)))
    (pss_one (ps_aug (i := 3) sc__double_quoted.nd rfl (.inl rfl) pe_int ip_add)))))
    (pss_cons (ps_if (pt_cmpR (k_eq (K := K) rfl (by exact hr.units)) (pv 3) (pe_callB (k_len (K := K) rfl) (by rfl) m_len (by decide +kernel) (pa_cons (pv 0) pa_nil)) (nomark _)) (pss_one (ps_rz z_BadLine rfl takesE hr (by omega) (by rfl) (pa_cons (pe_op (k_add (K := K) rfl) (pv 1) pe_int) pa_nil))) pss_nil)
    (pss_one (ps_ret (pe_tup (pa_cons (k_bm (K := K) rfl PySem.F.plainAttrs_str PySem.F.slot_str_join PySem.F.type_str_join (k_join (K := K) rfl) pe_str (pa_cons (pv 2) pa_nil)) (pa_cons (pe_op (k_add (K := K) rfl) (pv 3) pe_int) pa_nil))))))))), ?_⟩
    have h0 := Has.start H []
    show (_ : L2.St → Hp → Prop) [some (.str x), some (.int i), none, none] H
    have hx9 : x.length ≤ sizeLine := by rw [sizeLine_eq]; omega
    have hsz : x.length = x.cps.toList.length := by rw [Array.length_toList]; rfl
    have hi : i < x.cps.toList.length := (List.getElem?_eq_some_iff.mp hc).1
    have hd := dropAt hc
    walk_at "go"
    rename_i pt G nt hH
    refine while_ (fun m σ' H' => ∃ (k : Nat) (l : List Nat), σ' = [some (.str x), some (.int i), some (.ref pt), some (.int k)] ∧ m + k = x.cps.toList.length ∧ i < k ∧ l.length + i + 1 ≤ k ∧
      (∀ ws w, spl .out i ws w (x.cps.toList.drop i) = spl (.dq (i + 1)) k ws (some (w.getD [] ++ l)) (x.cps.toList.drop k)) ∧ Has H [] H' [(pt, .lst (l.map fun c => V.str (S [c])))]) (x.cps.toList.length - (i + 1)) ⟨i + 1, [], rfl, by omega, by omega, by simp, fun ws w => by rw [hd, spl_q2, List.append_nil], hH⟩ (fun m σ' H' hp => ?_)
    obtain ⟨k, l, rfl, hm, hik, hl, hs, hH2⟩ := hp
    walk_at "go"
    by_cases hk : k < x.cps.toList.length
    · rw [decide_eq_true (show (k : Int) < (x.length : Int) by omega)]
      obtain ⟨c, hck⟩ : ∃ c, x.cps.toList[k]? = some c := ⟨_, List.getElem?_eq_getElem hk⟩
      have hdk := dropAt hck
      rw [hdk] at hs
      walk_at "go"
      refine ixS (c := c) hx9 (at_nat hck) ?_
      walk_at "go"
      rw [show decide (V.str ⟨#[c]⟩ = V.str "\"") = decide (c = 34) from sg]
      by_cases c34 : c = 34
      · subst c34
        rw [decide_eq_true rfl]
        refine whk (fun z => by cases z) (fun _ => ?_)
        walk_at "go"
        rw [decide_eq_false (show ¬ V.int (k : Int) = V.int (x.length : Int) from fun z => by have := V.int.inj z; omega)]
        walk_at "go"
        refine join_ (ys := l.map fun c => S [c]) (.inl (by rw [List.map_map]; exact hH2.l (by simp))) (by rw [sum_one, List.length_map]; show l.length + l.length * 0 ≤ _; omega) ?_
        rw [join_one]
        walk_at "go"
        rename_i p G2 n g
        refine hQ l (k + 1) ((k : Int) + 1) p G2 (by omega) (by omega) (by omega) (by omega) (fun ws w => ?_) ((freshD hH2 n).resolve_left (by simp)) (g.sub (by walk_at "sub"))
        rw [hs, spl_dqe]
      · rw [decide_eq_false c34]
        refine whk (fun _ => ?_) (fun z => by cases z)
        walk_at "go"
        refine ixS (c := c) hx9 (at_nat hck) ?_
        walk_at "go"
        rw [show decide (V.str ⟨#[c]⟩ = V.str "\\") = decide (c = 92) from sg]
        by_cases c92 : c = 92
        · rw [decide_eq_true c92]
          walk_at "go"
          refine slS hx9 ?_
          rw [cutS_one (k := k)]
          walk_at "go"
          rename_i p3 G3 n3 g3
          have hT : Has H [] G3 [(p3, .tup [.str "\"", .str "\\"]), (pt, .lst (l.map fun c => V.str (S [c])))] := g3
          refine inUT (hT.t List.mem_cons_self) rfl rfl ?_
          by_cases hk1 : k + 1 < x.cps.toList.length
          · obtain ⟨d, hdk1⟩ : ∃ d, x.cps.toList[k + 1]? = some d := ⟨_, List.getElem?_eq_getElem hk1⟩
            have hd2 := dropAt hdk1
            rw [hd2] at hs
            rw [hd2, List.take_succ_cons, List.take_zero]
            have hb : inV (V.str (S [d])) [V.str "\"", V.str "\\"] = decide (d = 34 ∨ d = 92) := by
              show (eqV (V.str ⟨#[34]⟩) (V.str ⟨#[d]⟩) || (eqV (V.str ⟨#[92]⟩) (V.str ⟨#[d]⟩) || false)) = _
              rw [eqS, eqS, Bool.or_false, ← Bool.decide_or]
              exact decide_eq_decide.mpr ⟨fun z => z.imp Eq.symm Eq.symm, fun z => z.imp Eq.symm Eq.symm⟩
            rw [hb]
            by_cases hd : d = 34 ∨ d = 92
            · rw [decide_eq_true hd]
              walk_at "go"
              refine ixS (c := d) hx9 (at_n (j := k + 1) (by omega) hdk1) ?_
              walk_at "go"
              refine app_ hT (.there .here) (.inr nt) (by rw [List.length_map]; omega) fun G4 g4 => ?_
              walk_at "go"
              refine ⟨m - 2, by omega, k + 2, l ++ [d], by rw [show ((k + 2 : Nat) : Int) = (k : Int) + 1 + 1 by omega], by omega, by omega, by simp; omega, fun ws w => ?_, ?_⟩
              · rw [hs, c92, spl_dqx hd, ← List.append_assoc]
                rfl
              · rw [List.map_append]
                exact g4.sub (.cons _ (.refl _))
            · rw [decide_eq_false hd]
              walk_at "go"
              refine ixS (c := c) hx9 (at_nat hck) ?_
              walk_at "go"
              refine app_ hT (.there .here) (.inr nt) (by rw [List.length_map]; omega) fun G4 g4 => ?_
              walk_at "go"
              refine ⟨m - 1, by omega, k + 1, l ++ [c], by rw [show ((k + 1 : Nat) : Int) = (k : Int) + 1 by omega], by omega, by omega, by simp; omega, fun ws w => ?_, ?_⟩
              · rw [hs, spl_dqc c34 (fun z => hd (by obtain ⟨_, d', r', e, h⟩ := z; cases e; exact h)), ← List.append_assoc, hd2]
                rfl
              · rw [List.map_append]
                exact g4.sub (.cons _ (.refl _))
          · have hn : x.cps.toList.drop (k + 1) = [] := List.drop_eq_nil_of_le (by omega)
            rw [hn] at hs
            rw [hn, List.take_nil, show inV (V.str (S [])) [V.str "\"", V.str "\\"] = false from rfl]
            walk_at "go"
            refine ixS (c := c) hx9 (at_nat hck) ?_
            walk_at "go"
            refine app_ hT (.there .here) (.inr nt) (by rw [List.length_map]; omega) fun G4 g4 => ?_
            walk_at "go"
            refine ⟨m - 1, by omega, k + 1, l ++ [c], by rw [show ((k + 1 : Nat) : Int) = (k : Int) + 1 by omega], by omega, by omega, by simp; omega, fun ws w => ?_, ?_⟩
            · rw [hs, spl_dqc c34 (fun z => by obtain ⟨_, d', r', e, h⟩ := z; cases e), ← List.append_assoc, hn]
              rfl
            · rw [List.map_append]
              exact g4.sub (.cons _ (.refl _))
        · rw [decide_eq_false c92]
          walk_at "go"
          refine ixS (c := c) hx9 (at_nat hck) ?_
          walk_at "go"
          refine app_ hH2 .here (.inr nt) (by rw [List.length_map]; omega) fun G4 g4 => ?_
          walk_at "go"
          refine ⟨m - 1, by omega, k + 1, l ++ [c], by rw [show ((k + 1 : Nat) : Int) = (k : Int) + 1 by omega], by omega, by omega, by simp; omega, fun ws w => ?_, ?_⟩
          · rw [hs, spl_dqc c34 (fun z => c92 z.1), ← List.append_assoc]
            rfl
          · rw [List.map_append]
            exact g4
    · rw [decide_eq_false (show ¬ (k : Int) < (x.length : Int) by omega)]
      walk_at "go"
      refine whk (fun z => by cases z) (fun _ => ?_)
      walk_at "go"
      rw [decide_eq_true (show V.int (k : Int) = V.int (x.length : Int) by rw [show (k : Int) = x.length by omega])]
      walk_at "go"
      refine rzE fun dd H2 g => hE (i + 1) ((i : Int) + 1) dd H2 (by omega) (fun ws w => ?_) (hH2.thn g)
      rw [hs, List.drop_eq_nil_of_le (by omega), spl]
theorem ok_part {BL f : Addr} {fd : FuncData} (F : Fun K "_part" "_part" s__part f fd) (z_BadLine : RzOk P w K mg base "BadLine" BL "column") (c__single_quoted : Cal P w K mg base (L2.CX P w) 3 "_single_quoted" ["line", "opened"] (spPart BL (· = 39))) (c__double_quoted : Cal P w K mg base (L2.CX P w) 3 "_double_quoted" ["line", "opened"] (spPart BL (· = 34)))
    (m_len : mg "len" = none) : FnOk P w K mg base (L2.CX P w) 4 f fd ["line", "at"] (spPart BL (· ≠ 32)) := by
  refine Sw.Fun.okE F sc__part (fun vs H Q E h => ?_) (fun cdv A outer s H vs Q E hr h => ?_)
  · obtain ⟨x, i, c, rfl, _⟩ := h
    rfl
  · obtain ⟨x, i, c, rfl, hx, hc, c32, hE, hQ⟩ := h
    refine ⟨_, (pss_cons (ps_set (i := 2) sc__part.nd rfl (.inl rfl) (pe_ix (k_ix (K := K) rfl) (pv 0) (pv 1) (fun _ _ => rfl)))
    (pss_cons (ps_if (pt_cmpR (k_eq (K := K) rfl (by exact hr.units)) (pv 2) pe_str (nomark _)) (pss_one (ps_ret (pe_cal c__single_quoted hr (by omega) (by rfl) (passE (CXg := CX0)) (pa_cons (pv 0) (pa_cons (pv 1) pa_nil))))) pss_nil)
    (pss_cons (ps_if (pt_cmpR (k_eq (K := K) rfl (by exact hr.units)) (pv 2) pe_str (nomark _)) (pss_one (ps_ret (pe_cal c__double_quoted hr (by omega) (by rfl) (passE (CXg := CX0)) (pa_cons (pv 0) (pa_cons (pv 1) pa_nil))))) pss_nil)
    (pss_cons (ps_if (pt_cmpR (k_ne (K := K) rfl (by exact hr.units)) (pv 2) pe_str (nomark _)) (pss_one (ps_ret (pe_tup (pa_cons (pv 2) (pa_cons (pe_op (k_add (K := K) rfl) (pv 1) pe_int) pa_nil))))) pss_nil)
    (pss_cons (ps_if (pt_cmpR (k_eq (K := K) rfl (by exact hr.units)) (pe_op (k_add (K := K) rfl) (pv 1) pe_int) (pe_callB (k_len (K := K) rfl) (by rfl) m_len (by decide +kernel) (pa_cons (pv 0) pa_nil)) (nomark _)) (pss_one (ps_rz z_BadLine rfl takesE hr (by omega) (by rfl) (pa_cons (pe_op (k_add (K := K) rfl) (pv 1) pe_int) pa_nil))) pss_nil)
    (pss_one (ps_ret (pe_tup (pa_cons (pe_ix (k_ix (K := K) rfl) (pv 0) (pe_op (k_add (K := K) rfl) (pv 1) pe_int) (fun _ _ => rfl)) (pa_cons (pe_op (k_add (K := K) rfl) (pv 1) pe_int) pa_nil)))))))))), ?_⟩
    have h0 := Has.start H []
    show (_ : L2.St → Hp → Prop) [some (.str x), some (.int i), none] H
    have hx9 : x.length ≤ sizeLine := by rw [sizeLine_eq]; omega
    have hsz : x.length = x.cps.toList.length := by rw [Array.length_toList]; rfl
    have hi : i < x.cps.toList.length := (List.getElem?_eq_some_iff.mp hc).1
    have hd := dropAt hc
    walk_at "go"
    refine ixS (c := c) hx9 (at_nat hc) ?_
    walk_at "go"
    rw [show decide (V.str ⟨#[c]⟩ = V.str "'") = decide (c = 39) from sg]
    by_cases c39 : c = 39
    · rw [decide_eq_true c39]
      walk_at "go"
      exact ⟨x, i, c, rfl, hx, hc, c39, hE, hQ⟩
    · rw [decide_eq_false c39]
      walk_at "go"
      rw [show decide (V.str ⟨#[c]⟩ = V.str "\"") = decide (c = 34) from sg]
      by_cases c34 : c = 34
      · rw [decide_eq_true c34]
        walk_at "go"
        exact ⟨x, i, c, rfl, hx, hc, c34, hE, hQ⟩
      · rw [decide_eq_false c34]
        walk_at "go"
        rw [show decide (V.str ⟨#[c]⟩ = V.str "\\") = decide (c = 92) from sg]
        by_cases c92 : c = 92
        · subst c92
          rw [decide_eq_true rfl]
          walk_at "go"
          by_cases hk : i + 1 < x.cps.toList.length
          · rw [decide_eq_false (show ¬ V.int ((i : Int) + 1) = V.int (x.length : Int) from fun z => by have := V.int.inj z; omega)]
            obtain ⟨d, hdk⟩ : ∃ d, x.cps.toList[i + 1]? = some d := ⟨_, List.getElem?_eq_getElem hk⟩
            walk_at "go"
            refine ixS (c := d) hx9 (at_n (j := i + 1) (by omega) hdk) ?_
            walk_at "go"
            rename_i p G n g
            refine hQ [d] (i + 2) ((i : Int) + 2) p G (by omega) (by omega) (by omega) (by rw [List.length_singleton]; omega) (fun ws w => ?_) n g
            rw [hd, dropAt hdk, spl_bs]
          · rw [decide_eq_true (show V.int ((i : Int) + 1) = V.int (x.length : Int) by rw [show (i : Int) + 1 = x.length by omega])]
            walk_at "go"
            refine rzE fun dd H2 g => hE (i + 1) ((i : Int) + 1) dd H2 (by omega) (fun ws w => ?_) g
            rw [hd, List.drop_eq_nil_of_le (by omega), spl_bs0]
        · rw [decide_eq_false c92]
          walk_at "go"
          rename_i p G n g
          refine hQ [c] (i + 1) ((i : Int) + 1) p G (by omega) (by omega) (by omega) (by rw [List.length_singleton]; omega) (fun ws w => ?_) n g
          rw [hd, spl_sign c32 c92 c39 c34]

theorem join_flat (ts : List (List Nat)) : Txt.join "" (ts.map S) = S ts.flatten := by
  have e : ∀ ts : List (List Nat), TL.joinL [] ts = ts.flatten := fun ts => by
    induction ts with
    | nil => rfl
    | cons c ts ih =>
      cases ts with
      | nil =>
        show c = _
        simp
      | cons d ts =>
        show c ++ TL.joinL [] (d :: ts) = _
        rw [ih]
        simp
  have z := SX.join_S [] ts
  rw [e] at z
  exact z
theorem sum_flat (ts : List (List Nat)) : ((ts.map S).map (·.length)).sum = ts.flatten.length := by
  rw [len_S, List.length_flatten]
/-- the parts of the word that has begun -/
def Parts (w : Option (List Nat)) (v : V) (L : List (Addr × HO)) : Prop := (w = none ∧ v = .non ∧ L = []) ∨ ∃ (l : List Nat) (a : Addr) (ts : List (List Nat)), w = some l ∧ v = .ref a ∧ ts.flatten = l ∧ ts.length ≤ 900 ∧ L = [(a, .lst (vWs ts))]
def PInv (H : Hp) (x : Str) (m : Nat) (σ' : L2.St) (H' : Hp) : Prop := ∃ (i : Nat) (ws : List (List Nat)) (w : Option (List Nat)) (pw : Addr) (v : V) (L : List (Addr × HO)) (s4 : Option V), σ' = [some (.str x), some (.ref pw), some v, some (.int i), s4] ∧ m + i = x.cps.toList.length ∧ ws.length ≤ i ∧ (w.getD []).length ≤ i ∧
  Parts w v L ∧ (∀ l a ts, w = some l → L = [(a, .lst (vWs ts))] → ts.length ≤ i) ∧ spl .out i ws w (x.cps.toList.drop i) = splitL x.cps.toList ∧ H pw = none ∧ (∀ a o, (a, o) ∈ L → H a = none) ∧ Has H [] H' (L ++ [(pw, .lst (vWs ws))])
theorem PInv.back {H : Hp} {x : Str} {m i i' : Nat} {ws : List (List Nat)} {w : Option (List Nat)} {pw : Addr} {v : V} {L M : List (Addr × HO)} {z : Int} {s4 : Option V} {σ' : L2.St} {H' : Hp} (e : σ' = [some (.str x), some (.ref pw), some v, some (.int z), s4]) (ez : z = (i' : Int)) (hm : m + i = x.cps.toList.length) (h1 : i < i') (h2 : i' ≤ x.cps.toList.length)
    (h3 : ws.length ≤ i') (h4 : (w.getD []).length ≤ i') (hP : Parts w v L) (hts : ∀ (l : List Nat) (a : Addr) (ts : List (List Nat)), w = some l → L = [(a, HO.lst (vWs ts))] → ts.length ≤ i') (hs : spl .out i' ws w (x.cps.toList.drop i') = splitL x.cps.toList) (npw : H pw = none) (nL : ∀ (a : Addr) (o : HO), (a, o) ∈ L → H a = none) (hH : Has H [] H' M) (hM : (L ++ [(pw, HO.lst (vWs ws))]).Sublist M) : ∃ m', m' < m ∧ PInv H x m' σ' H' := by
  subst ez
  exact ⟨x.cps.toList.length - i', by omega, i', ws, w, pw, v, L, s4, e, by omega, h3, h4, hP, hts, hs, npw, nL, hH.sub hM⟩
theorem ok_split_line {BL f : Addr} {fd : FuncData} (F : Fun K "split_line" "split_line" s_split_line f fd) (z_BadLine : RzOk P w K mg base "BadLine" BL "column") (c__part : Cal P w K mg base (L2.CX P w) 4 "_part" ["line", "at"] (spPart BL (· ≠ 32)))
    (m_len : mg "len" = none) (m_isinstance : mg "isinstance" = none) (m_str : mg "str" = none) : FnOk P w K mg base (L2.CX P w) 5 f fd ["line"] (spSplit BL) := by
  refine Sw.Fun.okE F sc_split_line (fun vs H Q E h => ?_) (fun cdv A outer s H vs Q E hr h => ?_)
  · obtain ⟨v, rfl, _⟩ := h
    rfl
  · obtain ⟨v, rfl, h⟩ := h
    refine ⟨_, (pss_cons (ps_if (pt_not (pt_val (pe_callB (k_isiU (K := K) rfl) (by rfl) m_isinstance (by decide +kernel) (pa_cons (pv 0) (pa_cons (pe_bltn (v := .ty "str") (by rfl) m_str (by decide +kernel) rfl) pa_nil))))) (pss_one (ps_rz z_BadLine rfl takesE hr (by omega) (by rfl) (pa_cons pe_int pa_nil))) pss_nil)
    (pss_cons (ps_set (i := 1) sc_split_line.nd rfl (.inl rfl) (pe_lst pa_nil))
    (pss_cons (ps_set (i := 2) sc_split_line.nd rfl (.inl rfl) pe_non)
    (pss_cons (ps_set (i := 3) sc_split_line.nd rfl (.inl rfl) pe_int)
    (pss_cons (ps_while (passes_of rfl) (pt_cmpR op_lt (pv 3) (pe_callB (k_len (K := K) rfl) (by rfl) m_len (by decide +kernel) (pa_cons (pv 0) pa_nil)) (nomark _)) (pss_one (ps_if (pt_cmpR (k_eq (K := K) rfl (by exact hr.units)) (pe_ix (k_ix (K := K) rfl) (pv 0) (pv 3) (fun _ _ => rfl)) pe_str (nomark _)) (pss_cons (ps_if (pt_cmpR k_notN (pv 2) pe_non (nomark _)) (pss_one (ps_expr (k_bm (K := K) rfl PySem.F.plainAttrs_list PySem.F.slot_list_append PySem.F.type_list_append mt_append (pv 1) (pa_cons (k_bm (K := K) rfl PySem.F.plainAttrs_str PySem.F.slot_str_join PySem.F.type_str_join (k_join (K := K) rfl) pe_str (pa_cons (pv 2) pa_nil)) pa_nil)))) pss_nil)
    (pss_cons (ps_set (i := 2) sc_split_line.nd rfl (.inl rfl) pe_non)
    (pss_one (ps_aug (i := 3) sc_split_line.nd rfl (.inl rfl) pe_int ip_add)))) (pss_cons (ps_if (pt_cmpR k_isN (pv 2) pe_non (nomark _)) (pss_one (ps_set (i := 2) sc_split_line.nd rfl (.inl rfl) (pe_lst pa_nil))) pss_nil)
    (pss_cons (ps_asg (pe_cal c__part hr (by omega) (by rfl) (passE (CXg := CX0)) (pa_cons (pv 0) (pa_cons (pv 3) pa_nil))) (k_gtup (K := K) (n := 2) rfl rfl (pgs_cons (pg_name (i := 4) sc_split_line.nd rfl (.inl rfl)) (pgs_cons (pg_name (i := 3) sc_split_line.nd rfl (.inl rfl)) pgs_nil))))
    (pss_one (ps_expr (k_bm (K := K) rfl PySem.F.plainAttrs_list PySem.F.slot_list_append PySem.F.type_list_append mt_append (pv 2) (pa_cons (pv 4) pa_nil)))))))))
    (pss_cons (ps_if (pt_cmpR k_notN (pv 2) pe_non (nomark _)) (pss_one (ps_expr (k_bm (K := K) rfl PySem.F.plainAttrs_list PySem.F.slot_list_append PySem.F.type_list_append mt_append (pv 1) (pa_cons (k_bm (K := K) rfl PySem.F.plainAttrs_str PySem.F.slot_str_join PySem.F.type_str_join (k_join (K := K) rfl) pe_str (pa_cons (pv 2) pa_nil)) pa_nil)))) pss_nil)
    (pss_one (ps_ret (pv 1))))))))), ?_⟩
    have h0 := Has.start H []
    show (_ : L2.St → Hp → Prop) [some (v), none, none, none, none] H
    walk_at "go"
    rcases h with ⟨x, rfl, hx, q⟩ | ⟨no, q⟩
    · walk_at "go"
      rename_i pw G nw hH
      have hx9 : x.length ≤ sizeLine := by rw [sizeLine_eq]; omega
      have hsz : x.length = x.cps.toList.length := by rw [Array.length_toList]; rfl
      refine while_ (PInv H x) x.cps.toList.length ⟨0, [], none, pw, _, _, _, rfl, by omega, by simp, by simp, .inl ⟨rfl, rfl, rfl⟩, fun l a ts e _ => (by cases e), rfl, nw, fun a o m => absurd m List.not_mem_nil, hH⟩ (fun m σ' H' hp => ?_)
      obtain ⟨i, ws, w, pw, v, L, s4, rfl, hm, hw1, hw2, hP, hts, hs, npw, nL, hH⟩ := hp
      walk_at "go"
      by_cases hi : i < x.cps.toList.length
      · rw [decide_eq_true (show (i : Int) < (x.length : Int) by omega)]
        refine whk (fun _ => ?_) (fun z => by cases z)
        obtain ⟨c, hc⟩ : ∃ c, x.cps.toList[i]? = some c := ⟨_, List.getElem?_eq_getElem hi⟩
        have hd := dropAt hc
        walk_at "go"
        refine ixS (c := c) hx9 (at_nat hc) ?_
        walk_at "go"
        rw [show decide (V.str ⟨#[c]⟩ = V.str " ") = decide (c = 32) from sg]
        by_cases c32 : c = 32
        · subst c32
          rw [decide_eq_true rfl]
          rw [hd, spl_blank] at hs
          walk_at "go"
          rcases hP with ⟨rfl, rfl, rfl⟩ | ⟨l, a, ts, rfl, rfl, rfl, htl, rfl⟩
          · replace hH : Has H [] H' [(pw, .lst (vWs ws))] := hH
            walk_at "go"
            exact PInv.back (i' := i + 1) (ws := ws) (w := none) (L := []) rfl (by omega) hm (by omega) (by omega) (by omega) (by simp) (.inl ⟨rfl, rfl, rfl⟩) (fun l a ts e _ => by cases e) (by simpa using hs) npw (fun a o m => absurd m List.not_mem_nil) hH (.refl _)
          · replace hH : Has H [] H' [(a, .lst (vWs ts)), (pw, .lst (vWs ws))] := hH
            have htl2 := hts _ _ _ rfl rfl
            simp only [Option.getD_some] at hw2
            have na : H a = none := nL a _ List.mem_cons_self
            walk_at "go"
            refine join_ (ys := ts.map S) (.inl (by rw [List.map_map]; exact hH.l List.mem_cons_self)) (by rw [sum_flat, List.length_map]; show ts.flatten.length + ts.length * 0 ≤ _; omega) ?_
            rw [join_flat]
            walk_at "go"
            refine app_ hH (.there .here) (.inr npw) (by rw [List.length_map]; omega) fun G4 g4 => ?_
            walk_at "go"
            refine PInv.back (i' := i + 1) (ws := ws ++ [ts.flatten]) (w := none) (L := []) rfl (by omega) hm (by omega) (by omega) (by rw [List.length_append, List.length_singleton]; omega) (by simp) (.inl ⟨rfl, rfl, rfl⟩) (fun l a ts e _ => by cases e) hs npw (fun a o m => absurd m List.not_mem_nil) g4 ?_
            rw [show vWs (ws ++ [ts.flatten]) = vWs ws ++ [V.str (S ts.flatten)] from List.map_append]
            exact .cons _ (.refl _)
        · rw [decide_eq_false c32]
          walk_at "go"
          rcases hP with ⟨rfl, rfl, rfl⟩ | ⟨l, a, ts, rfl, rfl, rfl, htl, rfl⟩
          · replace hH : Has H [] H' [(pw, .lst (vWs ws))] := hH
            walk_at "go"
            rename_i pa G1 na g1
            have npa : H pa = none := (freshD hH na).resolve_left (by simp)
            refine ⟨x, i, c, rfl, hx, hc, c32, fun e z dd H2 hz hsp g => ?_, fun t j z p G2 hz hij hjl htl hsp np g => ?_⟩
            · rw [hsp] at hs
              rw [← hs] at q
              subst hz
              exact (show ∀ dd H', Has H [] H' [(dd, .xd [("column", .int (e : Int))])] → E (.ref BL) (some dd) H' from q) dd H2 (g1.thn g)
            · have hh := g1.same1 g np
              rw [hsp] at hs
              walk_at "go"
              refine app_ hh (.there .here) (.inr npa) (by decide) fun G4 g4 => ?_
              walk_at "go"
              exact PInv.back (i' := j) (ws := ws) (w := some t) (L := [(pa, .lst (vWs [t]))]) rfl hz hm hij hjl (by omega) (by rw [Option.getD_some]; omega) (.inr ⟨t, pa, [t], rfl, rfl, by simp, by rw [List.length_singleton]; omega, rfl⟩) (fun l a ts e e2 => by
                have z : [(pa, HO.lst (vWs [t]))] = [(a, HO.lst (vWs ts))] := e2
                have z2 : vWs [t] = vWs ts := by
                  injection z with z _
                  injection z with _ z
                  injection z
                have := congrArg List.length z2
                rw [List.length_map, List.length_map] at this
                rw [← this, List.length_singleton]
                omega) hs npw (fun a o m => by
                cases List.mem_singleton.mp m
                exact npa) g4 (.cons _ (.refl _))
          · replace hH : Has H [] H' [(a, .lst (vWs ts)), (pw, .lst (vWs ws))] := hH
            have htl2 := hts _ _ _ rfl rfl
            simp only [Option.getD_some] at hw2
            have na : H a = none := nL a _ List.mem_cons_self
            walk_at "go"
            refine ⟨x, i, c, rfl, hx, hc, c32, fun e z dd H2 hz hsp g => ?_, fun t j z p G2 hz hij hjl htl3 hsp np g => ?_⟩
            · rw [hsp] at hs
              rw [← hs] at q
              subst hz
              exact (show ∀ dd H', Has H [] H' [(dd, .xd [("column", .int (e : Int))])] → E (.ref BL) (some dd) H' from q) dd H2 (hH.thn g)
            · have hh := hH.same1 g np
              rw [hsp] at hs
              walk_at "go"
              refine app_ hh (.there .here) (.inr na) (by rw [List.length_map]; omega) fun G4 g4 => ?_
              walk_at "go"
              refine PInv.back (i' := j) (ws := ws) (w := some (ts.flatten ++ t)) (L := [(a, .lst (vWs (ts ++ [t])))]) rfl hz hm hij hjl (by omega) (by rw [Option.getD_some, List.length_append]; omega) (.inr ⟨_, a, ts ++ [t], rfl, rfl, by simp, by rw [List.length_append, List.length_singleton]; omega, rfl⟩) (fun l b us e e2 => by
                have z : [(a, HO.lst (vWs (ts ++ [t])))] = [(b, HO.lst (vWs us))] := e2
                have z2 : vWs (ts ++ [t]) = vWs us := by
                  injection z with z _
                  injection z with _ z
                  injection z
                have := congrArg List.length z2
                rw [List.length_map, List.length_map, List.length_append, List.length_singleton] at this
                omega) hs npw (fun b o m => by
                cases List.mem_singleton.mp m
                exact na) g4 ?_
              rw [show vWs (ts ++ [t]) = vWs ts ++ [V.str (S t)] from List.map_append]
              exact .cons _ (.refl _)
      · rw [decide_eq_false (show ¬ (i : Int) < (x.length : Int) by omega)]
        refine whk (fun z => by cases z) (fun _ => ?_)
        rw [List.drop_eq_nil_of_le (by omega), spl] at hs
        rw [← hs] at q
        have q' : ∀ p H', H p = none → Has H [] H' [(p, .lst (vWs (ws ++ w.toList)))] → Q (.ref p) H' := q
        rcases hP with ⟨rfl, rfl, rfl⟩ | ⟨l, a, ts, rfl, rfl, rfl, htl, rfl⟩
        · replace hH : Has H [] H' [(pw, .lst (vWs ws))] := hH
          walk_at "go"
          refine q' _ _ npw ?_
          rw [show vWs (ws ++ none.toList) = vWs ws ++ [] from List.map_append, List.append_nil]
          exact hH
        · replace hH : Has H [] H' [(a, .lst (vWs ts)), (pw, .lst (vWs ws))] := hH
          have htl2 := hts _ _ _ rfl rfl
          simp only [Option.getD_some] at hw2
          walk_at "go"
          refine join_ (ys := ts.map S) (.inl (by rw [List.map_map]; exact hH.l List.mem_cons_self)) (by rw [sum_flat, List.length_map]; show ts.flatten.length + ts.length * 0 ≤ _; omega) ?_
          rw [join_flat]
          walk_at "go"
          refine app_ hH (.there .here) (.inr npw) (by rw [List.length_map]; omega) fun G4 g4 => ?_
          walk_at "go"
          refine q' _ _ npw ?_
          rw [show vWs (ws ++ (some ts.flatten).toList) = vWs ws ++ [V.str (S ts.flatten)] from List.map_append]
          exact g4.sub (.cons _ (.refl _))
    · refine isi_no no ?_
      walk_at "go"
      exact rzE fun dd H2 g => q dd H2 g

end
section
theorem all_mk {l : PySem.W.OpenLaw} {w : World} {K : PySem.W.Frag} {h : Heap} {mg : Str → Option Value} {fa f1 f2 f3 f4 f5 f6 f7 f8 f9 f10 f11 f12 f13 f14 : Addr} {SE BL BW c P' fL fW : Addr} {odL anL odW anW : Option Addr} {slL slW : Array (Option Value)} {ocL kVL dcL pmL cdL ctL ocW kVW dcW pmW cdW ctW : Value} {tkB : Tok} {nmL qL nmW qW : Str} {NL NW : Addr} {bsL bmL sbL bsW bmW sbW : List Value} {snL snW : List Str} {abL abW : Bool} {clL clW : Option Bool} {ddL ddW : Option Addr} {k0L k1L k2L k3L k5L k0W k1W k2W k3W k5W : Option Value} (X : K.In h) (G : h.Ns mainGlobals mg) (hfa : mg "law" = some (.ref fa))
    {od1 an1 od2 an2 od3 an3 od4 an4 od5 an5 od6 an6 od7 an7 od8 an8 od9 an9 od10 an10 od11 an11 od12 an12 od13 an13 od14 an14 : Option Addr} {sl1 sl2 sl3 sl4 sl5 sl6 sl7 sl8 sl9 sl10 sl11 sl12 sl13 sl14 : Array (Option Value)} {oc1 kV1 dc1 pm1 cd1 ct1 oc2 kV2 dc2 pm2 cd2 ct2 oc3 kV3 dc3 pm3 cd3 ct3 oc4 kV4 dc4 pm4 cd4 ct4 oc5 kV5 dc5 pm5 cd5 ct5 oc6 kV6 dc6 pm6 ct6 oc7 kV7 dc7 pm7 cd7 ct7 oc8 kV8 dc8 pm8 cd8 ct8 oc9 kV9 dc9 pm9 cd9 ct9 oc10 kV10 dc10 pm10 cd10 ct10 oc11 kV11 dc11 pm11 cd11 ct11 oc12 kV12 dc12 pm12 cd12 ct12 oc13 kV13 dc13 pm13 cd13 ct13 oc14 kV14 dc14 pm14 cd14 ct14 : Value}
    (a1 : PySem.W.nsIn K mainGlobals "_law_number" = some (some (.ref f1))) (l1 : K.lookup f1 = some ⟨oc1, od1, .func (PySem.W.fnOf "_law_number" "_law_number" (defArgs s__law_number) (defBody s__law_number) (defScope s__law_number) .none kV1 dc1 pm1 an1 cd1 ct1), sl1⟩) (c1 : PySem.W.codeIn K cd1 "_law_number" = true) (k1 : PySem.W.keepIn K (.ref f1) = true)
    (a2 : PySem.W.nsIn K mainGlobals "_law_take" = some (some (.ref f2))) (l2 : K.lookup f2 = some ⟨oc2, od2, .func (PySem.W.fnOf "_law_take" "_law_take" (defArgs s__law_take) (defBody s__law_take) (defScope s__law_take) .none kV2 dc2 pm2 an2 cd2 ct2), sl2⟩) (c2 : PySem.W.codeIn K cd2 "_law_take" = true) (k2 : PySem.W.keepIn K (.ref f2) = true)
    (a3 : PySem.W.nsIn K mainGlobals "_law_pick" = some (some (.ref f3))) (l3 : K.lookup f3 = some ⟨oc3, od3, .func (PySem.W.fnOf "_law_pick" "_law_pick" (defArgs s__law_pick) (defBody s__law_pick) (defScope s__law_pick) .none kV3 dc3 pm3 an3 cd3 ct3), sl3⟩) (c3 : PySem.W.codeIn K cd3 "_law_pick" = true) (k3 : PySem.W.keepIn K (.ref f3) = true)
    (a4 : PySem.W.nsIn K mainGlobals "_law_split" = some (some (.ref f4))) (l4 : K.lookup f4 = some ⟨oc4, od4, .func (PySem.W.fnOf "_law_split" "_law_split" (defArgs s__law_split) (defBody s__law_split) (defScope s__law_split) .none kV4 dc4 pm4 an4 cd4 ct4), sl4⟩) (c4 : PySem.W.codeIn K cd4 "_law_split" = true) (k4 : PySem.W.keepIn K (.ref f4) = true)
    (a5 : PySem.W.nsIn K mainGlobals "_law_refused" = some (some (.ref f5))) (l5 : K.lookup f5 = some ⟨oc5, od5, .func (PySem.W.fnOf "_law_refused" "_law_refused" (defArgs s__law_refused) (defBody s__law_refused) (defScope s__law_refused) .none kV5 dc5 pm5 an5 cd5 ct5), sl5⟩) (c5 : PySem.W.codeIn K cd5 "_law_refused" = true) (k5 : PySem.W.keepIn K (.ref f5) = true)
    (a6 : PySem.W.nsIn K mainGlobals "law" = some (some (.ref f6))) (l6 : K.lookup f6 = some ⟨oc6, od6, .func (PySem.W.fnOf "law" "law" (defArgs s_law) (defBody s_law) (defScope s_law) .none kV6 dc6 pm6 an6 (.ref c) ct6), sl6⟩) (c6 : PySem.W.codeIn K (.ref c) "law" = true) (k6 : PySem.W.keepIn K (.ref f6) = true)
    (a7 : PySem.W.nsIn K mainGlobals "is_row" = some (some (.ref f7))) (l7 : K.lookup f7 = some ⟨oc7, od7, .func (PySem.W.fnOf "is_row" "is_row" (defArgs s_is_row) (defBody s_is_row) (defScope s_is_row) .none kV7 dc7 pm7 an7 cd7 ct7), sl7⟩) (c7 : PySem.W.codeIn K cd7 "is_row" = true) (k7 : PySem.W.keepIn K (.ref f7) = true)
    (a8 : PySem.W.nsIn K mainGlobals "checked_words" = some (some (.ref f8))) (l8 : K.lookup f8 = some ⟨oc8, od8, .func (PySem.W.fnOf "checked_words" "checked_words" (defArgs s_checked_words) (defBody s_checked_words) (defScope s_checked_words) .none kV8 dc8 pm8 an8 cd8 ct8), sl8⟩) (c8 : PySem.W.codeIn K cd8 "checked_words" = true) (k8 : PySem.W.keepIn K (.ref f8) = true)
    (a9 : PySem.W.nsIn K mainGlobals "split_line" = some (some (.ref f9))) (l9 : K.lookup f9 = some ⟨oc9, od9, .func (PySem.W.fnOf "split_line" "split_line" (defArgs s_split_line) (defBody s_split_line) (defScope s_split_line) .none kV9 dc9 pm9 an9 cd9 ct9), sl9⟩) (c9 : PySem.W.codeIn K cd9 "split_line" = true) (k9 : PySem.W.keepIn K (.ref f9) = true)
    (a10 : PySem.W.nsIn K mainGlobals "write_line" = some (some (.ref f10))) (l10 : K.lookup f10 = some ⟨oc10, od10, .func (PySem.W.fnOf "write_line" "write_line" (defArgs s_write_line) (defBody s_write_line) (defScope s_write_line) .none kV10 dc10 pm10 an10 cd10 ct10), sl10⟩) (c10 : PySem.W.codeIn K cd10 "write_line" = true) (k10 : PySem.W.keepIn K (.ref f10) = true)
    (a11 : PySem.W.nsIn K mainGlobals "_part" = some (some (.ref f11))) (l11 : K.lookup f11 = some ⟨oc11, od11, .func (PySem.W.fnOf "_part" "_part" (defArgs s__part) (defBody s__part) (defScope s__part) .none kV11 dc11 pm11 an11 cd11 ct11), sl11⟩) (c11 : PySem.W.codeIn K cd11 "_part" = true) (k11 : PySem.W.keepIn K (.ref f11) = true)
    (a12 : PySem.W.nsIn K mainGlobals "_single_quoted" = some (some (.ref f12))) (l12 : K.lookup f12 = some ⟨oc12, od12, .func (PySem.W.fnOf "_single_quoted" "_single_quoted" (defArgs s__single_quoted) (defBody s__single_quoted) (defScope s__single_quoted) .none kV12 dc12 pm12 an12 cd12 ct12), sl12⟩) (c12 : PySem.W.codeIn K cd12 "_single_quoted" = true) (k12 : PySem.W.keepIn K (.ref f12) = true)
    (a13 : PySem.W.nsIn K mainGlobals "_double_quoted" = some (some (.ref f13))) (l13 : K.lookup f13 = some ⟨oc13, od13, .func (PySem.W.fnOf "_double_quoted" "_double_quoted" (defArgs s__double_quoted) (defBody s__double_quoted) (defScope s__double_quoted) .none kV13 dc13 pm13 an13 cd13 ct13), sl13⟩) (c13 : PySem.W.codeIn K cd13 "_double_quoted" = true) (k13 : PySem.W.keepIn K (.ref f13) = true)
    (a14 : PySem.W.nsIn K mainGlobals "_written" = some (some (.ref f14))) (l14 : K.lookup f14 = some ⟨oc14, od14, .func (PySem.W.fnOf "_written" "_written" (defArgs s__written) (defBody s__written) (defScope s__written) .none kV14 dc14 pm14 an14 cd14 ct14), sl14⟩) (c14 : PySem.W.codeIn K cd14 "_written" = true) (k14 : PySem.W.keepIn K (.ref f14) = true)
    (z1 : PySem.W.nsIn K mainGlobals "isinstance" = some none)
    (z2 : PySem.W.nsIn K mainGlobals "range" = some none)
    (z3 : PySem.W.nsIn K mainGlobals "len" = some none)
    (z4 : PySem.W.nsIn K mainGlobals "int" = some none)
    (z5 : PySem.W.nsIn K mainGlobals "all" = some none)
    (z6 : PySem.W.nsIn K mainGlobals "tuple" = some none)
    (z7 : PySem.W.nsIn K mainGlobals "str" = some none)
    (z8 : PySem.W.nsIn K mainGlobals "list" = some none)
    (z9 : PySem.W.nsIn K mainGlobals "enumerate" = some none)
    (y1 : PySem.W.nsIn K mainGlobals "SwitchError" = some (some (.ref SE)))
    (y2 : PySem.W.nsIn K mainGlobals "BadLine" = some (some (.ref BL)))
    (y3 : PySem.W.nsIn K mainGlobals "BadWords" = some (some (.ref BW)))
    (x11 : PySem.W.exmOne K (.ref BL) (.ref BL) = some true)
    (x21 : PySem.W.exmOne K (.ref BW) (.ref BL) = some false)
    (x22 : PySem.W.exmOne K (.ref BW) (.ref BW) = some true)
    (i1 : PySem.W.findIn K (.ref BL) "column" = some none)
    (i2 : PySem.W.findIn K (.ref BW) "number" = some none)
    (isx : PySem.W.kitOne K (.ref BL) (.ref SE) = some true)
    (tl : xfB K BL = true)
    (tw : xfB K BW = true)
    (e1 : PySem.W.findIn K (.ref BL) "__getattribute__" = some (some (.builtin "BaseException.__getattribute__")))
    (e2 : PySem.W.findIn K (.ref BL) "__getattr__" = some none)
    (e3 : PySem.W.subIn K (.ref BL) (.type "BaseException") = some true)
    (e4 : PySem.W.hasDictIn K BL = true)
    (e5 : PySem.W.findIn K (.ref BL) "__class__" = some (some (.builtin "object.__class__")))
    (e6 : PySem.W.specialIn K (.builtin "object.__class__") "__get__" = some (some (.builtin "getset_descriptor.__get__")))
    (e7 : PySem.W.takesIn K (.builtin "object.__class__") = some true)
    (e8 : PySem.W.mroIn K BL (.type "object") = some true)
    (ch : PySem.W.codeHdIn K c P' = true)
    (lp : K.lookup P' = none)
    (oL : K.lookup BL = some (excClassObj nmL qL BL NL bsL bmL true snL sbL abL clL ddL k0L k1L k2L k3L k5L "ValueError.__new__"))
    (rL : PySem.HandSPX.refsVE bmL = true)
    (sL : PySem.W.findIn K (.ref BL) "__setattr__" = some (some (.builtin "object.__setattr__")))
    (vL : PySem.W.subIn K (.ref BL) (.type "BaseException") = some true)
    (tyL : PySem.W.typeIn K (.ref BL) = some (.type "type"))
    (kkL : PySem.W.keepIn K (.ref BL) = true)
    (nL : PySem.W.findIn K (.ref BL) "__init__" = some (some (.ref fL)))
    (uL : PySem.W.typeIn K (.ref fL) = some (.type "function"))
    (lL : K.lookup fL = some ⟨ocL, odL, .func (PySem.W.fnOf "__init__" "BadLine.__init__" (defArgs s_BadLine___init__) (defBody s_BadLine___init__) (defScope s_BadLine___init__) .none kVL dcL pmL anL cdL ctL), slL⟩)
    (cL : PySem.W.codeIn K cdL "BadLine.__init__" = true)
    (pL : PySem.W.keepIn K (.ref fL) = true)
    (oW : K.lookup BW = some (excClassObj nmW qW BW NW bsW bmW true snW sbW abW clW ddW k0W k1W k2W k3W k5W "ValueError.__new__"))
    (rW : PySem.HandSPX.refsVE bmW = true)
    (sW : PySem.W.findIn K (.ref BW) "__setattr__" = some (some (.builtin "object.__setattr__")))
    (vW : PySem.W.subIn K (.ref BW) (.type "BaseException") = some true)
    (tyW : PySem.W.typeIn K (.ref BW) = some (.type "type"))
    (kkW : PySem.W.keepIn K (.ref BW) = true)
    (nW : PySem.W.findIn K (.ref BW) "__init__" = some (some (.ref fW)))
    (uW : PySem.W.typeIn K (.ref fW) = some (.type "function"))
    (lW : K.lookup fW = some ⟨ocW, odW, .func (PySem.W.fnOf "__init__" "BadWords.__init__" (defArgs s_BadWords___init__) (defBody s_BadWords___init__) (defScope s_BadWords___init__) .none kVW dcW pmW anW cdW ctW), slW⟩)
    (cW : PySem.W.codeIn K cdW "BadWords.__init__" = true)
    (pW : PySem.W.keepIn K (.ref fW) = true)
    (yb : PySem.W.nsIn K mainGlobals "BARE" = some (some (.str bareS tkB)))
    (htab : h.get? P' = some { cls := .none, data := .fields #[] })
    : LamX.LawAtS l w K CX0 9 63 "script" mg fa h := by
  have e := hfa.symm.trans (PySem.W.mg_of X G a6)
  cases e
  have F_law_number := fun_mk (st := s__law_number) l1 c1 k1
  have b_law_number := F_law_number.binds (ps := ["script", "index"]) fun _ _ _ _ _ _ us hl => match us, hl with | [_, _], _ => rfl
  have g_law_number := PySem.W.mg_of X G a1
  have F_law_take := fun_mk (st := s__law_take) l2 c2 k2
  have b_law_take := F_law_take.binds (ps := ["draw", "many"]) fun _ _ _ _ _ _ us hl => match us, hl with | [_, _], _ => rfl
  have g_law_take := PySem.W.mg_of X G a2
  have F_law_pick := fun_mk (st := s__law_pick) l3 c3 k3
  have b_law_pick := F_law_pick.binds (ps := ["draw", "items"]) fun _ _ _ _ _ _ us hl => match us, hl with | [_, _], _ => rfl
  have g_law_pick := PySem.W.mg_of X G a3
  have F_law_split := fun_mk (st := s__law_split) l4 c4 k4
  have b_law_split := F_law_split.binds (ps := ["line"]) fun _ _ _ _ _ _ us hl => match us, hl with | [_], _ => rfl
  have g_law_split := PySem.W.mg_of X G a4
  have F_law_refused := fun_mk (st := s__law_refused) l5 c5 k5
  have b_law_refused := F_law_refused.binds (ps := ["deed"]) fun _ _ _ _ _ _ us hl => match us, hl with | [_], _ => rfl
  have g_law_refused := PySem.W.mg_of X G a5
  have Flaw := fun_mk (st := s_law) l6 c6 k6
  have blaw := Flaw.binds (ps := ["script"]) fun _ _ _ _ _ _ us hl => match us, hl with | [_], _ => rfl
  have glaw := PySem.W.mg_of X G a6
  have Fis_row := fun_mk (st := s_is_row) l7 c7 k7
  have bis_row := Fis_row.binds (ps := ["value"]) fun _ _ _ _ _ _ us hl => match us, hl with | [_], _ => rfl
  have gis_row := PySem.W.mg_of X G a7
  have Fchecked_words := fun_mk (st := s_checked_words) l8 c8 k8
  have bchecked_words := Fchecked_words.binds (ps := ["words"]) fun _ _ _ _ _ _ us hl => match us, hl with | [_], _ => rfl
  have gchecked_words := PySem.W.mg_of X G a8
  have Fsplit_line := fun_mk (st := s_split_line) l9 c9 k9
  have bsplit_line := Fsplit_line.binds (ps := ["line"]) fun _ _ _ _ _ _ us hl => match us, hl with | [_], _ => rfl
  have gsplit_line := PySem.W.mg_of X G a9
  have Fwrite_line := fun_mk (st := s_write_line) l10 c10 k10
  have bwrite_line := Fwrite_line.binds (ps := ["words"]) fun _ _ _ _ _ _ us hl => match us, hl with | [_], _ => rfl
  have gwrite_line := PySem.W.mg_of X G a10
  have F_part := fun_mk (st := s__part) l11 c11 k11
  have b_part := F_part.binds (ps := ["line", "at"]) fun _ _ _ _ _ _ us hl => match us, hl with | [_, _], _ => rfl
  have g_part := PySem.W.mg_of X G a11
  have F_single_quoted := fun_mk (st := s__single_quoted) l12 c12 k12
  have b_single_quoted := F_single_quoted.binds (ps := ["line", "opened"]) fun _ _ _ _ _ _ us hl => match us, hl with | [_, _], _ => rfl
  have g_single_quoted := PySem.W.mg_of X G a12
  have F_double_quoted := fun_mk (st := s__double_quoted) l13 c13 k13
  have b_double_quoted := F_double_quoted.binds (ps := ["line", "opened"]) fun _ _ _ _ _ _ us hl => match us, hl with | [_, _], _ => rfl
  have g_double_quoted := PySem.W.mg_of X G a13
  have F_written := fun_mk (st := s__written) l14 c14 k14
  have b_written := F_written.binds (ps := ["word"]) fun _ _ _ _ _ _ us hl => match us, hl with | [_], _ => rfl
  have g_written := PySem.W.mg_of X G a14
  have m_isinstance := PySem.W.mg_none_of X G z1
  have m_range := PySem.W.mg_none_of X G z2
  have m_len := PySem.W.mg_none_of X G z3
  have m_int := PySem.W.mg_none_of X G z4
  have m_all := PySem.W.mg_none_of X G z5
  have m_tuple := PySem.W.mg_none_of X G z6
  have m_str := PySem.W.mg_none_of X G z7
  have m_list := PySem.W.mg_none_of X G z8
  have m_enumerate := PySem.W.mg_none_of X G z9
  have gSE := PySem.W.mg_of X G y1
  have gBL := PySem.W.mg_of X G y2
  have gBW := PySem.W.mg_of X G y3
  have eC : ExcC K BL := ⟨e1, e2, e3, e4, e5, e6, e7, e8⟩
  have tL := xfB_ok tl
  have tW := xfB_ok tw
  have hcode := PySem.W.codeHd_of_K X ch
  refine ⟨PySem.W.fnOf "law" "law" (defArgs s_law) (defBody s_law) (defScope s_law) .none kV6 dc6 pm6 an6 (.ref c) ct6, [(c, P')], spLaw K P', fun p hp => ?_, fun p hp => ?_, fun p hp => ?_, fun s v => .of_eq rfl, fun H a ns hl _ hT hS => ?_, fun base _ _ hTB => ?_⟩
  · rw [List.mem_singleton.mp hp]; exact htab
  · rw [List.mem_singleton.mp hp]; exact lp
  · rw [List.mem_singleton.mp hp]; exact hcode
  · exact ⟨a, ns, rfl, hS, hl, hT (c, P') List.mem_cons_self, fun _ => rfl⟩
  have TB := hTB (c, P') List.mem_cons_self
  have c_num : Cal l.prog w K mg base CX0 1 "_law_number" ["script", "index"] (spNumber K) := ⟨⟨_, _, ok_number F_law_number m_len m_int m_range, g_law_number, F_law_number.kp, b_law_number⟩⟩
  have c_take : Cal l.prog w K mg base CX0 2 "_law_take" ["draw", "many"] (spTake K) := ⟨⟨_, _, ok_take F_law_take c_num m_int, g_law_take, F_law_take.kp, b_law_take⟩⟩
  have c_pick : Cal l.prog w K mg base CX0 3 "_law_pick" ["draw", "items"] (spPick K) := ⟨⟨_, _, ok_pick F_law_pick c_take m_len, g_law_pick, F_law_pick.kp, b_law_pick⟩⟩
  have c_split : Cal l.prog w K mg base CX0 1 "_law_split" ["line"] (spLSplit K) := ⟨⟨_, _, ok_law_split F_law_split m_len, g_law_split, F_law_split.kp, b_law_split⟩⟩
  have R : RefOk K mg BL BW := ⟨fun {X g cdg q} hK hm => by
      subst hm
      exact refused_gives hK m_isinstance gSE gBL gBW x11 x21 x22 eC tL tW i1 i2 isx, ⟨_, _, _, _, _, _, _, _, _, _, g_law_refused, k5, l5, c5⟩⟩
  have T_L : OexC K BL := ⟨⟨nmL, qL, NL, bsL, bmL, snL, sbL, abL, clL, ddL, k0L, k1L, k2L, k3L, k5L, oL, rL⟩, sL, vL, tyL, kkL⟩
  have T_W : OexC K BW := ⟨⟨nmW, qW, NW, bsW, bmW, snW, sbW, abW, clW, ddW, k0W, k1W, k2W, k3W, k5W, oW, rW⟩, sW, vW, tyW, kkW⟩
  have F_L := fun_mk (st := s_BadLine___init__) lL cL pL
  have F_W := fun_mk (st := s_BadWords___init__) lW cW pW
  have b_L := F_L.binds (ps := ["self", "column"]) fun _ _ _ _ _ _ us hl => match us, hl with | [_, _], _ => rfl
  have b_W := F_W.binds (ps := ["self", "number"]) fun _ _ _ _ _ _ us hl => match us, hl with | [_, _], _ => rfl
  have z_BadLine : RzOk l.prog w K mg base "BadLine" BL "column" := ⟨T_L, gBL, fL, _, nL, uL, ok_err_line F_L T_L i1, b_L⟩
  have z_BadWords : RzOk l.prog w K mg base "BadWords" BW "number" := ⟨T_W, gBW, fW, _, nW, uW, ok_err_words F_W T_W i2, b_W⟩
  have gBARE := PySem.W.mg_of X G yb
  have c_row : Cal l.prog w K mg base CX0 1 "is_row" ["value"] (spRow K) := ⟨⟨_, _, ok_is_row Fis_row m_isinstance m_list m_tuple, gis_row, Fis_row.kp, bis_row⟩⟩
  have c_checked : Cal l.prog w K mg base (L2.CX l.prog w) 3 "checked_words" ["words"] (spChecked BW K) := ⟨⟨_, _, ok_checked (k := 0) Fchecked_words c_row z_BadWords m_isinstance m_str m_tuple m_enumerate, gchecked_words, Fchecked_words.kp, bchecked_words⟩⟩
  have c_written : Cal l.prog w K mg base CX0 1 "_written" ["word"] (spWritten K) := ⟨⟨_, _, ok_written F_written m_all gBARE, g_written, F_written.kp, b_written⟩⟩
  have c_write : Cal l.prog w K mg base (L2.CX l.prog w) 4 "write_line" ["words"] (spWrite BW K) := ⟨⟨_, _, ok_write Fwrite_line c_checked c_written, gwrite_line, Fwrite_line.kp, bwrite_line⟩⟩
  have c_single : Cal l.prog w K mg base (L2.CX l.prog w) 3 "_single_quoted" ["line", "opened"] (spPart BL (· = 39)) := ⟨⟨_, _, ok_single F_single_quoted z_BadLine, g_single_quoted, F_single_quoted.kp, b_single_quoted⟩⟩
  have c_double : Cal l.prog w K mg base (L2.CX l.prog w) 3 "_double_quoted" ["line", "opened"] (spPart BL (· = 34)) := ⟨⟨_, _, ok_double F_double_quoted z_BadLine m_len, g_double_quoted, F_double_quoted.kp, b_double_quoted⟩⟩
  have c_part : Cal l.prog w K mg base (L2.CX l.prog w) 4 "_part" ["line", "at"] (spPart BL (· ≠ 32)) := ⟨⟨_, _, ok_part F_part z_BadLine c_single c_double m_len, g_part, F_part.kp, b_part⟩⟩
  have c_splitl : Cal l.prog w K mg base (L2.CX l.prog w) 5 "split_line" ["line"] (spSplit BL) := ⟨⟨_, _, ok_split_line Fsplit_line z_BadLine c_part m_len m_isinstance m_str, gsplit_line, Fsplit_line.kp, bsplit_line⟩⟩
  exact ok_law l6 c6 c_take c_pick c_split c_splitl c_write R TB m_range m_isinstance m_int m_all m_tuple
end
end K18
open PySem PySem.W PyProof.Rows
set_option maxHeartbeats 0 in
theorem PySem.Challenge.cw_switchyard_k18_whole_lines_holds : PySem.Challenge.rw_switchyard_k18_whole_lines.Holds := by
  w_on; o_law; k_head; (case hw => w_witness2)
  k_fill
  refine LamX.walk_ofTs (l := PySem.Challenge.rw_switchyard_k18_whole_lines) (n := 63) (k := 9) (x := "script") (CX := fun _ => L2.CX0) rfl (by decide) rfl ⟨rfl, by decide, by decide⟩ (fun w h Y => PySem.W.km_in_of Y) ?F (fun _ _ _ _ _ h => h)
  case F =>
    intro w mg fa h Y KX G hmg
    refine' K18.all_mk KX G hmg ?a1 ?l1 ?c1 ?k1 ?a2 ?l2 ?c2 ?k2 ?a3 ?l3 ?c3 ?k3 ?a4 ?l4 ?c4 ?k4 ?a5 ?l5 ?c5 ?k5 ?a6 ?l6 ?c6 ?k6 ?a7 ?l7 ?c7 ?k7 ?a8 ?l8 ?c8 ?k8 ?a9 ?l9 ?c9 ?k9 ?a10 ?l10 ?c10 ?k10 ?a11 ?l11 ?c11 ?k11 ?a12 ?l12 ?c12 ?k12 ?a13 ?l13 ?c13 ?k13 ?a14 ?l14 ?c14 ?k14 ?z1 ?z2 ?z3 ?z4 ?z5 ?z6 ?z7 ?z8 ?z9 ?y1 ?y2 ?y3 ?x11 ?x21 ?x22 ?i1 ?i2 ?isx ?tl ?tw ?e1 ?e2 ?e3 ?e4 ?e5 ?e6 ?e7 ?e8 ?ch ?lp ?oL ?rL ?sL ?vL ?tyL ?kkL ?nL ?uL ?lL ?cL ?pL ?oW ?rW ?sW ?vW ?tyW ?kkW ?nW ?uW ?lW ?cW ?pW ?yb ?htab
    case htab => exact PySem.W.km_tabs_of Y _ List.mem_cons_self
    (case a1 => k_is); (case l1 => k_is); (case c1 => k_is); (case k1 => k_is); (case a2 => k_is); (case l2 => k_is); (case c2 => k_is); (case k2 => k_is); (case a3 => k_is); (case l3 => k_is); (case c3 => k_is); (case k3 => k_is); (case a4 => k_is); (case l4 => k_is); (case c4 => k_is); (case k4 => k_is); (case a5 => k_is); (case l5 => k_is); (case c5 => k_is); (case k5 => k_is); (case a6 => k_is); (case l6 => k_is); (case c6 => k_is); (case k6 => k_is); (case a7 => k_is); (case l7 => k_is); (case c7 => k_is); (case k7 => k_is); (case a8 => k_is); (case l8 => k_is); (case c8 => k_is); (case k8 => k_is); (case a9 => k_is); (case l9 => k_is); (case c9 => k_is); (case k9 => k_is); (case a10 => k_is); (case l10 => k_is); (case c10 => k_is); (case k10 => k_is); (case a11 => k_is); (case l11 => k_is); (case c11 => k_is); (case k11 => k_is); (case a12 => k_is); (case l12 => k_is); (case c12 => k_is); (case k12 => k_is); (case a13 => k_is); (case l13 => k_is); (case c13 => k_is); (case k13 => k_is); (case a14 => k_is); (case l14 => k_is); (case c14 => k_is); (case k14 => k_is); (case z1 => k_is); (case z2 => k_is); (case z3 => k_is); (case z4 => k_is); (case z5 => k_is); (case z6 => k_is); (case z7 => k_is); (case z8 => k_is); (case z9 => k_is); (case y1 => k_is); (case y2 => k_is); (case y3 => k_is); (case x11 => kernel_rfl); (case x21 => kernel_rfl); (case x22 => kernel_rfl); (case i1 => k_is); (case i2 => k_is); (case isx => kernel_rfl); (case tl => kernel_rfl); (case tw => kernel_rfl); (case e1 => k_is); (case e2 => k_is); (case e3 => k_is); (case e4 => k_is); (case e5 => k_is); (case e6 => k_is); (case e7 => k_is); (case e8 => k_is); (case ch => kernel_rfl); (case lp => kernel_rfl); (case oL => k_is); (case rL => kernel_rfl); (case sL => k_is); (case vL => k_is); (case tyL => k_is); (case kkL => k_is); (case nL => k_is); (case uL => k_is); (case lL => k_is); (case cL => k_is); (case pL => k_is); (case oW => k_is); (case rW => kernel_rfl); (case sW => k_is); (case vW => k_is); (case tyW => k_is); (case kkW => k_is); (case nW => k_is); (case uW => k_is); (case lW => k_is); (case cW => k_is); (case pW => k_is); (case yb => k_is)

