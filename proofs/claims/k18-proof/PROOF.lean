import PyProof.Rows.All
import Wide.All
import OpenK.AllK
import Wide.FinOn
import PySem.Challenge.RW_leastlinks_k18_errors_made
import PyProof.EqAt
import PyProof.EqKinds
import PyProof.TupleCall
import KE.KFromBytes
import HandS.ForMost
import HandS.ForExc
import HandS.ExcInit
import KE.KExcInit
import HandS.LawCells
import HandS.IsInst
import HandS.MakeKw
import KE.KExcIs
import HandS.Dict
import HandS.HeadHook1
import HandS.HeadHook2
import HandS.Head0
import HandS.Head1
import HandS.Head2
set_option Elab.async false
set_option linter.all false
set_option maxRecDepth 100000
set_option maxHeartbeats 0
namespace PySem
namespace OEG
open PySem.W PySem.Calls PyProof.Rows PySem.HandSPX
section
variable {M : Model} {A : Around} {E : Value → Shared → Prop} {h : Heap} {g : Array GenState} {d : Drawn} {t : Nat} {os : OsState}
variable {nm q : Str} {C N : Addr} {bs bm bmB : List Value} {hdct : Bool} {sn : List Str} {sub : List Value} {ab : Bool} {col : Option Bool} {dd : Option Addr} {k0 k1 k2 k3 k5 : Option Value} {B newId initId : String}
theorem check_new_kw (F : ExcBaseFacts B newId initId bmB) (hT : ∀ X : String, bm.contains (.type X) = bmB.contains (.type X)) {rest : List Value} {kw : List (Str × Value)} {Q : Unit → Shared → Prop}
    (hC : h.get? C = some (excClassObj nm q C N bs bm hdct sn sub ab col dd k0 k1 k2 k3 k5 newId)) (hq : Q () ⟨h, g, d, t, os⟩) : wpAny M A (checkBuiltinCall newId ⟨.ref C :: rest, kw⟩) Q E ⟨h, g, d, t, os⟩ := by
  have hcont : (Value.ref C :: bm).contains (.type B) = true := by rw [List.contains_cons, hT, F.hasB, Bool.or_true]
  have hstar := F.noStar
  simp only [checkBuiltinCall, F.newKind, F.newSplit, F.newRow]
  repeat (first | refine wpAny_loadPart_at hC ?_ | (refine wpAny_isSubtype_exc hC ?_; rw [hcont]) | refine wpAny_staticBase_exc hC ?_ | refine wpAny_madeBy_exc hC ?_ | simp only [bne_self_eq_false, Bool.false_eq_true, if_false] | wp_step)
  exact hq
end
section
variable {prog : Program} {w : World} {A : Around} {E : Value → Shared → Prop} {R : Result → Shared → Prop} {h : Heap} {g : Array GenState} {d : Drawn} {t : Nat} {os : OsState}
variable {nm q : Str} {C N : Addr} {bs bm bmB : List Value} {hdct : Bool} {sn : List Str} {sub : List Value} {ab : Bool} {col : Option Bool} {dd : Option Addr} {k0 k1 k2 k3 k5 : Option Value} {B newId initId : String}
theorem new_kw (F : ExcBaseFacts B newId initId bmB) (hT : ∀ X : String, bm.contains (.type X) = bmB.contains (.type X)) {rest : List Value} {kw : List (Str × Value)}
    (hC : h.get? C = some (excClassObj nm q C N bs bm hdct sn sub ab col dd k0 k1 k2 k3 k5 newId))
    (hq : R (.ok (.ret (.ref (h.objs.size + 1)))) ⟨(h.push { cls := .type "tuple", data := .seq rest.toArray }).push
      { cls := .ref C, data := .fields #[.ref h.objs.size, .none, .none, .none, .bool false, .none] }, g, d, t, os⟩) (hrest : rest.length ≤ sizeLine) :
    codeAny (model prog w) A (.builtin newId ⟨.ref C :: rest, kw⟩) R ⟨h, g, d, t, os⟩ := by
  have hends := F.ends
  have hcB : (Value.ref C :: bm).contains (.type B) = true := by rw [List.contains_cons, hT, F.hasB, Bool.or_true]
  have hcA : (Value.ref C :: bm).contains (.type "AttributeError") = false := by rw [List.contains_cons, hT, F.noAttr]; rfl
  have hcN : (Value.ref C :: bm).contains (.type "NameError") = false := by rw [List.contains_cons, hT, F.noName]; rfl
  refine codeAny_builtinAt F.entry ?_
  unfold Builtin.«BaseException.__new__»
  refine wpAt_bind ?_
  show wpAt _ _ _ (stack >>= _) _ _ _
  refine wpAt_bind (wpAt_stack fun p below => wpAt_of_wpAny ?_)
  wp_walk
  refine wpAt_of_wpAny ?_
  rw [F.owner]
  repeat (first | with_reducible refine wpAny_madeHere_exc F.canon hC ?_ | with_reducible refine wpAny_loadPart_at hC ?_ | (with_reducible refine wpAny_isSubtype_exc hC ?_; first | rw [hcB] | rw [hcA] | rw [hcN]) | wp_step)
  show R _ _
  rw [Heap.size_push]
  exact hq
theorem type_call_kw (F : ExcBaseFacts B newId initId bmB) (hT : ∀ X : String, bm.contains (.type X) = bmB.contains (.type X)) {rest : List Value} {kw : List (Str × Value)} {fI : Addr} {Q : Fin → Shared → Prop}
    (hC : h.get? C = some (excClassObj nm q C N bs bm hdct sn sub ab col dd k0 k1 k2 k3 k5 newId))
    (hi : W.Looks (model prog w) h (typeLookup (.ref C) "__init__") (some (.ref fI))) (hb : ∀ self, W.Looks (model prog w) h (bindSpecial (.ref fI) self) (.ref fI, [self])) (hrest : rest.length ≤ sizeLine)
    (hq : codeAny (model prog w) A (.call (.ref fI) ⟨.ref (h.objs.size + 1) :: rest, kw⟩)
      (fun r s' => match r with | .ok (.ret v) => v = .none ∧ Q (.done (.ret (.ref (h.objs.size + 1)))) s' | .ok _ => False | .error e => E e s')
      ⟨(h.push (W.kdv_tup rest)).push (excO C h.objs.size), g, d, t, os⟩) :
    wpAny (model prog w) A (Builtin.«type.__call__» ⟨.ref C :: rest, kw⟩) Q E ⟨h, g, d, t, os⟩ := by
  repeat (first | with_reducible refine wpAny_loadPart_at hC ?_ | with_reducible refine wpAny_madeBy_exc hC ?_ | wp_step)
  refine codeAny_call_builtin_code (Code.quiet_builtin _ F.quiet) (check_new_kw F hT hC ?_)
  refine new_kw F hT hC ?_ hrest
  show wpAny _ _ _ _ _ _
  have k : ∀ b o, h.get? b = some o → ((h.push (W.kdv_tup rest)).push (excO C h.objs.size)).get? b = some o := fun b o e => Heap.get?_push_of_some _ (Heap.get?_push_of_some _ e)
  have hC₁ := k _ _ hC
  have hget : ((h.push (W.kdv_tup rest)).push (excO C h.objs.size)).get? (h.objs.size + 1) = some (excO C h.objs.size) := by heap_get
  have hcC : (Value.ref C :: bm).contains (.ref C) = true := by simp
  have i1 := hi.keeps k
  have b1 := (hb (.ref (h.objs.size + 1))).keeps k
  unfold isInstance
  repeat (first | with_reducible refine wpAny_loadPart_at hget ?_ | (with_reducible refine wpAny_isSubtype_exc hC₁ ?_; rw [hcC]) | wp_step)
  show wpAny _ _ (typeLookup (.ref C) _) _ _ _
  refine i1.at ?_
  refine wpAny_holding (wpAny_bind (b1.at ?_))
  refine wpAny_bind (wpAny_call (codeAny_mono hq fun r s' z => ?_))
  rcases r with e | (v | _ | _ | _) <;> first | exact z | exact z.elim | skip
  obtain ⟨rfl, z⟩ := z
  first
    | exact wpAny_pure (wpAny_pure z)
    | (wp_walk; exact z)
theorem call_kw (F : ExcBaseFacts B newId initId bmB) (hT : ∀ X : String, bm.contains (.type X) = bmB.contains (.type X)) {rest : List Value} {kw : List (Str × Value)} {fI : Addr}
    (hC : h.get? C = some (excClassObj nm q C N bs bm hdct sn sub ab col dd k0 k1 k2 k3 k5 newId))
    (hi : W.Looks (model prog w) h (typeLookup (.ref C) "__init__") (some (.ref fI))) (hb : ∀ self, W.Looks (model prog w) h (bindSpecial (.ref fI) self) (.ref fI, [self])) (hrest : rest.length ≤ sizeLine)
    (hq : codeAny (model prog w) (A.under (.builtin "type.__call__" ⟨.ref C :: rest, kw⟩)) (.call (.ref fI) ⟨.ref (h.objs.size + 1) :: rest, kw⟩) (W.InitBack (h.objs.size + 1) R)
      ⟨(h.push (W.kdv_tup rest)).push (excO C h.objs.size), g, d, t, os⟩) :
    codeAny (model prog w) A (.call (.ref C) ⟨rest, kw⟩) R ⟨h, g, d, t, os⟩ := by
  have f1 := tc_lookup
  have f2 := tc_bind (.ref C)
  have hTy : (⟨h, g, d, t, os⟩ : Shared).TypeIs (.ref C) "type" := ⟨_, hC, rfl⟩
  refine codeAny_of_tree ?_
  show wpAny _ _ (callAny (.ref C) _) _ _ _
  repeat (any_goals (first | assumption | with_reducible refine wpAny_loadPart_at hC ?_ | wp_step))
  refine ⟨rfl, ?_⟩
  refine codeAny_call_builtin_at (Code.quiet_builtin _ (by decide +kernel)) entry_typeCall (wpAny_check_type_call_sub hC (type_call_kw F hT hC hi hb hrest ?_))
  refine codeAny_mono hq fun r s' z => ?_
  rcases r with e | (v | _ | _ | _) <;> exact z
end
/-! ### self.name = v behind the classes' descriptors (osa_openX leads here), any base -/
section
open Builtin Builtin.ObjectAttr
variable {M : Model} {A : Around} {E : Value → Shared → Prop} {hp : Heap} {g : Array GenState} {d : Drawn} {t : Nat} {os : OsState} {K : W.Frag} {C x : Addr} {fv : Array Value} {nme : Str} {tk : Tok} {v : Value} {b : Bool} {Q : Fin → Shared → Prop}
theorem own_first (X : K.In hp) (hd : W.hasDictIn K C = true) (hx : hp.get? x = some { cls := .ref C, data := .fields fv })
    (hq : ∀ h' tk' dx, (∀ b o, b ≠ x → hp.get? b = some o → h'.get? b = some o) → hp.objs.size ≤ dx → dx ≠ x → h'.get? x = some { cls := .ref C, dict := some dx, data := .fields fv } → h'.Ns1 dx (fun y => if y = nme then some v else none) →
      Q (.done (.ret .none)) ⟨h', g, d, tk', os⟩) : wpAny M A (storeInOwnDict (.ref x) (.ref C) (.str nme tk) nme v b) Q E ⟨hp, g, d, t, os⟩ := by
  obtain ⟨⟨c1, c2, c3, c4, c5, c6, c7, c8, c9, c10, c11⟩, hc, h1⟩ := W.any_some hd
  dsimp only at h1
  subst h1
  have L : W.Looks M hp (classData C) _ := W.looks_clsIn X hc
  have ne : hp.objs.size ≠ x := Nat.ne_of_gt (Heap.lt_size hx)
  unfold storeInOwnDict ownDictForStores
  repeat (first | with_reducible refine store_in_new ?_ ?_ | with_reducible refine wpAny_loadPart_at hx ?_ | with_reducible refine L.at ?_ | wp_step)
  · exact ⟨_, #[], _, (Heap.get?_update_ne _ _ _ _ ne).trans (Heap.get?_push_at rfl rfl), rfl, fun _ z => absurd z (by simp), fun _ => rfl⟩
  · intro h' tk' n1 n2
    refine hq h' tk' hp.objs.size (fun c o h3 h4 => ?_) (Nat.le_refl _) ne ?_ n1
    · have h5 : c ≠ hp.objs.size := Nat.ne_of_lt (Heap.lt_size h4)
      rw [n2.2 c h5, Heap.get?_update_ne _ _ _ _ h3]
      exact Heap.get?_push_of_some _ h4
    · rw [n2.2 x (Ne.symm ne)]
      exact Heap.get?_update_self _ (Heap.get?_push_of_some _ hx) rfl
theorem own_next {dx : Addr} {m0 : Str → Option Value} {nl : List Str} (X : K.In hp) (hd : W.hasDictIn K C = true) (hx : hp.get? x = some { cls := .ref C, dict := some dx, data := .fields fv }) (hns : hp.Ns1 dx m0) (hw : Within m0 nl) (hz : nl.length ≤ 1000)
    (hq : ∀ h' tk', (∀ b o, b ≠ dx → hp.get? b = some o → h'.get? b = some o) → h'.Ns1 dx (fun y => if y = nme then some v else m0 y) → Q (.done (.ret .none)) ⟨h', g, d, tk', os⟩) :
    wpAny M A (storeInOwnDict (.ref x) (.ref C) (.str nme tk) nme v b) Q E ⟨hp, g, d, t, os⟩ := by
  obtain ⟨⟨c1, c2, c3, c4, c5, c6, c7, c8, c9, c10, c11⟩, hc, h1⟩ := W.any_some hd
  dsimp only at h1
  subst h1
  have L : W.Looks M hp (classData C) _ := W.looks_clsIn X hc
  unfold storeInOwnDict ownDictForStores
  repeat (first | with_reducible refine OEX.store_in_old hns hw hz ?_ | with_reducible refine wpAny_loadPart_at hx ?_ | with_reducible refine L.at ?_ | wp_step)
  exact fun h' tk' n1 n2 => hq h' tk' (fun c o h3 h4 => (n2.2 c h3).trans h4) n1
end
end OEG
end PySem
namespace L2
open PySem PySem.Spec PyProof.Rows
/-- what the written part says of an own class of errors, whatever its base is -/
structure OexG (K : PySem.W.Frag) (C : Addr) : Prop where
  cls : ∃ (B newId initId : String) (bmB : List Value), ExcBaseFacts B newId initId bmB ∧ StoreFacts B bmB "object.__setattr__" "object" ∧ PySem.W.excInitIn K C bmB newId = true ∧ PySem.W.excOver K C bmB = true
  sa : PySem.W.findIn K (.ref C) "__setattr__" = some (some (.builtin "object.__setattr__"))
  exC : PySem.W.subIn K (.ref C) (.type "BaseException") = some true
  kC : PySem.W.keepIn K (.ref C) = true
  ga : PySem.W.findIn K (.ref C) "__getattribute__" = some (some (.builtin "BaseException.__getattribute__"))
  gg : PySem.W.findIn K (.ref C) "__getattr__" = some none
  hd : PySem.W.hasDictIn K C = true
  ha : PySem.W.findIn K (.ref C) "__class__" = some (some (.builtin "object.__class__"))
  hm : PySem.W.mroIn K C (.type "object") = some true
theorem no_taker {K : PySem.W.Frag} {C : Addr} {f : Str} (h : PySem.W.findIn K (.ref C) f = some none) : PySem.W.takerIn K C f = some none := by
  unfold PySem.W.takerIn
  rw [h]
  rfl
/-- at a: an error of the class at C, with these fields -/
def ErrAt (H : Hp) (a C : Addr) (kvs : List (Str × V)) : Prop :=
  (∃ d, H a = some (exo a C d) ∧ ∀ dd, d = some dd → ∃ l, H dd = some (exd dd l)) ∧ ∀ f v, kvs.lookup f = some v → ∃ d l, H a = some (exo a C (some d)) ∧ H d = some (exd d l) ∧ l.lookup f = some v
theorem ErrAt.same {H H' : Hp} {a C : Addr} {kvs : List (Str × V)} (e : ErrAt H a C kvs) (s : Same H H') : ErrAt H' a C kvs := by
  obtain ⟨⟨d, h1, h3⟩, h2⟩ := e
  refine ⟨⟨d, s _ _ h1, fun dd q => ?_⟩, fun f v h => ?_⟩
  · obtain ⟨l, z⟩ := h3 dd q
    exact ⟨l, s _ _ z⟩
  obtain ⟨d, l, x, y, z⟩ := h2 f v h
  exact ⟨d, l, s _ _ x, s _ _ y, z⟩
section
variable {X : Cx} {pins : List (Addr × Obj)} {σ : St} {H : Hp} {s : Shared} {a C dx : Addr} {f : Str} {y : V} {u : Value} {fs : List (Str × V)} {Q : Unit → Shared → Prop} {E : Value → Shared → Prop} {A : Around}
/-- a first field is stored: where the error had no dict, it has one now -/
theorem ostG_new (T : OexG X.K C) (I : Inv X pins σ H s) (e : H a = some (exo a C none)) (hno : PySem.W.findIn X.K (.ref C) f = some none) (ry : RelV y u)
    (h : ∀ dx s', H dx = none → dx ≠ a → Inv X pins σ (upd (upd H dx (exd dx [(f, y)])) a (exo a C (some dx))) s' → Q () s') : wpAny (model X.prog X.w) A (setAttr (.ref a) f u) Q E s := by
  obtain ⟨B, newId, initId, bmB, FB, SB, ei, eo⟩ := T.cls
  obtain ⟨t1, ho⟩ := exo_at I.hok e
  obtain ⟨hp, g, d, t, os⟩ := s
  have J : ∀ tk, PySem.W.InstAt (⟨hp, g, d, tk, os⟩ : Shared).heap a { cls := .ref C, dict := none, data := .fields #[.ref t1, .none, .none, .none, .bool false, .none] } C none := fun _ => ⟨ho, rfl, rfl, trivial⟩
  refine PySem.W.set_plain I.kIn (J t) T.sa (PySem.W.osa_openX SB I.kIn (J _) eo (no_taker hno) fun b => ?_)
  refine PySem.OEG.own_first I.kIn T.hd ho fun h' tk' dx k dn dne hx hn => ?_
  have hnd : H dx = none := I.hok.fresh dn
  have old : ∀ b o, H b = some o → b ≠ a → (upd (upd H dx (exd dx [(f, y)])) a (exo a C (some dx))) b = some o := fun b o z n => by
    rw [upd_ne n, upd_ne (ne_of_none z hnd)]
    exact z
  have other : ∀ b o, H b = some o → o ≠ exo a C none → b ≠ a := fun b o z n w => by
    rw [w, e] at z
    exact n (Option.some.inj z).symm
  have notA : ∀ b, H b = none → b ≠ a := fun b n z => by
    rw [z, e] at n
    cases n
  refine h dx _ hnd dne (I.un (t' := tk') ⟨fun b o q n _ _ => k b o (notA b n) q, fun b o q n _ _ => ⟨o.slots, k b o (notA b n) q⟩, fun b o q n _ => ?_, fun b o q _ => ?_, fun b xs q => ?_, fun b o v q => ?_, fun b ps q => ⟨#[], ?_⟩⟩ fun b o q => ?_)
  · have n2 : b ≠ dx := Nat.ne_of_lt (Nat.lt_of_lt_of_le (Heap.lt_size q) dn)
    rw [upd_ne (notA b n), upd_ne n2]
    exact n
  · by_cases w : b = a
    · exact ⟨_, by rw [w]; exact hx⟩
    · exact ⟨o, k b o w q⟩
  · exact old b _ q (other b _ q (Ne.symm exo_tup))
  · exact old b _ q (other b _ q (Ne.symm exo_frz))
  · rw [old b _ q (other b _ q (Ne.symm exo_tbl))]
    simp
  · by_cases w : b = a
    · rw [w, upd_same] at q
      rw [w, ← Option.some.inj q]
      exact exo_ok hx
    · rw [upd_ne w] at q
      by_cases w2 : b = dx
      · rw [w2, upd_same] at q
        rw [w2, ← Option.some.inj q]
        exact exd_ok hn (relO_put (fs := []) ry fun _ => True.intro)
      · rw [upd_ne w2] at q
        refine (I.hok b o q).stay (fun c v hc z => k c v ?_ z) (fun c hc => old c _ hc (other c _ hc (Ne.symm exo_own))) fun c xs hc => old c _ hc (other c _ hc (Ne.symm exo_tup))
        rcases hc with rfl | hc
        · exact w
        · exact other c _ hc (Ne.symm exo_own)
/-- a further field is stored -/
theorem ostG_old (T : OexG X.K C) (I : Inv X pins σ H s) (e : H a = some (exo a C (some dx))) (ed : H dx = some (exd dx fs)) (hl : fs.length ≤ 900) (hno : PySem.W.findIn X.K (.ref C) f = some none) (ry : RelV y u)
    (h : ∀ s', Inv X pins σ (upd H dx (exd dx ((f, y) :: fs))) s' → Q () s') : wpAny (model X.prog X.w) A (setAttr (.ref a) f u) Q E s := by
  obtain ⟨B, newId, initId, bmB, FB, SB, ei, eo⟩ := T.cls
  obtain ⟨t1, ho⟩ := exo_at I.hok e
  obtain ⟨mA, hns, rel⟩ := exd_at I.hok ed
  have hw := within_of rel
  obtain ⟨hp, g, d, t, os⟩ := s
  obtain ⟨oD, _, _, hoD, _, _⟩ := hns.count hw
  have J : ∀ tk, PySem.W.InstAt (⟨hp, g, d, tk, os⟩ : Shared).heap a { cls := .ref C, dict := some dx, data := .fields #[.ref t1, .none, .none, .none, .bool false, .none] } C (some oD) := fun _ => ⟨ho, rfl, rfl, hoD⟩
  refine PySem.W.set_plain I.kIn (J t) T.sa (PySem.W.osa_openX SB I.kIn (J _) eo (no_taker hno) fun b => ?_)
  refine PySem.OEG.own_next I.kIn T.hd ho hns hw (by rw [List.length_map]; omega) fun h' tk' k hn => ?_
  have hd : ∃ o, h'.get? dx = some o := by
    obtain ⟨o, _, _, z, _⟩ := hn
    exact ⟨o, z⟩
  exact h _ (I.write (t' := tk') (x := dx) (e := dx) (o := exd dx ((f, y) :: fs)) (by rw [ed]; exact True.intro) (.inl rfl) k hd (exd_ok hn (relO_put ry rel)))
end
/-- self.f = e -/
def tOstG (K : PySem.W.Frag) (f : Str) (to te : TE) : TS := fun D σ H => te σ H fun y H1 => to σ H1 fun x H2 => ∃ a C : Addr, x = .ref a ∧ OexG K C ∧ PySem.W.findIn K (.ref C) f = some none ∧
  ((H2 a = some (exo a C none) ∧ ∀ dx, H2 dx = none → dx ≠ a → D.nx σ (upd (upd H2 dx (exd dx [(f, y)])) a (exo a C (some dx)))) ∨
    ∃ (dx : Addr) (fs : List (Str × V)), H2 a = some (exo a C (some dx)) ∧ H2 dx = some (exd dx fs) ∧ fs.length ≤ 900 ∧ D.nx σ (upd H2 dx (exd dx ((f, y) :: fs))))
theorem ps_ostG {X : Cx} {o e : Expr} {to te : TE} {f : Str} {p' pos : Pos} (ho : PE X o to) (he : PE X e te) (hs : swapsWith e (some (.Attribute o f p')) pos.line X.env = pure false := by rfl) : PS X (.Assign [.Attribute o f p'] e pos) (tOstG X.K f to te) := by
  refine ⟨fun pins s σ H D I h => ?_⟩
  refine plainObj_wpAny_Assign_Attribute (thn (he.run pins s σ H _ I h) fun v s1 ⟨y, H1, I1, r1, q1⟩ => thn (ho.run pins s1 σ H1 _ I1 q1) fun u s2 ⟨x, H2, I2, r2, a, C, ex, T, hno, q⟩ => ?_) hs
  subst ex
  obtain rfl : u = Value.ref a := r2
  rcases q with ⟨ea, q⟩ | ⟨dx, fs, ea, ed, hl, q⟩
  · exact ostG_new T I2 ea hno r1 fun dx s' n ne J => ⟨σ, _, J, q dx n ne⟩
  · exact ostG_old T I2 ea ed hl hno r1 fun s' J => ⟨σ, _, J, q⟩
/-! ### C(..), the own __init__ as a def -/
section
variable {X : Cx} {CX : CXT} {k : Nat} {fI C : Addr} {fd : FuncData} {ps : List Str} {sp : Sp} {pins : List (Addr × Obj)} {σ : St} {H1 : Hp} {s : Shared} {Q : VK}
theorem run_exc (T : OexG X.K C) (iC : PySem.W.findIn X.K (.ref C) "__init__" = some (some (.ref fI))) (tI : PySem.W.typeIn X.K (.ref fI) = some (.type "function"))
    (F1 : FnOk X.prog X.w X.K X.mg X.base CX k fI fd ps sp) (hr : Room (k + 1) X.A) (hx : Passes CX X (fun _ _ _ => False)) (I1 : Inv X pins σ H1 s) {us : List Value} {kw : List (Str × Value)} {bs : Addr → List Value} {vs : Addr → List V}
    (hus : us.length ≤ sizeLine) (r2 : ∀ a, Vals (vs a) (bs a)) (hb : ∀ (s' : Shared) (a : Addr), X.K.In s'.heap → BindsTo s' fd ⟨.ref a :: us, kw⟩ (ps.zip (bs a)))
    (hq : ∀ a, H1 a = none → sp (vs a) (upd H1 a (exo a C none)) (fun v H2 => v = .non ∧ Q (.ref a) H2) (fun _ _ _ => False)) :
    wpAny (model X.prog X.w) X.A (call (.ref C) us kw) (EP X pins σ Q) X.xe s := by
  obtain ⟨B, newId, initId, bmB, FB, SB, ei, eo⟩ := T.cls
  obtain ⟨nm, N, q, bs', bm, hdct, sn, sub, ab, col, dd, k0, k1, k2, k3, k5, hC, hbm⟩ := PySem.W.excInit_of I1.kIn ei
  obtain ⟨hp, g, dr, tk, os⟩ := s
  have hsz : hp.objs.size ≤ hp.objs.size + 1 := Nat.le_succ _
  have hn : H1 (hp.objs.size + 1) = none := I1.hok.fresh hsz
  have hq1 := hq (hp.objs.size + 1) hn
  have kk : ∀ b o, hp.get? b = some o → ((hp.push (PySem.W.kdv_tup us)).push (PySem.HandSPX.excO C hp.objs.size)).get? b = some o := fun b o e => Heap.get?_push_of_some _ (Heap.get?_push_of_some _ e)
  have hget : ((hp.push (PySem.W.kdv_tup us)).push (PySem.HandSPX.excO C hp.objs.size)).get? (hp.objs.size + 1) = some (PySem.HandSPX.excO C hp.objs.size) := by heap_get
  have I2 : Inv X pins σ (upd H1 (hp.objs.size + 1) (exo (hp.objs.size + 1) C none)) ⟨(hp.push (PySem.W.kdv_tup us)).push (PySem.HandSPX.excO C hp.objs.size), g, dr, tk, os⟩ :=
    I1.laid (t' := tk) (a := hp.objs.size + 1) (o := exo (hp.objs.size + 1) C none) (h' := (hp.push (PySem.W.kdv_tup us)).push (PySem.HandSPX.excO C hp.objs.size)) kk hsz (exo_ok hget)
  refine wpAny_call (PySem.OEG.call_kw FB hbm hC (PySem.W.looks_findIn I1.kIn iC) (fun self => PySem.W.bind_fn I1.kIn self tI) hus
    (codeAny_mono (F1.run _ X.stack _ _ ⟨Value.ref (hp.objs.size + 1) :: us, kw⟩ (bs (hp.objs.size + 1)) _ _ (fun _ _ _ => False) (hr.make C us kw) (I2.env0.make C us kw) (hb _ _ I2.kIn) (r2 _) hq1) fun r s' hq' => ?_))
  cases r with
  | error er => exact hx pins σ _ _ er s' I2 hq'
  | ok fl =>
    cases fl with
    | ret u =>
      obtain ⟨v, H', I3, rv, ev, q3⟩ := I2.after hq'
      subst ev
      exact ⟨rv, ⟨V.ref (hp.objs.size + 1), H', I3, rfl, q3⟩⟩
    | next => exact False.elim hq'
    | brk => exact False.elim hq'
    | cont => exact False.elim hq'
end
/-- an __init__'s promise: the fields fs hold what was handed in -/
def spIni (C : Addr) (fs : List Str) : Sp := fun vs H Q _ => ∃ (a : Addr) (ys : List V), vs = .ref a :: ys ∧ ys.length = fs.length ∧ H a = some (exo a C none) ∧
  ∀ H2 : Hp, (∀ b o, b ≠ a → H b = some o → H2 b = some o) → ErrAt H2 a C (fs.zip ys) → Q .non H2
/-- a class of errors as the top has made it: its name, its address, its fields -/
structure ExCls (P : Program) (w : World) (K : PySem.W.Frag) (mg : Str → Option Value) (base : Heap) (x : Str) (C : Addr) (fs : List Str) : Prop where
  T : OexG K C
  gC : mg x = some (.ref C)
  ini : ∃ (fI : Addr) (fd : FuncData), PySem.W.findIn K (.ref C) "__init__" = some (some (.ref fI)) ∧ PySem.W.typeIn K (.ref fI) = some (.type "function") ∧
    FnOk P w K mg base CX0 1 fI fd (("self" : Str) :: fs) (spIni C fs) ∧
    (∀ (s : Shared) (us : List Value), us.length = fs.length + 1 → BindsTo s fd ⟨us, []⟩ ((("self" : Str) :: fs).zip us)) ∧
    (∀ (s : Shared) (a : Addr) (ws : List Value), ws.length = fs.length → BindsTo s fd ⟨[.ref a], fs.reverse.zip ws⟩ ((("self" : Str) :: fs).zip (.ref a :: ws.reverse)))
/-- C(e, ..) -/
def tNewE (C : Addr) (fs : List Str) (ta : TA) : TE := fun σ H Q => ta σ H fun zs H1 => zs.length = fs.length ∧ ∀ (a : Addr) (H2 : Hp), Same H1 H2 → ErrAt H2 a C (fs.zip zs) → Q (.ref a) H2
/-- C(f = e, ..), the fields from behind -/
def tNewK (C : Addr) (fs : List Str) (ta : TA) : TE := fun σ H Q => ta σ H fun zs H1 => zs.length = fs.length ∧ ∀ (a : Addr) (H2 : Hp), Same H1 H2 → ErrAt H2 a C (fs.zip zs.reverse) → Q (.ref a) H2
section
variable {X : Cx} {x : Str} {C : Addr} {fs : List Str} {e : Expr} {es : List Expr} {kws : List Keyword} {ta : TA} {p pos : Pos}
theorem small_line {n m : Nat} (h : n = m) (hm : m ≤ 5) : n ≤ sizeLine := by
  rw [sizeLine_eq]
  omega
theorem spIni_at {H1 : Hp} {a : Addr} {ys : List V} {Q : VK} {E : XK} (hn : H1 a = none) (hl : ys.length = fs.length) (q : ∀ (a : Addr) (H2 : Hp), Same H1 H2 → ErrAt H2 a C (fs.zip ys) → Q (.ref a) H2) :
    spIni C fs (.ref a :: ys) (upd H1 a (exo a C none)) (fun v H2 => v = .non ∧ Q (.ref a) H2) E :=
  ⟨a, ys, rfl, hl, upd_same, fun H2 k e => ⟨rfl, q a H2 (fun b o hb => k b o (ne_of_none hb hn) (by rw [upd_ne (ne_of_none hb hn)]; exact hb)) e⟩⟩
theorem pe_newE (G : ExCls X.prog X.w X.K X.mg X.base x C fs) (h5 : fs.length ≤ 5) (hr : Room 2 X.A) (hg : Gl X x) (ha : PA X (e :: es) ta) (hx : Passes CX0 X (fun _ _ _ => False))
    (hdb : (x == ("__debug__" : Str)) = false := by decide) (he : starEach (e :: es) X.env = (false, eval e X.env) :: starEach es X.env := by rfl) (hpl : (backTo pos (starEach es X.env)).any (·.1) = false := by rfl) :
    PE X (.Call (.Name x p) (e :: es) [] pos) (tNewE C fs ta) := by
  obtain ⟨T, gC, fI, fd, iC, tI, F1, b1, b2⟩ := G
  refine ⟨fun pins s σ H Q I h => ?_⟩
  refine wpAny_Call_Name_kw (ld_glob I hg gC ?_ hdb)
  refine PySem.W.callWith_K (h₀ := X.base) I.ok.mod.kin T.kC (thn (ha.run pos pins s σ H _ I h) fun us s1 ⟨zs, H1, I1, r1, hl, q1⟩ => ⟨I1.kIn, ?_⟩) he hpl
  have hlu : us.length = fs.length := r1.length.symm.trans hl
  exact run_exc T iC tI F1 hr hx I1 (us := us) (kw := []) (bs := fun a => .ref a :: us) (vs := fun a => .ref a :: zs) (small_line hlu h5) (fun a => .cons rfl r1)
    (fun s' a _ => b1 s' (.ref a :: us) (congrArg Nat.succ hlu)) (fun a hn => spIni_at hn hl q1)
theorem pe_newE0 (G : ExCls X.prog X.w X.K X.mg X.base x C []) (hr : Room 2 X.A) (hg : Gl X x) (hx : Passes CX0 X (fun _ _ _ => False)) (hdb : (x == ("__debug__" : Str)) = false := by decide) :
    PE X (.Call (.Name x p) [] [] pos) (tNewE C [] tNil) := by
  obtain ⟨T, gC, fI, fd, iC, tI, F1, b1, b2⟩ := G
  refine ⟨fun pins s σ H Q I h => ?_⟩
  refine wpAny_Call_Name_kw (ld_glob I hg gC ?_ hdb)
  obtain ⟨_, q1⟩ := (show ([] : List V).length = ([] : List Str).length ∧ _ from h)
  refine PySem.W.callWith_K0 I.kIn T.kC ?_
  exact run_exc T iC tI F1 hr hx I (us := []) (kw := []) (bs := fun a => [.ref a]) (vs := fun a => [.ref a]) (small_line rfl (by decide)) (fun a => .cons rfl .nil)
    (fun s' a _ => b1 s' [.ref a] rfl) (fun a hn => spIni_at hn rfl q1)
theorem pe_newK (G : ExCls X.prog X.w X.K X.mg X.base x C fs) (hr : Room 2 X.A) (hg : Gl X x) (hkw : PK X kws ta) (hx : Passes CX0 X (fun _ _ _ => False))
    (hall : (backToKw pos (keywordEach kws X.env)).all (·.1.isSome) = true := by rfl) (hks : (backToKw pos (keywordEach kws X.env)).filterMap (·.1) = fs.reverse := by rfl) (hdb : (x == ("__debug__" : Str)) = false := by decide)
    (hpl : ((backTo pos (starEach [] X.env)).any (·.1) || (backToKw pos (keywordEach kws X.env)).any (·.1.isNone)) = false := by rfl) :
    PE X (.Call (.Name x p) [] kws pos) (tNewK C fs ta) := by
  obtain ⟨T, gC, fI, fd, iC, tI, F1, b1, b2⟩ := G
  refine ⟨fun pins s σ H Q I h => ?_⟩
  refine wpAny_Call_Name_kw (ld_glob I hg gC ?_ hdb)
  refine PySem.W.callWith_KW0 (h₀ := X.base) I.ok.mod.kin T.kC hall ?_ hpl
  refine thn (hkw.run pos pins s σ H _ I h) fun ws s2 ⟨zs, H2, I2, rz, hl, q2⟩ => ⟨I2.kIn, ?_⟩
  rw [hks]
  have hlw : ws.length = fs.length := rz.length.symm.trans hl
  exact run_exc T iC tI F1 hr hx I2 (us := []) (kw := fs.reverse.zip ws) (bs := fun a => .ref a :: ws.reverse) (vs := fun a => .ref a :: zs.reverse) (small_line rfl (by decide)) (fun a => .cons rfl rz.reverse)
    (fun s' a _ => b2 s' a ws hlw) (fun a hn => spIni_at hn (by rw [List.length_reverse]; exact hl) q2)
end
/-! ### e.f -/
def tXat (K : PySem.W.Frag) (f : Str) (te : TE) : TE := fun σ H Q => te σ H fun x H1 => ∃ (a C : Addr) (kvs : List (Str × V)) (v : V), x = .ref a ∧ OexG K C ∧ PySem.W.findIn K (.ref C) f = some none ∧ ErrAt H1 a C kvs ∧ kvs.lookup f = some v ∧ Q v H1
theorem pe_xat {X : Cx} {e : Expr} {te : TE} {f : Str} {pos : Pos} (he : PE X e te) (hb : attributeBase e f X.env (eval e X.env) = eval e X.env := by rfl) : PE X (.Attribute e f pos) (tXat X.K f te) := by
  refine ⟨fun pins s σ H Q I h => ?_⟩
  refine attr_of hb (thn (he.run pins s σ H _ I h) fun u s1 hh => ?_)
  obtain ⟨x, H1, I1, rx, a, C, kvs, v, ex, T, hno, E, l, q⟩ := hh
  subst ex
  obtain rfl : u = Value.ref a := rx
  obtain ⟨d, m, ea, ed, lv⟩ := E.2 f v l
  obtain ⟨t1, ho⟩ := exo_at I1.hok ea
  obtain ⟨mA, hns, hr⟩ := exd_at I1.hok ed
  obtain ⟨od, hod, hl⟩ := lookIn_ns hns
  obtain ⟨u, hu, ru⟩ := RelO.some_of (v := v) (o := mA f) (by rw [← lv]; exact hr f)
  have J : PySem.W.InstAt s1.heap a { cls := .ref C, dict := some d, data := .fields #[.ref t1, .none, .none, .none, .bool false, .none] } C (some od) := ⟨ho, rfl, rfl, hod⟩
  exact HandSPX.exc_get I1.kIn J T.ga T.gg T.exC (PySem.W.findObj_own T.hd hno rfl (by rw [hl, hu])) (handed_of ru) ⟨v, H1, I1.tok _, ru, q⟩
/-! ### isinstance(e, c), isinstance(e, (c, ..)) -/
structure GetC (K : PySem.W.Frag) : Prop where
  hn : PySem.W.specialIn K (.builtin "object.__class__") "__get__" = some (some (.builtin "getset_descriptor.__get__"))
  ht : PySem.W.takesIn K (.builtin "object.__class__") = some true
def rIsX (K : PySem.W.Frag) : List V → Hp → VK → Prop := fun xs H Q => ∃ (a C : Addr) (kvs : List (Str × V)) (c : V) (u : Value) (b : Bool), xs = [.ref a, c] ∧ ClsV c u ∧ OexG K C ∧ ErrAt H a C kvs ∧ PySem.W.kitOne K (.ref C) u = some b ∧ Q (.bl b) H
def rIsXT (K : PySem.W.Frag) : List V → Hp → VK → Prop := fun xs H Q => ∃ (a C : Addr) (kvs : List (Str × V)) (tp : Addr) (cs : List V) (us : List Value) (b : Bool), xs = [.ref a, .ref tp] ∧ H tp = some (.tup cs) ∧ Paired ClsV cs us ∧ OexG K C ∧ ErrAt H a C kvs ∧
  PySem.W.kitAny K (.ref C) us = some b ∧ Q (.bl b) H
section
variable {X : Cx} {pins : List (Addr × Obj)} {σ : St} {H : Hp} {s : Shared}
theorem ErrAt.inst {a C : Addr} {kvs : List (Str × V)} (I : Inv X pins σ H s) (e : ErrAt H a C kvs) : ∃ (ox : Obj) (od : Option Obj), PySem.W.InstAt s.heap a ox C od := by
  obtain ⟨⟨d, ea, hd⟩, _⟩ := e
  obtain ⟨t1, ho⟩ := exo_at I.hok ea
  cases d with
  | none => exact ⟨_, none, ho, rfl, rfl, trivial⟩
  | some dd =>
    obtain ⟨l, z⟩ := hd dd rfl
    obtain ⟨mA, ⟨o, es, ep, h1, h2⟩, hr⟩ := exd_at I.hok z
    exact ⟨_, some o, ho, rfl, rfl, h1⟩
theorem kit_err {a C : Addr} {ox : Obj} {od : Option Obj} (G : GetC X.K) (T : OexG X.K C) : PySem.W.KitX X.K (.ref a) (.ref C) (fun h => PySem.W.InstAt h a ox C od) := by
  have hcl : (PySem.W.clsIn X.K C).isSome = true := by
    obtain ⟨cd, hc, _⟩ := PySem.W.any_some T.hd
    rw [hc]
    rfl
  exact PySem.W.kitx_exc hcl T.ga T.gg T.exC T.ha G.hn G.ht T.hm
theorem call_isX (G : GetC X.K) : CallR X (.builtin "isinstance") (rIsX X.K) := by
  intro pins s σ H xs us Q I r h
  obtain ⟨a, C, kvs, c, u, b, rfl, k, T, E, e, q⟩ := h
  obtain ⟨u1, u2, rfl, r1, r2⟩ := vals2 r
  have e2 := k.eq r2
  subst e2
  cases (show u1 = Value.ref a from r1)
  obtain ⟨ox, od, J⟩ := E.inst I
  exact PySem.W.kia_one (kit_err G T) I.kIn J e (fun z => nomatch z) fun tk => ⟨.bl b, H, I.tok tk, rfl, q⟩
theorem call_isXT (G : GetC X.K) : CallR X (.builtin "isinstance") (rIsXT X.K) := by
  intro pins s σ H xs us Q I r h
  obtain ⟨a, C, kvs, tp, cs, ws, b, rfl, hT, k, T, E, e, q⟩ := h
  obtain ⟨u1, u2, rfl, r1, r2⟩ := vals2 r
  cases (show u2 = Value.ref tp from r2)
  cases (show u1 = Value.ref a from r1)
  obtain ⟨ox, od, J⟩ := E.inst I
  obtain ⟨_, its, rv, o, h1, h2, n, h3⟩ := (show ObjOk X.prog X.w H s.heap tp (.tup cs) from I.hok tp _ hT)
  have e3 := ClsV.all k rv
  subst e3
  obtain ⟨oc, od', dt, sl⟩ := o
  simp only at h2 h3
  subst h2 h3
  exact PySem.W.kia_tup (kit_err G T) I.kIn J h1 e (fun z => nomatch z) fun tk => ⟨.bl b, H, I.tok tk, rfl, q⟩
end
/-! ### the three shapes of __init__ -/
section
variable {P : Program} {w : World} {K : PySem.W.Frag} {mg : Str → Option Value} {base : Heap} {st : Stmt} {qual : Str} {fI C : Addr} {fd : FuncData} {f g : Str}
theorem zip1 {f : Str} {y : V} {h : Str} {v : V} (e : List.lookup h (([f] : List Str).zip [y]) = some v) : h = f ∧ v = y := by
  have e' : List.lookup h [(f, y)] = some v := e
  rw [lookup_put] at e'
  by_cases q : h = f
  · rw [if_pos q] at e'
    exact ⟨q, (Option.some.inj e').symm⟩
  · rw [if_neg q] at e'
    cases e'
theorem ini0 {f1 : Pos} (F : Fun K "__init__" qual st fI fd) (S : FnScope ["self"] ["self"] (defScope st)) (hb : ∃ q, defBody st = [.Pass q]) : FnOk P w K mg base CX0 1 fI fd [("self" : Str)] (spIni C []) := by
  obtain ⟨q, hb⟩ := hb
  refine F.ok S (fun vs H Q E h => ?_) (fun cdv A outer s H vs Q E hr h => ?_)
  · obtain ⟨a, ys, rfl, hl, _⟩ := h
    exact congrArg Nat.succ hl
  · obtain ⟨a, ys, rfl, hl, ha, k⟩ := h
    have : ys = [] := List.length_eq_zero_iff.mp hl
    subst this
    rw [hb]
    refine ⟨_, pss_one ps_pass, ?_⟩
    exact k H (fun b o _ e => e) ⟨⟨none, ha, fun dd q => nomatch q⟩, fun f v e => by cases e⟩
theorem ini1 (df : (f == ("__debug__" : Str)) = false) (dcf : (f == ("__classdict__" : Str)) = false) (F : Fun K "__init__" qual st fI fd) (S : FnScope [("self" : Str), f] [("self" : Str), f] (defScope st)) (hb : ∃ q1 q2 q3 q4, defBody st = [.Assign [.Attribute (.Name "self" q1) f q2] (.Name f q3) q4]) (T : OexG K C) (no : PySem.W.findIn K (.ref C) f = some none) :
    FnOk P w K mg base CX0 1 fI fd [("self" : Str), f] (spIni C [f]) := by
  obtain ⟨q1, q2, q3, q4, hb⟩ := hb
  refine F.ok S (fun vs H Q E h => ?_) (fun cdv A outer s H vs Q E hr h => ?_)
  · obtain ⟨a, ys, rfl, hl, _⟩ := h
    exact congrArg Nat.succ hl
  · obtain ⟨a, ys, rfl, hl, ha, k⟩ := h
    obtain ⟨y, rfl⟩ : ∃ y, ys = [y] := by
      match ys, hl with
      | [y], _ => exact ⟨y, rfl⟩
    rw [hb]
    refine ⟨_, pss_one (ps_ostG (pe_var (i := 0) rfl (vis_par S List.mem_cons_self)) (pe_var (i := 1) rfl (vis_par S (List.mem_cons_of_mem _ List.mem_cons_self)) (hd := df) (hcd := dcf))), ?_⟩
    refine ⟨y, rfl, .ref a, rfl, a, C, rfl, T, no, .inl ⟨ha, fun dx nd ne => ?_⟩⟩
    refine k _ (fun b o hb e => ?_) ⟨⟨some dx, upd_same, fun dd q => ?_⟩, fun h v e => ?_⟩
    · rw [upd_ne hb, upd_ne (ne_of_none e nd)]
      exact e
    · cases q
      exact ⟨_, by rw [upd_ne ne, upd_same]⟩
    · obtain ⟨rfl, rfl⟩ := zip1 e
      exact ⟨dx, _, upd_same, by rw [upd_ne ne, upd_same], by simp [List.lookup]⟩
theorem ini2 (df : (f == ("__debug__" : Str)) = false) (dcf : (f == ("__classdict__" : Str)) = false) (dg : (g == ("__debug__" : Str)) = false) (dcg : (g == ("__classdict__" : Str)) = false) (F : Fun K "__init__" qual st fI fd) (S : FnScope [("self" : Str), f, g] [("self" : Str), f, g] (defScope st))
    (hb : ∃ q1 q2 q3 q4 r1 r2 r3 r4, defBody st = [.Assign [.Attribute (.Name "self" q1) f q2] (.Name f q3) q4, .Assign [.Attribute (.Name "self" r1) g r2] (.Name g r3) r4]) (T : OexG K C) (no : PySem.W.findIn K (.ref C) f = some none)
    (no2 : PySem.W.findIn K (.ref C) g = some none) : FnOk P w K mg base CX0 1 fI fd [("self" : Str), f, g] (spIni C [f, g]) := by
  obtain ⟨q1, q2, q3, q4, r1, r2, r3, r4, hb⟩ := hb
  have hfg : f ≠ g := fun z => by
    have nd := S.nd
    rw [z] at nd
    simp at nd
  refine F.ok S (fun vs H Q E h => ?_) (fun cdv A outer s H vs Q E hr h => ?_)
  · obtain ⟨a, ys, rfl, hl, _⟩ := h
    exact congrArg Nat.succ hl
  · obtain ⟨a, ys, rfl, hl, ha, k⟩ := h
    obtain ⟨y, z, rfl⟩ : ∃ y z, ys = [y, z] := by
      match ys, hl with
      | [y, z], _ => exact ⟨y, z, rfl⟩
    rw [hb]
    refine ⟨_, pss_cons (ps_ostG (pe_var (i := 0) rfl (vis_par S List.mem_cons_self)) (pe_var (i := 1) rfl (vis_par S (List.mem_cons_of_mem _ List.mem_cons_self)) (hd := df) (hcd := dcf)))
      (pss_one (ps_ostG (pe_var (i := 0) rfl (vis_par S List.mem_cons_self)) (pe_var (i := 2) rfl (vis_par S (List.mem_cons_of_mem _ (List.mem_cons_of_mem _ List.mem_cons_self))) (hd := dg) (hcd := dcg)))), ?_⟩
    refine ⟨y, rfl, .ref a, rfl, a, C, rfl, T, no, .inl ⟨ha, fun dx nd ne => ?_⟩⟩
    refine ⟨z, rfl, .ref a, rfl, a, C, rfl, T, no2, .inr ⟨dx, _, upd_same, by rw [upd_ne ne, upd_same], by show 1 ≤ 900; decide, ?_⟩⟩
    have e1 : (upd (upd (upd H dx (exd dx [(f, y)])) a (exo a C (some dx))) dx (exd dx [(g, z), (f, y)])) a = some (exo a C (some dx)) := by rw [upd_ne (Ne.symm ne), upd_same]
    refine k _ (fun b o hb e => ?_) ⟨⟨some dx, e1, fun dd q => ?_⟩, fun h v e => ?_⟩
    · rw [upd_ne (ne_of_none e nd), upd_ne hb, upd_ne (ne_of_none e nd)]
      exact e
    · cases q
      exact ⟨_, upd_same⟩
    · refine ⟨dx, _, e1, upd_same, ?_⟩
      have e' : List.lookup h [(f, y), (g, z)] = some v := e
      rw [lookup_put] at e'
      rw [lookup_put, lookup_put]
      by_cases q : h = f
      · subst q
        rw [if_pos rfl] at e'
        rw [if_neg hfg, if_pos rfl]
        exact e'
      · rw [if_neg q, lookup_put] at e'
        by_cases q' : h = g
        · rw [if_pos q'] at e' ⊢
          exact e'
        · rw [if_neg q'] at e'
          cases e'
end
end L2
/-! repr of a list where it is known which reprs are under way; defs that are called so -/
namespace L2
open PySem PySem.Spec PyProof.Rows
/-- a def that keeps its promise wherever no repr is under way -/
structure FnG (P : Program) (w : World) (K : PySem.W.Frag) (mg : Str → Option Value) (base : Heap) (k : Nat) (f : Addr) (fd : FuncData) (ps : List Str) (sp : Sp) : Prop where
  len : ∀ vs H Q E, sp vs H Q E → vs.length = ps.length
  run : ∀ (A : Around), A.guards = some [] → Room k A → ∀ (outer : List Env) (s : Shared) (H : Hp) (args : Args) (us : List Value) (vs : List V) (Q : VK) (E : XK),
    Env0 P w K mg base A outer s H → BindsTo s fd args (ps.zip us) → Vals vs us → sp vs H Q E → codeAny (model P w) A (.call (.ref f) args) (CR CX0 outer P w H s Q E) s
section
variable {P : Program} {w : World} {K : PySem.W.Frag} {mg : Str → Option Value} {base : Heap} {k : Nat} {f : Addr} {fd : FuncData} {ps : List Str} {sp : Sp}
theorem Fun.okG {x qual : Str} {st : Stmt} {N : List Str} (F : Fun K x qual st f fd) (S : FnScope N ps (defScope st)) (len : ∀ vs H Q E, sp vs H Q E → vs.length = ps.length)
    (body : ∀ (cdv : Value) (A : Around) (outer : List Env) (s : Shared) (H : Hp) (vs : List V) (Q : VK) (E : XK), A.guards = some [] → Room k (A.deeper (envOfC qual (defScope st) s.heap.objs.size f cdv)) → sp vs H Q E →
      ∃ t, PSs (cxOf CX0 P w K mg base N qual (defScope st) f cdv A outer s H E).nox (defBody st) t ∧ t { nx := fun _ H' => Q .non H', rt := Q } (start N vs) H) : FnG P w K mg base (k + 1) f fd ps sp := by
  refine ⟨len, fun A hgd hr outer s H args us vs Q E e0 hb r hsp => ?_⟩
  obtain ⟨oc, od, kV, doc, pm, an, cdv, ct, osl, rfl, lk, hcd⟩ := F.ex
  obtain ⟨t, ht, hq⟩ := body cdv A outer s H vs Q E hgd (hr.deeper _) hsp
  have ht' := ht.nox
  have inK : K.In s.heap := e0.mod.kin.keeps fun b o e => (e0.bs b o e).1
  refine codeAny_call_function hr.depth (inK _ _ lk) rfl S.co S.gen rfl (PySem.W.codeRec_of inK hcd) (hb _ _ _ _ (wpAny_newFunctionEnv_cells S.kind ?_ ?_))
  · rintro ⟨n, v⟩ hy
    rcases S.par n (List.of_mem_zip hy).1 with q | q
    · exact .inl q
    · exact .inr ⟨q, PySem.W.cellsFrom_some _ _ _ (.inl q)⟩
  · intro env he s1 x
    subst he
    refine ⟨(e0.mod.nolimit.keeps fun b o e => (e0.bs b o e).1).keeps x.toInCall.keep, codeAny_func ?_⟩
    refine wpAny_mono (ht'.run [] s1 (start N vs) H _ (inv_start S hr.hd e0 (len _ _ _ _ hsp) r x) hq) (fun fl s' hs => ?_) fun _ _ hs => hs
    cases fl with
    | ret u =>
      obtain ⟨v, σ', H', J, rv, q⟩ := hs
      exact ⟨v, H', J.os, J.bare, J.base, J.hok, rv, q⟩
    | next =>
      obtain ⟨σ', H', J, q⟩ := hs
      exact ⟨V.non, H', J.os, J.bare, J.base, J.hok, rfl, q⟩
    | brk => exact hs.choose_spec.choose_spec.2.elim
    | cont => exact hs.choose_spec.choose_spec.2.elim
end
section
variable {X : Cx} {k : Nat} {f : Addr} {fd : FuncData} {ps : List Str} {sp : Sp} {x : Str} {p pos : Pos} {e : Expr} {es : List Expr} {t : TA}
theorem pe_callG (F : FnG X.prog X.w X.K X.mg X.base k f fd ps sp) (hgd : X.A.guards = some []) (hr : Room k X.A) (hg : Gl X x) (hm : X.mg x = some (.ref f)) (hk : PySem.W.keepIn X.K (.ref f) = true) (hb : Binds X.K fd ps [])
    (ha : PA X (e :: es) t) (hdb : (x == ("__debug__" : Str)) = false := by decide) (he : starEach (e :: es) X.env = (false, eval e X.env) :: starEach es X.env := by rfl)
    (hpl : (backTo pos (starEach es X.env)).any (·.1) = false := by rfl) : PE X (.Call (.Name x p) (e :: es) [] pos) (tCall sp [] E0 t) := by
  refine ⟨fun pins s σ H Q I h => wpAny_Call_Name_kw (ld_glob I hg hm (PySem.W.callWith_K (h₀ := X.base) I.ok.mod.kin hk (thn (ha.run pos pins s σ H _ I h) fun us s1 ⟨vs, H1, I1, r, q⟩ => ⟨I1.kIn, ?_⟩) he hpl) hdb)⟩
  have q : sp (vs ++ []) H1 Q E0 := q
  rw [List.append_nil] at q
  have hl : (us ++ []).length = ps.length := by
    rw [List.append_nil, ← r.length]
    exact F.len _ _ _ _ q
  have b := hb s1 us I1.kIn hl
  rw [List.append_nil] at b
  refine wpAny_call (codeAny_mono (F.run X.A hgd hr X.stack s1 H1 ⟨us, []⟩ us vs Q E0 I1.env0 b r q) fun r s' z => ?_)
  match r, z with
  | .ok (.ret u), z => exact I1.after z
  | .ok .next, z => exact z.elim
  | .ok .brk, z => exact z.elim
  | .ok .cont, z => exact z.elim
  | .error _, z => exact z.elim
end
/-! ### repr -/
/-- the values that are shown here: plain ones, tuples of such, an empty list, an empty dict -/
inductive DX (H : Hp) : V → PyData → Prop where
  | non : DX H .non .none
  | bl (b : Bool) : DX H (.bl b) (.bool b)
  | int (i : Int) : DX H (.int i) (.int i)
  | str (x : Str) : DX H (.str x) (.str x)
  | nil {a : Addr} (e : H a = some (.lst [])) : DX H (.ref a) (.list [])
  | tup0 {a : Addr} (e : H a = some (.tup [])) : DX H (.ref a) (.tuple [])
  | tup2 {a : Addr} {x : Str} {i : Int} (e : H a = some (.tup [.str x, .int i])) : DX H (.ref a) (.tuple [.str x, .int i])
  | dct {a : Addr} (e : H a = some (.dK [])) : DX H (.ref a) (.dict [])
theorem DX.same {H H' : Hp} {v : V} {d : PyData} (h : DX H v d) (s : Same H H') : DX H' v d := by
  cases h with
  | non => exact .non
  | bl b => exact .bl b
  | int i => exact .int i
  | str x => exact .str x
  | nil e => exact .nil (s _ _ e)
  | tup0 e => exact .tup0 (s _ _ e)
  | tup2 e => exact .tup2 (s _ _ e)
  | dct e => exact .dct (s _ _ e)
section
variable {X : Cx} {pins : List (Addr × Obj)} {σ : St} {H : Hp} {s : Shared}
theorem ne_sys {o : Obj} {a : Addr} {ob : Obj} (ko : s.heap.get? sysModules = some o) (kc : o.cls = .type "dict") (h : s.heap.get? a = some ob) (hc : ob.cls = .type "list") : sysModules ≠ a := fun z => by
  subst z
  rw [ko] at h
  cases h
  rw [kc] at hc
  exact absurd hc (by decide)
theorem DX.reads {o : Obj} (I : Inv X pins σ H s) (ko : s.heap.get? sysModules = some o) (kc : o.cls = .type "dict") {v : V} {d : PyData} {u : Value} (h : DX H v d) (r : RelV v u) : ∃ as, Reads s.heap u d as ∧ sysModules ∉ as := by
  cases h with
  | non => cases r; exact ⟨_, .none, by simp⟩
  | bl b => cases r; exact ⟨_, .bool b, by simp⟩
  | int i => obtain ⟨t, rfl⟩ := r; exact ⟨_, .int i t, by simp⟩
  | str x => obtain ⟨t, rfl⟩ := r; exact ⟨_, .str x t, by simp⟩
  | @nil a e =>
    cases r
    obtain ⟨its, rv, ⟨ob, n, ho, hc, _, hd⟩, _⟩ := I.list (.inl (.inl e))
    cases rv
    exact ⟨_, .list ho hc hd .nil, by simp; exact ne_sys ko kc ho hc⟩
  | @tup0 a e =>
    cases r
    obtain ⟨its, rv, ⟨ob, ho, hc, n, hd⟩, _⟩ := I.tuple (.inl (.inl e))
    cases rv
    exact ⟨_, .tuple ho hc hd .nil, by simp⟩
  | @tup2 a x i e =>
    cases r
    obtain ⟨its, rv, ⟨ob, ho, hc, n, hd⟩, _⟩ := I.tuple (.inl (.inl e))
    cases rv with
    | cons r1 rv =>
      cases rv with
      | cons r2 rv =>
        cases rv
        obtain ⟨t1, rfl⟩ := r1
        obtain ⟨t2, rfl⟩ := r2
        exact ⟨_, .tuple ho hc hd (.cons (.str x t1) (.cons (.int i t2) .nil)), by simp⟩
  | @dct a e =>
    cases r
    obtain ⟨_, hne, vs, kv, ob, es, ep, ho, hx, hd, _, hp, _⟩ := (show ObjOk X.prog X.w H s.heap a (.dK []) from I.hok a _ e)
    cases kv
    have he : es.toList = [] := by
      cases q : es.toList with
      | nil => rfl
      | cons a l =>
        rw [q] at hp
        exact absurd hp.length (by simp)
    refine ⟨a :: [] ++ [], .dict (o := ob) (es := es) (n := ep) (kvs := []) (as := []) (bs := []) ho hx.1 hd ?_ ?_, ?_⟩
    · rw [he]; exact .nil
    · rw [he]; exact .nil
    · simp only [List.append_nil, List.mem_singleton]
      exact fun z => absurd z.symm (beq_eq_false_iff_ne.mp hne)
inductive DXs (H : Hp) : List V → List PyData → Prop where
  | nil : DXs H [] []
  | cons {v : V} {d : PyData} {vs : List V} {ds : List PyData} (h : DX H v d) (t : DXs H vs ds) : DXs H (v :: vs) (d :: ds)
theorem DXs.same {H H' : Hp} {vs : List V} {ds : List PyData} (h : DXs H vs ds) (s : Same H H') : DXs H' vs ds := by
  induction h with
  | nil => exact .nil
  | cons h _ ih => exact .cons (h.same s) ih
theorem DXs.reads {o : Obj} (I : Inv X pins σ H s) (ko : s.heap.get? sysModules = some o) (kc : o.cls = .type "dict") {vs : List V} {ds : List PyData} (h : DXs H vs ds) : ∀ {us : List Value}, Vals vs us → ∃ as, ReadsAll s.heap us ds as ∧ sysModules ∉ as := by
  induction h with
  | nil => intro us r; cases r; exact ⟨_, .nil, by simp⟩
  | cons h _ ih =>
    intro us r
    cases r with
    | cons r1 r2 =>
      obtain ⟨as, q, n⟩ := h.reads I ko kc r1
      obtain ⟨bs, q2, n2⟩ := ih r2
      exact ⟨_, .cons q q2, by simp [n, n2]⟩
end
/-- repr(xs), xs a list of such values -/
def rRepr : List V → Hp → VK → Prop := fun xs H Q => ∃ (p : Addr) (vs : List V) (ds : List PyData), xs = [.ref p] ∧ H p = some (.lst vs) ∧ DXs H vs ds ∧ (PyData.list ds).showable = true ∧ (PyData.list ds).depth ≤ 40 ∧
  (PyData.list ds).shown.length ≤ sizeLine ∧ Q (.str (PyData.list ds).shown) H
theorem call_reprX {X : Cx} {o : Obj} (hgd : X.A.guards = some []) (hu : X.A.units + 64 < cLine) (ks : X.K.lookup sysModules = some o) (kc : o.cls = .type "dict") : CallR X (.builtin "repr") rRepr := by
  intro pins s σ H xs us Q I r h
  obtain ⟨p, vs, ds, rfl, hp, hd, h1, h2, h3, q⟩ := h
  cases r with
  | cons r1 r2 =>
    cases r2
    cases (show _ = Value.ref p from r1)
    have ko := I.kIn _ _ ks
    obtain ⟨its, rv, ⟨ob, n, ho, hc, _, hdt⟩, _⟩ := I.list (.inl (.inl hp))
    obtain ⟨as, rd, na⟩ := hd.reads I ko kc rv
    refine repr_of_reads' (.list ho hc hdt rd) h1 (fun _ z => ?_) hgd (by omega) (fun _ _ e => e) (fun h' u tk hk => ⟨.str (PyData.list ds).shown, H, I.kept (t' := tk) hk, ⟨u, rfl⟩, q⟩) h3
    rcases List.mem_cons.mp z with z | z
    · exact ne_sys ko kc ho hc z
    · exact na z
end L2
namespace E18
open PySem PySem.Spec PyProof.Rows L2
def top (i : Nat) : Stmt := PySem.Challenge.pw_leastlinks_k18_errors_made.main.body.getD i (.Pass ⟨0, 0, 0, 0⟩)
abbrev sRng : Stmt := top 34
abbrev sDraw : Stmt := top 35
abbrev sChoice : Stmt := top 36
/-- the built-ins that no module name hides -/
structure Blt (mg : Str → Option Value) : Prop where
  len : mg "len" = none
  abs : mg "abs" = none
  max : mg "max" = none
  min : mg "min" = none
  divmod : mg "divmod" = none
  isinstance : mg "isinstance" = none
  int : mg "int" = none
  sum : mg "sum" = none
  repr : mg "repr" = none
  all : mg "all" = none
  range : mg "range" = none
  ve : mg "ValueError" = none
  le : mg "LookupError" = none
  re : mg "RuntimeError" = none
  ae : mg "ArithmeticError" = none
  ke : mg "KeyError" = none
  ie : mg "IndexError" = none
  ne : mg "NotImplementedError" = none
  oe : mg "OverflowError" = none
  ze : mg "ZeroDivisionError" = none
/-- all but what stands at a is as it was -/
def But (a : Addr) (H H' : Hp) : Prop := ∀ b o, b ≠ a → H b = some o → H' b = some o
theorem But.trans {a : Addr} {H H1 H2 : Hp} (x : But a H H1) (y : But a H1 H2) : But a H H2 := fun b o n e => y b o n (x b o n e)
/-- at a: the two numbers of a draw -/
def Rng (H : Hp) (a : Addr) : Prop := ∃ x y : Int, H a = some (.lst [.int x, .int y]) ∧ 0 ≤ y ∧ y ≤ 2147483629
section
variable {P : Program} {w : World} {K : PySem.W.Frag} {mg : Str → Option Value} {base : Heap} {f : Addr} {fd : FuncData}
/-! ### _law_rng -/
def spRng (K : PySem.W.Frag) : Sp := fun vs H Q _ => ∃ (a : Addr) (ns : List Int) (k : Nat), vs = [.ref a, .int (k : Int)] ∧ SqL K H a (ns.map V.int) ∧ k ≤ 100 ∧ ∀ (p : Addr) (H' : Hp), H p = none → Same H H' → Rng H' p → Q (.ref p) H'
theorem scRng : FnScope ["_law_script", "_law_k", "_law_cell"] ["_law_script", "_law_k"] (defScope sRng) := ⟨rfl, rfl, rfl, by decide +kernel, rfl, by decide +kernel, by decide +kernel⟩
theorem ok_rng (F : Fun K "_law_rng" "_law_rng" sRng f fd) (B : Blt mg) : FnOk P w K mg base CX0 1 f fd ["_law_script", "_law_k"] (spRng K) := by
  refine F.ok scRng (fun vs H Q E h => ?_) (fun cdv A outer s H vs Q E hr h => ?_)
  · obtain ⟨a, ns, k, rfl, _⟩ := h
    rfl
  · obtain ⟨a, ns, k, rfl, hS, hk, q⟩ := h
    refine ⟨_, pss_cons (ps_set (i := 2) scRng.nd rfl (Or.inl rfl) (pe_ifExp (pt_cmpR op_lt (pv 1) (pe_callB call_len_seq (by rfl) B.len boot_len (pa_cons (pv 0) pa_nil)) (nomark _))
        (pe_callB call_abs (by rfl) B.abs boot_abs (pa_cons (pe_ix ix_list (pv 0) (pv 1) (fun _ _ => rfl)) pa_nil)) pe_int))
      (pss_one (ps_ret (pe_lst (pa_cons (pe_callB (call_max2 rfl) (by rfl) B.max boot_max (pa_cons pe_int (pa_cons (pe_op op_sub (pv 2) (pe_op op_pow pe_int pe_int)) pa_nil)))
        (pa_cons (pe_op op_add (pe_op op_mod (pe_op op_pow (pe_op op_add (pe_op op_add (pe_op op_mod (pv 2) pe_int) (pe_op op_mul pe_int (pv 1))) pe_int) pe_int) pe_int) pe_int) pa_nil))))), ?_⟩
    -- what comes behind the cell's value
    have rest : ∀ c : Int, 0 ≤ c → ∀ σ : L2.St, σ = [some (.ref a), some (.int (k : Int)), some (.int c)] →
        tRet (tLst (tCons (tCB (fun xs H Q => ∃ i j, xs = [.int i, .int j] ∧ Q (.int (if j > i then j else i)) H) (tCons (tC (.int 0)) (tCons (tOp (rI0 fun i j => .int (i - j)) (tVar 2) (tOp (rI CPow fun i j => .int (i ^ j.toNat)) (tC (.int 10)) (tC (.int 18)))) tNil)))
          (tCons (tOp (rI0 fun i j => .int (i + j)) (tOp (rI (fun _ j => 0 < j) fun i j => .int (i % j)) (tOp (rI CPow fun i j => .int (i ^ j.toNat)) (tOp (rI0 fun i j => .int (i + j)) (tOp (rI0 fun i j => .int (i + j)) (tOp (rI (fun _ j => 0 < j) fun i j => .int (i % j)) (tVar 2) (tC (.int 2147483563)))
            (tOp (rI CMul fun i j => .int (i * j)) (tC (.int 4099)) (tVar 1))) (tC (.int 17))) (tC (.int 2))) (tC (.int 2147483549))) (tC (.int 1))) tNil)))
          { nx := fun _ H' => Q .non H', rt := Q } σ H := by
      intro c hc σ hσ
      subst hσ
      have m1 : 0 ≤ c % 2147483563 := Int.emod_nonneg _ (by decide)
      have m2 : c % 2147483563 < 2147483563 := Int.emod_lt_of_pos _ (by decide)
      refine ⟨_, rfl, _, _, rfl, rfl, ⟨by decide, by decide, by decide⟩, _, _, rfl, rfl, _, _, rfl, ?_⟩
      refine ⟨_, rfl, _, _, rfl, rfl, (by show (0 : Int) < 2147483563; decide), _, rfl, _, _, rfl, rfl, .inl ⟨by decide, by decide⟩, _, _, rfl, rfl, _, _, rfl, rfl, _, _, rfl, rfl, ⟨by decide, by decide, ?_⟩, _, _, rfl, rfl, (by show (0 : Int) < 2147483549; decide), _, _, rfl, rfl, ?_⟩
      · show (c % 2147483563 + 4099 * (k : Int) + 17).natAbs < 2 ^ 64
        omega
      · refine ⟨(by show 2 ≤ sizeLine; decide), fun p hp => q p _ hp (fun b o e => ?_) ⟨_, _, upd_same, ?_, ?_⟩⟩
        · rw [upd_ne (ne_of_none e hp)]
          exact e
        · have := Int.emod_nonneg ((c % 2147483563 + 4099 * (k : Int) + 17) ^ (2 : Int).toNat) (show (2147483549 : Int) ≠ 0 by decide)
          omega
        · have := Int.emod_lt_of_pos ((c % 2147483563 + 4099 * (k : Int) + 17) ^ (2 : Int).toNat) (show (0 : Int) < 2147483549 by decide)
          omega
    refine ⟨_, rfl, _, rfl, a, _, rfl, .inl hS, _, _, rfl, rfl, _, rfl, ?_⟩
    refine ite2 (fun hlt => ?_) (fun _ => ?_)
    · have hlt' : k < (ns.map V.int).length := by
        have z := of_decide_eq_true hlt
        omega
      rw [List.length_map] at hlt'
      have hat : (ns.map V.int)[k]? = some (.int ns[k]) := by rw [List.getElem?_map, List.getElem?_eq_getElem hlt']; rfl
      refine ⟨_, rfl, _, rfl, a, _, _, _, rfl, rfl, hS, atI_nat hat, _, rfl, ?_⟩
      refine rest _ ?_ _ rfl
      split <;> omega
    · exact rest 0 (by decide) _ rfl
/-! ### _law_draw, _law_choice -/
def spDraw : Sp := fun vs H Q _ => ∃ (a : Addr) (n : Int), vs = [.ref a, .int n] ∧ Rng H a ∧ 0 < n ∧ n < 1073741824 ∧ ∀ (d : Int) (H' : Hp), 0 ≤ d → d < n → But a H H' → Rng H' a → Q (.int d) H'
theorem scDraw : FnScope ["_law_rng_here", "_law_many", "_law_digit"] ["_law_rng_here", "_law_many"] (defScope sDraw) := ⟨rfl, rfl, rfl, by decide +kernel, rfl, by decide +kernel, by decide +kernel⟩
theorem ok_draw (F : Fun K "_law_draw" "_law_draw" sDraw f fd) (B : Blt mg) : FnOk P w K mg base CX0 1 f fd ["_law_rng_here", "_law_many"] spDraw := by
  refine F.ok scDraw (fun vs H Q E h => ?_) (fun cdv A outer s H vs Q E hr h => ?_)
  · obtain ⟨a, n, rfl, _⟩ := h
    rfl
  · obtain ⟨a, n, rfl, ⟨x, y, ha, y0, y1⟩, n0, n1, q⟩ := h
    refine ⟨_, pss_cons (ps_if (pt_cmpR op_gt (pe_ix ix_list (pv 0) pe_int (fun _ _ => rfl)) pe_int (nomark _))
        (pss_cons (ps_asg (pe_callB call_divmod (by rfl) B.divmod boot_divmod (pa_cons (pe_ix ix_list (pv 0) pe_int (fun _ _ => rfl)) (pa_cons (pv 1) pa_nil)))
            (pg_tup rfl (pgs_cons (pg_sub (pv 0) pe_int set_list) (pgs_cons (pg_name (i := 2) scDraw.nd rfl (Or.inl rfl)) pgs_nil))))
          (pss_one (ps_ret (pv 2)))) pss_nil)
      (pss_cons (ps_asg (pe_op op_mod (pe_op op_add (pe_op op_mul (pe_ix ix_list (pv 0) pe_int (fun _ _ => rfl)) pe_int) pe_int) pe_int) (pg_sub (pv 0) pe_int set_list))
      (pss_one (ps_ret (pe_op op_mod (pe_op op_fdiv (pe_op op_mod (pe_op op_mul (pe_ix ix_list (pv 0) pe_int (fun _ _ => rfl)) (pe_ix ix_list (pv 0) pe_int (fun _ _ => rfl))) pe_int) pe_int) (pv 1))))), ?_⟩
    have hS : SqL K H a [.int x, .int y] := .inl (.inl ha)
    refine ⟨_, rfl, a, _, _, _, rfl, rfl, hS, rfl, _, _, rfl, rfl, _, rfl, ?_⟩
    refine ite2 (fun hgt => ?_) (fun _ => ?_)
    · have hx : 0 < x := of_decide_eq_true hgt
      refine ⟨_, rfl, a, _, _, _, rfl, rfl, hS, rfl, _, rfl, _, _, rfl, ⟨n0, n1⟩, fun p hp => ?_⟩
      have ne : a ≠ p := ne_of_none ha hp
      refine ⟨p, _, rfl, .inl (.inl upd_same), rfl, _, _, rfl, _, rfl, a, _, _, 0, rfl, rfl, by rw [upd_ne ne]; exact ha, rfl, _, _, rfl, rfl, ?_⟩
      refine ⟨_, rfl, q _ _ (Int.emod_nonneg _ (by omega)) (Int.emod_lt_of_pos _ n0) (fun b o hb e => ?_) ⟨_, y, upd_same, y0, y1⟩⟩
      rw [upd_ne hb, upd_ne (ne_of_none e hp)]
      exact e
    · have z0 := Int.emod_nonneg (y * 39373 + 9311) (show (2147483629 : Int) ≠ 0 by decide)
      have z1 := Int.emod_lt_of_pos (y * 39373 + 9311) (show (0 : Int) < 2147483629 by decide)
      have hS' : SqL K (upd H a (.lst [.int x, .int ((y * 39373 + 9311) % 2147483629)])) a [.int x, .int ((y * 39373 + 9311) % 2147483629)] := .inl (.inl upd_same)
      have zz : -(2 ^ 64) < ((y * 39373 + 9311) % 2147483629) ∧ ((y * 39373 + 9311) % 2147483629) < 2 ^ 64 := ⟨by omega, by omega⟩
      refine ⟨_, rfl, a, _, _, _, rfl, rfl, hS, rfl, _, _, rfl, rfl, .inr ⟨by decide, by decide⟩, _, _, rfl, rfl, _, _, rfl, rfl, (by show (0 : Int) < 2147483629; decide), _, rfl, a, _, _, 1, rfl, rfl, ha, rfl, ?_⟩
      refine ⟨_, rfl, a, [.int x, .int ((y * 39373 + 9311) % 2147483629)], 1, .int ((y * 39373 + 9311) % 2147483629), rfl, rfl, hS', rfl, _, rfl, a, [.int x, .int ((y * 39373 + 9311) % 2147483629)], 1, .int ((y * 39373 + 9311) % 2147483629), rfl, rfl, hS', rfl, ((y * 39373 + 9311) % 2147483629), ((y * 39373 + 9311) % 2147483629), rfl, rfl, .inl zz, _, _, rfl, rfl, (by show (0 : Int) < 2147483563; decide), _, _, rfl, rfl, ⟨by decide, by decide⟩, _, rfl, _, _, rfl, rfl, n0, ?_⟩
      refine q _ _ (Int.emod_nonneg _ (by omega)) (Int.emod_lt_of_pos _ n0) (fun b o hb e => ?_) ⟨x, ((y * 39373 + 9311) % 2147483629), upd_same, z0, by omega⟩
      rw [upd_ne hb]
      exact e
def spChoice (K : PySem.W.Frag) : Sp := fun vs H Q _ => ∃ (a b : Addr) (xs : List V), vs = [.ref a, .ref b] ∧ Rng H a ∧ a ≠ b ∧ H b = some (.lst xs) ∧ 0 < xs.length ∧ xs.length ≤ 1000 ∧ ∀ (v : V) (H' : Hp), v ∈ xs → But a H H' → Rng H' a → Q v H'
theorem scChoice : FnScope ["_law_rng_here", "_law_some"] ["_law_rng_here", "_law_some"] (defScope sChoice) := ⟨rfl, rfl, rfl, by decide +kernel, rfl, by decide +kernel, by decide +kernel⟩
theorem ok_choice {fD : Addr} {fdD : FuncData} (F : Fun K "_law_choice" "_law_choice" sChoice f fd) (B : Blt mg) (FD : FnOk P w K mg base CX0 1 fD fdD ["_law_rng_here", "_law_many"] spDraw) (mD : mg "_law_draw" = some (.ref fD)) (kD : PySem.W.keepIn K (.ref fD) = true)
    (bD : Binds K fdD ["_law_rng_here", "_law_many"] []) : FnOk P w K mg base CX0 2 f fd ["_law_rng_here", "_law_some"] (spChoice K) := by
  refine F.ok scChoice (fun vs H Q E h => ?_) (fun cdv A outer s H vs Q E hr h => ?_)
  · obtain ⟨a, b, xs, rfl, _⟩ := h
    rfl
  · obtain ⟨a, b, xs, rfl, R, hab, hb, h0, h1, q⟩ := h
    refine ⟨_, pss_one (ps_ret (pe_ix ix_list (pv 1) (pe_call FD hr (by rfl) mD kD bD .nil pass0 (pa_cons (pv 0) (pa_cons (pe_callB call_len_seq (by rfl) B.len boot_len (pa_cons (pv 1) pa_nil)) pa_nil))) (fun _ _ => rfl))), ?_⟩
    refine ⟨_, rfl, _, rfl, _, rfl, b, xs, rfl, .inl (.inl (.inl hb)), a, (xs.length : Int), rfl, R, by omega, by omega, fun d H' d0 d1 bt R' => ?_⟩
    obtain ⟨j, rfl⟩ : ∃ j : Nat, d = (j : Int) := ⟨d.toNat, by omega⟩
    have hj : j < xs.length := by omega
    exact ⟨b, xs, _, xs[j], rfl, rfl, .inl (.inl (bt b _ (Ne.symm hab) hb)), atI_nat (List.getElem?_eq_getElem hj), q _ _ (List.getElem_mem hj) bt R'⟩
end
end E18
namespace E18
open PySem PySem.Spec PyProof.Rows L2
/-- a class of errors: its name, the word for its base, its fields, these in one text -/
structure Row where
  nm : Str
  base : Str
  fs : List Str
  words : Str
def tab : List Row := [
   ⟨"InvalidName", "value", ["value"], "value"⟩,
   ⟨"InvalidVersion", "value", ["value"], "value"⟩,
   ⟨"InvalidPath", "value", ["value"], "value"⟩,
   ⟨"InvalidFlag", "value", ["value"], "value"⟩,
   ⟨"InvalidNeeds", "value", ["position"], "position"⟩,
   ⟨"InvalidLocks", "value", ["position"], "position"⟩,
   ⟨"InvalidLinkage", "value", ["problem", "row"], "problem row"⟩,
   ⟨"InvalidFact", "value", ["value"], "value"⟩,
   ⟨"InvalidDerivation", "value", ["value"], "value"⟩,
   ⟨"InvalidFunctions", "value", ["problem", "position"], "problem position"⟩,
   ⟨"InvalidCode", "value", ["value"], "value"⟩,
   ⟨"InvalidCount", "value", ["value"], "value"⟩,
   ⟨"InvalidText", "value", ["line"], "line"⟩,
   ⟨"InvalidEdit", "value", ["value"], "value"⟩,
   ⟨"InvalidCommand", "value", ["value"], "value"⟩,
   ⟨"UnknownPackage", "lookup", ["value"], "value"⟩,
   ⟨"UnknownRelease", "lookup", ["package", "version"], "package version"⟩,
   ⟨"UnknownPath", "lookup", ["value"], "value"⟩,
   ⟨"UnknownFunction", "lookup", ["value"], "value"⟩,
   ⟨"NoNeed", "lookup", ["label"], "label"⟩,
   ⟨"NameTaken", "runtime", ["value"], "value"⟩,
   ⟨"LabelTaken", "runtime", ["label"], "label"⟩,
   ⟨"NotEarlier", "runtime", ["user", "used"], "user used"⟩,
   ⟨"NotRising", "runtime", ["package", "version"], "package version"⟩,
   ⟨"NotGrowing", "runtime", ["label"], "label"⟩,
   ⟨"LostFunction", "runtime", ["name"], "name"⟩,
   ⟨"Clash", "runtime", ["package"], "package"⟩,
   ⟨"NotCopies", "runtime", ["path", "other"], "path other"⟩,
   ⟨"NothingToUndo", "runtime", [], ""⟩,
   ⟨"TooMany", "arithmetic", ["kind", "limit"], "kind limit"⟩,
   ⟨"TooManySteps", "arithmetic", ["limit"], "limit"⟩]
/-- the classes as the top has made them; ca tells the addresses -/
structure Errs (P : Program) (w : World) (K : PySem.W.Frag) (mg : Str → Option Value) (base : Heap) (ca : Nat → Addr) : Prop where
  ex : ∀ i r, tab[i]? = some r → ExCls P w K mg base r.nm (ca i) r.fs
section
variable {P : Program} {w : World} {K : PySem.W.Frag} {mg : Str → Option Value} {base : Heap} {ca : Nat → Addr}

theorem ex0 (E : Errs P w K mg base ca) : ExCls P w K mg base "InvalidName" (ca 0) ["value"] := E.ex 0 ⟨"InvalidName", "value", ["value"], "value"⟩ rfl
theorem ex1 (E : Errs P w K mg base ca) : ExCls P w K mg base "InvalidVersion" (ca 1) ["value"] := E.ex 1 ⟨"InvalidVersion", "value", ["value"], "value"⟩ rfl
theorem ex2 (E : Errs P w K mg base ca) : ExCls P w K mg base "InvalidPath" (ca 2) ["value"] := E.ex 2 ⟨"InvalidPath", "value", ["value"], "value"⟩ rfl
theorem ex3 (E : Errs P w K mg base ca) : ExCls P w K mg base "InvalidFlag" (ca 3) ["value"] := E.ex 3 ⟨"InvalidFlag", "value", ["value"], "value"⟩ rfl
theorem ex4 (E : Errs P w K mg base ca) : ExCls P w K mg base "InvalidNeeds" (ca 4) ["position"] := E.ex 4 ⟨"InvalidNeeds", "value", ["position"], "position"⟩ rfl
theorem ex5 (E : Errs P w K mg base ca) : ExCls P w K mg base "InvalidLocks" (ca 5) ["position"] := E.ex 5 ⟨"InvalidLocks", "value", ["position"], "position"⟩ rfl
theorem ex6 (E : Errs P w K mg base ca) : ExCls P w K mg base "InvalidLinkage" (ca 6) ["problem", "row"] := E.ex 6 ⟨"InvalidLinkage", "value", ["problem", "row"], "problem row"⟩ rfl
theorem ex7 (E : Errs P w K mg base ca) : ExCls P w K mg base "InvalidFact" (ca 7) ["value"] := E.ex 7 ⟨"InvalidFact", "value", ["value"], "value"⟩ rfl
theorem ex8 (E : Errs P w K mg base ca) : ExCls P w K mg base "InvalidDerivation" (ca 8) ["value"] := E.ex 8 ⟨"InvalidDerivation", "value", ["value"], "value"⟩ rfl
theorem ex9 (E : Errs P w K mg base ca) : ExCls P w K mg base "InvalidFunctions" (ca 9) ["problem", "position"] := E.ex 9 ⟨"InvalidFunctions", "value", ["problem", "position"], "problem position"⟩ rfl
theorem ex10 (E : Errs P w K mg base ca) : ExCls P w K mg base "InvalidCode" (ca 10) ["value"] := E.ex 10 ⟨"InvalidCode", "value", ["value"], "value"⟩ rfl
theorem ex11 (E : Errs P w K mg base ca) : ExCls P w K mg base "InvalidCount" (ca 11) ["value"] := E.ex 11 ⟨"InvalidCount", "value", ["value"], "value"⟩ rfl
theorem ex12 (E : Errs P w K mg base ca) : ExCls P w K mg base "InvalidText" (ca 12) ["line"] := E.ex 12 ⟨"InvalidText", "value", ["line"], "line"⟩ rfl
theorem ex13 (E : Errs P w K mg base ca) : ExCls P w K mg base "InvalidEdit" (ca 13) ["value"] := E.ex 13 ⟨"InvalidEdit", "value", ["value"], "value"⟩ rfl
theorem ex14 (E : Errs P w K mg base ca) : ExCls P w K mg base "InvalidCommand" (ca 14) ["value"] := E.ex 14 ⟨"InvalidCommand", "value", ["value"], "value"⟩ rfl
theorem ex15 (E : Errs P w K mg base ca) : ExCls P w K mg base "UnknownPackage" (ca 15) ["value"] := E.ex 15 ⟨"UnknownPackage", "lookup", ["value"], "value"⟩ rfl
theorem ex16 (E : Errs P w K mg base ca) : ExCls P w K mg base "UnknownRelease" (ca 16) ["package", "version"] := E.ex 16 ⟨"UnknownRelease", "lookup", ["package", "version"], "package version"⟩ rfl
theorem ex17 (E : Errs P w K mg base ca) : ExCls P w K mg base "UnknownPath" (ca 17) ["value"] := E.ex 17 ⟨"UnknownPath", "lookup", ["value"], "value"⟩ rfl
theorem ex18 (E : Errs P w K mg base ca) : ExCls P w K mg base "UnknownFunction" (ca 18) ["value"] := E.ex 18 ⟨"UnknownFunction", "lookup", ["value"], "value"⟩ rfl
theorem ex19 (E : Errs P w K mg base ca) : ExCls P w K mg base "NoNeed" (ca 19) ["label"] := E.ex 19 ⟨"NoNeed", "lookup", ["label"], "label"⟩ rfl
theorem ex20 (E : Errs P w K mg base ca) : ExCls P w K mg base "NameTaken" (ca 20) ["value"] := E.ex 20 ⟨"NameTaken", "runtime", ["value"], "value"⟩ rfl
theorem ex21 (E : Errs P w K mg base ca) : ExCls P w K mg base "LabelTaken" (ca 21) ["label"] := E.ex 21 ⟨"LabelTaken", "runtime", ["label"], "label"⟩ rfl
theorem ex22 (E : Errs P w K mg base ca) : ExCls P w K mg base "NotEarlier" (ca 22) ["user", "used"] := E.ex 22 ⟨"NotEarlier", "runtime", ["user", "used"], "user used"⟩ rfl
theorem ex23 (E : Errs P w K mg base ca) : ExCls P w K mg base "NotRising" (ca 23) ["package", "version"] := E.ex 23 ⟨"NotRising", "runtime", ["package", "version"], "package version"⟩ rfl
theorem ex24 (E : Errs P w K mg base ca) : ExCls P w K mg base "NotGrowing" (ca 24) ["label"] := E.ex 24 ⟨"NotGrowing", "runtime", ["label"], "label"⟩ rfl
theorem ex25 (E : Errs P w K mg base ca) : ExCls P w K mg base "LostFunction" (ca 25) ["name"] := E.ex 25 ⟨"LostFunction", "runtime", ["name"], "name"⟩ rfl
theorem ex26 (E : Errs P w K mg base ca) : ExCls P w K mg base "Clash" (ca 26) ["package"] := E.ex 26 ⟨"Clash", "runtime", ["package"], "package"⟩ rfl
theorem ex27 (E : Errs P w K mg base ca) : ExCls P w K mg base "NotCopies" (ca 27) ["path", "other"] := E.ex 27 ⟨"NotCopies", "runtime", ["path", "other"], "path other"⟩ rfl
theorem ex28 (E : Errs P w K mg base ca) : ExCls P w K mg base "NothingToUndo" (ca 28) [] := E.ex 28 ⟨"NothingToUndo", "runtime", [], ""⟩ rfl
theorem ex29 (E : Errs P w K mg base ca) : ExCls P w K mg base "TooMany" (ca 29) ["kind", "limit"] := E.ex 29 ⟨"TooMany", "arithmetic", ["kind", "limit"], "kind limit"⟩ rfl
theorem ex30 (E : Errs P w K mg base ca) : ExCls P w K mg base "TooManySteps" (ca 30) ["limit"] := E.ex 30 ⟨"TooManySteps", "arithmetic", ["limit"], "limit"⟩ rfl
end
/-- at q: a pair of an error of this base, made of one and two, and the names of its fields -/
def GoodP (ca : Nat → Addr) (one two : V) (b : Str) (H : Hp) (q : Addr) : Prop := ∃ (i : Nat) (r : Row) (e : Addr), tab[i]? = some r ∧ r.base = b ∧ H q = some (.tup [.ref e, .str r.words]) ∧ ErrAt H e (ca i) (r.fs.zip [one, two])
def GoodV (ca : Nat → Addr) (one two : V) (b : Str) (H : Hp) (v : V) : Prop := ∃ q, v = .ref q ∧ GoodP ca one two b H q
theorem GoodV.same {ca : Nat → Addr} {one two : V} {b : Str} {H H' : Hp} {v : V} (g : GoodV ca one two b H v) (s : Same H H') : GoodV ca one two b H' v := by
  obtain ⟨q, rfl, i, r, e, h1, h2, h3, h4⟩ := g
  exact ⟨q, rfl, i, r, e, h1, h2, s _ _ h3, h4.same s⟩
/-- at p: a list of such pairs, n at most, new since H0 -/
structure LG (ca : Nat → Addr) (one two : V) (b : Str) (n : Nat) (H0 H : Hp) (p : Addr) : Prop where
  new : H0 p = none
  ls : ∃ vs, H p = some (.lst vs) ∧ vs.length ≤ n ∧ ∀ v ∈ vs, GoodV ca one two b H v
def spVals (ca : Nat → Addr) (b : Str) (n : Nat) : Sp := fun vs H Q _ => ∃ one two : V, vs = [one, two] ∧ ∀ (p : Addr) (H' : Hp), Same H H' → LG ca one two b n H H' p → Q (.ref p) H'
theorem LG.le {ca : Nat → Addr} {one two : V} {b : Str} {n m : Nat} {H0 H : Hp} {p : Addr} (g : LG ca one two b n H0 H p) (h : n ≤ m) : LG ca one two b m H0 H p := by
  obtain ⟨a, vs, h1, h2, h3⟩ := g
  exact ⟨a, vs, h1, Nat.le_trans h2 h, h3⟩
/-- an expression's reading: whatever is wanted of a good pair that comes beside what was tracked -/
def YP (ca : Nat → Addr) (one two : V) (b : Str) (σ : L2.St) (te : TE) : Prop := ∀ (H : Hp) (Q : VK), (∀ v H2, Same H H2 → GoodV ca one two b H2 v → Q v H2) → te σ H Q
def YA (ca : Nat → Addr) (one two : V) (b : Str) (σ : L2.St) (n : Nat) (ta : TA) : Prop := ∀ (H : Hp) (Q : List V → Hp → Prop), (∀ vs H2, Same H H2 → vs.length = n → (∀ v ∈ vs, GoodV ca one two b H2 v) → Q vs H2) → ta σ H Q
section
variable {ca : Nat → Addr} {one two : V} {b nm w f g : Str} {σ : L2.St} {te : TE} {ta : TA} {n m i : Nat} {H0 H : Hp} {l : Addr}
theorem pair_end {fs : List Str} {e : Addr} {H2 : Hp} {Q : VK} {H : Hp} (hi : tab[i]? = some ⟨nm, b, fs, w⟩) (s2 : Same H H2) (ee : ErrAt H2 e (ca i) (fs.zip [one, two])) (k : ∀ v H2, Same H H2 → GoodV ca one two b H2 v → Q v H2) :
    ([V.ref e, V.str w].length ≤ sizeLine) ∧ ∀ p, H2 p = none → Q (.ref p) (upd H2 p (.tup [.ref e, .str w])) := by
  refine ⟨(by show 2 ≤ sizeLine; decide), fun p hp => ?_⟩
  have s3 : Same H2 (upd H2 p (.tup [.ref e, .str w])) := fun c o x => by
    rw [upd_ne (ne_of_none x hp)]
    exact x
  exact k _ _ (s2.trans s3) ⟨p, rfl, i, _, e, hi, rfl, upd_same, ee.same s3⟩
theorem y_e1 (h0 : σ[0]? = some (some one)) (h1 : σ[1]? = some (some two)) (hi : tab[i]? = some ⟨nm, b, [f], w⟩) : YP ca one two b σ (tTup (tCons (tNewE (ca i) [f] (tCons (tVar 0) tNil)) (tCons (tC (.str w)) tNil))) := by
  intro H Q k
  exact ⟨_, h0, rfl, fun e H2 s2 ee => pair_end hi s2 ee k⟩
theorem y_e2 (h0 : σ[0]? = some (some one)) (h1 : σ[1]? = some (some two)) (hi : tab[i]? = some ⟨nm, b, [f, g], w⟩) : YP ca one two b σ (tTup (tCons (tNewE (ca i) [f, g] (tCons (tVar 0) (tCons (tVar 1) tNil))) (tCons (tC (.str w)) tNil))) := by
  intro H Q k
  exact ⟨_, h0, _, h1, rfl, fun e H2 s2 ee => pair_end hi s2 ee k⟩
theorem y_e0 (hi : tab[i]? = some ⟨nm, b, [], w⟩) : YP ca one two b σ (tTup (tCons (tNewE (ca i) [] tNil) (tCons (tC (.str w)) tNil))) := by
  intro H Q k
  exact ⟨rfl, fun e H2 s2 ee => pair_end hi s2 ee k⟩
theorem y_k1 (h0 : σ[0]? = some (some one)) (h1 : σ[1]? = some (some two)) (hi : tab[i]? = some ⟨nm, b, [f], w⟩) : YP ca one two b σ (tTup (tCons (tNewK (ca i) [f] (tCons (tVar 0) tNil)) (tCons (tC (.str w)) tNil))) := by
  intro H Q k
  exact ⟨_, h0, rfl, fun e H2 s2 ee => pair_end hi s2 ee k⟩
theorem y_k2 (h0 : σ[0]? = some (some one)) (h1 : σ[1]? = some (some two)) (hi : tab[i]? = some ⟨nm, b, [f, g], w⟩) : YP ca one two b σ (tTup (tCons (tNewK (ca i) [f, g] (tCons (tVar 1) (tCons (tVar 0) tNil))) (tCons (tC (.str w)) tNil))) := by
  intro H Q k
  exact ⟨_, h1, _, h0, rfl, fun e H2 s2 ee => pair_end hi s2 ee k⟩
theorem ya_nil : YA ca one two b σ 0 tNil := fun H Q k => k [] H (Same.refl H) rfl fun v hv => absurd hv (by simp)
theorem ya_cons (y : YP ca one two b σ te) (ya : YA ca one two b σ n ta) : YA ca one two b σ (n + 1) (tCons te ta) := fun H Q k =>
  y H _ fun v H2 s2 gv => ya H2 _ fun vs H3 s3 hn ga => k (v :: vs) H3 (s2.trans s3) (congrArg Nat.succ hn) fun u hu => by
    rcases List.mem_cons.mp hu with z | z
    · rw [z]
      exact gv.same s3
    · exact ga u z
theorem y_lst (ya : YA ca one two b σ n ta) (hn : n ≤ 1000) (H : Hp) (Q : VK) (k : ∀ p H2, Same H H2 → LG ca one two b n H H2 p → Q (.ref p) H2) : tLst ta σ H Q := by
  refine ya H _ fun vs H2 s2 hv ga => ⟨by rw [hv, sizeLine_eq]; omega, fun p hp => ?_⟩
  have s3 : Same H2 (upd H2 p (.lst vs)) := fun c o x => by
    rw [upd_ne (ne_of_none x hp)]
    exact x
  exact k p _ (s2.trans s3) ⟨s2.free hp, vs, upd_same, Nat.le_of_eq hv, fun v hv => (ga v hv).same s3⟩
theorem y_cat {Q : VK} (ya : YA ca one two b σ m ta) (hm : n + m ≤ 1000) (hσ : σ[2]? = some (some (.ref l))) (G : LG ca one two b n H0 H l) (s1 : Same H0 H) (k : ∀ p H2, Same H0 H2 → LG ca one two b (n + m) H0 H2 p → Q (.ref p) H2) :
    tOp rCat (tVar 2) (tLst ta) σ H Q := by
  obtain ⟨nw, vs, hl, hv, ga⟩ := G
  refine ⟨_, hσ, y_lst ya (by omega) H _ fun p H2 s2 g2 => ?_⟩
  obtain ⟨nw2, us, hp, hu, gb⟩ := g2
  refine ⟨l, p, vs, us, rfl, rfl, s2 _ _ hl, hp, by rw [sizeLine_eq]; omega, fun r hr => ?_⟩
  have s3 : Same H2 (upd H2 r (.lst (vs ++ us))) := fun c o x => by
    rw [upd_ne (ne_of_none x hr)]
    exact x
  refine k r _ ((s1.trans s2).trans s3) ⟨(s1.trans s2).free hr, _, upd_same, by rw [List.length_append]; omega, fun v hv => ?_⟩
  rcases List.mem_append.mp hv with z | z
  · exact (ga v z).same (s2.trans s3)
  · exact (gb v z).same s3
theorem y_app {K : PySem.W.Frag} {D : Ends} (y : YP ca one two b σ te) (hn : n < 1000) (hσ : σ[2]? = some (some (.ref l))) (G : LG ca one two b n H0 H l) (s1 : Same H0 H) (k : ∀ H2, Same H0 H2 → LG ca one two b (n + 1) H0 H2 l → D.nx σ H2) :
    tDrop (tBM K "list" rAppend (tVar 2) (tCons te tNil)) D σ H := by
  obtain ⟨nw, vs, hl, hv, ga⟩ := G
  refine ⟨_, hσ, .inl ⟨rfl, _, .inl (.inl hl)⟩, y H _ fun v H2 s2 gv => ⟨l, vs, v, rfl, rfl, s2 _ _ hl, by rw [sizeLine_eq]; omega, ?_⟩⟩
  have hl2 := s2 _ _ hl
  have old : ∀ u, GoodV ca one two b H2 u → GoodV ca one two b (upd H2 l (.lst (vs ++ [v]))) u := fun u gu => by
    obtain ⟨q, rfl, i, r, e, h1, h2, h3, ⟨d, h4, h5⟩, h6⟩ := gu
    have nq : q ≠ l := ne_of h3 hl2 (by intro z; cases z)
    have ne : ∀ (x : Addr) (D : Option Addr), H2 x = some (exo x (ca i) D) → x ≠ l := fun x D hx => ne_of hx hl2 (by intro z; exact absurd z (by unfold exo; intro z; cases z))
    have nd : ∀ (x : Addr) (L : List (Str × V)), H2 x = some (exd x L) → x ≠ l := fun x L hx => ne_of hx hl2 (by intro z; exact absurd z (by unfold exd; intro z; cases z))
    refine ⟨q, rfl, i, r, e, h1, h2, by rw [upd_ne nq]; exact h3, ⟨d, by rw [upd_ne (ne _ _ h4)]; exact h4, fun dd hd => ?_⟩, fun f v hf => ?_⟩
    · obtain ⟨L, hL⟩ := h5 dd hd
      exact ⟨L, by rw [upd_ne (nd _ _ hL)]; exact hL⟩
    · obtain ⟨dd, L, x1, x2, x3⟩ := h6 f v hf
      exact ⟨dd, L, by rw [upd_ne (ne _ _ x1)]; exact x1, by rw [upd_ne (nd _ _ x2)]; exact x2, x3⟩
  refine k _ (fun c o x => ?_) ⟨nw, _, upd_same, by rw [List.length_append]; exact Nat.succ_le_succ hv, fun u hu => ?_⟩
  · rw [upd_ne (fun z => by rw [z, nw] at x; cases x)]
    exact s2 _ _ (s1 _ _ x)
  · rcases List.mem_append.mp hu with z | z
    · exact old u ((ga u z).same s2)
    · obtain rfl := List.mem_singleton.mp z
      exact old _ gv
end
end E18
namespace E18
open PySem PySem.Spec PyProof.Rows L2
section
variable {P : Program} {w : World} {K : PySem.W.Frag} {mg : Str → Option Value} {base : Heap} {f : Addr} {fd : FuncData} {ca : Nat → Addr}

abbrev s_limits : Stmt := top 40
theorem sc_limits : FnScope ["_law_one", "_law_two", "_law_found"] ["_law_one", "_law_two"] (defScope s_limits) := ⟨rfl, rfl, rfl, by decide +kernel, rfl, by decide +kernel, by decide +kernel⟩
theorem ok_limits (F : Fun K "_law_limits" "_law_limits" s_limits f fd) (E : Errs P w K mg base ca) : FnOk P w K mg base CX0 3 f fd ["_law_one", "_law_two"] (spVals ca "arithmetic" 4) := by
  have sc := sc_limits
  refine F.ok sc (fun vs H Q E h => ?_) (fun cdv A outer s H vs Q E' hr h => ?_)
  · obtain ⟨one, two, rfl, _⟩ := h
    rfl
  · obtain ⟨one, two, rfl, q⟩ := h
    have hr2 : Room 2 _ := hr
    refine ⟨_, pss_cons (ps_set (i := 2) sc.nd rfl (Or.inl rfl) (pe_lst (pa_cons (pe_tup (pa_cons (pe_newE (ex29 E) (by decide) hr2 (by rfl) (pa_cons (pv 0) (pa_cons (pv 1) pa_nil)) pass0) (pa_cons pe_str pa_nil)))
        (pa_cons (pe_tup (pa_cons (pe_newK (ex29 E) hr2 (by rfl) (pk_cons (pv 1) (pk_cons (pv 0) pk_nil)) pass0) (pa_cons pe_str pa_nil)))
        pa_nil))))
      (pss_one (ps_ret (pe_op op_cat (pv 2) (pe_lst (pa_cons (pe_tup (pa_cons (pe_newE (ex30 E) (by decide) hr2 (by rfl) (pa_cons (pv 0) pa_nil) pass0) (pa_cons pe_str pa_nil)))
        (pa_cons (pe_tup (pa_cons (pe_newK (ex30 E) hr2 (by rfl) (pk_cons (pv 0) pk_nil) pass0) (pa_cons pe_str pa_nil)))
        pa_nil)))))), ?_⟩
    dsimp only [tSeq, tAsg, tRet, gName]
    refine y_lst (σ := [some one, some two, none]) (ca := ca) (one := one) (two := two) (b := "arithmetic") (ya_cons (y_e2 rfl rfl (i := 29) rfl) (ya_cons (y_k2 rfl rfl (i := 29) rfl) ya_nil)) (by decide) H _ fun l H1 s1 G => ?_
    exact y_cat (σ := [some one, some two, some (V.ref l)]) (ca := ca) (one := one) (two := two) (b := "arithmetic") (n := 2) (m := 2) (ya_cons (y_e1 rfl rfl (i := 30) rfl) (ya_cons (y_k1 rfl rfl (i := 30) rfl) ya_nil)) (by decide) rfl G s1 fun p H2 s2 G2 => q p H2 s2 G2
end
end E18
namespace E18
open PySem PySem.Spec PyProof.Rows L2
section
variable {P : Program} {w : World} {K : PySem.W.Frag} {mg : Str → Option Value} {base : Heap} {f : Addr} {fd : FuncData} {ca : Nat → Addr}

abbrev s_others : Stmt := top 38
theorem sc_others : FnScope ["_law_one", "_law_two", "_law_found"] ["_law_one", "_law_two"] (defScope s_others) := ⟨rfl, rfl, rfl, by decide +kernel, rfl, by decide +kernel, by decide +kernel⟩
theorem ok_others (F : Fun K "_law_others" "_law_others" s_others f fd) (E : Errs P w K mg base ca) : FnOk P w K mg base CX0 3 f fd ["_law_one", "_law_two"] (spVals ca "lookup" 10) := by
  have sc := sc_others
  refine F.ok sc (fun vs H Q E h => ?_) (fun cdv A outer s H vs Q E' hr h => ?_)
  · obtain ⟨one, two, rfl, _⟩ := h
    rfl
  · obtain ⟨one, two, rfl, q⟩ := h
    have hr2 : Room 2 _ := hr
    refine ⟨_, pss_cons (ps_set (i := 2) sc.nd rfl (Or.inl rfl) (pe_lst (pa_cons (pe_tup (pa_cons (pe_newE (ex15 E) (by decide) hr2 (by rfl) (pa_cons (pv 0) pa_nil) pass0) (pa_cons pe_str pa_nil)))
        (pa_cons (pe_tup (pa_cons (pe_newK (ex15 E) hr2 (by rfl) (pk_cons (pv 0) pk_nil) pass0) (pa_cons pe_str pa_nil)))
        (pa_cons (pe_tup (pa_cons (pe_newE (ex17 E) (by decide) hr2 (by rfl) (pa_cons (pv 0) pa_nil) pass0) (pa_cons pe_str pa_nil)))
        pa_nil)))))
      (pss_cons (ps_set (i := 2) sc.nd rfl (Or.inl rfl) (pe_op op_cat (pv 2) (pe_lst (pa_cons (pe_tup (pa_cons (pe_newK (ex17 E) hr2 (by rfl) (pk_cons (pv 0) pk_nil) pass0) (pa_cons pe_str pa_nil)))
        (pa_cons (pe_tup (pa_cons (pe_newE (ex18 E) (by decide) hr2 (by rfl) (pa_cons (pv 0) pa_nil) pass0) (pa_cons pe_str pa_nil)))
        (pa_cons (pe_tup (pa_cons (pe_newE (ex19 E) (by decide) hr2 (by rfl) (pa_cons (pv 0) pa_nil) pass0) (pa_cons pe_str pa_nil)))
        pa_nil))))))
      (pss_cons (ps_set (i := 2) sc.nd rfl (Or.inl rfl) (pe_op op_cat (pv 2) (pe_lst (pa_cons (pe_tup (pa_cons (pe_newK (ex18 E) hr2 (by rfl) (pk_cons (pv 0) pk_nil) pass0) (pa_cons pe_str pa_nil)))
        (pa_cons (pe_tup (pa_cons (pe_newK (ex19 E) hr2 (by rfl) (pk_cons (pv 0) pk_nil) pass0) (pa_cons pe_str pa_nil)))
        pa_nil)))))
      (pss_cons (ps_set (i := 2) sc.nd rfl (Or.inl rfl) (pe_op op_cat (pv 2) (pe_lst (pa_cons (pe_tup (pa_cons (pe_newE (ex16 E) (by decide) hr2 (by rfl) (pa_cons (pv 0) (pa_cons (pv 1) pa_nil)) pass0) (pa_cons pe_str pa_nil)))
        pa_nil))))
      (pss_one (ps_ret (pe_op op_cat (pv 2) (pe_lst (pa_cons (pe_tup (pa_cons (pe_newK (ex16 E) hr2 (by rfl) (pk_cons (pv 1) (pk_cons (pv 0) pk_nil)) pass0) (pa_cons pe_str pa_nil)))
        pa_nil)))))))), ?_⟩
    dsimp only [tSeq, tAsg, tRet, gName]
    refine y_lst (σ := [some one, some two, none]) (ca := ca) (one := one) (two := two) (b := "lookup") (ya_cons (y_e1 rfl rfl (i := 15) rfl) (ya_cons (y_k1 rfl rfl (i := 15) rfl) (ya_cons (y_e1 rfl rfl (i := 17) rfl) ya_nil))) (by decide) H _ fun l H1 s1 G => ?_
    refine y_cat (σ := [some one, some two, some (V.ref l)]) (ca := ca) (one := one) (two := two) (b := "lookup") (n := 3) (m := 3) (ya_cons (y_k1 rfl rfl (i := 17) rfl) (ya_cons (y_e1 rfl rfl (i := 18) rfl) (ya_cons (y_e1 rfl rfl (i := 19) rfl) ya_nil))) (by decide) rfl G s1 fun l H1 s1 G => ?_
    refine y_cat (σ := [some one, some two, some (V.ref l)]) (ca := ca) (one := one) (two := two) (b := "lookup") (n := 6) (m := 2) (ya_cons (y_k1 rfl rfl (i := 18) rfl) (ya_cons (y_k1 rfl rfl (i := 19) rfl) ya_nil)) (by decide) rfl G s1 fun l H1 s1 G => ?_
    refine y_cat (σ := [some one, some two, some (V.ref l)]) (ca := ca) (one := one) (two := two) (b := "lookup") (n := 8) (m := 1) (ya_cons (y_e2 rfl rfl (i := 16) rfl) ya_nil) (by decide) rfl G s1 fun l H1 s1 G => ?_
    exact y_cat (σ := [some one, some two, some (V.ref l)]) (ca := ca) (one := one) (two := two) (b := "lookup") (n := 9) (m := 1) (ya_cons (y_k2 rfl rfl (i := 16) rfl) ya_nil) (by decide) rfl G s1 fun p H2 s2 G2 => q p H2 s2 G2
end
end E18
namespace E18
open PySem PySem.Spec PyProof.Rows L2
section
variable {P : Program} {w : World} {K : PySem.W.Frag} {mg : Str → Option Value} {base : Heap} {f : Addr} {fd : FuncData} {ca : Nat → Addr}

abbrev s_refusals : Stmt := top 39
theorem sc_refusals : FnScope ["_law_one", "_law_two", "_law_found"] ["_law_one", "_law_two"] (defScope s_refusals) := ⟨rfl, rfl, rfl, by decide +kernel, rfl, by decide +kernel, by decide +kernel⟩
theorem ok_refusals (F : Fun K "_law_refusals" "_law_refusals" s_refusals f fd) (E : Errs P w K mg base ca) : FnOk P w K mg base CX0 3 f fd ["_law_one", "_law_two"] (spVals ca "runtime" 17) := by
  have sc := sc_refusals
  refine F.ok sc (fun vs H Q E h => ?_) (fun cdv A outer s H vs Q E' hr h => ?_)
  · obtain ⟨one, two, rfl, _⟩ := h
    rfl
  · obtain ⟨one, two, rfl, q⟩ := h
    have hr2 : Room 2 _ := hr
    refine ⟨_, pss_cons (ps_set (i := 2) sc.nd rfl (Or.inl rfl) (pe_lst (pa_cons (pe_tup (pa_cons (pe_newE (ex20 E) (by decide) hr2 (by rfl) (pa_cons (pv 0) pa_nil) pass0) (pa_cons pe_str pa_nil)))
        (pa_cons (pe_tup (pa_cons (pe_newK (ex20 E) hr2 (by rfl) (pk_cons (pv 0) pk_nil) pass0) (pa_cons pe_str pa_nil)))
        (pa_cons (pe_tup (pa_cons (pe_newE (ex21 E) (by decide) hr2 (by rfl) (pa_cons (pv 0) pa_nil) pass0) (pa_cons pe_str pa_nil)))
        pa_nil)))))
      (pss_cons (ps_set (i := 2) sc.nd rfl (Or.inl rfl) (pe_op op_cat (pv 2) (pe_lst (pa_cons (pe_tup (pa_cons (pe_newK (ex21 E) hr2 (by rfl) (pk_cons (pv 0) pk_nil) pass0) (pa_cons pe_str pa_nil)))
        (pa_cons (pe_tup (pa_cons (pe_newE (ex22 E) (by decide) hr2 (by rfl) (pa_cons (pv 0) (pa_cons (pv 1) pa_nil)) pass0) (pa_cons pe_str pa_nil)))
        pa_nil)))))
      (pss_cons (ps_set (i := 2) sc.nd rfl (Or.inl rfl) (pe_op op_cat (pv 2) (pe_lst (pa_cons (pe_tup (pa_cons (pe_newK (ex22 E) hr2 (by rfl) (pk_cons (pv 1) (pk_cons (pv 0) pk_nil)) pass0) (pa_cons pe_str pa_nil)))
        (pa_cons (pe_tup (pa_cons (pe_newE (ex23 E) (by decide) hr2 (by rfl) (pa_cons (pv 0) (pa_cons (pv 1) pa_nil)) pass0) (pa_cons pe_str pa_nil)))
        pa_nil)))))
      (pss_cons (ps_set (i := 2) sc.nd rfl (Or.inl rfl) (pe_op op_cat (pv 2) (pe_lst (pa_cons (pe_tup (pa_cons (pe_newK (ex23 E) hr2 (by rfl) (pk_cons (pv 1) (pk_cons (pv 0) pk_nil)) pass0) (pa_cons pe_str pa_nil)))
        (pa_cons (pe_tup (pa_cons (pe_newE (ex24 E) (by decide) hr2 (by rfl) (pa_cons (pv 0) pa_nil) pass0) (pa_cons pe_str pa_nil)))
        pa_nil)))))
      (pss_cons (ps_set (i := 2) sc.nd rfl (Or.inl rfl) (pe_op op_cat (pv 2) (pe_lst (pa_cons (pe_tup (pa_cons (pe_newK (ex24 E) hr2 (by rfl) (pk_cons (pv 0) pk_nil) pass0) (pa_cons pe_str pa_nil)))
        (pa_cons (pe_tup (pa_cons (pe_newE (ex25 E) (by decide) hr2 (by rfl) (pa_cons (pv 0) pa_nil) pass0) (pa_cons pe_str pa_nil)))
        (pa_cons (pe_tup (pa_cons (pe_newK (ex25 E) hr2 (by rfl) (pk_cons (pv 0) pk_nil) pass0) (pa_cons pe_str pa_nil)))
        pa_nil))))))
      (pss_cons (ps_set (i := 2) sc.nd rfl (Or.inl rfl) (pe_op op_cat (pv 2) (pe_lst (pa_cons (pe_tup (pa_cons (pe_newE (ex26 E) (by decide) hr2 (by rfl) (pa_cons (pv 0) pa_nil) pass0) (pa_cons pe_str pa_nil)))
        (pa_cons (pe_tup (pa_cons (pe_newK (ex26 E) hr2 (by rfl) (pk_cons (pv 0) pk_nil) pass0) (pa_cons pe_str pa_nil)))
        (pa_cons (pe_tup (pa_cons (pe_newE (ex27 E) (by decide) hr2 (by rfl) (pa_cons (pv 0) (pa_cons (pv 1) pa_nil)) pass0) (pa_cons pe_str pa_nil)))
        pa_nil))))))
      (pss_one (ps_ret (pe_op op_cat (pv 2) (pe_lst (pa_cons (pe_tup (pa_cons (pe_newK (ex27 E) hr2 (by rfl) (pk_cons (pv 1) (pk_cons (pv 0) pk_nil)) pass0) (pa_cons pe_str pa_nil)))
        (pa_cons (pe_tup (pa_cons (pe_newE0 (ex28 E) hr2 (by rfl) pass0) (pa_cons pe_str pa_nil)))
        pa_nil))))))))))), ?_⟩
    dsimp only [tSeq, tAsg, tRet, gName]
    refine y_lst (σ := [some one, some two, none]) (ca := ca) (one := one) (two := two) (b := "runtime") (ya_cons (y_e1 rfl rfl (i := 20) rfl) (ya_cons (y_k1 rfl rfl (i := 20) rfl) (ya_cons (y_e1 rfl rfl (i := 21) rfl) ya_nil))) (by decide) H _ fun l H1 s1 G => ?_
    refine y_cat (σ := [some one, some two, some (V.ref l)]) (ca := ca) (one := one) (two := two) (b := "runtime") (n := 3) (m := 2) (ya_cons (y_k1 rfl rfl (i := 21) rfl) (ya_cons (y_e2 rfl rfl (i := 22) rfl) ya_nil)) (by decide) rfl G s1 fun l H1 s1 G => ?_
    refine y_cat (σ := [some one, some two, some (V.ref l)]) (ca := ca) (one := one) (two := two) (b := "runtime") (n := 5) (m := 2) (ya_cons (y_k2 rfl rfl (i := 22) rfl) (ya_cons (y_e2 rfl rfl (i := 23) rfl) ya_nil)) (by decide) rfl G s1 fun l H1 s1 G => ?_
    refine y_cat (σ := [some one, some two, some (V.ref l)]) (ca := ca) (one := one) (two := two) (b := "runtime") (n := 7) (m := 2) (ya_cons (y_k2 rfl rfl (i := 23) rfl) (ya_cons (y_e1 rfl rfl (i := 24) rfl) ya_nil)) (by decide) rfl G s1 fun l H1 s1 G => ?_
    refine y_cat (σ := [some one, some two, some (V.ref l)]) (ca := ca) (one := one) (two := two) (b := "runtime") (n := 9) (m := 3) (ya_cons (y_k1 rfl rfl (i := 24) rfl) (ya_cons (y_e1 rfl rfl (i := 25) rfl) (ya_cons (y_k1 rfl rfl (i := 25) rfl) ya_nil))) (by decide) rfl G s1 fun l H1 s1 G => ?_
    refine y_cat (σ := [some one, some two, some (V.ref l)]) (ca := ca) (one := one) (two := two) (b := "runtime") (n := 12) (m := 3) (ya_cons (y_e1 rfl rfl (i := 26) rfl) (ya_cons (y_k1 rfl rfl (i := 26) rfl) (ya_cons (y_e2 rfl rfl (i := 27) rfl) ya_nil))) (by decide) rfl G s1 fun l H1 s1 G => ?_
    exact y_cat (σ := [some one, some two, some (V.ref l)]) (ca := ca) (one := one) (two := two) (b := "runtime") (n := 15) (m := 2) (ya_cons (y_k2 rfl rfl (i := 27) rfl) (ya_cons (y_e0 (i := 28) rfl) ya_nil)) (by decide) rfl G s1 fun p H2 s2 G2 => q p H2 s2 G2
end
end E18
namespace E18
open PySem PySem.Spec PyProof.Rows L2
section
variable {P : Program} {w : World} {K : PySem.W.Frag} {mg : Str → Option Value} {base : Heap} {f : Addr} {fd : FuncData} {ca : Nat → Addr}

abbrev s_values : Stmt := top 37
theorem sc_values : FnScope ["_law_one", "_law_two", "_law_found"] ["_law_one", "_law_two"] (defScope s_values) := ⟨rfl, rfl, rfl, by decide +kernel, rfl, by decide +kernel, by decide +kernel⟩
theorem ok_values (F : Fun K "_law_values" "_law_values" s_values f fd) (E : Errs P w K mg base ca) : FnOk P w K mg base CX0 3 f fd ["_law_one", "_law_two"] (spVals ca "value" 30) := by
  have sc := sc_values
  refine F.ok sc (fun vs H Q E h => ?_) (fun cdv A outer s H vs Q E' hr h => ?_)
  · obtain ⟨one, two, rfl, _⟩ := h
    rfl
  · obtain ⟨one, two, rfl, q⟩ := h
    have hr2 : Room 2 _ := hr
    refine ⟨_, pss_cons (ps_set (i := 2) sc.nd rfl (Or.inl rfl) (pe_lst (pa_cons (pe_tup (pa_cons (pe_newE (ex0 E) (by decide) hr2 (by rfl) (pa_cons (pv 0) pa_nil) pass0) (pa_cons pe_str pa_nil)))
        (pa_cons (pe_tup (pa_cons (pe_newK (ex0 E) hr2 (by rfl) (pk_cons (pv 0) pk_nil) pass0) (pa_cons pe_str pa_nil)))
        (pa_cons (pe_tup (pa_cons (pe_newE (ex1 E) (by decide) hr2 (by rfl) (pa_cons (pv 0) pa_nil) pass0) (pa_cons pe_str pa_nil)))
        pa_nil)))))
      (pss_cons (ps_set (i := 2) sc.nd rfl (Or.inl rfl) (pe_op op_cat (pv 2) (pe_lst (pa_cons (pe_tup (pa_cons (pe_newK (ex1 E) hr2 (by rfl) (pk_cons (pv 0) pk_nil) pass0) (pa_cons pe_str pa_nil)))
        (pa_cons (pe_tup (pa_cons (pe_newE (ex2 E) (by decide) hr2 (by rfl) (pa_cons (pv 0) pa_nil) pass0) (pa_cons pe_str pa_nil)))
        pa_nil)))))
      (pss_cons (ps_set (i := 2) sc.nd rfl (Or.inl rfl) (pe_op op_cat (pv 2) (pe_lst (pa_cons (pe_tup (pa_cons (pe_newK (ex2 E) hr2 (by rfl) (pk_cons (pv 0) pk_nil) pass0) (pa_cons pe_str pa_nil)))
        (pa_cons (pe_tup (pa_cons (pe_newE (ex3 E) (by decide) hr2 (by rfl) (pa_cons (pv 0) pa_nil) pass0) (pa_cons pe_str pa_nil)))
        pa_nil)))))
      (pss_cons (ps_set (i := 2) sc.nd rfl (Or.inl rfl) (pe_op op_cat (pv 2) (pe_lst (pa_cons (pe_tup (pa_cons (pe_newK (ex3 E) hr2 (by rfl) (pk_cons (pv 0) pk_nil) pass0) (pa_cons pe_str pa_nil)))
        (pa_cons (pe_tup (pa_cons (pe_newE (ex7 E) (by decide) hr2 (by rfl) (pa_cons (pv 0) pa_nil) pass0) (pa_cons pe_str pa_nil)))
        pa_nil)))))
      (pss_cons (ps_set (i := 2) sc.nd rfl (Or.inl rfl) (pe_op op_cat (pv 2) (pe_lst (pa_cons (pe_tup (pa_cons (pe_newK (ex7 E) hr2 (by rfl) (pk_cons (pv 0) pk_nil) pass0) (pa_cons pe_str pa_nil)))
        (pa_cons (pe_tup (pa_cons (pe_newE (ex8 E) (by decide) hr2 (by rfl) (pa_cons (pv 0) pa_nil) pass0) (pa_cons pe_str pa_nil)))
        (pa_cons (pe_tup (pa_cons (pe_newE (ex10 E) (by decide) hr2 (by rfl) (pa_cons (pv 0) pa_nil) pass0) (pa_cons pe_str pa_nil)))
        pa_nil))))))
      (pss_cons (ps_set (i := 2) sc.nd rfl (Or.inl rfl) (pe_op op_cat (pv 2) (pe_lst (pa_cons (pe_tup (pa_cons (pe_newK (ex8 E) hr2 (by rfl) (pk_cons (pv 0) pk_nil) pass0) (pa_cons pe_str pa_nil)))
        (pa_cons (pe_tup (pa_cons (pe_newK (ex10 E) hr2 (by rfl) (pk_cons (pv 0) pk_nil) pass0) (pa_cons pe_str pa_nil)))
        pa_nil)))))
      (pss_cons (ps_set (i := 2) sc.nd rfl (Or.inl rfl) (pe_op op_cat (pv 2) (pe_lst (pa_cons (pe_tup (pa_cons (pe_newE (ex11 E) (by decide) hr2 (by rfl) (pa_cons (pv 0) pa_nil) pass0) (pa_cons pe_str pa_nil)))
        (pa_cons (pe_tup (pa_cons (pe_newK (ex11 E) hr2 (by rfl) (pk_cons (pv 0) pk_nil) pass0) (pa_cons pe_str pa_nil)))
        (pa_cons (pe_tup (pa_cons (pe_newE (ex13 E) (by decide) hr2 (by rfl) (pa_cons (pv 0) pa_nil) pass0) (pa_cons pe_str pa_nil)))
        pa_nil))))))
      (pss_cons (ps_set (i := 2) sc.nd rfl (Or.inl rfl) (pe_op op_cat (pv 2) (pe_lst (pa_cons (pe_tup (pa_cons (pe_newK (ex13 E) hr2 (by rfl) (pk_cons (pv 0) pk_nil) pass0) (pa_cons pe_str pa_nil)))
        (pa_cons (pe_tup (pa_cons (pe_newE (ex14 E) (by decide) hr2 (by rfl) (pa_cons (pv 0) pa_nil) pass0) (pa_cons pe_str pa_nil)))
        pa_nil)))))
      (pss_cons (ps_expr (pe_bm PySem.F.plainAttrs_list PySem.F.slot_list_append PySem.F.type_list_append mt_append (pv 2) (pa_cons (pe_tup (pa_cons (pe_newK (ex14 E) hr2 (by rfl) (pk_cons (pv 0) pk_nil) pass0) (pa_cons pe_str pa_nil))) pa_nil)))
      (pss_cons (ps_set (i := 2) sc.nd rfl (Or.inl rfl) (pe_op op_cat (pv 2) (pe_lst (pa_cons (pe_tup (pa_cons (pe_newE (ex4 E) (by decide) hr2 (by rfl) (pa_cons (pv 0) pa_nil) pass0) (pa_cons pe_str pa_nil)))
        (pa_cons (pe_tup (pa_cons (pe_newK (ex4 E) hr2 (by rfl) (pk_cons (pv 0) pk_nil) pass0) (pa_cons pe_str pa_nil)))
        pa_nil)))))
      (pss_cons (ps_set (i := 2) sc.nd rfl (Or.inl rfl) (pe_op op_cat (pv 2) (pe_lst (pa_cons (pe_tup (pa_cons (pe_newE (ex5 E) (by decide) hr2 (by rfl) (pa_cons (pv 0) pa_nil) pass0) (pa_cons pe_str pa_nil)))
        (pa_cons (pe_tup (pa_cons (pe_newK (ex5 E) hr2 (by rfl) (pk_cons (pv 0) pk_nil) pass0) (pa_cons pe_str pa_nil)))
        pa_nil)))))
      (pss_cons (ps_set (i := 2) sc.nd rfl (Or.inl rfl) (pe_op op_cat (pv 2) (pe_lst (pa_cons (pe_tup (pa_cons (pe_newE (ex12 E) (by decide) hr2 (by rfl) (pa_cons (pv 0) pa_nil) pass0) (pa_cons pe_str pa_nil)))
        (pa_cons (pe_tup (pa_cons (pe_newK (ex12 E) hr2 (by rfl) (pk_cons (pv 0) pk_nil) pass0) (pa_cons pe_str pa_nil)))
        pa_nil)))))
      (pss_cons (ps_set (i := 2) sc.nd rfl (Or.inl rfl) (pe_op op_cat (pv 2) (pe_lst (pa_cons (pe_tup (pa_cons (pe_newE (ex6 E) (by decide) hr2 (by rfl) (pa_cons (pv 0) (pa_cons (pv 1) pa_nil)) pass0) (pa_cons pe_str pa_nil)))
        (pa_cons (pe_tup (pa_cons (pe_newK (ex6 E) hr2 (by rfl) (pk_cons (pv 1) (pk_cons (pv 0) pk_nil)) pass0) (pa_cons pe_str pa_nil)))
        pa_nil)))))
      (pss_cons (ps_expr (pe_bm PySem.F.plainAttrs_list PySem.F.slot_list_append PySem.F.type_list_append mt_append (pv 2) (pa_cons (pe_tup (pa_cons (pe_newE (ex9 E) (by decide) hr2 (by rfl) (pa_cons (pv 0) (pa_cons (pv 1) pa_nil)) pass0) (pa_cons pe_str pa_nil))) pa_nil)))
      (pss_one (ps_ret (pe_op op_cat (pv 2) (pe_lst (pa_cons (pe_tup (pa_cons (pe_newK (ex9 E) hr2 (by rfl) (pk_cons (pv 1) (pk_cons (pv 0) pk_nil)) pass0) (pa_cons pe_str pa_nil)))
        pa_nil)))))))))))))))))), ?_⟩
    dsimp only [tSeq, tAsg, tRet, gName]
    refine y_lst (σ := [some one, some two, none]) (ca := ca) (one := one) (two := two) (b := "value") (ya_cons (y_e1 rfl rfl (i := 0) rfl) (ya_cons (y_k1 rfl rfl (i := 0) rfl) (ya_cons (y_e1 rfl rfl (i := 1) rfl) ya_nil))) (by decide) H _ fun l H1 s1 G => ?_
    refine y_cat (σ := [some one, some two, some (V.ref l)]) (ca := ca) (one := one) (two := two) (b := "value") (n := 3) (m := 2) (ya_cons (y_k1 rfl rfl (i := 1) rfl) (ya_cons (y_e1 rfl rfl (i := 2) rfl) ya_nil)) (by decide) rfl G s1 fun l H1 s1 G => ?_
    refine y_cat (σ := [some one, some two, some (V.ref l)]) (ca := ca) (one := one) (two := two) (b := "value") (n := 5) (m := 2) (ya_cons (y_k1 rfl rfl (i := 2) rfl) (ya_cons (y_e1 rfl rfl (i := 3) rfl) ya_nil)) (by decide) rfl G s1 fun l H1 s1 G => ?_
    refine y_cat (σ := [some one, some two, some (V.ref l)]) (ca := ca) (one := one) (two := two) (b := "value") (n := 7) (m := 2) (ya_cons (y_k1 rfl rfl (i := 3) rfl) (ya_cons (y_e1 rfl rfl (i := 7) rfl) ya_nil)) (by decide) rfl G s1 fun l H1 s1 G => ?_
    refine y_cat (σ := [some one, some two, some (V.ref l)]) (ca := ca) (one := one) (two := two) (b := "value") (n := 9) (m := 3) (ya_cons (y_k1 rfl rfl (i := 7) rfl) (ya_cons (y_e1 rfl rfl (i := 8) rfl) (ya_cons (y_e1 rfl rfl (i := 10) rfl) ya_nil))) (by decide) rfl G s1 fun l H1 s1 G => ?_
    refine y_cat (σ := [some one, some two, some (V.ref l)]) (ca := ca) (one := one) (two := two) (b := "value") (n := 12) (m := 2) (ya_cons (y_k1 rfl rfl (i := 8) rfl) (ya_cons (y_k1 rfl rfl (i := 10) rfl) ya_nil)) (by decide) rfl G s1 fun l H1 s1 G => ?_
    refine y_cat (σ := [some one, some two, some (V.ref l)]) (ca := ca) (one := one) (two := two) (b := "value") (n := 14) (m := 3) (ya_cons (y_e1 rfl rfl (i := 11) rfl) (ya_cons (y_k1 rfl rfl (i := 11) rfl) (ya_cons (y_e1 rfl rfl (i := 13) rfl) ya_nil))) (by decide) rfl G s1 fun l H1 s1 G => ?_
    refine y_cat (σ := [some one, some two, some (V.ref l)]) (ca := ca) (one := one) (two := two) (b := "value") (n := 17) (m := 2) (ya_cons (y_k1 rfl rfl (i := 13) rfl) (ya_cons (y_e1 rfl rfl (i := 14) rfl) ya_nil)) (by decide) rfl G s1 fun l H1 s1 G => ?_
    refine y_app (σ := [some one, some two, some (V.ref l)]) (ca := ca) (one := one) (two := two) (b := "value") (n := 19) (y_k1 rfl rfl (i := 14) rfl) (by decide) rfl G s1 fun H1 s1 G => ?_
    refine y_cat (σ := [some one, some two, some (V.ref l)]) (ca := ca) (one := one) (two := two) (b := "value") (n := 20) (m := 2) (ya_cons (y_e1 rfl rfl (i := 4) rfl) (ya_cons (y_k1 rfl rfl (i := 4) rfl) ya_nil)) (by decide) rfl G s1 fun l H1 s1 G => ?_
    refine y_cat (σ := [some one, some two, some (V.ref l)]) (ca := ca) (one := one) (two := two) (b := "value") (n := 22) (m := 2) (ya_cons (y_e1 rfl rfl (i := 5) rfl) (ya_cons (y_k1 rfl rfl (i := 5) rfl) ya_nil)) (by decide) rfl G s1 fun l H1 s1 G => ?_
    refine y_cat (σ := [some one, some two, some (V.ref l)]) (ca := ca) (one := one) (two := two) (b := "value") (n := 24) (m := 2) (ya_cons (y_e1 rfl rfl (i := 12) rfl) (ya_cons (y_k1 rfl rfl (i := 12) rfl) ya_nil)) (by decide) rfl G s1 fun l H1 s1 G => ?_
    refine y_cat (σ := [some one, some two, some (V.ref l)]) (ca := ca) (one := one) (two := two) (b := "value") (n := 26) (m := 2) (ya_cons (y_e2 rfl rfl (i := 6) rfl) (ya_cons (y_k2 rfl rfl (i := 6) rfl) ya_nil)) (by decide) rfl G s1 fun l H1 s1 G => ?_
    refine y_app (σ := [some one, some two, some (V.ref l)]) (ca := ca) (one := one) (two := two) (b := "value") (n := 28) (y_e2 rfl rfl (i := 9) rfl) (by decide) rfl G s1 fun H1 s1 G => ?_
    exact y_cat (σ := [some one, some two, some (V.ref l)]) (ca := ca) (one := one) (two := two) (b := "value") (n := 29) (m := 1) (ya_cons (y_k2 rfl rfl (i := 9) rfl) ya_nil) (by decide) rfl G s1 fun p H2 s2 G2 => q p H2 s2 G2
end
end E18
namespace E18
open PySem PySem.Spec PyProof.Rows L2
def names15 : List Str := ["value", "position", "line", "label", "problem", "row", "package", "version", "user", "used", "path", "other", "kind", "limit", "name"]
/-- no class of errors says anything under the name of a field -/
def NoNames (K : PySem.W.Frag) (C : Addr) : Prop := ∀ g ∈ names15, PySem.W.findIn K (.ref C) g = some none
abbrev sField : Stmt := top 41
def spField (K : PySem.W.Frag) : Sp := fun vs H Q _ => ∃ (e C : Addr) (kvs : List (Str × V)) (f : Str) (v : V), vs = [.ref e, .str f] ∧ OexG K C ∧ NoNames K C ∧ ErrAt H e C kvs ∧ kvs.lookup f = some v ∧ f ∈ names15 ∧ ∀ H', Same H H' → Q v H'
theorem scField : FnScope ["_law_error", "_law_word"] ["_law_error", "_law_word"] (defScope sField) := ⟨rfl, rfl, rfl, by decide +kernel, rfl, by decide +kernel, by decide +kernel⟩
section
variable {K : PySem.W.Frag} {σ : L2.St} {H : Hp} {e C : Addr} {f a b : Str} {v : V} {kvs : List (Str × V)} {D : Ends}
theorem field_get (T : OexG K C) (hf : PySem.W.findIn K (.ref C) a = some none) (s0 : σ[0]? = some (some (.ref e))) (E : ErrAt H e C kvs) (l : kvs.lookup a = some v) {Q : VK} (q : Q v H) : tXat K a (tVar 0) σ H Q :=
  ⟨_, s0, e, C, kvs, v, rfl, T, hf, E, l, q⟩
/-- one row of the def -/
theorem field_step (T : OexG K C) (N : NoNames K C) (s0 : σ[0]? = some (some (.ref e))) (s1 : σ[1]? = some (some (.str f))) (E : ErrAt H e C kvs) (l : kvs.lookup f = some v) (ha : a ∈ names15) (hb : b ∈ names15)
    (rt : (f = a ∨ f = b) → ∀ H', Same H H' → D.rt v H') (nx : f ≠ a → f ≠ b → ∀ H', Same H H' → D.nx σ H') :
    tIfS (tTest (tOp (rIn K false) (tVar 1) (tTup (tCons (tC (.str a)) (tCons (tC (.str b)) tNil))))) (tRet (tIf (tTest (tOp rEq (tVar 1) (tC (.str a)))) (tXat K a (tVar 0)) (tXat K b (tVar 0)))) tNext D σ H := by
  refine ⟨_, s1, (by show 2 ≤ sizeLine; decide), fun p hp => ?_⟩
  have s2 : Same H (upd H p (.tup [.str a, .str b])) := fun c o x => by
    rw [upd_ne (ne_of_none x hp)]
    exact x
  have E2 := E.same s2
  have ein : inV (.str f) [.str a, .str b] = (decide (a = f) || (decide (b = f) || false)) := rfl
  refine ⟨p, _, rfl, .inr (.inl (.inl upd_same)), rfl, rfl, _, rfl, ?_⟩
  show if inV (.str f) [.str a, .str b] = true then _ else _
  rw [ein]
  by_cases h1 : a = f
  · subst h1
    rw [decide_eq_true rfl]
    refine ⟨_, s1, rfl, _, rfl, ?_⟩
    exact ite2 (fun _ => field_get T (N _ ha) s0 E2 l (rt (.inl rfl) _ s2)) (fun h => (h (decide_eq_true rfl)).elim)
  · rw [decide_eq_false h1]
    by_cases h2 : b = f
    · subst h2
      rw [decide_eq_true rfl]
      refine ⟨_, s1, rfl, _, rfl, ?_⟩
      exact ite2 (fun h => (h1 (V.str.inj (of_decide_eq_true h)).symm).elim) (fun _ => field_get T (N _ hb) s0 E2 l (rt (.inr rfl) _ s2))
    · rw [decide_eq_false h2]
      exact nx (fun z => h1 z.symm) (fun z => h2 z.symm) _ s2
end
section
variable {P : Program} {w : World} {K : PySem.W.Frag} {mg : Str → Option Value} {base : Heap} {f : Addr} {fd : FuncData}
theorem ok_field (F : Fun K "_law_field" "_law_field" sField f fd) : FnOk P w K mg base CX0 1 f fd ["_law_error", "_law_word"] (spField K) := by
  refine F.ok scField (fun vs H Q E h => ?_) (fun cdv A outer s H vs Q E' hr h => ?_)
  · obtain ⟨e, C, kvs, g, v, rfl, _⟩ := h
    rfl
  · obtain ⟨e, C, kvs, g, v, rfl, T, N, E, l, hg, q⟩ := h
    have row : ∀ (a b : Str) {X : Cx}, True := fun _ _ _ => trivial
    refine ⟨_, pss_cons (ps_if (pt_cmpR op_in_seq (pv 1) (pe_tup (pa_cons pe_str (pa_cons pe_str pa_nil))) rfl) (pss_one (ps_ret (pe_ifExp (pt_cmpR op_eq (pv 1) pe_str (nomark _)) (pe_xat (pv 0)) (pe_xat (pv 0))))) pss_nil)
      (pss_cons (ps_if (pt_cmpR op_in_seq (pv 1) (pe_tup (pa_cons pe_str (pa_cons pe_str pa_nil))) rfl) (pss_one (ps_ret (pe_ifExp (pt_cmpR op_eq (pv 1) pe_str (nomark _)) (pe_xat (pv 0)) (pe_xat (pv 0))))) pss_nil)
      (pss_cons (ps_if (pt_cmpR op_in_seq (pv 1) (pe_tup (pa_cons pe_str (pa_cons pe_str pa_nil))) rfl) (pss_one (ps_ret (pe_ifExp (pt_cmpR op_eq (pv 1) pe_str (nomark _)) (pe_xat (pv 0)) (pe_xat (pv 0))))) pss_nil)
      (pss_cons (ps_if (pt_cmpR op_in_seq (pv 1) (pe_tup (pa_cons pe_str (pa_cons pe_str pa_nil))) rfl) (pss_one (ps_ret (pe_ifExp (pt_cmpR op_eq (pv 1) pe_str (nomark _)) (pe_xat (pv 0)) (pe_xat (pv 0))))) pss_nil)
      (pss_cons (ps_if (pt_cmpR op_in_seq (pv 1) (pe_tup (pa_cons pe_str (pa_cons pe_str pa_nil))) rfl) (pss_one (ps_ret (pe_ifExp (pt_cmpR op_eq (pv 1) pe_str (nomark _)) (pe_xat (pv 0)) (pe_xat (pv 0))))) pss_nil)
      (pss_cons (ps_if (pt_cmpR op_in_seq (pv 1) (pe_tup (pa_cons pe_str (pa_cons pe_str pa_nil))) rfl) (pss_one (ps_ret (pe_ifExp (pt_cmpR op_eq (pv 1) pe_str (nomark _)) (pe_xat (pv 0)) (pe_xat (pv 0))))) pss_nil)
      (pss_cons (ps_if (pt_cmpR op_in_seq (pv 1) (pe_tup (pa_cons pe_str (pa_cons pe_str pa_nil))) rfl) (pss_one (ps_ret (pe_ifExp (pt_cmpR op_eq (pv 1) pe_str (nomark _)) (pe_xat (pv 0)) (pe_xat (pv 0))))) pss_nil)
      (pss_one (ps_ret (pe_xat (pv 0)))))))))), ?_⟩
    have s0 : (start ["_law_error", "_law_word"] [V.ref e, V.str g])[0]? = some (some (V.ref e)) := rfl
    have s1 : (start ["_law_error", "_law_word"] [V.ref e, V.str g])[1]? = some (some (V.str g)) := rfl
    dsimp only [tSeq]
    refine field_step T N s0 s1 E l (by decide +kernel) (by decide +kernel) (fun _ H' s => q H' s) fun a1 a2 H1 t1 => ?_
    refine field_step T N s0 s1 (E.same t1) l (by decide +kernel) (by decide +kernel) (fun _ H' s => q H' (t1.trans s)) fun b1 b2 H2 t2 => ?_
    have t2 := t1.trans t2
    refine field_step T N s0 s1 (E.same t2) l (by decide +kernel) (by decide +kernel) (fun _ H' s => q H' (t2.trans s)) fun c1 c2 H3 t3 => ?_
    have t3 := t2.trans t3
    refine field_step T N s0 s1 (E.same t3) l (by decide +kernel) (by decide +kernel) (fun _ H' s => q H' (t3.trans s)) fun d1 d2 H4 t4 => ?_
    have t4 := t3.trans t4
    refine field_step T N s0 s1 (E.same t4) l (by decide +kernel) (by decide +kernel) (fun _ H' s => q H' (t4.trans s)) fun e1 e2 H5 t5 => ?_
    have t5 := t4.trans t5
    refine field_step T N s0 s1 (E.same t5) l (by decide +kernel) (by decide +kernel) (fun _ H' s => q H' (t5.trans s)) fun f1 f2 H6 t6 => ?_
    have t6 := t5.trans t6
    refine field_step T N s0 s1 (E.same t6) l (by decide +kernel) (by decide +kernel) (fun _ H' s => q H' (t6.trans s)) fun g1 g2 H7 t7 => ?_
    have t7 := t6.trans t7
    have eg : g = "name" := by
      simp only [names15, List.mem_cons, List.mem_nil_iff, or_false] at hg
      rcases hg with h | h | h | h | h | h | h | h | h | h | h | h | h | h | h
      all_goals first | exact absurd h (by assumption) | exact h
    subst eg
    exact field_get T (N _ hg) s0 (E.same t7) l (q _ t7)
end
end E18
namespace E18
open PySem PySem.Spec PyProof.Rows L2
/-- what isinstance says of the classes: of each other, of their bases, of the built-in ones beside; cL: LinkError -/
structure Isa (K : PySem.W.Frag) (ca : Nat → Addr) (cL : Addr) : Prop where
  own : ∀ i j, i < 31 → j < 31 → PySem.W.kitOne K (.ref (ca i)) (.ref (ca j)) = some (decide (i = j))
  link : ∀ i r, tab[i]? = some r → PySem.W.kitOne K (.ref (ca i)) (.ref cL) = some (decide (r.base = ("value" : Str)))
  ve : ∀ i r, tab[i]? = some r → PySem.W.kitOne K (.ref (ca i)) (.type "ValueError") = some (decide (r.base = ("value" : Str)))
  le : ∀ i r, tab[i]? = some r → PySem.W.kitOne K (.ref (ca i)) (.type "LookupError") = some (decide (r.base = ("lookup" : Str)))
  re : ∀ i r, tab[i]? = some r → PySem.W.kitOne K (.ref (ca i)) (.type "RuntimeError") = some (decide (r.base = ("runtime" : Str)))
  ae : ∀ i r, tab[i]? = some r → PySem.W.kitOne K (.ref (ca i)) (.type "ArithmeticError") = some (decide (r.base = ("arithmetic" : Str)))
  non : ∀ i, i < 31 → PySem.W.kitAny K (.ref (ca i)) [.type "KeyError", .type "IndexError", .type "NotImplementedError", .type "OverflowError", .type "ZeroDivisionError"] = some false
theorem tab_lt {i : Nat} {r : Row} (h : tab[i]? = some r) : i < 31 := by
  have z := (List.getElem?_eq_some_iff.mp h).1
  exact z
/-! ### lists of truths -/
/-- at l: these truths, new since H0 -/
structure BL (bs : List Bool) (H0 H : Hp) (l : Addr) : Prop where
  new : H0 l = none
  ls : H l = some (.lst (bs.map V.bl))
section
variable {I : Hp → Prop} {σ : L2.St} {te : TE} {ta : TA} {b : Bool} {bs cs : List Bool} {H0 H : Hp} {l : Addr} {n : Nat}
/-- a truth, wherever I holds; nothing changes -/
def YB (I : Hp → Prop) (σ : L2.St) (te : TE) (b : Bool) : Prop := ∀ (H : Hp) (Q : VK), I H → Q (.bl b) H → te σ H Q
def YBs (I : Hp → Prop) (σ : L2.St) (ta : TA) (bs : List Bool) : Prop := ∀ (H : Hp) (Q : List V → Hp → Prop), I H → Q (bs.map V.bl) H → ta σ H Q
theorem ybs_nil : YBs I σ tNil [] := fun H Q _ q => q
theorem ybs_cons (y : YB I σ te b) (ys : YBs I σ ta bs) : YBs I σ (tCons te ta) (b :: bs) := fun H Q i q => y H _ i (ys H _ i q)
theorem yb_lst (ys : YBs I σ ta bs) (hn : bs.length ≤ 1000) (i : I H) {Q : VK} (k : ∀ p H2, Same H H2 → BL bs H H2 p → Q (.ref p) H2) : tLst ta σ H Q := by
  refine ys H _ i ⟨by rw [List.length_map, sizeLine_eq]; omega, fun p hp => ?_⟩
  refine k p _ (fun c o x => ?_) ⟨hp, upd_same⟩
  rw [upd_ne (ne_of_none x hp)]
  exact x
theorem yb_cat {s : Nat} (ys : YBs I σ ta cs) (hn : bs.length + cs.length ≤ 1000) (i : I H) (hσ : σ[s]? = some (some (.ref l))) (B : BL bs H0 H l) (s1 : Same H0 H) {Q : VK} (k : ∀ p H2, Same H0 H2 → BL (bs ++ cs) H0 H2 p → Q (.ref p) H2) :
    tOp rCat (tVar s) (tLst ta) σ H Q := by
  refine ⟨_, hσ, yb_lst ys (by omega) i fun p H2 s2 B2 => ?_⟩
  refine ⟨l, p, _, _, rfl, rfl, s2 _ _ B.ls, B2.ls, by rw [List.length_map, List.length_map, sizeLine_eq]; omega, fun r hr => ?_⟩
  have s3 : Same H2 (upd H2 r (.lst (bs.map V.bl ++ cs.map V.bl))) := fun c o x => by
    rw [upd_ne (ne_of_none x hr)]
    exact x
  exact k r _ ((s1.trans s2).trans s3) ⟨(s1.trans s2).free hr, by rw [List.map_append]; exact upd_same⟩
end
section
variable {K : PySem.W.Frag} {ca : Nat → Addr} {cL : Addr} {σ : L2.St} {e : Addr} {i j : Nat} {kvs : List (Str × V)} {b : Bool}
theorem yb_own (S : Isa K ca cL) (T : OexG K (ca i)) (h0 : σ[0]? = some (some (.ref e))) (hi : i < 31) (hj : j < 31) :
    YB (fun H => ErrAt H e (ca i) kvs) σ (tCB (rIsX K) (tCons (tVar 0) (tCons (tC (.ref (ca j))) tNil))) (decide (i = j)) := fun H Q E q =>
  ⟨_, h0, e, ca i, kvs, .ref (ca j), .ref (ca j), _, rfl, .own _, T, E, S.own i j hi hj, q⟩
theorem yb_any {C : Addr} (hc : PySem.W.kitOne K (.ref (ca i)) (.ref C) = some b) (T : OexG K (ca i)) (h0 : σ[0]? = some (some (.ref e))) :
    YB (fun H => ErrAt H e (ca i) kvs) σ (tCB (rIsX K) (tCons (tVar 0) (tCons (tC (.ref C)) tNil))) b := fun H Q E q => ⟨_, h0, e, ca i, kvs, .ref C, .ref C, _, rfl, .own _, T, E, hc, q⟩
theorem yb_ty {n : String} (hc : PySem.W.kitOne K (.ref (ca i)) (.type n) = some b) (T : OexG K (ca i)) (h0 : σ[0]? = some (some (.ref e))) :
    YB (fun H => ErrAt H e (ca i) kvs) σ (tCB (rIsX K) (tCons (tVar 0) (tCons (tC (.ty n)) tNil))) b := fun H Q E q => ⟨_, h0, e, ca i, kvs, .ty n, .type n, _, rfl, .ty n, T, E, hc, q⟩
end
abbrev sClasses : Stmt := top 42
abbrev sBases : Stmt := top 43
def spClasses (ca : Nat → Addr) : Sp := fun vs H Q _ => ∃ (e : Addr) (i : Nat) (kvs : List (Str × V)), vs = [.ref e] ∧ i < 31 ∧ ErrAt H e (ca i) kvs ∧ ∀ H', Same H H' → Q (.int 1) H'
theorem scClasses : FnScope ["_law_e", "_law_found", "_law_one"] ["_law_e"] (defScope sClasses) := ⟨rfl, rfl, rfl, by decide +kernel, rfl, by decide +kernel, by decide +kernel⟩
/-- the truths of the 31 classes, asked of the i-th one -/
def bits (i : Nat) : List Bool := (List.range 31).map fun j => decide (i = j)
theorem bits_len (i : Nat) : (bits i).length = 31 := by unfold bits; rw [List.length_map, List.length_range]
theorem bits_sum : ∀ i, i < 31 → (((bits i).map fun b => if b = true then (1 : Int) else 0)).sum = 1 := by decide +kernel
section
variable {P : Program} {w : World} {K : PySem.W.Frag} {mg : Str → Option Value} {base : Heap} {f : Addr} {fd : FuncData} {ca : Nat → Addr} {cL : Addr}

theorem ok_classes (F : Fun K "_law_classes" "_law_classes" sClasses f fd) (B : Blt mg) (G : GetC K) (E : Errs P w K mg base ca) (S : Isa K ca cL) : FnOk P w K mg base CX0 1 f fd ["_law_e"] (spClasses ca) := by
  have sc := scClasses
  refine F.ok sc (fun vs H Q E h => ?_) (fun cdv A outer s H vs Q E' hr h => ?_)
  · obtain ⟨e, i, kvs, rfl, _⟩ := h
    rfl
  · obtain ⟨e, i, kvs, rfl, hi, E0, q⟩ := h
    have T : OexG K (ca i) := by
      obtain ⟨r, hr⟩ : ∃ r, tab[i]? = some r := ⟨_, List.getElem?_eq_getElem hi⟩
      exact (E.ex i r hr).T
    refine ⟨_, pss_cons (ps_set (i := 1) sc.nd rfl (Or.inl rfl) (pe_lst (pa_cons (pe_callB (call_isX G) (by rfl) B.isinstance boot_isinstance (pa_cons (pv 0) (pa_cons (pe_glob (v := .ref (ca 0)) (by rfl) (ex0 E).gC rfl) pa_nil))) (pa_cons (pe_callB (call_isX G) (by rfl) B.isinstance boot_isinstance (pa_cons (pv 0) (pa_cons (pe_glob (v := .ref (ca 1)) (by rfl) (ex1 E).gC rfl) pa_nil))) (pa_cons (pe_callB (call_isX G) (by rfl) B.isinstance boot_isinstance (pa_cons (pv 0) (pa_cons (pe_glob (v := .ref (ca 2)) (by rfl) (ex2 E).gC rfl) pa_nil))) pa_nil)))))
      (pss_cons (ps_set (i := 1) sc.nd rfl (Or.inl rfl) (pe_op op_cat (pv 1) (pe_lst (pa_cons (pe_callB (call_isX G) (by rfl) B.isinstance boot_isinstance (pa_cons (pv 0) (pa_cons (pe_glob (v := .ref (ca 3)) (by rfl) (ex3 E).gC rfl) pa_nil))) (pa_cons (pe_callB (call_isX G) (by rfl) B.isinstance boot_isinstance (pa_cons (pv 0) (pa_cons (pe_glob (v := .ref (ca 4)) (by rfl) (ex4 E).gC rfl) pa_nil))) (pa_cons (pe_callB (call_isX G) (by rfl) B.isinstance boot_isinstance (pa_cons (pv 0) (pa_cons (pe_glob (v := .ref (ca 5)) (by rfl) (ex5 E).gC rfl) pa_nil))) pa_nil))))))
      (pss_cons (ps_set (i := 1) sc.nd rfl (Or.inl rfl) (pe_op op_cat (pv 1) (pe_lst (pa_cons (pe_callB (call_isX G) (by rfl) B.isinstance boot_isinstance (pa_cons (pv 0) (pa_cons (pe_glob (v := .ref (ca 6)) (by rfl) (ex6 E).gC rfl) pa_nil))) (pa_cons (pe_callB (call_isX G) (by rfl) B.isinstance boot_isinstance (pa_cons (pv 0) (pa_cons (pe_glob (v := .ref (ca 7)) (by rfl) (ex7 E).gC rfl) pa_nil))) (pa_cons (pe_callB (call_isX G) (by rfl) B.isinstance boot_isinstance (pa_cons (pv 0) (pa_cons (pe_glob (v := .ref (ca 8)) (by rfl) (ex8 E).gC rfl) pa_nil))) pa_nil))))))
      (pss_cons (ps_set (i := 1) sc.nd rfl (Or.inl rfl) (pe_op op_cat (pv 1) (pe_lst (pa_cons (pe_callB (call_isX G) (by rfl) B.isinstance boot_isinstance (pa_cons (pv 0) (pa_cons (pe_glob (v := .ref (ca 9)) (by rfl) (ex9 E).gC rfl) pa_nil))) (pa_cons (pe_callB (call_isX G) (by rfl) B.isinstance boot_isinstance (pa_cons (pv 0) (pa_cons (pe_glob (v := .ref (ca 10)) (by rfl) (ex10 E).gC rfl) pa_nil))) (pa_cons (pe_callB (call_isX G) (by rfl) B.isinstance boot_isinstance (pa_cons (pv 0) (pa_cons (pe_glob (v := .ref (ca 11)) (by rfl) (ex11 E).gC rfl) pa_nil))) pa_nil))))))
      (pss_cons (ps_set (i := 1) sc.nd rfl (Or.inl rfl) (pe_op op_cat (pv 1) (pe_lst (pa_cons (pe_callB (call_isX G) (by rfl) B.isinstance boot_isinstance (pa_cons (pv 0) (pa_cons (pe_glob (v := .ref (ca 12)) (by rfl) (ex12 E).gC rfl) pa_nil))) (pa_cons (pe_callB (call_isX G) (by rfl) B.isinstance boot_isinstance (pa_cons (pv 0) (pa_cons (pe_glob (v := .ref (ca 13)) (by rfl) (ex13 E).gC rfl) pa_nil))) (pa_cons (pe_callB (call_isX G) (by rfl) B.isinstance boot_isinstance (pa_cons (pv 0) (pa_cons (pe_glob (v := .ref (ca 14)) (by rfl) (ex14 E).gC rfl) pa_nil))) pa_nil))))))
      (pss_cons (ps_set (i := 1) sc.nd rfl (Or.inl rfl) (pe_op op_cat (pv 1) (pe_lst (pa_cons (pe_callB (call_isX G) (by rfl) B.isinstance boot_isinstance (pa_cons (pv 0) (pa_cons (pe_glob (v := .ref (ca 15)) (by rfl) (ex15 E).gC rfl) pa_nil))) (pa_cons (pe_callB (call_isX G) (by rfl) B.isinstance boot_isinstance (pa_cons (pv 0) (pa_cons (pe_glob (v := .ref (ca 16)) (by rfl) (ex16 E).gC rfl) pa_nil))) (pa_cons (pe_callB (call_isX G) (by rfl) B.isinstance boot_isinstance (pa_cons (pv 0) (pa_cons (pe_glob (v := .ref (ca 17)) (by rfl) (ex17 E).gC rfl) pa_nil))) pa_nil))))))
      (pss_cons (ps_set (i := 1) sc.nd rfl (Or.inl rfl) (pe_op op_cat (pv 1) (pe_lst (pa_cons (pe_callB (call_isX G) (by rfl) B.isinstance boot_isinstance (pa_cons (pv 0) (pa_cons (pe_glob (v := .ref (ca 18)) (by rfl) (ex18 E).gC rfl) pa_nil))) (pa_cons (pe_callB (call_isX G) (by rfl) B.isinstance boot_isinstance (pa_cons (pv 0) (pa_cons (pe_glob (v := .ref (ca 19)) (by rfl) (ex19 E).gC rfl) pa_nil))) (pa_cons (pe_callB (call_isX G) (by rfl) B.isinstance boot_isinstance (pa_cons (pv 0) (pa_cons (pe_glob (v := .ref (ca 20)) (by rfl) (ex20 E).gC rfl) pa_nil))) pa_nil))))))
      (pss_cons (ps_set (i := 1) sc.nd rfl (Or.inl rfl) (pe_op op_cat (pv 1) (pe_lst (pa_cons (pe_callB (call_isX G) (by rfl) B.isinstance boot_isinstance (pa_cons (pv 0) (pa_cons (pe_glob (v := .ref (ca 21)) (by rfl) (ex21 E).gC rfl) pa_nil))) (pa_cons (pe_callB (call_isX G) (by rfl) B.isinstance boot_isinstance (pa_cons (pv 0) (pa_cons (pe_glob (v := .ref (ca 22)) (by rfl) (ex22 E).gC rfl) pa_nil))) (pa_cons (pe_callB (call_isX G) (by rfl) B.isinstance boot_isinstance (pa_cons (pv 0) (pa_cons (pe_glob (v := .ref (ca 23)) (by rfl) (ex23 E).gC rfl) pa_nil))) pa_nil))))))
      (pss_cons (ps_set (i := 1) sc.nd rfl (Or.inl rfl) (pe_op op_cat (pv 1) (pe_lst (pa_cons (pe_callB (call_isX G) (by rfl) B.isinstance boot_isinstance (pa_cons (pv 0) (pa_cons (pe_glob (v := .ref (ca 24)) (by rfl) (ex24 E).gC rfl) pa_nil))) (pa_cons (pe_callB (call_isX G) (by rfl) B.isinstance boot_isinstance (pa_cons (pv 0) (pa_cons (pe_glob (v := .ref (ca 25)) (by rfl) (ex25 E).gC rfl) pa_nil))) (pa_cons (pe_callB (call_isX G) (by rfl) B.isinstance boot_isinstance (pa_cons (pv 0) (pa_cons (pe_glob (v := .ref (ca 26)) (by rfl) (ex26 E).gC rfl) pa_nil))) pa_nil))))))
      (pss_cons (ps_set (i := 1) sc.nd rfl (Or.inl rfl) (pe_op op_cat (pv 1) (pe_lst (pa_cons (pe_callB (call_isX G) (by rfl) B.isinstance boot_isinstance (pa_cons (pv 0) (pa_cons (pe_glob (v := .ref (ca 27)) (by rfl) (ex27 E).gC rfl) pa_nil))) (pa_cons (pe_callB (call_isX G) (by rfl) B.isinstance boot_isinstance (pa_cons (pv 0) (pa_cons (pe_glob (v := .ref (ca 28)) (by rfl) (ex28 E).gC rfl) pa_nil))) (pa_cons (pe_callB (call_isX G) (by rfl) B.isinstance boot_isinstance (pa_cons (pv 0) (pa_cons (pe_glob (v := .ref (ca 29)) (by rfl) (ex29 E).gC rfl) pa_nil))) pa_nil))))))
      (pss_one (ps_ret (pe_callB (cr_sum rfl) (by rfl) B.sum boot_sum (pa_cons (pe_lc (own := [("_law_one", 2)]) (g := gName 2) (tt := tYes) rfl sc.nd (pi_list (pe_op op_cat (pv 1) (pe_lst (pa_cons (pe_callB (call_isX G) (by rfl) B.isinstance boot_isinstance (pa_cons (pv 0) (pa_cons (pe_glob (v := .ref (ca 30)) (by rfl) (ex30 E).gC rfl) pa_nil))) pa_nil)))) (blkOk_by (N := ["_law_e", "_law_found", "_law_one"]) (sc := defScope sClasses) (by decide +kernel)) (fun _ _ _ _ _ => pg_name (i := 2) sc.nd rfl (Or.inl rfl)) (fun _ _ _ _ _ => pts_nil) (fun _ _ _ _ _ => pe_callTy call_int1 (by rfl) B.int boot_int (pa_cons (pv 2) pa_nil))) pa_nil))))))))))))), ?_⟩
    dsimp only [tSeq, tAsg, tRet, gName]
    refine yb_lst (I := fun H => ErrAt H e (ca i) kvs) (σ := [some (V.ref e), none, none]) (ybs_cons (yb_own (j := 0) S T rfl hi (by decide)) (ybs_cons (yb_own (j := 1) S T rfl hi (by decide)) (ybs_cons (yb_own (j := 2) S T rfl hi (by decide)) ybs_nil))) (by show 3 ≤ 1000; decide) E0 fun l H1 s1 W => ?_
    refine yb_cat (s := 1) (I := fun H => ErrAt H e (ca i) kvs) (σ := [some (V.ref e), some (V.ref l), none]) (ybs_cons (yb_own (j := 3) S T rfl hi (by decide)) (ybs_cons (yb_own (j := 4) S T rfl hi (by decide)) (ybs_cons (yb_own (j := 5) S T rfl hi (by decide)) ybs_nil))) (by show 6 ≤ 1000; decide) (E0.same s1) rfl W s1 fun l H1 s1 W => ?_
    refine yb_cat (s := 1) (I := fun H => ErrAt H e (ca i) kvs) (σ := [some (V.ref e), some (V.ref l), none]) (ybs_cons (yb_own (j := 6) S T rfl hi (by decide)) (ybs_cons (yb_own (j := 7) S T rfl hi (by decide)) (ybs_cons (yb_own (j := 8) S T rfl hi (by decide)) ybs_nil))) (by show 9 ≤ 1000; decide) (E0.same s1) rfl W s1 fun l H1 s1 W => ?_
    refine yb_cat (s := 1) (I := fun H => ErrAt H e (ca i) kvs) (σ := [some (V.ref e), some (V.ref l), none]) (ybs_cons (yb_own (j := 9) S T rfl hi (by decide)) (ybs_cons (yb_own (j := 10) S T rfl hi (by decide)) (ybs_cons (yb_own (j := 11) S T rfl hi (by decide)) ybs_nil))) (by show 12 ≤ 1000; decide) (E0.same s1) rfl W s1 fun l H1 s1 W => ?_
    refine yb_cat (s := 1) (I := fun H => ErrAt H e (ca i) kvs) (σ := [some (V.ref e), some (V.ref l), none]) (ybs_cons (yb_own (j := 12) S T rfl hi (by decide)) (ybs_cons (yb_own (j := 13) S T rfl hi (by decide)) (ybs_cons (yb_own (j := 14) S T rfl hi (by decide)) ybs_nil))) (by show 15 ≤ 1000; decide) (E0.same s1) rfl W s1 fun l H1 s1 W => ?_
    refine yb_cat (s := 1) (I := fun H => ErrAt H e (ca i) kvs) (σ := [some (V.ref e), some (V.ref l), none]) (ybs_cons (yb_own (j := 15) S T rfl hi (by decide)) (ybs_cons (yb_own (j := 16) S T rfl hi (by decide)) (ybs_cons (yb_own (j := 17) S T rfl hi (by decide)) ybs_nil))) (by show 18 ≤ 1000; decide) (E0.same s1) rfl W s1 fun l H1 s1 W => ?_
    refine yb_cat (s := 1) (I := fun H => ErrAt H e (ca i) kvs) (σ := [some (V.ref e), some (V.ref l), none]) (ybs_cons (yb_own (j := 18) S T rfl hi (by decide)) (ybs_cons (yb_own (j := 19) S T rfl hi (by decide)) (ybs_cons (yb_own (j := 20) S T rfl hi (by decide)) ybs_nil))) (by show 21 ≤ 1000; decide) (E0.same s1) rfl W s1 fun l H1 s1 W => ?_
    refine yb_cat (s := 1) (I := fun H => ErrAt H e (ca i) kvs) (σ := [some (V.ref e), some (V.ref l), none]) (ybs_cons (yb_own (j := 21) S T rfl hi (by decide)) (ybs_cons (yb_own (j := 22) S T rfl hi (by decide)) (ybs_cons (yb_own (j := 23) S T rfl hi (by decide)) ybs_nil))) (by show 24 ≤ 1000; decide) (E0.same s1) rfl W s1 fun l H1 s1 W => ?_
    refine yb_cat (s := 1) (I := fun H => ErrAt H e (ca i) kvs) (σ := [some (V.ref e), some (V.ref l), none]) (ybs_cons (yb_own (j := 24) S T rfl hi (by decide)) (ybs_cons (yb_own (j := 25) S T rfl hi (by decide)) (ybs_cons (yb_own (j := 26) S T rfl hi (by decide)) ybs_nil))) (by show 27 ≤ 1000; decide) (E0.same s1) rfl W s1 fun l H1 s1 W => ?_
    refine yb_cat (s := 1) (I := fun H => ErrAt H e (ca i) kvs) (σ := [some (V.ref e), some (V.ref l), none]) (ybs_cons (yb_own (j := 27) S T rfl hi (by decide)) (ybs_cons (yb_own (j := 28) S T rfl hi (by decide)) (ybs_cons (yb_own (j := 29) S T rfl hi (by decide)) ybs_nil))) (by show 30 ≤ 1000; decide) (E0.same s1) rfl W s1 fun l H1 s1 W => ?_
    refine yb_cat (s := 1) (I := fun H => ErrAt H e (ca i) kvs) (σ := [some (V.ref e), some (V.ref l), none]) (ybs_cons (yb_own (j := 30) S T rfl hi (by decide)) ybs_nil) (by show 31 ≤ 1000; decide) (E0.same s1) rfl W s1 fun l H1 s1 W => ?_
    have W2 : H1 l = some (.lst ((bits i).map V.bl)) := W.ls
    refine ⟨l, rfl, ⟨_, .inl (.inl W2)⟩, fun D hD => lc_list (K := K) (xs := (bits i).map V.bl) (fun j H2 => Same H1 H2 ∧ H2 D = some (.lst (((bits i).take j).map fun b => V.int (if b = true then 1 else 0)))) ⟨?_, ?_⟩ (fun j H2 _ P2 => P2.1.seq (.inl (.inl W2))) ?_ ?_⟩
    · intro c o x
      rw [upd_ne (ne_of_none x hD)]
      exact x
    · exact upd_same
    · rintro j x H2 hj ⟨s2, hd⟩
      rw [List.getElem?_map] at hj
      obtain ⟨b, hb, rfl⟩ := Option.map_eq_some_iff.mp hj
      refine ⟨rfl, ?_⟩
      refine ⟨_, rfl, .inr ⟨b, rfl, _, hd, ?_, fun c o x => ?_, ?_⟩⟩
      · rw [List.length_map, List.length_take, bits_len, sizeLine_eq]
        omega
      · rw [upd_ne (fun z => by rw [z, hD] at x; cases x)]
        exact s2 c o x
      · rw [List.take_add_one, hb, List.map_append]
        exact upd_same
    · rintro H2 ⟨s2, hd⟩
      refine ⟨D, (bits i).map fun b => if b = true then (1 : Int) else 0, rfl, .inl (.inl ?_), ?_⟩
      · have e31 : (bits i).take ((bits i).map V.bl).length = bits i := List.take_of_length_le (by rw [List.length_map]; exact Nat.le_refl _)
        rw [e31] at hd
        rw [hd, List.map_map]
        rfl
      · rw [bits_sum i hi]
        exact q H2 (s1.trans s2)
end
end E18
namespace E18
open PySem PySem.Spec PyProof.Rows L2
def five : List Str := ["value", "lookup", "runtime", "arithmetic", "value"]
theorem eq5 : ∀ a b c d e : Bool, PyData.eqv (.list [.bool a, .bool b, .bool c, .bool d, .bool e]) (.list [.bool a, .bool b, .bool c, .bool d, .bool e]) = true := by decide +kernel
theorem sh5 : ∀ a b c d e : Bool, SeqAt.shaped (.list [.bool a, .bool b, .bool c, .bool d, .bool e]) = true := by decide +kernel
theorem dp5 {K : PySem.W.Frag} {H : Hp} {l : Addr} {a b c d e : Bool} (h : H l = some (.lst [.bl a, .bl b, .bl c, .bl d, .bl e])) : Dp K H (.ref l) (.list [.bool a, .bool b, .bool c, .bool d, .bool e]) :=
  .lst (.inl (.inl h)) (.cons (.bl a) (.cons (.bl b) (.cons (.bl c) (.cons (.bl d) (.cons (.bl e) .nil)))))
theorem dec_str (a b : Str) : decide (V.str a = V.str b) = decide (a = b) := by
  by_cases h : a = b
  · subst h
    rw [decide_eq_true rfl, decide_eq_true rfl]
  · rw [decide_eq_false h, decide_eq_false fun z => h (V.str.inj z)]
def spBases (ca : Nat → Addr) : Sp := fun vs H Q _ => ∃ (e : Addr) (i : Nat) (r : Row) (kvs : List (Str × V)), vs = [.ref e, .str r.base] ∧ tab[i]? = some r ∧ ErrAt H e (ca i) kvs ∧ ∀ H', Same H H' → Q (.bl true) H'
theorem scBases : FnScope ["_law_e", "_law_base", "_law_told", "_law_word"] ["_law_e", "_law_base"] (defScope sBases) := ⟨rfl, rfl, rfl, by decide +kernel, rfl, by decide +kernel, by decide +kernel⟩
theorem bt_ve : bootBuiltins "ValueError" = some (.type "ValueError") := by decide +kernel
theorem bt_le : bootBuiltins "LookupError" = some (.type "LookupError") := by decide +kernel
theorem bt_re : bootBuiltins "RuntimeError" = some (.type "RuntimeError") := by decide +kernel
theorem bt_ae : bootBuiltins "ArithmeticError" = some (.type "ArithmeticError") := by decide +kernel
theorem bt_ke : bootBuiltins "KeyError" = some (.type "KeyError") := by decide +kernel
theorem bt_ie : bootBuiltins "IndexError" = some (.type "IndexError") := by decide +kernel
theorem bt_ne : bootBuiltins "NotImplementedError" = some (.type "NotImplementedError") := by decide +kernel
theorem bt_oe : bootBuiltins "OverflowError" = some (.type "OverflowError") := by decide +kernel
theorem bt_ze : bootBuiltins "ZeroDivisionError" = some (.type "ZeroDivisionError") := by decide +kernel
section
variable {P : Program} {w : World} {K : PySem.W.Frag} {mg : Str → Option Value} {base : Heap} {f : Addr} {fd : FuncData} {ca : Nat → Addr} {cL : Addr}
theorem ok_bases {fC : Addr} {fdC : FuncData} (F : Fun K "_law_bases_right" "_law_bases_right" sBases f fd) (B : Blt mg) (G : GetC K) (E : Errs P w K mg base ca) (S : Isa K ca cL) (mL : mg "LinkError" = some (.ref cL))
    (FC : FnOk P w K mg base CX0 1 fC fdC ["_law_e"] (spClasses ca)) (mC : mg "_law_classes" = some (.ref fC)) (kC : PySem.W.keepIn K (.ref fC) = true) (bC : Binds K fdC ["_law_e"] []) : FnOk P w K mg base CX0 2 f fd ["_law_e", "_law_base"] (spBases ca) := by
  have sc := scBases
  refine F.ok sc (fun vs H Q E h => ?_) (fun cdv A outer s H vs Q E' hr h => ?_)
  · obtain ⟨e, i, r, kvs, rfl, _⟩ := h
    rfl
  · obtain ⟨e, i, r, kvs, rfl, hi, E0, q⟩ := h
    have T : OexG K (ca i) := (E.ex i r hi).T
    have hlt := tab_lt hi
    refine ⟨_, pss_cons (ps_set (i := 2) sc.nd rfl (Or.inl rfl) (pe_lst (pa_cons (pe_callB (call_isX G) (by rfl) B.isinstance boot_isinstance (pa_cons (pv 0) (pa_cons (pe_bltn (v := .ty "ValueError") (by rfl) B.ve bt_ve rfl) pa_nil)))
        (pa_cons (pe_callB (call_isX G) (by rfl) B.isinstance boot_isinstance (pa_cons (pv 0) (pa_cons (pe_bltn (v := .ty "LookupError") (by rfl) B.le bt_le rfl) pa_nil)))
        (pa_cons (pe_callB (call_isX G) (by rfl) B.isinstance boot_isinstance (pa_cons (pv 0) (pa_cons (pe_bltn (v := .ty "RuntimeError") (by rfl) B.re bt_re rfl) pa_nil))) pa_nil)))))
      (pss_cons (ps_set (i := 2) sc.nd rfl (Or.inl rfl) (pe_op op_cat (pv 2) (pe_lst (pa_cons (pe_callB (call_isX G) (by rfl) B.isinstance boot_isinstance (pa_cons (pv 0) (pa_cons (pe_bltn (v := .ty "ArithmeticError") (by rfl) B.ae bt_ae rfl) pa_nil)))
        (pa_cons (pe_callB (call_isX G) (by rfl) B.isinstance boot_isinstance (pa_cons (pv 0) (pa_cons (pe_glob (v := .ref cL) (by rfl) mL rfl) pa_nil))) pa_nil)))))
      (pss_cons (ps_if (pt_cmpR (op_neD hr.units) (pv 2) (pe_lc (own := [("_law_word", 3)]) (g := gName 3) (tt := tYes) rfl sc.nd (pi_tup (pe_tup (pa_cons pe_str (pa_cons pe_str (pa_cons pe_str (pa_cons pe_str (pa_cons pe_str pa_nil)))))))
          (blkOk_by (N := ["_law_e", "_law_base", "_law_told", "_law_word"]) (sc := defScope sBases) (by decide +kernel)) (fun _ _ _ _ _ => pg_name (i := 3) sc.nd rfl (Or.inl rfl)) (fun _ _ _ _ _ => pts_nil) (fun _ _ _ _ _ => pe_cmpR op_eq (pv 1) (pv 3) (nomark _))) (nomark _))
        (pss_one (ps_ret pe_bl)) pss_nil)
      (pss_cons (ps_if (pt_val (pe_callB (call_isXT G) (by rfl) B.isinstance boot_isinstance (pa_cons (pv 0) (pa_cons (pe_tup (pa_cons (pe_bltn (v := .ty "KeyError") (by rfl) B.ke bt_ke rfl) (pa_cons (pe_bltn (v := .ty "IndexError") (by rfl) B.ie bt_ie rfl)
          (pa_cons (pe_bltn (v := .ty "NotImplementedError") (by rfl) B.ne bt_ne rfl) (pa_cons (pe_bltn (v := .ty "OverflowError") (by rfl) B.oe bt_oe rfl) (pa_cons (pe_bltn (v := .ty "ZeroDivisionError") (by rfl) B.ze bt_ze rfl) pa_nil)))))) pa_nil))))
        (pss_one (ps_ret pe_bl)) pss_nil)
      (pss_one (ps_ret (pe_cmpR op_eq (pe_call FC hr (by rfl) mC kC bC .nil pass0 (pa_cons (pv 0) pa_nil)) pe_int (nomark _))))))), ?_⟩
    dsimp only [tSeq, tAsg, gName]
    refine yb_lst (I := fun H => ErrAt H e (ca i) kvs) (σ := [some (V.ref e), some (V.str r.base), none, none]) (ybs_cons (yb_ty (S.ve i r hi) T rfl) (ybs_cons (yb_ty (S.le i r hi) T rfl) (ybs_cons (yb_ty (S.re i r hi) T rfl) ybs_nil))) (by show 3 ≤ 1000; decide) E0 fun l H1 s1 W => ?_
    refine yb_cat (s := 2) (I := fun H => ErrAt H e (ca i) kvs) (σ := [some (V.ref e), some (V.str r.base), some (V.ref l), none]) (ybs_cons (yb_ty (S.ae i r hi) T rfl) (ybs_cons (yb_any (S.link i r hi) T rfl) ybs_nil)) (by show 5 ≤ 1000; decide) (E0.same s1) rfl W s1 fun l H1 s1 W => ?_
    have E1 := E0.same s1
    have W2 : H1 l = some (.lst [.bl (decide (r.base = ("value" : Str))), .bl (decide (r.base = ("lookup" : Str))), .bl (decide (r.base = ("runtime" : Str))), .bl (decide (r.base = ("arithmetic" : Str))), .bl (decide (r.base = ("value" : Str)))]) := W.ls
    -- the words, and what is told of them
    refine ⟨_, rfl, (by show 5 ≤ sizeLine; decide), fun p hp => ⟨p, rfl, ⟨_, .inl (.inl upd_same)⟩, fun D hD => ?_⟩⟩
    have sp : Same H1 (upd H1 p (.tup (five.map V.str))) := fun c o x => by
      rw [upd_ne (ne_of_none x hp)]
      exact x
    refine lc_tup (K := K) (xs := five.map V.str) (fun j H2 => Same (upd H1 p (.tup (five.map V.str))) H2 ∧ H2 D = some (.lst ((five.take j).map fun z => V.bl (decide (r.base = z))))) ⟨fun c o x => ?_, upd_same⟩ (fun j H2 _ P2 => .inl (.inl (P2.1 _ _ upd_same))) ?_ ?_
    · rw [upd_ne (ne_of_none x hD)]
      exact x
    · rintro j x H2 hj ⟨s2, hd⟩
      rw [List.getElem?_map] at hj
      obtain ⟨z, hz, rfl⟩ := Option.map_eq_some_iff.mp hj
      refine ⟨rfl, _, rfl, _, rfl, rfl, _, hd, ?_, fun c o x => ?_, ?_⟩
      · rw [List.length_map, List.length_take, sizeLine_eq]
        have : five.length = 5 := rfl
        omega
      · have hD' : (upd H1 p (.tup (five.map V.str))) D = none := hD
        rw [upd_ne (fun z => by rw [z, hD'] at x; cases x)]
        exact s2 c o x
      · rw [List.take_add_one, hz, List.map_append, dec_str]
        exact upd_same
    · rintro H2 ⟨s2, hd⟩
      have t2 := sp.trans s2
      have hl2 := t2 _ _ W2
      have hd2 : H2 D = some (.lst [.bl (decide (r.base = ("value" : Str))), .bl (decide (r.base = ("lookup" : Str))), .bl (decide (r.base = ("runtime" : Str))), .bl (decide (r.base = ("arithmetic" : Str))), .bl (decide (r.base = ("value" : Str)))]) := hd
      refine ⟨_, _, dp5 hl2, dp5 hd2, sh5 .., sh5 .., _, rfl, ?_⟩
      rw [eq5]
      refine iteF ?_
      have E2 := E1.same t2
      refine ⟨_, rfl, (by show 5 ≤ sizeLine; decide), fun p2 hp2 => ?_⟩
      have s3 : Same H2 (upd H2 p2 (.tup [.ty "KeyError", .ty "IndexError", .ty "NotImplementedError", .ty "OverflowError", .ty "ZeroDivisionError"])) := fun c o x => by
        rw [upd_ne (ne_of_none x hp2)]
        exact x
      refine ⟨e, ca i, kvs, p2, _, _, false, rfl, upd_same, .cons (.ty _) (.cons (.ty _) (.cons (.ty _) (.cons (.ty _) (.cons (.ty _) .nil)))), T, E2.same s3, S.non i hlt, _, rfl, iteF ?_⟩
      refine ⟨_, rfl, e, i, kvs, rfl, hlt, E2.same s3, fun H3 s4 => ⟨rfl, ?_⟩⟩
      rw [decide_eq_true rfl]
      exact q H3 (((s1.trans t2).trans s3).trans s4)
end
end E18
namespace E18
open PySem PySem.Spec PyProof.Rows L2
def pool : List PyData := [.none, .int 0, .bool true, .str "", .str "x", .tuple [], .tuple [.str "a", .int 0], .list [], .dict [], .int (10 ^ 20), .int (-1)]
theorem pool_ok : ∀ d ∈ pool, ∀ e ∈ pool, ∀ n < 3, (PyData.list ([d, e].take n)).showable = true ∧ (PyData.list ([d, e].take n)).depth ≤ 40 ∧ (PyData.list ([d, e].take n)).shown.length ≤ 1000 := by decide +kernel
abbrev pieces (r : Row) : List Str := Txt.split r.words (PySem.Str.ofString " ")
theorem tab_split : ∀ r ∈ tab, ((pieces r).filter fun z => !decide (z = PySem.Str.ofString "")) = r.fs := by decide +kernel
theorem tab_fs : ∀ r ∈ tab, r.fs.length ≤ 2 ∧ r.fs.Nodup ∧ (∀ f ∈ r.fs, f ∈ names15) ∧ r.words.length ≤ 30 ∧ (pieces r).length ≤ 10 := by decide +kernel
/-- what stands under a field -/
def val (r : Row) (one two : V) (f : Str) : V := ((r.fs.zip [one, two]).lookup f).getD .non
theorem val_at {r : Row} {one two : V} {f : Str} (h2 : r.fs.length ≤ 2) (hf : f ∈ r.fs) : (r.fs.zip [one, two]).lookup f = some (val r one two f) := by
  have key : ∀ (l : List Str) (us : List V), l.length ≤ us.length → f ∈ l → ∃ v, (l.zip us).lookup f = some v := by
    intro l
    induction l with
    | nil => intro us _ h; cases h
    | cons g l ih =>
      intro us hl h
      cases us with
      | nil => exact absurd hl (by simp)
      | cons u us =>
        show ∃ v, ((g, u) :: l.zip us).lookup f = some v
        rw [lookup_put]
        by_cases e : f = g
        · exact ⟨u, if_pos e⟩
        · rw [if_neg e]
          exact ih us (by simpa using hl) ((List.mem_cons.mp h).resolve_left e)
  obtain ⟨v, hv⟩ := key r.fs [one, two] h2 hf
  unfold val
  rw [hv]
  rfl
theorem vals_eq {r : Row} {one two : V} (h2 : r.fs.length ≤ 2) (nd : r.fs.Nodup) : r.fs.map (val r one two) = [one, two].take r.fs.length := by
  obtain ⟨nm, b, fs, w⟩ := r
  match fs, h2, nd with
  | [], _, _ => rfl
  | [f], _, _ =>
    show [((List.lookup f [(f, one)]).getD .non)] = [one]
    simp [List.lookup]
  | [f, g], _, nd =>
    have hfg : ¬ g = f := fun z => by rw [z] at nd; simp at nd
    show [((List.lookup f [(f, one), (g, two)]).getD .non), ((List.lookup g [(f, one), (g, two)]).getD .non)] = [one, two]
    rw [lookup_put, if_pos rfl, lookup_put, if_neg hfg, lookup_put, if_pos rfl]
    rfl
  | _ :: _ :: _ :: _, h, _ => exact absurd h (by simp)
/-- the drawn values as data -/
structure Dat (H : Hp) (v : V) (d : PyData) : Prop where
  mem : d ∈ pool
  dx : DX H v d
theorem Dat.same {H H' : Hp} {v : V} {d : PyData} (h : Dat H v d) (s : Same H H') : Dat H' v d := ⟨h.mem, h.dx.same s⟩
theorem dxs_take {H : Hp} {one two : V} {d1 d2 : PyData} (h1 : DX H one d1) (h2 : DX H two d2) : ∀ n : Nat, DXs H ([one, two].take n) ([d1, d2].take n)
  | 0 => .nil
  | 1 => .cons h1 .nil
  | n + 2 => by
    show DXs H (one :: two :: [].take n) (d1 :: d2 :: [].take n)
    rw [List.take_nil, List.take_nil]
    exact .cons h1 (.cons h2 .nil)
theorem Same.put {H : Hp} {p : Addr} {o : HO} (h : H p = none) : Same H (upd H p o) := fun c u x => by
  rw [upd_ne (ne_of_none x h)]
  exact x
/-- at p: a list of good pairs -/
def LS (ca : Nat → Addr) (one two : V) (b : Str) (H : Hp) (p : Addr) : Prop := ∃ vs, H p = some (.lst vs) ∧ vs.length ≤ 1000 ∧ ∀ v ∈ vs, GoodV ca one two b H v
theorem LG.ls' {ca : Nat → Addr} {one two : V} {b : Str} {n : Nat} {H0 H : Hp} {p : Addr} (g : LG ca one two b n H0 H p) (h : n ≤ 1000) : LS ca one two b H p := by
  obtain ⟨_, vs, h1, h2, h3⟩ := g
  exact ⟨vs, h1, Nat.le_trans h2 h, h3⟩
theorem LS.same {ca : Nat → Addr} {one two : V} {b : Str} {H H' : Hp} {p : Addr} (g : LS ca one two b H p) (s : Same H H') : LS ca one two b H' p := by
  obtain ⟨vs, h1, h2, h3⟩ := g
  exact ⟨vs, s _ _ h1, h2, fun v hv => (h3 v hv).same s⟩
def RowV (ca : Nat → Addr) (one two : V) (H : Hp) (v : V) : Prop := ∃ (q : Addr) (b : Str) (l : Addr), v = .ref q ∧ H q = some (.tup [.str b, .ref l]) ∧ LS ca one two b H l
theorem RowV.same {ca : Nat → Addr} {one two : V} {H H' : Hp} {v : V} (g : RowV ca one two H v) (s : Same H H') : RowV ca one two H' v := by
  obtain ⟨q, b, l, rfl, h1, h2⟩ := g
  exact ⟨q, b, l, rfl, s _ _ h1, h2.same s⟩
theorem cut2 (one two : V) : ∀ n : Nat, n ≤ 2 → cutV [one, two] none (some ((([one, two].take n).length : Nat) : Int)) = [one, two].take n
  | 0, _ => rfl
  | 1, _ => rfl
  | 2, _ => rfl
  | n + 3, h => absurd h (by omega)
theorem dat_of {H : Hp} {p1 p2 p3 p4 : Addr} (h1 : H p1 = some (.tup [])) (h2 : H p2 = some (.tup [.str "a", .int 0])) (h3 : H p3 = some (.lst [])) (h4 : H p4 = some (.dK [])) {v : V}
    (m : v ∈ [V.non, .int 0, .bl true, .str "", .str "x", .ref p1, .ref p2, .ref p3, .ref p4, .int (10 ^ (20 : Int).toNat), .int (-1)]) : ∃ d, Dat H v d := by
  simp only [List.mem_cons, List.mem_nil_iff, or_false] at m
  rcases m with rfl | rfl | rfl | rfl | rfl | rfl | rfl | rfl | rfl | rfl | rfl
  · exact ⟨.none, by simp [pool], .non⟩
  · exact ⟨.int 0, by simp [pool], .int 0⟩
  · exact ⟨.bool true, by simp [pool], .bl true⟩
  · exact ⟨.str "", by simp [pool], .str _⟩
  · exact ⟨.str "x", by simp [pool], .str _⟩
  · exact ⟨.tuple [], by simp [pool], .tup0 h1⟩
  · exact ⟨.tuple [.str "a", .int 0], by simp [pool], .tup2 h2⟩
  · exact ⟨.list [], by simp [pool], .nil h3⟩
  · exact ⟨.dict [], by simp [pool], .dct h4⟩
  · exact ⟨.int (10 ^ 20), by simp [pool], .int _⟩
  · exact ⟨.int (-1), by simp [pool], .int _⟩
abbrev sRight : Stmt := top 44
def nmRight : List Str := ["_law_rng_here", "_law_some", "_law_one", "_law_two", "_law_rows", "_law_base", "_law_pairs", "_law_error", "_law_words", "_law_told", "_law_word"]
theorem scRight : FnScope nmRight ["_law_rng_here"] (defScope sRight) := ⟨rfl, rfl, rfl, by decide +kernel, rfl, by decide +kernel, by decide +kernel⟩
def spRight : Sp := fun vs H Q _ => ∃ a : Addr, vs = [.ref a] ∧ Rng H a ∧ ∀ H', But a H H' → Q (.bl true) H'
/-- what the def finds under the names of other defs -/
structure Defs (P : Program) (w : World) (K : PySem.W.Frag) (mg : Str → Option Value) (base : Heap) (ca : Nat → Addr) (fCh fVa fOt fRe fLi fFi fBa : Addr) (dCh dVa dOt dRe dLi dFi dBa : FuncData) : Prop where
  ch : FnOk P w K mg base CX0 2 fCh dCh ["_law_rng_here", "_law_some"] (spChoice K)
  va : FnOk P w K mg base CX0 3 fVa dVa ["_law_one", "_law_two"] (spVals ca "value" 30)
  ot : FnOk P w K mg base CX0 3 fOt dOt ["_law_one", "_law_two"] (spVals ca "lookup" 10)
  re : FnOk P w K mg base CX0 3 fRe dRe ["_law_one", "_law_two"] (spVals ca "runtime" 17)
  li : FnOk P w K mg base CX0 3 fLi dLi ["_law_one", "_law_two"] (spVals ca "arithmetic" 4)
  fi : FnOk P w K mg base CX0 1 fFi dFi ["_law_error", "_law_word"] (spField K)
  ba : FnOk P w K mg base CX0 2 fBa dBa ["_law_e", "_law_base"] (spBases ca)
  mCh : mg "_law_choice" = some (.ref fCh)
  mVa : mg "_law_values" = some (.ref fVa)
  mOt : mg "_law_others" = some (.ref fOt)
  mRe : mg "_law_refusals" = some (.ref fRe)
  mLi : mg "_law_limits" = some (.ref fLi)
  mFi : mg "_law_field" = some (.ref fFi)
  mBa : mg "_law_bases_right" = some (.ref fBa)
  kCh : PySem.W.keepIn K (.ref fCh) = true
  kVa : PySem.W.keepIn K (.ref fVa) = true
  kOt : PySem.W.keepIn K (.ref fOt) = true
  kRe : PySem.W.keepIn K (.ref fRe) = true
  kLi : PySem.W.keepIn K (.ref fLi) = true
  kFi : PySem.W.keepIn K (.ref fFi) = true
  kBa : PySem.W.keepIn K (.ref fBa) = true
  bCh : L2.Binds K dCh ["_law_rng_here", "_law_some"] []
  bVa : L2.Binds K dVa ["_law_one", "_law_two"] []
  bOt : L2.Binds K dOt ["_law_one", "_law_two"] []
  bRe : L2.Binds K dRe ["_law_one", "_law_two"] []
  bLi : L2.Binds K dLi ["_law_one", "_law_two"] []
  bFi : L2.Binds K dFi ["_law_error", "_law_word"] []
  bBa : L2.Binds K dBa ["_law_e", "_law_base"] []
def rSplit : V → List V → Hp → VK → Prop := fun x xs H Q => ∃ a b, x = .str a ∧ xs = [.str b] ∧ (b.length == 0) = false ∧ a.length + 2 ≤ sizeLine ∧ rNewStrs (Txt.split a b) H Q
def rLenQ (K : PySem.W.Frag) : List V → Hp → VK → Prop := fun xs H Q => ∃ p ys, xs = [.ref p] ∧ (SqL K H p ys ∨ SqT K H p ys) ∧ Q (.int ys.length) H
/-- one turn over an error: its fields as they are told, against what it was made of; its classes -/
theorem turn_ok {K : PySem.W.Frag} {ca : Nat → Addr} {one two a0 s0 r0 l0 : V} {c9 : Option V} {d1 d2 : PyData} {i : Nat} {r : Row} {e : Addr} {H2 : Hp} {D : Ends} (hi : tab[i]? = some r) (T : OexG K (ca i)) (N : NoNames K (ca i)) (he : ErrAt H2 e (ca i) (r.fs.zip [one, two]))
    (D1 : Dat H2 one d1) (D2 : Dat H2 two d2)
    (nx : ∀ (c9 : Option V) (H3 : Hp), Same H2 H3 → D.nx [some a0, some s0, some one, some two, some r0, some (.str r.base), some l0, some (.ref e), some (.str r.words), c9, none] H3) :
    tSeq (tAsg (tLc (iList K (tBM K "str" rSplit (tVar 8) (tCons (tC (.str " ")) tNil))) (gName 10) (tTest (tOp rNe (tVar 10) (tC (.str "")))) (tCall (spField K) [] E0 (tCons (tVar 7) (tCons (tVar 10) tNil))) [10]) (gName 9))
      (tIfS (tOr (tTest (tOp rNe (tCB rRepr (tCons (tVar 9) tNil)) (tCB rRepr (tCons (tSl (rSlL K) (tLst (tCons (tVar 2) (tCons (tVar 3) tNil))) tNoPart (tPart (tCB (rLenQ K) (tCons (tVar 9) tNil)))) tNil))))
          (tNot (tB (tCall (spBases ca) [] E0 (tCons (tVar 7) (tCons (tVar 5) tNil)))))) (tRet (tC (.bl false))) tNext)
      D [some a0, some s0, some one, some two, some r0, some (.str r.base), some l0, some (.ref e), some (.str r.words), c9, none] H2 := by
  obtain ⟨f2, fnd, fnm, fw, fp⟩ := tab_fs r (List.mem_of_getElem? hi)
  have fsp := tab_split r (List.mem_of_getElem? hi)
  dsimp only [tSeq, tAsg, gName]
  refine ⟨_, rfl, rfl, _, _, rfl, rfl, rfl, by rw [sizeLine_eq]; omega, fun sp ksp => ⟨sp, rfl, ⟨_, .inl (.inl upd_same)⟩, fun L kL => ?_⟩⟩
  have w1 := Same.put (o := HO.lst ((pieces r).map V.str)) ksp
  have w2 := Same.put (o := HO.lst []) kL
  refine lc_list (K := K) (xs := (pieces r).map V.str) (fun m H3 => Same (upd H2 sp (.lst ((pieces r).map V.str))) H3 ∧ H3 L = some (.lst ((((pieces r).take m).filter fun z => !decide (z = PySem.Str.ofString "")).map (val r one two))))
    ⟨w2, upd_same⟩ (fun m H3 _ p => .inl (.inl (p.1 _ _ upd_same))) ?_ ?_
  · rintro m x H3 hm ⟨s3, hd⟩
    rw [List.getElem?_map] at hm
    obtain ⟨z, hz, rfl⟩ := Option.map_eq_some_iff.mp hm
    have tk : (pieces r).take (m + 1) = (pieces r).take m ++ [z] := by rw [List.take_add_one, hz]; rfl
    refine ⟨rfl, _, rfl, rfl, _, rfl, ?_⟩
    by_cases hne : z = PySem.Str.ofString ""
    · refine ite2 (fun h => ?_) (fun _ => ?_)
      · subst hne
        rw [decide_eq_true rfl] at h
        cases h
      · refine ⟨s3, ?_⟩
        rw [tk, List.filter_append, List.filter_cons, if_neg (by simp [hne]), List.filter_nil, List.append_nil]
        exact hd
    · refine ite2 (fun _ => ?_) (fun h => ?_)
      · have zf : z ∈ r.fs := by
          rw [← fsp]
          exact List.mem_filter.mpr ⟨List.mem_of_getElem? hz, by simp [hne]⟩
        refine ⟨_, rfl, _, rfl, e, ca i, _, z, _, rfl, T, N, (he.same w1).same s3, val_at f2 zf, fnm z zf, fun H4 s4 => ⟨_, s4 _ _ hd, ?_, fun c o x => ?_, ?_⟩⟩
        · have q1 := List.length_filter_le (fun z => !decide (z = PySem.Str.ofString "")) ((pieces r).take m)
          rw [List.length_map, sizeLine_eq]
          rw [List.length_take] at q1
          omega
        · rw [upd_ne (fun z => by rw [z, kL] at x; cases x)]
          exact s4 _ _ (s3 c o x)
        · rw [tk, List.filter_append, List.filter_cons, if_pos (by simp [hne]), List.filter_nil, List.map_append]
          exact upd_same
      · refine (h ?_).elim
        rw [decide_eq_false (fun q => hne (V.str.inj q))]
        rfl
  · rintro H3 ⟨s3, hd⟩
    have e1 : (pieces r).take ((pieces r).map V.str).length = pieces r := List.take_of_length_le (by rw [List.length_map]; exact Nat.le_refl _)
    rw [e1, fsp, vals_eq f2 fnd] at hd
    have s4 := w1.trans s3
    obtain ⟨sh, dp, ln⟩ := pool_ok d1 D1.mem d2 D2.mem r.fs.length (by omega)
    have ln' : (PyData.list ([d1, d2].take r.fs.length)).shown.length ≤ sizeLine := by rw [sizeLine_eq]; omega
    have dxs := dxs_take (D1.dx.same s4) (D2.dx.same s4) r.fs.length
    refine ⟨_, rfl, L, _, _, rfl, hd, dxs, sh, dp, ln', ?_⟩
    refine ⟨_, rfl, _, rfl, (by show 2 ≤ sizeLine; decide), fun u ku => ?_⟩
    have w5 := Same.put (o := HO.lst [one, two]) ku
    refine ⟨_, rfl, L, _, rfl, .inl (.inl (.inl (w5 _ _ hd))), _, rfl, u, _, rfl, .inl (.inl upd_same), fun v kv => ?_⟩
    rw [cut2 one two r.fs.length f2]
    have w6 := w5.trans (Same.put (o := HO.lst ([one, two].take r.fs.length)) kv)
    refine ⟨v, _, _, rfl, upd_same, dxs.same w6, sh, dp, ln', rfl, _, rfl, ?_⟩
    refine ite2 (fun h => ?_) (fun _ => ?_)
    · rw [decide_eq_true rfl] at h
      cases h
    refine ⟨_, rfl, _, rfl, e, i, r, _, rfl, hi, (he.same s4).same w6, fun H4 s7 => ⟨_, rfl, iteF ?_⟩⟩
    exact nx _ H4 ((s4.trans w6).trans s7)
end E18
namespace E18
open PySem PySem.Spec PyProof.Rows L2
section
variable {P : Program} {w : World} {K : PySem.W.Frag} {mg : Str → Option Value} {base : Heap} {f : Addr} {fd : FuncData} {ca : Nat → Addr} {cL fCh fVa fOt fRe fLi fFi fBa : Addr} {dCh dVa dOt dRe dLi dFi dBa : FuncData} {oS : Obj}
theorem ok_right (F : Fun K "_law_right" "_law_right" sRight f fd) (B : Blt mg) (E : Errs P w K mg base ca) (N : ∀ i, i < 31 → NoNames K (ca i)) (Z : Defs P w K mg base ca fCh fVa fOt fRe fLi fFi fBa dCh dVa dOt dRe dLi dFi dBa)
    (ks : K.lookup sysModules = some oS) (kc : oS.cls = .type "dict") : FnG P w K mg base 4 f fd ["_law_rng_here"] spRight := by
  have sc := scRight
  refine F.okG sc (fun vs H Q E h => ?_) (fun cdv A outer s H vs Q E' hgd hr h => ?_)
  · obtain ⟨a, rfl, _⟩ := h
    rfl
  · obtain ⟨a, rfl, R, q⟩ := h
    have hr2 : Room 2 _ := hr.mono (by decide)
    have hr1 : Room 1 _ := hr.mono (by decide)
    have hg : (cxOf CX0 P w K mg base nmRight "_law_right" (defScope sRight) f cdv A outer s H E').nox.A.guards = some [] := hgd
    refine ⟨_, pss_cons (ps_set (i := 1) sc.nd rfl (Or.inl rfl) (pe_lst (pa_cons pe_non (pa_cons pe_int (pa_cons pe_bl (pa_cons pe_str (pa_cons pe_str (pa_cons (pe_tup pa_nil) (pa_cons (pe_tup (pa_cons pe_str (pa_cons pe_int pa_nil)))
        (pa_cons (pe_lst pa_nil) (pa_cons pe_dnewK (pa_cons (pe_op op_pow pe_int pe_int) (pa_cons (pe_un un_neg pe_int) pa_nil)))))))))))))
      (pss_cons (ps_par (i := 2) (j := 3) rfl sc.nd rfl rfl (by decide) rfl rfl (pa_cons (pe_call Z.ch hr2 (by rfl) Z.mCh Z.kCh Z.bCh .nil pass0 (pa_cons (pv 0) (pa_cons (pv 1) pa_nil)))
          (pa_cons (pe_call Z.ch hr2 (by rfl) Z.mCh Z.kCh Z.bCh .nil pass0 (pa_cons (pv 0) (pa_cons (pv 1) pa_nil))) pa_nil)) (by rfl))
      (pss_cons (ps_set (i := 4) sc.nd rfl (Or.inl rfl) (pe_lst (pa_cons (pe_tup (pa_cons pe_str (pa_cons (pe_call Z.va hr (by rfl) Z.mVa Z.kVa Z.bVa .nil pass0 (pa_cons (pv 2) (pa_cons (pv 3) pa_nil))) pa_nil)))
          (pa_cons (pe_tup (pa_cons pe_str (pa_cons (pe_call Z.ot hr (by rfl) Z.mOt Z.kOt Z.bOt .nil pass0 (pa_cons (pv 2) (pa_cons (pv 3) pa_nil))) pa_nil))) pa_nil))))
      (pss_cons (ps_set (i := 4) sc.nd rfl (Or.inl rfl) (pe_op op_cat (pv 4) (pe_lst (pa_cons (pe_tup (pa_cons pe_str (pa_cons (pe_call Z.re hr (by rfl) Z.mRe Z.kRe Z.bRe .nil pass0 (pa_cons (pv 2) (pa_cons (pv 3) pa_nil))) pa_nil)))
          (pa_cons (pe_tup (pa_cons pe_str (pa_cons (pe_call Z.li hr (by rfl) Z.mLi Z.kLi Z.bLi .nil pass0 (pa_cons (pv 2) (pa_cons (pv 3) pa_nil))) pa_nil))) pa_nil)))))
      (pss_cons (ps_for PassesOwn.never rfl (pi_list (pv 4)) (pg_tup rfl (pgs_cons (pg_name (i := 5) sc.nd rfl (Or.inl rfl)) (pgs_cons (pg_name (i := 6) sc.nd rfl (Or.inl rfl)) pgs_nil)))
        (pss_one (ps_for PassesOwn.never rfl (pi_list (pv 6)) (pg_tup rfl (pgs_cons (pg_name (i := 7) sc.nd rfl (Or.inr rfl)) (pgs_cons (pg_name (i := 8) sc.nd rfl (Or.inl rfl)) pgs_nil)))
          (pss_cons (ps_setLc (i := 9) (own := [("_law_word", 10)]) (g := gName 10) (tt := tTest (tOp rNe (tVar 10) (tC (.str "")))) rfl sc.nd rfl rfl (sw_true rfl rfl rfl (by decide +kernel))
              (pi_list (pe_bm PySem.F.plainAttrs_str PySem.F.slot_str_split PySem.F.type_str_split mt_split (pv 8) (pa_cons pe_str pa_nil)))
              (blkOk_by (N := nmRight) (sc := defScope sRight) (by decide +kernel)) (fun _ _ _ _ _ => pg_name (i := 10) sc.nd rfl (Or.inl rfl)) (fun _ _ _ _ _ => pts_one (pt_cmpR op_ne (pv 10) pe_str (nomark _)))
              (fun _ _ _ _ _ => pe_call Z.fi hr1 (by rfl) Z.mFi Z.kFi Z.bFi .nil pass0 (pa_cons (pv 7) (pa_cons (pv 10) pa_nil))))
          (pss_one (ps_if (PW.pt (pw_or (pt_cmpR op_ne (pe_callB (call_reprX hg hr.units ks kc) (by rfl) B.repr boot_repr (pa_cons (pv 9) pa_nil))
              (pe_callB (call_reprX hg hr.units ks kc) (by rfl) B.repr boot_repr (pa_cons (pe_slice sl_list (pe_lst (pa_cons (pv 2) (pa_cons (pv 3) pa_nil))) po_none (po_some (pe_callB call_len_seq (by rfl) B.len boot_len (pa_cons (pv 9) pa_nil)))) pa_nil)) (nomark _))
              (pw_or1 (pt_not (pt_val (pe_call Z.ba hr2 (by rfl) Z.mBa Z.kBa Z.bBa .nil pass0 (pa_cons (pv 7) (pa_cons (pv 5) pa_nil))))))))
            (pss_one (ps_ret pe_bl)) pss_nil))))))
      (pss_one (ps_ret pe_bl)))))), ?_⟩
    dsimp only [tSeq, tAsg, tRet, gName]
    obtain ⟨x0, y0, ha, hy0, hy1⟩ := R
    refine ⟨(by show 0 ≤ sizeLine; decide), fun p1 n1 => ⟨(by show 2 ≤ sizeLine; decide), fun p2 n2 => ⟨(by show 0 ≤ sizeLine; decide), fun p3 n3 => fun p4 n4 => ⟨_, _, rfl, rfl, ⟨by decide, by decide, by decide⟩, _, rfl, (by show 11 ≤ sizeLine; decide), fun p5 n5 => ?_⟩⟩⟩⟩
    have t1 : Same H (upd H p1 (.tup [])) := Same.put n1
    have t2 := t1.trans (Same.put (o := .tup [.str "a", .int 0]) n2)
    have t3 := t2.trans (Same.put (o := .lst []) n3)
    have t4 := t3.trans (Same.put (o := .dK []) n4)
    have t5 := t4.trans (Same.put (o := .lst [V.non, .int 0, .bl true, .str "", .str "x", .ref p1, .ref p2, .ref p3, .ref p4, .int (10 ^ (20 : Int).toNat), .int (-1)]) n5)
    have e1 : a ≠ p1 := ne_of_none ha n1
    have e2 : a ≠ p2 := ne_of_none (t1 _ _ ha) n2
    have e3 : a ≠ p3 := ne_of_none (t2 _ _ ha) n3
    have e4 : a ≠ p4 := ne_of_none (t3 _ _ ha) n4
    have e5 : a ≠ p5 := ne_of_none (t4 _ _ ha) n5
    have z5 := Same.put (o := HO.lst [V.non, .int 0, .bl true, .str "", .str "x", .ref p1, .ref p2, .ref p3, .ref p4, .int (10 ^ (20 : Int).toNat), .int (-1)]) n5
    have z4 := (Same.put (o := HO.dK []) n4).trans z5
    have z3 := (Same.put (o := HO.lst []) n3).trans z4
    have z2 := (Same.put (o := HO.tup [.str "a", .int 0]) n2).trans z3
    have h1 := z2 p1 (.tup []) upd_same
    have h2 := z3 p2 (.tup [.str "a", .int 0]) upd_same
    have h3 := z4 p3 (.lst []) upd_same
    have h4 := z5 p4 (.dK []) upd_same
    refine ⟨_, rfl, _, rfl, a, p5, _, rfl, ⟨x0, y0, t5 _ _ ha, hy0, hy1⟩, e5, upd_same, Nat.zero_lt_succ _, (by show 11 ≤ 1000; decide), fun one H6 m1 b6 R6 => ?_⟩
    refine ⟨_, rfl, _, rfl, a, p5, _, rfl, R6, e5, b6 _ _ (Ne.symm e5) upd_same, Nat.zero_lt_succ _, (by show 11 ≤ 1000; decide), fun two H7 m2 b7 R7 => ⟨one, two, rfl, ?_⟩⟩
    have b67 := b6.trans b7
    have B7 : But a H H7 := fun c o hc x => b67 c o hc (t5 _ _ x)
    have g1 := b67 p1 _ (Ne.symm e1) h1
    have g2 := b67 p2 _ (Ne.symm e2) h2
    have g3 := b67 p3 _ (Ne.symm e3) h3
    have g4 := b67 p4 _ (Ne.symm e4) h4
    obtain ⟨d1, D1⟩ := dat_of g1 g2 g3 g4 m1
    obtain ⟨d2, D2⟩ := dat_of g1 g2 g3 g4 m2
    clear h1 h2 h3 h4 z2 z3 z4 z5 g1 g2 g3 g4 m1 m2
    -- the rows
    refine ⟨_, rfl, _, rfl, one, two, rfl, fun l1 H8 s8 G1 => ⟨(by show 2 ≤ sizeLine; decide), fun q1 k1 => ?_⟩⟩
    refine ⟨_, rfl, _, rfl, one, two, rfl, fun l2 H9 s9 G2 => ⟨(by show 2 ≤ sizeLine; decide), fun q2 k2 => ⟨(by show 2 ≤ sizeLine; decide), fun r1 k3 => ?_⟩⟩⟩
    have u1 := Same.put (o := HO.tup [.str "value", .ref l1]) k1
    have u2 := Same.put (o := HO.tup [.str "lookup", .ref l2]) k2
    have u3 := Same.put (o := HO.lst [.ref q1, .ref q2]) k3
    have A1 : RowV ca one two _ (.ref q1) := RowV.same ⟨q1, "value", l1, rfl, upd_same, (G1.ls' (by decide)).same u1⟩ ((s9.trans u2).trans u3)
    have A2 : RowV ca one two _ (.ref q2) := RowV.same ⟨q2, "lookup", l2, rfl, upd_same, (G2.ls' (by decide)).same u2⟩ u3
    have S1 := (((s8.trans u1).trans s9).trans u2).trans u3
    refine ⟨_, rfl, ?_⟩
    refine ⟨_, rfl, _, rfl, one, two, rfl, fun l3 H10 s10 G3 => ⟨(by show 2 ≤ sizeLine; decide), fun q3 k4 => ?_⟩⟩
    refine ⟨_, rfl, _, rfl, one, two, rfl, fun l4 H11 s11 G4 => ⟨(by show 2 ≤ sizeLine; decide), fun q4 k5 => ⟨(by show 2 ≤ sizeLine; decide), fun r2 k6 => ?_⟩⟩⟩
    have v1 := Same.put (o := HO.tup [.str "runtime", .ref l3]) k4
    have v2 := Same.put (o := HO.tup [.str "arithmetic", .ref l4]) k5
    have v3 := Same.put (o := HO.lst [.ref q3, .ref q4]) k6
    have S2 := (((s10.trans v1).trans s11).trans v2).trans v3
    refine ⟨r1, r2, [.ref q1, .ref q2], [.ref q3, .ref q4], rfl, rfl, S2 _ _ upd_same, upd_same, (by show 4 ≤ sizeLine; decide), fun r3 k7 => ?_⟩
    have v4 := Same.put (o := HO.lst [.ref q1, .ref q2, .ref q3, .ref q4]) k7
    have A3 : RowV ca one two _ (.ref q3) := RowV.same ⟨q3, "runtime", l3, rfl, upd_same, (G3.ls' (by decide)).same v1⟩ (((s11.trans v2).trans v3).trans v4)
    have A4 : RowV ca one two _ (.ref q4) := RowV.same ⟨q4, "arithmetic", l4, rfl, upd_same, (G4.ls' (by decide)).same v2⟩ (v3.trans v4)
    have A1' := A1.same (S2.trans v4)
    have A2' := A2.same (S2.trans v4)
    have SS := (S1.trans S2).trans v4
    refine ⟨_, rfl, r3, rfl, ⟨_, .inl (.inl upd_same)⟩, for_list (K := K) (a := r3) (xs := [V.ref q1, .ref q2, .ref q3, .ref q4])
      (fun i σ H' => ∃ b5 b6 b7 b8 b9 : Option V, σ = [some (V.ref a), some (V.ref p5), some one, some two, some (V.ref r3), b5, b6, b7, b8, b9, none] ∧ Same _ H')
      ⟨none, none, none, none, none, rfl, Same.refl _⟩ (fun i σ H' _ ⟨_, _, _, _, _, _, s⟩ => .inl (.inl (s _ _ upd_same))) ?_ ?_⟩
    · rintro i x σ H' hi ⟨b5, b6, b7, b8, b9, rfl, S3⟩
      have AX : RowV ca one two H' x := by
        have hx := List.mem_of_getElem? hi
        simp only [List.mem_cons, List.mem_nil_iff, or_false] at hx
        rcases hx with rfl | rfl | rfl | rfl
        · exact A1'.same S3
        · exact A2'.same S3
        · exact A3.same S3
        · exact A4.same S3
      have D1' := D1.same (SS.trans S3)
      have D2' := D2.same (SS.trans S3)
      obtain ⟨q, b, l, rfl, hq, vs, hl, hvl, hvs⟩ := AX
      refine ⟨q, _, rfl, .inl (.inl hq), rfl, _, _, rfl, _, _, rfl, rfl, ?_⟩
      refine ⟨_, rfl, l, rfl, ⟨_, .inl (.inl hl)⟩, for_list (K := K) (a := l) (xs := vs)
        (fun j σ H2 => ∃ c7 c8 c9 : Option V, σ = [some (V.ref a), some (V.ref p5), some one, some two, some (V.ref r3), some (V.str b), some (V.ref l), c7, c8, c9, none] ∧ Same H' H2)
        ⟨b7, b8, b9, rfl, Same.refl _⟩ (fun j σ H2 _ ⟨_, _, _, _, s⟩ => .inl (.inl (s _ _ hl))) ?_ ?_⟩
      · rintro j y σ H2 hj ⟨c7, c8, c9, rfl, S4⟩
        obtain ⟨qq, rfl, i', r, e, hi', rfl, hqq, he⟩ := (hvs y (List.mem_of_getElem? hj)).same S4
        obtain ⟨f2, fnd, fnm, fw, fp⟩ := tab_fs r (List.mem_of_getElem? hi')
        have TC : OexG K (ca i') := (E.ex i' r hi').T
        refine ⟨qq, _, rfl, .inl (.inl hqq), rfl, _, _, rfl, _, _, rfl, rfl, ?_⟩
        exact turn_ok (i := i') hi' TC (N i' (tab_lt hi')) he (D1'.same S4) (D2'.same S4) fun c9 H3 s3 => ⟨_, _, _, rfl, S4.trans s3⟩
      · rintro σ H2 ⟨c7, c8, c9, rfl, S4⟩
        exact ⟨_, _, _, _, _, rfl, S3.trans S4⟩
    · rintro σ H' ⟨b5, b6, b7, b8, b9, rfl, S3⟩
      exact q _ fun c o hc x => (SS.trans S3) _ _ (B7 c o hc x)
end
end E18
namespace E18
open PySem PySem.Spec PyProof.Rows L2
abbrev sLaw : Stmt := top 45
def spLaw (K : PySem.W.Frag) : Sp := fun vs H Q _ => ∃ (a : Addr) (ns : List Int), vs = [.ref a] ∧ SqL K H a (ns.map V.int) ∧ ns.length ≤ 63 ∧ ∀ H', Same H H' → Q (.bl true) H'
theorem scLaw : FnScope ["_law_script", "_law_k"] ["_law_script"] (defScope sLaw) := ⟨rfl, rfl, rfl, by decide +kernel, rfl, by decide +kernel, by decide +kernel⟩
section
variable {P : Program} {w : World} {K : PySem.W.Frag} {mg : Str → Option Value} {base : Heap} {f fR fG : Addr} {fd dR dG : FuncData}
theorem ok_law (F : Fun K "law" "law" sLaw f fd) (B : Blt mg) (R : FnG P w K mg base 4 fR dR ["_law_rng_here"] spRight) (mR : mg "_law_right" = some (.ref fR)) (kR : PySem.W.keepIn K (.ref fR) = true) (bR : L2.Binds K dR ["_law_rng_here"] [])
    (G : FnOk P w K mg base CX0 1 fG dG ["_law_script", "_law_k"] (spRng K)) (mG : mg "_law_rng" = some (.ref fG)) (kG : PySem.W.keepIn K (.ref fG) = true) (bG : L2.Binds K dG ["_law_script", "_law_k"] []) : FnG P w K mg base 5 f fd ["_law_script"] (spLaw K) := by
  have sc := scLaw
  refine F.okG sc (fun vs H Q E h => ?_) (fun cdv A outer s H vs Q E' hgd hr h => ?_)
  · obtain ⟨a, ns, rfl, _⟩ := h
    rfl
  · obtain ⟨a, ns, rfl, hS, hn, q⟩ := h
    have hr1 : Room 1 _ := hr.mono (by decide)
    have hg : (cxOf CX0 P w K mg base ["_law_script", "_law_k"] "law" (defScope sLaw) f cdv A outer s H E').nox.A.guards = some [] := hgd
    refine ⟨_, pss_one (ps_ret (pe_callB (cr_all rfl) (by rfl) B.all boot_all (pa_cons (pe_lc (own := [("_law_k", 1)]) (g := gName 1) (tt := tYes) rfl sc.nd
      (pi_range1 (by rfl) B.range (pa_cons (pe_callB (call_max2 rfl) (by rfl) B.max boot_max (pa_cons pe_int (pa_cons (pe_callB (call_min2 rfl) (by rfl) B.min boot_min (pa_cons pe_int (pa_cons (pe_callB call_len_seq (by rfl) B.len boot_len (pa_cons (pv 0) pa_nil)) pa_nil))) pa_nil))) pa_nil))
      (blkOk_by (N := ["_law_script", "_law_k"]) (sc := defScope sLaw) (by decide +kernel)) (fun _ _ _ _ _ => pg_name (i := 1) sc.nd rfl (Or.inl rfl)) (fun _ _ _ _ _ => pts_nil)
      (fun _ _ _ _ _ => pe_callG R hg hr (by rfl) mR kR bR (pa_cons (pe_call G hr1 (by rfl) mG kG bG .nil pass0 (pa_cons (pv 0) (pa_cons (pv 1) pa_nil))) pa_nil))) pa_nil))), ?_⟩
    refine ⟨_, rfl, a, _, rfl, .inl hS, _, _, rfl, _, _, rfl, _, rfl, ?_, ?_, ?_⟩
    · show -(2 ^ 62) ≤ (if (if ((ns.map V.int).length : Int) < 4 then ((ns.map V.int).length : Int) else 4) > 1 then (if ((ns.map V.int).length : Int) < 4 then ((ns.map V.int).length : Int) else 4) else 1)
      split <;> split <;> omega
    · show (if (if ((ns.map V.int).length : Int) < 4 then ((ns.map V.int).length : Int) else 4) > 1 then (if ((ns.map V.int).length : Int) < 4 then ((ns.map V.int).length : Int) else 4) else 1) < 2 ^ 62
      split <;> split <;> omega
    have hz : ((if (if ((ns.map V.int).length : Int) < 4 then ((ns.map V.int).length : Int) else 4) > 1 then (if ((ns.map V.int).length : Int) < 4 then ((ns.map V.int).length : Int) else 4) else 1) : Int).toNat ≤ 4 := by
      split <;> split <;> omega
    refine fun D hD => lc_range (fun i H2 => Same H H2 ∧ H2 D = some (.lst (List.replicate i (.bl true)))) ⟨Same.put hD, upd_same⟩ ?_ ?_
    · rintro i H2 hi ⟨s2, hd⟩
      have hi4 : i < 4 := Nat.lt_of_lt_of_le hi hz
      refine ⟨rfl, ?_⟩
      refine ⟨_, rfl, _, rfl, a, ns, i, by rw [Int.zero_add]; rfl, s2.seq hS, by omega, fun p H3 np s3 R3 => ?_⟩
      refine ⟨p, rfl, R3, fun H4 b4 => ⟨_, b4 D _ (ne_of_none hd np) (s3 _ _ hd), by rw [List.length_replicate, sizeLine_eq]; omega, fun c o x => ?_, ?_⟩⟩
      · rw [upd_ne (fun z => by rw [z, hD] at x; cases x)]
        exact b4 c o (ne_of_none (s2 _ _ x) np) (s3 _ _ (s2 _ _ x))
      · rw [List.replicate_succ']
        exact upd_same
    · rintro H2 ⟨s2, hd⟩
      have e : ∀ n : Nat, (List.replicate n true).all id = true := fun n => List.all_eq_true.mpr fun x hx => List.eq_of_mem_replicate hx
      have fin : ∀ n : Nat, H2 D = some (.lst (List.replicate n (V.bl true))) → ∃ (c : Addr) (bs : List Bool), [V.ref D] = [V.ref c] ∧ SqL K H2 c (bs.map V.bl) ∧ Q (.bl (bs.all id)) H2 := fun n hd =>
        ⟨D, List.replicate n true, rfl, .inl (.inl (by rw [hd, List.map_replicate])), by rw [e n]; exact q H2 s2⟩
      exact fin _ hd
end
/-! ### the law's call, no repr under way -/
theorem run_law {P : Program} {w : World} {K : PySem.W.Frag} {mg mb : Str → Option Value} {k : Nat} {fa a : Addr} {fd : FuncData} {x : Str} {sp : Sp} {s : Shared} {vs : List Value} {ns : List Int} (KX : K.In s.heap) (G : s.heap.Ns mainGlobals mg)
    (Gb : s.heap.Ns builtinsNs mb) (bb : ∀ y : Str, y ≠ "__name__" → mb y = bootBuiltins y) (lim : s.heap.NoLimit) (gz : s.gens = #[]) (ha : s.heap.get? a = some { cls := .type "list", data := .seq vs.toArray }) (hi : IntsAre vs ns) (hl : ns.length ≤ sizeLine)
    (hr : Room k callerA) (F : ∀ base : Heap, K.In base → base.Ns mainGlobals mg → FnG P w K mg base k fa fd [x] sp) (hb : ∀ (s : Shared) (u : Value), BindsTo s fd ⟨[u], []⟩ [(x, u)])
    (hsp : ∀ H : Hp, Only H → SqL K H a (ns.map V.int) → sp [.ref a] H (fun v H' => v = .bl true ∧ Same H H') fun _ _ _ => False) :
    codeAny (model P w) callerA (.call (.ref fa) ⟨[.ref a], []⟩) (fun r s' => r = .ok (.ret (.bool true)) ∧ OldK s.heap s'.heap ∧ s'.os = s.os ∧ AllBare s'.gens) s := by
  have go : ∀ H : Hp, (∀ b u, H b = some u → b = a ∧ K.lookup a = none ∧ u = .frz { cls := .type "list", data := .seq vs.toArray } (.lst (ns.map V.int))) → SqL K H a (ns.map V.int) →
      codeAny (model P w) callerA (.call (.ref fa) ⟨[.ref a], []⟩) (fun r s' => r = .ok (.ret (.bool true)) ∧ OldK s.heap s'.heap ∧ s'.os = s.os ∧ AllBare s'.gens) s := by
    intro H hH hS
    have none_of : ∀ b : Addr, ¬ (b = a ∧ K.lookup a = none) → H b = none := fun b nb => by
      cases e : H b with
      | none => rfl
      | some u => exact absurd ⟨(hH b u e).1, (hH b u e).2.1⟩ nb
    have dict_none : ∀ (b : Addr) (o : Obj) (es : Array DictEntry) (ep : Nat), s.heap.get? b = some o → o.data = .dict es ep → H b = none := fun b o es ep e d => none_of b fun z => by
      rw [z.1, ha] at e
      cases e
      cases d
    have keep_ns : ∀ {b : Addr} {m : Str → Option Value}, s.heap.Ns b m → (hidT s.heap H).Ns b m := fun {b m} z => by
      obtain ⟨o, es, ep, e, d, r⟩ := z
      exact ⟨o, es, ep, hidT_get e (dict_none b o es ep e d), d, r⟩
    have inB : K.In (hidT s.heap H) := fun b o e => hidT_get (KX b o e) (none_of b fun z => by rw [z.1, z.2] at e; cases e)
    obtain ⟨mc, c1, c2⟩ := lim
    have hok : HOk P w H s.heap := fun b u e => by
      obtain ⟨rfl, _, rfl⟩ := hH b u e
      exact ⟨ha, by rw [List.length_map]; exact hl, vs, _, vals_ints hi, ha⟩
    have e0 : Env0 P w K mg (hidT s.heap H) callerA [] s H := ⟨rfl, ⟨inB, keep_ns G, ⟨mb, keep_ns Gb, bb⟩, ⟨mc, keep_ns c1, c2⟩⟩, fun b o e => of_hidT e, Nat.le_of_eq (hidT_size _ _), trivial, (fun b z => absurd (show b ∈ ([] : List Addr) from z) (by simp)), hok, .of_eq gz⟩
    have only : Only H := fun b => by
      cases e : H b with
      | none => exact .inl rfl
      | some u => exact .inr ⟨_, _, by rw [(hH b u e).2.2]⟩
    refine codeAny_mono ((F _ inB (keep_ns G)).run callerA rfl hr [] s H ⟨[.ref a], []⟩ [.ref a] [.ref a] _ _ e0 (hb s (.ref a)) (.cons rfl .nil) (hsp H only hS)) fun r s' z => ?_
    match r, z with
    | .ok (.ret u), z =>
      obtain ⟨v, H', os, bare, un, hok', rv, ⟨rfl, sm⟩⟩ := z
      cases (show u = Value.bool true from rv)
      refine ⟨rfl, OldK.of_keep fun b o e => ?_, os, bare⟩
      cases q : H b with
      | none => exact un.keep b o e q (by intro z; cases z) (by intro z; cases z)
      | some u =>
        obtain ⟨rfl, _, rfl⟩ := hH b u q
        rw [ha] at e
        cases e
        exact (hok' b _ (sm _ _ q)).1
    | .ok .next, z => exact z.elim
    | .ok .brk, z => exact z.elim
    | .ok .cont, z => exact z.elim
    | .error _, z => exact z.elim
  cases hk : K.lookup a with
  | none =>
    refine go (fun b => if b = a then some (.frz { cls := .type "list", data := .seq vs.toArray } (.lst (ns.map V.int))) else none) (fun b u e => ?_) (.inl (.inr ⟨_, if_pos rfl⟩))
    by_cases hba : b = a
    · have e' := (if_pos hba).symm.trans e
      exact ⟨hba, hk, (Option.some.inj e').symm⟩
    · exact absurd ((if_neg hba).symm.trans e) (by simp)
  | some o =>
    have e := (KX a o hk).symm.trans ha
    cases e
    exact go (fun _ => none) (fun b u e => by cases e) (.inr ⟨_, vs.toArray, _, hk, rfl, rfl, rfl, by rw [List.size_toArray, hi.length]; exact hl, by simpa using vals_ints hi⟩)
theorem walk_ofX {l : PySem.W.OpenLaw} {n k : Nat} {q : Program} {loose : List Str} {XP : (Str → Option Value) → Heap → Prop} {YP : World → Heap → Prop} {d : DefRec} {x : Str} {sp : PySem.W.Frag → Sp} (hn : l.most = some n) (hn2 : n ≤ sizeLine)
    (hdf : d.params.defaults = []) (hr : Room k callerA)
    (F : ∀ (w : World) (mg : Str → Option Value) (fa : Addr) (h : Heap), YP w h → h.Ns mainGlobals mg → mg d.name = some (.ref fa) → ∃ (K : PySem.W.Frag) (fd : FuncData), K.In h ∧
      (∀ (s : Shared) (u : Value), BindsTo s fd ⟨[u], []⟩ [(x, u)]) ∧ ∀ base : Heap, K.In base → base.Ns mainGlobals mg → FnG l.prog w K mg base k fa fd [x] (sp K))
    (hsp : ∀ (K : PySem.W.Frag) (H : Hp) (a : Addr) (ns : List Int), ns.length ≤ n → Only H → SqL K H a (ns.map V.int) → sp K [.ref a] H (fun v H' => v = .bl true ∧ Same H H') fun _ _ _ => False) :
    PySem.W.WalkO q loose XP YP l.row.toRowW d [] (fun f vs => PySem.call f vs) := by
  refine Att.attach_call hn hdf fun w s₀ s₁ mg mb fa o pm cd doc a vs ns G Y ho hd hcd hmg hobj hints hlen hg => ?_
  obtain ⟨K, fd, KX, hb, hF⟩ := F w mg fa _ Y G.T.g hmg
  exact run_law KX G.T.g G.T.b G.T.builtins G.T.nolimit hg hobj hints (Nat.le_trans hlen hn2) hr hF hb fun H hO hS => hsp K H a ns hlen hO hS
end E18
namespace E18
open PySem PySem.Spec PyProof.Rows L2
def bmOf (B : String) : List Value := [.type B, .type "Exception", .type "BaseException", .type "object"]
def baseOk (K : PySem.W.Frag) (C : Addr) (b x : Str) (B newId : String) : Bool := decide (b = x) && (PySem.W.excInitIn K C (bmOf B) newId && PySem.W.excOver K C (bmOf B))
/-- what is asked of a class of errors in the written part -/
def clsOk (K : PySem.W.Frag) (r : Row) : Bool :=
  He.eqO (PySem.W.nsIn K mainGlobals r.nm) (some (some (.ref (He.ga K r.nm)))) &&
  ((baseOk K (He.ga K r.nm) r.base "value" "ValueError" "ValueError.__new__" || (baseOk K (He.ga K r.nm) r.base "lookup" "LookupError" "LookupError.__new__" || (baseOk K (He.ga K r.nm) r.base "runtime" "RuntimeError" "RuntimeError.__new__" ||
    baseOk K (He.ga K r.nm) r.base "arithmetic" "ArithmeticError" "ArithmeticError.__new__"))) &&
  (He.eqO (PySem.W.findIn K (.ref (He.ga K r.nm)) "__setattr__") (some (some (.builtin "object.__setattr__"))) && (decide (PySem.W.subIn K (.ref (He.ga K r.nm)) (.type "BaseException") = some true) && (PySem.W.keepIn K (.ref (He.ga K r.nm)) &&
  (He.eqO (PySem.W.findIn K (.ref (He.ga K r.nm)) "__getattribute__") (some (some (.builtin "BaseException.__getattribute__"))) && (He.eqO (PySem.W.findIn K (.ref (He.ga K r.nm)) "__getattr__") (some none) && (PySem.W.hasDictIn K (He.ga K r.nm) &&
  (He.eqO (PySem.W.findIn K (.ref (He.ga K r.nm)) "__class__") (some (some (.builtin "object.__class__"))) && (decide (PySem.W.mroIn K (He.ga K r.nm) (.type "object") = some true) && ((names15.all fun g => He.eqO (PySem.W.findIn K (.ref (He.ga K r.nm)) g) (some none)) &&
  (He.eqO (PySem.W.findIn K (.ref (He.ga K r.nm)) "__init__") (some (some (.ref (He.ma K (He.ga K r.nm) "__init__")))) && decide (PySem.W.typeIn K (.ref (He.ma K (He.ga K r.nm) "__init__")) = some (.type "function")))))))))))))
structure ClsS (K : PySem.W.Frag) (x : Str) : Prop where
  at_ : PySem.W.nsIn K mainGlobals x = some (some (.ref (He.ga K x)))
  T : OexG K (He.ga K x)
  N : NoNames K (He.ga K x)
  iC : PySem.W.findIn K (.ref (He.ga K x)) "__init__" = some (some (.ref (He.ma K (He.ga K x) "__init__")))
  tI : PySem.W.typeIn K (.ref (He.ma K (He.ga K x) "__init__")) = some (.type "function")
theorem base_ok {K : PySem.W.Frag} {C : Addr} {b x : Str} {B newId initId : String} (FB : ExcBaseFacts B newId initId (bmOf B)) (SB : StoreFacts B (bmOf B) "object.__setattr__" "object") (h : baseOk K C b x B newId = true) :
    ∃ (B newId initId : String) (bmB : List Value), ExcBaseFacts B newId initId bmB ∧ StoreFacts B bmB "object.__setattr__" "object" ∧ PySem.W.excInitIn K C bmB newId = true ∧ PySem.W.excOver K C bmB = true := by
  obtain ⟨_, h2⟩ := He.ba h
  obtain ⟨h3, h4⟩ := He.ba h2
  exact ⟨B, newId, initId, bmOf B, FB, SB, h3, h4⟩
theorem cls_ok {K : PySem.W.Frag} {r : Row} (h : clsOk K r = true) : ClsS K r.nm := by
  obtain ⟨c1, h⟩ := He.ba h
  obtain ⟨cb, h⟩ := He.ba h
  obtain ⟨c2, h⟩ := He.ba h
  obtain ⟨c3, h⟩ := He.ba h
  obtain ⟨c4, h⟩ := He.ba h
  obtain ⟨c5, h⟩ := He.ba h
  obtain ⟨c6, h⟩ := He.ba h
  obtain ⟨c7, h⟩ := He.ba h
  obtain ⟨c8, h⟩ := He.ba h
  obtain ⟨c9, h⟩ := He.ba h
  obtain ⟨c10, h⟩ := He.ba h
  obtain ⟨c11, c12⟩ := He.ba h
  have cls : ∃ (B newId initId : String) (bmB : List Value), ExcBaseFacts B newId initId bmB ∧ StoreFacts B bmB "object.__setattr__" "object" ∧ PySem.W.excInitIn K (He.ga K r.nm) bmB newId = true ∧ PySem.W.excOver K (He.ga K r.nm) bmB = true := by
    rcases Bool.or_eq_true_iff.mp cb with z | cb
    · exact base_ok F.excBase_ValueError F.store_ValueError z
    rcases Bool.or_eq_true_iff.mp cb with z | cb
    · exact base_ok F.excBase_LookupError F.store_LookupError z
    rcases Bool.or_eq_true_iff.mp cb with z | z
    · exact base_ok F.excBase_RuntimeError F.store_RuntimeError z
    · exact base_ok F.excBase_ArithmeticError F.store_ArithmeticError z
  exact ⟨He.eqO_ok c1, ⟨cls, He.eqO_ok c2, of_decide_eq_true c3, c4, He.eqO_ok c5, He.eqO_ok c6, c7, He.eqO_ok c8, of_decide_eq_true c9⟩, fun g hg => He.eqO_ok (List.all_eq_true.mp c10 g hg), He.eqO_ok c11, of_decide_eq_true c12⟩
def ca (K : PySem.W.Frag) (i : Nat) : Addr := match tab[i]? with
  | some r => He.ga K r.nm
  | none => 0
theorem ca_at {K : PySem.W.Frag} {i : Nat} {r : Row} (h : tab[i]? = some r) : ca K i = He.ga K r.nm := by
  unfold ca
  rw [h]
def isaOk (K : PySem.W.Frag) : Bool := (List.range 31).all fun i => ((List.range 31).all fun j => decide (PySem.W.kitOne K (.ref (ca K i)) (.ref (ca K j)) = some (decide (i = j)))) &&
  (decide (PySem.W.kitAny K (.ref (ca K i)) [.type "KeyError", .type "IndexError", .type "NotImplementedError", .type "OverflowError", .type "ZeroDivisionError"] = some false) && (match tab[i]? with
    | some r => decide (PySem.W.kitOne K (.ref (ca K i)) (.ref (He.ga K "LinkError")) = some (decide (r.base = ("value" : Str)))) && (decide (PySem.W.kitOne K (.ref (ca K i)) (.type "ValueError") = some (decide (r.base = ("value" : Str)))) &&
      (decide (PySem.W.kitOne K (.ref (ca K i)) (.type "LookupError") = some (decide (r.base = ("lookup" : Str)))) && (decide (PySem.W.kitOne K (.ref (ca K i)) (.type "RuntimeError") = some (decide (r.base = ("runtime" : Str)))) &&
      decide (PySem.W.kitOne K (.ref (ca K i)) (.type "ArithmeticError") = some (decide (r.base = ("arithmetic" : Str)))))))
    | none => true))
theorem isa_ok {K : PySem.W.Frag} (h : isaOk K = true) : Isa K (ca K) (He.ga K "LinkError") := by
  have row : ∀ i, i < 31 → _ := fun i hi => He.ba (List.all_eq_true.mp h i (List.mem_range.mpr hi))
  have two : ∀ i, i < 31 → _ := fun i hi => He.ba (row i hi).2
  have five : ∀ i r, tab[i]? = some r → decide (PySem.W.kitOne K (.ref (ca K i)) (.ref (He.ga K "LinkError")) = some (decide (r.base = ("value" : Str)))) = true ∧ decide (PySem.W.kitOne K (.ref (ca K i)) (.type "ValueError") = some (decide (r.base = ("value" : Str)))) = true ∧
      decide (PySem.W.kitOne K (.ref (ca K i)) (.type "LookupError") = some (decide (r.base = ("lookup" : Str)))) = true ∧ decide (PySem.W.kitOne K (.ref (ca K i)) (.type "RuntimeError") = some (decide (r.base = ("runtime" : Str)))) = true ∧
      decide (PySem.W.kitOne K (.ref (ca K i)) (.type "ArithmeticError") = some (decide (r.base = ("arithmetic" : Str)))) = true := fun i r hi => by
    have z := (two i (tab_lt hi)).2
    rw [hi] at z
    obtain ⟨z1, z⟩ := He.ba z
    obtain ⟨z2, z⟩ := He.ba z
    obtain ⟨z3, z⟩ := He.ba z
    obtain ⟨z4, z5⟩ := He.ba z
    exact ⟨z1, z2, z3, z4, z5⟩
  exact ⟨fun i j hi hj => of_decide_eq_true (List.all_eq_true.mp (row i hi).1 j (List.mem_range.mpr hj)), fun i r hi => of_decide_eq_true (five i r hi).1, fun i r hi => of_decide_eq_true (five i r hi).2.1, fun i r hi => of_decide_eq_true (five i r hi).2.2.1,
    fun i r hi => of_decide_eq_true (five i r hi).2.2.2.1, fun i r hi => of_decide_eq_true (five i r hi).2.2.2.2, fun i hi => of_decide_eq_true (two i hi).1⟩
/-! ### the defs -/
def dOf (x : Str) (st : Stmt) : He.DefD := ⟨(x, none), x, x, defArgs st, defBody st, defScope st, [], []⟩
def iOf (x q : Str) (st : Stmt) : He.DefD := ⟨(x, some "__init__"), "__init__", q, defArgs st, defBody st, defScope st, [], []⟩
def defs : List He.DefD := [
  iOf "InvalidName" "InvalidName.__init__" (inClass (top 2) 0),
  iOf "InvalidVersion" "InvalidVersion.__init__" (inClass (top 3) 0),
  iOf "InvalidPath" "InvalidPath.__init__" (inClass (top 4) 0),
  iOf "InvalidFlag" "InvalidFlag.__init__" (inClass (top 5) 0),
  iOf "InvalidNeeds" "InvalidNeeds.__init__" (inClass (top 6) 0),
  iOf "InvalidLocks" "InvalidLocks.__init__" (inClass (top 7) 0),
  iOf "InvalidLinkage" "InvalidLinkage.__init__" (inClass (top 8) 0),
  iOf "InvalidFact" "InvalidFact.__init__" (inClass (top 9) 0),
  iOf "InvalidDerivation" "InvalidDerivation.__init__" (inClass (top 10) 0),
  iOf "InvalidFunctions" "InvalidFunctions.__init__" (inClass (top 11) 0),
  iOf "InvalidCode" "InvalidCode.__init__" (inClass (top 12) 0),
  iOf "InvalidCount" "InvalidCount.__init__" (inClass (top 13) 0),
  iOf "InvalidText" "InvalidText.__init__" (inClass (top 14) 0),
  iOf "InvalidEdit" "InvalidEdit.__init__" (inClass (top 15) 0),
  iOf "InvalidCommand" "InvalidCommand.__init__" (inClass (top 16) 0),
  iOf "UnknownPackage" "UnknownPackage.__init__" (inClass (top 17) 0),
  iOf "UnknownRelease" "UnknownRelease.__init__" (inClass (top 18) 0),
  iOf "UnknownPath" "UnknownPath.__init__" (inClass (top 19) 0),
  iOf "UnknownFunction" "UnknownFunction.__init__" (inClass (top 20) 0),
  iOf "NoNeed" "NoNeed.__init__" (inClass (top 21) 0),
  iOf "NameTaken" "NameTaken.__init__" (inClass (top 22) 0),
  iOf "LabelTaken" "LabelTaken.__init__" (inClass (top 23) 0),
  iOf "NotEarlier" "NotEarlier.__init__" (inClass (top 24) 0),
  iOf "NotRising" "NotRising.__init__" (inClass (top 25) 0),
  iOf "NotGrowing" "NotGrowing.__init__" (inClass (top 26) 0),
  iOf "LostFunction" "LostFunction.__init__" (inClass (top 27) 0),
  iOf "Clash" "Clash.__init__" (inClass (top 28) 0),
  iOf "NotCopies" "NotCopies.__init__" (inClass (top 29) 0),
  iOf "NothingToUndo" "NothingToUndo.__init__" (inClass (top 30) 0),
  iOf "TooMany" "TooMany.__init__" (inClass (top 31) 0),
  iOf "TooManySteps" "TooManySteps.__init__" (inClass (top 32) 0),
  dOf "_law_rng" (top 34),
  dOf "_law_draw" (top 35),
  dOf "_law_choice" (top 36),
  dOf "_law_values" (top 37),
  dOf "_law_others" (top 38),
  dOf "_law_refusals" (top 39),
  dOf "_law_limits" (top 40),
  dOf "_law_field" (top 41),
  dOf "_law_classes" (top 42),
  dOf "_law_bases_right" (top 43),
  dOf "_law_right" (top 44),
  dOf "law" (top 45)]
def free20 : List Str := ["len", "abs", "max", "min", "divmod", "isinstance", "int", "sum", "repr", "all", "range", "ValueError", "LookupError", "RuntimeError", "ArithmeticError", "KeyError", "IndexError", "NotImplementedError", "OverflowError", "ZeroDivisionError"]
def sysOk (K : PySem.W.Frag) : Bool := match K.lookup sysModules with
  | some o => decide (o.cls = .type "dict")
  | none => false
def allOk (K : PySem.W.Frag) : Bool := (tab.all (clsOk K)) && (isaOk K && ((defs.all fun d => d.ok K) && ((free20.all fun x => He.eqO (PySem.W.nsIn K mainGlobals x) (some none)) && (((["_law_rng", "_law_draw", "_law_choice", "_law_values", "_law_others", "_law_refusals", "_law_limits", "_law_field", "_law_classes", "_law_bases_right", "_law_right", "law", "LinkError"] : List Str).all fun x => He.eqO (PySem.W.nsIn K mainGlobals x) (some (some (.ref (He.ga K x))))) &&
  (He.eqO (PySem.W.specialIn K (.builtin "object.__class__") "__get__") (some (some (.builtin "getset_descriptor.__get__"))) && (decide (PySem.W.takesIn K (.builtin "object.__class__") = some true) && sysOk K))))))
theorem toFun {K : PySem.W.Frag} {x q : Str} {st : Stmt} {f : Addr} {fd : FuncData} (F : FunD K x q (defArgs st) (defBody st) (defScope st) [] [] f fd) : Fun K x q st f fd := by
  obtain ⟨oc, od, dV, kV, doc, pm, an, cdv, ct, osl, rfl, lk, hcd, hD, _⟩ := F.ex
  rcases hD with ⟨_, rfl⟩ | ⟨n, _⟩
  · exact ⟨⟨oc, od, kV, doc, pm, an, cdv, ct, osl, rfl, lk, hcd⟩, F.kp⟩
  · exact absurd rfl n
theorem funOf {K : PySem.W.Frag} (e : (defs.map fun d => He.fnW K d.at_) = defs.map He.DefD.val) (c : (defs.all fun d => d.ok K) = true) {d : He.DefD} (m : d ∈ defs) : ∃ fd, FunD K d.name d.qual d.params d.body d.scope (d.dvs K) (d.kws K) (He.fAd K d.at_) fd :=
  He.DefD.funD (List.map_inj_left.mp e d m) (List.all_eq_true.mp c d m)
section
variable {P : Program} {w : World} {K : PySem.W.Frag} {mg : Str → Option Value} {base h : Heap}
theorem cls_0 {fd : FuncData} (X : K.In h) (G : h.Ns mainGlobals mg) (S : ClsS K "InvalidName") (F : Fun K "__init__" "InvalidName.__init__" (inClass (top 2) 0) (He.ma K (He.ga K "InvalidName") "__init__") fd) : ExCls P w K mg base "InvalidName" (He.ga K "InvalidName") ["value"] := by
  have FO : FnOk P w K mg base CX0 1 (He.ma K (He.ga K "InvalidName") "__init__") fd [("self" : Str), "value"] (spIni (He.ga K "InvalidName") ["value"]) := ini1 (f := "value") (by decide) (by decide) F ⟨rfl, rfl, rfl, by decide +kernel, rfl, by decide +kernel, by decide +kernel⟩ ⟨_, _, _, _, rfl⟩ S.T (S.N _ (by decide +kernel))
  obtain ⟨oc, od, kV, doc, pm, an, cdv, ct, osl, rfl, lk, hcd⟩ := F.ex
  exact ⟨S.T, PySem.W.mg_of X G S.at_, _, _, S.iC, S.tI, FO, fun s us hl => match us, hl with | [_, _], _ => .of_eq rfl, fun s a ws hl => match ws, hl with | [_], _ => .of_eq rfl⟩
theorem cls_1 {fd : FuncData} (X : K.In h) (G : h.Ns mainGlobals mg) (S : ClsS K "InvalidVersion") (F : Fun K "__init__" "InvalidVersion.__init__" (inClass (top 3) 0) (He.ma K (He.ga K "InvalidVersion") "__init__") fd) : ExCls P w K mg base "InvalidVersion" (He.ga K "InvalidVersion") ["value"] := by
  have FO : FnOk P w K mg base CX0 1 (He.ma K (He.ga K "InvalidVersion") "__init__") fd [("self" : Str), "value"] (spIni (He.ga K "InvalidVersion") ["value"]) := ini1 (f := "value") (by decide) (by decide) F ⟨rfl, rfl, rfl, by decide +kernel, rfl, by decide +kernel, by decide +kernel⟩ ⟨_, _, _, _, rfl⟩ S.T (S.N _ (by decide +kernel))
  obtain ⟨oc, od, kV, doc, pm, an, cdv, ct, osl, rfl, lk, hcd⟩ := F.ex
  exact ⟨S.T, PySem.W.mg_of X G S.at_, _, _, S.iC, S.tI, FO, fun s us hl => match us, hl with | [_, _], _ => .of_eq rfl, fun s a ws hl => match ws, hl with | [_], _ => .of_eq rfl⟩
theorem cls_2 {fd : FuncData} (X : K.In h) (G : h.Ns mainGlobals mg) (S : ClsS K "InvalidPath") (F : Fun K "__init__" "InvalidPath.__init__" (inClass (top 4) 0) (He.ma K (He.ga K "InvalidPath") "__init__") fd) : ExCls P w K mg base "InvalidPath" (He.ga K "InvalidPath") ["value"] := by
  have FO : FnOk P w K mg base CX0 1 (He.ma K (He.ga K "InvalidPath") "__init__") fd [("self" : Str), "value"] (spIni (He.ga K "InvalidPath") ["value"]) := ini1 (f := "value") (by decide) (by decide) F ⟨rfl, rfl, rfl, by decide +kernel, rfl, by decide +kernel, by decide +kernel⟩ ⟨_, _, _, _, rfl⟩ S.T (S.N _ (by decide +kernel))
  obtain ⟨oc, od, kV, doc, pm, an, cdv, ct, osl, rfl, lk, hcd⟩ := F.ex
  exact ⟨S.T, PySem.W.mg_of X G S.at_, _, _, S.iC, S.tI, FO, fun s us hl => match us, hl with | [_, _], _ => .of_eq rfl, fun s a ws hl => match ws, hl with | [_], _ => .of_eq rfl⟩
theorem cls_3 {fd : FuncData} (X : K.In h) (G : h.Ns mainGlobals mg) (S : ClsS K "InvalidFlag") (F : Fun K "__init__" "InvalidFlag.__init__" (inClass (top 5) 0) (He.ma K (He.ga K "InvalidFlag") "__init__") fd) : ExCls P w K mg base "InvalidFlag" (He.ga K "InvalidFlag") ["value"] := by
  have FO : FnOk P w K mg base CX0 1 (He.ma K (He.ga K "InvalidFlag") "__init__") fd [("self" : Str), "value"] (spIni (He.ga K "InvalidFlag") ["value"]) := ini1 (f := "value") (by decide) (by decide) F ⟨rfl, rfl, rfl, by decide +kernel, rfl, by decide +kernel, by decide +kernel⟩ ⟨_, _, _, _, rfl⟩ S.T (S.N _ (by decide +kernel))
  obtain ⟨oc, od, kV, doc, pm, an, cdv, ct, osl, rfl, lk, hcd⟩ := F.ex
  exact ⟨S.T, PySem.W.mg_of X G S.at_, _, _, S.iC, S.tI, FO, fun s us hl => match us, hl with | [_, _], _ => .of_eq rfl, fun s a ws hl => match ws, hl with | [_], _ => .of_eq rfl⟩
theorem cls_4 {fd : FuncData} (X : K.In h) (G : h.Ns mainGlobals mg) (S : ClsS K "InvalidNeeds") (F : Fun K "__init__" "InvalidNeeds.__init__" (inClass (top 6) 0) (He.ma K (He.ga K "InvalidNeeds") "__init__") fd) : ExCls P w K mg base "InvalidNeeds" (He.ga K "InvalidNeeds") ["position"] := by
  have FO : FnOk P w K mg base CX0 1 (He.ma K (He.ga K "InvalidNeeds") "__init__") fd [("self" : Str), "position"] (spIni (He.ga K "InvalidNeeds") ["position"]) := ini1 (f := "position") (by decide) (by decide) F ⟨rfl, rfl, rfl, by decide +kernel, rfl, by decide +kernel, by decide +kernel⟩ ⟨_, _, _, _, rfl⟩ S.T (S.N _ (by decide +kernel))
  obtain ⟨oc, od, kV, doc, pm, an, cdv, ct, osl, rfl, lk, hcd⟩ := F.ex
  exact ⟨S.T, PySem.W.mg_of X G S.at_, _, _, S.iC, S.tI, FO, fun s us hl => match us, hl with | [_, _], _ => .of_eq rfl, fun s a ws hl => match ws, hl with | [_], _ => .of_eq rfl⟩
theorem cls_5 {fd : FuncData} (X : K.In h) (G : h.Ns mainGlobals mg) (S : ClsS K "InvalidLocks") (F : Fun K "__init__" "InvalidLocks.__init__" (inClass (top 7) 0) (He.ma K (He.ga K "InvalidLocks") "__init__") fd) : ExCls P w K mg base "InvalidLocks" (He.ga K "InvalidLocks") ["position"] := by
  have FO : FnOk P w K mg base CX0 1 (He.ma K (He.ga K "InvalidLocks") "__init__") fd [("self" : Str), "position"] (spIni (He.ga K "InvalidLocks") ["position"]) := ini1 (f := "position") (by decide) (by decide) F ⟨rfl, rfl, rfl, by decide +kernel, rfl, by decide +kernel, by decide +kernel⟩ ⟨_, _, _, _, rfl⟩ S.T (S.N _ (by decide +kernel))
  obtain ⟨oc, od, kV, doc, pm, an, cdv, ct, osl, rfl, lk, hcd⟩ := F.ex
  exact ⟨S.T, PySem.W.mg_of X G S.at_, _, _, S.iC, S.tI, FO, fun s us hl => match us, hl with | [_, _], _ => .of_eq rfl, fun s a ws hl => match ws, hl with | [_], _ => .of_eq rfl⟩
theorem cls_6 {fd : FuncData} (X : K.In h) (G : h.Ns mainGlobals mg) (S : ClsS K "InvalidLinkage") (F : Fun K "__init__" "InvalidLinkage.__init__" (inClass (top 8) 0) (He.ma K (He.ga K "InvalidLinkage") "__init__") fd) : ExCls P w K mg base "InvalidLinkage" (He.ga K "InvalidLinkage") ["problem", "row"] := by
  have FO : FnOk P w K mg base CX0 1 (He.ma K (He.ga K "InvalidLinkage") "__init__") fd [("self" : Str), "problem", "row"] (spIni (He.ga K "InvalidLinkage") ["problem", "row"]) := ini2 (f := "problem") (g := "row") (by decide) (by decide) (by decide) (by decide) F ⟨rfl, rfl, rfl, by decide +kernel, rfl, by decide +kernel, by decide +kernel⟩ ⟨_, _, _, _, _, _, _, _, rfl⟩ S.T (S.N _ (by decide +kernel)) (S.N _ (by decide +kernel))
  obtain ⟨oc, od, kV, doc, pm, an, cdv, ct, osl, rfl, lk, hcd⟩ := F.ex
  exact ⟨S.T, PySem.W.mg_of X G S.at_, _, _, S.iC, S.tI, FO, fun s us hl => match us, hl with | [_, _, _], _ => .of_eq rfl, fun s a ws hl => match ws, hl with | [_, _], _ => .of_eq rfl⟩
theorem cls_7 {fd : FuncData} (X : K.In h) (G : h.Ns mainGlobals mg) (S : ClsS K "InvalidFact") (F : Fun K "__init__" "InvalidFact.__init__" (inClass (top 9) 0) (He.ma K (He.ga K "InvalidFact") "__init__") fd) : ExCls P w K mg base "InvalidFact" (He.ga K "InvalidFact") ["value"] := by
  have FO : FnOk P w K mg base CX0 1 (He.ma K (He.ga K "InvalidFact") "__init__") fd [("self" : Str), "value"] (spIni (He.ga K "InvalidFact") ["value"]) := ini1 (f := "value") (by decide) (by decide) F ⟨rfl, rfl, rfl, by decide +kernel, rfl, by decide +kernel, by decide +kernel⟩ ⟨_, _, _, _, rfl⟩ S.T (S.N _ (by decide +kernel))
  obtain ⟨oc, od, kV, doc, pm, an, cdv, ct, osl, rfl, lk, hcd⟩ := F.ex
  exact ⟨S.T, PySem.W.mg_of X G S.at_, _, _, S.iC, S.tI, FO, fun s us hl => match us, hl with | [_, _], _ => .of_eq rfl, fun s a ws hl => match ws, hl with | [_], _ => .of_eq rfl⟩
theorem cls_8 {fd : FuncData} (X : K.In h) (G : h.Ns mainGlobals mg) (S : ClsS K "InvalidDerivation") (F : Fun K "__init__" "InvalidDerivation.__init__" (inClass (top 10) 0) (He.ma K (He.ga K "InvalidDerivation") "__init__") fd) : ExCls P w K mg base "InvalidDerivation" (He.ga K "InvalidDerivation") ["value"] := by
  have FO : FnOk P w K mg base CX0 1 (He.ma K (He.ga K "InvalidDerivation") "__init__") fd [("self" : Str), "value"] (spIni (He.ga K "InvalidDerivation") ["value"]) := ini1 (f := "value") (by decide) (by decide) F ⟨rfl, rfl, rfl, by decide +kernel, rfl, by decide +kernel, by decide +kernel⟩ ⟨_, _, _, _, rfl⟩ S.T (S.N _ (by decide +kernel))
  obtain ⟨oc, od, kV, doc, pm, an, cdv, ct, osl, rfl, lk, hcd⟩ := F.ex
  exact ⟨S.T, PySem.W.mg_of X G S.at_, _, _, S.iC, S.tI, FO, fun s us hl => match us, hl with | [_, _], _ => .of_eq rfl, fun s a ws hl => match ws, hl with | [_], _ => .of_eq rfl⟩
theorem cls_9 {fd : FuncData} (X : K.In h) (G : h.Ns mainGlobals mg) (S : ClsS K "InvalidFunctions") (F : Fun K "__init__" "InvalidFunctions.__init__" (inClass (top 11) 0) (He.ma K (He.ga K "InvalidFunctions") "__init__") fd) : ExCls P w K mg base "InvalidFunctions" (He.ga K "InvalidFunctions") ["problem", "position"] := by
  have FO : FnOk P w K mg base CX0 1 (He.ma K (He.ga K "InvalidFunctions") "__init__") fd [("self" : Str), "problem", "position"] (spIni (He.ga K "InvalidFunctions") ["problem", "position"]) := ini2 (f := "problem") (g := "position") (by decide) (by decide) (by decide) (by decide) F ⟨rfl, rfl, rfl, by decide +kernel, rfl, by decide +kernel, by decide +kernel⟩ ⟨_, _, _, _, _, _, _, _, rfl⟩ S.T (S.N _ (by decide +kernel)) (S.N _ (by decide +kernel))
  obtain ⟨oc, od, kV, doc, pm, an, cdv, ct, osl, rfl, lk, hcd⟩ := F.ex
  exact ⟨S.T, PySem.W.mg_of X G S.at_, _, _, S.iC, S.tI, FO, fun s us hl => match us, hl with | [_, _, _], _ => .of_eq rfl, fun s a ws hl => match ws, hl with | [_, _], _ => .of_eq rfl⟩
theorem cls_10 {fd : FuncData} (X : K.In h) (G : h.Ns mainGlobals mg) (S : ClsS K "InvalidCode") (F : Fun K "__init__" "InvalidCode.__init__" (inClass (top 12) 0) (He.ma K (He.ga K "InvalidCode") "__init__") fd) : ExCls P w K mg base "InvalidCode" (He.ga K "InvalidCode") ["value"] := by
  have FO : FnOk P w K mg base CX0 1 (He.ma K (He.ga K "InvalidCode") "__init__") fd [("self" : Str), "value"] (spIni (He.ga K "InvalidCode") ["value"]) := ini1 (f := "value") (by decide) (by decide) F ⟨rfl, rfl, rfl, by decide +kernel, rfl, by decide +kernel, by decide +kernel⟩ ⟨_, _, _, _, rfl⟩ S.T (S.N _ (by decide +kernel))
  obtain ⟨oc, od, kV, doc, pm, an, cdv, ct, osl, rfl, lk, hcd⟩ := F.ex
  exact ⟨S.T, PySem.W.mg_of X G S.at_, _, _, S.iC, S.tI, FO, fun s us hl => match us, hl with | [_, _], _ => .of_eq rfl, fun s a ws hl => match ws, hl with | [_], _ => .of_eq rfl⟩
theorem cls_11 {fd : FuncData} (X : K.In h) (G : h.Ns mainGlobals mg) (S : ClsS K "InvalidCount") (F : Fun K "__init__" "InvalidCount.__init__" (inClass (top 13) 0) (He.ma K (He.ga K "InvalidCount") "__init__") fd) : ExCls P w K mg base "InvalidCount" (He.ga K "InvalidCount") ["value"] := by
  have FO : FnOk P w K mg base CX0 1 (He.ma K (He.ga K "InvalidCount") "__init__") fd [("self" : Str), "value"] (spIni (He.ga K "InvalidCount") ["value"]) := ini1 (f := "value") (by decide) (by decide) F ⟨rfl, rfl, rfl, by decide +kernel, rfl, by decide +kernel, by decide +kernel⟩ ⟨_, _, _, _, rfl⟩ S.T (S.N _ (by decide +kernel))
  obtain ⟨oc, od, kV, doc, pm, an, cdv, ct, osl, rfl, lk, hcd⟩ := F.ex
  exact ⟨S.T, PySem.W.mg_of X G S.at_, _, _, S.iC, S.tI, FO, fun s us hl => match us, hl with | [_, _], _ => .of_eq rfl, fun s a ws hl => match ws, hl with | [_], _ => .of_eq rfl⟩
theorem cls_12 {fd : FuncData} (X : K.In h) (G : h.Ns mainGlobals mg) (S : ClsS K "InvalidText") (F : Fun K "__init__" "InvalidText.__init__" (inClass (top 14) 0) (He.ma K (He.ga K "InvalidText") "__init__") fd) : ExCls P w K mg base "InvalidText" (He.ga K "InvalidText") ["line"] := by
  have FO : FnOk P w K mg base CX0 1 (He.ma K (He.ga K "InvalidText") "__init__") fd [("self" : Str), "line"] (spIni (He.ga K "InvalidText") ["line"]) := ini1 (f := "line") (by decide) (by decide) F ⟨rfl, rfl, rfl, by decide +kernel, rfl, by decide +kernel, by decide +kernel⟩ ⟨_, _, _, _, rfl⟩ S.T (S.N _ (by decide +kernel))
  obtain ⟨oc, od, kV, doc, pm, an, cdv, ct, osl, rfl, lk, hcd⟩ := F.ex
  exact ⟨S.T, PySem.W.mg_of X G S.at_, _, _, S.iC, S.tI, FO, fun s us hl => match us, hl with | [_, _], _ => .of_eq rfl, fun s a ws hl => match ws, hl with | [_], _ => .of_eq rfl⟩
theorem cls_13 {fd : FuncData} (X : K.In h) (G : h.Ns mainGlobals mg) (S : ClsS K "InvalidEdit") (F : Fun K "__init__" "InvalidEdit.__init__" (inClass (top 15) 0) (He.ma K (He.ga K "InvalidEdit") "__init__") fd) : ExCls P w K mg base "InvalidEdit" (He.ga K "InvalidEdit") ["value"] := by
  have FO : FnOk P w K mg base CX0 1 (He.ma K (He.ga K "InvalidEdit") "__init__") fd [("self" : Str), "value"] (spIni (He.ga K "InvalidEdit") ["value"]) := ini1 (f := "value") (by decide) (by decide) F ⟨rfl, rfl, rfl, by decide +kernel, rfl, by decide +kernel, by decide +kernel⟩ ⟨_, _, _, _, rfl⟩ S.T (S.N _ (by decide +kernel))
  obtain ⟨oc, od, kV, doc, pm, an, cdv, ct, osl, rfl, lk, hcd⟩ := F.ex
  exact ⟨S.T, PySem.W.mg_of X G S.at_, _, _, S.iC, S.tI, FO, fun s us hl => match us, hl with | [_, _], _ => .of_eq rfl, fun s a ws hl => match ws, hl with | [_], _ => .of_eq rfl⟩
theorem cls_14 {fd : FuncData} (X : K.In h) (G : h.Ns mainGlobals mg) (S : ClsS K "InvalidCommand") (F : Fun K "__init__" "InvalidCommand.__init__" (inClass (top 16) 0) (He.ma K (He.ga K "InvalidCommand") "__init__") fd) : ExCls P w K mg base "InvalidCommand" (He.ga K "InvalidCommand") ["value"] := by
  have FO : FnOk P w K mg base CX0 1 (He.ma K (He.ga K "InvalidCommand") "__init__") fd [("self" : Str), "value"] (spIni (He.ga K "InvalidCommand") ["value"]) := ini1 (f := "value") (by decide) (by decide) F ⟨rfl, rfl, rfl, by decide +kernel, rfl, by decide +kernel, by decide +kernel⟩ ⟨_, _, _, _, rfl⟩ S.T (S.N _ (by decide +kernel))
  obtain ⟨oc, od, kV, doc, pm, an, cdv, ct, osl, rfl, lk, hcd⟩ := F.ex
  exact ⟨S.T, PySem.W.mg_of X G S.at_, _, _, S.iC, S.tI, FO, fun s us hl => match us, hl with | [_, _], _ => .of_eq rfl, fun s a ws hl => match ws, hl with | [_], _ => .of_eq rfl⟩
theorem cls_15 {fd : FuncData} (X : K.In h) (G : h.Ns mainGlobals mg) (S : ClsS K "UnknownPackage") (F : Fun K "__init__" "UnknownPackage.__init__" (inClass (top 17) 0) (He.ma K (He.ga K "UnknownPackage") "__init__") fd) : ExCls P w K mg base "UnknownPackage" (He.ga K "UnknownPackage") ["value"] := by
  have FO : FnOk P w K mg base CX0 1 (He.ma K (He.ga K "UnknownPackage") "__init__") fd [("self" : Str), "value"] (spIni (He.ga K "UnknownPackage") ["value"]) := ini1 (f := "value") (by decide) (by decide) F ⟨rfl, rfl, rfl, by decide +kernel, rfl, by decide +kernel, by decide +kernel⟩ ⟨_, _, _, _, rfl⟩ S.T (S.N _ (by decide +kernel))
  obtain ⟨oc, od, kV, doc, pm, an, cdv, ct, osl, rfl, lk, hcd⟩ := F.ex
  exact ⟨S.T, PySem.W.mg_of X G S.at_, _, _, S.iC, S.tI, FO, fun s us hl => match us, hl with | [_, _], _ => .of_eq rfl, fun s a ws hl => match ws, hl with | [_], _ => .of_eq rfl⟩
theorem cls_16 {fd : FuncData} (X : K.In h) (G : h.Ns mainGlobals mg) (S : ClsS K "UnknownRelease") (F : Fun K "__init__" "UnknownRelease.__init__" (inClass (top 18) 0) (He.ma K (He.ga K "UnknownRelease") "__init__") fd) : ExCls P w K mg base "UnknownRelease" (He.ga K "UnknownRelease") ["package", "version"] := by
  have FO : FnOk P w K mg base CX0 1 (He.ma K (He.ga K "UnknownRelease") "__init__") fd [("self" : Str), "package", "version"] (spIni (He.ga K "UnknownRelease") ["package", "version"]) := ini2 (f := "package") (g := "version") (by decide) (by decide) (by decide) (by decide) F ⟨rfl, rfl, rfl, by decide +kernel, rfl, by decide +kernel, by decide +kernel⟩ ⟨_, _, _, _, _, _, _, _, rfl⟩ S.T (S.N _ (by decide +kernel)) (S.N _ (by decide +kernel))
  obtain ⟨oc, od, kV, doc, pm, an, cdv, ct, osl, rfl, lk, hcd⟩ := F.ex
  exact ⟨S.T, PySem.W.mg_of X G S.at_, _, _, S.iC, S.tI, FO, fun s us hl => match us, hl with | [_, _, _], _ => .of_eq rfl, fun s a ws hl => match ws, hl with | [_, _], _ => .of_eq rfl⟩
theorem cls_17 {fd : FuncData} (X : K.In h) (G : h.Ns mainGlobals mg) (S : ClsS K "UnknownPath") (F : Fun K "__init__" "UnknownPath.__init__" (inClass (top 19) 0) (He.ma K (He.ga K "UnknownPath") "__init__") fd) : ExCls P w K mg base "UnknownPath" (He.ga K "UnknownPath") ["value"] := by
  have FO : FnOk P w K mg base CX0 1 (He.ma K (He.ga K "UnknownPath") "__init__") fd [("self" : Str), "value"] (spIni (He.ga K "UnknownPath") ["value"]) := ini1 (f := "value") (by decide) (by decide) F ⟨rfl, rfl, rfl, by decide +kernel, rfl, by decide +kernel, by decide +kernel⟩ ⟨_, _, _, _, rfl⟩ S.T (S.N _ (by decide +kernel))
  obtain ⟨oc, od, kV, doc, pm, an, cdv, ct, osl, rfl, lk, hcd⟩ := F.ex
  exact ⟨S.T, PySem.W.mg_of X G S.at_, _, _, S.iC, S.tI, FO, fun s us hl => match us, hl with | [_, _], _ => .of_eq rfl, fun s a ws hl => match ws, hl with | [_], _ => .of_eq rfl⟩
theorem cls_18 {fd : FuncData} (X : K.In h) (G : h.Ns mainGlobals mg) (S : ClsS K "UnknownFunction") (F : Fun K "__init__" "UnknownFunction.__init__" (inClass (top 20) 0) (He.ma K (He.ga K "UnknownFunction") "__init__") fd) : ExCls P w K mg base "UnknownFunction" (He.ga K "UnknownFunction") ["value"] := by
  have FO : FnOk P w K mg base CX0 1 (He.ma K (He.ga K "UnknownFunction") "__init__") fd [("self" : Str), "value"] (spIni (He.ga K "UnknownFunction") ["value"]) := ini1 (f := "value") (by decide) (by decide) F ⟨rfl, rfl, rfl, by decide +kernel, rfl, by decide +kernel, by decide +kernel⟩ ⟨_, _, _, _, rfl⟩ S.T (S.N _ (by decide +kernel))
  obtain ⟨oc, od, kV, doc, pm, an, cdv, ct, osl, rfl, lk, hcd⟩ := F.ex
  exact ⟨S.T, PySem.W.mg_of X G S.at_, _, _, S.iC, S.tI, FO, fun s us hl => match us, hl with | [_, _], _ => .of_eq rfl, fun s a ws hl => match ws, hl with | [_], _ => .of_eq rfl⟩
theorem cls_19 {fd : FuncData} (X : K.In h) (G : h.Ns mainGlobals mg) (S : ClsS K "NoNeed") (F : Fun K "__init__" "NoNeed.__init__" (inClass (top 21) 0) (He.ma K (He.ga K "NoNeed") "__init__") fd) : ExCls P w K mg base "NoNeed" (He.ga K "NoNeed") ["label"] := by
  have FO : FnOk P w K mg base CX0 1 (He.ma K (He.ga K "NoNeed") "__init__") fd [("self" : Str), "label"] (spIni (He.ga K "NoNeed") ["label"]) := ini1 (f := "label") (by decide) (by decide) F ⟨rfl, rfl, rfl, by decide +kernel, rfl, by decide +kernel, by decide +kernel⟩ ⟨_, _, _, _, rfl⟩ S.T (S.N _ (by decide +kernel))
  obtain ⟨oc, od, kV, doc, pm, an, cdv, ct, osl, rfl, lk, hcd⟩ := F.ex
  exact ⟨S.T, PySem.W.mg_of X G S.at_, _, _, S.iC, S.tI, FO, fun s us hl => match us, hl with | [_, _], _ => .of_eq rfl, fun s a ws hl => match ws, hl with | [_], _ => .of_eq rfl⟩
theorem cls_20 {fd : FuncData} (X : K.In h) (G : h.Ns mainGlobals mg) (S : ClsS K "NameTaken") (F : Fun K "__init__" "NameTaken.__init__" (inClass (top 22) 0) (He.ma K (He.ga K "NameTaken") "__init__") fd) : ExCls P w K mg base "NameTaken" (He.ga K "NameTaken") ["value"] := by
  have FO : FnOk P w K mg base CX0 1 (He.ma K (He.ga K "NameTaken") "__init__") fd [("self" : Str), "value"] (spIni (He.ga K "NameTaken") ["value"]) := ini1 (f := "value") (by decide) (by decide) F ⟨rfl, rfl, rfl, by decide +kernel, rfl, by decide +kernel, by decide +kernel⟩ ⟨_, _, _, _, rfl⟩ S.T (S.N _ (by decide +kernel))
  obtain ⟨oc, od, kV, doc, pm, an, cdv, ct, osl, rfl, lk, hcd⟩ := F.ex
  exact ⟨S.T, PySem.W.mg_of X G S.at_, _, _, S.iC, S.tI, FO, fun s us hl => match us, hl with | [_, _], _ => .of_eq rfl, fun s a ws hl => match ws, hl with | [_], _ => .of_eq rfl⟩
theorem cls_21 {fd : FuncData} (X : K.In h) (G : h.Ns mainGlobals mg) (S : ClsS K "LabelTaken") (F : Fun K "__init__" "LabelTaken.__init__" (inClass (top 23) 0) (He.ma K (He.ga K "LabelTaken") "__init__") fd) : ExCls P w K mg base "LabelTaken" (He.ga K "LabelTaken") ["label"] := by
  have FO : FnOk P w K mg base CX0 1 (He.ma K (He.ga K "LabelTaken") "__init__") fd [("self" : Str), "label"] (spIni (He.ga K "LabelTaken") ["label"]) := ini1 (f := "label") (by decide) (by decide) F ⟨rfl, rfl, rfl, by decide +kernel, rfl, by decide +kernel, by decide +kernel⟩ ⟨_, _, _, _, rfl⟩ S.T (S.N _ (by decide +kernel))
  obtain ⟨oc, od, kV, doc, pm, an, cdv, ct, osl, rfl, lk, hcd⟩ := F.ex
  exact ⟨S.T, PySem.W.mg_of X G S.at_, _, _, S.iC, S.tI, FO, fun s us hl => match us, hl with | [_, _], _ => .of_eq rfl, fun s a ws hl => match ws, hl with | [_], _ => .of_eq rfl⟩
theorem cls_22 {fd : FuncData} (X : K.In h) (G : h.Ns mainGlobals mg) (S : ClsS K "NotEarlier") (F : Fun K "__init__" "NotEarlier.__init__" (inClass (top 24) 0) (He.ma K (He.ga K "NotEarlier") "__init__") fd) : ExCls P w K mg base "NotEarlier" (He.ga K "NotEarlier") ["user", "used"] := by
  have FO : FnOk P w K mg base CX0 1 (He.ma K (He.ga K "NotEarlier") "__init__") fd [("self" : Str), "user", "used"] (spIni (He.ga K "NotEarlier") ["user", "used"]) := ini2 (f := "user") (g := "used") (by decide) (by decide) (by decide) (by decide) F ⟨rfl, rfl, rfl, by decide +kernel, rfl, by decide +kernel, by decide +kernel⟩ ⟨_, _, _, _, _, _, _, _, rfl⟩ S.T (S.N _ (by decide +kernel)) (S.N _ (by decide +kernel))
  obtain ⟨oc, od, kV, doc, pm, an, cdv, ct, osl, rfl, lk, hcd⟩ := F.ex
  exact ⟨S.T, PySem.W.mg_of X G S.at_, _, _, S.iC, S.tI, FO, fun s us hl => match us, hl with | [_, _, _], _ => .of_eq rfl, fun s a ws hl => match ws, hl with | [_, _], _ => .of_eq rfl⟩
theorem cls_23 {fd : FuncData} (X : K.In h) (G : h.Ns mainGlobals mg) (S : ClsS K "NotRising") (F : Fun K "__init__" "NotRising.__init__" (inClass (top 25) 0) (He.ma K (He.ga K "NotRising") "__init__") fd) : ExCls P w K mg base "NotRising" (He.ga K "NotRising") ["package", "version"] := by
  have FO : FnOk P w K mg base CX0 1 (He.ma K (He.ga K "NotRising") "__init__") fd [("self" : Str), "package", "version"] (spIni (He.ga K "NotRising") ["package", "version"]) := ini2 (f := "package") (g := "version") (by decide) (by decide) (by decide) (by decide) F ⟨rfl, rfl, rfl, by decide +kernel, rfl, by decide +kernel, by decide +kernel⟩ ⟨_, _, _, _, _, _, _, _, rfl⟩ S.T (S.N _ (by decide +kernel)) (S.N _ (by decide +kernel))
  obtain ⟨oc, od, kV, doc, pm, an, cdv, ct, osl, rfl, lk, hcd⟩ := F.ex
  exact ⟨S.T, PySem.W.mg_of X G S.at_, _, _, S.iC, S.tI, FO, fun s us hl => match us, hl with | [_, _, _], _ => .of_eq rfl, fun s a ws hl => match ws, hl with | [_, _], _ => .of_eq rfl⟩
theorem cls_24 {fd : FuncData} (X : K.In h) (G : h.Ns mainGlobals mg) (S : ClsS K "NotGrowing") (F : Fun K "__init__" "NotGrowing.__init__" (inClass (top 26) 0) (He.ma K (He.ga K "NotGrowing") "__init__") fd) : ExCls P w K mg base "NotGrowing" (He.ga K "NotGrowing") ["label"] := by
  have FO : FnOk P w K mg base CX0 1 (He.ma K (He.ga K "NotGrowing") "__init__") fd [("self" : Str), "label"] (spIni (He.ga K "NotGrowing") ["label"]) := ini1 (f := "label") (by decide) (by decide) F ⟨rfl, rfl, rfl, by decide +kernel, rfl, by decide +kernel, by decide +kernel⟩ ⟨_, _, _, _, rfl⟩ S.T (S.N _ (by decide +kernel))
  obtain ⟨oc, od, kV, doc, pm, an, cdv, ct, osl, rfl, lk, hcd⟩ := F.ex
  exact ⟨S.T, PySem.W.mg_of X G S.at_, _, _, S.iC, S.tI, FO, fun s us hl => match us, hl with | [_, _], _ => .of_eq rfl, fun s a ws hl => match ws, hl with | [_], _ => .of_eq rfl⟩
theorem cls_25 {fd : FuncData} (X : K.In h) (G : h.Ns mainGlobals mg) (S : ClsS K "LostFunction") (F : Fun K "__init__" "LostFunction.__init__" (inClass (top 27) 0) (He.ma K (He.ga K "LostFunction") "__init__") fd) : ExCls P w K mg base "LostFunction" (He.ga K "LostFunction") ["name"] := by
  have FO : FnOk P w K mg base CX0 1 (He.ma K (He.ga K "LostFunction") "__init__") fd [("self" : Str), "name"] (spIni (He.ga K "LostFunction") ["name"]) := ini1 (f := "name") (by decide) (by decide) F ⟨rfl, rfl, rfl, by decide +kernel, rfl, by decide +kernel, by decide +kernel⟩ ⟨_, _, _, _, rfl⟩ S.T (S.N _ (by decide +kernel))
  obtain ⟨oc, od, kV, doc, pm, an, cdv, ct, osl, rfl, lk, hcd⟩ := F.ex
  exact ⟨S.T, PySem.W.mg_of X G S.at_, _, _, S.iC, S.tI, FO, fun s us hl => match us, hl with | [_, _], _ => .of_eq rfl, fun s a ws hl => match ws, hl with | [_], _ => .of_eq rfl⟩
theorem cls_26 {fd : FuncData} (X : K.In h) (G : h.Ns mainGlobals mg) (S : ClsS K "Clash") (F : Fun K "__init__" "Clash.__init__" (inClass (top 28) 0) (He.ma K (He.ga K "Clash") "__init__") fd) : ExCls P w K mg base "Clash" (He.ga K "Clash") ["package"] := by
  have FO : FnOk P w K mg base CX0 1 (He.ma K (He.ga K "Clash") "__init__") fd [("self" : Str), "package"] (spIni (He.ga K "Clash") ["package"]) := ini1 (f := "package") (by decide) (by decide) F ⟨rfl, rfl, rfl, by decide +kernel, rfl, by decide +kernel, by decide +kernel⟩ ⟨_, _, _, _, rfl⟩ S.T (S.N _ (by decide +kernel))
  obtain ⟨oc, od, kV, doc, pm, an, cdv, ct, osl, rfl, lk, hcd⟩ := F.ex
  exact ⟨S.T, PySem.W.mg_of X G S.at_, _, _, S.iC, S.tI, FO, fun s us hl => match us, hl with | [_, _], _ => .of_eq rfl, fun s a ws hl => match ws, hl with | [_], _ => .of_eq rfl⟩
theorem cls_27 {fd : FuncData} (X : K.In h) (G : h.Ns mainGlobals mg) (S : ClsS K "NotCopies") (F : Fun K "__init__" "NotCopies.__init__" (inClass (top 29) 0) (He.ma K (He.ga K "NotCopies") "__init__") fd) : ExCls P w K mg base "NotCopies" (He.ga K "NotCopies") ["path", "other"] := by
  have FO : FnOk P w K mg base CX0 1 (He.ma K (He.ga K "NotCopies") "__init__") fd [("self" : Str), "path", "other"] (spIni (He.ga K "NotCopies") ["path", "other"]) := ini2 (f := "path") (g := "other") (by decide) (by decide) (by decide) (by decide) F ⟨rfl, rfl, rfl, by decide +kernel, rfl, by decide +kernel, by decide +kernel⟩ ⟨_, _, _, _, _, _, _, _, rfl⟩ S.T (S.N _ (by decide +kernel)) (S.N _ (by decide +kernel))
  obtain ⟨oc, od, kV, doc, pm, an, cdv, ct, osl, rfl, lk, hcd⟩ := F.ex
  exact ⟨S.T, PySem.W.mg_of X G S.at_, _, _, S.iC, S.tI, FO, fun s us hl => match us, hl with | [_, _, _], _ => .of_eq rfl, fun s a ws hl => match ws, hl with | [_, _], _ => .of_eq rfl⟩
theorem cls_28 {fd : FuncData} (X : K.In h) (G : h.Ns mainGlobals mg) (S : ClsS K "NothingToUndo") (F : Fun K "__init__" "NothingToUndo.__init__" (inClass (top 30) 0) (He.ma K (He.ga K "NothingToUndo") "__init__") fd) : ExCls P w K mg base "NothingToUndo" (He.ga K "NothingToUndo") [] := by
  have FO : FnOk P w K mg base CX0 1 (He.ma K (He.ga K "NothingToUndo") "__init__") fd [("self" : Str)] (spIni (He.ga K "NothingToUndo") []) := ini0 (f1 := ⟨0, 0, 0, 0⟩) F ⟨rfl, rfl, rfl, by decide +kernel, rfl, by decide +kernel, by decide +kernel⟩ ⟨_, rfl⟩
  obtain ⟨oc, od, kV, doc, pm, an, cdv, ct, osl, rfl, lk, hcd⟩ := F.ex
  exact ⟨S.T, PySem.W.mg_of X G S.at_, _, _, S.iC, S.tI, FO, fun s us hl => match us, hl with | [_], _ => .of_eq rfl, fun s a ws hl => match ws, hl with | [], _ => .of_eq rfl⟩
theorem cls_29 {fd : FuncData} (X : K.In h) (G : h.Ns mainGlobals mg) (S : ClsS K "TooMany") (F : Fun K "__init__" "TooMany.__init__" (inClass (top 31) 0) (He.ma K (He.ga K "TooMany") "__init__") fd) : ExCls P w K mg base "TooMany" (He.ga K "TooMany") ["kind", "limit"] := by
  have FO : FnOk P w K mg base CX0 1 (He.ma K (He.ga K "TooMany") "__init__") fd [("self" : Str), "kind", "limit"] (spIni (He.ga K "TooMany") ["kind", "limit"]) := ini2 (f := "kind") (g := "limit") (by decide) (by decide) (by decide) (by decide) F ⟨rfl, rfl, rfl, by decide +kernel, rfl, by decide +kernel, by decide +kernel⟩ ⟨_, _, _, _, _, _, _, _, rfl⟩ S.T (S.N _ (by decide +kernel)) (S.N _ (by decide +kernel))
  obtain ⟨oc, od, kV, doc, pm, an, cdv, ct, osl, rfl, lk, hcd⟩ := F.ex
  exact ⟨S.T, PySem.W.mg_of X G S.at_, _, _, S.iC, S.tI, FO, fun s us hl => match us, hl with | [_, _, _], _ => .of_eq rfl, fun s a ws hl => match ws, hl with | [_, _], _ => .of_eq rfl⟩
theorem cls_30 {fd : FuncData} (X : K.In h) (G : h.Ns mainGlobals mg) (S : ClsS K "TooManySteps") (F : Fun K "__init__" "TooManySteps.__init__" (inClass (top 32) 0) (He.ma K (He.ga K "TooManySteps") "__init__") fd) : ExCls P w K mg base "TooManySteps" (He.ga K "TooManySteps") ["limit"] := by
  have FO : FnOk P w K mg base CX0 1 (He.ma K (He.ga K "TooManySteps") "__init__") fd [("self" : Str), "limit"] (spIni (He.ga K "TooManySteps") ["limit"]) := ini1 (f := "limit") (by decide) (by decide) F ⟨rfl, rfl, rfl, by decide +kernel, rfl, by decide +kernel, by decide +kernel⟩ ⟨_, _, _, _, rfl⟩ S.T (S.N _ (by decide +kernel))
  obtain ⟨oc, od, kV, doc, pm, an, cdv, ct, osl, rfl, lk, hcd⟩ := F.ex
  exact ⟨S.T, PySem.W.mg_of X G S.at_, _, _, S.iC, S.tI, FO, fun s us hl => match us, hl with | [_, _], _ => .of_eq rfl, fun s a ws hl => match ws, hl with | [_], _ => .of_eq rfl⟩
theorem errs_ok (X : K.In h) (G : h.Ns mainGlobals mg) (e : (defs.map fun d => He.fnW K d.at_) = defs.map He.DefD.val) (c : (defs.all fun d => d.ok K) = true) (t : (tab.all (clsOk K)) = true) : Errs P w K mg base (ca K) := by
  refine ⟨fun i r hi => ?_⟩
  have S : ClsS K r.nm := cls_ok (List.all_eq_true.mp t r (List.mem_of_getElem? hi))
  rw [ca_at hi]
  have hlt := tab_lt hi
  match i, hlt, hi with
  | 0, _, hi =>
    cases hi
    obtain ⟨fd, F⟩ := funOf e c (d := iOf "InvalidName" "InvalidName.__init__" (inClass (top 2) 0)) (List.mem_of_getElem? (i := 0) rfl)
    exact cls_0 X G S (toFun F)
  | 1, _, hi =>
    cases hi
    obtain ⟨fd, F⟩ := funOf e c (d := iOf "InvalidVersion" "InvalidVersion.__init__" (inClass (top 3) 0)) (List.mem_of_getElem? (i := 1) rfl)
    exact cls_1 X G S (toFun F)
  | 2, _, hi =>
    cases hi
    obtain ⟨fd, F⟩ := funOf e c (d := iOf "InvalidPath" "InvalidPath.__init__" (inClass (top 4) 0)) (List.mem_of_getElem? (i := 2) rfl)
    exact cls_2 X G S (toFun F)
  | 3, _, hi =>
    cases hi
    obtain ⟨fd, F⟩ := funOf e c (d := iOf "InvalidFlag" "InvalidFlag.__init__" (inClass (top 5) 0)) (List.mem_of_getElem? (i := 3) rfl)
    exact cls_3 X G S (toFun F)
  | 4, _, hi =>
    cases hi
    obtain ⟨fd, F⟩ := funOf e c (d := iOf "InvalidNeeds" "InvalidNeeds.__init__" (inClass (top 6) 0)) (List.mem_of_getElem? (i := 4) rfl)
    exact cls_4 X G S (toFun F)
  | 5, _, hi =>
    cases hi
    obtain ⟨fd, F⟩ := funOf e c (d := iOf "InvalidLocks" "InvalidLocks.__init__" (inClass (top 7) 0)) (List.mem_of_getElem? (i := 5) rfl)
    exact cls_5 X G S (toFun F)
  | 6, _, hi =>
    cases hi
    obtain ⟨fd, F⟩ := funOf e c (d := iOf "InvalidLinkage" "InvalidLinkage.__init__" (inClass (top 8) 0)) (List.mem_of_getElem? (i := 6) rfl)
    exact cls_6 X G S (toFun F)
  | 7, _, hi =>
    cases hi
    obtain ⟨fd, F⟩ := funOf e c (d := iOf "InvalidFact" "InvalidFact.__init__" (inClass (top 9) 0)) (List.mem_of_getElem? (i := 7) rfl)
    exact cls_7 X G S (toFun F)
  | 8, _, hi =>
    cases hi
    obtain ⟨fd, F⟩ := funOf e c (d := iOf "InvalidDerivation" "InvalidDerivation.__init__" (inClass (top 10) 0)) (List.mem_of_getElem? (i := 8) rfl)
    exact cls_8 X G S (toFun F)
  | 9, _, hi =>
    cases hi
    obtain ⟨fd, F⟩ := funOf e c (d := iOf "InvalidFunctions" "InvalidFunctions.__init__" (inClass (top 11) 0)) (List.mem_of_getElem? (i := 9) rfl)
    exact cls_9 X G S (toFun F)
  | 10, _, hi =>
    cases hi
    obtain ⟨fd, F⟩ := funOf e c (d := iOf "InvalidCode" "InvalidCode.__init__" (inClass (top 12) 0)) (List.mem_of_getElem? (i := 10) rfl)
    exact cls_10 X G S (toFun F)
  | 11, _, hi =>
    cases hi
    obtain ⟨fd, F⟩ := funOf e c (d := iOf "InvalidCount" "InvalidCount.__init__" (inClass (top 13) 0)) (List.mem_of_getElem? (i := 11) rfl)
    exact cls_11 X G S (toFun F)
  | 12, _, hi =>
    cases hi
    obtain ⟨fd, F⟩ := funOf e c (d := iOf "InvalidText" "InvalidText.__init__" (inClass (top 14) 0)) (List.mem_of_getElem? (i := 12) rfl)
    exact cls_12 X G S (toFun F)
  | 13, _, hi =>
    cases hi
    obtain ⟨fd, F⟩ := funOf e c (d := iOf "InvalidEdit" "InvalidEdit.__init__" (inClass (top 15) 0)) (List.mem_of_getElem? (i := 13) rfl)
    exact cls_13 X G S (toFun F)
  | 14, _, hi =>
    cases hi
    obtain ⟨fd, F⟩ := funOf e c (d := iOf "InvalidCommand" "InvalidCommand.__init__" (inClass (top 16) 0)) (List.mem_of_getElem? (i := 14) rfl)
    exact cls_14 X G S (toFun F)
  | 15, _, hi =>
    cases hi
    obtain ⟨fd, F⟩ := funOf e c (d := iOf "UnknownPackage" "UnknownPackage.__init__" (inClass (top 17) 0)) (List.mem_of_getElem? (i := 15) rfl)
    exact cls_15 X G S (toFun F)
  | 16, _, hi =>
    cases hi
    obtain ⟨fd, F⟩ := funOf e c (d := iOf "UnknownRelease" "UnknownRelease.__init__" (inClass (top 18) 0)) (List.mem_of_getElem? (i := 16) rfl)
    exact cls_16 X G S (toFun F)
  | 17, _, hi =>
    cases hi
    obtain ⟨fd, F⟩ := funOf e c (d := iOf "UnknownPath" "UnknownPath.__init__" (inClass (top 19) 0)) (List.mem_of_getElem? (i := 17) rfl)
    exact cls_17 X G S (toFun F)
  | 18, _, hi =>
    cases hi
    obtain ⟨fd, F⟩ := funOf e c (d := iOf "UnknownFunction" "UnknownFunction.__init__" (inClass (top 20) 0)) (List.mem_of_getElem? (i := 18) rfl)
    exact cls_18 X G S (toFun F)
  | 19, _, hi =>
    cases hi
    obtain ⟨fd, F⟩ := funOf e c (d := iOf "NoNeed" "NoNeed.__init__" (inClass (top 21) 0)) (List.mem_of_getElem? (i := 19) rfl)
    exact cls_19 X G S (toFun F)
  | 20, _, hi =>
    cases hi
    obtain ⟨fd, F⟩ := funOf e c (d := iOf "NameTaken" "NameTaken.__init__" (inClass (top 22) 0)) (List.mem_of_getElem? (i := 20) rfl)
    exact cls_20 X G S (toFun F)
  | 21, _, hi =>
    cases hi
    obtain ⟨fd, F⟩ := funOf e c (d := iOf "LabelTaken" "LabelTaken.__init__" (inClass (top 23) 0)) (List.mem_of_getElem? (i := 21) rfl)
    exact cls_21 X G S (toFun F)
  | 22, _, hi =>
    cases hi
    obtain ⟨fd, F⟩ := funOf e c (d := iOf "NotEarlier" "NotEarlier.__init__" (inClass (top 24) 0)) (List.mem_of_getElem? (i := 22) rfl)
    exact cls_22 X G S (toFun F)
  | 23, _, hi =>
    cases hi
    obtain ⟨fd, F⟩ := funOf e c (d := iOf "NotRising" "NotRising.__init__" (inClass (top 25) 0)) (List.mem_of_getElem? (i := 23) rfl)
    exact cls_23 X G S (toFun F)
  | 24, _, hi =>
    cases hi
    obtain ⟨fd, F⟩ := funOf e c (d := iOf "NotGrowing" "NotGrowing.__init__" (inClass (top 26) 0)) (List.mem_of_getElem? (i := 24) rfl)
    exact cls_24 X G S (toFun F)
  | 25, _, hi =>
    cases hi
    obtain ⟨fd, F⟩ := funOf e c (d := iOf "LostFunction" "LostFunction.__init__" (inClass (top 27) 0)) (List.mem_of_getElem? (i := 25) rfl)
    exact cls_25 X G S (toFun F)
  | 26, _, hi =>
    cases hi
    obtain ⟨fd, F⟩ := funOf e c (d := iOf "Clash" "Clash.__init__" (inClass (top 28) 0)) (List.mem_of_getElem? (i := 26) rfl)
    exact cls_26 X G S (toFun F)
  | 27, _, hi =>
    cases hi
    obtain ⟨fd, F⟩ := funOf e c (d := iOf "NotCopies" "NotCopies.__init__" (inClass (top 29) 0)) (List.mem_of_getElem? (i := 27) rfl)
    exact cls_27 X G S (toFun F)
  | 28, _, hi =>
    cases hi
    obtain ⟨fd, F⟩ := funOf e c (d := iOf "NothingToUndo" "NothingToUndo.__init__" (inClass (top 30) 0)) (List.mem_of_getElem? (i := 28) rfl)
    exact cls_28 X G S (toFun F)
  | 29, _, hi =>
    cases hi
    obtain ⟨fd, F⟩ := funOf e c (d := iOf "TooMany" "TooMany.__init__" (inClass (top 31) 0)) (List.mem_of_getElem? (i := 29) rfl)
    exact cls_29 X G S (toFun F)
  | 30, _, hi =>
    cases hi
    obtain ⟨fd, F⟩ := funOf e c (d := iOf "TooManySteps" "TooManySteps.__init__" (inClass (top 32) 0)) (List.mem_of_getElem? (i := 30) rfl)
    exact cls_30 X G S (toFun F)
  | n + 31, hl, _ => exact absurd hl (by omega)
theorem all_mk {fa : Addr} (X : K.In h) (G : h.Ns mainGlobals mg) (hfa : mg "law" = some (.ref fa)) (e : (defs.map fun d => He.fnW K d.at_) = defs.map He.DefD.val) (ok : allOk K = true) :
    ∃ fd : FuncData, (∀ (s : Shared) (u : Value), BindsTo s fd ⟨[u], []⟩ [("_law_script", u)]) ∧ ∀ base : Heap, K.In base → base.Ns mainGlobals mg → FnG P w K mg base 5 fa fd ["_law_script"] (spLaw K) := by
  obtain ⟨t, ok⟩ := He.ba ok
  obtain ⟨si, ok⟩ := He.ba ok
  obtain ⟨c, ok⟩ := He.ba ok
  obtain ⟨fr, ok⟩ := He.ba ok
  obtain ⟨gl, ok⟩ := He.ba ok
  obtain ⟨g1, ok⟩ := He.ba ok
  obtain ⟨g2, sy⟩ := He.ba ok
  have GC : GetC K := ⟨He.eqO_ok g1, of_decide_eq_true g2⟩
  have S := isa_ok si
  have fre : ∀ x ∈ free20, mg x = none := fun x hx => PySem.W.mg_none_of X G (He.eqO_ok (List.all_eq_true.mp fr x hx))
  have glo : ∀ x ∈ (["_law_rng", "_law_draw", "_law_choice", "_law_values", "_law_others", "_law_refusals", "_law_limits", "_law_field", "_law_classes", "_law_bases_right", "_law_right", "law", "LinkError"] : List Str), mg x = some (.ref (He.ga K x)) := fun x hx => PySem.W.mg_of X G (He.eqO_ok (List.all_eq_true.mp gl x hx))
  have B : Blt mg := ⟨fre _ (by decide +kernel), fre _ (by decide +kernel), fre _ (by decide +kernel), fre _ (by decide +kernel), fre _ (by decide +kernel), fre _ (by decide +kernel), fre _ (by decide +kernel), fre _ (by decide +kernel), fre _ (by decide +kernel), fre _ (by decide +kernel), fre _ (by decide +kernel), fre _ (by decide +kernel), fre _ (by decide +kernel), fre _ (by decide +kernel), fre _ (by decide +kernel), fre _ (by decide +kernel), fre _ (by decide +kernel), fre _ (by decide +kernel), fre _ (by decide +kernel), fre _ (by decide +kernel)⟩
  have NN : ∀ i, i < 31 → NoNames K (ca K i) := fun i hi => by
    have hr : tab[i]? = some tab[i] := List.getElem?_eq_getElem hi
    rw [ca_at hr]
    exact (cls_ok (List.all_eq_true.mp t _ (List.mem_of_getElem? hr))).N
  obtain ⟨oS, ks, kc⟩ : ∃ o, K.lookup sysModules = some o ∧ o.cls = .type "dict" := by
    unfold sysOk at sy
    split at sy
    · rename_i o ho
      exact ⟨o, ho, of_decide_eq_true sy⟩
    · cases sy
  obtain ⟨d0, F0⟩ := funOf e c (d := dOf "_law_rng" (top 34)) (List.mem_of_getElem? (i := 31) rfl)
  have F0 : Fun K "_law_rng" "_law_rng" (top 34) (He.fAd K ("_law_rng", none)) d0 := toFun (st := top 34) F0
  obtain ⟨d1, F1⟩ := funOf e c (d := dOf "_law_draw" (top 35)) (List.mem_of_getElem? (i := 32) rfl)
  have F1 : Fun K "_law_draw" "_law_draw" (top 35) (He.fAd K ("_law_draw", none)) d1 := toFun (st := top 35) F1
  obtain ⟨d2, F2⟩ := funOf e c (d := dOf "_law_choice" (top 36)) (List.mem_of_getElem? (i := 33) rfl)
  have F2 : Fun K "_law_choice" "_law_choice" (top 36) (He.fAd K ("_law_choice", none)) d2 := toFun (st := top 36) F2
  obtain ⟨d3, F3⟩ := funOf e c (d := dOf "_law_values" (top 37)) (List.mem_of_getElem? (i := 34) rfl)
  have F3 : Fun K "_law_values" "_law_values" (top 37) (He.fAd K ("_law_values", none)) d3 := toFun (st := top 37) F3
  obtain ⟨d4, F4⟩ := funOf e c (d := dOf "_law_others" (top 38)) (List.mem_of_getElem? (i := 35) rfl)
  have F4 : Fun K "_law_others" "_law_others" (top 38) (He.fAd K ("_law_others", none)) d4 := toFun (st := top 38) F4
  obtain ⟨d5, F5⟩ := funOf e c (d := dOf "_law_refusals" (top 39)) (List.mem_of_getElem? (i := 36) rfl)
  have F5 : Fun K "_law_refusals" "_law_refusals" (top 39) (He.fAd K ("_law_refusals", none)) d5 := toFun (st := top 39) F5
  obtain ⟨d6, F6⟩ := funOf e c (d := dOf "_law_limits" (top 40)) (List.mem_of_getElem? (i := 37) rfl)
  have F6 : Fun K "_law_limits" "_law_limits" (top 40) (He.fAd K ("_law_limits", none)) d6 := toFun (st := top 40) F6
  obtain ⟨d7, F7⟩ := funOf e c (d := dOf "_law_field" (top 41)) (List.mem_of_getElem? (i := 38) rfl)
  have F7 : Fun K "_law_field" "_law_field" (top 41) (He.fAd K ("_law_field", none)) d7 := toFun (st := top 41) F7
  obtain ⟨d8, F8⟩ := funOf e c (d := dOf "_law_classes" (top 42)) (List.mem_of_getElem? (i := 39) rfl)
  have F8 : Fun K "_law_classes" "_law_classes" (top 42) (He.fAd K ("_law_classes", none)) d8 := toFun (st := top 42) F8
  obtain ⟨d9, F9⟩ := funOf e c (d := dOf "_law_bases_right" (top 43)) (List.mem_of_getElem? (i := 40) rfl)
  have F9 : Fun K "_law_bases_right" "_law_bases_right" (top 43) (He.fAd K ("_law_bases_right", none)) d9 := toFun (st := top 43) F9
  obtain ⟨d10, F10⟩ := funOf e c (d := dOf "_law_right" (top 44)) (List.mem_of_getElem? (i := 41) rfl)
  have F10 : Fun K "_law_right" "_law_right" (top 44) (He.fAd K ("_law_right", none)) d10 := toFun (st := top 44) F10
  obtain ⟨d11, F11⟩ := funOf e c (d := dOf "law" (top 45)) (List.mem_of_getElem? (i := 42) rfl)
  have F11 : Fun K "law" "law" (top 45) (He.fAd K ("law", none)) d11 := toFun (st := top 45) F11
  have b0 := F0.binds (ps := ["_law_script", "_law_k"]) fun _ _ _ _ _ _ us hl => match us, hl with | [_, _], _ => rfl
  have b1 := F1.binds (ps := ["_law_rng_here", "_law_many"]) fun _ _ _ _ _ _ us hl => match us, hl with | [_, _], _ => rfl
  have b2 := F2.binds (ps := ["_law_rng_here", "_law_some"]) fun _ _ _ _ _ _ us hl => match us, hl with | [_, _], _ => rfl
  have b3 := F3.binds (ps := ["_law_one", "_law_two"]) fun _ _ _ _ _ _ us hl => match us, hl with | [_, _], _ => rfl
  have b4 := F4.binds (ps := ["_law_one", "_law_two"]) fun _ _ _ _ _ _ us hl => match us, hl with | [_, _], _ => rfl
  have b5 := F5.binds (ps := ["_law_one", "_law_two"]) fun _ _ _ _ _ _ us hl => match us, hl with | [_, _], _ => rfl
  have b6 := F6.binds (ps := ["_law_one", "_law_two"]) fun _ _ _ _ _ _ us hl => match us, hl with | [_, _], _ => rfl
  have b7 := F7.binds (ps := ["_law_error", "_law_word"]) fun _ _ _ _ _ _ us hl => match us, hl with | [_, _], _ => rfl
  have b8 := F8.binds (ps := ["_law_e"]) fun _ _ _ _ _ _ us hl => match us, hl with | [_], _ => rfl
  have b9 := F9.binds (ps := ["_law_e", "_law_base"]) fun _ _ _ _ _ _ us hl => match us, hl with | [_, _], _ => rfl
  have b10 := F10.binds (ps := ["_law_rng_here"]) fun _ _ _ _ _ _ us hl => match us, hl with | [_], _ => rfl
  have el : fa = He.fAd K ("law", none) := by
    have z := hfa.symm.trans (glo "law" (by decide +kernel))
    cases z
    rfl
  subst el
  refine ⟨d11, ?_, fun base Kb Gb => ?_⟩
  · obtain ⟨oc, od, kV, doc, pm, an, cdv, ct, osl, rfl, lk, hcd⟩ := F11.ex
    exact fun s u => .of_eq rfl
  · have E : Errs P w K mg base (ca K) := errs_ok X G e c t
    have o1 : FnOk P w K mg base CX0 1 _ d1 _ spDraw := ok_draw F1 B
    have o2 : FnOk P w K mg base CX0 2 _ d2 _ (spChoice K) := ok_choice F2 B o1 (glo "_law_draw" (by decide +kernel)) F1.kp b1
    have o8 : FnOk P w K mg base CX0 1 _ d8 _ (spClasses (ca K)) := ok_classes F8 B GC E S
    have o9 : FnOk P w K mg base CX0 2 _ d9 _ (spBases (ca K)) := ok_bases F9 B GC E S (glo "LinkError" (by decide +kernel)) o8 (glo "_law_classes" (by decide +kernel)) F8.kp b8
    have Z : Defs P w K mg base (ca K) _ _ _ _ _ _ _ d2 d3 d4 d5 d6 d7 d9 := ⟨o2, ok_values F3 E, ok_others F4 E, ok_refusals F5 E, ok_limits F6 E, ok_field F7, o9, glo "_law_choice" (by decide +kernel), glo "_law_values" (by decide +kernel), glo "_law_others" (by decide +kernel), glo "_law_refusals" (by decide +kernel), glo "_law_limits" (by decide +kernel), glo "_law_field" (by decide +kernel), glo "_law_bases_right" (by decide +kernel), F2.kp, F3.kp, F4.kp, F5.kp, F6.kp, F7.kp, F9.kp, b2, b3, b4, b5, b6, b7, b9⟩
    exact ok_law F11 B (ok_right F10 B E NN Z ks kc) (glo "_law_right" (by decide +kernel)) F10.kp b10 (ok_rng F0 B) (glo "_law_rng" (by decide +kernel)) F0.kp b0
end
end E18
namespace E18
open PySem PySem.Spec PyProof.Rows L2
abbrev R : PySem.W.OpenRow := PySem.W.OpenLaw.row PySem.Challenge.rw_leastlinks_k18_errors_made
/-- the part of the heap that is looked at: what the module's names reach, and sys.modules -/
def asX (g : Addr → Option Obj) : List Addr := sysModules :: He.asD g 5
def obsX (g : Addr → Option Obj) : Bool × List He.FnW := (allOk (He.frG g (asX g)), defs.map fun d => He.fnW (He.frG g (asX g)) d.at_)
def hk : PySem.W.Hook where
  α := Bool × List He.FnW
  obs := fun s => obsX s.heap.get?
  val := fun _ => (true, defs.map He.DefD.val)
  says := fun _ h => ∃ K : PySem.W.Frag, K.In h ∧ allOk K = true ∧ (defs.map fun d => He.fnW K d.at_) = defs.map He.DefD.val
  of := fun _ _ e => ⟨_, He.frG_in, congrArg Prod.fst e, congrArg Prod.snd e⟩
  keeps := fun _ _ _ z k => by
    obtain ⟨K, h1, h2, h3⟩ := z
    exact ⟨K, PySem.W.Frag.In.keeps h1 k, h2, h3⟩
def ob (s : PySem.W.SharedT) : Bool × List He.FnW := obsX (HandSHeadRun.getT s)
theorem ob_eq (s : PySem.W.SharedT) : ob s = hk.obs s.abs := by
  unfold ob
  rw [show HandSHeadRun.getT s = s.abs.heap.get? from funext (HandSHeadRun.getT_eq s)]
  rfl
def loose1 : List Str := ["LinkError", "InvalidName", "InvalidVersion", "InvalidPath", "InvalidFlag", "InvalidNeeds", "InvalidLocks", "InvalidLinkage", "InvalidFact", "InvalidDerivation", "InvalidFunctions", "InvalidCode", "InvalidCount", "InvalidText", "InvalidEdit", "InvalidCommand", "UnknownPackage", "UnknownRelease", "UnknownPath", "UnknownFunction", "NoNeed", "NameTaken", "LabelTaken", "NotEarlier", "NotRising", "NotGrowing", "LostFunction", "Clash", "NotCopies", "NothingToUndo", "TooMany", "TooManySteps"]
def loose2 : List Str := ["_law_rng", "_law_draw", "_law_choice", "_law_values", "_law_others", "_law_refusals", "_law_limits", "_law_field", "_law_classes", "_law_bases_right", "_law_right"]
theorem run (w : World) : HandSHeadRun.RunEq R (PySem.W.view R.prog [45]) hk ob 8400 (loose1 ++ loose2) w := by
  intro os
  kernel_rfl
end E18
open PySem PySem.W PySem.Calls PyProof.Rows
set_option maxRecDepth 100000 in
set_option maxHeartbeats 0 in
theorem PySem.Challenge.cw_leastlinks_k18_errors_made_holds : PySem.Challenge.rw_leastlinks_k18_errors_made.Holds := by
  w_on; o_law
  refine HandSHeadRun.head_any (r := OpenLaw.row PySem.Challenge.rw_leastlinks_k18_errors_made) (q := view (OpenLaw.row PySem.Challenge.rw_leastlinks_k18_errors_made).prog [45]) (H := E18.hk) (ob := E18.ob) (M := 8400) (loose := E18.loose1 ++ E18.loose2)
    (d := HandSHeadRun.topDef (OpenLaw.row PySem.Challenge.rw_leastlinks_k18_errors_made).prog 45) (kwd := []) E18.ob_eq (by kernel_rfl) (fun s => by kernel_rfl) E18.run (by kernel_rfl) (by kernel_rfl) (by kernel_rfl) (by rfl) (by first | assumption | decide +kernel) (by decide +kernel)
    ⟨rfl, rfl, rfl, rfl, rfl, by decide +kernel⟩ ?hw ?hc
  case hw => w_witness2
  case hc =>
    refine E18.walk_ofX (l := PySem.Challenge.rw_leastlinks_k18_errors_made) (n := 63) (k := 5) (x := "_law_script") (sp := E18.spLaw) rfl (by decide) (by kernel_rfl) ⟨rfl, by decide, by decide⟩ ?F (fun K H a ns hl _ hS => ⟨a, ns, rfl, hS, hl, fun H' s => ⟨rfl, s⟩⟩)
    intro w mg fa h Y G hmg0
    obtain ⟨K, KX, ok, e⟩ := Y
    have hmg : mg ("law" : PySem.Str) = some (.ref fa) := by
      have z : (HandSHeadRun.topDef (OpenLaw.row PySem.Challenge.rw_leastlinks_k18_errors_made).prog 45).name = ("law" : PySem.Str) := by kernel_rfl
      rw [← z]
      exact hmg0
    obtain ⟨fd, hb, hF⟩ := E18.all_mk (P := (PySem.Challenge.rw_leastlinks_k18_errors_made).prog) (w := w) KX G hmg e ok
    exact ⟨K, fd, KX, hb, hF⟩
