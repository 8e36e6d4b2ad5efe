import PyProof.Rows.All
import Wide.All
import OpenK.AllK
import Wide.FinOn
import PySem.Challenge.RW_leastlinks_k91_whole_texts_of_code
import PyProof.EqAt
import PyProof.EqKinds
import PyProof.TupleCall
import KE.KFromBytes
import HandS.ForMost
import HandS.ForExc
import HandS.ExcInit
import KE.KExcInit
import HandS.LawCells
import HandS.IsInst
import HandS.MakeKw
import KE.KExcIs
import HandS.Walk
import HandS.TupAny
import HandS.TupMul
import HandS.FStr
import HandS.Deep
import PyProof.NeKinds
import HandS.Zip
import HandS.RaiseMore
import PyProof.CallFns
import PyProof.StrBlockL
import HandS.More
import HandS.Style
import HandS.WideBits
import HandS.Text
import HandS.CallLocal
import KE.IntTextLaws
import PyProof.Rows.StrSplitJoin
import PyProof.Rows.StrFirst
import PyProof.Rows.StrFirst2
import PyProof.Rows.StrPartPair
import PyProof.Rows.StrSplitCount
import PyProof.Rows.StrLawsPart
import HandS.TryMany
import HandS.WordsExc
import PyProof.StrLawsRepr
import HandS.Dict
import HandS.Comp
import PyProof.CollectIter
import PyProof.WalksMore
import HandS.NoneIn
import HandS.Star
import HandS.StrMore
import HandS.Replace
import HandS.ReplaceList
import PyProof.StrCalls6
import PyProof.StrLawsAffix
import PyProof.Rows.ReprOcc
import HandS.HeadHook3
import HandS.HeadHook1
import HandS.HeadHook2
import HandS.Head0
import HandS.Head1
import HandS.Head2
import OpenK.XOpen
import OpenK.ZHead
set_option Elab.async false
set_option linter.all false
set_option maxRecDepth 100000
set_option maxHeartbeats 0
namespace PySem
namespace OEG
open PySem.W PySem.Calls PyProof.Rows PySem.HandSPX
section
variable {M : Model} {A : Around} {E : Value → Shared → Prop} {h : Heap} {g : Array GenState} {d : Drawn} {t : Nat} {os : OsState}
variable {nm q : Str} {C N : Addr} {bs bm bmB : List Value} {hdct : Bool} {sn : List Str} {sub : List Value} {ab : Bool} {col : Option Bool} {dd : Option Addr} {k0 k1 k2 k3 k5 : Option Value} {B newId initId : String}
theorem check_new_kw (F : ExcBaseFacts B newId initId bmB) (hT : ∀ X : String, bm.contains (.type X) = bmB.contains (.type X)) {rest : List Value} {kw : List (Str × Value)} {Q : Unit → Shared → Prop}
    (hC : h.get? C = some (excClassObj nm q C N bs bm hdct sn sub ab col dd k0 k1 k2 k3 k5 newId)) (hq : Q () ⟨h, g, d, t, os⟩) : wpAny M A (checkBuiltinCall newId ⟨.ref C :: rest, kw⟩) Q E ⟨h, g, d, t, os⟩ := by
  have hcont : (Value.ref C :: bm).contains (.type B) = true := by rw [List.contains_cons, hT, F.hasB, Bool.or_true]
  have hstar := F.noStar
  simp only [checkBuiltinCall, F.newKind, F.newSplit, F.newRow]
  repeat (first | refine wpAny_loadPart_at hC ?_ | (refine wpAny_isSubtype_exc hC ?_; rw [hcont]) | refine wpAny_staticBase_exc hC ?_ | refine wpAny_madeBy_exc hC ?_ | simp only [bne_self_eq_false, Bool.false_eq_true, if_false] | wp_step)
  exact hq
end
section
variable {prog : Program} {w : World} {A : Around} {E : Value → Shared → Prop} {R : Result → Shared → Prop} {h : Heap} {g : Array GenState} {d : Drawn} {t : Nat} {os : OsState}
variable {nm q : Str} {C N : Addr} {bs bm bmB : List Value} {hdct : Bool} {sn : List Str} {sub : List Value} {ab : Bool} {col : Option Bool} {dd : Option Addr} {k0 k1 k2 k3 k5 : Option Value} {B newId initId : String}
theorem new_kw (F : ExcBaseFacts B newId initId bmB) (hT : ∀ X : String, bm.contains (.type X) = bmB.contains (.type X)) {rest : List Value} {kw : List (Str × Value)}
    (hC : h.get? C = some (excClassObj nm q C N bs bm hdct sn sub ab col dd k0 k1 k2 k3 k5 newId))
    (hq : R (.ok (.ret (.ref (h.objs.size + 1)))) ⟨(h.push { cls := .type "tuple", data := .seq rest.toArray }).push
      { cls := .ref C, data := .fields #[.ref h.objs.size, .none, .none, .none, .bool false, .none] }, g, d, t, os⟩) (hrest : rest.length ≤ sizeLine) :
    codeAny (model prog w) A (.builtin newId ⟨.ref C :: rest, kw⟩) R ⟨h, g, d, t, os⟩ := by
  have hends := F.ends
  have hcB : (Value.ref C :: bm).contains (.type B) = true := by rw [List.contains_cons, hT, F.hasB, Bool.or_true]
  have hcA : (Value.ref C :: bm).contains (.type "AttributeError") = false := by rw [List.contains_cons, hT, F.noAttr]; rfl
  have hcN : (Value.ref C :: bm).contains (.type "NameError") = false := by rw [List.contains_cons, hT, F.noName]; rfl
  refine codeAny_builtinAt F.entry ?_
  unfold Builtin.«BaseException.__new__»
  refine wpAt_bind ?_
  show wpAt _ _ _ (stack >>= _) _ _ _
  refine wpAt_bind (wpAt_stack fun p below => wpAt_of_wpAny ?_)
  wp_walk
  refine wpAt_of_wpAny ?_
  rw [F.owner]
  repeat (first | with_reducible refine wpAny_madeHere_exc F.canon hC ?_ | with_reducible refine wpAny_loadPart_at hC ?_ | (with_reducible refine wpAny_isSubtype_exc hC ?_; first | rw [hcB] | rw [hcA] | rw [hcN]) | wp_step)
  show R _ _
  rw [Heap.size_push]
  exact hq
theorem type_call_kw (F : ExcBaseFacts B newId initId bmB) (hT : ∀ X : String, bm.contains (.type X) = bmB.contains (.type X)) {rest : List Value} {kw : List (Str × Value)} {fI : Addr} {Q : Fin → Shared → Prop}
    (hC : h.get? C = some (excClassObj nm q C N bs bm hdct sn sub ab col dd k0 k1 k2 k3 k5 newId))
    (hi : W.Looks (model prog w) h (typeLookup (.ref C) "__init__") (some (.ref fI))) (hb : ∀ self, W.Looks (model prog w) h (bindSpecial (.ref fI) self) (.ref fI, [self])) (hrest : rest.length ≤ sizeLine)
    (hq : codeAny (model prog w) A (.call (.ref fI) ⟨.ref (h.objs.size + 1) :: rest, kw⟩)
      (fun r s' => match r with | .ok (.ret v) => v = .none ∧ Q (.done (.ret (.ref (h.objs.size + 1)))) s' | .ok _ => False | .error e => E e s')
      ⟨(h.push (W.kdv_tup rest)).push (excO C h.objs.size), g, d, t, os⟩) :
    wpAny (model prog w) A (Builtin.«type.__call__» ⟨.ref C :: rest, kw⟩) Q E ⟨h, g, d, t, os⟩ := by
  repeat (first | with_reducible refine wpAny_loadPart_at hC ?_ | with_reducible refine wpAny_madeBy_exc hC ?_ | wp_step)
  refine codeAny_call_builtin_code (Code.quiet_builtin _ F.quiet) (check_new_kw F hT hC ?_)
  refine new_kw F hT hC ?_ hrest
  show wpAny _ _ _ _ _ _
  have k : ∀ b o, h.get? b = some o → ((h.push (W.kdv_tup rest)).push (excO C h.objs.size)).get? b = some o := fun b o e => Heap.get?_push_of_some _ (Heap.get?_push_of_some _ e)
  have hC₁ := k _ _ hC
  have hget : ((h.push (W.kdv_tup rest)).push (excO C h.objs.size)).get? (h.objs.size + 1) = some (excO C h.objs.size) := by heap_get
  have hcC : (Value.ref C :: bm).contains (.ref C) = true := by simp
  have i1 := hi.keeps k
  have b1 := (hb (.ref (h.objs.size + 1))).keeps k
  unfold isInstance
  repeat (first | with_reducible refine wpAny_loadPart_at hget ?_ | (with_reducible refine wpAny_isSubtype_exc hC₁ ?_; rw [hcC]) | wp_step)
  show wpAny _ _ (typeLookup (.ref C) _) _ _ _
  refine i1.at ?_
  refine wpAny_holding (wpAny_bind (b1.at ?_))
  refine wpAny_bind (wpAny_call (codeAny_mono hq fun r s' z => ?_))
  rcases r with e | (v | _ | _ | _) <;> first | exact z | exact z.elim | skip
  obtain ⟨rfl, z⟩ := z
  first
    | exact wpAny_pure (wpAny_pure z)
    | (wp_walk; exact z)
theorem call_kw (F : ExcBaseFacts B newId initId bmB) (hT : ∀ X : String, bm.contains (.type X) = bmB.contains (.type X)) {rest : List Value} {kw : List (Str × Value)} {fI : Addr}
    (hC : h.get? C = some (excClassObj nm q C N bs bm hdct sn sub ab col dd k0 k1 k2 k3 k5 newId))
    (hi : W.Looks (model prog w) h (typeLookup (.ref C) "__init__") (some (.ref fI))) (hb : ∀ self, W.Looks (model prog w) h (bindSpecial (.ref fI) self) (.ref fI, [self])) (hrest : rest.length ≤ sizeLine)
    (hq : codeAny (model prog w) (A.under (.builtin "type.__call__" ⟨.ref C :: rest, kw⟩)) (.call (.ref fI) ⟨.ref (h.objs.size + 1) :: rest, kw⟩) (W.InitBack (h.objs.size + 1) R)
      ⟨(h.push (W.kdv_tup rest)).push (excO C h.objs.size), g, d, t, os⟩) :
    codeAny (model prog w) A (.call (.ref C) ⟨rest, kw⟩) R ⟨h, g, d, t, os⟩ := by
  have f1 := tc_lookup
  have f2 := tc_bind (.ref C)
  have hTy : (⟨h, g, d, t, os⟩ : Shared).TypeIs (.ref C) "type" := ⟨_, hC, rfl⟩
  refine codeAny_of_tree ?_
  show wpAny _ _ (callAny (.ref C) _) _ _ _
  repeat (any_goals (first | assumption | with_reducible refine wpAny_loadPart_at hC ?_ | wp_step))
  refine ⟨rfl, ?_⟩
  refine codeAny_call_builtin_at (Code.quiet_builtin _ (by decide +kernel)) entry_typeCall (wpAny_check_type_call_sub hC (type_call_kw F hT hC hi hb hrest ?_))
  refine codeAny_mono hq fun r s' z => ?_
  rcases r with e | (v | _ | _ | _) <;> exact z
end
/-! ### self.name = v behind the classes' descriptors (osa_openX leads here), any base -/
section
open Builtin Builtin.ObjectAttr
variable {M : Model} {A : Around} {E : Value → Shared → Prop} {hp : Heap} {g : Array GenState} {d : Drawn} {t : Nat} {os : OsState} {K : W.Frag} {C x : Addr} {fv : Array Value} {nme : Str} {tk : Tok} {v : Value} {b : Bool} {Q : Fin → Shared → Prop}
theorem own_first (X : K.In hp) (hd : W.hasDictIn K C = true) (hx : hp.get? x = some { cls := .ref C, data := .fields fv })
    (hq : ∀ h' tk' dx, (∀ b o, b ≠ x → hp.get? b = some o → h'.get? b = some o) → hp.objs.size ≤ dx → dx ≠ x → h'.get? x = some { cls := .ref C, dict := some dx, data := .fields fv } → h'.Ns1 dx (fun y => if y = nme then some v else none) →
      Q (.done (.ret .none)) ⟨h', g, d, tk', os⟩) : wpAny M A (storeInOwnDict (.ref x) (.ref C) (.str nme tk) nme v b) Q E ⟨hp, g, d, t, os⟩ := by
  obtain ⟨⟨c1, c2, c3, c4, c5, c6, c7, c8, c9, c10, c11⟩, hc, h1⟩ := W.any_some hd
  dsimp only at h1
  subst h1
  have L : W.Looks M hp (classData C) _ := W.looks_clsIn X hc
  have ne : hp.objs.size ≠ x := Nat.ne_of_gt (Heap.lt_size hx)
  unfold storeInOwnDict ownDictForStores
  repeat (first | with_reducible refine store_in_new ?_ ?_ | with_reducible refine wpAny_loadPart_at hx ?_ | with_reducible refine L.at ?_ | wp_step)
  · exact ⟨_, #[], _, (Heap.get?_update_ne _ _ _ _ ne).trans (Heap.get?_push_at rfl rfl), rfl, fun _ z => absurd z (by simp), fun _ => rfl⟩
  · intro h' tk' n1 n2
    refine hq h' tk' hp.objs.size (fun c o h3 h4 => ?_) (Nat.le_refl _) ne ?_ n1
    · have h5 : c ≠ hp.objs.size := Nat.ne_of_lt (Heap.lt_size h4)
      rw [n2.2 c h5, Heap.get?_update_ne _ _ _ _ h3]
      exact Heap.get?_push_of_some _ h4
    · rw [n2.2 x (Ne.symm ne)]
      exact Heap.get?_update_self _ (Heap.get?_push_of_some _ hx) rfl
theorem own_next {dx : Addr} {m0 : Str → Option Value} {nl : List Str} (X : K.In hp) (hd : W.hasDictIn K C = true) (hx : hp.get? x = some { cls := .ref C, dict := some dx, data := .fields fv }) (hns : hp.Ns1 dx m0) (hw : Within m0 nl) (hz : nl.length ≤ 1000)
    (hq : ∀ h' tk', (∀ b o, b ≠ dx → hp.get? b = some o → h'.get? b = some o) → h'.Ns1 dx (fun y => if y = nme then some v else m0 y) → Q (.done (.ret .none)) ⟨h', g, d, tk', os⟩) :
    wpAny M A (storeInOwnDict (.ref x) (.ref C) (.str nme tk) nme v b) Q E ⟨hp, g, d, t, os⟩ := by
  obtain ⟨⟨c1, c2, c3, c4, c5, c6, c7, c8, c9, c10, c11⟩, hc, h1⟩ := W.any_some hd
  dsimp only at h1
  subst h1
  have L : W.Looks M hp (classData C) _ := W.looks_clsIn X hc
  unfold storeInOwnDict ownDictForStores
  repeat (first | with_reducible refine OEX.store_in_old hns hw hz ?_ | with_reducible refine wpAny_loadPart_at hx ?_ | with_reducible refine L.at ?_ | wp_step)
  exact fun h' tk' n1 n2 => hq h' tk' (fun c o h3 h4 => (n2.2 c h3).trans h4) n1
end
end OEG
end PySem
namespace L2
open PySem PySem.Spec PyProof.Rows
/-- what the written part says of an own class of errors, whatever its base is -/
structure OexG (K : PySem.W.Frag) (C : Addr) : Prop where
  cls : ∃ (B newId initId : String) (bmB : List Value), ExcBaseFacts B newId initId bmB ∧ StoreFacts B bmB "object.__setattr__" "object" ∧ PySem.W.excInitIn K C bmB newId = true ∧ PySem.W.excOver K C bmB = true
  sa : PySem.W.findIn K (.ref C) "__setattr__" = some (some (.builtin "object.__setattr__"))
  exC : PySem.W.subIn K (.ref C) (.type "BaseException") = some true
  kC : PySem.W.keepIn K (.ref C) = true
  ga : PySem.W.findIn K (.ref C) "__getattribute__" = some (some (.builtin "BaseException.__getattribute__"))
  gg : PySem.W.findIn K (.ref C) "__getattr__" = some none
  hd : PySem.W.hasDictIn K C = true
  ha : PySem.W.findIn K (.ref C) "__class__" = some (some (.builtin "object.__class__"))
  hm : PySem.W.mroIn K C (.type "object") = some true
theorem no_taker {K : PySem.W.Frag} {C : Addr} {f : Str} (h : PySem.W.findIn K (.ref C) f = some none) : PySem.W.takerIn K C f = some none := by
  unfold PySem.W.takerIn
  rw [h]
  rfl
/-- at a: an error of the class at C, with these fields -/
def ErrAt (H : Hp) (a C : Addr) (kvs : List (Str × V)) : Prop :=
  (∃ d, H a = some (exo a C d) ∧ ∀ dd, d = some dd → ∃ l, H dd = some (exd dd l)) ∧ ∀ f v, kvs.lookup f = some v → ∃ d l, H a = some (exo a C (some d)) ∧ H d = some (exd d l) ∧ l.lookup f = some v
theorem ErrAt.same {H H' : Hp} {a C : Addr} {kvs : List (Str × V)} (e : ErrAt H a C kvs) (s : Same H H') : ErrAt H' a C kvs := by
  obtain ⟨⟨d, h1, h3⟩, h2⟩ := e
  refine ⟨⟨d, s _ _ h1, fun dd q => ?_⟩, fun f v h => ?_⟩
  · obtain ⟨l, z⟩ := h3 dd q
    exact ⟨l, s _ _ z⟩
  obtain ⟨d, l, x, y, z⟩ := h2 f v h
  exact ⟨d, l, s _ _ x, s _ _ y, z⟩
section
variable {X : Cx} {pins : List (Addr × Obj)} {σ : St} {H : Hp} {s : Shared} {a C dx : Addr} {f : Str} {y : V} {u : Value} {fs : List (Str × V)} {Q : Unit → Shared → Prop} {E : Value → Shared → Prop} {A : Around}
/-- a first field is stored: where the error had no dict, it has one now -/
theorem ostG_new (T : OexG X.K C) (I : Inv X pins σ H s) (e : H a = some (exo a C none)) (hno : PySem.W.findIn X.K (.ref C) f = some none) (ry : RelV y u)
    (h : ∀ dx s', H dx = none → dx ≠ a → Inv X pins σ (upd (upd H dx (exd dx [(f, y)])) a (exo a C (some dx))) s' → Q () s') : wpAny (model X.prog X.w) A (setAttr (.ref a) f u) Q E s := by
  obtain ⟨B, newId, initId, bmB, FB, SB, ei, eo⟩ := T.cls
  obtain ⟨t1, ho⟩ := exo_at I.hok e
  obtain ⟨hp, g, d, t, os⟩ := s
  have J : ∀ tk, PySem.W.InstAt (⟨hp, g, d, tk, os⟩ : Shared).heap a { cls := .ref C, dict := none, data := .fields #[.ref t1, .none, .none, .none, .bool false, .none] } C none := fun _ => ⟨ho, rfl, rfl, trivial⟩
  refine PySem.W.set_plain I.kIn (J t) T.sa (PySem.W.osa_openX SB I.kIn (J _) eo (no_taker hno) fun b => ?_)
  refine PySem.OEG.own_first I.kIn T.hd ho fun h' tk' dx k dn dne hx hn => ?_
  have hnd : H dx = none := I.hok.fresh dn
  have old : ∀ b o, H b = some o → b ≠ a → (upd (upd H dx (exd dx [(f, y)])) a (exo a C (some dx))) b = some o := fun b o z n => by
    rw [upd_ne n, upd_ne (ne_of_none z hnd)]
    exact z
  have other : ∀ b o, H b = some o → o ≠ exo a C none → b ≠ a := fun b o z n w => by
    rw [w, e] at z
    exact n (Option.some.inj z).symm
  have notA : ∀ b, H b = none → b ≠ a := fun b n z => by
    rw [z, e] at n
    cases n
  refine h dx _ hnd dne (I.un (t' := tk') ⟨fun b o q n _ _ => k b o (notA b n) q, fun b o q n _ _ => ⟨o.slots, k b o (notA b n) q⟩, fun b o q n _ => ?_, fun b o q _ => ?_, fun b xs q => ?_, fun b o v q => ?_, fun b ps q => ⟨#[], ?_⟩⟩ fun b o q => ?_)
  · have n2 : b ≠ dx := Nat.ne_of_lt (Nat.lt_of_lt_of_le (Heap.lt_size q) dn)
    rw [upd_ne (notA b n), upd_ne n2]
    exact n
  · by_cases w : b = a
    · exact ⟨_, by rw [w]; exact hx⟩
    · exact ⟨o, k b o w q⟩
  · exact old b _ q (other b _ q (Ne.symm exo_tup))
  · exact old b _ q (other b _ q (Ne.symm exo_frz))
  · rw [old b _ q (other b _ q (Ne.symm exo_tbl))]
    simp
  · by_cases w : b = a
    · rw [w, upd_same] at q
      rw [w, ← Option.some.inj q]
      exact exo_ok hx
    · rw [upd_ne w] at q
      by_cases w2 : b = dx
      · rw [w2, upd_same] at q
        rw [w2, ← Option.some.inj q]
        exact exd_ok hn (relO_put (fs := []) ry fun _ => True.intro)
      · rw [upd_ne w2] at q
        refine (I.hok b o q).stay (fun c v hc z => k c v ?_ z) (fun c hc => old c _ hc (other c _ hc (Ne.symm exo_own))) fun c xs hc => old c _ hc (other c _ hc (Ne.symm exo_tup))
        rcases hc with rfl | hc
        · exact w
        · exact other c _ hc (Ne.symm exo_own)
/-- a further field is stored -/
theorem ostG_old (T : OexG X.K C) (I : Inv X pins σ H s) (e : H a = some (exo a C (some dx))) (ed : H dx = some (exd dx fs)) (hl : fs.length ≤ 900) (hno : PySem.W.findIn X.K (.ref C) f = some none) (ry : RelV y u)
    (h : ∀ s', Inv X pins σ (upd H dx (exd dx ((f, y) :: fs))) s' → Q () s') : wpAny (model X.prog X.w) A (setAttr (.ref a) f u) Q E s := by
  obtain ⟨B, newId, initId, bmB, FB, SB, ei, eo⟩ := T.cls
  obtain ⟨t1, ho⟩ := exo_at I.hok e
  obtain ⟨mA, hns, rel⟩ := exd_at I.hok ed
  have hw := within_of rel
  obtain ⟨hp, g, d, t, os⟩ := s
  obtain ⟨oD, _, _, hoD, _, _⟩ := hns.count hw
  have J : ∀ tk, PySem.W.InstAt (⟨hp, g, d, tk, os⟩ : Shared).heap a { cls := .ref C, dict := some dx, data := .fields #[.ref t1, .none, .none, .none, .bool false, .none] } C (some oD) := fun _ => ⟨ho, rfl, rfl, hoD⟩
  refine PySem.W.set_plain I.kIn (J t) T.sa (PySem.W.osa_openX SB I.kIn (J _) eo (no_taker hno) fun b => ?_)
  refine PySem.OEG.own_next I.kIn T.hd ho hns hw (by rw [List.length_map]; omega) fun h' tk' k hn => ?_
  have hd : ∃ o, h'.get? dx = some o := by
    obtain ⟨o, _, _, z, _⟩ := hn
    exact ⟨o, z⟩
  exact h _ (I.write (t' := tk') (x := dx) (e := dx) (o := exd dx ((f, y) :: fs)) (by rw [ed]; exact True.intro) (.inl rfl) k hd (exd_ok hn (relO_put ry rel)))
end
/-- self.f = e -/
def tOstG (K : PySem.W.Frag) (f : Str) (to te : TE) : TS := fun D σ H => te σ H fun y H1 => to σ H1 fun x H2 => ∃ a C : Addr, x = .ref a ∧ OexG K C ∧ PySem.W.findIn K (.ref C) f = some none ∧
  ((H2 a = some (exo a C none) ∧ ∀ dx, H2 dx = none → dx ≠ a → D.nx σ (upd (upd H2 dx (exd dx [(f, y)])) a (exo a C (some dx)))) ∨
    ∃ (dx : Addr) (fs : List (Str × V)), H2 a = some (exo a C (some dx)) ∧ H2 dx = some (exd dx fs) ∧ fs.length ≤ 900 ∧ D.nx σ (upd H2 dx (exd dx ((f, y) :: fs))))
theorem ps_ostG {X : Cx} {o e : Expr} {to te : TE} {f : Str} {p' pos : Pos} (ho : PE X o to) (he : PE X e te) (hs : swapsWith e (some (.Attribute o f p')) pos.line X.env = pure false := by rfl) : PS X (.Assign [.Attribute o f p'] e pos) (tOstG X.K f to te) := by
  refine ⟨fun pins s σ H D I h => ?_⟩
  refine plainObj_wpAny_Assign_Attribute (thn (he.run pins s σ H _ I h) fun v s1 ⟨y, H1, I1, r1, q1⟩ => thn (ho.run pins s1 σ H1 _ I1 q1) fun u s2 ⟨x, H2, I2, r2, a, C, ex, T, hno, q⟩ => ?_) hs
  subst ex
  obtain rfl : u = Value.ref a := r2
  rcases q with ⟨ea, q⟩ | ⟨dx, fs, ea, ed, hl, q⟩
  · exact ostG_new T I2 ea hno r1 fun dx s' n ne J => ⟨σ, _, J, q dx n ne⟩
  · exact ostG_old T I2 ea ed hl hno r1 fun s' J => ⟨σ, _, J, q⟩
/-! ### C(..), the own __init__ as a def -/
section
variable {X : Cx} {CX : CXT} {k : Nat} {fI C : Addr} {fd : FuncData} {ps : List Str} {sp : Sp} {pins : List (Addr × Obj)} {σ : St} {H1 : Hp} {s : Shared} {Q : VK}
theorem run_exc (T : OexG X.K C) (iC : PySem.W.findIn X.K (.ref C) "__init__" = some (some (.ref fI))) (tI : PySem.W.typeIn X.K (.ref fI) = some (.type "function"))
    (F1 : FnOk X.prog X.w X.K X.mg X.base CX k fI fd ps sp) (hr : Room (k + 1) X.A) (hx : Passes CX X (fun _ _ _ => False)) (I1 : Inv X pins σ H1 s) {us : List Value} {kw : List (Str × Value)} {bs : Addr → List Value} {vs : Addr → List V}
    (hus : us.length ≤ sizeLine) (r2 : ∀ a, Vals (vs a) (bs a)) (hb : ∀ (s' : Shared) (a : Addr), X.K.In s'.heap → BindsTo s' fd ⟨.ref a :: us, kw⟩ (ps.zip (bs a)))
    (hq : ∀ a, H1 a = none → sp (vs a) (upd H1 a (exo a C none)) (fun v H2 => v = .non ∧ Q (.ref a) H2) (fun _ _ _ => False)) :
    wpAny (model X.prog X.w) X.A (call (.ref C) us kw) (EP X pins σ Q) X.xe s := by
  obtain ⟨B, newId, initId, bmB, FB, SB, ei, eo⟩ := T.cls
  obtain ⟨nm, N, q, bs', bm, hdct, sn, sub, ab, col, dd, k0, k1, k2, k3, k5, hC, hbm⟩ := PySem.W.excInit_of I1.kIn ei
  obtain ⟨hp, g, dr, tk, os⟩ := s
  have hsz : hp.objs.size ≤ hp.objs.size + 1 := Nat.le_succ _
  have hn : H1 (hp.objs.size + 1) = none := I1.hok.fresh hsz
  have hq1 := hq (hp.objs.size + 1) hn
  have kk : ∀ b o, hp.get? b = some o → ((hp.push (PySem.W.kdv_tup us)).push (PySem.HandSPX.excO C hp.objs.size)).get? b = some o := fun b o e => Heap.get?_push_of_some _ (Heap.get?_push_of_some _ e)
  have hget : ((hp.push (PySem.W.kdv_tup us)).push (PySem.HandSPX.excO C hp.objs.size)).get? (hp.objs.size + 1) = some (PySem.HandSPX.excO C hp.objs.size) := by heap_get
  have I2 : Inv X pins σ (upd H1 (hp.objs.size + 1) (exo (hp.objs.size + 1) C none)) ⟨(hp.push (PySem.W.kdv_tup us)).push (PySem.HandSPX.excO C hp.objs.size), g, dr, tk, os⟩ :=
    I1.laid (t' := tk) (a := hp.objs.size + 1) (o := exo (hp.objs.size + 1) C none) (h' := (hp.push (PySem.W.kdv_tup us)).push (PySem.HandSPX.excO C hp.objs.size)) kk hsz (exo_ok hget)
  refine wpAny_call (PySem.OEG.call_kw FB hbm hC (PySem.W.looks_findIn I1.kIn iC) (fun self => PySem.W.bind_fn I1.kIn self tI) hus
    (codeAny_mono (F1.run _ X.stack _ _ ⟨Value.ref (hp.objs.size + 1) :: us, kw⟩ (bs (hp.objs.size + 1)) _ _ (fun _ _ _ => False) (hr.make C us kw) (I2.env0.make C us kw) (hb _ _ I2.kIn) (r2 _) hq1) fun r s' hq' => ?_))
  cases r with
  | error er => exact hx pins σ _ _ er s' I2 hq'
  | ok fl =>
    cases fl with
    | ret u =>
      obtain ⟨v, H', I3, rv, ev, q3⟩ := I2.after hq'
      subst ev
      exact ⟨rv, ⟨V.ref (hp.objs.size + 1), H', I3, rfl, q3⟩⟩
    | next => exact False.elim hq'
    | brk => exact False.elim hq'
    | cont => exact False.elim hq'
end
/-- an __init__'s promise: the fields fs hold what was handed in -/
def spIni (C : Addr) (fs : List Str) : Sp := fun vs H Q _ => ∃ (a : Addr) (ys : List V), vs = .ref a :: ys ∧ ys.length = fs.length ∧ H a = some (exo a C none) ∧
  ∀ H2 : Hp, (∀ b o, b ≠ a → H b = some o → H2 b = some o) → ErrAt H2 a C (fs.zip ys) → Q .non H2
/-- a class of errors as the top has made it: its name, its address, its fields -/
structure ExCls (P : Program) (w : World) (K : PySem.W.Frag) (mg : Str → Option Value) (base : Heap) (x : Str) (C : Addr) (fs : List Str) : Prop where
  T : OexG K C
  gC : mg x = some (.ref C)
  ini : ∃ (fI : Addr) (fd : FuncData), PySem.W.findIn K (.ref C) "__init__" = some (some (.ref fI)) ∧ PySem.W.typeIn K (.ref fI) = some (.type "function") ∧
    FnOk P w K mg base CX0 1 fI fd (("self" : Str) :: fs) (spIni C fs) ∧
    (∀ (s : Shared) (us : List Value), us.length = fs.length + 1 → BindsTo s fd ⟨us, []⟩ ((("self" : Str) :: fs).zip us)) ∧
    (∀ (s : Shared) (a : Addr) (ws : List Value), ws.length = fs.length → BindsTo s fd ⟨[.ref a], fs.reverse.zip ws⟩ ((("self" : Str) :: fs).zip (.ref a :: ws.reverse)))
/-- C(e, ..) -/
def tNewE (C : Addr) (fs : List Str) (ta : TA) : TE := fun σ H Q => ta σ H fun zs H1 => zs.length = fs.length ∧ ∀ (a : Addr) (H2 : Hp), Same H1 H2 → ErrAt H2 a C (fs.zip zs) → Q (.ref a) H2
/-- C(f = e, ..), the fields from behind -/
def tNewK (C : Addr) (fs : List Str) (ta : TA) : TE := fun σ H Q => ta σ H fun zs H1 => zs.length = fs.length ∧ ∀ (a : Addr) (H2 : Hp), Same H1 H2 → ErrAt H2 a C (fs.zip zs.reverse) → Q (.ref a) H2
section
variable {X : Cx} {x : Str} {C : Addr} {fs : List Str} {e : Expr} {es : List Expr} {kws : List Keyword} {ta : TA} {p pos : Pos}
theorem small_line {n m : Nat} (h : n = m) (hm : m ≤ 5) : n ≤ sizeLine := by
  rw [sizeLine_eq]
  omega
theorem spIni_at {H1 : Hp} {a : Addr} {ys : List V} {Q : VK} {E : XK} (hn : H1 a = none) (hl : ys.length = fs.length) (q : ∀ (a : Addr) (H2 : Hp), Same H1 H2 → ErrAt H2 a C (fs.zip ys) → Q (.ref a) H2) :
    spIni C fs (.ref a :: ys) (upd H1 a (exo a C none)) (fun v H2 => v = .non ∧ Q (.ref a) H2) E :=
  ⟨a, ys, rfl, hl, upd_same, fun H2 k e => ⟨rfl, q a H2 (fun b o hb => k b o (ne_of_none hb hn) (by rw [upd_ne (ne_of_none hb hn)]; exact hb)) e⟩⟩
theorem pe_newE (G : ExCls X.prog X.w X.K X.mg X.base x C fs) (h5 : fs.length ≤ 5) (hr : Room 2 X.A) (hg : Gl X x) (ha : PA X (e :: es) ta) (hx : Passes CX0 X (fun _ _ _ => False))
    (hdb : (x == ("__debug__" : Str)) = false := by decide) (he : starEach (e :: es) X.env = (false, eval e X.env) :: starEach es X.env := by rfl) (hpl : (backTo pos (starEach es X.env)).any (·.1) = false := by rfl) :
    PE X (.Call (.Name x p) (e :: es) [] pos) (tNewE C fs ta) := by
  obtain ⟨T, gC, fI, fd, iC, tI, F1, b1, b2⟩ := G
  refine ⟨fun pins s σ H Q I h => ?_⟩
  refine wpAny_Call_Name_kw (ld_glob I hg gC ?_ hdb)
  refine PySem.W.callWith_K (h₀ := X.base) I.ok.mod.kin T.kC (thn (ha.run pos pins s σ H _ I h) fun us s1 ⟨zs, H1, I1, r1, hl, q1⟩ => ⟨I1.kIn, ?_⟩) he hpl
  have hlu : us.length = fs.length := r1.length.symm.trans hl
  exact run_exc T iC tI F1 hr hx I1 (us := us) (kw := []) (bs := fun a => .ref a :: us) (vs := fun a => .ref a :: zs) (small_line hlu h5) (fun a => .cons rfl r1)
    (fun s' a _ => b1 s' (.ref a :: us) (congrArg Nat.succ hlu)) (fun a hn => spIni_at hn hl q1)
theorem pe_newE0 (G : ExCls X.prog X.w X.K X.mg X.base x C []) (hr : Room 2 X.A) (hg : Gl X x) (hx : Passes CX0 X (fun _ _ _ => False)) (hdb : (x == ("__debug__" : Str)) = false := by decide) :
    PE X (.Call (.Name x p) [] [] pos) (tNewE C [] tNil) := by
  obtain ⟨T, gC, fI, fd, iC, tI, F1, b1, b2⟩ := G
  refine ⟨fun pins s σ H Q I h => ?_⟩
  refine wpAny_Call_Name_kw (ld_glob I hg gC ?_ hdb)
  obtain ⟨_, q1⟩ := (show ([] : List V).length = ([] : List Str).length ∧ _ from h)
  refine PySem.W.callWith_K0 I.kIn T.kC ?_
  exact run_exc T iC tI F1 hr hx I (us := []) (kw := []) (bs := fun a => [.ref a]) (vs := fun a => [.ref a]) (small_line rfl (by decide)) (fun a => .cons rfl .nil)
    (fun s' a _ => b1 s' [.ref a] rfl) (fun a hn => spIni_at hn rfl q1)
theorem pe_newK (G : ExCls X.prog X.w X.K X.mg X.base x C fs) (hr : Room 2 X.A) (hg : Gl X x) (hkw : PK X kws ta) (hx : Passes CX0 X (fun _ _ _ => False))
    (hall : (backToKw pos (keywordEach kws X.env)).all (·.1.isSome) = true := by rfl) (hks : (backToKw pos (keywordEach kws X.env)).filterMap (·.1) = fs.reverse := by rfl) (hdb : (x == ("__debug__" : Str)) = false := by decide)
    (hpl : ((backTo pos (starEach [] X.env)).any (·.1) || (backToKw pos (keywordEach kws X.env)).any (·.1.isNone)) = false := by rfl) :
    PE X (.Call (.Name x p) [] kws pos) (tNewK C fs ta) := by
  obtain ⟨T, gC, fI, fd, iC, tI, F1, b1, b2⟩ := G
  refine ⟨fun pins s σ H Q I h => ?_⟩
  refine wpAny_Call_Name_kw (ld_glob I hg gC ?_ hdb)
  refine PySem.W.callWith_KW0 (h₀ := X.base) I.ok.mod.kin T.kC hall ?_ hpl
  refine thn (hkw.run pos pins s σ H _ I h) fun ws s2 ⟨zs, H2, I2, rz, hl, q2⟩ => ⟨I2.kIn, ?_⟩
  rw [hks]
  have hlw : ws.length = fs.length := rz.length.symm.trans hl
  exact run_exc T iC tI F1 hr hx I2 (us := []) (kw := fs.reverse.zip ws) (bs := fun a => .ref a :: ws.reverse) (vs := fun a => .ref a :: zs.reverse) (small_line rfl (by decide)) (fun a => .cons rfl rz.reverse)
    (fun s' a _ => b2 s' a ws hlw) (fun a hn => spIni_at hn (by rw [List.length_reverse]; exact hl) q2)
end
/-! ### e.f -/
def tXat (K : PySem.W.Frag) (f : Str) (te : TE) : TE := fun σ H Q => te σ H fun x H1 => ∃ (a C : Addr) (kvs : List (Str × V)) (v : V), x = .ref a ∧ OexG K C ∧ PySem.W.findIn K (.ref C) f = some none ∧ ErrAt H1 a C kvs ∧ kvs.lookup f = some v ∧ Q v H1
theorem pe_xat {X : Cx} {e : Expr} {te : TE} {f : Str} {pos : Pos} (he : PE X e te) (hb : attributeBase e f X.env (eval e X.env) = eval e X.env := by rfl) : PE X (.Attribute e f pos) (tXat X.K f te) := by
  refine ⟨fun pins s σ H Q I h => ?_⟩
  refine attr_of hb (thn (he.run pins s σ H _ I h) fun u s1 hh => ?_)
  obtain ⟨x, H1, I1, rx, a, C, kvs, v, ex, T, hno, E, l, q⟩ := hh
  subst ex
  obtain rfl : u = Value.ref a := rx
  obtain ⟨d, m, ea, ed, lv⟩ := E.2 f v l
  obtain ⟨t1, ho⟩ := exo_at I1.hok ea
  obtain ⟨mA, hns, hr⟩ := exd_at I1.hok ed
  obtain ⟨od, hod, hl⟩ := lookIn_ns hns
  obtain ⟨u, hu, ru⟩ := RelO.some_of (v := v) (o := mA f) (by rw [← lv]; exact hr f)
  have J : PySem.W.InstAt s1.heap a { cls := .ref C, dict := some d, data := .fields #[.ref t1, .none, .none, .none, .bool false, .none] } C (some od) := ⟨ho, rfl, rfl, hod⟩
  exact HandSPX.exc_get I1.kIn J T.ga T.gg T.exC (PySem.W.findObj_own T.hd hno rfl (by rw [hl, hu])) (handed_of ru) ⟨v, H1, I1.tok _, ru, q⟩
/-! ### isinstance(e, c), isinstance(e, (c, ..)) -/
structure GetC (K : PySem.W.Frag) : Prop where
  hn : PySem.W.specialIn K (.builtin "object.__class__") "__get__" = some (some (.builtin "getset_descriptor.__get__"))
  ht : PySem.W.takesIn K (.builtin "object.__class__") = some true
def rIsX (K : PySem.W.Frag) : List V → Hp → VK → Prop := fun xs H Q => ∃ (a C : Addr) (kvs : List (Str × V)) (c : V) (u : Value) (b : Bool), xs = [.ref a, c] ∧ ClsV c u ∧ OexG K C ∧ ErrAt H a C kvs ∧ PySem.W.kitOne K (.ref C) u = some b ∧ Q (.bl b) H
def rIsXT (K : PySem.W.Frag) : List V → Hp → VK → Prop := fun xs H Q => ∃ (a C : Addr) (kvs : List (Str × V)) (tp : Addr) (cs : List V) (us : List Value) (b : Bool), xs = [.ref a, .ref tp] ∧ H tp = some (.tup cs) ∧ Paired ClsV cs us ∧ OexG K C ∧ ErrAt H a C kvs ∧
  PySem.W.kitAny K (.ref C) us = some b ∧ Q (.bl b) H
section
variable {X : Cx} {pins : List (Addr × Obj)} {σ : St} {H : Hp} {s : Shared}
theorem ErrAt.inst {a C : Addr} {kvs : List (Str × V)} (I : Inv X pins σ H s) (e : ErrAt H a C kvs) : ∃ (ox : Obj) (od : Option Obj), PySem.W.InstAt s.heap a ox C od := by
  obtain ⟨⟨d, ea, hd⟩, _⟩ := e
  obtain ⟨t1, ho⟩ := exo_at I.hok ea
  cases d with
  | none => exact ⟨_, none, ho, rfl, rfl, trivial⟩
  | some dd =>
    obtain ⟨l, z⟩ := hd dd rfl
    obtain ⟨mA, ⟨o, es, ep, h1, h2⟩, hr⟩ := exd_at I.hok z
    exact ⟨_, some o, ho, rfl, rfl, h1⟩
theorem kit_err {a C : Addr} {ox : Obj} {od : Option Obj} (G : GetC X.K) (T : OexG X.K C) : PySem.W.KitX X.K (.ref a) (.ref C) (fun h => PySem.W.InstAt h a ox C od) := by
  have hcl : (PySem.W.clsIn X.K C).isSome = true := by
    obtain ⟨cd, hc, _⟩ := PySem.W.any_some T.hd
    rw [hc]
    rfl
  exact PySem.W.kitx_exc hcl T.ga T.gg T.exC T.ha G.hn G.ht T.hm
theorem call_isX (G : GetC X.K) : CallR X (.builtin "isinstance") (rIsX X.K) := by
  intro pins s σ H xs us Q I r h
  obtain ⟨a, C, kvs, c, u, b, rfl, k, T, E, e, q⟩ := h
  obtain ⟨u1, u2, rfl, r1, r2⟩ := vals2 r
  have e2 := k.eq r2
  subst e2
  cases (show u1 = Value.ref a from r1)
  obtain ⟨ox, od, J⟩ := E.inst I
  exact PySem.W.kia_one (kit_err G T) I.kIn J e (fun z => nomatch z) fun tk => ⟨.bl b, H, I.tok tk, rfl, q⟩
theorem call_isXT (G : GetC X.K) : CallR X (.builtin "isinstance") (rIsXT X.K) := by
  intro pins s σ H xs us Q I r h
  obtain ⟨a, C, kvs, tp, cs, ws, b, rfl, hT, k, T, E, e, q⟩ := h
  obtain ⟨u1, u2, rfl, r1, r2⟩ := vals2 r
  cases (show u2 = Value.ref tp from r2)
  cases (show u1 = Value.ref a from r1)
  obtain ⟨ox, od, J⟩ := E.inst I
  obtain ⟨_, its, rv, o, h1, h2, n, h3⟩ := (show ObjOk X.prog X.w H s.heap tp (.tup cs) from I.hok tp _ hT)
  have e3 := ClsV.all k rv
  subst e3
  obtain ⟨oc, od', dt, sl⟩ := o
  simp only at h2 h3
  subst h2 h3
  exact PySem.W.kia_tup (kit_err G T) I.kIn J h1 e (fun z => nomatch z) fun tk => ⟨.bl b, H, I.tok tk, rfl, q⟩
end
/-! ### the three shapes of __init__ -/
section
variable {P : Program} {w : World} {K : PySem.W.Frag} {mg : Str → Option Value} {base : Heap} {st : Stmt} {qual : Str} {fI C : Addr} {fd : FuncData} {f g : Str}
theorem zip1 {f : Str} {y : V} {h : Str} {v : V} (e : List.lookup h (([f] : List Str).zip [y]) = some v) : h = f ∧ v = y := by
  have e' : List.lookup h [(f, y)] = some v := e
  rw [lookup_put] at e'
  by_cases q : h = f
  · rw [if_pos q] at e'
    exact ⟨q, (Option.some.inj e').symm⟩
  · rw [if_neg q] at e'
    cases e'
theorem ini0 {f1 : Pos} (F : Fun K "__init__" qual st fI fd) (S : FnScope ["self"] ["self"] (defScope st)) (hb : ∃ q, defBody st = [.Pass q]) : FnOk P w K mg base CX0 1 fI fd [("self" : Str)] (spIni C []) := by
  obtain ⟨q, hb⟩ := hb
  refine F.ok S (fun vs H Q E h => ?_) (fun cdv A outer s H vs Q E hr h => ?_)
  · obtain ⟨a, ys, rfl, hl, _⟩ := h
    exact congrArg Nat.succ hl
  · obtain ⟨a, ys, rfl, hl, ha, k⟩ := h
    have : ys = [] := List.length_eq_zero_iff.mp hl
    subst this
    rw [hb]
    refine ⟨_, pss_one ps_pass, ?_⟩
    exact k H (fun b o _ e => e) ⟨⟨none, ha, fun dd q => nomatch q⟩, fun f v e => by cases e⟩
theorem ini1 (df : (f == ("__debug__" : Str)) = false) (dcf : (f == ("__classdict__" : Str)) = false) (F : Fun K "__init__" qual st fI fd) (S : FnScope [("self" : Str), f] [("self" : Str), f] (defScope st)) (hb : ∃ q1 q2 q3 q4, defBody st = [.Assign [.Attribute (.Name "self" q1) f q2] (.Name f q3) q4]) (T : OexG K C) (no : PySem.W.findIn K (.ref C) f = some none) :
    FnOk P w K mg base CX0 1 fI fd [("self" : Str), f] (spIni C [f]) := by
  obtain ⟨q1, q2, q3, q4, hb⟩ := hb
  refine F.ok S (fun vs H Q E h => ?_) (fun cdv A outer s H vs Q E hr h => ?_)
  · obtain ⟨a, ys, rfl, hl, _⟩ := h
    exact congrArg Nat.succ hl
  · obtain ⟨a, ys, rfl, hl, ha, k⟩ := h
    obtain ⟨y, rfl⟩ : ∃ y, ys = [y] := by
      match ys, hl with
      | [y], _ => exact ⟨y, rfl⟩
    rw [hb]
    refine ⟨_, pss_one (ps_ostG (pe_var (i := 0) rfl (vis_par S List.mem_cons_self)) (pe_var (i := 1) rfl (vis_par S (List.mem_cons_of_mem _ List.mem_cons_self)) (hd := df) (hcd := dcf))), ?_⟩
    refine ⟨y, rfl, .ref a, rfl, a, C, rfl, T, no, .inl ⟨ha, fun dx nd ne => ?_⟩⟩
    refine k _ (fun b o hb e => ?_) ⟨⟨some dx, upd_same, fun dd q => ?_⟩, fun h v e => ?_⟩
    · rw [upd_ne hb, upd_ne (ne_of_none e nd)]
      exact e
    · cases q
      exact ⟨_, by rw [upd_ne ne, upd_same]⟩
    · obtain ⟨rfl, rfl⟩ := zip1 e
      exact ⟨dx, _, upd_same, by rw [upd_ne ne, upd_same], by simp [List.lookup]⟩
theorem ini2 (df : (f == ("__debug__" : Str)) = false) (dcf : (f == ("__classdict__" : Str)) = false) (dg : (g == ("__debug__" : Str)) = false) (dcg : (g == ("__classdict__" : Str)) = false) (F : Fun K "__init__" qual st fI fd) (S : FnScope [("self" : Str), f, g] [("self" : Str), f, g] (defScope st))
    (hb : ∃ q1 q2 q3 q4 r1 r2 r3 r4, defBody st = [.Assign [.Attribute (.Name "self" q1) f q2] (.Name f q3) q4, .Assign [.Attribute (.Name "self" r1) g r2] (.Name g r3) r4]) (T : OexG K C) (no : PySem.W.findIn K (.ref C) f = some none)
    (no2 : PySem.W.findIn K (.ref C) g = some none) : FnOk P w K mg base CX0 1 fI fd [("self" : Str), f, g] (spIni C [f, g]) := by
  obtain ⟨q1, q2, q3, q4, r1, r2, r3, r4, hb⟩ := hb
  have hfg : f ≠ g := fun z => by
    have nd := S.nd
    rw [z] at nd
    simp at nd
  refine F.ok S (fun vs H Q E h => ?_) (fun cdv A outer s H vs Q E hr h => ?_)
  · obtain ⟨a, ys, rfl, hl, _⟩ := h
    exact congrArg Nat.succ hl
  · obtain ⟨a, ys, rfl, hl, ha, k⟩ := h
    obtain ⟨y, z, rfl⟩ : ∃ y z, ys = [y, z] := by
      match ys, hl with
      | [y, z], _ => exact ⟨y, z, rfl⟩
    rw [hb]
    refine ⟨_, pss_cons (ps_ostG (pe_var (i := 0) rfl (vis_par S List.mem_cons_self)) (pe_var (i := 1) rfl (vis_par S (List.mem_cons_of_mem _ List.mem_cons_self)) (hd := df) (hcd := dcf)))
      (pss_one (ps_ostG (pe_var (i := 0) rfl (vis_par S List.mem_cons_self)) (pe_var (i := 2) rfl (vis_par S (List.mem_cons_of_mem _ (List.mem_cons_of_mem _ List.mem_cons_self))) (hd := dg) (hcd := dcg)))), ?_⟩
    refine ⟨y, rfl, .ref a, rfl, a, C, rfl, T, no, .inl ⟨ha, fun dx nd ne => ?_⟩⟩
    refine ⟨z, rfl, .ref a, rfl, a, C, rfl, T, no2, .inr ⟨dx, _, upd_same, by rw [upd_ne ne, upd_same], by show 1 ≤ 900; decide, ?_⟩⟩
    have e1 : (upd (upd (upd H dx (exd dx [(f, y)])) a (exo a C (some dx))) dx (exd dx [(g, z), (f, y)])) a = some (exo a C (some dx)) := by rw [upd_ne (Ne.symm ne), upd_same]
    refine k _ (fun b o hb e => ?_) ⟨⟨some dx, e1, fun dd q => ?_⟩, fun h v e => ?_⟩
    · rw [upd_ne (ne_of_none e nd), upd_ne hb, upd_ne (ne_of_none e nd)]
      exact e
    · cases q
      exact ⟨_, upd_same⟩
    · refine ⟨dx, _, e1, upd_same, ?_⟩
      have e' : List.lookup h [(f, y), (g, z)] = some v := e
      rw [lookup_put] at e'
      rw [lookup_put, lookup_put]
      by_cases q : h = f
      · subst q
        rw [if_pos rfl] at e'
        rw [if_neg hfg, if_pos rfl]
        exact e'
      · rw [if_neg q, lookup_put] at e'
        by_cases q' : h = g
        · rw [if_pos q'] at e' ⊢
          exact e'
        · rw [if_neg q'] at e'
          cases e'
end
end L2
/-! repr of a list where it is known which reprs are under way; defs that are called so -/
namespace L2
open PySem PySem.Spec PyProof.Rows
/-- a def that keeps its promise wherever no repr is under way -/
structure FnG (P : Program) (w : World) (K : PySem.W.Frag) (mg : Str → Option Value) (base : Heap) (k : Nat) (f : Addr) (fd : FuncData) (ps : List Str) (sp : Sp) : Prop where
  len : ∀ vs H Q E, sp vs H Q E → vs.length = ps.length
  run : ∀ (A : Around), A.guards = some [] → Room k A → ∀ (outer : List Env) (s : Shared) (H : Hp) (args : Args) (us : List Value) (vs : List V) (Q : VK) (E : XK),
    Env0 P w K mg base A outer s H → BindsTo s fd args (ps.zip us) → Vals vs us → sp vs H Q E → codeAny (model P w) A (.call (.ref f) args) (CR CX0 outer P w H s Q E) s
section
variable {P : Program} {w : World} {K : PySem.W.Frag} {mg : Str → Option Value} {base : Heap} {k : Nat} {f : Addr} {fd : FuncData} {ps : List Str} {sp : Sp}
theorem Fun.okG {x qual : Str} {st : Stmt} {N : List Str} (F : Fun K x qual st f fd) (S : FnScope N ps (defScope st)) (len : ∀ vs H Q E, sp vs H Q E → vs.length = ps.length)
    (body : ∀ (cdv : Value) (A : Around) (outer : List Env) (s : Shared) (H : Hp) (vs : List V) (Q : VK) (E : XK), A.guards = some [] → Room k (A.deeper (envOfC qual (defScope st) s.heap.objs.size f cdv)) → sp vs H Q E →
      ∃ t, PSs (cxOf CX0 P w K mg base N qual (defScope st) f cdv A outer s H E).nox (defBody st) t ∧ t { nx := fun _ H' => Q .non H', rt := Q } (start N vs) H) : FnG P w K mg base (k + 1) f fd ps sp := by
  refine ⟨len, fun A hgd hr outer s H args us vs Q E e0 hb r hsp => ?_⟩
  obtain ⟨oc, od, kV, doc, pm, an, cdv, ct, osl, rfl, lk, hcd⟩ := F.ex
  obtain ⟨t, ht, hq⟩ := body cdv A outer s H vs Q E hgd (hr.deeper _) hsp
  have ht' := ht.nox
  have inK : K.In s.heap := e0.mod.kin.keeps fun b o e => (e0.bs b o e).1
  refine codeAny_call_function hr.depth (inK _ _ lk) rfl S.co S.gen rfl (PySem.W.codeRec_of inK hcd) (hb _ _ _ _ (wpAny_newFunctionEnv_cells S.kind ?_ ?_))
  · rintro ⟨n, v⟩ hy
    rcases S.par n (List.of_mem_zip hy).1 with q | q
    · exact .inl q
    · exact .inr ⟨q, PySem.W.cellsFrom_some _ _ _ (.inl q)⟩
  · intro env he s1 x
    subst he
    refine ⟨(e0.mod.nolimit.keeps fun b o e => (e0.bs b o e).1).keeps x.toInCall.keep, codeAny_func ?_⟩
    refine wpAny_mono (ht'.run [] s1 (start N vs) H _ (inv_start S hr.hd e0 (len _ _ _ _ hsp) r x) hq) (fun fl s' hs => ?_) fun _ _ hs => hs
    cases fl with
    | ret u =>
      obtain ⟨v, σ', H', J, rv, q⟩ := hs
      exact ⟨v, H', J.os, J.bare, J.base, J.hok, rv, q⟩
    | next =>
      obtain ⟨σ', H', J, q⟩ := hs
      exact ⟨V.non, H', J.os, J.bare, J.base, J.hok, rfl, q⟩
    | brk => exact hs.choose_spec.choose_spec.2.elim
    | cont => exact hs.choose_spec.choose_spec.2.elim
end
section
variable {X : Cx} {k : Nat} {f : Addr} {fd : FuncData} {ps : List Str} {sp : Sp} {x : Str} {p pos : Pos} {e : Expr} {es : List Expr} {t : TA}
theorem pe_callG (F : FnG X.prog X.w X.K X.mg X.base k f fd ps sp) (hgd : X.A.guards = some []) (hr : Room k X.A) (hg : Gl X x) (hm : X.mg x = some (.ref f)) (hk : PySem.W.keepIn X.K (.ref f) = true) (hb : Binds X.K fd ps [])
    (ha : PA X (e :: es) t) (hdb : (x == ("__debug__" : Str)) = false := by decide) (he : starEach (e :: es) X.env = (false, eval e X.env) :: starEach es X.env := by rfl)
    (hpl : (backTo pos (starEach es X.env)).any (·.1) = false := by rfl) : PE X (.Call (.Name x p) (e :: es) [] pos) (tCall sp [] E0 t) := by
  refine ⟨fun pins s σ H Q I h => wpAny_Call_Name_kw (ld_glob I hg hm (PySem.W.callWith_K (h₀ := X.base) I.ok.mod.kin hk (thn (ha.run pos pins s σ H _ I h) fun us s1 ⟨vs, H1, I1, r, q⟩ => ⟨I1.kIn, ?_⟩) he hpl) hdb)⟩
  have q : sp (vs ++ []) H1 Q E0 := q
  rw [List.append_nil] at q
  have hl : (us ++ []).length = ps.length := by
    rw [List.append_nil, ← r.length]
    exact F.len _ _ _ _ q
  have b := hb s1 us I1.kIn hl
  rw [List.append_nil] at b
  refine wpAny_call (codeAny_mono (F.run X.A hgd hr X.stack s1 H1 ⟨us, []⟩ us vs Q E0 I1.env0 b r q) fun r s' z => ?_)
  match r, z with
  | .ok (.ret u), z => exact I1.after z
  | .ok .next, z => exact z.elim
  | .ok .brk, z => exact z.elim
  | .ok .cont, z => exact z.elim
  | .error _, z => exact z.elim
end
/-! ### repr -/
/-- the values that are shown here: plain ones, tuples of such, an empty list, an empty dict -/
inductive DX (H : Hp) : V → PyData → Prop where
  | non : DX H .non .none
  | bl (b : Bool) : DX H (.bl b) (.bool b)
  | int (i : Int) : DX H (.int i) (.int i)
  | str (x : Str) : DX H (.str x) (.str x)
  | nil {a : Addr} (e : H a = some (.lst [])) : DX H (.ref a) (.list [])
  | tup0 {a : Addr} (e : H a = some (.tup [])) : DX H (.ref a) (.tuple [])
  | tup2 {a : Addr} {x : Str} {i : Int} (e : H a = some (.tup [.str x, .int i])) : DX H (.ref a) (.tuple [.str x, .int i])
  | dct {a : Addr} (e : H a = some (.dK [])) : DX H (.ref a) (.dict [])
theorem DX.same {H H' : Hp} {v : V} {d : PyData} (h : DX H v d) (s : Same H H') : DX H' v d := by
  cases h with
  | non => exact .non
  | bl b => exact .bl b
  | int i => exact .int i
  | str x => exact .str x
  | nil e => exact .nil (s _ _ e)
  | tup0 e => exact .tup0 (s _ _ e)
  | tup2 e => exact .tup2 (s _ _ e)
  | dct e => exact .dct (s _ _ e)
section
variable {X : Cx} {pins : List (Addr × Obj)} {σ : St} {H : Hp} {s : Shared}
theorem ne_sys {o : Obj} {a : Addr} {ob : Obj} (ko : s.heap.get? sysModules = some o) (kc : o.cls = .type "dict") (h : s.heap.get? a = some ob) (hc : ob.cls = .type "list") : sysModules ≠ a := fun z => by
  subst z
  rw [ko] at h
  cases h
  rw [kc] at hc
  exact absurd hc (by decide)
theorem DX.reads {o : Obj} (I : Inv X pins σ H s) (ko : s.heap.get? sysModules = some o) (kc : o.cls = .type "dict") {v : V} {d : PyData} {u : Value} (h : DX H v d) (r : RelV v u) : ∃ as, Reads s.heap u d as ∧ sysModules ∉ as := by
  cases h with
  | non => cases r; exact ⟨_, .none, by simp⟩
  | bl b => cases r; exact ⟨_, .bool b, by simp⟩
  | int i => obtain ⟨t, rfl⟩ := r; exact ⟨_, .int i t, by simp⟩
  | str x => obtain ⟨t, rfl⟩ := r; exact ⟨_, .str x t, by simp⟩
  | @nil a e =>
    cases r
    obtain ⟨its, rv, ⟨ob, n, ho, hc, _, hd⟩, _⟩ := I.list (.inl (.inl e))
    cases rv
    exact ⟨_, .list ho hc hd .nil, by simp; exact ne_sys ko kc ho hc⟩
  | @tup0 a e =>
    cases r
    obtain ⟨its, rv, ⟨ob, ho, hc, n, hd⟩, _⟩ := I.tuple (.inl (.inl e))
    cases rv
    exact ⟨_, .tuple ho hc hd .nil, by simp⟩
  | @tup2 a x i e =>
    cases r
    obtain ⟨its, rv, ⟨ob, ho, hc, n, hd⟩, _⟩ := I.tuple (.inl (.inl e))
    cases rv with
    | cons r1 rv =>
      cases rv with
      | cons r2 rv =>
        cases rv
        obtain ⟨t1, rfl⟩ := r1
        obtain ⟨t2, rfl⟩ := r2
        exact ⟨_, .tuple ho hc hd (.cons (.str x t1) (.cons (.int i t2) .nil)), by simp⟩
  | @dct a e =>
    cases r
    obtain ⟨_, hne, vs, kv, ob, es, ep, ho, hx, hd, _, hp, _⟩ := (show ObjOk X.prog X.w H s.heap a (.dK []) from I.hok a _ e)
    cases kv
    have he : es.toList = [] := by
      cases q : es.toList with
      | nil => rfl
      | cons a l =>
        rw [q] at hp
        exact absurd hp.length (by simp)
    refine ⟨a :: [] ++ [], .dict (o := ob) (es := es) (n := ep) (kvs := []) (as := []) (bs := []) ho hx.1 hd ?_ ?_, ?_⟩
    · rw [he]; exact .nil
    · rw [he]; exact .nil
    · simp only [List.append_nil, List.mem_singleton]
      exact fun z => absurd z.symm (beq_eq_false_iff_ne.mp hne)
inductive DXs (H : Hp) : List V → List PyData → Prop where
  | nil : DXs H [] []
  | cons {v : V} {d : PyData} {vs : List V} {ds : List PyData} (h : DX H v d) (t : DXs H vs ds) : DXs H (v :: vs) (d :: ds)
theorem DXs.same {H H' : Hp} {vs : List V} {ds : List PyData} (h : DXs H vs ds) (s : Same H H') : DXs H' vs ds := by
  induction h with
  | nil => exact .nil
  | cons h _ ih => exact .cons (h.same s) ih
theorem DXs.reads {o : Obj} (I : Inv X pins σ H s) (ko : s.heap.get? sysModules = some o) (kc : o.cls = .type "dict") {vs : List V} {ds : List PyData} (h : DXs H vs ds) : ∀ {us : List Value}, Vals vs us → ∃ as, ReadsAll s.heap us ds as ∧ sysModules ∉ as := by
  induction h with
  | nil => intro us r; cases r; exact ⟨_, .nil, by simp⟩
  | cons h _ ih =>
    intro us r
    cases r with
    | cons r1 r2 =>
      obtain ⟨as, q, n⟩ := h.reads I ko kc r1
      obtain ⟨bs, q2, n2⟩ := ih r2
      exact ⟨_, .cons q q2, by simp [n, n2]⟩
end
/-- repr(xs), xs a list of such values -/
def rRepr : List V → Hp → VK → Prop := fun xs H Q => ∃ (p : Addr) (vs : List V) (ds : List PyData), xs = [.ref p] ∧ H p = some (.lst vs) ∧ DXs H vs ds ∧ (PyData.list ds).showable = true ∧ (PyData.list ds).depth ≤ 40 ∧
  (PyData.list ds).shown.length ≤ sizeLine ∧ Q (.str (PyData.list ds).shown) H
theorem call_reprX {X : Cx} {o : Obj} (hgd : X.A.guards = some []) (hu : X.A.units + 64 < cLine) (ks : X.K.lookup sysModules = some o) (kc : o.cls = .type "dict") : CallR X (.builtin "repr") rRepr := by
  intro pins s σ H xs us Q I r h
  obtain ⟨p, vs, ds, rfl, hp, hd, h1, h2, h3, q⟩ := h
  cases r with
  | cons r1 r2 =>
    cases r2
    cases (show _ = Value.ref p from r1)
    have ko := I.kIn _ _ ks
    obtain ⟨its, rv, ⟨ob, n, ho, hc, _, hdt⟩, _⟩ := I.list (.inl (.inl hp))
    obtain ⟨as, rd, na⟩ := hd.reads I ko kc rv
    refine repr_of_reads' (.list ho hc hdt rd) h1 (fun _ z => ?_) hgd (by omega) (fun _ _ e => e) (fun h' u tk hk => ⟨.str (PyData.list ds).shown, H, I.kept (t' := tk) hk, ⟨u, rfl⟩, q⟩) h3
    rcases List.mem_cons.mp z with z | z
    · exact ne_sys ko kc ho hc z
    · exact na z
end L2
/-! A layer of data over the hand layer: values as trees of data or as numbers of things that change; readings without addresses -/
namespace DL
open PySem PySem.Spec PyProof.Rows L2
/-- a value: data that never changes; the k-th thing that changes; a value as it stands -/
inductive AV where
  | d (x : PyData)
  | m (k : Nat)
  | v (x : V)
/-- a thing that changes: no longer told of; the two numbers of a draw; a list -/
inductive MO where
  | dead
  | rng
  | lst (xs : List AV)
  | dct (kvs : List (Key × AV))
abbrev Store := List MO
abbrev DEnv := List (Option AV)
abbrev PQ := AV → Store → Prop
/-- the address is hidden, or that of a thing that changes -/
def lv (Z As : List Addr) (S : Store) (a : Addr) : Prop := a ∈ Z ∨ ∃ (k : Nat) (o : MO), As[k]? = some a ∧ S[k]? = some o ∧ o ≠ MO.dead
/-- what is no thing that changes stays -/
def Ex (L : Addr → Prop) (H : Hp) (L' : Addr → Prop) (H' : Hp) : Prop := ∀ b o, H b = some o → ¬ L b → ¬ L' b ∧ H' b = some o
mutual
inductive DV (K : PySem.W.Frag) (L : Addr → Prop) (H : Hp) : V → PyData → Prop
  | non : DV K L H .non .none
  | bl (b : Bool) : DV K L H (.bl b) (.bool b)
  | int (i : Int) : DV K L H (.int i) (.int i)
  | str (x : Str) (h : x.length ≤ sizeLine) : DV K L H (.str x) (.str x)
  | lst {a : Addr} {xs : List V} {ds : List PyData} : ¬ L a → H a = some (.lst xs) → DVs K L H xs ds → DV K L H (.ref a) (.list ds)
  | tup {a : Addr} {xs : List V} {ds : List PyData} : ¬ L a → H a = some (.tup xs) → DVs K L H xs ds → DV K L H (.ref a) (.tuple ds)
  | tupK {a : Addr} {xs : List V} {ds : List PyData} : SqT K (fun _ => none) a xs → DVs K L H xs ds → DV K L H (.ref a) (.tuple ds)
  | dct {a : Addr} : ¬ L a → H a = some (.dK []) → DV K L H (.ref a) (.dict [])
inductive DVs (K : PySem.W.Frag) (L : Addr → Prop) (H : Hp) : List V → List PyData → Prop
  | nil : DVs K L H [] []
  | cons {v : V} {vs : List V} {d : PyData} {ds : List PyData} : DV K L H v d → DVs K L H vs ds → DVs K L H (v :: vs) (d :: ds)
end
mutual
theorem DV.ex {K : PySem.W.Frag} {L L' : Addr → Prop} {H H' : Hp} (s : Ex L H L' H') : ∀ (d : PyData) (v : V), DV K L H v d → DV K L' H' v d
  | .none, _, h => by cases h; exact .non
  | .bool b, _, h => by cases h; exact .bl b
  | .int i, _, h => by cases h; exact .int i
  | .str x, _, h => by
    cases h with
    | str _ z => exact .str x z
  | .list ds, _, h => by
    cases h with
    | lst n e t =>
      obtain ⟨n', e'⟩ := s _ _ e n
      exact .lst n' e' (DVs.ex s ds _ t)
  | .tuple ds, _, h => by
    cases h with
    | tup n e t =>
      obtain ⟨n', e'⟩ := s _ _ e n
      exact .tup n' e' (DVs.ex s ds _ t)
    | tupK e t => exact .tupK e (DVs.ex s ds _ t)
  | .dict kvs, _, h => by
    cases h with
    | dct n e =>
      obtain ⟨n', e'⟩ := s _ _ e n
      exact .dct n' e'
theorem DVs.ex {K : PySem.W.Frag} {L L' : Addr → Prop} {H H' : Hp} (s : Ex L H L' H') : ∀ (ds : List PyData) (vs : List V), DVs K L H vs ds → DVs K L' H' vs ds
  | [], _, h => by cases h; exact .nil
  | d :: ds, _, h => by
    cases h with
    | cons a b => exact .cons (DV.ex s d _ a) (DVs.ex s ds _ b)
end
theorem DVs.length {K : PySem.W.Frag} {L : Addr → Prop} {H : Hp} : ∀ {vs : List V} {ds : List PyData}, DVs K L H vs ds → vs.length = ds.length
  | _, _, .nil => rfl
  | _, _, .cons _ t => congrArg Nat.succ t.length
theorem DVs.get {K : PySem.W.Frag} {L : Addr → Prop} {H : Hp} : ∀ {vs : List V} {ds : List PyData} {i : Nat} {d : PyData}, DVs K L H vs ds → ds[i]? = some d → ∃ v, vs[i]? = some v ∧ DV K L H v d
  | _, _, _, _, .nil, h => by simp at h
  | _, _, 0, _, .cons a _, h => ⟨_, rfl, by rw [← Option.some.inj h]; exact a⟩
  | _, _, i + 1, _, .cons _ t, h => DVs.get (i := i) t h
theorem DVs.got {K : PySem.W.Frag} {L : Addr → Prop} {H : Hp} : ∀ {vs : List V} {ds : List PyData} {i : Nat} {v : V}, DVs K L H vs ds → vs[i]? = some v → ∃ d, ds[i]? = some d ∧ DV K L H v d
  | _, _, _, _, .nil, h => by simp at h
  | _, _, 0, _, .cons a _, h => ⟨_, rfl, by rw [← Option.some.inj h]; exact a⟩
  | _, _, i + 1, _, .cons _ t, h => DVs.got (i := i) t h
theorem DVs.append {K : PySem.W.Frag} {L : Addr → Prop} {H : Hp} : ∀ {vs ws : List V} {ds es : List PyData}, DVs K L H vs ds → DVs K L H ws es → DVs K L H (vs ++ ws) (ds ++ es)
  | _, _, _, _, .nil, h => h
  | _, _, _, _, .cons a t, h => .cons a (t.append h)
theorem DVs.take {K : PySem.W.Frag} {L : Addr → Prop} {H : Hp} : ∀ {vs : List V} {ds : List PyData} (n : Nat), DVs K L H vs ds → DVs K L H (vs.take n) (ds.take n)
  | _, _, 0, _ => .nil
  | _, _, _ + 1, .nil => .nil
  | _, _, n + 1, .cons a t => .cons a (t.take n)
theorem DVs.drop {K : PySem.W.Frag} {L : Addr → Prop} {H : Hp} : ∀ {vs : List V} {ds : List PyData} (n : Nat), DVs K L H vs ds → DVs K L H (vs.drop n) (ds.drop n)
  | _, _, 0, h => h
  | _, _, _ + 1, .nil => .nil
  | _, _, n + 1, .cons _ t => t.drop n
theorem app_len (x y : Str) : (x ++ y).length = x.length + y.length := by
  show (x.cps ++ y.cps).size = _
  rw [Array.size_append]
  rfl
/-- a value and what it is -/
def AVr (K : PySem.W.Frag) (Z As : List Addr) (S : Store) (H : Hp) (v : V) : AV → Prop
  | .d x => DV K (lv Z As S) H v x
  | .m k => ∃ a, v = .ref a ∧ As[k]? = some a
  | .v x => v = x
inductive AVs (K : PySem.W.Frag) (Z As : List Addr) (S : Store) (H : Hp) : List V → List AV → Prop
  | nil : AVs K Z As S H [] []
  | cons {v : V} {vs : List V} {a : AV} {as : List AV} : AVr K Z As S H v a → AVs K Z As S H vs as → AVs K Z As S H (v :: vs) (a :: as)
def MOr (K : PySem.W.Frag) (Z As : List Addr) (S : Store) (H : Hp) (a : Addr) : MO → Prop
  | .dead => True
  | .rng => ∃ x y : Int, H a = some (.lst [.int x, .int y]) ∧ 0 ≤ y ∧ y ≤ 2147483629
  | .lst xs => ∃ vs, H a = some (.lst vs) ∧ AVs K Z As S H vs xs
  | .dct kvs => ∃ ws : List (Key × V), H a = some (.dK ws) ∧ ws.map (·.1) = kvs.map (·.1) ∧ AVs K Z As S H (ws.map (·.2)) (kvs.map (·.2))
structure Rl (K : PySem.W.Frag) (Z As : List Addr) (S : Store) (H : Hp) : Prop where
  len : As.length = S.length
  inj : ∀ (i j : Nat) (a : Addr) (oi oj : MO), As[i]? = some a → As[j]? = some a → S[i]? = some oi → S[j]? = some oj → oi ≠ MO.dead → oj ≠ MO.dead → i = j
  at_ : ∀ (k : Nat) (a : Addr) (o : MO), As[k]? = some a → S[k]? = some o → MOr K Z As S H a o
  hz : ∀ b, b ∈ Z → H b ≠ none ∧ ∀ (k : Nat) (o : MO), As[k]? = some b → S[k]? = some o → o = MO.dead
structure Po (Z As : List Addr) (S : Store) (H : Hp) (As' : List Addr) (S' : Store) (H' : Hp) : Prop where
  ext : Ex (lv Z As S) H (lv Z As' S') H'
  hid : ∀ b, b ∈ Z → H' b = H b
  pre : ∃ l, As' = As ++ l
theorem Ex.refl {L : Addr → Prop} {H : Hp} : Ex L H L H := fun _ _ e n => ⟨n, e⟩
theorem Ex.trans {L L1 L2 : Addr → Prop} {H H1 H2 : Hp} (x : Ex L H L1 H1) (y : Ex L1 H1 L2 H2) : Ex L H L2 H2 := fun b o e n => by
  obtain ⟨n1, e1⟩ := x b o e n
  exact y b o e1 n1
section
variable {K : PySem.W.Frag} {Z As As' As2 : List Addr} {S S' S2 : Store} {H H' H2 : Hp} {v : V} {vs : List V} {a : AV} {as : List AV}
theorem Po.refl : Po Z As S H As S H := ⟨Ex.refl, fun _ _ => rfl, [], by simp⟩
theorem Po.trans (x : Po Z As S H As' S' H') (y : Po Z As' S' H' As2 S2 H2) : Po Z As S H As2 S2 H2 := by
  obtain ⟨l, e⟩ := x.pre
  obtain ⟨m, f⟩ := y.pre
  exact ⟨x.ext.trans y.ext, fun b hb => (y.hid b hb).trans (x.hid b hb), l ++ m, by rw [f, e, List.append_assoc]⟩
theorem pre_get {As As' : List Addr} {k : Nat} {x : Addr} (p : ∃ l, As' = As ++ l) (h : As[k]? = some x) : As'[k]? = some x := by
  obtain ⟨l, rfl⟩ := p
  have hk : k < As.length := by
    rcases Nat.lt_or_ge k As.length with z | z
    · exact z
    · rw [List.getElem?_eq_none z] at h; cases h
  rw [List.getElem?_append_left hk]
  exact h
theorem AVr.ex (e : Ex (lv Z As S) H (lv Z As' S') H') (p : ∃ l, As' = As ++ l) (h : AVr K Z As S H v a) : AVr K Z As' S' H' v a := by
  cases a with
  | d x => exact DV.ex e x v h
  | m k =>
    obtain ⟨b, e1, e2⟩ := h
    exact ⟨b, e1, pre_get p e2⟩
  | v x => exact h
theorem AVr.po (p : Po Z As S H As' S' H') (h : AVr K Z As S H v a) : AVr K Z As' S' H' v a := h.ex p.ext p.pre
theorem AVs.ex (e : Ex (lv Z As S) H (lv Z As' S') H') (p : ∃ l, As' = As ++ l) (h : AVs K Z As S H vs as) : AVs K Z As' S' H' vs as := by
  induction h with
  | nil => exact .nil
  | cons x _ ih => exact .cons (x.ex e p) ih
theorem AVs.po (p : Po Z As S H As' S' H') (h : AVs K Z As S H vs as) : AVs K Z As' S' H' vs as := h.ex p.ext p.pre
theorem AVs.length (h : AVs K Z As S H vs as) : vs.length = as.length := by
  induction h with
  | nil => rfl
  | cons _ _ ih => exact congrArg Nat.succ ih
theorem AVs.append {ws : List V} {bs : List AV} (h : AVs K Z As S H vs as) (g : AVs K Z As S H ws bs) : AVs K Z As S H (vs ++ ws) (as ++ bs) := by
  induction h with
  | nil => exact g
  | cons x _ ih => exact .cons x ih
theorem AVs.get {i : Nat} {x : AV} (h : AVs K Z As S H vs as) : as[i]? = some x → ∃ v, vs[i]? = some v ∧ AVr K Z As S H v x := by
  induction h generalizing i with
  | nil => intro e; simp at e
  | cons a t ih =>
    intro e
    cases i with
    | zero => exact ⟨_, rfl, by rw [← Option.some.inj e]; exact a⟩
    | succ i => exact ih (i := i) e
theorem AVs.of_d {ds : List PyData} (h : DVs K (lv Z As S) H vs ds) : AVs K Z As S H vs (ds.map AV.d) := by
  induction ds generalizing vs with
  | nil => cases h; exact .nil
  | cons d ds ih =>
    cases h with
    | cons a t => exact .cons a (ih t)
theorem AVs.to_d {ds : List PyData} (h : AVs K Z As S H vs (ds.map AV.d)) : DVs K (lv Z As S) H vs ds := by
  induction ds generalizing vs with
  | nil => cases h; exact .nil
  | cons d ds ih =>
    cases h with
    | cons a t => exact .cons a (ih t)
/-- a thing is tracked -/
theorem Rl.live (r : Rl K Z As S H) {b : Addr} (h : lv Z As S b) : H b ≠ none := by
  rcases h with h | ⟨k, o, h1, h2, h3⟩
  · exact (r.hz b h).1
  · have z := r.at_ k b o h1 h2
    cases o with
    | dead => exact absurd rfl h3
    | rng => obtain ⟨x, y, e, _⟩ := z; rw [e]; simp
    | lst xs => obtain ⟨vs, e, _⟩ := z; rw [e]; simp
    | dct kvs => obtain ⟨vs, e, _⟩ := z; rw [e]; simp
theorem Rl.notLive (r : Rl K Z As S H) {b : Addr} (h : H b = none) : ¬ lv Z As S b := fun z => r.live z h
theorem MOr.ex {b : Addr} {o : MO} (e : Ex (lv Z As S) H (lv Z As' S') H') (p : ∃ l, As' = As ++ l) (hb : H' b = H b) (h : MOr K Z As S H b o) : MOr K Z As' S' H' b o := by
  cases o with
  | dead => trivial
  | rng =>
    obtain ⟨x, y, e1, q⟩ := h
    exact ⟨x, y, hb.trans e1, q⟩
  | lst xs =>
    obtain ⟨vs, e1, q⟩ := h
    exact ⟨vs, hb.trans e1, q.ex e p⟩
  | dct kvs =>
    obtain ⟨vs, e1, q1, q⟩ := h
    exact ⟨vs, hb.trans e1, q1, q.ex e p⟩
/-- a new object that doesn't change -/
theorem Po.new (r : Rl K Z As S H) {p : Addr} {o : HO} (np : H p = none) : Po Z As S H As S (upd H p o) :=
  ⟨fun b u e n => ⟨n, by rw [upd_ne (ne_of_none e np)]; exact e⟩, fun b hb => upd_ne fun z => (r.hz b hb).1 (by rw [z]; exact np), [], by simp⟩
theorem Rl.new (r : Rl K Z As S H) {p : Addr} {o : HO} (np : H p = none) : Rl K Z As S (upd H p o) := by
  have po : Po Z As S H As S (upd H p o) := Po.new r np
  refine ⟨r.len, r.inj, fun k a u h1 h2 => ?_, fun b hb => ⟨?_, (r.hz b hb).2⟩⟩
  · cases u with
    | dead => trivial
    | rng => exact MOr.ex po.ext po.pre (upd_ne fun z => r.live (.inr ⟨k, .rng, h1, h2, by simp⟩) (by rw [z]; exact np)) (r.at_ k a _ h1 h2)
    | lst xs => exact MOr.ex po.ext po.pre (upd_ne fun z => r.live (.inr ⟨k, .lst xs, h1, h2, by simp⟩) (by rw [z]; exact np)) (r.at_ k a _ h1 h2)
    | dct xs => exact MOr.ex po.ext po.pre (upd_ne fun z => r.live (.inr ⟨k, .dct xs, h1, h2, by simp⟩) (by rw [z]; exact np)) (r.at_ k a _ h1 h2)
  · rw [po.hid b hb]
    exact (r.hz b hb).1
end
/-! ### slots -/
inductive Sl (K : PySem.W.Frag) (Z As : List Addr) (S : Store) (H : Hp) : L2.St → DEnv → Prop
  | nil : Sl K Z As S H [] []
  | none {x : Option V} {σ : L2.St} {env : DEnv} : Sl K Z As S H σ env → Sl K Z As S H (x :: σ) (Option.none :: env)
  | some {v : V} {a : AV} {σ : L2.St} {env : DEnv} : AVr K Z As S H v a → Sl K Z As S H σ env → Sl K Z As S H (Option.some v :: σ) (Option.some a :: env)
section
variable {K : PySem.W.Frag} {Z As As' : List Addr} {S S' : Store} {H H' : Hp} {σ : L2.St} {env : DEnv}
theorem Sl.ex (e : Ex (lv Z As S) H (lv Z As' S') H') (p : ∃ l, As' = As ++ l) (h : Sl K Z As S H σ env) : Sl K Z As' S' H' σ env := by
  induction h with
  | nil => exact .nil
  | none _ ih => exact .none ih
  | some a _ ih => exact .some (a.ex e p) ih
theorem Sl.po (p : Po Z As S H As' S' H') (h : Sl K Z As S H σ env) : Sl K Z As' S' H' σ env := h.ex p.ext p.pre
theorem Sl.get {i : Nat} {a : AV} (h : Sl K Z As S H σ env) : env[i]? = Option.some (Option.some a) → ∃ v, σ[i]? = Option.some (Option.some v) ∧ AVr K Z As S H v a := by
  induction h generalizing i with
  | nil => intro e; simp at e
  | none _ ih =>
    intro e
    cases i with
    | zero => simp at e
    | succ i => exact ih (i := i) e
  | some x _ ih =>
    intro e
    cases i with
    | zero =>
      have e' := Option.some.inj (Option.some.inj e)
      exact ⟨_, rfl, by rw [← e']; exact x⟩
    | succ i => exact ih (i := i) e
theorem Sl.set {i : Nat} {v : V} {a : AV} (h : Sl K Z As S H σ env) (r : AVr K Z As S H v a) : Sl K Z As S H (σ.set i (Option.some v)) (env.set i (Option.some a)) := by
  induction h generalizing i with
  | nil => exact .nil
  | none t ih =>
    cases i with
    | zero => exact .some r t
    | succ i => exact .none (ih (i := i))
  | some x t ih =>
    cases i with
    | zero => exact .some r t
    | succ i => exact .some x (ih (i := i))
theorem Sl.unset {i : Nat} {x : Option V} (h : Sl K Z As S H σ env) : Sl K Z As S H (σ.set i x) (env.set i Option.none) := by
  induction h generalizing i with
  | nil => exact .nil
  | none t ih =>
    cases i with
    | zero => exact .none t
    | succ i => exact .none (ih (i := i))
  | some x t ih =>
    cases i with
    | zero => exact .none t
    | succ i => exact .some x (ih (i := i))
def wipeE (env : DEnv) : List Nat → DEnv
  | [] => env
  | v :: vs => (wipeE env vs).set v none
theorem Sl.wipe (h : Sl K Z As S H σ env) : ∀ vs : List Nat, Sl K Z As S H (wipe σ vs) (wipeE env vs)
  | [] => h
  | v :: vs => (Sl.wipe h vs).unset
theorem Sl.start : ∀ {vs : List V} {as : List AV} (n : Nat), AVs K Z As S H vs as → Sl K Z As S H (vs.map Option.some ++ List.replicate n Option.none) (as.map Option.some ++ List.replicate n Option.none)
  | _, _, n, .nil => by
    induction n with
    | zero => exact .nil
    | succ n ih => rw [List.replicate_succ]; exact .none ih
  | _, _, n, .cons a t => .some a (Sl.start n t)
end
/-! ### readings -/
abbrev G := DEnv → Store → PQ → Prop
abbrev GT := DEnv → Store → (Bool → Store → Prop) → Prop
abbrev GA := DEnv → Store → (List AV → Store → Prop) → Prop
structure DE where
  nx : DEnv → Store → Prop
  rt : PQ
  bk : DEnv → Store → Prop
  ct : DEnv → Store → Prop
abbrev GS := DEnv → Store → DE → Prop
/-- what a way out wishes -/
def Kon (K : PySem.W.Frag) (Z As : List Addr) (S : Store) (H : Hp) (P : PQ) (Q : VK) : Prop := ∀ r S' As' v H', P r S' → Po Z As S H As' S' H' → Rl K Z As' S' H' → AVr K Z As' S' H' v r → Q v H'
def KonT (K : PySem.W.Frag) (Z As : List Addr) (S : Store) (H : Hp) (P : Bool → Store → Prop) (Q : Bool → Hp → Prop) : Prop := ∀ b S' As' H', P b S' → Po Z As S H As' S' H' → Rl K Z As' S' H' → Q b H'
def KonA (K : PySem.W.Frag) (Z As : List Addr) (S : Store) (H : Hp) (P : List AV → Store → Prop) (Q : List V → Hp → Prop) : Prop := ∀ rs S' As' vs H', P rs S' → Po Z As S H As' S' H' → Rl K Z As' S' H' → AVs K Z As' S' H' vs rs → Q vs H'
def KonS (K : PySem.W.Frag) (Z As : List Addr) (S : Store) (H : Hp) (P : DEnv → Store → Prop) (Q : L2.St → Hp → Prop) : Prop := ∀ env' S' As' σ' H', P env' S' → Po Z As S H As' S' H' → Rl K Z As' S' H' → Sl K Z As' S' H' σ' env' → Q σ' H'
def tD (K : PySem.W.Frag) (g : G) : TE := fun σ H Q => ∃ Z As S env P, Rl K Z As S H ∧ Sl K Z As S H σ env ∧ g env S P ∧ Kon K Z As S H P Q
def tDT (K : PySem.W.Frag) (g : GT) : TT := fun σ H Q => ∃ Z As S env P, Rl K Z As S H ∧ Sl K Z As S H σ env ∧ g env S P ∧ KonT K Z As S H P Q
def tDA (K : PySem.W.Frag) (g : GA) : TA := fun σ H Q => ∃ Z As S env P, Rl K Z As S H ∧ Sl K Z As S H σ env ∧ g env S P ∧ KonA K Z As S H P Q
def tDS (K : PySem.W.Frag) (g : GS) : TS := fun D σ H => ∃ Z As S env E, Rl K Z As S H ∧ Sl K Z As S H σ env ∧ g env S E ∧ KonS K Z As S H E.nx D.nx ∧ Kon K Z As S H E.rt D.rt ∧ KonS K Z As S H E.bk D.bk ∧ KonS K Z As S H E.ct D.ct
abbrev PD (X : Cx) (e : Expr) (g : G) : Prop := PE X e (tD X.K g)
abbrev PDT (X : Cx) (e : Expr) (g : GT) : Prop := PT X e (tDT X.K g)
abbrev PDA (X : Cx) (es : List Expr) (g : GA) : Prop := PA X es (tDA X.K g)
abbrev PDS (X : Cx) (st : Stmt) (g : GS) : Prop := PS X st (tDS X.K g)
abbrev PDSs (X : Cx) (st : List Stmt) (g : GS) : Prop := PSs X st (tDS X.K g)
section
variable {K : PySem.W.Frag} {Z As As' : List Addr} {S S' : Store} {H H' : Hp} {P : PQ} {Q : VK} {v : V} {a : AV}
theorem Kon.here (k : Kon K Z As S H P Q) (r : Rl K Z As S H) (h : AVr K Z As S H v a) (p : P a S) : Q v H := k a S As v H p Po.refl r h
theorem Kon.later (k : Kon K Z As S H P Q) (po : Po Z As S H As' S' H') : Kon K Z As' S' H' P Q := fun r S2 As2 v H2 p po2 rl av => k r S2 As2 v H2 p (po.trans po2) rl av
theorem KonT.later {P : Bool → Store → Prop} {Q : Bool → Hp → Prop} (k : KonT K Z As S H P Q) (po : Po Z As S H As' S' H') : KonT K Z As' S' H' P Q := fun r S2 As2 H2 p po2 rl => k r S2 As2 H2 p (po.trans po2) rl
theorem KonA.later {P : List AV → Store → Prop} {Q : List V → Hp → Prop} (k : KonA K Z As S H P Q) (po : Po Z As S H As' S' H') : KonA K Z As' S' H' P Q := fun r S2 As2 v H2 p po2 rl av => k r S2 As2 v H2 p (po.trans po2) rl av
theorem KonS.later {P : DEnv → Store → Prop} {Q : L2.St → Hp → Prop} (k : KonS K Z As S H P Q) (po : Po Z As S H As' S' H') : KonS K Z As' S' H' P Q := fun r S2 As2 v H2 p po2 rl av => k r S2 As2 v H2 p (po.trans po2) rl av
/-- a new tuple -/
theorem Kon.tup (k : Kon K Z As S H P Q) (r : Rl K Z As S H) {p : Addr} {vs : List V} {ds : List PyData} (np : H p = none) (h : DVs K (lv Z As S) H vs ds) (q : P (.d (.tuple ds)) S) : Q (.ref p) (upd H p (.tup vs)) := by
  have po : Po Z As S H As S (upd H p (.tup vs)) := Po.new r np
  exact k _ _ _ _ _ q po (r.new np) (DV.tup (r.notLive np) upd_same (DVs.ex po.ext _ _ h))
/-- a new list that nobody will change -/
theorem Kon.lst (k : Kon K Z As S H P Q) (r : Rl K Z As S H) {p : Addr} {vs : List V} {ds : List PyData} (np : H p = none) (h : DVs K (lv Z As S) H vs ds) (q : P (.d (.list ds)) S) : Q (.ref p) (upd H p (.lst vs)) := by
  have po : Po Z As S H As S (upd H p (.lst vs)) := Po.new r np
  exact k _ _ _ _ _ q po (r.new np) (DV.lst (r.notLive np) upd_same (DVs.ex po.ext _ _ h))
theorem Kon.dct (k : Kon K Z As S H P Q) (r : Rl K Z As S H) {p : Addr} (np : H p = none) (q : P (.d (.dict [])) S) : Q (.ref p) (upd H p (.dK [])) :=
  k _ _ _ _ _ q (Po.new r np) (r.new np) (DV.dct (r.notLive np) upd_same)
/-- a new thing that changes -/
theorem new_mut (r : Rl K Z As S H) {p : Addr} {u : HO} {o : MO} (np : H p = none) (no : o ≠ .dead) (h : ∀ {As' : List Addr} {S' : Store} {H' : Hp}, Ex (lv Z As S) H (lv Z As' S') H' → (∃ l, As' = As ++ l) → H' p = some u → MOr K Z As' S' H' p o) :
    Po Z As S H (As ++ [p]) (S ++ [o]) (upd H p u) ∧ Rl K Z (As ++ [p]) (S ++ [o]) (upd H p u) ∧ (As ++ [p])[S.length]? = some p := by
  have hl := r.len
  have lvE : ∀ b, lv Z (As ++ [p]) (S ++ [o]) b → lv Z As S b ∨ b = p := fun b hb => by
    rcases hb with hb | ⟨k, o', h1, h2, h3⟩
    · exact .inl (.inl hb)
    · rcases Nat.lt_or_ge k As.length with z | z
      · rw [List.getElem?_append_left z] at h1
        rw [List.getElem?_append_left (by omega)] at h2
        exact .inl (.inr ⟨k, o', h1, h2, h3⟩)
      · rw [List.getElem?_append_right z] at h1
        refine .inr ?_
        cases e : k - As.length with
        | zero => rw [e] at h1; exact (Option.some.inj h1).symm
        | succ m => rw [e] at h1; simp at h1
  have po : Po Z As S H (As ++ [p]) (S ++ [o]) (upd H p u) := by
    refine ⟨fun b x e n => ⟨fun z => ?_, by rw [upd_ne (ne_of_none e np)]; exact e⟩, fun b hb => upd_ne fun z => (r.hz b hb).1 (by rw [z]; exact np), [p], rfl⟩
    rcases lvE b z with z | z
    · exact n z
    · exact ne_of_none e np z
  have top : ∀ {k : Nat} {x : Addr} {y : MO}, (As ++ [p])[k]? = some x → (S ++ [o])[k]? = some y → (As[k]? = some x ∧ S[k]? = some y) ∨ (k = As.length ∧ x = p ∧ y = o) := fun {k x y} h1 h2 => by
    rcases Nat.lt_or_ge k As.length with z | z
    · rw [List.getElem?_append_left z] at h1
      rw [List.getElem?_append_left (by omega)] at h2
      exact .inl ⟨h1, h2⟩
    · rw [List.getElem?_append_right z] at h1
      rw [List.getElem?_append_right (by omega)] at h2
      rw [show k - S.length = k - As.length by omega] at h2
      cases e : k - As.length with
      | zero =>
        rw [e] at h1 h2
        exact .inr ⟨by omega, (Option.some.inj h1).symm, (Option.some.inj h2).symm⟩
      | succ m => rw [e] at h1; simp at h1
  refine ⟨po, ⟨by simp [hl], fun i j a oi oj h1 h2 h3 h4 h5 h6 => ?_, fun k a x h1 h2 => ?_, fun b hb => ⟨?_, fun k x h1 h2 => ?_⟩⟩, ?_⟩
  · rcases top h1 h3 with ⟨a1, a2⟩ | ⟨a1, a2, a3⟩
    · rcases top h2 h4 with ⟨b1, b2⟩ | ⟨b1, b2, b3⟩
      · exact r.inj i j a oi oj a1 b1 a2 b2 h5 h6
      · exact absurd np (r.live (.inr ⟨i, oi, by rw [← b2]; exact a1, a2, h5⟩))
    · rcases top h2 h4 with ⟨b1, b2⟩ | ⟨b1, b2, b3⟩
      · exact absurd np (r.live (.inr ⟨j, oj, by rw [← a2]; exact b1, b2, h6⟩))
      · omega
  · rcases top h1 h2 with ⟨a1, a2⟩ | ⟨a1, a2, a3⟩
    · by_cases hd : x = .dead
      · subst hd; trivial
      · exact MOr.ex po.ext po.pre (upd_ne fun z => r.live (.inr ⟨k, x, a1, a2, hd⟩) (by rw [z]; exact np)) (r.at_ k a x a1 a2)
    · subst a2 a3
      exact h po.ext po.pre upd_same
  · rw [po.hid b hb]; exact (r.hz b hb).1
  · rcases top h1 h2 with ⟨a1, a2⟩ | ⟨a1, a2, a3⟩
    · exact (r.hz b hb).2 k x a1 a2
    · exact absurd np (by rw [← a2]; exact (r.hz b hb).1)
  · rw [← hl, List.getElem?_append_right (Nat.le_refl _)]
    simp
theorem Kon.lstM (k : Kon K Z As S H P Q) (r : Rl K Z As S H) {p : Addr} {vs : List V} {as : List AV} (np : H p = none) (h : AVs K Z As S H vs as) (q : P (.m S.length) (S ++ [.lst as])) : Q (.ref p) (upd H p (.lst vs)) := by
  obtain ⟨po, rl, e⟩ := new_mut (u := .lst vs) (o := .lst as) r np (by simp) fun ex pr e => ⟨vs, e, h.ex ex pr⟩
  exact k _ _ _ _ _ q po rl ⟨p, rfl, e⟩
/-- a thing changes -/
theorem put_mut (r : Rl K Z As S H) {p : Addr} {u : HO} {k : Nat} {o o' : MO} (hA : As[k]? = some p) (hS : S[k]? = some o) (no : o ≠ .dead) (no' : o' ≠ .dead)
    (h : ∀ {S' : Store} {H' : Hp}, Ex (lv Z As S) H (lv Z As S') H' → H' p = some u → MOr K Z As S' H' p o') : Po Z As S H As (S.set k o') (upd H p u) ∧ Rl K Z As (S.set k o') (upd H p u) := by
  have hk : k < S.length := by
    rcases Nat.lt_or_ge k S.length with z | z
    · exact z
    · rw [List.getElem?_eq_none z] at hS; cases hS
  have at' : ∀ {j : Nat} {y : MO}, (S.set k o')[j]? = some y → (j = k ∧ y = o') ∨ (j ≠ k ∧ S[j]? = some y) := fun {j y} e => by
    by_cases hj : k = j
    · subst hj
      rw [List.getElem?_set_self hk] at e
      exact .inl ⟨rfl, (Option.some.inj e).symm⟩
    · rw [List.getElem?_set_ne hj] at e
      exact .inr ⟨fun z => hj z.symm, e⟩
  have live : ∀ b, lv Z As (S.set k o') b → lv Z As S b := fun b hb => by
    rcases hb with hb | ⟨j, x, h1, h2, h3⟩
    · exact .inl hb
    · rcases at' h2 with ⟨rfl, rfl⟩ | ⟨_, h2⟩
      · exact .inr ⟨j, o, h1, hS, no⟩
      · exact .inr ⟨j, x, h1, h2, h3⟩
  have lp : lv Z As S p := .inr ⟨k, o, hA, hS, no⟩
  have np : p ∉ Z := fun z => no ((r.hz p z).2 k o hA hS)
  have po : Po Z As S H As (S.set k o') (upd H p u) :=
    ⟨fun b x e n => ⟨fun z => n (live b z), by rw [upd_ne fun z => n (by rw [z]; exact lp)]; exact e⟩, fun b hb => upd_ne fun z => np (by rw [← z]; exact hb), [], by simp⟩
  refine ⟨po, ⟨by simp [r.len], fun i j a oi oj h1 h2 h3 h4 h5 h6 => ?_, fun j a x h1 h2 => ?_, fun b hb => ⟨?_, fun j x h1 h2 => ?_⟩⟩⟩
  · have f : ∀ {i : Nat} {oi : MO}, (S.set k o')[i]? = some oi → oi ≠ .dead → ∃ q, S[i]? = some q ∧ q ≠ .dead := fun {i oi} e n => by
      rcases at' e with ⟨rfl, rfl⟩ | ⟨_, e⟩
      · exact ⟨o, hS, no⟩
      · exact ⟨oi, e, n⟩
    obtain ⟨q1, e1, n1⟩ := f h3 h5
    obtain ⟨q2, e2, n2⟩ := f h4 h6
    exact r.inj i j a q1 q2 h1 h2 e1 e2 n1 n2
  · rcases at' h2 with ⟨rfl, rfl⟩ | ⟨n, h2⟩
    · rw [hA] at h1
      cases h1
      exact h po.ext upd_same
    · by_cases hd : x = .dead
      · subst hd; trivial
      · refine MOr.ex po.ext po.pre (upd_ne fun z => n ?_) (r.at_ j a x h1 h2)
        subst z
        exact r.inj j k a x o h1 hA h2 hS hd no
  · rw [po.hid b hb]; exact (r.hz b hb).1
  · rcases at' h2 with ⟨rfl, rfl⟩ | ⟨n, h2⟩
    · exact absurd ((r.hz b hb).2 j o h1 hS) no
    · exact (r.hz b hb).2 j x h1 h2
/-- a list is left as data -/
theorem freeze (r : Rl K Z As S H) {k : Nat} {ds : List PyData} (hS : S[k]? = some (.lst (ds.map .d))) : Po Z As S H As (S.set k .dead) H ∧ Rl K Z As (S.set k .dead) H ∧ ∀ v, AVr K Z As S H v (.m k) → AVr K Z As (S.set k .dead) H v (.d (.list ds)) := by
  have hk : k < S.length := by
    rcases Nat.lt_or_ge k S.length with z | z
    · exact z
    · rw [List.getElem?_eq_none z] at hS; cases hS
  have at' : ∀ {j : Nat} {y : MO}, (S.set k .dead)[j]? = some y → (j = k ∧ y = .dead) ∨ (j ≠ k ∧ S[j]? = some y) := fun {j y} e => by
    by_cases hj : k = j
    · subst hj
      rw [List.getElem?_set_self hk] at e
      exact .inl ⟨rfl, (Option.some.inj e).symm⟩
    · rw [List.getElem?_set_ne hj] at e
      exact .inr ⟨fun z => hj z.symm, e⟩
  have live : ∀ b, lv Z As (S.set k .dead) b → lv Z As S b := fun b hb => by
    rcases hb with hb | ⟨j, x, h1, h2, h3⟩
    · exact .inl hb
    · rcases at' h2 with ⟨rfl, rfl⟩ | ⟨_, h2⟩
      · exact absurd rfl h3
      · exact .inr ⟨j, x, h1, h2, h3⟩
  have po : Po Z As S H As (S.set k .dead) H := ⟨fun b x e n => ⟨fun z => n (live b z), e⟩, fun _ _ => rfl, [], by simp⟩
  refine ⟨po, ⟨by simp [r.len], fun i j a oi oj h1 h2 h3 h4 h5 h6 => ?_, fun j a x h1 h2 => ?_, fun b hb => ⟨(r.hz b hb).1, fun j x h1 h2 => ?_⟩⟩, fun v hv => ?_⟩
  · rcases at' h3 with ⟨_, rfl⟩ | ⟨_, h3⟩
    · exact absurd rfl h5
    · rcases at' h4 with ⟨_, rfl⟩ | ⟨_, h4⟩
      · exact absurd rfl h6
      · exact r.inj i j a oi oj h1 h2 h3 h4 h5 h6
  · rcases at' h2 with ⟨rfl, rfl⟩ | ⟨n, h2⟩
    · trivial
    · exact MOr.ex po.ext po.pre rfl (r.at_ j a x h1 h2)
  · rcases at' h2 with ⟨rfl, rfl⟩ | ⟨n, h2⟩
    · rfl
    · exact (r.hz b hb).2 j x h1 h2
  · obtain ⟨a, rfl, hA⟩ := hv
    obtain ⟨vs, e, q⟩ := (show ∃ vs, H a = some (.lst vs) ∧ AVs K Z As S H vs (ds.map .d) from r.at_ k a _ hA hS)
    refine DV.lst (fun z => ?_) e (DVs.ex po.ext _ _ q.to_d)
    rcases z with z | ⟨j, x, h1, h2, h3⟩
    · have := (r.hz a z).2 k _ hA hS
      cases this
    · rcases at' h2 with ⟨rfl, rfl⟩ | ⟨n, h2⟩
      · exact h3 rfl
      · exact n (r.inj j k a x _ h1 hA h2 hS h3 (by simp))
end
end DL
/-! expressions -/
namespace DL
open PySem PySem.Spec PyProof.Rows L2
/-! ### views -/
def dats : List AV → Option (List PyData)
  | [] => some []
  | .d x :: r => (dats r).map (x :: ·)
  | _ :: _ => none
/-- what is read of a value as data -/
def vw (S : Store) : AV → Option PyData
  | .d x => some x
  | .m k => match S[k]? with
    | some (.lst xs) => (dats xs).map .list
    | _ => none
  | .v _ => none
theorem dats_map (ds : List PyData) : dats (ds.map .d) = some ds := by
  induction ds with
  | nil => rfl
  | cons d ds ih => show (dats (ds.map .d)).map _ = _; rw [ih]; rfl
theorem dats_eq : ∀ {xs : List AV} {ds : List PyData}, dats xs = some ds → xs = ds.map .d
  | [], ds, h => by cases h; rfl
  | .d x :: r, ds, h => by
    obtain ⟨es, e1, rfl⟩ := Option.map_eq_some_iff.mp (show (dats r).map (x :: ·) = some ds from h)
    rw [dats_eq e1]
    rfl
  | .m _ :: _, _, h => by cases h
  | .v _ :: _, _, h => by cases h
section
variable {K : PySem.W.Frag} {Z As : List Addr} {S : Store} {H : Hp} {v : V} {a : AV}
theorem vw_m {k : Nat} {d : PyData} (h : vw S (.m k) = some d) : ∃ ds, d = .list ds ∧ S[k]? = some (.lst (ds.map .d)) := by
  have h' : (match S[k]? with
    | some (.lst xs) => (dats xs).map .list
    | _ => none) = some d := h
  split at h'
  · rename_i xs e
    obtain ⟨ds, e1, rfl⟩ := Option.map_eq_some_iff.mp h'
    exact ⟨ds, rfl, by rw [e, dats_eq e1]⟩
  · cases h'
theorem vw_list (r : Rl K Z As S H) (h : AVr K Z As S H v a) {ds : List PyData} (e : vw S a = some (.list ds)) : ∃ p vs, v = .ref p ∧ H p = some (.lst vs) ∧ DVs K (lv Z As S) H vs ds := by
  cases a with
  | d x =>
    cases e
    cases h with
    | lst n e1 t => exact ⟨_, _, rfl, e1, t⟩
  | m k =>
    obtain ⟨es, e1, e2⟩ := vw_m e
    cases e1
    obtain ⟨p, rfl, hA⟩ := h
    obtain ⟨vs, e3, q⟩ := (show ∃ vs, H p = some (.lst vs) ∧ AVs K Z As S H vs (ds.map .d) from r.at_ k p _ hA e2)
    exact ⟨p, vs, rfl, e3, q.to_d⟩
  | v x => cases e
theorem sqt_up {K : PySem.W.Frag} {H : Hp} {a : Addr} {xs : List V} (h : SqT K (fun _ => none) a xs) : SqT K H a xs := by
  rcases h with (h | ⟨o, h⟩) | h
  · cases h
  · cases h
  · exact .inr h
theorem dv_tup {L : Addr → Prop} {ds : List PyData} (h : DV K L H v (.tuple ds)) : ∃ p vs, v = .ref p ∧ SqT K H p vs ∧ DVs K L H vs ds := by
  cases h with
  | tup n e t => exact ⟨_, _, rfl, .inl (.inl e), t⟩
  | tupK e t => exact ⟨_, _, rfl, sqt_up e, t⟩
theorem vw_tup (h : AVr K Z As S H v a) {ds : List PyData} (e : vw S a = some (.tuple ds)) : ∃ p vs, v = .ref p ∧ SqT K H p vs ∧ DVs K (lv Z As S) H vs ds := by
  cases a with
  | d x => cases e; exact dv_tup h
  | m k =>
    obtain ⟨es, e1, e2⟩ := vw_m e
    cases e1
  | v x => cases e
theorem vw_int (h : AVr K Z As S H v a) {i : Int} (e : vw S a = some (.int i)) : v = .int i := by
  cases a with
  | d x => cases e; cases h; rfl
  | m k =>
    obtain ⟨es, e1, e2⟩ := vw_m e
    cases e1
  | v x => cases e
theorem vw_str (h : AVr K Z As S H v a) {i : Str} (e : vw S a = some (.str i)) : v = .str i := by
  cases a with
  | d x => cases e; cases h; rfl
  | m k =>
    obtain ⟨es, e1, e2⟩ := vw_m e
    cases e1
  | v x => cases e
theorem vw_bool (h : AVr K Z As S H v a) {i : Bool} (e : vw S a = some (.bool i)) : v = .bl i := by
  cases a with
  | d x => cases e; cases h; rfl
  | m k =>
    obtain ⟨es, e1, e2⟩ := vw_m e
    cases e1
  | v x => cases e
theorem vw_none (h : AVr K Z As S H v a) (e : vw S a = some .none) : v = .non := by
  cases a with
  | d x => cases e; cases h; rfl
  | m k =>
    obtain ⟨es, e1, e2⟩ := vw_m e
    cases e1
  | v x => cases e
theorem d_bool {c : Bool} (h : AVr K Z As S H v (.d (.bool c))) : v = .bl c := by cases h; rfl
/-- with nothing live: for reading alone -/
theorem DV.any {L : Addr → Prop} {x : PyData} (h : DV K L H v x) : DV K (fun _ => False) H v x := DV.ex (fun _ _ e _ => ⟨fun z => z, e⟩) x v h
theorem vw_any (r : Rl K Z As S H) (h : AVr K Z As S H v a) {x : PyData} (e : vw S a = some x) : DV K (fun _ => False) H v x := by
  cases a with
  | d y => cases e; exact DV.any h
  | m k =>
    obtain ⟨ds, rfl, e2⟩ := vw_m e
    obtain ⟨p, vs, rfl, e3, t⟩ := vw_list r h e
    exact .lst (fun z => z) e3 (DVs.ex (fun _ _ e _ => ⟨fun z => z, e⟩) _ _ t)
  | v y => cases e
end
/-! ### weakening -/
section
variable {X : Cx}
theorem PEwk {e : Expr} {t t' : TE} (h : PE X e t) (w : ∀ σ H Q, t' σ H Q → t σ H Q) : PE X e t' := ⟨fun pins s σ H Q I hw => h.run pins s σ H Q I (w σ H Q hw)⟩
theorem PTwk {e : Expr} {t t' : TT} (h : PT X e t) (w : ∀ σ H Q, t' σ H Q → t σ H Q) : PT X e t' := ⟨fun pins s σ H Q I hw => h.run pins s σ H Q I (w σ H Q hw)⟩
theorem PWwk {e : Expr} {t t' : TT} (h : PW X e t) (w : ∀ σ H Q, t' σ H Q → t σ H Q) : PW X e t' := ⟨fun wh pins s σ H Q I hw => h.run wh pins s σ H Q I (w σ H Q hw)⟩
theorem PAwk {es : List Expr} {t t' : TA} (h : PA X es t) (w : ∀ σ H Q, t' σ H Q → t σ H Q) : PA X es t' := ⟨fun pos pins s σ H Q I hw => h.run pos pins s σ H Q I (w σ H Q hw)⟩
theorem PSwk {st : Stmt} {t t' : TS} (h : PS X st t) (w : ∀ D σ H, t' D σ H → t D σ H) : PS X st t' := ⟨fun pins s σ H D I hw => h.run pins s σ H D I (w D σ H hw)⟩
theorem PSswk {st : List Stmt} {t t' : TS} (h : PSs X st t) (w : ∀ D σ H, t' D σ H → t D σ H) : PSs X st t' := ⟨fun pins s σ H D I hw => h.run pins s σ H D I (w D σ H hw)⟩
end
abbrev PDW (X : Cx) (e : Expr) (g : GT) : Prop := PW X e (tDT X.K g)
/-! ### forms of readings -/
def gBin (R : AV → AV → Store → PQ → Prop) (g1 g2 : G) : G := fun env S P => g1 env S fun a S1 => g2 env S1 fun b S2 => R a b S2 P
def gUn (R : AV → Store → PQ → Prop) (g1 : G) : G := fun env S P => g1 env S fun a S1 => R a S1 P
def gNil : GA := fun _ S P => P [] S
def gCons (g : G) (ga : GA) : GA := fun env S P => g env S fun a S1 => ga env S1 fun as S2 => P (a :: as) S2
def gApp (R : List AV → Store → PQ → Prop) (ga : GA) : G := fun env S P => ga env S fun as S1 => R as S1 P
def gC (x : PyData) : G := fun _ S P => P (.d x) S
def gV (x : V) : G := fun _ S P => P (.v x) S
def gVar (i : Nat) : G := fun env S P => match env[i]? with
  | some (some a) => P a S
  | _ => False
def onB (a : AV) (k : Bool → Prop) : Prop := match a with
  | .d (.bool c) => k c
  | _ => False
def gTest (g : G) : GT := fun env S P => g env S fun a S1 => onB a fun c => P c S1
def gAnd (g1 g2 : GT) : GT := fun env S P => g1 env S fun c S1 => cond c (g2 env S1 P) (P false S1)
def gOr (g1 g2 : GT) : GT := fun env S P => g1 env S fun c S1 => cond c (P true S1) (g2 env S1 P)
def gNot (g1 : GT) : GT := fun env S P => g1 env S fun c S1 => P (!c) S1
def gVal (g : GT) : G := fun env S P => g env S fun c S1 => P (.d (.bool c)) S1
def gIfE (t : GT) (g1 g2 : G) : G := fun env S P => t env S fun c S1 => cond c (g1 env S1 P) (g2 env S1 P)
def VR2 (K : PySem.W.Frag) (r : R2) (R : AV → AV → Store → PQ → Prop) : Prop := ∀ Z As S H x y a b P Q, Rl K Z As S H → AVr K Z As S H x a → AVr K Z As S H y b → R a b S P → Kon K Z As S H P Q → r x y H Q
def VRn (K : PySem.W.Frag) (r : List V → Hp → VK → Prop) (R : List AV → Store → PQ → Prop) : Prop := ∀ Z As S H xs as P Q, Rl K Z As S H → AVs K Z As S H xs as → R as S P → Kon K Z As S H P Q → r xs H Q
section
variable {K : PySem.W.Frag}
theorem bin_wk {r : R2} {R : AV → AV → Store → PQ → Prop} {g1 g2 : G} (hr : VR2 K r R) (σ : L2.St) (H : Hp) (Q : VK) (h : tD K (gBin R g1 g2) σ H Q) : tOp r (tD K g1) (tD K g2) σ H Q := by
  obtain ⟨Z, As, S, env, P, rl, sl, hg, hQ⟩ := h
  refine ⟨Z, As, S, env, _, rl, sl, hg, fun a S1 As1 x H1 h1 po1 rl1 av1 => ?_⟩
  refine ⟨Z, As1, S1, env, _, rl1, sl.po po1, h1, fun b S2 As2 y H2 h2 po2 rl2 av2 => ?_⟩
  exact hr Z As2 S2 H2 x y a b P Q rl2 (av1.po po2) av2 h2 (hQ.later (po1.trans po2))
theorem nil_wk (σ : L2.St) (H : Hp) (Q : List V → Hp → Prop) (h : tDA K gNil σ H Q) : tNil σ H Q := by
  obtain ⟨Z, As, S, env, P, rl, sl, hg, hQ⟩ := h
  exact hQ [] S As [] H hg Po.refl rl .nil
theorem cons_wk {g : G} {ga : GA} (σ : L2.St) (H : Hp) (Q : List V → Hp → Prop) (h : tDA K (gCons g ga) σ H Q) : tCons (tD K g) (tDA K ga) σ H Q := by
  obtain ⟨Z, As, S, env, P, rl, sl, hg, hQ⟩ := h
  refine ⟨Z, As, S, env, _, rl, sl, hg, fun a S1 As1 x H1 h1 po1 rl1 av1 => ?_⟩
  refine ⟨Z, As1, S1, env, _, rl1, sl.po po1, h1, fun as S2 As2 xs H2 h2 po2 rl2 av2 => ?_⟩
  exact hQ _ _ _ _ _ h2 (po1.trans po2) rl2 (.cons (av1.po po2) av2)
theorem app_wk {r : List V → Hp → VK → Prop} {R : List AV → Store → PQ → Prop} {ga : GA} (hr : VRn K r R) (σ : L2.St) (H : Hp) (Q : VK) (h : tD K (gApp R ga) σ H Q) : tCB r (tDA K ga) σ H Q := by
  obtain ⟨Z, As, S, env, P, rl, sl, hg, hQ⟩ := h
  refine ⟨Z, As, S, env, _, rl, sl, hg, fun as S1 As1 xs H1 h1 po1 rl1 av1 => ?_⟩
  exact hr Z As1 S1 H1 xs as P Q rl1 av1 h1 (hQ.later po1)
end
section
variable {X : Cx} {a b c e : Expr} {es : List Expr} {g g1 g2 g3 : G} {gt gt1 gt2 : GT} {ga : GA} {pos p : Pos}
theorem pd_var {i : Nat} {x : Str} (hN : X.N[i]? = some x) (hv : Vis X.env.scope x) (hd : (x == ("__debug__" : Str)) = false := by decide) (hcd : (x == ("__classdict__" : Str)) = false := by decide) : PD X (.Name x pos) (gVar i) := by
  refine PEwk (pe_var (i := i) hN hv hd hcd) fun σ H Q h => ?_
  obtain ⟨Z, As, S, env, P, rl, sl, hg, hQ⟩ := h
  unfold gVar at hg
  split at hg
  · rename_i a0 e0
    obtain ⟨v, e1, r⟩ := sl.get e0
    exact ⟨v, e1, hQ.here rl r hg⟩
  · exact hg.elim
theorem c_wk {K : PySem.W.Frag} {v : V} {x : PyData} (hx : ∀ L H, DV K L H v x) (σ : L2.St) (H : Hp) (Q : VK) (h : tD K (gC x) σ H Q) : tC v σ H Q := by
  obtain ⟨Z, As, S, env, P, rl, sl, hg, hQ⟩ := h
  exact hQ.here rl (a := .d x) (hx _ _) hg
theorem pd_int {i : Int} {j} : PD X (.Constant (.int i) j pos) (gC (.int i)) := PEwk pe_int (c_wk fun _ _ => .int i)
theorem pd_bl {i : Bool} {j} : PD X (.Constant (.bool i) j pos) (gC (.bool i)) := PEwk pe_bl (c_wk fun _ _ => .bl i)
theorem pd_non {j} : PD X (.Constant .none j pos) (gC .none) := PEwk pe_non (c_wk fun _ _ => .non)
theorem pd_str {i : Str} {j} (hz : i.length ≤ sizeLine := by decide +kernel) : PD X (.Constant (.str i) j pos) (gC (.str i)) := PEwk pe_str (c_wk fun _ _ => .str i hz)
theorem pd_tC {v : V} {x : PyData} (h : PE X e (tC v)) (hx : ∀ L H, DV X.K L H v x) : PD X e (gC x) := PEwk h (c_wk hx)
theorem pd_tV {v : V} (h : PE X e (tC v)) : PD X e (gV v) := PEwk h fun σ H Q h => by
  obtain ⟨Z, As, S, env, P, rl, sl, hg, hQ⟩ := h
  exact hQ.here rl (a := .v v) rfl hg
theorem pda_nil : PDA X [] gNil := PAwk pa_nil nil_wk
theorem pda_cons (h : PD X e g) (ha : PDA X es ga) (hs : starEach (e :: es) X.env = (false, eval e X.env) :: starEach es X.env := by rfl) : PDA X (e :: es) (gCons g ga) := PAwk (pa_cons h ha hs) cons_wk
theorem pd_op {op : Operator} {r : R2} {R : AV → AV → Store → PQ → Prop} (ho : OpR X (binaryOp op) r) (hr : VR2 X.K r R) (h1 : PD X a g1) (h2 : PD X b g2) : PD X (.BinOp a op b pos) (gBin R g1 g2) := PEwk (pe_op ho h1 h2) (bin_wk hr)
theorem pd_cmp {op : CmpOp} {r : R2} {R : AV → AV → Store → PQ → Prop} (ho : OpR X (compareOp op) r) (hr : VR2 X.K r R) (h1 : PD X a g1) (h2 : PD X b g2) (hm : behindInMarks op b = false) : PD X (.Compare a [op] [b] pos) (gBin R g1 g2) := PEwk (pe_cmpR ho h1 h2 hm) (bin_wk hr)
theorem test_wk {K : PySem.W.Frag} {g : G} {t : TE} (w : ∀ σ H Q, tD K g σ H Q → t σ H Q) (σ : L2.St) (H : Hp) (Q : Bool → Hp → Prop) (h : tDT K (gTest g) σ H Q) : tTest t σ H Q := by
  obtain ⟨Z, As, S, env, P, rl, sl, hg, hQ⟩ := h
  refine w σ H _ ⟨Z, As, S, env, _, rl, sl, hg, fun r S1 As1 v H1 h1 po1 rl1 av1 => ?_⟩
  match r, h1, av1 with
  | .d (.bool c), h1, av1 => exact ⟨c, d_bool av1, hQ c S1 As1 H1 h1 po1 rl1⟩
theorem pdt_cmp {op : CmpOp} {r : R2} {R : AV → AV → Store → PQ → Prop} (ho : OpR X (compareOp op) r) (hr : VR2 X.K r R) (h1 : PD X a g1) (h2 : PD X b g2) (hm : behindInMarks op b = false) : PDT X (.Compare a [op] [b] pos) (gTest (gBin R g1 g2)) :=
  PTwk (pt_cmpR ho h1 h2 hm) (test_wk (bin_wk hr))
/-- a call, a name, an attribute as a test -/
theorem pdt_val (h : PD X e g) (he : ∀ whole, isTrue e X.env whole = (do let v ← whole; standAt e.pos; holding [v] (truthy v)) := by intro _; rfl) : PDT X e (gTest g) :=
  PTwk (pt_val h he) (test_wk (t := tD X.K g) fun _ _ _ h => h)
theorem pdt_w (h : PDW X e gt) : PDT X e gt := h.pt
theorem pdw_one {op} (h : PDT X a gt) (ho : op = .And ∨ op = .Or) : PDW X (.BoolOp op [a] pos) gt := by
  rcases ho with rfl | rfl
  · exact pw_and1 h
  · exact pw_or1 h
theorem pdw_and1 (h : PDT X a gt) : PDW X (.BoolOp .And [a] pos) gt := pw_and1 h
theorem pdw_or1 (h : PDT X a gt) : PDW X (.BoolOp .Or [a] pos) gt := pw_or1 h
theorem pdw_and (h1 : PDT X a gt1) (h2 : PDW X (.BoolOp .And (b :: es) pos) gt2) : PDW X (.BoolOp .And (a :: b :: es) pos) (gAnd gt1 gt2) := by
  refine PWwk (pw_and h1 h2) fun σ H Q h => ?_
  obtain ⟨Z, As, S, env, P, rl, sl, hg, hQ⟩ := h
  refine ⟨Z, As, S, env, _, rl, sl, hg, fun c S1 As1 H1 h1 po1 rl1 => ?_⟩
  cases c with
  | true => exact ⟨Z, As1, S1, env, P, rl1, sl.po po1, h1, hQ.later po1⟩
  | false => exact hQ false S1 As1 H1 h1 po1 rl1
theorem pdw_or (h1 : PDT X a gt1) (h2 : PDW X (.BoolOp .Or (b :: es) pos) gt2) : PDW X (.BoolOp .Or (a :: b :: es) pos) (gOr gt1 gt2) := by
  refine PWwk (pw_or h1 h2) fun σ H Q h => ?_
  obtain ⟨Z, As, S, env, P, rl, sl, hg, hQ⟩ := h
  refine ⟨Z, As, S, env, _, rl, sl, hg, fun c S1 As1 H1 h1 po1 rl1 => ?_⟩
  cases c with
  | false => exact ⟨Z, As1, S1, env, P, rl1, sl.po po1, h1, hQ.later po1⟩
  | true => exact hQ true S1 As1 H1 h1 po1 rl1
theorem pdt_not (h : PDT X a gt) : PDT X (.UnaryOp .Not a pos) (gNot gt) := by
  refine PTwk (pt_not h) fun σ H Q h => ?_
  obtain ⟨Z, As, S, env, P, rl, sl, hg, hQ⟩ := h
  exact ⟨Z, As, S, env, _, rl, sl, hg, fun c S1 As1 H1 h1 po1 rl1 => hQ (!c) S1 As1 H1 h1 po1 rl1⟩
/-- and, or, not as values -/
theorem pd_one {op} (h : PD X a g) : PD X (.BoolOp op [a] pos) g := pe_one h
theorem pd_and (h1 : PD X a g1) (h2 : PD X (.BoolOp .And (b :: es) pos) g2) : PD X (.BoolOp .And (a :: b :: es) pos) (fun env S P => gTest g1 env S fun c S1 => cond c (g2 env S1 P) (P (.d (.bool false)) S1)) := by
  refine PEwk (pe_and h1 h2) fun σ H Q h => ?_
  obtain ⟨Z, As, S, env, P, rl, sl, hg, hQ⟩ := h
  refine ⟨Z, As, S, env, _, rl, sl, hg, fun r S1 As1 v H1 h1 po1 rl1 av1 => ?_⟩
  match r, h1, av1 with
  | .d (.bool true), h1, av1 => exact ⟨true, d_bool av1, ⟨Z, As1, S1, env, P, rl1, sl.po po1, h1, hQ.later po1⟩⟩
  | .d (.bool false), h1, av1 => exact ⟨false, d_bool av1, hQ (.d (.bool false)) S1 As1 (.bl false) H1 h1 po1 rl1 (.bl false)⟩
theorem pd_or (h1 : PD X a g1) (h2 : PD X (.BoolOp .Or (b :: es) pos) g2) : PD X (.BoolOp .Or (a :: b :: es) pos) (fun env S P => gTest g1 env S fun c S1 => cond c (P (.d (.bool true)) S1) (g2 env S1 P)) := by
  refine PEwk (pe_or h1 h2) fun σ H Q h => ?_
  obtain ⟨Z, As, S, env, P, rl, sl, hg, hQ⟩ := h
  refine ⟨Z, As, S, env, _, rl, sl, hg, fun r S1 As1 v H1 h1 po1 rl1 av1 => ?_⟩
  match r, h1, av1 with
  | .d (.bool false), h1, av1 => exact ⟨false, d_bool av1, ⟨Z, As1, S1, env, P, rl1, sl.po po1, h1, hQ.later po1⟩⟩
  | .d (.bool true), h1, av1 => exact ⟨true, d_bool av1, hQ (.d (.bool true)) S1 As1 (.bl true) H1 h1 po1 rl1 (.bl true)⟩
theorem pd_not (h : PD X a g) : PD X (.UnaryOp .Not a pos) (gVal (gNot (gTest g))) := by
  refine PEwk (pe_not h) fun σ H Q h => ?_
  obtain ⟨Z, As, S, env, P, rl, sl, hg, hQ⟩ := h
  refine ⟨Z, As, S, env, _, rl, sl, hg, fun r S1 As1 v H1 h1 po1 rl1 av1 => ?_⟩
  match r, h1, av1 with
  | .d (.bool c), h1, av1 => exact ⟨c, d_bool av1, hQ (.d (.bool (!c))) S1 As1 (.bl (!c)) H1 h1 po1 rl1 (.bl _)⟩
theorem pd_ife (hc : PDT X c gt) (h1 : PD X a g1) (h2 : PD X b g2) : PD X (.IfExp c a b pos) (gIfE gt g1 g2) := by
  refine PEwk (pe_ifExp hc h1 h2) fun σ H Q h => ?_
  obtain ⟨Z, As, S, env, P, rl, sl, hg, hQ⟩ := h
  refine ⟨Z, As, S, env, _, rl, sl, hg, fun c S1 As1 H1 h1 po1 rl1 => ?_⟩
  cases c with
  | true => exact ⟨Z, As1, S1, env, P, rl1, sl.po po1, h1, hQ.later po1⟩
  | false => exact ⟨Z, As1, S1, env, P, rl1, sl.po po1, h1, hQ.later po1⟩
/-- a <= b <= c -/
def gChain (R R' : AV → AV → Store → PQ → Prop) (g1 g2 g3 : G) : G := fun env S P => g1 env S fun a S1 => g2 env S1 fun b S2 => R a b S2 fun r S3 => onB r fun c => cond c (g3 env S3 fun c S4 => R' b c S4 P) (P (.d (.bool false)) S3)
theorem chain_wk {K : PySem.W.Frag} {r r' : R2} {R R' : AV → AV → Store → PQ → Prop} (hr : VR2 K r R) (hr' : VR2 K r' R') (σ : L2.St) (H : Hp) (Q : VK) (h : tD K (gChain R R' g1 g2 g3) σ H Q) : tChain r r' (tD K g1) (tD K g2) (tD K g3) σ H Q := by
  obtain ⟨Z, As, S, env, P, rl, sl, hg, hQ⟩ := h
  refine ⟨Z, As, S, env, _, rl, sl, hg, fun a S1 As1 x H1 h1 po1 rl1 av1 => ?_⟩
  refine ⟨Z, As1, S1, env, _, rl1, sl.po po1, h1, fun b S2 As2 y H2 h2 po2 rl2 av2 => ?_⟩
  refine hr Z As2 S2 H2 x y a b _ _ rl2 (av1.po po2) av2 h2 fun r S3 As3 z H3 h3 po3 rl3 av3 => ?_
  match r, h3, av3 with
  | .d (.bool true), h3, av3 =>
    refine ⟨true, d_bool av3, ⟨Z, As3, S3, env, _, rl3, sl.po ((po1.trans po2).trans po3), h3, fun c S4 As4 u H4 h4 po4 rl4 av4 => ?_⟩⟩
    exact hr' Z As4 S4 H4 y u b c P Q rl4 (av2.po (po3.trans po4)) av4 h4 (hQ.later (((po1.trans po2).trans po3).trans po4))
  | .d (.bool false), h3, av3 => exact ⟨false, d_bool av3, hQ (.d (.bool false)) S3 As3 (.bl false) H3 h3 ((po1.trans po2).trans po3) rl3 (.bl false)⟩
theorem pd_chain {op op' : CmpOp} {r r' : R2} {R R' : AV → AV → Store → PQ → Prop} (ho : OpR X (compareOp op) r) (ho' : OpR X (compareOp op') r') (hr : VR2 X.K r R) (hr' : VR2 X.K r' R') (h1 : PD X a g1) (h2 : PD X b g2) (h3 : PD X c g3)
    (hm : lastMarks [op, op'] [b, c] = false := by with_unfolding_all rfl) : PD X (.Compare a [op, op'] [b, c] pos) (gChain R R' g1 g2 g3) := PEwk (pe_chain ho ho' h1 h2 h3 hm) (chain_wk hr hr')
theorem pdt_chain {op op' : CmpOp} {r r' : R2} {R R' : AV → AV → Store → PQ → Prop} (ho : OpR X (compareOp op) r) (ho' : OpR X (compareOp op') r') (hr : VR2 X.K r R) (hr' : VR2 X.K r' R') (h1 : PD X a g1) (h2 : PD X b g2) (h3 : PD X c g3)
    (hm : lastMarks [op, op'] [b, c] = false := by with_unfolding_all rfl) : PDT X (.Compare a [op, op'] [b, c] pos) (gTest (gChain R R' g1 g2 g3)) := PTwk (pt_chain ho ho' h1 h2 h3 hm) (test_wk (chain_wk hr hr'))
/-! ### displays -/
def dTup : List AV → Store → PQ → Prop := fun as S P => match dats as with
  | some ds => P (.d (.tuple ds)) S
  | none => False
def dLst : List AV → Store → PQ → Prop := fun as S P => match dats as with
  | some ds => P (.d (.list ds)) S
  | none => False
def dLstM : List AV → Store → PQ → Prop := fun as S P => P (.m S.length) (S ++ [.lst as])
theorem pd_tup {x1} (h : PDA X es ga) (hl : es.length ≤ 60 := by decide) : PD X (.Tuple es x1 pos) (fun env S P => ga env S fun as S1 => as.length ≤ sizeLine ∧ dTup as S1 P) := by
  refine PEwk (pe_tup h) fun σ H Q h => ?_
  obtain ⟨Z, As, S, env, P, rl, sl, hg, hQ⟩ := h
  refine ⟨Z, As, S, env, _, rl, sl, hg, fun as S1 As1 xs H1 h1 po1 rl1 av1 => ?_⟩
  obtain ⟨hz, h1⟩ := h1
  refine ⟨by rw [av1.length]; exact hz, fun p np => ?_⟩
  unfold dTup at h1
  split at h1
  · rename_i ds e
    rw [dats_eq e] at av1
    exact (hQ.later po1).tup rl1 np av1.to_d h1
  · exact h1.elim
theorem pd_lst (h : PDA X es ga) : PD X (.List es pos) (fun env S P => ga env S fun as S1 => as.length ≤ sizeLine ∧ dLst as S1 P) := by
  refine PEwk (pe_lst h) fun σ H Q h => ?_
  obtain ⟨Z, As, S, env, P, rl, sl, hg, hQ⟩ := h
  refine ⟨Z, As, S, env, _, rl, sl, hg, fun as S1 As1 xs H1 h1 po1 rl1 av1 => ?_⟩
  obtain ⟨hz, h1⟩ := h1
  refine ⟨by rw [av1.length]; exact hz, fun p np => ?_⟩
  unfold dLst at h1
  split at h1
  · rename_i ds e
    rw [dats_eq e] at av1
    exact (hQ.later po1).lst rl1 np av1.to_d h1
  · exact h1.elim
theorem pd_lstM (h : PDA X es ga) : PD X (.List es pos) (fun env S P => ga env S fun as S1 => as.length ≤ sizeLine ∧ dLstM as S1 P) := by
  refine PEwk (pe_lst h) fun σ H Q h => ?_
  obtain ⟨Z, As, S, env, P, rl, sl, hg, hQ⟩ := h
  refine ⟨Z, As, S, env, _, rl, sl, hg, fun as S1 As1 xs H1 h1 po1 rl1 av1 => ?_⟩
  obtain ⟨hz, h1⟩ := h1
  exact ⟨by rw [av1.length]; exact hz, fun p np => (hQ.later po1).lstM rl1 np av1 h1⟩
/-! ### built-in calls -/
theorem pd_callB {id : String} {r : List V → Hp → VK → Prop} {R : List AV → Store → PQ → Prop} {x : Str} (hc : CallR X (.builtin id) r) (hr : VRn X.K r R) (hg : Gl X x) (hm : X.mg x = none) (hv : bootBuiltins x = some (.builtin id)) (ha : PDA X (e :: es) ga) (hn : x ≠ "__name__" := by decide)
    (hdb : (x == ("__debug__" : Str)) = false := by decide) (he : starEach (e :: es) X.env = (false, eval e X.env) :: starEach es X.env := by rfl) (hpl : (backTo pos (starEach es X.env)).any (·.1) = false := by rfl) :
    PD X (.Call (.Name x p) (e :: es) [] pos) (gApp R ga) := PEwk (pe_callB hc hg hm hv ha hn hdb he hpl) (app_wk hr)
theorem pd_callTy {T : String} {r : List V → Hp → VK → Prop} {R : List AV → Store → PQ → Prop} {x : Str} (hc : CallR X (.type T) r) (hr : VRn X.K r R) (hg : Gl X x) (hm : X.mg x = none) (hv : bootBuiltins x = some (.type T)) (ha : PDA X (e :: es) ga) (hn : x ≠ "__name__" := by decide)
    (hdb : (x == ("__debug__" : Str)) = false := by decide) (he : starEach (e :: es) X.env = (false, eval e X.env) :: starEach es X.env := by rfl) (hpl : (backTo pos (starEach es X.env)).any (·.1) = false := by rfl) :
    PD X (.Call (.Name x p) (e :: es) [] pos) (gApp R ga) := PEwk (pe_callTy hc hg hm hv ha hn hdb he hpl) (app_wk hr)
/-! ### subscripts, slices -/
theorem pd_ix {r : R2} {R : AV → AV → Store → PQ → Prop} (hx : IxR X r) (hr : VR2 X.K r R) (h1 : PD X a g1) (h2 : PD X b g2) (hs : PlainIx b) : PD X (.Subscript a b pos) (gBin R g1 g2) := PEwk (pe_ix hx h1 h2 hs) (bin_wk hr)
abbrev GO := DEnv → Store → (Option Int → Store → Prop) → Prop
def tDO (K : PySem.W.Frag) (g : GO) : L2.St → Hp → (Option Int → Hp → Prop) → Prop := fun σ H Q => ∃ Z As S env P, Rl K Z As S H ∧ Sl K Z As S H σ env ∧ g env S P ∧ ∀ o S' As' H', P o S' → Po Z As S H As' S' H' → Rl K Z As' S' H' → Q o H'
abbrev PDO (X : Cx) (e : Option Expr) (g : GO) : Prop := PO X e (tDO X.K g)
def goNone : GO := fun _ S P => P none S
def goSome (g : G) : GO := fun env S P => g env S fun a S1 => match a with
  | .d (.int i) => P (some i) S1
  | _ => False
end
end DL
/-! what operators and built-ins answer -/
namespace DL
open PySem PySem.Spec PyProof.Rows L2
section
variable {K : PySem.W.Frag} {Z As : List Addr} {S : Store} {H : Hp} {v : V} {a : AV}
theorem vw_d {x : PyData} (h : vw S a = some x) (n : ∀ ds, x ≠ .list ds) : a = .d x := by
  cases a with
  | d y => cases h; rfl
  | m k =>
    obtain ⟨ds, e, _⟩ := vw_m h
    exact absurd e (n ds)
  | v y => cases h
theorem Kon.d {P : PQ} {Q : VK} {x : PyData} (k : Kon K Z As S H P Q) (r : Rl K Z As S H) (h : ∀ L, DV K L H v x) (p : P (.d x) S) : Q v H := k.here r (a := .d x) (h _) p
end
/-! ### + -/
def dAdd : AV → AV → Store → PQ → Prop := fun a b S P => match vw S a, vw S b with
  | some (.int i), some (.int j) => P (.d (.int (i + j))) S
  | some (.str x), some (.str y) => x.length + y.length ≤ sizeLine ∧ P (.d (.str (x ++ y))) S
  | some (.list xs), some (.list ys) => xs.length + ys.length ≤ sizeLine ∧ P (.d (.list (xs ++ ys))) S
  | some (.tuple xs), some (.tuple ys) => xs.length + ys.length ≤ sizeLine ∧ P (.d (.tuple (xs ++ ys))) S
  | _, _ => False
def rAdd (K : PySem.W.Frag) : R2 := fun x y H Q => (∃ i j, x = .int i ∧ y = .int j ∧ Q (.int (i + j)) H) ∨ (∃ i j, x = .str i ∧ y = .str j ∧ i.length + j.length ≤ sizeLine ∧ Q (.str (i ++ j)) H) ∨ rCat x y H Q ∨ rCatA K x y H Q
theorem op_addAll {X : Cx} : OpR X (binaryOp .Add) (rAdd X.K) := by
  intro pins s σ H x y v u Q I rx ry h
  rcases h with h | h | h | h
  · exact op_add pins s σ H x y v u Q I rx ry h
  · exact op_add_str pins s σ H x y v u Q I rx ry h
  · exact op_cat pins s σ H x y v u Q I rx ry h
  · exact op_catA pins s σ H x y v u Q I rx ry h
theorem vr_add {K : PySem.W.Frag} : VR2 K (rAdd K) dAdd := by
  intro Z As S H x y a b P Q rl ax ay h k
  unfold dAdd at h
  split at h
  · rename_i i j e1 e2
    exact .inl ⟨i, j, vw_int ax e1, vw_int ay e2, k.d rl (fun _ => .int _) h⟩
  · rename_i i j e1 e2
    exact .inr (.inl ⟨i, j, vw_str ax e1, vw_str ay e2, h.1, k.d rl (fun _ => .str _ (by rw [app_len]; exact h.1)) h.2⟩)
  · rename_i xs ys e1 e2
    obtain ⟨p, vs, rfl, hp, t1⟩ := vw_list rl ax e1
    obtain ⟨q, ws, rfl, hq, t2⟩ := vw_list rl ay e2
    exact .inr (.inr (.inl ⟨p, q, vs, ws, rfl, rfl, hp, hq, by rw [t1.length, t2.length]; exact h.1, fun r nr => k.lst rl nr (t1.append t2) h.2⟩))
  · rename_i xs ys e1 e2
    have a1 := vw_d e1 (by intro ds z; cases z)
    have a2 := vw_d e2 (by intro ds z; cases z)
    subst a1 a2
    obtain ⟨p, vs, rfl, hp, t1⟩ := vw_tup ax e1
    obtain ⟨q, ws, rfl, hq, t2⟩ := vw_tup ay e2
    refine .inr (.inr (.inr ⟨p, q, vs, ws, rfl, rfl, hp, hq, by rw [t1.length, t2.length]; exact h.1, fun e => ?_, fun _ e => ?_, fun _ _ r nr => k.tup rl nr (t1.append t2) h.2⟩))
    · subst e
      cases t1
      exact k.here rl (a := .d (.tuple ys)) ay h.2
    · subst e
      cases t2
      have z := h.2
      rw [List.append_nil] at z
      exact k.here rl (a := .d (.tuple xs)) ax z
  · exact h.elim
/-! ### ints -/
def dInt (C : Int → Int → Prop) (f : Int → Int → PyData) : AV → AV → Store → PQ → Prop := fun a b S P => match vw S a, vw S b with
  | some (.int i), some (.int j) => C i j ∧ P (.d (f i j)) S
  | _, _ => False
def dInt0 (f : Int → Int → PyData) : AV → AV → Store → PQ → Prop := fun a b S P => match vw S a, vw S b with
  | some (.int i), some (.int j) => P (.d (f i j)) S
  | _, _ => False
theorem vr_int {K : PySem.W.Frag} {C : Int → Int → Prop} {f : Int → Int → V} {g : Int → Int → PyData} (hf : ∀ i j L H, DV K L H (f i j) (g i j)) : VR2 K (rI C f) (dInt C g) := by
  intro Z As S H x y a b P Q rl ax ay h k
  unfold dInt at h
  split at h
  · rename_i i j e1 e2
    exact ⟨i, j, vw_int ax e1, vw_int ay e2, h.1, k.d rl (fun _ => hf _ _ _ _) h.2⟩
  · exact h.elim
theorem vr_int0 {K : PySem.W.Frag} {f : Int → Int → V} {g : Int → Int → PyData} (hf : ∀ i j L H, DV K L H (f i j) (g i j)) : VR2 K (rI0 f) (dInt0 g) := by
  intro Z As S H x y a b P Q rl ax ay h k
  unfold dInt0 at h
  split at h
  · rename_i i j e1 e2
    exact ⟨i, j, vw_int ax e1, vw_int ay e2, k.d rl (fun _ => hf _ _ _ _) h⟩
  · exact h.elim
abbrev dSub := dInt0 fun i j => .int (i - j)
abbrev dMul := dInt CMul fun i j => .int (i * j)
abbrev dMod := dInt (fun _ j => 0 < j) fun i j => .int (i % j)
abbrev dFdiv := dInt CDiv fun i j => .int (i / j)
abbrev dPow := dInt CPow fun i j => .int (i ^ j.toNat)
abbrev dLt := dInt0 fun i j => .bool (decide (i < j))
abbrev dLe := dInt0 fun i j => .bool (decide (i ≤ j))
abbrev dGt := dInt0 fun i j => .bool (decide (j < i))
abbrev dGe := dInt0 fun i j => .bool (decide (j ≤ i))
theorem vr_sub {K : PySem.W.Frag} : VR2 K (rI0 fun i j => .int (i - j)) dSub := vr_int0 fun _ _ _ _ => .int _
theorem vr_mul {K : PySem.W.Frag} : VR2 K (rI CMul fun i j => .int (i * j)) dMul := vr_int fun _ _ _ _ => .int _
theorem vr_mod {K : PySem.W.Frag} : VR2 K (rI (fun _ j => 0 < j) fun i j => .int (i % j)) dMod := vr_int fun _ _ _ _ => .int _
theorem vr_fdiv {K : PySem.W.Frag} : VR2 K (rI CDiv fun i j => .int (i / j)) dFdiv := vr_int fun _ _ _ _ => .int _
theorem vr_pow {K : PySem.W.Frag} : VR2 K (rI CPow fun i j => .int (i ^ j.toNat)) dPow := vr_int fun _ _ _ _ => .int _
theorem vr_lt {K : PySem.W.Frag} : VR2 K (rI0 fun i j => .bl (decide (i < j))) dLt := vr_int0 fun _ _ _ _ => .bl _
theorem vr_le {K : PySem.W.Frag} : VR2 K (rI0 fun i j => .bl (decide (i ≤ j))) dLe := vr_int0 fun _ _ _ _ => .bl _
theorem vr_gt {K : PySem.W.Frag} : VR2 K (rI0 fun i j => .bl (decide (j < i))) dGt := vr_int0 fun _ _ _ _ => .bl _
theorem vr_ge {K : PySem.W.Frag} : VR2 K (rI0 fun i j => .bl (decide (j ≤ i))) dGe := vr_int0 fun _ _ _ _ => .bl _
/-- texts by their order -/
def strLe (x y : Str) : Bool := !decide (y.cps.toList < x.cps.toList)
def dLeS : AV → AV → Store → PQ → Prop := fun a b S P => match vw S a, vw S b with
  | some (.str x), some (.str y) => P (.d (.bool (strLe x y))) S
  | _, _ => False
theorem vr_leS {K : PySem.W.Frag} : VR2 K (fun x y H Q => ∃ i j, x = .str i ∧ y = .str j ∧ Q (.bl (!decide (j.cps.toList < i.cps.toList))) H) dLeS := by
  intro Z As S H x y a b P Q rl ax ay h k
  unfold dLeS at h
  split at h
  · rename_i i j e1 e2
    exact ⟨i, j, vw_str ax e1, vw_str ay e2, k.d rl (fun _ => .bl _) h⟩
  · exact h.elim
/-- tuple * n -/
def dRep : AV → AV → Store → PQ → Prop := fun a b S P => match vw S a, vw S b with
  | some (.tuple xs), some (.int k) => (xs ≠ [] ∧ 2 ≤ k ∧ k ≤ 1000 ∧ xs.length ≤ 1000) ∧ P (.d (.tuple (List.replicate k.toNat xs).flatten)) S
  | _, _ => False
theorem DVs.rep {K : PySem.W.Frag} {L : Addr → Prop} {H : Hp} {vs : List V} {ds : List PyData} (h : DVs K L H vs ds) : ∀ n : Nat, DVs K L H (List.replicate n vs).flatten (List.replicate n ds).flatten
  | 0 => .nil
  | n + 1 => by
    rw [List.replicate_succ, List.replicate_succ, List.flatten_cons, List.flatten_cons]
    exact h.append (h.rep n)
theorem vr_rep {K : PySem.W.Frag} : VR2 K (rRepT K) dRep := by
  intro Z As S H x y a b P Q rl ax ay h k
  unfold dRep at h
  split at h
  · rename_i xs n e1 e2
    obtain ⟨p, vs, rfl, hp, t1⟩ := vw_tup ax e1
    obtain ⟨⟨h1, h2, h3, h4⟩, h5⟩ := h
    exact ⟨p, n, vs, rfl, vw_int ay e2, hp, fun z => h1 (by subst z; cases t1; rfl), h2, h3, by rw [t1.length]; exact h4, fun r nr => k.tup rl nr (t1.rep _) h5⟩
  · exact h.elim
/-! ### equal or not -/
mutual
theorem DV.dp {K : PySem.W.Frag} {L : Addr → Prop} {H : Hp} : ∀ (d : PyData) (v : V), PyData.canLay0 d = true → DV K L H v d → Dp K H v d
  | .none, _, _, h => by cases h; exact .non
  | .bool b, _, _, h => by cases h; exact .bl b
  | .int i, _, _, h => by cases h; exact .int i
  | .str x, _, _, h => by cases h; exact .str x
  | .list ds, _, c, h => by
    cases h with
    | lst n e t => exact .lst (.inl (.inl e)) (DVs.dp ds _ (by simpa [PyData.canLay0] using c) t)
  | .tuple ds, _, c, h => by
    cases h with
    | tup n e t => exact .tup (.inl (.inl e)) (DVs.dp ds _ (by simpa [PyData.canLay0] using c) t)
    | tupK e t => exact .tup (sqt_up e) (DVs.dp ds _ (by simpa [PyData.canLay0] using c) t)
  | .dict kvs, _, c, _ => by simp [PyData.canLay0] at c
theorem DVs.dp {K : PySem.W.Frag} {L : Addr → Prop} {H : Hp} : ∀ (ds : List PyData) (vs : List V), PyData.canLayAll0 ds = true → DVs K L H vs ds → DpAll K H vs ds
  | [], _, _, h => by cases h; exact .nil
  | d :: ds, _, c, h => by
    have c1 : (PyData.canLay0 d && PyData.canLayAll0 ds) = true := by simpa [PyData.canLayAll0] using c
    obtain ⟨c1, c2⟩ := Bool.and_eq_true_iff.mp c1
    cases h with
    | cons a t => exact .cons (DV.dp d _ c1 a) (DVs.dp ds _ c2 t)
end
theorem shaped_lay {d : PyData} (h : SeqAt.shaped d = true) : PyData.canLay0 d = true := by
  unfold SeqAt.shaped at h
  exact (Bool.and_eq_true_iff.mp h).1
def dEqD (neg : Bool) : AV → AV → Store → PQ → Prop := fun a b S P => match vw S a, vw S b with
  | some x, some y => (SeqAt.shaped x = true ∧ SeqAt.shaped y = true) ∧ P (.d (.bool (cond neg (!PyData.eqv x y) (PyData.eqv x y)))) S
  | _, _ => False
theorem vr_eqD {K : PySem.W.Frag} : VR2 K (rEqD K) (dEqD false) := by
  intro Z As S H x y a b P Q rl ax ay h k
  unfold dEqD at h
  split at h
  · rename_i d e e1 e2
    exact ⟨d, e, DV.dp d _ (shaped_lay h.1.1) (vw_any rl ax e1), DV.dp e _ (shaped_lay h.1.2) (vw_any rl ay e2), h.1.1, h.1.2, k.d rl (fun _ => .bl _) h.2⟩
  · exact h.elim
theorem vr_neD {K : PySem.W.Frag} : VR2 K (rNeD K) (dEqD true) := by
  intro Z As S H x y a b P Q rl ax ay h k
  unfold dEqD at h
  split at h
  · rename_i d e e1 e2
    exact ⟨d, e, DV.dp d _ (shaped_lay h.1.1) (vw_any rl ax e1), DV.dp e _ (shaped_lay h.1.2) (vw_any rl ay e2), h.1.1, h.1.2, k.d rl (fun _ => .bl _) h.2⟩
  · exact h.elim
/-- plain values of one kind, or of kinds that are never equal -/
def scD : PyData → PyData → Option Bool
  | .int i, .int j => some (decide (i = j))
  | .str x, .str y => some (decide (x = y))
  | .bool x, .bool y => some (decide (x = y))
  | .none, .none => some true
  | .none, .int _ | .int _, .none | .none, .bool _ | .bool _, .none | .none, .str _ | .str _, .none => some false
  | .int _, .str _ | .str _, .int _ | .bool _, .str _ | .str _, .bool _ => some false
  | _, _ => none
theorem scD_scal {K : PySem.W.Frag} {L : Addr → Prop} {H : Hp} {x y : V} {d e : PyData} {c : Bool} (hx : DV K L H x d) (hy : DV K L H y e) (h : scD d e = some c) : scal x y = true ∧ decide (x = y) = c := by
  cases hx <;> cases hy <;> first | (cases h; done) | (cases h; refine ⟨rfl, ?_⟩; simp)
def dEqS (neg : Bool) : AV → AV → Store → PQ → Prop := fun a b S P => match vw S a, vw S b with
  | some x, some y => match scD x y with
    | some c => P (.d (.bool (cond neg (!c) c))) S
    | none => False
  | _, _ => False
theorem vr_eqS {K : PySem.W.Frag} : VR2 K rEq (dEqS false) := by
  intro Z As S H x y a b P Q rl ax ay h k
  unfold dEqS at h
  split at h
  · rename_i d e e1 e2
    split at h
    · rename_i c e3
      obtain ⟨z1, z2⟩ := scD_scal (vw_any rl ax e1) (vw_any rl ay e2) e3
      exact ⟨z1, by rw [z2]; exact k.d rl (fun _ => .bl _) h⟩
    · exact h.elim
  · exact h.elim
theorem vr_neS {K : PySem.W.Frag} : VR2 K rNe (dEqS true) := by
  intro Z As S H x y a b P Q rl ax ay h k
  unfold dEqS at h
  split at h
  · rename_i d e e1 e2
    split at h
    · rename_i c e3
      obtain ⟨z1, z2⟩ := scD_scal (vw_any rl ax e1) (vw_any rl ay e2) e3
      exact ⟨z1, by rw [z2]; exact k.d rl (fun _ => .bl _) h⟩
    · exact h.elim
  · exact h.elim
/-! ### is None -/
def nonD : PyData → Bool
  | .none => true
  | _ => false
def dIsN (neg : Bool) : AV → AV → Store → PQ → Prop := fun a b S P => match vw S b with
  | some .none => match vw S a with
    | some x => P (.d (.bool (cond neg (!nonD x) (nonD x)))) S
    | none => False
  | _ => False
theorem dv_non {K : PySem.W.Frag} {L : Addr → Prop} {H : Hp} {x : V} {d : PyData} (h : DV K L H x d) : decide (x = .non) = nonD d := by cases h <;> rfl
theorem vr_isN {K : PySem.W.Frag} : VR2 K (fun x y H Q => y = .non ∧ Q (.bl (decide (x = .non))) H) (dIsN false) := by
  intro Z As S H x y a b P Q rl ax ay h k
  unfold dIsN at h
  split at h
  · rename_i e2
    split at h
    · rename_i d e1
      refine ⟨vw_none ay e2, ?_⟩
      rw [dv_non (vw_any rl ax e1)]
      exact k.d rl (fun _ => .bl _) h
    · exact h.elim
  · exact h.elim
theorem vr_notN {K : PySem.W.Frag} : VR2 K (fun x y H Q => y = .non ∧ Q (.bl (!decide (x = .non))) H) (dIsN true) := by
  intro Z As S H x y a b P Q rl ax ay h k
  unfold dIsN at h
  split at h
  · rename_i e2
    split at h
    · rename_i d e1
      refine ⟨vw_none ay e2, ?_⟩
      rw [dv_non (vw_any rl ax e1)]
      exact k.d rl (fun _ => .bl _) h
    · exact h.elim
  · exact h.elim
/-! ### in -/
def txts : List PyData → Option (List Str)
  | [] => some []
  | .str x :: r => (txts r).map (x :: ·)
  | _ :: _ => none
theorem strs_map (xs : List Str) : txts (xs.map .str) = some xs := by
  induction xs with
  | nil => rfl
  | cons d ds ih => show (txts (ds.map .str)).map _ = _; rw [ih]; rfl
theorem strs_eq : ∀ {ds : List PyData} {xs : List Str}, txts ds = some xs → ds = xs.map .str
  | [], xs, h => by cases h; rfl
  | .str x :: r, xs, h => by
    obtain ⟨es, e1, rfl⟩ := Option.map_eq_some_iff.mp (show (txts r).map (x :: ·) = some xs from h)
    rw [strs_eq e1]
    rfl
  | .none :: _, _, h => by cases h
  | .bool _ :: _, _, h => by cases h
  | .int _ :: _, _, h => by cases h
  | .list _ :: _, _, h => by cases h
  | .tuple _ :: _, _, h => by cases h
  | .dict _ :: _, _, h => by cases h
theorem dvs_strs {K : PySem.W.Frag} {L : Addr → Prop} {H : Hp} : ∀ {xs : List Str} {vs : List V}, DVs K L H vs (xs.map .str) → vs = xs.map V.str
  | [], _, h => by cases h; rfl
  | x :: xs, _, h => by
    cases h with
    | cons a t =>
      cases a
      rw [dvs_strs t]
      rfl
/-- a text in a list or tuple of texts -/
def dInS (neg : Bool) : AV → AV → Store → PQ → Prop := fun a b S P => match vw S a, vw S b with
  | some (.str x), some (.list ds) => match txts ds with
    | some ys => P (.d (.bool (cond neg (!ys.any fun y => decide (y = x)) (ys.any fun y => decide (y = x))))) S
    | none => False
  | some (.str x), some (.tuple ds) => match txts ds with
    | some ys => P (.d (.bool (cond neg (!ys.any fun y => decide (y = x)) (ys.any fun y => decide (y = x))))) S
    | none => False
  | _, _ => False
theorem inV_strs (x : Str) (ys : List Str) : inV (.str x) (ys.map V.str) = ys.any fun y => decide (y = x) := by
  unfold inV
  rw [List.any_map]
  congr 1
theorem flat_strs (ys : List Str) : (ys.map V.str).all flatV = true := by
  rw [List.all_map]
  exact List.all_eq_true.mpr fun _ _ => rfl
theorem vr_inS {K : PySem.W.Frag} (neg : Bool) : VR2 K (rIn K neg) (dInS neg) := by
  intro Z As S H x y a b P Q rl ax ay h k
  unfold dInS at h
  split at h
  · rename_i i ds e1 e2
    split at h
    · rename_i ys e3
      obtain ⟨p, vs, rfl, hp, t1⟩ := vw_list rl ay e2
      rw [strs_eq e3] at t1
      rw [dvs_strs t1] at hp
      refine ⟨p, _, rfl, .inl (.inl (.inl hp)), by rw [vw_str ax e1]; rfl, flat_strs ys, ?_⟩
      rw [vw_str ax e1, inV_strs]
      refine k.d rl (fun _ => .bl _) ?_
      cases neg <;> exact h
    · exact h.elim
  · rename_i i ds e1 e2
    split at h
    · rename_i ys e3
      obtain ⟨p, vs, rfl, hp, t1⟩ := vw_tup ay e2
      rw [strs_eq e3] at t1
      rw [dvs_strs t1] at hp
      refine ⟨p, _, rfl, .inr hp, by rw [vw_str ax e1]; rfl, flat_strs ys, ?_⟩
      rw [vw_str ax e1, inV_strs]
      refine k.d rl (fun _ => .bl _) ?_
      cases neg <;> exact h
    · exact h.elim
  · exact h.elim
/-- a sign in a text -/
def dInC (neg : Bool) : AV → AV → Store → PQ → Prop := fun a b S P => match vw S a, vw S b with
  | some (.str x), some (.str z) => match x.cps.toList with
    | [c] => P (.d (.bool (cond neg (!decide (c ∈ z.cps.toList)) (decide (c ∈ z.cps.toList))))) S
    | _ => False
  | _, _ => False
theorem one_sign {x : Str} {c : Nat} (h : x.cps.toList = [c]) : x = ⟨#[c]⟩ := by
  obtain ⟨a⟩ := x
  exact congrArg Str.mk (Array.ext' h)
theorem vr_inC {K : PySem.W.Frag} : VR2 K (fun x y H Q => ∃ (c : Nat) (z : Str), x = .str ⟨#[c]⟩ ∧ y = .str z ∧ Q (.bl (decide (c ∈ z.cps.toList))) H) (dInC false) := by
  intro Z As S H x y a b P Q rl ax ay h k
  unfold dInC at h
  split at h
  · rename_i i j e1 e2
    split at h
    · rename_i c e3
      exact ⟨c, j, by rw [vw_str ax e1, one_sign e3], vw_str ay e2, k.d rl (fun _ => .bl _) h⟩
    · exact h.elim
  · exact h.elim
theorem vr_notInC {K : PySem.W.Frag} : VR2 K (fun x y H Q => ∃ (c : Nat) (z : Str), x = .str ⟨#[c]⟩ ∧ y = .str z ∧ Q (.bl (!decide (c ∈ z.cps.toList))) H) (dInC true) := by
  intro Z As S H x y a b P Q rl ax ay h k
  unfold dInC at h
  split at h
  · rename_i i j e1 e2
    split at h
    · rename_i c e3
      exact ⟨c, j, by rw [vw_str ax e1, one_sign e3], vw_str ay e2, k.d rl (fun _ => .bl _) h⟩
    · exact h.elim
  · exact h.elim
/-- a value in a list of such -/
def dInD (neg : Bool) : AV → AV → Store → PQ → Prop := fun a b S P => match vw S a, vw S b with
  | some x, some (.list ds) => (SeqAt.shaped x = true ∧ SeqAt.shaped (.list ds) = true) ∧ P (.d (.bool (cond neg (!ds.any fun z => PyData.eqv z x) (ds.any fun z => PyData.eqv z x)))) S
  | _, _ => False
theorem vr_inD {K : PySem.W.Frag} : VR2 K (rInD K) (dInD false) := by
  intro Z As S H x y a b P Q rl ax ay h k
  unfold dInD at h
  split at h
  · rename_i d ds e1 e2
    exact ⟨d, ds, DV.dp d _ (shaped_lay h.1.1) (vw_any rl ax e1), DV.dp _ _ (shaped_lay h.1.2) (vw_any rl ay e2), h.1.1, h.1.2, k.d rl (fun _ => .bl _) h.2⟩
  · exact h.elim
/-! ### subscripts -/
def dIxL : AV → AV → Store → PQ → Prop := fun a b S P => match vw S a, vw S b with
  | some (.list ds), some (.int i) => match atI ds i with
    | some d => P (.d d) S
    | none => False
  | _, _ => False
def dIxT : AV → AV → Store → PQ → Prop := fun a b S P => match vw S a, vw S b with
  | some (.tuple ds), some (.int i) => match atI ds i with
    | some d => P (.d d) S
    | none => False
  | _, _ => False
theorem at_dvs {K : PySem.W.Frag} {L : Addr → Prop} {H : Hp} {vs : List V} {ds : List PyData} {i : Int} {d : PyData} (t : DVs K L H vs ds) (h : atI ds i = some d) : ∃ v, atI vs i = some v ∧ DV K L H v d := by
  unfold atI at h ⊢
  obtain ⟨j, h1, h2⟩ := Option.bind_eq_some_iff.mp h
  obtain ⟨v, e, q⟩ := t.get h2
  exact ⟨v, by rw [t.length, h1]; exact e, q⟩
theorem vr_ixL {K : PySem.W.Frag} : VR2 K (rIxL K) dIxL := by
  intro Z As S H x y a b P Q rl ax ay h k
  unfold dIxL at h
  split at h
  · rename_i ds i e1 e2
    split at h
    · rename_i d e3
      obtain ⟨p, vs, rfl, hp, t1⟩ := vw_list rl ax e1
      obtain ⟨v, e4, q⟩ := at_dvs t1 e3
      exact ⟨p, vs, i, v, rfl, vw_int ay e2, .inl (.inl hp), e4, k.here rl (a := .d d) q h⟩
    · exact h.elim
  · exact h.elim
theorem vr_ixT {K : PySem.W.Frag} : VR2 K (rIxT K) dIxT := by
  intro Z As S H x y a b P Q rl ax ay h k
  unfold dIxT at h
  split at h
  · rename_i ds i e1 e2
    split at h
    · rename_i d e3
      obtain ⟨p, vs, rfl, hp, t1⟩ := vw_tup ax e1
      obtain ⟨v, e4, q⟩ := at_dvs t1 e3
      exact ⟨p, vs, i, v, rfl, vw_int ay e2, hp, e4, k.here rl (a := .d d) q h⟩
    · exact h.elim
  · exact h.elim
end DL
/-! statements, targets, loops, comprehensions -/
namespace DL
open PySem PySem.Spec PyProof.Rows L2
/-! ### statements -/
def gsNext : GS := fun env S D => D.nx env S
def gsSeq (g1 g2 : GS) : GS := fun env S D => g1 env S { D with nx := fun env' S' => g2 env' S' D }
def gsRet (g : G) : GS := fun env S D => g env S D.rt
def gsRetN : GS := fun _ S D => D.rt (.d .none) S
def gsDrop (g : G) : GS := fun env S D => g env S fun _ S1 => D.nx env S1
def gsIf (gt : GT) (g1 g2 : GS) : GS := fun env S D => gt env S fun c S1 => cond c (g1 env S1 D) (g2 env S1 D)
def gsBk : GS := fun env S D => D.bk env S
def gsCt : GS := fun env S D => D.ct env S
/-- a list that changes is left as data (its slots are data from now on) -/
def thaw (k : Nat) (ds : List PyData) : Option AV → Option AV
  | some (.m j) => if j = k then some (.d (.list ds)) else some (.m j)
  | a => a
section
variable {X : Cx} {st : Stmt} {rest : List Stmt} {g g1 g2 : GS} {ge : G} {gt : GT} {e : Expr} {pos : Pos}
theorem pdss_nil : PDSs X [] gsNext := PSswk pss_nil fun D σ H h => by
  obtain ⟨Z, As, S, env, E, rl, sl, hg, k1, k2, k3, k4⟩ := h
  exact k1 env S As σ H hg Po.refl rl sl
theorem pdss_one (h : PDS X st g) : PDSs X [st] g := pss_one h
theorem pdss_cons (h1 : PDS X st g1) (h2 : PDSs X rest g2) : PDSs X (st :: rest) (gsSeq g1 g2) := PSswk (pss_cons h1 h2) fun D σ H h => by
  obtain ⟨Z, As, S, env, E, rl, sl, hg, k1, k2, k3, k4⟩ := h
  refine ⟨Z, As, S, env, _, rl, sl, hg, fun env' S' As' σ' H' h' po rl' sl' => ?_, k2, k3, k4⟩
  exact ⟨Z, As', S', env', E, rl', sl', h', k1.later po, k2.later po, k3.later po, k4.later po⟩
theorem pds_pass : PDS X (.Pass pos) gsNext := PSwk ps_pass fun D σ H h => by
  obtain ⟨Z, As, S, env, E, rl, sl, hg, k1, k2, k3, k4⟩ := h
  exact k1 env S As σ H hg Po.refl rl sl
theorem pds_break : PDS X (.Break pos) gsBk := PSwk ps_break fun D σ H h => by
  obtain ⟨Z, As, S, env, E, rl, sl, hg, k1, k2, k3, k4⟩ := h
  exact k3 env S As σ H hg Po.refl rl sl
theorem pds_continue : PDS X (.Continue pos) gsCt := PSwk ps_continue fun D σ H h => by
  obtain ⟨Z, As, S, env, E, rl, sl, hg, k1, k2, k3, k4⟩ := h
  exact k4 env S As σ H hg Po.refl rl sl
theorem pds_ret (h : PD X e ge) : PDS X (.Return (some e) pos) (gsRet ge) := PSwk (ps_ret h) fun D σ H h => by
  obtain ⟨Z, As, S, env, E, rl, sl, hg, k1, k2, k3, k4⟩ := h
  exact ⟨Z, As, S, env, _, rl, sl, hg, k2⟩
theorem pds_retN : PDS X (.Return none pos) gsRetN := PSwk ps_retN fun D σ H h => by
  obtain ⟨Z, As, S, env, E, rl, sl, hg, k1, k2, k3, k4⟩ := h
  exact k2.here rl (a := .d .none) .non hg
theorem pds_expr (h : PD X e ge) (hs : swapsWith e none pos.line X.env = pure false := by rfl) : PDS X (.Expr e pos) (gsDrop ge) := PSwk (ps_expr h hs) fun D σ H h => by
  obtain ⟨Z, As, S, env, E, rl, sl, hg, k1, k2, k3, k4⟩ := h
  exact ⟨Z, As, S, env, _, rl, sl, hg, fun r S' As' v H' h' po rl' av => k1 env S' As' σ H' h' po rl' (sl.po po)⟩
theorem pds_if {c : Expr} {a b : List Stmt} (hc : PDT X c gt) (h1 : PDSs X a g1) (h2 : PDSs X b g2) : PDS X (.If c a b pos) (gsIf gt g1 g2) := PSwk (ps_if hc h1 h2) fun D σ H h => by
  obtain ⟨Z, As, S, env, E, rl, sl, hg, k1, k2, k3, k4⟩ := h
  refine ⟨Z, As, S, env, _, rl, sl, hg, fun c S' As' H' h' po rl' => ?_⟩
  cases c with
  | true => exact ⟨Z, As', S', env, E, rl', sl.po po, h', k1.later po, k2.later po, k3.later po, k4.later po⟩
  | false => exact ⟨Z, As', S', env, E, rl', sl.po po, h', k1.later po, k2.later po, k3.later po, k4.later po⟩
/-- ahead of a statement: a list is left as data -/
theorem Sl.thaw {K : PySem.W.Frag} {Z As : List Addr} {S : Store} {H : Hp} {σ : L2.St} {env : DEnv} {k : Nat} {ds : List PyData} (hf : ∀ v, AVr K Z As S H v (.m k) → AVr K Z As (S.set k .dead) H v (.d (.list ds)))
    (po : Po Z As S H As (S.set k .dead) H) (h : Sl K Z As S H σ env) : Sl K Z As (S.set k .dead) H σ (env.map (DL.thaw k ds)) := by
  induction h with
  | nil => exact .nil
  | none _ ih => exact .none ih
  | @some v a σ env r _ ih =>
    rw [List.map_cons]
    have same : AVr K Z As (S.set k .dead) H v a := r.po po
    cases a with
    | d x => exact .some same ih
    | v x => exact .some same ih
    | m j =>
      show Sl K Z As (S.set k .dead) H _ ((if j = k then Option.some (AV.d (.list ds)) else Option.some (AV.m j)) :: _)
      by_cases e : j = k
      · subst e
        rw [if_pos rfl]
        exact .some (hf v r) ih
      · rw [if_neg e]
        exact .some same ih
theorem pds_thaw (h : PDS X st g) : PDS X st (fun env S D => g env S D ∨ ∃ k ds, S[k]? = some (.lst (ds.map .d)) ∧ g (env.map (thaw k ds)) (S.set k .dead) D) := PSwk h fun D σ H h => by
  obtain ⟨Z, As, S, env, E, rl, sl, hg, k1, k2, k3, k4⟩ := h
  rcases hg with hg | ⟨k, ds, hS, hg⟩
  · exact ⟨Z, As, S, env, E, rl, sl, hg, k1, k2, k3, k4⟩
  · obtain ⟨po, rl', hf⟩ := freeze rl hS
    exact ⟨Z, As, S.set k .dead, _, E, rl', sl.thaw hf po, hg, k1.later po, k2.later po, k3.later po, k4.later po⟩
end
/-! ### targets -/
abbrev GG := AV → DEnv → Store → (DEnv → Store → Prop) → Prop
abbrev GGs := List AV → DEnv → Store → (DEnv → Store → Prop) → Prop
def tDG (K : PySem.W.Frag) (g : GG) : TG := fun v σ H Q => ∃ Z As S env a P, Rl K Z As S H ∧ Sl K Z As S H σ env ∧ AVr K Z As S H v a ∧ g a env S P ∧ KonS K Z As S H P Q
def tDGs (K : PySem.W.Frag) (g : GGs) : TGs := fun vs σ H Q => ∃ Z As S env as P, Rl K Z As S H ∧ Sl K Z As S H σ env ∧ AVs K Z As S H vs as ∧ g as env S P ∧ KonS K Z As S H P Q
abbrev PDG (X : Cx) (e : Expr) (g : GG) : Prop := PG X e (tDG X.K g)
abbrev PDGs (X : Cx) (es : List Expr) (g : GGs) : Prop := PGs X es (tDGs X.K g)
def ggName (i : Nat) : GG := fun a env S P => P (env.set i (some a)) S
def ggNil : GGs := fun as env S P => as = [] ∧ P env S
def ggCons (g : GG) (gs : GGs) : GGs := fun as env S P => match as with
  | a :: r => g a env S fun env' S' => gs r env' S' P
  | [] => False
def ggTup (n : Nat) (gs : GGs) : GG := fun a env S P => match vw S a with
  | some (.tuple ds) => ds.length = n ∧ gs (ds.map .d) env S P
  | _ => False
section
variable {X : Cx} {e : Expr} {es : List Expr} {pos : Pos}
theorem PGwk {t t' : TG} (h : PG X e t) (w : ∀ v σ H Q, t' v σ H Q → t v σ H Q) : PG X e t' := ⟨fun pins s σ H v u Q I r hw => h.run pins s σ H v u Q I r (w v σ H Q hw)⟩
theorem PGswk {t t' : TGs} (h : PGs X es t) (w : ∀ v σ H Q, t' v σ H Q → t v σ H Q) : PGs X es t' := ⟨fun pins s σ H v u Q I r hw => h.run pins s σ H v u Q I r (w v σ H Q hw)⟩
theorem pdg_name {i : Nat} {x : Str} (hN : X.N.Nodup) (hi : X.N[i]? = some x) (hx : Loc X.env.scope x) (hf : X.fn x = true ∨ X.env.scope.names.lookup x = some .local := by first | exact .inl rfl | exact .inr rfl | assumption) : PDG X (.Name x pos) (ggName i) :=
  PGwk (pg_name (i := i) hN hi hx hf) fun v σ H Q h => by
    obtain ⟨Z, As, S, env, a, P, rl, sl, av, hg, k⟩ := h
    exact k _ S As _ H hg Po.refl rl (sl.set av)
theorem pdgs_nil : PDGs X [] ggNil := PGswk pgs_nil fun v σ H Q h => by
  obtain ⟨Z, As, S, env, a, P, rl, sl, av, ⟨rfl, hg⟩, k⟩ := h
  cases av
  exact ⟨rfl, k env S As σ H hg Po.refl rl sl⟩
theorem pdgs_cons {g : GG} {gs : GGs} (h1 : PDG X e g) (h2 : PDGs X es gs) (hs : (assignEach (e :: es) X.env).map (·.2) = assign e X.env :: (assignEach es X.env).map (·.2) := by rfl) : PDGs X (e :: es) (ggCons g gs) := PGswk (pgs_cons h1 h2 hs) fun v σ H Q h => by
  obtain ⟨Z, As, S, env, as, P, rl, sl, av, hg, k⟩ := h
  cases av with
  | nil => exact hg.elim
  | @cons v vs a r a1 a2 =>
    exact ⟨v, vs, rfl, Z, As, S, env, a, _, rl, sl, a1, hg, fun env' S' As' σ' H' h' po rl' sl' => ⟨Z, As', S', env', r, P, rl', sl', a2.po po, h', k.later po⟩⟩
theorem pdg_tup {gs : GGs} {k : Nat} {n : Nat} (hc : X.calm = true) (h : PDGs X es gs) (hn : (assignEach es X.env).length = n := by rfl) (hst : (assignEach es X.env).findIdx? (·.1) = none := by rfl) : PDG X (.Tuple es k pos) (ggTup n gs) :=
  PGwk (pg_tup hc h hn hst) fun v σ H Q h => by
    obtain ⟨Z, As, S, env, a, P, rl, sl, av, hg, k⟩ := h
    unfold ggTup at hg
    split at hg
    · rename_i ds e1
      obtain ⟨p, vs, rfl, hp, t⟩ := vw_tup av e1
      exact ⟨p, vs, rfl, hp, by rw [t.length]; exact hg.1, Z, As, S, env, _, P, rl, sl, AVs.of_d t, hg.2, k⟩
    · exact hg.elim
/-- target = value -/
def gsAsg (g : G) (gg : GG) : GS := fun env S D => g env S fun a S1 => gg a env S1 D.nx
theorem asg_wk {K : PySem.W.Frag} {g : G} {gg : GG} (D : Ends) (σ : L2.St) (H : Hp) (h : tDS K (gsAsg g gg) D σ H) : tAsg (tD K g) (tDG K gg) D σ H := by
  obtain ⟨Z, As, S, env, E, rl, sl, hg, k1, k2, k3, k4⟩ := h
  exact ⟨Z, As, S, env, _, rl, sl, hg, fun r S' As' v H' h' po rl' av => ⟨Z, As', S', env, r, _, rl', sl.po po, av, h', k1.later po⟩⟩
theorem pds_asg {tg : Expr} {g : G} {gg : GG} (he : PD X e g) (hg : PDG X tg gg) (hs : swapsWithSole [tg] e pos.line X.env = pure false := by rfl) (hw : swappedStores [tg] e X.env = pure none := by rfl)
    (h1 : (assignEach [tg] X.env).map (·.2) = [assign tg X.env] := by rfl) : PDS X (.Assign [tg] e pos) (gsAsg g gg) := PSwk (ps_asg he hg hs hw h1) asg_wk
theorem pds_set {i : Nat} {x : Str} {g : G} {pos' : Pos} (hN : X.N.Nodup) (hi : X.N[i]? = some x) (hx : Loc X.env.scope x) (he : PD X e g) (hs : swapsWith e (some (.Name x pos')) pos.line X.env = pure false := by rfl)
    (hf : X.fn x = true ∨ X.env.scope.names.lookup x = some .local := by first | exact .inl rfl | exact .inr rfl | assumption) : PDS X (.Assign [.Name x pos'] e pos) (gsAsg g (ggName i)) :=
  PSwk (ps_set (i := i) hN hi hx he hs hf) fun D σ H h => by
    obtain ⟨Z, As, S, env, E, rl, sl, hg, k1, k2, k3, k4⟩ := h
    exact ⟨Z, As, S, env, _, rl, sl, hg, fun r S' As' v H' h' po rl' av => k1 _ S' As' _ H' h' po rl' ((sl.po po).set av)⟩
/-- a, b = x, y -/
def gsPar (i j : Nat) (ga : GA) : GS := fun env S D => ga env S fun as S1 => match as with
  | [a, b] => D.nx ((env.set i (some a)).set j (some b)) S1
  | _ => False
end
/-! ### what is walked -/
/-- J walks these data while things are so -/
def Wk (K : PySem.W.Frag) (Z As : List Addr) (S : Store) (H : Hp) (J : It) (items : List PyData) : Prop := ∃ (Gd : Hp → Prop) (Y : Nat → Hp → V → Hp → Prop), Walk J items.length Gd Y ∧
  (∀ Z' As' S' H', Ex (lv Z As S) H (lv Z' As' S') H' → Gd H') ∧
  (∀ i Z' As' S' H' x H'', i < items.length → Ex (lv Z As S) H (lv Z' As' S') H' → Rl K Z' As' S' H' → Y i H' x H'' → ∃ d, items[i]? = some d ∧ Po Z' As' S' H' As' S' H'' ∧ Rl K Z' As' S' H'' ∧ DV K (lv Z' As' S') H'' x d)
abbrev GI := DEnv → Store → (List PyData → Store → Prop) → Prop
def tDI (K : PySem.W.Frag) (g : GI) : TI := fun σ H R => ∃ Z As S env P, Rl K Z As S H ∧ Sl K Z As S H σ env ∧ g env S P ∧
  ∀ items S' As' H' J, P items S' → Po Z As S H As' S' H' → Rl K Z As' S' H' → Wk K Z As' S' H' J items → R J H'
abbrev PDI (X : Cx) (tg e : Expr) (g : GI) : Prop := PI X tg e (tDI X.K g)
def loopD (gg : GG) (body : GS) : List PyData → GS
  | [] => fun env S D => D.nx env S
  | x :: xs => fun env S D => gg (.d x) env S fun env' S' => body env' S' { nx := fun e s => loopD gg body xs e s D, rt := D.rt, bk := D.nx, ct := fun e s => loopD gg body xs e s D }
def gsFor (gi : GI) (gg : GG) (body : GS) : GS := fun env S D => gi env S fun items S1 => loopD gg body items env S1 D
def compD (gg : GG) (gt : GT) (ge : G) : List PyData → List PyData → DEnv → Store → PQ → Prop
  | [], acc => fun _ S P => P (.d (.list acc)) S
  | x :: xs, acc => fun env S P => gg (.d x) env S fun env' S' => gt env' S' fun b S2 => cond b
      (ge env' S2 fun r S3 => match r with
        | .d y => compD gg gt ge xs (acc ++ [y]) env S3 P
        | _ => False)
      (compD gg gt ge xs acc env S2 P)
def gComp (vs : List Nat) (gi : GI) (gg : GG) (gt : GT) (ge : G) : G := fun env S P => gi env S fun items S1 => items.length < sizeLine ∧ compD gg gt ge items [] (wipeE env vs) S1 P
def gtYes : GT := fun _ S P => P true S
section
variable {K : PySem.W.Frag}
theorem for_wk {gi : GI} {gg : GG} {body : GS} (D : Ends) (σ : L2.St) (H : Hp) (h : tDS K (gsFor gi gg body) D σ H) : tFor (tDI K gi) (tDG K gg) (tDS K body) D σ H := by
  obtain ⟨Z, As, S, env, E, rl, sl, hg, k1, k2, k3, k4⟩ := h
  refine ⟨Z, As, S, env, _, rl, sl, hg, fun items S1 As1 H1 J hL po1 rl1 wk => ?_⟩
  obtain ⟨Gd, Y, w1, w2, w3⟩ := wk
  refine for_it w1 (fun i σ' H' => ∃ As' S' env', Po Z As1 S1 H1 As' S' H' ∧ Rl K Z As' S' H' ∧ Sl K Z As' S' H' σ' env' ∧ loopD gg body (items.drop i) env' S' E) ?_ ?_ ?_ ?_
  · exact ⟨As1, S1, env, Po.refl, rl1, sl.po po1, by rw [List.drop_zero]; exact hL⟩
  · rintro i σ' H' _ ⟨As', S', env', po', rl', sl', _⟩
    exact w2 _ _ _ _ po'.ext
  · rintro i x σ' H' H'' hi ⟨As', S', env', po', rl', sl', hl⟩ y
    obtain ⟨d, hd, po2, rl2, dv⟩ := w3 i Z As' S' H' x H'' hi po'.ext rl' y
    have e : items.drop i = d :: items.drop (i + 1) := by
      have := List.getElem_of_getElem? hd
      obtain ⟨h1, h2⟩ := this
      rw [List.drop_eq_getElem_cons h1, h2]
    rw [e] at hl
    have pall : Po Z As S H As' S' H'' := (po1.trans po').trans po2
    refine ⟨Z, As', S', env', .d d, _, rl2, sl'.po po2, dv, hl, fun env3 S3 As3 σ3 H3 h3 po3 rl3 sl3 => ?_⟩
    have p3 : Po Z As S H As3 S3 H3 := pall.trans po3
    refine ⟨Z, As3, S3, env3, _, rl3, sl3, h3, ?_, k2.later p3, ?_, ?_⟩
    · exact fun env4 S4 As4 σ4 H4 h4 po4 rl4 sl4 => ⟨As4, S4, env4, ((po'.trans po2).trans po3).trans po4, rl4, sl4, h4⟩
    · exact k1.later p3
    · exact fun env4 S4 As4 σ4 H4 h4 po4 rl4 sl4 => ⟨As4, S4, env4, ((po'.trans po2).trans po3).trans po4, rl4, sl4, h4⟩
  · rintro σ' H' ⟨As', S', env', po', rl', sl', hl⟩
    rw [List.drop_length] at hl
    exact k1 env' S' As' σ' H' hl (po1.trans po') rl' sl'
end
section
variable {X : Cx} {tg e iter : Expr} {pos : Pos}
theorem PIwk {t t' : TI} (h : PI X tg e t) (w : ∀ σ H R, t' σ H R → t σ H R) : PI X tg e t' := ⟨fun pins s σ H R I hw => h.run pins s σ H R I (w σ H R hw)⟩
theorem pds_for {body : List Stmt} {gi : GI} {gg : GG} {gb : GS} (hp : PassesOwn (model X.prog X.w) X.A X.env X.xe) (hc : X.calm = true) (hi : PDI X tg iter gi) (hg : PDG X tg gg) (hb : PDSs X body gb)
    (hs : ∀ x, foldedSetIterable iter X.env x = pure x := by intro _; rfl) : PDS X (.For tg iter body [] pos) (gsFor gi gg gb) := PSwk (ps_for hp hc hi hg hb hs) for_wk
/-- data that are walked -/
def giSeq (g : G) : GI := fun env S P => g env S fun a S1 => match a with
  | .d (.list ds) => P ds S1
  | _ => False
def giTup (g : G) : GI := fun env S P => g env S fun a S1 => match a with
  | .d (.tuple ds) => P ds S1
  | _ => False
def giStr (g : G) : GI := fun env S P => g env S fun a S1 => match a with
  | .d (.str x) => P (x.cps.toList.map fun c => .str ⟨#[c]⟩) S1
  | _ => False
def giRange1 (ga : GA) : GI := fun env S P => ga env S fun as S1 => match as with
  | [.d (.int n)] => (-(2 ^ 62) ≤ n ∧ n < 2 ^ 62) ∧ P ((List.range n.toNat).map fun i => .int (i : Nat)) S1
  | _ => False
/-- zip of two lists or tuples -/
theorem pdi_list {g : G} (h : PD X e g) : PDI X tg e (giSeq g) := PIwk (pi_list h) fun σ H R h => by
  obtain ⟨Z, As, S, env, P, rl, sl, hg, k⟩ := h
  refine ⟨Z, As, S, env, _, rl, sl, hg, fun r S1 As1 v H1 h1 po1 rl1 av1 => ?_⟩
  match r, h1, av1 with
  | .d (.list ds), h1, av1 =>
    cases av1 with
    | @lst a xs _ n e1 t =>
      refine ⟨a, rfl, ⟨xs, .inl (.inl e1)⟩, k ds S1 As1 H1 _ h1 po1 rl1 ⟨fun H => SqL X.K H a xs, YAt xs, by rw [← t.length]; exact walk_list (xs := xs), fun Z2 A2 S2 H2 p2 => .inl (.inl (p2 a _ e1 n).2), fun i Z2 A2 S2 H2 x H3 hi p2 rl2 y => ?_⟩⟩
      obtain ⟨rfl, hx⟩ := y
      obtain ⟨d, hd, dv⟩ := t.got hx
      exact ⟨d, hd, Po.refl, rl2, DV.ex p2 _ _ dv⟩
theorem pdi_tup {g : G} (h : PD X e g) : PDI X tg e (giTup g) := PIwk (pi_tup h) fun σ H R h => by
  obtain ⟨Z, As, S, env, P, rl, sl, hg, k⟩ := h
  refine ⟨Z, As, S, env, _, rl, sl, hg, fun r S1 As1 v H1 h1 po1 rl1 av1 => ?_⟩
  match r, h1, av1 with
  | .d (.tuple ds), h1, av1 =>
    cases av1 with
    | @tup a xs _ n e1 t =>
      refine ⟨a, rfl, ⟨xs, .inl (.inl e1)⟩, k ds S1 As1 H1 _ h1 po1 rl1 ⟨fun H => SqT X.K H a xs, YAt xs, by rw [← t.length]; exact walk_tup (xs := xs), fun Z2 A2 S2 H2 p2 => .inl (.inl (p2 a _ e1 n).2), fun i Z2 A2 S2 H2 x H3 hi p2 rl2 y => ?_⟩⟩
      obtain ⟨rfl, hx⟩ := y
      obtain ⟨d, hd, dv⟩ := t.got hx
      exact ⟨d, hd, Po.refl, rl2, DV.ex p2 _ _ dv⟩
    | @tupK a xs _ e1 t =>
      refine ⟨a, rfl, ⟨xs, sqt_up e1⟩, k ds S1 As1 H1 _ h1 po1 rl1 ⟨fun H => SqT X.K H a xs, YAt xs, by rw [← t.length]; exact walk_tup (xs := xs), fun Z2 A2 S2 H2 p2 => sqt_up e1, fun i Z2 A2 S2 H2 x H3 hi p2 rl2 y => ?_⟩⟩
      obtain ⟨rfl, hx⟩ := y
      obtain ⟨d, hd, dv⟩ := t.got hx
      exact ⟨d, hd, Po.refl, rl2, DV.ex p2 _ _ dv⟩
theorem pdi_str {g : G} (h : PD X e g) : PDI X tg e (giStr g) := PIwk (pi_str h) fun σ H R h => by
  obtain ⟨Z, As, S, env, P, rl, sl, hg, k⟩ := h
  refine ⟨Z, As, S, env, _, rl, sl, hg, fun r S1 As1 v H1 h1 po1 rl1 av1 => ?_⟩
  match r, h1, av1 with
  | .d (.str z), h1, av1 =>
    cases av1
    refine ⟨z, rfl, k _ S1 As1 H1 _ h1 po1 rl1 ⟨_, _, by rw [List.length_map, Array.length_toList]; exact walk_str (z := z), fun _ _ _ _ _ => trivial, fun i Z2 A2 S2 H2 x H3 hi p2 rl2 y => ?_⟩⟩
    obtain ⟨rfl, c, hc, rfl⟩ := y
    exact ⟨.str ⟨#[c]⟩, by rw [List.getElem?_map, Array.getElem?_toList, hc]; rfl, Po.refl, rl2, .str _ (by rw [sizeLine_eq]; show 1 ≤ _; decide)⟩
theorem pdi_range1 {a : Expr} {ga : GA} {p : Pos} (hg : Gl X "range") (hm : X.mg "range" = none) (ha : PDA X [a] ga) (hs : starEach [a] X.env = [(false, eval a X.env)] := by rfl) : PDI X tg (.Call (.Name "range" p) [a] [] pos) (giRange1 ga) :=
  PIwk (pi_range1 hg hm ha hs) fun σ H R h => by
    obtain ⟨Z, As, S, env, P, rl, sl, hg, k⟩ := h
    refine ⟨Z, As, S, env, _, rl, sl, hg, fun r S1 As1 v H1 h1 po1 rl1 av1 => ?_⟩
    match r, h1, av1 with
    | [.d (.int n)], h1, av1 =>
      obtain ⟨⟨b1, b2⟩, h1⟩ := h1
      cases av1 with
      | cons q t =>
        cases t
        cases q
        refine ⟨n, rfl, b1, b2, k _ S1 As1 H1 _ h1 po1 rl1 ⟨_, _, by rw [List.length_map, List.length_range]; exact walk_range, fun _ _ _ _ _ => trivial, fun i Z2 A2 S2 H2 x H3 hi p2 rl2 y => ?_⟩⟩
        obtain ⟨rfl, rfl⟩ := y
        rw [List.length_map, List.length_range] at hi
        exact ⟨.int (i : Nat), by rw [List.getElem?_map, List.getElem?_range hi]; rfl, Po.refl, rl2, by show DV X.K _ _ (.int (0 + (i : Nat))) _; rw [Int.zero_add]; exact .int _⟩
end
/-! ### comprehensions -/
theorem Sl.reh {K : PySem.W.Frag} {Z Z' As As' : List Addr} {S S' : Store} {H H' : Hp} {σ : L2.St} {env : DEnv} (e : Ex (lv Z As S) H (lv Z' As' S') H') (p : ∃ l, As' = As ++ l) (h : Sl K Z As S H σ env) : Sl K Z' As' S' H' σ env := by
  induction h with
  | nil => exact .nil
  | none _ ih => exact .none ih
  | @some v a σ env r _ ih =>
    refine .some ?_ ih
    cases a with
    | d y => exact DV.ex e _ _ r
    | m k =>
      obtain ⟨b, e1, e2⟩ := r
      exact ⟨b, e1, pre_get p e2⟩
    | v y => exact r
section
variable {K : PySem.W.Frag} {Z As As' : List Addr} {S S' : Store} {H H' : Hp}
/-- one more hidden thing -/
theorem lv_hide {D b : Addr} : lv (D :: Z) As S b ↔ b = D ∨ lv Z As S b := by
  constructor
  · rintro (h | h)
    · rcases List.mem_cons.mp h with h | h
      · exact .inl h
      · exact .inr (.inl h)
    · exact .inr (.inr h)
  · rintro (h | h | h)
    · exact .inl (List.mem_cons.mpr (.inl h))
    · exact .inl (List.mem_cons.mpr (.inr h))
    · exact .inr h
theorem lv_unhide {D : Addr} : Ex (lv (D :: Z) As S) H (lv Z As S) H := fun b o e n => ⟨fun z => n (lv_hide.mpr (.inr z)), e⟩
theorem AVs.reh {Z' : List Addr} {vs : List V} {as : List AV} (e : Ex (lv Z As S) H (lv Z' As S) H') (h : AVs K Z As S H vs as) : AVs K Z' As S H' vs as := by
  induction h with
  | nil => exact .nil
  | @cons v vs a as x _ ih =>
    refine .cons ?_ ih
    cases a with
    | d y => exact DV.ex e _ _ x
    | m k => exact x
    | v y => exact x
theorem Rl.unhide {D : Addr} (r : Rl K (D :: Z) As S H) : Rl K Z As S H := by
  refine ⟨r.len, r.inj, fun k a o h1 h2 => ?_, fun b hb => r.hz b (List.mem_cons_of_mem _ hb)⟩
  have z := r.at_ k a o h1 h2
  cases o with
  | dead => trivial
  | rng => exact z
  | lst xs =>
    obtain ⟨vs, e, q⟩ := z
    exact ⟨vs, e, q.reh lv_unhide⟩
  | dct xs =>
    obtain ⟨vs, e, q1, q⟩ := z
    exact ⟨vs, e, q1, q.reh lv_unhide⟩
theorem Rl.hide {D : Addr} {o : HO} (r : Rl K Z As S H) (n : H D = none) : Ex (lv Z As S) H (lv (D :: Z) As S) (upd H D o) ∧ Rl K (D :: Z) As S (upd H D o) := by
  have ex : Ex (lv Z As S) H (lv (D :: Z) As S) (upd H D o) := fun b u e nb => by
    have nd : b ≠ D := ne_of_none e n
    refine ⟨fun z => ?_, by rw [upd_ne nd]; exact e⟩
    rcases lv_hide.mp z with z | z
    · exact nd z
    · exact nb z
  refine ⟨ex, r.len, r.inj, fun k a u h1 h2 => ?_, fun b hb => ?_⟩
  · have z := r.at_ k a u h1 h2
    cases u with
    | dead => trivial
    | rng =>
      obtain ⟨x, y, e, q⟩ := z
      exact ⟨x, y, by rw [upd_ne (ne_of_none e n)]; exact e, q⟩
    | lst xs =>
      obtain ⟨vs, e, q⟩ := z
      exact ⟨vs, by rw [upd_ne (ne_of_none e n)]; exact e, q.reh ex⟩
    | dct xs =>
      obtain ⟨vs, e, q1, q⟩ := z
      exact ⟨vs, by rw [upd_ne (ne_of_none e n)]; exact e, q1, q.reh ex⟩
  · rcases List.mem_cons.mp hb with rfl | hb
    · refine ⟨by rw [upd_same]; simp, fun k u h1 h2 => ?_⟩
      cases u with
      | dead => rfl
      | rng => exact absurd n (r.live (.inr ⟨k, _, h1, h2, by simp⟩))
      | lst xs => exact absurd n (r.live (.inr ⟨k, _, h1, h2, by simp⟩))
      | dct xs => exact absurd n (r.live (.inr ⟨k, _, h1, h2, by simp⟩))
    · exact ⟨by rw [upd_ne fun z => (r.hz b hb).1 (by rw [z]; exact n)]; exact (r.hz b hb).1, (r.hz b hb).2⟩
/-- the hidden thing changes -/
theorem Rl.hput {D : Addr} {o : HO} (r : Rl K (D :: Z) As S H) : Ex (lv (D :: Z) As S) H (lv (D :: Z) As S) (upd H D o) ∧ Rl K (D :: Z) As S (upd H D o) := by
  have ex : Ex (lv (D :: Z) As S) H (lv (D :: Z) As S) (upd H D o) := fun b u e nb => ⟨nb, by rw [upd_ne fun z => nb (by rw [z]; exact lv_hide.mpr (.inl rfl))]; exact e⟩
  have hD := r.hz D (List.mem_cons_self ..)
  refine ⟨ex, r.len, r.inj, fun k a u h1 h2 => ?_, fun b hb => ⟨?_, (r.hz b hb).2⟩⟩
  · have z := r.at_ k a u h1 h2
    have na : u ≠ .dead → a ≠ D := fun nu e => nu (hD.2 k u (by rw [← e]; exact h1) h2)
    cases u with
    | dead => trivial
    | rng =>
      obtain ⟨x, y, e, q⟩ := z
      exact ⟨x, y, by rw [upd_ne (na (by simp))]; exact e, q⟩
    | lst xs =>
      obtain ⟨vs, e, q⟩ := z
      exact ⟨vs, by rw [upd_ne (na (by simp))]; exact e, q.reh ex⟩
    | dct xs =>
      obtain ⟨vs, e, q1, q⟩ := z
      exact ⟨vs, by rw [upd_ne (na (by simp))]; exact e, q1, q.reh ex⟩
  · by_cases e : b = D
    · rw [e, upd_same]; simp
    · rw [upd_ne e]; exact (r.hz b hb).1
end
/-! the slots of a comprehension's own names -/
theorem wipe_get (σ : L2.St) (j : Nat) : ∀ vs : List Nat, (wipe σ vs)[j]? = if j ∈ vs then σ[j]?.map (fun _ => none) else σ[j]?
  | [] => by simp [wipe]
  | v :: vs => by
    unfold wipe
    by_cases h : v = j
    · subst h
      rw [if_pos (List.mem_cons_self ..), List.getElem?_set]
      rw [if_pos rfl, wipe_length]
      by_cases hl : v < σ.length
      · rw [if_pos hl, List.getElem?_eq_getElem hl]; rfl
      · rw [if_neg hl, List.getElem?_eq_none (by omega)]; rfl
    · rw [List.getElem?_set_ne h, wipe_get σ j vs]
      by_cases hm : j ∈ vs
      · rw [if_pos hm, if_pos (List.mem_cons_of_mem _ hm)]
      · rw [if_neg hm, if_neg fun z => hm ((List.mem_cons.mp z).resolve_left fun e => h e.symm)]
theorem wipe_set {σ : L2.St} {vs : List Nat} {i : Nat} {x : Option V} (h : i ∈ vs) : wipe (σ.set i x) vs = wipe σ vs := by
  refine List.ext_getElem? fun j => ?_
  rw [wipe_get, wipe_get]
  by_cases hj : i = j
  · subst hj
    rw [if_pos h, if_pos h, List.getElem?_set]
    by_cases hl : i < σ.length
    · rw [if_pos rfl, if_pos hl, List.getElem?_eq_getElem hl]; rfl
    · rw [if_pos rfl, if_neg hl, List.getElem?_eq_none (by omega)]
  · rw [List.getElem?_set_ne hj]
theorem wipe_wipe {σ : L2.St} {vs : List Nat} : wipe (wipe σ vs) vs = wipe σ vs := by
  refine List.ext_getElem? fun j => ?_
  rw [wipe_get, wipe_get]
  by_cases h : j ∈ vs
  · rw [if_pos h, if_pos h]
    cases σ[j]? <;> rfl
  · rw [if_neg h, if_neg h]
/-- a target of a comprehension: its own names alone are stored -/
def CG (K : PySem.W.Frag) (g : TG) (gg : GG) (vs : List Nat) : Prop := ∀ Z As S H σ env v a P (Q : L2.St → Hp → Prop), Rl K Z As S H → Sl K Z As S H σ env → AVr K Z As S H v a → gg a env S P →
  (∀ env' S' As' σ' H', P env' S' → Po Z As S H As' S' H' → Rl K Z As' S' H' → Sl K Z As' S' H' σ' env' → wipe σ' vs = wipe σ vs → Q σ' H') → g v σ H Q
def CGs (K : PySem.W.Frag) (g : TGs) (gg : GGs) (vs : List Nat) : Prop := ∀ Z As S H σ env ws as P (Q : L2.St → Hp → Prop), Rl K Z As S H → Sl K Z As S H σ env → AVs K Z As S H ws as → gg as env S P →
  (∀ env' S' As' σ' H', P env' S' → Po Z As S H As' S' H' → Rl K Z As' S' H' → Sl K Z As' S' H' σ' env' → wipe σ' vs = wipe σ vs → Q σ' H') → g ws σ H Q
theorem cg_name {K : PySem.W.Frag} {i : Nat} {vs : List Nat} (h : i ∈ vs) : CG K (gName i) (ggName i) vs := by
  intro Z As S H σ env v a P Q rl sl av hg k
  exact k _ S As _ H hg Po.refl rl (sl.set av) (wipe_set h)
theorem cgs_nil {K : PySem.W.Frag} {vs : List Nat} : CGs K L2.gNil ggNil vs := by
  intro Z As S H σ env ws as P Q rl sl av hg k
  obtain ⟨rfl, hg⟩ := hg
  cases av
  exact ⟨rfl, k env S As σ H hg Po.refl rl sl rfl⟩
theorem cgs_cons {K : PySem.W.Frag} {vs : List Nat} {t : TG} {u : TGs} {g : GG} {gs : GGs} (h1 : CG K t g vs) (h2 : CGs K u gs vs) : CGs K (L2.gCons t u) (ggCons g gs) vs := by
  intro Z As S H σ env ws as P Q rl sl av hg k
  cases av with
  | nil => exact hg.elim
  | @cons v ws a r a1 a2 =>
    refine ⟨v, ws, rfl, h1 Z As S H σ env v a _ _ rl sl a1 hg fun env' S' As' σ' H' h' po rl' sl' w => ?_⟩
    exact h2 Z As' S' H' σ' env' ws r P Q rl' sl' (a2.po po) h' fun env2 S2 As2 σ2 H2 h2' po2 rl2 sl2 w2 => k env2 S2 As2 σ2 H2 h2' (po.trans po2) rl2 sl2 (w2.trans w)
theorem cg_tup {K : PySem.W.Frag} {vs : List Nat} {n : Nat} {u : TGs} {gs : GGs} (h : CGs K u gs vs) : CG K (gTup K n u) (ggTup n gs) vs := by
  intro Z As S H σ env v a P Q rl sl av hg k
  unfold ggTup at hg
  split at hg
  · rename_i ds e1
    obtain ⟨p, ws, rfl, hp, t⟩ := vw_tup av e1
    exact ⟨p, ws, rfl, hp, by rw [t.length]; exact hg.1, h Z As S H σ env ws _ P Q rl sl (AVs.of_d t) hg.2 k⟩
  · exact hg.elim
section
variable {K : PySem.W.Frag}
theorem comp_wk {gi : GI} {g : TG} {gg : GG} {gt : GT} {ge : G} {vs : List Nat} (cg : CG K g gg vs) (σ : L2.St) (H : Hp) (Q : VK) (h : tD K (gComp vs gi gg gt ge) σ H Q) : tLc (tDI K gi) g (tDT K gt) (tD K ge) vs σ H Q := by
  obtain ⟨Z, As, S, env, P, rl, sl, hg, k⟩ := h
  refine ⟨Z, As, S, env, _, rl, sl, hg, fun items S1 As1 H1 J hL po1 rl1 wk D hD => ?_⟩
  obtain ⟨hlen, hL⟩ := hL
  obtain ⟨Gd, Y, w1, w2, w3⟩ := wk
  obtain ⟨ex0, rl0⟩ := rl1.hide (o := .lst []) hD
  refine lc_it w1 (fun i H' => ∃ As' S' acc ws, Rl K (D :: Z) As' S' H' ∧ Ex (lv Z As1 S1) H1 (lv (D :: Z) As' S') H' ∧ (∀ b, b ∈ Z → H' b = H1 b) ∧ (∃ l, As' = As1 ++ l) ∧ H' D = some (.lst ws) ∧
    DVs K (lv (D :: Z) As' S') H' ws acc ∧ acc.length ≤ i ∧ compD gg gt ge (items.drop i) acc (wipeE env vs) S' P) ?_ ?_ ?_ ?_
  · exact ⟨As1, S1, [], [], rl0, ex0, fun b hb => upd_ne fun z => (rl1.hz b hb).1 (by rw [z]; exact hD), ⟨[], by simp⟩, upd_same, .nil, Nat.le_refl _, by rw [List.drop_zero]; exact hL⟩
  · rintro i H' _ ⟨As', S', acc, ws, _, e, _⟩
    exact w2 _ _ _ _ e
  · rintro i x H' H'' hi ⟨As', S', acc, ws, rl', ex', hid', pre', hw, hdv, hacc, hc⟩ y
    obtain ⟨d, hd, po2, rl2, dv⟩ := w3 i (D :: Z) As' S' H' x H'' hi ex' rl' y
    have e : items.drop i = d :: items.drop (i + 1) := by
      obtain ⟨h1, h2⟩ := List.getElem_of_getElem? hd
      rw [List.drop_eq_getElem_cons h1, h2]
    rw [e] at hc
    have exA : Ex (lv Z As1 S1) H1 (lv (D :: Z) As' S') H'' := ex'.trans po2.ext
    have hD2 : H'' D = some (.lst ws) := (po2.hid D (List.mem_cons_self ..)).trans hw
    have sl2 : Sl K (D :: Z) As' S' H'' (wipe σ vs) (wipeE env vs) := by
      have := (sl.po po1).wipe vs
      exact Sl.reh exA pre' this
    have nextP : ∀ {As3 : List Addr} {S3 : Store} {H3 : Hp}, Po (D :: Z) As' S' H'' As3 S3 H3 → (∀ b, b ∈ Z → H3 b = H1 b) ∧ (∃ l, As3 = As1 ++ l) ∧ Ex (lv Z As1 S1) H1 (lv (D :: Z) As3 S3) H3 ∧ H3 D = some (.lst ws) ∧ DVs K (lv (D :: Z) As3 S3) H3 ws acc := fun {As3 S3 H3} po3 => by
      obtain ⟨l1, e1⟩ := pre'
      obtain ⟨l2, e2⟩ := po3.pre
      refine ⟨fun b hb => (po3.hid b (List.mem_cons_of_mem _ hb)).trans ((po2.hid b (List.mem_cons_of_mem _ hb)).trans (hid' b hb)), ⟨l1 ++ l2, by rw [e2, e1, List.append_assoc]⟩, exA.trans po3.ext, (po3.hid D (List.mem_cons_self ..)).trans hD2, DVs.ex (po2.ext.trans po3.ext) _ _ hdv⟩
    refine cg (D :: Z) As' S' H'' (wipe σ vs) (wipeE env vs) x (.d d) _ _ rl2 sl2 dv hc fun env3 S3 As3 σ3 H3 h3 po3 rl3 sl3 wp => ⟨wp.trans wipe_wipe, ?_⟩
    refine ⟨D :: Z, As3, S3, env3, _, rl3, sl3, h3, fun b S4 As4 H4 h4 po4 rl4 => ?_⟩
    cases b with
    | false =>
      obtain ⟨q1, q2, q3, q4, q5⟩ := nextP (po3.trans po4)
      exact ⟨As4, S4, acc, ws, rl4, q3, q1, q2, q4, q5, by omega, h4⟩
    | true =>
      refine ⟨D :: Z, As4, S4, env3, _, rl4, sl3.po po4, h4, fun r S5 As5 y5 H5 h5 po5 rl5 av5 => ?_⟩
      obtain ⟨q1, q2, q3, q4, q5⟩ := nextP ((po3.trans po4).trans po5)
      match r, h5, av5 with
      | .d yd, h5, av5 =>
        obtain ⟨ex6, rl6⟩ := rl5.hput (o := .lst (ws ++ [y5]))
        have hwl := q5.length
        refine ⟨ws, q4, by omega, As5, S5, acc ++ [yd], ws ++ [y5], rl6, q3.trans ex6, fun b hb => ?_, q2, upd_same, DVs.ex ex6 _ _ (q5.append (.cons av5 .nil)), by rw [List.length_append]; simp; omega, h5⟩
        rw [upd_ne fun z => (show D ∉ Z from ?_) (by rw [← z]; exact hb)]
        · exact q1 b hb
        · intro z
          have := q1 D z
          rw [q4] at this
          rw [hD] at this
          cases this
  · rintro H' ⟨As', S', acc, ws, rl', ex', hid', pre', hw, hdv, hacc, hc⟩
    rw [List.drop_length] at hc
    have nD : ¬ lv Z As' S' D := fun z => by
      rcases z with z | ⟨j, o, h1, h2, h3⟩
      · have := (rl1.hz D z).1
        exact this hD
      · exact h3 ((rl'.hz D (List.mem_cons_self ..)).2 j o h1 h2)
    exact k (.d (.list acc)) S' As' (.ref D) H' hc (po1.trans ⟨ex'.trans lv_unhide, hid', pre'⟩) rl'.unhide (.lst nD hw (DVs.ex lv_unhide _ _ hdv))
end
section
variable {X : Cx} {pos : Pos}
theorem pd_lc {elt tg iter : Expr} {ifs : List Expr} {scope : Scope} {own : List (Str × Nat)} {gi : GI} {g : TG} {gg : GG} {gt : GT} {ge : G} (hc : X.calm = true) (hN : X.N.Nodup) (hi : PDI X tg iter gi) (ok : BlkOk X.N X.env.scope scope own)
    (cg : CG X.K g gg (own.map (·.2)))
    (hg : ∀ (s : Shared) (H : Hp) (C : Addr) (cl : List (Str × Addr)) (fp : List Addr), PG (X.blk s H scope (compEnvC scope cl C X.env) fp) tg g) (ht : ∀ (s : Shared) (H : Hp) (C : Addr) (cl : List (Str × Addr)) (fp : List Addr), PTs (X.blk s H scope (compEnvC scope cl C X.env) fp) ifs (tDT X.K gt))
    (he : ∀ (s : Shared) (H : Hp) (C : Addr) (cl : List (Str × Addr)) (fp : List Addr), PE (X.blk s H scope (compEnvC scope cl C X.env) fp) elt (tD X.K ge)) (hs : ∀ x, foldedSetIterable iter X.env x = pure x := by intro _; rfl) :
    PD X (.ListComp elt [⟨tg, iter, ifs, 0⟩] scope pos) (gComp (own.map (·.2)) gi gg gt ge) := PEwk (pe_lc hc hN hi ok hg ht he hs) (comp_wk cg)
theorem pds_setLc {i : Nat} {y : Str} {py : Pos} {elt tg iter : Expr} {ifs : List Expr} {scope : Scope} {own : List (Str × Nat)} {spos : Pos} {gi : GI} {g : TG} {gg : GG} {gt : GT} {ge : G} (hc : X.calm = true) (hN : X.N.Nodup) (hy : X.N[i]? = some y) (hyl : X.env.scope.names.lookup y = some .local)
    (hsw : swapsWith (.ListComp elt [⟨tg, iter, ifs, 0⟩] scope pos) (some (.Name y py)) spos.line X.env = pure true) (hi : PDI X tg iter gi) (ok : BlkOk X.N X.env.scope scope own) (cg : CG X.K g gg (own.map (·.2)))
    (hg : ∀ (s : Shared) (H : Hp) (C : Addr) (cl : List (Str × Addr)) (fp : List Addr), PG (X.blk s H scope (compEnvC scope cl C X.env) fp) tg g) (ht : ∀ (s : Shared) (H : Hp) (C : Addr) (cl : List (Str × Addr)) (fp : List Addr), PTs (X.blk s H scope (compEnvC scope cl C X.env) fp) ifs (tDT X.K gt))
    (he : ∀ (s : Shared) (H : Hp) (C : Addr) (cl : List (Str × Addr)) (fp : List Addr), PE (X.blk s H scope (compEnvC scope cl C X.env) fp) elt (tD X.K ge)) (hs : ∀ x, foldedSetIterable iter X.env x = pure x := by intro _; rfl) :
    PDS X (.Assign [.Name y py] (.ListComp elt [⟨tg, iter, ifs, 0⟩] scope pos) spos) (gsAsg (gComp (own.map (·.2)) gi gg gt ge) (ggName i)) :=
  PSwk (ps_setLc hc hN hy hyl hsw hi ok hg ht he hs) fun D σ H h => by
    obtain ⟨Z, As, S, env, E, rl, sl, hg, k1, k2, k3, k4⟩ := h
    exact comp_wk cg σ H _ ⟨Z, As, S, env, _, rl, sl, hg, fun r S' As' v H' h' po rl' av => k1 _ S' As' _ H' h' po rl' ((sl.po po).set av)⟩
theorem pts_yes {X : Cx} : PTs X [] (tDT X.K gtYes) := ⟨fun pins s σ H Q I h => by
  obtain ⟨Z, As, S, env, P, rl, sl, hg, k⟩ := h
  exact pts_nil.run pins s σ H Q I (k true S As H hg Po.refl rl)⟩
end
end DL
/-! defs and their calls; built-ins; zip; slices; changes of lists -/
namespace DL
open PySem PySem.Spec PyProof.Rows L2
abbrev WD := List AV → Store → PQ → Prop
def spW (K : PySem.W.Frag) (W : WD) : Sp := fun vs H Q _ => ∃ Z As S args P, Rl K Z As S H ∧ AVs K Z As S H vs args ∧ W args S P ∧ Kon K Z As S H P Q
abbrev FnD (P : Program) (w : World) (K : PySem.W.Frag) (mg : Str → Option Value) (base : Heap) (k : Nat) (f : Addr) (fd : FuncData) (ps : List Str) (W : WD) : Prop := FnG P w K mg base k f fd ps (spW K W)
section
variable {P : Program} {w : World} {K : PySem.W.Frag} {mg : Str → Option Value} {base : Heap} {k : Nat} {f : Addr} {fd : FuncData} {N ps : List Str} {W : WD}
/-- a def: its body's reading, and what follows from it -/
theorem okD {x qual : Str} {st : Stmt} {g : GS} (F : Fun K x qual st f fd) (S : FnScope N ps (defScope st)) (hlen : ∀ as S P, W as S P → as.length = ps.length)
    (hb : ∀ (cdv : Value) (A : Around) (outer : List Env) (s : Shared) (H : Hp) (E : XK), A.guards = some [] → Room k (A.deeper (envOfC qual (defScope st) s.heap.objs.size f cdv)) →
      PDSs (cxOf CX0 P w K mg base N qual (defScope st) f cdv A outer s H E).nox (defBody st) g)
    (hw : ∀ args S P, W args S P → g (args.map some ++ List.replicate (N.length - ps.length) none) S ⟨fun _ S' => P (.d .none) S', P, fun _ _ => False, fun _ _ => False⟩) : FnD P w K mg base (k + 1) f fd ps W := by
  refine F.okG S (fun vs H Q E h => ?_) (fun cdv A outer s H vs Q E hgd hr h => ?_)
  · obtain ⟨Z, As, S, args, P, rl, av, hW, _⟩ := h
    rw [av.length]
    exact hlen _ _ _ hW
  · obtain ⟨Z, As, S1, args, P1, rl, av, hW, hk⟩ := h
    have hl : vs.length = ps.length := by rw [av.length]; exact hlen _ _ _ hW
    refine ⟨_, hb cdv A outer s H E hgd hr, Z, As, S1, _, _, rl, ?_, hw args S1 P1 hW, ?_, hk, ?_, ?_⟩
    · show Sl K Z As S1 H (vs.map some ++ List.replicate (N.length - vs.length) none) _
      rw [hl]
      exact Sl.start _ av
    · exact fun env' S' As' σ' H' h' po rl' sl' => hk (.d .none) S' As' .non H' h' po rl' .non
    · exact fun _ _ _ _ _ z => z.elim
    · exact fun _ _ _ _ _ z => z.elim
theorem FnD.imp {W' : WD} (F : FnD P w K mg base k f fd ps W) (h : ∀ as S P, W' as S P → W as S P) : FnD P w K mg base k f fd ps W' := by
  refine ⟨fun vs H Q E q => ?_, fun A hg hr outer s H args us vs Q E e0 hb r q => ?_⟩
  · obtain ⟨Z, As, S, args, P, rl, av, hW, hk⟩ := q
    exact F.len vs H Q E ⟨Z, As, S, args, P, rl, av, h _ _ _ hW, hk⟩
  · obtain ⟨Z, As, S, args, P, rl, av, hW, hk⟩ := q
    exact F.run A hg hr outer s H _ us vs Q E e0 hb r ⟨Z, As, S, _, P, rl, av, h _ _ _ hW, hk⟩
theorem FnG.mono {j : Nat} {sp : Sp} (F : FnG P w K mg base j f fd ps sp) (h : j ≤ k) : FnG P w K mg base k f fd ps sp := ⟨F.len, fun A hg hr => F.run A hg (hr.mono h)⟩
end
section
variable {X : Cx} {k : Nat} {f : Addr} {fd : FuncData} {ps ks : List Str} {W : WD} {x : Str} {p pos : Pos} {e : Expr} {es : List Expr} {kws : List Keyword} {ga gk : GA}
theorem pd_call (F : FnD X.prog X.w X.K X.mg X.base k f fd ps W) (hgd : X.A.guards = some []) (hr : Room k X.A) (hg : Gl X x) (hm : X.mg x = some (.ref f)) (hk : PySem.W.keepIn X.K (.ref f) = true) (hb : Binds X.K fd ps [])
    (ha : PDA X (e :: es) ga) (hdb : (x == ("__debug__" : Str)) = false := by decide) (he : starEach (e :: es) X.env = (false, eval e X.env) :: starEach es X.env := by rfl)
    (hpl : (backTo pos (starEach es X.env)).any (·.1) = false := by rfl) : PD X (.Call (.Name x p) (e :: es) [] pos) (gApp W ga) := by
  refine PEwk (pe_callG F hgd hr hg hm hk hb ha hdb he hpl) fun σ H Q h => ?_
  obtain ⟨Z, As, S, env, P, rl, sl, hg, hQ⟩ := h
  refine ⟨Z, As, S, env, _, rl, sl, hg, fun as S1 As1 xs H1 h1 po1 rl1 av1 => ?_⟩
  show spW X.K W (xs ++ []) H1 Q E0
  rw [List.append_nil]
  exact ⟨Z, As1, S1, as, P, rl1, av1, h1, hQ.later po1⟩
abbrev PDK (X : Cx) (kws : List Keyword) (g : GA) : Prop := L2.PK X kws (tDA X.K g)
theorem pdk_nil : PDK X [] gNil := ⟨fun pos pins s σ H Q I h => pk_nil.run pos pins s σ H Q I (nil_wk σ H Q h)⟩
theorem pdk_cons {g : G} {nm : Option Str} {kpos : Pos} (h : PD X e g) (ha : PDK X kws ga) : PDK X (⟨nm, e, kpos⟩ :: kws) (gCons g ga) := ⟨fun pos pins s σ H Q I hw => (pk_cons h ha).run pos pins s σ H Q I (cons_wk σ H Q hw)⟩
/-- f(k = e, ..) with every argument named, in the parameters' order -/
theorem pd_callK (F : FnD X.prog X.w X.K X.mg X.base k f fd ps W) (hgd : X.A.guards = some []) (hr : Room k X.A) (hg : Gl X x) (hm : X.mg x = some (.ref f)) (hk : PySem.W.keepIn X.K (.ref f) = true)
    (hb : ∀ (s : Shared) (us : List Value), us.length = ps.length → BindsTo s fd ⟨[], ps.zip us⟩ (ps.zip us))
    (hkw : PDK X kws gk) (hall : (backToKw pos (keywordEach kws X.env)).all (·.1.isSome) = true := by rfl) (hks : (backToKw pos (keywordEach kws X.env)).filterMap (·.1) = ps := by rfl)
    (hdb : (x == ("__debug__" : Str)) = false := by decide) (hpl : ((backTo pos (starEach [] X.env)).any (·.1) || (backToKw pos (keywordEach kws X.env)).any (·.1.isNone)) = false := by rfl) :
    PD X (.Call (.Name x p) [] kws pos) (gApp W gk) := by
  refine ⟨fun pins s σ H Q I h => ?_⟩
  obtain ⟨Z, As, S, env, P, rl, sl, hg2, hQ⟩ := h
  refine wpAny_Call_Name_kw (ld_glob I hg hm ?_ hdb)
  refine PySem.W.callWith_KW0 (h₀ := X.base) I.ok.mod.kin hk hall ?_ hpl
  refine thn (hkw.run pos pins s σ H (fun zs H2 => spW X.K W zs H2 Q E0) I ⟨Z, As, S, env, _, rl, sl, hg2, fun as S1 As1 xs H1 h1 po1 rl1 av1 => ⟨Z, As1, S1, as, P, rl1, av1, h1, hQ.later po1⟩⟩) fun ws s2 ⟨zs, H2, I2, rz, q2⟩ => ⟨I2.kIn, ?_⟩
  rw [hks]
  have hl : ws.length = ps.length := by rw [← rz.length]; exact F.len _ _ _ _ q2
  refine wpAny_call (codeAny_mono (F.run X.A hgd hr X.stack s2 H2 ⟨[], ps.zip ws⟩ ws zs Q E0 I2.env0 (hb s2 ws hl) rz q2) fun r s' z => ?_)
  match r, z with
  | .ok (.ret u), z => exact I2.after z
  | .ok .next, z => exact z.elim
  | .ok .brk, z => exact z.elim
  | .ok .cont, z => exact z.elim
  | .error _, z => exact z.elim
end
/-! ### built-ins -/
def tyD : PyData → String
  | .none => "NoneType"
  | .bool _ => "bool"
  | .int _ => "int"
  | .str _ => "str"
  | .list _ => "list"
  | .tuple _ => "tuple"
  | .dict _ => "dict"
def isTy (T U : String) : Bool := decide (U = T) || (decide (T = "int") && decide (U = "bool"))
/-- isinstance, by the class's name -/
def isT (T : String) : PyData → Bool
  | .none => decide (T = "NoneType")
  | .bool _ => decide (T = "bool") || decide (T = "int")
  | .int _ => decide (T = "int")
  | .str _ => decide (T = "str")
  | .list _ => decide (T = "list")
  | .tuple _ => decide (T = "tuple")
  | .dict _ => decide (T = "dict")
theorem kit_all : ∀ T ∈ ["int", "bool", "str", "tuple", "list", "dict"], ∀ U ∈ ["NoneType", "bool", "int", "str", "list", "tuple", "dict"], kitB U T = some (isTy T U) := by decide +kernel
theorem ty_mem (d : PyData) : tyD d ∈ ["NoneType", "bool", "int", "str", "list", "tuple", "dict"] := by cases d <;> simp [tyD]
theorem isTy_isT {T : String} (hT : T ∈ ["int", "bool", "str", "tuple", "list", "dict"]) (d : PyData) : isTy T (tyD d) = isT T d := by
  simp only [List.mem_cons, List.not_mem_nil, or_false] at hT
  rcases hT with rfl | rfl | rfl | rfl | rfl | rfl <;> cases d <;> rfl
theorem DV.ty {K : PySem.W.Frag} {L : Addr → Prop} {H : Hp} {v : V} {d : PyData} (h : DV K L H v d) : TyX K H v (.type (tyD d)) := by
  cases h with
  | non => exact .base .non
  | bl b => exact .base (.bl b)
  | int i => exact .base (.int i)
  | str x => exact .base (.str x)
  | lst _ e _ => exact .base (.lst e)
  | tup _ e _ => exact .base (.tup e)
  | tupK e _ =>
    rcases e with (e | ⟨o, e⟩) | ⟨o, its, n, hk, hc, _⟩
    · cases e
    · cases e
    · exact .kTuple hk hc
  | dct _ e => exact .base (.dK e)
section
variable {K : PySem.W.Frag}
def dIsi : List AV → Store → PQ → Prop := fun as S P => match as with
  | [a, .v (.ty T)] => match vw S a with
    | some x => T ∈ ["int", "bool", "str", "tuple", "list", "dict"] ∧ P (.d (.bool (isT T x))) S
    | none => False
  | _ => False
theorem vr_isi : VRn K (rIsi K) dIsi := by
  intro Z As S H xs as P Q rl av h k
  unfold dIsi at h
  split at h
  · rename_i a T
    split at h
    · rename_i x e
      obtain ⟨hT, h⟩ := h
      cases av with
      | cons a1 t =>
        cases t with
        | cons a2 t =>
          cases t
          cases (show _ = V.ty T from a2)
          refine ⟨_, .ty T, _, .type T, isT T x, rfl, .ty T, (vw_any rl a1 e).ty, ?_, k.d rl (fun _ => .bl _) h⟩
          rw [← isTy_isT hT]
          exact kit_ty (kit_all T hT _ (ty_mem x))
    · exact h.elim
  · exact h.elim
/-- len -/
def dLen : List AV → Store → PQ → Prop := fun as S P => match as with
  | [a] => match vw S a with
    | some (.list ds) => P (.d (.int ds.length)) S
    | some (.tuple ds) => P (.d (.int ds.length)) S
    | some (.str x) => P (.d (.int x.length)) S
    | _ => False
  | _ => False
def rLen (K : PySem.W.Frag) : List V → Hp → VK → Prop := fun xs H Q => (∃ p ys, xs = [.ref p] ∧ (SqL K H p ys ∨ SqT K H p ys) ∧ Q (.int ys.length) H) ∨ (∃ z, xs = [.str z] ∧ z.length ≤ sizeLine ∧ Q (.int z.length) H)
theorem call_lenAll {X : Cx} : CallR X (.builtin "len") (rLen X.K) := by
  intro pins s σ H xs us Q I rs q
  rcases q with q | q
  · exact call_len_seq pins s σ H xs us Q I rs q
  · exact call_len_str pins s σ H xs us Q I rs q
theorem vr_len : VRn K (rLen K) dLen := by
  intro Z As S H xs as P Q rl av h k
  unfold dLen at h
  split at h
  · rename_i a
    cases av with
    | cons a1 t =>
      cases t
      split at h
      · rename_i ds e
        obtain ⟨p, vs, rfl, hp, t1⟩ := vw_list rl a1 e
        exact .inl ⟨p, vs, rfl, .inl (.inl (.inl hp)), by rw [t1.length]; exact k.d rl (fun _ => .int _) h⟩
      · rename_i ds e
        obtain ⟨p, vs, rfl, hp, t1⟩ := vw_tup a1 e
        exact .inl ⟨p, vs, rfl, .inr hp, by rw [t1.length]; exact k.d rl (fun _ => .int _) h⟩
      · rename_i x e
        refine .inr ⟨x, by rw [vw_str a1 e], ?_, k.d rl (fun _ => .int _) h⟩
        cases vw_any rl a1 e with
        | str _ z => exact z
      · exact h.elim
  · exact h.elim
/-- all(a list of truths), sum, max, min of ints -/
def bls : List PyData → Option (List Bool)
  | [] => some []
  | .bool x :: r => (bls r).map (x :: ·)
  | _ :: _ => none
theorem bls_map (xs : List Bool) : bls (xs.map .bool) = some xs := by
  induction xs with
  | nil => rfl
  | cons d ds ih => show (bls (ds.map .bool)).map _ = _; rw [ih]; rfl
theorem dvs_bls {L : Addr → Prop} {H : Hp} : ∀ {ds : List PyData} {bs : List Bool} {vs : List V}, bls ds = some bs → DVs K L H vs ds → vs = bs.map V.bl
  | [], bs, _, e, h => by cases e; cases h; rfl
  | .bool x :: r, bs, _, e, h => by
    obtain ⟨es, e1, rfl⟩ := Option.map_eq_some_iff.mp (show (bls r).map (x :: ·) = some bs from e)
    cases h with
    | cons a t =>
      cases a
      rw [dvs_bls e1 t]
      rfl
  | .none :: _, _, _, e, _ => by cases e
  | .str _ :: _, _, _, e, _ => by cases e
  | .int _ :: _, _, _, e, _ => by cases e
  | .list _ :: _, _, _, e, _ => by cases e
  | .tuple _ :: _, _, _, e, _ => by cases e
  | .dict _ :: _, _, _, e, _ => by cases e
def nts : List PyData → Option (List Int)
  | [] => some []
  | .int x :: r => (nts r).map (x :: ·)
  | _ :: _ => none
theorem nts_map (xs : List Int) : nts (xs.map .int) = some xs := by
  induction xs with
  | nil => rfl
  | cons d ds ih => show (nts (ds.map .int)).map _ = _; rw [ih]; rfl
theorem dvs_nts {L : Addr → Prop} {H : Hp} : ∀ {ds : List PyData} {bs : List Int} {vs : List V}, nts ds = some bs → DVs K L H vs ds → vs = bs.map V.int
  | [], bs, _, e, h => by cases e; cases h; rfl
  | .int x :: r, bs, _, e, h => by
    obtain ⟨es, e1, rfl⟩ := Option.map_eq_some_iff.mp (show (nts r).map (x :: ·) = some bs from e)
    cases h with
    | cons a t =>
      cases a
      rw [dvs_nts e1 t]
      rfl
  | .none :: _, _, _, e, _ => by cases e
  | .str _ :: _, _, _, e, _ => by cases e
  | .bool _ :: _, _, _, e, _ => by cases e
  | .list _ :: _, _, _, e, _ => by cases e
  | .tuple _ :: _, _, _, e, _ => by cases e
  | .dict _ :: _, _, _, e, _ => by cases e
def dAll (any : Bool) : List AV → Store → PQ → Prop := fun as S P => match as with
  | [a] => match vw S a with
    | some (.list ds) => match bls ds with
      | some bs => P (.d (.bool (cond any (bs.any id) (bs.all id)))) S
      | none => False
    | _ => False
  | _ => False
theorem vr_all : VRn K (rAll K) (dAll false) := by
  intro Z As S H xs as P Q rl av h k
  unfold dAll at h
  split at h
  · rename_i a
    cases av with
    | cons a1 t =>
      cases t
      split at h
      · rename_i ds e
        split at h
        · rename_i bs e2
          obtain ⟨p, vs, rfl, hp, t1⟩ := vw_list rl a1 e
          rw [dvs_bls e2 t1] at hp
          exact ⟨p, bs, rfl, .inl (.inl hp), k.d rl (fun _ => .bl _) h⟩
        · exact h.elim
      · exact h.elim
  · exact h.elim
theorem vr_any : VRn K (rAny K) (dAll true) := by
  intro Z As S H xs as P Q rl av h k
  unfold dAll at h
  split at h
  · rename_i a
    cases av with
    | cons a1 t =>
      cases t
      split at h
      · rename_i ds e
        split at h
        · rename_i bs e2
          obtain ⟨p, vs, rfl, hp, t1⟩ := vw_list rl a1 e
          rw [dvs_bls e2 t1] at hp
          exact ⟨p, bs, rfl, .inl (.inl hp), k.d rl (fun _ => .bl _) h⟩
        · exact h.elim
      · exact h.elim
  · exact h.elim
def dSum : List AV → Store → PQ → Prop := fun as S P => match as with
  | [a] => match vw S a with
    | some (.list ds) => match nts ds with
      | some ns => P (.d (.int ns.sum)) S
      | none => False
    | _ => False
  | _ => False
theorem vr_sum : VRn K (rSum K) dSum := by
  intro Z As S H xs as P Q rl av h k
  unfold dSum at h
  split at h
  · rename_i a
    cases av with
    | cons a1 t =>
      cases t
      split at h
      · rename_i ds e
        split at h
        · rename_i bs e2
          obtain ⟨p, vs, rfl, hp, t1⟩ := vw_list rl a1 e
          rw [dvs_nts e2 t1] at hp
          exact ⟨p, bs, rfl, .inl (.inl hp), k.d rl (fun _ => .int _) h⟩
        · exact h.elim
      · exact h.elim
  · exact h.elim
def dMax : List AV → Store → PQ → Prop := fun as S P => match as with
  | [a] => match vw S a with
    | some (.list ds) => match nts ds with
      | some ns => 0 < ns.length ∧ ∀ m, m ∈ ns → (∀ y, y ∈ ns → y ≤ m) → P (.d (.int m)) S
      | none => False
    | _ => False
  | [.d (.int i), .d (.int j)] => P (.d (.int (if j > i then j else i))) S
  | _ => False
def rMaxAll (K : PySem.W.Frag) : List V → Hp → VK → Prop := fun xs H Q => rMax K xs H Q ∨ ∃ i j, xs = [.int i, .int j] ∧ Q (.int (if j > i then j else i)) H
theorem call_maxAll {X : Cx} (hc : X.calm = true) : CallR X (.builtin "max") (rMaxAll X.K) := by
  intro pins s σ H xs us Q I rs q
  rcases q with q | q
  · exact cr_max hc pins s σ H xs us Q I rs q
  · exact call_max2 hc pins s σ H xs us Q I rs q
theorem vr_max : VRn K (rMaxAll K) dMax := by
  intro Z As S H xs as P Q rl av h k
  unfold dMax at h
  split at h
  · rename_i a
    cases av with
    | cons a1 t =>
      cases t
      split at h
      · rename_i ds e
        split at h
        · rename_i bs e2
          obtain ⟨p, vs, rfl, hp, t1⟩ := vw_list rl a1 e
          rw [dvs_nts e2 t1] at hp
          exact .inl ⟨p, bs, rfl, .inl (.inl hp), h.1, fun m h1 h2 => k.d rl (fun _ => .int _) (h.2 m h1 h2)⟩
        · exact h.elim
      · exact h.elim
  · rename_i i j
    cases av with
    | cons a1 t =>
      cases t with
      | cons a2 t =>
        cases t
        cases a1
        cases a2
        exact .inr ⟨i, j, rfl, k.d rl (fun _ => .int _) h⟩
  · exact h.elim
def dMin2 : List AV → Store → PQ → Prop := fun as S P => match as with
  | [.d (.int i), .d (.int j)] => P (.d (.int (if j < i then j else i))) S
  | _ => False
theorem vr_min2 : VRn K (fun xs H Q => ∃ i j, xs = [.int i, .int j] ∧ Q (.int (if j < i then j else i)) H) dMin2 := by
  intro Z As S H xs as P Q rl av h k
  unfold dMin2 at h
  split at h
  · rename_i i j
    cases av with
    | cons a1 t =>
      cases t with
      | cons a2 t =>
        cases t
        cases a1
        cases a2
        exact ⟨i, j, rfl, k.d rl (fun _ => .int _) h⟩
  · exact h.elim
def dAbs : List AV → Store → PQ → Prop := fun as S P => match as with
  | [.d (.int i)] => P (.d (.int (if i < 0 then -i else i))) S
  | _ => False
theorem vr_abs : VRn K (fun xs H Q => ∃ i, xs = [.int i] ∧ Q (.int (if i < 0 then -i else i)) H) dAbs := by
  intro Z As S H xs as P Q rl av h k
  unfold dAbs at h
  split at h
  · rename_i i
    cases av with
    | cons a1 t =>
      cases t
      cases a1
      exact ⟨i, rfl, k.d rl (fun _ => .int _) h⟩
  · exact h.elim
/-- list(..): a new one, as data or to be changed -/
def seqD : PyData → Option (List PyData)
  | .list ds => some ds
  | .tuple ds => some ds
  | _ => none
def rList (K : PySem.W.Frag) : List V → Hp → VK → Prop := fun xs H Q => ∃ p ys, xs = [.ref p] ∧ (SqL K H p ys ∨ SqT K H p ys) ∧ ∀ l, H l = none → Q (.ref l) (upd H l (.lst ys))
theorem vw_seq {Z As : List Addr} {S : Store} {H : Hp} {v : V} {a : AV} (r : Rl K Z As S H) (h : AVr K Z As S H v a) {x : PyData} {ds : List PyData} (e : vw S a = some x) (e2 : seqD x = some ds) :
    ∃ p vs, v = .ref p ∧ (SqL K H p vs ∨ SqT K H p vs) ∧ DVs K (lv Z As S) H vs ds := by
  cases x with
  | list es =>
    cases e2
    obtain ⟨p, vs, rfl, hp, t1⟩ := vw_list r h e
    exact ⟨p, vs, rfl, .inl (.inl (.inl hp)), t1⟩
  | tuple es =>
    cases e2
    obtain ⟨p, vs, rfl, hp, t1⟩ := vw_tup h e
    exact ⟨p, vs, rfl, .inr hp, t1⟩
  | none => cases e2
  | bool _ => cases e2
  | int _ => cases e2
  | str _ => cases e2
  | dict _ => cases e2
def dList : List AV → Store → PQ → Prop := fun as S P => match as with
  | [a] => match (vw S a).bind seqD with
    | some ds => P (.d (.list ds)) S
    | none => False
  | _ => False
def dListM : List AV → Store → PQ → Prop := fun as S P => match as with
  | [a] => match (vw S a).bind seqD with
    | some ds => P (.m S.length) (S ++ [.lst (ds.map .d)])
    | none => False
  | _ => False
theorem vr_list : VRn K (rList K) dList := by
  intro Z As S H xs as P Q rl av h k
  unfold dList at h
  split at h
  · rename_i a
    cases av with
    | cons a1 t =>
      cases t
      split at h
      · rename_i ds e
        obtain ⟨x, e1, e2⟩ := Option.bind_eq_some_iff.mp e
        obtain ⟨p, vs, rfl, hp, t1⟩ := vw_seq rl a1 e1 e2
        exact ⟨p, vs, rfl, hp, fun l nl => k.lst rl nl t1 h⟩
      · exact h.elim
  · exact h.elim
theorem vr_listM : VRn K (rList K) dListM := by
  intro Z As S H xs as P Q rl av h k
  unfold dListM at h
  split at h
  · rename_i a
    cases av with
    | cons a1 t =>
      cases t
      split at h
      · rename_i ds e
        obtain ⟨x, e1, e2⟩ := Option.bind_eq_some_iff.mp e
        obtain ⟨p, vs, rfl, hp, t1⟩ := vw_seq rl a1 e1 e2
        exact ⟨p, vs, rfl, hp, fun l nl => k.lstM rl nl (AVs.of_d t1) h⟩
      · exact h.elim
  · exact h.elim
def dTuple : List AV → Store → PQ → Prop := fun as S P => match as with
  | [a] => match (vw S a).bind seqD with
    | some ds => P (.d (.tuple ds)) S
    | none => False
  | _ => False
theorem vr_tuple : VRn K (fun xs H Q => ∃ p ys, xs = [.ref p] ∧ ((SqL K H p ys ∧ ∀ l, H l = none → Q (.ref l) (upd H l (.tup ys))) ∨ (SqT K H p ys ∧ Q (.ref p) H))) dTuple := by
  intro Z As S H xs as P Q rl av h k
  unfold dTuple at h
  split at h
  · rename_i a
    cases av with
    | cons a1 t =>
      cases t
      split at h
      · rename_i ds e
        obtain ⟨x, e1, e2⟩ := Option.bind_eq_some_iff.mp e
        cases x with
        | list es =>
          cases e2
          obtain ⟨p, vs, rfl, hp, t1⟩ := vw_list rl a1 e1
          exact ⟨p, vs, rfl, .inl ⟨.inl (.inl hp), fun l nl => k.tup rl nl t1 h⟩⟩
        | tuple es =>
          cases e2
          have a2 := vw_d e1 (by intro ds z; cases z)
          subst a2
          obtain ⟨p, vs, rfl, hp, t1⟩ := vw_tup a1 e1
          exact ⟨p, vs, rfl, .inr ⟨hp, k.here rl a1 h⟩⟩
        | none => cases e2
        | bool _ => cases e2
        | int _ => cases e2
        | str _ => cases e2
        | dict _ => cases e2
      · exact h.elim
  · exact h.elim
end
end DL
/-! join, repr, slices, zip, changes of lists, tables of the module, draws -/
namespace DL
open PySem PySem.Spec PyProof.Rows L2
/-! ### methods of texts and lists -/
def isLst : Option MO → Prop
  | some (.lst _) => True
  | _ => False
def kdOk (T : String) (S : Store) : AV → Prop
  | .d (.str _) => T = "str"
  | .m k => T = "list" ∧ isLst S[k]?
  | _ => False
def VRm (K : PySem.W.Frag) (r : V → List V → Hp → VK → Prop) (R : AV → List AV → Store → PQ → Prop) : Prop := ∀ Z As S H x xs a as P Q, Rl K Z As S H → AVr K Z As S H x a → AVs K Z As S H xs as → R a as S P → Kon K Z As S H P Q → r x xs H Q
def gM (T : String) (R : AV → List AV → Store → PQ → Prop) (g : G) (ga : GA) : G := fun env S P => g env S fun a S1 => kdOk T S1 a ∧ ga env S1 fun as S2 => R a as S2 P
theorem kd_ty {K : PySem.W.Frag} {Z As : List Addr} {S : Store} {H : Hp} {T : String} {x : V} {a : AV} (r : Rl K Z As S H) (h : AVr K Z As S H x a) (k : kdOk T S a) : tyV K T x H := by
  match a, h, k with
  | .d (.str z), h, k =>
    cases h
    exact k
  | .m j, h, k =>
    obtain ⟨rfl, k2⟩ := k
    obtain ⟨p, rfl, hA⟩ := h
    cases e : S[j]? with
    | none => rw [e] at k2; exact k2.elim
    | some o =>
      rw [e] at k2
      cases o with
      | lst xs =>
        obtain ⟨vs, e2, _⟩ := (show ∃ vs, H p = some (.lst vs) ∧ AVs K Z As S H vs xs from r.at_ j p _ hA e)
        exact .inl ⟨rfl, vs, .inl (.inl e2)⟩
      | dead => exact k2.elim
      | rng => exact k2.elim
      | dct _ => exact k2.elim
theorem bm_wk {K : PySem.W.Frag} {T : String} {r : V → List V → Hp → VK → Prop} {R : AV → List AV → Store → PQ → Prop} {g : G} {ga : GA} (hr : VRm K r R) (σ : L2.St) (H : Hp) (Q : VK) (h : tD K (gM T R g ga) σ H Q) : tBM K T r (tD K g) (tDA K ga) σ H Q := by
  obtain ⟨Z, As, S, env, P, rl, sl, hg, hQ⟩ := h
  refine ⟨Z, As, S, env, _, rl, sl, hg, fun a S1 As1 x H1 h1 po1 rl1 av1 => ⟨kd_ty rl1 av1 h1.1, ?_⟩⟩
  refine ⟨Z, As1, S1, env, _, rl1, sl.po po1, h1.2, fun as S2 As2 xs H2 h2 po2 rl2 av2 => ?_⟩
  exact hr Z As2 S2 H2 x xs a as P Q rl2 (av1.po po2) av2 h2 (hQ.later (po1.trans po2))
section
variable {X : Cx} {o e : Expr} {es : List Expr} {g : G} {ga : GA} {name : Str} {apos cpos : Pos} {T id : String} {r : V → List V → Hp → VK → Prop} {R : AV → List AV → Store → PQ → Prop}
theorem pd_bm (pa : PlainAttrs T) (slot : Slot T name id) (hty : typeOf (.builtin id) = pure (.type "method_descriptor")) (hm : MtR X id r) (hr : VRm X.K r R) (ho : PD X o g) (ha : PDA X (e :: es) ga)
    (hbase : attributeBase o name X.env (eval o X.env) = eval o X.env := by rfl)
    (hfew : ((backTo cpos (starEach (e :: es) X.env)).all (fun x => !x.1) && (backToKw cpos (keywordEach [] X.env)).all (fun x => x.1.isSome)
      && decide ((e :: es).length + ([] : List Keyword).length + (if ([] : List Keyword).isEmpty then 0 else 1) < 30)) = true := by rfl)
    (hline : (apos.endLine == cpos.line) = true := by rfl) (hs : starEach (e :: es) X.env = (false, eval e X.env) :: starEach es X.env := by rfl) (hplain : (backTo cpos (starEach es X.env)).any (·.1) = false := by rfl) :
    PD X (.Call (.Attribute o name apos) (e :: es) [] cpos) (gM T R g ga) := PEwk (pe_bm pa slot hty hm ho ha hbase hfew hline hs hplain) (bm_wk hr)
end
section
variable {K : PySem.W.Frag}
/-- sep.join(list or tuple of texts) -/
def dJoin : AV → List AV → Store → PQ → Prop := fun a as S P => match a, as with
  | .d (.str s), [b] => match (vw S b).bind seqD with
    | some ds => match txts ds with
      | some ys => (ys.map (·.length)).sum + ys.length * s.length ≤ 16777216 ∧ P (.d (.str (Txt.join s ys))) S
      | none => False
    | none => False
  | _, _ => False
theorem sizeLine_big : 16777216 ≤ sizeLine := by rw [sizeLine_eq]; decide
theorem join_len {s : Str} {ys : List Str} (h : (ys.map (·.length)).sum + ys.length * s.length ≤ 16777216) : (Txt.join s ys).length ≤ sizeLine := by
  show (PySem.Builtin.Str.glued s ys).length ≤ sizeLine
  rw [StrLaws.glued_eq_join]
  exact Nat.le_trans (Nat.le_trans (PySem.StrLaws.join_length_le s ys) h) sizeLine_big
theorem cutS_len (z : Str) (lo hi : Option Int) : (cutS z lo hi).length ≤ z.length := by
  show (List.toArray _).size ≤ z.cps.size
  rw [List.size_toArray, List.length_take, List.length_drop, Array.length_toList]
  omega
def rJoin (K : PySem.W.Frag) : V → List V → Hp → VK → Prop := fun x xs H Q => ∃ a p, ∃ ys : List Str, x = .str a ∧ xs = [.ref p] ∧ (SqL K H p (ys.map V.str) ∨ SqT K H p (ys.map V.str)) ∧
    (ys.map (·.length)).sum + ys.length * a.length ≤ 16777216 ∧ Q (.str (Txt.join a ys)) H
theorem vr_join : VRm K (rJoin K) dJoin := by
  intro Z As S H x xs a as P Q rl av avs h k
  unfold dJoin at h
  split at h
  · rename_i s b
    split at h
    · rename_i ds e
      split at h
      · rename_i ys e2
        obtain ⟨y, e3, e4⟩ := Option.bind_eq_some_iff.mp e
        cases avs with
        | cons b1 t =>
          cases t
          cases av
          obtain ⟨p, vs, rfl, hp, t1⟩ := vw_seq rl b1 e3 e4
          rw [strs_eq e2] at t1
          rw [dvs_strs t1] at hp
          exact ⟨s, p, ys, rfl, rfl, hp, h.1, k.d rl (fun _ => .str _ (join_len h.1)) h.2⟩
      · exact h.elim
    · exact h.elim
  · exact h.elim
/-- own.append(x) -/
def dAppend : AV → List AV → Store → PQ → Prop := fun a as S P => match a, as with
  | .m k, [b] => match S[k]? with
    | some (.lst xs) => xs.length < sizeLine ∧ P (.d .none) (S.set k (.lst (xs ++ [b])))
    | _ => False
  | _, _ => False
theorem vr_append : VRm K rAppend dAppend := by
  intro Z As S H x xs a as P Q rl av avs h k
  unfold dAppend at h
  split at h
  · rename_i j b
    split at h
    · rename_i ys e
      cases avs with
      | cons b1 t =>
        cases t
        obtain ⟨p, rfl, hA⟩ := av
        obtain ⟨vs, e2, q⟩ := (show ∃ vs, H p = some (.lst vs) ∧ AVs K Z As S H vs ys from rl.at_ j p _ hA e)
        obtain ⟨po, rl'⟩ := put_mut (o' := .lst (ys ++ [b])) (u := .lst (vs ++ [_])) rl hA e (by simp) (by simp) fun ex e3 => ⟨_, e3, (q.append (.cons b1 .nil)).ex ex ⟨[], by simp⟩⟩
        exact ⟨p, vs, _, rfl, rfl, e2, by rw [q.length]; exact h.1, k _ _ _ _ _ h.2 po rl' .non⟩
    · exact h.elim
  · exact h.elim
end
/-! ### own[i] = x -/
def ggSubM (g gi : G) : GG := fun v env S P => g env S fun a S1 => gi env S1 fun i S2 => match a, i with
  | .m k, .d (.int j) => match S2[k]? with
    | some (.lst xs) => match ixN xs.length j with
      | some n => P env (S2.set k (.lst (xs.set n v)))
      | none => False
    | _ => False
  | _, _ => False
theorem AVs.set {K : PySem.W.Frag} {Z As : List Addr} {S : Store} {H : Hp} {vs : List V} {as : List AV} {v : V} {a : AV} (r : AVr K Z As S H v a) (h : AVs K Z As S H vs as) : ∀ n : Nat, AVs K Z As S H (vs.set n v) (as.set n a) := by
  induction h with
  | nil => intro n; exact .nil
  | cons x t ih =>
    intro n
    cases n with
    | zero => exact .cons r t
    | succ n => exact .cons x (ih n)
theorem pdg_subM {X : Cx} {o i : Expr} {g gi : G} {pos : Pos} (ho : PD X o g) (hi : PD X i gi)
    (ha : ∀ v, assign (.Subscript o i pos) X.env v = (do
      let ov ← holding [v] (eval o X.env)
      let iv ← holding [v, ov] (eval i X.env)
      standAt pos
      holding [v, ov, iv] (setItem ov iv v)
      release [v, ov, iv] []) := by intro _; rfl) : PDG X (.Subscript o i pos) (ggSubM g gi) := PGwk (pg_sub ho hi set_list ha) fun v σ H Q h => by
  obtain ⟨Z, As, S, env, a, P, rl, sl, av, hg, k⟩ := h
  refine ⟨Z, As, S, env, _, rl, sl, hg, fun b S1 As1 x H1 h1 po1 rl1 av1 => ?_⟩
  refine ⟨Z, As1, S1, env, _, rl1, sl.po po1, h1, fun c S2 As2 y H2 h2 po2 rl2 av2 => ?_⟩
  have av1' := av1.po po2
  split at h2
  · rename_i j n
    split at h2
    · rename_i ys e
      split at h2
      · rename_i m e2
        obtain ⟨p, rfl, hA⟩ := av1'
        cases av2
        obtain ⟨vs, e3, q⟩ := (show ∃ vs, H2 p = some (.lst vs) ∧ AVs X.K Z As2 S2 H2 vs ys from rl2.at_ j p _ hA e)
        obtain ⟨po, rl'⟩ := put_mut (o' := .lst (ys.set m a)) (u := .lst (vs.set m v)) rl2 hA e (by simp) (by simp) fun ex e4 => ⟨_, e4, ((q.set (av.po (po1.trans po2)) m).ex ex ⟨[], by simp⟩)⟩
        refine ⟨p, vs, n, m, rfl, rfl, e3, by rw [q.length]; exact e2, ?_⟩
        exact k env _ _ σ _ h2 ((po1.trans po2).trans po) rl' ((sl.po (po1.trans po2)).po po)
      · exact h2.elim
    · exact h2.elim
  · exact h2.elim
/-! ### slices -/
section
variable {X : Cx} {e : Expr} {lo hi : Option Expr} {g : G} {gl gh : GO} {pos p2 : Pos}
theorem POwk {e : Option Expr} {t t' : L2.TO} (h : PO X e t) (w : ∀ σ H Q, t' σ H Q → t σ H Q) : PO X e t' := ⟨fun pins s σ H Q I hw => h.run pins s σ H Q I (w σ H Q hw)⟩
theorem pdo_none : PDO X none goNone := POwk po_none fun σ H Q h => by
  obtain ⟨Z, As, S, env, P, rl, sl, hg, k⟩ := h
  exact k none S As H hg Po.refl rl
theorem pdo_some (h : PD X e g) : PDO X (some e) (goSome g) := POwk (po_some h) fun σ H Q h => by
  obtain ⟨Z, As, S, env, P, rl, sl, hg, k⟩ := h
  refine ⟨Z, As, S, env, _, rl, sl, hg, fun a S1 As1 x H1 h1 po1 rl1 av1 => ?_⟩
  match a, h1, av1 with
  | .d (.int i), h1, av1 =>
    cases av1
    exact ⟨i, rfl, k (some i) S1 As1 H1 h1 po1 rl1⟩
def cutD (ds : List PyData) (lo hi : Option Int) : List PyData := (ds.drop (HT.sIx ds.length 0 lo)).take (HT.sIx ds.length ds.length hi - HT.sIx ds.length 0 lo)
/-- x[lo:hi] -/
def dSl : AV → Option Int → Option Int → Store → PQ → Prop := fun a lo hi S P => match vw S a with
  | some (.list ds) => P (.d (.list (cutD ds lo hi))) S
  | some (.tuple ds) => P (.d (.tuple (cutD ds lo hi))) S
  | some (.str z) => P (.d (.str (cutS z lo hi))) S
  | _ => False
def gSl (g : G) (gl gh : GO) : G := fun env S P => g env S fun a S1 => gl env S1 fun l S2 => gh env S2 fun h S3 => dSl a l h S3 P
def rSlAll (K : PySem.W.Frag) : V → Option Int → Option Int → Hp → VK → Prop := fun x lo hi H Q => rSlL K x lo hi H Q ∨ rSlA K x lo hi H Q ∨ rSlS x lo hi H Q
theorem sl_all : SlR X (rSlAll X.K) := SlR.or sl_list (SlR.or sl_tupA sl_str)
theorem DVs.cut {K : PySem.W.Frag} {L : Addr → Prop} {H : Hp} {vs : List V} {ds : List PyData} (h : DVs K L H vs ds) (lo hi : Option Int) : DVs K L H (cutV vs lo hi) (cutD ds lo hi) := by
  unfold cutV cutD
  rw [h.length]
  exact (h.drop _).take _
theorem pd_slice (he : PD X e g) (hl : PDO X lo gl) (hu : PDO X hi gh) : PD X (.Subscript e (.Slice lo hi none p2) pos) (gSl g gl gh) := PEwk (pe_slice sl_all he hl hu) fun σ H Q h => by
  obtain ⟨Z, As, S, env, P, rl, sl, hg, hQ⟩ := h
  refine ⟨Z, As, S, env, _, rl, sl, hg, fun a S1 As1 x H1 h1 po1 rl1 av1 => ?_⟩
  refine ⟨Z, As1, S1, env, _, rl1, sl.po po1, h1, fun l S2 As2 H2 h2 po2 rl2 => ?_⟩
  refine ⟨Z, As2, S2, env, _, rl2, (sl.po po1).po po2, h2, fun u S3 As3 H3 h3 po3 rl3 => ?_⟩
  have av3 := av1.po (po2.trans po3)
  have k := hQ.later ((po1.trans po2).trans po3)
  unfold dSl at h3
  split at h3
  · rename_i ds e
    obtain ⟨p, vs, rfl, hp, t⟩ := vw_list rl3 av3 e
    exact .inl ⟨p, vs, rfl, .inl (.inl hp), fun q nq => k.lst rl3 nq (t.cut l u) h3⟩
  · rename_i ds e
    have a2 := vw_d e (by intro ds z; cases z)
    subst a2
    obtain ⟨p, vs, rfl, hp, t⟩ := vw_tup av3 e
    refine .inr (.inl ⟨p, vs, rfl, hp, fun w => ?_, fun _ q nq => k.tup rl3 nq (t.cut l u) h3⟩)
    have e2 : cutD ds l u = ds := by
      unfold cutD
      rw [← t.length, w.1, w.2, List.drop_zero, Nat.sub_zero, t.length, List.take_length]
    rw [e2] at h3
    exact k.here rl3 (a := .d (.tuple ds)) av3 h3
  · rename_i z e
    have hz : z.length ≤ sizeLine := by
      cases vw_any rl3 av3 e with
      | str _ z => exact z
    exact .inr (.inr ⟨z, vw_str av3 e, hz, k.d rl3 (fun _ => .str _ (Nat.le_trans (cutS_len z l u) hz)) h3⟩)
  · exact h3.elim
end
/-! ### zip of two -/
def zipD (xs ys : List PyData) : List PyData := (xs.zip ys).map fun p => .tuple [p.1, p.2]
def giZip (ga : GA) : GI := fun env S P => ga env S fun as S1 => match as with
  | [.d (.list xs), .d (.list ys)] => P (zipD xs ys) S1
  | [.d (.tuple xs), .d (.tuple ys)] => P (zipD xs ys) S1
  | _ => False
theorem walk_zipT {K : PySem.W.Frag} {a b : Addr} {xs ys : List V} {n : Nat} (hn : n = min xs.length ys.length) : Walk (RZ.ItzT K a b) n (fun H => SqT K H a xs ∧ SqT K H b ys) (YPair (fun i => xs[i]?) (fun i => ys[i]?)) := by
  subst hn
  refine ⟨fun i _ hi q => ?_, fun _ q => ⟨xs, ys, q.1, q.2, by omega⟩, fun i H v H' _ q y => ?_⟩
  · have h1 : i < xs.length := by omega
    have h2 : i < ys.length := by omega
    exact ⟨xs, ys, xs[i], ys[i], q.1, q.2, by simp [h1], by simp [h2]⟩
  · obtain ⟨T, x, z, h1, h2, h3, h4, h5⟩ := y
    exact ⟨T, x, z, h1, h2, h3, h4 xs q.1, h5 ys q.2⟩
theorem zip_turn {K : PySem.W.Frag} {Z As As' : List Addr} {S S' : Store} {H H' H'' : Hp} {xs ys : List V} {ds es : List PyData} {i : Nat} {v : V} {Z' : List Addr} (t1 : DVs K (lv Z As S) H xs ds) (t2 : DVs K (lv Z As S) H ys es)
    (p2 : Ex (lv Z As S) H (lv Z' As' S') H') (rl2 : Rl K Z' As' S' H') (y : YPair (fun i => xs[i]?) (fun i => ys[i]?) i H' v H'') : ∃ d, (zipD ds es)[i]? = some d ∧ Po Z' As' S' H' As' S' H'' ∧ Rl K Z' As' S' H'' ∧ DV K (lv Z' As' S') H'' v d := by
  obtain ⟨T, a, b, rfl, nT, rfl, e1, e2⟩ := y
  obtain ⟨d1, g1, q1⟩ := t1.got e1
  obtain ⟨d2, g2, q2⟩ := t2.got e2
  have po : Po Z' As' S' H' As' S' (upd H' T (.tup [a, b])) := Po.new rl2 nT
  refine ⟨.tuple [d1, d2], ?_, po, rl2.new nT, .tup (rl2.notLive nT) upd_same (.cons (DV.ex (p2.trans po.ext) _ _ q1) (.cons (DV.ex (p2.trans po.ext) _ _ q2) .nil))⟩
  unfold zipD
  rw [List.getElem?_map, List.getElem?_zip_eq_some (z := (d1, d2)) |>.mpr ⟨g1, g2⟩]
  rfl
theorem zipD_len (xs ys : List PyData) : (zipD xs ys).length = min xs.length ys.length := by unfold zipD; rw [List.length_map, List.length_zip]
theorem pdi_zip {X : Cx} {e e2 : Expr} {ga : GA} {p pos tpos : Pos} {elts : List Expr} {kk : Nat} (hg : Gl X "zip") (hm : X.mg "zip" = none) (ha : PDA X [e, e2] ga)
    (hs : starEach [e, e2] X.env = (false, eval e X.env) :: starEach [e2] X.env := by rfl) (hpl : (backTo pos (starEach [e2] X.env)).any (·.1) = false := by rfl) :
    PDI X (.Tuple elts kk tpos) (.Call (.Name "zip" p) [e, e2] [] pos) (giZip ga) := PIwk (RZ.pi_zipA hg hm ha hs hpl) fun σ H R h => by
  obtain ⟨Z, As, S, env, P, rl, sl, hg, k⟩ := h
  refine ⟨Z, As, S, env, _, rl, sl, hg, fun r S1 As1 v H1 h1 po1 rl1 av1 => ?_⟩
  match r, h1, av1 with
  | [.d (.list ds), .d (.list es)], h1, av1 =>
    cases av1 with
    | cons a1 t =>
      cases t with
      | cons a2 t =>
        cases t
        cases a1 with
        | @lst a xs _ na ea ta =>
          cases a2 with
          | @lst b ys _ nb eb tb =>
            refine ⟨a, b, xs, ys, rfl, .inl ⟨.inl (.inl ea), .inl (.inl eb), k _ S1 As1 H1 _ h1 po1 rl1 ⟨fun H => SqL X.K H a xs ∧ SqL X.K H b ys, YPair (fun i => xs[i]?) (fun i => ys[i]?), walk_zip (by rw [zipD_len, ta.length, tb.length]), ?_, ?_⟩⟩⟩
            · exact fun Z2 A2 S2 H2 p2 => ⟨.inl (.inl (p2 a _ ea na).2), .inl (.inl (p2 b _ eb nb).2)⟩
            · exact fun i Z2 A2 S2 H2 x H3 hi p2 rl2 y => zip_turn ta tb p2 rl2 y
  | [.d (.tuple ds), .d (.tuple es)], h1, av1 =>
    cases av1 with
    | cons a1 t =>
      cases t with
      | cons a2 t =>
        cases t
        have f : ∀ {v : V} {ds : List PyData}, DV X.K (lv Z As1 S1) H1 v (.tuple ds) → ∃ a xs, v = .ref a ∧ (∀ Z2 A2 S2 H2, Ex (lv Z As1 S1) H1 (lv Z2 A2 S2) H2 → SqT X.K H2 a xs) ∧ DVs X.K (lv Z As1 S1) H1 xs ds := fun {v ds} h => by
          cases h with
          | @tup a xs _ n e t => exact ⟨a, xs, rfl, fun Z2 A2 S2 H2 p2 => .inl (.inl (p2 a _ e n).2), t⟩
          | @tupK a xs _ e t => exact ⟨a, xs, rfl, fun _ _ _ _ _ => sqt_up e, t⟩
        obtain ⟨a, xs, rfl, fa, ta⟩ := f a1
        obtain ⟨b, ys, rfl, fb, tb⟩ := f a2
        refine ⟨a, b, xs, ys, rfl, .inr ⟨fa Z As1 S1 H1 Ex.refl, fb Z As1 S1 H1 Ex.refl, k _ S1 As1 H1 _ h1 po1 rl1 ⟨fun H => SqT X.K H a xs ∧ SqT X.K H b ys, YPair (fun i => xs[i]?) (fun i => ys[i]?), walk_zipT (by rw [zipD_len, ta.length, tb.length]), ?_, ?_⟩⟩⟩
        · exact fun Z2 A2 S2 H2 p2 => ⟨fa Z2 A2 S2 H2 p2, fb Z2 A2 S2 H2 p2⟩
        · exact fun i Z2 A2 S2 H2 x H3 hi p2 rl2 y => zip_turn ta tb p2 rl2 y
/-! ### repr -/
mutual
theorem DV.reads {X : Cx} {pins : List (Addr × Obj)} {σ : L2.St} {H : Hp} {s : Shared} {L : Addr → Prop} {o : Obj} (I : Inv X pins σ H s) (ko : s.heap.get? sysModules = some o) (kc : o.cls = .type "dict") : ∀ (d : PyData) (v : V) (u : Value), DV X.K L H v d → RelV v u → ∃ as, Reads s.heap u d as ∧ sysModules ∉ as
  | .none, _, _, h, r => by cases h; cases r; exact ⟨_, .none, by simp⟩
  | .bool b, _, _, h, r => by cases h; cases r; exact ⟨_, .bool b, by simp⟩
  | .int i, _, _, h, r => by cases h; obtain ⟨t, rfl⟩ := r; exact ⟨_, .int i t, by simp⟩
  | .str x, _, _, h, r => by cases h; obtain ⟨t, rfl⟩ := r; exact ⟨_, .str x t, by simp⟩
  | .list ds, _, _, h, r => by
    cases h with
    | lst n e t =>
      cases r
      obtain ⟨its, rv, ⟨ob, n, ho, hc, _, hd⟩, _⟩ := I.list (.inl (.inl e))
      obtain ⟨as, hr, na⟩ := DVs.reads I ko kc ds _ _ t rv
      refine ⟨_, .list ho hc hd hr, ?_⟩
      simp only [List.mem_cons, not_or]
      exact ⟨ne_sys ko kc ho hc, na⟩
  | .tuple ds, v, _, h, r => by
    obtain ⟨p, vs, e0, hp, t⟩ := dv_tup h
    subst e0
    cases r
    obtain ⟨its, rv, ⟨ob, ho, hc, n, hd⟩, _⟩ := I.tuple hp
    have hx : DVs X.K L H vs ds := t
    obtain ⟨as, hr, na⟩ := DVs.reads I ko kc ds _ _ hx rv
    exact ⟨_, .tuple ho hc hd hr, na⟩
  | .dict _, _, _, h, r => by
    cases h with
    | dct n e => exact DX.reads I ko kc (.dct e) r
theorem DVs.reads {X : Cx} {pins : List (Addr × Obj)} {σ : L2.St} {H : Hp} {s : Shared} {L : Addr → Prop} {o : Obj} (I : Inv X pins σ H s) (ko : s.heap.get? sysModules = some o) (kc : o.cls = .type "dict") : ∀ (ds : List PyData) (vs : List V) (us : List Value), DVs X.K L H vs ds → Vals vs us → ∃ as, ReadsAll s.heap us ds as ∧ sysModules ∉ as
  | [], _, _, h, r => by cases h; cases r; exact ⟨_, .nil, by simp⟩
  | d :: ds, _, _, h, r => by
    cases h with
    | cons h1 h2 =>
      cases r with
      | cons r1 r2 =>
        obtain ⟨as, q1, n1⟩ := DV.reads I ko kc d _ _ h1 r1
        obtain ⟨bs, q2, n2⟩ := DVs.reads I ko kc ds _ _ h2 r2
        exact ⟨_, .cons q1 q2, by simp [n1, n2]⟩
end
def reprOk (d : PyData) : Prop := d.showable = true ∧ d.depth ≤ 40 ∧ d.shown.length ≤ sizeLine
def rRepr (K : PySem.W.Frag) : List V → Hp → VK → Prop := fun xs H Q => ∃ (v : V) (d : PyData), xs = [v] ∧ DV K (fun _ => False) H v d ∧ reprOk d ∧ Q (.str d.shown) H
theorem call_repr {X : Cx} {o : Obj} (hgd : X.A.guards = some []) (hu : X.A.units + 64 < cLine) (ks : X.K.lookup sysModules = some o) (kc : o.cls = .type "dict") : CallR X (.builtin "repr") (rRepr X.K) := by
  intro pins s σ H xs us Q I r h
  obtain ⟨v, d, rfl, hd, ⟨h1, h2, h3⟩, q⟩ := h
  obtain ⟨u, rfl, r1⟩ := vals1 r
  have ref : ∀ a, v = .ref a → wpAny (model X.prog X.w) X.A (call (.builtin "repr") [u]) (EP X pins σ Q) X.xe s := fun a e => by
    subst e
    cases (show u = Value.ref a from r1)
    obtain ⟨as, rd, na⟩ := DV.reads I (I.kIn _ _ ks) kc d _ _ hd rfl
    exact repr_of_reads' rd h1 (fun _ => na) hgd (by omega) (fun _ _ e => e) (fun h' u tk hk => ⟨.str d.shown, H, I.kept (t' := tk) hk, ⟨u, rfl⟩, q⟩) h3
  cases hd with
  | non =>
    cases (show u = Value.none from r1)
    exact PySem.P.repr_of_none ⟨.str _, H, I.tok _, ⟨_, rfl⟩, q⟩
  | bl b =>
    cases (show u = Value.bool b from r1)
    exact PySem.P.repr_of_bool ⟨.str _, H, I.tok _, ⟨_, rfl⟩, by cases b <;> exact q⟩
  | int i =>
    obtain ⟨t, rfl⟩ := r1
    exact PySem.P.repr_of_int (by simpa [PyData.showable] using h1) ⟨.str _, H, I.tok _, ⟨_, rfl⟩, q⟩
  | str z _ =>
    obtain ⟨t, rfl⟩ := r1
    exact PySem.P.repr_of_str ⟨.str _, H, I.tok _, ⟨_, rfl⟩, q⟩ h3
  | lst _ _ _ => exact ref _ rfl
  | tup _ _ _ => exact ref _ rfl
  | tupK _ _ => exact ref _ rfl
  | dct _ _ => exact ref _ rfl
def dRepr : List AV → Store → PQ → Prop := fun as S P => match as with
  | [a] => match vw S a with
    | some d => reprOk d ∧ P (.d (.str d.shown)) S
    | none => False
  | _ => False
theorem vr_repr {K : PySem.W.Frag} : VRn K (rRepr K) dRepr := by
  intro Z As S H xs as P Q rl av h k
  unfold dRepr at h
  split at h
  · rename_i a
    cases av with
    | cons a1 t =>
      cases t
      split at h
      · rename_i d e
        exact ⟨_, d, rfl, vw_any rl a1 e, h.1, k.d rl (fun _ => .str _ h.1.2.2) h.2⟩
      · exact h.elim
  · exact h.elim
/-! ### tables of the module: text keys, written values -/
structure KTab (K : PySem.W.Frag) (w : World) (d : Addr) (T : Str → Option PyData) : Prop where
  at_ : ∃ es n, KDict K w d es n
  get : ∀ z, ∃ r : Option Value, PySem.W.nsIn K d z = some r ∧ r.isSome = (T z).isSome ∧ ∀ x, T z = some x → ∃ u v, r = some u ∧ RelV v u ∧ ∀ L H, DV K L H v x
def dInTab (T : Str → Option PyData) (neg : Bool) : AV → AV → Store → PQ → Prop := fun a b S P => match a with
  | .d (.str z) => P (.d (.bool (cond neg (!(T z).isSome) (T z).isSome))) S
  | _ => False
def rInTab (K : PySem.W.Frag) (d : Addr) (T : Str → Option PyData) (neg : Bool) : R2 := fun x y H Q => ∃ z, x = .str z ∧ y = .ref d ∧ Q (.bl (cond neg (!(T z).isSome) (T z).isSome)) H
theorem op_inTab {X : Cx} {d : Addr} {T : Str → Option PyData} (D : KTab X.K X.w d T) : OpR X (compareOp .In) (rInTab X.K d T false) := by
  intro pins s σ H x y v u Q I rx ry h
  obtain ⟨z, rfl, rfl, q⟩ := h
  obtain ⟨es, n, kd⟩ := D.at_
  obtain ⟨r, e1, e2, _⟩ := D.get z
  exact op_in_kd kd pins s σ H _ _ v u Q I rx ry ⟨z, r, rfl, rfl, e1, by rw [e2]; exact q⟩
theorem op_notInTab {X : Cx} {d : Addr} {T : Str → Option PyData} (D : KTab X.K X.w d T) : OpR X (compareOp .NotIn) (rInTab X.K d T true) := by
  intro pins s σ H x y v u Q I rx ry h
  obtain ⟨z, rfl, rfl, q⟩ := h
  obtain ⟨es, n, kd⟩ := D.at_
  obtain ⟨r, e1, e2, _⟩ := D.get z
  exact op_notIn_kd kd pins s σ H _ _ v u Q I rx ry ⟨z, r, rfl, rfl, e1, by rw [e2]; exact q⟩
end DL
/-! one rule for a sign; defs by their names -/
namespace DL
open PySem PySem.Spec PyProof.Rows L2
theorem OpRor {X : Cx} {f : Value → Value → Sem Value} {r r' : R2} (h : OpR X f r) (h' : OpR X f r') : OpR X f fun x y H Q => r x y H Q ∨ r' x y H Q := by
  intro pins s σ H x y v u Q I rx ry q
  rcases q with q | q
  · exact h pins s σ H x y v u Q I rx ry q
  · exact h' pins s σ H x y v u Q I rx ry q
section
variable {X : Cx} {a b c e : Expr} {es : List Expr} {g g1 g2 g3 : G} {gt gt1 gt2 : GT} {ga : GA} {pos p : Pos}
/-! names -/
theorem pdv (i : Nat) {x : Str} (hN : X.N[i]? = some x := by rfl) (hv : Vis X.env.scope x := by first | exact Or.inl rfl | exact Or.inr (Or.inl rfl) | exact Or.inr (Or.inr rfl)) (hd : (x == ("__debug__" : Str)) = false := by decide)
    (hcd : (x == ("__classdict__" : Str)) = false := by decide) : PD X (.Name x pos) (gVar i) := pd_var hN hv hd hcd
theorem pdt_v (i : Nat) {x : Str} (hN : X.N[i]? = some x := by rfl) (hv : Vis X.env.scope x := by first | exact Or.inl rfl | exact Or.inr (Or.inl rfl) | exact Or.inr (Or.inr rfl)) (hd : (x == ("__debug__" : Str)) = false := by decide)
    (hcd : (x == ("__classdict__" : Str)) = false := by decide) : PDT X (.Name x pos) (gTest (gVar i)) := pdt_val (pdv i hN hv hd hcd)
theorem pd_gint {x : Str} {i : Int} (h : ∃ t, X.mg x = some (.int i t)) (hg : Gl X x) (hd : (x == ("__debug__" : Str)) = false := by decide) : PD X (.Name x pos) (gC (.int i)) := by
  obtain ⟨t, h⟩ := h
  exact pd_tC (pe_glob (v := .int i) hg h ⟨t, rfl⟩ hd) fun _ _ => .int _
theorem pd_gstr {x : Str} {i : Str} (h : ∃ t, X.mg x = some (.str i t)) (hg : Gl X x) (hz : i.length ≤ sizeLine := by decide +kernel) (hd : (x == ("__debug__" : Str)) = false := by decide) : PD X (.Name x pos) (gC (.str i)) := by
  obtain ⟨t, h⟩ := h
  exact pd_tC (pe_glob (v := .str i) hg h ⟨t, rfl⟩ hd) fun _ _ => .str _ hz
theorem pd_gref {x : Str} {d : Addr} (h : X.mg x = some (.ref d)) (hg : Gl X x) (hd : (x == ("__debug__" : Str)) = false := by decide) : PD X (.Name x pos) (gV (.ref d)) := pd_tV (pe_glob (v := .ref d) hg h rfl hd)
/-- a built-in class as an argument -/
theorem pd_ty {x : Str} (T : String) (hg : Gl X x) (hm : X.mg x = none) (hv : bootBuiltins x = some (.type T)) (hn : x ≠ "__name__" := by decide) (hd : (x == ("__debug__" : Str)) = false := by decide) : PD X (.Name x pos) (gV (.ty T)) :=
  pd_tV (pe_bltn (v := .ty T) hg hm hv rfl hn hd)
/-! - x -/
def dNeg : AV → Store → PQ → Prop := fun a S P => match a with
  | .d (.int i) => P (.d (.int (-i))) S
  | _ => False
theorem pd_neg (h : PD X a g) : PD X (.UnaryOp .USub a pos) (gUn dNeg g) := PEwk (pe_un un_neg h) fun σ H Q h => by
  obtain ⟨Z, As, S, env, P, rl, sl, hg, hQ⟩ := h
  refine ⟨Z, As, S, env, _, rl, sl, hg, fun a S1 As1 x H1 h1 po1 rl1 av1 => ?_⟩
  match a, h1, av1 with
  | .d (.int i), h1, av1 =>
    cases av1
    exact ⟨i, rfl, (hQ.later po1).d rl1 (fun _ => .int _) h1⟩
/-! + - * % // ** -/
theorem pd_add (h1 : PD X a g1) (h2 : PD X b g2) : PD X (.BinOp a .Add b pos) (gBin dAdd g1 g2) := pd_op op_addAll vr_add h1 h2
theorem pd_sub (h1 : PD X a g1) (h2 : PD X b g2) : PD X (.BinOp a .Sub b pos) (gBin dSub g1 g2) := pd_op op_sub vr_sub h1 h2
theorem pd_mod (h1 : PD X a g1) (h2 : PD X b g2) : PD X (.BinOp a .Mod b pos) (gBin dMod g1 g2) := pd_op op_mod vr_mod h1 h2
theorem pd_fdiv (h1 : PD X a g1) (h2 : PD X b g2) : PD X (.BinOp a .FloorDiv b pos) (gBin dFdiv g1 g2) := pd_op op_fdiv vr_fdiv h1 h2
theorem pd_pow (h1 : PD X a g1) (h2 : PD X b g2) : PD X (.BinOp a .Pow b pos) (gBin dPow g1 g2) := pd_op op_pow vr_pow h1 h2
theorem pd_mul (h1 : PD X a g1) (h2 : PD X b g2) : PD X (.BinOp a .Mult b pos) (gBin dMul g1 g2) := pd_op op_mul vr_mul h1 h2
/-- a tuple n times -/
theorem pd_rep (h1 : PD X a g1) (h2 : PD X b g2) : PD X (.BinOp a .Mult b pos) (gBin dRep g1 g2) := pd_op op_repT vr_rep h1 h2
/-! comparisons -/
def dOrd (p : Int → Int → Bool) (q : Str → Str → Bool) : AV → AV → Store → PQ → Prop := fun a b S P => match vw S a, vw S b with
  | some (.int i), some (.int j) => P (.d (.bool (p i j))) S
  | some (.str x), some (.str y) => P (.d (.bool (q x y))) S
  | _, _ => False
def rOrd (p : Int → Int → Bool) (q : Str → Str → Bool) : R2 := fun x y H Q => rI0 (fun i j => .bl (p i j)) x y H Q ∨ ∃ i j, x = .str i ∧ y = .str j ∧ Q (.bl (q i j)) H
theorem vr_ord {K : PySem.W.Frag} {p : Int → Int → Bool} {q : Str → Str → Bool} : VR2 K (rOrd p q) (dOrd p q) := by
  intro Z As S H x y a b P Q rl ax ay h k
  unfold dOrd at h
  split at h
  · rename_i i j e1 e2
    exact .inl ⟨i, j, vw_int ax e1, vw_int ay e2, k.d rl (fun _ => .bl _) h⟩
  · rename_i i j e1 e2
    exact .inr ⟨i, j, vw_str ax e1, vw_str ay e2, k.d rl (fun _ => .bl _) h⟩
  · exact h.elim
def sLt (x y : Str) : Bool := decide (x.cps.toList < y.cps.toList)
def sLe (x y : Str) : Bool := !decide (y.cps.toList < x.cps.toList)
def sGt (x y : Str) : Bool := decide (y.cps.toList < x.cps.toList)
def sGe (x y : Str) : Bool := !decide (x.cps.toList < y.cps.toList)
def iLt (i j : Int) : Bool := decide (i < j)
def iLe (i j : Int) : Bool := decide (i ≤ j)
def iGt (i j : Int) : Bool := decide (j < i)
def iGe (i j : Int) : Bool := decide (j ≤ i)
theorem op_ltA : OpR X (compareOp .Lt) (rOrd iLt sLt) := OpRor op_lt op_lt_str
theorem op_leA : OpR X (compareOp .LtE) (rOrd iLe sLe) := OpRor op_le op_le_str
theorem op_gtA : OpR X (compareOp .Gt) (rOrd iGt sGt) := OpRor op_gt op_gt_str
theorem op_geA : OpR X (compareOp .GtE) (rOrd iGe sGe) := OpRor op_ge op_ge_str
theorem pd_lt (h1 : PD X a g1) (h2 : PD X b g2) : PD X (.Compare a [.Lt] [b] pos) (gBin (dOrd iLt sLt) g1 g2) := pd_cmp op_ltA vr_ord h1 h2 (nobehind _ (by decide) (by decide))
theorem pd_le (h1 : PD X a g1) (h2 : PD X b g2) : PD X (.Compare a [.LtE] [b] pos) (gBin (dOrd iLe sLe) g1 g2) := pd_cmp op_leA vr_ord h1 h2 (nobehind _ (by decide) (by decide))
theorem pd_gt (h1 : PD X a g1) (h2 : PD X b g2) : PD X (.Compare a [.Gt] [b] pos) (gBin (dOrd iGt sGt) g1 g2) := pd_cmp op_gtA vr_ord h1 h2 (nobehind _ (by decide) (by decide))
theorem pd_ge (h1 : PD X a g1) (h2 : PD X b g2) : PD X (.Compare a [.GtE] [b] pos) (gBin (dOrd iGe sGe) g1 g2) := pd_cmp op_geA vr_ord h1 h2 (nobehind _ (by decide) (by decide))
theorem pdt_lt (h1 : PD X a g1) (h2 : PD X b g2) : PDT X (.Compare a [.Lt] [b] pos) (gTest (gBin (dOrd iLt sLt) g1 g2)) := pdt_cmp op_ltA vr_ord h1 h2 (nobehind _ (by decide) (by decide))
theorem pdt_le (h1 : PD X a g1) (h2 : PD X b g2) : PDT X (.Compare a [.LtE] [b] pos) (gTest (gBin (dOrd iLe sLe) g1 g2)) := pdt_cmp op_leA vr_ord h1 h2 (nobehind _ (by decide) (by decide))
theorem pdt_gt (h1 : PD X a g1) (h2 : PD X b g2) : PDT X (.Compare a [.Gt] [b] pos) (gTest (gBin (dOrd iGt sGt) g1 g2)) := pdt_cmp op_gtA vr_ord h1 h2 (nobehind _ (by decide) (by decide))
theorem pdt_ge (h1 : PD X a g1) (h2 : PD X b g2) : PDT X (.Compare a [.GtE] [b] pos) (gTest (gBin (dOrd iGe sGe) g1 g2)) := pdt_cmp op_geA vr_ord h1 h2 (nobehind _ (by decide) (by decide))
theorem pd_lele (h1 : PD X a g1) (h2 : PD X b g2) (h3 : PD X c g3) (hm : lastMarks [.LtE, .LtE] [b, c] = false := by with_unfolding_all rfl) : PD X (.Compare a [.LtE, .LtE] [b, c] pos) (gChain (dOrd iLe sLe) (dOrd iLe sLe) g1 g2 g3) := pd_chain op_leA op_leA vr_ord vr_ord h1 h2 h3 hm
theorem pdt_lele (h1 : PD X a g1) (h2 : PD X b g2) (h3 : PD X c g3) (hm : lastMarks [.LtE, .LtE] [b, c] = false := by with_unfolding_all rfl) : PDT X (.Compare a [.LtE, .LtE] [b, c] pos) (gTest (gChain (dOrd iLe sLe) (dOrd iLe sLe) g1 g2 g3)) := pdt_chain op_leA op_leA vr_ord vr_ord h1 h2 h3 hm
theorem pd_ltlt (h1 : PD X a g1) (h2 : PD X b g2) (h3 : PD X c g3) (hm : lastMarks [.Lt, .Lt] [b, c] = false := by with_unfolding_all rfl) : PD X (.Compare a [.Lt, .Lt] [b, c] pos) (gChain (dOrd iLt sLt) (dOrd iLt sLt) g1 g2 g3) := pd_chain op_ltA op_ltA vr_ord vr_ord h1 h2 h3 hm
theorem pdt_ltlt (h1 : PD X a g1) (h2 : PD X b g2) (h3 : PD X c g3) (hm : lastMarks [.Lt, .Lt] [b, c] = false := by with_unfolding_all rfl) : PDT X (.Compare a [.Lt, .Lt] [b, c] pos) (gTest (gChain (dOrd iLt sLt) (dOrd iLt sLt) g1 g2 g3)) := pdt_chain op_ltA op_ltA vr_ord vr_ord h1 h2 h3 hm
/-- ==, != -/
def dEq (neg : Bool) : AV → AV → Store → PQ → Prop := fun a b S P => match vw S a, vw S b with
  | some x, some y => match scD x y with
    | some c => P (.d (.bool (cond neg (!c) c))) S
    | none => (SeqAt.shaped x = true ∧ SeqAt.shaped y = true) ∧ P (.d (.bool (cond neg (!PyData.eqv x y) (PyData.eqv x y)))) S
  | _, _ => False
theorem vr_eq {K : PySem.W.Frag} : VR2 K (fun x y H Q => rEq x y H Q ∨ rEqD K x y H Q) (dEq false) := by
  intro Z As S H x y a b P Q rl ax ay h k
  unfold dEq at h
  split at h
  · rename_i d e e1 e2
    split at h
    · rename_i c e3
      obtain ⟨z1, z2⟩ := scD_scal (vw_any rl ax e1) (vw_any rl ay e2) e3
      exact .inl ⟨z1, by rw [z2]; exact k.d rl (fun _ => .bl _) h⟩
    · exact .inr ⟨d, e, DV.dp d _ (shaped_lay h.1.1) (vw_any rl ax e1), DV.dp e _ (shaped_lay h.1.2) (vw_any rl ay e2), h.1.1, h.1.2, k.d rl (fun _ => .bl _) h.2⟩
  · exact h.elim
theorem vr_ne {K : PySem.W.Frag} : VR2 K (fun x y H Q => rNe x y H Q ∨ rNeD K x y H Q) (dEq true) := by
  intro Z As S H x y a b P Q rl ax ay h k
  unfold dEq at h
  split at h
  · rename_i d e e1 e2
    split at h
    · rename_i c e3
      obtain ⟨z1, z2⟩ := scD_scal (vw_any rl ax e1) (vw_any rl ay e2) e3
      exact .inl ⟨z1, by rw [z2]; exact k.d rl (fun _ => .bl _) h⟩
    · exact .inr ⟨d, e, DV.dp d _ (shaped_lay h.1.1) (vw_any rl ax e1), DV.dp e _ (shaped_lay h.1.2) (vw_any rl ay e2), h.1.1, h.1.2, k.d rl (fun _ => .bl _) h.2⟩
  · exact h.elim
theorem room_eq {k : Nat} (hr : Room k X.A) : X.A.units + 65 < cLine := by have := hr.un; omega
theorem pd_eq {k : Nat} (hr : Room k X.A) (h1 : PD X a g1) (h2 : PD X b g2) : PD X (.Compare a [.Eq] [b] pos) (gBin (dEq false) g1 g2) := pd_cmp (OpRor op_eq (op_eqD (by have := room_eq hr; omega))) vr_eq h1 h2 (nobehind _ (by decide) (by decide))
theorem pd_ne {k : Nat} (hr : Room k X.A) (h1 : PD X a g1) (h2 : PD X b g2) : PD X (.Compare a [.NotEq] [b] pos) (gBin (dEq true) g1 g2) := pd_cmp (OpRor op_ne (op_neD (by have := room_eq hr; omega))) vr_ne h1 h2 (nobehind _ (by decide) (by decide))
theorem pdt_eq {k : Nat} (hr : Room k X.A) (h1 : PD X a g1) (h2 : PD X b g2) : PDT X (.Compare a [.Eq] [b] pos) (gTest (gBin (dEq false) g1 g2)) := pdt_cmp (OpRor op_eq (op_eqD (by have := room_eq hr; omega))) vr_eq h1 h2 (nobehind _ (by decide) (by decide))
theorem pdt_ne {k : Nat} (hr : Room k X.A) (h1 : PD X a g1) (h2 : PD X b g2) : PDT X (.Compare a [.NotEq] [b] pos) (gTest (gBin (dEq true) g1 g2)) := pdt_cmp (OpRor op_ne (op_neD (by have := room_eq hr; omega))) vr_ne h1 h2 (nobehind _ (by decide) (by decide))
theorem pd_is (h1 : PD X a g1) (h2 : PD X b g2) : PD X (.Compare a [.Is] [b] pos) (gBin (dIsN false) g1 g2) := pd_cmp op_isN vr_isN h1 h2 (nobehind _ (by decide) (by decide))
theorem pd_isnot (h1 : PD X a g1) (h2 : PD X b g2) : PD X (.Compare a [.IsNot] [b] pos) (gBin (dIsN true) g1 g2) := pd_cmp op_notN vr_notN h1 h2 (nobehind _ (by decide) (by decide))
theorem pdt_is (h1 : PD X a g1) (h2 : PD X b g2) : PDT X (.Compare a [.Is] [b] pos) (gTest (gBin (dIsN false) g1 g2)) := pdt_cmp op_isN vr_isN h1 h2 (nobehind _ (by decide) (by decide))
theorem pdt_isnot (h1 : PD X a g1) (h2 : PD X b g2) : PDT X (.Compare a [.IsNot] [b] pos) (gTest (gBin (dIsN true) g1 g2)) := pdt_cmp op_notN vr_notN h1 h2 (nobehind _ (by decide) (by decide))
/-! in -/
def dIn (neg : Bool) : AV → AV → Store → PQ → Prop := fun a b S P => match vw S b with
  | some (.str _) => dInC neg a b S P
  | some (.tuple _) => dInS neg a b S P
  | some (.list _) => dInS neg a b S P ∨ dInD neg a b S P
  | _ => False
theorem vr_in {K : PySem.W.Frag} : VR2 K (fun x y H Q => (∃ (c : Nat) (z : Str), x = .str ⟨#[c]⟩ ∧ y = .str z ∧ Q (.bl (decide (c ∈ z.cps.toList))) H) ∨ rIn K false x y H Q ∨ rInD K x y H Q) (dIn false) := by
  intro Z As S H x y a b P Q rl ax ay h k
  unfold dIn at h
  split at h
  · exact .inl (vr_inC Z As S H x y a b P Q rl ax ay h k)
  · exact .inr (.inl (vr_inS false Z As S H x y a b P Q rl ax ay h k))
  · rcases h with h | h
    · exact .inr (.inl (vr_inS false Z As S H x y a b P Q rl ax ay h k))
    · exact .inr (.inr (vr_inD Z As S H x y a b P Q rl ax ay h k))
  · exact h.elim
theorem vr_notInD {K : PySem.W.Frag} : VR2 K (rNotInD K) (dInD true) := by
  intro Z As S H x y a b P Q rl ax ay h k
  unfold dInD at h
  split at h
  · rename_i d ds e1 e2
    exact ⟨d, ds, DV.dp d _ (shaped_lay h.1.1) (vw_any rl ax e1), DV.dp _ _ (shaped_lay h.1.2) (vw_any rl ay e2), h.1.1, h.1.2, k.d rl (fun _ => .bl _) h.2⟩
  · exact h.elim
theorem vr_notIn {K : PySem.W.Frag} : VR2 K (fun x y H Q => (∃ (c : Nat) (z : Str), x = .str ⟨#[c]⟩ ∧ y = .str z ∧ Q (.bl (!decide (c ∈ z.cps.toList))) H) ∨ rIn K true x y H Q ∨ rNotInD K x y H Q) (dIn true) := by
  intro Z As S H x y a b P Q rl ax ay h k
  unfold dIn at h
  split at h
  · exact .inl (vr_notInC Z As S H x y a b P Q rl ax ay h k)
  · exact .inr (.inl (vr_inS true Z As S H x y a b P Q rl ax ay h k))
  · rcases h with h | h
    · exact .inr (.inl (vr_inS true Z As S H x y a b P Q rl ax ay h k))
    · exact .inr (.inr (vr_notInD Z As S H x y a b P Q rl ax ay h k))
  · exact h.elim
theorem op_inAll {k : Nat} (hr : Room k X.A) : OpR X (compareOp .In) (fun x y H Q => (∃ (c : Nat) (z : Str), x = .str ⟨#[c]⟩ ∧ y = .str z ∧ Q (.bl (decide (c ∈ z.cps.toList))) H) ∨ rIn X.K false x y H Q ∨ rInD X.K x y H Q) := OpRor op_in_sign (OpRor op_in_seq (op_inD (room_eq hr)))
theorem op_notInAll {k : Nat} (hr : Room k X.A) : OpR X (compareOp .NotIn) (fun x y H Q => (∃ (c : Nat) (z : Str), x = .str ⟨#[c]⟩ ∧ y = .str z ∧ Q (.bl (!decide (c ∈ z.cps.toList))) H) ∨ rIn X.K true x y H Q ∨ rNotInD X.K x y H Q) := OpRor op_notIn_sign (OpRor op_notIn_seq (op_notInD (room_eq hr)))
theorem pd_in {k : Nat} (hr : Room k X.A) (h1 : PD X a g1) (h2 : PD X b g2) (hm : behindInMarks .In b = false) : PD X (.Compare a [.In] [b] pos) (gBin (dIn false) g1 g2) := pd_cmp (op_inAll hr) vr_in h1 h2 hm
theorem pd_notin {k : Nat} (hr : Room k X.A) (h1 : PD X a g1) (h2 : PD X b g2) (hm : behindInMarks .NotIn b = false) : PD X (.Compare a [.NotIn] [b] pos) (gBin (dIn true) g1 g2) := pd_cmp (op_notInAll hr) vr_notIn h1 h2 hm
theorem pdt_in {k : Nat} (hr : Room k X.A) (h1 : PD X a g1) (h2 : PD X b g2) (hm : behindInMarks .In b = false) : PDT X (.Compare a [.In] [b] pos) (gTest (gBin (dIn false) g1 g2)) := pdt_cmp (op_inAll hr) vr_in h1 h2 hm
theorem pdt_notin {k : Nat} (hr : Room k X.A) (h1 : PD X a g1) (h2 : PD X b g2) (hm : behindInMarks .NotIn b = false) : PDT X (.Compare a [.NotIn] [b] pos) (gTest (gBin (dIn true) g1 g2)) := pdt_cmp (op_notInAll hr) vr_notIn h1 h2 hm
/-! x[i] -/
def sgn (c : Nat) : Str := ⟨#[c]⟩
def dIx : AV → AV → Store → PQ → Prop := fun a b S P => match vw S a, vw S b with
  | some (.list ds), some (.int i) => match atI ds i with
    | some d => P (.d d) S
    | none => False
  | some (.tuple ds), some (.int i) => match atI ds i with
    | some d => P (.d d) S
    | none => False
  | some (.str z), some (.int i) => match atI z.cps.toList i with
    | some c => P (.d (.str (sgn c))) S
    | none => False
  | _, _ => False
theorem vr_ix {K : PySem.W.Frag} : VR2 K (rIx K) dIx := by
  intro Z As S H x y a b P Q rl ax ay h k
  unfold dIx at h
  split at h
  · rename_i ds i e1 e2
    refine .inl (vr_ixL Z As S H x y a b P Q rl ax ay ?_ k)
    unfold dIxL
    rw [e1, e2]
    exact h
  · rename_i ds i e1 e2
    refine .inr (.inl (vr_ixT Z As S H x y a b P Q rl ax ay ?_ k))
    unfold dIxT
    rw [e1, e2]
    exact h
  · rename_i z i e1 e2
    split at h
    · rename_i c e3
      have hz : z.length ≤ sizeLine := by
        cases vw_any rl ax e1 with
        | str _ z => exact z
      exact .inr (.inr ⟨z, i, c, vw_str ax e1, vw_int ay e2, hz, e3, k.d rl (fun _ => .str _ (by rw [sizeLine_eq]; show 1 ≤ _; decide)) h⟩)
    · exact h.elim
  · exact h.elim
theorem pd_at (h1 : PD X a g1) (h2 : PD X b g2) (hs : PlainIx b := by exact fun _ _ => rfl) : PD X (.Subscript a b pos) (gBin dIx g1 g2) := pd_ix ix_seq vr_ix h1 h2 hs
/-- a table of the module -/
def dTab (T : Str → Option PyData) : AV → AV → Store → PQ → Prop := fun _ b S P => match b with
  | .d (.str z) => match T z with
    | some x => P (.d x) S
    | none => False
  | _ => False
def rTab (d : Addr) (K : PySem.W.Frag) (w : World) : R2 := fun x y H Q => x = .ref d ∧ rIxD K w x y H Q
theorem pd_tab {d : Addr} {x : Str} {px : Pos} {T : Str → Option PyData} (D : KTab X.K X.w d T) (hx : X.mg x = some (.ref d)) (hg : Gl X x) (h2 : PD X b g2) (hs : PlainIx b := by exact fun _ _ => rfl) (hd : (x == ("__debug__" : Str)) = false := by decide) :
    PD X (.Subscript (.Name x px) b pos) (gBin (dTab T) (gV (.ref d)) g2) := by
  refine PEwk (pe_ix ix_kdict (pe_glob (v := .ref d) hg hx rfl hd) h2 hs) fun σ H Q h => ?_
  obtain ⟨Z, As, S, env, P, rl, sl, hg, hQ⟩ := h
  refine ⟨Z, As, S, env, _, rl, sl, hg, fun b S2 As2 y H2 h2 po2 rl2 av2 => ?_⟩
  match b, h2, av2 with
  | .d (.str z), h2, av2 =>
    cases av2
    obtain ⟨es, n, kd⟩ := D.at_
    obtain ⟨r, e1, e2, e3⟩ := D.get z
    change (match T z with | some x => P (.d x) S2 | none => False) at h2
    split at h2
    · rename_i x e4
      obtain ⟨u, v, rfl, rv, dv⟩ := e3 x e4
      exact ⟨d, z, v, rfl, rfl, ⟨es, n, u, kd.at_, kd.lit, e1, rv⟩, (hQ.later po2).d rl2 (fun _ => dv _ _) h2⟩
    · exact h2.elim
theorem tab_in_wk {K : PySem.W.Frag} {d : Addr} {T : Str → Option PyData} {neg : Bool} : VR2 K (rInTab K d T neg) (fun a b S P => match b with
    | .v (.ref q) => q = d ∧ dInTab T neg a b S P
    | _ => False) := by
  intro Z As S H x y a b P Q rl ax ay h k
  split at h
  · rename_i q
    obtain ⟨rfl, h⟩ := h
    unfold dInTab at h
    split at h
    · rename_i z
      cases ax
      exact ⟨z, rfl, ay, k.d rl (fun _ => .bl _) h⟩
    · exact h.elim
  · exact h.elim
theorem pdt_notinTab {d : Addr} {x : Str} {px : Pos} {T : Str → Option PyData} (D : KTab X.K X.w d T) (hx : X.mg x = some (.ref d)) (hg : Gl X x) (h1 : PD X a g1) (hm : behindInMarks .NotIn (.Name x px) = false := by rfl) (hd : (x == ("__debug__" : Str)) = false := by decide) :
    PDT X (.Compare a [.NotIn] [.Name x px] pos) (gTest (gBin (fun a b S P => match b with
    | .v (.ref q) => q = d ∧ dInTab T true a b S P
    | _ => False) g1 (gV (.ref d)))) := pdt_cmp (op_notInTab D) tab_in_wk h1 (pd_gref hx hg hd) hm
/-! pairs and triples at once -/
theorem pds_par {i j : Nat} {x y : Str} {px py pt : Pos} {kt k2 pt2} (hc : X.calm = true) (hN : X.N.Nodup) (hi : X.N[i]? = some x) (hj : X.N[j]? = some y) (hij : i ≠ j)
    (hx : X.env.scope.names.lookup x = some .local) (hy : X.env.scope.names.lookup y = some .local) (ha : PDA X [a, b] ga)
    (hw : swappedStores [.Tuple [.Name x px, .Name y py] kt pt] (.Tuple [a, b] k2 pt2) X.env = pure (some [x, y]))
    (hs : swapsWithSole [.Tuple [.Name x px, .Name y py] kt pt] (.Tuple [a, b] k2 pt2) pos.line X.env = pure false := by rfl) :
    PDS X (.Assign [.Tuple [.Name x px, .Name y py] kt pt] (.Tuple [a, b] k2 pt2) pos) (gsPar i j ga) := PSwk (ps_par hc hN hi hj hij hx hy ha hw hs) fun D σ H h => by
  obtain ⟨Z, As, S, env, E, rl, sl, hg, k1, k2, k3, k4⟩ := h
  refine ⟨Z, As, S, env, _, rl, sl, hg, fun as S' As' vs H' h' po rl' av => ?_⟩
  match as, h', av with
  | [p, q], h', av =>
    cases av with
    | cons a1 t =>
      cases t with
      | cons a2 t =>
        cases t
        exact ⟨_, _, rfl, k1 _ S' As' _ H' h' po rl' (((sl.po po).set a1).set a2)⟩
def gsPar3 (i j l : Nat) (ga : GA) : GS := fun env S D => ga env S fun as S1 => match as with
  | [a, b, c] => D.nx (((env.set i (some a)).set j (some b)).set l (some c)) S1
  | _ => False
theorem pds_par3 {i j l : Nat} {x y z : Str} {px py pz pt : Pos} {kt k2 pt2} (hc : X.calm = true) (hN : X.N.Nodup) (hi : X.N[i]? = some x) (hj : X.N[j]? = some y) (hl : X.N[l]? = some z) (hij : i ≠ j) (hil : i ≠ l) (hjl : j ≠ l)
    (hx : X.env.scope.names.lookup x = some .local) (hy : X.env.scope.names.lookup y = some .local) (hz : X.env.scope.names.lookup z = some .local) (ha : PDA X [a, b, c] ga)
    (hw : swappedStores [.Tuple [.Name x px, .Name y py, .Name z pz] kt pt] (.Tuple [a, b, c] k2 pt2) X.env = pure (some [x, y, z]))
    (hs : swapsWithSole [.Tuple [.Name x px, .Name y py, .Name z pz] kt pt] (.Tuple [a, b, c] k2 pt2) pos.line X.env = pure false := by rfl) :
    PDS X (.Assign [.Tuple [.Name x px, .Name y py, .Name z pz] kt pt] (.Tuple [a, b, c] k2 pt2) pos) (gsPar3 i j l ga) := PSwk (ps_par3 hc hN hi hj hl hij hil hjl hx hy hz ha hw hs) fun D σ H h => by
  obtain ⟨Z, As, S, env, E, rl, sl, hg, k1, k2, k3, k4⟩ := h
  refine ⟨Z, As, S, env, _, rl, sl, hg, fun as S' As' vs H' h' po rl' av => ?_⟩
  match as, h', av with
  | [p, q, r], h', av =>
    cases av with
    | cons a1 t =>
      cases t with
      | cons a2 t =>
        cases t with
        | cons a3 t =>
          cases t
          exact ⟨_, _, _, rfl, k1 _ S' As' _ H' h' po rl' ((((sl.po po).set a1).set a2).set a3)⟩
end
/-! ### defs by their names -/
/-- a def as the top has left it -/
structure DefAt (K : PySem.W.Frag) (mg : Str → Option Value) (x : Str) (st : Stmt) (ps : List Str) : Prop where
  ex : ∃ f fd, Fun K x x st f fd ∧ mg x = some (.ref f) ∧ PySem.W.keepIn K (.ref f) = true ∧ Binds K fd ps [] ∧ ∀ (s : Shared) (us : List Value), us.length = ps.length → BindsTo s fd ⟨[], ps.zip us⟩ (ps.zip us)
/-- it keeps a promise -/
structure Own (P : Program) (w : World) (K : PySem.W.Frag) (mg : Str → Option Value) (base : Heap) (k : Nat) (x : Str) (ps : List Str) (W : WD) : Prop where
  ex : ∃ f fd, FnD P w K mg base k f fd ps W ∧ mg x = some (.ref f) ∧ PySem.W.keepIn K (.ref f) = true ∧ Binds K fd ps [] ∧ ∀ (s : Shared) (us : List Value), us.length = ps.length → BindsTo s fd ⟨[], ps.zip us⟩ (ps.zip us)
section
variable {P : Program} {w : World} {K : PySem.W.Frag} {mg : Str → Option Value} {base : Heap} {k : Nat} {x : Str} {N ps : List Str} {W : WD}
theorem okO {st : Stmt} {g : GS} (D : DefAt K mg x st ps) (S : FnScope N ps (defScope st)) (hlen : ∀ as S P, W as S P → as.length = ps.length)
    (hb : ∀ (f : Addr) (cdv : Value) (A : Around) (outer : List Env) (s : Shared) (H : Hp) (E : XK), A.guards = some [] → Room k (A.deeper (envOfC x (defScope st) s.heap.objs.size f cdv)) →
      PDSs (cxOf CX0 P w K mg base N x (defScope st) f cdv A outer s H E).nox (defBody st) g)
    (hw : ∀ args S P, W args S P → g (args.map some ++ List.replicate (N.length - ps.length) none) S ⟨fun _ S' => P (.d .none) S', P, fun _ _ => False, fun _ _ => False⟩) : Own P w K mg base (k + 1) x ps W := by
  obtain ⟨f, fd, F, h1, h2, h3, h4⟩ := D.ex
  exact ⟨f, fd, okD F S hlen (fun cdv A outer s H E hg hr => hb f cdv A outer s H E hg hr) hw, h1, h2, h3, h4⟩
theorem Own.imp {W' : WD} (O : Own P w K mg base k x ps W) (h : ∀ as S P, W' as S P → W as S P) : Own P w K mg base k x ps W' := by
  obtain ⟨f, fd, F, h1, h2, h3, h4⟩ := O.ex
  exact ⟨f, fd, F.imp h, h1, h2, h3, h4⟩
theorem Own.mono {j : Nat} (O : Own P w K mg base j x ps W) (h : j ≤ k) : Own P w K mg base k x ps W := by
  obtain ⟨f, fd, F, h1, h2, h3, h4⟩ := O.ex
  exact ⟨f, fd, FnG.mono F h, h1, h2, h3, h4⟩
end
section
variable {X : Cx} {j k : Nat} {x : Str} {ps : List Str} {W : WD} {p pos : Pos} {e : Expr} {es : List Expr} {kws : List Keyword} {ga gk : GA}
theorem pdc (O : Own X.prog X.w X.K X.mg X.base j x ps W) (hgd : X.A.guards = some []) (hr : Room k X.A) (hg : Gl X x) (ha : PDA X (e :: es) ga) (hjk : j ≤ k := by first | decide | omega) (hdb : (x == ("__debug__" : Str)) = false := by decide)
    (he : starEach (e :: es) X.env = (false, eval e X.env) :: starEach es X.env := by rfl) (hpl : (backTo pos (starEach es X.env)).any (·.1) = false := by rfl) : PD X (.Call (.Name x p) (e :: es) [] pos) (gApp W ga) := by
  obtain ⟨f, fd, F, h1, h2, h3, h4⟩ := O.ex
  exact pd_call F hgd (hr.mono hjk) hg h1 h2 h3 ha hdb he hpl
theorem pdck (O : Own X.prog X.w X.K X.mg X.base j x ps W) (hgd : X.A.guards = some []) (hr : Room k X.A) (hg : Gl X x) (hkw : PDK X kws gk) (hjk : j ≤ k := by first | decide | omega) (hall : (backToKw pos (keywordEach kws X.env)).all (·.1.isSome) = true := by rfl)
    (hks : (backToKw pos (keywordEach kws X.env)).filterMap (·.1) = ps := by rfl) (hdb : (x == ("__debug__" : Str)) = false := by decide)
    (hpl : ((backTo pos (starEach [] X.env)).any (·.1) || (backToKw pos (keywordEach kws X.env)).any (·.1.isNone)) = false := by rfl) : PD X (.Call (.Name x p) [] kws pos) (gApp W gk) := by
  obtain ⟨f, fd, F, h1, h2, h3, h4⟩ := O.ex
  exact pd_callK F hgd (hr.mono hjk) hg h1 h2 h4 hkw hall hks hdb hpl
end
end DL
/-! a list, a tuple, a dict is equal to no text -/
namespace DL
open PySem PySem.Spec PyProof.Rows L2 PySem.SeqAt
open PySem.MeetsSeq
theorem dict_eq_declines_str (l : Addr) (es : Array DictEntry) (n : Nat) (dd : Option Addr) (sl : Array (Option Value)) (b : Str) (u : Tok) :
    Meets (Builtin.«dict.__eq__» ⟨[.ref l, .str b u], []⟩) (fun _ R s => s.heap.get? l = some { cls := .type "dict", dict := dd, data := .dict es n, slots := sl } ∧ R (.ok (.ret .notImplemented)) s) :=
  .of_wp fun prog w A R s h => by obtain ⟨hp, g, d, tk, os⟩ := s; obtain ⟨hl, h⟩ := h; have f1 := F.sub_str_dict; wp_walk using wpAny_loadPart' hl; exact ⟨_, rfl, h⟩
theorem str_eq_declines_dict (b : Str) (u : Tok) (l : Addr) (es : Array DictEntry) (n : Nat) (dd : Option Addr) (sl : Array (Option Value)) :
    Meets (Builtin.«str.__eq__» ⟨[.str b u, .ref l], []⟩) (fun _ R s => s.heap.get? l = some { cls := .type "dict", dict := dd, data := .dict es n, slots := sl } ∧ R (.ok (.ret .notImplemented)) s) :=
  .of_wp fun prog w A R s h => by obtain ⟨hp, g, d, tk, os⟩ := s; obtain ⟨hl, h⟩ := h; wp_walk using wpAny_loadPart' hl; exact ⟨_, rfl, h⟩
theorem RcAt.dict_str {A : Around} {s : Shared} {l : Addr} {es : Array DictEntry} {n : Nat} {dd : Option Addr} {sl : Array (Option Value)} (b : Str) (u : Tok) (ho : s.heap.get? l = some { cls := .type "dict", dict := dd, data := .dict es n, slots := sl }) (hu : A.units < cLine) : SeqAt.RcAt A s (.ref l) (.str b u) false := fun prog w E Q h =>
  rc_eq_decline_or (k := false) ⟨_, ho, rfl⟩ (typeIs_str s b u) (by decide) F.sub_str_dict F.slot_dict_eq F.slot_str_eq_refl
    (fun _ hq => call_meets F.slot_dict_eq ⟨_, ho, rfl⟩ F.entry_dict_eq (F.args_dict_eq_2 _ _) (dict_eq_declines_str l es n dd sl b u) ⟨ho, hq⟩)
    (fun _ hq => call_meets F.slot_str_eq_refl (typeIs_str s b u) F.entry_str_eq (F.args_str_eq_2 _ _) (str_eq_declines_dict b u l es n dd sl) ⟨ho, hq⟩)
    (fun _ hq => wpAny_of_eq (rfl : isSame (.ref l) (.str b u) = pure false) hq) (.inr hu) h
def isSeqD : PyData → Bool
  | .list _ => true
  | .tuple _ => true
  | .dict _ => true
  | _ => false
def rEqT (K : PySem.W.Frag) : R2 := fun x y H Q => ∃ (d : PyData) (z : Str), y = .str z ∧ DV K (fun _ => False) H x d ∧ isSeqD d = true ∧ Q (.bl false) H
theorem op_eqT {X : Cx} (hu : X.A.units < cLine) : OpR X (compareOp .Eq) (rEqT X.K) := by
  intro pins s σ H x y v u Q I rx ry h
  obtain ⟨d, z, rfl, hd, hi, q⟩ := h
  obtain ⟨t, rfl⟩ := ry
  have fin : EP X pins σ Q (.bool false) s := ⟨.bl false, H, I, rfl, q⟩
  cases hd with
  | lst n e t =>
    obtain rfl : v = Value.ref _ := rx
    obtain ⟨its, rv, pl, _⟩ := I.list (.inl (.inl e))
    exact RcAt.list_str z _ pl.isList hu X.prog X.w _ _ fin
  | tup n e t =>
    obtain rfl : v = Value.ref _ := rx
    obtain ⟨its, rv, pl, _⟩ := I.tuple (.inl (.inl e))
    exact RcAt.tuple_str z _ pl hu X.prog X.w _ _ fin
  | tupK e t =>
    obtain rfl : v = Value.ref _ := rx
    obtain ⟨its, rv, pl, _⟩ := I.tuple (sqt_up e)
    exact RcAt.tuple_str z _ pl hu X.prog X.w _ _ fin
  | dct n e =>
    obtain rfl : v = Value.ref _ := rx
    obtain ⟨_, hne, vs, kv, ob, es, ep, ho, hx, hdt, _⟩ := (show ObjOk X.prog X.w H s.heap _ (.dK []) from I.hok _ _ e)
    obtain ⟨c, dd, dt, sl⟩ := ob
    have hc : c = .type "dict" := hx.1
    subst hc
    have hdt' : dt = .dict es ep := hdt
    subst hdt'
    exact RcAt.dict_str z _ ho hu X.prog X.w _ _ fin
  | non => cases hi
  | bl _ => cases hi
  | int _ => cases hi
  | str _ => cases hi
/-- x == text -/
def eqT (x : PyData) (z : Str) : Bool := match x with | .str y => decide (y = z) | _ => false
theorem vr_eqT {K : PySem.W.Frag} : VR2 K (fun x y H Q => rEq x y H Q ∨ rEqT K x y H Q) (fun a b S P => match vw S b with
    | some (.str z) => match vw S a with
      | some x => P (.d (.bool (eqT x z))) S
      | none => False
    | _ => False) := by
  intro Z As S H x y a b P Q rl ax ay h k
  split at h
  · rename_i z e2
    split at h
    · rename_i d e1
      have hv := vw_any rl ax e1
      have hy := vw_str ay e2
      subst hy
      have hz : z.length ≤ sizeLine := by
        cases vw_any rl ay e2 with
        | str _ z => exact z
      have s := @scD_scal K (fun _ => False) H x (.str z) d (.str z)
      cases d with
      | none => obtain ⟨z1, z2⟩ := s hv (.str z hz) rfl; exact .inl ⟨z1, by rw [z2]; exact k.d rl (fun _ => .bl _) h⟩
      | bool b => obtain ⟨z1, z2⟩ := s hv (.str z hz) rfl; exact .inl ⟨z1, by rw [z2]; exact k.d rl (fun _ => .bl _) h⟩
      | int b => obtain ⟨z1, z2⟩ := s hv (.str z hz) rfl; exact .inl ⟨z1, by rw [z2]; exact k.d rl (fun _ => .bl _) h⟩
      | str b => obtain ⟨z1, z2⟩ := s hv (.str z hz) rfl; exact .inl ⟨z1, by rw [z2]; exact k.d rl (fun _ => .bl _) h⟩
      | list ds => exact .inr ⟨_, z, rfl, hv, rfl, k.d rl (fun _ => .bl _) h⟩
      | tuple ds => exact .inr ⟨_, z, rfl, hv, rfl, k.d rl (fun _ => .bl _) h⟩
      | dict ds => exact .inr ⟨_, z, rfl, hv, rfl, k.d rl (fun _ => .bl _) h⟩
    · exact h.elim
  · exact h.elim
def gEqT : AV → AV → Store → PQ → Prop := fun a b S P => match vw S b with
    | some (.str z) => match vw S a with
      | some x => P (.d (.bool (eqT x z))) S
      | none => False
    | _ => False
theorem pd_eqT {X : Cx} {a b : Expr} {g1 g2 : G} {pos : Pos} {k : Nat} (hr : Room k X.A) (h1 : PD X a g1) (h2 : PD X b g2) : PD X (.Compare a [.Eq] [b] pos) (gBin gEqT g1 g2) := pd_cmp (OpRor op_eq (op_eqT (by have := room_eq hr; omega))) vr_eqT h1 h2 (nobehind _ (by decide) (by decide))
theorem pdt_eqT {X : Cx} {a b : Expr} {g1 g2 : G} {pos : Pos} {k : Nat} (hr : Room k X.A) (h1 : PD X a g1) (h2 : PD X b g2) : PDT X (.Compare a [.Eq] [b] pos) (gTest (gBin gEqT g1 g2)) := pdt_cmp (OpRor op_eq (op_eqT (by have := room_eq hr; omega))) vr_eqT h1 h2 (nobehind _ (by decide) (by decide))
theorem room_u {k : Nat} {A : Around} (hr : Room k A) : A.units + 64 < cLine := by have := hr.un; omega
theorem bt_bool : bootBuiltins "bool" = some (.type "bool") := by decide +kernel
theorem bt_int : bootBuiltins "int" = some (.type "int") := by decide +kernel
/-- the built-in names that no name of the module hides -/
def bltNames : List Str := ["isinstance", "len", "all", "any", "sum", "max", "min", "abs", "repr", "list", "tuple", "str", "int", "bool", "dict", "range", "zip", "divmod", "sorted", "enumerate", "set", "reversed"]
structure Bl (mg : Str → Option Value) : Prop where
  b : ∀ x : Str, x ∈ bltNames → mg x = none
end DL
/-! comprehensions and loops by a relation of their items -/
namespace DL
open PySem PySem.Spec PyProof.Rows L2
theorem compD_rel {gg : GG} {ge : G} (R : PyData → PyData → Prop) {env : DEnv} {S : Store} {P : PQ} : ∀ {items acc : List PyData},
    (∀ x, x ∈ items → ∀ Q : PQ, (∀ y, R x y → Q (.d y) S) → gg (.d x) env S fun env' S' => ge env' S' Q) → (∀ ys, Paired R items ys → P (.d (.list (acc ++ ys))) S) → compD gg gtYes ge items acc env S P
  | [], acc, _, k => by
    have := k [] .nil
    rw [List.append_nil] at this
    exact this
  | x :: xs, acc, h, k => by
    refine h x (List.mem_cons_self ..) _ fun y hy => ?_
    show compD gg gtYes ge xs (acc ++ [y]) env S P
    refine compD_rel R (fun z hz => h z (List.mem_cons_of_mem _ hz)) fun ys hys => ?_
    rw [List.append_assoc]
    exact k (y :: ys) (.cons hy hys)
theorem compD_map {gg : GG} {ge : G} (f : PyData → PyData) {env : DEnv} {S : Store} {P : PQ} : ∀ {items acc : List PyData},
    (∀ x, x ∈ items → ∀ Q : PQ, Q (.d (f x)) S → gg (.d x) env S fun env' S' => ge env' S' Q) → P (.d (.list (acc ++ items.map f))) S → compD gg gtYes ge items acc env S P
  | [], acc, _, k => by
    rw [List.map_nil, List.append_nil] at k
    exact k
  | x :: xs, acc, h, k => by
    refine h x (List.mem_cons_self ..) _ ?_
    show compD gg gtYes ge xs (acc ++ [f x]) env S P
    refine compD_map f (fun z hz => h z (List.mem_cons_of_mem _ hz)) ?_
    rw [List.append_assoc]
    exact k
theorem compD_filter {gg : GG} {gt : GT} {ge : G} (p : PyData → Bool) (f : PyData → PyData) {env : DEnv} {S : Store} {P : PQ} : ∀ {items acc : List PyData},
    (∀ x, x ∈ items → ∀ (Q : PQ) (Nn : Store → Prop), (p x = true → Q (.d (f x)) S) → (p x = false → Nn S) → gg (.d x) env S fun env' S' => gt env' S' fun b S2 => cond b (ge env' S2 Q) (Nn S2)) →
    P (.d (.list (acc ++ (items.filter p).map f))) S → compD gg gt ge items acc env S P
  | [], acc, _, k => by
    rw [List.filter_nil, List.map_nil, List.append_nil] at k
    exact k
  | x :: xs, acc, h, k => by
    refine h x (List.mem_cons_self ..) _ _ (fun hp => ?_) (fun hp => ?_)
    · show compD gg gt ge xs (acc ++ [f x]) env S P
      refine compD_filter p f (fun z hz => h z (List.mem_cons_of_mem _ hz)) ?_
      rw [List.filter_cons_of_pos hp, List.map_cons] at k
      rw [List.append_assoc]
      exact k
    · refine compD_filter p f (fun z hz => h z (List.mem_cons_of_mem _ hz)) ?_
      rw [List.filter_cons_of_neg (by rw [hp]; simp)] at k
      exact k
/-- a loop whose turns keep I, or return -/
theorem loopD_inv {gg : GG} {body : GS} (I : DEnv → Store → Prop) {D : DE} : ∀ {items : List PyData} {env : DEnv} {S : Store},
    (∀ x, x ∈ items → ∀ env S, I env S → ∀ E : DE, (∀ e s, I e s → E.nx e s) → (∀ e s, I e s → E.ct e s) → E.rt = D.rt → E.bk = D.nx → gg (.d x) env S fun env' S' => body env' S' E) → (∀ env S, I env S → D.nx env S) → I env S → loopD gg body items env S D
  | [], env, S, _, k, i => k env S i
  | x :: xs, env, S, h, k, i => by
    refine h x (List.mem_cons_self ..) env S i _ (fun e s is => ?_) (fun e s is => ?_) rfl rfl
    · exact loopD_inv I (fun z hz => h z (List.mem_cons_of_mem _ hz)) k is
    · exact loopD_inv I (fun z hz => h z (List.mem_cons_of_mem _ hz)) k is
theorem Paired.get_left {R : PyData → PyData → Prop} : ∀ {xs ys : List PyData}, Paired R xs ys → ∀ y, y ∈ ys → ∃ x, x ∈ xs ∧ R x y
  | _, _, .nil, _, h => by cases h
  | _, _, .cons a t, y, h => by
    rcases List.mem_cons.mp h with rfl | h
    · exact ⟨_, List.mem_cons_self .., a⟩
    · obtain ⟨x, h1, h2⟩ := Paired.get_left t y h
      exact ⟨x, List.mem_cons_of_mem _ h1, h2⟩
/-! texts -/
theorem str_dec {x y : Str} : decide (x = y) = decide (x.cps.toList = y.cps.toList) := by
  by_cases h : x = y
  · rw [h]; simp
  · rw [decide_eq_false h, decide_eq_false]
    intro e
    obtain ⟨a⟩ := x
    obtain ⟨b⟩ := y
    exact h (congrArg Str.mk (Array.ext' e))
theorem lt_one (a b : Nat) : decide (([a] : List Nat) < [b]) = decide (a < b) := by
  by_cases h : a < b
  · rw [decide_eq_true h]
    exact decide_eq_true (List.Lex.rel h)
  · rw [decide_eq_false h]
    refine decide_eq_false fun z => ?_
    cases z with
    | rel q => exact h q
    | cons q => cases q
theorem cond_t {A B : Prop} {c : Bool} (h : c = true) (a : A) : cond c A B := by subst h; exact a
theorem cond_f {A B : Prop} {c : Bool} (h : c = false) (b : B) : cond c A B := by subst h; exact b
theorem cond_or {A B : Prop} {c : Bool} (a : c = true → A) (b : c = false → B) : cond c A B := by
  cases c with
  | true => exact a rfl
  | false => exact b rfl
end DL
namespace DL
open PySem PySem.Spec PyProof.Rows L2
theorem pdss_never {X : Cx} {sts : List Stmt} : PDSs X sts (fun _ _ _ => False) := PSswk pss_never fun D σ H h => by
  obtain ⟨Z, As, S, env, E, rl, sl, hg, _⟩ := h
  exact hg
/-- a def that is not called -/
theorem Own.never {P : Program} {w : World} {K : PySem.W.Frag} {mg : Str → Option Value} {base : Heap} {k : Nat} {x : Str} {N ps : List Str} {st : Stmt} (D : DefAt K mg x st ps) (S : FnScope N ps (defScope st)) : Own P w K mg base (k + 1) x ps (fun _ _ _ => False) :=
  okO D S (fun _ _ _ h => h.elim) (fun _ _ _ _ _ _ _ _ _ => pdss_never) (fun _ _ _ h => h)
/-- a table of the module under its name -/
structure TabAt (K : PySem.W.Frag) (w : World) (mg : Str → Option Value) (x : Str) (T : Str → Option PyData) (d : Addr) : Prop where
  tab : KTab K w d T
  at_ : mg x = some (.ref d)
theorem ix_t {a b : AV} {S : Store} {P : PQ} {ds : List PyData} {i : Int} {d : PyData} (e1 : vw S a = some (.tuple ds)) (e2 : vw S b = some (.int i)) (e3 : atI ds i = some d) (h : P (.d d) S) : dIx a b S P := by
  unfold dIx
  rw [e1, e2]
  show (match atI ds i with | some d => P (.d d) S | none => False)
  rw [e3]
  exact h
theorem ix_l {a b : AV} {S : Store} {P : PQ} {ds : List PyData} {i : Int} {d : PyData} (e1 : vw S a = some (.list ds)) (e2 : vw S b = some (.int i)) (e3 : atI ds i = some d) (h : P (.d d) S) : dIx a b S P := by
  unfold dIx
  rw [e1, e2]
  show (match atI ds i with | some d => P (.d d) S | none => False)
  rw [e3]
  exact h
theorem ix_s {a b : AV} {S : Store} {P : PQ} {z : Str} {i : Int} {c : Nat} (e1 : vw S a = some (.str z)) (e2 : vw S b = some (.int i)) (e3 : atI z.cps.toList i = some c) (h : P (.d (.str (sgn c))) S) : dIx a b S P := by
  unfold dIx
  rw [e1, e2]
  show (match atI z.cps.toList i with | some c => P (.d (.str (sgn c))) S | none => False)
  rw [e3]
  exact h
theorem at0 {x : PyData} {xs : List PyData} : atI (x :: xs) 0 = some x := atI_nat (j := 0) rfl
theorem at1 {x y : PyData} {xs : List PyData} : atI (x :: y :: xs) 1 = some y := atI_nat (j := 1) rfl
theorem at2 {x y z : PyData} {xs : List PyData} : atI (x :: y :: z :: xs) 2 = some z := atI_nat (j := 2) rfl
theorem at3 {x y z u : PyData} {xs : List PyData} : atI (x :: y :: z :: u :: xs) 3 = some u := atI_nat (j := 3) rfl
theorem cut1 (y : PyData) (ys : List PyData) : cutD (y :: ys) (some 1) none = ys := by
  unfold cutD
  have e : HT.sIx (y :: ys).length 0 (some 1) = 1 := by
    show HT.sIx (y :: ys).length 0 (some ((1 : Nat) : Int)) = 1
    rw [HT.sIx_nat]
    show min 1 (ys.length + 1) = 1
    omega
  rw [e, HT.sIx_none]
  show (ys).take (ys.length + 1 - 1) = ys
  rw [Nat.add_sub_cancel, List.take_length]
end DL
/-! law k61: the program's own defs -/
namespace K61
open PySem PySem.Spec PyProof.Rows L2 DL
def top (i : Nat) : Stmt := PySem.Challenge.pw_leastlinks_k91_whole_texts_of_code.main.body.getD i (.Pass ⟨0, 0, 0, 0⟩)
/-- the module's constants -/
structure Gc (K : PySem.W.Frag) (mg : Str → Option Value) : Prop where
  g_MOST_LETTERS : ∃ t, mg "MOST_LETTERS" = some (.int 8 t)
  g_OWN : ∃ t, mg "OWN" = some (.str "own" t)
  g_MOST_DEPTH : ∃ t, mg "MOST_DEPTH" = some (.int 5 t)
  g_MOST_PARTS : ∃ t, mg "MOST_PARTS" = some (.int 30 t)
  g_MOST_PARAMETERS : ∃ t, mg "MOST_PARAMETERS" = some (.int 4 t)
  g_DIGITS : ∃ t, mg "DIGITS" = some (.str "0123456789" t)
  g_BEGIN : ∃ t, mg "BEGIN" = some (.str "(" t)
  g_END : ∃ t, mg "END" = some (.str ")" t)
  g_ARROW : ∃ t, mg "ARROW" = some (.str "->" t)
  g_NO_LABEL : ∃ t, mg "NO_LABEL" = some (.str "-" t)
/-! ### plain Lean -/
def intD : PyData → Bool
  | .int _ => true
  | _ => false
def countD : PyData → Bool
  | .int i => decide (0 ≤ i)
  | _ => false
def letters (s : Str) : Bool := s.cps.toList.all fun c => decide (97 ≤ c) && decide (c ≤ 122)
def nameS (s : Str) : Bool := decide (1 ≤ s.length) && decide (s.length ≤ 8) && letters s
def nameD : PyData → Bool
  | .str s => nameS s
  | _ => false
def labelD : PyData → Bool
  | .tuple [a, b] => nameD a && countD b
  | _ => false
def kindD (x : PyData) : Bool := labelD x || eqT x "own"
/-- a def that tells a truth of one value -/
def WB (f : PyData → Bool) : WD := fun as S P => ∃ x, as = [.d x] ∧ P (.d (.bool (f x))) S
theorem WB.len {f : PyData → Bool} {as : List AV} {S : Store} {P : PQ} (h : WB f as S P) : as.length = 1 := by obtain ⟨x, rfl, _⟩ := h; rfl
section
variable {P : Program} {w : World} {K : PySem.W.Frag} {mg : Str → Option Value} {base : Heap}
abbrev s_is_integer : Stmt := top 7
theorem sc_is_integer : FnScope ["value"] ["value"] (defScope s_is_integer) := ⟨rfl, rfl, rfl, by decide +kernel, rfl, by decide +kernel, by decide +kernel⟩
theorem ok_is_integer (D : DefAt K mg "is_integer" s_is_integer ["value"]) (B : Bl mg) : Own P w K mg base 1 "is_integer" ["value"] (WB intD) := by
  have sc := sc_is_integer
  refine okO D sc (fun as S P h => h.len) (fun f cdv A outer s H E hg hr => (pdss_one (pds_ret (pd_and (pd_callB call_isi vr_isi (by rfl) (B.b _ (by decide)) boot_isinstance (pda_cons (pdv 0) (pda_cons (pd_ty "int" (by rfl) (B.b _ (by decide)) (by decide +kernel)) pda_nil))) (pd_one (pd_not (pd_callB call_isi vr_isi (by rfl) (B.b _ (by decide)) boot_isinstance (pda_cons (pdv 0) (pda_cons (pd_ty "bool" (by rfl) (B.b _ (by decide)) (by decide +kernel)) pda_nil))))))))) (fun args S P h => ?_)
  obtain ⟨x, rfl, h⟩ := h
  cases x <;> exact ⟨by decide, by first | exact ⟨by decide, h⟩ | exact h⟩
abbrev s_is_count : Stmt := top 8
theorem sc_is_count : FnScope ["value"] ["value"] (defScope s_is_count) := ⟨rfl, rfl, rfl, by decide +kernel, rfl, by decide +kernel, by decide +kernel⟩
theorem ok_is_count (D : DefAt K mg "is_count" s_is_count ["value"]) (o_is_integer : Own P w K mg base 1 "is_integer" ["value"] (WB intD)) : Own P w K mg base 2 "is_count" ["value"] (WB countD) := by
  have sc := sc_is_count
  refine okO D sc (fun as S P h => h.len) (fun f cdv A outer s H E hg hr => (pdss_one (pds_ret (pd_and (pdc o_is_integer hg hr (by rfl) (pda_cons (pdv 0) pda_nil)) (pd_one (pd_ge (pdv 0) (pd_int))))))) (fun args S P h => ?_)
  obtain ⟨x, rfl, h⟩ := h
  refine ⟨x, rfl, ?_⟩
  cases x <;> exact h
end
end K61
namespace K61
open PySem PySem.Spec PyProof.Rows L2 DL
section
variable {P : Program} {w : World} {K : PySem.W.Frag} {mg : Str → Option Value} {base : Heap}
abbrev s_is_name : Stmt := top 9
theorem sc_is_name : FnScope ["value", "letter"] ["value"] (defScope s_is_name) := ⟨rfl, rfl, rfl, by decide +kernel, rfl, by decide +kernel, by decide +kernel⟩
def okC (c : Nat) : Bool := decide (97 ≤ c) && decide (c ≤ 122)
theorem sLe_a (c : Nat) : sLe "a" (sgn c) = decide (97 ≤ c) := by
  show (!decide (([c] : List Nat) < [97])) = _
  rw [lt_one]
  by_cases h : 97 ≤ c
  · rw [decide_eq_true h, decide_eq_false (by omega)]; rfl
  · rw [decide_eq_false h, decide_eq_true (by omega)]; rfl
theorem sLe_z (c : Nat) : sLe (sgn c) "z" = decide (c ≤ 122) := by
  show (!decide (([122] : List Nat) < [c])) = _
  rw [lt_one]
  by_cases h : c ≤ 122
  · rw [decide_eq_true h, decide_eq_false (by omega)]; rfl
  · rw [decide_eq_false h, decide_eq_true (by omega)]; rfl
/-- what a sign of a text says -/
def okL : PyData → PyData
  | .str x => .bool (sLe "a" x && sLe x "z")
  | _ => .none
theorem name_all (z : Str) : bls ((z.cps.toList.map fun c => PyData.str (sgn c)).map okL) = some (z.cps.toList.map okC) := by
  rw [← bls_map, List.map_map, List.map_map]
  congr 1
  refine List.map_congr_left fun c _ => ?_
  show PyData.bool (sLe "a" (sgn c) && sLe (sgn c) "z") = PyData.bool (okC c)
  rw [sLe_a, sLe_z]
  rfl
theorem ok_is_name (D : DefAt K mg "is_name" s_is_name ["value"]) (B : Bl mg) (G : Gc K mg) : Own P w K mg base 1 "is_name" ["value"] (WB nameD) := by
  have sc := sc_is_name
  refine okO D sc (fun as S P h => h.len) (fun f cdv A outer s H E hg hr => (pdss_cons (pds_if (pdt_w (pdw_or (pdt_not (pdt_val (pd_callB call_isi vr_isi (by rfl) (B.b _ (by decide)) boot_isinstance (pda_cons (pdv 0) (pda_cons (pd_ty "str" (by rfl) (B.b _ (by decide)) (by decide +kernel)) pda_nil))))) (pdw_or1 (pdt_not (pdt_lele (pd_int) (pd_callB call_lenAll vr_len (by rfl) (B.b _ (by decide)) (by decide +kernel) (pda_cons (pdv 0) pda_nil)) (pd_gint G.g_MOST_LETTERS (by rfl))))))) (pdss_one (pds_ret (pd_bl))) pdss_nil) (pdss_one (pds_ret (pd_callB (cr_all rfl) vr_all (by rfl) (B.b _ (by decide)) (by decide +kernel) (pda_cons (pd_lc (own := [("letter", 1)]) rfl sc.nd (pdi_str (pdv 0)) (blkOk_by (N := ["value", "letter"]) (sc := defScope s_is_name) (by decide +kernel)) (cg_name (by decide)) (fun _ _ _ _ _ => (pg_name (i := 1) sc.nd rfl (Or.inl rfl))) (fun _ _ _ _ _ => pts_yes) (fun _ _ _ _ _ => (pd_lele (pd_str) (pdv 1) (pd_str)))) pda_nil)))))) (fun args S P h => ?_)
  obtain ⟨x, rfl, h⟩ := h
  refine ⟨by decide, ?_⟩
  cases x with
  | str z =>
    have h' : P (.d (.bool (nameS z))) S := h
    have fail : ¬ (1 ≤ z.length ∧ z.length ≤ 8) → P (.d (.bool false)) S := fun n => by
      have e : nameS z = false := by
        unfold nameS
        by_cases h1 : 1 ≤ z.length
        · rw [decide_eq_false (show ¬ z.length ≤ 8 from fun h2 => n ⟨h1, h2⟩)]; simp
        · rw [decide_eq_false h1]; simp
      rw [e] at h'
      exact h'
    refine cond_or (fun h1 => ?_) (fun h1 => ?_)
    · refine cond_or (fun h2 => ?_) (fun h2 => ?_)
      · refine fail fun ⟨_, n⟩ => ?_
        have h3 : iLe (z.length : Int) 8 = true := decide_eq_true (by omega)
        rw [h3] at h2
        cases h2
      · have e1 : 1 ≤ z.length := by have := of_decide_eq_true h1; omega
        have e2 : z.length ≤ 8 := by
          have h3 : iLe (z.length : Int) 8 = true := by cases c : iLe (z.length : Int) 8 <;> rw [c] at h2 <;> first | rfl | cases h2
          have := of_decide_eq_true h3
          omega
        refine ⟨?_, compD_map okL (fun x hx Q q => ?_) ?_⟩
        · rw [List.length_map, sizeLine_eq]
          have : z.cps.toList.length = z.length := by simp [Str.length]
          omega
        · obtain ⟨c, _, rfl⟩ := List.mem_map.mp hx
          refine cond_or (fun h3 => ?_) (fun h3 => ?_)
          · have q' : Q (.d (.bool (sLe "a" (sgn c) && sLe (sgn c) "z"))) S := q
            rw [show sLe "a" (sgn c) = true from h3, Bool.true_and] at q'
            exact q'
          · have q' : Q (.d (.bool (sLe "a" (sgn c) && sLe (sgn c) "z"))) S := q
            rw [show sLe "a" (sgn c) = false from h3, Bool.false_and] at q'
            exact q'
        · show (match bls ((z.cps.toList.map fun c => PyData.str (sgn c)).map okL) with | some bs => P (.d (.bool (bs.all id))) S | none => False)
          rw [name_all]
          have e3 : (z.cps.toList.map okC).all id = nameS z := by
            unfold nameS letters
            rw [decide_eq_true e1, decide_eq_true e2, List.all_map]
            rfl
          show P (.d (.bool ((z.cps.toList.map okC).all id))) S
          rw [e3]
          exact h'
    · refine fail fun ⟨n, _⟩ => ?_
      have h3 : iLe 1 (z.length : Int) = true := decide_eq_true (by omega)
      rw [h3] at h1
      cases h1
  | none => exact h
  | bool b => exact h
  | int b => exact h
  | list b => exact h
  | tuple b => exact h
  | dict b => exact h
end
end K61
namespace K61
open PySem PySem.Spec PyProof.Rows L2 DL
section
variable {P : Program} {w : World} {K : PySem.W.Frag} {mg : Str → Option Value} {base : Heap}
abbrev s_is_label : Stmt := top 10
theorem sc_is_label : FnScope ["value"] ["value"] (defScope s_is_label) := ⟨rfl, rfl, rfl, by decide +kernel, rfl, by decide +kernel, by decide +kernel⟩
theorem ok_is_label (D : DefAt K mg "is_label" s_is_label ["value"]) (B : Bl mg) (o_is_name : Own P w K mg base 1 "is_name" ["value"] (WB nameD)) (o_is_count : Own P w K mg base 2 "is_count" ["value"] (WB countD)) : Own P w K mg base 3 "is_label" ["value"] (WB labelD) := by
  have sc := sc_is_label
  refine okO D sc (fun as S P h => h.len) (fun f cdv A outer s H E hg hr => (pdss_one (pds_ret (pd_and (pd_callB call_isi vr_isi (by rfl) (B.b _ (by decide)) boot_isinstance (pda_cons (pdv 0) (pda_cons (pd_ty "tuple" (by rfl) (B.b _ (by decide)) (by decide +kernel)) pda_nil))) (pd_and (pd_eq hr (pd_callB call_lenAll vr_len (by rfl) (B.b _ (by decide)) (by decide +kernel) (pda_cons (pdv 0) pda_nil)) (pd_int)) (pd_and (pdc o_is_name hg hr (by rfl) (pda_cons (pd_at (pdv 0) (pd_int)) pda_nil)) (pd_one (pdc o_is_count hg hr (by rfl) (pda_cons (pd_at (pdv 0) (pd_int)) pda_nil))))))))) (fun args S P h => ?_)
  obtain ⟨x, rfl, h⟩ := h
  refine ⟨by decide, ?_⟩
  cases x with
  | tuple ds =>
    match ds, h with
    | [], h => exact h
    | [_], h => exact h
    | [a, b], h =>
      refine ⟨a, rfl, cond_or (fun h1 => ?_) (fun h1 => ?_)⟩
      · have q : P (.d (.bool (nameD a && countD b))) S := h
        rw [h1, Bool.true_and] at q
        exact ⟨b, rfl, q⟩
      · have q : P (.d (.bool (nameD a && countD b))) S := h
        rw [h1, Bool.false_and] at q
        exact q
    | a :: b :: c :: r, h =>
      exact h
  | none => exact h
  | bool b => exact h
  | int b => exact h
  | list b => exact h
  | str b => exact h
  | dict b => exact h
abbrev s_is_kind : Stmt := top 20
theorem sc_is_kind : FnScope ["value"] ["value"] (defScope s_is_kind) := ⟨rfl, rfl, rfl, by decide +kernel, rfl, by decide +kernel, by decide +kernel⟩
theorem ok_is_kind (D : DefAt K mg "is_kind" s_is_kind ["value"]) (B : Bl mg) (G : Gc K mg) (o_is_label : Own P w K mg base 3 "is_label" ["value"] (WB labelD)) : Own P w K mg base 4 "is_kind" ["value"] (WB kindD) := by
  have sc := sc_is_kind
  refine okO D sc (fun as S P h => h.len) (fun f cdv A outer s H E hg hr => (pdss_one (pds_ret (pd_or (pdc o_is_label hg hr (by rfl) (pda_cons (pdv 0) pda_nil)) (pd_one (pd_and (pd_callB call_isi vr_isi (by rfl) (B.b _ (by decide)) boot_isinstance (pda_cons (pdv 0) (pda_cons (pd_ty "str" (by rfl) (B.b _ (by decide)) (by decide +kernel)) pda_nil))) (pd_one (pd_eq hr (pdv 0) (pd_gstr G.g_OWN (by rfl)))))))))) (fun args S P h => ?_)
  obtain ⟨x, rfl, h⟩ := h
  have q : P (.d (.bool (labelD x || eqT x "own"))) S := h
  refine ⟨x, rfl, cond_or (fun h1 => ?_) (fun h1 => ⟨by decide, ?_⟩)⟩
  · rw [h1, Bool.true_or] at q
    exact q
  · rw [h1, Bool.false_or] at q
    cases x <;> exact q
/-! ### expressions -/
def formsT (z : Str) : Option (List Str) :=
  if z = "make" then some ["number"] else if z = "param" then some ["count"] else if z = "plus" then some ["expression", "number"] else if z = "call" then some ["label", "name", "arguments"]
  else if z = "do" then some ["expression", "expression"] else if z = "if" then some ["expression", "expression", "expression"] else none
def T_FORMS (z : Str) : Option PyData := (formsT z).map fun l => .tuple (l.map .str)
def argsD (r : PyData → Bool) : PyData → Bool
  | .tuple xs => decide (xs.length ≤ 4) && xs.all r
  | _ => false
def partD (r : PyData → Bool) (f : Str) (x : PyData) : Bool :=
  if f = "expression" then r x else if f = "number" then intD x else if f = "count" then countD x else if f = "label" then (nonD x || labelD x) else if f = "name" then nameD x
  else argsD r x
def formD : Nat → PyData → Bool
  | 0, _ => false
  | n + 1, .tuple (.str z :: xs) => match formsT z with
    | some fs => decide (xs.length = fs.length) && (xs.zip fs).all fun p => partD (formD n) p.2 p.1
    | none => false
  | _, _ => false
/-- has_form(x, n), is_part(x, f, n) -/
def WF (n : Nat) : WD := fun as S P => ∃ x, as = [.d x, .d (.int (n : Int))] ∧ P (.d (.bool (formD n x))) S
def WP (n : Nat) : WD := fun as S P => ∃ x f, as = [.d x, .d (.str f), .d (.int (n : Int))] ∧ P (.d (.bool (partD (formD n) f x))) S
abbrev s_is_part : Stmt := top 24
theorem sc_is_part : FnScope ["value", "form", "depth", "argument"] ["value", "form", "depth"] (defScope s_is_part) := ⟨rfl, rfl, rfl, by decide +kernel, rfl, by decide +kernel, by decide +kernel⟩
theorem all_bls {α : Type} (xs : List α) (g : α → PyData) (p : PyData → Bool) : bls ((xs.map g).map fun x => .bool (p x)) = some ((xs.map g).map p) := by
  rw [← bls_map, List.map_map, List.map_map, List.map_map]
  rfl
theorem ok_is_part {n : Nat} (D : DefAt K mg "is_part" s_is_part ["value", "form", "depth"]) (B : Bl mg) (G : Gc K mg) (o_is_integer : Own P w K mg base 1 "is_integer" ["value"] (WB intD)) (o_is_count : Own P w K mg base 2 "is_count" ["value"] (WB countD))
    (o_is_name : Own P w K mg base 1 "is_name" ["value"] (WB nameD)) (o_is_label : Own P w K mg base 3 "is_label" ["value"] (WB labelD)) (o_has_form : Own P w K mg base (4 + 2 * n) "has_form" ["value", "depth"] (WF n)) :
    Own P w K mg base (4 + 2 * n + 1) "is_part" ["value", "form", "depth"] (WP n) := by
  have sc := sc_is_part
  have j1 : 1 ≤ 4 + 2 * n := by omega
  have j2 : 2 ≤ 4 + 2 * n := by omega
  have j3 : 3 ≤ 4 + 2 * n := by omega
  refine okO D sc (fun as S P h => by obtain ⟨x, f, rfl, _⟩ := h; rfl) (fun f cdv A outer s H E hg hr => (pdss_cons (pds_if (pdt_eq hr (pdv 1) (pd_str)) (pdss_one (pds_ret (pdc o_has_form hg hr (by rfl) (pda_cons (pdv 0) (pda_cons (pdv 2) pda_nil))))) pdss_nil) (pdss_cons (pds_if (pdt_eq hr (pdv 1) (pd_str)) (pdss_one (pds_ret (pdc o_is_integer hg hr (by rfl) (pda_cons (pdv 0) pda_nil)))) pdss_nil) (pdss_cons (pds_if (pdt_eq hr (pdv 1) (pd_str)) (pdss_one (pds_ret (pdc o_is_count hg hr (by rfl) (pda_cons (pdv 0) pda_nil)))) pdss_nil) (pdss_cons (pds_if (pdt_eq hr (pdv 1) (pd_str)) (pdss_one (pds_ret (pd_or (pd_is (pdv 0) (pd_non)) (pd_one (pdc o_is_label hg hr (by rfl) (pda_cons (pdv 0) pda_nil)))))) pdss_nil) (pdss_cons (pds_if (pdt_eq hr (pdv 1) (pd_str)) (pdss_one (pds_ret (pdc o_is_name hg hr (by rfl) (pda_cons (pdv 0) pda_nil)))) pdss_nil) (pdss_cons (pds_if (pdt_w (pdw_or (pdt_not (pdt_val (pd_callB call_isi vr_isi (by rfl) (B.b _ (by decide)) boot_isinstance (pda_cons (pdv 0) (pda_cons (pd_ty "tuple" (by rfl) (B.b _ (by decide)) (by decide +kernel)) pda_nil))))) (pdw_or1 (pdt_gt (pd_callB call_lenAll vr_len (by rfl) (B.b _ (by decide)) (by decide +kernel) (pda_cons (pdv 0) pda_nil)) (pd_gint G.g_MOST_PARAMETERS (by rfl)))))) (pdss_one (pds_ret (pd_bl))) pdss_nil) (pdss_one (pds_ret (pd_callB (cr_all rfl) vr_all (by rfl) (B.b _ (by decide)) (by decide +kernel) (pda_cons (pd_lc (own := [("argument", 3)]) rfl sc.nd (pdi_tup (pdv 0)) (blkOk_by (N := ["value", "form", "depth", "argument"]) (sc := defScope s_is_part) (by decide +kernel)) (cg_name (by decide)) (fun _ _ _ _ _ => (pg_name (i := 3) sc.nd rfl (Or.inl rfl))) (fun _ _ _ _ _ => pts_yes) (fun _ _ _ _ _ => (pdc o_has_form hg hr (by rfl) (pda_cons (pdv 3) (pda_cons (pdv 2) pda_nil))))) pda_nil))))))))))) (fun args S P h => ?_)
  obtain ⟨x, f, rfl, h⟩ := h
  have q : P (.d (.bool (partD (formD n) f x))) S := h
  unfold partD at q
  refine cond_or (fun h1 => ?_) (fun h1 => ?_)
  · rw [if_pos (of_decide_eq_true h1)] at q
    exact ⟨x, rfl, q⟩
  rw [if_neg (of_decide_eq_false h1)] at q
  refine cond_or (fun h1 => ?_) (fun h1 => ?_)
  · rw [if_pos (of_decide_eq_true h1)] at q
    exact ⟨x, rfl, q⟩
  rw [if_neg (of_decide_eq_false h1)] at q
  refine cond_or (fun h1 => ?_) (fun h1 => ?_)
  · rw [if_pos (of_decide_eq_true h1)] at q
    exact ⟨x, rfl, q⟩
  rw [if_neg (of_decide_eq_false h1)] at q
  refine cond_or (fun h1 => ?_) (fun h1 => ?_)
  · rw [if_pos (of_decide_eq_true h1)] at q
    refine cond_or (fun h2 => ?_) (fun h2 => ?_)
    · rw [show nonD x = true from h2, Bool.true_or] at q
      exact q
    · rw [show nonD x = false from h2, Bool.false_or] at q
      exact ⟨x, rfl, q⟩
  rw [if_neg (of_decide_eq_false h1)] at q
  refine cond_or (fun h1 => ?_) (fun h1 => ?_)
  · rw [if_pos (of_decide_eq_true h1)] at q
    exact ⟨x, rfl, q⟩
  rw [if_neg (of_decide_eq_false h1)] at q
  refine ⟨by decide, ?_⟩
  cases x with
  | tuple ds =>
    have q : P (.d (.bool (decide (ds.length ≤ 4) && ds.all (formD n)))) S := q
    refine cond_or (fun h2 => ?_) (fun h2 => ?_)
    · have h3 : ¬ ds.length ≤ 4 := by have := of_decide_eq_true h2; omega
      rw [decide_eq_false h3, Bool.false_and] at q
      exact q
    · have h3 : ds.length ≤ 4 := by have := of_decide_eq_false h2; omega
      rw [decide_eq_true h3, Bool.true_and] at q
      refine ⟨by rw [sizeLine_eq]; omega, compD_map (fun x => .bool (formD n x)) (fun x hx Q q => ⟨x, rfl, q⟩) ?_⟩
      show (match bls (ds.map fun x => .bool (formD n x)) with | some bs => P (.d (.bool (bs.all id))) S | none => False)
      have e := all_bls ds id (formD n)
      rw [List.map_id] at e
      rw [e]
      show P (.d (.bool ((ds.map (formD n)).all id))) S
      rw [List.all_map]
      exact q
  | none => exact q
  | bool b => exact q
  | int b => exact q
  | list b => exact q
  | str b => exact q
  | dict b => exact q
end
end K61
namespace K61
open PySem PySem.Spec PyProof.Rows L2 DL
section
variable {P : Program} {w : World} {K : PySem.W.Frag} {mg : Str → Option Value} {base : Heap} {dF : Addr}
abbrev s_has_form : Stmt := top 23
theorem sc_has_form : FnScope ["value", "depth", "part", "form"] ["value", "depth"] (defScope s_has_form) := ⟨rfl, rfl, rfl, by decide +kernel, rfl, by decide +kernel, by decide +kernel⟩
theorem ok_has_form0 {W : WD} (D : DefAt K mg "has_form" s_has_form ["value", "depth"]) (B : Bl mg) (t_FORMS : TabAt K w mg "FORMS" T_FORMS dF) (o_is_part : Own P w K mg base 3 "is_part" ["value", "form", "depth"] W) :
    Own P w K mg base 4 "has_form" ["value", "depth"] (WF 0) := by
  have sc := sc_has_form
  refine okO D sc (fun as S P h => by obtain ⟨x, rfl, _⟩ := h; rfl) (fun f cdv A outer s H E hg hr => (pdss_cons (pds_if (pdt_w (pdw_or (pdt_eq hr (pdv 1) (pd_int)) (pdw_or (pdt_not (pdt_val (pd_callB call_isi vr_isi (by rfl) (B.b _ (by decide)) boot_isinstance (pda_cons (pdv 0) (pda_cons (pd_ty "tuple" (by rfl) (B.b _ (by decide)) (by decide +kernel)) pda_nil))))) (pdw_or (pdt_eq hr (pd_callB call_lenAll vr_len (by rfl) (B.b _ (by decide)) (by decide +kernel) (pda_cons (pdv 0) pda_nil)) (pd_int)) (pdw_or1 (pdt_not (pdt_val (pd_callB call_isi vr_isi (by rfl) (B.b _ (by decide)) boot_isinstance (pda_cons (pd_at (pdv 0) (pd_int)) (pda_cons (pd_ty "str" (by rfl) (B.b _ (by decide)) (by decide +kernel)) pda_nil)))))))))) (pdss_one (pds_ret (pd_bl))) pdss_nil) (pdss_cons (pds_if (pdt_w (pdw_or (pdt_notinTab t_FORMS.tab t_FORMS.at_ (by rfl) (pd_at (pdv 0) (pd_int))) (pdw_or1 (pdt_ne hr (pd_sub (pd_callB call_lenAll vr_len (by rfl) (B.b _ (by decide)) (by decide +kernel) (pda_cons (pdv 0) pda_nil)) (pd_int)) (pd_callB call_lenAll vr_len (by rfl) (B.b _ (by decide)) (by decide +kernel) (pda_cons (pd_tab t_FORMS.tab t_FORMS.at_ (by rfl) (pd_at (pdv 0) (pd_int))) pda_nil)))))) (pdss_one (pds_ret (pd_bl))) pdss_nil) (pdss_one (pds_ret (pd_callB (cr_all rfl) vr_all (by rfl) (B.b _ (by decide)) (by decide +kernel) (pda_cons (pd_lc (own := [("part", 2), ("form", 3)]) rfl sc.nd (pdi_zip (by rfl) (B.b _ (by decide)) (pda_cons (pd_slice (pdv 0) (pdo_some (pd_int)) pdo_none) (pda_cons (pd_tab t_FORMS.tab t_FORMS.at_ (by rfl) (pd_at (pdv 0) (pd_int))) pda_nil))) (blkOk_by (N := ["value", "depth", "part", "form"]) (sc := defScope s_has_form) (by decide +kernel)) (cg_tup (n := 2) (cgs_cons (cg_name (by decide)) (cgs_cons (cg_name (by decide)) cgs_nil))) (fun _ _ _ _ _ => (pg_tup (n := 2) rfl (pgs_cons (pg_name (i := 2) sc.nd rfl (Or.inl rfl)) (pgs_cons (pg_name (i := 3) sc.nd rfl (Or.inl rfl)) pgs_nil)))) (fun _ _ _ _ _ => pts_yes) (fun _ _ _ _ _ => (pdc o_is_part hg hr (by rfl) (pda_cons (pdv 2) (pda_cons (pdv 3) (pda_cons (pd_sub (pdv 1) (pd_int)) pda_nil)))))) pda_nil))))))) (fun args S P h => ?_)
  obtain ⟨x, rfl, h⟩ := h
  exact h
def zipOk (n : Nat) : PyData → PyData
  | .tuple [x, .str f] => .bool (partD (formD n) f x)
  | _ => .none
theorem zip_all (n : Nat) (xs : List PyData) (fs : List Str) : bls ((zipD xs (fs.map .str)).map (zipOk n)) = some ((xs.zip fs).map fun p => partD (formD n) p.2 p.1) := by
  rw [← bls_map]
  congr 1
  unfold zipD
  rw [List.zip_map_right, List.map_map, List.map_map, List.map_map]
  rfl
theorem ok_has_form {n : Nat} (D : DefAt K mg "has_form" s_has_form ["value", "depth"]) (B : Bl mg) (t_FORMS : TabAt K w mg "FORMS" T_FORMS dF) (o_is_part : Own P w K mg base (4 + 2 * n + 1) "is_part" ["value", "form", "depth"] (WP n)) :
    Own P w K mg base (4 + 2 * (n + 1)) "has_form" ["value", "depth"] (WF (n + 1)) := by
  have sc := sc_has_form
  refine okO (k := 4 + 2 * n + 1) D sc (fun as S P h => by obtain ⟨x, rfl, _⟩ := h; rfl) (fun f cdv A outer s H E hg hr => (pdss_cons (pds_if (pdt_w (pdw_or (pdt_eq hr (pdv 1) (pd_int)) (pdw_or (pdt_not (pdt_val (pd_callB call_isi vr_isi (by rfl) (B.b _ (by decide)) boot_isinstance (pda_cons (pdv 0) (pda_cons (pd_ty "tuple" (by rfl) (B.b _ (by decide)) (by decide +kernel)) pda_nil))))) (pdw_or (pdt_eq hr (pd_callB call_lenAll vr_len (by rfl) (B.b _ (by decide)) (by decide +kernel) (pda_cons (pdv 0) pda_nil)) (pd_int)) (pdw_or1 (pdt_not (pdt_val (pd_callB call_isi vr_isi (by rfl) (B.b _ (by decide)) boot_isinstance (pda_cons (pd_at (pdv 0) (pd_int)) (pda_cons (pd_ty "str" (by rfl) (B.b _ (by decide)) (by decide +kernel)) pda_nil)))))))))) (pdss_one (pds_ret (pd_bl))) pdss_nil) (pdss_cons (pds_if (pdt_w (pdw_or (pdt_notinTab t_FORMS.tab t_FORMS.at_ (by rfl) (pd_at (pdv 0) (pd_int))) (pdw_or1 (pdt_ne hr (pd_sub (pd_callB call_lenAll vr_len (by rfl) (B.b _ (by decide)) (by decide +kernel) (pda_cons (pdv 0) pda_nil)) (pd_int)) (pd_callB call_lenAll vr_len (by rfl) (B.b _ (by decide)) (by decide +kernel) (pda_cons (pd_tab t_FORMS.tab t_FORMS.at_ (by rfl) (pd_at (pdv 0) (pd_int))) pda_nil)))))) (pdss_one (pds_ret (pd_bl))) pdss_nil) (pdss_one (pds_ret (pd_callB (cr_all rfl) vr_all (by rfl) (B.b _ (by decide)) (by decide +kernel) (pda_cons (pd_lc (own := [("part", 2), ("form", 3)]) rfl sc.nd (pdi_zip (by rfl) (B.b _ (by decide)) (pda_cons (pd_slice (pdv 0) (pdo_some (pd_int)) pdo_none) (pda_cons (pd_tab t_FORMS.tab t_FORMS.at_ (by rfl) (pd_at (pdv 0) (pd_int))) pda_nil))) (blkOk_by (N := ["value", "depth", "part", "form"]) (sc := defScope s_has_form) (by decide +kernel)) (cg_tup (n := 2) (cgs_cons (cg_name (by decide)) (cgs_cons (cg_name (by decide)) cgs_nil))) (fun _ _ _ _ _ => (pg_tup (n := 2) rfl (pgs_cons (pg_name (i := 2) sc.nd rfl (Or.inl rfl)) (pgs_cons (pg_name (i := 3) sc.nd rfl (Or.inl rfl)) pgs_nil)))) (fun _ _ _ _ _ => pts_yes) (fun _ _ _ _ _ => (pdc o_is_part hg hr (by rfl) (pda_cons (pdv 2) (pda_cons (pdv 3) (pda_cons (pd_sub (pdv 1) (pd_int)) pda_nil)))))) pda_nil))))))) (fun args S P h => ?_)
  obtain ⟨x, rfl, h⟩ := h
  refine ⟨by decide, ?_⟩
  cases x with
  | tuple ds =>
    match ds, h with
    | [], h => exact h
    | y :: ys, h =>
      show (match atI (y :: ys) 0 with | some d => _ | none => False)
      rw [at0]
      refine ⟨by decide, ?_⟩
      cases y with
      | str z =>
        have q : P (.d (.bool (match formsT z with
          | some fs => decide (ys.length = fs.length) && (ys.zip fs).all fun p => partD (formD n) p.2 p.1
          | none => false))) S := h
        show (match atI (.str z :: ys) 0 with | some d => _ | none => False)
        rw [at0]
        refine ⟨rfl, ?_⟩
        cases e : formsT z with
        | none =>
          rw [e] at q
          have e2 : T_FORMS z = none := by unfold T_FORMS; rw [e]; rfl
          show cond (!(T_FORMS z).isSome) _ _
          rw [e2]
          exact q
        | some fs =>
          rw [e] at q
          have q : P (.d (.bool (decide (ys.length = fs.length) && (ys.zip fs).all fun p => partD (formD n) p.2 p.1))) S := q
          have e2 : T_FORMS z = some (.tuple (fs.map .str)) := by unfold T_FORMS; rw [e]; rfl
          show cond (!(T_FORMS z).isSome) _ _
          rw [e2]
          show (match atI (.str z :: ys) 0 with | some d => _ | none => False)
          rw [at0]
          show (match T_FORMS z with | some x => _ | none => False)
          rw [e2]
          refine cond_or (c := !decide ((((PyData.str z) :: ys).length : Int) - 1 = ((fs.map PyData.str).length : Int))) (fun h1 => ?_) (fun h1 => ?_)
          · have h2 : ¬ ys.length = fs.length := fun z2 => by
              have : decide ((((PyData.str z) :: ys).length : Int) - 1 = ((fs.map PyData.str).length : Int)) = true := decide_eq_true (by simp; omega)
              rw [this] at h1
              cases h1
            rw [decide_eq_false h2, Bool.false_and] at q
            exact q
          · have h2 : ys.length = fs.length := by
              have h3 : decide ((((PyData.str z) :: ys).length : Int) - 1 = ((fs.map PyData.str).length : Int)) = true := by
                cases c : decide ((((PyData.str z) :: ys).length : Int) - 1 = ((fs.map PyData.str).length : Int)) <;> rw [c] at h1 <;> first | rfl | cases h1
              have := of_decide_eq_true h3
              simp at this
              omega
            rw [decide_eq_true h2, Bool.true_and] at q
            show (match atI (.str z :: ys) 0 with | some d => _ | none => False)
            rw [at0]
            show (match T_FORMS z with | some x => _ | none => False)
            rw [e2]
            show _ ∧ compD _ _ _ (zipD (cutD (.str z :: ys) (some 1) none) (fs.map .str)) [] _ S _
            rw [cut1]
            refine ⟨?_, compD_map (zipOk n) (fun x hx Q q => ?_) ?_⟩
            · have : fs.length ≤ 3 := by
                unfold formsT at e
                repeat' split at e
                all_goals first | (cases e; decide) | cases e
              rw [zipD_len, List.length_map, sizeLine_eq]
              omega
            · unfold zipD at hx
              obtain ⟨⟨x1, x2⟩, hm, rfl⟩ := List.mem_map.mp hx
              obtain ⟨f, _, rfl⟩ := List.mem_map.mp (List.of_mem_zip hm).2
              refine ⟨rfl, rfl, x1, f, ?_, q⟩
              show [AV.d x1, AV.d (.str f), AV.d (.int (((n + 1 : Nat) : Int) - 1))] = _
              rw [show (((n + 1 : Nat) : Int) - 1) = (n : Int) by omega]
            · show (match bls ((zipD ys (fs.map .str)).map (zipOk n)) with | some bs => P (.d (.bool (bs.all id))) S | none => False)
              rw [zip_all]
              show P (.d (.bool (((ys.zip fs).map fun p => partD (formD n) p.2 p.1).all id))) S
              rw [List.all_map]
              exact q
      | none => exact h
      | bool b => exact h
      | int b => exact h
      | list b => exact h
      | tuple b => exact h
      | dict b => exact h
  | none => exact h
  | bool b => exact h
  | int b => exact h
  | list b => exact h
  | str b => exact h
  | dict b => exact h
end
end K61
namespace K61
open PySem PySem.Spec PyProof.Rows L2 DL
def innerC : List PyData → List PyData
  | [_, _, .tuple as] => as
  | _ => []
def innerF (xs : List PyData) (fs : List Str) : List PyData := ((xs.zip fs).filter fun p => decide (p.2 = ("expression" : Str))).map (·.1)
def innerO (xs : List PyData) : Option (List Str) → List PyData
  | some fs => innerF xs fs
  | none => []
def innerD : PyData → List PyData
  | .tuple (.str z :: xs) => if z = "call" then innerC xs else innerO xs (formsT z)
  | _ => []
theorem inner_call (l m : PyData) (as : List PyData) : innerD (.tuple (.str "call" :: [l, m, .tuple as])) = as := by
  show (if ("call" : Str) = "call" then innerC [l, m, .tuple as] else innerO [l, m, .tuple as] (formsT "call")) = as
  rw [if_pos rfl]
  rfl
theorem inner_other {z : Str} {xs : List PyData} {fs : List Str} (h : ¬ z = "call") (e : formsT z = some fs) : innerD (.tuple (.str z :: xs)) = innerF xs fs := by
  have : innerD (.tuple (.str z :: xs)) = innerO xs (formsT z) := if_neg h
  rw [this, e]
  rfl
def sizeN : Nat → PyData → Int
  | 0, _ => 0
  | n + 1, x => 1 + ((innerD x).map (sizeN n)).sum
/-- what a right form is made of -/
theorem form_parts {n : Nat} {x : PyData} (h : formD (n + 1) x = true) : ∃ z xs fs, x = .tuple (.str z :: xs) ∧ formsT z = some fs ∧ xs.length = fs.length ∧ ∀ p, p ∈ xs.zip fs → partD (formD n) p.2 p.1 = true := by
  match x, h with
  | .tuple (.str z :: xs), h =>
    cases e : formsT z with
    | none =>
      have h' : (match formsT z with
        | some fs => decide (xs.length = fs.length) && (xs.zip fs).all fun p => partD (formD n) p.2 p.1
        | none => false) = true := h
      rw [e] at h'
      cases h'
    | some fs =>
      have h' : (match formsT z with
        | some fs => decide (xs.length = fs.length) && (xs.zip fs).all fun p => partD (formD n) p.2 p.1
        | none => false) = true := h
      rw [e] at h'
      obtain ⟨h1, h2⟩ := Bool.and_eq_true_iff.mp (show (decide (xs.length = fs.length) && (xs.zip fs).all fun p => partD (formD n) p.2 p.1) = true from h')
      exact ⟨z, xs, fs, rfl, e, of_decide_eq_true h1, fun p hp => List.all_eq_true.mp h2 p hp⟩
theorem forms_call : formsT "call" = some [("label" : Str), "name", "arguments"] := by decide +kernel
theorem forms_len {z : Str} {fs : List Str} (e : formsT z = some fs) : fs.length ≤ 3 := by
  unfold formsT at e
  repeat' split at e
  all_goals first | (cases e; decide) | cases e
theorem call_args {n : Nat} {xs : List PyData} (hl : xs.length = (["label", "name", "arguments"] : List Str).length) (hp : ∀ p, p ∈ xs.zip (["label", "name", "arguments"] : List Str) → partD (formD n) p.2 p.1 = true) :
    ∃ l m as, xs = [l, m, .tuple as] ∧ as.length ≤ 4 ∧ ∀ y, y ∈ as → formD n y = true := by
  match xs, hl with
  | [l, m, a], _ =>
    have h := hp (a, "arguments") (by simp)
    have e : partD (formD n) "arguments" a = argsD (formD n) a := by
      unfold partD
      rw [if_neg (by decide +kernel), if_neg (by decide +kernel), if_neg (by decide +kernel), if_neg (by decide +kernel), if_neg (by decide +kernel)]
    have h : partD (formD n) "arguments" a = true := h
    rw [e] at h
    cases a with
    | tuple as =>
      obtain ⟨h1, h2⟩ := Bool.and_eq_true_iff.mp (show (decide (as.length ≤ 4) && as.all (formD n)) = true from h)
      exact ⟨l, m, as, rfl, of_decide_eq_true h1, fun y hy => List.all_eq_true.mp h2 y hy⟩
    | none => cases h
    | bool b => cases h
    | int b => cases h
    | list b => cases h
    | str b => cases h
    | dict b => cases h
theorem inner_form {n : Nat} {x : PyData} (h : formD (n + 1) x = true) : (innerD x).length ≤ 4 ∧ ∀ y, y ∈ innerD x → formD n y = true := by
  obtain ⟨z, xs, fs, rfl, e, hl, hp⟩ := form_parts h
  by_cases hz : z = "call"
  · subst hz
    rw [forms_call] at e
    cases e
    obtain ⟨l, m, as, rfl, h1, h2⟩ := call_args hl hp
    rw [inner_call]
    exact ⟨h1, h2⟩
  · rw [inner_other hz e]
    unfold innerF
    refine ⟨?_, fun y hy => ?_⟩
    · have h1 := forms_len e
      have h2 := List.length_filter_le (fun p => decide (p.2 = ("expression" : Str))) (xs.zip fs)
      rw [List.length_zip] at h2
      rw [List.length_map]
      omega
    · obtain ⟨p, hm, rfl⟩ := List.mem_map.mp hy
      obtain ⟨h1, h2⟩ := List.mem_filter.mp hm
      have h3 := hp p h1
      rw [show p.2 = "expression" from of_decide_eq_true h2] at h3
      unfold partD at h3
      rw [if_pos rfl] at h3
      exact h3
def WI : WD := fun as S P => ∃ x n, as = [.d x] ∧ formD (n + 1) x = true ∧ P (.d (.list (innerD x))) S
def WC (n : Nat) : WD := fun as S P => ∃ x, as = [.d x] ∧ formD n x = true ∧ P (.d (.int (sizeN n x))) S
section
variable {P : Program} {w : World} {K : PySem.W.Frag} {mg : Str → Option Value} {base : Heap} {dF : Addr}
abbrev s_inner_parts : Stmt := top 25
theorem sc_inner_parts : FnScope ["expression", "forms", "part", "form"] ["expression"] (defScope s_inner_parts) := ⟨rfl, rfl, rfl, by decide +kernel, rfl, by decide +kernel, by decide +kernel⟩
def zipF : PyData → PyData
  | .tuple [x, _] => x
  | _ => .none
def zipP : PyData → Bool
  | .tuple [_, .str f] => decide (f = "expression")
  | _ => false
theorem zip_inner (xs : List PyData) (fs : List Str) : ((zipD xs (fs.map .str)).filter zipP).map zipF = innerF xs fs := by
  unfold zipD innerF
  rw [List.zip_map_right, List.map_map, List.filter_map, List.map_map]
  rfl
theorem ok_inner_parts (D : DefAt K mg "inner_parts" s_inner_parts ["expression"]) (B : Bl mg) (t_FORMS : TabAt K w mg "FORMS" T_FORMS dF) : Own P w K mg base 1 "inner_parts" ["expression"] WI := by
  have sc := sc_inner_parts
  refine okO D sc (fun as S P h => by obtain ⟨x, n, rfl, _⟩ := h; rfl) (fun f cdv A outer s H E hg hr => (pdss_cons (pds_if (pdt_eq hr (pd_at (pdv 0) (pd_int)) (pd_str)) (pdss_one (pds_ret (pd_callTy call_list_of vr_list (by rfl) (B.b _ (by decide)) (by decide +kernel) (pda_cons (pd_at (pdv 0) (pd_int)) pda_nil)))) pdss_nil) (pdss_cons (pds_set (i := 1) sc.nd rfl (Or.inl rfl) (pd_tab t_FORMS.tab t_FORMS.at_ (by rfl) (pd_at (pdv 0) (pd_int)))) (pdss_one (pds_ret (pd_lc (own := [("part", 2), ("form", 3)]) rfl sc.nd (pdi_zip (by rfl) (B.b _ (by decide)) (pda_cons (pd_slice (pdv 0) (pdo_some (pd_int)) pdo_none) (pda_cons (pdv 1) pda_nil))) (blkOk_by (N := ["expression", "forms", "part", "form"]) (sc := defScope s_inner_parts) (by decide +kernel)) (cg_tup (n := 2) (cgs_cons (cg_name (by decide)) (cgs_cons (cg_name (by decide)) cgs_nil))) (fun _ _ _ _ _ => (pg_tup (n := 2) rfl (pgs_cons (pg_name (i := 2) sc.nd rfl (Or.inl rfl)) (pgs_cons (pg_name (i := 3) sc.nd rfl (Or.inl rfl)) pgs_nil)))) (fun _ _ _ _ _ => (pts_one (pdt_eq hr (pdv 3) (pd_str)))) (fun _ _ _ _ _ => (pdv 2)))))))) (fun args S P h => ?_)
  obtain ⟨x, n, rfl, hf, h⟩ := h
  obtain ⟨z, xs, fs, rfl, e, hl, hp⟩ := form_parts hf
  show (match atI (.str z :: xs) 0 with | some d => _ | none => False)
  rw [at0]
  refine cond_or (c := decide (z = "call")) (fun h1 => ?_) (fun h1 => ?_)
  · have hz := of_decide_eq_true h1
    subst hz
    rw [forms_call] at e
    cases e
    obtain ⟨l, m, as, rfl, h1, h2⟩ := call_args hl hp
    exact h
  · have e2 : T_FORMS z = some (.tuple (fs.map .str)) := by unfold T_FORMS; rw [e]; rfl
    rw [inner_other (of_decide_eq_false h1) e] at h
    show (match atI (.str z :: xs) 0 with | some d => _ | none => False)
    rw [at0]
    show (match T_FORMS z with | some x => _ | none => False)
    rw [e2]
    show _ ∧ compD _ _ _ (zipD (cutD (.str z :: xs) (some 1) none) (fs.map .str)) [] _ S _
    rw [cut1]
    refine ⟨?_, compD_filter zipP zipF (fun x hx Q Nn q1 q2 => ?_) ?_⟩
    · have := forms_len e
      rw [zipD_len, List.length_map, sizeLine_eq]
      omega
    · unfold zipD at hx
      obtain ⟨⟨x1, x2⟩, hm, rfl⟩ := List.mem_map.mp hx
      obtain ⟨f, _, rfl⟩ := List.mem_map.mp (List.of_mem_zip hm).2
      refine ⟨rfl, rfl, cond_or (c := decide (f = "expression")) (fun h3 => ?_) (fun h3 => ?_)⟩
      · exact q1 h3
      · exact q2 h3
    · rw [List.nil_append, zip_inner]
      exact h
abbrev s_count_of : Stmt := top 26
theorem sc_count_of : FnScope ["expression", "part"] ["expression"] (defScope s_count_of) := ⟨rfl, rfl, rfl, by decide +kernel, rfl, by decide +kernel, by decide +kernel⟩
theorem ok_count_of0 (D : DefAt K mg "count_of" s_count_of ["expression"]) : Own P w K mg base 1 "count_of" ["expression"] (WC 0) :=
  (Own.never D sc_count_of).imp fun as S P h => by obtain ⟨x, _, h, _⟩ := h; cases h
theorem ok_count_of {n : Nat} (D : DefAt K mg "count_of" s_count_of ["expression"]) (B : Bl mg) (o_inner_parts : Own P w K mg base 1 "inner_parts" ["expression"] WI) (o_count_of : Own P w K mg base (n + 1) "count_of" ["expression"] (WC n)) :
    Own P w K mg base (n + 1 + 1) "count_of" ["expression"] (WC (n + 1)) := by
  have sc := sc_count_of
  refine okO D sc (fun as S P h => by obtain ⟨x, rfl, _⟩ := h; rfl) (fun f cdv A outer s H E hg hr => (pdss_one (pds_ret (pd_add (pd_int) (pd_callB (cr_sum rfl) vr_sum (by rfl) (B.b _ (by decide)) (by decide +kernel) (pda_cons (pd_lc (own := [("part", 1)]) rfl sc.nd (pdi_list (pdc o_inner_parts hg hr (by rfl) (pda_cons (pdv 0) pda_nil))) (blkOk_by (N := ["expression", "part"]) (sc := defScope s_count_of) (by decide +kernel)) (cg_name (by decide)) (fun _ _ _ _ _ => (pg_name (i := 1) sc.nd rfl (Or.inl rfl))) (fun _ _ _ _ _ => pts_yes) (fun _ _ _ _ _ => (pdc o_count_of hg hr (by rfl) (pda_cons (pdv 1) pda_nil)))) pda_nil)))))) (fun args S P h => ?_)
  obtain ⟨x, rfl, hf, h⟩ := h
  obtain ⟨h1, h2⟩ := inner_form hf
  refine ⟨x, n, rfl, hf, by rw [sizeLine_eq]; omega, compD_map (fun y => .int (sizeN n y)) (fun y hy Q q => ⟨y, rfl, h2 y hy, q⟩) ?_⟩
  show (match nts ((innerD x).map fun y => .int (sizeN n y)) with | some ns => P (.d (.int (1 + ns.sum))) S | none => False)
  have e : nts ((innerD x).map fun y => .int (sizeN n y)) = some ((innerD x).map (sizeN n)) := by
    rw [← nts_map, List.map_map]
    rfl
  rw [e]
  exact h
abbrev s_is_expression : Stmt := top 21
theorem sc_is_expression : FnScope ["value"] ["value"] (defScope s_is_expression) := ⟨rfl, rfl, rfl, by decide +kernel, rfl, by decide +kernel, by decide +kernel⟩
def exprD (x : PyData) : Bool := formD 5 x && decide (sizeN 5 x ≤ 30)
theorem ok_is_expression (D : DefAt K mg "is_expression" s_is_expression ["value"]) (B : Bl mg) (G : Gc K mg) (o_has_form : Own P w K mg base 14 "has_form" ["value", "depth"] (WF 5)) (o_count_of : Own P w K mg base 6 "count_of" ["expression"] (WC 5)) :
    Own P w K mg base 15 "is_expression" ["value"] (WB exprD) := by
  have sc := sc_is_expression
  refine okO D sc (fun as S P h => h.len) (fun f cdv A outer s H E hg hr => (pdss_one (pds_ret (pd_and (pdc o_has_form hg hr (by rfl) (pda_cons (pdv 0) (pda_cons (pd_gint G.g_MOST_DEPTH (by rfl)) pda_nil))) (pd_one (pd_le (pdc o_count_of hg hr (by rfl) (pda_cons (pdv 0) pda_nil)) (pd_gint G.g_MOST_PARTS (by rfl)))))))) (fun args S P h => ?_)
  obtain ⟨x, rfl, h⟩ := h
  have q : P (.d (.bool (formD 5 x && decide (sizeN 5 x ≤ 30)))) S := h
  refine ⟨x, rfl, cond_or (fun h1 => ?_) (fun h1 => ?_)⟩
  · rw [h1, Bool.true_and] at q
    exact ⟨x, rfl, h1, q⟩
  · rw [h1, Bool.false_and] at q
    exact q
abbrev s_is_function : Stmt := top 22
theorem sc_is_function : FnScope ["value", "name", "parameters", "result", "body", "kind"] ["value"] (defScope s_is_function) := ⟨rfl, rfl, rfl, by decide +kernel, rfl, by decide +kernel, by decide +kernel⟩
def funD : PyData → Bool
  | .tuple [n, p, r, b] => (match p with
    | .tuple ps => nameD n && decide (ps.length ≤ 4) && (ps.all kindD && (kindD r && exprD b))
    | _ => false)
  | _ => false
theorem ok_is_function (D : DefAt K mg "is_function" s_is_function ["value"]) (B : Bl mg) (G : Gc K mg) (o_is_name : Own P w K mg base 1 "is_name" ["value"] (WB nameD)) (o_is_kind : Own P w K mg base 4 "is_kind" ["value"] (WB kindD))
    (o_is_expression : Own P w K mg base 15 "is_expression" ["value"] (WB exprD)) : Own P w K mg base 16 "is_function" ["value"] (WB funD) := by
  have sc := sc_is_function
  refine okO D sc (fun as S P h => h.len) (fun f cdv A outer s H E hg hr => (pdss_cons (pds_if (pdt_w (pdw_or (pdt_not (pdt_val (pd_callB call_isi vr_isi (by rfl) (B.b _ (by decide)) boot_isinstance (pda_cons (pdv 0) (pda_cons (pd_ty "tuple" (by rfl) (B.b _ (by decide)) (by decide +kernel)) pda_nil))))) (pdw_or1 (pdt_ne hr (pd_callB call_lenAll vr_len (by rfl) (B.b _ (by decide)) (by decide +kernel) (pda_cons (pdv 0) pda_nil)) (pd_int))))) (pdss_one (pds_ret (pd_bl))) pdss_nil) (pdss_cons (pds_asg (pdv 0) (pdg_tup (n := 4) rfl (pdgs_cons (pdg_name (i := 1) sc.nd rfl (Or.inl rfl)) (pdgs_cons (pdg_name (i := 2) sc.nd rfl (Or.inl rfl)) (pdgs_cons (pdg_name (i := 3) sc.nd rfl (Or.inl rfl)) (pdgs_cons (pdg_name (i := 4) sc.nd rfl (Or.inl rfl)) pdgs_nil)))))) (pdss_cons (pds_if (pdt_w (pdw_or (pdt_not (pdt_val (pdc o_is_name hg hr (by rfl) (pda_cons (pdv 1) pda_nil)))) (pdw_or (pdt_not (pdt_val (pd_callB call_isi vr_isi (by rfl) (B.b _ (by decide)) boot_isinstance (pda_cons (pdv 2) (pda_cons (pd_ty "tuple" (by rfl) (B.b _ (by decide)) (by decide +kernel)) pda_nil))))) (pdw_or1 (pdt_gt (pd_callB call_lenAll vr_len (by rfl) (B.b _ (by decide)) (by decide +kernel) (pda_cons (pdv 2) pda_nil)) (pd_gint G.g_MOST_PARAMETERS (by rfl))))))) (pdss_one (pds_ret (pd_bl))) pdss_nil) (pdss_one (pds_ret (pd_and (pd_callB (cr_all rfl) vr_all (by rfl) (B.b _ (by decide)) (by decide +kernel) (pda_cons (pd_lc (own := [("kind", 5)]) rfl sc.nd (pdi_tup (pdv 2)) (blkOk_by (N := ["value", "name", "parameters", "result", "body", "kind"]) (sc := defScope s_is_function) (by decide +kernel)) (cg_name (by decide)) (fun _ _ _ _ _ => (pg_name (i := 5) sc.nd rfl (Or.inl rfl))) (fun _ _ _ _ _ => pts_yes) (fun _ _ _ _ _ => (pdc o_is_kind hg hr (by rfl) (pda_cons (pdv 5) pda_nil)))) pda_nil)) (pd_and (pdc o_is_kind hg hr (by rfl) (pda_cons (pdv 3) pda_nil)) (pd_one (pdc o_is_expression hg hr (by rfl) (pda_cons (pdv 4) pda_nil))))))))))) (fun args S P h => ?_)
  obtain ⟨x, rfl, h⟩ := h
  refine ⟨by decide, ?_⟩
  cases x with
  | tuple ds =>
    match ds, h with
    | [], h => exact h
    | [_], h => exact h
    | [_, _], h => exact h
    | [_, _, _], h => exact h
    | [n, ps, r, b], h =>
      refine ⟨rfl, rfl, n, rfl, ?_⟩
      cases hn : nameD n with
      | false =>
        have q : P (.d (.bool false)) S := by
          have e : funD (.tuple [n, ps, r, b]) = false := by
            cases ps <;> first | rfl | (show (nameD n && _ && _) = false; rw [hn]; rfl)
          rw [e] at h
          exact h
        exact q
      | true =>
        refine ⟨by decide, ?_⟩
        cases ps with
        | tuple ps =>
          have q : P (.d (.bool (nameD n && decide (ps.length ≤ 4) && (ps.all kindD && (kindD r && exprD b))))) S := h
          rw [hn, Bool.true_and] at q
          refine cond_or (c := iGt (ps.length : Int) 4) (fun h1 => ?_) (fun h1 => ?_)
          · have h2 : ¬ ps.length ≤ 4 := by have := of_decide_eq_true h1; omega
            rw [decide_eq_false h2, Bool.false_and] at q
            exact q
          · have h2 : ps.length ≤ 4 := by have := of_decide_eq_false h1; omega
            rw [decide_eq_true h2, Bool.true_and] at q
            refine ⟨by rw [sizeLine_eq]; omega, compD_map (fun x => .bool (kindD x)) (fun x hx Q q => ⟨x, rfl, q⟩) ?_⟩
            show (match bls (ps.map fun x => .bool (kindD x)) with | some bs => _ | none => False)
            have e := all_bls ps id kindD
            rw [List.map_id] at e
            rw [e]
            rw [show ps.all kindD = (ps.map kindD).all id by rw [List.all_map]; rfl] at q
            refine cond_or (c := (ps.map kindD).all id) (fun h3 => ?_) (fun h3 => ?_)
            · rw [h3, Bool.true_and] at q
              refine ⟨r, rfl, cond_or (fun h4 => ?_) (fun h4 => ?_)⟩
              · rw [h4, Bool.true_and] at q
                exact ⟨b, rfl, q⟩
              · rw [h4, Bool.false_and] at q
                exact q
            · rw [h3, Bool.false_and] at q
              exact q
        | none => exact h
        | bool b => exact h
        | int b => exact h
        | list b => exact h
        | str b => exact h
        | dict b => exact h
    | _ :: _ :: _ :: _ :: _ :: _, h => exact h
  | none => exact h
  | bool b => exact h
  | int b => exact h
  | list b => exact h
  | str b => exact h
  | dict b => exact h
end
end K61
/-! the end of a def (what it made for itself is forgotten); draws; == [] -/
namespace DL
open PySem PySem.Spec PyProof.Rows L2
/-! ### the end of a def -/
/-- what may be told at a return: as it is; data, what was made behind S forgotten; a list of one's own, as data -/
def RetD (P : PQ) (S : Store) (r : AV) (S' : Store) : Prop := P r S' ∨ (∃ x Gb, r = .d x ∧ S' = S ++ Gb ∧ P (.d x) S) ∨ ∃ k ds Gb, r = .m k ∧ S' = S ++ Gb ∧ S.length ≤ k ∧ S'[k]? = some (.lst (ds.map .d)) ∧ P (.d (.list ds)) S
section
variable {K : PySem.W.Frag} {Z As As' : List Addr} {S S' Gb : Store} {H H' : Hp}
theorem trim (r : Rl K Z As S H) (r' : Rl K Z As' (S ++ Gb) H') (po : Po Z As S H As' (S ++ Gb) H') : Po Z As S H As S H' ∧ Rl K Z As S H' ∧ Ex (lv Z As' (S ++ Gb)) H' (lv Z As S) H' := by
  obtain ⟨l, hl⟩ := po.pre
  have live : ∀ b, lv Z As S b → lv Z As' (S ++ Gb) b := fun b hb => by
    rcases hb with hb | ⟨k, o, h1, h2, h3⟩
    · exact .inl hb
    · refine .inr ⟨k, o, pre_get ⟨l, hl⟩ h1, ?_, h3⟩
      have : k < S.length := by
        rcases Nat.lt_or_ge k S.length with z | z
        · exact z
        · rw [List.getElem?_eq_none z] at h2; cases h2
      rw [List.getElem?_append_left this]
      exact h2
  have up : ∀ {k : Nat} {o : MO}, S[k]? = some o → (S ++ Gb)[k]? = some o := fun {k o} h2 => by
    have : k < S.length := by
      rcases Nat.lt_or_ge k S.length with z | z
      · exact z
      · rw [List.getElem?_eq_none z] at h2; cases h2
    rw [List.getElem?_append_left this]
    exact h2
  have ex : Ex (lv Z As' (S ++ Gb)) H' (lv Z As S) H' := fun b o e n => ⟨fun z => n (live b z), e⟩
  refine ⟨⟨fun b o e n => ?_, po.hid, [], by simp⟩, ⟨r.len, fun i j a oi oj h1 h2 h3 h4 h5 h6 => r.inj i j a oi oj h1 h2 h3 h4 h5 h6, fun k a o h1 h2 => ?_, fun b hb => ⟨(r'.hz b hb).1, (r.hz b hb).2⟩⟩, ex⟩
  · obtain ⟨n', e'⟩ := po.ext b o e n
    exact ⟨fun z => n' (live b z), e'⟩
  · have z := r'.at_ k a o (pre_get ⟨l, hl⟩ h1) (up h2)
    cases o with
    | dead => trivial
    | rng => exact z
    | lst xs =>
      obtain ⟨vs, e, q⟩ := z
      refine ⟨vs, e, ?_⟩
      -- the items: data stay data; numbers of things name the same things
      have xsOk : ∀ {ws : List V} {ys : List AV}, AVs K Z As' (S ++ Gb) H' ws ys → AVs K Z As S H ws ys ∨ True := fun _ => .inr trivial
      have z0 := r.at_ k a (.lst xs) h1 h2
      obtain ⟨vs0, e0, q0⟩ := z0
      exact back ex ⟨l, hl⟩ q0 q
    | dct xs =>
      obtain ⟨vs, e, q1, q⟩ := z
      obtain ⟨vs0, e0, _, q0⟩ := r.at_ k a (.dct xs) h1 h2
      exact ⟨vs, e, q1, back ex ⟨l, hl⟩ q0 q⟩
where
  back {Z As As' : List Addr} {S Sg : Store} {H H' : Hp} {vs vs0 : List V} {xs : List AV} (ex : Ex (lv Z As' Sg) H' (lv Z As S) H') (pre : ∃ l, As' = As ++ l) (q0 : AVs K Z As S H vs0 xs) (q : AVs K Z As' Sg H' vs xs) : AVs K Z As S H' vs xs := by
    induction q generalizing vs0 with
    | nil => exact .nil
    | @cons v ws a as x t ih =>
      cases q0 with
      | cons x0 t0 =>
        refine .cons ?_ (ih t0)
        cases a with
        | d y => exact DV.ex ex _ _ x
        | m k =>
          obtain ⟨b, e1, e2⟩ := x
          obtain ⟨b0, _, e3⟩ := x0
          have e4 := pre_get pre e3
          rw [e4] at e2
          cases e2
          exact ⟨_, e1, e3⟩
        | v y => exact x
theorem Kon.ret {P : PQ} {Q : VK} (k : Kon K Z As S H P Q) (rl : Rl K Z As S H) : Kon K Z As S H (RetD P S) Q := fun r S2 As2 v H2 h po rl2 av => by
  rcases h with h | ⟨x, Gb, rfl, rfl, h⟩ | ⟨j, ds, Gb, rfl, rfl, hj, hS, h⟩
  · exact k r S2 As2 v H2 h po rl2 av
  · obtain ⟨po', rl', ex⟩ := trim rl rl2 po
    exact k (.d x) S As v H2 h po' rl' (DV.ex ex _ _ av)
  · obtain ⟨po3, rl3, hf⟩ := freeze rl2 hS
    have dv : AVr K Z As2 ((S ++ Gb).set j .dead) H2 v (.d (.list ds)) := hf v av
    have e : (S ++ Gb).set j .dead = S ++ Gb.set (j - S.length) .dead := by rw [List.set_append_right _ _ hj]
    rw [e] at po3 rl3 dv
    obtain ⟨po', rl', ex⟩ := trim rl rl3 (po.trans po3)
    exact k (.d (.list ds)) S As v H2 h po' rl' (DV.ex ex _ _ dv)
end
section
variable {P : Program} {w : World} {K : PySem.W.Frag} {mg : Str → Option Value} {base : Heap} {k : Nat} {x : Str} {N ps : List Str} {W : WD}
/-- a def that may leave things of its own behind -/
theorem okR {st : Stmt} {g : GS} (D : DefAt K mg x st ps) (S : FnScope N ps (defScope st)) (hlen : ∀ as S P, W as S P → as.length = ps.length)
    (hb : ∀ (f : Addr) (cdv : Value) (A : Around) (outer : List Env) (s : Shared) (H : Hp) (E : XK), A.guards = some [] → Room k (A.deeper (envOfC x (defScope st) s.heap.objs.size f cdv)) →
      PDSs (cxOf CX0 P w K mg base N x (defScope st) f cdv A outer s H E).nox (defBody st) g)
    (hw : ∀ args S P, W args S P → g (args.map some ++ List.replicate (N.length - ps.length) none) S ⟨fun _ S' => RetD P S (.d .none) S', RetD P S, fun _ _ => False, fun _ _ => False⟩) : Own P w K mg base (k + 1) x ps W := by
  obtain ⟨f, fd, F, h1, h2, h3, h4⟩ := D.ex
  refine ⟨f, fd, F.okG S (fun vs H Q E h => ?_) (fun cdv A outer s H vs Q E hgd hr h => ?_), h1, h2, h3, h4⟩
  · obtain ⟨Z, As, S, args, P, rl, av, hW, _⟩ := h
    rw [av.length]
    exact hlen _ _ _ hW
  · obtain ⟨Z, As, S1, args, P1, rl, av, hW, hk⟩ := h
    have hl : vs.length = ps.length := by rw [av.length]; exact hlen _ _ _ hW
    have hk' := hk.ret rl
    refine ⟨_, hb f cdv A outer s H E hgd hr, Z, As, S1, _, _, rl, ?_, hw args S1 P1 hW, ?_, hk', ?_, ?_⟩
    · show Sl K Z As S1 H (vs.map some ++ List.replicate (N.length - vs.length) none) _
      rw [hl]
      exact Sl.start _ av
    · exact fun env' S' As' σ' H' h' po rl' sl' => hk' (.d .none) S' As' .non H' h' po rl' .non
    · exact fun _ _ _ _ _ z => z.elim
    · exact fun _ _ _ _ _ z => z.elim
end
/-! ### draws -/
def But (a : Addr) (H H' : Hp) : Prop := ∀ b o, b ≠ a → H b = some o → H' b = some o
def Rng (H : Hp) (a : Addr) : Prop := ∃ x y : Int, H a = some (.lst [.int x, .int y]) ∧ 0 ≤ y ∧ y ≤ 2147483629
def spRng (K : PySem.W.Frag) : Sp := fun vs H Q _ => ∃ (a : Addr) (ns : List Int) (k : Nat), vs = [.ref a, .int (k : Int)] ∧ SqL K H a (ns.map V.int) ∧ k ≤ 100 ∧ ∀ (p : Addr) (H' : Hp), H p = none → Same H H' → Rng H' p → Q (.ref p) H'
def spDraw : Sp := fun vs H Q _ => ∃ (a : Addr) (n : Int), vs = [.ref a, .int n] ∧ Rng H a ∧ 0 < n ∧ n < 10 ^ 28 ∧ ∀ (d : Int) (H' : Hp), 0 ≤ d → d < n → But a H H' → Rng H' a → Q (.int d) H'
theorem wide_n {n : Int} (h0 : 0 < n) (h : n < 10 ^ 28) : n.natAbs.log2 < 9000 := by
  refine Nat.lt_of_lt_of_le (PySem.Flt.log2_lt_of (k := 100) (by decide) ?_) (by decide)
  have z : (10 : Int) ^ 28 ≤ 2 ^ 100 := by decide
  omega
/-- _law_draw(rng, n) -/
def WDraw : WD := fun as S P => ∃ (r : Nat) (n : Int), as = [.m r, .d (.int n)] ∧ S[r]? = some .rng ∧ (0 < n ∧ n < 10 ^ 28) ∧ ∀ d : Int, 0 ≤ d → d < n → P (.d (.int d)) S
theorem WDraw.len {as : List AV} {S : Store} {P : PQ} (h : WDraw as S P) : as.length = 2 := by obtain ⟨_, _, rfl, _⟩ := h; rfl
section
variable {K : PySem.W.Frag} {Z As : List Addr} {S : Store} {H H' : Hp} {a : Addr} {r : Nat}
theorem but_state (rl : Rl K Z As S H) (hA : As[r]? = some a) (hS : S[r]? = some .rng) (b : But a H H') (hr : Rng H' a) : Po Z As S H As S H' ∧ Rl K Z As S H' := by
  have la : lv Z As S a := .inr ⟨r, .rng, hA, hS, by simp⟩
  have nz : a ∉ Z := fun z => by
    have := (rl.hz a z).2 r .rng hA hS
    cases this
  have po : Po Z As S H As S H' := by
    refine ⟨fun c o e n => ⟨n, b c o (fun z => n (by rw [z]; exact la)) e⟩, fun c hc => ?_, [], by simp⟩
    have hn := (rl.hz c hc).1
    cases e : H c with
    | none => exact absurd e hn
    | some o => exact b c o (fun z => nz (by rw [← z]; exact hc)) e
  refine ⟨po, ⟨rl.len, rl.inj, fun k c o h1 h2 => ?_, fun c hc => ⟨by rw [po.hid c hc]; exact (rl.hz c hc).1, (rl.hz c hc).2⟩⟩⟩
  by_cases hk : k = r
  · subst hk
    rw [hA] at h1
    rw [hS] at h2
    cases h1
    cases h2
    exact hr
  · by_cases hd : o = .dead
    · subst hd; trivial
    · have hc : H' c = H c := by
        have hne : c ≠ a := fun z => hk (rl.inj k r c o .rng h1 (by rw [z]; exact hA) h2 hS hd (by simp))
        cases e : H c with
        | none => exact absurd e (rl.live (.inr ⟨k, o, h1, h2, hd⟩))
        | some u => exact b c u hne e
      exact MOr.ex po.ext po.pre hc (rl.at_ k c o h1 h2)
theorem draw_of {P : Program} {w : World} {mg : Str → Option Value} {base : Heap} {k : Nat} {f : Addr} {fd : FuncData} (F : FnOk P w K mg base CX0 k f fd ["_law_rng_here", "_law_many"] spDraw) : FnD P w K mg base k f fd ["_law_rng_here", "_law_many"] WDraw := by
  have conv : ∀ vs H Q E, spW K WDraw vs H Q E → spDraw vs H Q E := fun vs H Q E h => by
    obtain ⟨Z, As, S, args, P, rl, av, ⟨r, n, rfl, hS, ⟨n0, n1⟩, hP⟩, hk⟩ := h
    cases av with
    | cons a1 t =>
      cases t with
      | cons a2 t =>
        cases t
        obtain ⟨a, rfl, hA⟩ := a1
        cases a2
        have z : MOr K Z As S H a .rng := rl.at_ r a .rng hA hS
        refine ⟨a, n, rfl, z, n0, n1, fun d H' d0 d1 b R => ?_⟩
        obtain ⟨po, rl'⟩ := but_state rl hA hS b R
        exact hk (.d (.int d)) S As (.int d) H' (hP d d0 d1) po rl' (.int d)
  exact ⟨fun vs H Q E h => F.len vs H Q E (conv _ _ _ _ h), fun A hg hr outer s H args us vs Q E e0 hb r h => F.run A outer s H args us vs Q E hr e0 hb r (conv _ _ _ _ h)⟩
end
/-- _law_rng(script, k): a new thing to draw from -/
def WRng : WD := fun as S P => ∃ (ns : List Int) (k : Nat), as = [.d (.list (ns.map .int)), .d (.int (k : Int))] ∧ k ≤ 100 ∧ P (.m S.length) (S ++ [.rng])
theorem WRng.len {as : List AV} {S : Store} {P : PQ} (h : WRng as S P) : as.length = 2 := by obtain ⟨_, _, rfl, _⟩ := h; rfl
/-- _law_choice(rng, a list) -/
def WChoice : WD := fun as S P => ∃ (r : Nat) (b : AV) (ds : List PyData), as = [.m r, b] ∧ S[r]? = some .rng ∧ vw S b = some (.list ds) ∧ (0 < ds.length ∧ ds.length ≤ 1000) ∧ ∀ y, y ∈ ds → P (.d y) S
theorem WChoice.len {as : List AV} {S : Store} {P : PQ} (h : WChoice as S P) : as.length = 2 := by obtain ⟨_, _, _, rfl, _⟩ := h; rfl
/-! ### == [] -/
def rEqNil (neg : Bool) : R2 := fun x y H Q => ∃ (a b : Addr) (xs : List V), x = .ref a ∧ y = .ref b ∧ H a = some (.lst xs) ∧ H b = some (.lst []) ∧ Q (.bl (cond neg (!xs.isEmpty) xs.isEmpty)) H
theorem op_eqNil {X : Cx} (hu : X.A.units < cLine) : OpR X (compareOp .Eq) (rEqNil false) := by
  intro pins s σ H x y v u Q I rx ry h
  obtain ⟨a, b, xs, rfl, rfl, ha, hb, q⟩ := h
  obtain rfl : v = .ref a := rx
  obtain rfl : u = .ref b := ry
  obtain ⟨us, r1, p1, _⟩ := I.list (show SqL X.K H a xs from .inl (.inl ha))
  obtain ⟨ws, r2, p2, _⟩ := I.list (show SqL X.K H b [] from .inl (.inl hb))
  cases r2
  cases xs with
  | nil =>
    cases r1
    exact SeqAt.eq_listAt (e := fun _ => true) p1.isList p2.isList rfl hu (fun j h1 _ => absurd h1 (by simp)) ⟨.bl true, H, I, rfl, q⟩
  | cons z zs =>
    cases r1
    exact SeqAt.eq_list_lengthsAt p1.isList p2.isList (by simp) hu ⟨.bl false, H, I, rfl, q⟩
theorem op_neNil {X : Cx} (hu : X.A.units < cLine) : OpR X (compareOp .NotEq) (rEqNil true) := by
  intro pins s σ H x y v u Q I rx ry h
  obtain ⟨a, b, xs, rfl, rfl, ha, hb, q⟩ := h
  obtain rfl : v = .ref a := rx
  obtain rfl : u = .ref b := ry
  obtain ⟨us, r1, p1, _⟩ := I.list (show SqL X.K H a xs from .inl (.inl ha))
  obtain ⟨ws, r2, p2, _⟩ := I.list (show SqL X.K H b [] from .inl (.inl hb))
  cases r2
  cases xs with
  | nil =>
    cases r1
    exact SeqAt.RcNeAt.lists (e := fun _ => true) p1.isList p2.isList rfl hu (fun j h1 _ => absurd h1 (by simp)) X.prog X.w _ _ ⟨.bl false, H, I, rfl, q⟩
  | cons z zs =>
    cases r1
    exact SeqAt.RcNeAt.lists_lengths p1.isList p2.isList (by simp) hu X.prog X.w _ _ ⟨.bl true, H, I, rfl, q⟩
def dEqNil (neg : Bool) : AV → AV → Store → PQ → Prop := fun a b S P => match vw S a with
  | some (.list ds) => vw S b = some (.list []) ∧ P (.d (.bool (cond neg (!ds.isEmpty) ds.isEmpty))) S
  | _ => False
theorem vr_eqNil {K : PySem.W.Frag} (neg : Bool) : VR2 K (rEqNil neg) (dEqNil neg) := by
  intro Z As S H x y a b P Q rl ax ay h k
  unfold dEqNil at h
  split at h
  · rename_i ds e1
    obtain ⟨p, vs, rfl, hp, t1⟩ := vw_list rl ax e1
    obtain ⟨q, ws, rfl, hq, t2⟩ := vw_list rl ay h.1
    cases t2
    refine ⟨p, q, vs, rfl, rfl, hp, hq, ?_⟩
    have e : vs.isEmpty = ds.isEmpty := by cases t1 <;> rfl
    rw [e]
    exact k.d rl (fun _ => .bl _) h.2
  · exact h.elim
section
variable {X : Cx} {a b : Expr} {g1 g2 : G} {pos : Pos} {k : Nat}
theorem pd_eqNil (hr : Room k X.A) (h1 : PD X a g1) (h2 : PD X b g2) : PD X (.Compare a [.Eq] [b] pos) (gBin (dEqNil false) g1 g2) := pd_cmp (op_eqNil (by have := room_eq hr; omega)) (vr_eqNil false) h1 h2 (nobehind _ (by decide) (by decide))
theorem pdt_eqNil (hr : Room k X.A) (h1 : PD X a g1) (h2 : PD X b g2) : PDT X (.Compare a [.Eq] [b] pos) (gTest (gBin (dEqNil false) g1 g2)) := pdt_cmp (op_eqNil (by have := room_eq hr; omega)) (vr_eqNil false) h1 h2 (nobehind _ (by decide) (by decide))
theorem pd_neNil (hr : Room k X.A) (h1 : PD X a g1) (h2 : PD X b g2) : PD X (.Compare a [.NotEq] [b] pos) (gBin (dEqNil true) g1 g2) := pd_cmp (op_neNil (by have := room_eq hr; omega)) (vr_eqNil true) h1 h2 (nobehind _ (by decide) (by decide))
theorem pdt_neNil (hr : Room k X.A) (h1 : PD X a g1) (h2 : PD X b g2) : PDT X (.Compare a [.NotEq] [b] pos) (gTest (gBin (dEqNil true) g1 g2)) := pdt_cmp (op_neNil (by have := room_eq hr; omega)) (vr_eqNil true) h1 h2 (nobehind _ (by decide) (by decide))
theorem pd_dct0 : PD X (.Dict [] [] pos) (gC (.dict [])) := PEwk pe_dnewK fun σ H Q h => by
  obtain ⟨Z, As, S, env, P, rl, sl, hg, hQ⟩ := h
  exact fun d hd => hQ.dct rl hd hg
/-- a list of one's own from two -/
def dAddM : AV → AV → Store → PQ → Prop := fun a b S P => match vw S a, vw S b with
  | some (.list xs), some (.list ys) => xs.length + ys.length ≤ sizeLine ∧ P (.m S.length) (S ++ [.lst ((xs ++ ys).map .d)])
  | _, _ => False
theorem vr_addM {K : PySem.W.Frag} : VR2 K rCat dAddM := by
  intro Z As S H x y a b P Q rl ax ay h k
  unfold dAddM at h
  split at h
  · rename_i xs ys e1 e2
    obtain ⟨p, vs, rfl, hp, t1⟩ := vw_list rl ax e1
    obtain ⟨q, ws, rfl, hq, t2⟩ := vw_list rl ay e2
    exact ⟨p, q, vs, ws, rfl, rfl, hp, hq, by rw [t1.length, t2.length]; exact h.1, fun r nr => k.lstM rl nr (AVs.of_d (t1.append t2)) h.2⟩
  · exact h.elim
theorem pd_addM (h1 : PD X a g1) (h2 : PD X b g2) : PD X (.BinOp a .Add b pos) (gBin dAddM g1 g2) := pd_op op_cat vr_addM h1 h2
end
end DL
/-! the law's draws, and its own judges -/
namespace K61
open PySem PySem.Spec PyProof.Rows L2 DL
abbrev sRng : Stmt := top 51
abbrev sDraw : Stmt := top 52
section
variable {P : Program} {w : World} {K : PySem.W.Frag} {mg : Str → Option Value} {base : Heap} {f : Addr} {fd : FuncData}
theorem scRng : FnScope ["_law_script", "_law_k", "_law_cell"] ["_law_script", "_law_k"] (defScope sRng) := ⟨rfl, rfl, rfl, by decide +kernel, rfl, by decide +kernel, by decide +kernel⟩

theorem scDraw : FnScope ["_law_rng_here", "_law_many", "_law_digit"] ["_law_rng_here", "_law_many"] (defScope sDraw) := ⟨rfl, rfl, rfl, by decide +kernel, rfl, by decide +kernel, by decide +kernel⟩
theorem ok_rng (F : Fun K "_law_rng" "_law_rng" sRng f fd) (B : Bl mg) : FnOk P w K mg base CX0 1 f fd ["_law_script", "_law_k"] (spRng K) := by
  refine F.ok scRng (fun vs H Q E h => ?_) (fun cdv A outer s H vs Q E hr h => ?_)
  · obtain ⟨a, ns, k, rfl, _⟩ := h
    rfl
  · obtain ⟨a, ns, k, rfl, hS, hk, q⟩ := h
    refine ⟨_, pss_cons (ps_set (i := 2) scRng.nd rfl (Or.inl rfl) (pe_ifExp (pt_cmpR op_lt (pv 1) (pe_callB call_len_seq (by rfl) (B.b "len" (by decide)) boot_len (pa_cons (pv 0) pa_nil)) (nomark _))
        (pe_callB call_abs (by rfl) (B.b "abs" (by decide)) boot_abs (pa_cons (pe_ix ix_list (pv 0) (pv 1) (fun _ _ => rfl)) pa_nil)) pe_int))
      (pss_one (ps_ret (pe_lst (pa_cons (pe_callB (call_max2 rfl) (by rfl) (B.b "max" (by decide)) boot_max (pa_cons pe_int (pa_cons (pe_op op_sub (pv 2) (pe_op op_pow pe_int pe_int)) pa_nil)))
        (pa_cons (pe_op op_add (pe_op op_mod (pe_op op_pow (pe_op op_add (pe_op op_add (pe_op op_mod (pv 2) pe_int) (pe_op op_mul pe_int (pv 1))) pe_int) pe_int) pe_int) pe_int) pa_nil))))), ?_⟩
    -- what comes behind the cell's value
    have rest : ∀ c : Int, 0 ≤ c → ∀ σ : L2.St, σ = [some (.ref a), some (.int (k : Int)), some (.int c)] →
        tRet (tLst (tCons (tCB (fun xs H Q => ∃ i j, xs = [.int i, .int j] ∧ Q (.int (if j > i then j else i)) H) (tCons (tC (.int 0)) (tCons (tOp (rI0 fun i j => .int (i - j)) (tVar 2) (tOp (rI CPow fun i j => .int (i ^ j.toNat)) (tC (.int 10)) (tC (.int 18)))) tNil)))
          (tCons (tOp (rI0 fun i j => .int (i + j)) (tOp (rI (fun _ j => 0 < j) fun i j => .int (i % j)) (tOp (rI CPow fun i j => .int (i ^ j.toNat)) (tOp (rI0 fun i j => .int (i + j)) (tOp (rI0 fun i j => .int (i + j)) (tOp (rI (fun _ j => 0 < j) fun i j => .int (i % j)) (tVar 2) (tC (.int 2147483563)))
            (tOp (rI CMul fun i j => .int (i * j)) (tC (.int 4099)) (tVar 1))) (tC (.int 17))) (tC (.int 2))) (tC (.int 2147483549))) (tC (.int 1))) tNil)))
          { nx := fun _ H' => Q .non H', rt := Q } σ H := by
      intro c hc σ hσ
      subst hσ
      have m1 : 0 ≤ c % 2147483563 := Int.emod_nonneg _ (by decide)
      have m2 : c % 2147483563 < 2147483563 := Int.emod_lt_of_pos _ (by decide)
      refine ⟨_, rfl, _, _, rfl, rfl, ⟨by decide, by decide, by decide⟩, _, _, rfl, rfl, _, _, rfl, ?_⟩
      refine ⟨_, rfl, _, _, rfl, rfl, (by show (0 : Int) < 2147483563; decide), _, rfl, _, _, rfl, rfl, .inl ⟨by decide, by decide⟩, _, _, rfl, rfl, _, _, rfl, rfl, _, _, rfl, rfl, ⟨by decide, by decide, ?_⟩, _, _, rfl, rfl, (by show (0 : Int) < 2147483549; decide), _, _, rfl, rfl, ?_⟩
      · show (c % 2147483563 + 4099 * (k : Int) + 17).natAbs < 2 ^ 64
        omega
      · refine ⟨(by show 2 ≤ sizeLine; decide), fun p hp => q p _ hp (fun b o e => ?_) ⟨_, _, upd_same, ?_, ?_⟩⟩
        · rw [upd_ne (ne_of_none e hp)]
          exact e
        · have := Int.emod_nonneg ((c % 2147483563 + 4099 * (k : Int) + 17) ^ (2 : Int).toNat) (show (2147483549 : Int) ≠ 0 by decide)
          omega
        · have := Int.emod_lt_of_pos ((c % 2147483563 + 4099 * (k : Int) + 17) ^ (2 : Int).toNat) (show (0 : Int) < 2147483549 by decide)
          omega
    refine ⟨_, rfl, _, rfl, a, _, rfl, .inl hS, _, _, rfl, rfl, _, rfl, ?_⟩
    refine ite2 (fun hlt => ?_) (fun _ => ?_)
    · have hlt' : k < (ns.map V.int).length := by
        have z := of_decide_eq_true hlt
        omega
      rw [List.length_map] at hlt'
      have hat : (ns.map V.int)[k]? = some (.int ns[k]) := by rw [List.getElem?_map, List.getElem?_eq_getElem hlt']; rfl
      refine ⟨_, rfl, _, rfl, a, _, _, _, rfl, rfl, hS, atI_nat hat, _, rfl, ?_⟩
      refine rest _ ?_ _ rfl
      split <;> omega
    · exact rest 0 (by decide) _ rfl
/-! ### _law_draw, _law_choice -/
theorem ok_draw (F : Fun K "_law_draw" "_law_draw" sDraw f fd) (B : Bl mg) : FnOk P w K mg base CX0 1 f fd ["_law_rng_here", "_law_many"] spDraw := by
  refine F.ok scDraw (fun vs H Q E h => ?_) (fun cdv A outer s H vs Q E hr h => ?_)
  · obtain ⟨a, n, rfl, _⟩ := h
    rfl
  · obtain ⟨a, n, rfl, ⟨x, y, ha, y0, y1⟩, n0, n1, q⟩ := h
    refine ⟨_, pss_cons (ps_if (pt_cmpR op_gt (pe_ix ix_list (pv 0) pe_int (fun _ _ => rfl)) pe_int (nomark _))
        (pss_cons (ps_asg (pe_callB call_divmodW (by rfl) (B.b "divmod" (by decide)) boot_divmod (pa_cons (pe_ix ix_list (pv 0) pe_int (fun _ _ => rfl)) (pa_cons (pv 1) pa_nil)))
            (pg_tup rfl (pgs_cons (pg_sub (pv 0) pe_int set_list) (pgs_cons (pg_name (i := 2) scDraw.nd rfl (Or.inl rfl)) pgs_nil))))
          (pss_one (ps_ret (pv 2)))) pss_nil)
      (pss_cons (ps_asg (pe_op op_mod (pe_op op_add (pe_op op_mul (pe_ix ix_list (pv 0) pe_int (fun _ _ => rfl)) pe_int) pe_int) pe_int) (pg_sub (pv 0) pe_int set_list))
      (pss_one (ps_ret (pe_op op_mod (pe_op op_fdiv (pe_op op_mod (pe_op op_mul (pe_ix ix_list (pv 0) pe_int (fun _ _ => rfl)) (pe_ix ix_list (pv 0) pe_int (fun _ _ => rfl))) pe_int) pe_int) (pv 1))))), ?_⟩
    have hS : SqL K H a [.int x, .int y] := .inl (.inl ha)
    refine ⟨_, rfl, a, _, _, _, rfl, rfl, hS, rfl, _, _, rfl, rfl, _, rfl, ?_⟩
    refine ite2 (fun hgt => ?_) (fun _ => ?_)
    · have hx : 0 < x := of_decide_eq_true hgt
      refine ⟨_, rfl, a, _, _, _, rfl, rfl, hS, rfl, _, rfl, _, _, rfl, ⟨n0, PyProof.noPylong_of_log2 (wide_n n0 n1)⟩, fun p hp => ?_⟩
      have ne : a ≠ p := ne_of_none ha hp
      refine ⟨p, _, rfl, .inl (.inl upd_same), rfl, _, _, rfl, _, rfl, a, _, _, 0, rfl, rfl, by rw [upd_ne ne]; exact ha, rfl, _, _, rfl, rfl, ?_⟩
      refine ⟨_, rfl, q _ _ (Int.emod_nonneg _ (by omega)) (Int.emod_lt_of_pos _ n0) (fun b o hb e => ?_) ⟨_, y, upd_same, y0, y1⟩⟩
      rw [upd_ne hb, upd_ne (ne_of_none e hp)]
      exact e
    · have z0 := Int.emod_nonneg (y * 39373 + 9311) (show (2147483629 : Int) ≠ 0 by decide)
      have z1 := Int.emod_lt_of_pos (y * 39373 + 9311) (show (0 : Int) < 2147483629 by decide)
      have hS' : SqL K (upd H a (.lst [.int x, .int ((y * 39373 + 9311) % 2147483629)])) a [.int x, .int ((y * 39373 + 9311) % 2147483629)] := .inl (.inl upd_same)
      have zz : -(2 ^ 64) < ((y * 39373 + 9311) % 2147483629) ∧ ((y * 39373 + 9311) % 2147483629) < 2 ^ 64 := ⟨by omega, by omega⟩
      refine ⟨_, rfl, a, _, _, _, rfl, rfl, hS, rfl, _, _, rfl, rfl, .inr ⟨by decide, by decide⟩, _, _, rfl, rfl, _, _, rfl, rfl, (by show (0 : Int) < 2147483629; decide), _, rfl, a, _, _, 1, rfl, rfl, ha, rfl, ?_⟩
      refine ⟨_, rfl, a, [.int x, .int ((y * 39373 + 9311) % 2147483629)], 1, .int ((y * 39373 + 9311) % 2147483629), rfl, rfl, hS', rfl, _, rfl, a, [.int x, .int ((y * 39373 + 9311) % 2147483629)], 1, .int ((y * 39373 + 9311) % 2147483629), rfl, rfl, hS', rfl, ((y * 39373 + 9311) % 2147483629), ((y * 39373 + 9311) % 2147483629), rfl, rfl, .inl zz, _, _, rfl, rfl, (by show (0 : Int) < 2147483563; decide), _, _, rfl, rfl, ⟨by decide, by decide⟩, _, rfl, _, _, rfl, rfl, n0, ?_⟩
      refine q _ _ (Int.emod_nonneg _ (by omega)) (Int.emod_lt_of_pos _ n0) (fun b o hb e => ?_) ⟨x, ((y * 39373 + 9311) % 2147483629), upd_same, z0, by omega⟩
      rw [upd_ne hb]
      exact e
theorem own_draw (D : DefAt K mg "_law_draw" sDraw ["_law_rng_here", "_law_many"]) (B : Bl mg) : Own P w K mg base 1 "_law_draw" ["_law_rng_here", "_law_many"] WDraw := by
  obtain ⟨f, fd, F, h1, h2, h3, h4⟩ := D.ex
  exact ⟨f, fd, draw_of (ok_draw F B), h1, h2, h3, h4⟩
abbrev s__law_choice : Stmt := top 53
theorem sc__law_choice : FnScope ["_law_rng_here", "_law_some"] ["_law_rng_here", "_law_some"] (defScope s__law_choice) := ⟨rfl, rfl, rfl, by decide +kernel, rfl, by decide +kernel, by decide +kernel⟩
theorem ok__law_choice (D : DefAt K mg "_law_choice" s__law_choice ["_law_rng_here", "_law_some"]) (B : Bl mg) (o__law_draw : Own P w K mg base 1 "_law_draw" ["_law_rng_here", "_law_many"] WDraw) : Own P w K mg base 2 "_law_choice" ["_law_rng_here", "_law_some"] WChoice := by
  have sc := sc__law_choice
  refine okO D sc (fun as S P h => h.len) (fun f cdv A outer s H E hg hr => (pdss_one (pds_ret (pd_at (pdv 1) (pdc o__law_draw hg hr (by rfl) (pda_cons (pdv 0) (pda_cons (pd_callB call_lenAll vr_len (by rfl) (B.b _ (by decide)) (by decide +kernel) (pda_cons (pdv 1) pda_nil)) pda_nil))))))) (fun args S P h => ?_)
  obtain ⟨r, b, ds, rfl, hS, hb, ⟨h0, h1⟩, h⟩ := h
  show (match vw S b with
    | some (.list ds) => _
    | some (.tuple ds) => _
    | some (.str x) => _
    | _ => False)
  rw [hb]
  refine ⟨r, (ds.length : Int), rfl, hS, ⟨by omega, by omega⟩, fun d d0 d1 => ?_⟩
  obtain ⟨j, rfl⟩ : ∃ j : Nat, d = (j : Int) := ⟨d.toNat, by omega⟩
  have hj : j < ds.length := by omega
  unfold dIx
  rw [hb]
  show (match atI ds (j : Int) with | some d => P (.d d) S | none => False)
  rw [atI_nat (List.getElem?_eq_getElem hj)]
  exact h _ (List.getElem_mem hj)
end
end K61
/-! names drawn -/
namespace K61
open PySem PySem.Spec PyProof.Rows L2 DL
def abc : Str := "abcdefghijklmnopqrstuvwxyz"
theorem abc_at : abc.cps.toList = List.range' 97 26 := by decide +kernel
theorem abc_ix {j : Nat} (h : j < 26) : atI abc.cps.toList (j : Int) = some (97 + j) := by
  rw [abc_at]
  refine atI_nat ?_
  rw [List.getElem?_range' h]
  simp
theorem join_cps : ∀ cs : List Nat, (Str.join "" (cs.map sgn)).cps.toList = cs
  | [] => rfl
  | [c] => rfl
  | c :: d :: r => by
    show ((sgn c ++ "" ++ Str.join "" ((d :: r).map sgn)) : Str).cps.toList = _
    rw [Str.cps_append, Array.toList_append, join_cps (d :: r), Str.cps_append, Array.toList_append]
    rfl
theorem join_sgn (cs : List Nat) : Txt.join "" (cs.map sgn) = ⟨cs.toArray⟩ := by
  show PySem.Builtin.Str.glued "" (cs.map sgn) = _
  rw [StrLaws.glued_eq_join]
  have h := join_cps cs
  cases e : Str.join "" (cs.map sgn) with
  | mk a =>
    rw [e] at h
    have h : a.toList = cs := h
    rw [← h]
theorem sgn_lens : ∀ cs : List Nat, ((cs.map sgn).map (·.length)).sum = cs.length
  | [] => rfl
  | c :: cs => by
    rw [List.map_cons, List.map_cons, List.sum_cons, sgn_lens cs, List.length_cons]
    show 1 + cs.length = _
    omega
theorem join_ok {S : Store} {P : PQ} {ys : List PyData} (cs : List Nat) (e : ys = (cs.map sgn).map .str) (hl : cs.length ≤ 1000) (h : P (.d (.str ⟨cs.toArray⟩)) S) : dJoin (.d (.str "")) [.d (.list ys)] S P := by
  subst e
  show (match txts ((cs.map sgn).map .str) with
      | some ys => (ys.map (·.length)).sum + ys.length * ("" : Str).length ≤ 16777216 ∧ P (.d (.str (Txt.join "" ys))) S
      | none => False)
  rw [DL.strs_map]
  refine ⟨?_, ?_⟩
  · rw [sgn_lens]
    show cs.length + (cs.map sgn).length * 0 ≤ _
    omega
  · rw [join_sgn]
    exact h
theorem notin_ok {S : Store} {P : PQ} {b : AV} {z : Str} (us : List Str) (e : vw S b = some (.list (us.map .str))) (h : P (.d (.bool (!us.any fun y => decide (y = z)))) S) : dIn true (.d (.str z)) b S P := by
  unfold dIn
  rw [e]
  refine .inl ?_
  unfold dInS
  rw [e]
  show (match txts (us.map .str) with
    | some ys => P (.d (.bool (cond true (!ys.any fun y => decide (y = z)) (ys.any fun y => decide (y = z))))) S
    | none => False)
  rw [DL.strs_map]
  exact h
theorem t_notin {i j : Nat} {env : DEnv} {S : Store} {k : Bool → Store → Prop} {b : AV} {z : Str} (us : List Str) (hi : env[i]? = some (some (.d (.str z)))) (hj : env[j]? = some (some b)) (e : vw S b = some (.list (us.map .str)))
    (h : k (!us.any fun y => decide (y = z)) S) : gTest (gBin (dIn true) (gVar i) (gVar j)) env S k := by
  unfold gTest gBin gVar
  rw [hi]
  show (match env[j]? with | some (some a) => _ | _ => False)
  rw [hj]
  exact notin_ok us e h
theorem if_notin {i j : Nat} {env : DEnv} {S : Store} {D : DE} {g1 g2 : GS} {b : AV} {z : Str} (us : List Str) (hi : env[i]? = some (some (.d (.str z)))) (hj : env[j]? = some (some b)) (e : vw S b = some (.list (us.map .str)))
    (h : cond (!us.any fun y => decide (y = z)) (g1 env S D) (g2 env S D)) : gsIf (gTest (gBin (dIn true) (gVar i) (gVar j))) g1 g2 env S D := by
  unfold gsIf
  exact t_notin us hi hj e h
theorem ix_first {S : Store} {P : PQ} (ds : List PyData) (n : ∃ y, y ∈ ds) (h : ∀ y, y ∈ ds → P (.d y) S) : dIx (.d (.list ds)) (.d (.int 0)) S P := by
  cases ds with
  | nil => obtain ⟨y, hy⟩ := n; cases hy
  | cons y ys => exact ix_l rfl rfl at0 (h y (List.mem_cons_self ..))
def SgR : PyData → PyData → Prop := fun _ y => ∃ j, j < 26 ∧ y = .str (sgn (97 + j))
theorem paired_signs : ∀ {xs ys : List PyData}, Paired SgR xs ys → ∃ cs : List Nat, ys = (cs.map sgn).map .str ∧ cs.length = xs.length ∧ cs.all okC = true
  | _, _, .nil => ⟨[], rfl, rfl, rfl⟩
  | _, _, .cons ⟨j, hj, e⟩ t => by
    obtain ⟨cs, e1, e2, e3⟩ := paired_signs t
    refine ⟨(97 + j) :: cs, by rw [e, e1]; rfl, by rw [List.length_cons, e2, List.length_cons], ?_⟩
    rw [List.all_cons, e3, Bool.and_true]
    unfold okC
    rw [decide_eq_true (show 97 ≤ 97 + j by omega), decide_eq_true (show 97 + j ≤ 122 by omega)]
    rfl
theorem name_cs {cs : List Nat} (h1 : 1 ≤ cs.length) (h8 : cs.length ≤ 8) (h : cs.all okC = true) : nameS ⟨cs.toArray⟩ = true := by
  unfold nameS
  have e : (⟨cs.toArray⟩ : Str).length = cs.length := rfl
  rw [e, decide_eq_true h1, decide_eq_true h8]
  exact h
theorem spare : ∀ (us ws : List Str), ws.Nodup → us.length < ws.length → ∃ w, w ∈ ws ∧ w ∉ us
  | [], ws, _, h => by
    cases ws with
    | nil => cases h
    | cons w ws => exact ⟨w, List.mem_cons_self .., by simp⟩
  | u :: us, ws, n, h => by
    have hl : us.length < (ws.erase u).length := by
      rw [List.length_erase]
      split <;> (rw [List.length_cons] at h; omega)
    obtain ⟨w, h1, h2⟩ := spare us (ws.erase u) (n.erase u) hl
    obtain ⟨h3, h4⟩ := (List.Nodup.mem_erase_iff n).mp h1
    exact ⟨w, h4, fun z => by
      rcases List.mem_cons.mp z with z | z
      · exact h3 z
      · exact h2 z⟩
def twoS (i : Nat) : Str := ⟨#[97 + i / 26, 97 + i % 26]⟩
def two : PyData → PyData
  | .int i => .str (twoS i.toNat)
  | _ => .none
theorem two_name {i : Nat} (h : i < 676) : nameS (twoS i) = true := by
  refine name_cs (cs := [97 + i / 26, 97 + i % 26]) (by simp) (by simp) ?_
  rw [List.all_cons, List.all_cons]
  unfold okC
  rw [decide_eq_true (show 97 ≤ 97 + i / 26 by omega), decide_eq_true (show 97 + i / 26 ≤ 122 by omega), decide_eq_true (show 97 ≤ 97 + i % 26 by omega), decide_eq_true (show 97 + i % 26 ≤ 122 by omega)]
  rfl
def notU (us : List Str) : PyData → Bool
  | .str z => !us.any fun y => decide (y = z)
  | _ => false
def WNm : WD := fun as S P => ∃ (r : Nat) (b : AV) (us : List Str), as = [.m r, b] ∧ S[r]? = some .rng ∧ vw S b = some (.list (us.map .str)) ∧ us.length ≤ 3 ∧ ∀ z, nameS z = true → P (.d (.str z)) S
section
variable {P : Program} {w : World} {K : PySem.W.Frag} {mg : Str → Option Value} {base : Heap}
abbrev s__law_name : Stmt := top 54
theorem sc__law_name : FnScope ["_law_rng_here", "_law_used", "_law_letters", "_law_turn", "_law_word", "_law_k"] ["_law_rng_here", "_law_used"] (defScope s__law_name) := ⟨rfl, rfl, rfl, by decide +kernel, rfl, by decide +kernel, by decide +kernel⟩
theorem ok__law_name (D : DefAt K mg "_law_name" s__law_name ["_law_rng_here", "_law_used"]) (B : Bl mg) (o__law_draw : Own P w K mg base 1 "_law_draw" ["_law_rng_here", "_law_many"] WDraw) : Own P w K mg base 2 "_law_name" ["_law_rng_here", "_law_used"] WNm := by
  have sc := sc__law_name
  refine okO D sc (fun as S P h => by obtain ⟨_, _, _, rfl, _⟩ := h; rfl) (fun f cdv A outer s H E hg hr => (pdss_cons (pds_set (i := 2) sc.nd rfl (Or.inr rfl) (pd_str)) (pdss_cons (pds_for PassesOwn.never rfl (pdi_range1 (by rfl) (B.b _ (by decide)) (pda_cons (pd_int) pda_nil)) (pdg_name (i := 3) sc.nd rfl (Or.inl rfl)) (pdss_cons (pds_set (i := 4) sc.nd rfl (Or.inl rfl) (pd_bm PySem.F.plainAttrs_str PySem.F.slot_str_join PySem.F.type_str_join mt_join vr_join (pd_str) (pda_cons (pd_lc (own := [("_law_k", 5)]) rfl sc.nd (pdi_range1 (by rfl) (B.b _ (by decide)) (pda_cons (pd_add (pd_int) (pdc o__law_draw hg hr (by rfl) (pda_cons (pdv 0) (pda_cons (pd_int) pda_nil)))) pda_nil)) (blkOk_by (N := ["_law_rng_here", "_law_used", "_law_letters", "_law_turn", "_law_word", "_law_k"]) (sc := defScope s__law_name) (by decide +kernel)) (cg_name (by decide)) (fun _ _ _ _ _ => (pg_name (i := 5) sc.nd rfl (Or.inl rfl))) (fun _ _ _ _ _ => pts_yes) (fun _ _ _ _ _ => (pd_at (pdv 2) (pdc o__law_draw hg hr (by rfl) (pda_cons (pdv 0) (pda_cons (pd_int) pda_nil)))))) pda_nil))) (pdss_one (pds_if (pdt_notin hr (pdv 4) (pdv 1) rfl) (pdss_one (pds_ret (pdv 4))) pdss_nil)))) (pdss_one (pds_ret (pd_at (pd_lc (own := [("_law_word", 4)]) rfl sc.nd (pdi_list (pd_lc (own := [("_law_k", 5)]) rfl sc.nd (pdi_range1 (by rfl) (B.b _ (by decide)) (pda_cons (pd_int) pda_nil)) (blkOk_by (N := ["_law_rng_here", "_law_used", "_law_letters", "_law_turn", "_law_word", "_law_k"]) (sc := defScope s__law_name) (by decide +kernel)) (cg_name (by decide)) (fun _ _ _ _ _ => (pg_name (i := 5) sc.nd rfl (Or.inl rfl))) (fun _ _ _ _ _ => pts_yes) (fun _ _ _ _ _ => (pd_add (pd_at (pdv 2) (pd_fdiv (pdv 5) (pd_int))) (pd_at (pdv 2) (pd_mod (pdv 5) (pd_int))))))) (blkOk_by (N := ["_law_rng_here", "_law_used", "_law_letters", "_law_turn", "_law_word", "_law_k"]) (sc := defScope s__law_name) (by decide +kernel)) (cg_name (by decide)) (fun _ _ _ _ _ => (pg_name (i := 4) sc.nd rfl (Or.inl rfl))) (fun _ _ _ _ _ => (pts_one (pdt_notin hr (pdv 4) (pdv 1) rfl))) (fun _ _ _ _ _ => (pdv 4))) (pd_int))))))) (fun args S P h => ?_)
  obtain ⟨r, b, us, rfl, hS, hb, hu, h⟩ := h
  refine ⟨⟨by decide, by decide⟩, ?_⟩
  refine loopD_inv (fun e s => s = S ∧ ∃ t w k, e = [some (.m r), some b, some (.d (.str abc)), t, w, k]) (fun x hx env S' i E en ec er eb => ?_) (fun env S' i => ?_) ⟨rfl, _, _, _, rfl⟩
  · obtain ⟨rfl, t, w, k, rfl⟩ := i
    refine ⟨rfl, r, 8, rfl, hS, ⟨by decide, by decide⟩, fun d d0 d1 => ?_⟩
    refine ⟨⟨by omega, by omega⟩, ?_, ?_⟩
    · rw [List.length_map, List.length_range, sizeLine_eq]; omega
    refine compD_rel SgR (fun y hy Q q => ?_) (fun ys hys => ?_)
    · refine ⟨r, 26, rfl, hS, ⟨by decide, by decide⟩, fun c c0 c1 => ?_⟩
      obtain ⟨j, rfl⟩ : ∃ j : Nat, c = (j : Int) := ⟨c.toNat, by omega⟩
      have hj : j < 26 := by omega
      exact ix_s (z := abc) rfl rfl (abc_ix hj) (q _ ⟨j, hj, rfl⟩)
    · obtain ⟨cs, e1, e2, e3⟩ := paired_signs hys
      rw [List.length_map, List.length_range] at e2
      rw [List.nil_append]
      have hn := name_cs (by omega) (by omega) e3
      dsimp only [DL.gNil]
      refine join_ok cs e1 (by omega) ?_
      dsimp only [ggName]
      refine if_notin (z := ⟨cs.toArray⟩) us rfl rfl hb ?_
      refine cond_or (c := !us.any fun y => decide (y = ⟨cs.toArray⟩)) (fun g1 => ?_) (fun g1 => ?_)
      · show E.rt (.d (.str ⟨cs.toArray⟩)) S'
        rw [er]
        exact h _ hn
      · exact en _ _ ⟨rfl, _, _, _, rfl⟩
  · obtain ⟨rfl, t, w, k, rfl⟩ := i
    refine ⟨⟨by decide, by decide⟩, ?_, ?_⟩
    · rw [List.length_map, List.length_range, sizeLine_eq]; decide
    refine compD_map two (fun y hy Q q => ?_) ?_
    · obtain ⟨i, hi, rfl⟩ := List.mem_map.mp hy
      have hi : i < 676 := by have := List.mem_range.mp hi; exact this
      have e1 : atI abc.cps.toList ((i : Int) / 26) = some (97 + i / 26) := by
        rw [show (i : Int) / 26 = ((i / 26 : Nat) : Int) by omega]
        exact abc_ix (by omega)
      have e2 : atI abc.cps.toList ((i : Int) % 26) = some (97 + i % 26) := by
        rw [show (i : Int) % 26 = ((i % 26 : Nat) : Int) by omega]
        exact abc_ix (by omega)
      have z : (sgn (97 + i / 26) ++ sgn (97 + i % 26) : Str) = twoS i := rfl
      refine ⟨⟨by decide, by decide⟩, ix_s (z := abc) rfl rfl e1 ⟨(by show (0 : Int) < 26; decide), ix_s (z := abc) rfl rfl e2 ⟨?_, ?_⟩⟩⟩
      · rw [sizeLine_eq]; show 2 ≤ _; decide
      · show Q (.d (.str (sgn (97 + i / 26) ++ sgn (97 + i % 26)))) S'
        rw [z]
        exact q
    · rw [List.nil_append]
      refine ⟨?_, ?_⟩
      · rw [List.length_map, List.length_map, List.length_range, sizeLine_eq]; decide
      refine compD_filter (notU us) id (fun y hy Q Nn q1 q2 => ?_) ?_
      · obtain ⟨y', hy', rfl⟩ := List.mem_map.mp hy
        obtain ⟨i, hi, rfl⟩ := List.mem_map.mp hy'
        dsimp only [ggName]
        refine t_notin (z := twoS i) us rfl rfl hb ?_
        refine cond_or (c := !us.any fun y => decide (y = twoS i)) (fun g1 => q1 g1) (fun g1 => q2 g1)
      · rw [List.nil_append, List.map_id]
        have mem : ∀ y, y ∈ ((List.range 676).map fun (i : Nat) => PyData.int (i : Int)).map two → ∃ i, i < 676 ∧ y = .str (twoS i) := fun y hy => by
          obtain ⟨y', hy', rfl⟩ := List.mem_map.mp hy
          obtain ⟨i, hi, rfl⟩ := List.mem_map.mp hy'
          exact ⟨i, List.mem_range.mp hi, rfl⟩
        obtain ⟨w, hw, hn⟩ := spare us ((List.range 4).map twoS) (by decide +kernel) (by rw [List.length_map, List.length_range]; omega)
        obtain ⟨j, hj, rfl⟩ := List.mem_map.mp hw
        have hj : j < 4 := List.mem_range.mp hj
        have some_ : PyData.str (twoS j) ∈ (((List.range 676).map fun (i : Nat) => PyData.int (i : Int)).map two).filter (notU us) := by
          refine List.mem_filter.mpr ⟨List.mem_map.mpr ⟨.int (j : Int), List.mem_map.mpr ⟨j, List.mem_range.mpr (by omega), rfl⟩, rfl⟩, ?_⟩
          show (!us.any fun y => decide (y = twoS j)) = true
          have : (us.any fun y => decide (y = twoS j)) = false := List.any_eq_false.mpr fun y hy => by
            intro e
            have e := of_decide_eq_true e
            exact hn (e ▸ hy)
          rw [this]
          rfl
        have all_ : ∀ y, y ∈ (((List.range 676).map fun (i : Nat) => PyData.int (i : Int)).map two).filter (notU us) → ∃ i, i < 676 ∧ y = .str (twoS i) := fun y hy => mem y (List.mem_filter.mp hy).1
        refine ix_first ((((List.range 676).map fun (i : Nat) => PyData.int (i : Int)).map two).filter (notU us)) ⟨_, some_⟩ fun y hy => ?_
        obtain ⟨i, hi, rfl⟩ := all_ y hy
        exact h _ (two_name hi)
end
end K61
/-! written texts of numbers, split, partition, find, str, int; a slot that holds a def; == () -/
namespace DL
open PySem PySem.Spec PyProof.Rows L2
/-! ### numbers as texts -/
def numT (i : Int) : Str := Str.ofString (toString i)
theorem log_small {i : Int} (h : i.natAbs < 10 ^ 570) : i.natAbs.log2 < 1920 := log2_small (Nat.lt_trans h (by decide +kernel))
theorem numT_len {i : Int} (h : i.natAbs < 10 ^ 570) : (numT i).length ≤ 600 := by
  have z := int_text_length_le10 (k := 570) (by decide) h
  unfold numT
  rw [PySem.ofString_length]
  omega
theorem numT_line {i : Int} (h : i.natAbs < 10 ^ 570) : (numT i).length ≤ sizeLine := by
  have := numT_len h
  rw [sizeLine_eq]
  omega
def gFmt (g : G) : G := fun env S P => g env S fun a S1 => match a with
  | .d (.str y) => P (.d (.str y)) S1
  | .d (.int i) => i.natAbs < 10 ^ 570 ∧ P (.d (.str (numT i))) S1
  | _ => False
def gJs : List G → Str → DEnv → Store → (Str → Store → Prop) → Prop
  | [], acc => fun _ S P => P acc S
  | g :: gs, acc => fun env S P => g env S fun a S1 => match a with
    | .d (.str y) => (acc ++ y).length ≤ sizeLine ∧ gJs gs (acc ++ y) env S1 P
    | _ => False
def gJoined (gs : List G) : G := fun env S P => gJs gs Str.empty env S fun out S' => P (.d (.str out)) S'
theorem js_wk {K : PySem.W.Frag} {Z : List Addr} {env : DEnv} {σ : L2.St} {P : Str → Store → Prop} {Q : Str → Hp → Prop} : ∀ (gs : List G) (acc : Str) {As : List Addr} {S : Store} {H : Hp}, acc.length ≤ sizeLine → Rl K Z As S H → Sl K Z As S H σ env → gJs gs acc env S P →
    (∀ out S' As' H', out.length ≤ sizeLine → P out S' → Po Z As S H As' S' H' → Rl K Z As' S' H' → Q out H') → tJs (gs.map (tD K)) acc σ H Q
  | [], acc, As, S, H, ha, rl, sl, h, k => k acc S As H ha h Po.refl rl
  | g :: gs, acc, As, S, H, ha, rl, sl, h, k => by
    refine ⟨Z, As, S, env, _, rl, sl, h, fun a S1 As1 x H1 h1 po1 rl1 av1 => ?_⟩
    match a, h1, av1 with
    | .d (.str y), h1, av1 =>
      cases av1
      refine ⟨y, rfl, h1.1, js_wk gs (acc ++ y) h1.1 rl1 (sl.po po1) h1.2 fun out S' As' H' hl p po r => k out S' As' H' hl p (po1.trans po) r⟩
section
variable {X : Cx} {a b e : Expr} {es : List Expr} {g g1 g2 : G} {ga : GA} {pos p : Pos}
theorem pd_fmt (h : PD X e g) : PD X (.FormattedValue e (-1) none pos) (gFmt g) := PEwk (pe_fmt h) fun σ H Q h => by
  obtain ⟨Z, As, S, env, P, rl, sl, hg, hQ⟩ := h
  refine ⟨Z, As, S, env, _, rl, sl, hg, fun a S1 As1 x H1 h1 po1 rl1 av1 => ?_⟩
  match a, h1, av1 with
  | .d (.str y), h1, av1 =>
    cases av1 with
    | str _ hz => exact .inl ⟨y, rfl, hz, hQ (.d (.str y)) S1 As1 _ H1 h1 po1 rl1 (.str y hz)⟩
  | .d (.int i), h1, av1 =>
    cases av1
    exact .inr ⟨i, rfl, log_small h1.1, hQ (.d (.str (numT i))) S1 As1 _ H1 h1.2 po1 rl1 (.str _ (numT_line h1.1))⟩
abbrev PDJ (X : Cx) (es : List Expr) (gs : List G) : Prop := PJ X es (gs.map (tD X.K))
theorem pdj_nil : PDJ X [] [] := .nil
theorem pdj_cons {gs : List G} (h : PD X e g) (t : PDJ X es gs) : PDJ X (e :: es) (g :: gs) := .cons h t
theorem pd_joined {gs : List G} (h : PDJ X (a :: b :: es) gs) : PD X (.JoinedStr (a :: b :: es) pos) (gJoined gs) := PEwk (pe_joined h) fun σ H Q h => by
  obtain ⟨Z, As, S, env, P, rl, sl, hg, hQ⟩ := h
  exact js_wk gs Str.empty (Nat.zero_le _) rl sl hg fun out S' As' H' hl p po r => hQ (.d (.str out)) S' As' _ H' p po r (.str out hl)
end
/-! ### str(n), int(text) -/
section
variable {K : PySem.W.Frag}
def dStrOf : List AV → Store → PQ → Prop := fun as S P => match as with
  | [.d (.int i)] => i.natAbs < 10 ^ 570 ∧ P (.d (.str (numT i))) S
  | _ => False
theorem vr_strOf : VRn K (fun xs H Q => ∃ i : Int, xs = [.int i] ∧ i.natAbs.log2 < 1920 ∧ Q (.str (toString i)) H) dStrOf := by
  intro Z As S H xs as P Q rl av h k
  unfold dStrOf at h
  split at h
  · rename_i i
    cases av with
    | cons a1 t =>
      cases t
      cases a1
      exact ⟨i, rfl, log_small h.1, k.d rl (fun _ => .str _ (numT_line h.1)) h.2⟩
  · exact h.elim
def dIntOf : List AV → Store → PQ → Prop := fun as S P => match as with
  | [.d (.str x)] => x.length ≤ 640 ∧ ∃ n, PySem.intText? x = some n ∧ P (.d (.int n)) S
  | _ => False
theorem vr_intOf : VRn K (fun xs H Q => ∃ a n, xs = [.str a] ∧ PySem.intText? a = some n ∧ a.length ≤ 640 ∧ Q (.int n) H) dIntOf := by
  intro Z As S H xs as P Q rl av h k
  unfold dIntOf at h
  split at h
  · rename_i x
    cases av with
    | cons a1 t =>
      cases t
      cases a1
      obtain ⟨h1, n, h2, h3⟩ := h
      exact ⟨x, n, rfl, h2, h1, k.d rl (fun _ => .int _) h3⟩
  · exact h.elim
/-! ### find, split, partition -/
def dFind : AV → List AV → Store → PQ → Prop := fun a as S P => match a, as with
  | .d (.str x), [.d (.str y)] => P (.d (.int (Txt.find x y))) S
  | _, _ => False
theorem vr_find : VRm K (fun x xs H Q => ∃ a b, x = V.str a ∧ xs = [V.str b] ∧ Q (V.int (Txt.find a b)) H) dFind := by
  intro Z As S H x xs a as P Q rl av avs h k
  unfold dFind at h
  split at h
  · rename_i s z
    cases avs with
    | cons b1 t =>
      cases t
      cases av
      cases b1
      exact ⟨s, z, rfl, rfl, k.d rl (fun _ => .int _) h⟩
  · exact h.elim
theorem sum_ge : ∀ {l : List Nat} {n : Nat}, n ∈ l → n ≤ l.sum
  | m :: l, n, h => by
    rw [List.sum_cons]
    rcases List.mem_cons.mp h with rfl | h
    · omega
    · have := sum_ge h
      omega
theorem part_len {x y z : Str} (hy : 1 ≤ y.length) (h : z ∈ Txt.split x y) : z.length ≤ x.length := by
  have w := split_weight x y hy
  have a := sum_ge (List.mem_map.mpr ⟨z, h, rfl⟩ : z.length ∈ (Txt.split x y).map (·.length))
  have b : 1 ≤ (Txt.split x y).length := List.length_pos_of_mem h
  omega
theorem dvs_of_strs {L : Addr → Prop} {H : Hp} : ∀ {xs : List Str}, (∀ x, x ∈ xs → x.length ≤ sizeLine) → DVs K L H (xs.map V.str) (xs.map .str)
  | [], _ => .nil
  | x :: xs, h => .cons (.str x (h x (List.mem_cons_self ..))) (dvs_of_strs fun z hz => h z (List.mem_cons_of_mem _ hz))
def dSplit : AV → List AV → Store → PQ → Prop := fun a as S P => match a, as with
  | .d (.str x), [.d (.str y)] => (1 ≤ y.length ∧ x.length ≤ 100000) ∧ P (.d (.list ((Txt.split x y).map .str))) S
  | _, _ => False
theorem vr_split : VRm K (fun x xs H Q => ∃ a b, x = V.str a ∧ xs = [V.str b] ∧ (b.length == 0) = false ∧ a.length + 2 ≤ sizeLine ∧ rNewStrs (Txt.split a b) H Q) dSplit := by
  intro Z As S H x xs a as P Q rl av avs h k
  unfold dSplit at h
  split at h
  · rename_i s z
    cases avs with
    | cons b1 t =>
      cases t
      cases av
      cases b1
      obtain ⟨⟨h1, h2⟩, h3⟩ := h
      refine ⟨s, z, rfl, rfl, beq_eq_false_iff_ne.mpr (by omega), by rw [sizeLine_eq]; omega, fun p np => k.lst rl np (dvs_of_strs fun u hu => ?_) h3⟩
      have := part_len h1 hu
      rw [sizeLine_eq]
      omega
  · exact h.elim
theorem part_lens (x y : Str) : (Txt.partition x y).1.length ≤ x.length ∧ (Txt.partition x y).2.1.length ≤ x.length ∧ (Txt.partition x y).2.2.length ≤ x.length := by
  have z := congrArg Str.length (StrLaws.partition_sum x y)
  rw [Str.length_append, Str.length_append] at z
  omega
def dPart : AV → List AV → Store → PQ → Prop := fun a as S P => match a, as with
  | .d (.str x), [.d (.str y)] => (1 ≤ y.length ∧ x.length ≤ 100000) ∧ P (.d (.tuple [.str (Txt.partition x y).1, .str (Txt.partition x y).2.1, .str (Txt.partition x y).2.2])) S
  | _, _ => False
theorem vr_part : VRm K (fun x xs H Q => ∃ a b, x = V.str a ∧ xs = [V.str b] ∧ (b.length == 0) = false ∧ a.length ≤ sizeLine ∧ ∀ p, H p = none → Q (.ref p) (upd H p (.tup [.str (Txt.partition a b).1, .str (Txt.partition a b).2.1, .str (Txt.partition a b).2.2]))) dPart := by
  intro Z As S H x xs a as P Q rl av avs h k
  unfold dPart at h
  split at h
  · rename_i s z
    cases avs with
    | cons b1 t =>
      cases t
      cases av
      cases b1
      obtain ⟨⟨h1, h2⟩, h3⟩ := h
      have hl := part_lens s z
      have ln : ∀ {n : Nat}, n ≤ s.length → n ≤ sizeLine := fun hn => by rw [sizeLine_eq]; omega
      refine ⟨s, z, rfl, rfl, beq_eq_false_iff_ne.mpr (by omega), ln (Nat.le_refl _), fun p np => k.tup rl np ?_ h3⟩
      exact .cons (.str _ (ln hl.1)) (.cons (.str _ (ln hl.2.1)) (.cons (.str _ (ln hl.2.2)) .nil))
  · exact h.elim
end
/-! ### a slot that holds a def -/
section
variable {X : Cx} {k i : Nat} {x : Str} {p pos : Pos} {e : Expr} {es : List Expr} {ga : GA}
def gCallA (i : Nat) (T : Addr → Option WD) (ga : GA) : G := fun env S P => ∃ f W, env[i]? = some (some (.v (.ref f))) ∧ T f = some W ∧ ga env S fun as S1 => W as S1 P
structure HeldD (P : Program) (w : World) (K : PySem.W.Frag) (mg : Str → Option Value) (base : Heap) (k : Nat) (f : Addr) (W : WD) : Prop where
  ex : ∃ (fd : FuncData) (ps : List Str), FnD P w K mg base k f fd ps W ∧ PySem.W.keepIn K (.ref f) = true ∧ Binds K fd ps []
theorem pd_callA {T : Addr → Option WD} (A : ∀ f W, T f = some W → HeldD X.prog X.w X.K X.mg X.base k f W) (hgd : X.A.guards = some []) (hr : Room k X.A) (hN : X.N[i]? = some x) (ha : PDA X (e :: es) ga)
    (hv : Vis X.env.scope x := by first | exact Or.inl rfl | exact Or.inr (Or.inl rfl) | exact Or.inr (Or.inr rfl)) (hdb : (x == ("__debug__" : Str)) = false := by decide) (hcd : (x == ("__classdict__" : Str)) = false := by decide)
    (he : starEach (e :: es) X.env = (false, eval e X.env) :: starEach es X.env := by rfl) (hpl : (backTo pos (starEach es X.env)).any (·.1) = false := by rfl) : PD X (.Call (.Name x p) (e :: es) [] pos) (gCallA i T ga) := by
  refine ⟨fun pins s σ H Q I h => ?_⟩
  obtain ⟨Z, As, S, env, P, rl, sl, ⟨f, W, he1, hT, hga⟩, hQ⟩ := h
  obtain ⟨fd, ps, F, hk, hb⟩ := (A f W hT).ex
  obtain ⟨v0, hs, hv0⟩ := sl.get he1
  have hv0 : v0 = .ref f := hv0
  subst hv0
  refine wpAny_Call_Name_kw (thn ((pe_var (pos := p) hN hv hdb hcd).run pins s σ H (fun v H1 => v = .ref f ∧ H1 = H) I ⟨.ref f, hs, rfl, rfl⟩) fun u s1 hh => ?_)
  obtain ⟨v, H1, I1, r1, e1, e2⟩ := hh
  subst e1
  subst e2
  cases r1
  refine PySem.W.callWith_K (h₀ := X.base) I.ok.mod.kin hk (thn (ha.run pos pins s1 σ _ (fun vs H2 => spW X.K W vs H2 Q E0) I1 ⟨Z, As, S, env, _, rl, sl, hga, fun as S1 As1 xs H1 h1 po1 rl1 av1 => ⟨Z, As1, S1, as, P, rl1, av1, h1, hQ.later po1⟩⟩) fun us s2 hh => ?_) he hpl
  obtain ⟨vs, H2, I2, r, q⟩ := hh
  refine ⟨I2.kIn, ?_⟩
  have hl : us.length = ps.length := by rw [← r.length]; exact F.len _ _ _ _ q
  have b := hb s2 us I2.kIn (by rw [List.append_nil]; exact hl)
  rw [List.append_nil] at b
  refine wpAny_call (codeAny_mono (F.run X.A hgd hr X.stack s2 H2 ⟨us, []⟩ us vs Q E0 I2.env0 b r q) fun r s' z => ?_)
  match r, z with
  | .ok (.ret u), z => exact I2.after z
  | .ok .next, z => exact z.elim
  | .ok .brk, z => exact z.elim
  | .ok .cont, z => exact z.elim
  | .error _, z => exact z.elim
end

end DL
/-! raise X(e, ..) for an own error of any base with fields; behind `except X as n`: n.f, isinstance(n, Y) -/
namespace L2
open PySem PySem.Spec PyProof.Rows
/-- an __init__ that stores fs: what it leaves, with the error's own dict told -/
def spIniX (C : Addr) (fs : List Str) : Sp := fun vs H Q _ => ∃ (a : Addr) (ys : List V), vs = .ref a :: ys ∧ ys.length = fs.length ∧ H a = some (exo a C none) ∧
  ∀ (d : Addr) (l : List (Str × V)) (H2 : Hp), H d = none → d ≠ a → (∀ b o, b ≠ a → H b = some o → H2 b = some o) → H2 a = some (exo a C (some d)) → H2 d = some (exd d l) → (∀ f v, (fs.zip ys).lookup f = some v → l.lookup f = some v) → Q .non H2
/-- raise C(e, ..): the wish asked of the error's class, its dict, the heap -/
def tMkX (C : Addr) (fs : List Str) (ta : TA) : L2.St → Hp → XK → Prop := fun σ H E => ta σ H fun zs H1 => zs.length = fs.length ∧
  ∀ (d : Addr) (l : List (Str × V)) (H2 : Hp), H1 d = none → Same H1 H2 → H2 d = some (.xd l) → (∀ f v, (fs.zip zs).lookup f = some v → l.lookup f = some v) → E (.ref C) (some d) H2
structure RaCls (P : Program) (w : World) (K : PySem.W.Frag) (mg : Str → Option Value) (base : Heap) (x : Str) (C : Addr) (fs : List Str) : Prop where
  T : OexG K C
  gC : mg x = some (.ref C)
  tyC : PySem.W.typeIn K (.ref C) = some (.type "type")
  ini : ∃ (fI : Addr) (fd : FuncData), PySem.W.findIn K (.ref C) "__init__" = some (some (.ref fI)) ∧ PySem.W.typeIn K (.ref fI) = some (.type "function") ∧ FnOk P w K mg base CX0 1 fI fd (("self" : Str) :: fs) (spIniX C fs) ∧
    (∀ (s : Shared) (us : List Value), us.length = fs.length + 1 → BindsTo s fd ⟨us, []⟩ ((("self" : Str) :: fs).zip us))
theorem pmk_X {X : Cx} {x : Str} {C : Addr} {fs : List Str} {e : Expr} {es : List Expr} {ta : TA} {p pos : Pos} (G : RaCls X.prog X.w X.K X.mg X.base x C fs) (h5 : fs.length ≤ 5) (hr : Room 2 X.A) (hg : Gl X x) (ha : PA X (e :: es) ta)
    (hdb : (x == ("__debug__" : Str)) = false := by decide) (he : starEach (e :: es) X.env = (false, eval e X.env) :: starEach es X.env := by rfl) (hpl : (backTo pos (starEach es X.env)).any (·.1) = false := by rfl) :
    PMk X (.Call (.Name x p) (e :: es) [] pos) (tMkX C fs ta) := by
  intro pins s σ H Q I h
  obtain ⟨T, gC, tyC, fI, fd, iC, tI, F1, b1⟩ := G
  obtain ⟨B, newId, initId, bmB, FB, SB, ei, eo⟩ := T.cls
  refine wpAny_Call_Name_kw (ld_glob I hg gC (PySem.W.callWith_K (h₀ := X.base) I.ok.mod.kin T.kC (thn (ha.run pos pins s σ H _ I h) fun us s1 hh => ?_) he hpl) hdb)
  obtain ⟨zs, H1, I1, r1, hl, q1⟩ := hh
  refine ⟨I1.kIn, ?_⟩
  show wpAny _ _ (call (.ref C) us) _ _ _
  have hlu : us.length = fs.length := r1.length.symm.trans hl
  obtain ⟨nm, N, q, bs', bm, hdct, sn, sub, ab, col, dd, k0, k1, k2, k3, k5, hC, hbm⟩ := PySem.W.excInit_of I1.kIn ei
  obtain ⟨hp, g, dr, tk, os⟩ := s1
  have hn : H1 (hp.objs.size + 1) = none := I1.hok.fresh (Nat.le_succ _)
  have kk : ∀ b o, hp.get? b = some o → ((hp.push (PySem.W.kdv_tup us)).push (PySem.HandSPX.excO C hp.objs.size)).get? b = some o := fun b o z => Heap.get?_push_of_some _ (Heap.get?_push_of_some _ z)
  have at1 : ((hp.push (PySem.W.kdv_tup us)).push (PySem.HandSPX.excO C hp.objs.size)).get? (hp.objs.size + 1) = some (PySem.HandSPX.excO C hp.objs.size) := by heap_get
  have I2 := I1.laid (t' := tk) (a := hp.objs.size + 1) (o := exo (hp.objs.size + 1) C none) (h' := (hp.push (PySem.W.kdv_tup us)).push (PySem.HandSPX.excO C hp.objs.size)) kk (Nat.le_succ _) (exo_ok at1)
  have hq : spIniX C fs (.ref (hp.objs.size + 1) :: zs) (upd H1 (hp.objs.size + 1) (exo (hp.objs.size + 1) C none))
      (fun v H2 => v = .non ∧ ∃ (d : Addr) (l : List (Str × V)), H2 (hp.objs.size + 1) = some (exo (hp.objs.size + 1) C (some d)) ∧ H2 d = some (exd d l) ∧ H1 d = none ∧ Q (.ref C) (some d) (upd (del H2 (hp.objs.size + 1)) d (.xd l))) (fun _ _ _ => False) := by
    refine ⟨_, zs, rfl, hl, upd_same, fun d l H2 n1 n2 k e1 e2 lk => ⟨rfl, d, l, e1, e2, ?_, ?_⟩⟩
    · rw [upd_ne n2] at n1
      exact n1
    · have n3 : H1 d = none := by
        rw [upd_ne n2] at n1
        exact n1
      refine q1 d l _ n3 (fun b o z => ?_) upd_same lk
      have m1 := ne_of_none z hn
      rw [upd_ne (ne_of_none z n3), del_ne m1]
      exact k b o m1 (by rw [upd_ne m1]; exact z)
  refine wpAny_call (PySem.OEG.call_kw (kw := []) FB hbm hC (PySem.W.looks_findIn I1.kIn iC) (fun self => PySem.W.bind_fn I1.kIn self tI) (small_line hlu h5)
    (codeAny_mono (F1.run _ X.stack _ _ ⟨Value.ref (hp.objs.size + 1) :: us, []⟩ (Value.ref (hp.objs.size + 1) :: us) _ _ (fun _ _ _ => False) (hr.make C us []) (I2.env0.make C us []) (b1 _ _ (congrArg Nat.succ hlu)) (show Vals (V.ref (hp.objs.size + 1) :: zs) (Value.ref (hp.objs.size + 1) :: us) from .cons rfl r1) hq) fun r s' z => ?_))
  match r, z with
  | .ok (.ret u), z =>
    obtain ⟨v, H2, o2, bare2, un2, hok2, rv, rfl, d, l, ea, ed, hd1, q2⟩ := z
    obtain ⟨h2, g2, d2, t2, os'⟩ := s'
    exact ⟨rv, mk_end (raises_own T.exC tyC) I1 (Nat.le_succ _) kk un2 hok2 o2 bare2 ea ed hd1 q2⟩
  | .ok .next, z => exact z.elim
  | .ok .brk, z => exact z.elim
  | .ok .cont, z => exact z.elim
  | .error _, z => exact z.elim
/-- n.f, n the error that the suite holds -/
def tSuF (K : PySem.W.Frag) (f : Str) (a : Addr) (cls : Value) (d : Option Addr) (te : TE) : TE := fun σ H Q => te σ H fun x H1 => ∃ (C dd : Addr) (l : List (Str × V)) (v : V), x = .ref a ∧ cls = .ref C ∧ OexG K C ∧ PySem.W.findIn K (.ref C) f = some none ∧ d = some dd ∧ H1 dd = some (.xd l) ∧ l.lookup f = some v ∧ Q v H1
theorem pe_suF {X : Cx} {a : Addr} {oe : Obj} {cls : Value} {d : Option Addr} {pn : List (Addr × Obj)} {e : Expr} {te : TE} {f : Str} {pos : Pos} (hz : Zc cls d oe) (hf : ∃ vs, oe.data = .fields vs) (he : PE (X.suite a ((a, oe) :: pn)) e te)
    (hb : attributeBase e f X.env (eval e X.env) = eval e X.env := by rfl) : PE (X.suite a ((a, oe) :: pn)) (.Attribute e f pos) (tSuF X.K f a cls d te) := by
  refine ⟨fun pins s σ H Q I h => attr_of hb (thn (he.run pins s σ H _ I h) fun u s1 hh => ?_)⟩
  obtain ⟨x, H1, I1, rx, C, dd, l, v, rfl, rfl, T, hno, rfl, ea, lv, q⟩ := hh
  cases (show u = Value.ref a from rx)
  obtain ⟨ha, _⟩ := I1.pin (a, oe) (List.mem_append_left _ List.mem_cons_self)
  obtain ⟨vs, hd⟩ := hf
  obtain ⟨mA, hns, hr⟩ := (show ObjOk X.prog X.w H1 s1.heap dd (.xd l) from I1.hok dd _ ea)
  obtain ⟨od, ho, hl⟩ := lookIn_ns hns
  obtain ⟨u, hu, ru⟩ := RelO.some_of (v := v) (o := mA f) (by rw [← lv]; exact hr f)
  have J : PySem.W.InstAt s1.heap a oe C (some od) := ⟨ha, hz.1, by unfold PySem.W.notCls; rw [hd] <;> rfl, by rw [hz.2]; exact ho⟩
  exact HandSPX.exc_get I1.kIn J T.ga T.gg T.exC (PySem.W.findObj_own T.hd hno rfl (by rw [hl, hu])) (handed_of ru) ⟨v, H1, I1.tok _, ru, q⟩
/-- isinstance(n, Y), n the error that the suite holds, its dict tracked -/
def rSuI (K : PySem.W.Frag) (a : Addr) (cls : Value) (d : Option Addr) : List V → Hp → VK → Prop := fun xs H Q => ∃ (C dd : Addr) (l : List (Str × V)) (c : V) (u : Value) (b : Bool), xs = [.ref a, c] ∧ cls = .ref C ∧ OexG K C ∧ d = some dd ∧ H dd = some (.xd l) ∧ ClsV c u ∧
  PySem.W.kitOne K (.ref C) u = some b ∧ Q (.bl b) H
theorem call_suI {X : Cx} {a : Addr} {oe : Obj} {cls : Value} {d : Option Addr} {pn : List (Addr × Obj)} (G : GetC X.K) (hz : Zc cls d oe) (hf : ∃ vs, oe.data = .fields vs) : CallR (X.suite a ((a, oe) :: pn)) (.builtin "isinstance") (rSuI X.K a cls d) := by
  intro pins s σ H xs us Q I r h
  obtain ⟨C, dd, l, c, u, b, rfl, rfl, T, rfl, ed, k, e, q⟩ := h
  obtain ⟨u1, u2, rfl, r1, r2⟩ := vals2 r
  cases (show u1 = Value.ref a from r1)
  cases k.eq r2
  obtain ⟨ha, _⟩ := I.pin (a, oe) (List.mem_append_left _ List.mem_cons_self)
  obtain ⟨vs, hd⟩ := hf
  obtain ⟨mA, ⟨o, es, ep, ho, hr⟩, _⟩ := (show ObjOk X.prog X.w H s.heap dd (.xd l) from I.hok dd _ ed)
  have J : PySem.W.InstAt s.heap a oe C (some o) := ⟨ha, hz.1, by unfold PySem.W.notCls; rw [hd] <;> rfl, by rw [hz.2]; exact ho⟩
  exact PySem.W.kia_one (kit_err G T) I.kIn J e (fun z => nomatch z) fun tk => ⟨.bl b, H, I.kept (t' := tk) fun _ _ z => z, rfl, q⟩
end L2
/-! defs that may raise an own error of one field; several clauses «except X as n» -/
namespace L2
open PySem PySem.Spec PyProof.Rows
/-- a def that may raise, under known guards -/
structure FnE (P : Program) (w : World) (K : PySem.W.Frag) (mg : Str → Option Value) (base : Heap) (k : Nat) (f : Addr) (fd : FuncData) (ps : List Str) (sp : Sp) : Prop where
  len : ∀ vs H Q E, sp vs H Q E → vs.length = ps.length
  run : ∀ (A : Around), A.guards = some [] → Room k A → ∀ (outer : List Env) (s : Shared) (H : Hp) (args : Args) (us : List Value) (vs : List V) (Q : VK) (E : XK),
    Env0 P w K mg base A outer s H → BindsTo s fd args (ps.zip us) → Vals vs us → sp vs H Q E → codeAny (model P w) A (.call (.ref f) args) (CR (L2.CX P w) outer P w H s Q E) s
section
variable {P : Program} {w : World} {K : PySem.W.Frag} {mg : Str → Option Value} {base : Heap} {k : Nat} {f : Addr} {fd : FuncData} {ps : List Str} {sp : Sp}
theorem Fun.okE {x qual : Str} {st : Stmt} {N : List Str} (F : Fun K x qual st f fd) (S : FnScope N ps (defScope st)) (len : ∀ vs H Q E, sp vs H Q E → vs.length = ps.length)
    (body : ∀ (cdv : Value) (A : Around) (outer : List Env) (s : Shared) (H : Hp) (vs : List V) (Q : VK) (E : XK), A.guards = some [] → Room k (A.deeper (envOfC qual (defScope st) s.heap.objs.size f cdv)) → sp vs H Q E →
      ∃ t, PSs (cxOf (L2.CX P w) P w K mg base N qual (defScope st) f cdv A outer s H E) (defBody st) t ∧ t { nx := fun _ H' => Q .non H', rt := Q } (start N vs) H) : FnE P w K mg base (k + 1) f fd ps sp := by
  refine ⟨len, fun A hgd hr outer s H args us vs Q E e0 hb r hsp => ?_⟩
  obtain ⟨oc, od, kV, doc, pm, an, cdv, ct, osl, rfl, lk, hcd⟩ := F.ex
  obtain ⟨t, ht, hq⟩ := body cdv A outer s H vs Q E hgd (hr.deeper _) hsp
  have inK : K.In s.heap := e0.mod.kin.keeps fun b o e => (e0.bs b o e).1
  refine codeAny_call_function hr.depth (inK _ _ lk) rfl S.co S.gen rfl (PySem.W.codeRec_of inK hcd) (hb _ _ _ _ (wpAny_newFunctionEnv_cells S.kind ?_ ?_))
  · rintro ⟨n, v⟩ hy
    rcases S.par n (List.of_mem_zip hy).1 with q | q
    · exact .inl q
    · exact .inr ⟨q, PySem.W.cellsFrom_some _ _ _ (.inl q)⟩
  · intro env he s1 x
    subst he
    refine ⟨(e0.mod.nolimit.keeps fun b o e => (e0.bs b o e).1).keeps x.toInCall.keep, codeAny_func ?_⟩
    refine wpAny_mono (ht.run [] s1 (start N vs) H _ (inv_start S hr.hd e0 (len _ _ _ _ hsp) r x) hq) (fun fl s' hs => ?_) fun _ _ hs => hs
    cases fl with
    | ret u =>
      obtain ⟨v, σ', H', J, rv, q⟩ := hs
      exact ⟨v, H', J.os, J.bare, J.base, J.hok, rv, q⟩
    | next =>
      obtain ⟨σ', H', J, q⟩ := hs
      exact ⟨V.non, H', J.os, J.bare, J.base, J.hok, rfl, q⟩
    | brk => exact hs.choose_spec.choose_spec.2.elim
    | cont => exact hs.choose_spec.choose_spec.2.elim
end
/-- what several clauses «except X as n» wish, one behind the other; i is n's slot -/
def wManyA (K : PySem.W.Frag) (i : Nat) (Wout : WX) (D : Ends) : List (Value × (Addr → Value → Option Addr → TS)) → WX
  | [] => Wout
  | (c, ts) :: r => fun cls d σ H => ∃ b, PySem.W.exmOne K cls c = some b ∧
    (b = true → ∀ a, H a = none → ts a cls d ⟨fun σ' H' => D.nx (σ'.set i none) H', D.rt, fun σ' H' => D.bk (σ'.set i none) H', fun σ' H' => D.ct (σ'.set i none) H'⟩ (σ.set i (some (.ref a))) H) ∧ (b = false → wManyA K i Wout D r cls d σ H)
inductive HdsA (X : Cx) (n : Str) : List ExceptHandler → List (Value × (Addr → Value → Option Addr → TS)) → Prop
  | nil : HdsA X n [] []
  | cons {x : Str} {c : Value} {ts : Addr → Value → Option Addr → TS} {b₀ : Stmt} {suite : List Stmt} {np pos' : Pos} {hds : List ExceptHandler} {l : List (Value × (Addr → Value → Option Addr → TS))} (hc : Names X x c)
      (hsu : ∀ (a : Addr) (oe : Obj) (cls : Value) (d : Option Addr) (pn : List (Addr × Obj)), Zc cls d oe → (∃ vs, oe.data = .fields vs) → PSs (X.suite a ((a, oe) :: pn)) (b₀ :: suite) (ts a cls d)) (r : HdsA X n hds l) :
      HdsA X n (.ExceptHandler (some (.Name x np)) (some n) (b₀ :: suite) pos' :: hds) ((c, ts) :: l)
theorem ps_try_manyA {X : Cx} {n : Str} {i : Nat} {body : List Stmt} {h₀ : ExceptHandler} {hds : List ExceptHandler} {l : List (Value × (Addr → Value → Option Addr → TS))} {pos : Pos} {tb : WX → TS} {Wout : WX}
    (hs : X.stack = X.env :: X.outer) (hf : X.env.frame = some X.env.locals) (hN : X.N.Nodup) (hi : X.N[i]? = some n) (hln : X.env.kindOf n = some .local) (tk : Takes X Wout)
    (hb : ∀ (W : WX) (pn : List (Addr × Obj)) (xe : Value → Shared → Prop), Takes (X.tr pn xe) W → PassesOwn (model X.prog X.w) X.A X.env xe → PSs (X.tr pn xe) body (tb W)) (hh : HdsA X n (h₀ :: hds) l) :
    PS X (.Try body (h₀ :: hds) [] [] pos) (fun D σ H => tb (wManyA X.K i Wout D l) D σ H) := by
  constructor
  intro pins s σ H D I hT
  have okX := I.ok
  have frX : X.A.frames = some (X.env :: X.outer) := okX.frames.trans (congrArg some hs)
  have locN : Loc X.env.scope n := Or.inl hln
  apply wpAny_Try_except
  have CATCH : Takes (X.tr (X.pn ++ pins) fun e s₁ => wpAny (model X.prog X.w) X.A (noteFrame e X.env) (fun _ s₂ => wpAny (model X.prog X.w) X.A (setFlight e none) (fun _ s₃ => wpAny (model X.prog X.w) X.A (handleBy e X.env (h₀ :: hds)) (SP X pins D) X.xe s₃) X.xe s₂) X.xe s₁) (wManyA X.K i Wout D l) := by
    rintro u s' ⟨a, B, sI, pins', τ, G, cls, d, rfl, J', nb, up, sky, na, os, ag, wish⟩
    have J : Inv X pins τ G sI := J'.ofTry okX
    rw [show (X.tr _ _).stack = X.env :: X.outer from hs] at sky
    apply Sky.land Zc.steady frX hf sky
    intro h3 fl3 up3
    have J3 : Inv X pins τ G ⟨h3, s'.gens, s'.drawn, s'.toks, s'.os⟩ := J.landed nb fl3.1 (up.trans up3) os ag
    obtain ⟨oe3, vs3, he3, hz3, hd3⟩ := fl3.there
    have off : a ∉ frs (X.env :: X.outer) := by
      intro hm
      obtain ⟨_, o', e', hnf⟩ := fl3.2.2.1.mem hm
      cases he3.symm.trans e'
      exact hnf _ hd3
    have nL : a ≠ X.env.locals := by
      intro z
      exact off (List.mem_filterMap.mpr ⟨X.env, .head _, z ▸ hf⟩)
    have nF : a ∉ X.fs := by
      intro hm
      obtain ⟨e, he, q⟩ := List.mem_filterMap.mp hm
      exact off (List.mem_filterMap.mpr ⟨e, .tail _ he, q⟩)
    have S3 := J3.suite he3 hd3 na nL nF
    suffices go : ∀ {hds' l'}, HdsA X n hds' l' → wManyA X.K i Wout D l' cls d τ G → wpAny (model X.prog X.w) X.A (handleBy (.ref a) X.env hds') (SP X pins D) X.xe ⟨h3, s'.gens, s'.drawn, s'.toks, s'.os⟩ from go hh wish
    intro hds' l' hk
    induction hk with
    | nil =>
      intro wout
      apply wpAny_handleBy_nil
      obtain ⟨_, _, _, oe, vs, T, oT, ts', he, hz, hd, h1, hr⟩ := id fl3
      unfold PySem.passOn
      apply wpAny_bind
      apply wpAny_field he hd h1
      have noT : ¬ ((Value.ref T == Value.none) = true) := by simp
      rw [if_neg noT]
      have fin : wpAny (model X.prog X.w) X.A (setFlight (.ref a) X.env.frame) (fun _ s4 => wpAny (model X.prog X.w) X.A (throw (.ref a) : Sem Flow) (SP X pins D) X.xe s4) X.xe ⟨h3, s'.gens, s'.drawn, s'.toks, s'.os⟩ := by
        rw [hf]
        apply HandSPX.setFlight_upZ fl3
        intro h4 hh4 up4
        have sky4 : Sky B X.stack a (Zc cls d) X.env.locals h4 := .inr (.inr (hs ▸ hh4))
        exact wpAny_throw (tk _ _ ⟨a, B, sI, pins, τ, G, cls, d, rfl, J, nb, (up.trans up3).trans up4, sky4, na, os, ag, wout⟩)
      first
        | exact wpAny_bind (wpAny_pure (wpAny_bind fin))
        | exact wpAny_bind fin
    | @cons x c ts b₀ suite np pos' more lm hc hsu r ih =>
      rintro ⟨b, is, yes, no⟩
      refine wpAny_handleBy_cons (codeAny_handlers_test ?_) (by rintro ⟨⟩)
      have LT : PySem.W.Looks (model X.prog X.w) h3 (typeOf (.ref a)) cls := by
        intro A Q E s k q
        exact wpAny_typeOf_ref (k _ _ he3) (hz3.1 ▸ q)
      have LM := PySem.W.exm_one (M := model X.prog X.w) J3.kIn LT is
      have named : ∀ {Q E : Value → Shared → Prop}, Q c ⟨h3, s'.gens, s'.drawn, s'.toks, s'.os⟩ → wpAny (model X.prog X.w) (X.A.mark (some (.ref a))) (eval (.Name x np) X.env) Q E ⟨h3, s'.gens, s'.drawn, s'.toks, s'.os⟩ := by
        intro Q E q
        rcases hc with ⟨hg, hdbg, hm | ⟨hm, hv, hnn⟩⟩
        · exact ld_glob (X := X.suite a ((a, oe3) :: (X.pn ++ pins))) S3 hg hm q hdbg
        · exact ld_blt (X := X.suite a ((a, oe3) :: (X.pn ++ pins))) S3 hg hm hv q hnn hdbg
      apply named
      apply LM.here
      cases b with
      | false => exact ih (no rfl)
      | true =>
        apply codeAny_handlers_suite_as
        apply HandSPX.lands_againZ fl3
        intro h4 fl4 up4
        have J4 : Inv X pins τ G ⟨h4, s'.gens, s'.drawn, s'.toks, s'.os⟩ := J.landed nb fl4.1 ((up.trans up3).trans up4) os ag
        obtain ⟨oe4, vs4, he4, hz4, hd4⟩ := fl4.there
        have S4 := J4.suite he4 hd4 na nL nF
        apply store_ok (X := X.suite a ((a, oe4) :: (X.pn ++ pins))) (v := .ref a) S4 hN hi locN rfl ?_ (.inr hln)
        intro s5 S5
        refine wpAny_mono ((hsu a oe4 cls d (X.pn ++ pins) hz4 ⟨_, hd4⟩).run [] s5 _ G _ S5 (yes rfl a na)) (fun f s6 hsp => ?_) (fun _ _ z => z.elim)
        have ends : ∀ {τ6 : L2.St} {G6 : Hp} {Q : Shared → Prop}, Inv (X.suite a ((a, oe4) :: (X.pn ++ pins))) [] τ6 G6 s6 → (∀ s7, Inv X pins (τ6.set i none) G6 s7 → Q s7) →
            wpAny (model X.prog X.w) X.A (do bindName X.env n .none; unbindBehindTheSuite X.env n pos') (fun _ s7 => Q s7) X.xe s6 := by
          intro τ6 G6 Q S6 hq
          exact gone_ok (S6.unsuite okX) hN hi hln hq
        cases f with
        | next => obtain ⟨_, _, S6, q6⟩ := hsp; exact ends S6 fun s7 J7 => ⟨_, _, J7, q6⟩
        | brk => obtain ⟨_, _, S6, q6⟩ := hsp; exact ends S6 fun s7 J7 => ⟨_, _, J7, q6⟩
        | cont => obtain ⟨_, _, S6, q6⟩ := hsp; exact ends S6 fun s7 J7 => ⟨_, _, J7, q6⟩
        | ret u => obtain ⟨_, _, _, S6, r6, q6⟩ := hsp; exact ends S6 fun s7 J7 => ⟨_, _, _, J7, r6, q6⟩
  refine wpAny_mono ((hb _ _ _ CATCH PassesOwn.looking).run [] s σ H D (I.toTry _) hT) (fun f s1 hsp => ?_) (fun e s1 he => he)
  cases f with
  | next => obtain ⟨_, _, J', q⟩ := hsp; exact wpAny_execs_nil ⟨_, _, J'.ofTry okX, q⟩
  | brk => obtain ⟨_, _, J', q⟩ := hsp; exact ⟨_, _, J'.ofTry okX, q⟩
  | cont => obtain ⟨_, _, J', q⟩ := hsp; exact ⟨_, _, J'.ofTry okX, q⟩
  | ret u => obtain ⟨_, _, _, J', r, q⟩ := hsp; exact ⟨_, _, _, J'.ofTry okX, r, q⟩
end L2
/-! data: defs that may raise -/
namespace DL
open PySem PySem.Spec PyProof.Rows L2
/-- what is wished where an error is raised: the slots, the class's name, its one field -/
abbrev EQ := DEnv → Str → PyData → Store → Prop
/-- own classes of one field: where, which field -/
abbrev CLs := Str → Option (Addr × Str)
def KonW (K : PySem.W.Frag) (T : CLs) (Z As : List Addr) (S : Store) (H : Hp) (EP : EQ) (W : WX) : Prop := ∀ env' c C f x S' As' σ' v H' dd l H'', T c = some (C, f) → EP env' c x S' → Po Z As S H As' S' H' → Rl K Z As' S' H' → Sl K Z As' S' H' σ' env' →
  DV K (lv Z As' S') H' v x → H' dd = none → Same H' H'' → H'' dd = some (.xd l) → l.lookup f = some v → W (.ref C) (some dd) σ' H''
def KonE (K : PySem.W.Frag) (T : CLs) (Z As : List Addr) (S : Store) (H : Hp) (EP : Str → PyData → Store → Prop) (E : XK) : Prop := ∀ c C f x S' As' v H' dd l H'', T c = some (C, f) → EP c x S' → Po Z As S H As' S' H' → Rl K Z As' S' H' →
  DV K (lv Z As' S') H' v x → H' dd = none → Same H' H'' → H'' dd = some (.xd l) → l.lookup f = some v → E (.ref C) (some dd) H''
section
variable {K : PySem.W.Frag} {T : CLs} {Z As As' : List Addr} {S S' : Store} {H H' : Hp} {EP : EQ} {W : WX}
theorem KonW.later (k : KonW K T Z As S H EP W) (po : Po Z As S H As' S' H') : KonW K T Z As' S' H' EP W := fun env' c C f x S2 As2 σ' v H2 dd l H3 a b po2 => k env' c C f x S2 As2 σ' v H2 dd l H3 a b (po.trans po2)
theorem KonE.body {EP : Str → PyData → Store → Prop} {E : XK} (k : KonE K T Z As S H EP E) : KonW K T Z As S H (fun _ => EP) (fun c d _ H => E c d H) := fun env' c C f x S2 As2 σ' v H2 dd l H3 a b po rl _ dv n s e lk => k c C f x S2 As2 v H2 dd l H3 a b po rl dv n s e lk
/-- objects that are new and not told of -/
theorem same_po (r : Rl K Z As S H) (s : Same H H') : Po Z As S H As S H' ∧ Rl K Z As S H' := by
  have hid : ∀ b, H b ≠ none → H' b = H b := fun b hb => by
    cases e : H b with
    | none => exact absurd e hb
    | some o => exact s b o e
  have po : Po Z As S H As S H' := ⟨fun b o e n => ⟨n, s b o e⟩, fun b hb => hid b (r.hz b hb).1, [], by simp⟩
  refine ⟨po, r.len, r.inj, fun k a o h1 h2 => ?_, fun b hb => ⟨by rw [hid b (r.hz b hb).1]; exact (r.hz b hb).1, (r.hz b hb).2⟩⟩
  by_cases hd : o = .dead
  · subst hd; trivial
  · exact MOr.ex po.ext po.pre (hid a (r.live (.inr ⟨k, o, h1, h2, hd⟩))) (r.at_ k a o h1 h2)
end
abbrev GE := DEnv → Store → PQ → EQ → Prop
abbrev GAE := DEnv → Store → (List AV → Store → Prop) → EQ → Prop
abbrev GSE := DEnv → Store → DE → EQ → Prop
def tDE (K : PySem.W.Frag) (T : CLs) (W : WX) (g : GE) : TE := fun σ H Q => ∃ Z As S env P EP, Rl K Z As S H ∧ Sl K Z As S H σ env ∧ g env S P EP ∧ Kon K Z As S H P Q ∧ KonW K T Z As S H EP W
def tDAE (K : PySem.W.Frag) (T : CLs) (W : WX) (g : GAE) : TA := fun σ H Q => ∃ Z As S env P EP, Rl K Z As S H ∧ Sl K Z As S H σ env ∧ g env S P EP ∧ KonA K Z As S H P Q ∧ KonW K T Z As S H EP W
def tDSE (K : PySem.W.Frag) (T : CLs) (W : WX) (g : GSE) : TS := fun D σ H => ∃ Z As S env E EP, Rl K Z As S H ∧ Sl K Z As S H σ env ∧ g env S E EP ∧ KonS K Z As S H E.nx D.nx ∧ Kon K Z As S H E.rt D.rt ∧ KonS K Z As S H E.bk D.bk ∧ KonS K Z As S H E.ct D.ct ∧ KonW K T Z As S H EP W
abbrev PDE (X : Cx) (T : CLs) (W : WX) (e : Expr) (g : GE) : Prop := PE X e (tDE X.K T W g)
abbrev PDAE (X : Cx) (T : CLs) (W : WX) (es : List Expr) (g : GAE) : Prop := PA X es (tDAE X.K T W g)
abbrev PDSE (X : Cx) (T : CLs) (W : WX) (st : Stmt) (g : GSE) : Prop := PS X st (tDSE X.K T W g)
abbrev PDSsE (X : Cx) (T : CLs) (W : WX) (st : List Stmt) (g : GSE) : Prop := PSs X st (tDSE X.K T W g)
abbrev WDE := List AV → Store → PQ → (Str → PyData → Store → Prop) → Prop
def spE (K : PySem.W.Frag) (T : CLs) (W : WDE) : Sp := fun vs H Q E => ∃ Z As S args P EP, Rl K Z As S H ∧ AVs K Z As S H vs args ∧ W args S P EP ∧ Kon K Z As S H P Q ∧ KonE K T Z As S H EP E
structure OwnE (P : Program) (w : World) (K : PySem.W.Frag) (mg : Str → Option Value) (base : Heap) (T : CLs) (k : Nat) (x : Str) (ps : List Str) (W : WDE) : Prop where
  ex : ∃ f fd, FnE P w K mg base k f fd ps (spE K T W) ∧ mg x = some (.ref f) ∧ PySem.W.keepIn K (.ref f) = true ∧ Binds K fd ps [] ∧ ∀ (s : Shared) (us : List Value), us.length = ps.length → BindsTo s fd ⟨[], ps.zip us⟩ (ps.zip us)
section
variable {P : Program} {w : World} {K : PySem.W.Frag} {mg : Str → Option Value} {base : Heap} {T : CLs} {k : Nat} {x : Str} {N ps : List Str} {W : WDE}
theorem OwnE.mono {j : Nat} (O : OwnE P w K mg base T j x ps W) (h : j ≤ k) : OwnE P w K mg base T k x ps W := by
  obtain ⟨f, fd, F, r⟩ := O.ex
  exact ⟨f, fd, ⟨F.len, fun A hg hr => F.run A hg (hr.mono h)⟩, r⟩
theorem okE {st : Stmt} {g : GSE} (D : DefAt K mg x st ps) (S : FnScope N ps (defScope st)) (hlen : ∀ as S P EP, W as S P EP → as.length = ps.length)
    (hb : ∀ (f : Addr) (cdv : Value) (A : Around) (outer : List Env) (s : Shared) (H : Hp) (E : XK), A.guards = some [] → Room k (A.deeper (envOfC x (defScope st) s.heap.objs.size f cdv)) →
      PDSsE (cxOf (L2.CX P w) P w K mg base N x (defScope st) f cdv A outer s H E) T (fun c d _ H => E c d H) (defBody st) g)
    (hw : ∀ args S P EP, W args S P EP → g (args.map some ++ List.replicate (N.length - ps.length) none) S ⟨fun _ S' => P (.d .none) S', P, fun _ _ => False, fun _ _ => False⟩ (fun _ => EP)) : OwnE P w K mg base T (k + 1) x ps W := by
  obtain ⟨f, fd, F, h1, h2, h3, h4⟩ := D.ex
  refine ⟨f, fd, L2.Fun.okE F S (fun vs H Q E h => ?_) (fun cdv A outer s H vs Q E hgd hr h => ?_), h1, h2, h3, h4⟩
  · obtain ⟨Z, As, S, args, P, EP, rl, av, hW, _⟩ := h
    rw [av.length]
    exact hlen _ _ _ _ hW
  · obtain ⟨Z, As, S1, args, P1, EP, rl, av, hW, hk, he⟩ := h
    have hl : vs.length = ps.length := by rw [av.length]; exact hlen _ _ _ _ hW
    refine ⟨_, hb f cdv A outer s H E hgd hr, Z, As, S1, _, _, _, rl, ?_, hw args S1 P1 EP hW, ?_, hk, ?_, ?_, he.body⟩
    · show Sl K Z As S1 H (vs.map some ++ List.replicate (N.length - vs.length) none) _
      rw [hl]
      exact Sl.start _ av
    · exact fun env' S' As' σ' H' h' po rl' sl' => hk (.d .none) S' As' .non H' h' po rl' .non
    · exact fun _ _ _ _ _ z => z.elim
    · exact fun _ _ _ _ _ z => z.elim
end
section
variable {X : Cx} {T : CLs} {W : WX} {j k : Nat} {x : Str} {ps : List Str} {p pos : Pos} {a b c e : Expr} {es : List Expr} {kws : List Keyword} {st : Stmt} {rest : List Stmt} {g g1 g2 : G} {ge ge1 ge2 : GE} {ga gk : GA} {gae : GAE} {gt : GT} {gs : GS} {gse gs1 gs2 : GSE}
/-! what raises nothing -/
def upE (g : G) : GE := fun env S P _ => g env S P
def upS (g : GS) : GSE := fun env S D _ => g env S D
theorem pde_up (h : PD X e g) : PDE X T W e (upE g) := PEwk h fun σ H Q h => by
  obtain ⟨Z, As, S, env, P, EP, rl, sl, hg, k1, k2⟩ := h
  exact ⟨Z, As, S, env, P, rl, sl, hg, k1⟩
theorem pdse_up (h : PDS X st gs) : PDSE X T W st (upS gs) := PSwk h fun D σ H h => by
  obtain ⟨Z, As, S, env, E, EP, rl, sl, hg, k1, k2, k3, k4, k5⟩ := h
  exact ⟨Z, As, S, env, E, rl, sl, hg, k1, k2, k3, k4⟩
theorem pdsse_up (h : PDSs X rest gs) : PDSsE X T W rest (upS gs) := PSswk h fun D σ H h => by
  obtain ⟨Z, As, S, env, E, EP, rl, sl, hg, k1, k2, k3, k4, k5⟩ := h
  exact ⟨Z, As, S, env, E, rl, sl, hg, k1, k2, k3, k4⟩
/-! expressions -/
def gIfEE (t : GT) (g1 g2 : GE) : GE := fun env S P EP => t env S fun c S1 => cond c (g1 env S1 P EP) (g2 env S1 P EP)
theorem pde_ife (hc : PDT X c gt) (h1 : PDE X T W a ge1) (h2 : PDE X T W b ge2) : PDE X T W (.IfExp c a b pos) (gIfEE gt ge1 ge2) := PEwk (pe_ifExp hc h1 h2) fun σ H Q h => by
  obtain ⟨Z, As, S, env, P, EP, rl, sl, hg, hQ, hE⟩ := h
  refine ⟨Z, As, S, env, _, rl, sl, hg, fun c S1 As1 H1 h1 po1 rl1 => ?_⟩
  cases c with
  | true => exact ⟨Z, As1, S1, env, P, EP, rl1, sl.po po1, h1, hQ.later po1, hE.later po1⟩
  | false => exact ⟨Z, As1, S1, env, P, EP, rl1, sl.po po1, h1, hQ.later po1, hE.later po1⟩
def gAppE (WW : WDE) (ga : GA) : GE := fun env S P EP => ga env S fun as S1 => WW as S1 P (EP env)
theorem konE_of {K : PySem.W.Frag} {Z As : List Addr} {S : Store} {H : Hp} {EP : EQ} {σ : L2.St} {env : DEnv} (k : KonW K T Z As S H EP W) (sl : Sl K Z As S H σ env) : KonE K T Z As S H (EP env) (fun c d H => W c d σ H) :=
  fun c C f x S2 As2 v H2 dd l H3 a b po rl dv n s e lk => k env c C f x S2 As2 σ v H2 dd l H3 a b po rl (sl.po po) dv n s e lk
theorem run_E {pins : List (Addr × Obj)} {σ : L2.St} {H : Hp} {s : Shared} {Q : VK} {f : Addr} {fd : FuncData} {sp : Sp} {args : Args} {us : List Value} {vs : List V} (F : FnE X.prog X.w X.K X.mg X.base j f fd ps sp) (hgd : X.A.guards = some []) (hr : Room j X.A) (tk : Takes X W) (I : Inv X pins σ H s)
    (hb : BindsTo s fd args (ps.zip us)) (r : Vals vs us) (h : sp vs H Q (fun c d H => W c d σ H)) : codeAny (model X.prog X.w) X.A (.call (.ref f) args) (fun r s' => match r with
      | .ok (.ret u) => EP X pins σ Q u s'
      | .ok _ => False
      | .error e => X.xe e s') s := by
  refine codeAny_mono (F.run X.A hgd hr X.stack s H args us vs Q _ I.env0 hb r h) fun r s' z => ?_
  match r, z with
  | .ok (.ret u), z => exact I.after z
  | .ok .next, z => exact z.elim
  | .ok .brk, z => exact z.elim
  | .ok .cont, z => exact z.elim
  | .error e, z => exact passAt tk σ pins H s e s' I z
theorem pde_call {WW : WDE} (O : OwnE X.prog X.w X.K X.mg X.base T j x ps WW) (tk : Takes X W) (hgd : X.A.guards = some []) (hr : Room k X.A) (hg : Gl X x) (ha : PDA X (e :: es) ga) (hjk : j ≤ k := by first | decide | omega) (hdb : (x == ("__debug__" : Str)) = false := by decide)
    (he : starEach (e :: es) X.env = (false, eval e X.env) :: starEach es X.env := by rfl) (hpl : (backTo pos (starEach es X.env)).any (·.1) = false := by rfl) : PDE X T W (.Call (.Name x p) (e :: es) [] pos) (gAppE WW ga) := by
  obtain ⟨f, fd, F, hm, hk, hb, _⟩ := O.ex
  refine ⟨fun pins s σ H Q I h => ?_⟩
  obtain ⟨Z, As, S, env, P, EP, rl, sl, hg2, hQ, hE⟩ := h
  refine wpAny_Call_Name_kw (ld_glob I hg hm ?_ hdb)
  refine PySem.W.callWith_K (h₀ := X.base) I.ok.mod.kin hk (thn (ha.run pos pins s σ H (fun zs H2 => spE X.K T WW zs H2 Q (fun c d H => W c d σ H)) I ⟨Z, As, S, env, _, rl, sl, hg2, fun as S1 As1 xs H1 h1 po1 rl1 av1 => ⟨Z, As1, S1, as, P, _, rl1, av1, h1, hQ.later po1, konE_of (hE.later po1) (sl.po po1)⟩⟩) fun us s2 hh => ?_) he hpl
  obtain ⟨zs, H2, I2, rz, q2⟩ := hh
  refine ⟨I2.kIn, ?_⟩
  have hl : us.length = ps.length := by rw [← rz.length]; exact F.len _ _ _ _ q2
  have bb := hb s2 us I2.kIn (by rw [List.append_nil]; exact hl)
  rw [List.append_nil] at bb
  refine wpAny_call (codeAny_mono (run_E F hgd (hr.mono hjk) tk I2 bb rz q2) fun r s' z => ?_)
  match r, z with
  | .ok (.ret u), z => exact z
  | .ok .next, z => exact z.elim
  | .ok .brk, z => exact z.elim
  | .ok .cont, z => exact z.elim
  | .error e, z => exact z
theorem pde_callK {WW : WDE} (O : OwnE X.prog X.w X.K X.mg X.base T j x ps WW) (tk : Takes X W) (hgd : X.A.guards = some []) (hr : Room k X.A) (hg : Gl X x) (hkw : PDK X kws gk) (hjk : j ≤ k := by first | decide | omega) (hall : (backToKw pos (keywordEach kws X.env)).all (·.1.isSome) = true := by rfl)
    (hks : (backToKw pos (keywordEach kws X.env)).filterMap (·.1) = ps := by rfl) (hdb : (x == ("__debug__" : Str)) = false := by decide)
    (hpl : ((backTo pos (starEach [] X.env)).any (·.1) || (backToKw pos (keywordEach kws X.env)).any (·.1.isNone)) = false := by rfl) : PDE X T W (.Call (.Name x p) [] kws pos) (gAppE WW gk) := by
  obtain ⟨f, fd, F, hm, hk, _, hb⟩ := O.ex
  refine ⟨fun pins s σ H Q I h => ?_⟩
  obtain ⟨Z, As, S, env, P, EP, rl, sl, hg2, hQ, hE⟩ := h
  refine wpAny_Call_Name_kw (ld_glob I hg hm ?_ hdb)
  refine PySem.W.callWith_KW0 (h₀ := X.base) I.ok.mod.kin hk hall ?_ hpl
  refine thn (hkw.run pos pins s σ H (fun zs H2 => spE X.K T WW zs H2 Q (fun c d H => W c d σ H)) I ⟨Z, As, S, env, _, rl, sl, hg2, fun as S1 As1 xs H1 h1 po1 rl1 av1 => ⟨Z, As1, S1, as, P, _, rl1, av1, h1, hQ.later po1, konE_of (hE.later po1) (sl.po po1)⟩⟩) fun ws s2 hh => ?_
  obtain ⟨zs, H2, I2, rz, q2⟩ := hh
  refine ⟨I2.kIn, ?_⟩
  rw [hks]
  have hl : ws.length = ps.length := by rw [← rz.length]; exact F.len _ _ _ _ q2
  refine wpAny_call (codeAny_mono (run_E F hgd (hr.mono hjk) tk I2 (hb s2 ws hl) rz q2) fun r s' z => ?_)
  match r, z with
  | .ok (.ret u), z => exact z
  | .ok .next, z => exact z.elim
  | .ok .brk, z => exact z.elim
  | .ok .cont, z => exact z.elim
  | .error e, z => exact z
def gNilE : GAE := fun _ S P _ => P [] S
def gConsE (g : GE) (ga : GAE) : GAE := fun env S P EP => g env S (fun a S1 => ga env S1 (fun as S2 => P (a :: as) S2) EP) EP
theorem pdae_nil : PDAE X T W [] gNilE := PAwk pa_nil fun σ H Q h => by
  obtain ⟨Z, As, S, env, P, EP, rl, sl, hg, hQ, hE⟩ := h
  exact hQ [] S As [] H hg Po.refl rl .nil
theorem pdae_cons (h : PDE X T W e ge) (ha : PDAE X T W es gae) (hs : starEach (e :: es) X.env = (false, eval e X.env) :: starEach es X.env := by rfl) : PDAE X T W (e :: es) (gConsE ge gae) := PAwk (pa_cons h ha hs) fun σ H Q h => by
  obtain ⟨Z, As, S, env, P, EP, rl, sl, hg, hQ, hE⟩ := h
  refine ⟨Z, As, S, env, _, EP, rl, sl, hg, fun a S1 As1 x H1 h1 po1 rl1 av1 => ?_, hE⟩
  refine ⟨Z, As1, S1, env, _, EP, rl1, sl.po po1, h1, fun as S2 As2 xs H2 h2 po2 rl2 av2 => ?_, hE.later po1⟩
  exact hQ _ _ _ _ _ h2 (po1.trans po2) rl2 (.cons (av1.po po2) av2)
theorem pde_lst (h : PDAE X T W es gae) : PDE X T W (.List es pos) (fun env S P EP => gae env S (fun as S1 => as.length ≤ sizeLine ∧ dLst as S1 P) EP) := PEwk (pe_lst h) fun σ H Q h => by
  obtain ⟨Z, As, S, env, P, EP, rl, sl, hg, hQ, hE⟩ := h
  refine ⟨Z, As, S, env, _, EP, rl, sl, hg, fun as S1 As1 xs H1 h1 po1 rl1 av1 => ?_, hE⟩
  obtain ⟨hz, h1⟩ := h1
  refine ⟨by rw [av1.length]; exact hz, fun p np => ?_⟩
  unfold dLst at h1
  split at h1
  · rename_i ds e
    rw [dats_eq e] at av1
    exact (hQ.later po1).lst rl1 np av1.to_d h1
  · exact h1.elim
/-! statements -/
def gsSeqE (g1 g2 : GSE) : GSE := fun env S D EP => g1 env S { D with nx := fun env' S' => g2 env' S' D EP } EP
theorem pdsse_one (h : PDSE X T W st gse) : PDSsE X T W [st] gse := pss_one h
theorem pdsse_cons (h1 : PDSE X T W st gs1) (h2 : PDSsE X T W rest gs2) : PDSsE X T W (st :: rest) (gsSeqE gs1 gs2) := PSswk (pss_cons h1 h2) fun D σ H h => by
  obtain ⟨Z, As, S, env, E, EP, rl, sl, hg, k1, k2, k3, k4, k5⟩ := h
  refine ⟨Z, As, S, env, _, EP, rl, sl, hg, fun env' S' As' σ' H' h' po rl' sl' => ?_, k2, k3, k4, k5⟩
  exact ⟨Z, As', S', env', E, EP, rl', sl', h', k1.later po, k2.later po, k3.later po, k4.later po, k5.later po⟩
def gsIfE (gt : GT) (g1 g2 : GSE) : GSE := fun env S D EP => gt env S fun c S1 => cond c (g1 env S1 D EP) (g2 env S1 D EP)
theorem pdse_if {c : Expr} {a b : List Stmt} (hc : PDT X c gt) (h1 : PDSsE X T W a gs1) (h2 : PDSsE X T W b gs2) : PDSE X T W (.If c a b pos) (gsIfE gt gs1 gs2) := PSwk (ps_if hc h1 h2) fun D σ H h => by
  obtain ⟨Z, As, S, env, E, EP, rl, sl, hg, k1, k2, k3, k4, k5⟩ := h
  refine ⟨Z, As, S, env, _, rl, sl, hg, fun c S' As' H' h' po rl' => ?_⟩
  cases c with
  | true => exact ⟨Z, As', S', env, E, EP, rl', sl.po po, h', k1.later po, k2.later po, k3.later po, k4.later po, k5.later po⟩
  | false => exact ⟨Z, As', S', env, E, EP, rl', sl.po po, h', k1.later po, k2.later po, k3.later po, k4.later po, k5.later po⟩
def gsRetE (g : GE) : GSE := fun env S D EP => g env S D.rt EP
theorem pdse_ret (h : PDE X T W e ge) : PDSE X T W (.Return (some e) pos) (gsRetE ge) := PSwk (ps_ret h) fun D σ H h => by
  obtain ⟨Z, As, S, env, E, EP, rl, sl, hg, k1, k2, k3, k4, k5⟩ := h
  exact ⟨Z, As, S, env, _, EP, rl, sl, hg, k2, k5⟩
def gsSetE (i : Nat) (g : GE) : GSE := fun env S D EP => g env S (fun a S1 => D.nx (env.set i (some a)) S1) EP
theorem pdse_set {i : Nat} {x : Str} {pos' : Pos} (hN : X.N.Nodup) (hi : X.N[i]? = some x) (hx : Loc X.env.scope x) (he : PDE X T W e ge) (hs : swapsWith e (some (.Name x pos')) pos.line X.env = pure false := by rfl)
    (hf : X.fn x = true ∨ X.env.scope.names.lookup x = some .local := by first | exact .inl rfl | exact .inr rfl | assumption) : PDSE X T W (.Assign [.Name x pos'] e pos) (gsSetE i ge) :=
  PSwk (ps_set (i := i) hN hi hx he hs hf) fun D σ H h => by
    obtain ⟨Z, As, S, env, E, EP, rl, sl, hg, k1, k2, k3, k4, k5⟩ := h
    exact ⟨Z, As, S, env, _, EP, rl, sl, hg, fun r S' As' v H' h' po rl' av => k1 _ S' As' _ H' h' po rl' ((sl.po po).set av), k5⟩
def gsRaise (x : Str) (g : G) : GSE := fun env S D EP => g env S fun a S1 => match a with
  | .d y => EP env x y S1
  | _ => False
theorem lookup_one {f : Str} {v : V} : ([f].zip [v]).lookup f = some v := by
  show (match f == f with | true => some v | false => _) = _
  rw [beq_self_eq_true]
theorem pdse_raise {C : Addr} {f : Str} (R : RaCls X.prog X.w X.K X.mg X.base x C [f]) (hT : T x = some (C, f)) (hc : X.calm = true) (tk : Takes X W) (hr : Room 2 X.A) (hg : Gl X x) (he : PD X e g) (hdb : (x == ("__debug__" : Str)) = false := by decide)
    (hs : starEach [e] X.env = (false, eval e X.env) :: starEach [] X.env := by rfl) {pos' : Pos} : PDSE X T W (.Raise (some (.Call (.Name x p) [e] [] pos)) none pos') (gsRaise x g) :=
  PSwk (ps_raise hc tk (pmk_X R (by show 1 ≤ 5; decide) hr hg (pa_cons he pa_nil hs) hdb hs rfl)) fun D σ H h => by
    obtain ⟨Z, As, S, env, E, EP, rl, sl, hg, k1, k2, k3, k4, k5⟩ := h
    refine ⟨Z, As, S, env, _, rl, sl, hg, fun a S1 As1 v H1 h1 po rl1 av => ?_⟩
    match a, h1, av with
    | .d y, h1, av =>
      exact ⟨rfl, fun dd l H2 n s2 hl lk => k5 env x C f y S1 As1 σ v H1 dd l H2 hT h1 po rl1 (sl.po po) av n s2 hl (lk f v lookup_one)⟩
end
end DL
/-! how great data are; a tuple is empty or not -/
namespace DL
open PySem PySem.Spec PyProof.Rows L2
structure Fit (d l : Nat) (x : PyData) : Prop where
  sh : x.showable = true
  dp : x.depth ≤ d
  ln : x.shown.length ≤ l
theorem Fit.mono {d d' l l' : Nat} {x : PyData} (h : Fit d l x) (hd : d ≤ d') (hl : l ≤ l') : Fit d' l' x := ⟨h.sh, Nat.le_trans h.dp hd, Nat.le_trans h.ln hl⟩
theorem dp_tup (xs : List PyData) : (PyData.tuple xs).depth = PyData.depthAll xs + 1 := by simp [PyData.depth]
theorem dp_lst (xs : List PyData) : (PyData.list xs).depth = PyData.depthAll xs + 1 := by simp [PyData.depth]
theorem dp_cons (x : PyData) (xs : List PyData) : PyData.depthAll (x :: xs) = max x.depth (PyData.depthAll xs) := by simp [PyData.depthAll]
theorem dp_nil : PyData.depthAll [] = 0 := by simp [PyData.depthAll]
theorem dp_all_le {xs : List PyData} {d : Nat} : PyData.depthAll xs ≤ d ↔ ∀ x, x ∈ xs → x.depth ≤ d := by
  induction xs with
  | nil => rw [dp_nil]; simp
  | cons y ys ih =>
    rw [dp_cons, Nat.max_le, ih]
    simp
/-- what the items of a row take -/
def row (xs : List PyData) : Nat := piled (PyData.shownAll xs)
theorem row_nil : row [] = 0 := by
  show piled (PyData.shownAll []) = 0
  rw [PyData.shownAll_nil]
  rfl
theorem row_cons (x : PyData) (xs : List PyData) : row (x :: xs) = x.shown.length + 2 + row xs := by
  show piled (PyData.shownAll (x :: xs)) = _
  rw [PyData.shownAll_cons]
  show ((x.shown :: PyData.shownAll xs).map fun t => t.length + 2).sum = _
  rw [List.map_cons, List.sum_cons]
  rfl
theorem row_app : ∀ xs ys : List PyData, row (xs ++ ys) = row xs + row ys
  | [], ys => by rw [row_nil, List.nil_append, Nat.zero_add]
  | x :: xs, ys => by rw [List.cons_append, row_cons, row_cons, row_app xs ys]; omega
theorem row_len : ∀ xs : List PyData, 2 * xs.length ≤ row xs
  | [] => by rw [row_nil]; simp
  | x :: xs => by rw [row_cons, List.length_cons]; have := row_len xs; omega
theorem row_mem {xs : List PyData} {x : PyData} (h : x ∈ xs) : x.shown.length ≤ row xs := by
  induction xs with
  | nil => cases h
  | cons y ys ih =>
    rw [row_cons]
    rcases List.mem_cons.mp h with rfl | h
    · omega
    · have := ih h; omega
theorem row_set : ∀ {xs : List PyData} {i : Nat} {x y : PyData}, xs[i]? = some x → row (xs.set i y) + x.shown.length = row xs + y.shown.length
  | [], _, _, _, h => by cases h
  | z :: zs, 0, x, y, h => by
    cases h
    rw [List.set_cons_zero, row_cons, row_cons]
    omega
  | z :: zs, i + 1, x, y, h => by
    have := row_set (xs := zs) (i := i) (y := y) h
    rw [List.set_cons_succ, row_cons, row_cons]
    omega
theorem row_le {xs : List PyData} {l : Nat} (h : ∀ x, x ∈ xs → x.shown.length ≤ l) : row xs ≤ xs.length * (l + 2) := by
  induction xs with
  | nil => rw [row_nil]; exact Nat.zero_le _
  | cons y ys ih =>
    rw [row_cons, List.length_cons, Nat.succ_mul]
    have h1 := h y (List.mem_cons_self ..)
    have h2 := ih fun x hx => h x (List.mem_cons_of_mem _ hx)
    omega
theorem join_row (xs : List PyData) : (Str.join ", " (PyData.shownAll xs)).length ≤ row xs := by
  cases xs with
  | nil => rw [PyData.shownAll_nil]; exact Nat.zero_le _
  | cons x xs =>
    have := join_length_add (PyData.shownAll (x :: xs)) (by rw [PyData.shownAll_cons]; exact List.cons_ne_nil _ _)
    show _ ≤ piled (PyData.shownAll (x :: xs))
    omega
theorem join_ge (xs : List PyData) : row xs ≤ (Str.join ", " (PyData.shownAll xs)).length + 2 := by
  cases xs with
  | nil => rw [row_nil]; exact Nat.zero_le _
  | cons x xs =>
    have := join_length_add (PyData.shownAll (x :: xs)) (by rw [PyData.shownAll_cons]; exact List.cons_ne_nil _ _)
    show piled (PyData.shownAll (x :: xs)) ≤ _
    omega
theorem tup_len (xs : List PyData) : (PyData.tuple xs).shown.length ≤ row xs + 3 := by
  rw [PyData.shown_tuple, app_len, app_len]
  have := join_row xs
  have e : (Str.ofString (if (xs.length == 1) = true then ",)" else ")")).length ≤ 2 := by split <;> decide
  have e1 : (Str.ofString "(").length = 1 := rfl
  omega
theorem tup_ge (xs : List PyData) : row xs ≤ (PyData.tuple xs).shown.length := by
  rw [PyData.shown_tuple, app_len, app_len]
  have := join_ge xs
  have e : 1 ≤ (Str.ofString (if (xs.length == 1) = true then ",)" else ")")).length := by split <;> decide
  have e1 : (Str.ofString "(").length = 1 := rfl
  omega
theorem lst_len (xs : List PyData) : (PyData.list xs).shown.length ≤ row xs + 3 := by
  rw [PyData.shown_list, app_len, app_len]
  have := join_row xs
  have e : (Str.ofString "]").length = 1 := rfl
  have e1 : (Str.ofString "[").length = 1 := rfl
  omega
theorem sh_tup {xs : List PyData} (h : ∀ x, x ∈ xs → x.showable = true) : (PyData.tuple xs).showable = true := by
  simp only [PyData.showable]
  exact Spec.showableAll_of h
theorem sh_lst {xs : List PyData} (h : ∀ x, x ∈ xs → x.showable = true) : (PyData.list xs).showable = true := by
  simp only [PyData.showable]
  exact Spec.showableAll_of h
theorem sh_all : ∀ {xs : List PyData}, PyData.showableAll xs = true → ∀ x, x ∈ xs → x.showable = true
  | [], _, x, hx => by cases hx
  | y :: ys, h, x, hx => by
    simp only [PyData.showableAll, Bool.and_eq_true] at h
    rcases List.mem_cons.mp hx with rfl | hx
    · exact h.1
    · exact sh_all h.2 x hx
theorem sh_of_tup {xs : List PyData} (h : (PyData.tuple xs).showable = true) : ∀ x, x ∈ xs → x.showable = true := by
  simp only [PyData.showable] at h
  exact sh_all h
/-- a row of fitting things -/
structure Fits (d l : Nat) (xs : List PyData) : Prop where
  sh : ∀ x, x ∈ xs → x.showable = true
  dp : ∀ x, x ∈ xs → x.depth ≤ d
  ln : row xs ≤ l
theorem Fits.tup {d l : Nat} {xs : List PyData} (h : Fits d l xs) : Fit (d + 1) (l + 3) (.tuple xs) := ⟨sh_tup h.sh, by rw [dp_tup]; have := dp_all_le.mpr h.dp; omega, by have := tup_len xs; have := h.ln; omega⟩
theorem Fits.lst {d l : Nat} {xs : List PyData} (h : Fits d l xs) : Fit (d + 1) (l + 3) (.list xs) := ⟨sh_lst h.sh, by rw [dp_lst]; have := dp_all_le.mpr h.dp; omega, by have := lst_len xs; have := h.ln; omega⟩
theorem Fit.items {d l : Nat} {xs : List PyData} (h : Fit d l (.tuple xs)) : Fits (d - 1) l xs ∧ 1 ≤ d := by
  have h1 := h.dp
  rw [dp_tup] at h1
  exact ⟨⟨sh_of_tup h.sh, dp_all_le.mp (by omega), Nat.le_trans (tup_ge xs) h.ln⟩, by omega⟩
theorem Fits.nil {d l : Nat} : Fits d l [] := ⟨fun x h => (nomatch h), fun x h => (nomatch h), (by rw [row_nil]; exact Nat.zero_le _)⟩
theorem Fits.cons {d l m : Nat} {x : PyData} {xs : List PyData} (h : Fit d l x) (t : Fits d m xs) : Fits d (l + 2 + m) (x :: xs) := by
  refine ⟨fun y hy => ?_, fun y hy => ?_, by rw [row_cons]; have := h.ln; have := t.ln; omega⟩
  · rcases List.mem_cons.mp hy with rfl | hy
    · exact h.sh
    · exact t.sh y hy
  · rcases List.mem_cons.mp hy with rfl | hy
    · exact h.dp
    · exact t.dp y hy
theorem Fits.app {d l m : Nat} {xs ys : List PyData} (h : Fits d l xs) (t : Fits d m ys) : Fits d (l + m) (xs ++ ys) := by
  refine ⟨fun y hy => ?_, fun y hy => ?_, by rw [row_app]; have := h.ln; have := t.ln; omega⟩
  · rcases List.mem_append.mp hy with hy | hy
    · exact h.sh y hy
    · exact t.sh y hy
  · rcases List.mem_append.mp hy with hy | hy
    · exact h.dp y hy
    · exact t.dp y hy
theorem Fits.mono {d d' l l' : Nat} {xs : List PyData} (h : Fits d l xs) (hd : d ≤ d') (hl : l ≤ l') : Fits d' l' xs := ⟨h.sh, fun x hx => Nat.le_trans (h.dp x hx) hd, Nat.le_trans h.ln hl⟩
theorem Fits.of {d l : Nat} {xs : List PyData} (h : ∀ x, x ∈ xs → Fit d l x) : Fits d (xs.length * (l + 2)) xs := ⟨fun x hx => (h x hx).sh, fun x hx => (h x hx).dp, row_le fun x hx => (h x hx).ln⟩
theorem row_sub {xs ys : List PyData} (h : xs.Sublist ys) : row xs ≤ row ys := by
  induction h with
  | slnil => exact Nat.le_refl _
  | cons a _ ih => rw [row_cons]; omega
  | cons_cons a _ ih => rw [row_cons, row_cons]; omega
theorem Fits.sub {d l : Nat} {xs ys : List PyData} (h : Fits d l ys) (s : xs.Sublist ys) : Fits d l xs := ⟨fun x hx => h.sh x (s.subset hx), fun x hx => h.dp x (s.subset hx), Nat.le_trans (row_sub s) h.ln⟩
/-! leaves -/
theorem fit_non : Fit 0 4 .none := ⟨by simp [PyData.showable], by simp [PyData.depth], by rw [PyData.shown_none]; decide⟩
theorem fit_bool (b : Bool) : Fit 0 5 (.bool b) := ⟨by simp [PyData.showable], by simp [PyData.depth], by rw [PyData.shown_bool]; cases b <;> decide⟩
theorem fit_intK {i : Int} {k : Nat} (hk : 1 ≤ k) (hk2 : k ≤ 560) (h : i.natAbs < 10 ^ k) : Fit 0 (k + 2) (.int i) := by
  have h2 : i.natAbs < 10 ^ 570 := Nat.lt_of_lt_of_le h (Nat.pow_le_pow_right (by decide) (by omega))
  refine ⟨?_, by simp [PyData.depth], ?_⟩
  · simp only [PyData.showable, decide_eq_true_eq]
    have := log_small h2
    omega
  · rw [PyData.shown_int]
    have := int_text_length_le10 (k := k) hk h
    rw [PySem.ofString_length]
    omega
theorem fit_str {z : Str} (hz : ∀ c, c ∈ z.cps.toList → c < 16 ^ 8) : Fit 0 (10 * z.length + 2) (.str z) := ⟨by simp [PyData.showable], by simp [PyData.depth], by rw [PyData.shown_str]; exact StrLaws.reprText_len z hz⟩
/-- what may be shown -/
theorem Fit.repr {d l : Nat} {x : PyData} (h : Fit d l x) (hd : d ≤ 40) (hl : l ≤ 16777216) : reprOk x := ⟨h.sh, Nat.le_trans h.dp hd, Nat.le_trans h.ln (Nat.le_trans hl sizeLine_big)⟩
theorem get_old {S : Store} {r : Nat} {o : MO} {S' : Store} (h : S[r]? = some o) : (S ++ S')[r]? = some o := by
  rw [List.getElem?_append_left]
  · exact h
  · rcases Nat.lt_or_ge r S.length with z | z
    · exact z
    · rw [List.getElem?_eq_none z] at h; cases h
theorem Fits.nil0 {d : Nat} : Fits d 0 [] := Fits.nil
theorem cut_sub (xs : List PyData) (lo hi : Option Int) : (cutD xs lo hi).Sublist xs := (List.take_sublist _ _).trans (List.drop_sublist _ _)
theorem small2 {n : Nat} (h : Nat.ble n 1000 = true) : n ≤ sizeLine := by have := Nat.le_of_ble_eq_true h; rw [sizeLine_eq]; omega
theorem small3 {n : Nat} (h : Nat.ble n 1000 = true) : n < sizeLine := by have := Nat.le_of_ble_eq_true h; rw [sizeLine_eq]; omega
theorem paired_all {p : PyData → Prop} : ∀ {xs ys : List PyData}, Paired (fun _ y => p y) xs ys → ys.length = xs.length ∧ ∀ y, y ∈ ys → p y
  | _, _, .nil => ⟨rfl, fun y h => (nomatch h)⟩
  | _, _, .cons a t => by
    obtain ⟨h1, h2⟩ := paired_all t
    refine ⟨by rw [List.length_cons, List.length_cons, h1], fun y hy => ?_⟩
    rcases List.mem_cons.mp hy with rfl | hy
    · exact a
    · exact h2 y hy

/-! ### == () -/
def rEqNilT (K : PySem.W.Frag) (neg : Bool) : R2 := fun x y H Q => ∃ (a b : Addr) (xs : List V), x = .ref a ∧ y = .ref b ∧ SqT K H a xs ∧ SqT K H b [] ∧ Q (.bl (cond neg (!xs.isEmpty) xs.isEmpty)) H
theorem op_eqNilT {X : Cx} (hu : X.A.units < cLine) : OpR X (compareOp .Eq) (rEqNilT X.K false) := by
  intro pins s σ H x y v u Q I rx ry h
  obtain ⟨a, b, xs, rfl, rfl, ha, hb, q⟩ := h
  obtain rfl : v = .ref a := rx
  obtain rfl : u = .ref b := ry
  obtain ⟨us, r1, p1, _⟩ := I.tuple ha
  obtain ⟨ws, r2, p2, _⟩ := I.tuple hb
  cases r2
  refine SeqAt.eq_tupleAt (e := fun _ => true) p1 p2 hu (fun j _ h2 => absurd h2 (by simp)) ?_
  cases r1 with
  | nil => exact ⟨.bl true, H, I, rfl, q⟩
  | cons _ _ => exact ⟨.bl false, H, I, by simp [L2.RelV], q⟩
theorem op_neNilT {X : Cx} (hu : X.A.units < cLine) : OpR X (compareOp .NotEq) (rEqNilT X.K true) := by
  intro pins s σ H x y v u Q I rx ry h
  obtain ⟨a, b, xs, rfl, rfl, ha, hb, q⟩ := h
  obtain rfl : v = .ref a := rx
  obtain rfl : u = .ref b := ry
  obtain ⟨us, r1, p1, _⟩ := I.tuple ha
  obtain ⟨ws, r2, p2, _⟩ := I.tuple hb
  cases r2
  refine SeqAt.RcNeAt.tuples (e := fun _ => true) p1 p2 hu (fun j _ h2 => absurd h2 (by simp)) X.prog X.w _ _ ?_
  cases r1 with
  | nil => exact ⟨.bl false, H, I, rfl, q⟩
  | cons _ _ => exact ⟨.bl true, H, I, by simp [L2.RelV], q⟩
def dEqNilT (neg : Bool) : AV → AV → Store → PQ → Prop := fun a b S P => match vw S a with
  | some (.tuple ds) => vw S b = some (.tuple []) ∧ P (.d (.bool (cond neg (!ds.isEmpty) ds.isEmpty))) S
  | _ => False
theorem vr_eqNilT {K : PySem.W.Frag} (neg : Bool) : VR2 K (rEqNilT K neg) (dEqNilT neg) := by
  intro Z As S H x y a b P Q rl ax ay h k
  unfold dEqNilT at h
  split at h
  · rename_i ds e1
    obtain ⟨p, vs, rfl, hp, t1⟩ := vw_tup ax e1
    obtain ⟨q, ws, rfl, hq, t2⟩ := vw_tup ay h.1
    cases t2
    refine ⟨p, q, vs, rfl, rfl, hp, hq, ?_⟩
    have e : vs.isEmpty = ds.isEmpty := by cases t1 <;> rfl
    rw [e]
    exact k.d rl (fun _ => .bl _) h.2
  · exact h.elim
section
variable {X : Cx} {a b : Expr} {g1 g2 : G} {pos : Pos} {k : Nat}
theorem pdt_eqNilT (hr : Room k X.A) (h1 : PD X a g1) (h2 : PD X b g2) : PDT X (.Compare a [.Eq] [b] pos) (gTest (gBin (dEqNilT false) g1 g2)) := pdt_cmp (op_eqNilT (by have := room_eq hr; omega)) (vr_eqNilT false) h1 h2 (nobehind _ (by decide) (by decide))
theorem pdt_neNilT (hr : Room k X.A) (h1 : PD X a g1) (h2 : PD X b g2) : PDT X (.Compare a [.NotEq] [b] pos) (gTest (gBin (dEqNilT true) g1 g2)) := pdt_cmp (op_neNilT (by have := room_eq hr; omega)) (vr_eqNilT true) h1 h2 (nobehind _ (by decide) (by decide))
end
end DL
/-! own dicts, keys ints and texts: a display, x[k], x[k] = v, int(a truth) -/
namespace DL
open PySem PySem.Spec PyProof.Rows L2
def avV (kvs : List (Key × AV)) (k : Key) : Option AV := (kvs.find? fun p => decide (p.1 = k)).map (·.2)
def dKey : PyData → Option Key
  | .int i => some (.inl i)
  | .str x => some (.inr x)
  | _ => none
theorem dKey_kV {K : PySem.W.Frag} {L : Addr → Prop} {H : Hp} {v : V} {x : PyData} {k : Key} (h : DV K L H v x) (e : dKey x = some k) : v = kV k := by
  cases h <;> cases e <;> rfl
theorem merge_app : ∀ (kvs acc : List (Key × V)), (acc.map (·.1) ++ kvs.map (·.1)).Nodup → mergeK acc kvs = acc ++ kvs
  | [], acc, _ => by rw [List.append_nil]; rfl
  | p :: r, acc, h => by
    have hn : valV acc p.1 = none := by
      unfold valV
      have : acc.find? (fun kv => decide (kv.1 = p.1)) = none := by
        rw [List.find?_eq_none]
        intro q hq
        have hne : q.1 ≠ p.1 := fun e => by
          have h1 := (List.nodup_append.mp h).2.2 q.1 (List.mem_map.mpr ⟨q, hq, rfl⟩) p.1 (by simp)
          exact h1 e
        simp [hne]
      rw [this]
      rfl
    show mergeK (putK acc p.1 p.2) r = _
    rw [putK_new _ hn, merge_app r (acc ++ [(p.1, p.2)]) (by simpa [List.append_assoc] using h), List.append_assoc]
    rfl
theorem dct_get {K : PySem.W.Frag} {Z As : List Addr} {S : Store} {H : Hp} {k : Key} {a : AV} : ∀ {ws : List (Key × V)} {kvs : List (Key × AV)}, ws.map (·.1) = kvs.map (·.1) → AVs K Z As S H (ws.map (·.2)) (kvs.map (·.2)) → avV kvs k = some a → ∃ v, valV ws k = some v ∧ AVr K Z As S H v a
  | [], [], _, _, e => by cases e
  | [], _ :: _, e, _, _ => by cases e
  | _ :: _, [], e, _, _ => by cases e
  | p :: ws, q :: kvs, e, h, e2 => by
    rw [List.map_cons, List.map_cons] at e h
    obtain ⟨e3, e4⟩ := List.cons.inj e
    cases h with
    | cons x t =>
      by_cases hk : q.1 = k
      · have e5 : avV (q :: kvs) k = some q.2 := by simp [avV, List.find?_cons, hk]
        rw [e5] at e2
        cases e2
        exact ⟨p.2, valV_pos (e3.trans hk), x⟩
      · have e5 : avV (q :: kvs) k = avV kvs k := by simp [avV, List.find?_cons, hk]
        rw [e5] at e2
        obtain ⟨v, h1, h2⟩ := dct_get e4 t e2
        exact ⟨v, (valV_neg (fun z => hk (e3.symm.trans z))).trans h1, h2⟩
/-- x[k] of an own dict -/
def gDGet (g gi : G) : G := fun env S P => g env S fun a S1 => gi env S1 fun i S2 => match a, i with
  | .m k, .d x => match S2[k]?, dKey x with
    | some (.dct kvs), some key => match avV kvs key with
      | some b => P b S2
      | none => False
    | _, _ => False
  | _, _ => False
section
variable {X : Cx} {o i : Expr} {g gi : G} {pos : Pos}
theorem pd_dget (hu : X.A.units + 64 < cLine) (ho : PD X o g) (hi : PD X i gi) (hs : NoSl i := by exact fun _ _ => rfl) : PD X (.Subscript o i pos) (gDGet g gi) :=
  PEwk (pe_dget (by omega) ho hi hs) fun σ H Q h => by
    obtain ⟨Z, As, S, env, P, rl, sl, hg, hQ⟩ := h
    refine ⟨Z, As, S, env, _, rl, sl, hg, fun a S1 As1 x H1 h1 po1 rl1 av1 => ?_⟩
    refine ⟨Z, As1, S1, env, _, rl1, sl.po po1, h1, fun b S2 As2 y H2 h2 po2 rl2 av2 => ?_⟩
    have av1' := av1.po po2
    split at h2
    · rename_i k x'
      split at h2
      · rename_i kvs key e1 e2
        split at h2
        · rename_i b e3
          obtain ⟨p, rfl, hA⟩ := av1'
          obtain ⟨ws, e4, e5, q⟩ := (show ∃ ws : List (Key × V), H2 p = some (.dK ws) ∧ _ from rl2.at_ k p _ hA e1)
          obtain ⟨v, e6, r⟩ := dct_get e5 q e3
          have ey : y = kV key := dKey_kV av2 e2
          subst ey
          exact ⟨p, v, rfl, by rw [← e6]; exact DGet.k e4, (hQ.later (po1.trans po2)) _ _ _ _ _ h2 Po.refl rl2 r⟩
        · exact h2.elim
      · exact h2.elim
    · exact h2.elim
/-- the pairs of a display -/
def gPairs : List (Key × G) → DEnv → Store → (List (Key × AV) → Store → Prop) → Prop
  | [], _, S, P => P [] S
  | (k, g) :: r, env, S, P => g env S fun a S1 => gPairs r env S1 fun kvs S2 => P ((k, a) :: kvs) S2
def gDisp (ks : List (Key × G)) : G := fun env S P => gPairs ks env (S ++ [.dct []]) fun kvs S2 => S2[S.length]? = some (.dct []) ∧ (kvs.map (·.1)).Nodup ∧ kvs.length ≤ 15 ∧ P (.m S.length) (S2.set S.length (.dct kvs))
theorem pairs_wk {K : PySem.W.Frag} : ∀ {ks : List (Key × G)} {Z As : List Addr} {S : Store} {H : Hp} {σ : L2.St} {env : DEnv} {P : List (Key × AV) → Store → Prop} {Q : List (V × V) → Hp → Prop}, Rl K Z As S H → Sl K Z As S H σ env → gPairs ks env S P →
    (∀ kvs S' As' H' (ws : List (Key × V)), P kvs S' → Po Z As S H As' S' H' → Rl K Z As' S' H' → ws.map (·.1) = kvs.map (·.1) → AVs K Z As' S' H' (ws.map (·.2)) (kvs.map (·.2)) → Q (ws.map fun kv => (kV kv.1, kv.2)) H') →
    tPairs (ks.map fun p => (tC (kV p.1), tD K p.2)) σ H Q
  | [], Z, As, S, H, σ, env, P, Q, rl, sl, h, k => k [] S As H [] h Po.refl rl rfl .nil
  | (key, g) :: r, Z, As, S, H, σ, env, P, Q, rl, sl, h, k => by
    refine ⟨Z, As, S, env, _, rl, sl, h, fun a S1 As1 v H1 h1 po1 rl1 av1 => ?_⟩
    refine pairs_wk rl1 (sl.po po1) h1 fun kvs S2 As2 H2 ws h2 po2 rl2 e av2 => ?_
    exact k ((key, a) :: kvs) S2 As2 H2 ((key, v) :: ws) h2 (po1.trans po2) rl2 (by rw [List.map_cons, List.map_cons, e]) (.cons (av1.po po2) av2)
theorem pd_disp {keys : List (Option Expr)} {values : List Expr} (ks : List (Key × G)) (h : PPs X pos keys values (ks.map fun p => (tC (kV p.1), tD X.K p.2))) (hall : keys.all (·.isSome) = true := by rfl) (hl : keys.length = values.length := by rfl) (h0 : keys ≠ [] := by exact fun h => nomatch h)
    (h15 : keys.length ≤ 15 := by decide) : PD X (.Dict keys values pos) (gDisp ks) := PEwk (pe_disp h hall hl h0 h15) fun σ H Q h => by
  obtain ⟨Z, As, S, env, P, rl, sl, hg, hQ⟩ := h
  intro p np
  obtain ⟨po, rl', e⟩ := new_mut (u := .dK []) (o := .dct []) rl np (by simp) fun ex pr e => ⟨[], e, rfl, .nil⟩
  refine pairs_wk rl' (sl.po po) hg fun kvs S2 As2 H2 ws h2 po2 rl2 e2 av2 => ?_
  obtain ⟨h3, nd, hl15, h4⟩ := h2
  have hA : As2[S.length]? = some p := pre_get po2.pre e
  obtain ⟨w0, e3, e4, _⟩ := (show ∃ ws : List (Key × V), H2 p = some (.dK ws) ∧ _ from rl2.at_ _ p _ hA h3)
  have e5 : w0 = [] := by
    cases w0 with
    | nil => rfl
    | cons _ _ => cases e4
  subst e5
  have hlen : ws.length = kvs.length := by
    have := congrArg List.length e2
    rw [List.length_map, List.length_map] at this
    exact this
  obtain ⟨po3, rl3⟩ := put_mut (o' := .dct kvs) (u := .dK ws) rl2 hA h3 (by simp) (by simp) fun ex e6 => ⟨ws, e6, e2, av2.ex ex ⟨[], by simp⟩⟩
  refine ⟨e3, ws, rfl, by rw [hlen]; exact hl15, ?_⟩
  rw [merge_app ws [] (by rw [List.map_nil, List.nil_append, e2]; exact nd), List.nil_append]
  exact hQ _ _ _ _ _ h4 ((po.trans po2).trans po3) rl3 ⟨p, rfl, hA⟩
theorem pps_k {k : Key} {kx v : Expr} {g : G} {kxs : List (Option Expr)} {vs : List Expr} {r : List (Key × G)} (hk : PE X kx (tC (kV k))) (hv : PD X v g) (hr : PPs X pos kxs vs (r.map fun p => (tC (kV p.1), tD X.K p.2))) : PPs X pos (some kx :: kxs) (v :: vs) (((k, g) :: r).map fun p => (tC (kV p.1), tD X.K p.2)) := pps_cons hk hv hr
theorem pps_z : PPs X pos [] [] (([] : List (Key × G)).map fun p => (tC (kV p.1), tD X.K p.2)) := pps_nil
/-- int of a truth -/
theorem call_intB : CallR X (.type "int") (fun xs H Q => ∃ b, xs = [.bl b] ∧ Q (.int (if b then 1 else 0)) H) := by
  intro pins s σ H xs us Q I r h
  obtain ⟨b, rfl, q⟩ := h
  cases r with
  | cons r1 rs =>
    cases rs
    cases r1
    exact PySem.call_int_bool ⟨.int _, H, I.tok _, ⟨_, rfl⟩, q⟩
def dIntB : List AV → Store → PQ → Prop := fun as S P => match as with
  | [.d (.bool b)] => P (.d (.int (if b then 1 else 0))) S
  | _ => False
theorem vr_intB {K : PySem.W.Frag} : VRn K (fun xs H Q => ∃ b, xs = [.bl b] ∧ Q (.int (if b then 1 else 0)) H) dIntB := by
  intro Z As S H xs as P Q rl av h k
  unfold dIntB at h
  split at h
  · rename_i x
    cases av with
    | cons a1 t =>
      cases t
      cases a1
      exact ⟨x, rfl, k.d rl (fun _ => .int _) h⟩
  · exact h.elim
/-- str of a number or a text -/
theorem call_strA : CallR X (.type "str") (fun xs H Q => (∃ i : Int, xs = [.int i] ∧ i.natAbs.log2 < 1920 ∧ Q (.str (toString i)) H) ∨ ∃ a, xs = [.str a] ∧ Q (.str a) H) := by
  intro pins s σ H xs us Q I r h
  rcases h with h | h
  · exact call_str_int pins s σ H xs us Q I r h
  · exact SkE.call_str_str pins s σ H xs us Q I r h
def dStrA : List AV → Store → PQ → Prop := fun as S P => match as with
  | [.d (.int i)] => i.natAbs < 10 ^ 570 ∧ P (.d (.str (numT i))) S
  | [.d (.str z)] => P (.d (.str z)) S
  | _ => False
theorem vr_strA {K : PySem.W.Frag} : VRn K (fun xs H Q => (∃ i : Int, xs = [.int i] ∧ i.natAbs.log2 < 1920 ∧ Q (.str (toString i)) H) ∨ ∃ a, xs = [.str a] ∧ Q (.str a) H) dStrA := by
  intro Z As S H xs as P Q rl av h k
  unfold dStrA at h
  split at h
  · rename_i i
    exact .inl (vr_strOf Z As S H xs _ P Q rl av h k)
  · rename_i z
    cases av with
    | cons a1 t =>
      cases t
      have a1' := a1
      cases a1
      rename_i hz
      exact .inr ⟨z, rfl, k.d rl (fun _ => .str z hz) h⟩
  · exact h.elim
end
end DL
/-! the end of a def that changed lists of its caller's, and made things of its own -/
namespace DL
open PySem PySem.Spec PyProof.Rows L2
theorem back2 {K : PySem.W.Frag} {Z As As' : List Addr} {S S1 Sg : Store} {H H' : Hp} {vs vs0 : List V} {xs : List AV} (ex : Ex (lv Z As' Sg) H' (lv Z As S1) H') (pre : ∃ l, As' = As ++ l) (q0 : AVs K Z As S H vs0 xs) (q : AVs K Z As' Sg H' vs xs) : AVs K Z As S1 H' vs xs := by
  induction q generalizing vs0 with
  | nil => exact .nil
  | @cons v ws a as x t ih =>
    cases q0 with
    | cons x0 t0 =>
      refine .cons ?_ (ih t0)
      cases a with
      | d y => exact DV.ex ex _ _ x
      | m k =>
        obtain ⟨b, e1, e2⟩ := x
        obtain ⟨b0, _, e3⟩ := x0
        have e4 := pre_get pre e3
        rw [e4] at e2
        cases e2
        exact ⟨_, e1, e3⟩
      | v y => exact x
/-- each thing of S1 is one of S, or a list of data -/
def Chg (S S1 : Store) : Prop := S1.length = S.length ∧ ∀ (k : Nat) (o : MO), S1[k]? = some o → S[k]? = some o ∨ ∃ ds : List PyData, o = .lst (ds.map .d)
theorem Chg.refl {S : Store} : Chg S S := ⟨rfl, fun _ _ h => .inl h⟩
theorem Chg.set {S S1 : Store} {j : Nat} {ds : List PyData} (h : Chg S S1) : Chg S (S1.set j (.lst (ds.map .d))) := by
  refine ⟨by rw [List.length_set]; exact h.1, fun k o e => ?_⟩
  by_cases hj : j = k
  · subst hj
    by_cases hk : j < S1.length
    · rw [List.getElem?_set_self hk] at e
      cases e
      exact .inr ⟨ds, rfl⟩
    · rw [List.set_eq_of_length_le (by omega)] at e
      exact h.2 j o e
  · rw [List.getElem?_set_ne hj] at e
    exact h.2 k o e
section
variable {K : PySem.W.Frag} {Z As As' : List Addr} {S S1 S' Gb : Store} {H H' : Hp}
theorem trim2 (r : Rl K Z As S H) (r' : Rl K Z As' (S1 ++ Gb) H') (po : Po Z As S H As' (S1 ++ Gb) H') (hc : Chg S S1) : Po Z As S H As S1 H' ∧ Rl K Z As S1 H' ∧ Ex (lv Z As' (S1 ++ Gb)) H' (lv Z As S1) H' := by
  obtain ⟨l, hl⟩ := po.pre
  have up : ∀ {k : Nat} {o : MO}, S1[k]? = some o → (S1 ++ Gb)[k]? = some o := fun {k o} h2 => by
    have : k < S1.length := by
      rcases Nat.lt_or_ge k S1.length with z | z
      · exact z
      · rw [List.getElem?_eq_none z] at h2; cases h2
    rw [List.getElem?_append_left this]
    exact h2
  have live : ∀ b, lv Z As S1 b → lv Z As' (S1 ++ Gb) b := fun b hb => by
    rcases hb with hb | ⟨k, o, h1, h2, h3⟩
    · exact .inl hb
    · exact .inr ⟨k, o, pre_get ⟨l, hl⟩ h1, up h2, h3⟩
  have ex : Ex (lv Z As' (S1 ++ Gb)) H' (lv Z As S1) H' := fun b o e n => ⟨fun z => n (live b z), e⟩
  refine ⟨⟨fun b o e n => ?_, po.hid, [], by simp⟩, ⟨r.len.trans hc.1.symm, fun i j a oi oj h1 h2 h3 h4 h5 h6 => r'.inj i j a oi oj (pre_get ⟨l, hl⟩ h1) (pre_get ⟨l, hl⟩ h2) (up h3) (up h4) h5 h6, fun k a o h1 h2 => ?_, fun b hb => ⟨(r'.hz b hb).1, fun k o h1 h2 => (r'.hz b hb).2 k o (pre_get ⟨l, hl⟩ h1) (up h2)⟩⟩, ex⟩
  · obtain ⟨n', e'⟩ := po.ext b o e n
    exact ⟨fun z => n' (live b z), e'⟩
  · have z := r'.at_ k a o (pre_get ⟨l, hl⟩ h1) (up h2)
    rcases hc.2 k o h2 with h3 | ⟨ds, rfl⟩
    · cases o with
      | dead => trivial
      | rng => exact z
      | lst xs =>
        obtain ⟨vs, e, q⟩ := z
        obtain ⟨vs0, e0, q0⟩ := r.at_ k a (.lst xs) h1 h3
        exact ⟨vs, e, back2 ex ⟨l, hl⟩ q0 q⟩
      | dct xs =>
        obtain ⟨vs, e, q1, q⟩ := z
        obtain ⟨vs0, e0, _, q0⟩ := r.at_ k a (.dct xs) h1 h3
        exact ⟨vs, e, q1, back2 ex ⟨l, hl⟩ q0 q⟩
    · obtain ⟨vs, e, q⟩ := z
      exact ⟨vs, e, AVs.of_d (DVs.ex ex _ _ q.to_d)⟩
/-- told at a return: data; lists of the caller's may be others, what was made is forgotten -/
def RetC (P : PQ) (S : Store) (r : AV) (S' : Store) : Prop := ∃ x S1 Gb, r = .d x ∧ S' = S1 ++ Gb ∧ Chg S S1 ∧ P (.d x) S1
theorem Kon.retC {v : V} {P : PQ} {Q : VK} (k : Kon K Z As S H P Q) (rl : Rl K Z As S H) : Kon K Z As S H (RetC P S) Q := fun r S2 As2 v H2 h po rl2 av => by
  obtain ⟨x, S1, Gb, rfl, rfl, hc, h⟩ := h
  obtain ⟨po', rl', ex⟩ := trim2 rl rl2 po hc
  exact k (.d x) S1 As v H2 h po' rl' (DV.ex ex _ _ av)
end
section
variable {P : Program} {w : World} {K : PySem.W.Frag} {mg : Str → Option Value} {base : Heap} {k : Nat} {x : Str} {N ps : List Str} {W : WD}
theorem okC {st : Stmt} {g : GS} (D : DefAt K mg x st ps) (S : FnScope N ps (defScope st)) (hlen : ∀ as S P, W as S P → as.length = ps.length)
    (hb : ∀ (f : Addr) (cdv : Value) (A : Around) (outer : List Env) (s : Shared) (H : Hp) (E : XK), A.guards = some [] → Room k (A.deeper (envOfC x (defScope st) s.heap.objs.size f cdv)) →
      PDSs (cxOf CX0 P w K mg base N x (defScope st) f cdv A outer s H E).nox (defBody st) g)
    (hw : ∀ args S P, W args S P → g (args.map some ++ List.replicate (N.length - ps.length) none) S ⟨fun _ S' => RetC P S (.d .none) S', RetC P S, fun _ _ => False, fun _ _ => False⟩) : Own P w K mg base (k + 1) x ps W := by
  obtain ⟨f, fd, F, h1, h2, h3, h4⟩ := D.ex
  refine ⟨f, fd, F.okG S (fun vs H Q E h => ?_) (fun cdv A outer s H vs Q E hgd hr h => ?_), h1, h2, h3, h4⟩
  · obtain ⟨Z, As, S, args, P, rl, av, hW, _⟩ := h
    rw [av.length]
    exact hlen _ _ _ hW
  · obtain ⟨Z, As, S1, args, P1, rl, av, hW, hk⟩ := h
    have hl : vs.length = ps.length := by rw [av.length]; exact hlen _ _ _ hW
    have hk' := Kon.retC (v := .non) hk rl
    refine ⟨_, hb f cdv A outer s H E hgd hr, Z, As, S1, _, _, rl, ?_, hw args S1 P1 hW, ?_, hk', ?_, ?_⟩
    · show Sl K Z As S1 H (vs.map some ++ List.replicate (N.length - vs.length) none) _
      rw [hl]
      exact Sl.start _ av
    · exact fun env' S' As' σ' H' h' po rl' sl' => hk' (.d .none) S' As' .non H' h' po rl' .non
    · exact fun _ _ _ _ _ z => z.elim
    · exact fun _ _ _ _ _ z => z.elim
end
end DL
/-! law k91: numbers, labels, kinds drawn -/
namespace K61
open PySem PySem.Spec PyProof.Rows L2 DL
/-- a number of the law -/
def Num (i : Int) : Prop := i.natAbs < 10 ^ 26
def WNum : WD := fun as S P => ∃ r : Nat, as = [.m r] ∧ S[r]? = some .rng ∧ ∀ i : Int, Num i → P (.d (.int i)) S
/-- a label of the law's -/
def LabV (l : PyData) : Prop := ∃ (z : Str) (i : Int), l = .tuple [.str z, .int i] ∧ nameS z = true ∧ 0 ≤ i ∧ Num i
def WLab : WD := fun as S P => ∃ r : Nat, as = [.m r] ∧ S[r]? = some .rng ∧ ∀ l, LabV l → P (.d l) S
def KindV (l : PyData) : Prop := l = .str "own" ∨ LabV l
def WKind : WD := fun as S P => ∃ r : Nat, as = [.m r] ∧ S[r]? = some .rng ∧ ∀ l, KindV l → P (.d l) S
section
variable {P : Program} {w : World} {K : PySem.W.Frag} {mg : Str → Option Value} {base : Heap}
abbrev s__law_number : Stmt := top 55
theorem sc__law_number : FnScope ["_law_rng_here", "_law_size"] ["_law_rng_here"] (defScope s__law_number) := ⟨rfl, rfl, rfl, by decide +kernel, rfl, by decide +kernel, by decide +kernel⟩
theorem ok__law_number (D : DefAt K mg "_law_number" s__law_number ["_law_rng_here"]) (o__law_draw : Own P w K mg base 1 "_law_draw" ["_law_rng_here", "_law_many"] WDraw) : Own P w K mg base 2 "_law_number" ["_law_rng_here"] WNum := by
  have sc := sc__law_number
  refine okO D sc (fun as S P h => by obtain ⟨_, rfl, _⟩ := h; rfl) (fun f cdv A outer s H E hg hr => (pdss_cons (pds_set (i := 1) sc.nd rfl (Or.inl rfl) (pd_at (pd_lst (pda_cons (pdc o__law_draw hg hr (by rfl) (pda_cons (pdv 0) (pda_cons (pd_int) pda_nil))) (pda_cons (pdc o__law_draw hg hr (by rfl) (pda_cons (pdv 0) (pda_cons (pd_int) pda_nil))) (pda_cons (pdc o__law_draw hg hr (by rfl) (pda_cons (pdv 0) (pda_cons (pd_pow (pd_int) (pd_int)) pda_nil))) pda_nil)))) (pdc o__law_draw hg hr (by rfl) (pda_cons (pdv 0) (pda_cons (pd_int) pda_nil))))) (pdss_one (pds_ret (pd_ife (pdt_eq hr (pdc o__law_draw hg hr (by rfl) (pda_cons (pdv 0) (pda_cons (pd_int) pda_nil))) (pd_int)) (pdv 1) (pd_sub (pd_int) (pdv 1))))))) (fun args S P h => ?_)
  obtain ⟨r, rfl, hS, h⟩ := h
  refine ⟨r, 4, rfl, hS, ⟨by decide, by decide⟩, fun i1 a1 b1 => ⟨r, 50, rfl, hS, ⟨by decide, by decide⟩, fun i2 a2 b2 => ⟨⟨by decide, by decide, by decide⟩, r, 10 ^ 26, rfl, hS, ⟨by decide, by decide⟩, fun i3 a3 b3 => ⟨small2 rfl, r, 3, rfl, hS, ⟨by decide, by decide⟩, fun j j0 j1 => ?_⟩⟩⟩⟩
  obtain ⟨j, rfl⟩ : ∃ j' : Nat, j = (j' : Int) := ⟨j.toNat, by omega⟩
  have hj : j < ([.int i1, .int i2, .int i3] : List PyData).length := by show j < 3; omega
  refine ix_l (a := .d (.list [.int i1, .int i2, .int i3])) rfl rfl (atI_nat (List.getElem?_eq_getElem hj)) ?_
  have m := List.getElem_mem hj
  simp only [List.mem_cons, List.not_mem_nil, or_false] at m
  have t12 : (50 : Int) < 10 ^ 26 := by decide
  have t13 : ((10 ^ 26 : Nat) : Int) = 10 ^ 26 := by decide
  have fin : ∀ i : Int, 0 ≤ i → i < 10 ^ 26 → Num i ∧ Num (0 - i) := fun i h0 h1 => by
    unfold Num
    constructor <;> omega
  obtain ⟨i, h0, h1, e⟩ : ∃ i : Int, 0 ≤ i ∧ i < 10 ^ 26 ∧ ([.int i1, .int i2, .int i3] : List PyData)[j] = .int i := by
    rcases m with m | m | m
    · exact ⟨i1, a1, by omega, m⟩
    · exact ⟨i2, a2, by omega, m⟩
    · exact ⟨i3, a3, b3, m⟩
  rw [e]
  obtain ⟨f1, f2⟩ := fin i h0 h1
  refine ⟨r, 2, rfl, hS, ⟨by decide, by decide⟩, fun d d0 d1 => ?_⟩
  refine cond_or (c := decide (d = 0)) (fun e1 => ?_) (fun e1 => ?_)
  · exact h _ f1
  · exact h _ f2
abbrev s__law_any_label : Stmt := top 56
theorem sc__law_any_label : FnScope ["_law_rng_here"] ["_law_rng_here"] (defScope s__law_any_label) := ⟨rfl, rfl, rfl, by decide +kernel, rfl, by decide +kernel, by decide +kernel⟩
theorem ok__law_any_label (D : DefAt K mg "_law_any_label" s__law_any_label ["_law_rng_here"]) (B : Bl mg) (o__law_name : Own P w K mg base 2 "_law_name" ["_law_rng_here", "_law_used"] WNm) (o__law_number : Own P w K mg base 2 "_law_number" ["_law_rng_here"] WNum) : Own P w K mg base 3 "_law_any_label" ["_law_rng_here"] WLab := by
  have sc := sc__law_any_label
  refine okO D sc (fun as S P h => by obtain ⟨_, rfl, _⟩ := h; rfl) (fun f cdv A outer s H E hg hr => (pdss_one (pds_ret (pd_tup (pda_cons (pdc o__law_name hg hr (by rfl) (pda_cons (pdv 0) (pda_cons (pd_lst pda_nil) pda_nil))) (pda_cons (pd_callB call_abs vr_abs (by rfl) (B.b _ (by decide)) (by decide +kernel) (pda_cons (pdc o__law_number hg hr (by rfl) (pda_cons (pdv 0) pda_nil)) pda_nil)) pda_nil)))))) (fun args S P h => ?_)
  obtain ⟨r, rfl, hS, h⟩ := h
  refine ⟨small2 rfl, r, _, [], rfl, hS, rfl, by decide, fun z hz => ⟨r, rfl, hS, fun i hi => ⟨small2 rfl, ?_⟩⟩⟩
  refine h _ ⟨z, _, rfl, hz, ?_, ?_⟩
  · split <;> omega
  · unfold Num at *
    split <;> omega
abbrev s__law_any_kind : Stmt := top 58
theorem sc__law_any_kind : FnScope ["_law_rng_here"] ["_law_rng_here"] (defScope s__law_any_kind) := ⟨rfl, rfl, rfl, by decide +kernel, rfl, by decide +kernel, by decide +kernel⟩
theorem ok__law_any_kind (D : DefAt K mg "_law_any_kind" s__law_any_kind ["_law_rng_here"]) (B : Bl mg) (o__law_draw : Own P w K mg base 1 "_law_draw" ["_law_rng_here", "_law_many"] WDraw) (o__law_any_label : Own P w K mg base 3 "_law_any_label" ["_law_rng_here"] WLab) : Own P w K mg base 4 "_law_any_kind" ["_law_rng_here"] WKind := by
  have sc := sc__law_any_kind
  refine okO D sc (fun as S P h => by obtain ⟨_, rfl, _⟩ := h; rfl) (fun f cdv A outer s H E hg hr => (pdss_one (pds_ret (pd_ife (pdt_eq hr (pdc o__law_draw hg hr (by rfl) (pda_cons (pdv 0) (pda_cons (pd_int) pda_nil))) (pd_int)) (pd_str) (pdc o__law_any_label hg hr (by rfl) (pda_cons (pdv 0) pda_nil)))))) (fun args S P h => ?_)
  obtain ⟨r, rfl, hS, h⟩ := h
  refine ⟨r, 2, rfl, hS, ⟨by decide, by decide⟩, fun d d0 d1 => ?_⟩
  refine cond_or (c := decide (d = 0)) (fun e1 => ?_) (fun e1 => ?_)
  · exact h _ (.inl rfl)
  · exact ⟨r, rfl, hS, fun l hl => h _ (.inr hl)⟩
end
end K61
/-! law k91: expressions drawn -/
namespace K61
open PySem PySem.Spec PyProof.Rows L2 DL
def wr (w : Str) (ts : List Str) : Str := "(" ++ Txt.join " " (w :: ts) ++ ")"
inductive Lb : PyData → Str → Prop
  | no : Lb .none "-"
  | yes (z : Str) (i : Int) : nameS z = true → 0 ≤ i → Num i → Lb (.tuple [.str z, .int i]) (z ++ "/" ++ numT i)
mutual
/-- an expression: at most so deep, with so many in it, and its text -/
inductive Tm : Nat → Nat → PyData → Str → Prop
  | make (n : Nat) (i : Int) : Num i → Tm (n + 1) 1 (.tuple [.str "make", .int i]) (wr "make" [numT i])
  | param (n : Nat) (i : Int) : 0 ≤ i → Num i → Tm (n + 1) 1 (.tuple [.str "param", .int i]) (wr "param" [numT i])
  | plus {n k : Nat} {x : PyData} {t : Str} (i : Int) : Tm n k x t → Num i → Tm (n + 1) (k + 1) (.tuple [.str "plus", x, .int i]) (wr "plus" [t, numT i])
  | call {n k : Nat} {l : PyData} {lt f : Str} {xs : List PyData} {ts : List Str} : Lb l lt → nameS f = true → Tms n k xs ts → xs.length ≤ 4 → Tm (n + 1) (k + 1) (.tuple [.str "call", l, .str f, .tuple xs]) (wr "call" (lt :: f :: ts))
  | two {n k : Nat} {x y : PyData} {t u : Str} : Tms n k [x, y] [t, u] → Tm (n + 1) (k + 1) (.tuple [.str "do", x, y]) (wr "do" [t, u])
  | three {n k : Nat} {x y z : PyData} {t u v : Str} : Tms n k [x, y, z] [t, u, v] → Tm (n + 1) (k + 1) (.tuple [.str "if", x, y, z]) (wr "if" [t, u, v])
inductive Tms : Nat → Nat → List PyData → List Str → Prop
  | nil (n : Nat) : Tms n 0 [] []
  | cons {n k j : Nat} {x : PyData} {t : Str} {xs : List PyData} {ts : List Str} : Tm n k x t → Tms n j xs ts → Tms n (k + j) (x :: xs) (t :: ts)
end
theorem Tms.len : ∀ {n k : Nat} {xs : List PyData} {ts : List Str}, Tms n k xs ts → ts.length = xs.length
  | _, _, _, _, .nil _ => rfl
  | _, _, _, _, .cons _ t => congrArg Nat.succ t.len
theorem Tms.one {n k : Nat} {x : PyData} {ts : List Str} (h : Tms n k [x] ts) : ∃ t, ts = [t] ∧ Tm n k x t := by
  cases h with
  | cons a b =>
    cases b
    exact ⟨_, rfl, a⟩
theorem Tms.snoc : ∀ {n k j : Nat} {x : PyData} {t : Str} {xs : List PyData} {ts : List Str}, Tms n k xs ts → Tm n j x t → Tms n (k + j) (xs ++ [x]) (ts ++ [t])
  | n, _, j, x, t, _, _, .nil _, h => by
    have := Tms.cons h (.nil n)
    rw [Nat.add_zero] at this
    rw [Nat.zero_add]
    exact this
  | n, _, j, x, t, _, _, .cons a r, h => by
    have := Tms.cons a (r.snoc h)
    rw [← Nat.add_assoc] at this
    exact this
def WAT (n : Nat) : WD := fun as S P => ∃ (r l e c : Nat), as = [.m r, .d (.int (e + 1)), .m l] ∧ S[r]? = some .rng ∧ S[l]? = some (.lst [.d (.int c)]) ∧ e < n ∧
  ∀ x t k c', Tm (e + 1) k x t → k + c' = c + 1 → P (.d x) (S.set l (.lst [.d (.int (c' : Nat))]))
theorem compD_st {gg : GG} {ge : G} (J : List PyData → Store → Prop) {env : DEnv} {P : PQ} : ∀ {items acc : List PyData} {S : Store}, J acc S →
    (∀ x acc S, x ∈ items → J acc S → ∀ Q : PQ, (∀ y S', J (acc ++ [y]) S' → Q (.d y) S') → gg (.d x) env S fun env' S' => ge env' S' Q) → (∀ ys S', ys.length = acc.length + items.length → J ys S' → P (.d (.list ys)) S') → compD gg gtYes ge items acc env S P
  | [], acc, S, j, _, k => k acc S (by simp) j
  | x :: xs, acc, S, j, h, k => by
    refine h x acc S (List.mem_cons_self ..) j _ fun y S' j' => ?_
    show compD gg gtYes ge xs (acc ++ [y]) env S' P
    refine compD_st J j' (fun z acc S hz => h z acc S (List.mem_cons_of_mem _ hz)) fun ys S2 hl j2 => ?_
    refine k ys S2 ?_ j2
    rw [hl, List.length_append, List.length_cons, List.length_cons, List.length_nil]
    omega
theorem dget_ok {i j : Nat} {env : DEnv} {S : Store} {P : PQ} {q : Nat} {kvs : List (Key × AV)} {z : Str} {a : AV} (hi : env[i]? = some (some (.m q))) (hj : env[j]? = some (some (.d (.str z)))) (hq : S[q]? = some (.dct kvs)) (ha : avV kvs (.inr z) = some a) (h : P a S) : gDGet (gVar i) (gVar j) env S P := by
  unfold gDGet gVar
  rw [hi]
  show (match env[j]? with | some (some a) => _ | _ => False)
  rw [hj]
  show (match S[q]?, dKey (.str z) with | some (.dct kvs), some key => _ | _, _ => False)
  rw [hq]
  show (match avV kvs (.inr z) with | some b => P b S | none => False)
  rw [ha]
  exact h
theorem vw_own {S : Store} {l : Nat} {x : PyData} (h : S[l]? = some (.lst [.d x])) : vw S (.m l) = some (.list [x]) := by
  show (match S[l]? with | some (.lst xs) => (dats xs).map PyData.list | _ => none) = _
  rw [h]
  rfl
theorem ix0_ok {i : Nat} {env : DEnv} {S : Store} {P : PQ} {l : Nat} {x : PyData} (hi : env[i]? = some (some (.m l))) (hl : S[l]? = some (.lst [.d x])) (h : P (.d x) S) : gBin dIx (gVar i) (gC (.int 0)) env S P := by
  unfold gBin gVar gC
  rw [hi]
  exact ix_l (vw_own hl) rfl at0 h
theorem sub0_ok {i : Nat} {env : DEnv} {S : Store} {P : DEnv → Store → Prop} {l : Nat} {x : PyData} {v : AV} (hi : env[i]? = some (some (.m l))) (hl : S[l]? = some (.lst [.d x])) (h : P env (S.set l (.lst [v]))) : ggSubM (gVar i) (gC (.int 0)) v env S P := by
  unfold ggSubM gVar gC
  rw [hi]
  show (match S[l]? with | some (.lst xs) => _ | _ => False)
  rw [hl]
  exact h
/-- the words of an expression, with how many stand in each -/
def WM (d : Nat) (w : Str) (m : Nat) : Prop := (w = "make" ∧ m = 0) ∨ (w = "param" ∧ m = 0) ∨ (w = "plus" ∧ m = 1) ∨ (w = "call" ∧ m = d) ∨ (w = "do" ∧ m = 2) ∨ (w = "if" ∧ m = 3)
def kvsO (d : Nat) : List (Key × AV) := [(.inr "make", .d (.int 0)), (.inr "param", .d (.int 0)), (.inr "plus", .d (.int 1)), (.inr "call", .d (.int (d : Nat))), (.inr "do", .d (.int 2)), (.inr "if", .d (.int 3))]
theorem WM.get {d m : Nat} {w : Str} (h : WM d w m) : avV (kvsO d) (.inr w) = some (.d (.int (m : Nat))) := by
  rcases h with ⟨rfl, rfl⟩ | ⟨rfl, rfl⟩ | ⟨rfl, rfl⟩ | ⟨rfl, rfl⟩ | ⟨rfl, rfl⟩ | ⟨rfl, rfl⟩ <;> rfl
theorem set_same {env : DEnv} {i : Nat} {a : Option AV} (h : env[i]? = some a) : env.set i a = env := by
  apply List.ext_getElem?
  intro j
  by_cases hj : i = j
  · subst hj
    have hl : i < env.length := by
      rcases Nat.lt_or_ge i env.length with z | z
      · exact z
      · rw [List.getElem?_eq_none z] at h; cases h
    rw [List.getElem?_set_self hl, h]
  · rw [List.getElem?_set_ne hj]
theorem size_step {b : GS} {env : DEnv} {S : Store} {D : DE} {l q c d m : Nat} {w : Str} (h2 : env[2]? = some (some (.m l))) (h3 : env[3]? = some (some (.m q))) (h4 : env[4]? = some (some (.d (.str w)))) (hl : S[l]? = some (.lst [.d (.int (c : Nat))])) (hq : S[q]? = some (.dct (kvsO d))) (hm : WM d w m)
    (key : ∀ w' m', WM d w' m' → m' ≤ m → m' ≤ c → b (env.set 4 (some (.d (.str w')))) S D) :
    gsSeq (gsIf (gTest (gBin (dOrd iGt sGt) (gDGet (gVar 3) (gVar 4)) (gBin dIx (gVar 2) (gC (.int 0))))) (gsAsg (gC (.str "make")) (ggName 4)) gsNext) b env S D := by
  unfold gsSeq gsIf gTest
  unfold gBin
  refine dget_ok h3 h4 hq hm.get ?_
  refine ix0_ok h2 hl ?_
  show cond (iGt (m : Int) (c : Int)) _ _
  refine cond_or (fun g => ?_) (fun g => ?_)
  · exact key "make" 0 (.inl ⟨rfl, rfl⟩) (Nat.zero_le _) (Nat.zero_le _)
  · have g := of_decide_eq_false g
    have := key w m hm (Nat.le_refl _) (by omega)
    rw [set_same h4] at this
    exact this
def wordsO : List PyData := [.str "make", .str "param", .str "plus", .str "call", .str "do", .str "if"]
theorem disp_step {b : GS} {env : DEnv} {S : Store} {D : DE} {r : Nat} (h0 : env[0]? = some (some (.m r))) (hS : S[r]? = some .rng) (key : ∀ d : Nat, d < 5 → b (env.set 3 (some (.m S.length))) (S ++ [.dct (kvsO d)]) D) :
    gsSeq (gsAsg (gDisp [(.inr "make", gC (.int 0)), (.inr "param", gC (.int 0)), (.inr "plus", gC (.int 1)), (.inr "call", gApp WDraw (DL.gCons (gVar 0) (DL.gCons (gC (.int 5)) DL.gNil))), (.inr "do", gC (.int 2)), (.inr "if", gC (.int 3))]) (ggName 3)) b env S D := by
  have lr : r < S.length := by
    rcases Nat.lt_or_ge r S.length with z | z
    · exact z
    · rw [List.getElem?_eq_none z] at hS; cases hS
  unfold gsSeq gsAsg gDisp
  show (gApp WDraw (DL.gCons (gVar 0) (DL.gCons (gC (.int 5)) DL.gNil))) env (S ++ [.dct []]) _
  unfold gApp DL.gCons gVar
  rw [h0]
  refine ⟨r, 5, rfl, (by rw [List.getElem?_append_left lr]; exact hS), ⟨by decide, by decide⟩, fun d5 z0 z1 => ?_⟩
  obtain ⟨d, rfl⟩ : ∃ d : Nat, d5 = (d : Int) := ⟨d5.toNat, by omega⟩
  have nd : ((kvsO d).map (·.1)).Nodup := by
    show ([.inr "make", .inr "param", .inr "plus", .inr "call", .inr "do", .inr "if"] : List Key).Nodup
    decide +kernel
  have eT : (S ++ [MO.dct []]).set S.length (.dct (kvsO d)) = S ++ [.dct (kvsO d)] := by
    rw [List.set_append_right _ _ (Nat.le_refl _)]
    simp
  refine ⟨by rw [List.getElem?_append_right (Nat.le_refl _)]; simp, nd, (by show 6 ≤ 15; decide), ?_⟩
  have k := key d (by omega)
  rw [← eT] at k
  exact k
theorem word_step {b : GS} {env : DEnv} {S : Store} {D : DE} {r e d : Nat} (h0 : env[0]? = some (some (.m r))) (h1 : env[1]? = some (some (.d (.int (e + 1))))) (hS : S[r]? = some .rng) (hd : d < 5)
    (key : ∀ w m, WM d w m → (1 ≤ e ∨ m = 0) → b (env.set 4 (some (.d (.str w)))) S D) :
    gsSeq (gsAsg (gBin dIx (fun env S P => DL.gCons (gC (.str "make")) (DL.gCons (gC (.str "param")) (DL.gCons (gC (.str "plus")) (DL.gCons (gC (.str "call")) (DL.gCons (gC (.str "do")) (DL.gCons (gC (.str "if")) DL.gNil))))) env S fun as S1 => as.length ≤ sizeLine ∧ dLst as S1 P)
      (gApp WDraw (DL.gCons (gVar 0) (DL.gCons (gBin dIx (fun env S P => DL.gCons (gC (.int 2)) (DL.gCons (gC (.int 6)) DL.gNil) env S fun as S1 => as.length ≤ sizeLine ∧ dLst as S1 P) (gApp dIntB (DL.gCons (gBin (dOrd iGt sGt) (gVar 1) (gC (.int 1))) DL.gNil))) DL.gNil)))) (ggName 4)) b env S D := by
  have fin : ∀ n : Int, 0 ≤ n → n < 6 → (1 ≤ e ∨ n < 2) → dIx (.d (.list wordsO)) (.d (.int n)) S fun a S1 => ggName 4 a env S1 fun env' S' => b env' S' D := fun n n0 n1 hn => by
    obtain ⟨j, rfl⟩ : ∃ j : Nat, n = (j : Int) := ⟨n.toNat, by omega⟩
    match j, n1, hn with
    | 0, _, _ => exact ix_l rfl rfl (atI_nat (j := 0) rfl) (key "make" 0 (.inl ⟨rfl, rfl⟩) (.inr rfl))
    | 1, _, _ => exact ix_l rfl rfl (atI_nat (j := 1) rfl) (key "param" 0 (.inr (.inl ⟨rfl, rfl⟩)) (.inr rfl))
    | 2, _, hn => exact ix_l rfl rfl (atI_nat (j := 2) rfl) (key "plus" 1 (.inr (.inr (.inl ⟨rfl, rfl⟩))) (.inl (by omega)))
    | 3, _, hn => exact ix_l rfl rfl (atI_nat (j := 3) rfl) (key "call" d (.inr (.inr (.inr (.inl ⟨rfl, rfl⟩)))) (.inl (by omega)))
    | 4, _, hn => exact ix_l rfl rfl (atI_nat (j := 4) rfl) (key "do" 2 (.inr (.inr (.inr (.inr (.inl ⟨rfl, rfl⟩))))) (.inl (by omega)))
    | 5, _, hn => exact ix_l rfl rfl (atI_nat (j := 5) rfl) (key "if" 3 (.inr (.inr (.inr (.inr (.inr ⟨rfl, rfl⟩))))) (.inl (by omega)))
    | j + 6, n1, _ => omega
  unfold gsSeq gsAsg
  unfold gBin gApp DL.gCons gC gVar DL.gNil
  rw [h0]
  refine ⟨small2 rfl, small2 rfl, ?_⟩
  have lst : ∀ (Q : PQ), Q (.d (.list [.int 2, .int 6])) S → dLst [.d (.int 2), .d (.int 6)] S Q := fun Q q => q
  refine lst _ ?_
  dsimp only
  rw [h1]
  dsimp only
  have st : ∀ (v : Int) (Q : PQ), Q (.d (.int (if iGt v 1 = true then 1 else 0))) S → dOrd iGt sGt (.d (.int v)) (.d (.int 1)) S (fun a S1 => dIntB [a] S1 Q) := fun v Q q => q
  refine st _ _ ?_
  rcases Nat.eq_zero_or_pos e with z | z
  · subst z
    refine ix_l (a := .d (.list [.int 2, .int 6])) (b := .d (.int 0)) rfl rfl at0 ⟨r, 2, rfl, hS, ⟨by decide, by decide⟩, fun n n0 n1 => ?_⟩
    exact fin n n0 (by omega) (.inr n1)
  · have g : iGt ((e : Int) + 1) 1 = true := decide_eq_true (by omega)
    rw [if_pos g]
    refine ix_l (a := .d (.list [.int 2, .int 6])) (b := .d (.int 1)) rfl rfl at1 ⟨r, 6, rfl, hS, ⟨by decide, by decide⟩, fun n n0 n1 => ?_⟩
    exact fin n n0 n1 (.inl z)
theorem put_same {S : Store} {i : Nat} {a : MO} (h : S[i]? = some a) : S.set i a = S := by
  apply List.ext_getElem?
  intro j
  by_cases hj : i = j
  · subst hj
    have hl : i < S.length := by
      rcases Nat.lt_or_ge i S.length with z | z
      · exact z
      · rw [List.getElem?_eq_none z] at h; cases h
    rw [List.getElem?_set_self hl, h]
  · rw [List.getElem?_set_ne hj]
theorem put_at {S : Store} {i : Nat} {a b : MO} (h : S[i]? = some a) : (S.set i b)[i]? = some b := by
  have hl : i < S.length := by
    rcases Nat.lt_or_ge i S.length with z | z
    · exact z
    · rw [List.getElem?_eq_none z] at h; cases h
  exact List.getElem?_set_self hl
theorem take_step {b : GS} {env : DEnv} {S : Store} {D : DE} {l q c d m : Nat} {w : Str} (h2 : env[2]? = some (some (.m l))) (h3 : env[3]? = some (some (.m q))) (h4 : env[4]? = some (some (.d (.str w)))) (hl : S[l]? = some (.lst [.d (.int (c : Nat))])) (hq : S[q]? = some (.dct (kvsO d))) (hm : WM d w m) (hc : m ≤ c)
    (key : b env (S.set l (.lst [.d (.int ((c - m : Nat) : Int))])) D) :
    gsSeq (gsAsg (gBin dSub (gBin dIx (gVar 2) (gC (.int 0))) (gDGet (gVar 3) (gVar 4))) (ggSubM (gVar 2) (gC (.int 0)))) b env S D := by
  have go : gBin dSub (gBin dIx (gVar 2) (gC (.int 0))) (gDGet (gVar 3) (gVar 4)) env S fun a S1 => ggSubM (gVar 2) (gC (.int 0)) a env S1 fun env' S' => b env' S' D := by
    show gBin dIx (gVar 2) (gC (.int 0)) env S fun a S1 => gDGet (gVar 3) (gVar 4) env S1 fun b' S2 => dSub a b' S2 _
    refine ix0_ok h2 hl ?_
    refine dget_ok h3 h4 hq hm.get ?_
    show ggSubM (gVar 2) (gC (.int 0)) (.d (.int ((c : Int) - (m : Int)))) env S fun env' S' => b env' S' D
    refine sub0_ok h2 hl ?_
    rw [show (c : Int) - (m : Int) = ((c - m : Nat) : Int) by omega]
    exact key
  exact go
theorem parts_step {n : Nat} {b : GS} {env : DEnv} {S : Store} {D : DE} {r l q e c d m : Nat} {w : Str} (he : e < n + 1) (h0 : env[0]? = some (some (.m r))) (h1 : env[1]? = some (some (.d (.int (e + 1))))) (h2 : env[2]? = some (some (.m l))) (h3 : env[3]? = some (some (.m q))) (h4 : env[4]? = some (some (.d (.str w))))
    (hr : S[r]? = some .rng) (hl : S[l]? = some (.lst [.d (.int (c : Nat))])) (hq : S[q]? = some (.dct (kvsO d))) (hm : WM d w m) (h5 : m < 5) (hme : 1 ≤ e ∨ m = 0)
    (key : ∀ xs ts k c', Tms e k xs ts → xs.length = m → k + c' = c + m → b (env.set 5 (some (.d (.tuple xs)))) (S.set l (.lst [.d (.int (c' : Nat))])) D) :
    gsSeq (gsAsg (gApp dTuple (DL.gCons (gComp [7] (giRange1 (DL.gCons (gDGet (gVar 3) (gVar 4)) DL.gNil)) (ggName 7) gtYes (gApp (WAT n) (DL.gCons (gVar 0) (DL.gCons (gBin dSub (gVar 1) (gC (.int 1))) (DL.gCons (gVar 2) DL.gNil))))) DL.gNil)) (ggName 5)) b env S D := by
  have hlr : l ≠ r := fun z => by rw [z, hr] at hl; cases hl
  have hlq : l ≠ q := fun z => by rw [z, hq] at hl; cases hl
  have go : gComp [7] (giRange1 (DL.gCons (gDGet (gVar 3) (gVar 4)) DL.gNil)) (ggName 7) gtYes (gApp (WAT n) (DL.gCons (gVar 0) (DL.gCons (gBin dSub (gVar 1) (gC (.int 1))) (DL.gCons (gVar 2) DL.gNil)))) env S fun a S1 => dTuple [a] S1 fun a S2 => b (env.set 5 (some a)) S2 D := by
    show gDGet (gVar 3) (gVar 4) env S fun a S1 => (match [a] with | [.d (.int n)] => _ | _ => False)
    refine dget_ok h3 h4 hq hm.get ?_
    refine ⟨⟨by omega, by omega⟩, ?_⟩
    refine ⟨by rw [List.length_map, List.length_range, sizeLine_eq]; omega, ?_⟩
    have g : ∀ {i : Nat} {a : Option AV}, i ≠ 7 → env[i]? = some a → ∀ x : Option AV, ((wipeE env [7]).set 7 x)[i]? = some a := fun {i a} hi e x => by
      show ((env.set 7 none).set 7 x)[i]? = some a
      rw [List.getElem?_set_ne (fun z => hi z.symm), List.getElem?_set_ne (fun z => hi z.symm)]
      exact e
    refine compD_st (fun acc T => ∃ ts k c', Tms e k acc ts ∧ k + c' = c + acc.length ∧ T = S.set l (.lst [.d (.int (c' : Nat))])) ⟨[], 0, c, .nil _, by simp, (put_same hl).symm⟩ (fun x acc T hx j Q q => ?_) (fun ys T hys j => ?_)
    · obtain ⟨ts, k, c', ht, hk, rfl⟩ := j
      have hpos : 1 ≤ e := by
        rcases hme with z | z
        · exact z
        · subst z; exact absurd hx (by simp)
      obtain ⟨e', rfl⟩ : ∃ e', e = e' + 1 := ⟨e - 1, by omega⟩
      show gApp (WAT n) _ ((wipeE env [7]).set 7 (some (.d x))) _ Q
      unfold gApp DL.gCons gBin gVar
      rw [g (by decide) h0]
      dsimp only
      rw [g (by decide) h1]
      show (match ((wipeE env [7]).set 7 (some (.d x)))[2]? with | some (some a) => _ | _ => False)
      rw [g (by decide) h2]
      refine ⟨r, l, e', c', congrArg (fun i => [AV.m r, .d (.int i), .m l]) (by omega : ((e' + 1 : Nat) : Int) + 1 - 1 = (e' : Int) + 1), (by rw [List.getElem?_set_ne hlr]; exact hr), put_at hl, by omega, fun y t k2 c2 hy hk2 => ?_⟩
      refine q y _ ⟨ts ++ [t], k + k2, c2, ht.snoc hy, ?_, ?_⟩
      · rw [List.length_append, List.length_singleton]; omega
      · rw [List.set_set]
    · obtain ⟨ts, k, c', ht, hk, rfl⟩ := j
      have hlen : ys.length = m := by
        rw [hys, List.length_nil, List.length_map, List.length_range, Nat.zero_add]
        exact Int.toNat_natCast m
      exact key ys ts k c' ht hlen (by omega)
  exact go
theorem in_step {A B : GS} {env : DEnv} {S : Store} {D : DE} {w : Str} (h4 : env[4]? = some (some (.d (.str w)))) (hA : w = "make" ∨ w = "param" → A env S D) (hB : ¬ (w = "make" ∨ w = "param") → B env S D) :
    gsIf (gTest (gBin (dIn false) (gVar 4) fun env S P => DL.gCons (gC (.str "make")) (DL.gCons (gC (.str "param")) DL.gNil) env S fun as S1 => as.length ≤ sizeLine ∧ dTup as S1 P)) A B env S D := by
  unfold gsIf gTest gBin gVar
  rw [h4]
  refine ⟨small2 rfl, ?_⟩
  have tp : ∀ (Q : PQ), Q (.d (.tuple (([("make" : Str), ("param" : Str)] : List Str).map .str))) S → dTup [.d (.str "make"), .d (.str "param")] S Q := fun Q q => q
  refine tp _ ?_
  dsimp only
  unfold dIn
  show dInS false (.d (.str w)) (.d (.tuple (([("make" : Str), ("param" : Str)] : List Str).map .str))) S _
  unfold dInS
  show (match txts ((["make", "param"] : List Str).map .str) with | some ys => _ | none => False)
  rw [DL.strs_map]
  show cond ((["make", "param"] : List Str).any fun y => decide (y = w)) _ _
  refine cond_or (fun g => ?_) (fun g => ?_)
  · refine hA ?_
    simp at g
    rcases g with g | g
    · exact .inl g.symm
    · exact .inr g.symm
  · refine hB fun z => ?_
    have g := List.any_eq_false.mp g
    rcases z with rfl | rfl
    · exact g "make" (by simp) (decide_eq_true rfl)
    · exact g "param" (by simp) (decide_eq_true rfl)
theorem eq_step {A B : GS} {env : DEnv} {S : Store} {D : DE} {w z : Str} (h4 : env[4]? = some (some (.d (.str w)))) (hA : w = z → A env S D) (hB : ¬ w = z → B env S D) : gsIf (gTest (gBin (dEq false) (gVar 4) (gC (.str z)))) A B env S D := by
  unfold gsIf gTest gBin gVar
  rw [h4]
  show cond (decide (w = z)) _ _
  refine cond_or (fun g => hA (of_decide_eq_true g)) (fun g => hB (of_decide_eq_false g))
theorem in_stepQ {A b : GS} {env : DEnv} {S : Store} {D : DE} {w : Str} (h4 : env[4]? = some (some (.d (.str w)))) (hA : w = "make" ∨ w = "param" → A env S { D with nx := fun env' S' => b env' S' D }) (hB : ¬ (w = "make" ∨ w = "param") → b env S D) :
    gsSeq (gsIf (gTest (gBin (dIn false) (gVar 4) fun env S P => DL.gCons (gC (.str "make")) (DL.gCons (gC (.str "param")) DL.gNil) env S fun as S1 => as.length ≤ sizeLine ∧ dTup as S1 P)) A gsNext) b env S D := in_step h4 hA hB
theorem eq_stepQ {A b : GS} {env : DEnv} {S : Store} {D : DE} {w z : Str} (h4 : env[4]? = some (some (.d (.str w)))) (hA : w = z → A env S { D with nx := fun env' S' => b env' S' D }) (hB : ¬ w = z → b env S D) : gsSeq (gsIf (gTest (gBin (dEq false) (gVar 4) (gC (.str z)))) A gsNext) b env S D := eq_step h4 hA hB
theorem plus_ret {env : DEnv} {S : Store} {D : DE} {w : Str} {x : PyData} {r : Nat} (h0 : env[0]? = some (some (.m r))) (h4 : env[4]? = some (some (.d (.str w)))) (h5 : env[5]? = some (some (.d (.tuple [x])))) (hr : S[r]? = some .rng) (key : ∀ i, Num i → D.rt (.d (.tuple [.str w, x, .int i])) S) :
    gsRet (fun env S P => DL.gCons (gVar 4) (DL.gCons (gBin dIx (gVar 5) (gC (.int 0))) (DL.gCons (gApp WNum (DL.gCons (gVar 0) DL.gNil)) DL.gNil)) env S fun as S1 => as.length ≤ sizeLine ∧ dTup as S1 P) env S D := by
  unfold gsRet gApp DL.gCons gBin gVar gC
  dsimp only
  rw [h4]
  dsimp only
  rw [h5]
  refine ix_t (a := .d (.tuple [x])) (b := .d (.int 0)) rfl rfl at0 ?_
  rw [h0]
  exact ⟨r, rfl, hr, fun i hi => ⟨small2 rfl, key i hi⟩⟩
section
variable {P : Program} {w : World} {K : PySem.W.Frag} {mg : Str → Option Value} {base : Heap}
abbrev s__law_any_term : Stmt := top 57
theorem sc__law_any_term : FnScope ["_law_rng_here", "_law_depth", "_law_left", "_law_sizes", "_law_word", "_law_parts", "_law_label", "_law_k"] ["_law_rng_here", "_law_depth", "_law_left"] (defScope s__law_any_term) := ⟨rfl, rfl, rfl, by decide +kernel, rfl, by decide +kernel, by decide +kernel⟩
theorem ok__law_any_term0 (D : DefAt K mg "_law_any_term" s__law_any_term ["_law_rng_here", "_law_depth", "_law_left"]) : Own P w K mg base (0 + 4) "_law_any_term" ["_law_rng_here", "_law_depth", "_law_left"] (WAT 0) :=
  ((Own.never (k := 3) D sc__law_any_term).imp fun as S P h => by obtain ⟨_, _, _, _, _, _, _, h, _⟩ := h; cases h)
theorem ok__law_any_term {n : Nat} (D : DefAt K mg "_law_any_term" s__law_any_term ["_law_rng_here", "_law_depth", "_law_left"]) (B : Bl mg) (o__law_draw : Own P w K mg base 1 "_law_draw" ["_law_rng_here", "_law_many"] WDraw)
    (o__law_number : Own P w K mg base 2 "_law_number" ["_law_rng_here"] WNum) (o__law_any_label : Own P w K mg base 3 "_law_any_label" ["_law_rng_here"] WLab) (o__law_name : Own P w K mg base 2 "_law_name" ["_law_rng_here", "_law_used"] WNm)
    (o__law_any_term : Own P w K mg base (n + 4) "_law_any_term" ["_law_rng_here", "_law_depth", "_law_left"] (WAT n)) :
    Own P w K mg base (n + 4 + 1) "_law_any_term" ["_law_rng_here", "_law_depth", "_law_left"] (WAT (n + 1)) := by
  have sc := sc__law_any_term
  refine DL.okC D sc (fun as S P h => by obtain ⟨_, _, _, _, rfl, _⟩ := h; rfl) (fun f cdv A outer s H E hg hr => (pdss_cons (pds_set (i := 3) sc.nd rfl (Or.inl rfl) (pd_disp _ (pps_k (k := .inr "make") pe_str (pd_int) (pps_k (k := .inr "param") pe_str (pd_int) (pps_k (k := .inr "plus") pe_str (pd_int) (pps_k (k := .inr "call") pe_str (pdc o__law_draw hg hr (by rfl) (pda_cons (pdv 0) (pda_cons (pd_int) pda_nil))) (pps_k (k := .inr "do") pe_str (pd_int) (pps_k (k := .inr "if") pe_str (pd_int) pps_z)))))))) (pdss_cons (pds_set (i := 4) sc.nd rfl (Or.inl rfl) (pd_at (pd_lst (pda_cons (pd_str) (pda_cons (pd_str) (pda_cons (pd_str) (pda_cons (pd_str) (pda_cons (pd_str) (pda_cons (pd_str) pda_nil))))))) (pdc o__law_draw hg hr (by rfl) (pda_cons (pdv 0) (pda_cons (pd_at (pd_lst (pda_cons (pd_int) (pda_cons (pd_int) pda_nil))) (pd_callTy call_intB vr_intB (by rfl) (B.b _ (by decide)) (by decide +kernel) (pda_cons (pd_gt (pdv 1) (pd_int)) pda_nil))) pda_nil))))) (pdss_cons (pds_if (pdt_gt (pd_dget (room_u hr) (pdv 3) (pdv 4)) (pd_at (pdv 2) (pd_int))) (pdss_one (pds_set (i := 4) sc.nd rfl (Or.inl rfl) (pd_str))) pdss_nil) (pdss_cons (pds_asg (pd_sub (pd_at (pdv 2) (pd_int)) (pd_dget (room_u hr) (pdv 3) (pdv 4))) (pdg_subM (pdv 2) (pd_int))) (pdss_cons (pds_set (i := 5) sc.nd rfl (Or.inl rfl) (pd_callTy call_tuple_of vr_tuple (by rfl) (B.b _ (by decide)) (by decide +kernel) (pda_cons (pd_lc (own := [("_law_k", 7)]) rfl sc.nd (pdi_range1 (by rfl) (B.b _ (by decide)) (pda_cons (pd_dget (room_u hr) (pdv 3) (pdv 4)) pda_nil)) (blkOk_by (N := ["_law_rng_here", "_law_depth", "_law_left", "_law_sizes", "_law_word", "_law_parts", "_law_label", "_law_k"]) (sc := defScope s__law_any_term) (by decide +kernel)) (cg_name (by decide)) (fun _ _ _ _ _ => (pg_name (i := 7) sc.nd rfl (Or.inl rfl))) (fun _ _ _ _ _ => pts_yes) (fun _ _ _ _ _ => (pdc o__law_any_term hg hr (by rfl) (pda_cons (pdv 0) (pda_cons (pd_sub (pdv 1) (pd_int)) (pda_cons (pdv 2) pda_nil)))))) pda_nil))) (pdss_cons (pds_if (pdt_in hr (pdv 4) (pd_tup (pda_cons (pd_str) (pda_cons (pd_str) pda_nil))) rfl) (pdss_one (pds_ret (pd_tup (pda_cons (pdv 4) (pda_cons (pd_ife (pdt_eq hr (pdv 4) (pd_str)) (pdc o__law_number hg hr (by rfl) (pda_cons (pdv 0) pda_nil)) (pd_callB call_abs vr_abs (by rfl) (B.b _ (by decide)) (by decide +kernel) (pda_cons (pdc o__law_number hg hr (by rfl) (pda_cons (pdv 0) pda_nil)) pda_nil))) pda_nil))))) pdss_nil) (pdss_cons (pds_if (pdt_eq hr (pdv 4) (pd_str)) (pdss_one (pds_ret (pd_tup (pda_cons (pdv 4) (pda_cons (pd_at (pdv 5) (pd_int)) (pda_cons (pdc o__law_number hg hr (by rfl) (pda_cons (pdv 0) pda_nil)) pda_nil)))))) pdss_nil) (pdss_cons (pds_if (pdt_eq hr (pdv 4) (pd_str)) (pdss_cons (pds_set (i := 6) sc.nd rfl (Or.inl rfl) (pd_ife (pdt_gt (pdc o__law_draw hg hr (by rfl) (pda_cons (pdv 0) (pda_cons (pd_int) pda_nil))) (pd_int)) (pdc o__law_any_label hg hr (by rfl) (pda_cons (pdv 0) pda_nil)) (pd_non))) (pdss_one (pds_ret (pd_tup (pda_cons (pdv 4) (pda_cons (pdv 6) (pda_cons (pdc o__law_name hg hr (by rfl) (pda_cons (pdv 0) (pda_cons (pd_lst pda_nil) pda_nil))) (pda_cons (pdv 5) pda_nil)))))))) pdss_nil) (pdss_one (pds_ret (pd_add (pd_tup (pda_cons (pdv 4) pda_nil)) (pdv 5))))))))))))) (fun args S P h => ?_)
  obtain ⟨r, l, e, c, rfl, hS, hL, he, h⟩ := h
  have lr : r < S.length := by
    rcases Nat.lt_or_ge r S.length with z | z
    · exact z
    · rw [List.getElem?_eq_none z] at hS; cases hS
  have ll : l < S.length := by
    rcases Nat.lt_or_ge l S.length with z | z
    · exact z
    · rw [List.getElem?_eq_none z] at hL; cases hL
  have nrl : l ≠ r := fun z => by rw [z, hS] at hL; cases hL
  refine disp_step rfl hS fun d hd => ?_
  have hr0 : (S ++ [MO.dct (kvsO d)])[r]? = some .rng := by rw [List.getElem?_append_left lr]; exact hS
  have hl0 : (S ++ [MO.dct (kvsO d)])[l]? = some (.lst [.d (.int (c : Nat))]) := by rw [List.getElem?_append_left ll]; exact hL
  have hq0 : (S ++ [MO.dct (kvsO d)])[S.length]? = some (.dct (kvsO d)) := by rw [List.getElem?_append_right (Nat.le_refl _)]; simp
  refine word_step (e := e) rfl rfl hr0 hd fun w m hm hme => ?_
  refine size_step rfl rfl rfl hl0 hq0 hm fun w m1 hm1 hle hmc => ?_
  have hme : 1 ≤ e ∨ m1 = 0 := by
    rcases hme with z | z
    · exact .inl z
    · exact .inr (by omega)
  have hw5 : m1 < 5 := by
    rcases hm1 with ⟨_, rfl⟩ | ⟨_, rfl⟩ | ⟨_, rfl⟩ | ⟨_, rfl⟩ | ⟨_, rfl⟩ | ⟨_, rfl⟩ <;> omega
  have nlq : l ≠ S.length := by omega
  refine take_step rfl rfl rfl hl0 hq0 hm1 hmc ?_
  refine parts_step (e := e) he rfl rfl rfl rfl rfl (by rw [List.getElem?_set_ne nrl]; exact hr0) (put_at hl0) (by rw [List.getElem?_set_ne nlq]; exact hq0) hm1 hw5 hme fun xs ts k c' ht hlen hk => ?_
  have eS : ((S ++ [MO.dct (kvsO d)]).set l (.lst [.d (.int ((c - m1 : Nat) : Int))])).set l (.lst [.d (.int (c' : Nat))]) = (S ++ [MO.dct (kvsO d)]).set l (.lst [.d (.int (c' : Nat))]) := List.set_set ..
  rw [eS]
  have fin : ∀ x t, Tm (e + 1) (k + 1) x t → RetC P S (.d x) ((S ++ [MO.dct (kvsO d)]).set l (.lst [.d (.int (c' : Nat))])) := fun x t hx => by
    refine ⟨x, S.set l (.lst [.d (.int (c' : Nat))]), [.dct (kvsO d)], rfl, ?_, Chg.refl.set (ds := [.int (c' : Nat)]), h x t (k + 1) c' hx (by omega)⟩
    rw [List.set_append_left _ _ ll]
  have hrT : ((S ++ [MO.dct (kvsO d)]).set l (.lst [.d (.int (c' : Nat))]))[r]? = some .rng := by rw [List.getElem?_set_ne nrl]; exact hr0
  refine in_stepQ rfl (fun hw => ?_) (fun hw => ?_)
  · have k0 : k = 0 ∧ m1 = 0 := by
      have m0 : m1 = 0 := by
        rcases hm1 with ⟨_, e1⟩ | ⟨_, e1⟩ | ⟨rfl, _⟩ | ⟨rfl, _⟩ | ⟨rfl, _⟩ | ⟨rfl, _⟩
        · exact e1
        · exact e1
        all_goals exact absurd hw (by decide +kernel)
      subst m0
      cases ht with
      | nil => exact ⟨rfl, rfl⟩
      | cons a b => cases hlen
    obtain ⟨rfl, rfl⟩ := k0
    refine cond_or (c := decide (w = "make")) (fun g => ?_) (fun g => ?_)
    · have g := of_decide_eq_true g
      subst g
      exact ⟨r, rfl, hrT, fun i hi => ⟨small2 rfl, fin _ _ (.make e i hi)⟩⟩
    · have g := of_decide_eq_false g
      have g2 : w = "param" := hw.resolve_left g
      subst g2
      refine ⟨r, rfl, hrT, fun i hi => ⟨small2 rfl, fin _ _ (.param e _ ?_ ?_)⟩⟩
      · split <;> omega
      · unfold Num at *
        split <;> omega
  refine eq_stepQ rfl (fun hw1 => ?_) (fun hw1 => ?_)
  · subst hw1
    have m1e : m1 = 1 := by
      rcases hm1 with ⟨h, _⟩ | ⟨h, _⟩ | ⟨_, h⟩ | ⟨h, _⟩ | ⟨h, _⟩ | ⟨h, _⟩
      · exact absurd h (by decide +kernel)
      · exact absurd h (by decide +kernel)
      · exact h
      all_goals exact absurd h (by decide +kernel)
    subst m1e
    match xs, ht, hlen with
    | [x], ht, _ =>
      obtain ⟨t, rfl, ht1⟩ := ht.one
      exact plus_ret (x := x) rfl rfl rfl hrT fun i hi => fin _ _ (.plus i ht1 hi)
  refine eq_stepQ rfl (fun hw2 => ?_) (fun hw2 => ?_)
  · subst hw2
    have m4 : xs.length ≤ 4 := by omega
    have last : ∀ lv lt, Lb lv lt → ∀ z, nameS z = true → RetC P S (.d (.tuple [.str "call", lv, .str z, .tuple xs])) ((S ++ [MO.dct (kvsO d)]).set l (.lst [.d (.int (c' : Nat))])) := fun lv lt hlb z hz => fin _ _ (.call hlb hz ht m4)
    refine ⟨r, 3, rfl, hrT, ⟨by decide, by decide⟩, fun d3 z0 z1 => ?_⟩
    refine cond_or (c := iGt d3 0) (fun g => ?_) (fun g => ?_)
    · refine ⟨r, rfl, hrT, fun lv hlv => ?_⟩
      obtain ⟨z, i, rfl, hz, hi0, hi⟩ := hlv
      exact ⟨small2 rfl, r, _, [], rfl, hrT, rfl, by decide, fun z2 hz2 => ⟨small2 rfl, last _ _ (.yes z i hz hi0 hi) z2 hz2⟩⟩
    · exact ⟨small2 rfl, r, _, [], rfl, hrT, rfl, by decide, fun z2 hz2 => ⟨small2 rfl, last _ _ .no z2 hz2⟩⟩
  have m2 : (w = "do" ∧ m1 = 2) ∨ (w = "if" ∧ m1 = 3) := by
    rcases hm1 with ⟨h, _⟩ | ⟨h, _⟩ | ⟨h, _⟩ | ⟨h, _⟩ | h | h
    · exact absurd (.inl h) hw
    · exact absurd (.inr h) hw
    · exact absurd h hw1
    · exact absurd h hw2
    · exact .inl h
    · exact .inr h
  rcases m2 with ⟨rfl, rfl⟩ | ⟨rfl, rfl⟩
  · match xs, ts, ht, ht.len, hlen with
    | [x, y], [t, u], ht, _, _ => exact ⟨small2 rfl, small2 rfl, fin _ _ (.two ht)⟩
  · match xs, ts, ht, ht.len, hlen with
    | [x, y, z], [t, u, v], ht, _, _ => exact ⟨small2 rfl, small2 rfl, fin _ _ (.three ht)⟩
end
end K61
/-! law k91: functions drawn -/
namespace K61
open PySem PySem.Spec PyProof.Rows L2 DL
inductive Kn : PyData → Str → Prop
  | own : Kn (.str "own") "own"
  | lab (z : Str) (i : Int) : nameS z = true → 0 ≤ i → Num i → Kn (.tuple [.str z, .int i]) (z ++ "/" ++ numT i)
theorem KindV.kn {l : PyData} (h : KindV l) : ∃ t, Kn l t := by
  rcases h with rfl | ⟨z, i, rfl, h1, h2, h3⟩
  · exact ⟨_, .own⟩
  · exact ⟨_, .lab z i h1 h2 h3⟩
/-- a right expression, and its text -/
def Ex5 (x : PyData) (t : Str) : Prop := ∃ n k, n ≤ 5 ∧ k ≤ 30 ∧ Tm n k x t
/-- a function, and its text -/
inductive Wk : PyData → Str → Prop
  | mk {f : Str} {ks : List PyData} {kts : List Str} {r : PyData} {rt : Str} {x : PyData} {t : Str} : nameS f = true → Paired Kn ks kts → ks.length ≤ 4 → Kn r rt → Ex5 x t → Wk (.tuple [.str f, .tuple ks, r, x]) (Txt.join " " (f :: (kts ++ ([("->" : Str), rt, t] : List Str))))
theorem get_new {S : Store} {o : MO} : (S ++ [o])[S.length]? = some o := by rw [List.getElem?_append_right (Nat.le_refl _)]; simp
theorem kns : ∀ {is ks : List PyData}, Paired (fun _ y => KindV y) is ks → ∃ kts, Paired Kn ks kts
  | _, _, .nil => ⟨[], .nil⟩
  | _, _, .cons a t => by
    obtain ⟨kt, h1⟩ := a.kn
    obtain ⟨kts, h2⟩ := kns t
    exact ⟨kt :: kts, .cons h1 h2⟩
theorem pair_take {α β : Type} {F : α → β → Prop} : ∀ (n : Nat) {xs : List α} {ys : List β}, Paired F xs ys → Paired F (xs.take n) (ys.take n)
  | 0, _, _, _ => .nil
  | n + 1, _, _, .nil => .nil
  | n + 1, _, _, .cons a t => .cons a (pair_take n t)
theorem pair_len {α β : Type} {F : α → β → Prop} : ∀ {xs : List α} {ys : List β}, Paired F xs ys → xs.length = ys.length
  | _, _, .nil => rfl
  | _, _, .cons _ t => congrArg Nat.succ (pair_len t)
def WWork : WD := fun as S P => ∃ r : Nat, as = [.m r] ∧ S[r]? = some .rng ∧ ∀ x t, Wk x t → P (.d x) S
section
variable {P : Program} {w : World} {K : PySem.W.Frag} {mg : Str → Option Value} {base : Heap}
abbrev s__law_any_work : Stmt := top 59
theorem sc__law_any_work : FnScope ["_law_rng_here", "_law_kinds", "_law_k"] ["_law_rng_here"] (defScope s__law_any_work) := ⟨rfl, rfl, rfl, by decide +kernel, rfl, by decide +kernel, by decide +kernel⟩
theorem ok__law_any_work (D : DefAt K mg "_law_any_work" s__law_any_work ["_law_rng_here"]) (B : Bl mg) (o__law_draw : Own P w K mg base 1 "_law_draw" ["_law_rng_here", "_law_many"] WDraw)
    (o__law_name : Own P w K mg base 2 "_law_name" ["_law_rng_here", "_law_used"] WNm) (o__law_any_kind : Own P w K mg base 4 "_law_any_kind" ["_law_rng_here"] WKind)
    (o__law_any_term : Own P w K mg base 9 "_law_any_term" ["_law_rng_here", "_law_depth", "_law_left"] (WAT 5)) : Own P w K mg base 10 "_law_any_work" ["_law_rng_here"] WWork := by
  have sc := sc__law_any_work
  refine DL.okC D sc (fun as S P h => by obtain ⟨_, rfl, _⟩ := h; rfl) (fun f cdv A outer s H E hg hr => (pdss_cons (pds_set (i := 1) sc.nd rfl (Or.inl rfl) (pd_callTy call_tuple_of vr_tuple (by rfl) (B.b _ (by decide)) (by decide +kernel) (pda_cons (pd_lc (own := [("_law_k", 2)]) rfl sc.nd (pdi_range1 (by rfl) (B.b _ (by decide)) (pda_cons (pdc o__law_draw hg hr (by rfl) (pda_cons (pdv 0) (pda_cons (pd_int) pda_nil))) pda_nil)) (blkOk_by (N := ["_law_rng_here", "_law_kinds", "_law_k"]) (sc := defScope s__law_any_work) (by decide +kernel)) (cg_name (by decide)) (fun _ _ _ _ _ => (pg_name (i := 2) sc.nd rfl (Or.inl rfl))) (fun _ _ _ _ _ => pts_yes) (fun _ _ _ _ _ => (pdc o__law_any_kind hg hr (by rfl) (pda_cons (pdv 0) pda_nil)))) pda_nil))) (pdss_one (pds_ret (pd_tup (pda_cons (pdc o__law_name hg hr (by rfl) (pda_cons (pdv 0) (pda_cons (pd_lst pda_nil) pda_nil))) (pda_cons (pdv 1) (pda_cons (pdc o__law_any_kind hg hr (by rfl) (pda_cons (pdv 0) pda_nil)) (pda_cons (pdc o__law_any_term hg hr (by rfl) (pda_cons (pdv 0) (pda_cons (pd_add (pd_int) (pdc o__law_draw hg hr (by rfl) (pda_cons (pdv 0) (pda_cons (pd_int) pda_nil)))) (pda_cons (pd_lstM (pda_cons (pd_int) pda_nil)) pda_nil)))) pda_nil))))))))) (fun args S P h => ?_)
  obtain ⟨r, rfl, hS, h⟩ := h
  have lr : r < S.length := by
    rcases Nat.lt_or_ge r S.length with z | z
    · exact z
    · rw [List.getElem?_eq_none z] at hS; cases hS
  refine ⟨r, 5, rfl, hS, ⟨by decide, by decide⟩, fun d5 z0 z1 => ⟨⟨by omega, by omega⟩, by rw [List.length_map, List.length_range, sizeLine_eq]; omega, compD_rel (fun _ y => KindV y) (fun x hx Q q => ⟨r, rfl, hS, fun l hl => q l hl⟩) (fun ys hys => ?_)⟩⟩
  obtain ⟨kts, hk⟩ := kns hys
  have hl4 : ys.length ≤ 4 := by
    have := pair_len hys
    rw [List.length_map, List.length_range] at this
    omega
  rw [List.nil_append]
  refine ⟨small2 rfl, r, _, [], rfl, hS, rfl, by decide, fun f hf => ?_⟩
  refine ⟨r, rfl, hS, fun l hl => ?_⟩
  obtain ⟨lt, hlt⟩ := hl.kn
  refine ⟨r, 5, rfl, hS, ⟨by decide, by decide⟩, fun dd y0 y1 => ?_⟩
  obtain ⟨d, rfl⟩ : ∃ d : Nat, dd = (d : Int) := ⟨dd.toNat, by omega⟩
  refine ⟨small2 rfl, ?_⟩
  refine ⟨r, S.length, d, 29, congrArg (fun i => [AV.m r, .d (.int i), .m S.length]) (by omega : (1 : Int) + (d : Int) = (d : Int) + 1), (by rw [List.getElem?_append_left lr]; exact hS), get_new, by omega, fun x t k c' hx hk2 => ?_⟩
  refine ⟨small2 rfl, ?_⟩
  refine ⟨_, S, [.lst [.d (.int (c' : Nat))]], rfl, ?_, Chg.refl, h _ _ (.mk hf hk hl4 hlt ⟨d + 1, k, by omega, by omega, hx⟩)⟩
  rw [List.set_append_right _ _ (Nat.le_refl _)]
  simp
theorem tup_ok {as : List AV} {ds : List PyData} {S : Store} {P : PQ} (e : dats as = some ds) (h : P (.d (.tuple ds)) S) : dTup as S P := by
  unfold dTup
  rw [e]
  exact h
theorem at3 {a b c d : PyData} {xs : List PyData} : atI (a :: b :: c :: d :: xs) 3 = some d := atI_nat (j := 3) rfl
theorem work_ix {env : DEnv} {S : Store} {P : PQ} {a b c d : PyData} (h1 : env[1]? = some (some (.d (.tuple [a, b, c, d])))) (h : P (.d d) S) : gBin dIx (gVar 1) (gC (.int 3)) env S P := by
  unfold gBin gVar gC
  rw [h1]
  exact ix_t (a := .d (.tuple [a, b, c, d])) (b := .d (.int 3)) rfl rfl at3 h
theorem make_test {env : DEnv} {S : Store} {P : PQ} {a b c : PyData} {bw : Str} {bs : List PyData} {A B : G} (h1 : env[1]? = some (some (.d (.tuple [a, b, c, .tuple (.str bw :: bs)])))) (hA : bw = "make" → A env S P) (hB : ¬ bw = "make" → B env S P) :
    gIfE (gTest (gBin (dEq false) (gBin dIx (gBin dIx (gVar 1) (gC (.int 3))) (gC (.int 0))) (gC (.str "make")))) A B env S P := by
  have go : gBin dIx (gVar 1) (gC (.int 3)) env S fun x S1 => dIx x (.d (.int 0)) S1 fun y S2 => dEq false y (.d (.str "make")) S2 fun z S3 => onB z fun c => cond c (A env S3 P) (B env S3 P) := by
    refine work_ix h1 ?_
    refine ix_t (a := .d (.tuple (.str bw :: bs))) (b := .d (.int 0)) rfl rfl at0 ?_
    show cond (decide (bw = "make")) _ _
    exact cond_or (fun g => hA (of_decide_eq_true g)) (fun g => hB (of_decide_eq_false g))
  exact go
theorem cut3 (ks : List PyData) : DL.cutD ks none (some 3) = ks.take 3 := by
  unfold DL.cutD
  rw [show HT.sIx ks.length 0 none = 0 from rfl, show HT.sIx ks.length ks.length (some 3) = min 3 ks.length from HT.sIx_nat _ _ 3, List.drop_zero, Nat.sub_zero]
  rcases Nat.le_total 3 ks.length with z | z
  · rw [Nat.min_eq_left z]
  · rw [Nat.min_eq_right z, List.take_of_length_le (Nat.le_refl _), List.take_of_length_le z]
theorem add_ok {env : DEnv} {S : Store} {P : PQ} {a c d : PyData} {ks : List PyData} {z2 : Str} (h1 : env[1]? = some (some (.d (.tuple [a, .tuple ks, c, d])))) (h5 : env[5]? = some (some (.d (.str z2)))) (hks : ks.length ≤ 4) (h : P (.d (.tuple (DL.cutD ks none (some 3) ++ [.tuple [.str z2, .int 1]]))) S) :
    gBin dAdd (gSl (gBin dIx (gVar 1) (gC (.int 1))) goNone (goSome (gC (.int 3)))) (fun env S P => DL.gCons (fun env S P => DL.gCons (gVar 5) (DL.gCons (gC (.int 1)) DL.gNil) env S fun as S1 => as.length ≤ sizeLine ∧ dTup as S1 P) DL.gNil env S fun as S1 => as.length ≤ sizeLine ∧ dTup as S1 P) env S P := by
  have go : gBin dIx (gVar 1) (gC (.int 1)) env S fun x S1 => dSl x none (some 3) S1 fun y S2 => (gVar 5) env S2 fun z S3 => (([z, .d (.int 1)] : List AV).length ≤ sizeLine ∧ dTup [z, .d (.int 1)] S3 fun z S4 => ([z] : List AV).length ≤ sizeLine ∧ dTup [z] S4 fun z S5 => dAdd y z S5 P) := by
    unfold gBin gVar gC
    rw [h1]
    refine ix_t (a := .d (.tuple [a, .tuple ks, c, d])) (b := .d (.int 1)) rfl rfl at1 ?_
    show (match env[5]? with | some (some a) => _ | _ => False)
    rw [h5]
    refine ⟨small2 rfl, tup_ok rfl ⟨small2 rfl, tup_ok rfl ⟨?_, h⟩⟩⟩
    rw [cut3, List.length_take, List.length_singleton, sizeLine_eq]
    omega
  exact go
theorem fin_ret {env : DEnv} {S : Store} {D : DE} {a c d body : PyData} {ks : List PyData} {z1 z2 : Str} (h1 : env[1]? = some (some (.d (.tuple [a, .tuple ks, c, d])))) (h3 : env[3]? = some (some (.d body))) (h4 : env[4]? = some (some (.d (.str z1)))) (h5 : env[5]? = some (some (.d (.str z2)))) (hks : ks.length ≤ 4)
    (h : D.rt (.d (.tuple [.str z1, .tuple (DL.cutD ks none (some 3) ++ [.tuple [.str z2, .int 1]]), .str "own", body])) S) :
    gsRet (fun env S P => DL.gCons (gVar 4) (DL.gCons (gBin dAdd (gSl (gBin dIx (gVar 1) (gC (.int 1))) goNone (goSome (gC (.int 3)))) (fun env S P => DL.gCons (fun env S P => DL.gCons (gVar 5) (DL.gCons (gC (.int 1)) DL.gNil) env S fun as S1 => as.length ≤ sizeLine ∧ dTup as S1 P) DL.gNil env S fun as S1 => as.length ≤ sizeLine ∧ dTup as S1 P))
      (DL.gCons (gC (.str "own")) (DL.gCons (gVar 3) DL.gNil))) env S fun as S1 => as.length ≤ sizeLine ∧ dTup as S1 P) env S D := by
  have go : (gVar 4) env S fun u S1 => gBin dAdd (gSl (gBin dIx (gVar 1) (gC (.int 1))) goNone (goSome (gC (.int 3)))) (fun env S P => DL.gCons (fun env S P => DL.gCons (gVar 5) (DL.gCons (gC (.int 1)) DL.gNil) env S fun as S1 => as.length ≤ sizeLine ∧ dTup as S1 P) DL.gNil env S fun as S1 => as.length ≤ sizeLine ∧ dTup as S1 P) env S1 fun v S2 =>
      (gVar 3) env S2 fun x S3 => ([u, v, .d (.str "own"), x] : List AV).length ≤ sizeLine ∧ dTup [u, v, .d (.str "own"), x] S3 D.rt := by
    unfold gVar
    rw [h4]
    refine add_ok h1 h5 hks ?_
    rw [h3]
    exact ⟨small2 rfl, tup_ok rfl h⟩
  exact go
def WWd : WD := fun as S P => ∃ (r : Nat) (x : PyData) (t : Str), as = [.m r, .d x] ∧ S[r]? = some .rng ∧ Wk x t ∧ ∀ y u, Wk y u → P (.d y) S
def tenW : List Str := [("own" : Str), ("make" : Str), ("call" : Str), ("param" : Str), ("if" : Str), ("do" : Str), ("plus" : Str), ("package" : Str), ("release" : Str), ("sole" : Str)]
theorem ten_name : ∀ z, z ∈ tenW → nameS z = true := by
  have h : tenW.all nameS = true := by decide +kernel
  exact fun z hz => List.all_eq_true.mp h z hz
theorem fst_make {n k : Nat} {x : PyData} {t : Str} (h : Tm n k x t) : ∃ w xs, x = .tuple (.str w :: xs) ∧ (w = "make" → n ≠ 0 ∧ k = 1 ∧ ∃ i, Num i ∧ xs = [.int i]) := by
  cases h with
  | make n i hi => exact ⟨_, _, rfl, fun _ => ⟨Nat.succ_ne_zero _, rfl, i, hi, rfl⟩⟩
  | param n i h0 hi => exact ⟨_, _, rfl, fun h => absurd h (by decide +kernel)⟩
  | plus i a b => exact ⟨_, _, rfl, fun h => absurd h (by decide +kernel)⟩
  | call a b c d => exact ⟨_, _, rfl, fun h => absurd h (by decide +kernel)⟩
  | two a => exact ⟨_, _, rfl, fun h => absurd h (by decide +kernel)⟩
  | three a => exact ⟨_, _, rfl, fun h => absurd h (by decide +kernel)⟩
abbrev s__law_worded : Stmt := top 64
theorem sc__law_worded : FnScope ["_law_rng_here", "_law_work", "_law_words", "_law_body", "_law_one", "_law_other"] ["_law_rng_here", "_law_work"] (defScope s__law_worded) := ⟨rfl, rfl, rfl, by decide +kernel, rfl, by decide +kernel, by decide +kernel⟩
theorem ok__law_worded (D : DefAt K mg "_law_worded" s__law_worded ["_law_rng_here", "_law_work"]) (B : Bl mg) (o__law_choice : Own P w K mg base 2 "_law_choice" ["_law_rng_here", "_law_some"] WChoice) : Own P w K mg base 3 "_law_worded" ["_law_rng_here", "_law_work"] WWd := by
  have sc := sc__law_worded
  refine okO D sc (fun as S P h => by obtain ⟨_, _, _, rfl, _⟩ := h; rfl) (fun f cdv A outer s H E hg hr => (pdss_cons (pds_set (i := 2) sc.nd rfl (Or.inl rfl) (pd_lst (pda_cons (pd_str) (pda_cons (pd_str) (pda_cons (pd_str) (pda_cons (pd_str) (pda_cons (pd_str) (pda_cons (pd_str) (pda_cons (pd_str) (pda_cons (pd_str) (pda_cons (pd_str) (pda_cons (pd_str) pda_nil)))))))))))) (pdss_cons (pds_par (i := 4) (j := 5) rfl sc.nd rfl rfl (by decide) rfl rfl (pda_cons (pdc o__law_choice hg hr (by rfl) (pda_cons (pdv 0) (pda_cons (pdv 2) pda_nil))) (pda_cons (pdc o__law_choice hg hr (by rfl) (pda_cons (pdv 0) (pda_cons (pdv 2) pda_nil))) pda_nil)) rfl) (pdss_cons (pds_set (i := 3) sc.nd rfl (Or.inl rfl) (pd_tup (pda_cons (pd_str) (pda_cons (pd_tup (pda_cons (pdv 5) (pda_cons (pd_int) pda_nil))) (pda_cons (pdv 4) (pda_cons (pd_tup (pda_cons (pd_tup (pda_cons (pd_str) (pda_cons (pd_non) (pda_cons (pdv 5) (pda_cons (pd_tup pda_nil) pda_nil))))) (pda_cons (pd_ife (pdt_eq hr (pd_at (pd_at (pdv 1) (pd_int)) (pd_int)) (pd_str)) (pd_at (pdv 1) (pd_int)) (pd_tup (pda_cons (pd_str) (pda_cons (pd_int) pda_nil)))) pda_nil))) pda_nil)))))) (pdss_one (pds_ret (pd_tup (pda_cons (pdv 4) (pda_cons (pd_add (pd_slice (pd_at (pdv 1) (pd_int)) pdo_none (pdo_some (pd_int))) (pd_tup (pda_cons (pd_tup (pda_cons (pdv 5) (pda_cons (pd_int) pda_nil))) pda_nil))) (pda_cons (pd_str) (pda_cons (pdv 3) pda_nil))))))))))) (fun args S P h => ?_)
  obtain ⟨r, x, t, rfl, hS, hw, h⟩ := h
  obtain ⟨hf, hks, hl4, hr', hx⟩ := hw
  rename_i f0 ks kts rk rt b bt
  obtain ⟨n, k, hn, hk, ht⟩ := hx
  obtain ⟨bw, bs, rfl, hb⟩ := fst_make ht
  refine ⟨small2 rfl, ?_⟩
  refine ⟨r, _, tenW.map .str, rfl, hS, rfl, by decide, fun one h1 => ⟨r, _, tenW.map .str, rfl, hS, rfl, by decide, fun other h2 => ?_⟩⟩
  obtain ⟨z1, m1, rfl⟩ := List.mem_map.mp h1
  obtain ⟨z2, m2, rfl⟩ := List.mem_map.mp h2
  have n1 := ten_name _ m1
  have n2 := ten_name _ m2
  have fin : ∀ X Xt, Tm 1 1 X Xt → ∀ S2 : Store, S2 = S → P (.d (.tuple [.str z1, .tuple (DL.cutD ks none (some 3) ++ [.tuple [.str z2, .int 1]]), .str "own", .tuple [.str "call", .tuple [.str z2, .int 0], .str z1, .tuple [.tuple [.str "call", .none, .str z2, .tuple []], X]]])) S2 := fun X Xt hX S2 e2 => by
    subst e2
    have c0 : Tm 1 1 (.tuple [.str "call", .none, .str z2, .tuple []]) _ := .call .no n2 (.nil 0) (by decide)
    have c1 : Tms 1 2 [.tuple [.str "call", .none, .str z2, .tuple []], X] _ := .cons c0 (.cons hX (.nil 1))
    have c2 : Tm 2 3 _ _ := .call (.yes z2 0 n2 (by decide) (by unfold Num; decide)) n1 c1 (by show 2 ≤ 4; decide)
    rw [cut3]
    have kk : Paired Kn (ks.take 3 ++ [.tuple [.str z2, .int 1]]) _ := (pair_take 3 hks).snoc (.lab z2 1 n2 (by decide) (by unfold Num; decide))
    exact h _ _ (.mk n1 kk (by rw [List.length_append, List.length_take, List.length_singleton]; omega) .own ⟨2, 3, by decide, by decide, c2⟩)
  refine ⟨small2 rfl, small2 rfl, small2 rfl, ?_⟩
  refine tup_ok rfl ?_
  dsimp only [DL.gCons]
  refine make_test rfl (fun g => ?_) (fun g => ?_)
  · obtain ⟨_, rfl, i, hi, rfl⟩ := hb g
    subst g
    refine work_ix rfl ?_
    refine ⟨small2 rfl, small2 rfl, ?_⟩
    refine tup_ok rfl ?_
    dsimp only [ggName]
    exact fin_ret (ks := ks) (a := .str f0) (c := rk) (z1 := z1) (z2 := z2) rfl rfl rfl rfl hl4 (fin _ _ (.make 0 i hi) S rfl)
  · refine ⟨small2 rfl, small2 rfl, small2 rfl, ?_⟩
    refine tup_ok rfl ?_
    dsimp only [ggName]
    exact fin_ret (ks := ks) (a := .str f0) (c := rk) (z1 := z1) (z2 := z2) rfl rfl rfl rfl hl4 (fin _ _ (.param 0 0 (by decide) (by unfold Num; decide)) S rfl)
end
end K61
/-! law k91: the texts that the law writes -/
namespace K61
open PySem PySem.Spec PyProof.Rows L2 DL
theorem Num.big {i : Int} (h : Num i) : i.natAbs < 10 ^ 570 := Nat.lt_trans h (Nat.pow_lt_pow_right (by decide) (by decide))
theorem Num.len {i : Int} (h : Num i) : (numT i).length ≤ 28 := by
  have := (fit_intK (k := 26) (by decide) (by decide) h).ln
  rw [PyData.shown_int] at this
  exact this
theorem name_len {z : Str} (h : nameS z = true) : z.length ≤ 8 := by
  unfold nameS at h
  rw [Bool.and_eq_true, Bool.and_eq_true] at h
  exact of_decide_eq_true h.1.2
theorem lab_len {z : Str} {i : Int} (h : nameS z = true) (hi : Num i) : (z ++ "/" ++ numT i : Str).length ≤ 37 := by
  rw [app_len, app_len]
  have := name_len h
  have := hi.len
  have : ("/" : Str).length = 1 := rfl
  omega
theorem Lb.len {l : PyData} {t : Str} (h : Lb l t) : t.length ≤ 37 := by
  cases h with
  | no => decide
  | yes z i h1 h2 h3 => exact lab_len h1 h3
theorem Kn.len {l : PyData} {t : Str} (h : Kn l t) : t.length ≤ 37 := by
  cases h with
  | own => decide
  | lab z i h1 h2 h3 => exact lab_len h1 h3
def lens (ts : List Str) : Nat := (ts.map (·.length)).sum
theorem lens_cons (t : Str) (ts : List Str) : lens (t :: ts) = t.length + lens ts := by
  unfold lens
  rw [List.map_cons, List.sum_cons]
theorem lens_app : ∀ (ts us : List Str), lens (ts ++ us) = lens ts + lens us
  | [], us => by show lens us = 0 + lens us; omega
  | t :: ts, us => by rw [List.cons_append, lens_cons, lens_cons, lens_app ts us]; omega
theorem join_le (ts : List Str) : (Txt.join " " ts).length ≤ lens ts + ts.length := by
  show (PySem.Builtin.Str.glued " " ts).length ≤ _
  rw [StrLaws.glued_eq_join]
  have := PySem.StrLaws.join_length_le " " ts
  have e : (" " : Str).length = 1 := rfl
  rw [e] at this
  unfold lens
  omega
theorem wr_len (w : Str) (ts : List Str) : (wr w ts).length ≤ w.length + lens ts + ts.length + 3 := by
  unfold wr
  rw [app_len, app_len]
  have := join_le (w :: ts)
  rw [lens_cons, List.length_cons] at this
  have e1 : (Str.ofString "(").length = 1 := rfl
  have e2 : (Str.ofString ")").length = 1 := rfl
  omega
mutual
theorem Tm.len : ∀ {n k : Nat} {x : PyData} {t : Str}, Tm n k x t → t.length ≤ 100 * k
  | _, _, _, _, .make n i hi => by
    have h1 := wr_len "make" [numT i]
    have h2 := hi.len
    have e : lens [numT i] = (numT i).length + 0 := lens_cons _ _
    have e3 : (Str.ofString "make").length = 4 := rfl
    have e4 : [numT i].length = 1 := rfl
    omega
  | _, _, _, _, .param n i h0 hi => by
    have h1 := wr_len "param" [numT i]
    have h2 := hi.len
    have e : lens [numT i] = (numT i).length + 0 := lens_cons _ _
    have e3 : (Str.ofString "param").length = 5 := rfl
    have e4 : [numT i].length = 1 := rfl
    omega
  | _, _, _, _, .plus (t := t) i a hi => by
    have h1 := wr_len "plus" [t, numT i]
    have h2 := hi.len
    have h3 := a.len
    have e : lens [t, numT i] = t.length + lens [numT i] := lens_cons _ _
    have e5 : lens [numT i] = (numT i).length + 0 := lens_cons _ _
    have e3 : (Str.ofString "plus").length = 4 := rfl
    have e4 : [t, numT i].length = 2 := rfl
    omega
  | _, _, _, _, .call (lt := lt) (f := f) (ts := ts) hl hf hs h4 => by
    have h1 := wr_len "call" (lt :: f :: ts)
    have h2 := hl.len
    have h3 := name_len hf
    have h5 := hs.lens
    have h6 := hs.len
    have e : lens (lt :: f :: ts) = lt.length + lens (f :: ts) := lens_cons _ _
    have e2 : lens (f :: ts) = f.length + lens ts := lens_cons _ _
    have e3 : (Str.ofString "call").length = 4 := rfl
    have e4 : (lt :: f :: ts).length = ts.length + 2 := rfl
    omega
  | _, _, _, _, .two (t := t) (u := u) hs => by
    have h1 := wr_len "do" [t, u]
    have h5 := hs.lens
    have e3 : (Str.ofString "do").length = 2 := rfl
    have e4 : [t, u].length = 2 := rfl
    omega
  | _, _, _, _, .three (t := t) (u := u) (v := v) hs => by
    have h1 := wr_len "if" [t, u, v]
    have h5 := hs.lens
    have e3 : (Str.ofString "if").length = 2 := rfl
    have e4 : [t, u, v].length = 3 := rfl
    omega
theorem Tms.lens : ∀ {n k : Nat} {xs : List PyData} {ts : List Str}, Tms n k xs ts → lens ts ≤ 100 * k
  | _, _, _, _, .nil _ => Nat.le_refl _
  | _, _, _, _, .cons (t := t) (ts := ts) a b => by
    have h1 := a.len
    have h2 := b.lens
    have e := lens_cons t ts
    omega
end
/-- what the law writes the text of: a number, a word, an expression -/
def Pt (n : Nat) (x : PyData) (t : Str) : Prop := 1 ≤ n ∧ ((∃ i, x = .int i ∧ Num i ∧ t = numT i) ∨ (x = .str t ∧ t.length ≤ 40) ∨ ∃ m k, m + 1 ≤ n ∧ k ≤ 30 ∧ Tm m k x t)
theorem Pt.len {n : Nat} {x : PyData} {t : Str} (h : Pt n x t) : t.length ≤ 3000 := by
  obtain ⟨_, ⟨i, _, hi, rfl⟩ | ⟨_, h⟩ | ⟨m, k, _, hk, h⟩⟩ := h
  · have := hi.len; omega
  · omega
  · have := h.len; omega
theorem tms_pt : ∀ {n m k : Nat} {xs : List PyData} {ts : List Str}, m + 1 ≤ n → k ≤ 30 → Tms m k xs ts → Paired (Pt n) xs ts
  | _, _, _, _, _, _, _, .nil _ => .nil
  | _, _, _, _, _, hm, hk, .cons a b => .cons ⟨by omega, .inr (.inr ⟨_, _, hm, by omega, a⟩)⟩ (tms_pt hm (by omega) b)
/-- what stands in an expression, as the law writes it -/
theorem tm_parts {n m k : Nat} {x : PyData} {t : Str} (hm : m ≤ n) (hk : k ≤ 30) (h : Tm m k x t) : ∃ w xs ts, x = .tuple (.str w :: xs) ∧ t = wr w ts ∧ w.length ≤ 8 ∧
    ((¬ w = "call" ∧ Paired (Pt n) xs ts ∧ xs.length ≤ 3) ∨ (w = "call" ∧ ∃ l lt f as us, xs = [l, .str f, .tuple as] ∧ Lb l lt ∧ nameS f = true ∧ ts = lt :: f :: us ∧ Paired (Pt n) as us ∧ as.length ≤ 4 ∧ 1 ≤ n)) := by
  cases h with
  | make m i hi => exact ⟨_, _, _, rfl, rfl, by decide, .inl ⟨by decide +kernel, .cons ⟨by omega, .inl ⟨i, rfl, hi, rfl⟩⟩ .nil, (by show 1 ≤ 3; decide)⟩⟩
  | param m i h0 hi => exact ⟨_, _, _, rfl, rfl, by decide, .inl ⟨by decide +kernel, .cons ⟨by omega, .inl ⟨i, rfl, hi, rfl⟩⟩ .nil, (by show 1 ≤ 3; decide)⟩⟩
  | plus i a hi => exact ⟨_, _, _, rfl, rfl, by decide, .inl ⟨by decide +kernel, .cons ⟨by omega, .inr (.inr ⟨_, _, hm, by omega, a⟩)⟩ (.cons ⟨by omega, .inl ⟨i, rfl, hi, rfl⟩⟩ .nil), (by show 2 ≤ 3; decide)⟩⟩
  | call a b c d => exact ⟨_, _, _, rfl, rfl, by decide, .inr ⟨rfl, _, _, _, _, _, rfl, a, b, rfl, tms_pt hm (by omega) c, d, by omega⟩⟩
  | two a => exact ⟨_, _, _, rfl, rfl, by decide, .inl ⟨by decide +kernel, tms_pt hm (by omega) a, (by show 2 ≤ 3; decide)⟩⟩
  | three a => exact ⟨_, _, _, rfl, rfl, by decide, .inl ⟨by decide +kernel, tms_pt hm (by omega) a, (by show 3 ≤ 3; decide)⟩⟩
def WLt : WD := fun as S P => ∃ (z : Str) (i : Int), as = [.d (.tuple [.str z, .int i])] ∧ nameS z = true ∧ Num i ∧ P (.d (.str (z ++ "/" ++ numT i))) S
def WTT (n : Nat) : WD := fun as S P => ∃ x t, as = [.d x] ∧ Pt n x t ∧ P (.d (.str t)) S
def WKt : WD := fun as S P => ∃ x t, as = [.d x] ∧ Kn x t ∧ P (.d (.str t)) S
theorem lst_ok {as : List AV} {ds : List PyData} {S : Store} {P : PQ} (e : dats as = some ds) (h : P (.d (.list ds)) S) : dLst as S P := by
  unfold dLst
  rw [e]
  exact h
theorem ix_var {i : Nat} {j : Int} {env : DEnv} {S : Store} {P : PQ} {a : AV} (hi : env[i]? = some (some a)) (h : dIx a (.d (.int j)) S P) : gBin dIx (gVar i) (gC (.int j)) env S P := by
  unfold gBin gVar gC
  rw [hi]
  exact h
theorem seq_var {i : Nat} {env : DEnv} {S : Store} {P : List PyData → Store → Prop} {ps : List PyData} (hi : env[i]? = some (some (.d (.list ps)))) (h : P ps S) : giSeq (gVar i) env S P := by
  unfold giSeq gVar
  rw [hi]
  exact h
theorem compD_txt {R : PyData → Str → Prop} {gg : GG} {ge : G} {env : DEnv} {S : Store} {P : PQ} : ∀ {ps : List PyData} {ts : List Str} {acc : List PyData}, Paired R ps ts →
    (∀ x t, R x t → ∀ Q : PQ, Q (.d (.str t)) S → gg (.d x) env S fun env' S' => ge env' S' Q) → P (.d (.list (acc ++ ts.map .str))) S → compD gg gtYes ge ps acc env S P
  | _, _, acc, .nil, _, k => by
    rw [List.map_nil, List.append_nil] at k
    exact k
  | _, _, acc, .cons (a := x) (b := t) (l₁ := xs) (l₂ := ts) r rs, h, k => by
    refine h x t r _ ?_
    show compD gg gtYes ge xs (acc ++ [.str t]) env S P
    refine compD_txt rs h ?_
    rw [List.append_assoc]
    exact k
theorem join_strs {us : List Str} {S : Store} {P : PQ} (hl : lens us + us.length ≤ 16777216) (h : P (.d (.str (Txt.join " " us))) S) : dJoin (.d (.str " ")) [.d (.list (us.map .str))] S P := by
  show (match txts (us.map .str) with
      | some ys => (ys.map (·.length)).sum + ys.length * (" " : Str).length ≤ 16777216 ∧ P (.d (.str (Txt.join " " ys))) S
      | none => False)
  rw [DL.strs_map]
  have e : (" " : Str).length = 1 := rfl
  rw [e]
  exact ⟨by unfold lens at hl; omega, h⟩
theorem cut1 (a : PyData) (xs : List PyData) : DL.cutD (a :: xs) (some 1) none = xs := by
  unfold DL.cutD
  rw [show HT.sIx (a :: xs).length 0 (some 1) = min 1 (a :: xs).length from HT.sIx_nat _ _ 1, show HT.sIx (a :: xs).length (a :: xs).length none = (a :: xs).length from rfl]
  have e : min 1 (a :: xs).length = 1 := Nat.min_eq_left (by rw [List.length_cons]; omega)
  rw [e, List.length_cons, List.drop_succ_cons, List.drop_zero, Nat.add_sub_cancel, List.take_length]
theorem pts_len {n : Nat} : ∀ {ps : List PyData} {ts : List Str}, Paired (Pt n) ps ts → lens ts ≤ 3000 * ts.length
  | _, _, .nil => Nat.le_refl _
  | _, _, .cons (b := t) (l₂ := ts) a r => by
    rw [lens_cons, List.length_cons]
    have := a.len
    have := pts_len r
    omega
theorem tup_step {b : GS} {A : GS} {env : DEnv} {S : Store} {D : DE} {ds : List PyData} (h0 : env[0]? = some (some (.d (.tuple ds)))) (h : b env S D) : gsSeq (gsIf (gNot (gTest (gApp dIsi (DL.gCons (gVar 0) (DL.gCons (gV (V.ty "tuple")) DL.gNil))))) A gsNext) b env S D := by
  have go : gVar 0 env S fun a S1 => dIsi [a, .v (V.ty "tuple")] S1 fun x S2 => onB x fun c => cond (!c) (A env S2 { D with nx := fun env' S' => b env' S' D }) (b env S2 D) := by
    unfold gVar
    rw [h0]
    exact ⟨by decide, h⟩
  exact go
theorem list_step {b : GS} {env : DEnv} {S : Store} {D : DE} {a : PyData} {xs : List PyData} (h0 : env[0]? = some (some (.d (.tuple (a :: xs))))) (h : b (env.set 1 (some (.d (.list xs)))) S D) :
    gsSeq (gsAsg (gApp dList (DL.gCons (gSl (gVar 0) (goSome (gC (.int 1))) goNone) DL.gNil)) (ggName 1)) b env S D := by
  have go : gVar 0 env S fun a S1 => dSl a (some 1) none S1 fun x S2 => dList [x] S2 fun y S3 => b (env.set 1 (some y)) S3 D := by
    unfold gVar
    rw [h0]
    dsimp only
    have st : ∀ Q : PQ, Q (.d (.list (DL.cutD (a :: xs) (some 1) none))) S → dSl (.d (.tuple (a :: xs))) (some 1) none S fun x S2 => dList [x] S2 Q := fun Q q => q
    refine st _ ?_
    rw [cut1]
    exact h
  exact go
theorem lab_step {env : DEnv} {S : Store} {P : PQ} {w l f as : PyData} {lt : Str} (h0 : env[0]? = some (some (.d (.tuple [w, l, f, as])))) (hl : Lb l lt) (h : P (.d (.str lt)) S) :
    gIfE (gTest (gBin (dIsN false) (gBin dIx (gVar 0) (gC (.int 1))) (gC .none))) (gC (.str "-")) (gApp WLt (DL.gCons (gBin dIx (gVar 0) (gC (.int 1))) DL.gNil)) env S P := by
  have go : gBin dIx (gVar 0) (gC (.int 1)) env S fun x S1 => dIsN false x (.d .none) S1 fun y S2 => onB y fun c => cond c (P (.d (.str "-")) S2) (gBin dIx (gVar 0) (gC (.int 1)) env S2 fun x S3 => WLt [x] S3 P) := by
    refine ix_var h0 (ix_t rfl rfl at1 ?_)
    cases hl with
    | no => exact h
    | yes z i h1 h2 h3 =>
      show gBin dIx (gVar 0) (gC (.int 1)) env S fun x S3 => WLt [x] S3 P
      exact ix_var h0 (ix_t rfl rfl at1 ⟨z, i, rfl, h1, h3, h⟩)
  exact go
theorem call_step {b : GS} {env : DEnv} {S : Store} {D : DE} {w : Str} {xs : List PyData} (h0 : env[0]? = some (some (.d (.tuple (.str w :: xs))))) (hn : ¬ w = "call" → b env S D)
    (hc : w = "call" → ∃ l lt f as, xs = [l, .str f, .tuple as] ∧ Lb l lt ∧ as.length ≤ 4 ∧ b (env.set 1 (some (.d (.list (.str lt :: .str f :: as))))) S D) :
    gsSeq (gsIf (gTest (gBin (dEq false) (gBin dIx (gVar 0) (gC (.int 0))) (gC (.str "call")))) (gsAsg (gBin dAdd (fun env S P => DL.gCons (gIfE (gTest (gBin (dIsN false) (gBin dIx (gVar 0) (gC (.int 1))) (gC .none))) (gC (.str "-")) (gApp WLt (DL.gCons (gBin dIx (gVar 0) (gC (.int 1))) DL.gNil)))
      (DL.gCons (gBin dIx (gVar 0) (gC (.int 2))) DL.gNil) env S fun as S1 => as.length ≤ sizeLine ∧ dLst as S1 P) (gApp dList (DL.gCons (gBin dIx (gVar 0) (gC (.int 3))) DL.gNil))) (ggName 1)) gsNext) b env S D := by
  have go : gBin dIx (gVar 0) (gC (.int 0)) env S fun x S1 => dEq false x (.d (.str "call")) S1 fun y S2 => onB y fun c => cond c
      (gIfE (gTest (gBin (dIsN false) (gBin dIx (gVar 0) (gC (.int 1))) (gC .none))) (gC (.str "-")) (gApp WLt (DL.gCons (gBin dIx (gVar 0) (gC (.int 1))) DL.gNil)) env S2 fun u S3 => gBin dIx (gVar 0) (gC (.int 2)) env S3 fun v S4 => ([u, v] : List AV).length ≤ sizeLine ∧ dLst [u, v] S4 fun p S5 =>
        gBin dIx (gVar 0) (gC (.int 3)) env S5 fun q S6 => dList [q] S6 fun q' S7 => dAdd p q' S7 fun z S8 => b (env.set 1 (some z)) S8 D) (b env S2 D) := by
    refine ix_var h0 (ix_t rfl rfl at0 ?_)
    show cond (decide (w = "call")) _ _
    refine cond_or (fun g => ?_) (fun g => hn (of_decide_eq_false g))
    obtain ⟨l, lt, f, as, rfl, hl, h4, hb⟩ := hc (of_decide_eq_true g)
    refine lab_step h0 hl ?_
    refine ix_var h0 (ix_t rfl rfl at2 ⟨small2 rfl, lst_ok rfl ?_⟩)
    refine ix_var h0 (ix_t rfl rfl at3 ?_)
    refine ⟨?_, hb⟩
    rw [sizeLine_eq]
    show 2 + as.length ≤ _
    omega
  exact go
theorem text_ret {n : Nat} {env : DEnv} {S : Store} {D : DE} {w : Str} {xs ps : List PyData} {ts : List Str} (h0 : env[0]? = some (some (.d (.tuple (.str w :: xs))))) (h1 : env[1]? = some (some (.d (.list ps)))) (h2 : 2 < env.length) (hp : Paired (Pt n) ps ts) (hl : ps.length ≤ 6) (hw : w.length ≤ 8)
    (h : D.rt (.d (.str (wr w ts))) S) :
    gsRet (gBin dAdd (gBin dAdd (gC (.str "(")) (gM "str" dJoin (gC (.str " ")) (DL.gCons (gBin dAdd (fun env S P => DL.gCons (gBin dIx (gVar 0) (gC (.int 0))) DL.gNil env S fun as S1 => as.length ≤ sizeLine ∧ dLst as S1 P)
      (gComp [2] (giSeq (gVar 1)) (ggName 2) gtYes (gApp (WTT n) (DL.gCons (gVar 2) DL.gNil)))) DL.gNil))) (gC (.str ")"))) env S D := by
  have tl : ts.length ≤ 6 := by rw [← pair_len hp]; exact hl
  have ln := pts_len hp
  have jl := join_le (w :: ts)
  have lc := lens_cons w ts
  have lw : (w :: ts).length = ts.length + 1 := rfl
  have e1 : ("(" : Str).length = 1 := rfl
  have e2 : (")" : Str).length = 1 := rfl
  have go : gBin dIx (gVar 0) (gC (.int 0)) env S fun a S1 => ([a] : List AV).length ≤ sizeLine ∧ dLst [a] S1 fun u S2 => gComp [2] (giSeq (gVar 1)) (ggName 2) gtYes (gApp (WTT n) (DL.gCons (gVar 2) DL.gNil)) env S2 fun v S3 => dAdd u v S3 fun z S4 =>
      dJoin (.d (.str " ")) [z] S4 fun y S5 => dAdd (.d (.str "(")) y S5 fun x S6 => dAdd x (.d (.str ")")) S6 D.rt := by
    refine ix_var h0 (ix_t rfl rfl at0 ⟨small2 rfl, lst_ok rfl ?_⟩)
    refine seq_var h1 ⟨by rw [sizeLine_eq]; omega, ?_⟩
    refine compD_txt hp (fun x t hx Q q => ?_) ?_
    · show gApp (WTT n) _ ((wipeE env [2]).set 2 (some (.d x))) S Q
      unfold gApp DL.gCons gVar
      have e : ((wipeE env [2]).set 2 (some (.d x)))[2]? = some (some (.d x)) := by
        refine List.getElem?_set_self ?_
        show 2 < (env.set 2 none).length
        rw [List.length_set]
        exact h2
      rw [e]
      exact ⟨x, t, rfl, hx, q⟩
    · refine ⟨?_, ?_⟩
      · rw [List.nil_append, List.length_map, sizeLine_eq, List.length_singleton]; omega
      · rw [List.nil_append]
        refine join_strs (us := w :: ts) (by omega) ?_
        refine ⟨by rw [sizeLine_eq]; omega, ?_⟩
        refine ⟨?_, h⟩
        rw [app_len, sizeLine_eq]; omega
  exact ⟨rfl, go⟩
section
variable {P : Program} {w : World} {K : PySem.W.Frag} {mg : Str → Option Value} {base : Heap}
abbrev s__law_label_text : Stmt := top 60
theorem sc__law_label_text : FnScope ["_law_label"] ["_law_label"] (defScope s__law_label_text) := ⟨rfl, rfl, rfl, by decide +kernel, rfl, by decide +kernel, by decide +kernel⟩
theorem ok__law_label_text (D : DefAt K mg "_law_label_text" s__law_label_text ["_law_label"]) (B : Bl mg) : Own P w K mg base 1 "_law_label_text" ["_law_label"] WLt := by
  have sc := sc__law_label_text
  refine okO D sc (fun as S P h => by obtain ⟨_, _, rfl, _⟩ := h; rfl) (fun f cdv A outer s H E hg hr => (pdss_one (pds_ret (pd_add (pd_add (pd_at (pdv 0) (pd_int)) (pd_str)) (pd_callTy call_str_int vr_strOf (by rfl) (B.b _ (by decide)) (by decide +kernel) (pda_cons (pd_at (pdv 0) (pd_int)) pda_nil)))))) (fun args S P h => ?_)
  obtain ⟨z, i, rfl, hz, hi, h⟩ := h
  have h1 := name_len hz
  have h2 := hi.len
  have e : ("/" : Str).length = 1 := rfl
  have e2 : (z ++ "/" : Str).length = z.length + 1 := app_len ..
  exact ⟨by rw [sizeLine_eq, e]; omega, hi.big, by rw [sizeLine_eq, e2]; omega, h⟩
abbrev s__law_kind_text : Stmt := top 62
theorem sc__law_kind_text : FnScope ["_law_kind"] ["_law_kind"] (defScope s__law_kind_text) := ⟨rfl, rfl, rfl, by decide +kernel, rfl, by decide +kernel, by decide +kernel⟩
theorem ok__law_kind_text (D : DefAt K mg "_law_kind_text" s__law_kind_text ["_law_kind"]) (o__law_label_text : Own P w K mg base 1 "_law_label_text" ["_law_label"] WLt) : Own P w K mg base 2 "_law_kind_text" ["_law_kind"] WKt := by
  have sc := sc__law_kind_text
  refine okO D sc (fun as S P h => by obtain ⟨_, _, rfl, _⟩ := h; rfl) (fun f cdv A outer s H E hg hr => (pdss_one (pds_ret (pd_ife (pdt_eqT hr (pdv 0) (pd_str)) (pdv 0) (pdc o__law_label_text hg hr (by rfl) (pda_cons (pdv 0) pda_nil)))))) (fun args S P h => ?_)
  obtain ⟨x, t, rfl, hk, h⟩ := h
  cases hk with
  | own => exact h
  | lab z i h1 h2 h3 => exact ⟨z, i, rfl, h1, h3, h⟩
abbrev s__law_term_text : Stmt := top 61
theorem sc__law_term_text : FnScope ["_law_term", "_law_parts", "_law_part"] ["_law_term"] (defScope s__law_term_text) := ⟨rfl, rfl, rfl, by decide +kernel, rfl, by decide +kernel, by decide +kernel⟩
theorem ok__law_term_text0 (D : DefAt K mg "_law_term_text" s__law_term_text ["_law_term"]) : Own P w K mg base (0 + 2) "_law_term_text" ["_law_term"] (WTT 0) :=
  ((Own.never (k := 1) D sc__law_term_text).imp fun as S P h => by obtain ⟨_, _, _, ⟨h, _⟩, _⟩ := h; cases h)
theorem ok__law_term_text {n : Nat} (D : DefAt K mg "_law_term_text" s__law_term_text ["_law_term"]) (B : Bl mg) (o__law_label_text : Own P w K mg base 1 "_law_label_text" ["_law_label"] WLt)
    (o__law_term_text : Own P w K mg base (n + 2) "_law_term_text" ["_law_term"] (WTT n)) : Own P w K mg base (n + 2 + 1) "_law_term_text" ["_law_term"] (WTT (n + 1)) := by
  have sc := sc__law_term_text
  refine okO D sc (fun as S P h => by obtain ⟨_, _, rfl, _⟩ := h; rfl) (fun f cdv A outer s H E hg hr => (pdss_cons (pds_if (pdt_not (pdt_val (pd_callB call_isi vr_isi (by rfl) (B.b _ (by decide)) boot_isinstance (pda_cons (pdv 0) (pda_cons (pd_ty "tuple" (by rfl) (B.b _ (by decide)) (by decide +kernel)) pda_nil))))) (pdss_one (pds_ret (pd_callTy call_strA vr_strA (by rfl) (B.b _ (by decide)) (by decide +kernel) (pda_cons (pdv 0) pda_nil)))) pdss_nil) (pdss_cons (pds_set (i := 1) sc.nd rfl (Or.inl rfl) (pd_callTy call_list_of vr_list (by rfl) (B.b _ (by decide)) (by decide +kernel) (pda_cons (pd_slice (pdv 0) (pdo_some (pd_int)) pdo_none) pda_nil))) (pdss_cons (pds_if (pdt_eq hr (pd_at (pdv 0) (pd_int)) (pd_str)) (pdss_one (pds_set (i := 1) sc.nd rfl (Or.inl rfl) (pd_add (pd_lst (pda_cons (pd_ife (pdt_is (pd_at (pdv 0) (pd_int)) (pd_non)) (pd_str) (pdc o__law_label_text hg hr (by rfl) (pda_cons (pd_at (pdv 0) (pd_int)) pda_nil))) (pda_cons (pd_at (pdv 0) (pd_int)) pda_nil))) (pd_callTy call_list_of vr_list (by rfl) (B.b _ (by decide)) (by decide +kernel) (pda_cons (pd_at (pdv 0) (pd_int)) pda_nil))))) pdss_nil) (pdss_one (pds_ret (pd_add (pd_add (pd_str) (pd_bm PySem.F.plainAttrs_str PySem.F.slot_str_join PySem.F.type_str_join mt_join vr_join (pd_str) (pda_cons (pd_add (pd_lst (pda_cons (pd_at (pdv 0) (pd_int)) pda_nil)) (pd_lc (own := [("_law_part", 2)]) rfl sc.nd (pdi_list (pdv 1)) (blkOk_by (N := ["_law_term", "_law_parts", "_law_part"]) (sc := defScope s__law_term_text) (by decide +kernel)) (cg_name (by decide)) (fun _ _ _ _ _ => (pg_name (i := 2) sc.nd rfl (Or.inl rfl))) (fun _ _ _ _ _ => pts_yes) (fun _ _ _ _ _ => (pdc o__law_term_text hg hr (by rfl) (pda_cons (pdv 2) pda_nil))))) pda_nil))) (pd_str)))))))) (fun args S P h => ?_)
  obtain ⟨x, t, rfl, ⟨_, hp⟩, h⟩ := h
  rcases hp with ⟨i, rfl, hi, rfl⟩ | ⟨rfl, ht⟩ | ⟨m, k, hm, hk, hx⟩
  · exact ⟨by decide, hi.big, h⟩
  · exact ⟨by decide, h⟩
  · obtain ⟨w, xs, ts, rfl, rfl, hw, hp⟩ := tm_parts (n := n) (by omega) hk hx
    refine tup_step rfl ?_
    refine list_step rfl ?_
    refine call_step rfl (fun g => ?_) (fun g => ?_)
    · rcases hp with ⟨_, hp, hl⟩ | ⟨g2, _⟩
      · exact text_ret rfl rfl (by show 2 < 3; decide) hp (by omega) hw h
      · exact absurd g2 g
    · rcases hp with ⟨g2, _⟩ | ⟨_, l, lt, f, as, us, rfl, hl, hf, rfl, hp, h4, hn⟩
      · exact absurd g g2
      · refine ⟨l, lt, f, as, rfl, hl, h4, ?_⟩
        have hll := hl.len
        have hfl := name_len hf
        exact text_ret rfl rfl (by show 2 < 3; decide) (.cons ⟨hn, .inr (.inl ⟨rfl, by omega⟩)⟩ (.cons ⟨hn, .inr (.inl ⟨rfl, by omega⟩)⟩ hp)) (by rw [List.length_cons, List.length_cons]; omega) hw h
end
end K61
/-! law k91: the text of a function -/
namespace K61
open PySem PySem.Spec PyProof.Rows L2 DL
theorem Ex5.pt {x : PyData} {t : Str} (h : Ex5 x t) : Pt 6 x t := by
  obtain ⟨n, k, hn, hk, h⟩ := h
  exact ⟨by decide, .inr (.inr ⟨n, k, by omega, hk, h⟩)⟩
theorem kns_len : ∀ {ks : List PyData} {ts : List Str}, Paired Kn ks ts → lens ts ≤ 37 * ts.length
  | _, _, .nil => Nat.le_refl _
  | _, _, .cons (b := t) (l₂ := ts) a r => by
    rw [lens_cons, List.length_cons]
    have := a.len
    have := kns_len r
    omega
def WWt : WD := fun as S P => ∃ x t, as = [.d x] ∧ Wk x t ∧ P (.d (.str t)) S
section
variable {P : Program} {w : World} {K : PySem.W.Frag} {mg : Str → Option Value} {base : Heap}
abbrev s__law_work_text : Stmt := top 63
theorem sc__law_work_text : FnScope ["_law_work", "_law_words", "_law_kind"] ["_law_work"] (defScope s__law_work_text) := ⟨rfl, rfl, rfl, by decide +kernel, rfl, by decide +kernel, by decide +kernel⟩
theorem ok__law_work_text (D : DefAt K mg "_law_work_text" s__law_work_text ["_law_work"]) (o__law_kind_text : Own P w K mg base 2 "_law_kind_text" ["_law_kind"] WKt)
    (o__law_term_text : Own P w K mg base 8 "_law_term_text" ["_law_term"] (WTT 6)) : Own P w K mg base 9 "_law_work_text" ["_law_work"] WWt := by
  have sc := sc__law_work_text
  refine okO D sc (fun as S P h => by obtain ⟨_, _, rfl, _⟩ := h; rfl) (fun f cdv A outer s H E hg hr => (pdss_cons (pds_set (i := 1) sc.nd rfl (Or.inl rfl) (pd_add (pd_add (pd_lst (pda_cons (pd_at (pdv 0) (pd_int)) pda_nil)) (pd_lc (own := [("_law_kind", 2)]) rfl sc.nd (pdi_tup (pd_at (pdv 0) (pd_int))) (blkOk_by (N := ["_law_work", "_law_words", "_law_kind"]) (sc := defScope s__law_work_text) (by decide +kernel)) (cg_name (by decide)) (fun _ _ _ _ _ => (pg_name (i := 2) sc.nd rfl (Or.inl rfl))) (fun _ _ _ _ _ => pts_yes) (fun _ _ _ _ _ => (pdc o__law_kind_text hg hr (by rfl) (pda_cons (pdv 2) pda_nil))))) (pd_lst (pda_cons (pd_str) (pda_cons (pdc o__law_kind_text hg hr (by rfl) (pda_cons (pd_at (pdv 0) (pd_int)) pda_nil)) pda_nil))))) (pdss_one (pds_ret (pd_bm PySem.F.plainAttrs_str PySem.F.slot_str_join PySem.F.type_str_join mt_join vr_join (pd_str) (pda_cons (pd_add (pdv 1) (pd_lst (pda_cons (pdc o__law_term_text hg hr (by rfl) (pda_cons (pd_at (pdv 0) (pd_int)) pda_nil)) pda_nil))) pda_nil)))))) (fun args S P h => ?_)
  obtain ⟨x, t, rfl, hw, h⟩ := h
  obtain ⟨hf, hks, h4, hkr, hx⟩ := hw
  rename_i f0 ks kts r rt b bt
  have l1 := pair_len hks
  have l2 := kns_len hks
  have l3 := name_len hf
  have l4 := hkr.len
  have l5 := hx.pt.len
  refine ⟨small2 rfl, by rw [sizeLine_eq]; omega, ?_⟩
  refine compD_txt hks (fun x t hk Q q => ⟨x, t, rfl, hk, q⟩) ?_
  rw [List.nil_append]
  refine ⟨by rw [List.length_map, sizeLine_eq, List.length_singleton]; omega, ?_⟩
  refine ⟨r, rt, rfl, hkr, small2 rfl, ?_⟩
  refine ⟨by rw [List.length_append, List.length_map, sizeLine_eq]; simp only [List.length_cons, List.length_nil]; omega, ?_⟩
  refine ⟨rfl, b, bt, rfl, hx.pt, small2 rfl, ?_⟩
  refine ⟨by rw [List.length_append, List.length_append, List.length_map, sizeLine_eq]; simp only [List.length_cons, List.length_nil]; omega, ?_⟩
  have e : [PyData.str f0] ++ kts.map PyData.str ++ [.str "->", .str rt] ++ [.str bt] = (f0 :: (kts ++ ([("->" : Str), rt, bt] : List Str))).map PyData.str := by
    rw [List.map_cons, List.map_append]
    simp
  show dJoin (.d (.str " ")) [.d (.list ([PyData.str f0] ++ kts.map PyData.str ++ [.str "->", .str rt] ++ [.str bt]))] S P
  rw [e]
  refine join_strs ?_ h
  have e1 : lens ([("->" : Str), rt, bt] : List Str) = 2 + (rt.length + (bt.length + 0)) := by rw [lens_cons, lens_cons, lens_cons]; rfl
  rw [lens_cons, lens_app, e1, List.length_cons, List.length_append]
  simp only [List.length_cons, List.length_nil]
  omega
end
end K61
/-! law k91: what is drawn is right, plain, and of a size -/
namespace K61
open PySem PySem.Spec PyProof.Rows L2 DL
/-! ### plain signs -/
def Pl (t : Str) : Prop := ∀ c, c ∈ t.cps.toList → c < 128
theorem Pl.app {x y : Str} (h : Pl x) (g : Pl y) : Pl (x ++ y) := fun c hc => by
  rw [Str.cps_append, Array.toList_append] at hc
  rcases List.mem_append.mp hc with hc | hc
  · exact h c hc
  · exact g c hc
theorem Pl.one {t : Str} (h : (t.cps.toList.all fun c => decide (c < 128)) = true) : Pl t := fun c hc => of_decide_eq_true (List.all_eq_true.mp h c hc)
theorem Pl.num (i : Int) : Pl (numT i) := fun c hc => by
  rcases Nat.lt_or_ge c 128 with h | h
  · exact h
  · exact absurd hc (int_text_free' c ⟨by omega, .inr (by omega)⟩ i)
theorem Pl.name {z : Str} (h : nameS z = true) : Pl z := fun c hc => by
  unfold nameS at h
  have z := List.all_eq_true.mp (Bool.and_eq_true_iff.mp h).2 c hc
  have := of_decide_eq_true (Bool.and_eq_true_iff.mp z).2
  omega
theorem Pl.join : ∀ {ts : List Str}, (∀ t, t ∈ ts → Pl t) → Pl (Str.join " " ts)
  | [], _ => fun c hc => by cases hc
  | [t], h => h t (List.mem_singleton.mpr rfl)
  | t :: u :: r, h => by
    show Pl (t ++ " " ++ Str.join " " (u :: r))
    exact ((h t (by simp)).app (Pl.one (by decide +kernel))).app (Pl.join fun x hx => h x (List.mem_cons_of_mem _ hx))
theorem Pl.glue {ts : List Str} (h : ∀ t, t ∈ ts → Pl t) : Pl (Txt.join " " ts) := by
  show Pl (PySem.Builtin.Str.glued " " ts)
  rw [StrLaws.glued_eq_join]
  exact Pl.join h
theorem Pl.wr {w : Str} {ts : List Str} (hw : Pl w) (h : ∀ t, t ∈ ts → Pl t) : Pl (wr w ts) :=
  ((Pl.one (by decide +kernel)).app (Pl.glue fun t ht => by
    rcases List.mem_cons.mp ht with rfl | ht
    · exact hw
    · exact h t ht)).app (Pl.one (by decide +kernel))
theorem Pl.lab {z : Str} {i : Int} (h : nameS z = true) : Pl (z ++ "/" ++ numT i) := ((Pl.name h).app (Pl.one (by decide +kernel))).app (Pl.num i)
theorem Lb.pl {l : PyData} {t : Str} (h : Lb l t) : Pl t := by
  cases h with
  | no => exact Pl.one (by decide +kernel)
  | yes z i h1 h2 h3 => exact Pl.lab h1
theorem Kn.pl {l : PyData} {t : Str} (h : Kn l t) : Pl t := by
  cases h with
  | own => exact Pl.one (by decide +kernel)
  | lab z i h1 h2 h3 => exact Pl.lab h1
theorem all1 {p : Str → Prop} {a : Str} (h : p a) : ∀ t, t ∈ [a] → p t := fun t ht => by rw [List.mem_singleton.mp ht]; exact h
theorem allc {p : Str → Prop} {a : Str} {r : List Str} (h : p a) (g : ∀ t, t ∈ r → p t) : ∀ t, t ∈ a :: r → p t := fun t ht => by
  rcases List.mem_cons.mp ht with rfl | ht
  · exact h
  · exact g t ht
mutual
theorem Tm.pl : ∀ {n k : Nat} {x : PyData} {t : Str}, Tm n k x t → Pl t
  | _, _, _, _, .make n i hi => Pl.wr (Pl.one (by decide +kernel)) (all1 (Pl.num i))
  | _, _, _, _, .param n i h0 hi => Pl.wr (Pl.one (by decide +kernel)) (all1 (Pl.num i))
  | _, _, _, _, .plus i a hi => Pl.wr (Pl.one (by decide +kernel)) (allc a.pl (all1 (Pl.num i)))
  | _, _, _, _, .call hl hf hs h4 => Pl.wr (Pl.one (by decide +kernel)) (allc hl.pl (allc (Pl.name hf) hs.pl))
  | _, _, _, _, .two hs => Pl.wr (Pl.one (by decide +kernel)) hs.pl
  | _, _, _, _, .three hs => Pl.wr (Pl.one (by decide +kernel)) hs.pl
theorem Tms.pl : ∀ {n k : Nat} {xs : List PyData} {ts : List Str}, Tms n k xs ts → ∀ t, t ∈ ts → Pl t
  | _, _, _, _, .nil _ => fun t h => nomatch h
  | _, _, _, _, .cons a b => allc a.pl b.pl
end
theorem kns_pl : ∀ {ks : List PyData} {ts : List Str}, Paired Kn ks ts → ∀ t, t ∈ ts → Pl t
  | _, _, .nil => fun t h => nomatch h
  | _, _, .cons a r => allc a.pl (kns_pl r)
theorem Ex5.pl {x : PyData} {t : Str} (h : Ex5 x t) : Pl t := by
  obtain ⟨n, k, _, _, h⟩ := h
  exact h.pl
theorem Wk.pl {x : PyData} {t : Str} (h : Wk x t) : Pl t := by
  cases h with
  | mk hf hks h4 hr hx =>
    refine Pl.glue (allc (Pl.name hf) fun t ht => ?_)
    rcases List.mem_append.mp ht with ht | ht
    · exact kns_pl hks t ht
    · exact allc (Pl.one (by decide +kernel)) (allc hr.pl (all1 hx.pl)) t ht
theorem Pl.shaped {t : Str} (h : Pl t) (b : Bool) : SeqAt.shaped (.list [.str t, .str t, .bool b]) = true := by
  have hs : PyData.strOk t = true := by
    unfold PyData.strOk
    rw [Array.all_eq_true_iff_forall_mem]
    intro c hc
    have := h c (by simpa using hc)
    exact decide_eq_true (by omega)
  unfold SeqAt.shaped
  simp [PyData.canLay0, PyData.canLayAll0, PyData.depth, PyData.depthAll, hs]
/-! ### deeper -/
mutual
theorem Tm.mono : ∀ {n k n' : Nat} {x : PyData} {t : Str}, Tm n k x t → n ≤ n' → Tm n' k x t
  | _, _, n', _, _, .make n i hi, h => by
    obtain ⟨m, rfl⟩ : ∃ m, n' = m + 1 := ⟨n' - 1, by omega⟩
    exact .make m i hi
  | _, _, n', _, _, .param n i h0 hi, h => by
    obtain ⟨m, rfl⟩ : ∃ m, n' = m + 1 := ⟨n' - 1, by omega⟩
    exact .param m i h0 hi
  | _, _, n', _, _, .plus i a hi, h => by
    obtain ⟨m, rfl⟩ : ∃ m, n' = m + 1 := ⟨n' - 1, by omega⟩
    exact .plus i (a.mono (by omega)) hi
  | _, _, n', _, _, .call hl hf hs h4, h => by
    obtain ⟨m, rfl⟩ : ∃ m, n' = m + 1 := ⟨n' - 1, by omega⟩
    exact .call hl hf (hs.mono (by omega)) h4
  | _, _, n', _, _, .two hs, h => by
    obtain ⟨m, rfl⟩ : ∃ m, n' = m + 1 := ⟨n' - 1, by omega⟩
    exact .two (hs.mono (by omega))
  | _, _, n', _, _, .three hs, h => by
    obtain ⟨m, rfl⟩ : ∃ m, n' = m + 1 := ⟨n' - 1, by omega⟩
    exact .three (hs.mono (by omega))
theorem Tms.mono : ∀ {n k n' : Nat} {xs : List PyData} {ts : List Str}, Tms n k xs ts → n ≤ n' → Tms n' k xs ts
  | _, _, n', _, _, .nil _, _ => .nil n'
  | _, _, _, _, _, .cons a b, h => .cons (a.mono h) (b.mono h)
end
theorem Ex5.at5 {x : PyData} {t : Str} (h : Ex5 x t) : ∃ k, k ≤ 30 ∧ Tm 5 k x t := by
  obtain ⟨n, k, hn, hk, h⟩ := h
  exact ⟨k, hk, h.mono hn⟩
/-! ### how great -/
theorem fit_name {z : Str} (h : nameS z = true) : Fit 0 82 (.str z) := by
  have hz : ∀ c, c ∈ z.cps.toList → c < 16 ^ 8 := fun c hc => Nat.lt_of_lt_of_le (Pl.name h c hc) (by decide)
  have := name_len h
  exact (fit_str hz).mono (Nat.le_refl _) (by omega)
theorem fit_wd {z : Str} (hp : (z.cps.toList.all fun c => decide (c < 128)) = true) (hl : z.length ≤ 5) : Fit 0 52 (.str z) := by
  have hz : ∀ c, c ∈ z.cps.toList → c < 16 ^ 8 := fun c hc => Nat.lt_of_lt_of_le (Pl.one hp c hc) (by decide)
  exact (fit_str hz).mono (Nat.le_refl _) (by omega)
theorem Num.fit {i : Int} (h : Num i) : Fit 0 28 (.int i) := fit_intK (k := 26) (by decide) (by decide) h
theorem fit_lab {z : Str} {i : Int} (h : nameS z = true) (hi : Num i) : Fit 1 117 (.tuple [.str z, .int i]) := (Fits.cons (fit_name h) (Fits.cons hi.fit Fits.nil0)).tup.mono (by omega) (by omega)
theorem Lb.fit {l : PyData} {t : Str} (h : Lb l t) : Fit 1 117 l := by
  cases h with
  | no => exact fit_non.mono (by omega) (by omega)
  | yes z i h1 h2 h3 => exact fit_lab h1 h3
theorem Kn.fit {l : PyData} {t : Str} (h : Kn l t) : Fit 1 117 l := by
  cases h with
  | own => exact (fit_wd (z := "own") (by decide +kernel) (by decide)).mono (by omega) (by omega)
  | lab z i h1 h2 h3 => exact fit_lab h1 h3
mutual
theorem Tm.fit : ∀ {n k : Nat} {x : PyData} {t : Str}, Tm n k x t → Fit (2 * n) (400 * k) x
  | _, _, _, _, .make n i hi => (Fits.cons (fit_wd (z := "make") (by decide +kernel) (by decide)) (Fits.cons hi.fit Fits.nil0)).tup.mono (by omega) (by omega)
  | _, _, _, _, .param n i h0 hi => (Fits.cons (fit_wd (z := "param") (by decide +kernel) (by decide)) (Fits.cons hi.fit Fits.nil0)).tup.mono (by omega) (by omega)
  | _, _, _, _, .plus (n := n) i a hi => (Fits.cons ((fit_wd (z := "plus") (by decide +kernel) (by decide)).mono (Nat.zero_le (2 * n)) (Nat.le_refl _)) (Fits.cons a.fit (Fits.cons (hi.fit.mono (Nat.zero_le _) (Nat.le_refl _)) Fits.nil0))).tup.mono (by omega) (by omega)
  | _, _, _, _, .call (n := n) (xs := xs) hl hf hs h4 => by
    have hx := hs.fits
    have h1 := hx.tup
    exact (Fits.cons ((fit_wd (z := "call") (by decide +kernel) (by decide)).mono (Nat.zero_le (2 * n + 1)) (Nat.le_refl _)) (Fits.cons (hl.fit.mono (by omega) (Nat.le_refl _)) (Fits.cons ((fit_name hf).mono (Nat.zero_le _) (Nat.le_refl _)) (Fits.cons h1 Fits.nil0)))).tup.mono (by omega) (by omega)
  | _, _, _, _, .two (n := n) hs => (Fits.cons ((fit_wd (z := "do") (by decide +kernel) (by decide)).mono (Nat.zero_le (2 * n)) (Nat.le_refl _)) hs.fits).tup.mono (by omega) (by simp only [List.length_cons, List.length_nil]; omega)
  | _, _, _, _, .three (n := n) hs => (Fits.cons ((fit_wd (z := "if") (by decide +kernel) (by decide)).mono (Nat.zero_le (2 * n)) (Nat.le_refl _)) hs.fits).tup.mono (by omega) (by simp only [List.length_cons, List.length_nil]; omega)
theorem Tms.fits : ∀ {n k : Nat} {xs : List PyData} {ts : List Str}, Tms n k xs ts → Fits (2 * n) (400 * k + 2 * xs.length) xs
  | _, _, _, _, .nil _ => Fits.nil
  | _, _, _, _, .cons a b => (Fits.cons a.fit b.fits).mono (Nat.le_refl _) (by simp only [List.length_cons]; omega)
end
theorem kns_fit : ∀ {ks : List PyData} {ts : List Str}, Paired Kn ks ts → Fits 1 (119 * ks.length) ks
  | _, _, .nil => Fits.nil
  | _, _, .cons a r => (Fits.cons a.fit (kns_fit r)).mono (Nat.le_refl _) (by simp only [List.length_cons]; omega)
theorem Ex5.fit {x : PyData} {t : Str} (h : Ex5 x t) : Fit 10 12000 x := by
  obtain ⟨k, hk, h⟩ := h.at5
  exact h.fit.mono (by omega) (by omega)
theorem Wk.fit {x : PyData} {t : Str} (h : Wk x t) : Fit 11 13000 x := by
  cases h with
  | mk hf hks h4 hr hx =>
    exact (Fits.cons ((fit_name hf).mono (Nat.zero_le 10) (Nat.le_refl _)) (Fits.cons ((kns_fit hks).tup.mono (by omega) (Nat.le_refl _)) (Fits.cons (hr.fit.mono (by omega) (Nat.le_refl _)) (Fits.cons hx.fit Fits.nil0)))).tup.mono (by omega) (by omega)
end K61
/-! law k91: what is drawn has the form -/
namespace K61
open PySem PySem.Spec PyProof.Rows L2 DL
theorem part_expr {r : PyData → Bool} {x : PyData} : partD r "expression" x = r x := if_pos rfl
theorem part_num {r : PyData → Bool} {x : PyData} : partD r "number" x = intD x := by unfold partD; rw [if_neg (by decide +kernel), if_pos rfl]
theorem part_count {r : PyData → Bool} {x : PyData} : partD r "count" x = countD x := by unfold partD; rw [if_neg (by decide +kernel), if_neg (by decide +kernel), if_pos rfl]
theorem part_label {r : PyData → Bool} {x : PyData} : partD r "label" x = (nonD x || labelD x) := by unfold partD; rw [if_neg (by decide +kernel), if_neg (by decide +kernel), if_neg (by decide +kernel), if_pos rfl]
theorem part_name {r : PyData → Bool} {x : PyData} : partD r "name" x = nameD x := by unfold partD; rw [if_neg (by decide +kernel), if_neg (by decide +kernel), if_neg (by decide +kernel), if_neg (by decide +kernel), if_pos rfl]
theorem part_args {r : PyData → Bool} {x : PyData} : partD r "arguments" x = argsD r x := by unfold partD; rw [if_neg (by decide +kernel), if_neg (by decide +kernel), if_neg (by decide +kernel), if_neg (by decide +kernel), if_neg (by decide +kernel)]
theorem form_of {n : Nat} {z : Str} {xs : List PyData} {fs : List Str} (e : formsT z = some fs) (hl : xs.length = fs.length) (h : ((xs.zip fs).all fun p => partD (formD n) p.2 p.1) = true) : formD (n + 1) (.tuple (.str z :: xs)) = true := by
  show (match formsT z with
    | some fs => decide (xs.length = fs.length) && (xs.zip fs).all fun p => partD (formD n) p.2 p.1
    | none => false) = true
  rw [e]
  show (decide (xs.length = fs.length) && (xs.zip fs).all fun p => partD (formD n) p.2 p.1) = true
  rw [decide_eq_true hl, Bool.true_and]
  exact h
theorem ff (z : Str) (fs : List Str) (h : (match formsT z with | some gs => decide (gs = fs) | none => false) = true) : formsT z = some fs := by
  cases e : formsT z with
  | none => rw [e] at h; cases h
  | some gs => rw [e] at h; rw [of_decide_eq_true h]
theorem f_make : formsT "make" = some [("number" : Str)] := ff _ _ (by decide +kernel)
theorem f_param : formsT "param" = some [("count" : Str)] := ff _ _ (by decide +kernel)
theorem f_plus : formsT "plus" = some [("expression" : Str), ("number" : Str)] := ff _ _ (by decide +kernel)
theorem f_call : formsT "call" = some [("label" : Str), ("name" : Str), ("arguments" : Str)] := ff _ _ (by decide +kernel)
theorem f_do : formsT "do" = some [("expression" : Str), ("expression" : Str)] := ff _ _ (by decide +kernel)
theorem f_if : formsT "if" = some [("expression" : Str), ("expression" : Str), ("expression" : Str)] := ff _ _ (by decide +kernel)
theorem lab_right {z : Str} {i : Int} (h : nameS z = true) (h0 : 0 ≤ i) : labelD (.tuple [.str z, .int i]) = true := by
  show (nameS z && decide (0 ≤ i)) = true
  rw [h, decide_eq_true h0]
  rfl
theorem Lb.right {l : PyData} {t : Str} (h : Lb l t) : (nonD l || labelD l) = true := by
  cases h with
  | no => rfl
  | yes z i h1 h2 h3 => rw [lab_right h1 h2, Bool.or_true]
mutual
theorem Tm.form : ∀ {n k : Nat} {x : PyData} {t : Str}, Tm n k x t → formD n x = true
  | _, _, _, _, .make n i hi => form_of f_make rfl (by
    show (partD (formD n) "number" (.int i) && true) = true
    rw [part_num]; rfl)
  | _, _, _, _, .param n i h0 hi => form_of f_param rfl (by
    show (partD (formD n) "count" (.int i) && true) = true
    rw [part_count]
    show (decide (0 ≤ i) && true) = true
    rw [decide_eq_true h0]; rfl)
  | _, _, _, _, .plus (n := n) (x := x) i a hi => form_of f_plus rfl (by
    show (partD (formD n) "expression" x && (partD (formD n) "number" (.int i) && true)) = true
    rw [part_expr, part_num, a.form]; rfl)
  | _, _, _, _, .call (n := n) (l := l) (f := f) (xs := xs) hl hf hs h4 => form_of f_call rfl (by
    show (partD (formD n) "label" l && (partD (formD n) "name" (.str f) && (partD (formD n) "arguments" (.tuple xs) && true))) = true
    rw [part_label, part_name, part_args, hl.right]
    show (true && (nameS f && ((decide (xs.length ≤ 4) && xs.all (formD n)) && true))) = true
    rw [hf, decide_eq_true h4, List.all_eq_true.mpr hs.forms]
    rfl)
  | _, _, _, _, .two (n := n) (x := x) (y := y) hs => form_of f_do rfl (by
    have h := hs.forms
    show (partD (formD n) "expression" x && (partD (formD n) "expression" y && true)) = true
    rw [part_expr, part_expr, h x (by simp), h y (by simp)]; rfl)
  | _, _, _, _, .three (n := n) (x := x) (y := y) (z := z) hs => form_of f_if rfl (by
    have h := hs.forms
    show (partD (formD n) "expression" x && (partD (formD n) "expression" y && (partD (formD n) "expression" z && true))) = true
    rw [part_expr, part_expr, part_expr, h x (by simp), h y (by simp), h z (by simp)]; rfl)
theorem Tms.forms : ∀ {n k : Nat} {xs : List PyData} {ts : List Str}, Tms n k xs ts → ∀ x, x ∈ xs → formD n x = true
  | _, _, _, _, .nil _ => fun x h => nomatch h
  | _, _, _, _, .cons a b => by
    have ha := a.form
    have hb := b.forms
    intro x h
    rcases List.mem_cons.mp h with rfl | h
    · exact ha
    · exact hb x h
end
theorem innerF_e {x : PyData} {xs : List PyData} {fs : List Str} : innerF (x :: xs) (("expression" : Str) :: fs) = x :: innerF xs fs := by
  unfold innerF
  simp
theorem innerF_n {x : PyData} {xs : List PyData} {f : Str} {fs : List Str} (h : ¬ f = "expression") : innerF (x :: xs) (f :: fs) = innerF xs fs := by
  unfold innerF
  simp [h]
theorem innerF_0 {fs : List Str} : innerF [] fs = [] := rfl
mutual
theorem Tm.size : ∀ {n k : Nat} {x : PyData} {t : Str}, Tm n k x t → sizeN n x = (k : Int)
  | _, _, _, _, .make n i hi => by
    show 1 + ((innerD (.tuple [.str "make", .int i])).map (sizeN n)).sum = _
    rw [inner_other (by decide +kernel) f_make]
    rw [innerF_n (by decide +kernel), innerF_0]
    rfl
  | _, _, _, _, .param n i h0 hi => by
    show 1 + ((innerD (.tuple [.str "param", .int i])).map (sizeN n)).sum = _
    rw [inner_other (by decide +kernel) f_param, innerF_n (by decide +kernel), innerF_0]
    rfl
  | _, _, _, _, .plus (n := n) (x := x) i a hi => by
    show 1 + ((innerD (.tuple [.str "plus", x, .int i])).map (sizeN n)).sum = _
    rw [inner_other (by decide +kernel) f_plus, innerF_e, innerF_n (by decide +kernel), innerF_0, List.map_cons, List.sum_cons, a.size]
    simp
    omega
  | _, _, _, _, .call (n := n) (l := l) (f := f) (xs := xs) hl hf hs h4 => by
    show 1 + ((innerD (.tuple (.str "call" :: [l, .str f, .tuple xs]))).map (sizeN n)).sum = _
    rw [inner_call, hs.sizes]
    omega
  | _, _, _, _, .two (n := n) (x := x) (y := y) hs => by
    show 1 + ((innerD (.tuple [.str "do", x, y])).map (sizeN n)).sum = _
    rw [inner_other (by decide +kernel) f_do, innerF_e, innerF_e, innerF_0, hs.sizes]
    omega
  | _, _, _, _, .three (n := n) (x := x) (y := y) (z := z) hs => by
    show 1 + ((innerD (.tuple [.str "if", x, y, z])).map (sizeN n)).sum = _
    rw [inner_other (by decide +kernel) f_if, innerF_e, innerF_e, innerF_e, innerF_0, hs.sizes]
    omega
theorem Tms.sizes : ∀ {n k : Nat} {xs : List PyData} {ts : List Str}, Tms n k xs ts → (xs.map (sizeN n)).sum = (k : Int)
  | _, _, _, _, .nil _ => rfl
  | n, _, _, _, .cons (k := k) (j := j) (x := x) (xs := xs) a b => by
    rw [List.map_cons, List.sum_cons, a.size, b.sizes]
    omega
end
theorem Ex5.right {x : PyData} {t : Str} (h : Ex5 x t) : exprD x = true := by
  obtain ⟨k, hk, h⟩ := h.at5
  unfold exprD
  rw [h.form, h.size, Bool.true_and]
  exact decide_eq_true (by omega)
theorem Kn.right {l : PyData} {t : Str} (h : Kn l t) : kindD l = true := by
  cases h with
  | own => rfl
  | lab z i h1 h2 h3 => exact Bool.or_eq_true_iff.mpr (.inl (lab_right h1 h2))
theorem kns_right : ∀ {ks : List PyData} {ts : List Str}, Paired Kn ks ts → ks.all kindD = true
  | _, _, .nil => rfl
  | _, _, .cons a r => by rw [List.all_cons, a.right, kns_right r]; rfl
theorem Wk.right {x : PyData} {t : Str} (h : Wk x t) : funD x = true := by
  cases h with
  | mk hf hks h4 hr hx =>
    rename_i f ks kts r rt b bt
    show (nameS f && decide (ks.length ≤ 4) && (ks.all kindD && (kindD r && exprD b))) = true
    rw [hf, decide_eq_true h4, kns_right hks, hr.right, hx.right]
    rfl
end K61
/-! readings where so many tokens are out already: a token made from now on is none of the module's -/
namespace DL
open PySem PySem.Spec PyProof.Rows L2
section
variable {α : Type} {M : Model} {A : Around} {t : Sem α} {Q Q' : α → Shared → Prop} {E : Value → Shared → Prop} {s : Shared} {n : Nat}
theorem thT (hn : n ≤ s.toks) (h : wpAny M A t Q E s) (k : ∀ a s', n ≤ s'.toks → Q a s' → Q' a s') : wpAny M A t Q' E s :=
  wpAny_mono (wpAny_toks_of hn h) (fun a s' z => k a s' z.1 z.2) (fun _ _ z => z.2)
theorem thTF (hn : n ≤ s.toks) (h : wpAny M A t Q (fun _ _ => False) s) (k : ∀ a s', n ≤ s'.toks → Q a s' → Q' a s') : wpAny M A t Q' E s :=
  wpAny_mono (wpAny_toks_of hn h) (fun a s' z => k a s' z.1 z.2) (fun _ _ z => z.2.elim)
end
structure En (n : Nat) (X : Cx) (e : Expr) (t : TE) : Prop where
  run : ∀ (pins : List (Addr × Obj)) (s : Shared) (σ : L2.St) (H : Hp) (Q : VK), n ≤ s.toks → Inv X pins σ H s → t σ H Q → wpAny (model X.prog X.w) X.A (eval e X.env) (EP X pins σ Q) X.xe s
structure Tn (n : Nat) (X : Cx) (e : Expr) (t : TT) : Prop where
  run : ∀ (pins : List (Addr × Obj)) (s : Shared) (σ : L2.St) (H : Hp) (Q : Bool → Hp → Prop), n ≤ s.toks → Inv X pins σ H s → t σ H Q → wpAny (model X.prog X.w) X.A (isTrue e X.env (eval e X.env)) (TP X pins σ Q) X.xe s
structure Wn (n : Nat) (X : Cx) (e : Expr) (t : TT) : Prop where
  run : ∀ (wh : Sem Value) (pins : List (Addr × Obj)) (s : Shared) (σ : L2.St) (H : Hp) (Q : Bool → Hp → Prop), n ≤ s.toks → Inv X pins σ H s → t σ H Q → wpAny (model X.prog X.w) X.A (isTrue e X.env wh) (TP X pins σ Q) X.xe s
structure An (n : Nat) (X : Cx) (es : List Expr) (t : TA) : Prop where
  run : ∀ (pos : Pos) (pins : List (Addr × Obj)) (s : Shared) (σ : L2.St) (H : Hp) (Q : List V → Hp → Prop), n ≤ s.toks → Inv X pins σ H s → t σ H Q → wpAny (model X.prog X.w) X.A (spliced (backTo pos (starEach es X.env))) (AP X pins σ Q) X.xe s
structure Kn' (n : Nat) (X : Cx) (kws : List Keyword) (t : TA) : Prop where
  run : ∀ (pos : Pos) (pins : List (Addr × Obj)) (s : Shared) (σ : L2.St) (H : Hp) (Q : List V → Hp → Prop), n ≤ s.toks → Inv X pins σ H s → t σ H Q → wpAny (model X.prog X.w) X.A (evalAll ((backToKw pos (keywordEach kws X.env)).map (·.2))) (AP X pins σ Q) X.xe s
structure Sn (n : Nat) (X : Cx) (st : Stmt) (t : TS) : Prop where
  run : ∀ (pins : List (Addr × Obj)) (s : Shared) (σ : L2.St) (H : Hp) (D : Ends), n ≤ s.toks → Inv X pins σ H s → t D σ H → wpAny (model X.prog X.w) X.A (exec st X.env) (SP X pins D) X.xe s
structure Bn (n : Nat) (X : Cx) (st : List Stmt) (t : TS) : Prop where
  run : ∀ (pins : List (Addr × Obj)) (s : Shared) (σ : L2.St) (H : Hp) (D : Ends), n ≤ s.toks → Inv X pins σ H s → t D σ H → wpAny (model X.prog X.w) X.A (execs st X.env) (SP X pins D) X.xe s
section
variable {n : Nat} {X : Cx} {a b c e : Expr} {es : List Expr} {te ta tb : TE} {tt tt2 : TT} {t t2 : TA} {u v : TS} {st : Stmt} {rest : List Stmt} {pos p : Pos} {kws : List Keyword}
theorem En.of (h : PE X e te) : En n X e te := ⟨fun pins s σ H Q _ I q => h.run pins s σ H Q I q⟩
theorem Tn.of (h : PT X e tt) : Tn n X e tt := ⟨fun pins s σ H Q _ I q => h.run pins s σ H Q I q⟩
theorem An.of (h : PA X es t) : An n X es t := ⟨fun pos pins s σ H Q _ I q => h.run pos pins s σ H Q I q⟩
theorem Kn'.of (h : L2.PK X kws t) : Kn' n X kws t := ⟨fun pos pins s σ H Q _ I q => h.run pos pins s σ H Q I q⟩
theorem Sn.of (h : PS X st u) : Sn n X st u := ⟨fun pins s σ H D _ I q => h.run pins s σ H D I q⟩
theorem Bn.of (h : PSs X rest u) : Bn n X rest u := ⟨fun pins s σ H D _ I q => h.run pins s σ H D I q⟩
theorem En.wk {t' : TE} (h : En n X e te) (w : ∀ σ H Q, t' σ H Q → te σ H Q) : En n X e t' := ⟨fun pins s σ H Q z I q => h.run pins s σ H Q z I (w σ H Q q)⟩
theorem Tn.wk {t' : TT} (h : Tn n X e tt) (w : ∀ σ H Q, t' σ H Q → tt σ H Q) : Tn n X e t' := ⟨fun pins s σ H Q z I q => h.run pins s σ H Q z I (w σ H Q q)⟩
theorem Wn.wk {t' : TT} (h : Wn n X e tt) (w : ∀ σ H Q, t' σ H Q → tt σ H Q) : Wn n X e t' := ⟨fun wh pins s σ H Q z I q => h.run wh pins s σ H Q z I (w σ H Q q)⟩
theorem An.wk {t' : TA} (h : An n X es t) (w : ∀ σ H Q, t' σ H Q → t σ H Q) : An n X es t' := ⟨fun pos pins s σ H Q z I q => h.run pos pins s σ H Q z I (w σ H Q q)⟩
theorem Kn'.wk {t' : TA} (h : Kn' n X kws t) (w : ∀ σ H Q, t' σ H Q → t σ H Q) : Kn' n X kws t' := ⟨fun pos pins s σ H Q z I q => h.run pos pins s σ H Q z I (w σ H Q q)⟩
theorem Sn.wk {u' : TS} (h : Sn n X st u) (w : ∀ D σ H, u' D σ H → u D σ H) : Sn n X st u' := ⟨fun pins s σ H D z I q => h.run pins s σ H D z I (w D σ H q)⟩
theorem Bn.wk {u' : TS} (h : Bn n X rest u) (w : ∀ D σ H, u' D σ H → u D σ H) : Bn n X rest u' := ⟨fun pins s σ H D z I q => h.run pins s σ H D z I (w D σ H q)⟩
theorem Wn.tn (h : Wn n X e tt) : Tn n X e tt := ⟨h.run _⟩
theorem an_cons (ha : En n X e te) (hr : An n X es t) (hs : starEach (e :: es) X.env = (false, eval e X.env) :: starEach es X.env := by rfl) : An n X (e :: es) (tCons te t) := by
  constructor
  intro pos pins s σ H Q z I q
  rw [hs]
  show wpAny _ _ (spliced ((false, eval e X.env) :: backTo pos (starEach es X.env))) _ _ s
  refine Calls.spliced_cons (thT z (ha.run pins s σ H _ z I q) fun x1 s1 z1 q1 => ?_)
  obtain ⟨y, H1, I1, r1, q1⟩ := q1
  refine thn (hr.run pos pins s1 σ H1 _ z1 I1 q1) fun us s2 q2 => ?_
  obtain ⟨ys, H2, I2, r2, q2⟩ := q2
  exact ⟨y :: ys, H2, I2, .cons r1 r2, q2⟩
theorem kn_cons {nm : Option Str} {kpos : Pos} (ha : En n X e te) (hr : Kn' n X kws t) : Kn' n X (⟨nm, e, kpos⟩ :: kws) (tCons te t) := by
  constructor
  intro pos pins s σ H Q z I q
  show wpAny _ _ (evalAll ((do let x ← eval e X.env; standAt pos; pure x) :: (backToKw pos (keywordEach kws X.env)).map (·.2))) _ _ s
  refine wpAny_evalAll_cons (wpAny_bind (thT z (ha.run pins s σ H _ z I q) fun x1 s1 z1 q1 => wpAny_bind (wpAny_standAt (wpAny_pure ?_))))
  obtain ⟨y, H1, I1, r1, q1⟩ := q1
  refine thn (hr.run pos pins s1 σ H1 _ z1 I1 q1) fun us s2 q2 => ?_
  obtain ⟨ys, H2, I2, r2, q2⟩ := q2
  exact ⟨y :: ys, H2, I2, .cons r1 r2, q2⟩
theorem en_lst (h : An n X es t) : En n X (.List es pos) (tLst t) := by
  constructor
  intro pins s σ H Q z I q
  refine wpAny_List_spliced (thn (h.run pos pins s σ H _ z I q) fun us s1 q1 => ?_)
  obtain ⟨xs, H1, I1, r, zl, q1⟩ := q1
  have hf : H1 s1.heap.objs.size = none := I1.hok.fresh (Nat.le_refl _)
  refine ⟨by rw [← r.length]; exact zl, .ref s1.heap.objs.size, upd H1 s1.heap.objs.size (.lst xs), ?_, rfl, q1 _ hf⟩
  exact I1.laid (t' := s1.toks) (fun b u e => Heap.get?_push_of_some _ e) (Nat.le_refl _) ⟨zl, us, 0, r, Heap.get?_push_size _ rfl⟩
theorem en_callB {x : Str} {id : String} {r : List V → Hp → VK → Prop} (hc : CallR X (.builtin id) r) (hg : Gl X x) (hm : X.mg x = none) (hv : bootBuiltins x = some (.builtin id)) (ha : An n X (e :: es) t) (hn : x ≠ "__name__" := by decide)
    (hdb : (x == ("__debug__" : Str)) = false := by decide) (he : starEach (e :: es) X.env = (false, eval e X.env) :: starEach es X.env := by rfl) (hpl : (backTo pos (starEach es X.env)).any (·.1) = false := by rfl) : En n X (.Call (.Name x p) (e :: es) [] pos) (tCB r t) := by
  constructor
  intro pins s σ H Q z I q
  refine wpAny_Call_Name_kw (ld_blt I hg hm hv ?_ hn hdb)
  refine PyProof.Rows.callWith_builtin1 (thn (ha.run pos pins s σ H _ z I q) fun us s1 q1 => ?_) he hpl
  obtain ⟨vs, H1, I1, r1, q1⟩ := q1
  exact hc pins s1 σ H1 vs us Q I1 r1 q1
theorem en_cmp {op : CmpOp} {r : R2} (ho : OpR X (compareOp op) r) (ha : En n X a ta) (hb : En n X b tb) (hm : behindInMarks op b = false) : En n X (.Compare a [op] [b] pos) (tOp r ta tb) := by
  constructor
  intro pins s σ H Q z I q
  refine wpAny_Compare1 (thT z (ha.run pins s σ H _ z I q) fun x1 s1 z1 q1 => ?_) hm
  obtain ⟨x, H1, I1, r1, q1⟩ := q1
  refine thn (hb.run pins s1 σ H1 _ z1 I1 q1) fun x2 s2 q2 => ?_
  obtain ⟨y, H2, I2, r2, q2⟩ := q2
  exact ho pins s2 σ H2 x y x1 x2 Q I2 r1 r2 q2
theorem tn_cmp {op : CmpOp} {r : R2} (ho : OpR X (compareOp op) r) (ha : En n X a ta) (hb : En n X b tb) (hm : behindInMarks op b = false) : Tn n X (.Compare a [op] [b] pos) (tTest (tOp r ta tb)) := by
  constructor
  intro pins s σ H Q z I q
  refine wpAny_isTrue_Compare1 (thT z (ha.run pins s σ H _ z I q) fun x1 s1 z1 q1 => ?_) hm
  obtain ⟨x, H1, I1, r1, q1⟩ := q1
  refine thn (hb.run pins s1 σ H1 _ z1 I1 q1) fun x2 s2 q2 => ?_
  obtain ⟨y, H2, I2, r2, q2⟩ := q2
  refine thn (ho pins s2 σ H2 x y x1 x2 _ I2 r1 r2 q2) fun x3 s3 q3 => ?_
  obtain ⟨d, H3, I3, r3, k, rfl, q3⟩ := q3
  cases r3
  exact wpAny_truthy_bool ⟨H3, I3, q3⟩
theorem tn_val (h : En n X e te) (he : ∀ whole, isTrue e X.env whole = (do let v ← whole; standAt e.pos; holding [v] (truthy v)) := by intro _; rfl) : Tn n X e (tB te) := by
  constructor
  intro pins s σ H Q z I q
  refine isTrue_plain (thn (h.run pins s σ H _ z I q) fun x1 s1 q1 => ?_) (he _)
  obtain ⟨d, H1, I1, r1, k, rfl, q1⟩ := q1
  cases r1
  exact wpAny_truthy_bool ⟨H1, I1, q1⟩
theorem tn_not (h : Tn n X e tt) : Tn n X (.UnaryOp .Not e pos) (tNot tt) := ⟨fun pins s σ H Q z I q => isTrue_not (h.run pins s σ H (fun k H1 => Q (!k) H1) z I q)⟩
theorem wn_or1 (h : Tn n X e tt) : Wn n X (.BoolOp .Or [e] pos) tt := by
  constructor
  intro wh pins s σ H Q z I q
  refine isTrue_or (thn (h.run pins s σ H Q z I q) fun k s1 q1 => ?_)
  cases k
  · exact isTrue_or_nil q1
  · exact q1
theorem wn_or (h : Tn n X a tt) (h2 : Wn n X (.BoolOp .Or (b :: es) pos) tt2) : Wn n X (.BoolOp .Or (a :: b :: es) pos) (tOr tt tt2) := by
  constructor
  intro wh pins s σ H Q z I q
  refine isTrue_or (thT z (h.run pins s σ H _ z I q) fun k s1 z1 q1 => ?_)
  obtain ⟨H1, I1, q1⟩ := q1
  cases k
  · exact h2.run wh pins s1 σ H1 Q z1 I1 q1
  · exact ⟨H1, I1, q1⟩
theorem sn_ret (h : En n X e te) : Sn n X (.Return (some e) pos) (tRet te) := by
  constructor
  intro pins s σ H D z I q
  refine wpAny_Return_some (thn (h.run pins s σ H _ z I q) fun x1 s1 q1 => ?_)
  obtain ⟨x, H1, I1, r1, q1⟩ := q1
  exact ⟨x, σ, H1, I1, r1, q1⟩
theorem sn_if {l l2 : List Stmt} (hc : Tn n X c tt) (h1 : Bn n X l u) (h2 : Bn n X l2 v) : Sn n X (.If c l l2 pos) (tIfS tt u v) := by
  constructor
  intro pins s σ H D z I q
  refine wpAny_If (thT z (hc.run pins s σ H _ z I q) fun k s1 z1 q1 => ?_)
  obtain ⟨H1, I1, q1⟩ := q1
  cases k
  · exact h2.run pins s1 σ H1 D z1 I1 q1
  · exact h1.run pins s1 σ H1 D z1 I1 q1
theorem sn_set {i : Nat} {x : Str} {pos' : Pos} (hN : X.N.Nodup) (hi : X.N[i]? = some x) (hx : Loc X.env.scope x) (he : En n X e te) (hs : swapsWith e (some (.Name x pos')) pos.line X.env = pure false := by rfl)
    (hf : X.fn x = true ∨ X.env.scope.names.lookup x = some .local := by first | exact .inl rfl | exact .inr rfl | assumption) : Sn n X (.Assign [.Name x pos'] e pos) (tAsg te (gName i)) := by
  constructor
  intro pins s σ H D z I q
  refine wpAny_Assign_Name (thn (he.run pins s σ H _ z I q) fun x1 s1 q1 => ?_) hs
  obtain ⟨y, H1, I1, r1, q1⟩ := q1
  exact store_ok I1 hN hi hx r1 (fun s2 I2 => ⟨_, H1, I2, q1⟩) hf
theorem bn_cons (h1 : Sn n X st u) (h2 : Bn n X rest v) : Bn n X (st :: rest) (tSeq u v) := by
  constructor
  intro pins s σ H D z I q
  refine wpAny_execs_cons (thT z (h1.run pins s σ H { D with nx := v D } z I q) fun f s1 z1 q1 => ?_)
  match f, q1 with
  | .next, q1 =>
    obtain ⟨σ', H', I', q'⟩ := q1
    exact h2.run pins s1 σ' H' D z1 I' q'
  | .ret _, q1 => exact q1
  | .brk, q1 => exact q1
  | .cont, q1 => exact q1
theorem bn_one (h1 : Sn n X st u) : Bn n X [st] u := by
  constructor
  intro pins s σ H D z I q
  refine wpAny_execs_cons (thn (h1.run pins s σ H D z I q) fun f s1 q1 => ?_)
  match f, q1 with
  | .next, q1 => exact wpAny_execs_nil q1
  | .ret _, q1 => exact q1
  | .brk, q1 => exact q1
  | .cont, q1 => exact q1
end
end DL
/-! loops, comprehensions, defs and their calls where so many tokens are out -/
namespace DL
open PySem PySem.Spec PyProof.Rows L2
section
variable {n : Nat} {X : Cx}
theorem sn_for {tg iter : Expr} {body : List Stmt} {wi : TI} {g : TG} {tb : TS} {pos : Pos} (hp : PassesOwn (model X.prog X.w) X.A X.env X.xe) (hc : X.calm = true) (hi : PI X tg iter wi) (hg : PG X tg g) (hb : Bn n X body tb)
    (hs : ∀ x, foldedSetIterable iter X.env x = pure x := by intro _; rfl) : Sn n X (.For tg iter body [] pos) (tFor wi g tb) := by
  constructor
  intro pins s σ H D z I q
  refine wpAny_For (thT z (hi.run pins s σ H _ I q) fun x1 s1 z1 q1 => thT z1 q1 fun itv s2 z2 q2 => ?_) hs
  obtain ⟨it, fp, tn, J, H2, rfl, I2, T, st2, f2, W, ⟨m0, w0⟩, turn⟩ := q2
  have stat : ∀ {G : Hp}, (∀ y ∈ fp, G y = none) → ∀ y ∈ fp, FpOk X pins G y := fun no y hy => ⟨no y hy, (f2 y hy).2⟩
  refine codeAny_forLoop_any (fun m s' => n ≤ s'.toks ∧ ∃ i τ G, Inv X pins τ G s' ∧ tn i s'.heap ∧ (∀ y ∈ fp, G y = none) ∧ W i m τ G) ?_ m0 ⟨z2, 0, σ, H2, I2, st2, fun y hy => (f2 y hy).1, w0⟩
  intro m s3 hinv
  obtain ⟨z3, i, τ, G, I3, st3, no3, w3⟩ := hinv
  rcases turn i m τ G w3 with ⟨stop, fin⟩ | ⟨go, Nx, hNx, step⟩
  · refine wpAny_passesOwn hp (thn (T.done X rfl rfl rfl hc i pins s3 τ G X.xe I3 (stat no3) st3 stop) fun r s4 q4 => ?_)
    obtain ⟨rfl, I4⟩ := q4
    exact wpAny_execs_nil ⟨τ, G, I4, fin⟩
  · refine wpAny_passesOwn hp (thT z3 (T.item X rfl rfl rfl hc i pins s3 τ G X.xe I3 (stat no3) st3 go) fun r s4 z4 q4 => ?_)
    obtain ⟨u, rfl, q4⟩ := q4
    refine wpAny_passesOwn hp (thT z4 q4 fun _ s5 z5 q5 => ?_)
    obtain ⟨x, H5, I5, r5, y5, st5, no5⟩ := q5
    have J5 := I5.pinned (stat no5) (T.obj _ _ st5)
    refine wpAny_passesOwn hp (thT z5 (hg.run _ s5 τ H5 x u _ J5 r5 (step x H5 y5)) fun _ s6 z6 q6 => ?_)
    obtain ⟨σ6, H6, I6, q6⟩ := q6
    refine wpAny_passesOwn hp (thT z6 (hb.run _ s6 σ6 H6 _ z6 I6 q6) fun f s7 z7 q7 => ?_)
    have again : ∀ {σ7 : L2.St} {H7 : Hp}, Inv X (pins ++ pinsAt fp s5.heap) σ7 H7 s7 → Nx σ7 H7 → ∃ m', m' < m ∧ n ≤ s7.toks ∧ ∃ j ρ G', Inv X pins ρ G' s7 ∧ tn j s7.heap ∧ (∀ y ∈ fp, G' y = none) ∧ W j m' ρ G' := fun {σ7 H7} I7 nx => by
      obtain ⟨m', hm, w7⟩ := hNx σ7 H7 nx
      have pin : ∀ {y : Addr} {o : Obj}, y ∈ fp → s5.heap.get? y = some o → _ := fun {y o} hy e => I7.pin (y, o) (List.mem_append_right _ (List.mem_append_right _ (mem_pinsAt hy e)))
      refine ⟨m', hm, z7, i + 1, σ7, H7, I7.unpinned, T.keep _ _ _ st5 (fun y hy o e => (pin hy e).1), fun y hy => ?_, w7⟩
      obtain ⟨o, e, _⟩ := T.obj _ _ st5 y hy
      exact (pin hy e).2.1
    match f, q7 with
    | .next, q7 =>
      obtain ⟨σ7, H7, I7, nx⟩ := q7
      exact again I7 nx
    | .cont, q7 =>
      obtain ⟨σ7, H7, I7, nx⟩ := q7
      exact again I7 nx
    | .brk, q7 =>
      obtain ⟨σ7, H7, I7, q⟩ := q7
      exact ⟨σ7, H7, I7.unpinned, q⟩
    | .ret v, q7 =>
      obtain ⟨x7, σ7, H7, I7, r7, q⟩ := q7
      exact ⟨x7, σ7, H7, I7.unpinned, r7, q⟩
/-- a comprehension whose items want the tokens -/
theorem en_lc {elt tg iter : Expr} {ifs : List Expr} {scope : Scope} {own : List (Str × Nat)} {pos : Pos} {wi : TI} {g : TG} {tt : TT} {te : TE} (hc : X.calm = true) (hN : X.N.Nodup) (hi : PI X tg iter wi) (ok : BlkOk X.N X.env.scope scope own)
    (hg : ∀ (s : Shared) (H : Hp) (C : Addr) (cl : List (Str × Addr)) (fp : List Addr), PG (X.blk s H scope (compEnvC scope cl C X.env) fp) tg g) (ht : ∀ (s : Shared) (H : Hp) (C : Addr) (cl : List (Str × Addr)) (fp : List Addr), PTs (X.blk s H scope (compEnvC scope cl C X.env) fp) ifs tt)
    (he : ∀ (s : Shared) (H : Hp) (C : Addr) (cl : List (Str × Addr)) (fp : List Addr), En n (X.blk s H scope (compEnvC scope cl C X.env) fp) elt te) (hs : ∀ x, foldedSetIterable iter X.env x = pure x := by intro _; rfl) :
    En n X (.ListComp elt [⟨tg, iter, ifs, 0⟩] scope pos) (tLc wi g tt te (own.map (·.2))) := by
  constructor
  intro pins s σ H Q z I q
  rw [eval_ListComp]
  have hfree : ∀ y ∈ scope.names, y.2 = .free → ∃ c, X.env.cells.lookup y.1 = some c := fun y hy e => (ok.free y hy e).elim (fun k => I.ok.has _ (.inl k)) (fun k => I.ok.has _ (.inr k))
  refine wpAny_comprehension_free (use := none) rfl hs (closure_ok hfree) ok.kind (fun y hy e => by rw [ok.uniq y hy, e]) (thT z (hi.run pins s σ H _ I q) fun x1 s1 z1 q1 => thT z1 q1 fun itv s2 z2 q2 => ?_)
  obtain ⟨it, fp, tn, J, H2, rfl, I2, T, st2, f2, q2⟩ := q2
  refine wpAny_newObj_type (newEnv_comp ?_) (by show 0 ≤ sizeLine; decide)
  generalize hD : s2.heap.objs.size = D
  obtain ⟨W, ⟨m0, w0⟩, turn⟩ := q2 D (I2.hok.fresh (Nat.le_of_eq hD))
  generalize hs3 : ({ s2 with heap := s2.heap.push { cls := .type "list", data := .seq ([] : List Value).toArray } } : Shared) = s3
  have z3 : n ≤ s3.toks := by rw [← hs3]; exact z2
  have h3 : s3.heap = s2.heap.push { cls := .type "list", data := .seq ([] : List Value).toArray } := by rw [← hs3]
  have I3 : Inv X pins σ (upd H2 D (.lst [])) s3 := by
    rw [← hs3]
    refine I2.laid (t' := s2.toks) (fun b o e => Heap.get?_push_of_some _ e) (Nat.le_of_eq hD) ⟨Nat.zero_le _, [], 0, .nil, ?_⟩
    rw [← hD]
    exact Heap.get?_push_size _ rfl
  have f3 : ∀ y ∈ fp, FpOk X pins (upd H2 D (.lst [])) y ∧ y < s3.heap.objs.size := fun y hy => by
    obtain ⟨o, e, _⟩ := T.obj _ _ st2 y hy
    have hlt : y < s2.heap.objs.size := Heap.lt_size e
    refine ⟨⟨?_, (f2 y hy).2⟩, by rw [h3, Heap.size_push]; exact Nat.lt_succ_of_lt hlt⟩
    rw [upd_ne (by rw [← hD]; exact Nat.ne_of_lt hlt)]
    exact (f2 y hy).1
  have st3 : tn 0 s3.heap := T.keep _ _ _ st2 (fun y _ o e => by rw [h3]; exact Heap.get?_push_of_some _ e)
  have I4 := block_start I3 ok hN f3
  have pg := hg s3 (upd H2 D (.lst [])) s3.heap.objs.size (cellsFrom (s3.heap.objs.size + 1) scope.names (cloFrom X.env.cells scope.names [])) fp
  have pt := ht s3 (upd H2 D (.lst [])) s3.heap.objs.size (cellsFrom (s3.heap.objs.size + 1) scope.names (cloFrom X.env.cells scope.names [])) fp
  have pe := he s3 (upd H2 D (.lst [])) s3.heap.objs.size (cellsFrom (s3.heap.objs.size + 1) scope.names (cloFrom X.env.cells scope.names [])) fp
  have no3 : ∀ y ∈ fp, (upd H2 D (.lst [])) y = none := fun y hy => (f3 y hy).1.1
  show codeAny _ _ (.compStart (.ListComp elt [⟨tg, iter, ifs, 0⟩] scope pos) 0 (.ref it) (.ref D) (compEnvC scope (cellsFrom (s3.heap.objs.size + 1) scope.names (cloFrom X.env.cells scope.names [])) s3.heap.objs.size X.env)) (compPost (model X.prog X.w) X.A X.xe none (EP X pins σ Q) (.ref D) s3.heap.objs.size) { s3 with heap := pushCells (s3.heap.push { cls := .type "dict", data := .dict #[] }) scope.names }
  generalize hce : compEnvC scope (cellsFrom (s3.heap.objs.size + 1) scope.names (cloFrom X.env.cells scope.names [])) s3.heap.objs.size X.env = ce at I4 pg pt pe ⊢
  have cL : ce.locals = s3.heap.objs.size := by subst hce; rfl
  generalize hH3 : upd H2 D (.lst []) = H3 at I3 I4 pg pt pe w0 no3 f3
  generalize hs4 : ({ s3 with heap := pushCells (s3.heap.push { cls := .type "dict", data := .dict #[] }) scope.names } : Shared) = s4 at I4 ⊢
  have z4 : n ≤ s4.toks := by rw [← hs4]; exact z3
  have st4 : tn 0 s4.heap := T.keep _ _ _ st3 (fun y _ o e => by rw [← hs4]; exact pushCells_keeps _ _ _ _ (Heap.get?_push_of_some _ e))
  have stat : ∀ {τ : L2.St} {G : Hp} {s' : Shared}, Inv (X.blk s3 H3 scope ce fp) [] τ G s' → (∀ y ∈ fp, G y = none) → ∀ y ∈ fp, FpOk (X.blk s3 H3 scope ce fp) [] G y := fun {τ G s'} I' no y hy =>
    ⟨no y hy, (I'.ok.exf y hy).1, I'.ok.exfs y hy, .inl hy, fun x c e => (I'.ok.exf y hy).2 x c e, fun p hp => absurd (show p ∈ ([] : List (Addr × Obj)) ++ [] from hp) (by simp)⟩
  have loop : codeAny (model X.prog X.w) X.A (.compLoop (.ListComp elt [⟨tg, iter, ifs, 0⟩] scope pos) 0 (.ref it) (.ref D) ce) (compPost (model X.prog X.w) X.A X.xe none (EP X pins σ Q) (.ref D) s3.heap.objs.size) s4 := by
    refine compLoop_any (fun m s' => n ≤ s'.toks ∧ ∃ i G, Inv (X.blk s3 H3 scope ce fp) [] (wipe σ (own.map (·.2))) G s' ∧ tn i s'.heap ∧ (∀ y ∈ fp, G y = none) ∧ W i m G) ?_ m0 ⟨z4, 0, H3, I4, st4, no3, w0⟩
    intro m s5 hinv
    obtain ⟨z5, i, H5, I5, st5, no5, w5⟩ := hinv
    rcases turn i m H5 w5 with ⟨stop, fin⟩ | ⟨go, Nx, hNx, step⟩
    · have td := T.done (X.blk s3 H3 scope ce fp) rfl rfl rfl hc i [] s5 _ H5 (fun _ _ => False) I5 (stat I5 no5) st5 stop
      refine thnF td fun r s6 q6 => ?_
      obtain ⟨rfl, I6⟩ := q6
      have I7 : Inv X pins σ H5 s6 := I3.call' (ch := fp) I6.os I6.base I6.hok I6.bare (fun y hy => ⟨(f3 y hy).1.2.2.2.1, (f3 y hy).1.2.1, (f3 y hy).1.2.2.2.2.1, (f3 y hy).1.2.2.2.2.2⟩)
      have nC : H5 s3.heap.objs.size = none := cL ▸ (show H5 ce.locals = none from I6.free)
      obtain ⟨mm, hn, _⟩ := I6.loc
      have hn : s6.heap.Ns ce.locals mm := hn
      rw [cL] at hn
      obtain ⟨f0, f1, f2, f3', f4, f5⟩ := I3.fpOk (Nat.le_refl _) nC
      exact ⟨mm, hn, fun h7 sb => ⟨.ref D, H5, I7.turned (t' := s6.toks) (fun y o hy e => (sb.2 y hy).trans e) f0 f1 f3' f4 f5, rfl, fin⟩⟩
    · have ti := T.item (X.blk s3 H3 scope ce fp) rfl rfl rfl hc i [] s5 _ H5 (fun _ _ => False) I5 (stat I5 no5) st5 go
      refine thTF z5 ti fun r s6 z6 q6 => ?_
      obtain ⟨u, rfl, q6⟩ := q6
      refine thTF z6 q6 fun _ s7 z7 q7 => ?_
      obtain ⟨x, H7, I7, r7, y7, st7, no7⟩ := q7
      have J7 := I7.pinned (stat I7 no7) (T.obj _ _ st7)
      refine thTF z7 (pg.run _ s7 _ H7 x u _ J7 r7 (step x H7 y7)) fun _ s8 z8 q8 => ?_
      obtain ⟨σ8, H8, I8, hw8, q8⟩ := q8
      refine thTF z8 (pt.run _ s8 σ8 H8 _ I8 q8) fun k s9 z9 q9 => ?_
      obtain ⟨H9, I9, q9⟩ := q9
      have fin : ∀ {s' : Shared} {G : Hp}, n ≤ s'.toks → Inv (X.blk s3 H3 scope ce fp) ([] ++ pinsAt fp s7.heap) σ8 G s' → Nx G → ∃ m', m' < m ∧ n ≤ s'.toks ∧ ∃ j G', Inv (X.blk s3 H3 scope ce fp) [] (wipe σ (own.map (·.2))) G' s' ∧ tn j s'.heap ∧ (∀ y ∈ fp, G' y = none) ∧ W j m' G' := fun {s' G} zz I' nx => by
        obtain ⟨m', hm, w'⟩ := hNx G nx
        have pin : ∀ y ∈ fp, ∀ o, s7.heap.get? y = some o → s'.heap.get? y = some o ∧ G y = none := fun y hy o e =>
          have zz := I'.pin (y, o) (List.mem_append_right _ (List.mem_append_right _ (mem_pinsAt hy e)))
          ⟨zz.1, zz.2.1⟩
        have hl : (wipe σ (own.map (·.2))).length = σ8.length := by rw [← hw8, wipe_length]
        refine ⟨m', hm, zz, i + 1, G, (I'.unpinned (pins := [])).weak hl (fun j v e => ?_), T.keep _ _ _ st7 (fun y hy o e => (pin y hy o e).1), fun y hy => ?_, w'⟩
        · rw [← hw8] at e
          exact (wipe_some e).1
        · obtain ⟨o, e, _⟩ := T.obj _ _ st7 y hy
          exact (pin y hy o e).2
      cases k
      · simp only [Bool.false_eq_true, if_false] at q9 ⊢
        exact fin z9 I9 q9
      · simp only [if_true] at q9 ⊢
        refine thTF z9 (pe.run _ s9 σ8 H9 _ z9 I9 q9) fun yv s10 z10 q10 => ?_
        obtain ⟨y, H10, I10, r10, acc, hD10, hz10, nx⟩ := q10
        refine wpAny_mono (wpAny_toks_of z10 (app_ok (X := X.blk s3 H3 scope ce fp) I10 hD10 hz10 r10 (Q := fun _ s11 => Inv (X.blk s3 H3 scope ce fp) ([] ++ pinsAt fp s7.heap) σ8 (upd H10 D (.lst (acc ++ [y]))) s11) (E := fun _ _ => False) fun s11 I11 => I11)) (fun _ s11 q11 => fin q11.1 q11.2 nx) (fun _ _ q11 => q11.2.elim)
  exact codeAny_compStart_list loop (T.self X.A 0 _ _ _ st4 loop)
end
end DL
/-! defs that keep their promise where so many tokens are out; the layer of data over them -/
namespace DL
open PySem PySem.Spec PyProof.Rows L2
structure FnN (n : Nat) (P : Program) (w : World) (K : PySem.W.Frag) (mg : Str → Option Value) (base : Heap) (k : Nat) (f : Addr) (fd : FuncData) (ps : List Str) (sp : Sp) : Prop where
  len : ∀ vs H Q E, sp vs H Q E → vs.length = ps.length
  run : ∀ (A : Around), A.guards = some [] → Room k A → ∀ (outer : List Env) (s : Shared) (H : Hp) (args : Args) (us : List Value) (vs : List V) (Q : VK) (E : XK), n ≤ s.toks →
    Env0 P w K mg base A outer s H → BindsTo s fd args (ps.zip us) → Vals vs us → sp vs H Q E → codeAny (model P w) A (.call (.ref f) args) (CR CX0 outer P w H s Q E) s
section
variable {n : Nat} {P : Program} {w : World} {K : PySem.W.Frag} {mg : Str → Option Value} {base : Heap} {k : Nat} {f : Addr} {fd : FuncData} {ps N : List Str} {sp : Sp}
theorem FnN.of (F : FnG P w K mg base k f fd ps sp) : FnN n P w K mg base k f fd ps sp := ⟨F.len, fun A hg hr outer s H args us vs Q E _ => F.run A hg hr outer s H args us vs Q E⟩
theorem FnN.mono {j : Nat} (F : FnN n P w K mg base j f fd ps sp) (h : j ≤ k) : FnN n P w K mg base k f fd ps sp := ⟨F.len, fun A hg hr => F.run A hg (hr.mono h)⟩
theorem FnN.imp {sp' : Sp} (F : FnN n P w K mg base k f fd ps sp) (h : ∀ vs H Q E, sp' vs H Q E → sp vs H Q E) : FnN n P w K mg base k f fd ps sp' :=
  ⟨fun vs H Q E q => F.len vs H Q E (h _ _ _ _ q), fun A hg hr outer s H args us vs Q E z e0 hb r q => F.run A hg hr outer s H args us vs Q E z e0 hb r (h _ _ _ _ q)⟩
theorem Fun.okN {x qual : Str} {st : Stmt} (F : Fun K x qual st f fd) (S : FnScope N ps (defScope st)) (len : ∀ vs H Q E, sp vs H Q E → vs.length = ps.length)
    (body : ∀ (cdv : Value) (A : Around) (outer : List Env) (s : Shared) (H : Hp) (vs : List V) (Q : VK) (E : XK), A.guards = some [] → Room k (A.deeper (envOfC qual (defScope st) s.heap.objs.size f cdv)) → sp vs H Q E →
      ∃ t, Bn n (cxOf CX0 P w K mg base N qual (defScope st) f cdv A outer s H E).nox (defBody st) t ∧ t { nx := fun _ H' => Q .non H', rt := Q } (start N vs) H) : FnN n P w K mg base (k + 1) f fd ps sp := by
  refine ⟨len, fun A hgd hr outer s H args us vs Q E hz e0 hb r hsp => ?_⟩
  obtain ⟨oc, od, kV, doc, pm, an, cdv, ct, osl, rfl, lk, hcd⟩ := F.ex
  obtain ⟨t, ht, hq⟩ := body cdv A outer s H vs Q E hgd (hr.deeper _) hsp
  have keep : ∀ b o, base.get? b = some o → s.heap.get? b = some o := fun b o e => (e0.bs b o e).1
  have inK : K.In s.heap := e0.mod.kin.keeps keep
  refine codeAny_call_function hr.depth (inK _ _ lk) rfl S.co S.gen rfl (PySem.W.codeRec_of inK hcd) (hb _ _ _ _ ?_)
  refine wpAny_mono (wpAny_toks_of hz (wpAny_newFunctionEnv_cells (E := fun _ _ => False) S.kind (fun y hy => ?_) fun env he s1 hx => (show _ = _ ∧ _ from ⟨he, hx⟩))) (fun env s1 q => ?_) (fun _ _ q => q.2.elim)
  · rcases S.par y.1 (List.of_mem_zip (show (y.1, y.2) ∈ _ from hy)).1 with q | q
    · exact .inl q
    · exact .inr ⟨q, PySem.W.cellsFrom_some _ _ _ (.inl q)⟩
  · obtain ⟨hz1, he, hx⟩ := q
    subst he
    have body1 := ht.run [] s1 (start N vs) H { nx := fun _ H' => Q .non H', rt := Q } hz1 ((inv_start (CX := CX0) (E := E) (mg := mg) (P := P) (w := w) S hr.hd e0 (len _ _ _ _ hsp) r hx).wish _) hq
    refine ⟨(e0.mod.nolimit.keeps keep).keeps hx.toInCall.keep, codeAny_func ?_⟩
    refine wpAny_mono body1 (fun fl s' hs => ?_) (fun _ _ hs => hs.elim)
    have hs := hs.unwish
    match fl, hs with
    | .ret u, hs =>
      obtain ⟨v, σ', H', J, rv, q⟩ := hs
      exact ⟨v, H', J.os, J.bare, J.base, J.hok, rv, q⟩
    | .next, hs =>
      obtain ⟨σ', H', J, q⟩ := hs
      exact ⟨V.non, H', J.os, J.bare, J.base, J.hok, rfl, q⟩
    | .brk, hs => obtain ⟨_, _, _, q⟩ := hs; exact q.elim
    | .cont, hs => obtain ⟨_, _, _, q⟩ := hs; exact q.elim
end
section
variable {n : Nat} {X : Cx} {k : Nat} {f : Addr} {fd : FuncData} {ps : List Str} {sp : Sp} {x : Str} {p pos : Pos} {e : Expr} {es : List Expr} {t tk : TA} {kws : List Keyword}
theorem en_call (F : FnN n X.prog X.w X.K X.mg X.base k f fd ps sp) (hgd : X.A.guards = some []) (hr : Room k X.A) (hg : Gl X x) (hm : X.mg x = some (.ref f)) (hk : PySem.W.keepIn X.K (.ref f) = true) (hb : Binds X.K fd ps [])
    (ha : An n X (e :: es) t) (hdb : (x == ("__debug__" : Str)) = false := by decide) (he : starEach (e :: es) X.env = (false, eval e X.env) :: starEach es X.env := by rfl)
    (hpl : (backTo pos (starEach es X.env)).any (·.1) = false := by rfl) : En n X (.Call (.Name x p) (e :: es) [] pos) (tCall sp [] E0 t) := by
  constructor
  intro pins s σ H Q z I q
  refine wpAny_Call_Name_kw (ld_glob I hg hm (PySem.W.callWith_K (h₀ := X.base) I.ok.mod.kin hk (thT z (ha.run pos pins s σ H _ z I q) fun us s1 z1 q1 => ?_) he hpl) hdb)
  obtain ⟨vs, H1, I1, r, q1⟩ := q1
  have q2 : sp (vs ++ []) H1 Q E0 := q1
  rw [List.append_nil] at q2
  have hl : (us ++ []).length = ps.length := by rw [List.append_nil, ← r.length]; exact F.len _ _ _ _ q2
  have b := hb s1 us I1.kIn hl
  rw [List.append_nil] at b
  refine ⟨I1.kIn, wpAny_call (codeAny_mono (F.run X.A hgd hr X.stack s1 H1 ⟨us, []⟩ us vs Q E0 z1 I1.env0 b r q2) fun r s' y => ?_)⟩
  match r, y with
  | .ok (.ret u), y => exact I1.after y
  | .ok .next, y => exact y.elim
  | .ok .brk, y => exact y.elim
  | .ok .cont, y => exact y.elim
  | .error _, y => exact y.elim
theorem en_callK (F : FnN n X.prog X.w X.K X.mg X.base k f fd ps sp) (hgd : X.A.guards = some []) (hr : Room k X.A) (hg : Gl X x) (hm : X.mg x = some (.ref f)) (hk : PySem.W.keepIn X.K (.ref f) = true)
    (hb : ∀ (s : Shared) (us : List Value), us.length = ps.length → BindsTo s fd ⟨[], ps.zip us⟩ (ps.zip us))
    (hkw : Kn' n X kws tk) (hall : (backToKw pos (keywordEach kws X.env)).all (·.1.isSome) = true := by rfl) (hks : (backToKw pos (keywordEach kws X.env)).filterMap (·.1) = ps := by rfl)
    (hdb : (x == ("__debug__" : Str)) = false := by decide) (hpl : ((backTo pos (starEach [] X.env)).any (·.1) || (backToKw pos (keywordEach kws X.env)).any (·.1.isNone)) = false := by rfl) :
    En n X (.Call (.Name x p) [] kws pos) (tCall sp [] E0 tk) := by
  constructor
  intro pins s σ H Q z I q
  refine wpAny_Call_Name_kw (ld_glob I hg hm ?_ hdb)
  refine PySem.W.callWith_KW0 (h₀ := X.base) I.ok.mod.kin hk hall ?_ hpl
  refine thT z (hkw.run pos pins s σ H _ z I q) fun ws s2 z2 q2 => ?_
  obtain ⟨zs, H2, I2, rz, q2⟩ := q2
  have q3 : sp (zs ++ []) H2 Q E0 := q2
  rw [List.append_nil] at q3
  have hl : ws.length = ps.length := by rw [← rz.length]; exact F.len _ _ _ _ q3
  rw [hks]
  refine ⟨I2.kIn, wpAny_call (codeAny_mono (F.run X.A hgd hr X.stack s2 H2 ⟨[], ps.zip ws⟩ ws zs Q E0 z2 I2.env0 (hb s2 ws hl) rz q3) fun r s' y => ?_)⟩
  match r, y with
  | .ok (.ret u), y => exact I2.after y
  | .ok .next, y => exact y.elim
  | .ok .brk, y => exact y.elim
  | .ok .cont, y => exact y.elim
  | .error _, y => exact y.elim
end
end DL
/-! the layer of data where so many tokens are out -/
namespace DL
open PySem PySem.Spec PyProof.Rows L2
abbrev PDn (n : Nat) (X : Cx) (e : Expr) (g : G) : Prop := En n X e (tD X.K g)
abbrev PDTn (n : Nat) (X : Cx) (e : Expr) (g : GT) : Prop := Tn n X e (tDT X.K g)
abbrev PDWn (n : Nat) (X : Cx) (e : Expr) (g : GT) : Prop := Wn n X e (tDT X.K g)
abbrev PDAn (n : Nat) (X : Cx) (es : List Expr) (g : GA) : Prop := An n X es (tDA X.K g)
abbrev PDKn (n : Nat) (X : Cx) (kws : List Keyword) (g : GA) : Prop := Kn' n X kws (tDA X.K g)
abbrev PDSn (n : Nat) (X : Cx) (st : Stmt) (g : GS) : Prop := Sn n X st (tDS X.K g)
abbrev PDSsn (n : Nat) (X : Cx) (st : List Stmt) (g : GS) : Prop := Bn n X st (tDS X.K g)
structure OwnN (n : Nat) (P : Program) (w : World) (K : PySem.W.Frag) (mg : Str → Option Value) (base : Heap) (k : Nat) (x : Str) (ps : List Str) (W : WD) : Prop where
  ex : ∃ f fd, FnN n P w K mg base k f fd ps (spW K W) ∧ mg x = some (.ref f) ∧ PySem.W.keepIn K (.ref f) = true ∧ Binds K fd ps [] ∧ ∀ (s : Shared) (us : List Value), us.length = ps.length → BindsTo s fd ⟨[], ps.zip us⟩ (ps.zip us)
section
variable {n : Nat} {P : Program} {w : World} {K : PySem.W.Frag} {mg : Str → Option Value} {base : Heap} {k : Nat} {x : Str} {N ps : List Str} {W : WD}
theorem okON {st : Stmt} {g : GS} (D : DefAt K mg x st ps) (S : FnScope N ps (defScope st)) (hlen : ∀ as S P, W as S P → as.length = ps.length)
    (hb : ∀ (f : Addr) (cdv : Value) (A : Around) (outer : List Env) (s : Shared) (H : Hp) (E : XK), A.guards = some [] → Room k (A.deeper (envOfC x (defScope st) s.heap.objs.size f cdv)) →
      PDSsn n (cxOf CX0 P w K mg base N x (defScope st) f cdv A outer s H E).nox (defBody st) g)
    (hw : ∀ args S P, W args S P → g (args.map some ++ List.replicate (N.length - ps.length) none) S ⟨fun _ S' => P (.d .none) S', P, fun _ _ => False, fun _ _ => False⟩) : OwnN n P w K mg base (k + 1) x ps W := by
  obtain ⟨f, fd, F, h1, h2, h3, h4⟩ := D.ex
  refine ⟨f, fd, Fun.okN F S (fun vs H Q E h => ?_) (fun cdv A outer s H vs Q E hgd hr h => ?_), h1, h2, h3, h4⟩
  · obtain ⟨Z, As, S, args, P, rl, av, hW, _⟩ := h
    rw [av.length]
    exact hlen _ _ _ hW
  · obtain ⟨Z, As, S1, args, P1, rl, av, hW, hk⟩ := h
    have hl : vs.length = ps.length := by rw [av.length]; exact hlen _ _ _ hW
    refine ⟨_, hb f cdv A outer s H E hgd hr, Z, As, S1, _, _, rl, ?_, hw args S1 P1 hW, ?_, hk, fun _ _ _ _ _ z => z.elim, fun _ _ _ _ _ z => z.elim⟩
    · show Sl K Z As S1 H (vs.map some ++ List.replicate (N.length - vs.length) none) _
      rw [hl]
      exact Sl.start _ av
    · exact fun env' S' As' σ' H' h' po rl' sl' => hk (.d .none) S' As' .non H' h' po rl' .non
/-- the end as in okC -/
theorem okCN {st : Stmt} {g : GS} (D : DefAt K mg x st ps) (S : FnScope N ps (defScope st)) (hlen : ∀ as S P, W as S P → as.length = ps.length)
    (hb : ∀ (f : Addr) (cdv : Value) (A : Around) (outer : List Env) (s : Shared) (H : Hp) (E : XK), A.guards = some [] → Room k (A.deeper (envOfC x (defScope st) s.heap.objs.size f cdv)) →
      PDSsn n (cxOf CX0 P w K mg base N x (defScope st) f cdv A outer s H E).nox (defBody st) g)
    (hw : ∀ args S P, W args S P → g (args.map some ++ List.replicate (N.length - ps.length) none) S ⟨fun _ S' => RetC P S (.d .none) S', RetC P S, fun _ _ => False, fun _ _ => False⟩) : OwnN n P w K mg base (k + 1) x ps W := by
  obtain ⟨f, fd, F, h1, h2, h3, h4⟩ := D.ex
  refine ⟨f, fd, Fun.okN F S (fun vs H Q E h => ?_) (fun cdv A outer s H vs Q E hgd hr h => ?_), h1, h2, h3, h4⟩
  · obtain ⟨Z, As, S, args, P, rl, av, hW, _⟩ := h
    rw [av.length]
    exact hlen _ _ _ hW
  · obtain ⟨Z, As, S1, args, P1, rl, av, hW, hk⟩ := h
    have hl : vs.length = ps.length := by rw [av.length]; exact hlen _ _ _ hW
    have hk' := Kon.retC (v := .non) hk rl
    refine ⟨_, hb f cdv A outer s H E hgd hr, Z, As, S1, _, _, rl, ?_, hw args S1 P1 hW, ?_, hk', fun _ _ _ _ _ z => z.elim, fun _ _ _ _ _ z => z.elim⟩
    · show Sl K Z As S1 H (vs.map some ++ List.replicate (N.length - vs.length) none) _
      rw [hl]
      exact Sl.start _ av
    · exact fun env' S' As' σ' H' h' po rl' sl' => hk' (.d .none) S' As' .non H' h' po rl' .non
theorem OwnN.of (O : Own P w K mg base k x ps W) : OwnN n P w K mg base k x ps W := by
  obtain ⟨f, fd, F, h⟩ := O.ex
  exact ⟨f, fd, FnN.of F, h⟩
theorem OwnN.mono {j : Nat} (O : OwnN n P w K mg base j x ps W) (h : j ≤ k) : OwnN n P w K mg base k x ps W := by
  obtain ⟨f, fd, F, r⟩ := O.ex
  exact ⟨f, fd, F.mono h, r⟩
theorem OwnN.imp {W' : WD} (O : OwnN n P w K mg base k x ps W) (h : ∀ as S P, W' as S P → W as S P) : OwnN n P w K mg base k x ps W' := by
  obtain ⟨f, fd, F, r⟩ := O.ex
  refine ⟨f, fd, F.imp fun vs H Q E q => ?_, r⟩
  obtain ⟨Z, As, S, args, P, rl, av, hW, hk⟩ := q
  exact ⟨Z, As, S, args, P, rl, av, h _ _ _ hW, hk⟩
end
section
variable {n : Nat} {X : Cx} {j k : Nat} {x : Str} {ps : List Str} {W : WD} {p pos : Pos} {a b c e : Expr} {es : List Expr} {kws : List Keyword} {ga gk : GA} {g g1 g2 : G} {gt gt1 gt2 : GT} {gs gs1 gs2 : GS} {st : Stmt} {rest : List Stmt}
theorem pdn_up (h : PD X e g) : PDn n X e g := En.of h
theorem pdan_up (h : PDA X es ga) : PDAn n X es ga := An.of h
theorem pdan_nil : PDAn n X [] gNil := An.of pda_nil
theorem pdan_cons (h : PDn n X e g) (ha : PDAn n X es ga) (hs : starEach (e :: es) X.env = (false, eval e X.env) :: starEach es X.env := by rfl) : PDAn n X (e :: es) (DL.gCons g ga) := (an_cons h ha hs).wk cons_wk
theorem pdkn_nil : PDKn n X [] gNil := Kn'.of pdk_nil
theorem pdkn_cons {nm : Option Str} {kpos : Pos} (h : PDn n X e g) (ha : PDKn n X kws gk) : PDKn n X (⟨nm, e, kpos⟩ :: kws) (DL.gCons g gk) := (kn_cons h ha).wk cons_wk
theorem pdn_lst (h : PDAn n X es ga) : PDn n X (.List es pos) (fun env S P => ga env S fun as S1 => as.length ≤ sizeLine ∧ dLst as S1 P) := by
  refine (en_lst h).wk fun σ H Q h => ?_
  obtain ⟨Z, As, S, env, P, rl, sl, hg, hQ⟩ := h
  refine ⟨Z, As, S, env, _, rl, sl, hg, fun as S1 As1 xs H1 h1 po1 rl1 av1 => ?_⟩
  obtain ⟨hz, h1⟩ := h1
  refine ⟨by rw [av1.length]; exact hz, fun p np => ?_⟩
  unfold dLst at h1
  split at h1
  · rename_i ds e
    have e' := dats_eq e
    subst e'
    exact (hQ.later po1).lst rl1 np av1.to_d h1
  · exact h1.elim
theorem pdn_callB {id : String} {r : List V → Hp → VK → Prop} {R : List AV → Store → PQ → Prop} {x : Str} (hc : CallR X (.builtin id) r) (hr : VRn X.K r R) (hg : Gl X x) (hm : X.mg x = none) (hv : bootBuiltins x = some (.builtin id)) (ha : PDAn n X (e :: es) ga) (hn : x ≠ "__name__" := by decide)
    (hdb : (x == ("__debug__" : Str)) = false := by decide) (he : starEach (e :: es) X.env = (false, eval e X.env) :: starEach es X.env := by rfl) (hpl : (backTo pos (starEach es X.env)).any (·.1) = false := by rfl) :
    PDn n X (.Call (.Name x p) (e :: es) [] pos) (gApp R ga) := (en_callB hc hg hm hv ha hn hdb he hpl).wk (app_wk hr)
theorem call_wk {K : PySem.W.Frag} {σ : L2.St} {H : Hp} {Q : VK} (h : tD K (gApp W ga) σ H Q) : tCall (spW K W) [] E0 (tDA K ga) σ H Q := by
  obtain ⟨Z, As, S, env, P, rl, sl, hg, hQ⟩ := h
  refine ⟨Z, As, S, env, _, rl, sl, hg, fun as S1 As1 xs H1 h1 po1 rl1 av1 => ?_⟩
  show spW K W (xs ++ []) H1 Q E0
  rw [List.append_nil]
  exact ⟨Z, As1, S1, as, P, rl1, av1, h1, hQ.later po1⟩
theorem pdcn (O : OwnN n X.prog X.w X.K X.mg X.base j x ps W) (hgd : X.A.guards = some []) (hr : Room k X.A) (hg : Gl X x) (ha : PDAn n X (e :: es) ga) (hjk : j ≤ k := by first | decide | omega) (hdb : (x == ("__debug__" : Str)) = false := by decide)
    (he : starEach (e :: es) X.env = (false, eval e X.env) :: starEach es X.env := by rfl) (hpl : (backTo pos (starEach es X.env)).any (·.1) = false := by rfl) : PDn n X (.Call (.Name x p) (e :: es) [] pos) (gApp W ga) := by
  obtain ⟨f, fd, F, h1, h2, h3, h4⟩ := O.ex
  exact (en_call F hgd (hr.mono hjk) hg h1 h2 h3 ha hdb he hpl).wk fun _ _ _ => call_wk
theorem pdckn (O : OwnN n X.prog X.w X.K X.mg X.base j x ps W) (hgd : X.A.guards = some []) (hr : Room k X.A) (hg : Gl X x) (hkw : PDKn n X kws gk) (hjk : j ≤ k := by first | decide | omega) (hall : (backToKw pos (keywordEach kws X.env)).all (·.1.isSome) = true := by rfl)
    (hks : (backToKw pos (keywordEach kws X.env)).filterMap (·.1) = ps := by rfl) (hdb : (x == ("__debug__" : Str)) = false := by decide)
    (hpl : ((backTo pos (starEach [] X.env)).any (·.1) || (backToKw pos (keywordEach kws X.env)).any (·.1.isNone)) = false := by rfl) : PDn n X (.Call (.Name x p) [] kws pos) (gApp W gk) := by
  obtain ⟨f, fd, F, h1, h2, h3, h4⟩ := O.ex
  exact (en_callK F hgd (hr.mono hjk) hg h1 h2 h4 hkw hall hks hdb hpl).wk fun _ _ _ => call_wk
theorem pdn_eq (hr : Room k X.A) (h1 : PDn n X a g1) (h2 : PDn n X b g2) : PDn n X (.Compare a [.Eq] [b] pos) (gBin (dEq false) g1 g2) := (en_cmp (OpRor op_eq (op_eqD (by have := room_eq hr; omega))) h1 h2 (nobehind _ (by decide) (by decide))).wk (bin_wk vr_eq)
theorem pdn_ne (hr : Room k X.A) (h1 : PDn n X a g1) (h2 : PDn n X b g2) : PDn n X (.Compare a [.NotEq] [b] pos) (gBin (dEq true) g1 g2) := (en_cmp (OpRor op_ne (op_neD (by have := room_eq hr; omega))) h1 h2 (nobehind _ (by decide) (by decide))).wk (bin_wk vr_ne)
theorem pdtn_eq (hr : Room k X.A) (h1 : PDn n X a g1) (h2 : PDn n X b g2) : PDTn n X (.Compare a [.Eq] [b] pos) (gTest (gBin (dEq false) g1 g2)) := (tn_cmp (OpRor op_eq (op_eqD (by have := room_eq hr; omega))) h1 h2 (nobehind _ (by decide) (by decide))).wk (test_wk (bin_wk vr_eq))
theorem pdtn_ne (hr : Room k X.A) (h1 : PDn n X a g1) (h2 : PDn n X b g2) : PDTn n X (.Compare a [.NotEq] [b] pos) (gTest (gBin (dEq true) g1 g2)) := (tn_cmp (OpRor op_ne (op_neD (by have := room_eq hr; omega))) h1 h2 (nobehind _ (by decide) (by decide))).wk (test_wk (bin_wk vr_ne))
theorem pdtn_up (h : PDT X e gt) : PDTn n X e gt := Tn.of h
theorem pdtn_val (h : PDn n X e g) (he : ∀ whole, isTrue e X.env whole = (do let v ← whole; standAt e.pos; holding [v] (truthy v)) := by intro _; rfl) : PDTn n X e (gTest g) := (tn_val h he).wk (test_wk (t := tD X.K g) fun _ _ _ h => h)
theorem pdtn_w (h : PDWn n X e gt) : PDTn n X e gt := h.tn
theorem pdwn_or1 (h : PDTn n X a gt) : PDWn n X (.BoolOp .Or [a] pos) gt := wn_or1 h
theorem pdwn_or (h1 : PDTn n X a gt1) (h2 : PDWn n X (.BoolOp .Or (b :: es) pos) gt2) : PDWn n X (.BoolOp .Or (a :: b :: es) pos) (gOr gt1 gt2) := by
  refine (wn_or h1 h2).wk fun σ H Q h => ?_
  obtain ⟨Z, As, S, env, P, rl, sl, hg, hQ⟩ := h
  refine ⟨Z, As, S, env, _, rl, sl, hg, fun c S1 As1 H1 h1 po1 rl1 => ?_⟩
  cases c with
  | false => exact ⟨Z, As1, S1, env, P, rl1, sl.po po1, h1, hQ.later po1⟩
  | true => exact hQ true S1 As1 H1 h1 po1 rl1
theorem pdtn_not (h : PDTn n X a gt) : PDTn n X (.UnaryOp .Not a pos) (gNot gt) := by
  refine (tn_not h).wk fun σ H Q h => ?_
  obtain ⟨Z, As, S, env, P, rl, sl, hg, hQ⟩ := h
  exact ⟨Z, As, S, env, _, rl, sl, hg, fun c S1 As1 H1 h1 po1 rl1 => hQ (!c) S1 As1 H1 h1 po1 rl1⟩
theorem pdsn_up (h : PDS X st gs) : PDSn n X st gs := Sn.of h
theorem pdssn_up (h : PDSs X rest gs) : PDSsn n X rest gs := Bn.of h
theorem pdsn_ret (h : PDn n X e g) : PDSn n X (.Return (some e) pos) (gsRet g) := (sn_ret h).wk fun D σ H h => by
  obtain ⟨Z, As, S, env, E, rl, sl, hg, k1, k2, k3, k4⟩ := h
  exact ⟨Z, As, S, env, _, rl, sl, hg, k2⟩
theorem pdsn_if {l l2 : List Stmt} (hc : PDTn n X c gt) (h1 : PDSsn n X l gs1) (h2 : PDSsn n X l2 gs2) : PDSn n X (.If c l l2 pos) (gsIf gt gs1 gs2) := (sn_if hc h1 h2).wk fun D σ H h => by
  obtain ⟨Z, As, S, env, E, rl, sl, hg, k1, k2, k3, k4⟩ := h
  refine ⟨Z, As, S, env, _, rl, sl, hg, fun c S' As' H' h' po rl' => ?_⟩
  cases c with
  | true => exact ⟨Z, As', S', env, E, rl', sl.po po, h', k1.later po, k2.later po, k3.later po, k4.later po⟩
  | false => exact ⟨Z, As', S', env, E, rl', sl.po po, h', k1.later po, k2.later po, k3.later po, k4.later po⟩
theorem pdsn_set {i : Nat} {pos' : Pos} (hN : X.N.Nodup) (hi : X.N[i]? = some x) (hx : Loc X.env.scope x) (he : PDn n X e g) (hs : swapsWith e (some (.Name x pos')) pos.line X.env = pure false := by rfl)
    (hf : X.fn x = true ∨ X.env.scope.names.lookup x = some .local := by first | exact .inl rfl | exact .inr rfl | assumption) : PDSn n X (.Assign [.Name x pos'] e pos) (gsAsg g (ggName i)) := (sn_set (i := i) hN hi hx he hs hf).wk fun D σ H h => by
  obtain ⟨Z, As, S, env, E, rl, sl, hg, k1, k2, k3, k4⟩ := h
  exact ⟨Z, As, S, env, _, rl, sl, hg, fun r S' As' v H' h' po rl' av => k1 _ S' As' _ H' h' po rl' ((sl.po po).set av)⟩
theorem pdssn_cons (h1 : PDSn n X st gs1) (h2 : PDSsn n X rest gs2) : PDSsn n X (st :: rest) (gsSeq gs1 gs2) := (bn_cons h1 h2).wk fun D σ H h => by
  obtain ⟨Z, As, S, env, E, rl, sl, hg, k1, k2, k3, k4⟩ := h
  refine ⟨Z, As, S, env, _, rl, sl, hg, fun env' S' As' σ' H' h' po rl' sl' => ?_, k2, k3, k4⟩
  exact ⟨Z, As', S', env', E, rl', sl', h', k1.later po, k2.later po, k3.later po, k4.later po⟩
theorem pdssn_one (h : PDSn n X st gs) : PDSsn n X [st] gs := bn_one h
theorem pdsn_for {tg iter : Expr} {body : List Stmt} {gi : GI} {gg : GG} {gb : GS} (hp : PassesOwn (model X.prog X.w) X.A X.env X.xe) (hc : X.calm = true) (hi : PDI X tg iter gi) (hg : PDG X tg gg) (hb : PDSsn n X body gb)
    (hs : ∀ x, foldedSetIterable iter X.env x = pure x := by intro _; rfl) : PDSn n X (.For tg iter body [] pos) (gsFor gi gg gb) := (sn_for hp hc hi hg hb hs).wk for_wk
theorem pdn_lc {elt tg iter : Expr} {ifs : List Expr} {scope : Scope} {own : List (Str × Nat)} {gi : GI} {g : TG} {gg : GG} {gt : GT} {ge : G} (hc : X.calm = true) (hN : X.N.Nodup) (hi : PDI X tg iter gi) (ok : BlkOk X.N X.env.scope scope own)
    (cg : CG X.K g gg (own.map (·.2)))
    (hg : ∀ (s : Shared) (H : Hp) (C : Addr) (cl : List (Str × Addr)) (fp : List Addr), PG (X.blk s H scope (compEnvC scope cl C X.env) fp) tg g) (ht : ∀ (s : Shared) (H : Hp) (C : Addr) (cl : List (Str × Addr)) (fp : List Addr), PTs (X.blk s H scope (compEnvC scope cl C X.env) fp) ifs (tDT X.K gt))
    (he : ∀ (s : Shared) (H : Hp) (C : Addr) (cl : List (Str × Addr)) (fp : List Addr), En n (X.blk s H scope (compEnvC scope cl C X.env) fp) elt (tD X.K ge)) (hs : ∀ x, foldedSetIterable iter X.env x = pure x := by intro _; rfl) :
    PDn n X (.ListComp elt [⟨tg, iter, ifs, 0⟩] scope pos) (gComp (own.map (·.2)) gi gg gt ge) := (en_lc hc hN hi ok hg ht he hs).wk (comp_wk cg)
/-- a try that nothing is raised in -/
theorem pds_thru {body : List Stmt} {h₀ : ExceptHandler} {hs : List ExceptHandler} (h : PDSs X.nox body gs) : PDS X (.Try body (h₀ :: hs) [] [] pos) gs := ps_try_thru0 h
end
end DL
/-! x, *y = a tuple; a, b, c = a list; (x, *y); own.pop(); while; texts that begin so -/
namespace DL
open PySem PySem.Spec PyProof.Rows L2
/-! ### x, *y = t, on the machine -/
theorem Walks.later {prog : Program} {w : World} {A : Around} {I : Addr} {fp wr : List Addr} {m : Nat} {P : Nat → Value → Prop} {St : Nat → Heap → Prop} (W : Walks prog w A I fp wr (m + 1) P St) : Walks prog w A I fp wr m (fun i => P (i + 1)) (fun i => St (i + 1)) :=
  ⟨W.sub, fun i h h' => W.frame (i + 1) h h', fun i s Q E hi => W.item (i + 1) s Q E (by omega), fun s Q E => W.done s Q E, fun i s Q E => W.self (i + 1) s Q E⟩
section
variable {prog : Program} {w : World} {A : Around} {E : Value → Shared → Prop} {s : Shared}
theorem unpack_star {t : Addr} {x : Value} {xs : List Value} {f g : Value → Sem Unit} {Q : Unit → Shared → Prop} (hh : A.handled = none) (ht : s.heap.IsTuple t (x :: xs).toArray) (hz : xs.length ≤ sizeLine)
    (h : ∀ (h2 : Heap) (tk : Tok), (∀ b o, s.heap.get? b = some o → h2.get? b = some o) →
      wpAny (model prog w) A (assignInOrder [f, g] [x, .ref h2.objs.size]) Q E { s with heap := h2.push { cls := .type "list", data := .seq xs.toArray }, toks := tk }) : wpAny (model prog w) A (unpack (.ref t) [(false, f), (true, g)]) Q E s := by
  have hlt : t ≠ s.heap.objs.size := by obtain ⟨o, ho, _⟩ := ht; exact Nat.ne_of_lt (Heap.lt_size ho)
  have hsz : (x :: xs).toArray.size = xs.length + 1 := by simp
  unfold unpack
  show wpAny _ _ (holding [.ref t] (unpackItems (.ref t) 2 (some 1)) >>= _) _ _ s
  refine wpAny_bind (wpAny_holding ?_)
  unfold unpackItems
  refine wpAny_bind ?_
  unfold notIterableAtAll
  refine wpAny_bind (wpAny_specialOf ht.typeIs F.slot_tuple_iter.lookup ?_)
  refine wpAny_pure ?_
  simp only [Bool.false_eq_true, if_false]
  refine wpAny_bind (wpAny_holding (wpAny_pyIter_tuple ht ?_))
  refine wpAny_bind (wpAny_holding (wpAny_draw_tuple hlt 1 0 _ _ ⟨_, Heap.get?_push_size _ rfl, rfl, rfl⟩ (ht.push _) (by rw [hsz]; omega) fun h1 it1 sb1 => ?_))
  have hd : List.take 1 (List.drop 0 (x :: xs).toArray.toList) = [x] := by simp
  rw [hd, if_neg (by simp)]
  have ht1 : h1.IsTuple t (x :: xs).toArray := (ht.push _).extBut sb1.extBut hlt
  have s1sz : s.heap.objs.size < h1.objs.size := by
    obtain ⟨o, ho, _⟩ := it1
    exact Heap.lt_size ho
  have W : Walks prog w A.in1 s.heap.objs.size [s.heap.objs.size, t] [s.heap.objs.size] (xs.length + 1) (fun i v => (x :: xs).toArray[i]? = some v) (fun i h => h.IsTupleIter s.heap.objs.size t i ∧ h.IsTuple t (x :: xs).toArray) := by
    have W0 := Walks.tuple (prog := prog) (w := w) (A := A.in1) hh s.heap.objs.size t hlt (x :: xs).toArray
    rw [hsz] at W0
    exact W0
  refine wpAny_bind (wpAny_holding (wpAny_collect_iter (s := { s with heap := h1 }) (.inr (.inr (.inr rfl))) (Walks.later W).toS (fun i s' st => st.1.typeIs) ⟨it1, ht1⟩ (fun b hb => ?_) (by simp) (fun s2 acc mv ia => ?_) hz))
  · have e : b = s.heap.objs.size ∨ b = t := by simpa using hb
    rcases e with rfl | rfl
    · exact s1sz
    · obtain ⟨o, ho, _⟩ := ht1
      exact Heap.lt_size ho
  · have ea : acc.toList = xs := by
      refine List.ext_getElem? fun i => ?_
      rw [Array.getElem?_toList]
      by_cases hi : i < xs.length
      · have hi2 : i < acc.size := by rw [ia.1]; exact hi
        have e1 : acc[i]? = some acc[i] := by simp [hi2]
        have e2 := ia.2 i _ e1
        rw [e1]
        have e3 : (x :: xs).toArray[i + 1]? = xs[i]? := by simp
        rw [← e3]
        exact e2.symm
      · rw [List.getElem?_eq_none (by omega)]
        have : acc.size ≤ i := by rw [ia.1]; omega
        simp [this]
    rw [ea]
    obtain ⟨h2, g2, d2, t2, o2⟩ := s2
    obtain ⟨mh, mg, md, mo, mt⟩ := mv
    have mg : g2 = s.gens := mg
    have md : d2 = s.drawn := md
    have mo : o2 = s.os := mo
    subst mg md mo
    have old : ∀ b o, s.heap.get? b = some o → h2.get? b = some o := fun b o e => by
      have nb : b ≠ s.heap.objs.size := Nat.ne_of_lt (Heap.lt_size e)
      exact mh b o (by simpa using nb) (sb1.extBut b o nb (Heap.get?_push_of_some _ e))
    dsimp only
    rw [if_neg (by simp)]
    refine wpAny_bind (wpAny_newList ?_ (by simp; omega))
    refine wpAny_pure ?_
    have e4 : (xs.take (xs.length - (2 - 1 - 1))) = xs := by simp
    have e5 : (xs.drop (xs.length - (2 - 1 - 1))) = [] := by simp
    rw [e4, e5]
    exact h h2 t2 old
end
/-! ### the same over the layer -/
section
variable {X : Cx} {e : Expr} {es : List Expr} {pos : Pos}
def gStar2 (K : PySem.W.Frag) (t : TGs) : TG := fun v σ H Q => ∃ a x xs, v = .ref a ∧ SqT K H a (x :: xs) ∧ ∀ p, H p = none → t [x, .ref p] σ (upd H p (.lst xs)) Q
theorem pg_star2 {tx ty : Expr} {k : Nat} {sp : Pos} {t : TGs} (hc : X.calm = true) (h : PGs X [tx, ty] t) (hs : (assignEach [tx, .Starred ty sp] X.env) = [(false, assign tx X.env), (true, assign ty X.env)] := by rfl) (hs2 : (assignEach [tx, ty] X.env).map (·.2) = [assign tx X.env, assign ty X.env] := by rfl) :
    PG X (.Tuple [tx, .Starred ty sp] k pos) (gStar2 X.K t) := by
  constructor
  intro pins s σ H v u Q I r hw
  obtain ⟨a, x, xs, rfl, hq, hw⟩ := hw
  cases r
  obtain ⟨its, rv, ht, hz⟩ := I.tuple hq
  cases rv with
  | @cons x y xs its r1 rv =>
    have ht' : s.heap.IsTuple a (y :: its).toArray := by
      obtain ⟨o, ho, hc, n, hd⟩ := ht
      exact ⟨o, ho, hc, n, hd⟩
    have hl := rv.length
    have hz' : xs.length + 1 ≤ sizeLine := hz
    rw [PyProof.Rows.assign_Tuple, hs]
    refine wpAny_bind (wpAny_standAt (unpack_star (I.ok.hd hc) ht' (by omega) fun h2 tk old => ?_))
    have I1 : Inv X pins σ H { s with heap := h2, toks := tk } := I.kept old
    have I2 : Inv X pins σ (upd H h2.objs.size (.lst xs)) { s with heap := h2.push { cls := .type "list", data := .seq its.toArray }, toks := tk } :=
      I1.laid (t' := tk) (fun b o e => Heap.get?_push_of_some _ e) (Nat.le_refl _) ⟨by omega, its, 0, rv, Heap.get?_push_size _ rfl⟩
    have z := h.run pins _ σ _ [x, .ref h2.objs.size] [y, .ref h2.objs.size] Q I2 (.cons r1 (.cons rfl .nil)) (hw _ (I1.hok.fresh (Nat.le_refl _)))
    rw [hs2] at z
    exact z
/-- a tuple taken apart, the rest as a list -/
def ggStar (gs : GGs) : GG := fun a env S P => match vw S a with
  | some (.tuple (d :: ds)) => gs [.d d, .d (.list ds)] env S P
  | _ => False
theorem pdg_star {tx ty : Expr} {k : Nat} {sp : Pos} {gs : GGs} (hc : X.calm = true) (h : PDGs X [tx, ty] gs) (hs : (assignEach [tx, .Starred ty sp] X.env) = [(false, assign tx X.env), (true, assign ty X.env)] := by rfl) (hs2 : (assignEach [tx, ty] X.env).map (·.2) = [assign tx X.env, assign ty X.env] := by rfl) :
    PDG X (.Tuple [tx, .Starred ty sp] k pos) (ggStar gs) := PGwk (pg_star2 hc h hs hs2) fun v σ H Q h => by
  obtain ⟨Z, As, S, env, a, P, rl, sl, av, hg, k⟩ := h
  unfold ggStar at hg
  split at hg
  · rename_i d ds e1
    obtain ⟨p, vs, rfl, hp, t⟩ := vw_tup av e1
    cases t with
    | @cons x xs _ _ t1 t2 =>
      refine ⟨p, x, xs, rfl, hp, fun q nq => ?_⟩
      have po : Po Z As S H As S (upd H q (.lst xs)) := Po.new rl nq
      have rl' := rl.new (o := .lst xs) nq
      exact ⟨Z, As, S, env, _, P, rl', sl.po po, .cons (a := .d d) (DV.ex po.ext _ _ t1) (.cons (a := .d (.list ds)) (DV.lst (rl.notLive nq) upd_same (DVs.ex po.ext _ _ t2)) .nil), hg, k.later po⟩
  · exact hg.elim
/-- a list taken apart -/
def ggUnl (n : Nat) (gs : GGs) : GG := fun a env S P => match vw S a with
  | some (.list ds) => ds.length = n ∧ gs (ds.map .d) env S P
  | _ => False
theorem vw_listD {K : PySem.W.Frag} {Z As : List Addr} {S : Store} {H : Hp} {v : V} {a : AV} (r : Rl K Z As S H) (h : AVr K Z As S H v a) {ds : List PyData} (e : vw S a = some (.list ds)) : ∃ p vs, v = .ref p ∧ H p = some (.lst vs) ∧ AVs K Z As S H vs (ds.map .d) := by
  obtain ⟨p, vs, h1, h2, h3⟩ := vw_list r h e
  exact ⟨p, vs, h1, h2, AVs.of_d h3⟩
theorem pdg_unl {gs : GGs} {k : Nat} {n : Nat} (hc : X.calm = true) (h : PDGs X es gs) (hn : (assignEach es X.env).length = n := by rfl) (hst : (assignEach es X.env).findIdx? (·.1) = none := by rfl) : PDG X (.Tuple es k pos) (ggUnl n gs) :=
  PGwk (pg_unl hc h hn hst) fun v σ H Q h => by
    obtain ⟨Z, As, S, env, a, P, rl, sl, av, hg, k⟩ := h
    unfold ggUnl at hg
    split at hg
    · rename_i ds e1
      obtain ⟨p, vs, rfl, hp, t⟩ := vw_listD rl av e1
      refine ⟨p, vs, rfl, .inl (.inl hp), ?_, Z, As, S, env, _, P, rl, sl, t, hg.2, k⟩
      rw [t.length, List.length_map]
      exact hg.1
    · exact hg.elim
/-- (.., *e, ..) -/
def gStarA (g : G) (ga : GA) : GA := fun env S P => g env S fun a S1 => match vw S1 a with
  | some (.list ds) => ga env S1 fun as S2 => P (ds.map .d ++ as) S2
  | some (.tuple ds) => ga env S1 fun as S2 => P (ds.map .d ++ as) S2
  | _ => False
theorem pda_star {p : Pos} {g : G} {ga : GA} (he : PD X e g) (ha : PDA X es ga) (hs : starEach (.Starred e p :: es) X.env = (true, eval e X.env) :: starEach es X.env := by rfl) : PDA X (.Starred e p :: es) (gStarA g ga) := PAwk (StX.pa_star he ha hs) fun σ H Q h => by
  obtain ⟨Z, As, S, env, P, rl, sl, hg, hQ⟩ := h
  refine ⟨Z, As, S, env, _, rl, sl, hg, fun a S1 As1 x H1 h1 po1 rl1 av1 => ?_⟩
  split at h1
  · rename_i ds e1
    obtain ⟨q, vs, rfl, hq, t⟩ := vw_list rl1 av1 e1
    refine ⟨q, vs, rfl, .inr (.inl (.inl hq)), Z, As1, S1, env, _, rl1, sl.po po1, h1, fun as S2 As2 ys H2 h2 po2 rl2 av2 => ?_⟩
    exact hQ _ _ _ _ _ h2 (po1.trans po2) rl2 ((AVs.of_d (DVs.ex po2.ext _ _ t)).append av2)
  · rename_i ds e1
    obtain ⟨q, vs, rfl, hq, t⟩ := vw_tup av1 e1
    refine ⟨q, vs, rfl, .inl hq, Z, As1, S1, env, _, rl1, sl.po po1, h1, fun as S2 As2 ys H2 h2 po2 rl2 av2 => ?_⟩
    exact hQ _ _ _ _ _ h2 (po1.trans po2) rl2 ((AVs.of_d (DVs.ex po2.ext _ _ t)).append av2)
  · exact h1.elim
/-! ### own.pop() -/
def dPop : AV → List AV → Store → PQ → Prop := fun a _ S P => match a with
  | .m k => match S[k]? with
    | some (.lst xs) => match xs[xs.length - 1]? with
      | some b => P b (S.set k (.lst xs.dropLast))
      | none => False
    | _ => False
  | _ => False
theorem AVs.init {K : PySem.W.Frag} {Z As : List Addr} {S : Store} {H : Hp} {vs : List V} {as : List AV} (h : AVs K Z As S H vs as) : AVs K Z As S H vs.dropLast as.dropLast := by
  induction h with
  | nil => exact .nil
  | @cons v vs a as x t ih =>
    cases t with
    | nil => exact .nil
    | cons y t => exact .cons x ih
theorem vr_pop {K : PySem.W.Frag} : ∀ Z As S H x a P Q, Rl K Z As S H → AVr K Z As S H x a → dPop a [] S P → Kon K Z As S H P Q → rPop x [] H Q := by
  intro Z As S H x a P Q rl av h k
  unfold dPop at h
  split at h
  · rename_i j
    split at h
    · rename_i ys e
      split at h
      · rename_i b eb
        obtain ⟨p, rfl, hA⟩ := av
        obtain ⟨vs, e2, q⟩ := (show ∃ vs, H p = some (.lst vs) ∧ AVs K Z As S H vs ys from rl.at_ j p _ hA e)
        obtain ⟨v, ev, rv⟩ := q.get eb
        obtain ⟨po, rl'⟩ := put_mut (o' := .lst ys.dropLast) (u := .lst vs.dropLast) rl hA e (by simp) (by simp) fun ex e3 => ⟨_, e3, q.init.ex ex ⟨[], by simp⟩⟩
        exact ⟨p, vs, v, rfl, rfl, e2, by rw [q.length]; exact ev, k b _ As v _ h po rl' (rv.po po)⟩
      · exact h.elim
    · exact h.elim
  · exact h.elim
def gM0 (T : String) (R : AV → List AV → Store → PQ → Prop) (g : G) : G := fun env S P => g env S fun a S1 => kdOk T S1 a ∧ R a [] S1 P
theorem pd_pop {o : Expr} {g : G} {apos cpos : Pos} (ho : PD X o g) (hbase : attributeBase o "pop" X.env (eval o X.env) = eval o X.env := by rfl) (hline : (apos.endLine == cpos.line) = true := by rfl) : PD X (.Call (.Attribute o "pop" apos) [] [] cpos) (gM0 "list" dPop g) :=
  PEwk (pe_bm0 PySem.F.plainAttrs_list PySem.F.slot_list_pop PySem.F.type_list_pop mt_pop ho hbase hline) fun σ H Q h => by
    obtain ⟨Z, As, S, env, P, rl, sl, hg, hQ⟩ := h
    refine ⟨Z, As, S, env, _, rl, sl, hg, fun a S1 As1 x H1 h1 po1 rl1 av1 => ⟨kd_ty rl1 av1 h1.1, ?_⟩⟩
    exact vr_pop Z As1 S1 H1 x a P Q rl1 av1 h1.2 (hQ.later po1)
/-! ### while -/
/-- a loop by a bound of its turns -/
def gsWhile (gt : GT) (gb : GS) : GS := fun env S D => ∃ W : Nat → DEnv → Store → Prop, (∃ m, W m env S) ∧ ∀ m env S, W m env S → gt env S fun b S1 => cond b (∃ N : DEnv → Store → Prop, (∀ env' S', N env' S' → ∃ m', m' < m ∧ W m' env' S') ∧ gb env S1 { nx := N, rt := D.rt, bk := D.nx, ct := N }) (D.nx env S1)
theorem while_wk {K : PySem.W.Frag} {gt : GT} {gb : GS} (D : Ends) (σ : L2.St) (H : Hp) (h : tDS K (gsWhile gt gb) D σ H) : tWhile (tDT K gt) (tDS K gb) D σ H := by
  obtain ⟨Z, As, S, env, E, rl, sl, ⟨W, ⟨m0, w0⟩, turn⟩, k1, k2, k3, k4⟩ := h
  refine ⟨fun m σ' H' => ∃ As' S' env', Po Z As S H As' S' H' ∧ Rl K Z As' S' H' ∧ Sl K Z As' S' H' σ' env' ∧ W m env' S', ⟨m0, As, S, env, Po.refl, rl, sl, w0⟩, ?_⟩
  rintro m σ1 H1 ⟨As1, S1, env1, po1, rl1, sl1, w1⟩
  refine ⟨Z, As1, S1, env1, _, rl1, sl1, turn m env1 S1 w1, fun b S2 As2 H2 h2 po2 rl2 => ?_⟩
  have p2 := po1.trans po2
  cases b with
  | false => exact (if_neg (by decide)).mpr (k1 env1 S2 As2 σ1 H2 h2 p2 rl2 (sl1.po po2))
  | true =>
    obtain ⟨N, hN, hb⟩ := h2
    refine (if_pos rfl).mpr ⟨fun σ' H' => ∃ As' S' env', Po Z As S H As' S' H' ∧ Rl K Z As' S' H' ∧ Sl K Z As' S' H' σ' env' ∧ N env' S', ?_, Z, As2, S2, env1, _, rl2, sl1.po po2, hb, ?_, k2.later p2, k1.later p2, ?_⟩
    · rintro σ' H' ⟨As', S', env', po', rl', sl', n'⟩
      obtain ⟨m', hm, w'⟩ := hN env' S' n'
      exact ⟨m', hm, As', S', env', po', rl', sl', w'⟩
    · exact fun env' S' As' σ' H' h' po' rl' sl' => ⟨As', S', env', p2.trans po', rl', sl', h'⟩
    · exact fun env' S' As' σ' H' h' po' rl' sl' => ⟨As', S', env', p2.trans po', rl', sl', h'⟩
theorem pds_while {c : Expr} {body : List Stmt} {gt : GT} {gb : GS} (hp : PassesOwn (model X.prog X.w) X.A X.env X.xe) (hc : PDT X c gt) (hb : PDSs X body gb) : PDS X (.While c body [] pos) (gsWhile gt gb) := PSwk (ps_while hp hc hb) while_wk
/-! ### texts -/
def dRmp : AV → List AV → Store → PQ → Prop := fun a as S P => match a, as with
  | .d (.str x), [.d (.str y)] => (Txt.removeprefix x y).length ≤ sizeLine ∧ P (.d (.str (Txt.removeprefix x y))) S
  | _, _ => False
def dStw : AV → List AV → Store → PQ → Prop := fun a as S P => match a, as with
  | .d (.str x), [.d (.str y)] => P (.d (.bool (Txt.startswith x y))) S
  | _, _ => False
theorem str_le {K : PySem.W.Frag} {L : Addr → Prop} {H : Hp} {v : V} {x : Str} (h : DV K L H v (.str x)) : v = .str x ∧ x.length ≤ sizeLine := by
  cases h with
  | str _ z => exact ⟨rfl, z⟩
theorem vr_stw {K : PySem.W.Frag} : VRm K (fun x xs H Q => ∃ a b, x = .str a ∧ xs = [.str b] ∧ Q (.bl (Txt.startswith a b)) H) dStw := by
  intro Z As S H x xs a as P Q rl av avs h k
  unfold dStw at h
  split at h
  · rename_i u v
    cases avs with
    | cons b1 t =>
      cases t
      obtain ⟨rfl, _⟩ := str_le av
      obtain ⟨rfl, _⟩ := str_le b1
      exact ⟨u, v, rfl, rfl, k.d rl (fun _ => .bl _) h⟩
  · exact h.elim
theorem vr_rmp {K : PySem.W.Frag} : VRm K (fun x xs H Q => ∃ a b, x = .str a ∧ xs = [.str b] ∧ a.length ≤ sizeLine ∧ Q (.str (Txt.removeprefix a b)) H) dRmp := by
  intro Z As S H x xs a as P Q rl av avs h k
  unfold dRmp at h
  split at h
  · rename_i u v
    cases avs with
    | cons b1 t =>
      cases t
      obtain ⟨rfl, hu⟩ := str_le av
      obtain ⟨rfl, _⟩ := str_le b1
      exact ⟨u, v, rfl, rfl, hu, k.d rl (fun _ => .str _ h.1) h.2⟩
  · exact h.elim
end
end DL
/-! text.replace(a constant of the module, a text just made), .split(..), [::-1], where so many tokens are out -/
namespace DL
open PySem PySem.Spec PyProof.Rows L2
/-- an expression whose text is made anew -/
structure Fresh (n : Nat) (X : Cx) (e : Expr) (z : Str) : Prop where
  run : ∀ (pins : List (Addr × Obj)) (s : Shared) (σ : L2.St) (H : Hp) (R : Value → Shared → Prop), n ≤ s.toks → Inv X pins σ H s → (∀ (t : Tok) (k : Nat), n ≤ t → R (.str z t) { s with toks := k }) → wpAny (model X.prog X.w) X.A (eval e X.env) R X.xe s
section
variable {n : Nat} {X : Cx} {e e2 : Expr} {te : TE} {x y z c : Str} {t : Tok} {p q cp pos apos : Pos} {j : Nat}
theorem fresh_gc (hg : Gl X x) (hm : X.mg x = some (.str y t)) (hy : (y.length == 0) = false) (hc : (c.length == 0) = false) (hz : (y ++ c).length ≤ sizeLine) (hd : (x == ("__debug__" : Str)) = false := by decide) : Fresh n X (.BinOp (.Name x p) .Add (.Constant (.str c) j cp) pos) (y ++ c) := by
  constructor
  intro pins s σ H R hn I h
  refine wpAny_BinOp (ld_glob I hg hm (Calls.Constant_str (P.add_str ?_)) hd)
  rw [hy, hc]
  exact ⟨hz, h _ _ (by show n ≤ s.toks + 1; omega)⟩
theorem fresh_cg (hg : Gl X x) (hm : X.mg x = some (.str y t)) (hy : (y.length == 0) = false) (hc : (c.length == 0) = false) (hz : (c ++ y).length ≤ sizeLine) (hd : (x == ("__debug__" : Str)) = false := by decide) : Fresh n X (.BinOp (.Constant (.str c) j cp) .Add (.Name x p) pos) (c ++ y) := by
  constructor
  intro pins s σ H R hn I h
  refine wpAny_BinOp (Calls.Constant_str (ld_glob (I.tok (s.toks + 1)) hg hm (P.add_str ?_) hd))
  rw [hy, hc]
  exact ⟨hz, h _ _ (by show n ≤ s.toks + 1; omega)⟩
def tRepG (to : TE) (y z : Str) : TE := fun σ H Q => to σ H fun v H1 => ∃ u, v = .str u ∧ u.length + (u.length + 1) * z.length ≤ 16777216 ∧ Q (.str (Txt.replace u y z)) H1
theorem en_repG (hg : Gl X x) (hm : X.mg x = some (.str y t)) (ht : t ≠ 0) (htn : t < n) (hyz : (y == z) = false) (ho : En n X e te) (hf : Fresh n X e2 z)
    (hst : starEach [.Name x p, e2] X.env = [(false, eval (.Name x p) X.env), (false, eval e2 X.env)] := by rfl) (hbase : attributeBase e "replace" X.env (eval e X.env) = eval e X.env := by rfl) (hline : (apos.endLine == pos.line) = true := by rfl) (hd : (x == ("__debug__" : Str)) = false := by decide) :
    En n X (.Call (.Attribute e "replace" apos) [.Name x p, e2] [] pos) (tRepG te y z) := by
  constructor
  intro pins s σ H Q hn I h
  refine PySem.Call_method2 hbase hst hline (thT hn (ho.run pins s σ H _ hn I h) fun v s1 hn1 q1 => ?_)
  obtain ⟨v', H1, I1, r1, u, rfl, hb, q⟩ := q1
  obtain ⟨tx, rfl⟩ := r1
  refine ⟨"str", _, PySem.F.plainAttrs_str, PySem.F.slot_str_replace, PySem.F.type_str_replace, typeIs_str _ _ _, (fun _ e => nomatch e), Calls.callWith_builtin rfl (Calls.evalArgs_plain (Calls.spliced_cons ?_))⟩
  refine ld_glob I1 hg hm (Calls.spliced_cons (hf.run pins s1 σ H1 _ hn1 I1 fun tk k hk => Calls.spliced_nil ?_)) hd
  have ne : t ≠ tk := fun w => absurd (show n ≤ t from w ▸ hk) (Nat.not_le.mpr htn)
  have z0 : tk ≠ 0 := fun w => absurd (show t < 0 from Nat.lt_of_lt_of_le htn (w ▸ hk)) (Nat.not_lt_zero _)
  exact PySem.SC.replace ht z0 ne hyz hb fun t' k' => ⟨.str (Txt.replace u y z), H1, I1.tok k', ⟨t', rfl⟩, q⟩
theorem en_bm1 {name : Str} {T id : String} {r : V → List V → Hp → VK → Prop} {t : TA} {a : Expr} (pa : PlainAttrs T) (slot : Slot T name id) (hty : typeOf (.builtin id) = pure (.type "method_descriptor")) (hm : MtR X id r) (ho : En n X e te) (ha : PA X [a] t)
    (hbase : attributeBase e name X.env (eval e X.env) = eval e X.env := by rfl)
    (hfew : ((backTo pos (starEach [a] X.env)).all (fun x => !x.1) && (backToKw pos (keywordEach [] X.env)).all (fun x => x.1.isSome)
      && decide ([a].length + ([] : List Keyword).length + (if ([] : List Keyword).isEmpty then 0 else 1) < 30)) = true := by rfl)
    (hline : (apos.endLine == pos.line) = true := by rfl) (hs : starEach [a] X.env = [(false, eval a X.env)] := by rfl) : En n X (.Call (.Attribute e name apos) [a] [] pos) (tBM X.K T r te t) := by
  constructor
  intro pins s σ H Q hn I h
  refine wpAny_Call_method_late hbase hfew hline rfl (thn (ho.run pins s σ H _ hn I h) fun v s1 q1 => ?_)
  obtain ⟨x, H1, I1, r1, ty, q1⟩ := q1
  obtain ⟨h1, h2⟩ := tyV_is I1 r1 ty
  refine ⟨T, id, pa, slot, hty, h1, h2, ?_⟩
  have hA := ha.run pos pins s1 σ H1 _ I1 q1
  rw [hs] at hA ⊢
  refine Calls.callWith_builtin rfl (Calls.evalArgs_plain (thn hA fun us s2 q2 => ?_))
  obtain ⟨vs, H2, I2, r2, q2⟩ := q2
  exact hm pins s2 σ H2 x vs v us Q I2 r1 r2 q2
theorem en_revL {k : Nat} {p1 p2 p3 : Pos} (he : En n X e te) : En n X (.Subscript e (.Slice none none (some (.UnaryOp .USub (.Constant (.int 1) k p1) p2)) p3) pos) (tRevL X.K te) := by
  constructor
  intro pins s σ H Q hn I h
  refine Subscript_ (thn (he.run pins s σ H _ hn I h) fun v s1 q1 => ?_)
  obtain ⟨x, H1, I1, r1, a, xs, rfl, hx, q⟩ := q1
  cases r1
  have step : PO X (some (.UnaryOp .USub (.Constant (.int 1) k p1) p2)) (tPart (tUn (rU fun i => .int (-i)) (tC (.int 1)))) := po_some (pe_un un_neg pe_int)
  refine wpAny_Slice (thn (po_none.run pins s1 σ H1 (fun o H2 => o = none ∧ H2 = H1) I1 ⟨rfl, rfl⟩) fun vl s2 q2 => ?_)
  obtain ⟨l, H2, I2, pl, rfl, rfl⟩ := q2
  refine thn (po_none.run pins s2 σ _ (fun o H3 => o = none ∧ H3 = H2) I2 ⟨rfl, rfl⟩) fun vu s3 q3 => ?_
  obtain ⟨u, H3, I3, pu, rfl, rfl⟩ := q3
  refine thn (step.run pins s3 σ _ (fun o H4 => o = some (-1) ∧ H4 = H3) I3 ⟨1, rfl, -1, rfl, rfl, rfl⟩) fun vs s4 q4 => ?_
  obtain ⟨o, H4, I4, ps, rfl, rfl⟩ := q4
  have I5 : Inv X pins σ H4 { s4 with heap := s4.heap.push { cls := .type "slice", data := .fields #[vl, vu, vs] } } := I4.kept (t' := s4.toks) (fun b ob q => Heap.get?_push_of_some _ q)
  obtain ⟨its, r, ht, hz⟩ := I5.list hx
  have hlen := r.length
  show wpAny (model X.prog X.w) X.A (subscriptTail e (.Slice none none (some (.UnaryOp .USub (.Constant (.int 1) k p1) p2)) p3) (.ref a) (.ref s4.heap.objs.size)) (EP X pins σ Q) X.xe _
  refine tail_any (ops := [.ref a, .ref s4.heap.objs.size]) ht.isList.typeIs (PySem.slot_list_getitem.lookup) ?_ (by with_unfolding_all rfl)
  refine wpAny_getItem_list_slice ht.isList (Heap.IsSliceOf.new _ vl vu vs) pl pu ps (by decide) ?_ (by rw [List.size_toArray]; omega)
  rw [PySem.W.krv_pick]
  exact ⟨.ref _, _, I5.laid (t' := s4.toks) (o := .lst xs.reverse) (fun b ob q => Heap.get?_push_of_some _ q) (Nat.le_refl _) ⟨by rw [List.length_reverse]; exact hz, _, 0, r.reverse, Heap.get?_push_size _ rfl⟩, rfl, q _ (I5.hok.fresh (Nat.le_refl _))⟩
end
/-- the words of a text behind two replaces, the last one first: a list that changes -/
def wordsR (y1 z1 y2 z2 sep x : Str) : List Str := Txt.split (Txt.replace (Txt.replace x y1 z1) y2 z2) sep
def gWords (i : Nat) (y1 z1 y2 z2 sep : Str) : G := fun env S P => ∃ x, env[i]? = some (some (.d (.str x))) ∧ x.length ≤ 5000 ∧ P (.m S.length) (S ++ [.lst ((wordsR y1 z1 y2 z2 sep x).reverse.map fun u => AV.d (.str u))])
theorem words_wk {K : PySem.W.Frag} {i : Nat} {y1 z1 y2 z2 sep : Str} (h1 : z1.length ≤ 4) (h2 : z2.length ≤ 4) (hs : 1 ≤ sep.length) (σ : L2.St) (H : Hp) (Q : VK) (h : tD K (gWords i y1 z1 y2 z2 sep) σ H Q) :
    tRevL K (tBM K "str" (fun x xs H Q => ∃ a b, x = V.str a ∧ xs = [V.str b] ∧ (b.length == 0) = false ∧ a.length + 2 ≤ sizeLine ∧ rNewStrs (Txt.split a b) H Q) (tRepG (tRepG (tVar i) y1 z1) y2 z2) (tCons (tC (.str sep)) tNil)) σ H Q := by
  obtain ⟨Z, As, S, env, P, rl, sl, ⟨x, hx, hl, hp⟩, hQ⟩ := h
  obtain ⟨v, e1, rv⟩ := sl.get hx
  obtain ⟨rfl, _⟩ := str_le rv
  have m1 : (x.length + 1) * z1.length ≤ (x.length + 1) * 4 := Nat.mul_le_mul_left _ h1
  have l1 := TK.replace_len x y1 z1
  have m2 : ((Txt.replace x y1 z1).length + 1) * z2.length ≤ ((Txt.replace x y1 z1).length + 1) * 4 := Nat.mul_le_mul_left _ h2
  have l2 := TK.replace_len (Txt.replace x y1 z1) y2 z2
  refine ⟨_, e1, x, rfl, by omega, _, rfl, by omega, rfl, _, sep, rfl, rfl, beq_eq_false_iff_ne.mpr (by omega), by rw [sizeLine_eq]; omega, fun p np => ⟨p, _, rfl, .inl (.inl upd_same), fun q nq => ?_⟩⟩
  have hw : ∀ u, u ∈ wordsR y1 z1 y2 z2 sep x → u.length ≤ sizeLine := fun u hu => by
    have := part_len hs hu
    rw [sizeLine_eq]
    omega
  have po1 : Po Z As S H As S (upd H p (.lst ((wordsR y1 z1 y2 z2 sep x).map V.str))) := Po.new rl np
  have rl1 : Rl K Z As S (upd H p (.lst ((wordsR y1 z1 y2 z2 sep x).map V.str))) := rl.new np
  have lst : AVs K Z As S (upd H p (.lst ((wordsR y1 z1 y2 z2 sep x).map V.str))) ((wordsR y1 z1 y2 z2 sep x).map V.str).reverse ((wordsR y1 z1 y2 z2 sep x).reverse.map fun u => AV.d (.str u)) := by
    rw [← List.map_reverse]
    have d := dvs_of_strs (K := K) (L := lv Z As S) (H := upd H p (.lst ((wordsR y1 z1 y2 z2 sep x).map V.str))) (xs := (wordsR y1 z1 y2 z2 sep x).reverse) fun u hu => hw u (List.mem_reverse.mp hu)
    have a := AVs.of_d d
    rw [List.map_map] at a
    exact a
  exact (hQ.later po1).lstM rl1 nq lst hp
end DL
/-! law k91: the law's asks, over the promises of the four texts' defs -/
namespace K61
open PySem PySem.Spec PyProof.Rows L2 DL
/-- expression_text, function_text, read_expression, read_function at what is right -/
def WEx : WD := fun as S P => ∃ x t, as = [.d x] ∧ Ex5 x t ∧ P (.d (.str t)) S
def WFx : WD := fun as S P => ∃ x t, as = [.d x] ∧ Wk x t ∧ P (.d (.str t)) S
def WRe : WD := fun as S P => ∃ x t, as = [.d (.str t)] ∧ Ex5 x t ∧ P (.d x) S
def WRf : WD := fun as S P => ∃ x t, as = [.d (.str t)] ∧ Wk x t ∧ P (.d x) S
def WTr : WD := fun as S P => ∃ x t, as = [.d x] ∧ Ex5 x t ∧ P (.d (.bool true)) S
def WWr : WD := fun as S P => ∃ x t, as = [.d x] ∧ Wk x t ∧ P (.d (.bool true)) S
theorem eqv_told (t : Str) (b : Bool) : PyData.eqv (.list [.str t, .str t, .bool b]) (.list [.str t, .str t, .bool b]) = true := by
  simp [PyData.eqv, PyData.eqvAll]
section
variable {P : Program} {w : World} {K : PySem.W.Frag} {mg : Str → Option Value} {base : Heap} {so : Obj} {n : Nat}
abbrev s__law_term_right : Stmt := top 65
theorem sc__law_term_right : FnScope ["_law_term", "_law_told", "_law_kept", "_law_due"] ["_law_term"] (defScope s__law_term_right) := ⟨rfl, rfl, rfl, by decide +kernel, rfl, by decide +kernel, by decide +kernel⟩
theorem ok__law_term_right (D : DefAt K mg "_law_term_right" s__law_term_right ["_law_term"]) (B : Bl mg) (RS : K.lookup sysModules = some so ∧ so.cls = .type "dict") (o__law_term_text : Own P w K mg base 8 "_law_term_text" ["_law_term"] (WTT 6))
    (o_expression_text : Own P w K mg base 40 "expression_text" ["expression"] WEx) (o_read_expression : OwnN n P w K mg base 40 "read_expression" ["text"] WRe) (o_is_expression : Own P w K mg base 15 "is_expression" ["value"] (WB exprD)) :
    OwnN n P w K mg base 41 "_law_term_right" ["_law_term"] WTr := by
  have sc := sc__law_term_right
  refine okON (k := 40) D sc (fun as S P h => by obtain ⟨_, _, rfl, _⟩ := h; rfl) (fun f cdv A outer s H E hg hr => (pdssn_cons (pdsn_up (pds_par (i := 2) (j := 3) rfl sc.nd rfl rfl (by decide) rfl rfl (pda_cons (pd_callB (call_repr hg (room_u hr) RS.1 RS.2) vr_repr (by rfl) (B.b _ (by decide)) (by decide +kernel) (pda_cons (pdv 0) pda_nil)) (pda_cons (pdc o__law_term_text hg hr (by rfl) (pda_cons (pdv 0) pda_nil)) pda_nil)) rfl)) (pdssn_cons (pdsn_up (pds_set (i := 1) sc.nd rfl (Or.inl rfl) (pd_lst (pda_cons (pdc o_expression_text hg hr (by rfl) (pda_cons (pdv 0) pda_nil)) (pda_cons (pdck o_expression_text hg hr (by rfl) (pdk_cons (pdv 0) pdk_nil)) (pda_cons (pdc o_is_expression hg hr (by rfl) (pda_cons (pdv 0) pda_nil)) pda_nil)))))) (pdssn_cons (pdsn_up (pds_if (pdt_w (pdw_or (pdt_ne hr (pdv 1) (pd_lst (pda_cons (pdv 3) (pda_cons (pdv 3) (pda_cons (pd_bl) pda_nil))))) (pdw_or1 (pdt_ne hr (pd_callB (call_repr hg (room_u hr) RS.1 RS.2) vr_repr (by rfl) (B.b _ (by decide)) (by decide +kernel) (pda_cons (pdv 0) pda_nil)) (pdv 2))))) (pdss_one (pds_ret (pd_bl))) pdss_nil)) (pdssn_one (pdsn_ret (pdn_eq hr (pdn_callB (call_repr hg (room_u hr) RS.1 RS.2) vr_repr (by rfl) (B.b _ (by decide)) (by decide +kernel) (pdan_cons (pdn_lst (pdan_cons (pdcn o_read_expression hg hr (by rfl) (pdan_cons (pdn_up (pdv 3)) pdan_nil)) (pdan_cons (pdckn o_read_expression hg hr (by rfl) (pdkn_cons (pdn_up (pdv 3)) pdkn_nil)) pdan_nil))) pdan_nil)) (pdn_up (pd_callB (call_repr hg (room_u hr) RS.1 RS.2) vr_repr (by rfl) (B.b _ (by decide)) (by decide +kernel) (pda_cons (pd_lst (pda_cons (pdv 0) (pda_cons (pdv 0) pda_nil))) pda_nil)))))))))) (fun args S P h => ?_)
  obtain ⟨x, t, rfl, hx, h⟩ := h
  have r1 : reprOk x := hx.fit.repr (by decide) (by decide)
  have r2 : reprOk (.list [x, x]) := (Fits.cons hx.fit (Fits.cons hx.fit Fits.nil0)).lst.repr (by decide) (by decide)
  refine ⟨r1, x, t, rfl, hx.pt, ?_⟩
  refine ⟨x, t, rfl, hx, x, t, rfl, hx, x, rfl, small2 rfl, ?_⟩
  rw [hx.right]
  refine lst_ok rfl ?_
  refine ⟨small2 rfl, ⟨hx.pl.shaped true, hx.pl.shaped true⟩, ?_⟩
  refine cond_or (c := !PyData.eqv (.list [.str t, .str t, .bool true]) (.list [.str t, .str t, .bool true])) (fun g => absurd g (by rw [eqv_told]; decide)) (fun _ => ?_)
  refine ⟨r1, ?_⟩
  refine cond_or (c := !decide (x.shown = x.shown)) (fun g => absurd g (by simp)) (fun _ => ?_)
  refine ⟨x, t, rfl, hx, x, t, rfl, hx, small2 rfl, r2, small2 rfl, r2, ?_⟩
  show P (.d (.bool (decide ((PyData.list [x, x]).shown = (PyData.list [x, x]).shown)))) S
  rw [decide_eq_true rfl]
  exact h
abbrev s__law_work_right : Stmt := top 66
theorem sc__law_work_right : FnScope ["_law_work", "_law_told", "_law_kept", "_law_due"] ["_law_work"] (defScope s__law_work_right) := ⟨rfl, rfl, rfl, by decide +kernel, rfl, by decide +kernel, by decide +kernel⟩
theorem ok__law_work_right (D : DefAt K mg "_law_work_right" s__law_work_right ["_law_work"]) (B : Bl mg) (RS : K.lookup sysModules = some so ∧ so.cls = .type "dict") (o__law_work_text : Own P w K mg base 9 "_law_work_text" ["_law_work"] WWt)
    (o_function_text : Own P w K mg base 40 "function_text" ["function"] WFx) (o_read_function : OwnN n P w K mg base 40 "read_function" ["text"] WRf) (o_is_function : Own P w K mg base 16 "is_function" ["value"] (WB funD)) :
    OwnN n P w K mg base 41 "_law_work_right" ["_law_work"] WWr := by
  have sc := sc__law_work_right
  refine okON (k := 40) D sc (fun as S P h => by obtain ⟨_, _, rfl, _⟩ := h; rfl) (fun f cdv A outer s H E hg hr => (pdssn_cons (pdsn_up (pds_par (i := 2) (j := 3) rfl sc.nd rfl rfl (by decide) rfl rfl (pda_cons (pd_callB (call_repr hg (room_u hr) RS.1 RS.2) vr_repr (by rfl) (B.b _ (by decide)) (by decide +kernel) (pda_cons (pdv 0) pda_nil)) (pda_cons (pdc o__law_work_text hg hr (by rfl) (pda_cons (pdv 0) pda_nil)) pda_nil)) rfl)) (pdssn_cons (pdsn_up (pds_set (i := 1) sc.nd rfl (Or.inl rfl) (pd_lst (pda_cons (pdc o_function_text hg hr (by rfl) (pda_cons (pdv 0) pda_nil)) (pda_cons (pdck o_function_text hg hr (by rfl) (pdk_cons (pdv 0) pdk_nil)) (pda_cons (pdc o_is_function hg hr (by rfl) (pda_cons (pdv 0) pda_nil)) pda_nil)))))) (pdssn_cons (pdsn_up (pds_if (pdt_w (pdw_or (pdt_ne hr (pdv 1) (pd_lst (pda_cons (pdv 3) (pda_cons (pdv 3) (pda_cons (pd_bl) pda_nil))))) (pdw_or1 (pdt_ne hr (pd_callB (call_repr hg (room_u hr) RS.1 RS.2) vr_repr (by rfl) (B.b _ (by decide)) (by decide +kernel) (pda_cons (pdv 0) pda_nil)) (pdv 2))))) (pdss_one (pds_ret (pd_bl))) pdss_nil)) (pdssn_one (pdsn_ret (pdn_eq hr (pdn_callB (call_repr hg (room_u hr) RS.1 RS.2) vr_repr (by rfl) (B.b _ (by decide)) (by decide +kernel) (pdan_cons (pdn_lst (pdan_cons (pdcn o_read_function hg hr (by rfl) (pdan_cons (pdn_up (pdv 3)) pdan_nil)) (pdan_cons (pdckn o_read_function hg hr (by rfl) (pdkn_cons (pdn_up (pdv 3)) pdkn_nil)) pdan_nil))) pdan_nil)) (pdn_up (pd_callB (call_repr hg (room_u hr) RS.1 RS.2) vr_repr (by rfl) (B.b _ (by decide)) (by decide +kernel) (pda_cons (pd_lst (pda_cons (pdv 0) (pda_cons (pdv 0) pda_nil))) pda_nil)))))))))) (fun args S P h => ?_)
  obtain ⟨x, t, rfl, hx, h⟩ := h
  have r1 : reprOk x := hx.fit.repr (by decide) (by decide)
  have r2 : reprOk (.list [x, x]) := (Fits.cons hx.fit (Fits.cons hx.fit Fits.nil0)).lst.repr (by decide) (by decide)
  refine ⟨r1, x, t, rfl, hx, ?_⟩
  refine ⟨x, t, rfl, hx, x, t, rfl, hx, x, rfl, small2 rfl, ?_⟩
  rw [hx.right]
  refine lst_ok rfl ?_
  refine ⟨small2 rfl, ⟨hx.pl.shaped true, hx.pl.shaped true⟩, ?_⟩
  refine cond_or (c := !PyData.eqv (.list [.str t, .str t, .bool true]) (.list [.str t, .str t, .bool true])) (fun g => absurd g (by rw [eqv_told]; decide)) (fun _ => ?_)
  refine ⟨r1, ?_⟩
  refine cond_or (c := !decide (x.shown = x.shown)) (fun g => absurd g (by simp)) (fun _ => ?_)
  refine ⟨x, t, rfl, hx, x, t, rfl, hx, small2 rfl, r2, small2 rfl, r2, ?_⟩
  show P (.d (.bool (decide ((PyData.list [x, x]).shown = (PyData.list [x, x]).shown)))) S
  rw [decide_eq_true rfl]
  exact h
def WRr : WD := fun as S P => ∃ r : Nat, as = [.m r] ∧ S[r]? = some .rng ∧ P (.d (.bool true)) S
abbrev s__law_right : Stmt := top 67
theorem sc__law_right : FnScope ["_law_rng_here", "_law_turn", "_law_term", "_law_work"] ["_law_rng_here"] (defScope s__law_right) := ⟨rfl, rfl, rfl, by decide +kernel, rfl, by decide +kernel, by decide +kernel⟩
theorem ok__law_right (D : DefAt K mg "_law_right" s__law_right ["_law_rng_here"]) (B : Bl mg) (o__law_draw : Own P w K mg base 1 "_law_draw" ["_law_rng_here", "_law_many"] WDraw)
    (o__law_any_term : Own P w K mg base 9 "_law_any_term" ["_law_rng_here", "_law_depth", "_law_left"] (WAT 5)) (o__law_any_work : Own P w K mg base 10 "_law_any_work" ["_law_rng_here"] WWork)
    (o__law_term_right : OwnN n P w K mg base 41 "_law_term_right" ["_law_term"] WTr) (o__law_work_right : OwnN n P w K mg base 41 "_law_work_right" ["_law_work"] WWr) (o__law_worded : Own P w K mg base 3 "_law_worded" ["_law_rng_here", "_law_work"] WWd) :
    OwnN n P w K mg base 42 "_law_right" ["_law_rng_here"] WRr := by
  have sc := sc__law_right
  refine okCN (k := 41) D sc (fun as S P h => by obtain ⟨_, rfl, _⟩ := h; rfl) (fun f cdv A outer s H E hg hr => (pdssn_cons (pdsn_for PassesOwn.never rfl (pdi_range1 (by rfl) (B.b _ (by decide)) (pda_cons (pd_int) pda_nil)) (pdg_name (i := 1) sc.nd rfl (Or.inl rfl)) (pdssn_cons (pdsn_up (pds_par (i := 2) (j := 3) rfl sc.nd rfl rfl (by decide) rfl rfl (pda_cons (pdc o__law_any_term hg hr (by rfl) (pda_cons (pdv 0) (pda_cons (pd_add (pd_int) (pdc o__law_draw hg hr (by rfl) (pda_cons (pdv 0) (pda_cons (pd_int) pda_nil)))) (pda_cons (pd_lstM (pda_cons (pd_int) pda_nil)) pda_nil)))) (pda_cons (pdc o__law_any_work hg hr (by rfl) (pda_cons (pdv 0) pda_nil)) pda_nil)) rfl)) (pdssn_one (pdsn_if (pdtn_w (pdwn_or (pdtn_not (pdtn_val (pdcn o__law_term_right hg hr (by rfl) (pdan_cons (pdn_up (pdv 2)) pdan_nil)))) (pdwn_or (pdtn_not (pdtn_val (pdcn o__law_work_right hg hr (by rfl) (pdan_cons (pdn_up (pdv 3)) pdan_nil)))) (pdwn_or1 (pdtn_not (pdtn_val (pdcn o__law_work_right hg hr (by rfl) (pdan_cons (pdn_up (pdc o__law_worded hg hr (by rfl) (pda_cons (pdv 0) (pda_cons (pdv 3) pda_nil)))) pdan_nil)))))))) (pdssn_up (pdss_one (pds_ret (pd_bl)))) (pdssn_up pdss_nil))))) (pdssn_one (pdsn_up (pds_ret (pd_bl)))))) (fun args S P h => ?_)
  obtain ⟨r, rfl, hS, h⟩ := h
  have lr : r < S.length := by
    rcases Nat.lt_or_ge r S.length with z | z
    · exact z
    · rw [List.getElem?_eq_none z] at hS; cases hS
  refine ⟨⟨by decide, by decide⟩, ?_⟩
  refine loopD_inv (fun env s => (∃ Gb, s = S ++ Gb) ∧ ∃ a b c, env = [some (.m r), a, b, c]) (fun x hx env s i E en ec er eb => ?_) (fun env s i => ?_) ⟨⟨[], by simp⟩, _, _, _, rfl⟩
  · obtain ⟨⟨Gb, rfl⟩, a, b, c, rfl⟩ := i
    have rS : ∀ G : Store, (S ++ G)[r]? = some .rng := fun G => by rw [List.getElem?_append_left lr]; exact hS
    refine ⟨r, 5, rfl, rS Gb, ⟨by decide, by decide⟩, fun d d0 d1 => ?_⟩
    obtain ⟨d, rfl⟩ : ∃ d' : Nat, d = (d' : Int) := ⟨d.toNat, by omega⟩
    refine ⟨small2 rfl, ?_⟩
    refine ⟨r, (S ++ Gb).length, d, 29, congrArg (fun i => [AV.m r, .d (.int i), .m (S ++ Gb).length]) (by omega : (1 : Int) + (d : Int) = (d : Int) + 1), (by rw [List.append_assoc]; exact rS _), get_new, by omega, fun y t k c' hy hk => ?_⟩
    have hy5 : Ex5 y t := ⟨d + 1, k, by omega, by omega, hy⟩
    have eS : ((S ++ Gb) ++ [MO.lst [.d (.int 29)]]).set (S ++ Gb).length (.lst [.d (.int (c' : Nat))]) = S ++ (Gb ++ [.lst [.d (.int (c' : Nat))]]) := by
      rw [List.set_append_right _ _ (Nat.le_refl _), ← List.append_assoc]
      simp
    refine ⟨r, rfl, (by rw [eS]; exact rS _), fun z u hz => ?_⟩
    refine ⟨y, t, rfl, hy5, z, u, rfl, hz, r, z, u, rfl, (by rw [eS]; exact rS _), hz, fun z2 u2 hz2 => ⟨z2, u2, rfl, hz2, ?_⟩⟩
    exact en _ _ ⟨⟨_, eS⟩, _, _, _, rfl⟩
  · obtain ⟨⟨Gb, rfl⟩, a, b, c, rfl⟩ := i
    exact ⟨_, S, Gb, rfl, rfl, Chg.refl, h⟩
end
end K61
/-! law k91: texts of numbers and of labels, read -/
namespace K61
open PySem PySem.Spec PySem.Builtin.Str PyProof.Rows L2 DL TL
/-! ### the digits of a number -/
def dd (n : Nat) : List Nat := (Nat.toDigits 10 n).map Char.toNat
theorem dch : ∀ d, d < 10 → (Nat.digitChar d).toNat = 48 + d := by decide
theorem dd_lt {n : Nat} (h : n < 10) : dd n = [48 + n] := by
  unfold dd
  rw [Nat.toDigits_of_lt_base h, List.map_cons, List.map_nil, dch n h]
theorem dd_ge {n : Nat} (h : 10 ≤ n) : dd n = dd (n / 10) ++ [48 + n % 10] := by
  unfold dd
  rw [Nat.toDigits_of_base_le (by decide) h, List.map_append, List.map_cons, List.map_nil, dch (n % 10) (Nat.mod_lt _ (by decide))]
theorem tl_num (n : Nat) : tl (numT (n : Int)) = dd n := by
  show tl (Str.ofString (toString (n : Int))) = _
  rw [tl_ofString]
  show (Nat.repr n).toList.map Char.toNat = _
  rw [Nat.toList_repr]
  rfl
theorem tl_neg (n : Nat) : tl (numT (Int.negSucc n)) = 45 :: dd (n + 1) := by
  show tl (Str.ofString (toString (Int.negSucc n))) = _
  rw [tl_ofString, Int.toString_eq_repr]
  show ("-" ++ Nat.repr (n + 1)).toList.map Char.toNat = _
  rw [String.toList_append, Nat.toList_repr, List.map_append]
  rfl
def digB (c : Nat) : Bool := decide (48 ≤ c) && decide (c ≤ 57)
def stepL (n c : Nat) : Nat := n * 10 + (c - 48)
def valL (l : List Nat) : Nat := l.foldl stepL 0
def badHead (l : List Nat) : Bool := decide (l = []) || (decide (l.head? = some 48) && !decide (l = [48]))
def countT (x : Str) : Option Nat := if badHead x.cps.toList || !x.cps.toList.all digB then none else some (valL x.cps.toList)
theorem digB_of {d : Nat} (h : d < 10) : digB (48 + d) = true := by
  unfold digB
  rw [decide_eq_true (by omega : 48 ≤ 48 + d), decide_eq_true (by omega : 48 + d ≤ 57)]
  rfl
theorem dd_facts (n : Nat) : (dd n).all digB = true ∧ valL (dd n) = n ∧ (1 ≤ n → ∃ c r, dd n = c :: r ∧ 49 ≤ c) := by
  induction n using Nat.strongRecOn with
  | _ n ih =>
    rcases Nat.lt_or_ge n 10 with h | h
    · rw [dd_lt h]
      refine ⟨by rw [List.all_cons, digB_of h]; rfl, ?_, fun h1 => ⟨_, _, rfl, by omega⟩⟩
      show 0 * 10 + (48 + n - 48) = n
      omega
    · obtain ⟨a, b, c⟩ := ih (n / 10) (by omega)
      rw [dd_ge h]
      refine ⟨by rw [List.all_append, a, List.all_cons, digB_of (Nat.mod_lt _ (by decide))]; rfl, ?_, fun _ => ?_⟩
      · unfold valL at b ⊢
        rw [List.foldl_append, b]
        show n / 10 * 10 + (48 + n % 10 - 48) = n
        omega
      · obtain ⟨u, r, e, hu⟩ := c (by omega)
        exact ⟨u, r ++ [48 + n % 10], by rw [e]; rfl, hu⟩
theorem dd_head (n : Nat) : badHead (dd n) = false := by
  obtain ⟨_, _, c⟩ := dd_facts n
  rcases Nat.eq_zero_or_pos n with h | h
  · subst h
    decide +kernel
  · obtain ⟨u, r, e, hu⟩ := c h
    rw [e]
    unfold badHead
    rw [decide_eq_false (List.cons_ne_nil u r)]
    show (false || (decide (some u = some 48) && _)) = false
    rw [decide_eq_false (fun z => by have := Option.some.inj z; omega)]
    rfl
theorem count_dd {x : Str} {n : Nat} (h : tl x = dd n) : countT x = some n := by
  obtain ⟨a, b, _⟩ := dd_facts n
  have h : x.cps.toList = dd n := h
  unfold countT
  rw [h, dd_head, a, b]
  rfl
theorem count_num {i : Int} (h : 0 ≤ i) : countT (numT i) = some i.toNat := by
  obtain ⟨n, rfl⟩ : ∃ n : Nat, i = (n : Int) := ⟨i.toNat, by omega⟩
  exact count_dd (tl_num n)
theorem dd_free (n : Nat) {c : Nat} (h : digB c = false) : c ∉ dd n := fun z => by
  have := List.all_eq_true.mp (dd_facts n).1 c z
  rw [h] at this
  cases this
/-! ### a label's text -/
def labIn (x : Str) : Option (Str × Nat) :=
  match countT (Txt.partition x "/").2.2 with
  | none => none
  | some n => if nameS (Txt.partition x "/").1 then some ((Txt.partition x "/").1, n) else none
def labD : Option (Str × Nat) → PyData
  | none => .none
  | some (x, n) => .tuple [.str x, .int n]
theorem name_free {z : Str} (h : nameS z = true) {c : Nat} (hc : c < 97 ∨ 122 < c) : c ∉ tl z := fun m => by
  unfold nameS at h
  have q := List.all_eq_true.mp (Bool.and_eq_true_iff.mp h).2 c m
  have a := of_decide_eq_true (Bool.and_eq_true_iff.mp q).1
  have b := of_decide_eq_true (Bool.and_eq_true_iff.mp q).2
  omega
theorem lab_in {z : Str} {i : Int} (h : nameS z = true) (hi : 0 ≤ i) : labIn (z ++ "/" ++ numT i) = some (z, i.toNat) := by
  unfold labIn
  rw [TL.partition_app (y := "/") (s := 47) (S := []) (by decide +kernel) (name_free h (by omega))]
  dsimp only
  rw [count_num hi]
  dsimp only
  rw [if_pos h]
theorem lab_back {z : Str} {i : Int} (hi : 0 ≤ i) : labD (some (z, i.toNat)) = .tuple [.str z, .int i] := by
  show PyData.tuple [.str z, .int ((i.toNat : Nat) : Int)] = _
  rw [Int.toNat_of_nonneg hi]
/-! ### numbers, with their signs -/
theorem minus1 : tl "-" = [45] := by decide +kernel
theorem rmp_pos (n : Nat) : Txt.removeprefix (numT (n : Int)) "-" = numT (n : Int) := by
  have e : subAt (numT (n : Int)) "-" 0 = false := by
    rw [StrLaws.subAt_eq]
    have t : (numT (n : Int)).cps.toList = dd n := tl_num n
    have m : (Str.ofString "-").cps.toList = [45] := minus1
    rw [t, m, List.drop_zero]
    obtain ⟨a, _, _⟩ := dd_facts n
    rw [beq_eq_false_iff_ne]
    intro z
    have : 45 ∈ dd n := List.mem_of_mem_take (by rw [z]; simp)
    exact dd_free n (by decide) this
  rw [StrLaws.removeprefix_eq, e, Bool.and_false]
  rfl
theorem stw_pos (n : Nat) : Txt.startswith (numT (n : Int)) "-" = false := by
  have e : subAt (numT (n : Int)) "-" 0 = false := by
    rw [StrLaws.subAt_eq]
    have t : (numT (n : Int)).cps.toList = dd n := tl_num n
    have m : (Str.ofString "-").cps.toList = [45] := minus1
    rw [t, m, List.drop_zero]
    rw [beq_eq_false_iff_ne]
    intro z
    have : 45 ∈ dd n := List.mem_of_mem_take (by rw [z]; simp)
    exact dd_free n (by decide) this
  unfold Txt.startswith
  rw [e, Bool.and_false]
theorem sub_neg (n : Nat) : subAt (numT (Int.negSucc n)) "-" 0 = true := by
  rw [StrLaws.subAt_eq]
  have t : (numT (Int.negSucc n)).cps.toList = 45 :: dd (n + 1) := tl_neg n
  have m : (Str.ofString "-").cps.toList = [45] := minus1
  have l : (Str.ofString "-").length = 1 := by decide +kernel
  rw [t, m, l, List.drop_zero]
  rfl
theorem len_neg (n : Nat) : 1 ≤ (numT (Int.negSucc n)).length := by
  rw [TL.len_tl, tl_neg]
  exact Nat.succ_le_succ (Nat.zero_le _)
theorem rmp_neg (n : Nat) : tl (Txt.removeprefix (numT (Int.negSucc n)) "-") = dd (n + 1) := by
  have l : (Str.ofString "-").length = 1 := by decide +kernel
  have h := len_neg n
  rw [StrLaws.removeprefix_eq, sub_neg, l, decide_eq_true (by omega : 0 + 1 ≤ (numT (Int.negSucc n)).length), Bool.and_self, if_pos rfl]
  show ((tl (numT (Int.negSucc n))).drop 1).take _ = _
  rw [tl_neg, List.drop_succ_cons, List.drop_zero]
  refine List.take_of_length_le ?_
  rw [TL.len_tl, tl_neg, List.length_cons]
  omega
theorem stw_neg (n : Nat) : Txt.startswith (numT (Int.negSucc n)) "-" = true := by
  have l : (Str.ofString "-").length = 1 := by decide +kernel
  have h := len_neg n
  unfold Txt.startswith
  rw [sub_neg, l, decide_eq_true (by omega : 0 + 1 ≤ (numT (Int.negSucc n)).length)]
  rfl
theorem num_ne (i : Int) : ¬ numT i = "-0" := fun z => by
  have m : tl (Str.ofString "-0") = [45, 48] := by decide +kernel
  have q := congrArg tl z
  rw [m] at q
  cases i with
  | ofNat n =>
    have e : tl (numT (n : Int)) = [45, 48] := q
    rw [tl_num] at e
    have : 45 ∈ dd n := by rw [e]; simp
    exact dd_free n (by decide) this
  | negSucc n =>
    rw [tl_neg] at q
    have q2 := (List.cons.inj q).2
    obtain ⟨_, _, c⟩ := dd_facts (n + 1)
    obtain ⟨u, r, e, hu⟩ := c (by omega)
    rw [e] at q2
    have := (List.cons.inj q2).1
    omega
end K61
/-! law k91: the words of a text of code -/
namespace K61
open PySem PySem.Spec PySem.Builtin.Str PyProof.Rows L2 DL TL StrLaws
/-- the signs of code, with a blank behind each opening parenthesis and ahead of each closing one -/
def rp (l : List Nat) : List Nat := l.flatMap fun c => if c = 40 then [40, 32] else if c = 41 then [32, 41] else [c]
theorem rp_app (a b : List Nat) : rp (a ++ b) = rp a ++ rp b := List.flatMap_append
theorem rp_cons (c : Nat) (l : List Nat) : rp (c :: l) = (if c = 40 then [40, 32] else if c = 41 then [32, 41] else [c]) ++ rp l := rfl
theorem rp_free : ∀ {l : List Nat}, 40 ∉ l → 41 ∉ l → rp l = l
  | [], _, _ => rfl
  | c :: l, h1, h2 => by
    rw [rp_cons, rp_free (fun z => h1 (List.mem_cons_of_mem _ z)) (fun z => h2 (List.mem_cons_of_mem _ z)), if_neg (fun e => h1 (by rw [e]; simp)), if_neg (fun e => h2 (by rw [e]; simp))]
    rfl
theorem repl1 (d : Nat) (z : List Nat) : ∀ l : List Nat, replL [d] z l = l.flatMap fun c => if c = d then z else [c]
  | [] => by rw [replL_nil]; rfl
  | c :: l => by
    rw [List.flatMap_cons, ← repl1 d z l]
    by_cases h : c = d
    · subst h
      rw [replL_hit (by simp) (by simp), if_pos rfl]
      rfl
    · rw [replL_miss (by simpa using h), if_neg h]
      rfl
theorem rp_two (l : List Nat) : (l.flatMap fun c => if c = 40 then [40, 32] else [c]).flatMap (fun c => if c = 41 then [32, 41] else [c]) = rp l := by
  induction l with
  | nil => rfl
  | cons c l ih =>
    rw [List.flatMap_cons, List.flatMap_append, ih, rp_cons]
    congr 1
    by_cases h : c = 40
    · subst h
      rfl
    · rw [if_neg h, if_neg h]
      rw [List.flatMap_cons, List.flatMap_nil, List.append_nil]
def bOp : Str := "("
def bCl : Str := ")"
def bOpS : Str := "(" ++ " "
def bClS : Str := " " ++ ")"
theorem tl_rep (x : Str) : tl (Txt.replace (Txt.replace x bOp bOpS) bCl bClS) = rp (tl x) := by
  have h1 : tl (Txt.replace x bOp bOpS) = replL (tl bOp) (tl bOpS) (tl x) := replace_list (by decide)
  have h2 : tl (Txt.replace (Txt.replace x bOp bOpS) bCl bClS) = replL (tl bCl) (tl bClS) (tl (Txt.replace x bOp bOpS)) := replace_list (by decide)
  rw [h2, h1, show tl bOp = [40] by decide +kernel, show tl bOpS = [40, 32] by decide +kernel, show tl bCl = [41] by decide +kernel, show tl bClS = [32, 41] by decide +kernel, repl1, repl1, rp_two]
/-! ### words put together by blanks -/
def jl (ws : List Str) : List Nat := tl (Str.join " " ws)
theorem blank1 : tl (Str.ofString " ") = [32] := by decide +kernel
theorem jl_one (w : Str) : jl [w] = tl w := rfl
theorem jl_two (w u : Str) (r : List Str) : jl (w :: u :: r) = tl w ++ 32 :: jl (u :: r) := by
  show tl (w ++ Str.ofString " " ++ Str.join (Str.ofString " ") (u :: r)) = _
  rw [tl_append, tl_append, blank1, List.append_assoc]
  rfl
theorem jl_cons (w : Str) {r : List Str} (h : r ≠ []) : jl (w :: r) = tl w ++ 32 :: jl r := by
  cases r with
  | nil => exact absurd rfl h
  | cons u r => exact jl_two w u r
theorem jl_app : ∀ {xs ys : List Str}, xs ≠ [] → ys ≠ [] → jl (xs ++ ys) = jl xs ++ 32 :: jl ys
  | [], _, h, _ => absurd rfl h
  | [x], ys, _, h => jl_cons x h
  | x :: z :: r, ys, _, h => by
    show jl (x :: ((z :: r) ++ ys)) = _
    rw [jl_cons x (by simp), jl_app (by simp) h, jl_two, List.append_assoc]
    rfl
/-- a text behind the blanks is these words -/
structure Rp (t : Str) (ws : List Str) : Prop where
  ne : ws ≠ []
  eq : rp (tl t) = jl ws
  free : ∀ w, w ∈ ws → 32 ∉ tl w
theorem Rp.word {w : Str} (h1 : 40 ∉ tl w) (h2 : 41 ∉ tl w) (h3 : 32 ∉ tl w) : Rp w [w] := ⟨by simp, rp_free h1 h2, fun u hu => by rw [List.mem_singleton.mp hu]; exact h3⟩
theorem Rp.join : ∀ {ts : List Str} {wss : List (List Str)}, ts ≠ [] → Paired Rp ts wss → Rp (Str.join " " ts) wss.flatten
  | _, _, h, .nil => absurd rfl h
  | [t], [ws], _, .cons a .nil => by
    rw [List.flatten_cons, List.flatten_nil, List.append_nil]
    exact a
  | t :: u :: r, ws :: vs :: vss, _, .cons a b => by
    have ih := Rp.join (by simp) b
    refine ⟨?_, ?_, fun w hw => ?_⟩
    · rw [List.flatten_cons]
      exact fun z => a.ne (List.append_eq_nil_iff.mp z).1
    · show rp (jl (t :: u :: r)) = _
      rw [jl_two, rp_app, a.eq, rp_cons, List.flatten_cons, jl_app a.ne ih.ne]
      show jl ws ++ (([32] : List Nat) ++ rp (jl (u :: r))) = _
      rw [show rp (jl (u :: r)) = jl (vs :: vss).flatten from ih.eq]
      rfl
    · rw [List.flatten_cons] at hw
      rcases List.mem_append.mp hw with hw | hw
      · exact a.free w hw
      · exact ih.free w hw
theorem free1 {x : Str} {c : Nat} (h : decide (c ∈ tl x) = false) : c ∉ tl x := of_decide_eq_false h
theorem Rp.wr {w : Str} {ts : List Str} {wss : List (List Str)} (hw : Rp w [w]) (h : Paired Rp ts wss) : Rp (wr w ts) ("(" :: w :: (wss.flatten ++ [(")" : Str)])) := by
  have j := Rp.join (ts := w :: ts) (wss := [w] :: wss) (by simp) (.cons hw h)
  have j0 : (w :: wss.flatten) ≠ [] := by simp
  have je : rp (tl (Str.join " " (w :: ts))) = jl (w :: wss.flatten) := j.eq
  have o : tl (Str.ofString "(") = [40] := by decide +kernel
  have c : tl (Str.ofString ")") = [41] := by decide +kernel
  refine ⟨by simp, ?_, fun u hu => ?_⟩
  · have e : tl (K61.wr w ts) = [40] ++ tl (Str.join " " (w :: ts)) ++ [41] := by
      unfold K61.wr
      rw [tl_append, tl_append, o, c, show Txt.join " " (w :: ts) = Str.join " " (w :: ts) from glued_eq_join _ _]
    rw [e, rp_app, rp_app, je, jl_two, ← List.cons_append, jl_app j0 (by simp), jl_one, o, c]
    show [40, 32] ++ jl (w :: wss.flatten) ++ [32, 41] = [40] ++ 32 :: (jl (w :: wss.flatten) ++ 32 :: [41])
    simp
  · rcases List.mem_cons.mp hu with rfl | hu
    · rw [o]; decide
    · rcases List.mem_cons.mp hu with rfl | hu
      · exact hw.free _ (by simp)
      · rcases List.mem_append.mp hu with hu | hu
        · exact j.free u (by rw [List.flatten_cons]; exact List.mem_append_right _ hu)
        · rw [List.mem_singleton.mp hu, c]; decide
/-- the words that the program makes of the text -/
theorem words_of {t : Str} {ws : List Str} (h : Rp t ws) : wordsR bOp bOpS bCl bClS " " t = ws := by
  have e : Txt.replace (Txt.replace t bOp bOpS) bCl bClS = Txt.join " " ws := by
    rw [show Txt.join " " ws = Str.join " " ws from glued_eq_join _ _]
    exact ext_tl ((tl_rep t).trans h.eq)
  unfold wordsR
  rw [e]
  exact TL.split_join blank1 (by decide +kernel) h.ne h.free
/-! ### the words of an expression, with what they say -/
mutual
inductive Tw : Nat → PyData → List Str → Prop
  | make (n : Nat) (i : Int) : Num i → Tw (n + 1) (.tuple [.str "make", .int i]) ["(", "make", numT i, ")"]
  | param (n : Nat) (i : Int) : 0 ≤ i → Num i → Tw (n + 1) (.tuple [.str "param", .int i]) ["(", "param", numT i, ")"]
  | plus {n : Nat} {x : PyData} {ws : List Str} (i : Int) : Tw n x ws → Num i → Tw (n + 1) (.tuple [.str "plus", x, .int i]) ("(" :: "plus" :: ((ws ++ [numT i]) ++ [(")" : Str)]))
  | call {n : Nat} {l : PyData} {lt f : Str} {xs : List PyData} {ws : List Str} : Lb l lt → nameS f = true → Tws n xs ws → xs.length ≤ 4 → Tw (n + 1) (.tuple [.str "call", l, .str f, .tuple xs]) ("(" :: "call" :: ((lt :: f :: ws) ++ [(")" : Str)]))
  | two {n : Nat} {x y : PyData} {ws : List Str} : Tws n [x, y] ws → Tw (n + 1) (.tuple [.str "do", x, y]) ("(" :: "do" :: (ws ++ [(")" : Str)]))
  | three {n : Nat} {x y z : PyData} {ws : List Str} : Tws n [x, y, z] ws → Tw (n + 1) (.tuple [.str "if", x, y, z]) ("(" :: "if" :: (ws ++ [(")" : Str)]))
inductive Tws : Nat → List PyData → List Str → Prop
  | nil (n : Nat) : Tws n [] []
  | cons {n : Nat} {x : PyData} {ws vs : List Str} {xs : List PyData} : Tw n x ws → Tws n xs vs → Tws n (x :: xs) (ws ++ vs)
end
theorem num_word (i : Int) : Rp (numT i) [numT i] := Rp.word (int_text_free' 40 ⟨by decide, by decide⟩ i) (int_text_free' 41 ⟨by decide, by decide⟩ i) (int_text_free' 32 ⟨by decide, by decide⟩ i)
theorem name_word {z : Str} (h : nameS z = true) : Rp z [z] := Rp.word (name_free h (by omega)) (name_free h (by omega)) (name_free h (by omega))
theorem lit_word {z : Str} (h : (decide (40 ∈ tl z) || decide (41 ∈ tl z) || decide (32 ∈ tl z)) = false) : Rp z [z] := by
  rw [Bool.or_eq_false_iff, Bool.or_eq_false_iff] at h
  exact Rp.word (free1 h.1.1) (free1 h.1.2) (free1 h.2)
theorem lab_word {z : Str} {i : Int} (h : nameS z = true) : Rp (z ++ "/" ++ numT i) [z ++ "/" ++ numT i] := by
  have s : tl (Str.ofString "/") = [47] := by decide +kernel
  have f : ∀ c, (c < 97 ∨ 122 < c) → c ≠ 47 → (c ≠ 45 ∧ (c < 48 ∨ 57 < c)) → c ∉ tl (z ++ "/" ++ numT i) := fun c h1 h2 h3 m => by
    rw [tl_append, tl_append, s] at m
    rcases List.mem_append.mp m with m | m
    · rcases List.mem_append.mp m with m | m
      · exact name_free h h1 m
      · exact h2 (List.mem_singleton.mp m)
    · exact int_text_free' c h3 i m
  exact Rp.word (f 40 (by omega) (by decide) (by decide)) (f 41 (by omega) (by decide) (by decide)) (f 32 (by omega) (by decide) (by decide))
theorem Lb.word {l : PyData} {t : Str} (h : Lb l t) : Rp t [t] := by
  cases h with
  | no => exact lit_word (by decide +kernel)
  | yes z i h1 h2 h3 => exact lab_word h1
theorem Kn.word {l : PyData} {t : Str} (h : Kn l t) : Rp t [t] := by
  cases h with
  | own => exact lit_word (by decide +kernel)
  | lab z i h1 h2 h3 => exact lab_word h1
mutual
theorem Tm.words : ∀ {n k : Nat} {x : PyData} {t : Str}, Tm n k x t → ∃ ws, Tw n x ws ∧ Rp t ws
  | _, _, _, _, .make n i hi => ⟨_, .make n i hi, Rp.wr (lit_word (by decide +kernel)) (.cons (num_word i) .nil)⟩
  | _, _, _, _, .param n i h0 hi => ⟨_, .param n i h0 hi, Rp.wr (lit_word (by decide +kernel)) (.cons (num_word i) .nil)⟩
  | _, _, _, _, .plus i a hi => by
    obtain ⟨ws, h1, h2⟩ := a.words
    have z := Rp.wr (w := "plus") (lit_word (by decide +kernel)) (.cons h2 (.cons (num_word i) .nil))
    rw [List.flatten_cons, List.flatten_cons, List.flatten_nil, List.append_nil] at z
    exact ⟨_, .plus i h1 hi, z⟩
  | _, _, _, _, .call hl hf hs h4 => by
    obtain ⟨wss, h1, h2⟩ := hs.words
    have z := Rp.wr (w := "call") (lit_word (by decide +kernel)) (.cons hl.word (.cons (name_word hf) h2))
    rw [List.flatten_cons, List.flatten_cons] at z
    exact ⟨_, .call hl hf h1 h4, z⟩
  | _, _, _, _, .two hs => by
    obtain ⟨wss, h1, h2⟩ := hs.words
    exact ⟨_, .two h1, Rp.wr (lit_word (by decide +kernel)) h2⟩
  | _, _, _, _, .three hs => by
    obtain ⟨wss, h1, h2⟩ := hs.words
    exact ⟨_, .three h1, Rp.wr (lit_word (by decide +kernel)) h2⟩
theorem Tms.words : ∀ {n k : Nat} {xs : List PyData} {ts : List Str}, Tms n k xs ts → ∃ wss, Tws n xs wss.flatten ∧ Paired Rp ts wss
  | _, _, _, _, .nil n => ⟨[], .nil n, .nil⟩
  | _, _, _, _, .cons a b => by
    obtain ⟨ws, h1, h2⟩ := a.words
    obtain ⟨wss, h3, h4⟩ := b.words
    exact ⟨ws :: wss, .cons h1 h3, .cons h2 h4⟩
end
theorem Ex5.words {x : PyData} {t : Str} (h : Ex5 x t) : ∃ ws, Tw 5 x ws ∧ wordsR bOp bOpS bCl bClS " " t = ws := by
  obtain ⟨k, hk, h⟩ := h.at5
  obtain ⟨ws, h1, h2⟩ := h.words
  exact ⟨ws, h1, words_of h2⟩
/-- a function's words -/
theorem kns_words : ∀ {ks : List PyData} {ts : List Str}, Paired Kn ks ts → Paired Rp ts (ts.map fun t => [t])
  | _, _, .nil => .nil
  | _, _, .cons a r => .cons a.word (kns_words r)
theorem flat1 : ∀ ts : List Str, (ts.map fun t => [t]).flatten = ts
  | [] => rfl
  | t :: ts => by rw [List.map_cons, List.flatten_cons, flat1 ts]; rfl
theorem pair_app {α β : Type} {F : α → β → Prop} : ∀ {xs xs2 : List α} {ys ys2 : List β}, Paired F xs ys → Paired F xs2 ys2 → Paired F (xs ++ xs2) (ys ++ ys2)
  | _, _, _, _, .nil, h => h
  | _, _, _, _, .cons a t, h => .cons a (pair_app t h)
inductive Fw : PyData → List Str → Prop
  | mk {f : Str} {ks : List PyData} {kts : List Str} {r : PyData} {rt : Str} {x : PyData} {ws : List Str} : nameS f = true → Paired Kn ks kts → ks.length ≤ 4 → Kn r rt → Tw 5 x ws → Fw (.tuple [.str f, .tuple ks, r, x]) (f :: (kts ++ ("->" : Str) :: rt :: ws))
theorem Wk.words {x : PyData} {t : Str} (h : Wk x t) : ∃ ws, Fw x ws ∧ wordsR bOp bOpS bCl bClS " " t = ws := by
  cases h with
  | @mk f ks kts r rt x t hf hk h4 hr hx =>
    obtain ⟨k, _, hx⟩ := hx.at5
    obtain ⟨ws, h1, h2⟩ := hx.words
    refine ⟨_, .mk hf hk h4 hr h1, ?_⟩
    have p : Paired Rp (f :: (kts ++ ([("->" : Str), rt, t] : List Str))) ([f] :: ((kts.map fun t => [t]) ++ [[("->" : Str)], [rt], ws])) :=
      .cons (name_word hf) (pair_app (kns_words hk) (.cons (lit_word (by decide +kernel)) (.cons hr.word (.cons h2 .nil))))
    have j := Rp.join (by simp) p
    have e : ([f] :: ((kts.map fun t => [t]) ++ [[("->" : Str)], [rt], ws])).flatten = f :: (kts ++ ("->" : Str) :: rt :: ws) := by
      rw [List.flatten_cons, List.flatten_append, flat1, List.flatten_cons, List.flatten_cons, List.flatten_cons, List.flatten_nil, List.append_nil]
      rfl
    rw [e] at j
    rw [show Txt.join " " (f :: (kts ++ ([("->" : Str), rt, t] : List Str))) = Str.join " " (f :: (kts ++ ([("->" : Str), rt, t] : List Str))) from glued_eq_join _ _]
    exact words_of j
end K61
/-! law k91: the program's texts of labels and kinds, its readers of numbers, labels, kinds -/
namespace K61
open PySem PySem.Spec PySem.Builtin.Str PyProof.Rows L2 DL
theorem loopD_cnt {gg : GG} {body : GS} (I : Nat → DEnv → Store → Prop) {D : DE} : ∀ {items : List PyData} {n : Nat} {env : DEnv} {S : Store},
    (∀ j x, items[j]? = some x → ∀ env S, I (n + j) env S → ∀ E : DE, (∀ e s, I (n + j + 1) e s → E.nx e s) → (∀ e s, I (n + j + 1) e s → E.ct e s) → E.rt = D.rt → E.bk = D.nx → gg (.d x) env S fun env' S' => body env' S' E) →
    (∀ env S, I (n + items.length) env S → D.nx env S) → I n env S → loopD gg body items env S D
  | [], n, env, S, _, k, i => k env S i
  | x :: xs, n, env, S, h, k, i => by
    have step : ∀ e s, I (n + 1) e s → loopD gg body xs e s D := fun e s is => by
      refine loopD_cnt I (n := n + 1) (fun j y hy env S i E en ec er eb => ?_) (fun env S i => ?_) is
      · refine h (j + 1) y hy env S (by rw [show n + (j + 1) = n + 1 + j by omega]; exact i) E (fun e s is => en e s ?_) (fun e s is => ec e s ?_) er eb
        · rw [show n + 1 + j + 1 = n + (j + 1) + 1 by omega]; exact is
        · rw [show n + 1 + j + 1 = n + (j + 1) + 1 by omega]; exact is
      · refine k env S ?_
        rw [List.length_cons, show n + (xs.length + 1) = n + 1 + xs.length by omega]
        exact i
    exact h 0 x rfl env S i _ step step rfl rfl
theorem atx0 {α : Type} {x : α} {xs : List α} : atI (x :: xs) 0 = some x := atI_nat (j := 0) rfl
theorem not_t {c : Bool} (h : (!c) = true) : c = false := by cases c <;> first | rfl | cases h
theorem not_f {c : Bool} (h : (!c) = false) : c = true := by cases c <;> first | rfl | cases h
theorem and_t {g1 g2 : GT} {env : DEnv} {S : Store} {P : Bool → Store → Prop} (h : g1 env S fun c S1 => cond c (g2 env S1 P) (P false S1)) : gAnd g1 g2 env S P := h
theorem or_t {g1 g2 : GT} {env : DEnv} {S : Store} {P : Bool → Store → Prop} (h : g1 env S fun c S1 => cond c (P true S1) (g2 env S1 P)) : gOr g1 g2 env S P := h
theorem t_ix0 {neg : Bool} {i : Nat} {env : DEnv} {S : Store} {k : Bool → Store → Prop} {x y : Str} {c : Nat} {r : List Nat} (hi : env[i]? = some (some (.d (.str x)))) (hl : x.cps.toList = c :: r)
    (h : k (cond neg (!decide (sgn c = y)) (decide (sgn c = y))) S) : gTest (gBin (dEq neg) (gBin dIx (gVar i) (gC (.int 0))) (gC (.str y))) env S k := by
  unfold gTest gBin gVar gC
  rw [hi]
  refine ix_s (a := .d (.str x)) (b := .d (.int 0)) (z := x) (i := 0) rfl rfl (c := c) (by rw [hl]; exact atx0) ?_
  exact h
theorem line {n : Nat} (h : n ≤ 100000) : n ≤ sizeLine := by rw [sizeLine_eq]; omega
theorem sl1 : ("/" : Str).length = 1 := by decide +kernel
theorem emp_app (x : Str) : Str.empty ++ x = x := by
  refine TL.ext_tl ?_
  rw [TL.tl_append]
  rfl
theorem j_lab {i : Nat} {x : Str} {b : Int} {env : DEnv} {S : Store} {D : DE} (hi : env[i]? = some (some (.d (.tuple [.str x, .int b])))) (hx : x.length ≤ 8) (hb : b.natAbs < 10 ^ 570) (h : D.rt (.d (.str (x ++ "/" ++ numT b))) S) :
    gsRet (gJoined [gFmt (gBin dIx (gVar i) (gC (.int 0))), gC (.str "/"), gFmt (gBin dIx (gVar i) (gC (.int 1)))]) env S D := by
  have l2 := numT_len hb
  dsimp only [gsRet, gJoined, gJs, gFmt, gBin, gVar, gC]
  rw [hi]
  refine ix_t (a := .d (.tuple [.str x, .int b])) (b := .d (.int 0)) rfl rfl atx0 ?_
  refine ⟨line (by rw [emp_app]; omega), line (by rw [emp_app, app_len, sl1]; omega), ?_⟩
  refine ix_t (a := .d (.tuple [.str x, .int b])) (b := .d (.int 1)) rfl rfl at1 ?_
  refine ⟨hb, line (by rw [emp_app, app_len, app_len, sl1]; omega), ?_⟩
  rw [emp_app]
  exact h
def digS : Str := "0123456789"
theorem dig_sub : ∀ i, i < 10 → strSub digS i (i + 1) = ⟨#[48 + i]⟩ := by decide +kernel
theorem find_dig' : ∀ i, i < 10 → Txt.find digS ⟨#[48 + i]⟩ = (i : Int) := by decide +kernel
theorem find_dig {c : Nat} (h : digB c = true) : Txt.find digS ⟨#[c]⟩ = ((c - 48 : Nat) : Int) := by
  obtain ⟨h1, h2⟩ := Bool.and_eq_true_iff.mp h
  have h1 := of_decide_eq_true h1
  have h2 := of_decide_eq_true h2
  have z := find_dig' (c - 48) (by omega)
  rw [show 48 + (c - 48) = c by omega] at z
  exact z
theorem find_not {c : Nat} (h : digB c = false) : Txt.find digS ⟨#[c]⟩ = -1 := by
  rcases find_spec digS ⟨#[c]⟩ with e | ⟨i, _, h1, h2⟩
  · exact e
  · exfalso
    have h3 : i < 10 := by
      have a1 : (⟨#[c]⟩ : Str).length = 1 := rfl
      have a2 : digS.length = 10 := by decide +kernel
      omega
    have z := dig_sub i h3
    have a1 : (⟨#[c]⟩ : Str).length = 1 := rfl
    rw [a1, z] at h2
    have e : 48 + i = c := by
      have := congrArg (fun s : Str => s.cps.toList) h2
      simpa using this
    unfold digB at h
    rw [decide_eq_true (by omega : 48 ≤ c), decide_eq_true (by omega : c ≤ 57)] at h
    cases h
def ctD : Option Nat → PyData
  | none => .none
  | some n => .int (n : Int)
def WCt : WD := fun as S P => ∃ x : Str, as = [.d (.str x)] ∧ x.length ≤ 570 ∧ P (.d (ctD (countT x))) S
def WSt (f : Str → PyData) : WD := fun as S P => ∃ x : Str, as = [.d (.str x)] ∧ x.length ≤ 570 ∧ P (.d (f x)) S
def lbD (x : Str) : PyData := labD (labIn x)
def WKin : WD := fun as S P => ∃ x t, as = [.d (.str t)] ∧ Kn x t ∧ P (.d x) S
def WNin : WD := fun as S P => ∃ i : Int, as = [.d (.str (numT i))] ∧ Num i ∧ P (.d (.int i)) S
def WLin : WD := fun as S P => ∃ (z : Str) (i : Int), as = [.d (.str (z ++ "/" ++ numT i))] ∧ nameS z = true ∧ 0 ≤ i ∧ Num i ∧ P (.d (.tuple [.str z, .int i])) S
section
variable {P : Program} {w : World} {K : PySem.W.Frag} {mg : Str → Option Value} {base : Heap}
abbrev s_label_text : Stmt := top 11
theorem sc_label_text : FnScope ["label"] ["label"] (defScope s_label_text) := ⟨rfl, rfl, rfl, by decide +kernel, rfl, by decide +kernel, by decide +kernel⟩
theorem ok_label_text (D : DefAt K mg "label_text" s_label_text ["label"]) : Own P w K mg base 1 "label_text" ["label"] WLt := by
  have sc := sc_label_text
  refine okO D sc (fun as S P h => by obtain ⟨_, _, rfl, _⟩ := h; rfl) (fun f cdv A outer s H E hg hr => (pdss_one (pds_ret (pd_joined (pdj_cons (pd_fmt (pd_at (pdv 0) (pd_int))) (pdj_cons (pd_str) (pdj_cons (pd_fmt (pd_at (pdv 0) (pd_int))) pdj_nil))))))) (fun args S P h => ?_)
  obtain ⟨z, i, rfl, hz, hi, h⟩ := h
  exact j_lab rfl (name_len hz) hi.big h
abbrev s_kind_text : Stmt := top 35
theorem sc_kind_text : FnScope ["kind"] ["kind"] (defScope s_kind_text) := ⟨rfl, rfl, rfl, by decide +kernel, rfl, by decide +kernel, by decide +kernel⟩
theorem ok_kind_text (D : DefAt K mg "kind_text" s_kind_text ["kind"]) (G : Gc K mg) (o_label_text : Own P w K mg base 1 "label_text" ["label"] WLt) : Own P w K mg base 2 "kind_text" ["kind"] WKt := by
  have sc := sc_kind_text
  refine okO D sc (fun as S P h => by obtain ⟨_, _, rfl, _⟩ := h; rfl) (fun f cdv A outer s H E hg hr => (pdss_one (pds_ret (pd_ife (pdt_eqT hr (pdv 0) (pd_gstr G.g_OWN (by rfl))) (pd_gstr G.g_OWN (by rfl)) (pdc o_label_text hg hr (by rfl) (pda_cons (pdv 0) pda_nil)))))) (fun args S P h => ?_)
  obtain ⟨x, t, rfl, hk, h⟩ := h
  cases hk with
  | own => exact h
  | lab z i h1 h2 h3 => exact ⟨z, i, rfl, h1, h3, h⟩
abbrev s_count_in : Stmt := top 12
theorem sc_count_in : FnScope ["text", "number", "character", "digit"] ["text"] (defScope s_count_in) := ⟨rfl, rfl, rfl, by decide +kernel, rfl, by decide +kernel, by decide +kernel⟩
theorem ok_count_in (D : DefAt K mg "count_in" s_count_in ["text"]) (G : Gc K mg) : Own P w K mg base 1 "count_in" ["text"] WCt := by
  have sc := sc_count_in
  refine okO D sc (fun as S P h => by obtain ⟨_, rfl, _⟩ := h; rfl) (fun f cdv A outer s H E hg hr => (pdss_cons (pds_if (pdt_w (pdw_or (pdt_eq hr (pdv 0) (pd_str)) (pdw_or1 (pdt_w (pdw_and (pdt_eq hr (pd_at (pdv 0) (pd_int)) (pd_str)) (pdw_and1 (pdt_ne hr (pdv 0) (pd_str)))))))) (pdss_one (pds_ret (pd_non))) pdss_nil) (pdss_cons (pds_set (i := 1) sc.nd rfl (Or.inl rfl) (pd_int)) (pdss_cons (pds_for PassesOwn.never rfl (pdi_str (pdv 0)) (pdg_name (i := 2) sc.nd rfl (Or.inl rfl)) (pdss_cons (pds_set (i := 3) sc.nd rfl (Or.inl rfl) (pd_bm PySem.F.plainAttrs_str PySem.F.slot_str_find PySem.F.type_str_find mt_find vr_find (pd_gstr G.g_DIGITS (by rfl)) (pda_cons (pdv 2) pda_nil))) (pdss_cons (pds_if (pdt_lt (pdv 3) (pd_int)) (pdss_one (pds_ret (pd_non))) pdss_nil) (pdss_one (pds_set (i := 1) sc.nd rfl (Or.inl rfl) (pd_add (pd_mul (pdv 1) (pd_int)) (pdv 3))))))) (pdss_one (pds_ret (pdv 1))))))) (fun args S P h => ?_)
  obtain ⟨x, rfl, hx, h⟩ := h
  have bad : badHead x.cps.toList = true → P (.d .none) S := fun e => by
    unfold countT at h
    rw [e] at h
    exact h
  have val : badHead x.cps.toList = false → x.cps.toList.all digB = true → P (.d (.int (valL x.cps.toList))) S := fun e e2 => by
    unfold countT at h
    rw [e, e2] at h
    exact h
  have odd : ∀ (i c : Nat), x.cps.toList[i]? = some c → digB c = false → P (.d .none) S := fun i c hc hd => by
    have e : x.cps.toList.all digB = false := by
      rw [List.all_eq_false]
      exact ⟨c, List.mem_of_getElem? hc, by rw [hd]; exact Bool.false_ne_true⟩
    unfold countT at h
    rw [e, Bool.not_false, Bool.or_true] at h
    exact h
  refine cond_or (c := decide (x = "")) (fun h0 => ?_) (fun h0 => ?_)
  · rw [str_dec] at h0
    have h0 := of_decide_eq_true h0
    exact bad (by rw [h0]; rfl)
  rw [str_dec] at h0
  have h0 : x.cps.toList ≠ [] := of_decide_eq_false h0
  obtain ⟨c, r, hl⟩ := List.exists_cons_of_ne_nil h0
  refine and_t (t_ix0 rfl hl ?_)
  have h48 : decide (sgn c = "0") = decide (c = 48) := by
    rw [str_dec]
    show decide (([c] : List Nat) = [48]) = _
    rw [Bool.eq_iff_iff, decide_eq_true_eq, decide_eq_true_eq]
    exact ⟨fun h => by cases h; rfl, fun h => by rw [h]⟩
  have main : badHead x.cps.toList = false → gsSeq (gsAsg (gC (.int 0)) (ggName 1)) (gsSeq (gsFor (giStr (gVar 0)) (ggName 2) (gsSeq (gsAsg (gM "str" dFind (gC (.str digS)) (DL.gCons (gVar 2) DL.gNil)) (ggName 3))
      (gsSeq (gsIf (gTest (gBin (dOrd iLt sLt) (gVar 3) (gC (.int 0)))) (gsRet (gC .none)) gsNext) (gsAsg (gBin dAdd (gBin dMul (gVar 1) (gC (.int 10))) (gVar 3)) (ggName 1))))) (gsRet (gVar 1)))
      [some (.d (.str x)), none, none, none] S ⟨fun _ S' => P (.d .none) S', P, fun _ _ => False, fun _ _ => False⟩ := fun hb => by
    show loopD _ _ (x.cps.toList.map fun c => PyData.str (sgn c)) [some (.d (.str x)), some (.d (.int 0)), none, none] S _
    refine loopD_cnt (fun j e s => s = S ∧ (∀ c ∈ x.cps.toList.take j, digB c = true) ∧ ∃ a b, e = [some (.d (.str x)), some (.d (.int ((valL (x.cps.toList.take j) : Nat) : Int))), a, b]) (n := 0) (fun j y hy env S' I E en ec er eb => ?_) (fun env S' I => ?_)
      ⟨rfl, fun c hc => (by rw [List.take_zero] at hc; cases hc), _, _, rfl⟩
    · rw [Nat.zero_add] at I en
      obtain ⟨rfl, hd, a, b, rfl⟩ := I
      rw [List.getElem?_map] at hy
      obtain ⟨c, hc, rfl⟩ := Option.map_eq_some_iff.mp hy
      refine ⟨rfl, ?_⟩
      cases hcd : digB c with
      | true =>
        have e := find_dig hcd
        refine cond_f (c := iLt (Txt.find digS (sgn c)) 0) (by show decide _ = _; rw [show Txt.find digS (sgn c) = _ from e]; exact decide_eq_false (by omega)) ?_
        refine ⟨.inr ⟨by decide, by decide⟩, en _ _ ⟨rfl, fun d hm => ?_, some (.d (.str (sgn c))), some (.d (.int (Txt.find digS (sgn c)))), ?_⟩⟩
        · rw [List.take_add_one, hc, List.mem_append] at hm
          rcases hm with hm | hm
          · exact hd d hm
          · obtain rfl : d = c := by simpa using hm
            exact hcd
        · rw [show Txt.find digS (sgn c) = _ from e, List.take_add_one, hc]
          have e2 : ((valL (x.cps.toList.take j ++ [c]) : Nat) : Int) = (valL (x.cps.toList.take j) : Int) * 10 + ((c - 48 : Nat) : Int) := by
            unfold valL
            rw [List.foldl_append]
            show ((stepL _ _ : Nat) : Int) = _
            unfold stepL
            push_cast
            rfl
          show _ = [some (AV.d (.str x)), some (.d (.int (valL (x.cps.toList.take j ++ [c]) : Nat))), _, _]
          rw [e2]
          rfl
      | false =>
        have e := find_not hcd
        refine cond_t (c := iLt (Txt.find digS (sgn c)) 0) (by show decide _ = _; rw [show Txt.find digS (sgn c) = _ from e]; rfl) ?_
        show E.rt (.d .none) _
        rw [er]
        exact odd j c hc hcd
    · rw [List.length_map, Nat.zero_add, List.take_length] at I
      obtain ⟨rfl, hd, a, b, rfl⟩ := I
      exact val hb (List.all_eq_true.mpr hd)
  refine cond_or (c := decide (sgn c = "0")) (fun h1 => ?_) (fun h1 => ?_)
  · rw [h48] at h1
    have h1 := of_decide_eq_true h1
    refine cond_or (c := !decide (x = "0")) (fun h2 => ?_) (fun h2 => ?_)
    · rw [str_dec] at h2
      have h2 : ¬ x.cps.toList = [48] := of_decide_eq_false (not_t h2)
      refine bad ?_
      unfold badHead
      rw [decide_eq_false h2, hl, h1]
      rfl
    · rw [str_dec] at h2
      have h2 : x.cps.toList = [48] := of_decide_eq_true (not_f h2)
      exact main (by rw [h2]; rfl)
  · rw [h48] at h1
    have h1 := of_decide_eq_false h1
    refine main ?_
    unfold badHead
    rw [hl, decide_eq_false (by simp), decide_eq_false (by simpa using h1)]
    rfl
abbrev s_label_in : Stmt := top 13
theorem sc_label_in : FnScope ["text", "generation", "package", "_", "number"] ["text"] (defScope s_label_in) := ⟨rfl, rfl, rfl, by decide +kernel, rfl, by decide +kernel, by decide +kernel⟩
theorem ok_label_in (D : DefAt K mg "label_in" s_label_in ["text"]) (B : Bl mg) (o_count_in : Own P w K mg base 1 "count_in" ["text"] WCt) (o_is_name : Own P w K mg base 1 "is_name" ["value"] (WB nameD)) : Own P w K mg base 2 "label_in" ["text"] (WSt lbD) := by
  have sc := sc_label_in
  refine okO D sc (fun as S P h => by obtain ⟨_, rfl, _⟩ := h; rfl) (fun f cdv A outer s H E hg hr => (pdss_cons (pds_asg (pd_bm PySem.F.plainAttrs_str PySem.F.slot_str_partition PySem.F.type_str_partition mt_partition vr_part (pdv 0) (pda_cons (pd_str) pda_nil)) (pdg_tup (n := 3) rfl (pdgs_cons (pdg_name (i := 2) sc.nd rfl (Or.inl rfl)) (pdgs_cons (pdg_name (i := 3) sc.nd rfl (Or.inl rfl)) (pdgs_cons (pdg_name (i := 4) sc.nd rfl (Or.inl rfl)) pdgs_nil))))) (pdss_cons (pds_set (i := 1) sc.nd rfl (Or.inl rfl) (pdc o_count_in hg hr (by rfl) (pda_cons (pdv 4) pda_nil))) (pdss_cons (pds_if (pdt_w (pdw_or (pdt_not (pdt_val (pdc o_is_name hg hr (by rfl) (pda_cons (pdv 2) pda_nil)))) (pdw_or1 (pdt_is (pdv 1) (pd_non))))) (pdss_one (pds_ret (pd_non))) pdss_nil) (pdss_one (pds_ret (pd_tup (pda_cons (pdv 2) (pda_cons (pdv 1) pda_nil))))))))) (fun args S P h => ?_)
  obtain ⟨x, rfl, hx, h⟩ := h
  have h : P (.d (labD (labIn x))) S := h
  have ln := part_lens x "/"
  refine ⟨rfl, ⟨by decide +kernel, by omega⟩, rfl, rfl, _, rfl, by omega, _, rfl, ?_⟩
  unfold labIn at h
  refine cond_or (c := !nameS (Txt.partition x "/").1) (fun g => ?_) (fun g => ?_)
  · have g := not_t g
    cases e : countT (Txt.partition x "/").2.2 with
    | none => rw [e] at h; exact h
    | some n =>
      rw [e] at h
      have h : P (.d (labD (if nameS (Txt.partition x "/").1 then some ((Txt.partition x "/").1, n) else none))) S := h
      rw [g] at h
      exact h
  have g := not_f g
  cases e : countT (Txt.partition x "/").2.2 with
  | none => rw [e] at h; exact h
  | some n =>
    rw [e] at h
    have h : P (.d (labD (if nameS (Txt.partition x "/").1 then some ((Txt.partition x "/").1, n) else none))) S := h
    rw [g] at h
    exact ⟨small2 rfl, h⟩
abbrev s_kind_in_text : Stmt := top 48
theorem sc_kind_in_text : FnScope ["text"] ["text"] (defScope s_kind_in_text) := ⟨rfl, rfl, rfl, by decide +kernel, rfl, by decide +kernel, by decide +kernel⟩
theorem ok_kind_in_text (D : DefAt K mg "kind_in_text" s_kind_in_text ["text"]) (G : Gc K mg) (o_label_in : Own P w K mg base 2 "label_in" ["text"] (WSt lbD)) : Own P w K mg base 3 "kind_in_text" ["text"] WKin := by
  have sc := sc_kind_in_text
  refine okO D sc (fun as S P h => by obtain ⟨_, _, rfl, _⟩ := h; rfl) (fun f cdv A outer s H E hg hr => (pdss_one (pds_ret (pd_ife (pdt_eq hr (pdv 0) (pd_gstr G.g_OWN (by rfl))) (pd_gstr G.g_OWN (by rfl)) (pdc o_label_in hg hr (by rfl) (pda_cons (pdv 0) pda_nil)))))) (fun args S P h => ?_)
  obtain ⟨x, t, rfl, hk, h⟩ := h
  have hl := hk.len
  cases hk with
  | own => exact h
  | lab z i h1 h2 h3 =>
    have ne : ¬ (z ++ "/" ++ numT i : Str) = "own" := fun e => by
      have q := congrArg TL.tl e
      rw [TL.tl_append, TL.tl_append, show TL.tl (Str.ofString "own") = [111, 119, 110] by decide +kernel] at q
      have m : 47 ∈ TL.tl z ++ TL.tl (Str.ofString "/") ++ TL.tl (numT i) := List.mem_append_left _ (List.mem_append_right _ (by decide +kernel))
      rw [q] at m
      exact absurd m (by decide)
    refine cond_or (c := decide ((z ++ "/" ++ numT i : Str) = "own")) (fun g => absurd (of_decide_eq_true g) ne) (fun _ => ⟨_, rfl, by omega, ?_⟩)
    unfold lbD
    rw [lab_in h1 h2, lab_back h2]
    exact h
abbrev s_number_in : Stmt := top 49
theorem sc_number_in : FnScope ["text", "count"] ["text"] (defScope s_number_in) := ⟨rfl, rfl, rfl, by decide +kernel, rfl, by decide +kernel, by decide +kernel⟩
theorem ok_number_in (D : DefAt K mg "number_in" s_number_in ["text"]) (o_count_in : Own P w K mg base 1 "count_in" ["text"] WCt) : Own P w K mg base 2 "number_in" ["text"] WNin := by
  have sc := sc_number_in
  refine okO D sc (fun as S P h => by obtain ⟨_, rfl, _⟩ := h; rfl) (fun f cdv A outer s H E hg hr => (pdss_cons (pds_set (i := 1) sc.nd rfl (Or.inl rfl) (pdc o_count_in hg hr (by rfl) (pda_cons (pd_bm PySem.F.plainAttrs_str PySem.F.slot_str_removeprefix PySem.F.type_str_removeprefix mt_removeprefix vr_rmp (pdv 0) (pda_cons (pd_str) pda_nil)) pda_nil))) (pdss_cons (pds_if (pdt_w (pdw_or (pdt_is (pdv 1) (pd_non)) (pdw_or1 (pdt_eq hr (pdv 0) (pd_str))))) (pdss_one (pds_ret (pd_non))) pdss_nil) (pdss_one (pds_ret (pd_ife (pdt_val (pd_bm PySem.F.plainAttrs_str PySem.F.slot_str_startswith PySem.F.type_str_startswith mt_startswith vr_stw (pdv 0) (pda_cons (pd_str) pda_nil))) (pd_neg (pdv 1)) (pdv 1))))))) (fun args S P h => ?_)
  obtain ⟨i, rfl, hi, h⟩ := h
  have hl := hi.len
  refine ⟨rfl, ?_⟩
  have rl : (Txt.removeprefix (numT i) "-").length ≤ 40 := by
    cases i with
    | ofNat n =>
      show (Txt.removeprefix (numT (n : Int)) "-").length ≤ 40
      rw [rmp_pos]
      exact Nat.le_trans hl (by decide)
    | negSucc n =>
      rw [TL.len_tl, rmp_neg]
      have : (numT (Int.negSucc n)).length = (dd (n + 1)).length + 1 := by rw [TL.len_tl, tl_neg, List.length_cons]
      omega
  refine ⟨by rw [sizeLine_eq]; omega, _, rfl, by omega, ?_⟩
  have cases' : ∃ n : Nat, countT (Txt.removeprefix (numT i) "-") = some n ∧ (if Txt.startswith (numT i) "-" then -(n : Int) else (n : Int)) = i := by
    cases i with
    | ofNat n =>
      refine ⟨n, ?_, ?_⟩
      · show countT (Txt.removeprefix (numT (n : Int)) "-") = _
        rw [rmp_pos, count_num (Int.natCast_nonneg n)]
        rfl
      · show (if Txt.startswith (numT (n : Int)) "-" then _ else _) = _
        rw [stw_pos]
        rfl
    | negSucc n =>
      refine ⟨n + 1, count_dd (rmp_neg n), ?_⟩
      rw [stw_neg]
      rfl
  obtain ⟨n, e1, e2⟩ := cases'
  rw [e1]
  refine cond_f (c := decide (numT i = "-0")) (decide_eq_false (num_ne i)) ?_
  refine ⟨rfl, ?_⟩
  refine cond_or (c := Txt.startswith (numT i) "-") (fun e => ?_) (fun e => ?_)
  · rw [e] at e2
    have e2 : -(n : Int) = i := e2
    show P (.d (.int (-(n : Int)))) S
    rw [e2]
    exact h
  · rw [e] at e2
    have e2 : (n : Int) = i := e2
    show P (.d (.int (n : Int))) S
    rw [e2]
    exact h
end
end K61
/-! law k91: the program writes texts of code -/
namespace K61
open PySem PySem.Spec PyProof.Rows L2 DL
def WTx (n : Nat) : WD := fun as S P => ∃ x t m k, as = [.d x] ∧ m ≤ n ∧ k ≤ 30 ∧ Tm m k x t ∧ P (.d (.str t)) S
def Tx (n : Nat) (x : PyData) (t : Str) : Prop := ∃ m k, m + 1 ≤ n ∧ k ≤ 30 ∧ Tm m k x t
theorem tms_tx : ∀ {n m k : Nat} {xs : List PyData} {ts : List Str}, m + 1 ≤ n → k ≤ 30 → Tms m k xs ts → Paired (Tx n) xs ts
  | _, _, _, _, _, _, _, .nil _ => .nil
  | _, _, _, _, _, hm, hk, .cons a b => .cons ⟨_, _, hm, by omega, a⟩ (tms_tx hm (by omega) b)
theorem Tx.len {n : Nat} {x : PyData} {t : Str} (h : Tx n x t) : t.length ≤ 3000 := by
  obtain ⟨m, k, _, hk, h⟩ := h
  have := h.len
  omega
theorem txs_len {n : Nat} : ∀ {ps : List PyData} {ts : List Str}, Paired (Tx n) ps ts → lens ts ≤ 3000 * ts.length
  | _, _, .nil => Nat.le_refl _
  | _, _, .cons (b := t) (l₂ := ts) a r => by
    rw [lens_cons, List.length_cons]
    have := a.len
    have := txs_len r
    omega
theorem tm_split {n m k : Nat} {x : PyData} {t : Str} (hm : m ≤ n) (hk : k ≤ 30) (h : Tm m k x t) : (∃ w xs ts, x = .tuple (.str w :: xs) ∧ t = wr w ts ∧ w.length ≤ 8 ∧ ¬ w = "call" ∧ Paired (Pt n) xs ts ∧ xs.length ≤ 3) ∨
    ∃ l lt f as us, x = .tuple [.str "call", l, .str f, .tuple as] ∧ t = wr "call" (lt :: f :: us) ∧ Lb l lt ∧ nameS f = true ∧ Paired (Tx n) as us ∧ as.length ≤ 4 := by
  cases h with
  | make m i hi => exact .inl ⟨_, _, _, rfl, rfl, by decide, by decide +kernel, .cons ⟨by omega, .inl ⟨i, rfl, hi, rfl⟩⟩ .nil, (by show 1 ≤ 3; decide)⟩
  | param m i h0 hi => exact .inl ⟨_, _, _, rfl, rfl, by decide, by decide +kernel, .cons ⟨by omega, .inl ⟨i, rfl, hi, rfl⟩⟩ .nil, (by show 1 ≤ 3; decide)⟩
  | plus i a hi => exact .inl ⟨_, _, _, rfl, rfl, by decide, by decide +kernel, .cons ⟨by omega, .inr (.inr ⟨_, _, hm, by omega, a⟩)⟩ (.cons ⟨by omega, .inl ⟨i, rfl, hi, rfl⟩⟩ .nil), (by show 2 ≤ 3; decide)⟩
  | call a b c d => exact .inr ⟨_, _, _, _, _, rfl, rfl, a, b, tms_tx hm (by omega) c, d⟩
  | two a => exact .inl ⟨_, _, _, rfl, rfl, by decide, by decide +kernel, tms_pt hm (by omega) a, (by show 2 ≤ 3; decide)⟩
  | three a => exact .inl ⟨_, _, _, rfl, rfl, by decide, by decide +kernel, tms_pt hm (by omega) a, (by show 3 ≤ 3; decide)⟩
section
variable {P : Program} {w : World} {K : PySem.W.Frag} {mg : Str → Option Value} {base : Heap}
theorem ret_text {i j : Nat} {env : DEnv} {S : Store} {D : DE} {w : Str} {ts : List Str} (h0 : env[i]? = some (some (.d (.str w)))) (h1 : env[j]? = some (some (.d (.list (ts.map .str))))) (hl : lens (w :: ts) + ts.length ≤ 100000) (h : D.rt (.d (.str (wr w ts))) S) :
    gsRet (gBin dAdd (gBin dAdd (gC (.str "(")) (gM "str" dJoin (gC (.str " ")) (DL.gCons (gBin dAdd (fun env S P => DL.gCons (gVar i) DL.gNil env S fun as S1 => as.length ≤ sizeLine ∧ dLst as S1 P) (gVar j)) DL.gNil))) (gC (.str ")"))) env S D := by
  have jl := join_le (w :: ts)
  have e1 : ("(" : Str).length = 1 := rfl
  have e2 : (")" : Str).length = 1 := rfl
  have lw : (w :: ts).length = ts.length + 1 := rfl
  have go : (gVar i) env S fun a S1 => ([a] : List AV).length ≤ sizeLine ∧ dLst [a] S1 fun u S2 => (gVar j) env S2 fun v S3 => dAdd u v S3 fun z S4 => dJoin (.d (.str " ")) [z] S4 fun y S5 => dAdd (.d (.str "(")) y S5 fun x S6 => dAdd x (.d (.str ")")) S6 D.rt := by
    unfold gVar
    rw [h0]
    refine ⟨small2 rfl, lst_ok rfl ?_⟩
    rw [h1]
    refine ⟨by rw [List.length_map, sizeLine_eq]; show 1 + ts.length ≤ _; omega, ?_⟩
    show dJoin (.d (.str " ")) [.d (.list ((w :: ts).map .str))] S _
    refine join_strs (by omega) ?_
    refine ⟨by rw [sizeLine_eq]; omega, ?_⟩
    refine ⟨by rw [app_len, sizeLine_eq]; omega, h⟩
  exact ⟨rfl, go⟩
theorem star_step {b : GS} {i p q : Nat} {env : DEnv} {S : Store} {D : DE} {d : PyData} {ds : List PyData} (h0 : env[i]? = some (some (.d (.tuple (d :: ds))))) (h : b ((env.set p (some (.d d))).set q (some (.d (.list ds)))) S D) :
    gsSeq (gsAsg (gVar i) (ggStar (ggCons (ggName p) (ggCons (ggName q) ggNil)))) b env S D := by
  have go : (gVar i) env S fun a S1 => ggStar (ggCons (ggName p) (ggCons (ggName q) ggNil)) a env S1 fun env' S' => b env' S' D := by
    unfold gVar
    rw [h0]
    exact ⟨rfl, h⟩
  exact go
theorem unl_step {b : GS} {i p q r : Nat} {env : DEnv} {S : Store} {D : DE} {x y z : PyData} (h0 : env[i]? = some (some (.d (.list [x, y, z])))) (h : b (((env.set p (some (.d x))).set q (some (.d y))).set r (some (.d z))) S D) :
    gsSeq (gsAsg (gVar i) (ggUnl 3 (ggCons (ggName p) (ggCons (ggName q) (ggCons (ggName r) ggNil))))) b env S D := by
  have go : (gVar i) env S fun a S1 => ggUnl 3 (ggCons (ggName p) (ggCons (ggName q) (ggCons (ggName r) ggNil))) a env S1 fun env' S' => b env' S' D := by
    unfold gVar
    rw [h0]
    exact ⟨rfl, rfl, h⟩
  exact go
theorem eqs_step {A1 A2 b : GS} {i : Nat} {env : DEnv} {S : Store} {D : DE} {w z : Str} (h4 : env[i]? = some (some (.d (.str w)))) (hA : w = z → A1 env S { D with nx := fun env' S' => b env' S' D }) (hB : ¬ w = z → A2 env S { D with nx := fun env' S' => b env' S' D }) :
    gsSeq (gsIf (gTest (gBin (dEq false) (gVar i) (gC (.str z)))) A1 A2) b env S D := by
  have go : (gVar i) env S fun a S1 => dEq false a (.d (.str z)) S1 fun x S2 => onB x fun c => cond c (A1 env S2 { D with nx := fun env' S' => b env' S' D }) (A2 env S2 { D with nx := fun env' S' => b env' S' D }) := by
    unfold gVar
    rw [h4]
    show cond (decide (w = z)) _ _
    exact cond_or (fun g => hA (of_decide_eq_true g)) (fun g => hB (of_decide_eq_false g))
  exact go
abbrev s_text_of : Stmt := top 33
theorem sc_text_of : FnScope ["expression", "word", "words", "parts", "label", "name", "arguments", "part", "argument"] ["expression"] (defScope s_text_of) := ⟨rfl, rfl, rfl, by decide +kernel, rfl, by decide +kernel, by decide +kernel⟩
theorem ok_text_of {n : Nat} (D : DefAt K mg "text_of" s_text_of ["expression"]) (B : Bl mg) (G : Gc K mg) (o_label_text : Own P w K mg base 1 "label_text" ["label"] WLt) (o_text_of : Own P w K mg base (1 + n) "text_of" ["expression"] (WTx n)) : Own P w K mg base (1 + n + 1) "text_of" ["expression"] (WTx (n + 1)) := by
  have sc := sc_text_of
  have j1 : 1 ≤ 1 + n := by omega
  refine okO D sc (fun as S P h => by obtain ⟨_, _, _, _, rfl, _⟩ := h; rfl) (fun f cdv A outer s H E hg hr => (pdss_cons (pds_asg (pdv 0) (pdg_star rfl (pdgs_cons (pdg_name (i := 1) sc.nd rfl (Or.inl rfl)) (pdgs_cons (pdg_name (i := 3) sc.nd rfl (Or.inl rfl)) pdgs_nil)))) (pdss_cons (pds_if (pdt_eq hr (pdv 1) (pd_str)) (pdss_cons (pds_asg (pdv 3) (pdg_unl (n := 3) rfl (pdgs_cons (pdg_name (i := 4) sc.nd rfl (Or.inl rfl)) (pdgs_cons (pdg_name (i := 5) sc.nd rfl (Or.inl rfl)) (pdgs_cons (pdg_name (i := 6) sc.nd rfl (Or.inl rfl)) pdgs_nil))))) (pdss_one (pds_set (i := 2) sc.nd rfl (Or.inl rfl) (pd_add (pd_lst (pda_cons (pd_ife (pdt_is (pdv 4) (pd_non)) (pd_gstr G.g_NO_LABEL (by rfl)) (pdc o_label_text hg hr (by rfl) (pda_cons (pdv 4) pda_nil))) (pda_cons (pdv 5) pda_nil))) (pd_lc (own := [("argument", 8)]) rfl sc.nd (pdi_tup (pdv 6)) (blkOk_by (N := ["expression", "word", "words", "parts", "label", "name", "arguments", "part", "argument"]) (sc := defScope s_text_of) (by decide +kernel)) (cg_name (by decide)) (fun _ _ _ _ _ => (pg_name (i := 8) sc.nd rfl (Or.inl rfl))) (fun _ _ _ _ _ => pts_yes) (fun _ _ _ _ _ => (pdc o_text_of hg hr (by rfl) (pda_cons (pdv 8) pda_nil)))))))) (pdss_one (pds_setLc (i := 2) (own := [("part", 7)]) rfl sc.nd rfl rfl (sw_true rfl rfl rfl (by decide +kernel)) (pdi_list (pdv 3)) (blkOk_by (N := ["expression", "word", "words", "parts", "label", "name", "arguments", "part", "argument"]) (sc := defScope s_text_of) (by decide +kernel)) (cg_name (by decide)) (fun _ _ _ _ _ => (pg_name (i := 7) sc.nd rfl (Or.inl rfl))) (fun _ _ _ _ _ => pts_yes) (fun _ _ _ _ _ => (pd_ife (pdt_val (pd_callB call_isi vr_isi (by rfl) (B.b _ (by decide)) boot_isinstance (pda_cons (pdv 7) (pda_cons (pd_ty "tuple" (by rfl) (B.b _ (by decide)) (by decide +kernel)) pda_nil)))) (pdc o_text_of hg hr (by rfl) (pda_cons (pdv 7) pda_nil)) (pd_callTy call_strA vr_strA (by rfl) (B.b _ (by decide)) (by decide +kernel) (pda_cons (pdv 7) pda_nil))))))) (pdss_one (pds_ret (pd_add (pd_add (pd_gstr G.g_BEGIN (by rfl)) (pd_bm PySem.F.plainAttrs_str PySem.F.slot_str_join PySem.F.type_str_join mt_join vr_join (pd_str) (pda_cons (pd_add (pd_lst (pda_cons (pdv 1) pda_nil)) (pdv 2)) pda_nil))) (pd_gstr G.g_END (by rfl)))))))) (fun args S P h => ?_)
  obtain ⟨x, t, m, k, rfl, hm, hk, ht, h⟩ := h
  rcases tm_split hm hk ht with ⟨w, xs, ts, rfl, rfl, hw, hc, hps, h3⟩ | ⟨l, lt, f0, as, us, rfl, rfl, hl, hf, hps, h4⟩
  rotate_left
  · refine star_step rfl (eqs_step rfl (fun _ => ?_) (fun g => absurd rfl g))
    refine unl_step rfl ?_
    have tl := pair_len hps
    have ln := txs_len hps
    have l1 := hl.len
    have l2 := name_len hf
    have go : ∀ (env : DEnv) (b : GS) (Q : DE), env[4]? = some (some (.d l)) → env[5]? = some (some (.d (.str f0))) → env[6]? = some (some (.d (.tuple as))) → env.length = 9 → b (env.set 2 (some (.d (.list ((lt :: f0 :: us).map .str))))) S Q →
        gsSeq (gsAsg (gBin dAdd (fun env S P => DL.gCons (gIfE (gTest (gBin (dIsN false) (gVar 4) (gC .none))) (gC (.str "-")) (gApp WLt (DL.gCons (gVar 4) DL.gNil))) (DL.gCons (gVar 5) DL.gNil) env S fun as S1 => as.length ≤ sizeLine ∧ dLst as S1 P)
          (gComp (List.map (fun x => x.snd) [(Str.ofString "argument", 8)]) (giTup (gVar 6)) (ggName 8) gtYes (gApp (WTx n) (DL.gCons (gVar 8) DL.gNil)))) (ggName 2)) b env S Q := fun env b Q e4 e5 e6 e9 hb => by
      have go : gIfE (gTest (gBin (dIsN false) (gVar 4) (gC .none))) (gC (.str "-")) (gApp WLt (DL.gCons (gVar 4) DL.gNil)) env S fun a S1 => (gVar 5) env S1 fun c S2 => ([a, c] : List AV).length ≤ sizeLine ∧ dLst [a, c] S2 fun u S3 =>
          gComp (List.map (fun x => x.snd) [(Str.ofString "argument", 8)]) (giTup (gVar 6)) (ggName 8) gtYes (gApp (WTx n) (DL.gCons (gVar 8) DL.gNil)) env S3 fun v S4 => dAdd u v S4 fun z S5 => b (env.set 2 (some z)) S5 Q := by
        have rest : (gVar 5) env S fun c S2 => ([.d (.str lt), c] : List AV).length ≤ sizeLine ∧ dLst [.d (.str lt), c] S2 fun u S3 =>
            gComp (List.map (fun x => x.snd) [(Str.ofString "argument", 8)]) (giTup (gVar 6)) (ggName 8) gtYes (gApp (WTx n) (DL.gCons (gVar 8) DL.gNil)) env S3 fun v S4 => dAdd u v S4 fun z S5 => b (env.set 2 (some z)) S5 Q := by
          unfold gVar
          rw [e5]
          refine ⟨small2 rfl, lst_ok rfl ?_⟩
          have seq : giTup (gVar 6) env S fun items S1 => items.length < sizeLine ∧ compD (ggName 8) gtYes (gApp (WTx n) (DL.gCons (gVar 8) DL.gNil)) items [] (wipeE env [8]) S1 fun v S4 => dAdd (.d (.list [.str lt, .str f0])) v S4 fun z S5 => b (env.set 2 (some z)) S5 Q := by
            unfold giTup gVar
            rw [e6]
            refine ⟨by rw [sizeLine_eq]; omega, ?_⟩
            refine compD_txt hps (fun x t hx Q q => ?_) ?_
            · obtain ⟨m', k', hm', hk', ht'⟩ := hx
              · have e : ((wipeE env [8]).set 8 (some (.d x)))[8]? = some (some (.d x)) := by
                  rw [List.getElem?_set_self]
                  show 8 < ((wipeE env []).set 8 none).length
                  rw [List.length_set]
                  show 8 < env.length
                  omega
                show gApp (WTx n) (DL.gCons (gVar 8) DL.gNil) ((wipeE env [8]).set 8 (some (.d x))) S Q
                unfold gApp DL.gCons gVar
                rw [e]
                exact ⟨_, _, m', k', rfl, by omega, hk', ht', q⟩
            · rw [List.nil_append]
              refine ⟨by rw [List.length_map, sizeLine_eq]; show 2 + us.length ≤ _; omega, hb⟩
          exact seq
        have test : (gVar 4) env S fun x S1 => dIsN false x (.d .none) S1 fun y S2 => onB y fun c => cond c ((gVar 5) env S2 fun c S2 => ([.d (.str "-"), c] : List AV).length ≤ sizeLine ∧ dLst [.d (.str "-"), c] S2 fun u S3 =>
            gComp (List.map (fun x => x.snd) [(Str.ofString "argument", 8)]) (giTup (gVar 6)) (ggName 8) gtYes (gApp (WTx n) (DL.gCons (gVar 8) DL.gNil)) env S3 fun v S4 => dAdd u v S4 fun z S5 => b (env.set 2 (some z)) S5 Q)
            ((gVar 4) env S2 fun y S3 => WLt [y] S3 fun r S4 => (gVar 5) env S4 fun c S2 => ([r, c] : List AV).length ≤ sizeLine ∧ dLst [r, c] S2 fun u S3 =>
            gComp (List.map (fun x => x.snd) [(Str.ofString "argument", 8)]) (giTup (gVar 6)) (ggName 8) gtYes (gApp (WTx n) (DL.gCons (gVar 8) DL.gNil)) env S3 fun v S4 => dAdd u v S4 fun z S5 => b (env.set 2 (some z)) S5 Q) := by
          unfold gVar at rest ⊢
          rw [e4]
          cases hl with
          | no => exact rest
          | yes z i h1 h2 h3 => exact ⟨z, i, rfl, h1, h3, rest⟩
        exact test
      exact go
    refine go _ _ _ rfl rfl rfl rfl ?_
    refine ret_text rfl rfl ?_ h
    rw [lens_cons, lens_cons, lens_cons]
    show 4 + (lt.length + (f0.length + lens us)) + (us.length + 2) ≤ _
    omega
  · refine star_step rfl (eqs_step rfl (fun g => absurd g hc) (fun _ => ?_))
    · have tl := pair_len hps
      have ln := pts_len hps
      refine ⟨by rw [sizeLine_eq]; omega, ?_⟩
      refine compD_txt hps (fun x t hx Q q => ?_) ?_
      · obtain ⟨_, ⟨i, rfl, hi, rfl⟩ | ⟨rfl, _⟩ | ⟨m', k', hm', hk', ht'⟩⟩ := hx
        · exact ⟨by decide, hi.big, q⟩
        · exact ⟨by decide, q⟩
        · obtain ⟨w', xs', _, rfl, _⟩ := tm_parts (Nat.le_refl m') hk' ht'
          exact ⟨by decide, _, _, m', k', rfl, by omega, hk', ht', q⟩
      · rw [List.nil_append]
        refine ret_text rfl rfl ?_ h
        rw [lens_cons]
        omega
theorem ok_text_of0 (D : DefAt K mg "text_of" s_text_of ["expression"]) : Own P w K mg base 1 "text_of" ["expression"] (WTx 0) := by
  refine okO (g := fun _ _ _ => False) D sc_text_of (fun as S P h => by obtain ⟨_, _, _, _, rfl, _⟩ := h; rfl) (fun _ _ _ _ _ _ _ _ _ => pdss_never) (fun args S P h => ?_)
  obtain ⟨x, t, m, k, rfl, hm, hk, ht, h⟩ := h
  obtain rfl : m = 0 := by omega
  cases ht
theorem text_all (D : DefAt K mg "text_of" s_text_of ["expression"]) (B : Bl mg) (G : Gc K mg) (o_label_text : Own P w K mg base 1 "label_text" ["label"] WLt) : ∀ n : Nat, Own P w K mg base (1 + n) "text_of" ["expression"] (WTx n)
  | 0 => ok_text_of0 D
  | n + 1 => ok_text_of D B G o_label_text (text_all D B G o_label_text n)
abbrev s_expression_text : Stmt := top 32
theorem sc_expression_text : FnScope ["expression"] ["expression"] (defScope s_expression_text) := ⟨rfl, rfl, rfl, by decide +kernel, rfl, by decide +kernel, by decide +kernel⟩
theorem ok_expression_text (D : DefAt K mg "expression_text" s_expression_text ["expression"]) (o_is_expression : Own P w K mg base 15 "is_expression" ["value"] (WB exprD)) (o_text_of : Own P w K mg base 15 "text_of" ["expression"] (WTx 5)) : Own P w K mg base 16 "expression_text" ["expression"] WEx := by
  have sc := sc_expression_text
  refine okO D sc (fun as S P h => by obtain ⟨_, _, rfl, _⟩ := h; rfl) (fun f cdv A outer s H E hg hr => (pdss_cons (pds_if (pdt_not (pdt_val (pdc o_is_expression hg hr (by rfl) (pda_cons (pdv 0) pda_nil)))) pdss_never pdss_nil) (pdss_one (pds_ret (pdc o_text_of hg hr (by rfl) (pda_cons (pdv 0) pda_nil)))))) (fun args S P h => ?_)
  obtain ⟨x, t, rfl, hx, h⟩ := h
  refine ⟨x, rfl, ?_⟩
  rw [hx.right]
  obtain ⟨m, k, hm, hk, ht⟩ := hx
  exact ⟨x, t, m, k, rfl, hm, hk, ht, h⟩
abbrev s_function_text : Stmt := top 34
theorem sc_function_text : FnScope ["function", "name", "parameters", "result", "body", "kind"] ["function"] (defScope s_function_text) := ⟨rfl, rfl, rfl, by decide +kernel, rfl, by decide +kernel, by decide +kernel⟩
theorem ok_function_text (D : DefAt K mg "function_text" s_function_text ["function"]) (B : Bl mg) (G : Gc K mg) (o_is_function : Own P w K mg base 16 "is_function" ["value"] (WB funD)) (o_kind_text : Own P w K mg base 16 "kind_text" ["kind"] WKt) (o_text_of : Own P w K mg base 16 "text_of" ["expression"] (WTx 5)) : Own P w K mg base 17 "function_text" ["function"] WFx := by
  have sc := sc_function_text
  refine okO D sc (fun as S P h => by obtain ⟨_, _, rfl, _⟩ := h; rfl) (fun f cdv A outer s H E hg hr => (pdss_cons (pds_if (pdt_not (pdt_val (pdc o_is_function hg hr (by rfl) (pda_cons (pdv 0) pda_nil)))) pdss_never pdss_nil) (pdss_cons (pds_asg (pdv 0) (pdg_tup (n := 4) rfl (pdgs_cons (pdg_name (i := 1) sc.nd rfl (Or.inl rfl)) (pdgs_cons (pdg_name (i := 2) sc.nd rfl (Or.inl rfl)) (pdgs_cons (pdg_name (i := 3) sc.nd rfl (Or.inl rfl)) (pdgs_cons (pdg_name (i := 4) sc.nd rfl (Or.inl rfl)) pdgs_nil)))))) (pdss_one (pds_ret (pd_bm PySem.F.plainAttrs_str PySem.F.slot_str_join PySem.F.type_str_join mt_join vr_join (pd_str) (pda_cons (pd_add (pd_add (pd_lst (pda_cons (pdv 1) pda_nil)) (pd_lc (own := [("kind", 5)]) rfl sc.nd (pdi_tup (pdv 2)) (blkOk_by (N := ["function", "name", "parameters", "result", "body", "kind"]) (sc := defScope s_function_text) (by decide +kernel)) (cg_name (by decide)) (fun _ _ _ _ _ => (pg_name (i := 5) sc.nd rfl (Or.inl rfl))) (fun _ _ _ _ _ => pts_yes) (fun _ _ _ _ _ => (pdc o_kind_text hg hr (by rfl) (pda_cons (pdv 5) pda_nil))))) (pd_lst (pda_cons (pd_gstr G.g_ARROW (by rfl)) (pda_cons (pdc o_kind_text hg hr (by rfl) (pda_cons (pdv 3) pda_nil)) (pda_cons (pdc o_text_of hg hr (by rfl) (pda_cons (pdv 4) pda_nil)) pda_nil))))) pda_nil))))))) (fun args S P h => ?_)
  obtain ⟨x, t, rfl, hx, h⟩ := h
  refine ⟨x, rfl, ?_⟩
  rw [hx.right]
  obtain ⟨hf, hks, h4, hkr, hb⟩ := hx
  rename_i f0 ks kts r rt b bt
  have l1 := pair_len hks
  have l2 := kns_len hks
  have l3 := name_len hf
  have l4 := hkr.len
  have l5 := hb.pt.len
  refine ⟨rfl, rfl, rfl, small2 rfl, ?_⟩
  refine ⟨by rw [sizeLine_eq]; omega, ?_⟩
  refine compD_txt hks (fun x t hk Q q => ⟨x, t, rfl, hk, q⟩) ?_
  rw [List.nil_append]
  refine ⟨by rw [List.length_map, sizeLine_eq, List.length_singleton]; omega, ?_⟩
  refine ⟨r, rt, rfl, hkr, ?_⟩
  obtain ⟨m, k, hm, hk, ht⟩ := hb
  refine ⟨b, bt, m, k, rfl, hm, hk, ht, small2 rfl, ?_⟩
  refine ⟨by rw [List.length_append, List.length_map, sizeLine_eq]; simp only [List.length_cons, List.length_nil]; omega, ?_⟩
  have e : [PyData.str f0] ++ kts.map PyData.str ++ [.str "->", .str rt, .str bt] = (f0 :: (kts ++ ([("->" : Str), rt, bt] : List Str))).map PyData.str := by
    rw [List.map_cons, List.map_append]
    simp
  show dJoin (.d (.str " ")) [.d (.list ([PyData.str f0] ++ kts.map PyData.str ++ [.str "->", .str rt, .str bt]))] S P
  rw [e]
  refine join_strs ?_ h
  have e1 : lens ([("->" : Str), rt, bt] : List Str) = 2 + (rt.length + (bt.length + 0)) := by rw [lens_cons, lens_cons, lens_cons]; rfl
  rw [lens_cons, lens_app, e1, List.length_cons, List.length_append]
  simp only [List.length_cons, List.length_nil]
  omega
end
end K61
/-! law k91: words are taken -/
namespace K61
open PySem PySem.Spec PyProof.Rows L2 DL
/-- the words left, the next one last -/
def Lw (ws : List Str) : MO := .lst (ws.reverse.map fun u => AV.d (.str u))
theorem Lw_ds (ws : List Str) : Lw ws = .lst ((ws.reverse.map PyData.str).map .d) := by
  unfold Lw
  rw [List.map_map]
  rfl
theorem vw_Lw {S : Store} {l : Nat} {ws : List Str} (h : S[l]? = some (Lw ws)) : vw S (.m l) = some (.list (ws.reverse.map .str)) := by
  show (match S[l]? with | some (.lst xs) => (dats xs).map PyData.list | _ => none) = _
  rw [h, Lw_ds]
  show (dats ((ws.reverse.map PyData.str).map .d)).map PyData.list = _
  rw [dats_map]
  rfl
theorem len_ok {S : Store} {l : Nat} {ws : List Str} {P : PQ} (h : S[l]? = some (Lw ws)) (k : P (.d (.int (ws.length : Nat))) S) : dLen [.m l] S P := by
  unfold dLen
  show (match vw S (.m l) with
    | some (.list ds) => P (.d (.int ds.length)) S
    | some (.tuple ds) => P (.d (.int ds.length)) S
    | some (.str x) => P (.d (.int x.length)) S
    | _ => False)
  rw [vw_Lw h]
  show P (.d (.int ((ws.reverse.map PyData.str).length : Nat))) S
  rw [List.length_map, List.length_reverse]
  exact k
theorem pop_ok {S : Store} {l : Nat} {w : Str} {ws : List Str} {P : PQ} (h : S[l]? = some (Lw (w :: ws))) (k : P (.d (.str w)) (S.set l (Lw ws))) : dPop (.m l) [] S P := by
  have e1 : ((w :: ws).reverse.map fun u => AV.d (.str u)) = (ws.reverse.map fun u => AV.d (.str u)) ++ [.d (.str w)] := by
    rw [List.reverse_cons, List.map_append]
    rfl
  unfold dPop
  show (match S[l]? with
    | some (.lst xs) => match xs[xs.length - 1]? with
      | some b => P b (S.set l (.lst xs.dropLast))
      | none => False
    | _ => False)
  rw [h]
  unfold Lw
  show (match ((w :: ws).reverse.map fun u => AV.d (.str u))[((w :: ws).reverse.map fun u => AV.d (.str u)).length - 1]? with
      | some b => P b (S.set l (.lst ((w :: ws).reverse.map fun u => AV.d (.str u)).dropLast))
      | none => False)
  rw [e1, List.dropLast_concat, show ((ws.reverse.map fun u => AV.d (.str u)) ++ [AV.d (.str w)])[((ws.reverse.map fun u => AV.d (.str u)) ++ [AV.d (.str w)]).length - 1]? = some (.d (.str w)) by simp]
  exact k
theorem cut_last (ws : List Str) : DL.cutD (ws.reverse.map PyData.str) (some (-1)) none = ws.head?.toList.map .str := by
  unfold DL.cutD
  rw [HT.sIx_none]
  cases ws with
  | nil => rfl
  | cons w ws =>
    have e : HT.sIx ((w :: ws).reverse.map PyData.str).length 0 (some (-1)) = ws.length := by
      show (if (-1 : Int) < 0 then ((-1 : Int) + (((w :: ws).reverse.map PyData.str).length : Int)).toNat else min (-1 : Int).toNat ((w :: ws).reverse.map PyData.str).length) = _
      rw [if_pos (by decide), List.length_map, List.length_reverse, List.length_cons]
      omega
    rw [e, List.length_map, List.length_reverse, List.length_cons, show ws.length + 1 - ws.length = 1 by omega, List.reverse_cons, List.map_append, List.drop_left' (show (ws.reverse.map PyData.str).length = ws.length by rw [List.length_map, List.length_reverse])]
    rfl
theorem last_ok {S : Store} {l : Nat} {ws : List Str} {P : PQ} (h : S[l]? = some (Lw ws)) (k : P (.d (.list (ws.head?.toList.map .str))) S) : dSl (.m l) (some (-1)) none S P := by
  unfold dSl
  rw [vw_Lw h]
  show P (.d (.list (DL.cutD (ws.reverse.map PyData.str) (some (-1)) none))) S
  rw [cut_last]
  exact k
theorem shaped1 {z : Str} (h : PyData.strOk z = true) : SeqAt.shaped (.list [.str z]) = true := by
  unfold SeqAt.shaped
  simp [PyData.canLay0, PyData.canLayAll0, PyData.depth, PyData.depthAll, h]
theorem Pl.ok {t : Str} (h : Pl t) : PyData.strOk t = true := by
  unfold PyData.strOk
  rw [Array.all_eq_true_iff_forall_mem]
  intro c hc
  have := h c (by simpa using hc)
  exact decide_eq_true (by omega)
theorem Lb.ok {l : PyData} {t : Str} (h : Lb l t) : PyData.strOk t = true := h.pl.ok
theorem Kn.ok {l : PyData} {t : Str} (h : Kn l t) : PyData.strOk t = true := h.pl.ok
theorem shaped0 : SeqAt.shaped (.list []) = true := by
  unfold SeqAt.shaped
  simp [PyData.canLay0, PyData.canLayAll0, PyData.depth, PyData.depthAll]
theorem eqv1 (w z : Str) : PyData.eqv (.list [.str w]) (.list [.str z]) = decide (w = z) := by
  by_cases h : w = z
  · subst h
    simp [PyData.eqv, PyData.eqvAll]
  · simp [PyData.eqv, PyData.eqvAll, h]
theorem eqv0 (z : Str) : PyData.eqv (.list []) (.list [.str z]) = false := by simp [PyData.eqv, PyData.eqvAll]
theorem top_eq {neg : Bool} {ws : List Str} {z : Str} {S : Store} {P : PQ} (hz : PyData.strOk z = true) (hw : ∀ w r, ws = w :: r → PyData.strOk w = true) (k : P (.d (.bool (cond neg (!decide (ws.head? = some z)) (decide (ws.head? = some z))))) S) : dEq neg (.d (.list (ws.head?.toList.map .str))) (.d (.list [.str z])) S P := by
  cases ws with
  | nil =>
    show (SeqAt.shaped (.list []) = true ∧ SeqAt.shaped (.list [.str z]) = true) ∧ P (.d (.bool (cond neg (!PyData.eqv (.list []) (.list [.str z])) (PyData.eqv (.list []) (.list [.str z]))))) S
    rw [eqv0]
    exact ⟨⟨shaped0, shaped1 hz⟩, k⟩
  | cons w ws =>
    show (SeqAt.shaped (.list [.str w]) = true ∧ SeqAt.shaped (.list [.str z]) = true) ∧ P (.d (.bool (cond neg (!PyData.eqv (.list [.str w]) (.list [.str z])) (PyData.eqv (.list [.str w]) (.list [.str z]))))) S
    rw [eqv1]
    refine ⟨⟨shaped1 (hw w ws rfl), shaped1 hz⟩, ?_⟩
    have e : decide ((w :: ws).head? = some z) = decide (w = z) := by simp
    rw [e] at k
    exact k
/-- whether the next word is this one, or isn't -/
theorem top_ok {neg : Bool} {i l : Nat} {ws : List Str} {z : Str} {env : DEnv} {S : Store} {P : Bool → Store → Prop} (hi : env[i]? = some (some (.m l))) (h : S[l]? = some (Lw ws)) (hz : PyData.strOk z = true) (hw : ∀ w r, ws = w :: r → PyData.strOk w = true) (k : P (cond neg (!decide (ws.head? = some z)) (decide (ws.head? = some z))) S) :
    gTest (gBin (dEq neg) (gSl (gVar i) (goSome (gUn dNeg (gC (.int 1)))) goNone) (fun env S P => DL.gCons (gC (.str z)) DL.gNil env S fun as S1 => as.length ≤ sizeLine ∧ dLst as S1 P)) env S P := by
  have go : (gVar i) env S fun a S1 => dSl a (some (-1)) none S1 fun u S2 => ([.d (.str z)] : List AV).length ≤ sizeLine ∧ dLst [.d (.str z)] S2 fun v S3 => dEq neg u v S3 fun x S4 => onB x fun c => P c S4 := by
    unfold gVar
    rw [hi]
    refine last_ok h ⟨small2 rfl, lst_ok rfl ?_⟩
    exact top_eq hz hw k
  exact go
theorem top_if {neg : Bool} {i l : Nat} {ws : List Str} {z : Str} {env : DEnv} {S : Store} {A1 A2 b : GS} {D : DE} (hi : env[i]? = some (some (.m l))) (h : S[l]? = some (Lw ws)) (hz : PyData.strOk z = true) (hw : ∀ w r, ws = w :: r → PyData.strOk w = true)
    (k : cond (cond neg (!decide (ws.head? = some z)) (decide (ws.head? = some z))) (A1 env S { D with nx := fun env' S' => b env' S' D }) (A2 env S { D with nx := fun env' S' => b env' S' D })) :
    gsSeq (gsIf (gTest (gBin (dEq neg) (gSl (gVar i) (goSome (gUn dNeg (gC (.int 1)))) goNone) (fun env S P => DL.gCons (gC (.str z)) DL.gNil env S fun as S1 => as.length ≤ sizeLine ∧ dLst as S1 P))) A1 A2) b env S D :=
  top_ok (P := fun c S1 => cond c (A1 env S1 { D with nx := fun env' S' => b env' S' D }) (A2 env S1 { D with nx := fun env' S' => b env' S' D })) hi h hz hw k
theorem put_get {S : Store} {l : Nat} {a b : MO} (h : S[l]? = some a) : (S.set l b)[l]? = some b := put_at h
theorem put_put {S : Store} {l : Nat} {a b : MO} : (S.set l a).set l b = S.set l b := List.set_set ..
def WTw : WD := fun as S P => ∃ l w ws, as = [.m l] ∧ S[l]? = some (Lw (w :: ws)) ∧ P (.d (.str w)) (S.set l (Lw ws))
def WTm : WD := fun as S P => ∃ l w ws, as = [.m l, .d (.str w)] ∧ S[l]? = some (Lw (w :: ws)) ∧ P (.d .none) (S.set l (Lw ws))
/-- a reader of one word -/
def RdW (W : WD) (w : Str) (y : PyData) : Prop := ∀ S Q, Q (.d y) S → W [.d (.str w)] S Q
def WTk (T : Addr → Option WD) : WD := fun as S P => ∃ l f W w ws y, as = [.m l, .v (.ref f)] ∧ T f = some W ∧ S[l]? = some (Lw (w :: ws)) ∧ RdW W w y ∧ nonD y = false ∧ P (.d y) (S.set l (Lw ws))
def WTl : WD := fun as S P => ∃ l x t ws, as = [.m l] ∧ Lb x t ∧ S[l]? = some (Lw (t :: ws)) ∧ P (.d x) (S.set l (Lw ws))
theorem lt_of_get {S : Store} {l : Nat} {a : MO} (h : S[l]? = some a) : l < S.length := by
  rcases Nat.lt_or_ge l S.length with z | z
  · exact z
  · rw [List.getElem?_eq_none z] at h; cases h
section
variable {P : Program} {w : World} {K : PySem.W.Frag} {mg : Str → Option Value} {base : Heap}
abbrev s_take_word : Stmt := top 41
theorem sc_take_word : FnScope ["left"] ["left"] (defScope s_take_word) := ⟨rfl, rfl, rfl, by decide +kernel, rfl, by decide +kernel, by decide +kernel⟩
theorem ok_take_word (D : DefAt K mg "take_word" s_take_word ["left"]) (B : Bl mg) : Own P w K mg base 1 "take_word" ["left"] WTw := by
  have sc := sc_take_word
  refine okO D sc (fun as S P h => by obtain ⟨_, _, _, rfl, _⟩ := h; rfl) (fun f cdv A outer s H E hg hr => (pdss_cons (pds_if (pdt_eq hr (pd_callB call_lenAll vr_len (by rfl) (B.b _ (by decide)) (by decide +kernel) (pda_cons (pdv 0) pda_nil)) (pd_int)) pdss_never pdss_nil) (pdss_one (pds_ret (pd_pop (pdv 0)))))) (fun args S P h => ?_)
  obtain ⟨l, w, ws, rfl, hL, h⟩ := h
  have go : dLen [.m l] S fun a S1 => dEq false a (.d (.int 0)) S1 fun x S2 => onB x fun c => cond c False (kdOk "list" S2 (.m l) ∧ dPop (.m l) [] S2 P) := by
    refine len_ok hL ?_
    show cond (decide (((w :: ws).length : Int) = 0)) False (kdOk "list" S (.m l) ∧ dPop (.m l) [] S P)
    refine cond_or (fun g => ?_) (fun _ => ⟨?_, pop_ok hL h⟩)
    · exact absurd (of_decide_eq_true g) (by rw [List.length_cons]; omega)
    · refine ⟨rfl, ?_⟩
      rw [hL]
      trivial
  exact go
abbrev s_take_mark : Stmt := top 42
theorem sc_take_mark : FnScope ["left", "mark"] ["left", "mark"] (defScope s_take_mark) := ⟨rfl, rfl, rfl, by decide +kernel, rfl, by decide +kernel, by decide +kernel⟩
theorem ok_take_mark (D : DefAt K mg "take_mark" s_take_mark ["left", "mark"]) (o_take_word : Own P w K mg base 1 "take_word" ["left"] WTw) : Own P w K mg base 2 "take_mark" ["left", "mark"] WTm := by
  have sc := sc_take_mark
  refine okO D sc (fun as S P h => by obtain ⟨_, _, _, rfl, _⟩ := h; rfl) (fun f cdv A outer s H E hg hr => (pdss_one (pds_if (pdt_ne hr (pdc o_take_word hg hr (by rfl) (pda_cons (pdv 0) pda_nil)) (pdv 1)) pdss_never pdss_nil))) (fun args S P h => ?_)
  obtain ⟨l, w, ws, rfl, hL, h⟩ := h
  refine ⟨l, w, ws, rfl, hL, ?_⟩
  refine cond_f (c := !decide (w = w)) (by rw [decide_eq_true rfl]; rfl) ?_
  exact h
abbrev s_take_known : Stmt := top 43
theorem sc_take_known : FnScope ["left", "read", "value"] ["left", "read"] (defScope s_take_known) := ⟨rfl, rfl, rfl, by decide +kernel, rfl, by decide +kernel, by decide +kernel⟩
theorem ok_take_known {T : Addr → Option WD} (hA : ∀ f W, T f = some W → HeldD P w K mg base 3 f W) (D : DefAt K mg "take_known" s_take_known ["left", "read"]) (B : Bl mg) (o_take_word : Own P w K mg base 3 "take_word" ["left"] WTw) : Own P w K mg base 4 "take_known" ["left", "read"] (WTk T) := by
  have sc := sc_take_known
  refine okO D sc (fun as S P h => by obtain ⟨_, _, _, _, _, _, rfl, _⟩ := h; rfl) (fun f cdv A outer s H E hg hr => (pdss_cons (pds_set (i := 2) sc.nd rfl (Or.inl rfl) (pd_callA (i := 1) hA hg hr rfl (pda_cons (pdc o_take_word hg hr (by rfl) (pda_cons (pdv 0) pda_nil)) pda_nil))) (pdss_cons (pds_if (pdt_is (pdv 2) (pd_non)) pdss_never pdss_nil) (pdss_one (pds_ret (pdv 2)))))) (fun args S P h => ?_)
  obtain ⟨l, f, W, w, ws, y, rfl, hT, hL, hR, hn, h⟩ := h
  refine ⟨f, W, rfl, hT, l, w, ws, rfl, hL, hR _ _ ?_⟩
  refine cond_f (c := nonD y) hn ?_
  exact h
abbrev s_take_label : Stmt := top 47
theorem sc_take_label : FnScope ["left"] ["left"] (defScope s_take_label) := ⟨rfl, rfl, rfl, by decide +kernel, rfl, by decide +kernel, by decide +kernel⟩
theorem ok_take_label {T : Addr → Option WD} {fa_label_in : Addr} (hT : T fa_label_in = some (WSt lbD)) (m_label_in : mg "label_in" = some (.ref fa_label_in)) (D : DefAt K mg "take_label" s_take_label ["left"]) (B : Bl mg) (G : Gc K mg)
    (o_take_mark : Own P w K mg base 4 "take_mark" ["left", "mark"] WTm) (o_take_known : Own P w K mg base 4 "take_known" ["left", "read"] (WTk T)) : Own P w K mg base 5 "take_label" ["left"] WTl := by
  have sc := sc_take_label
  refine okO D sc (fun as S P h => by obtain ⟨_, _, _, _, rfl, _⟩ := h; rfl) (fun f cdv A outer s H E hg hr => (pdss_cons (pds_if (pdt_ne hr (pd_slice (pdv 0) (pdo_some (pd_neg (pd_int))) pdo_none) (pd_lst (pda_cons (pd_gstr G.g_NO_LABEL (by rfl)) pda_nil))) (pdss_one (pds_ret (pdc o_take_known hg hr (by rfl) (pda_cons (pdv 0) (pda_cons (pd_tV (pe_glob (v := .ref fa_label_in) (by rfl) m_label_in rfl)) pda_nil))))) pdss_nil) (pdss_cons (pds_expr (pdc o_take_mark hg hr (by rfl) (pda_cons (pdv 0) (pda_cons (pd_gstr G.g_NO_LABEL (by rfl)) pda_nil)))) (pdss_one (pds_ret (pd_non)))))) (fun args S P h => ?_)
  obtain ⟨l, x, t, ws, rfl, hb, hL, h⟩ := h
  refine top_if (neg := true) rfl hL (by decide +kernel) (fun _ _ e => by cases e; exact hb.ok) ?_
  show cond (!decide (some t = some ("-" : Str))) _ _
  have len := hb.len
  cases hb with
  | no =>
    refine cond_f (by rw [decide_eq_true rfl]; rfl) ?_
    exact ⟨l, _, ws, rfl, hL, h⟩
  | yes z i h1 h2 h3 =>
    have ne : ¬ (some (z ++ "/" ++ numT i : Str) = some ("-" : Str)) := fun e => by
      have q := congrArg TL.tl (Option.some.inj e)
      rw [TL.tl_append, TL.tl_append, show TL.tl (Str.ofString "-") = [45] by decide +kernel] at q
      have m : 47 ∈ TL.tl z ++ TL.tl (Str.ofString "/") ++ TL.tl (numT i) := List.mem_append_left _ (List.mem_append_right _ (by decide +kernel))
      rw [q] at m
      exact absurd m (by decide)
    refine cond_t (by rw [decide_eq_false ne]; rfl) ?_
    show WTk T [.m l, .v (.ref fa_label_in)] S P
    refine ⟨l, fa_label_in, WSt lbD, _, ws, .tuple [.str z, .int i], rfl, hT, hL, fun S Q q => ⟨_, rfl, by omega, ?_⟩, ?_, ?_⟩
    · unfold lbD
      rw [lab_in h1 h2, lab_back h2]
      exact q
    · rfl
    · exact h
end
end K61
/-! law k91: expressions are taken -/
namespace K61
open PySem PySem.Spec PyProof.Rows L2 DL
/-- the words of a part, and what follows -/
inductive Pw (n : Nat) : Str → PyData → List Str → List Str → Prop
  | expr {x : PyData} {ws rest : List Str} : Tw n x ws → Pw n "expression" x ws rest
  | num {i : Int} {rest : List Str} : Num i → Pw n "number" (.int i) [numT i] rest
  | count {i : Int} {rest : List Str} : 0 ≤ i → Num i → Pw n "count" (.int i) [numT i] rest
  | name {f : Str} {rest : List Str} : Pw n "name" (.str f) [f] rest
  | label {x : PyData} {t : Str} {rest : List Str} : Lb x t → Pw n "label" x [t] rest
  | args {xs : List PyData} {ws rest : List Str} : Tws n xs ws → xs.length ≤ 4 → (∃ r, rest = (")" : Str) :: r) → Pw n "arguments" (.tuple xs) ws rest
inductive Pws (n : Nat) : List Str → List PyData → List Str → List Str → Prop
  | nil {rest : List Str} : Pws n [] [] [] rest
  | cons {f : Str} {fs : List Str} {x : PyData} {xs : List PyData} {ws vs rest : List Str} : Pw n f x ws (vs ++ rest) → Pws n fs xs vs rest → Pws n (f :: fs) (x :: xs) (ws ++ vs) rest
theorem len3 {xs : List PyData} {k : Nat} (h : xs.length = k) (h3 : k ≤ 3 := by decide) : xs.length ≤ 3 := by omega
theorem tw_parts {n : Nat} {x : PyData} {ws : List Str} (h : Tw (n + 1) x ws) : ∃ w fs xs vs, x = .tuple (.str w :: xs) ∧ formsT w = some fs ∧ ws = ("(" : Str) :: w :: (vs ++ [(")" : Str)]) ∧ xs.length ≤ 3 ∧ ∀ rest, Pws n fs xs vs ((")" : Str) :: rest) := by
  cases h with
  | make n i hi => exact ⟨_, _, _, [numT i], rfl, by decide +kernel, rfl, by simp, fun rest => .cons (ws := [numT i]) (vs := []) (.num hi) .nil⟩
  | param n i h0 hi => exact ⟨_, _, _, [numT i], rfl, by decide +kernel, rfl, by simp, fun rest => .cons (ws := [numT i]) (vs := []) (.count h0 hi) .nil⟩
  | plus i a hi => exact ⟨_, _, _, _, rfl, by decide +kernel, rfl, by simp, fun rest => .cons (.expr a) (.cons (ws := [numT i]) (vs := []) (.num hi) .nil)⟩
  | @call _ l lt f xs ws hl hf hs h4 =>
    refine ⟨"call", ["label", "name", "arguments"], _, _, rfl, by decide +kernel, rfl, by simp, fun rest => .cons (ws := [lt]) (vs := f :: ws) (.label hl) (.cons (ws := [f]) (vs := ws) .name ?_)⟩
    have z := Pws.cons (n := n) (f := "arguments") (rest := (")" : Str) :: rest) (vs := []) (.args hs h4 ⟨rest, rfl⟩) .nil
    rw [List.append_nil] at z
    exact z
  | two hs =>
    cases hs with
    | cons a t => cases t with
      | cons b t => cases t; exact ⟨_, _, _, _, rfl, by decide +kernel, rfl, by simp, fun rest => .cons (.expr a) (.cons (.expr b) .nil)⟩
  | three hs =>
    cases hs with
    | cons a t => cases t with
      | cons b t => cases t with
        | cons c t => cases t; exact ⟨_, _, _, _, rfl, by decide +kernel, rfl, by simp, fun rest => .cons (.expr a) (.cons (.expr b) (.cons (.expr c) .nil))⟩
theorem tw_head {n : Nat} {x : PyData} {ws : List Str} (h : Tw n x ws) : ∃ r, ws = ("(" : Str) :: r := by cases h <;> exact ⟨_, rfl⟩
def WTe (n : Nat) : WD := fun as S P => ∃ l x ws rest, as = [.m l, .d (.int (n : Nat))] ∧ Tw n x ws ∧ S[l]? = some (Lw (ws ++ rest)) ∧ P (.d x) (S.set l (Lw rest))
def WPt (n : Nat) : WD := fun as S P => ∃ l f x ws rest, as = [.m l, .d (.str f), .d (.int (n : Nat))] ∧ Pw n f x ws rest ∧ S[l]? = some (Lw (ws ++ rest)) ∧ P (.d x) (S.set l (Lw rest))
theorem parts_ok {n l : Nat} {gg : GG} {ge : G} {env : DEnv} {P : PQ} (step : ∀ f x ws rest T (Q : PQ), Pw n f x ws rest → T[l]? = some (Lw (ws ++ rest)) → Q (.d x) (T.set l (Lw rest)) → gg (.d (.str f)) env T fun env' S' => ge env' S' Q) :
    ∀ {fs : List Str} {xs : List PyData} {vs rest : List Str} (acc : List PyData) (T : Store), Pws n fs xs vs rest → T[l]? = some (Lw (vs ++ rest)) → P (.d (.list (acc ++ xs))) (T.set l (Lw rest)) → compD gg gtYes ge (fs.map .str) acc env T P
  | _, _, _, _, acc, T, .nil, hT, k => by
    rw [List.append_nil, put_same (by rw [List.nil_append] at hT; exact hT)] at k
    exact k
  | _, _, _, _, acc, T, .cons (f := f) (fs := fs) (x := x) (xs := xs) (ws := ws) (vs := vs) (rest := rest) a r, hT, k => by
    refine step f x ws (vs ++ rest) T _ a (by rw [← List.append_assoc]; exact hT) ?_
    show compD gg gtYes ge (fs.map .str) (acc ++ [x]) env (T.set l (Lw (vs ++ rest))) P
    refine parts_ok step (acc ++ [x]) _ r (put_get hT) ?_
    rw [put_put, List.append_assoc]
    exact k
theorem set_last {S : Store} {b c : MO} {k : Nat} (h : k = S.length) : (S ++ [b]).set k c = S ++ [c] := by
  subst h
  rw [List.set_append_right _ _ (Nat.le_refl _), Nat.sub_self]
  rfl
theorem set_first {S : Store} {b c : MO} {l : Nat} (h : l < S.length) : (S ++ [b]).set l c = S.set l c ++ [b] := List.set_append_left _ _ h
section
variable {P : Program} {w : World} {K : PySem.W.Frag} {mg : Str → Option Value} {base : Heap}
abbrev s_take_expression : Stmt := top 45
theorem sc_take_expression : FnScope ["left", "depth", "word", "parts", "form"] ["left", "depth"] (defScope s_take_expression) := ⟨rfl, rfl, rfl, by decide +kernel, rfl, by decide +kernel, by decide +kernel⟩
theorem ok_take_expression0 (D : DefAt K mg "take_expression" s_take_expression ["left", "depth"]) : Own P w K mg base 1 "take_expression" ["left", "depth"] (WTe 0) := by
  refine okO (g := fun _ _ _ => False) D sc_take_expression (fun as S P h => by obtain ⟨_, _, _, _, rfl, _⟩ := h; rfl) (fun _ _ _ _ _ _ _ _ _ => pdss_never) (fun args S P h => ?_)
  obtain ⟨l, x, ws, rest, rfl, h, _⟩ := h
  cases h
theorem ok_take_expression {n j : Nat} {dF : Addr} (D : DefAt K mg "take_expression" s_take_expression ["left", "depth"]) (B : Bl mg) (G : Gc K mg) (t_FORMS : TabAt K w mg "FORMS" T_FORMS dF) (o_take_mark : Own P w K mg base j "take_mark" ["left", "mark"] WTm) (o_take_word : Own P w K mg base j "take_word" ["left"] WTw)
    (o_take_part : Own P w K mg base j "take_part" ["left", "form", "depth"] (WPt n)) : Own P w K mg base (j + 1) "take_expression" ["left", "depth"] (WTe (n + 1)) := by
  have sc := sc_take_expression
  refine okO D sc (fun as S P h => by obtain ⟨_, _, _, _, rfl, _⟩ := h; rfl) (fun f cdv A outer s H E hg hr => (pdss_cons (pds_expr (pdc o_take_mark hg hr (by rfl) (pda_cons (pdv 0) (pda_cons (pd_gstr G.g_BEGIN (by rfl)) pda_nil)))) (pdss_cons (pds_set (i := 2) sc.nd rfl (Or.inl rfl) (pdc o_take_word hg hr (by rfl) (pda_cons (pdv 0) pda_nil))) (pdss_cons (pds_if (pdt_w (pdw_or (pdt_eq hr (pdv 1) (pd_int)) (pdw_or1 (pdt_notinTab t_FORMS.tab t_FORMS.at_ (by rfl) (pdv 2))))) pdss_never pdss_nil) (pdss_cons (pds_setLc (i := 3) (own := [("form", 4)]) rfl sc.nd rfl rfl (sw_true rfl rfl rfl (by decide +kernel)) (pdi_tup (pd_tab t_FORMS.tab t_FORMS.at_ (by rfl) (pdv 2))) (blkOk_by (N := ["left", "depth", "word", "parts", "form"]) (sc := defScope s_take_expression) (by decide +kernel)) (cg_name (by decide)) (fun _ _ _ _ _ => (pg_name (i := 4) sc.nd rfl (Or.inl rfl))) (fun _ _ _ _ _ => pts_yes) (fun _ _ _ _ _ => (pdc o_take_part hg hr (by rfl) (pda_cons (pdv 0) (pda_cons (pdv 4) (pda_cons (pd_sub (pdv 1) (pd_int)) pda_nil)))))) (pdss_cons (pds_expr (pdc o_take_mark hg hr (by rfl) (pda_cons (pdv 0) (pda_cons (pd_gstr G.g_END (by rfl)) pda_nil)))) (pdss_one (pds_ret (pd_tup (pda_cons (pdv 2) (pda_star (pdv 3) pda_nil))))))))))) (fun args S P h => ?_)
  obtain ⟨l, x, ws, rest, rfl, ht, hL, h⟩ := h
  obtain ⟨w, fs, xs, vs, rfl, hf, rfl, h3, hp⟩ := tw_parts ht
  have hL1 : S[l]? = some (Lw ("(" :: w :: (vs ++ ((")" : Str) :: rest)))) := by
    rw [hL]
    congr 2
    simp
  have fin : ∀ T, T = S.set l (Lw rest) → P (.d (.tuple (.str w :: xs))) T := fun T e => e ▸ h
  have e2 : T_FORMS w = some (.tuple (fs.map .str)) := by unfold T_FORMS; rw [hf]; rfl
  refine ⟨l, "(", _, rfl, hL1, ?_⟩
  refine ⟨l, w, _, rfl, put_get hL1, ?_⟩
  refine ⟨rfl, ?_⟩
  show cond (!(T_FORMS w).isSome) _ _
  rw [e2]
  show (match T_FORMS w with | some x => _ | none => False)
  rw [e2]
  refine ⟨by rw [List.length_map, sizeLine_eq]; have := forms_len hf; omega, ?_⟩
  have ed : ∀ f : Str, [AV.m l, AV.d (.str f), AV.d (.int (((n + 1 : Nat) : Int) - 1))] = [AV.m l, AV.d (.str f), AV.d (.int (n : Nat))] := fun f => by rw [show (((n + 1 : Nat) : Int) - 1) = (n : Int) by omega]
  refine parts_ok (n := n) (l := l) (fun f x ws rest T Q hw hT q => ⟨l, f, x, ws, rest, ed f, hw, hT, q⟩) [] _ (hp rest) (put_get (put_get hL1)) ?_
  refine ⟨l, ")", rest, rfl, put_get (put_get (put_get hL1)), ?_⟩
  refine ⟨by rw [sizeLine_eq]; simp; omega, ?_⟩
  have e3 : dats (.d (.str w) :: (([] ++ xs).map .d ++ [])) = some (.str w :: xs) := by
    rw [List.append_nil, List.nil_append]
    exact dats_map (.str w :: xs)
  show (match dats (.d (.str w) :: (([] ++ xs).map .d ++ [])) with | some ds => P (.d (.tuple ds)) _ | none => False)
  rw [e3]
  exact fin _ (by simp only [put_put])
end
end K61
/-! law k91: parts and functions are taken -/
namespace K61
open PySem PySem.Spec PyProof.Rows L2 DL
theorem retc_put {P : PQ} {S : Store} {l : Nat} {rest : List Str} {x : PyData} (h : P (.d x) (S.set l (Lw rest))) : RetC P S (.d x) (S.set l (Lw rest)) :=
  ⟨x, S.set l (Lw rest), [], rfl, (List.append_nil _).symm, by rw [Lw_ds]; exact Chg.refl.set, h⟩
theorem retc_last {P : PQ} {S : Store} {l : Nat} {rest : List Str} {x : PyData} {b : MO} (h : P (.d x) (S.set l (Lw rest))) : RetC P S (.d x) (S.set l (Lw rest) ++ [b]) :=
  ⟨x, S.set l (Lw rest), [b], rfl, rfl, by rw [Lw_ds]; exact Chg.refl.set, h⟩
theorem get_last {S : Store} {b : MO} {k : Nat} (h : k = S.length) : (S ++ [b])[k]? = some b := by
  subst h
  simp
theorem get_first {S : Store} {a b : MO} {l : Nat} (h : S[l]? = some a) : (S ++ [b])[l]? = some a := by
  rw [List.getElem?_append_left (lt_of_get h)]
  exact h
theorem app_ok {T : Store} {a : Nat} {ds : List PyData} {x : PyData} {P : PQ} (h : T[a]? = some (.lst (ds.map .d))) (hl : ds.length < 1000) (k : P (.d .none) (T.set a (.lst ((ds ++ [x]).map .d)))) : dAppend (.m a) [.d x] T P := by
  unfold dAppend
  show (match T[a]? with
    | some (.lst xs) => xs.length < sizeLine ∧ P (.d .none) (T.set a (.lst (xs ++ [.d x])))
    | _ => False)
  rw [h]
  refine ⟨by rw [List.length_map, sizeLine_eq]; omega, ?_⟩
  rw [List.map_append] at k
  exact k
theorem tuple_ok {T : Store} {a : Nat} {ds : List PyData} {P : PQ} (h : T[a]? = some (.lst (ds.map .d))) (k : P (.d (.tuple ds)) T) : dTuple [.m a] T P := by
  unfold dTuple
  have e : vw T (.m a) = some (.list ds) := by
    show (match T[a]? with | some (.lst xs) => (dats xs).map PyData.list | _ => none) = _
    rw [h]
    show (dats (ds.map .d)).map PyData.list = _
    rw [dats_map]
    rfl
  show (match (vw T (.m a)).bind seqD with
    | some ds => P (.d (.tuple ds)) T
    | none => False)
  rw [e]
  exact k
theorem kd_own {T : Store} {a : Nat} {xs : List AV} (h : T[a]? = some (.lst xs)) : kdOk "list" T (.m a) := by
  refine ⟨rfl, ?_⟩
  rw [h]
  trivial
/-- lists of what is read, each by its own words -/
inductive Rds (F : PyData → List Str → Prop) : List PyData → List Str → Prop
  | nil : Rds F [] []
  | cons {x : PyData} {ws vs : List Str} {xs : List PyData} : F x ws → Rds F xs vs → Rds F (x :: xs) (ws ++ vs)
theorem tws_rds {n : Nat} : ∀ {xs : List PyData} {ws : List Str}, Tws n xs ws → Rds (Tw n) xs ws
  | _, _, .nil _ => .nil
  | _, _, .cons a t => .cons a (tws_rds t)
theorem eqs_skip {A1 b : GS} {i : Nat} {env : DEnv} {S : Store} {D : DE} {w z : Str} (h4 : env[i]? = some (some (.d (.str w)))) (hn : ¬ w = z) (hB : b env S D) :
    gsSeq (gsIf (gTest (gBin (dEq false) (gVar i) (gC (.str z)))) A1 gsNext) b env S D := eqs_step h4 (fun g => absurd g hn) fun _ => hB
def WTf : WD := fun as S P => ∃ l x ws rest, as = [.m l] ∧ Fw x ws ∧ S[l]? = some (Lw (ws ++ rest)) ∧ P (.d x) (S.set l (Lw rest))
theorem kns_rds : ∀ {ks : List PyData} {ts : List Str}, Paired Kn ks ts → Rds (fun x ws => ∃ t, ws = [t] ∧ Kn x t) ks ts
  | _, _, .nil => .nil
  | _, _, .cons (b := t) (l₂ := ts) a r => Rds.cons (ws := [t]) (vs := ts) ⟨t, rfl, a⟩ (kns_rds r)
theorem kn_nonD {x : PyData} {t : Str} (h : Kn x t) : nonD x = false := by cases h <;> rfl
theorem kn_arrow {x : PyData} {t : Str} (h : Kn x t) : ¬ t = "->" := by
  have e : TL.tl (Str.ofString "->") = [45, 62] := by decide +kernel
  intro z
  cases h with
  | own => exact absurd z (by decide +kernel)
  | lab z' i h1 h2 h3 =>
    have q := congrArg TL.tl z
    rw [TL.tl_append, TL.tl_append, e] at q
    have m : 47 ∈ TL.tl z' ++ TL.tl (Str.ofString "/") ++ TL.tl (numT i) := List.mem_append_left _ (List.mem_append_right _ (by decide +kernel))
    rw [q] at m
    exact absurd m (by decide)
/-- a list is filled while words are left for it -/
theorem while_ok {F : PyData → List Str → Prop} {l a : Nat} {gt : GT} {gb : GS} {env : DEnv} {S : Store} {D : DE} {xs : List PyData} {ws rest : List Str} (hl : S[l]? = some (Lw (ws ++ rest))) (ha : a = S.length) (hx : xs.length ≤ 900) (h : Rds F xs ws)
    (more : ∀ x ws vs, F x ws → ∀ T (K : Bool → Store → Prop), T[l]? = some (Lw (ws ++ (vs ++ rest))) → K true T → gt env T K) (stop : ∀ T (K : Bool → Store → Prop), T[l]? = some (Lw rest) → K false T → gt env T K)
    (turn : ∀ x ws vs T (E : DE) (ds : List PyData), F x ws → T[l]? = some (Lw (ws ++ vs)) → T[a]? = some (.lst (ds.map .d)) → ds.length ≤ 900 → (T.set l (Lw vs))[a]? = some (.lst (ds.map .d)) → E.nx env ((T.set l (Lw vs)).set a (.lst ((ds ++ [x]).map .d))) → gb env T E)
    (fin : D.nx env (S.set l (Lw rest) ++ [.lst (xs.map .d)])) : gsWhile gt gb env (S ++ [.lst (([] : List PyData).map .d)]) D := by
  have ll := lt_of_get hl
  have nla : l ≠ a := by omega
  refine ⟨fun m e T => e = env ∧ ∃ ds ys vs, m = ys.length ∧ xs = ds ++ ys ∧ Rds F ys vs ∧ T = S.set l (Lw (vs ++ rest)) ++ [.lst (ds.map .d)], ⟨xs.length, rfl, [], xs, ws, rfl, rfl, h, ?_⟩, ?_⟩
  · rw [put_same hl]
  rintro m e T ⟨rfl, ds, ys, vs, rfl, rfl, hr, rfl⟩
  have hlen : (S.set l (Lw (vs ++ rest))).length = S.length := List.length_set
  have g1 : (S.set l (Lw (vs ++ rest)) ++ [MO.lst (ds.map .d)])[l]? = some (Lw (vs ++ rest)) := get_first (put_get hl)
  have g2 : (S.set l (Lw (vs ++ rest)) ++ [MO.lst (ds.map .d)])[a]? = some (.lst (ds.map .d)) := get_last (by omega)
  cases hr with
  | nil =>
    refine stop _ _ g1 ?_
    rw [List.append_nil] at fin
    exact fin
  | @cons x ws vs ys hw hr =>
    have ea : ws ++ vs ++ rest = ws ++ (vs ++ rest) := List.append_assoc ..
    rw [ea] at g1 g2 ⊢
    refine more x ws vs hw _ _ g1 ?_
    have hds : ds.length ≤ 900 := by rw [List.length_append] at hx; omega
    refine ⟨fun e' T' => e' = e ∧ T' = S.set l (Lw (vs ++ rest)) ++ [.lst ((ds ++ [x]).map .d)], ?_, ?_⟩
    · rintro e' T' ⟨rfl, rfl⟩
      exact ⟨ys.length, by rw [List.length_cons]; omega, rfl, ds ++ [x], ys, vs, rfl, by rw [List.append_assoc]; rfl, hr, rfl⟩
    · refine turn x ws (vs ++ rest) _ _ ds hw g1 g2 hds ?_ ⟨rfl, ?_⟩
      · rw [List.getElem?_set_ne nla]
        exact g2
      · have ll2 : l < (S.set l (Lw (ws ++ (vs ++ rest)))).length := by rw [List.length_set]; exact ll
        rw [set_first ll2, put_put, set_last (by rw [List.length_set]; exact ha)]
section
variable {P : Program} {w : World} {K : PySem.W.Frag} {mg : Str → Option Value} {base : Heap}
abbrev s_take_part : Stmt := top 46
theorem sc_take_part : FnScope ["left", "form", "depth", "arguments"] ["left", "form", "depth"] (defScope s_take_part) := ⟨rfl, rfl, rfl, by decide +kernel, rfl, by decide +kernel, by decide +kernel⟩
theorem ok_take_part {n j : Nat} {T : Addr → Option WD} {fa_number_in fa_count_in : Addr} (hT1 : T fa_number_in = some WNin) (hT2 : T fa_count_in = some WCt) (m_number_in : mg "number_in" = some (.ref fa_number_in)) (m_count_in : mg "count_in" = some (.ref fa_count_in))
    (D : DefAt K mg "take_part" s_take_part ["left", "form", "depth"]) (B : Bl mg) (G : Gc K mg) (o_take_word : Own P w K mg base j "take_word" ["left"] WTw) (o_take_known : Own P w K mg base j "take_known" ["left", "read"] (WTk T)) (o_take_label : Own P w K mg base j "take_label" ["left"] WTl)
    (o_take_expression : Own P w K mg base j "take_expression" ["left", "depth"] (WTe n)) : Own P w K mg base (j + 1) "take_part" ["left", "form", "depth"] (WPt n) := by
  have sc := sc_take_part
  refine DL.okC D sc (fun as S P h => by obtain ⟨_, _, _, _, _, rfl, _⟩ := h; rfl) (fun f cdv A outer s H E hg hr => (pdss_cons (pds_if (pdt_eq hr (pdv 1) (pd_str)) (pdss_one (pds_ret (pdc o_take_expression hg hr (by rfl) (pda_cons (pdv 0) (pda_cons (pdv 2) pda_nil))))) pdss_nil) (pdss_cons (pds_if (pdt_eq hr (pdv 1) (pd_str)) (pdss_one (pds_ret (pdc o_take_known hg hr (by rfl) (pda_cons (pdv 0) (pda_cons (pd_tV (pe_glob (v := .ref fa_number_in) (by rfl) m_number_in rfl)) pda_nil))))) pdss_nil) (pdss_cons (pds_if (pdt_eq hr (pdv 1) (pd_str)) (pdss_one (pds_ret (pdc o_take_known hg hr (by rfl) (pda_cons (pdv 0) (pda_cons (pd_tV (pe_glob (v := .ref fa_count_in) (by rfl) m_count_in rfl)) pda_nil))))) pdss_nil) (pdss_cons (pds_if (pdt_eq hr (pdv 1) (pd_str)) (pdss_one (pds_ret (pdc o_take_word hg hr (by rfl) (pda_cons (pdv 0) pda_nil)))) pdss_nil) (pdss_cons (pds_if (pdt_eq hr (pdv 1) (pd_str)) (pdss_one (pds_ret (pdc o_take_label hg hr (by rfl) (pda_cons (pdv 0) pda_nil)))) pdss_nil) (pdss_cons (pds_set (i := 3) sc.nd rfl (Or.inl rfl) (pd_lstM pda_nil)) (pdss_cons (pds_while PassesOwn.never (pdt_eq hr (pd_slice (pdv 0) (pdo_some (pd_neg (pd_int))) pdo_none) (pd_lst (pda_cons (pd_gstr G.g_BEGIN (by rfl)) pda_nil))) (pdss_one (pds_expr (pd_bm PySem.F.plainAttrs_list PySem.F.slot_list_append PySem.F.type_list_append mt_append vr_append (pdv 3) (pda_cons (pdc o_take_expression hg hr (by rfl) (pda_cons (pdv 0) (pda_cons (pdv 2) pda_nil))) pda_nil))))) (pdss_one (pds_ret (pd_callTy call_tuple_of vr_tuple (by rfl) (B.b _ (by decide)) (by decide +kernel) (pda_cons (pdv 3) pda_nil)))))))))))) (fun args S P h => ?_)
  obtain ⟨l, f, x, ws, rest, rfl, hp, hL, h⟩ := h
  have ll := lt_of_get hL
  cases hp with
  | expr ht =>
    refine eqs_step rfl (fun _ => ?_) (fun g => absurd rfl g)
    exact ⟨l, x, ws, rest, rfl, ht, hL, retc_put h⟩
  | num hi =>
    refine eqs_skip rfl (by decide +kernel) ?_
    refine eqs_step rfl (fun _ => ?_) (fun g => absurd rfl g)
    exact ⟨l, fa_number_in, _, _, rest, _, rfl, hT1, hL, fun S Q q => ⟨_, rfl, hi, q⟩, rfl, retc_put h⟩
  | count h0 hi =>
    refine eqs_skip rfl (by decide +kernel) ?_
    refine eqs_skip rfl (by decide +kernel) ?_
    refine eqs_step rfl (fun _ => ?_) (fun g => absurd rfl g)
    refine ⟨l, fa_count_in, _, _, rest, _, rfl, hT2, hL, fun S Q q => ⟨_, rfl, Nat.le_trans hi.len (by decide), ?_⟩, rfl, retc_put h⟩
    rw [count_num h0]
    show Q (.d (.int ((Int.toNat _ : Nat) : Int))) S
    rw [Int.toNat_of_nonneg h0]
    exact q
  | name =>
    refine eqs_skip rfl (by decide +kernel) ?_
    refine eqs_skip rfl (by decide +kernel) ?_
    refine eqs_skip rfl (by decide +kernel) ?_
    refine eqs_step rfl (fun _ => ?_) (fun g => absurd rfl g)
    exact ⟨l, _, rest, rfl, hL, retc_put h⟩
  | label hb =>
    refine eqs_skip rfl (by decide +kernel) ?_
    refine eqs_skip rfl (by decide +kernel) ?_
    refine eqs_skip rfl (by decide +kernel) ?_
    refine eqs_skip rfl (by decide +kernel) ?_
    refine eqs_step rfl (fun _ => ?_) (fun g => absurd rfl g)
    exact ⟨l, x, _, rest, rfl, hb, hL, retc_put h⟩
  | @args xs ws rest ht h4 hr =>
    refine eqs_skip rfl (by decide +kernel) ?_
    refine eqs_skip rfl (by decide +kernel) ?_
    refine eqs_skip rfl (by decide +kernel) ?_
    refine eqs_skip rfl (by decide +kernel) ?_
    refine eqs_skip rfl (by decide +kernel) ?_
    refine ⟨small2 rfl, ?_⟩
    refine while_ok (F := Tw n) (l := l) (a := S.length) (xs := xs) (ws := ws) (rest := rest) hL rfl (by omega) (tws_rds ht) (fun x ws vs hw T K hT k => ?_) (fun T K hT k => ?_) (fun x ws vs T E ds hw hT h1 h2 h3 k => ?_) ?_
    · obtain ⟨r, rfl⟩ := tw_head hw
      refine top_ok (neg := false) rfl hT (by decide +kernel) (fun _ _ e => by cases e; decide +kernel) ?_
      have e : decide ((((("(" : Str) :: r) ++ (vs ++ rest)) : List Str).head? = some ("(" : Str)) = true := decide_eq_true rfl
      rw [e]
      exact k
    · obtain ⟨r, rfl⟩ := hr
      refine top_ok (neg := false) rfl hT (by decide +kernel) (fun _ _ e => by cases e; decide +kernel) ?_
      have e : decide (((")" : Str) :: r).head? = some ("(" : Str)) = false := by
        show decide (some (")" : Str) = some ("(" : Str)) = false
        decide +kernel
      rw [e]
      exact k
    · refine ⟨kd_own h1, l, x, ws, vs, rfl, hw, hT, ?_⟩
      exact app_ok (x := x) (P := fun _ S' => E.nx _ S') h3 (by omega) k
    · refine tuple_ok (ds := xs) (get_last (by rw [List.length_set])) ?_
      exact retc_last h
abbrev s_take_function : Stmt := top 44
theorem sc_take_function : FnScope ["left", "name", "parameters", "result"] ["left"] (defScope s_take_function) := ⟨rfl, rfl, rfl, by decide +kernel, rfl, by decide +kernel, by decide +kernel⟩
theorem ok_take_function {T : Addr → Option WD} {j : Nat} {fa_kind_in_text : Addr} (hT : T fa_kind_in_text = some WKin) (m_kind_in_text : mg "kind_in_text" = some (.ref fa_kind_in_text))
    (D : DefAt K mg "take_function" s_take_function ["left"]) (B : Bl mg) (G : Gc K mg) (o_take_word : Own P w K mg base j "take_word" ["left"] WTw) (o_take_mark : Own P w K mg base j "take_mark" ["left", "mark"] WTm) (o_take_known : Own P w K mg base j "take_known" ["left", "read"] (WTk T))
    (o_take_expression : Own P w K mg base j "take_expression" ["left", "depth"] (WTe 5)) : Own P w K mg base (j + 1) "take_function" ["left"] WTf := by
  have sc := sc_take_function
  refine DL.okC D sc (fun as S P h => by obtain ⟨_, _, _, _, rfl, _⟩ := h; rfl) (fun f cdv A outer s H E hg hr => (pdss_cons (pds_set (i := 1) sc.nd rfl (Or.inl rfl) (pdc o_take_word hg hr (by rfl) (pda_cons (pdv 0) pda_nil))) (pdss_cons (pds_set (i := 2) sc.nd rfl (Or.inl rfl) (pd_lstM pda_nil)) (pdss_cons (pds_while PassesOwn.never (pdt_ne hr (pd_slice (pdv 0) (pdo_some (pd_neg (pd_int))) pdo_none) (pd_lst (pda_cons (pd_gstr G.g_ARROW (by rfl)) pda_nil))) (pdss_one (pds_expr (pd_bm PySem.F.plainAttrs_list PySem.F.slot_list_append PySem.F.type_list_append mt_append vr_append (pdv 2) (pda_cons (pdc o_take_known hg hr (by rfl) (pda_cons (pdv 0) (pda_cons (pd_tV (pe_glob (v := .ref fa_kind_in_text) (by rfl) m_kind_in_text rfl)) pda_nil))) pda_nil))))) (pdss_cons (pds_expr (pdc o_take_mark hg hr (by rfl) (pda_cons (pdv 0) (pda_cons (pd_gstr G.g_ARROW (by rfl)) pda_nil)))) (pdss_cons (pds_set (i := 3) sc.nd rfl (Or.inl rfl) (pdc o_take_known hg hr (by rfl) (pda_cons (pdv 0) (pda_cons (pd_tV (pe_glob (v := .ref fa_kind_in_text) (by rfl) m_kind_in_text rfl)) pda_nil)))) (pdss_one (pds_ret (pd_tup (pda_cons (pdv 1) (pda_cons (pd_callTy call_tuple_of vr_tuple (by rfl) (B.b _ (by decide)) (by decide +kernel) (pda_cons (pdv 2) pda_nil)) (pda_cons (pdv 3) (pda_cons (pdc o_take_expression hg hr (by rfl) (pda_cons (pdv 0) (pda_cons (pd_gint G.g_MOST_DEPTH (by rfl)) pda_nil))) pda_nil))))))))))))) (fun args S P h => ?_)
  obtain ⟨l, x, ws, rest, rfl, hw, hL, h⟩ := h
  cases hw with
  | @mk f ks kts r rt x ws0 hf hk h4 hr hx =>
    have ll := lt_of_get hL
    have hL1 : S[l]? = some (Lw (f :: (kts ++ ("->" : Str) :: rt :: (ws0 ++ rest)))) := by
      rw [hL]
      congr 2
      simp
    refine ⟨l, f, _, rfl, hL1, ?_⟩
    refine ⟨small2 rfl, ?_⟩
    have hlen : (S.set l (Lw (kts ++ ("->" : Str) :: rt :: (ws0 ++ rest)))).length = S.length := List.length_set
    have ka : ∀ (i : Nat), i = S.length → True := fun _ _ => trivial
    refine while_ok (F := fun x ws => ∃ t, ws = [t] ∧ Kn x t) (l := l) (a := (S.set l (Lw (kts ++ ("->" : Str) :: rt :: (ws0 ++ rest)))).length) (xs := ks) (ws := kts) (rest := ("->" : Str) :: rt :: (ws0 ++ rest)) (put_get hL1) rfl (by omega) (kns_rds hk) (fun x ws vs hw T K hT k => ?_) (fun T K hT k => ?_) (fun x ws vs T E ds hw hT' h1 h2 h3 k => ?_) ?_
    · obtain ⟨t, rfl, hw⟩ := hw
      refine top_ok (neg := true) rfl hT (by decide +kernel) (fun _ _ e => by cases e; exact hw.ok) ?_
      have e : decide ((([t] : List Str) ++ (vs ++ ("->" : Str) :: rt :: (ws0 ++ rest))).head? = some ("->" : Str)) = false := decide_eq_false (fun e => kn_arrow hw (Option.some.inj e))
      rw [e]
      exact k
    · refine top_ok (neg := true) rfl hT (by decide +kernel) (fun _ _ e => by cases e; decide +kernel) ?_
      have e : decide ((("->" : Str) :: rt :: (ws0 ++ rest)).head? = some ("->" : Str)) = true := decide_eq_true rfl
      rw [e]
      exact k
    · obtain ⟨t, rfl, hw⟩ := hw
      refine ⟨kd_own h1, l, fa_kind_in_text, _, t, vs, x, rfl, hT, hT', fun S Q q => ⟨_, _, rfl, hw, q⟩, kn_nonD hw, ?_⟩
      exact app_ok (x := x) (P := fun _ S' => E.nx _ S') h3 (by omega) k
    rw [put_put]
    have l1 : l < (S.set l (Lw (("->" : Str) :: rt :: (ws0 ++ rest)))).length := by rw [List.length_set]; exact ll
    refine ⟨l, "->", _, rfl, get_first (put_get hL1), ?_⟩
    rw [set_first l1, put_put]
    have l2 : l < (S.set l (Lw (rt :: (ws0 ++ rest)))).length := by rw [List.length_set]; exact ll
    refine ⟨l, fa_kind_in_text, _, rt, ws0 ++ rest, r, rfl, hT, get_first (put_get hL1), fun S Q q => ⟨_, _, rfl, hr, q⟩, kn_nonD hr, ?_⟩
    rw [set_first l2, put_put]
    have l3 : l < (S.set l (Lw (ws0 ++ rest))).length := by rw [List.length_set]; exact ll
    have g3 : ((S.set l (Lw (ws0 ++ rest))) ++ [MO.lst (ks.map .d)])[(S.set l (Lw (kts ++ ("->" : Str) :: rt :: (ws0 ++ rest)))).length]? = some (.lst (ks.map .d)) := get_last (by rw [List.length_set, List.length_set])
    have go : dTuple [.m (S.set l (Lw (kts ++ ("->" : Str) :: rt :: (ws0 ++ rest)))).length] (S.set l (Lw (ws0 ++ rest)) ++ [MO.lst (ks.map .d)]) fun u S1 => WTe 5 [.m l, .d (.int 5)] S1 fun v S2 => ([.d (.str f), u, .d r, v] : List AV).length ≤ sizeLine ∧ dTup [.d (.str f), u, .d r, v] S2 (RetC P S) := by
      refine tuple_ok (ds := ks) g3 ?_
      refine ⟨l, _, ws0, rest, rfl, hx, get_first (put_get hL1), ?_⟩
      rw [set_first l3, put_put]
      exact ⟨small2 rfl, retc_last h⟩
    exact go
end
end K61
/-! law k91: the program reads texts of code -/
namespace K61
open PySem PySem.Spec PyProof.Rows L2 DL
/-- the two marks' tokens -/
structure TkC (n : Nat) (mg : Str → Option Value) : Prop where
  b : ∃ t, mg "BEGIN" = some (.str bOp t) ∧ t ≠ 0 ∧ t < n
  e : ∃ t, mg "END" = some (.str bCl t) ∧ t ≠ 0 ∧ t < n
def WWb : WD := fun as S P => ∃ x : Str, as = [.d (.str x)] ∧ x.length ≤ 5000 ∧ P (.m S.length) (S ++ [Lw (wordsR bOp bOpS bCl bClS " " x)])
theorem Ex5.len0 {x : PyData} {t : Str} (h : Ex5 x t) : t.length ≤ 3000 := by
  obtain ⟨m, k, _, hk, h⟩ := h
  have := h.len
  omega
theorem Ex5.len {x : PyData} {t : Str} (h : Ex5 x t) : t.length ≤ 5000 := by
  obtain ⟨m, k, _, hk, h⟩ := h
  have := h.len
  omega
theorem Wk.len {x : PyData} {t : Str} (h : Wk x t) : t.length ≤ 5000 := by
  cases h with
  | @mk f ks kts r rt b bt hf hks h4 hkr hb =>
    have l1 := pair_len hks
    have l2 := kns_len hks
    have l3 := name_len hf
    have l4 := hkr.len
    have l5 := hb.len0
    have j : (Txt.join " " (f :: (kts ++ ([("->" : Str), rt, bt] : List Str)))).length ≤ lens (f :: (kts ++ ([("->" : Str), rt, bt] : List Str))) + (f :: (kts ++ ([("->" : Str), rt, bt] : List Str))).length := join_le _
    have e1 : lens ([("->" : Str), rt, bt] : List Str) = 2 + (rt.length + (bt.length + 0)) := by rw [lens_cons, lens_cons, lens_cons]; rfl
    rw [lens_cons, lens_app, e1, List.length_cons, List.length_append] at j
    simp only [List.length_cons, List.length_nil] at j
    omega
theorem Ex5.some {x : PyData} {t : Str} (h : Ex5 x t) : nonD x = false := by
  obtain ⟨m, k, _, _, h⟩ := h
  cases h <;> rfl
theorem Wk.some {x : PyData} {t : Str} (h : Wk x t) : nonD x = false := by cases h; rfl
section
variable {P : Program} {w : World} {K : PySem.W.Frag} {mg : Str → Option Value} {base : Heap} {n : Nat}
theorem take_all {T : Addr → Option WD} {fa_number_in fa_count_in dF : Addr} (hT1 : T fa_number_in = some WNin) (hT2 : T fa_count_in = some WCt) (m_number_in : mg "number_in" = some (.ref fa_number_in)) (m_count_in : mg "count_in" = some (.ref fa_count_in))
    (D : DefAt K mg "take_expression" s_take_expression ["left", "depth"]) (Dp : DefAt K mg "take_part" s_take_part ["left", "form", "depth"]) (B : Bl mg) (G : Gc K mg) (t_FORMS : TabAt K w mg "FORMS" T_FORMS dF) (o_take_mark : Own P w K mg base 2 "take_mark" ["left", "mark"] WTm)
    (o_take_word : Own P w K mg base 1 "take_word" ["left"] WTw) (o_take_known : Own P w K mg base 4 "take_known" ["left", "read"] (WTk T)) (o_take_label : Own P w K mg base 5 "take_label" ["left"] WTl) : ∀ n : Nat, Own P w K mg base (6 + 2 * n) "take_expression" ["left", "depth"] (WTe n)
  | 0 => (ok_take_expression0 D).mono (by omega)
  | n + 1 => (ok_take_expression (j := 6 + 2 * n + 1) D B G t_FORMS (o_take_mark.mono (by omega)) (o_take_word.mono (by omega)) (ok_take_part (j := 6 + 2 * n) hT1 hT2 m_number_in m_count_in Dp B G (o_take_word.mono (by omega)) (o_take_known.mono (by omega)) (o_take_label.mono (by omega))
      (take_all hT1 hT2 m_number_in m_count_in D Dp B G t_FORMS o_take_mark o_take_word o_take_known o_take_label n))).mono (by omega)
abbrev s_words_from_behind : Stmt := top 40
theorem sc_words_from_behind : FnScope ["text"] ["text"] (defScope s_words_from_behind) := ⟨rfl, rfl, rfl, by decide +kernel, rfl, by decide +kernel, by decide +kernel⟩
theorem sz2 {z : Str} (h : z.length = 2) : z.length ≤ sizeLine := by rw [h, sizeLine_eq]; decide
theorem ok_words_from_behind (D : DefAt K mg "words_from_behind" s_words_from_behind ["text"]) (TB : TkC n mg) : OwnN n P w K mg base 1 "words_from_behind" ["text"] WWb := by
  have sc := sc_words_from_behind
  obtain ⟨⟨t1, m1, z1, l1⟩, t2, m2, z2, l2⟩ := TB
  refine okON (g := gsRet (gWords 0 bOp bOpS bCl bClS " ")) D sc (fun as S P h => by obtain ⟨_, rfl, _⟩ := h; rfl) (fun f cdv A outer s H E hg hr =>
    pdssn_one (pdsn_ret (En.wk (en_revL (en_bm1 PySem.F.plainAttrs_str PySem.F.slot_str_split PySem.F.type_str_split mt_split
      (en_repG (y := bCl) (z := bClS) (by rfl) m2 z2 l2 (by decide +kernel) (en_repG (y := bOp) (z := bOpS) (by rfl) m1 z1 l1 (by decide +kernel) (En.of (pe_var (i := 0) rfl (Or.inl rfl)))
        (fresh_gc (y := bOp) (c := " ") (by rfl) m1 (by decide +kernel) (by decide +kernel) (sz2 (by decide +kernel)))) (fresh_cg (y := bCl) (c := " ") (by rfl) m2 (by decide +kernel) (by decide +kernel) (sz2 (by decide +kernel))))
      (pa_cons pe_str pa_nil))) (words_wk (by decide +kernel) (by decide +kernel) (by decide +kernel))))) (fun args S P h => ?_)
  obtain ⟨x, rfl, hx, h⟩ := h
  exact ⟨x, rfl, hx, h⟩
abbrev s_expression_in : Stmt := top 38
theorem sc_expression_in : FnScope ["text", "left", "expression"] ["text"] (defScope s_expression_in) := ⟨rfl, rfl, rfl, by decide +kernel, rfl, by decide +kernel, by decide +kernel⟩
theorem ok_expression_in (D : DefAt K mg "expression_in" s_expression_in ["text"]) (B : Bl mg) (G : Gc K mg) (o_words_from_behind : OwnN n P w K mg base 1 "words_from_behind" ["text"] WWb) (o_take_expression : Own P w K mg base 16 "take_expression" ["left", "depth"] (WTe 5))
    (o_is_expression : Own P w K mg base 15 "is_expression" ["value"] (WB exprD)) : OwnN n P w K mg base 18 "expression_in" ["text"] WRe := by
  have sc := sc_expression_in
  refine okCN (k := 17) D sc (fun as S P h => by obtain ⟨_, _, rfl, _⟩ := h; rfl) (fun f cdv A outer s H E hg hr => (pdssn_cons (pdsn_set (i := 1) sc.nd rfl (Or.inl rfl) (pdcn o_words_from_behind hg hr (by rfl) (pdan_cons (pdn_up (pdv 0)) pdan_nil))) (pdssn_cons (pdsn_up (pds_thru (pdss_one (pds_set (i := 2) sc.nd rfl (Or.inl rfl) (pdc o_take_expression hg hr (by rfl) (pda_cons (pdv 1) (pda_cons (pd_gint G.g_MOST_DEPTH (by rfl)) pda_nil))))))) (pdssn_one (pdsn_up (pds_ret (pd_ife (pdt_w (pdw_and (pdt_eq hr (pd_callB call_lenAll vr_len (by rfl) (B.b _ (by decide)) (by decide +kernel) (pda_cons (pdv 1) pda_nil)) (pd_int)) (pdw_and1 (pdt_val (pdc o_is_expression hg hr (by rfl) (pda_cons (pdv 2) pda_nil)))))) (pdv 2) (pd_non)))))))) (fun args S P h => ?_)
  obtain ⟨x, t, rfl, hx, h⟩ := h
  obtain ⟨ws, hw, e⟩ := hx.words
  refine ⟨t, rfl, hx.len, ?_⟩
  rw [e]
  refine ⟨S.length, x, ws, [], rfl, hw, get_last (b := Lw (ws ++ [])) (by rfl) |> fun z => by rw [List.append_nil] at z ⊢; exact z, ?_⟩
  rw [set_last (b := Lw ws) rfl]
  have go : dLen [.m S.length] (S ++ [Lw []]) fun a S1 => dEq false a (.d (.int 0)) S1 fun y S2 => onB y fun c => cond c (WB exprD [.d x] S2 fun y S3 => onB y fun c2 => cond c2 (RetC P S (.d x) S3) (RetC P S (.d .none) S3)) (RetC P S (.d .none) S2) := by
    refine len_ok (ws := []) (get_last rfl) ?_
    refine ⟨x, rfl, ?_⟩
    rw [hx.right]
    exact ⟨x, S, [Lw []], rfl, rfl, Chg.refl, h⟩
  exact go
abbrev s_function_in : Stmt := top 39
theorem sc_function_in : FnScope ["text", "left", "function"] ["text"] (defScope s_function_in) := ⟨rfl, rfl, rfl, by decide +kernel, rfl, by decide +kernel, by decide +kernel⟩
theorem ok_function_in (D : DefAt K mg "function_in" s_function_in ["text"]) (B : Bl mg) (G : Gc K mg) (o_words_from_behind : OwnN n P w K mg base 1 "words_from_behind" ["text"] WWb) (o_take_function : Own P w K mg base 17 "take_function" ["left"] WTf)
    (o_is_function : Own P w K mg base 16 "is_function" ["value"] (WB funD)) : OwnN n P w K mg base 18 "function_in" ["text"] WRf := by
  have sc := sc_function_in
  refine okCN (k := 17) D sc (fun as S P h => by obtain ⟨_, _, rfl, _⟩ := h; rfl) (fun f cdv A outer s H E hg hr => (pdssn_cons (pdsn_set (i := 1) sc.nd rfl (Or.inl rfl) (pdcn o_words_from_behind hg hr (by rfl) (pdan_cons (pdn_up (pdv 0)) pdan_nil))) (pdssn_cons (pdsn_up (pds_thru (pdss_one (pds_set (i := 2) sc.nd rfl (Or.inl rfl) (pdc o_take_function hg hr (by rfl) (pda_cons (pdv 1) pda_nil)))))) (pdssn_one (pdsn_up (pds_ret (pd_ife (pdt_w (pdw_and (pdt_eq hr (pd_callB call_lenAll vr_len (by rfl) (B.b _ (by decide)) (by decide +kernel) (pda_cons (pdv 1) pda_nil)) (pd_int)) (pdw_and1 (pdt_val (pdc o_is_function hg hr (by rfl) (pda_cons (pdv 2) pda_nil)))))) (pdv 2) (pd_non)))))))) (fun args S P h => ?_)
  obtain ⟨x, t, rfl, hx, h⟩ := h
  obtain ⟨ws, hw, e⟩ := hx.words
  refine ⟨t, rfl, hx.len, ?_⟩
  rw [e]
  refine ⟨S.length, x, ws, [], rfl, hw, get_last (b := Lw (ws ++ [])) (by rfl) |> fun z => by rw [List.append_nil] at z ⊢; exact z, ?_⟩
  rw [set_last (b := Lw ws) rfl]
  have go : dLen [.m S.length] (S ++ [Lw []]) fun a S1 => dEq false a (.d (.int 0)) S1 fun y S2 => onB y fun c => cond c (WB funD [.d x] S2 fun y S3 => onB y fun c2 => cond c2 (RetC P S (.d x) S3) (RetC P S (.d .none) S3)) (RetC P S (.d .none) S2) := by
    refine len_ok (ws := []) (get_last rfl) ?_
    refine ⟨x, rfl, ?_⟩
    rw [hx.right]
    exact ⟨x, S, [Lw []], rfl, rfl, Chg.refl, h⟩
  exact go
abbrev s_read_expression : Stmt := top 36
theorem sc_read_expression : FnScope ["text", "expression"] ["text"] (defScope s_read_expression) := ⟨rfl, rfl, rfl, by decide +kernel, rfl, by decide +kernel, by decide +kernel⟩
theorem ok_read_expression (D : DefAt K mg "read_expression" s_read_expression ["text"]) (B : Bl mg) (o_expression_in : OwnN n P w K mg base 18 "expression_in" ["text"] WRe) : OwnN n P w K mg base 19 "read_expression" ["text"] WRe := by
  have sc := sc_read_expression
  refine okON (k := 18) D sc (fun as S P h => by obtain ⟨_, _, rfl, _⟩ := h; rfl) (fun f cdv A outer s H E hg hr => (pdssn_cons (pdsn_up (pds_if (pdt_not (pdt_val (pd_callB call_isi vr_isi (by rfl) (B.b _ (by decide)) boot_isinstance (pda_cons (pdv 0) (pda_cons (pd_ty "str" (by rfl) (B.b _ (by decide)) (by decide +kernel)) pda_nil))))) pdss_never pdss_nil)) (pdssn_cons (pdsn_set (i := 1) sc.nd rfl (Or.inl rfl) (pdcn o_expression_in hg hr (by rfl) (pdan_cons (pdn_up (pdv 0)) pdan_nil))) (pdssn_cons (pdsn_up (pds_if (pdt_is (pdv 1) (pd_non)) pdss_never pdss_nil)) (pdssn_one (pdsn_up (pds_ret (pdv 1)))))))) (fun args S P h => ?_)
  obtain ⟨x, t, rfl, hx, h⟩ := h
  refine ⟨by decide, ?_⟩
  refine ⟨x, t, rfl, hx, ?_⟩
  refine cond_f (c := nonD x) hx.some ?_
  exact h
abbrev s_read_function : Stmt := top 37
theorem sc_read_function : FnScope ["text", "function"] ["text"] (defScope s_read_function) := ⟨rfl, rfl, rfl, by decide +kernel, rfl, by decide +kernel, by decide +kernel⟩
theorem ok_read_function (D : DefAt K mg "read_function" s_read_function ["text"]) (B : Bl mg) (o_function_in : OwnN n P w K mg base 18 "function_in" ["text"] WRf) : OwnN n P w K mg base 19 "read_function" ["text"] WRf := by
  have sc := sc_read_function
  refine okON (k := 18) D sc (fun as S P h => by obtain ⟨_, _, rfl, _⟩ := h; rfl) (fun f cdv A outer s H E hg hr => (pdssn_cons (pdsn_up (pds_if (pdt_not (pdt_val (pd_callB call_isi vr_isi (by rfl) (B.b _ (by decide)) boot_isinstance (pda_cons (pdv 0) (pda_cons (pd_ty "str" (by rfl) (B.b _ (by decide)) (by decide +kernel)) pda_nil))))) pdss_never pdss_nil)) (pdssn_cons (pdsn_set (i := 1) sc.nd rfl (Or.inl rfl) (pdcn o_function_in hg hr (by rfl) (pdan_cons (pdn_up (pdv 0)) pdan_nil))) (pdssn_cons (pdsn_up (pds_if (pdt_is (pdv 1) (pd_non)) pdss_never pdss_nil)) (pdssn_one (pdsn_up (pds_ret (pdv 1)))))))) (fun args S P h => ?_)
  obtain ⟨x, t, rfl, hx, h⟩ := h
  refine ⟨by decide, ?_⟩
  refine ⟨x, t, rfl, hx, ?_⟩
  refine cond_f (c := nonD x) hx.some ?_
  exact h
end
end K61
/-! law k91: the law, over the promises of the four texts' defs -/
namespace K61
open PySem PySem.Spec PyProof.Rows L2 DL
abbrev sLaw : Stmt := top 68
def spRight : Sp := fun vs H Q _ => ∃ p, vs = [.ref p] ∧ Rng H p ∧ ∀ H', But p H H' → Rng H' p → Q (.bl true) H'
theorem rl0 {K : PySem.W.Frag} {H : Hp} : Rl K [] [] [] H := ⟨rfl, fun i j a oi oj h1 => (by simp at h1), fun j a o h1 => (by simp at h1), fun b hb => nomatch hb⟩
/-- a statement over data alone, amid statements of the layer beneath -/
theorem dstep {K : PySem.W.Frag} {g : GS} {D : Ends} {σ : L2.St} {H : Hp} {env env' : DEnv} (sl : Sl K [] [] [] H σ env) (hg : g env [] ⟨fun e s => e = env' ∧ s = [], fun _ _ => False, fun _ _ => False, fun _ _ => False⟩)
    (k : ∀ σ' H', Same H H' → Sl K [] [] [] H' σ' env' → D.nx σ' H') : tDS K g D σ H := by
  refine ⟨[], [], [], env, _, rl0, sl, hg, ?_, fun _ _ _ _ _ h => h.elim, fun _ _ _ _ _ h => h.elim, fun _ _ _ _ _ h => h.elim⟩
  intro e s As' σ' H' h po rl sl'
  obtain ⟨rfl, rfl⟩ := h
  have hA : As' = [] := List.eq_nil_of_length_eq_zero rl.len
  subst hA
  refine k σ' H' (fun b o eb => ?_) sl'
  refine (po.ext b o eb fun z => ?_).2
  rcases z with z | ⟨j, o', h1, _, _⟩
  · cases z
  · simp at h1
def leastD : List PyData := [.tuple [.str "make", .int 0], .tuple [.str "make", .int (-1)], .tuple [.str "param", .int 0], .tuple [.str "call", .none, .str "f", .tuple []], .tuple [.str "call", .tuple [.str "a", .int 0], .str "f", .tuple []]]
theorem least4 : Ex5 (.tuple [.str "call", .tuple [.str "a", .int 0], .str "f", .tuple []]) "(call a/0 f)" := by
  have h : Tm 1 1 _ _ := .call (n := 0) (.yes "a" 0 (by decide +kernel) (by decide) (by unfold Num; decide)) (f := "f") (by decide +kernel) (.nil 0) (by decide)
  have e : wr "call" [("a" ++ "/" ++ numT 0 : Str), "f"] = "(call a/0 f)" := by decide +kernel
  rw [← e]
  exact ⟨1, 1, by decide, by decide, h⟩
theorem least_all : ∀ x, x ∈ leastD → ∃ t, Ex5 x t := by
  intro x hx
  simp only [leastD, List.mem_cons, List.not_mem_nil, or_false] at hx
  rcases hx with rfl | rfl | rfl | rfl | rfl
  · exact ⟨_, 1, 1, by decide, by decide, .make 0 0 (by unfold Num; decide)⟩
  · exact ⟨_, 1, 1, by decide, by decide, .make 0 (-1) (by unfold Num; decide)⟩
  · exact ⟨_, 1, 1, by decide, by decide, .param 0 0 (by decide) (by unfold Num; decide)⟩
  · exact ⟨_, 1, 1, by decide, by decide, .call (n := 0) .no (f := "f") (by decide +kernel) (.nil 0) (by decide)⟩
  · exact ⟨_, least4⟩
theorem least_work : Wk (.tuple [.str "f", .tuple [], .str "own", .tuple [.str "make", .int 1]]) "f -> own (make 1)" := by
  have h : Wk (.tuple [.str "f", .tuple [], .str "own", .tuple [.str "make", .int 1]]) _ := .mk (f := "f") (by decide +kernel) .nil (by decide) .own ⟨1, 1, by decide, by decide, .make 0 1 (by unfold Num; decide)⟩
  have e : Txt.join " " (("f" : Str) :: (([] : List Str) ++ ([("->" : Str), "own", wr "make" [numT 1]] : List Str))) = "f -> own (make 1)" := by decide +kernel
  rw [e] at h
  exact h
section
variable {P : Program} {w : World} {K : PySem.W.Frag} {mg : Str → Option Value} {base : Heap} {k : Nat} {f fG : Addr} {fd dG : FuncData} {n : Nat}
theorem right_sp (F : FnN n P w K mg base k f fd ["_law_rng_here"] (spW K WRr)) : FnN n P w K mg base k f fd ["_law_rng_here"] spRight := by
  have conv : ∀ vs H Q E, spRight vs H Q E → spW K WRr vs H Q E := fun vs H Q E h => by
    obtain ⟨p, rfl, hp, h⟩ := h
    have one : ∀ {α : Type} {x y : α} {j : Nat}, [x][j]? = some y → j = 0 ∧ y = x := fun {α x y j} e => by
      cases j with
      | zero => exact ⟨rfl, (Option.some.inj e).symm⟩
      | succ j => simp at e
    have rl : Rl K [] [p] [MO.rng] H := by
      refine ⟨rfl, fun i j a oi oj h1 h2 _ _ _ _ => ?_, fun j a o h1 h2 => ?_, fun b hb => (nomatch hb)⟩
      · rw [(one h1).1, (one h2).1]
      · obtain ⟨rfl, rfl⟩ := one h1
        obtain ⟨_, rfl⟩ := one h2
        exact hp
    refine ⟨[], [p], [.rng], [.m 0], fun r S' => r = .d (.bool true) ∧ S' = [.rng], rl, .cons ⟨p, rfl, rfl⟩ .nil, ⟨0, rfl, rfl, rfl, rfl⟩, fun r S' As' v H' hr po rl' av => ?_⟩
    obtain ⟨rfl, rfl⟩ := hr
    have hv : v = .bl true := by cases av; rfl
    subst hv
    obtain ⟨l, hl⟩ := po.pre
    have hl0 : l = [] := by
      have := rl'.len
      rw [hl] at this
      simp at this
      exact this
    subst hl0
    refine h H' (fun b o hb e => (po.ext b o e fun z => ?_).2) (rl'.at_ 0 p .rng (by rw [hl]; rfl) rfl)
    rcases z with z | ⟨j, o', h1, _, _⟩
    · cases z
    · exact hb (one h1).2
  exact F.imp conv
def spLaw (K : PySem.W.Frag) : Sp := fun vs H Q _ => ∃ (a : Addr) (ns : List Int), vs = [.ref a] ∧ SqL K H a (ns.map V.int) ∧ ns.length ≤ 63 ∧ ∀ H', Same H H' → Q (.bl true) H'
theorem scLaw : FnScope ["_law_script", "_law_least", "_law_k", "_law_term"] ["_law_script"] (defScope sLaw) := ⟨rfl, rfl, rfl, by decide +kernel, rfl, by decide +kernel, by decide +kernel⟩
abbrev s_law : Stmt := sLaw
theorem sl4 {K : PySem.W.Frag} {H : Hp} {σ : L2.St} {a : Addr} {d : PyData} (h : Sl K [] [] [] H σ [some (.v (.ref a)), some (.d d), none, none]) : ∃ x y z, σ = [some (.ref a), x, y, z] := by
  cases h with
  | some r t =>
    cases t with
    | some r2 t =>
      cases t with
      | none t =>
        cases t with
        | none t =>
          cases t
          have e := (show _ = V.ref a from r)
          subst e
          exact ⟨_, _, _, rfl⟩
theorem ok_law {fR : Addr} {dR : FuncData} (F : Fun K "law" "law" sLaw f fd) (B : Bl mg) (o__law_term_right : OwnN n P w K mg base 41 "_law_term_right" ["_law_term"] WTr) (o_expression_text : Own P w K mg base 40 "expression_text" ["expression"] WEx) (o_function_text : Own P w K mg base 40 "function_text" ["function"] WFx)
    (R : FnN n P w K mg base 42 fR dR ["_law_rng_here"] spRight) (mR : mg "_law_right" = some (.ref fR)) (kR : PySem.W.keepIn K (.ref fR) = true) (bR : L2.Binds K dR ["_law_rng_here"] [])
    (N : FnOk P w K mg base CX0 1 fG dG ["_law_script", "_law_k"] (spRng K)) (mG : mg "_law_rng" = some (.ref fG)) (kG : PySem.W.keepIn K (.ref fG) = true) (bG : L2.Binds K dG ["_law_script", "_law_k"] []) : FnN n P w K mg base 43 f fd ["_law_script"] (spLaw K) := by
  have sc := scLaw
  refine Fun.okN F sc (fun vs H Q E h => ?_) (fun cdv A outer s H vs Q E' hgd hr h => ?_)
  · obtain ⟨a, ns, rfl, _⟩ := h
    rfl
  · obtain ⟨a, ns, rfl, hS, hn, q⟩ := h
    have hr1 : Room 1 _ := hr.mono (by decide)
    have hg : (cxOf CX0 P w K mg base ["_law_script", "_law_least", "_law_k", "_law_term"] "law" (defScope sLaw) f cdv A outer s H E').nox.A.guards = some [] := hgd
    refine ⟨_, bn_cons (u := tDS K _) (Sn.of (pds_set (i := 1) sc.nd rfl (Or.inl rfl) (pd_lst (pda_cons (pd_tup (pda_cons (pd_str) (pda_cons (pd_int) pda_nil))) (pda_cons (pd_tup (pda_cons (pd_str) (pda_cons (pd_neg (pd_int)) pda_nil))) (pda_cons (pd_tup (pda_cons (pd_str) (pda_cons (pd_int) pda_nil))) (pda_cons (pd_tup (pda_cons (pd_str) (pda_cons (pd_non) (pda_cons (pd_str) (pda_cons (pd_tup pda_nil) pda_nil))))) (pda_cons (pd_tup (pda_cons (pd_str) (pda_cons (pd_tup (pda_cons (pd_str) (pda_cons (pd_int) pda_nil))) (pda_cons (pd_str) (pda_cons (pd_tup pda_nil) pda_nil))))) pda_nil)))))))) (bn_cons (u := tDS K _) (pdsn_if (pdtn_w (pdwn_or (pdtn_not (pdtn_val (pdn_callB (cr_all rfl) vr_all (by rfl) (B.b _ (by decide)) (by decide +kernel) (pdan_cons (pdn_lc (own := [("_law_term", 3)]) rfl sc.nd (pdi_list (pdv 1)) (blkOk_by (N := ["_law_script", "_law_least", "_law_k", "_law_term"]) (sc := defScope s_law) (by decide +kernel)) (cg_name (by decide)) (fun _ _ _ _ _ => (pg_name (i := 3) sc.nd rfl (Or.inl rfl))) (fun _ _ _ _ _ => pts_yes) (fun _ _ _ _ _ => (pdcn o__law_term_right hg hr (by rfl) (pdan_cons (pdn_up (pdv 3)) pdan_nil)))) pdan_nil)))) (pdwn_or1 (pdtn_up (pdt_ne hr (pdc o_expression_text hg hr (by rfl) (pda_cons (pd_at (pdv 1) (pd_int)) pda_nil)) (pd_str)))))) (pdssn_up (pdss_one (pds_ret (pd_bl)))) (pdssn_up pdss_nil)) (bn_cons (u := tDS K _) (Sn.of (pds_if (pdt_ne hr (pdc o_function_text hg hr (by rfl) (pda_cons (pd_tup (pda_cons (pd_str) (pda_cons (pd_tup pda_nil) (pda_cons (pd_str) (pda_cons (pd_tup (pda_cons (pd_str) (pda_cons (pd_int) pda_nil))) pda_nil))))) pda_nil)) (pd_str)) (pdss_one (pds_ret (pd_bl))) pdss_nil)) (bn_one (sn_ret (en_callB (cr_all rfl) (by rfl) (B.b "all" (by decide)) boot_all (an_cons (en_lc (own := [("_law_k", 2)]) (g := gName 2) (tt := tYes) rfl sc.nd
      (pi_range1 (by rfl) (B.b "range" (by decide)) (pa_cons (pe_callB (call_max2 rfl) (by rfl) (B.b "max" (by decide)) boot_max (pa_cons pe_int (pa_cons (pe_callB (call_min2 rfl) (by rfl) (B.b "min" (by decide)) boot_min (pa_cons pe_int (pa_cons (pe_callB call_len_seq (by rfl) (B.b "len" (by decide)) boot_len (pa_cons (pv 0) pa_nil)) pa_nil))) pa_nil))) pa_nil))
      (blkOk_by (N := ["_law_script", "_law_least", "_law_k", "_law_term"]) (sc := defScope sLaw) (by decide +kernel)) (fun _ _ _ _ _ => pg_name (i := 2) sc.nd rfl (Or.inl rfl)) (fun _ _ _ _ _ => pts_nil)
      (fun _ _ _ _ _ => en_call R hg hr (by rfl) mR kR bR (An.of (pa_cons (pe_call N hr1 (by rfl) mG kG bG .nil pass0 (pa_cons (pv 0) (pa_cons (pv 2) pa_nil))) pa_nil)))) (An.of pa_nil))))))), ?_⟩
    have sl0 : Sl K [] [] [] H (start ["_law_script", "_law_least", "_law_k", "_law_term"] [.ref a]) ([some (.v (.ref a)), none, none, none] : DEnv) := Sl.start (vs := [.ref a]) (as := [.v (.ref a)]) 3 (.cons rfl .nil)
    refine dstep (env' := [some (.v (.ref a)), some (.d (.list leastD)), none, none]) sl0 ?_ (fun σ1 H1 s1 sl1 => ?_)
    · exact ⟨small2 rfl, small2 rfl, small2 rfl, small2 rfl, small2 rfl, small2 rfl, small2 rfl, small2 rfl, small2 rfl, rfl, rfl⟩
    refine dstep (env' := [some (.v (.ref a)), some (.d (.list leastD)), none, none]) sl1 ?_ (fun σ2 H2 s2 sl2 => ?_)
    · refine ⟨by show 5 < sizeLine; rw [sizeLine_eq]; decide, ?_⟩
      refine compD_map (fun _ => .bool true) (fun x hx Q q => ?_) ?_
      · obtain ⟨t, ht⟩ := least_all x hx
        exact ⟨x, t, rfl, ht, q⟩
      · exact ⟨_, _, rfl, least4, rfl, rfl⟩
    refine dstep (env' := [some (.v (.ref a)), some (.d (.list leastD)), none, none]) sl2 ?_ (fun σ3 H3 s3 sl3 => ?_)
    · exact ⟨small2 rfl, small2 rfl, small2 rfl, _, _, rfl, least_work, rfl, rfl⟩
    have s13 : Same H H3 := (s1.trans s2).trans s3
    obtain ⟨x1, x2, x3, rfl⟩ := sl4 sl3
    have hS3 := s13.seq hS
    refine ⟨_, rfl, a, _, rfl, .inl hS3, _, _, rfl, _, _, rfl, _, rfl, ?_, ?_, ?_⟩
    · show -(2 ^ 62) ≤ (if (if ((ns.map V.int).length : Int) < 5 then ((ns.map V.int).length : Int) else 5) > 1 then (if ((ns.map V.int).length : Int) < 5 then ((ns.map V.int).length : Int) else 5) else 1)
      split <;> split <;> omega
    · show (if (if ((ns.map V.int).length : Int) < 5 then ((ns.map V.int).length : Int) else 5) > 1 then (if ((ns.map V.int).length : Int) < 5 then ((ns.map V.int).length : Int) else 5) else 1) < 2 ^ 62
      split <;> split <;> omega
    have hz : ((if (if ((ns.map V.int).length : Int) < 5 then ((ns.map V.int).length : Int) else 5) > 1 then (if ((ns.map V.int).length : Int) < 5 then ((ns.map V.int).length : Int) else 5) else 1) : Int).toNat ≤ 5 := by
      split <;> split <;> omega
    refine fun D hD => lc_range (fun i H4 => Same H3 H4 ∧ H4 D = some (.lst (List.replicate i (.bl true)))) ⟨fun b o e => by rw [upd_ne (ne_of_none e hD)]; exact e, upd_same⟩ ?_ ?_
    · rintro i H4 hi ⟨s4, hd⟩
      have hi5 : i < 5 := Nat.lt_of_lt_of_le hi hz
      refine ⟨rfl, ?_⟩
      refine ⟨_, rfl, _, rfl, a, ns, i, by rw [Int.zero_add]; rfl, s4.seq hS3, by omega, fun p H5 np s5 R5 => ?_⟩
      refine ⟨p, rfl, R5, fun H6 b6 _ => ⟨_, b6 D _ (ne_of_none hd np) (s5 _ _ hd), by rw [List.length_replicate, sizeLine_eq]; omega, fun c o x => ?_, ?_⟩⟩
      · rw [upd_ne (fun z => by rw [z, hD] at x; cases x)]
        exact b6 c o (ne_of_none (s4 _ _ x) np) (s5 _ _ (s4 _ _ x))
      · rw [List.replicate_succ']
        exact upd_same
    · rintro H4 ⟨s4, hd⟩
      have e : ∀ n : Nat, (List.replicate n true).all id = true := fun n => List.all_eq_true.mpr fun x hx => List.eq_of_mem_replicate hx
      have fin : ∀ n : Nat, H4 D = some (.lst (List.replicate n (V.bl true))) → ∃ (c : Addr) (bs : List Bool), [V.ref D] = [V.ref c] ∧ SqL K H4 c (bs.map V.bl) ∧ Q (.bl (bs.all id)) H4 := fun n hd =>
        ⟨D, List.replicate n true, rfl, .inl (.inl (by rw [hd, List.map_replicate])), by rw [e n]; exact q H4 (s13.trans s4)⟩
      exact fin _ hd
end
end K61
/-! a table of the module, from texts to tuples of texts, by what is seen of it at the top's end -/
namespace DL
open PySem PySem.Spec PyProof.Rows L2
def strsAre : List Value → List Str → Bool
  | [], [] => true
  | .str x _ :: r, z :: zs => decide (x = z) && (decide (z.length ≤ 1000) && strsAre r zs)
  | _, _ => false
theorem strsAre_ok : ∀ {us : List Value} {zs : List Str}, strsAre us zs = true → Vals (zs.map V.str) us ∧ ∀ (K : PySem.W.Frag) (L : Addr → Prop) (H : Hp), DVs K L H (zs.map V.str) (zs.map PyData.str)
  | [], [], _ => ⟨.nil, fun _ _ _ => .nil⟩
  | .str x t :: r, z :: zs, h => by
    obtain ⟨h1, h2⟩ := He.ba (show (decide (x = z) && (decide (z.length ≤ 1000) && strsAre r zs)) = true from h)
    obtain ⟨h3, h4⟩ := He.ba h2
    obtain ⟨a, b⟩ := strsAre_ok h4
    have e := of_decide_eq_true h1
    subst e
    have hl := of_decide_eq_true h3
    exact ⟨.cons ⟨t, rfl⟩ a, fun K L H => .cons (.str x (by rw [sizeLine_eq]; omega)) (b K L H)⟩
def tupS (K : PySem.W.Frag) (zs : List Str) : Value → Bool
  | .ref a => match K.lookup a with
    | some o => decide (o.cls = .type "tuple") && (match o.data with
      | .seq its _ => strsAre its.toList zs && decide (its.size ≤ 1000)
      | _ => false)
    | none => false
  | _ => false
theorem tupS_ok {K : PySem.W.Frag} {zs : List Str} {u : Value} (h : tupS K zs u = true) : ∃ a, u = .ref a ∧ SqT K (fun _ => none) a (zs.map V.str) ∧ ∀ (L : Addr → Prop) (H : Hp), DVs K L H (zs.map V.str) (zs.map PyData.str) := by
  unfold tupS at h
  split at h
  · rename_i a
    split at h
    · rename_i o e
      obtain ⟨h1, h2⟩ := He.ba h
      split at h2
      · rename_i its n e2
        obtain ⟨h3, h4⟩ := He.ba h2
        obtain ⟨v, d⟩ := strsAre_ok h3
        have hs := of_decide_eq_true h4
        exact ⟨a, rfl, .inr ⟨o, its, n, e, of_decide_eq_true h1, e2, by rw [sizeLine_eq]; omega, v⟩, fun L H => d K L H⟩
      · cases h2
    · cases h
  · cases h
def tabT (kvs : List (Str × List Str)) (z : Str) : Option PyData := (kvs.find? fun p => decide (p.1 = z)).map fun p => .tuple (p.2.map PyData.str)
def tabB (K : PySem.W.Frag) (d : Addr) (kvs : List (Str × List Str)) : Bool := kvs.all fun p => match PySem.W.nsIn K d p.1 with
  | some (some u) => tupS K p.2 u
  | _ => false
theorem keyOf_mem {P : Params} {l : List DictEntry} {ks : List Str} (h : l.map He.keyOf = He.keysIn P ks) {e : DictEntry} (m : e ∈ l) : ∃ x t, e.key = .str x t ∧ x ∈ ks := by
  have h1 : He.keyOf e ∈ He.keysIn P ks := by rw [← h]; exact List.mem_map.mpr ⟨e, m, rfl⟩
  obtain ⟨k, hk, e2⟩ := List.mem_map.mp h1
  unfold He.keyOf at e2
  split at e2
  · rename_i x t q
    have := (Prod.mk.inj (Option.some.inj e2)).1
    exact ⟨x, t, q, by rw [← this]; exact hk⟩
  · cases e2
theorem ktab_of {K : PySem.W.Frag} {w : World} {d : Addr} {kvs : List (Str × List Str)} (h : He.dicW K d = some (He.keysIn w.params (kvs.map (·.1)))) (b : tabB K d kvs = true) : KTab K w d (tabT kvs) := by
  obtain ⟨es, n, kd⟩ := He.dicW_ok h
  have hm : es.toList.map He.keyOf = He.keysIn w.params (kvs.map (·.1)) := by
    unfold He.dicW at h
    rw [kd.at_] at h
    dsimp only at h
    rw [kd.low] at h
    exact Option.some.inj h
  refine ⟨⟨es, n, kd⟩, fun z => ?_⟩
  cases e : kvs.find? fun p => decide (p.1 = z) with
  | some p =>
    have hp : p ∈ kvs := List.mem_of_find?_eq_some e
    have hz : p.1 = z := by have q := List.find?_some e; exact of_decide_eq_true q
    have h1 := List.all_eq_true.mp b p hp
    have eT : tabT kvs z = some (.tuple (p.2.map PyData.str)) := by unfold tabT; rw [e]; rfl
    split at h1
    · rename_i u eu
      rw [hz] at eu
      obtain ⟨a, rfl, sq, dv⟩ := tupS_ok h1
      refine ⟨_, eu, by rw [eT]; rfl, fun x hx => ?_⟩
      rw [eT] at hx
      cases hx
      exact ⟨.ref a, .ref a, rfl, rfl, fun L H => .tupK sq (dv L H)⟩
    · cases h1
  | none =>
    have eT : tabT kvs z = none := by unfold tabT; rw [e]; rfl
    have nz : ∀ p, p ∈ kvs → p.1 ≠ z := fun p hp q => by
      have := List.find?_eq_none.mp e p hp
      exact this (decide_eq_true q)
    have e1 : es.toList.find? (fun y => y.key.isStr z) = none := by
      rw [List.find?_eq_none]
      intro y hy
      obtain ⟨x, t, ek, hx⟩ := keyOf_mem hm hy
      obtain ⟨p, hp, rfl⟩ := List.mem_map.mp hx
      rw [ek]
      intro q
      have : p.1 = z := by simpa [Value.isStr] using q
      exact nz p hp this
    have e2 : es.toList.any (fun y => y.refKey) = false := by
      rw [List.any_eq_false]
      intro y hy
      obtain ⟨x, t, ek, hx⟩ := keyOf_mem hm hy
      simp [DictEntry.refKey, ek]
    refine ⟨none, ?_, by rw [eT]; rfl, fun x hx => by rw [eT] at hx; cases hx⟩
    unfold PySem.W.nsIn
    rw [kd.at_]
    dsimp only
    rw [e1]
    dsimp only
    rw [e2]
    rfl
end DL
namespace DL
open PySem PySem.Spec PyProof.Rows L2
/-! ### the law's call, no repr under way -/
theorem run_law {P : Program} {w : World} {K : PySem.W.Frag} {mg mb : Str → Option Value} {k : Nat} {fa a : Addr} {fd : FuncData} {x : Str} {sp : Sp} {s : Shared} {vs : List Value} {ns : List Int} (KX : K.In s.heap) (G : s.heap.Ns mainGlobals mg)
    (Gb : s.heap.Ns builtinsNs mb) (bb : ∀ y : Str, y ≠ "__name__" → mb y = bootBuiltins y) (lim : s.heap.NoLimit) (gz : s.gens = #[]) (ha : s.heap.get? a = some { cls := .type "list", data := .seq vs.toArray }) (hi : IntsAre vs ns) (hl : ns.length ≤ sizeLine)
    (hr : Room k callerA) (F : ∀ base : Heap, K.In base → base.Ns mainGlobals mg → FnG P w K mg base k fa fd [x] sp) (hb : ∀ (s : Shared) (u : Value), BindsTo s fd ⟨[u], []⟩ [(x, u)])
    (hsp : ∀ H : Hp, Only H → SqL K H a (ns.map V.int) → sp [.ref a] H (fun v H' => v = .bl true ∧ Same H H') fun _ _ _ => False) :
    codeAny (model P w) callerA (.call (.ref fa) ⟨[.ref a], []⟩) (fun r s' => r = .ok (.ret (.bool true)) ∧ OldK s.heap s'.heap ∧ s'.os = s.os ∧ AllBare s'.gens) s := by
  have go : ∀ H : Hp, (∀ b u, H b = some u → b = a ∧ K.lookup a = none ∧ u = .frz { cls := .type "list", data := .seq vs.toArray } (.lst (ns.map V.int))) → SqL K H a (ns.map V.int) →
      codeAny (model P w) callerA (.call (.ref fa) ⟨[.ref a], []⟩) (fun r s' => r = .ok (.ret (.bool true)) ∧ OldK s.heap s'.heap ∧ s'.os = s.os ∧ AllBare s'.gens) s := by
    intro H hH hS
    have none_of : ∀ b : Addr, ¬ (b = a ∧ K.lookup a = none) → H b = none := fun b nb => by
      cases e : H b with
      | none => rfl
      | some u => exact absurd ⟨(hH b u e).1, (hH b u e).2.1⟩ nb
    have dict_none : ∀ (b : Addr) (o : Obj) (es : Array DictEntry) (ep : Nat), s.heap.get? b = some o → o.data = .dict es ep → H b = none := fun b o es ep e d => none_of b fun z => by
      rw [z.1, ha] at e
      cases e
      cases d
    have keep_ns : ∀ {b : Addr} {m : Str → Option Value}, s.heap.Ns b m → (hidT s.heap H).Ns b m := fun {b m} z => by
      obtain ⟨o, es, ep, e, d, r⟩ := z
      exact ⟨o, es, ep, hidT_get e (dict_none b o es ep e d), d, r⟩
    have inB : K.In (hidT s.heap H) := fun b o e => hidT_get (KX b o e) (none_of b fun z => by rw [z.1, z.2] at e; cases e)
    obtain ⟨mc, c1, c2⟩ := lim
    have hok : HOk P w H s.heap := fun b u e => by
      obtain ⟨rfl, _, rfl⟩ := hH b u e
      exact ⟨ha, by rw [List.length_map]; exact hl, vs, _, vals_ints hi, ha⟩
    have e0 : Env0 P w K mg (hidT s.heap H) callerA [] s H := ⟨rfl, ⟨inB, keep_ns G, ⟨mb, keep_ns Gb, bb⟩, ⟨mc, keep_ns c1, c2⟩⟩, fun b o e => of_hidT e, Nat.le_of_eq (hidT_size _ _), trivial, (fun b z => absurd (show b ∈ ([] : List Addr) from z) (by simp)), hok, .of_eq gz⟩
    have only : Only H := fun b => by
      cases e : H b with
      | none => exact .inl rfl
      | some u => exact .inr ⟨_, _, by rw [(hH b u e).2.2]⟩
    refine codeAny_mono ((F _ inB (keep_ns G)).run callerA rfl hr [] s H ⟨[.ref a], []⟩ [.ref a] [.ref a] _ _ e0 (hb s (.ref a)) (.cons rfl .nil) (hsp H only hS)) fun r s' z => ?_
    match r, z with
    | .ok (.ret u), z =>
      obtain ⟨v, H', os, bare, un, hok', rv, ⟨rfl, sm⟩⟩ := z
      cases (show u = Value.bool true from rv)
      refine ⟨rfl, OldK.of_keep fun b o e => ?_, os, bare⟩
      cases q : H b with
      | none => exact un.keep b o e q (by intro z; cases z) (by intro z; cases z)
      | some u =>
        obtain ⟨rfl, _, rfl⟩ := hH b u q
        rw [ha] at e
        cases e
        exact (hok' b _ (sm _ _ q)).1
    | .ok .next, z => exact z.elim
    | .ok .brk, z => exact z.elim
    | .ok .cont, z => exact z.elim
    | .error _, z => exact z.elim
  cases hk : K.lookup a with
  | none =>
    refine go (fun b => if b = a then some (.frz { cls := .type "list", data := .seq vs.toArray } (.lst (ns.map V.int))) else none) (fun b u e => ?_) (.inl (.inr ⟨_, if_pos rfl⟩))
    by_cases hba : b = a
    · have e' := (if_pos hba).symm.trans e
      exact ⟨hba, hk, (Option.some.inj e').symm⟩
    · exact absurd ((if_neg hba).symm.trans e) (by simp)
  | some o =>
    have e := (KX a o hk).symm.trans ha
    cases e
    exact go (fun _ => none) (fun b u e => by cases e) (.inr ⟨_, vs.toArray, _, hk, rfl, rfl, rfl, by rw [List.size_toArray, hi.length]; exact hl, by simpa using vals_ints hi⟩)
theorem walk_ofX {l : PySem.W.OpenLaw} {n k : Nat} {q : Program} {loose : List Str} {XP : (Str → Option Value) → Heap → Prop} {YP : World → Heap → Prop} {d : DefRec} {x : Str} {sp : PySem.W.Frag → Sp} (hn : l.most = some n) (hn2 : n ≤ sizeLine)
    (hdf : d.params.defaults = []) (hr : Room k callerA)
    (F : ∀ (w : World) (mg : Str → Option Value) (fa : Addr) (h : Heap), YP w h → h.Ns mainGlobals mg → mg d.name = some (.ref fa) → ∃ (K : PySem.W.Frag) (fd : FuncData), K.In h ∧
      (∀ (s : Shared) (u : Value), BindsTo s fd ⟨[u], []⟩ [(x, u)]) ∧ ∀ base : Heap, K.In base → base.Ns mainGlobals mg → FnG l.prog w K mg base k fa fd [x] (sp K))
    (hsp : ∀ (K : PySem.W.Frag) (H : Hp) (a : Addr) (ns : List Int), ns.length ≤ n → Only H → SqL K H a (ns.map V.int) → sp K [.ref a] H (fun v H' => v = .bl true ∧ Same H H') fun _ _ _ => False) :
    PySem.W.WalkO q loose XP YP l.row.toRowW d [] (fun f vs => PySem.call f vs) := by
  refine Att.attach_call hn hdf fun w s₀ s₁ mg mb fa o pm cd doc a vs ns G Y ho hd hcd hmg hobj hints hlen hg => ?_
  obtain ⟨K, fd, KX, hb, hF⟩ := F w mg fa _ Y G.T.g hmg
  exact run_law KX G.T.g G.T.b G.T.builtins G.T.nolimit hg hobj hints (Nat.le_trans hlen hn2) hr hF hb fun H hO hS => hsp K H a ns hlen hO hS
end DL
/-! law k91: what the top leaves -/
namespace K61
open PySem PySem.Spec PyProof.Rows L2 DL
def dOf (x : Str) (st : Stmt) : He.DefD := ⟨(x, none), x, x, defArgs st, defBody st, defScope st, [], []⟩
def defs : List He.DefD := [
  dOf "is_integer" (top 7),
  dOf "is_count" (top 8),
  dOf "is_name" (top 9),
  dOf "is_label" (top 10),
  dOf "label_text" (top 11),
  dOf "count_in" (top 12),
  dOf "label_in" (top 13),
  dOf "is_kind" (top 20),
  dOf "is_expression" (top 21),
  dOf "is_function" (top 22),
  dOf "has_form" (top 23),
  dOf "is_part" (top 24),
  dOf "inner_parts" (top 25),
  dOf "count_of" (top 26),
  dOf "expression_text" (top 32),
  dOf "text_of" (top 33),
  dOf "function_text" (top 34),
  dOf "kind_text" (top 35),
  dOf "read_expression" (top 36),
  dOf "read_function" (top 37),
  dOf "expression_in" (top 38),
  dOf "function_in" (top 39),
  dOf "words_from_behind" (top 40),
  dOf "take_word" (top 41),
  dOf "take_mark" (top 42),
  dOf "take_known" (top 43),
  dOf "take_function" (top 44),
  dOf "take_expression" (top 45),
  dOf "take_part" (top 46),
  dOf "take_label" (top 47),
  dOf "kind_in_text" (top 48),
  dOf "number_in" (top 49),
  dOf "_law_rng" (top 51),
  dOf "_law_draw" (top 52),
  dOf "_law_choice" (top 53),
  dOf "_law_name" (top 54),
  dOf "_law_number" (top 55),
  dOf "_law_any_label" (top 56),
  dOf "_law_any_term" (top 57),
  dOf "_law_any_kind" (top 58),
  dOf "_law_any_work" (top 59),
  dOf "_law_label_text" (top 60),
  dOf "_law_term_text" (top 61),
  dOf "_law_kind_text" (top 62),
  dOf "_law_work_text" (top 63),
  dOf "_law_worded" (top 64),
  dOf "_law_term_right" (top 65),
  dOf "_law_work_right" (top 66),
  dOf "_law_right" (top 67),
  dOf "law" (top 68)]
def gloN : List Str := [("is_integer" : Str), ("is_count" : Str), ("is_name" : Str), ("is_label" : Str), ("label_text" : Str), ("count_in" : Str), ("label_in" : Str), ("is_kind" : Str), ("is_expression" : Str), ("is_function" : Str), ("has_form" : Str), ("is_part" : Str)] ++ ([("inner_parts" : Str), ("count_of" : Str), ("expression_text" : Str), ("text_of" : Str), ("function_text" : Str), ("kind_text" : Str), ("read_expression" : Str), ("read_function" : Str), ("expression_in" : Str), ("function_in" : Str), ("words_from_behind" : Str), ("take_word" : Str)] ++ ([("take_mark" : Str), ("take_known" : Str), ("take_function" : Str), ("take_expression" : Str), ("take_part" : Str), ("take_label" : Str), ("kind_in_text" : Str), ("number_in" : Str), ("_law_rng" : Str), ("_law_draw" : Str), ("_law_choice" : Str), ("_law_name" : Str)] ++ ([("_law_number" : Str), ("_law_any_label" : Str), ("_law_any_term" : Str), ("_law_any_kind" : Str), ("_law_any_work" : Str), ("_law_label_text" : Str), ("_law_term_text" : Str), ("_law_kind_text" : Str), ("_law_work_text" : Str), ("_law_worded" : Str), ("_law_term_right" : Str), ("_law_work_right" : Str)] ++ ([("_law_right" : Str), ("law" : Str)]))))
def cns : List He.Fa := [.int "MOST_LETTERS" 8, .str "DIGITS" "0123456789", .str "OWN" "own", .int "MOST_DEPTH" 5, .int "MOST_PARTS" 30, .int "MOST_PARAMETERS" 4, .str "BEGIN" "(", .str "END" ")", .str "ARROW" "->", .str "NO_LABEL" "-"]
def kvF : List (Str × List Str) := [("make", ["number"]), ("param", ["count"]), ("plus", ["expression", "number"]), ("call", ["label", "name", "arguments"]), ("do", ["expression", "expression"]), ("if", ["expression", "expression", "expression"])]
theorem forms_find (z : Str) : formsT z = (kvF.find? fun p => decide (p.1 = z)).map (·.2) := by
  unfold formsT kvF
  by_cases h1 : z = "make"
  · subst h1; decide +kernel
  by_cases h2 : z = "param"
  · subst h2; decide +kernel
  by_cases h3 : z = "plus"
  · subst h3; decide +kernel
  by_cases h4 : z = "call"
  · subst h4; decide +kernel
  by_cases h5 : z = "do"
  · subst h5; decide +kernel
  by_cases h6 : z = "if"
  · subst h6; decide +kernel
  rw [if_neg h1, if_neg h2, if_neg h3, if_neg h4, if_neg h5, if_neg h6]
  simp [List.find?_cons, Ne.symm h1, Ne.symm h2, Ne.symm h3, Ne.symm h4, Ne.symm h5, Ne.symm h6]
theorem tab_forms : T_FORMS = tabT kvF := by
  funext z
  unfold T_FORMS tabT
  rw [forms_find, Option.map_map]
  rfl
def sysOk (K : PySem.W.Frag) : Bool := match K.lookup sysModules with
  | some o => decide (o.cls = .type "dict")
  | none => false
def apartOk (K : PySem.W.Frag) : Bool := decide ([He.ga K "label_in", He.ga K "kind_in_text", He.ga K "number_in", He.ga K "count_in"].Nodup)
def mkOk (K : PySem.W.Frag) (n : Nat) (x z : Str) : Bool := match PySem.W.nsIn K mainGlobals x with
  | some (some (.str y t)) => decide (y = z) && (decide (t ≠ 0) && decide (t < n))
  | _ => false
def tkOk (K : PySem.W.Frag) (n : Nat) : Bool := mkOk K n "BEGIN" bOp && mkOk K n "END" bCl
def allOk (K : PySem.W.Frag) : Bool := (defs.all fun d => d.ok K) && ((bltNames.all fun x => He.eqO (PySem.W.nsIn K mainGlobals x) (some none)) && ((gloN.all fun x => He.eqO (PySem.W.nsIn K mainGlobals x) (some (some (.ref (He.ga K x))))) &&
  ((cns.all fun c => c.ok K) && (He.eqO (PySem.W.nsIn K mainGlobals "FORMS") (some (some (.ref (He.ga K "FORMS")))) && (tabB K (He.ga K "FORMS") kvF && (apartOk K && sysOk K))))))
theorem toFun {K : PySem.W.Frag} {x q : Str} {st : Stmt} {f : Addr} {fd : FuncData} (F : FunD K x q (defArgs st) (defBody st) (defScope st) [] [] f fd) : Fun K x q st f fd := by
  obtain ⟨oc, od, dV, kV, doc, pm, an, cdv, ct, osl, rfl, lk, hcd, hD, _⟩ := F.ex
  rcases hD with ⟨_, rfl⟩ | ⟨n, _⟩
  · exact ⟨⟨oc, od, kV, doc, pm, an, cdv, ct, osl, rfl, lk, hcd⟩, F.kp⟩
  · exact absurd rfl n
theorem funOf {K : PySem.W.Frag} (e : (defs.map fun d => He.fnW K d.at_) = defs.map He.DefD.val) (c : (defs.all fun d => d.ok K) = true) {d : He.DefD} (m : d ∈ defs) : ∃ fd, FunD K d.name d.qual d.params d.body d.scope (d.dvs K) (d.kws K) (He.fAd K d.at_) fd :=
  He.DefD.funD (List.map_inj_left.mp e d m) (List.all_eq_true.mp c d m)
theorem mk_ok {K : PySem.W.Frag} {h : Heap} {mg : Str → Option Value} {n : Nat} {x z : Str} (X : K.In h) (G : h.Ns mainGlobals mg) (e : mkOk K n x z = true) : ∃ t, mg x = some (.str z t) ∧ t ≠ 0 ∧ t < n := by
  unfold mkOk at e
  split at e
  · rename_i y t e2
    obtain ⟨h1, h2⟩ := He.ba e
    obtain ⟨h2, h3⟩ := He.ba h2
    have h1 := of_decide_eq_true h1
    subst h1
    exact ⟨t, PySem.W.mg_of X G e2, of_decide_eq_true h2, of_decide_eq_true h3⟩
  · cases e
/-- the readers of one word, by their addresses -/
def rdT (a b c d : Addr) : Addr → Option WD := fun f => if f = a then some (WSt lbD) else if f = b then some WKin else if f = c then some WNin else if f = d then some WCt else none
section
variable {P : Program} {w : World} {K : PySem.W.Frag} {mg : Str → Option Value} {base h : Heap}
theorem held1 {x : Str} {ps : List Str} {j : Nat} {W : WD} {a : Addr} (O : Own P w K mg base j x ps W) (hj : j ≤ 3) (m : mg x = some (.ref a)) : HeldD P w K mg base 3 a W := by
  obtain ⟨f', fd, F, hm, hk, hb, _⟩ := (O.mono hj).ex
  rw [m] at hm
  cases hm
  exact ⟨fd, ps, F, hk, hb⟩
theorem rd_held {a b c d : Addr} (h1 : HeldD P w K mg base 3 a (WSt lbD)) (h2 : HeldD P w K mg base 3 b WKin) (h3 : HeldD P w K mg base 3 c WNin) (h4 : HeldD P w K mg base 3 d WCt) : ∀ f W, rdT a b c d f = some W → HeldD P w K mg base 3 f W := fun f W e => by
  unfold rdT at e
  split at e
  · rename_i z; cases e; rw [z]; exact h1
  · split at e
    · rename_i z; cases e; rw [z]; exact h2
    · split at e
      · rename_i z; cases e; rw [z]; exact h3
      · split at e
        · rename_i z; cases e; rw [z]; exact h4
        · cases e
/-- every def as the top has left it -/
structure Tops (K : PySem.W.Frag) (mg : Str → Option Value) : Prop where
  d_is_integer : DefAt K mg "is_integer" (top 7) ["value"]
  d_is_count : DefAt K mg "is_count" (top 8) ["value"]
  d_is_name : DefAt K mg "is_name" (top 9) ["value"]
  d_is_label : DefAt K mg "is_label" (top 10) ["value"]
  d_label_text : DefAt K mg "label_text" (top 11) ["label"]
  d_count_in : DefAt K mg "count_in" (top 12) ["text"]
  d_label_in : DefAt K mg "label_in" (top 13) ["text"]
  d_is_kind : DefAt K mg "is_kind" (top 20) ["value"]
  d_is_expression : DefAt K mg "is_expression" (top 21) ["value"]
  d_is_function : DefAt K mg "is_function" (top 22) ["value"]
  d_has_form : DefAt K mg "has_form" (top 23) ["value", "depth"]
  d_is_part : DefAt K mg "is_part" (top 24) ["value", "form", "depth"]
  d_inner_parts : DefAt K mg "inner_parts" (top 25) ["expression"]
  d_count_of : DefAt K mg "count_of" (top 26) ["expression"]
  d_expression_text : DefAt K mg "expression_text" (top 32) ["expression"]
  d_text_of : DefAt K mg "text_of" (top 33) ["expression"]
  d_function_text : DefAt K mg "function_text" (top 34) ["function"]
  d_kind_text : DefAt K mg "kind_text" (top 35) ["kind"]
  d_read_expression : DefAt K mg "read_expression" (top 36) ["text"]
  d_read_function : DefAt K mg "read_function" (top 37) ["text"]
  d_expression_in : DefAt K mg "expression_in" (top 38) ["text"]
  d_function_in : DefAt K mg "function_in" (top 39) ["text"]
  d_words_from_behind : DefAt K mg "words_from_behind" (top 40) ["text"]
  d_take_word : DefAt K mg "take_word" (top 41) ["left"]
  d_take_mark : DefAt K mg "take_mark" (top 42) ["left", "mark"]
  d_take_known : DefAt K mg "take_known" (top 43) ["left", "read"]
  d_take_function : DefAt K mg "take_function" (top 44) ["left"]
  d_take_expression : DefAt K mg "take_expression" (top 45) ["left", "depth"]
  d_take_part : DefAt K mg "take_part" (top 46) ["left", "form", "depth"]
  d_take_label : DefAt K mg "take_label" (top 47) ["left"]
  d_kind_in_text : DefAt K mg "kind_in_text" (top 48) ["text"]
  d_number_in : DefAt K mg "number_in" (top 49) ["text"]
  d__law_rng : DefAt K mg "_law_rng" (top 51) ["_law_script", "_law_k"]
  d__law_draw : DefAt K mg "_law_draw" (top 52) ["_law_rng_here", "_law_many"]
  d__law_choice : DefAt K mg "_law_choice" (top 53) ["_law_rng_here", "_law_some"]
  d__law_name : DefAt K mg "_law_name" (top 54) ["_law_rng_here", "_law_used"]
  d__law_number : DefAt K mg "_law_number" (top 55) ["_law_rng_here"]
  d__law_any_label : DefAt K mg "_law_any_label" (top 56) ["_law_rng_here"]
  d__law_any_term : DefAt K mg "_law_any_term" (top 57) ["_law_rng_here", "_law_depth", "_law_left"]
  d__law_any_kind : DefAt K mg "_law_any_kind" (top 58) ["_law_rng_here"]
  d__law_any_work : DefAt K mg "_law_any_work" (top 59) ["_law_rng_here"]
  d__law_label_text : DefAt K mg "_law_label_text" (top 60) ["_law_label"]
  d__law_term_text : DefAt K mg "_law_term_text" (top 61) ["_law_term"]
  d__law_kind_text : DefAt K mg "_law_kind_text" (top 62) ["_law_kind"]
  d__law_work_text : DefAt K mg "_law_work_text" (top 63) ["_law_work"]
  d__law_worded : DefAt K mg "_law_worded" (top 64) ["_law_rng_here", "_law_work"]
  d__law_term_right : DefAt K mg "_law_term_right" (top 65) ["_law_term"]
  d__law_work_right : DefAt K mg "_law_work_right" (top 66) ["_law_work"]
  d__law_right : DefAt K mg "_law_right" (top 67) ["_law_rng_here"]
  d_law : DefAt K mg "law" (top 68) ["_law_script"]
theorem tops_ok (X : K.In h) (G : h.Ns mainGlobals mg) (e : (defs.map fun d => He.fnW K d.at_) = defs.map He.DefD.val) (c : (defs.all fun d => d.ok K) = true) (glo : ∀ x, x ∈ gloN → mg x = some (.ref (He.ga K x))) : Tops K mg := by
  constructor
  · obtain ⟨fd, F⟩ := funOf e c (d := dOf "is_integer" (top 7)) (List.mem_of_getElem? (i := 0) rfl)
    have F : Fun K "is_integer" "is_integer" (top 7) (He.fAd K ("is_integer", none)) fd := toFun (st := top 7) F
    have b := F.binds (ps := ["value"]) fun _ _ _ _ _ _ us hl => match us, hl with | [_], _ => rfl
    refine ⟨_, fd, F, glo "is_integer" (List.mem_of_getElem? (i := 0) rfl), F.kp, b, ?_⟩
    obtain ⟨oc, od, kV, doc, pm, an, cdv, ct, osl, rfl, lk, hcd⟩ := F.ex
    exact fun s us hl => match us, hl with | [_], _ => .of_eq rfl
  · obtain ⟨fd, F⟩ := funOf e c (d := dOf "is_count" (top 8)) (List.mem_of_getElem? (i := 1) rfl)
    have F : Fun K "is_count" "is_count" (top 8) (He.fAd K ("is_count", none)) fd := toFun (st := top 8) F
    have b := F.binds (ps := ["value"]) fun _ _ _ _ _ _ us hl => match us, hl with | [_], _ => rfl
    refine ⟨_, fd, F, glo "is_count" (List.mem_of_getElem? (i := 1) rfl), F.kp, b, ?_⟩
    obtain ⟨oc, od, kV, doc, pm, an, cdv, ct, osl, rfl, lk, hcd⟩ := F.ex
    exact fun s us hl => match us, hl with | [_], _ => .of_eq rfl
  · obtain ⟨fd, F⟩ := funOf e c (d := dOf "is_name" (top 9)) (List.mem_of_getElem? (i := 2) rfl)
    have F : Fun K "is_name" "is_name" (top 9) (He.fAd K ("is_name", none)) fd := toFun (st := top 9) F
    have b := F.binds (ps := ["value"]) fun _ _ _ _ _ _ us hl => match us, hl with | [_], _ => rfl
    refine ⟨_, fd, F, glo "is_name" (List.mem_of_getElem? (i := 2) rfl), F.kp, b, ?_⟩
    obtain ⟨oc, od, kV, doc, pm, an, cdv, ct, osl, rfl, lk, hcd⟩ := F.ex
    exact fun s us hl => match us, hl with | [_], _ => .of_eq rfl
  · obtain ⟨fd, F⟩ := funOf e c (d := dOf "is_label" (top 10)) (List.mem_of_getElem? (i := 3) rfl)
    have F : Fun K "is_label" "is_label" (top 10) (He.fAd K ("is_label", none)) fd := toFun (st := top 10) F
    have b := F.binds (ps := ["value"]) fun _ _ _ _ _ _ us hl => match us, hl with | [_], _ => rfl
    refine ⟨_, fd, F, glo "is_label" (List.mem_of_getElem? (i := 3) rfl), F.kp, b, ?_⟩
    obtain ⟨oc, od, kV, doc, pm, an, cdv, ct, osl, rfl, lk, hcd⟩ := F.ex
    exact fun s us hl => match us, hl with | [_], _ => .of_eq rfl
  · obtain ⟨fd, F⟩ := funOf e c (d := dOf "label_text" (top 11)) (List.mem_of_getElem? (i := 4) rfl)
    have F : Fun K "label_text" "label_text" (top 11) (He.fAd K ("label_text", none)) fd := toFun (st := top 11) F
    have b := F.binds (ps := ["label"]) fun _ _ _ _ _ _ us hl => match us, hl with | [_], _ => rfl
    refine ⟨_, fd, F, glo "label_text" (List.mem_of_getElem? (i := 4) rfl), F.kp, b, ?_⟩
    obtain ⟨oc, od, kV, doc, pm, an, cdv, ct, osl, rfl, lk, hcd⟩ := F.ex
    exact fun s us hl => match us, hl with | [_], _ => .of_eq rfl
  · obtain ⟨fd, F⟩ := funOf e c (d := dOf "count_in" (top 12)) (List.mem_of_getElem? (i := 5) rfl)
    have F : Fun K "count_in" "count_in" (top 12) (He.fAd K ("count_in", none)) fd := toFun (st := top 12) F
    have b := F.binds (ps := ["text"]) fun _ _ _ _ _ _ us hl => match us, hl with | [_], _ => rfl
    refine ⟨_, fd, F, glo "count_in" (List.mem_of_getElem? (i := 5) rfl), F.kp, b, ?_⟩
    obtain ⟨oc, od, kV, doc, pm, an, cdv, ct, osl, rfl, lk, hcd⟩ := F.ex
    exact fun s us hl => match us, hl with | [_], _ => .of_eq rfl
  · obtain ⟨fd, F⟩ := funOf e c (d := dOf "label_in" (top 13)) (List.mem_of_getElem? (i := 6) rfl)
    have F : Fun K "label_in" "label_in" (top 13) (He.fAd K ("label_in", none)) fd := toFun (st := top 13) F
    have b := F.binds (ps := ["text"]) fun _ _ _ _ _ _ us hl => match us, hl with | [_], _ => rfl
    refine ⟨_, fd, F, glo "label_in" (List.mem_of_getElem? (i := 6) rfl), F.kp, b, ?_⟩
    obtain ⟨oc, od, kV, doc, pm, an, cdv, ct, osl, rfl, lk, hcd⟩ := F.ex
    exact fun s us hl => match us, hl with | [_], _ => .of_eq rfl
  · obtain ⟨fd, F⟩ := funOf e c (d := dOf "is_kind" (top 20)) (List.mem_of_getElem? (i := 7) rfl)
    have F : Fun K "is_kind" "is_kind" (top 20) (He.fAd K ("is_kind", none)) fd := toFun (st := top 20) F
    have b := F.binds (ps := ["value"]) fun _ _ _ _ _ _ us hl => match us, hl with | [_], _ => rfl
    refine ⟨_, fd, F, glo "is_kind" (List.mem_of_getElem? (i := 7) rfl), F.kp, b, ?_⟩
    obtain ⟨oc, od, kV, doc, pm, an, cdv, ct, osl, rfl, lk, hcd⟩ := F.ex
    exact fun s us hl => match us, hl with | [_], _ => .of_eq rfl
  · obtain ⟨fd, F⟩ := funOf e c (d := dOf "is_expression" (top 21)) (List.mem_of_getElem? (i := 8) rfl)
    have F : Fun K "is_expression" "is_expression" (top 21) (He.fAd K ("is_expression", none)) fd := toFun (st := top 21) F
    have b := F.binds (ps := ["value"]) fun _ _ _ _ _ _ us hl => match us, hl with | [_], _ => rfl
    refine ⟨_, fd, F, glo "is_expression" (List.mem_of_getElem? (i := 8) rfl), F.kp, b, ?_⟩
    obtain ⟨oc, od, kV, doc, pm, an, cdv, ct, osl, rfl, lk, hcd⟩ := F.ex
    exact fun s us hl => match us, hl with | [_], _ => .of_eq rfl
  · obtain ⟨fd, F⟩ := funOf e c (d := dOf "is_function" (top 22)) (List.mem_of_getElem? (i := 9) rfl)
    have F : Fun K "is_function" "is_function" (top 22) (He.fAd K ("is_function", none)) fd := toFun (st := top 22) F
    have b := F.binds (ps := ["value"]) fun _ _ _ _ _ _ us hl => match us, hl with | [_], _ => rfl
    refine ⟨_, fd, F, glo "is_function" (List.mem_of_getElem? (i := 9) rfl), F.kp, b, ?_⟩
    obtain ⟨oc, od, kV, doc, pm, an, cdv, ct, osl, rfl, lk, hcd⟩ := F.ex
    exact fun s us hl => match us, hl with | [_], _ => .of_eq rfl
  · obtain ⟨fd, F⟩ := funOf e c (d := dOf "has_form" (top 23)) (List.mem_of_getElem? (i := 10) rfl)
    have F : Fun K "has_form" "has_form" (top 23) (He.fAd K ("has_form", none)) fd := toFun (st := top 23) F
    have b := F.binds (ps := ["value", "depth"]) fun _ _ _ _ _ _ us hl => match us, hl with | [_, _], _ => rfl
    refine ⟨_, fd, F, glo "has_form" (List.mem_of_getElem? (i := 10) rfl), F.kp, b, ?_⟩
    obtain ⟨oc, od, kV, doc, pm, an, cdv, ct, osl, rfl, lk, hcd⟩ := F.ex
    exact fun s us hl => match us, hl with | [_, _], _ => .of_eq rfl
  · obtain ⟨fd, F⟩ := funOf e c (d := dOf "is_part" (top 24)) (List.mem_of_getElem? (i := 11) rfl)
    have F : Fun K "is_part" "is_part" (top 24) (He.fAd K ("is_part", none)) fd := toFun (st := top 24) F
    have b := F.binds (ps := ["value", "form", "depth"]) fun _ _ _ _ _ _ us hl => match us, hl with | [_, _, _], _ => rfl
    refine ⟨_, fd, F, glo "is_part" (List.mem_of_getElem? (i := 11) rfl), F.kp, b, ?_⟩
    obtain ⟨oc, od, kV, doc, pm, an, cdv, ct, osl, rfl, lk, hcd⟩ := F.ex
    exact fun s us hl => match us, hl with | [_, _, _], _ => .of_eq rfl
  · obtain ⟨fd, F⟩ := funOf e c (d := dOf "inner_parts" (top 25)) (List.mem_of_getElem? (i := 12) rfl)
    have F : Fun K "inner_parts" "inner_parts" (top 25) (He.fAd K ("inner_parts", none)) fd := toFun (st := top 25) F
    have b := F.binds (ps := ["expression"]) fun _ _ _ _ _ _ us hl => match us, hl with | [_], _ => rfl
    refine ⟨_, fd, F, glo "inner_parts" (List.mem_of_getElem? (i := 12) rfl), F.kp, b, ?_⟩
    obtain ⟨oc, od, kV, doc, pm, an, cdv, ct, osl, rfl, lk, hcd⟩ := F.ex
    exact fun s us hl => match us, hl with | [_], _ => .of_eq rfl
  · obtain ⟨fd, F⟩ := funOf e c (d := dOf "count_of" (top 26)) (List.mem_of_getElem? (i := 13) rfl)
    have F : Fun K "count_of" "count_of" (top 26) (He.fAd K ("count_of", none)) fd := toFun (st := top 26) F
    have b := F.binds (ps := ["expression"]) fun _ _ _ _ _ _ us hl => match us, hl with | [_], _ => rfl
    refine ⟨_, fd, F, glo "count_of" (List.mem_of_getElem? (i := 13) rfl), F.kp, b, ?_⟩
    obtain ⟨oc, od, kV, doc, pm, an, cdv, ct, osl, rfl, lk, hcd⟩ := F.ex
    exact fun s us hl => match us, hl with | [_], _ => .of_eq rfl
  · obtain ⟨fd, F⟩ := funOf e c (d := dOf "expression_text" (top 32)) (List.mem_of_getElem? (i := 14) rfl)
    have F : Fun K "expression_text" "expression_text" (top 32) (He.fAd K ("expression_text", none)) fd := toFun (st := top 32) F
    have b := F.binds (ps := ["expression"]) fun _ _ _ _ _ _ us hl => match us, hl with | [_], _ => rfl
    refine ⟨_, fd, F, glo "expression_text" (List.mem_of_getElem? (i := 14) rfl), F.kp, b, ?_⟩
    obtain ⟨oc, od, kV, doc, pm, an, cdv, ct, osl, rfl, lk, hcd⟩ := F.ex
    exact fun s us hl => match us, hl with | [_], _ => .of_eq rfl
  · obtain ⟨fd, F⟩ := funOf e c (d := dOf "text_of" (top 33)) (List.mem_of_getElem? (i := 15) rfl)
    have F : Fun K "text_of" "text_of" (top 33) (He.fAd K ("text_of", none)) fd := toFun (st := top 33) F
    have b := F.binds (ps := ["expression"]) fun _ _ _ _ _ _ us hl => match us, hl with | [_], _ => rfl
    refine ⟨_, fd, F, glo "text_of" (List.mem_of_getElem? (i := 15) rfl), F.kp, b, ?_⟩
    obtain ⟨oc, od, kV, doc, pm, an, cdv, ct, osl, rfl, lk, hcd⟩ := F.ex
    exact fun s us hl => match us, hl with | [_], _ => .of_eq rfl
  · obtain ⟨fd, F⟩ := funOf e c (d := dOf "function_text" (top 34)) (List.mem_of_getElem? (i := 16) rfl)
    have F : Fun K "function_text" "function_text" (top 34) (He.fAd K ("function_text", none)) fd := toFun (st := top 34) F
    have b := F.binds (ps := ["function"]) fun _ _ _ _ _ _ us hl => match us, hl with | [_], _ => rfl
    refine ⟨_, fd, F, glo "function_text" (List.mem_of_getElem? (i := 16) rfl), F.kp, b, ?_⟩
    obtain ⟨oc, od, kV, doc, pm, an, cdv, ct, osl, rfl, lk, hcd⟩ := F.ex
    exact fun s us hl => match us, hl with | [_], _ => .of_eq rfl
  · obtain ⟨fd, F⟩ := funOf e c (d := dOf "kind_text" (top 35)) (List.mem_of_getElem? (i := 17) rfl)
    have F : Fun K "kind_text" "kind_text" (top 35) (He.fAd K ("kind_text", none)) fd := toFun (st := top 35) F
    have b := F.binds (ps := ["kind"]) fun _ _ _ _ _ _ us hl => match us, hl with | [_], _ => rfl
    refine ⟨_, fd, F, glo "kind_text" (List.mem_of_getElem? (i := 17) rfl), F.kp, b, ?_⟩
    obtain ⟨oc, od, kV, doc, pm, an, cdv, ct, osl, rfl, lk, hcd⟩ := F.ex
    exact fun s us hl => match us, hl with | [_], _ => .of_eq rfl
  · obtain ⟨fd, F⟩ := funOf e c (d := dOf "read_expression" (top 36)) (List.mem_of_getElem? (i := 18) rfl)
    have F : Fun K "read_expression" "read_expression" (top 36) (He.fAd K ("read_expression", none)) fd := toFun (st := top 36) F
    have b := F.binds (ps := ["text"]) fun _ _ _ _ _ _ us hl => match us, hl with | [_], _ => rfl
    refine ⟨_, fd, F, glo "read_expression" (List.mem_of_getElem? (i := 18) rfl), F.kp, b, ?_⟩
    obtain ⟨oc, od, kV, doc, pm, an, cdv, ct, osl, rfl, lk, hcd⟩ := F.ex
    exact fun s us hl => match us, hl with | [_], _ => .of_eq rfl
  · obtain ⟨fd, F⟩ := funOf e c (d := dOf "read_function" (top 37)) (List.mem_of_getElem? (i := 19) rfl)
    have F : Fun K "read_function" "read_function" (top 37) (He.fAd K ("read_function", none)) fd := toFun (st := top 37) F
    have b := F.binds (ps := ["text"]) fun _ _ _ _ _ _ us hl => match us, hl with | [_], _ => rfl
    refine ⟨_, fd, F, glo "read_function" (List.mem_of_getElem? (i := 19) rfl), F.kp, b, ?_⟩
    obtain ⟨oc, od, kV, doc, pm, an, cdv, ct, osl, rfl, lk, hcd⟩ := F.ex
    exact fun s us hl => match us, hl with | [_], _ => .of_eq rfl
  · obtain ⟨fd, F⟩ := funOf e c (d := dOf "expression_in" (top 38)) (List.mem_of_getElem? (i := 20) rfl)
    have F : Fun K "expression_in" "expression_in" (top 38) (He.fAd K ("expression_in", none)) fd := toFun (st := top 38) F
    have b := F.binds (ps := ["text"]) fun _ _ _ _ _ _ us hl => match us, hl with | [_], _ => rfl
    refine ⟨_, fd, F, glo "expression_in" (List.mem_of_getElem? (i := 20) rfl), F.kp, b, ?_⟩
    obtain ⟨oc, od, kV, doc, pm, an, cdv, ct, osl, rfl, lk, hcd⟩ := F.ex
    exact fun s us hl => match us, hl with | [_], _ => .of_eq rfl
  · obtain ⟨fd, F⟩ := funOf e c (d := dOf "function_in" (top 39)) (List.mem_of_getElem? (i := 21) rfl)
    have F : Fun K "function_in" "function_in" (top 39) (He.fAd K ("function_in", none)) fd := toFun (st := top 39) F
    have b := F.binds (ps := ["text"]) fun _ _ _ _ _ _ us hl => match us, hl with | [_], _ => rfl
    refine ⟨_, fd, F, glo "function_in" (List.mem_of_getElem? (i := 21) rfl), F.kp, b, ?_⟩
    obtain ⟨oc, od, kV, doc, pm, an, cdv, ct, osl, rfl, lk, hcd⟩ := F.ex
    exact fun s us hl => match us, hl with | [_], _ => .of_eq rfl
  · obtain ⟨fd, F⟩ := funOf e c (d := dOf "words_from_behind" (top 40)) (List.mem_of_getElem? (i := 22) rfl)
    have F : Fun K "words_from_behind" "words_from_behind" (top 40) (He.fAd K ("words_from_behind", none)) fd := toFun (st := top 40) F
    have b := F.binds (ps := ["text"]) fun _ _ _ _ _ _ us hl => match us, hl with | [_], _ => rfl
    refine ⟨_, fd, F, glo "words_from_behind" (List.mem_of_getElem? (i := 22) rfl), F.kp, b, ?_⟩
    obtain ⟨oc, od, kV, doc, pm, an, cdv, ct, osl, rfl, lk, hcd⟩ := F.ex
    exact fun s us hl => match us, hl with | [_], _ => .of_eq rfl
  · obtain ⟨fd, F⟩ := funOf e c (d := dOf "take_word" (top 41)) (List.mem_of_getElem? (i := 23) rfl)
    have F : Fun K "take_word" "take_word" (top 41) (He.fAd K ("take_word", none)) fd := toFun (st := top 41) F
    have b := F.binds (ps := ["left"]) fun _ _ _ _ _ _ us hl => match us, hl with | [_], _ => rfl
    refine ⟨_, fd, F, glo "take_word" (List.mem_of_getElem? (i := 23) rfl), F.kp, b, ?_⟩
    obtain ⟨oc, od, kV, doc, pm, an, cdv, ct, osl, rfl, lk, hcd⟩ := F.ex
    exact fun s us hl => match us, hl with | [_], _ => .of_eq rfl
  · obtain ⟨fd, F⟩ := funOf e c (d := dOf "take_mark" (top 42)) (List.mem_of_getElem? (i := 24) rfl)
    have F : Fun K "take_mark" "take_mark" (top 42) (He.fAd K ("take_mark", none)) fd := toFun (st := top 42) F
    have b := F.binds (ps := ["left", "mark"]) fun _ _ _ _ _ _ us hl => match us, hl with | [_, _], _ => rfl
    refine ⟨_, fd, F, glo "take_mark" (List.mem_of_getElem? (i := 24) rfl), F.kp, b, ?_⟩
    obtain ⟨oc, od, kV, doc, pm, an, cdv, ct, osl, rfl, lk, hcd⟩ := F.ex
    exact fun s us hl => match us, hl with | [_, _], _ => .of_eq rfl
  · obtain ⟨fd, F⟩ := funOf e c (d := dOf "take_known" (top 43)) (List.mem_of_getElem? (i := 25) rfl)
    have F : Fun K "take_known" "take_known" (top 43) (He.fAd K ("take_known", none)) fd := toFun (st := top 43) F
    have b := F.binds (ps := ["left", "read"]) fun _ _ _ _ _ _ us hl => match us, hl with | [_, _], _ => rfl
    refine ⟨_, fd, F, glo "take_known" (List.mem_of_getElem? (i := 25) rfl), F.kp, b, ?_⟩
    obtain ⟨oc, od, kV, doc, pm, an, cdv, ct, osl, rfl, lk, hcd⟩ := F.ex
    exact fun s us hl => match us, hl with | [_, _], _ => .of_eq rfl
  · obtain ⟨fd, F⟩ := funOf e c (d := dOf "take_function" (top 44)) (List.mem_of_getElem? (i := 26) rfl)
    have F : Fun K "take_function" "take_function" (top 44) (He.fAd K ("take_function", none)) fd := toFun (st := top 44) F
    have b := F.binds (ps := ["left"]) fun _ _ _ _ _ _ us hl => match us, hl with | [_], _ => rfl
    refine ⟨_, fd, F, glo "take_function" (List.mem_of_getElem? (i := 26) rfl), F.kp, b, ?_⟩
    obtain ⟨oc, od, kV, doc, pm, an, cdv, ct, osl, rfl, lk, hcd⟩ := F.ex
    exact fun s us hl => match us, hl with | [_], _ => .of_eq rfl
  · obtain ⟨fd, F⟩ := funOf e c (d := dOf "take_expression" (top 45)) (List.mem_of_getElem? (i := 27) rfl)
    have F : Fun K "take_expression" "take_expression" (top 45) (He.fAd K ("take_expression", none)) fd := toFun (st := top 45) F
    have b := F.binds (ps := ["left", "depth"]) fun _ _ _ _ _ _ us hl => match us, hl with | [_, _], _ => rfl
    refine ⟨_, fd, F, glo "take_expression" (List.mem_of_getElem? (i := 27) rfl), F.kp, b, ?_⟩
    obtain ⟨oc, od, kV, doc, pm, an, cdv, ct, osl, rfl, lk, hcd⟩ := F.ex
    exact fun s us hl => match us, hl with | [_, _], _ => .of_eq rfl
  · obtain ⟨fd, F⟩ := funOf e c (d := dOf "take_part" (top 46)) (List.mem_of_getElem? (i := 28) rfl)
    have F : Fun K "take_part" "take_part" (top 46) (He.fAd K ("take_part", none)) fd := toFun (st := top 46) F
    have b := F.binds (ps := ["left", "form", "depth"]) fun _ _ _ _ _ _ us hl => match us, hl with | [_, _, _], _ => rfl
    refine ⟨_, fd, F, glo "take_part" (List.mem_of_getElem? (i := 28) rfl), F.kp, b, ?_⟩
    obtain ⟨oc, od, kV, doc, pm, an, cdv, ct, osl, rfl, lk, hcd⟩ := F.ex
    exact fun s us hl => match us, hl with | [_, _, _], _ => .of_eq rfl
  · obtain ⟨fd, F⟩ := funOf e c (d := dOf "take_label" (top 47)) (List.mem_of_getElem? (i := 29) rfl)
    have F : Fun K "take_label" "take_label" (top 47) (He.fAd K ("take_label", none)) fd := toFun (st := top 47) F
    have b := F.binds (ps := ["left"]) fun _ _ _ _ _ _ us hl => match us, hl with | [_], _ => rfl
    refine ⟨_, fd, F, glo "take_label" (List.mem_of_getElem? (i := 29) rfl), F.kp, b, ?_⟩
    obtain ⟨oc, od, kV, doc, pm, an, cdv, ct, osl, rfl, lk, hcd⟩ := F.ex
    exact fun s us hl => match us, hl with | [_], _ => .of_eq rfl
  · obtain ⟨fd, F⟩ := funOf e c (d := dOf "kind_in_text" (top 48)) (List.mem_of_getElem? (i := 30) rfl)
    have F : Fun K "kind_in_text" "kind_in_text" (top 48) (He.fAd K ("kind_in_text", none)) fd := toFun (st := top 48) F
    have b := F.binds (ps := ["text"]) fun _ _ _ _ _ _ us hl => match us, hl with | [_], _ => rfl
    refine ⟨_, fd, F, glo "kind_in_text" (List.mem_of_getElem? (i := 30) rfl), F.kp, b, ?_⟩
    obtain ⟨oc, od, kV, doc, pm, an, cdv, ct, osl, rfl, lk, hcd⟩ := F.ex
    exact fun s us hl => match us, hl with | [_], _ => .of_eq rfl
  · obtain ⟨fd, F⟩ := funOf e c (d := dOf "number_in" (top 49)) (List.mem_of_getElem? (i := 31) rfl)
    have F : Fun K "number_in" "number_in" (top 49) (He.fAd K ("number_in", none)) fd := toFun (st := top 49) F
    have b := F.binds (ps := ["text"]) fun _ _ _ _ _ _ us hl => match us, hl with | [_], _ => rfl
    refine ⟨_, fd, F, glo "number_in" (List.mem_of_getElem? (i := 31) rfl), F.kp, b, ?_⟩
    obtain ⟨oc, od, kV, doc, pm, an, cdv, ct, osl, rfl, lk, hcd⟩ := F.ex
    exact fun s us hl => match us, hl with | [_], _ => .of_eq rfl
  · obtain ⟨fd, F⟩ := funOf e c (d := dOf "_law_rng" (top 51)) (List.mem_of_getElem? (i := 32) rfl)
    have F : Fun K "_law_rng" "_law_rng" (top 51) (He.fAd K ("_law_rng", none)) fd := toFun (st := top 51) F
    have b := F.binds (ps := ["_law_script", "_law_k"]) fun _ _ _ _ _ _ us hl => match us, hl with | [_, _], _ => rfl
    refine ⟨_, fd, F, glo "_law_rng" (List.mem_of_getElem? (i := 32) rfl), F.kp, b, ?_⟩
    obtain ⟨oc, od, kV, doc, pm, an, cdv, ct, osl, rfl, lk, hcd⟩ := F.ex
    exact fun s us hl => match us, hl with | [_, _], _ => .of_eq rfl
  · obtain ⟨fd, F⟩ := funOf e c (d := dOf "_law_draw" (top 52)) (List.mem_of_getElem? (i := 33) rfl)
    have F : Fun K "_law_draw" "_law_draw" (top 52) (He.fAd K ("_law_draw", none)) fd := toFun (st := top 52) F
    have b := F.binds (ps := ["_law_rng_here", "_law_many"]) fun _ _ _ _ _ _ us hl => match us, hl with | [_, _], _ => rfl
    refine ⟨_, fd, F, glo "_law_draw" (List.mem_of_getElem? (i := 33) rfl), F.kp, b, ?_⟩
    obtain ⟨oc, od, kV, doc, pm, an, cdv, ct, osl, rfl, lk, hcd⟩ := F.ex
    exact fun s us hl => match us, hl with | [_, _], _ => .of_eq rfl
  · obtain ⟨fd, F⟩ := funOf e c (d := dOf "_law_choice" (top 53)) (List.mem_of_getElem? (i := 34) rfl)
    have F : Fun K "_law_choice" "_law_choice" (top 53) (He.fAd K ("_law_choice", none)) fd := toFun (st := top 53) F
    have b := F.binds (ps := ["_law_rng_here", "_law_some"]) fun _ _ _ _ _ _ us hl => match us, hl with | [_, _], _ => rfl
    refine ⟨_, fd, F, glo "_law_choice" (List.mem_of_getElem? (i := 34) rfl), F.kp, b, ?_⟩
    obtain ⟨oc, od, kV, doc, pm, an, cdv, ct, osl, rfl, lk, hcd⟩ := F.ex
    exact fun s us hl => match us, hl with | [_, _], _ => .of_eq rfl
  · obtain ⟨fd, F⟩ := funOf e c (d := dOf "_law_name" (top 54)) (List.mem_of_getElem? (i := 35) rfl)
    have F : Fun K "_law_name" "_law_name" (top 54) (He.fAd K ("_law_name", none)) fd := toFun (st := top 54) F
    have b := F.binds (ps := ["_law_rng_here", "_law_used"]) fun _ _ _ _ _ _ us hl => match us, hl with | [_, _], _ => rfl
    refine ⟨_, fd, F, glo "_law_name" (List.mem_of_getElem? (i := 35) rfl), F.kp, b, ?_⟩
    obtain ⟨oc, od, kV, doc, pm, an, cdv, ct, osl, rfl, lk, hcd⟩ := F.ex
    exact fun s us hl => match us, hl with | [_, _], _ => .of_eq rfl
  · obtain ⟨fd, F⟩ := funOf e c (d := dOf "_law_number" (top 55)) (List.mem_of_getElem? (i := 36) rfl)
    have F : Fun K "_law_number" "_law_number" (top 55) (He.fAd K ("_law_number", none)) fd := toFun (st := top 55) F
    have b := F.binds (ps := ["_law_rng_here"]) fun _ _ _ _ _ _ us hl => match us, hl with | [_], _ => rfl
    refine ⟨_, fd, F, glo "_law_number" (List.mem_of_getElem? (i := 36) rfl), F.kp, b, ?_⟩
    obtain ⟨oc, od, kV, doc, pm, an, cdv, ct, osl, rfl, lk, hcd⟩ := F.ex
    exact fun s us hl => match us, hl with | [_], _ => .of_eq rfl
  · obtain ⟨fd, F⟩ := funOf e c (d := dOf "_law_any_label" (top 56)) (List.mem_of_getElem? (i := 37) rfl)
    have F : Fun K "_law_any_label" "_law_any_label" (top 56) (He.fAd K ("_law_any_label", none)) fd := toFun (st := top 56) F
    have b := F.binds (ps := ["_law_rng_here"]) fun _ _ _ _ _ _ us hl => match us, hl with | [_], _ => rfl
    refine ⟨_, fd, F, glo "_law_any_label" (List.mem_of_getElem? (i := 37) rfl), F.kp, b, ?_⟩
    obtain ⟨oc, od, kV, doc, pm, an, cdv, ct, osl, rfl, lk, hcd⟩ := F.ex
    exact fun s us hl => match us, hl with | [_], _ => .of_eq rfl
  · obtain ⟨fd, F⟩ := funOf e c (d := dOf "_law_any_term" (top 57)) (List.mem_of_getElem? (i := 38) rfl)
    have F : Fun K "_law_any_term" "_law_any_term" (top 57) (He.fAd K ("_law_any_term", none)) fd := toFun (st := top 57) F
    have b := F.binds (ps := ["_law_rng_here", "_law_depth", "_law_left"]) fun _ _ _ _ _ _ us hl => match us, hl with | [_, _, _], _ => rfl
    refine ⟨_, fd, F, glo "_law_any_term" (List.mem_of_getElem? (i := 38) rfl), F.kp, b, ?_⟩
    obtain ⟨oc, od, kV, doc, pm, an, cdv, ct, osl, rfl, lk, hcd⟩ := F.ex
    exact fun s us hl => match us, hl with | [_, _, _], _ => .of_eq rfl
  · obtain ⟨fd, F⟩ := funOf e c (d := dOf "_law_any_kind" (top 58)) (List.mem_of_getElem? (i := 39) rfl)
    have F : Fun K "_law_any_kind" "_law_any_kind" (top 58) (He.fAd K ("_law_any_kind", none)) fd := toFun (st := top 58) F
    have b := F.binds (ps := ["_law_rng_here"]) fun _ _ _ _ _ _ us hl => match us, hl with | [_], _ => rfl
    refine ⟨_, fd, F, glo "_law_any_kind" (List.mem_of_getElem? (i := 39) rfl), F.kp, b, ?_⟩
    obtain ⟨oc, od, kV, doc, pm, an, cdv, ct, osl, rfl, lk, hcd⟩ := F.ex
    exact fun s us hl => match us, hl with | [_], _ => .of_eq rfl
  · obtain ⟨fd, F⟩ := funOf e c (d := dOf "_law_any_work" (top 59)) (List.mem_of_getElem? (i := 40) rfl)
    have F : Fun K "_law_any_work" "_law_any_work" (top 59) (He.fAd K ("_law_any_work", none)) fd := toFun (st := top 59) F
    have b := F.binds (ps := ["_law_rng_here"]) fun _ _ _ _ _ _ us hl => match us, hl with | [_], _ => rfl
    refine ⟨_, fd, F, glo "_law_any_work" (List.mem_of_getElem? (i := 40) rfl), F.kp, b, ?_⟩
    obtain ⟨oc, od, kV, doc, pm, an, cdv, ct, osl, rfl, lk, hcd⟩ := F.ex
    exact fun s us hl => match us, hl with | [_], _ => .of_eq rfl
  · obtain ⟨fd, F⟩ := funOf e c (d := dOf "_law_label_text" (top 60)) (List.mem_of_getElem? (i := 41) rfl)
    have F : Fun K "_law_label_text" "_law_label_text" (top 60) (He.fAd K ("_law_label_text", none)) fd := toFun (st := top 60) F
    have b := F.binds (ps := ["_law_label"]) fun _ _ _ _ _ _ us hl => match us, hl with | [_], _ => rfl
    refine ⟨_, fd, F, glo "_law_label_text" (List.mem_of_getElem? (i := 41) rfl), F.kp, b, ?_⟩
    obtain ⟨oc, od, kV, doc, pm, an, cdv, ct, osl, rfl, lk, hcd⟩ := F.ex
    exact fun s us hl => match us, hl with | [_], _ => .of_eq rfl
  · obtain ⟨fd, F⟩ := funOf e c (d := dOf "_law_term_text" (top 61)) (List.mem_of_getElem? (i := 42) rfl)
    have F : Fun K "_law_term_text" "_law_term_text" (top 61) (He.fAd K ("_law_term_text", none)) fd := toFun (st := top 61) F
    have b := F.binds (ps := ["_law_term"]) fun _ _ _ _ _ _ us hl => match us, hl with | [_], _ => rfl
    refine ⟨_, fd, F, glo "_law_term_text" (List.mem_of_getElem? (i := 42) rfl), F.kp, b, ?_⟩
    obtain ⟨oc, od, kV, doc, pm, an, cdv, ct, osl, rfl, lk, hcd⟩ := F.ex
    exact fun s us hl => match us, hl with | [_], _ => .of_eq rfl
  · obtain ⟨fd, F⟩ := funOf e c (d := dOf "_law_kind_text" (top 62)) (List.mem_of_getElem? (i := 43) rfl)
    have F : Fun K "_law_kind_text" "_law_kind_text" (top 62) (He.fAd K ("_law_kind_text", none)) fd := toFun (st := top 62) F
    have b := F.binds (ps := ["_law_kind"]) fun _ _ _ _ _ _ us hl => match us, hl with | [_], _ => rfl
    refine ⟨_, fd, F, glo "_law_kind_text" (List.mem_of_getElem? (i := 43) rfl), F.kp, b, ?_⟩
    obtain ⟨oc, od, kV, doc, pm, an, cdv, ct, osl, rfl, lk, hcd⟩ := F.ex
    exact fun s us hl => match us, hl with | [_], _ => .of_eq rfl
  · obtain ⟨fd, F⟩ := funOf e c (d := dOf "_law_work_text" (top 63)) (List.mem_of_getElem? (i := 44) rfl)
    have F : Fun K "_law_work_text" "_law_work_text" (top 63) (He.fAd K ("_law_work_text", none)) fd := toFun (st := top 63) F
    have b := F.binds (ps := ["_law_work"]) fun _ _ _ _ _ _ us hl => match us, hl with | [_], _ => rfl
    refine ⟨_, fd, F, glo "_law_work_text" (List.mem_of_getElem? (i := 44) rfl), F.kp, b, ?_⟩
    obtain ⟨oc, od, kV, doc, pm, an, cdv, ct, osl, rfl, lk, hcd⟩ := F.ex
    exact fun s us hl => match us, hl with | [_], _ => .of_eq rfl
  · obtain ⟨fd, F⟩ := funOf e c (d := dOf "_law_worded" (top 64)) (List.mem_of_getElem? (i := 45) rfl)
    have F : Fun K "_law_worded" "_law_worded" (top 64) (He.fAd K ("_law_worded", none)) fd := toFun (st := top 64) F
    have b := F.binds (ps := ["_law_rng_here", "_law_work"]) fun _ _ _ _ _ _ us hl => match us, hl with | [_, _], _ => rfl
    refine ⟨_, fd, F, glo "_law_worded" (List.mem_of_getElem? (i := 45) rfl), F.kp, b, ?_⟩
    obtain ⟨oc, od, kV, doc, pm, an, cdv, ct, osl, rfl, lk, hcd⟩ := F.ex
    exact fun s us hl => match us, hl with | [_, _], _ => .of_eq rfl
  · obtain ⟨fd, F⟩ := funOf e c (d := dOf "_law_term_right" (top 65)) (List.mem_of_getElem? (i := 46) rfl)
    have F : Fun K "_law_term_right" "_law_term_right" (top 65) (He.fAd K ("_law_term_right", none)) fd := toFun (st := top 65) F
    have b := F.binds (ps := ["_law_term"]) fun _ _ _ _ _ _ us hl => match us, hl with | [_], _ => rfl
    refine ⟨_, fd, F, glo "_law_term_right" (List.mem_of_getElem? (i := 46) rfl), F.kp, b, ?_⟩
    obtain ⟨oc, od, kV, doc, pm, an, cdv, ct, osl, rfl, lk, hcd⟩ := F.ex
    exact fun s us hl => match us, hl with | [_], _ => .of_eq rfl
  · obtain ⟨fd, F⟩ := funOf e c (d := dOf "_law_work_right" (top 66)) (List.mem_of_getElem? (i := 47) rfl)
    have F : Fun K "_law_work_right" "_law_work_right" (top 66) (He.fAd K ("_law_work_right", none)) fd := toFun (st := top 66) F
    have b := F.binds (ps := ["_law_work"]) fun _ _ _ _ _ _ us hl => match us, hl with | [_], _ => rfl
    refine ⟨_, fd, F, glo "_law_work_right" (List.mem_of_getElem? (i := 47) rfl), F.kp, b, ?_⟩
    obtain ⟨oc, od, kV, doc, pm, an, cdv, ct, osl, rfl, lk, hcd⟩ := F.ex
    exact fun s us hl => match us, hl with | [_], _ => .of_eq rfl
  · obtain ⟨fd, F⟩ := funOf e c (d := dOf "_law_right" (top 67)) (List.mem_of_getElem? (i := 48) rfl)
    have F : Fun K "_law_right" "_law_right" (top 67) (He.fAd K ("_law_right", none)) fd := toFun (st := top 67) F
    have b := F.binds (ps := ["_law_rng_here"]) fun _ _ _ _ _ _ us hl => match us, hl with | [_], _ => rfl
    refine ⟨_, fd, F, glo "_law_right" (List.mem_of_getElem? (i := 48) rfl), F.kp, b, ?_⟩
    obtain ⟨oc, od, kV, doc, pm, an, cdv, ct, osl, rfl, lk, hcd⟩ := F.ex
    exact fun s us hl => match us, hl with | [_], _ => .of_eq rfl
  · obtain ⟨fd, F⟩ := funOf e c (d := dOf "law" (top 68)) (List.mem_of_getElem? (i := 49) rfl)
    have F : Fun K "law" "law" (top 68) (He.fAd K ("law", none)) fd := toFun (st := top 68) F
    have b := F.binds (ps := ["_law_script"]) fun _ _ _ _ _ _ us hl => match us, hl with | [_], _ => rfl
    refine ⟨_, fd, F, glo "law" (List.mem_of_getElem? (i := 49) rfl), F.kp, b, ?_⟩
    obtain ⟨oc, od, kV, doc, pm, an, cdv, ct, osl, rfl, lk, hcd⟩ := F.ex
    exact fun s us hl => match us, hl with | [_], _ => .of_eq rfl
end
end K61
/-! law k91: from the top's end to the law's promise -/
namespace K61
open PySem PySem.Spec PyProof.Rows L2 DL
section
variable {P : Program} {w : World} {K : PySem.W.Frag} {mg : Str → Option Value} {base h : Heap}
theorem form_all {dF : Addr} (Dh : DefAt K mg "has_form" s_has_form ["value", "depth"]) (Dp : DefAt K mg "is_part" s_is_part ["value", "form", "depth"]) (B : Bl mg) (G : Gc K mg) (t : TabAt K w mg "FORMS" T_FORMS dF) (i1 : Own P w K mg base 1 "is_integer" ["value"] (WB intD)) (i2 : Own P w K mg base 2 "is_count" ["value"] (WB countD))
    (i3 : Own P w K mg base 1 "is_name" ["value"] (WB nameD)) (i4 : Own P w K mg base 3 "is_label" ["value"] (WB labelD)) : ∀ n : Nat, Own P w K mg base (4 + 2 * n) "has_form" ["value", "depth"] (WF n)
  | 0 => ok_has_form0 (W := fun _ _ _ => False) Dh B t ((Own.never (k := 2) Dp sc_is_part).mono (by omega))
  | n + 1 => ok_has_form Dh B t (ok_is_part Dp B G i1 i2 i3 i4 (form_all Dh Dp B G t i1 i2 i3 i4 n))
theorem count_alls {dF : Addr} (D : DefAt K mg "count_of" s_count_of ["expression"]) (B : Bl mg) (o : Own P w K mg base 1 "inner_parts" ["expression"] WI) : ∀ n : Nat, Own P w K mg base (n + 1) "count_of" ["expression"] (WC n)
  | 0 => ok_count_of0 D
  | n + 1 => ok_count_of D B o (count_alls (dF := dF) D B o n)
theorem any_alls (D : DefAt K mg "_law_any_term" s__law_any_term ["_law_rng_here", "_law_depth", "_law_left"]) (B : Bl mg) (z1 : Own P w K mg base 1 "_law_draw" ["_law_rng_here", "_law_many"] WDraw) (z2 : Own P w K mg base 2 "_law_number" ["_law_rng_here"] WNum)
    (z3 : Own P w K mg base 3 "_law_any_label" ["_law_rng_here"] WLab) (z4 : Own P w K mg base 2 "_law_name" ["_law_rng_here", "_law_used"] WNm) : ∀ n : Nat, Own P w K mg base (n + 4) "_law_any_term" ["_law_rng_here", "_law_depth", "_law_left"] (WAT n)
  | 0 => ok__law_any_term0 D
  | n + 1 => ok__law_any_term D B z1 z2 z3 z4 (any_alls D B z1 z2 z3 z4 n)
theorem word_alls (D : DefAt K mg "_law_term_text" s__law_term_text ["_law_term"]) (B : Bl mg) (l : Own P w K mg base 1 "_law_label_text" ["_law_label"] WLt) : ∀ n : Nat, Own P w K mg base (n + 2) "_law_term_text" ["_law_term"] (WTT n)
  | 0 => ok__law_term_text0 D
  | n + 1 => ok__law_term_text D B l (word_alls D B l n)
theorem all_mk {fa : Addr} {n : Nat} (X : K.In h) (G : h.Ns mainGlobals mg) (hfa : mg "law" = some (.ref fa)) (e : (defs.map fun d => He.fnW K d.at_) = defs.map He.DefD.val) (ok : allOk K = true) (tk : tkOk K n = true) (dc : He.dicW K (He.ga K "FORMS") = some (He.keysIn w.params (kvF.map (·.1)))) :
    ∃ fd : FuncData, (∀ (s : Shared) (u : Value), BindsTo s fd ⟨[u], []⟩ [("_law_script", u)]) ∧ ∀ base : Heap, K.In base → base.Ns mainGlobals mg → FnN n P w K mg base 43 fa fd ["_law_script"] (spLaw K) := by
  obtain ⟨c, ok⟩ := He.ba ok
  obtain ⟨fr, ok⟩ := He.ba ok
  obtain ⟨gl, ok⟩ := He.ba ok
  obtain ⟨cn, ok⟩ := He.ba ok
  obtain ⟨fo, ok⟩ := He.ba ok
  obtain ⟨tb, ok⟩ := He.ba ok
  obtain ⟨ap, sy⟩ := He.ba ok
  obtain ⟨tk1, tk2⟩ := He.ba tk
  have ap := of_decide_eq_true ap
  have glo : ∀ x, x ∈ gloN → mg x = some (.ref (He.ga K x)) := fun x hx => PySem.W.mg_of X G (He.eqO_ok (List.all_eq_true.mp gl x hx))
  have B : Bl mg := ⟨fun x hx => PySem.W.mg_none_of X G (He.eqO_ok (List.all_eq_true.mp fr x hx))⟩
  have GG : Gc K mg := ⟨He.int_ok X G (List.all_eq_true.mp cn _ (List.mem_of_getElem? (i := 0) rfl)), He.str_ok X G (List.all_eq_true.mp cn _ (List.mem_of_getElem? (i := 2) rfl)), He.int_ok X G (List.all_eq_true.mp cn _ (List.mem_of_getElem? (i := 3) rfl)), He.int_ok X G (List.all_eq_true.mp cn _ (List.mem_of_getElem? (i := 4) rfl)),
    He.int_ok X G (List.all_eq_true.mp cn _ (List.mem_of_getElem? (i := 5) rfl)), He.str_ok X G (List.all_eq_true.mp cn _ (List.mem_of_getElem? (i := 1) rfl)), He.str_ok X G (List.all_eq_true.mp cn _ (List.mem_of_getElem? (i := 6) rfl)), He.str_ok X G (List.all_eq_true.mp cn _ (List.mem_of_getElem? (i := 7) rfl)),
    He.str_ok X G (List.all_eq_true.mp cn _ (List.mem_of_getElem? (i := 8) rfl)), He.str_ok X G (List.all_eq_true.mp cn _ (List.mem_of_getElem? (i := 9) rfl))⟩
  have TB : TkC n mg := ⟨mk_ok X G tk1, mk_ok X G tk2⟩
  have TF : TabAt K w mg "FORMS" T_FORMS (He.ga K "FORMS") := ⟨by rw [tab_forms]; exact ktab_of dc tb, PySem.W.mg_of X G (He.eqO_ok fo)⟩
  have T := tops_ok X G e c glo
  obtain ⟨oS, ks, kc⟩ : ∃ o, K.lookup sysModules = some o ∧ o.cls = .type "dict" := by
    unfold sysOk at sy
    split at sy
    · rename_i o ho
      exact ⟨o, ho, of_decide_eq_true sy⟩
    · cases sy
  have RS : K.lookup sysModules = some oS ∧ oS.cls = .type "dict" := ⟨ks, kc⟩
  obtain ⟨fdL, FL⟩ := funOf e c (d := dOf "law" (top 68)) (List.mem_of_getElem? (i := 49) rfl)
  have FL : Fun K "law" "law" (top 68) (He.fAd K ("law", none)) fdL := toFun (st := top 68) FL
  obtain ⟨fd0, F0⟩ := funOf e c (d := dOf "_law_rng" (top 51)) (List.mem_of_getElem? (i := 32) rfl)
  have F0 : Fun K "_law_rng" "_law_rng" (top 51) (He.fAd K ("_law_rng", none)) fd0 := toFun (st := top 51) F0
  have b0 := F0.binds (ps := ["_law_script", "_law_k"]) fun _ _ _ _ _ _ us hl => match us, hl with | [_, _], _ => rfl
  have el : fa = He.fAd K ("law", none) := by
    have z := hfa.symm.trans (glo "law" (List.mem_of_getElem? (i := 49) rfl))
    cases z
    rfl
  subst el
  refine ⟨fdL, ?_, fun base Kb Gb => ?_⟩
  · obtain ⟨oc, od, kV, doc, pm, an, cdv, ct, osl, rfl, lk, hcd⟩ := FL.ex
    exact fun s u => .of_eq rfl
  · have i1 : Own P w K mg base 1 "is_integer" ["value"] (WB intD) := ok_is_integer T.d_is_integer B
    have i2 : Own P w K mg base 2 "is_count" ["value"] (WB countD) := ok_is_count T.d_is_count i1
    have i3 : Own P w K mg base 1 "is_name" ["value"] (WB nameD) := ok_is_name T.d_is_name B GG
    have i4 : Own P w K mg base 3 "is_label" ["value"] (WB labelD) := ok_is_label T.d_is_label B i3 i2
    have i5 : Own P w K mg base 4 "is_kind" ["value"] (WB kindD) := ok_is_kind T.d_is_kind B GG i4
    have i6 : Own P w K mg base 14 "has_form" ["value", "depth"] (WF 5) := form_all T.d_has_form T.d_is_part B GG TF i1 i2 i3 i4 5
    have i7 : Own P w K mg base 6 "count_of" ["expression"] (WC 5) := count_alls (dF := He.ga K "FORMS") T.d_count_of B (ok_inner_parts T.d_inner_parts B TF) 5
    have i8 : Own P w K mg base 15 "is_expression" ["value"] (WB exprD) := ok_is_expression T.d_is_expression B GG i6 i7
    have i9 : Own P w K mg base 16 "is_function" ["value"] (WB funD) := ok_is_function T.d_is_function B GG i3 i5 i8
    have t1 : Own P w K mg base 1 "label_text" ["label"] WLt := ok_label_text T.d_label_text
    have t2 : Own P w K mg base 2 "kind_text" ["kind"] WKt := ok_kind_text T.d_kind_text GG t1
    have t3 : Own P w K mg base 6 "text_of" ["expression"] (WTx 5) := text_all T.d_text_of B GG t1 5
    have t4 : Own P w K mg base 16 "expression_text" ["expression"] WEx := ok_expression_text T.d_expression_text i8 (t3.mono (by omega))
    have t5 : Own P w K mg base 17 "function_text" ["function"] WFx := ok_function_text T.d_function_text B GG i9 (t2.mono (by omega)) (t3.mono (by omega))
    have r1 : Own P w K mg base 1 "count_in" ["text"] WCt := ok_count_in T.d_count_in GG
    have r2 : Own P w K mg base 2 "label_in" ["text"] (WSt lbD) := ok_label_in T.d_label_in B r1 i3
    have r3 : Own P w K mg base 3 "kind_in_text" ["text"] WKin := ok_kind_in_text T.d_kind_in_text GG r2
    have r4 : Own P w K mg base 2 "number_in" ["text"] WNin := ok_number_in T.d_number_in r1
    have m1 := glo "label_in" (List.mem_of_getElem? (i := 6) rfl)
    have m2 := glo "kind_in_text" (List.mem_of_getElem? (i := 30) rfl)
    have m3 := glo "number_in" (List.mem_of_getElem? (i := 31) rfl)
    have m4 := glo "count_in" (List.mem_of_getElem? (i := 5) rfl)
    have hA := rd_held (held1 r2 (by decide) m1) (held1 r3 (by decide) m2) (held1 r4 (by decide) m3) (held1 r1 (by decide) m4)
    have n1 : He.ga K "kind_in_text" ≠ He.ga K "label_in" := fun z => by simp [z] at ap
    have n2 : He.ga K "number_in" ≠ He.ga K "label_in" := fun z => by simp [z] at ap
    have n3 : He.ga K "count_in" ≠ He.ga K "label_in" := fun z => by simp [z] at ap
    have n4 : He.ga K "number_in" ≠ He.ga K "kind_in_text" := fun z => by simp [z] at ap
    have n5 : He.ga K "count_in" ≠ He.ga K "kind_in_text" := fun z => by simp [z] at ap
    have n6 : He.ga K "count_in" ≠ He.ga K "number_in" := fun z => by simp [z] at ap
    have h1 : rdT (He.ga K "label_in") (He.ga K "kind_in_text") (He.ga K "number_in") (He.ga K "count_in") (He.ga K "label_in") = some (WSt lbD) := if_pos rfl
    have h2 : rdT (He.ga K "label_in") (He.ga K "kind_in_text") (He.ga K "number_in") (He.ga K "count_in") (He.ga K "kind_in_text") = some WKin := by unfold rdT; rw [if_neg n1, if_pos rfl]
    have h3 : rdT (He.ga K "label_in") (He.ga K "kind_in_text") (He.ga K "number_in") (He.ga K "count_in") (He.ga K "number_in") = some WNin := by unfold rdT; rw [if_neg n2, if_neg n4, if_pos rfl]
    have h4 : rdT (He.ga K "label_in") (He.ga K "kind_in_text") (He.ga K "number_in") (He.ga K "count_in") (He.ga K "count_in") = some WCt := by unfold rdT; rw [if_neg n3, if_neg n5, if_neg n6, if_pos rfl]
    have k1 : Own P w K mg base 1 "take_word" ["left"] WTw := ok_take_word T.d_take_word B
    have k2 : Own P w K mg base 2 "take_mark" ["left", "mark"] WTm := ok_take_mark T.d_take_mark k1
    have k3 := ok_take_known hA T.d_take_known B (k1.mono (by omega))
    have k4 := ok_take_label h1 m1 T.d_take_label B GG (k2.mono (by omega)) k3
    have k5 : Own P w K mg base 16 "take_expression" ["left", "depth"] (WTe 5) := take_all h3 h4 m3 m4 T.d_take_expression T.d_take_part B GG TF k2 k1 k3 k4 5
    have k6 : Own P w K mg base 17 "take_function" ["left"] WTf := ok_take_function (j := 16) h2 m2 T.d_take_function B GG (k1.mono (by omega)) (k2.mono (by omega)) (k3.mono (by omega)) k5
    have w1 := ok_words_from_behind (P := P) (w := w) (base := base) T.d_words_from_behind TB
    have w2 := ok_expression_in T.d_expression_in B GG w1 k5 i8
    have w3 := ok_function_in T.d_function_in B GG w1 k6 i9
    have w4 := ok_read_expression T.d_read_expression B w2
    have w5 := ok_read_function T.d_read_function B w3
    have z1 : Own P w K mg base 1 "_law_draw" ["_law_rng_here", "_law_many"] WDraw := own_draw T.d__law_draw B
    have z2 := ok__law_choice T.d__law_choice B z1
    have z3 := ok__law_name T.d__law_name B z1
    have z4 := ok__law_number T.d__law_number z1
    have z5 := ok__law_any_label T.d__law_any_label B z3 z4
    have z6 := ok__law_any_kind T.d__law_any_kind B z1 z5
    have z7 : Own P w K mg base 9 "_law_any_term" ["_law_rng_here", "_law_depth", "_law_left"] (WAT 5) := any_alls T.d__law_any_term B z1 z4 z5 z3 5
    have z8 := ok__law_any_work T.d__law_any_work B z1 z3 z6 z7
    have z9 := ok__law_worded T.d__law_worded B z2
    have y1 := ok__law_label_text (P := P) (w := w) (base := base) T.d__law_label_text B
    have y2 := ok__law_kind_text T.d__law_kind_text y1
    have y3 : Own P w K mg base 8 "_law_term_text" ["_law_term"] (WTT 6) := word_alls T.d__law_term_text B y1 6
    have y4 := ok__law_work_text T.d__law_work_text y2 y3
    have x1 := ok__law_term_right T.d__law_term_right B RS y3 (t4.mono (by omega)) (w4.mono (by omega)) i8
    have x2 := ok__law_work_right T.d__law_work_right B RS y4 (t5.mono (by omega)) (w5.mono (by omega)) i9
    have x3 := ok__law_right T.d__law_right B z1 z7 z8 x1 x2 z9
    obtain ⟨fR, dR, FR, mR, kR, bR, _⟩ := x3.ex
    exact ok_law FL B x1 (t4.mono (by omega)) (t5.mono (by omega)) (right_sp FR) mR kR bR (ok_rng F0 B) (glo "_law_rng" (List.mem_of_getElem? (i := 32) rfl)) F0.kp b0
end
end K61
/-! law k91: the top's run -/
namespace K61
open PySem PySem.Spec PyProof.Rows L2 DL
abbrev R : PySem.W.OpenRow := PySem.W.OpenLaw.row PySem.Challenge.rw_leastlinks_k91_whole_texts_of_code
/-- the part of the heap that is looked at: what the module's names reach, and sys.modules; the marks' tokens are out -/
def asX (g : Addr → Option Obj) : List Addr := sysModules :: He.asD g 5
def obsX (g : Addr → Option Obj) (n : Nat) : Bool × List He.FnW × Option (List (Option (Str × Int))) := (allOk (He.frG g (asX g)) && tkOk (He.frG g (asX g)) n, defs.map (fun d => He.fnW (He.frG g (asX g)) d.at_), He.dicW (He.frG g (asX g)) (He.ga (He.frG g (asX g)) "FORMS"))
def hk : PySem.W.Hook where
  α := Bool × List He.FnW × Option (List (Option (Str × Int)))
  obs := fun s => obsX s.heap.get? s.toks
  val := fun w => (true, defs.map He.DefD.val, some (He.keysIn w.params (kvF.map (·.1))))
  says := fun _ _ => True
  of := fun _ _ _ => trivial
  keeps := fun _ _ _ _ _ => trivial
def ob (s : PySem.W.SharedT) : Bool × List He.FnW × Option (List (Option (Str × Int))) := obsX (HandSHeadRun.getT s) s.toks
theorem ob_eq (s : PySem.W.SharedT) : ob s = hk.obs s.abs := by
  unfold ob
  rw [show HandSHeadRun.getT s = s.abs.heap.get? from funext (HandSHeadRun.getT_eq s)]
  rfl
def loose1 : List Str := [("LinkError" : Str), ("InvalidCode" : Str), ("InvalidText" : Str), ("MOST_LETTERS" : Str), ("DIGITS" : Str), ("is_integer" : Str), ("is_count" : Str), ("is_name" : Str), ("is_label" : Str), ("label_text" : Str), ("count_in" : Str), ("label_in" : Str), ("OWN" : Str), ("MOST_DEPTH" : Str), ("MOST_PARTS" : Str), ("MOST_PARAMETERS" : Str), ("FORMS" : Str), ("is_kind" : Str), ("is_expression" : Str), ("is_function" : Str), ("has_form" : Str), ("is_part" : Str), ("inner_parts" : Str), ("count_of" : Str), ("BEGIN" : Str), ("END" : Str), ("ARROW" : Str), ("NO_LABEL" : Str), ("expression_text" : Str), ("text_of" : Str), ("function_text" : Str)]
def loose2 : List Str := [("kind_text" : Str), ("read_expression" : Str), ("read_function" : Str), ("expression_in" : Str), ("function_in" : Str), ("words_from_behind" : Str), ("take_word" : Str), ("take_mark" : Str), ("take_known" : Str), ("take_function" : Str), ("take_expression" : Str), ("take_part" : Str), ("take_label" : Str), ("kind_in_text" : Str), ("number_in" : Str), ("_law_rng" : Str), ("_law_draw" : Str), ("_law_choice" : Str), ("_law_name" : Str), ("_law_number" : Str), ("_law_any_label" : Str), ("_law_any_term" : Str), ("_law_any_kind" : Str), ("_law_any_work" : Str), ("_law_label_text" : Str), ("_law_term_text" : Str), ("_law_kind_text" : Str), ("_law_work_text" : Str), ("_law_worded" : Str), ("_law_term_right" : Str), ("_law_work_right" : Str), ("_law_right" : Str)]
theorem run_f (w : World) : HandSHeadRun.RunEq R (PySem.W.view R.prog [68]) hk ob 12000 (loose1 ++ loose2) (w.withFollow "special-get-raises" false) := by
  intro os
  kernel_rfl
theorem run_t (w : World) : HandSHeadRun.RunEq R (PySem.W.view R.prog [68]) hk ob 12000 (loose1 ++ loose2) (w.withFollow "special-get-raises" true) := by
  intro os
  kernel_rfl
theorem run (w : World) : HandSHeadRun.RunEq R (PySem.W.view R.prog [68]) hk ob 12000 (loose1 ++ loose2) w := PySem.W.byRow2 "special-get-raises" (P := fun w => HandSHeadRun.RunEq R (PySem.W.view R.prog [68]) hk ob 12000 (loose1 ++ loose2) w) run_f run_t w
end K61
/-! a law's walk where so many tokens are out: what the top has left says it of its last state -/
namespace DL
open PySem PySem.Spec PyProof.Rows L2
/-! ### the law's call, no repr under way, n tokens out -/
theorem run_lawN {P : Program} {w : World} {K : PySem.W.Frag} {mg mb : Str → Option Value} {n k : Nat} {fa a : Addr} {fd : FuncData} {x : Str} {sp : Sp} {s : Shared} {vs : List Value} {ns : List Int} (hz : n ≤ s.toks) (KX : K.In s.heap) (G : s.heap.Ns mainGlobals mg)
    (Gb : s.heap.Ns builtinsNs mb) (bb : ∀ y : Str, y ≠ "__name__" → mb y = bootBuiltins y) (lim : s.heap.NoLimit) (gz : s.gens = #[]) (ha : s.heap.get? a = some { cls := .type "list", data := .seq vs.toArray }) (hi : IntsAre vs ns) (hl : ns.length ≤ sizeLine)
    (hr : Room k callerA) (F : ∀ base : Heap, K.In base → base.Ns mainGlobals mg → FnN n P w K mg base k fa fd [x] sp) (hb : ∀ (s : Shared) (u : Value), BindsTo s fd ⟨[u], []⟩ [(x, u)])
    (hsp : ∀ H : Hp, Only H → SqL K H a (ns.map V.int) → sp [.ref a] H (fun v H' => v = .bl true ∧ Same H H') fun _ _ _ => False) :
    codeAny (model P w) callerA (.call (.ref fa) ⟨[.ref a], []⟩) (fun r s' => r = .ok (.ret (.bool true)) ∧ OldK s.heap s'.heap ∧ s'.os = s.os ∧ AllBare s'.gens) s := by
  have go : ∀ H : Hp, (∀ b u, H b = some u → b = a ∧ K.lookup a = none ∧ u = .frz { cls := .type "list", data := .seq vs.toArray } (.lst (ns.map V.int))) → SqL K H a (ns.map V.int) →
      codeAny (model P w) callerA (.call (.ref fa) ⟨[.ref a], []⟩) (fun r s' => r = .ok (.ret (.bool true)) ∧ OldK s.heap s'.heap ∧ s'.os = s.os ∧ AllBare s'.gens) s := by
    intro H hH hS
    have none_of : ∀ b : Addr, ¬ (b = a ∧ K.lookup a = none) → H b = none := fun b nb => by
      cases e : H b with
      | none => rfl
      | some u => exact absurd ⟨(hH b u e).1, (hH b u e).2.1⟩ nb
    have dict_none : ∀ (b : Addr) (o : Obj) (es : Array DictEntry) (ep : Nat), s.heap.get? b = some o → o.data = .dict es ep → H b = none := fun b o es ep e d => none_of b fun z => by
      rw [z.1, ha] at e
      cases e
      cases d
    have keep_ns : ∀ {b : Addr} {m : Str → Option Value}, s.heap.Ns b m → (hidT s.heap H).Ns b m := fun {b m} z => by
      obtain ⟨o, es, ep, e, d, r⟩ := z
      exact ⟨o, es, ep, hidT_get e (dict_none b o es ep e d), d, r⟩
    have inB : K.In (hidT s.heap H) := fun b o e => hidT_get (KX b o e) (none_of b fun z => by rw [z.1, z.2] at e; cases e)
    obtain ⟨mc, c1, c2⟩ := lim
    have hok : HOk P w H s.heap := fun b u e => by
      obtain ⟨rfl, _, rfl⟩ := hH b u e
      exact ⟨ha, by rw [List.length_map]; exact hl, vs, _, vals_ints hi, ha⟩
    have e0 : Env0 P w K mg (hidT s.heap H) callerA [] s H := ⟨rfl, ⟨inB, keep_ns G, ⟨mb, keep_ns Gb, bb⟩, ⟨mc, keep_ns c1, c2⟩⟩, fun b o e => of_hidT e, Nat.le_of_eq (hidT_size _ _), trivial, (fun b z => absurd (show b ∈ ([] : List Addr) from z) (by simp)), hok, .of_eq gz⟩
    have only : Only H := fun b => by
      cases e : H b with
      | none => exact .inl rfl
      | some u => exact .inr ⟨_, _, by rw [(hH b u e).2.2]⟩
    refine codeAny_mono ((F _ inB (keep_ns G)).run callerA rfl hr [] s H ⟨[.ref a], []⟩ [.ref a] [.ref a] _ _ hz e0 (hb s (.ref a)) (.cons rfl .nil) (hsp H only hS)) fun r s' z => ?_
    match r, z with
    | .ok (.ret u), z =>
      obtain ⟨v, H', os, bare, un, hok', rv, ⟨rfl, sm⟩⟩ := z
      cases (show u = Value.bool true from rv)
      refine ⟨rfl, OldK.of_keep fun b o e => ?_, os, bare⟩
      cases q : H b with
      | none => exact un.keep b o e q (by intro z; cases z) (by intro z; cases z)
      | some u =>
        obtain ⟨rfl, _, rfl⟩ := hH b u q
        rw [ha] at e
        cases e
        exact (hok' b _ (sm _ _ q)).1
    | .ok .next, z => exact z.elim
    | .ok .brk, z => exact z.elim
    | .ok .cont, z => exact z.elim
    | .error _, z => exact z.elim
  cases hk : K.lookup a with
  | none =>
    refine go (fun b => if b = a then some (.frz { cls := .type "list", data := .seq vs.toArray } (.lst (ns.map V.int))) else none) (fun b u e => ?_) (.inl (.inr ⟨_, if_pos rfl⟩))
    by_cases hba : b = a
    · have e' := (if_pos hba).symm.trans e
      exact ⟨hba, hk, (Option.some.inj e').symm⟩
    · exact absurd ((if_neg hba).symm.trans e) (by simp)
  | some o =>
    have e := (KX a o hk).symm.trans ha
    cases e
    exact go (fun _ => none) (fun b u e => by cases e) (.inr ⟨_, vs.toArray, _, hk, rfl, rfl, rfl, by rw [List.size_toArray, hi.length]; exact hl, by simpa using vals_ints hi⟩)
theorem ofPys_ints : ∀ ns : List Int, PySem.W.ofPys (ns.map PyData.int) = ns.map PySem.W.WData.int
  | [] => rfl
  | i :: ns => congrArg (PySem.W.WData.int i :: ·) (ofPys_ints ns)
/-- a law's walk from what the top's last state says: T w n mg h, the promise where n tokens are out -/
theorem walk_ofN {l : PySem.W.OpenLaw} {m k : Nat} {q : Program} {loose : List Str} {XP : (Str → Option Value) → Heap → Prop} {α : Type} {Yf : Shared → α} {Ya : World → α} {d : DefRec} {x : Str} {sp : PySem.W.Frag → Sp} (hn : l.most = some m) (hn2 : m ≤ sizeLine)
    (hdf : d.params.defaults = []) (hr : Room k callerA)
    (F : ∀ (w : World) (mg : Str → Option Value) (fa : Addr) (s₀ : Shared) (h : Heap), Yf s₀ = Ya w → (∀ b o, s₀.heap.get? b = some o → h.get? b = some o) → h.Ns mainGlobals mg → mg d.name = some (.ref fa) → ∃ (K : PySem.W.Frag) (fd : FuncData), K.In h ∧
      (∀ (s : Shared) (u : Value), BindsTo s fd ⟨[u], []⟩ [(x, u)]) ∧ ∀ base : Heap, K.In base → base.Ns mainGlobals mg → FnN s₀.toks l.prog w K mg base k fa fd [x] (sp K))
    (hsp : ∀ (K : PySem.W.Frag) (H : Hp) (a : Addr) (ns : List Int), ns.length ≤ m → Only H → SqL K H a (ns.map V.int) → sp K [.ref a] H (fun v H' => v = .bl true ∧ Same H H') fun _ _ _ => False) :
    PySem.W.WalkX q loose XP Yf Ya l.row.toRowW d [] (fun f vs => PySem.call f vs) := by
  intro w s₀ s₁ mg mb G Y fa o pm cd doc dV kV ho hd hcd hD hmg hg args vals as L hpre hlay hrd hwl hlo
  obtain ⟨a, vs, ns, rfl, rfl, hobj, hints, hlen⟩ := Att.script_of hn hpre hwl
  obtain rfl : dV = .none := PySem.W.Dflts.none hD hdf
  obtain rfl : kV = .none := PySem.W.Dflts.noKw hD
  have ht : s₀.toks ≤ s₁.toks := PySem.W.X.script_toks (ns := ns) (by rw [show PySem.W.ofPy (PyData.list (ns.map PyData.int)) = PySem.W.WData.list (ns.map PySem.W.WData.int) from congrArg PySem.W.WData.list (ofPys_ints ns)]; exact L) rfl
  obtain ⟨K, fd, KX, hb, hF⟩ := F w mg fa s₀ _ Y L.keeps G.T.g hmg
  refine PySem.W.enter_call (codeAny_mono (run_lawN ht KX G.T.g G.T.b G.T.builtins G.T.nolimit hg hobj hints (Nat.le_trans hlen hn2) hr hF hb fun H hO hS => hsp K H a ns hlen hO hS) fun r s' hq => ?_)
  obtain ⟨rfl, h2, h3, h4⟩ := hq
  exact ⟨.inl ⟨.bool true, .bool true, [], rfl, fun _ => rfl, .bool true, Att.post_true l _, fun _ => ⟨List.Pairwise.nil, fun _ z => (nomatch z)⟩⟩, h2, h3, h4⟩
end DL
/-! the head of a law whose promise asks of the last state's tokens -/
noncomputable section
namespace DL
open PySem PySem.W PySem.W.X PySem.Calls PyProof.Rows HandSHeadRun
theorem head_anyN {r : OpenRow} {q : Program} {H : Hook} {ob : SharedT → H.α} {M : Nat} {loose : List PySem.Str} {d : DefRec} {kwd : List (PySem.Str × PySem.Expr)}
    (ho : ∀ s : SharedT, ob s = H.obs s.abs) (e : opening r.prog = plainProg r.prog.main.scope.names) (f : ∀ s, fenceModules? r.prog s = some s) (run : ∀ w, RunEq r q H ob M loose w)
    (hdef : defOf q r.name = some (d, kwd)) (hp : r.prog.theDef r.name = some (d.params, d.body, d.scope))
    (hk : kwWritten? d.params.kwonlyargs d.params.kw_defaults = some kwd) (hwr : (!r.writes || r.records.isEmpty) = true) (k1 : r.wellSaid = true)
    (ok : (chainsOk q && opensWell r.prog && (frees r.toRowW && r.within.isEmpty)) = true) (hb : r.prog.bare) (hw : r.toRowW.promised)
    (call : WalkX q loose (XL q []) H.obs H.val r.toRowW d kwd fun f vs => PySem.call f vs) : r.Holds := by
  have lf : LeftO r.prog q loose (fun s => xlAt q [] s && recOk r.toRowW.records s) H.obs H.val (M + 600) true := by
    refine left_one (M := M) e (Nat.ble_eq_true_of_le (by omega)) f (Nat.ble_eq_true_of_le (by omega)) fun w os => ?_
    have z := run w os
    rw [show ob = fun s => H.obs s.abs from funext ho] at z
    simp only [endQ_eq, seenQ_eq]
    exact z
  exact holds_openX lf (fun s z => xl_of s (Bool.and_eq_true_iff.mp z).1) XL.keeps hdef hp hk (fun s z => recFacts_of (Bool.and_eq_true_iff.mp z).2) hwr k1 ok hb hw call
end DL
open PySem PySem.W PySem.Calls PyProof.Rows
/-! law k91: the law -/
theorem K61.obs_at {w : World} {s : PySem.Shared} (y : K61.hk.obs s = K61.hk.val w) : ∃ K : Frag, K.In s.heap ∧ K61.allOk K = true ∧ K61.tkOk K s.toks = true ∧ (K61.defs.map fun d => He.fnW K d.at_) = K61.defs.map He.DefD.val ∧ He.dicW K (He.ga K "FORMS") = some (He.keysIn w.params (K61.kvF.map (·.1))) := by
  have y1 : K61.obsX s.heap.get? s.toks = (true, K61.defs.map He.DefD.val, some (He.keysIn w.params (K61.kvF.map (·.1)))) := y
  unfold K61.obsX at y1
  obtain ⟨a, b⟩ := Prod.mk.inj y1
  obtain ⟨b, c⟩ := Prod.mk.inj b
  obtain ⟨a1, a2⟩ := Bool.and_eq_true_iff.mp a
  exact ⟨_, He.frG_in, a1, a2, b, c⟩
set_option maxHeartbeats 0 in
theorem PySem.Challenge.cw_leastlinks_k91_whole_texts_of_code_holds : PySem.Challenge.rw_leastlinks_k91_whole_texts_of_code.Holds := by
  w_on; o_law
  refine DL.head_anyN (r := OpenLaw.row PySem.Challenge.rw_leastlinks_k91_whole_texts_of_code) (q := view (OpenLaw.row PySem.Challenge.rw_leastlinks_k91_whole_texts_of_code).prog [68]) (H := K61.hk) (ob := K61.ob) (M := 12000) (loose := K61.loose1 ++ K61.loose2)
    (d := HandSHeadRun.topDef (OpenLaw.row PySem.Challenge.rw_leastlinks_k91_whole_texts_of_code).prog 68) (kwd := []) K61.ob_eq (by kernel_rfl) (fun s => by kernel_rfl) K61.run (by kernel_rfl) (by kernel_rfl) (by kernel_rfl) (by rfl) (by first | assumption | decide +kernel) (by decide +kernel)
    ⟨rfl, rfl, rfl, rfl, rfl, by decide +kernel⟩ ?hw ?hc
  case hw => w_witness2
  case hc =>
    refine DL.walk_ofN (l := PySem.Challenge.rw_leastlinks_k91_whole_texts_of_code) (m := 63) (k := 43) (x := "_law_script") (sp := K61.spLaw) rfl (by decide) (by kernel_rfl) ⟨rfl, by decide, by decide⟩ ?F (fun K H a ns hl _ hS => ⟨a, ns, rfl, hS, hl, fun H' s => ⟨rfl, s⟩⟩)
    intro w mg fa s₀ h y keeps G hmg0
    obtain ⟨K, KX, ok, tk, e, dc⟩ := K61.obs_at y
    have hmg : mg ("law" : PySem.Str) = some (.ref fa) := by
      have z : (HandSHeadRun.topDef (OpenLaw.row PySem.Challenge.rw_leastlinks_k91_whole_texts_of_code).prog 68).name = ("law" : PySem.Str) := by kernel_rfl
      rw [← z]
      exact hmg0
    have KX2 : K.In h := KX.keeps keeps
    obtain ⟨fd, hb, hF⟩ := K61.all_mk (P := (PySem.Challenge.rw_leastlinks_k91_whole_texts_of_code).prog) (w := w) KX2 G hmg e ok tk dc
    exact ⟨K, fd, KX2, hb, hF⟩
