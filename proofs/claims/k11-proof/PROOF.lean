import PyProof.Rows.All
import Wide.All
import OpenK.AllK
import Wide.FinOn
import PySem.Challenge.RW_leastlinks_k11_names_versions_labels_pat
import PyProof.EqAt
import PyProof.EqKinds
import PyProof.TupleCall
import KE.KFromBytes
import HandS.ForMost
import HandS.ForExc
import HandS.ExcInit
import KE.KExcInit
import HandS.LawCells
import HandS.IsInst
import HandS.MakeKw
import KE.KExcIs
import HandS.Walk
import HandS.TupAny
import HandS.TupMul
import HandS.FStr
import HandS.Deep
import PyProof.NeKinds
import HandS.Zip
import HandS.RaiseMore
import PyProof.CallFns
import PyProof.StrBlockL
import HandS.More
import HandS.Style
import HandS.WideBits
import HandS.Text
import HandS.CallLocal
import KE.IntTextLaws
import PyProof.Rows.StrSplitJoin
import PyProof.Rows.StrFirst
import PyProof.Rows.StrFirst2
import PyProof.Rows.StrPartPair
import PyProof.Rows.StrSplitCount
import PyProof.Rows.StrLawsPart
import HandS.TryMany
import HandS.WordsExc
import PyProof.StrLawsRepr
import PyProof.Rows.ReprOcc
import HandS.HeadHook1
import HandS.HeadHook2
import HandS.Head0
import HandS.Head1
import HandS.Head2
set_option Elab.async false
set_option linter.all false
set_option maxRecDepth 100000
set_option maxHeartbeats 0
namespace PySem
namespace OEG
open PySem.W PySem.Calls PyProof.Rows PySem.HandSPX
section
variable {M : Model} {A : Around} {E : Value → Shared → Prop} {h : Heap} {g : Array GenState} {d : Drawn} {t : Nat} {os : OsState}
variable {nm q : Str} {C N : Addr} {bs bm bmB : List Value} {hdct : Bool} {sn : List Str} {sub : List Value} {ab : Bool} {col : Option Bool} {dd : Option Addr} {k0 k1 k2 k3 k5 : Option Value} {B newId initId : String}
theorem check_new_kw (F : ExcBaseFacts B newId initId bmB) (hT : ∀ X : String, bm.contains (.type X) = bmB.contains (.type X)) {rest : List Value} {kw : List (Str × Value)} {Q : Unit → Shared → Prop}
    (hC : h.get? C = some (excClassObj nm q C N bs bm hdct sn sub ab col dd k0 k1 k2 k3 k5 newId)) (hq : Q () ⟨h, g, d, t, os⟩) : wpAny M A (checkBuiltinCall newId ⟨.ref C :: rest, kw⟩) Q E ⟨h, g, d, t, os⟩ := by
  have hcont : (Value.ref C :: bm).contains (.type B) = true := by rw [List.contains_cons, hT, F.hasB, Bool.or_true]
  have hstar := F.noStar
  simp only [checkBuiltinCall, F.newKind, F.newSplit, F.newRow]
  repeat (first | refine wpAny_loadPart_at hC ?_ | (refine wpAny_isSubtype_exc hC ?_; rw [hcont]) | refine wpAny_staticBase_exc hC ?_ | refine wpAny_madeBy_exc hC ?_ | simp only [bne_self_eq_false, Bool.false_eq_true, if_false] | wp_step)
  exact hq
end
section
variable {prog : Program} {w : World} {A : Around} {E : Value → Shared → Prop} {R : Result → Shared → Prop} {h : Heap} {g : Array GenState} {d : Drawn} {t : Nat} {os : OsState}
variable {nm q : Str} {C N : Addr} {bs bm bmB : List Value} {hdct : Bool} {sn : List Str} {sub : List Value} {ab : Bool} {col : Option Bool} {dd : Option Addr} {k0 k1 k2 k3 k5 : Option Value} {B newId initId : String}
theorem new_kw (F : ExcBaseFacts B newId initId bmB) (hT : ∀ X : String, bm.contains (.type X) = bmB.contains (.type X)) {rest : List Value} {kw : List (Str × Value)}
    (hC : h.get? C = some (excClassObj nm q C N bs bm hdct sn sub ab col dd k0 k1 k2 k3 k5 newId))
    (hq : R (.ok (.ret (.ref (h.objs.size + 1)))) ⟨(h.push { cls := .type "tuple", data := .seq rest.toArray }).push
      { cls := .ref C, data := .fields #[.ref h.objs.size, .none, .none, .none, .bool false, .none] }, g, d, t, os⟩) (hrest : rest.length ≤ sizeLine) :
    codeAny (model prog w) A (.builtin newId ⟨.ref C :: rest, kw⟩) R ⟨h, g, d, t, os⟩ := by
  have hends := F.ends
  have hcB : (Value.ref C :: bm).contains (.type B) = true := by rw [List.contains_cons, hT, F.hasB, Bool.or_true]
  have hcA : (Value.ref C :: bm).contains (.type "AttributeError") = false := by rw [List.contains_cons, hT, F.noAttr]; rfl
  have hcN : (Value.ref C :: bm).contains (.type "NameError") = false := by rw [List.contains_cons, hT, F.noName]; rfl
  refine codeAny_builtinAt F.entry ?_
  unfold Builtin.«BaseException.__new__»
  refine wpAt_bind ?_
  show wpAt _ _ _ (stack >>= _) _ _ _
  refine wpAt_bind (wpAt_stack fun p below => wpAt_of_wpAny ?_)
  wp_walk
  refine wpAt_of_wpAny ?_
  rw [F.owner]
  repeat (first | with_reducible refine wpAny_madeHere_exc F.canon hC ?_ | with_reducible refine wpAny_loadPart_at hC ?_ | (with_reducible refine wpAny_isSubtype_exc hC ?_; first | rw [hcB] | rw [hcA] | rw [hcN]) | wp_step)
  show R _ _
  rw [Heap.size_push]
  exact hq
theorem type_call_kw (F : ExcBaseFacts B newId initId bmB) (hT : ∀ X : String, bm.contains (.type X) = bmB.contains (.type X)) {rest : List Value} {kw : List (Str × Value)} {fI : Addr} {Q : Fin → Shared → Prop}
    (hC : h.get? C = some (excClassObj nm q C N bs bm hdct sn sub ab col dd k0 k1 k2 k3 k5 newId))
    (hi : W.Looks (model prog w) h (typeLookup (.ref C) "__init__") (some (.ref fI))) (hb : ∀ self, W.Looks (model prog w) h (bindSpecial (.ref fI) self) (.ref fI, [self])) (hrest : rest.length ≤ sizeLine)
    (hq : codeAny (model prog w) A (.call (.ref fI) ⟨.ref (h.objs.size + 1) :: rest, kw⟩)
      (fun r s' => match r with | .ok (.ret v) => v = .none ∧ Q (.done (.ret (.ref (h.objs.size + 1)))) s' | .ok _ => False | .error e => E e s')
      ⟨(h.push (W.kdv_tup rest)).push (excO C h.objs.size), g, d, t, os⟩) :
    wpAny (model prog w) A (Builtin.«type.__call__» ⟨.ref C :: rest, kw⟩) Q E ⟨h, g, d, t, os⟩ := by
  repeat (first | with_reducible refine wpAny_loadPart_at hC ?_ | with_reducible refine wpAny_madeBy_exc hC ?_ | wp_step)
  refine codeAny_call_builtin_code (Code.quiet_builtin _ F.quiet) (check_new_kw F hT hC ?_)
  refine new_kw F hT hC ?_ hrest
  show wpAny _ _ _ _ _ _
  have k : ∀ b o, h.get? b = some o → ((h.push (W.kdv_tup rest)).push (excO C h.objs.size)).get? b = some o := fun b o e => Heap.get?_push_of_some _ (Heap.get?_push_of_some _ e)
  have hC₁ := k _ _ hC
  have hget : ((h.push (W.kdv_tup rest)).push (excO C h.objs.size)).get? (h.objs.size + 1) = some (excO C h.objs.size) := by heap_get
  have hcC : (Value.ref C :: bm).contains (.ref C) = true := by simp
  have i1 := hi.keeps k
  have b1 := (hb (.ref (h.objs.size + 1))).keeps k
  unfold isInstance
  repeat (first | with_reducible refine wpAny_loadPart_at hget ?_ | (with_reducible refine wpAny_isSubtype_exc hC₁ ?_; rw [hcC]) | wp_step)
  show wpAny _ _ (typeLookup (.ref C) _) _ _ _
  refine i1.at ?_
  refine wpAny_holding (wpAny_bind (b1.at ?_))
  refine wpAny_bind (wpAny_call (codeAny_mono hq fun r s' z => ?_))
  rcases r with e | (v | _ | _ | _) <;> first | exact z | exact z.elim | skip
  obtain ⟨rfl, z⟩ := z
  first
    | exact wpAny_pure (wpAny_pure z)
    | (wp_walk; exact z)
theorem call_kw (F : ExcBaseFacts B newId initId bmB) (hT : ∀ X : String, bm.contains (.type X) = bmB.contains (.type X)) {rest : List Value} {kw : List (Str × Value)} {fI : Addr}
    (hC : h.get? C = some (excClassObj nm q C N bs bm hdct sn sub ab col dd k0 k1 k2 k3 k5 newId))
    (hi : W.Looks (model prog w) h (typeLookup (.ref C) "__init__") (some (.ref fI))) (hb : ∀ self, W.Looks (model prog w) h (bindSpecial (.ref fI) self) (.ref fI, [self])) (hrest : rest.length ≤ sizeLine)
    (hq : codeAny (model prog w) (A.under (.builtin "type.__call__" ⟨.ref C :: rest, kw⟩)) (.call (.ref fI) ⟨.ref (h.objs.size + 1) :: rest, kw⟩) (W.InitBack (h.objs.size + 1) R)
      ⟨(h.push (W.kdv_tup rest)).push (excO C h.objs.size), g, d, t, os⟩) :
    codeAny (model prog w) A (.call (.ref C) ⟨rest, kw⟩) R ⟨h, g, d, t, os⟩ := by
  have f1 := tc_lookup
  have f2 := tc_bind (.ref C)
  have hTy : (⟨h, g, d, t, os⟩ : Shared).TypeIs (.ref C) "type" := ⟨_, hC, rfl⟩
  refine codeAny_of_tree ?_
  show wpAny _ _ (callAny (.ref C) _) _ _ _
  repeat (any_goals (first | assumption | with_reducible refine wpAny_loadPart_at hC ?_ | wp_step))
  refine ⟨rfl, ?_⟩
  refine codeAny_call_builtin_at (Code.quiet_builtin _ (by decide +kernel)) entry_typeCall (wpAny_check_type_call_sub hC (type_call_kw F hT hC hi hb hrest ?_))
  refine codeAny_mono hq fun r s' z => ?_
  rcases r with e | (v | _ | _ | _) <;> exact z
end
/-! ### self.name = v behind the classes' descriptors (osa_openX leads here), any base -/
section
open Builtin Builtin.ObjectAttr
variable {M : Model} {A : Around} {E : Value → Shared → Prop} {hp : Heap} {g : Array GenState} {d : Drawn} {t : Nat} {os : OsState} {K : W.Frag} {C x : Addr} {fv : Array Value} {nme : Str} {tk : Tok} {v : Value} {b : Bool} {Q : Fin → Shared → Prop}
theorem own_first (X : K.In hp) (hd : W.hasDictIn K C = true) (hx : hp.get? x = some { cls := .ref C, data := .fields fv })
    (hq : ∀ h' tk' dx, (∀ b o, b ≠ x → hp.get? b = some o → h'.get? b = some o) → hp.objs.size ≤ dx → dx ≠ x → h'.get? x = some { cls := .ref C, dict := some dx, data := .fields fv } → h'.Ns1 dx (fun y => if y = nme then some v else none) →
      Q (.done (.ret .none)) ⟨h', g, d, tk', os⟩) : wpAny M A (storeInOwnDict (.ref x) (.ref C) (.str nme tk) nme v b) Q E ⟨hp, g, d, t, os⟩ := by
  obtain ⟨⟨c1, c2, c3, c4, c5, c6, c7, c8, c9, c10, c11⟩, hc, h1⟩ := W.any_some hd
  dsimp only at h1
  subst h1
  have L : W.Looks M hp (classData C) _ := W.looks_clsIn X hc
  have ne : hp.objs.size ≠ x := Nat.ne_of_gt (Heap.lt_size hx)
  unfold storeInOwnDict ownDictForStores
  repeat (first | with_reducible refine store_in_new ?_ ?_ | with_reducible refine wpAny_loadPart_at hx ?_ | with_reducible refine L.at ?_ | wp_step)
  · exact ⟨_, #[], _, (Heap.get?_update_ne _ _ _ _ ne).trans (Heap.get?_push_at rfl rfl), rfl, fun _ z => absurd z (by simp), fun _ => rfl⟩
  · intro h' tk' n1 n2
    refine hq h' tk' hp.objs.size (fun c o h3 h4 => ?_) (Nat.le_refl _) ne ?_ n1
    · have h5 : c ≠ hp.objs.size := Nat.ne_of_lt (Heap.lt_size h4)
      rw [n2.2 c h5, Heap.get?_update_ne _ _ _ _ h3]
      exact Heap.get?_push_of_some _ h4
    · rw [n2.2 x (Ne.symm ne)]
      exact Heap.get?_update_self _ (Heap.get?_push_of_some _ hx) rfl
theorem own_next {dx : Addr} {m0 : Str → Option Value} {nl : List Str} (X : K.In hp) (hd : W.hasDictIn K C = true) (hx : hp.get? x = some { cls := .ref C, dict := some dx, data := .fields fv }) (hns : hp.Ns1 dx m0) (hw : Within m0 nl) (hz : nl.length ≤ 1000)
    (hq : ∀ h' tk', (∀ b o, b ≠ dx → hp.get? b = some o → h'.get? b = some o) → h'.Ns1 dx (fun y => if y = nme then some v else m0 y) → Q (.done (.ret .none)) ⟨h', g, d, tk', os⟩) :
    wpAny M A (storeInOwnDict (.ref x) (.ref C) (.str nme tk) nme v b) Q E ⟨hp, g, d, t, os⟩ := by
  obtain ⟨⟨c1, c2, c3, c4, c5, c6, c7, c8, c9, c10, c11⟩, hc, h1⟩ := W.any_some hd
  dsimp only at h1
  subst h1
  have L : W.Looks M hp (classData C) _ := W.looks_clsIn X hc
  unfold storeInOwnDict ownDictForStores
  repeat (first | with_reducible refine OEX.store_in_old hns hw hz ?_ | with_reducible refine wpAny_loadPart_at hx ?_ | with_reducible refine L.at ?_ | wp_step)
  exact fun h' tk' n1 n2 => hq h' tk' (fun c o h3 h4 => (n2.2 c h3).trans h4) n1
end
end OEG
end PySem
namespace L2
open PySem PySem.Spec PyProof.Rows
/-- what the written part says of an own class of errors, whatever its base is -/
structure OexG (K : PySem.W.Frag) (C : Addr) : Prop where
  cls : ∃ (B newId initId : String) (bmB : List Value), ExcBaseFacts B newId initId bmB ∧ StoreFacts B bmB "object.__setattr__" "object" ∧ PySem.W.excInitIn K C bmB newId = true ∧ PySem.W.excOver K C bmB = true
  sa : PySem.W.findIn K (.ref C) "__setattr__" = some (some (.builtin "object.__setattr__"))
  exC : PySem.W.subIn K (.ref C) (.type "BaseException") = some true
  kC : PySem.W.keepIn K (.ref C) = true
  ga : PySem.W.findIn K (.ref C) "__getattribute__" = some (some (.builtin "BaseException.__getattribute__"))
  gg : PySem.W.findIn K (.ref C) "__getattr__" = some none
  hd : PySem.W.hasDictIn K C = true
  ha : PySem.W.findIn K (.ref C) "__class__" = some (some (.builtin "object.__class__"))
  hm : PySem.W.mroIn K C (.type "object") = some true
theorem no_taker {K : PySem.W.Frag} {C : Addr} {f : Str} (h : PySem.W.findIn K (.ref C) f = some none) : PySem.W.takerIn K C f = some none := by
  unfold PySem.W.takerIn
  rw [h]
  rfl
/-- at a: an error of the class at C, with these fields -/
def ErrAt (H : Hp) (a C : Addr) (kvs : List (Str × V)) : Prop :=
  (∃ d, H a = some (exo a C d) ∧ ∀ dd, d = some dd → ∃ l, H dd = some (exd dd l)) ∧ ∀ f v, kvs.lookup f = some v → ∃ d l, H a = some (exo a C (some d)) ∧ H d = some (exd d l) ∧ l.lookup f = some v
theorem ErrAt.same {H H' : Hp} {a C : Addr} {kvs : List (Str × V)} (e : ErrAt H a C kvs) (s : Same H H') : ErrAt H' a C kvs := by
  obtain ⟨⟨d, h1, h3⟩, h2⟩ := e
  refine ⟨⟨d, s _ _ h1, fun dd q => ?_⟩, fun f v h => ?_⟩
  · obtain ⟨l, z⟩ := h3 dd q
    exact ⟨l, s _ _ z⟩
  obtain ⟨d, l, x, y, z⟩ := h2 f v h
  exact ⟨d, l, s _ _ x, s _ _ y, z⟩
section
variable {X : Cx} {pins : List (Addr × Obj)} {σ : St} {H : Hp} {s : Shared} {a C dx : Addr} {f : Str} {y : V} {u : Value} {fs : List (Str × V)} {Q : Unit → Shared → Prop} {E : Value → Shared → Prop} {A : Around}
/-- a first field is stored: where the error had no dict, it has one now -/
theorem ostG_new (T : OexG X.K C) (I : Inv X pins σ H s) (e : H a = some (exo a C none)) (hno : PySem.W.findIn X.K (.ref C) f = some none) (ry : RelV y u)
    (h : ∀ dx s', H dx = none → dx ≠ a → Inv X pins σ (upd (upd H dx (exd dx [(f, y)])) a (exo a C (some dx))) s' → Q () s') : wpAny (model X.prog X.w) A (setAttr (.ref a) f u) Q E s := by
  obtain ⟨B, newId, initId, bmB, FB, SB, ei, eo⟩ := T.cls
  obtain ⟨t1, ho⟩ := exo_at I.hok e
  obtain ⟨hp, g, d, t, os⟩ := s
  have J : ∀ tk, PySem.W.InstAt (⟨hp, g, d, tk, os⟩ : Shared).heap a { cls := .ref C, dict := none, data := .fields #[.ref t1, .none, .none, .none, .bool false, .none] } C none := fun _ => ⟨ho, rfl, rfl, trivial⟩
  refine PySem.W.set_plain I.kIn (J t) T.sa (PySem.W.osa_openX SB I.kIn (J _) eo (no_taker hno) fun b => ?_)
  refine PySem.OEG.own_first I.kIn T.hd ho fun h' tk' dx k dn dne hx hn => ?_
  have hnd : H dx = none := I.hok.fresh dn
  have old : ∀ b o, H b = some o → b ≠ a → (upd (upd H dx (exd dx [(f, y)])) a (exo a C (some dx))) b = some o := fun b o z n => by
    rw [upd_ne n, upd_ne (ne_of_none z hnd)]
    exact z
  have other : ∀ b o, H b = some o → o ≠ exo a C none → b ≠ a := fun b o z n w => by
    rw [w, e] at z
    exact n (Option.some.inj z).symm
  have notA : ∀ b, H b = none → b ≠ a := fun b n z => by
    rw [z, e] at n
    cases n
  refine h dx _ hnd dne (I.un (t' := tk') ⟨fun b o q n _ _ => k b o (notA b n) q, fun b o q n _ _ => ⟨o.slots, k b o (notA b n) q⟩, fun b o q n _ => ?_, fun b o q _ => ?_, fun b xs q => ?_, fun b o v q => ?_, fun b ps q => ⟨#[], ?_⟩⟩ fun b o q => ?_)
  · have n2 : b ≠ dx := Nat.ne_of_lt (Nat.lt_of_lt_of_le (Heap.lt_size q) dn)
    rw [upd_ne (notA b n), upd_ne n2]
    exact n
  · by_cases w : b = a
    · exact ⟨_, by rw [w]; exact hx⟩
    · exact ⟨o, k b o w q⟩
  · exact old b _ q (other b _ q (Ne.symm exo_tup))
  · exact old b _ q (other b _ q (Ne.symm exo_frz))
  · rw [old b _ q (other b _ q (Ne.symm exo_tbl))]
    simp
  · by_cases w : b = a
    · rw [w, upd_same] at q
      rw [w, ← Option.some.inj q]
      exact exo_ok hx
    · rw [upd_ne w] at q
      by_cases w2 : b = dx
      · rw [w2, upd_same] at q
        rw [w2, ← Option.some.inj q]
        exact exd_ok hn (relO_put (fs := []) ry fun _ => True.intro)
      · rw [upd_ne w2] at q
        refine (I.hok b o q).stay (fun c v hc z => k c v ?_ z) (fun c hc => old c _ hc (other c _ hc (Ne.symm exo_own))) fun c xs hc => old c _ hc (other c _ hc (Ne.symm exo_tup))
        rcases hc with rfl | hc
        · exact w
        · exact other c _ hc (Ne.symm exo_own)
/-- a further field is stored -/
theorem ostG_old (T : OexG X.K C) (I : Inv X pins σ H s) (e : H a = some (exo a C (some dx))) (ed : H dx = some (exd dx fs)) (hl : fs.length ≤ 900) (hno : PySem.W.findIn X.K (.ref C) f = some none) (ry : RelV y u)
    (h : ∀ s', Inv X pins σ (upd H dx (exd dx ((f, y) :: fs))) s' → Q () s') : wpAny (model X.prog X.w) A (setAttr (.ref a) f u) Q E s := by
  obtain ⟨B, newId, initId, bmB, FB, SB, ei, eo⟩ := T.cls
  obtain ⟨t1, ho⟩ := exo_at I.hok e
  obtain ⟨mA, hns, rel⟩ := exd_at I.hok ed
  have hw := within_of rel
  obtain ⟨hp, g, d, t, os⟩ := s
  obtain ⟨oD, _, _, hoD, _, _⟩ := hns.count hw
  have J : ∀ tk, PySem.W.InstAt (⟨hp, g, d, tk, os⟩ : Shared).heap a { cls := .ref C, dict := some dx, data := .fields #[.ref t1, .none, .none, .none, .bool false, .none] } C (some oD) := fun _ => ⟨ho, rfl, rfl, hoD⟩
  refine PySem.W.set_plain I.kIn (J t) T.sa (PySem.W.osa_openX SB I.kIn (J _) eo (no_taker hno) fun b => ?_)
  refine PySem.OEG.own_next I.kIn T.hd ho hns hw (by rw [List.length_map]; omega) fun h' tk' k hn => ?_
  have hd : ∃ o, h'.get? dx = some o := by
    obtain ⟨o, _, _, z, _⟩ := hn
    exact ⟨o, z⟩
  exact h _ (I.write (t' := tk') (x := dx) (e := dx) (o := exd dx ((f, y) :: fs)) (by rw [ed]; exact True.intro) (.inl rfl) k hd (exd_ok hn (relO_put ry rel)))
end
/-- self.f = e -/
def tOstG (K : PySem.W.Frag) (f : Str) (to te : TE) : TS := fun D σ H => te σ H fun y H1 => to σ H1 fun x H2 => ∃ a C : Addr, x = .ref a ∧ OexG K C ∧ PySem.W.findIn K (.ref C) f = some none ∧
  ((H2 a = some (exo a C none) ∧ ∀ dx, H2 dx = none → dx ≠ a → D.nx σ (upd (upd H2 dx (exd dx [(f, y)])) a (exo a C (some dx)))) ∨
    ∃ (dx : Addr) (fs : List (Str × V)), H2 a = some (exo a C (some dx)) ∧ H2 dx = some (exd dx fs) ∧ fs.length ≤ 900 ∧ D.nx σ (upd H2 dx (exd dx ((f, y) :: fs))))
theorem ps_ostG {X : Cx} {o e : Expr} {to te : TE} {f : Str} {p' pos : Pos} (ho : PE X o to) (he : PE X e te) (hs : swapsWith e (some (.Attribute o f p')) pos.line X.env = pure false := by rfl) : PS X (.Assign [.Attribute o f p'] e pos) (tOstG X.K f to te) := by
  refine ⟨fun pins s σ H D I h => ?_⟩
  refine plainObj_wpAny_Assign_Attribute (thn (he.run pins s σ H _ I h) fun v s1 ⟨y, H1, I1, r1, q1⟩ => thn (ho.run pins s1 σ H1 _ I1 q1) fun u s2 ⟨x, H2, I2, r2, a, C, ex, T, hno, q⟩ => ?_) hs
  subst ex
  obtain rfl : u = Value.ref a := r2
  rcases q with ⟨ea, q⟩ | ⟨dx, fs, ea, ed, hl, q⟩
  · exact ostG_new T I2 ea hno r1 fun dx s' n ne J => ⟨σ, _, J, q dx n ne⟩
  · exact ostG_old T I2 ea ed hl hno r1 fun s' J => ⟨σ, _, J, q⟩
/-! ### C(..), the own __init__ as a def -/
section
variable {X : Cx} {CX : CXT} {k : Nat} {fI C : Addr} {fd : FuncData} {ps : List Str} {sp : Sp} {pins : List (Addr × Obj)} {σ : St} {H1 : Hp} {s : Shared} {Q : VK}
theorem run_exc (T : OexG X.K C) (iC : PySem.W.findIn X.K (.ref C) "__init__" = some (some (.ref fI))) (tI : PySem.W.typeIn X.K (.ref fI) = some (.type "function"))
    (F1 : FnOk X.prog X.w X.K X.mg X.base CX k fI fd ps sp) (hr : Room (k + 1) X.A) (hx : Passes CX X (fun _ _ _ => False)) (I1 : Inv X pins σ H1 s) {us : List Value} {kw : List (Str × Value)} {bs : Addr → List Value} {vs : Addr → List V}
    (hus : us.length ≤ sizeLine) (r2 : ∀ a, Vals (vs a) (bs a)) (hb : ∀ (s' : Shared) (a : Addr), X.K.In s'.heap → BindsTo s' fd ⟨.ref a :: us, kw⟩ (ps.zip (bs a)))
    (hq : ∀ a, H1 a = none → sp (vs a) (upd H1 a (exo a C none)) (fun v H2 => v = .non ∧ Q (.ref a) H2) (fun _ _ _ => False)) :
    wpAny (model X.prog X.w) X.A (call (.ref C) us kw) (EP X pins σ Q) X.xe s := by
  obtain ⟨B, newId, initId, bmB, FB, SB, ei, eo⟩ := T.cls
  obtain ⟨nm, N, q, bs', bm, hdct, sn, sub, ab, col, dd, k0, k1, k2, k3, k5, hC, hbm⟩ := PySem.W.excInit_of I1.kIn ei
  obtain ⟨hp, g, dr, tk, os⟩ := s
  have hsz : hp.objs.size ≤ hp.objs.size + 1 := Nat.le_succ _
  have hn : H1 (hp.objs.size + 1) = none := I1.hok.fresh hsz
  have hq1 := hq (hp.objs.size + 1) hn
  have kk : ∀ b o, hp.get? b = some o → ((hp.push (PySem.W.kdv_tup us)).push (PySem.HandSPX.excO C hp.objs.size)).get? b = some o := fun b o e => Heap.get?_push_of_some _ (Heap.get?_push_of_some _ e)
  have hget : ((hp.push (PySem.W.kdv_tup us)).push (PySem.HandSPX.excO C hp.objs.size)).get? (hp.objs.size + 1) = some (PySem.HandSPX.excO C hp.objs.size) := by heap_get
  have I2 : Inv X pins σ (upd H1 (hp.objs.size + 1) (exo (hp.objs.size + 1) C none)) ⟨(hp.push (PySem.W.kdv_tup us)).push (PySem.HandSPX.excO C hp.objs.size), g, dr, tk, os⟩ :=
    I1.laid (t' := tk) (a := hp.objs.size + 1) (o := exo (hp.objs.size + 1) C none) (h' := (hp.push (PySem.W.kdv_tup us)).push (PySem.HandSPX.excO C hp.objs.size)) kk hsz (exo_ok hget)
  refine wpAny_call (PySem.OEG.call_kw FB hbm hC (PySem.W.looks_findIn I1.kIn iC) (fun self => PySem.W.bind_fn I1.kIn self tI) hus
    (codeAny_mono (F1.run _ X.stack _ _ ⟨Value.ref (hp.objs.size + 1) :: us, kw⟩ (bs (hp.objs.size + 1)) _ _ (fun _ _ _ => False) (hr.make C us kw) (I2.env0.make C us kw) (hb _ _ I2.kIn) (r2 _) hq1) fun r s' hq' => ?_))
  cases r with
  | error er => exact hx pins σ _ _ er s' I2 hq'
  | ok fl =>
    cases fl with
    | ret u =>
      obtain ⟨v, H', I3, rv, ev, q3⟩ := I2.after hq'
      subst ev
      exact ⟨rv, ⟨V.ref (hp.objs.size + 1), H', I3, rfl, q3⟩⟩
    | next => exact False.elim hq'
    | brk => exact False.elim hq'
    | cont => exact False.elim hq'
end
/-- an __init__'s promise: the fields fs hold what was handed in -/
def spIni (C : Addr) (fs : List Str) : Sp := fun vs H Q _ => ∃ (a : Addr) (ys : List V), vs = .ref a :: ys ∧ ys.length = fs.length ∧ H a = some (exo a C none) ∧
  ∀ H2 : Hp, (∀ b o, b ≠ a → H b = some o → H2 b = some o) → ErrAt H2 a C (fs.zip ys) → Q .non H2
/-- a class of errors as the top has made it: its name, its address, its fields -/
structure ExCls (P : Program) (w : World) (K : PySem.W.Frag) (mg : Str → Option Value) (base : Heap) (x : Str) (C : Addr) (fs : List Str) : Prop where
  T : OexG K C
  gC : mg x = some (.ref C)
  ini : ∃ (fI : Addr) (fd : FuncData), PySem.W.findIn K (.ref C) "__init__" = some (some (.ref fI)) ∧ PySem.W.typeIn K (.ref fI) = some (.type "function") ∧
    FnOk P w K mg base CX0 1 fI fd (("self" : Str) :: fs) (spIni C fs) ∧
    (∀ (s : Shared) (us : List Value), us.length = fs.length + 1 → BindsTo s fd ⟨us, []⟩ ((("self" : Str) :: fs).zip us)) ∧
    (∀ (s : Shared) (a : Addr) (ws : List Value), ws.length = fs.length → BindsTo s fd ⟨[.ref a], fs.reverse.zip ws⟩ ((("self" : Str) :: fs).zip (.ref a :: ws.reverse)))
/-- C(e, ..) -/
def tNewE (C : Addr) (fs : List Str) (ta : TA) : TE := fun σ H Q => ta σ H fun zs H1 => zs.length = fs.length ∧ ∀ (a : Addr) (H2 : Hp), Same H1 H2 → ErrAt H2 a C (fs.zip zs) → Q (.ref a) H2
/-- C(f = e, ..), the fields from behind -/
def tNewK (C : Addr) (fs : List Str) (ta : TA) : TE := fun σ H Q => ta σ H fun zs H1 => zs.length = fs.length ∧ ∀ (a : Addr) (H2 : Hp), Same H1 H2 → ErrAt H2 a C (fs.zip zs.reverse) → Q (.ref a) H2
section
variable {X : Cx} {x : Str} {C : Addr} {fs : List Str} {e : Expr} {es : List Expr} {kws : List Keyword} {ta : TA} {p pos : Pos}
theorem small_line {n m : Nat} (h : n = m) (hm : m ≤ 5) : n ≤ sizeLine := by
  rw [sizeLine_eq]
  omega
theorem spIni_at {H1 : Hp} {a : Addr} {ys : List V} {Q : VK} {E : XK} (hn : H1 a = none) (hl : ys.length = fs.length) (q : ∀ (a : Addr) (H2 : Hp), Same H1 H2 → ErrAt H2 a C (fs.zip ys) → Q (.ref a) H2) :
    spIni C fs (.ref a :: ys) (upd H1 a (exo a C none)) (fun v H2 => v = .non ∧ Q (.ref a) H2) E :=
  ⟨a, ys, rfl, hl, upd_same, fun H2 k e => ⟨rfl, q a H2 (fun b o hb => k b o (ne_of_none hb hn) (by rw [upd_ne (ne_of_none hb hn)]; exact hb)) e⟩⟩
theorem pe_newE (G : ExCls X.prog X.w X.K X.mg X.base x C fs) (h5 : fs.length ≤ 5) (hr : Room 2 X.A) (hg : Gl X x) (ha : PA X (e :: es) ta) (hx : Passes CX0 X (fun _ _ _ => False))
    (hdb : (x == ("__debug__" : Str)) = false := by decide) (he : starEach (e :: es) X.env = (false, eval e X.env) :: starEach es X.env := by rfl) (hpl : (backTo pos (starEach es X.env)).any (·.1) = false := by rfl) :
    PE X (.Call (.Name x p) (e :: es) [] pos) (tNewE C fs ta) := by
  obtain ⟨T, gC, fI, fd, iC, tI, F1, b1, b2⟩ := G
  refine ⟨fun pins s σ H Q I h => ?_⟩
  refine wpAny_Call_Name_kw (ld_glob I hg gC ?_ hdb)
  refine PySem.W.callWith_K (h₀ := X.base) I.ok.mod.kin T.kC (thn (ha.run pos pins s σ H _ I h) fun us s1 ⟨zs, H1, I1, r1, hl, q1⟩ => ⟨I1.kIn, ?_⟩) he hpl
  have hlu : us.length = fs.length := r1.length.symm.trans hl
  exact run_exc T iC tI F1 hr hx I1 (us := us) (kw := []) (bs := fun a => .ref a :: us) (vs := fun a => .ref a :: zs) (small_line hlu h5) (fun a => .cons rfl r1)
    (fun s' a _ => b1 s' (.ref a :: us) (congrArg Nat.succ hlu)) (fun a hn => spIni_at hn hl q1)
theorem pe_newE0 (G : ExCls X.prog X.w X.K X.mg X.base x C []) (hr : Room 2 X.A) (hg : Gl X x) (hx : Passes CX0 X (fun _ _ _ => False)) (hdb : (x == ("__debug__" : Str)) = false := by decide) :
    PE X (.Call (.Name x p) [] [] pos) (tNewE C [] tNil) := by
  obtain ⟨T, gC, fI, fd, iC, tI, F1, b1, b2⟩ := G
  refine ⟨fun pins s σ H Q I h => ?_⟩
  refine wpAny_Call_Name_kw (ld_glob I hg gC ?_ hdb)
  obtain ⟨_, q1⟩ := (show ([] : List V).length = ([] : List Str).length ∧ _ from h)
  refine PySem.W.callWith_K0 I.kIn T.kC ?_
  exact run_exc T iC tI F1 hr hx I (us := []) (kw := []) (bs := fun a => [.ref a]) (vs := fun a => [.ref a]) (small_line rfl (by decide)) (fun a => .cons rfl .nil)
    (fun s' a _ => b1 s' [.ref a] rfl) (fun a hn => spIni_at hn rfl q1)
theorem pe_newK (G : ExCls X.prog X.w X.K X.mg X.base x C fs) (hr : Room 2 X.A) (hg : Gl X x) (hkw : PK X kws ta) (hx : Passes CX0 X (fun _ _ _ => False))
    (hall : (backToKw pos (keywordEach kws X.env)).all (·.1.isSome) = true := by rfl) (hks : (backToKw pos (keywordEach kws X.env)).filterMap (·.1) = fs.reverse := by rfl) (hdb : (x == ("__debug__" : Str)) = false := by decide)
    (hpl : ((backTo pos (starEach [] X.env)).any (·.1) || (backToKw pos (keywordEach kws X.env)).any (·.1.isNone)) = false := by rfl) :
    PE X (.Call (.Name x p) [] kws pos) (tNewK C fs ta) := by
  obtain ⟨T, gC, fI, fd, iC, tI, F1, b1, b2⟩ := G
  refine ⟨fun pins s σ H Q I h => ?_⟩
  refine wpAny_Call_Name_kw (ld_glob I hg gC ?_ hdb)
  refine PySem.W.callWith_KW0 (h₀ := X.base) I.ok.mod.kin T.kC hall ?_ hpl
  refine thn (hkw.run pos pins s σ H _ I h) fun ws s2 ⟨zs, H2, I2, rz, hl, q2⟩ => ⟨I2.kIn, ?_⟩
  rw [hks]
  have hlw : ws.length = fs.length := rz.length.symm.trans hl
  exact run_exc T iC tI F1 hr hx I2 (us := []) (kw := fs.reverse.zip ws) (bs := fun a => .ref a :: ws.reverse) (vs := fun a => .ref a :: zs.reverse) (small_line rfl (by decide)) (fun a => .cons rfl rz.reverse)
    (fun s' a _ => b2 s' a ws hlw) (fun a hn => spIni_at hn (by rw [List.length_reverse]; exact hl) q2)
end
/-! ### e.f -/
def tXat (K : PySem.W.Frag) (f : Str) (te : TE) : TE := fun σ H Q => te σ H fun x H1 => ∃ (a C : Addr) (kvs : List (Str × V)) (v : V), x = .ref a ∧ OexG K C ∧ PySem.W.findIn K (.ref C) f = some none ∧ ErrAt H1 a C kvs ∧ kvs.lookup f = some v ∧ Q v H1
theorem pe_xat {X : Cx} {e : Expr} {te : TE} {f : Str} {pos : Pos} (he : PE X e te) (hb : attributeBase e f X.env (eval e X.env) = eval e X.env := by rfl) : PE X (.Attribute e f pos) (tXat X.K f te) := by
  refine ⟨fun pins s σ H Q I h => ?_⟩
  refine attr_of hb (thn (he.run pins s σ H _ I h) fun u s1 hh => ?_)
  obtain ⟨x, H1, I1, rx, a, C, kvs, v, ex, T, hno, E, l, q⟩ := hh
  subst ex
  obtain rfl : u = Value.ref a := rx
  obtain ⟨d, m, ea, ed, lv⟩ := E.2 f v l
  obtain ⟨t1, ho⟩ := exo_at I1.hok ea
  obtain ⟨mA, hns, hr⟩ := exd_at I1.hok ed
  obtain ⟨od, hod, hl⟩ := lookIn_ns hns
  obtain ⟨u, hu, ru⟩ := RelO.some_of (v := v) (o := mA f) (by rw [← lv]; exact hr f)
  have J : PySem.W.InstAt s1.heap a { cls := .ref C, dict := some d, data := .fields #[.ref t1, .none, .none, .none, .bool false, .none] } C (some od) := ⟨ho, rfl, rfl, hod⟩
  exact HandSPX.exc_get I1.kIn J T.ga T.gg T.exC (PySem.W.findObj_own T.hd hno rfl (by rw [hl, hu])) (handed_of ru) ⟨v, H1, I1.tok _, ru, q⟩
/-! ### isinstance(e, c), isinstance(e, (c, ..)) -/
structure GetC (K : PySem.W.Frag) : Prop where
  hn : PySem.W.specialIn K (.builtin "object.__class__") "__get__" = some (some (.builtin "getset_descriptor.__get__"))
  ht : PySem.W.takesIn K (.builtin "object.__class__") = some true
def rIsX (K : PySem.W.Frag) : List V → Hp → VK → Prop := fun xs H Q => ∃ (a C : Addr) (kvs : List (Str × V)) (c : V) (u : Value) (b : Bool), xs = [.ref a, c] ∧ ClsV c u ∧ OexG K C ∧ ErrAt H a C kvs ∧ PySem.W.kitOne K (.ref C) u = some b ∧ Q (.bl b) H
def rIsXT (K : PySem.W.Frag) : List V → Hp → VK → Prop := fun xs H Q => ∃ (a C : Addr) (kvs : List (Str × V)) (tp : Addr) (cs : List V) (us : List Value) (b : Bool), xs = [.ref a, .ref tp] ∧ H tp = some (.tup cs) ∧ Paired ClsV cs us ∧ OexG K C ∧ ErrAt H a C kvs ∧
  PySem.W.kitAny K (.ref C) us = some b ∧ Q (.bl b) H
section
variable {X : Cx} {pins : List (Addr × Obj)} {σ : St} {H : Hp} {s : Shared}
theorem ErrAt.inst {a C : Addr} {kvs : List (Str × V)} (I : Inv X pins σ H s) (e : ErrAt H a C kvs) : ∃ (ox : Obj) (od : Option Obj), PySem.W.InstAt s.heap a ox C od := by
  obtain ⟨⟨d, ea, hd⟩, _⟩ := e
  obtain ⟨t1, ho⟩ := exo_at I.hok ea
  cases d with
  | none => exact ⟨_, none, ho, rfl, rfl, trivial⟩
  | some dd =>
    obtain ⟨l, z⟩ := hd dd rfl
    obtain ⟨mA, ⟨o, es, ep, h1, h2⟩, hr⟩ := exd_at I.hok z
    exact ⟨_, some o, ho, rfl, rfl, h1⟩
theorem kit_err {a C : Addr} {ox : Obj} {od : Option Obj} (G : GetC X.K) (T : OexG X.K C) : PySem.W.KitX X.K (.ref a) (.ref C) (fun h => PySem.W.InstAt h a ox C od) := by
  have hcl : (PySem.W.clsIn X.K C).isSome = true := by
    obtain ⟨cd, hc, _⟩ := PySem.W.any_some T.hd
    rw [hc]
    rfl
  exact PySem.W.kitx_exc hcl T.ga T.gg T.exC T.ha G.hn G.ht T.hm
theorem call_isX (G : GetC X.K) : CallR X (.builtin "isinstance") (rIsX X.K) := by
  intro pins s σ H xs us Q I r h
  obtain ⟨a, C, kvs, c, u, b, rfl, k, T, E, e, q⟩ := h
  obtain ⟨u1, u2, rfl, r1, r2⟩ := vals2 r
  have e2 := k.eq r2
  subst e2
  cases (show u1 = Value.ref a from r1)
  obtain ⟨ox, od, J⟩ := E.inst I
  exact PySem.W.kia_one (kit_err G T) I.kIn J e (fun z => nomatch z) fun tk => ⟨.bl b, H, I.tok tk, rfl, q⟩
theorem call_isXT (G : GetC X.K) : CallR X (.builtin "isinstance") (rIsXT X.K) := by
  intro pins s σ H xs us Q I r h
  obtain ⟨a, C, kvs, tp, cs, ws, b, rfl, hT, k, T, E, e, q⟩ := h
  obtain ⟨u1, u2, rfl, r1, r2⟩ := vals2 r
  cases (show u2 = Value.ref tp from r2)
  cases (show u1 = Value.ref a from r1)
  obtain ⟨ox, od, J⟩ := E.inst I
  obtain ⟨_, its, rv, o, h1, h2, n, h3⟩ := (show ObjOk X.prog X.w H s.heap tp (.tup cs) from I.hok tp _ hT)
  have e3 := ClsV.all k rv
  subst e3
  obtain ⟨oc, od', dt, sl⟩ := o
  simp only at h2 h3
  subst h2 h3
  exact PySem.W.kia_tup (kit_err G T) I.kIn J h1 e (fun z => nomatch z) fun tk => ⟨.bl b, H, I.tok tk, rfl, q⟩
end
/-! ### the three shapes of __init__ -/
section
variable {P : Program} {w : World} {K : PySem.W.Frag} {mg : Str → Option Value} {base : Heap} {st : Stmt} {qual : Str} {fI C : Addr} {fd : FuncData} {f g : Str}
theorem zip1 {f : Str} {y : V} {h : Str} {v : V} (e : List.lookup h (([f] : List Str).zip [y]) = some v) : h = f ∧ v = y := by
  have e' : List.lookup h [(f, y)] = some v := e
  rw [lookup_put] at e'
  by_cases q : h = f
  · rw [if_pos q] at e'
    exact ⟨q, (Option.some.inj e').symm⟩
  · rw [if_neg q] at e'
    cases e'
theorem ini0 {f1 : Pos} (F : Fun K "__init__" qual st fI fd) (S : FnScope ["self"] ["self"] (defScope st)) (hb : ∃ q, defBody st = [.Pass q]) : FnOk P w K mg base CX0 1 fI fd [("self" : Str)] (spIni C []) := by
  obtain ⟨q, hb⟩ := hb
  refine F.ok S (fun vs H Q E h => ?_) (fun cdv A outer s H vs Q E hr h => ?_)
  · obtain ⟨a, ys, rfl, hl, _⟩ := h
    exact congrArg Nat.succ hl
  · obtain ⟨a, ys, rfl, hl, ha, k⟩ := h
    have : ys = [] := List.length_eq_zero_iff.mp hl
    subst this
    rw [hb]
    refine ⟨_, pss_one ps_pass, ?_⟩
    exact k H (fun b o _ e => e) ⟨⟨none, ha, fun dd q => nomatch q⟩, fun f v e => by cases e⟩
theorem ini1 (df : (f == ("__debug__" : Str)) = false) (dcf : (f == ("__classdict__" : Str)) = false) (F : Fun K "__init__" qual st fI fd) (S : FnScope [("self" : Str), f] [("self" : Str), f] (defScope st)) (hb : ∃ q1 q2 q3 q4, defBody st = [.Assign [.Attribute (.Name "self" q1) f q2] (.Name f q3) q4]) (T : OexG K C) (no : PySem.W.findIn K (.ref C) f = some none) :
    FnOk P w K mg base CX0 1 fI fd [("self" : Str), f] (spIni C [f]) := by
  obtain ⟨q1, q2, q3, q4, hb⟩ := hb
  refine F.ok S (fun vs H Q E h => ?_) (fun cdv A outer s H vs Q E hr h => ?_)
  · obtain ⟨a, ys, rfl, hl, _⟩ := h
    exact congrArg Nat.succ hl
  · obtain ⟨a, ys, rfl, hl, ha, k⟩ := h
    obtain ⟨y, rfl⟩ : ∃ y, ys = [y] := by
      match ys, hl with
      | [y], _ => exact ⟨y, rfl⟩
    rw [hb]
    refine ⟨_, pss_one (ps_ostG (pe_var (i := 0) rfl (vis_par S List.mem_cons_self)) (pe_var (i := 1) rfl (vis_par S (List.mem_cons_of_mem _ List.mem_cons_self)) (hd := df) (hcd := dcf))), ?_⟩
    refine ⟨y, rfl, .ref a, rfl, a, C, rfl, T, no, .inl ⟨ha, fun dx nd ne => ?_⟩⟩
    refine k _ (fun b o hb e => ?_) ⟨⟨some dx, upd_same, fun dd q => ?_⟩, fun h v e => ?_⟩
    · rw [upd_ne hb, upd_ne (ne_of_none e nd)]
      exact e
    · cases q
      exact ⟨_, by rw [upd_ne ne, upd_same]⟩
    · obtain ⟨rfl, rfl⟩ := zip1 e
      exact ⟨dx, _, upd_same, by rw [upd_ne ne, upd_same], by simp [List.lookup]⟩
theorem ini2 (df : (f == ("__debug__" : Str)) = false) (dcf : (f == ("__classdict__" : Str)) = false) (dg : (g == ("__debug__" : Str)) = false) (dcg : (g == ("__classdict__" : Str)) = false) (F : Fun K "__init__" qual st fI fd) (S : FnScope [("self" : Str), f, g] [("self" : Str), f, g] (defScope st))
    (hb : ∃ q1 q2 q3 q4 r1 r2 r3 r4, defBody st = [.Assign [.Attribute (.Name "self" q1) f q2] (.Name f q3) q4, .Assign [.Attribute (.Name "self" r1) g r2] (.Name g r3) r4]) (T : OexG K C) (no : PySem.W.findIn K (.ref C) f = some none)
    (no2 : PySem.W.findIn K (.ref C) g = some none) : FnOk P w K mg base CX0 1 fI fd [("self" : Str), f, g] (spIni C [f, g]) := by
  obtain ⟨q1, q2, q3, q4, r1, r2, r3, r4, hb⟩ := hb
  have hfg : f ≠ g := fun z => by
    have nd := S.nd
    rw [z] at nd
    simp at nd
  refine F.ok S (fun vs H Q E h => ?_) (fun cdv A outer s H vs Q E hr h => ?_)
  · obtain ⟨a, ys, rfl, hl, _⟩ := h
    exact congrArg Nat.succ hl
  · obtain ⟨a, ys, rfl, hl, ha, k⟩ := h
    obtain ⟨y, z, rfl⟩ : ∃ y z, ys = [y, z] := by
      match ys, hl with
      | [y, z], _ => exact ⟨y, z, rfl⟩
    rw [hb]
    refine ⟨_, pss_cons (ps_ostG (pe_var (i := 0) rfl (vis_par S List.mem_cons_self)) (pe_var (i := 1) rfl (vis_par S (List.mem_cons_of_mem _ List.mem_cons_self)) (hd := df) (hcd := dcf)))
      (pss_one (ps_ostG (pe_var (i := 0) rfl (vis_par S List.mem_cons_self)) (pe_var (i := 2) rfl (vis_par S (List.mem_cons_of_mem _ (List.mem_cons_of_mem _ List.mem_cons_self))) (hd := dg) (hcd := dcg)))), ?_⟩
    refine ⟨y, rfl, .ref a, rfl, a, C, rfl, T, no, .inl ⟨ha, fun dx nd ne => ?_⟩⟩
    refine ⟨z, rfl, .ref a, rfl, a, C, rfl, T, no2, .inr ⟨dx, _, upd_same, by rw [upd_ne ne, upd_same], by show 1 ≤ 900; decide, ?_⟩⟩
    have e1 : (upd (upd (upd H dx (exd dx [(f, y)])) a (exo a C (some dx))) dx (exd dx [(g, z), (f, y)])) a = some (exo a C (some dx)) := by rw [upd_ne (Ne.symm ne), upd_same]
    refine k _ (fun b o hb e => ?_) ⟨⟨some dx, e1, fun dd q => ?_⟩, fun h v e => ?_⟩
    · rw [upd_ne (ne_of_none e nd), upd_ne hb, upd_ne (ne_of_none e nd)]
      exact e
    · cases q
      exact ⟨_, upd_same⟩
    · refine ⟨dx, _, e1, upd_same, ?_⟩
      have e' : List.lookup h [(f, y), (g, z)] = some v := e
      rw [lookup_put] at e'
      rw [lookup_put, lookup_put]
      by_cases q : h = f
      · subst q
        rw [if_pos rfl] at e'
        rw [if_neg hfg, if_pos rfl]
        exact e'
      · rw [if_neg q, lookup_put] at e'
        by_cases q' : h = g
        · rw [if_pos q'] at e' ⊢
          exact e'
        · rw [if_neg q'] at e'
          cases e'
end
end L2
/-! repr of a list where it is known which reprs are under way; defs that are called so -/
namespace L2
open PySem PySem.Spec PyProof.Rows
/-- a def that keeps its promise wherever no repr is under way -/
structure FnG (P : Program) (w : World) (K : PySem.W.Frag) (mg : Str → Option Value) (base : Heap) (k : Nat) (f : Addr) (fd : FuncData) (ps : List Str) (sp : Sp) : Prop where
  len : ∀ vs H Q E, sp vs H Q E → vs.length = ps.length
  run : ∀ (A : Around), A.guards = some [] → Room k A → ∀ (outer : List Env) (s : Shared) (H : Hp) (args : Args) (us : List Value) (vs : List V) (Q : VK) (E : XK),
    Env0 P w K mg base A outer s H → BindsTo s fd args (ps.zip us) → Vals vs us → sp vs H Q E → codeAny (model P w) A (.call (.ref f) args) (CR CX0 outer P w H s Q E) s
section
variable {P : Program} {w : World} {K : PySem.W.Frag} {mg : Str → Option Value} {base : Heap} {k : Nat} {f : Addr} {fd : FuncData} {ps : List Str} {sp : Sp}
theorem Fun.okG {x qual : Str} {st : Stmt} {N : List Str} (F : Fun K x qual st f fd) (S : FnScope N ps (defScope st)) (len : ∀ vs H Q E, sp vs H Q E → vs.length = ps.length)
    (body : ∀ (cdv : Value) (A : Around) (outer : List Env) (s : Shared) (H : Hp) (vs : List V) (Q : VK) (E : XK), A.guards = some [] → Room k (A.deeper (envOfC qual (defScope st) s.heap.objs.size f cdv)) → sp vs H Q E →
      ∃ t, PSs (cxOf CX0 P w K mg base N qual (defScope st) f cdv A outer s H E).nox (defBody st) t ∧ t { nx := fun _ H' => Q .non H', rt := Q } (start N vs) H) : FnG P w K mg base (k + 1) f fd ps sp := by
  refine ⟨len, fun A hgd hr outer s H args us vs Q E e0 hb r hsp => ?_⟩
  obtain ⟨oc, od, kV, doc, pm, an, cdv, ct, osl, rfl, lk, hcd⟩ := F.ex
  obtain ⟨t, ht, hq⟩ := body cdv A outer s H vs Q E hgd (hr.deeper _) hsp
  have ht' := ht.nox
  have inK : K.In s.heap := e0.mod.kin.keeps fun b o e => (e0.bs b o e).1
  refine codeAny_call_function hr.depth (inK _ _ lk) rfl S.co S.gen rfl (PySem.W.codeRec_of inK hcd) (hb _ _ _ _ (wpAny_newFunctionEnv_cells S.kind ?_ ?_))
  · rintro ⟨n, v⟩ hy
    rcases S.par n (List.of_mem_zip hy).1 with q | q
    · exact .inl q
    · exact .inr ⟨q, PySem.W.cellsFrom_some _ _ _ (.inl q)⟩
  · intro env he s1 x
    subst he
    refine ⟨(e0.mod.nolimit.keeps fun b o e => (e0.bs b o e).1).keeps x.toInCall.keep, codeAny_func ?_⟩
    refine wpAny_mono (ht'.run [] s1 (start N vs) H _ (inv_start S hr.hd e0 (len _ _ _ _ hsp) r x) hq) (fun fl s' hs => ?_) fun _ _ hs => hs
    cases fl with
    | ret u =>
      obtain ⟨v, σ', H', J, rv, q⟩ := hs
      exact ⟨v, H', J.os, J.bare, J.base, J.hok, rv, q⟩
    | next =>
      obtain ⟨σ', H', J, q⟩ := hs
      exact ⟨V.non, H', J.os, J.bare, J.base, J.hok, rfl, q⟩
    | brk => exact hs.choose_spec.choose_spec.2.elim
    | cont => exact hs.choose_spec.choose_spec.2.elim
end
section
variable {X : Cx} {k : Nat} {f : Addr} {fd : FuncData} {ps : List Str} {sp : Sp} {x : Str} {p pos : Pos} {e : Expr} {es : List Expr} {t : TA}
theorem pe_callG (F : FnG X.prog X.w X.K X.mg X.base k f fd ps sp) (hgd : X.A.guards = some []) (hr : Room k X.A) (hg : Gl X x) (hm : X.mg x = some (.ref f)) (hk : PySem.W.keepIn X.K (.ref f) = true) (hb : Binds X.K fd ps [])
    (ha : PA X (e :: es) t) (hdb : (x == ("__debug__" : Str)) = false := by decide) (he : starEach (e :: es) X.env = (false, eval e X.env) :: starEach es X.env := by rfl)
    (hpl : (backTo pos (starEach es X.env)).any (·.1) = false := by rfl) : PE X (.Call (.Name x p) (e :: es) [] pos) (tCall sp [] E0 t) := by
  refine ⟨fun pins s σ H Q I h => wpAny_Call_Name_kw (ld_glob I hg hm (PySem.W.callWith_K (h₀ := X.base) I.ok.mod.kin hk (thn (ha.run pos pins s σ H _ I h) fun us s1 ⟨vs, H1, I1, r, q⟩ => ⟨I1.kIn, ?_⟩) he hpl) hdb)⟩
  have q : sp (vs ++ []) H1 Q E0 := q
  rw [List.append_nil] at q
  have hl : (us ++ []).length = ps.length := by
    rw [List.append_nil, ← r.length]
    exact F.len _ _ _ _ q
  have b := hb s1 us I1.kIn hl
  rw [List.append_nil] at b
  refine wpAny_call (codeAny_mono (F.run X.A hgd hr X.stack s1 H1 ⟨us, []⟩ us vs Q E0 I1.env0 b r q) fun r s' z => ?_)
  match r, z with
  | .ok (.ret u), z => exact I1.after z
  | .ok .next, z => exact z.elim
  | .ok .brk, z => exact z.elim
  | .ok .cont, z => exact z.elim
  | .error _, z => exact z.elim
end
/-! ### repr -/
/-- the values that are shown here: plain ones, tuples of such, an empty list, an empty dict -/
inductive DX (H : Hp) : V → PyData → Prop where
  | non : DX H .non .none
  | bl (b : Bool) : DX H (.bl b) (.bool b)
  | int (i : Int) : DX H (.int i) (.int i)
  | str (x : Str) : DX H (.str x) (.str x)
  | nil {a : Addr} (e : H a = some (.lst [])) : DX H (.ref a) (.list [])
  | tup0 {a : Addr} (e : H a = some (.tup [])) : DX H (.ref a) (.tuple [])
  | tup2 {a : Addr} {x : Str} {i : Int} (e : H a = some (.tup [.str x, .int i])) : DX H (.ref a) (.tuple [.str x, .int i])
  | dct {a : Addr} (e : H a = some (.dK [])) : DX H (.ref a) (.dict [])
theorem DX.same {H H' : Hp} {v : V} {d : PyData} (h : DX H v d) (s : Same H H') : DX H' v d := by
  cases h with
  | non => exact .non
  | bl b => exact .bl b
  | int i => exact .int i
  | str x => exact .str x
  | nil e => exact .nil (s _ _ e)
  | tup0 e => exact .tup0 (s _ _ e)
  | tup2 e => exact .tup2 (s _ _ e)
  | dct e => exact .dct (s _ _ e)
section
variable {X : Cx} {pins : List (Addr × Obj)} {σ : St} {H : Hp} {s : Shared}
theorem ne_sys {o : Obj} {a : Addr} {ob : Obj} (ko : s.heap.get? sysModules = some o) (kc : o.cls = .type "dict") (h : s.heap.get? a = some ob) (hc : ob.cls = .type "list") : sysModules ≠ a := fun z => by
  subst z
  rw [ko] at h
  cases h
  rw [kc] at hc
  exact absurd hc (by decide)
theorem DX.reads {o : Obj} (I : Inv X pins σ H s) (ko : s.heap.get? sysModules = some o) (kc : o.cls = .type "dict") {v : V} {d : PyData} {u : Value} (h : DX H v d) (r : RelV v u) : ∃ as, Reads s.heap u d as ∧ sysModules ∉ as := by
  cases h with
  | non => cases r; exact ⟨_, .none, by simp⟩
  | bl b => cases r; exact ⟨_, .bool b, by simp⟩
  | int i => obtain ⟨t, rfl⟩ := r; exact ⟨_, .int i t, by simp⟩
  | str x => obtain ⟨t, rfl⟩ := r; exact ⟨_, .str x t, by simp⟩
  | @nil a e =>
    cases r
    obtain ⟨its, rv, ⟨ob, n, ho, hc, _, hd⟩, _⟩ := I.list (.inl (.inl e))
    cases rv
    exact ⟨_, .list ho hc hd .nil, by simp; exact ne_sys ko kc ho hc⟩
  | @tup0 a e =>
    cases r
    obtain ⟨its, rv, ⟨ob, ho, hc, n, hd⟩, _⟩ := I.tuple (.inl (.inl e))
    cases rv
    exact ⟨_, .tuple ho hc hd .nil, by simp⟩
  | @tup2 a x i e =>
    cases r
    obtain ⟨its, rv, ⟨ob, ho, hc, n, hd⟩, _⟩ := I.tuple (.inl (.inl e))
    cases rv with
    | cons r1 rv =>
      cases rv with
      | cons r2 rv =>
        cases rv
        obtain ⟨t1, rfl⟩ := r1
        obtain ⟨t2, rfl⟩ := r2
        exact ⟨_, .tuple ho hc hd (.cons (.str x t1) (.cons (.int i t2) .nil)), by simp⟩
  | @dct a e =>
    cases r
    obtain ⟨_, hne, vs, kv, ob, es, ep, ho, hx, hd, _, hp, _⟩ := (show ObjOk X.prog X.w H s.heap a (.dK []) from I.hok a _ e)
    cases kv
    have he : es.toList = [] := by
      cases q : es.toList with
      | nil => rfl
      | cons a l =>
        rw [q] at hp
        exact absurd hp.length (by simp)
    refine ⟨a :: [] ++ [], .dict (o := ob) (es := es) (n := ep) (kvs := []) (as := []) (bs := []) ho hx.1 hd ?_ ?_, ?_⟩
    · rw [he]; exact .nil
    · rw [he]; exact .nil
    · simp only [List.append_nil, List.mem_singleton]
      exact fun z => absurd z.symm (beq_eq_false_iff_ne.mp hne)
inductive DXs (H : Hp) : List V → List PyData → Prop where
  | nil : DXs H [] []
  | cons {v : V} {d : PyData} {vs : List V} {ds : List PyData} (h : DX H v d) (t : DXs H vs ds) : DXs H (v :: vs) (d :: ds)
theorem DXs.same {H H' : Hp} {vs : List V} {ds : List PyData} (h : DXs H vs ds) (s : Same H H') : DXs H' vs ds := by
  induction h with
  | nil => exact .nil
  | cons h _ ih => exact .cons (h.same s) ih
theorem DXs.reads {o : Obj} (I : Inv X pins σ H s) (ko : s.heap.get? sysModules = some o) (kc : o.cls = .type "dict") {vs : List V} {ds : List PyData} (h : DXs H vs ds) : ∀ {us : List Value}, Vals vs us → ∃ as, ReadsAll s.heap us ds as ∧ sysModules ∉ as := by
  induction h with
  | nil => intro us r; cases r; exact ⟨_, .nil, by simp⟩
  | cons h _ ih =>
    intro us r
    cases r with
    | cons r1 r2 =>
      obtain ⟨as, q, n⟩ := h.reads I ko kc r1
      obtain ⟨bs, q2, n2⟩ := ih r2
      exact ⟨_, .cons q q2, by simp [n, n2]⟩
end
/-- repr(xs), xs a list of such values -/
def rRepr : List V → Hp → VK → Prop := fun xs H Q => ∃ (p : Addr) (vs : List V) (ds : List PyData), xs = [.ref p] ∧ H p = some (.lst vs) ∧ DXs H vs ds ∧ (PyData.list ds).showable = true ∧ (PyData.list ds).depth ≤ 40 ∧
  (PyData.list ds).shown.length ≤ sizeLine ∧ Q (.str (PyData.list ds).shown) H
theorem call_reprX {X : Cx} {o : Obj} (hgd : X.A.guards = some []) (hu : X.A.units + 64 < cLine) (ks : X.K.lookup sysModules = some o) (kc : o.cls = .type "dict") : CallR X (.builtin "repr") rRepr := by
  intro pins s σ H xs us Q I r h
  obtain ⟨p, vs, ds, rfl, hp, hd, h1, h2, h3, q⟩ := h
  cases r with
  | cons r1 r2 =>
    cases r2
    cases (show _ = Value.ref p from r1)
    have ko := I.kIn _ _ ks
    obtain ⟨its, rv, ⟨ob, n, ho, hc, _, hdt⟩, _⟩ := I.list (.inl (.inl hp))
    obtain ⟨as, rd, na⟩ := hd.reads I ko kc rv
    refine repr_of_reads' (.list ho hc hdt rd) h1 (fun _ z => ?_) hgd (by omega) (fun _ _ e => e) (fun h' u tk hk => ⟨.str (PyData.list ds).shown, H, I.kept (t' := tk) hk, ⟨u, rfl⟩, q⟩) h3
    rcases List.mem_cons.mp z with z | z
    · exact ne_sys ko kc ho hc z
    · exact na z
end L2
/-! A layer of data over the hand layer: values as trees of data or as numbers of things that change; readings without addresses -/
namespace DL
open PySem PySem.Spec PyProof.Rows L2
/-- a value: data that never changes; the k-th thing that changes; a value as it stands -/
inductive AV where
  | d (x : PyData)
  | m (k : Nat)
  | v (x : V)
/-- a thing that changes: no longer told of; the two numbers of a draw; a list -/
inductive MO where
  | dead
  | rng
  | lst (xs : List AV)
abbrev Store := List MO
abbrev DEnv := List (Option AV)
abbrev PQ := AV → Store → Prop
/-- the address is hidden, or that of a thing that changes -/
def lv (Z As : List Addr) (S : Store) (a : Addr) : Prop := a ∈ Z ∨ ∃ (k : Nat) (o : MO), As[k]? = some a ∧ S[k]? = some o ∧ o ≠ MO.dead
/-- what is no thing that changes stays -/
def Ex (L : Addr → Prop) (H : Hp) (L' : Addr → Prop) (H' : Hp) : Prop := ∀ b o, H b = some o → ¬ L b → ¬ L' b ∧ H' b = some o
mutual
inductive DV (K : PySem.W.Frag) (L : Addr → Prop) (H : Hp) : V → PyData → Prop
  | non : DV K L H .non .none
  | bl (b : Bool) : DV K L H (.bl b) (.bool b)
  | int (i : Int) : DV K L H (.int i) (.int i)
  | str (x : Str) (h : x.length ≤ sizeLine) : DV K L H (.str x) (.str x)
  | lst {a : Addr} {xs : List V} {ds : List PyData} : ¬ L a → H a = some (.lst xs) → DVs K L H xs ds → DV K L H (.ref a) (.list ds)
  | tup {a : Addr} {xs : List V} {ds : List PyData} : ¬ L a → H a = some (.tup xs) → DVs K L H xs ds → DV K L H (.ref a) (.tuple ds)
  | tupK {a : Addr} {xs : List V} {ds : List PyData} : SqT K (fun _ => none) a xs → DVs K L H xs ds → DV K L H (.ref a) (.tuple ds)
  | dct {a : Addr} : ¬ L a → H a = some (.dK []) → DV K L H (.ref a) (.dict [])
inductive DVs (K : PySem.W.Frag) (L : Addr → Prop) (H : Hp) : List V → List PyData → Prop
  | nil : DVs K L H [] []
  | cons {v : V} {vs : List V} {d : PyData} {ds : List PyData} : DV K L H v d → DVs K L H vs ds → DVs K L H (v :: vs) (d :: ds)
end
mutual
theorem DV.ex {K : PySem.W.Frag} {L L' : Addr → Prop} {H H' : Hp} (s : Ex L H L' H') : ∀ (d : PyData) (v : V), DV K L H v d → DV K L' H' v d
  | .none, _, h => by cases h; exact .non
  | .bool b, _, h => by cases h; exact .bl b
  | .int i, _, h => by cases h; exact .int i
  | .str x, _, h => by
    cases h with
    | str _ z => exact .str x z
  | .list ds, _, h => by
    cases h with
    | lst n e t =>
      obtain ⟨n', e'⟩ := s _ _ e n
      exact .lst n' e' (DVs.ex s ds _ t)
  | .tuple ds, _, h => by
    cases h with
    | tup n e t =>
      obtain ⟨n', e'⟩ := s _ _ e n
      exact .tup n' e' (DVs.ex s ds _ t)
    | tupK e t => exact .tupK e (DVs.ex s ds _ t)
  | .dict kvs, _, h => by
    cases h with
    | dct n e =>
      obtain ⟨n', e'⟩ := s _ _ e n
      exact .dct n' e'
theorem DVs.ex {K : PySem.W.Frag} {L L' : Addr → Prop} {H H' : Hp} (s : Ex L H L' H') : ∀ (ds : List PyData) (vs : List V), DVs K L H vs ds → DVs K L' H' vs ds
  | [], _, h => by cases h; exact .nil
  | d :: ds, _, h => by
    cases h with
    | cons a b => exact .cons (DV.ex s d _ a) (DVs.ex s ds _ b)
end
theorem DVs.length {K : PySem.W.Frag} {L : Addr → Prop} {H : Hp} : ∀ {vs : List V} {ds : List PyData}, DVs K L H vs ds → vs.length = ds.length
  | _, _, .nil => rfl
  | _, _, .cons _ t => congrArg Nat.succ t.length
theorem DVs.get {K : PySem.W.Frag} {L : Addr → Prop} {H : Hp} : ∀ {vs : List V} {ds : List PyData} {i : Nat} {d : PyData}, DVs K L H vs ds → ds[i]? = some d → ∃ v, vs[i]? = some v ∧ DV K L H v d
  | _, _, _, _, .nil, h => by simp at h
  | _, _, 0, _, .cons a _, h => ⟨_, rfl, by rw [← Option.some.inj h]; exact a⟩
  | _, _, i + 1, _, .cons _ t, h => DVs.get (i := i) t h
theorem DVs.got {K : PySem.W.Frag} {L : Addr → Prop} {H : Hp} : ∀ {vs : List V} {ds : List PyData} {i : Nat} {v : V}, DVs K L H vs ds → vs[i]? = some v → ∃ d, ds[i]? = some d ∧ DV K L H v d
  | _, _, _, _, .nil, h => by simp at h
  | _, _, 0, _, .cons a _, h => ⟨_, rfl, by rw [← Option.some.inj h]; exact a⟩
  | _, _, i + 1, _, .cons _ t, h => DVs.got (i := i) t h
theorem DVs.append {K : PySem.W.Frag} {L : Addr → Prop} {H : Hp} : ∀ {vs ws : List V} {ds es : List PyData}, DVs K L H vs ds → DVs K L H ws es → DVs K L H (vs ++ ws) (ds ++ es)
  | _, _, _, _, .nil, h => h
  | _, _, _, _, .cons a t, h => .cons a (t.append h)
theorem DVs.take {K : PySem.W.Frag} {L : Addr → Prop} {H : Hp} : ∀ {vs : List V} {ds : List PyData} (n : Nat), DVs K L H vs ds → DVs K L H (vs.take n) (ds.take n)
  | _, _, 0, _ => .nil
  | _, _, _ + 1, .nil => .nil
  | _, _, n + 1, .cons a t => .cons a (t.take n)
theorem DVs.drop {K : PySem.W.Frag} {L : Addr → Prop} {H : Hp} : ∀ {vs : List V} {ds : List PyData} (n : Nat), DVs K L H vs ds → DVs K L H (vs.drop n) (ds.drop n)
  | _, _, 0, h => h
  | _, _, _ + 1, .nil => .nil
  | _, _, n + 1, .cons _ t => t.drop n
theorem app_len (x y : Str) : (x ++ y).length = x.length + y.length := by
  show (x.cps ++ y.cps).size = _
  rw [Array.size_append]
  rfl
/-- a value and what it is -/
def AVr (K : PySem.W.Frag) (Z As : List Addr) (S : Store) (H : Hp) (v : V) : AV → Prop
  | .d x => DV K (lv Z As S) H v x
  | .m k => ∃ a, v = .ref a ∧ As[k]? = some a
  | .v x => v = x
inductive AVs (K : PySem.W.Frag) (Z As : List Addr) (S : Store) (H : Hp) : List V → List AV → Prop
  | nil : AVs K Z As S H [] []
  | cons {v : V} {vs : List V} {a : AV} {as : List AV} : AVr K Z As S H v a → AVs K Z As S H vs as → AVs K Z As S H (v :: vs) (a :: as)
def MOr (K : PySem.W.Frag) (Z As : List Addr) (S : Store) (H : Hp) (a : Addr) : MO → Prop
  | .dead => True
  | .rng => ∃ x y : Int, H a = some (.lst [.int x, .int y]) ∧ 0 ≤ y ∧ y ≤ 2147483629
  | .lst xs => ∃ vs, H a = some (.lst vs) ∧ AVs K Z As S H vs xs
structure Rl (K : PySem.W.Frag) (Z As : List Addr) (S : Store) (H : Hp) : Prop where
  len : As.length = S.length
  inj : ∀ (i j : Nat) (a : Addr) (oi oj : MO), As[i]? = some a → As[j]? = some a → S[i]? = some oi → S[j]? = some oj → oi ≠ MO.dead → oj ≠ MO.dead → i = j
  at_ : ∀ (k : Nat) (a : Addr) (o : MO), As[k]? = some a → S[k]? = some o → MOr K Z As S H a o
  hz : ∀ b, b ∈ Z → H b ≠ none ∧ ∀ (k : Nat) (o : MO), As[k]? = some b → S[k]? = some o → o = MO.dead
structure Po (Z As : List Addr) (S : Store) (H : Hp) (As' : List Addr) (S' : Store) (H' : Hp) : Prop where
  ext : Ex (lv Z As S) H (lv Z As' S') H'
  hid : ∀ b, b ∈ Z → H' b = H b
  pre : ∃ l, As' = As ++ l
theorem Ex.refl {L : Addr → Prop} {H : Hp} : Ex L H L H := fun _ _ e n => ⟨n, e⟩
theorem Ex.trans {L L1 L2 : Addr → Prop} {H H1 H2 : Hp} (x : Ex L H L1 H1) (y : Ex L1 H1 L2 H2) : Ex L H L2 H2 := fun b o e n => by
  obtain ⟨n1, e1⟩ := x b o e n
  exact y b o e1 n1
section
variable {K : PySem.W.Frag} {Z As As' As2 : List Addr} {S S' S2 : Store} {H H' H2 : Hp} {v : V} {vs : List V} {a : AV} {as : List AV}
theorem Po.refl : Po Z As S H As S H := ⟨Ex.refl, fun _ _ => rfl, [], by simp⟩
theorem Po.trans (x : Po Z As S H As' S' H') (y : Po Z As' S' H' As2 S2 H2) : Po Z As S H As2 S2 H2 := by
  obtain ⟨l, e⟩ := x.pre
  obtain ⟨m, f⟩ := y.pre
  exact ⟨x.ext.trans y.ext, fun b hb => (y.hid b hb).trans (x.hid b hb), l ++ m, by rw [f, e, List.append_assoc]⟩
theorem pre_get {As As' : List Addr} {k : Nat} {x : Addr} (p : ∃ l, As' = As ++ l) (h : As[k]? = some x) : As'[k]? = some x := by
  obtain ⟨l, rfl⟩ := p
  have hk : k < As.length := by
    rcases Nat.lt_or_ge k As.length with z | z
    · exact z
    · rw [List.getElem?_eq_none z] at h; cases h
  rw [List.getElem?_append_left hk]
  exact h
theorem AVr.ex (e : Ex (lv Z As S) H (lv Z As' S') H') (p : ∃ l, As' = As ++ l) (h : AVr K Z As S H v a) : AVr K Z As' S' H' v a := by
  cases a with
  | d x => exact DV.ex e x v h
  | m k =>
    obtain ⟨b, e1, e2⟩ := h
    exact ⟨b, e1, pre_get p e2⟩
  | v x => exact h
theorem AVr.po (p : Po Z As S H As' S' H') (h : AVr K Z As S H v a) : AVr K Z As' S' H' v a := h.ex p.ext p.pre
theorem AVs.ex (e : Ex (lv Z As S) H (lv Z As' S') H') (p : ∃ l, As' = As ++ l) (h : AVs K Z As S H vs as) : AVs K Z As' S' H' vs as := by
  induction h with
  | nil => exact .nil
  | cons x _ ih => exact .cons (x.ex e p) ih
theorem AVs.po (p : Po Z As S H As' S' H') (h : AVs K Z As S H vs as) : AVs K Z As' S' H' vs as := h.ex p.ext p.pre
theorem AVs.length (h : AVs K Z As S H vs as) : vs.length = as.length := by
  induction h with
  | nil => rfl
  | cons _ _ ih => exact congrArg Nat.succ ih
theorem AVs.append {ws : List V} {bs : List AV} (h : AVs K Z As S H vs as) (g : AVs K Z As S H ws bs) : AVs K Z As S H (vs ++ ws) (as ++ bs) := by
  induction h with
  | nil => exact g
  | cons x _ ih => exact .cons x ih
theorem AVs.get {i : Nat} {x : AV} (h : AVs K Z As S H vs as) : as[i]? = some x → ∃ v, vs[i]? = some v ∧ AVr K Z As S H v x := by
  induction h generalizing i with
  | nil => intro e; simp at e
  | cons a t ih =>
    intro e
    cases i with
    | zero => exact ⟨_, rfl, by rw [← Option.some.inj e]; exact a⟩
    | succ i => exact ih (i := i) e
theorem AVs.of_d {ds : List PyData} (h : DVs K (lv Z As S) H vs ds) : AVs K Z As S H vs (ds.map AV.d) := by
  induction ds generalizing vs with
  | nil => cases h; exact .nil
  | cons d ds ih =>
    cases h with
    | cons a t => exact .cons a (ih t)
theorem AVs.to_d {ds : List PyData} (h : AVs K Z As S H vs (ds.map AV.d)) : DVs K (lv Z As S) H vs ds := by
  induction ds generalizing vs with
  | nil => cases h; exact .nil
  | cons d ds ih =>
    cases h with
    | cons a t => exact .cons a (ih t)
/-- a thing is tracked -/
theorem Rl.live (r : Rl K Z As S H) {b : Addr} (h : lv Z As S b) : H b ≠ none := by
  rcases h with h | ⟨k, o, h1, h2, h3⟩
  · exact (r.hz b h).1
  · have z := r.at_ k b o h1 h2
    cases o with
    | dead => exact absurd rfl h3
    | rng => obtain ⟨x, y, e, _⟩ := z; rw [e]; simp
    | lst xs => obtain ⟨vs, e, _⟩ := z; rw [e]; simp
theorem Rl.notLive (r : Rl K Z As S H) {b : Addr} (h : H b = none) : ¬ lv Z As S b := fun z => r.live z h
theorem MOr.ex {b : Addr} {o : MO} (e : Ex (lv Z As S) H (lv Z As' S') H') (p : ∃ l, As' = As ++ l) (hb : H' b = H b) (h : MOr K Z As S H b o) : MOr K Z As' S' H' b o := by
  cases o with
  | dead => trivial
  | rng =>
    obtain ⟨x, y, e1, q⟩ := h
    exact ⟨x, y, hb.trans e1, q⟩
  | lst xs =>
    obtain ⟨vs, e1, q⟩ := h
    exact ⟨vs, hb.trans e1, q.ex e p⟩
/-- a new object that doesn't change -/
theorem Po.new (r : Rl K Z As S H) {p : Addr} {o : HO} (np : H p = none) : Po Z As S H As S (upd H p o) :=
  ⟨fun b u e n => ⟨n, by rw [upd_ne (ne_of_none e np)]; exact e⟩, fun b hb => upd_ne fun z => (r.hz b hb).1 (by rw [z]; exact np), [], by simp⟩
theorem Rl.new (r : Rl K Z As S H) {p : Addr} {o : HO} (np : H p = none) : Rl K Z As S (upd H p o) := by
  have po : Po Z As S H As S (upd H p o) := Po.new r np
  refine ⟨r.len, r.inj, fun k a u h1 h2 => ?_, fun b hb => ⟨?_, (r.hz b hb).2⟩⟩
  · cases u with
    | dead => trivial
    | rng => exact MOr.ex po.ext po.pre (upd_ne fun z => r.live (.inr ⟨k, .rng, h1, h2, by simp⟩) (by rw [z]; exact np)) (r.at_ k a _ h1 h2)
    | lst xs => exact MOr.ex po.ext po.pre (upd_ne fun z => r.live (.inr ⟨k, .lst xs, h1, h2, by simp⟩) (by rw [z]; exact np)) (r.at_ k a _ h1 h2)
  · rw [po.hid b hb]
    exact (r.hz b hb).1
end
/-! ### slots -/
inductive Sl (K : PySem.W.Frag) (Z As : List Addr) (S : Store) (H : Hp) : L2.St → DEnv → Prop
  | nil : Sl K Z As S H [] []
  | none {x : Option V} {σ : L2.St} {env : DEnv} : Sl K Z As S H σ env → Sl K Z As S H (x :: σ) (Option.none :: env)
  | some {v : V} {a : AV} {σ : L2.St} {env : DEnv} : AVr K Z As S H v a → Sl K Z As S H σ env → Sl K Z As S H (Option.some v :: σ) (Option.some a :: env)
section
variable {K : PySem.W.Frag} {Z As As' : List Addr} {S S' : Store} {H H' : Hp} {σ : L2.St} {env : DEnv}
theorem Sl.ex (e : Ex (lv Z As S) H (lv Z As' S') H') (p : ∃ l, As' = As ++ l) (h : Sl K Z As S H σ env) : Sl K Z As' S' H' σ env := by
  induction h with
  | nil => exact .nil
  | none _ ih => exact .none ih
  | some a _ ih => exact .some (a.ex e p) ih
theorem Sl.po (p : Po Z As S H As' S' H') (h : Sl K Z As S H σ env) : Sl K Z As' S' H' σ env := h.ex p.ext p.pre
theorem Sl.get {i : Nat} {a : AV} (h : Sl K Z As S H σ env) : env[i]? = Option.some (Option.some a) → ∃ v, σ[i]? = Option.some (Option.some v) ∧ AVr K Z As S H v a := by
  induction h generalizing i with
  | nil => intro e; simp at e
  | none _ ih =>
    intro e
    cases i with
    | zero => simp at e
    | succ i => exact ih (i := i) e
  | some x _ ih =>
    intro e
    cases i with
    | zero =>
      have e' := Option.some.inj (Option.some.inj e)
      exact ⟨_, rfl, by rw [← e']; exact x⟩
    | succ i => exact ih (i := i) e
theorem Sl.set {i : Nat} {v : V} {a : AV} (h : Sl K Z As S H σ env) (r : AVr K Z As S H v a) : Sl K Z As S H (σ.set i (Option.some v)) (env.set i (Option.some a)) := by
  induction h generalizing i with
  | nil => exact .nil
  | none t ih =>
    cases i with
    | zero => exact .some r t
    | succ i => exact .none (ih (i := i))
  | some x t ih =>
    cases i with
    | zero => exact .some r t
    | succ i => exact .some x (ih (i := i))
theorem Sl.unset {i : Nat} {x : Option V} (h : Sl K Z As S H σ env) : Sl K Z As S H (σ.set i x) (env.set i Option.none) := by
  induction h generalizing i with
  | nil => exact .nil
  | none t ih =>
    cases i with
    | zero => exact .none t
    | succ i => exact .none (ih (i := i))
  | some x t ih =>
    cases i with
    | zero => exact .none t
    | succ i => exact .some x (ih (i := i))
def wipeE (env : DEnv) : List Nat → DEnv
  | [] => env
  | v :: vs => (wipeE env vs).set v none
theorem Sl.wipe (h : Sl K Z As S H σ env) : ∀ vs : List Nat, Sl K Z As S H (wipe σ vs) (wipeE env vs)
  | [] => h
  | v :: vs => (Sl.wipe h vs).unset
theorem Sl.start : ∀ {vs : List V} {as : List AV} (n : Nat), AVs K Z As S H vs as → Sl K Z As S H (vs.map Option.some ++ List.replicate n Option.none) (as.map Option.some ++ List.replicate n Option.none)
  | _, _, n, .nil => by
    induction n with
    | zero => exact .nil
    | succ n ih => rw [List.replicate_succ]; exact .none ih
  | _, _, n, .cons a t => .some a (Sl.start n t)
end
/-! ### readings -/
abbrev G := DEnv → Store → PQ → Prop
abbrev GT := DEnv → Store → (Bool → Store → Prop) → Prop
abbrev GA := DEnv → Store → (List AV → Store → Prop) → Prop
structure DE where
  nx : DEnv → Store → Prop
  rt : PQ
  bk : DEnv → Store → Prop
  ct : DEnv → Store → Prop
abbrev GS := DEnv → Store → DE → Prop
/-- what a way out wishes -/
def Kon (K : PySem.W.Frag) (Z As : List Addr) (S : Store) (H : Hp) (P : PQ) (Q : VK) : Prop := ∀ r S' As' v H', P r S' → Po Z As S H As' S' H' → Rl K Z As' S' H' → AVr K Z As' S' H' v r → Q v H'
def KonT (K : PySem.W.Frag) (Z As : List Addr) (S : Store) (H : Hp) (P : Bool → Store → Prop) (Q : Bool → Hp → Prop) : Prop := ∀ b S' As' H', P b S' → Po Z As S H As' S' H' → Rl K Z As' S' H' → Q b H'
def KonA (K : PySem.W.Frag) (Z As : List Addr) (S : Store) (H : Hp) (P : List AV → Store → Prop) (Q : List V → Hp → Prop) : Prop := ∀ rs S' As' vs H', P rs S' → Po Z As S H As' S' H' → Rl K Z As' S' H' → AVs K Z As' S' H' vs rs → Q vs H'
def KonS (K : PySem.W.Frag) (Z As : List Addr) (S : Store) (H : Hp) (P : DEnv → Store → Prop) (Q : L2.St → Hp → Prop) : Prop := ∀ env' S' As' σ' H', P env' S' → Po Z As S H As' S' H' → Rl K Z As' S' H' → Sl K Z As' S' H' σ' env' → Q σ' H'
def tD (K : PySem.W.Frag) (g : G) : TE := fun σ H Q => ∃ Z As S env P, Rl K Z As S H ∧ Sl K Z As S H σ env ∧ g env S P ∧ Kon K Z As S H P Q
def tDT (K : PySem.W.Frag) (g : GT) : TT := fun σ H Q => ∃ Z As S env P, Rl K Z As S H ∧ Sl K Z As S H σ env ∧ g env S P ∧ KonT K Z As S H P Q
def tDA (K : PySem.W.Frag) (g : GA) : TA := fun σ H Q => ∃ Z As S env P, Rl K Z As S H ∧ Sl K Z As S H σ env ∧ g env S P ∧ KonA K Z As S H P Q
def tDS (K : PySem.W.Frag) (g : GS) : TS := fun D σ H => ∃ Z As S env E, Rl K Z As S H ∧ Sl K Z As S H σ env ∧ g env S E ∧ KonS K Z As S H E.nx D.nx ∧ Kon K Z As S H E.rt D.rt ∧ KonS K Z As S H E.bk D.bk ∧ KonS K Z As S H E.ct D.ct
abbrev PD (X : Cx) (e : Expr) (g : G) : Prop := PE X e (tD X.K g)
abbrev PDT (X : Cx) (e : Expr) (g : GT) : Prop := PT X e (tDT X.K g)
abbrev PDA (X : Cx) (es : List Expr) (g : GA) : Prop := PA X es (tDA X.K g)
abbrev PDS (X : Cx) (st : Stmt) (g : GS) : Prop := PS X st (tDS X.K g)
abbrev PDSs (X : Cx) (st : List Stmt) (g : GS) : Prop := PSs X st (tDS X.K g)
section
variable {K : PySem.W.Frag} {Z As As' : List Addr} {S S' : Store} {H H' : Hp} {P : PQ} {Q : VK} {v : V} {a : AV}
theorem Kon.here (k : Kon K Z As S H P Q) (r : Rl K Z As S H) (h : AVr K Z As S H v a) (p : P a S) : Q v H := k a S As v H p Po.refl r h
theorem Kon.later (k : Kon K Z As S H P Q) (po : Po Z As S H As' S' H') : Kon K Z As' S' H' P Q := fun r S2 As2 v H2 p po2 rl av => k r S2 As2 v H2 p (po.trans po2) rl av
theorem KonT.later {P : Bool → Store → Prop} {Q : Bool → Hp → Prop} (k : KonT K Z As S H P Q) (po : Po Z As S H As' S' H') : KonT K Z As' S' H' P Q := fun r S2 As2 H2 p po2 rl => k r S2 As2 H2 p (po.trans po2) rl
theorem KonA.later {P : List AV → Store → Prop} {Q : List V → Hp → Prop} (k : KonA K Z As S H P Q) (po : Po Z As S H As' S' H') : KonA K Z As' S' H' P Q := fun r S2 As2 v H2 p po2 rl av => k r S2 As2 v H2 p (po.trans po2) rl av
theorem KonS.later {P : DEnv → Store → Prop} {Q : L2.St → Hp → Prop} (k : KonS K Z As S H P Q) (po : Po Z As S H As' S' H') : KonS K Z As' S' H' P Q := fun r S2 As2 v H2 p po2 rl av => k r S2 As2 v H2 p (po.trans po2) rl av
/-- a new tuple -/
theorem Kon.tup (k : Kon K Z As S H P Q) (r : Rl K Z As S H) {p : Addr} {vs : List V} {ds : List PyData} (np : H p = none) (h : DVs K (lv Z As S) H vs ds) (q : P (.d (.tuple ds)) S) : Q (.ref p) (upd H p (.tup vs)) := by
  have po : Po Z As S H As S (upd H p (.tup vs)) := Po.new r np
  exact k _ _ _ _ _ q po (r.new np) (DV.tup (r.notLive np) upd_same (DVs.ex po.ext _ _ h))
/-- a new list that nobody will change -/
theorem Kon.lst (k : Kon K Z As S H P Q) (r : Rl K Z As S H) {p : Addr} {vs : List V} {ds : List PyData} (np : H p = none) (h : DVs K (lv Z As S) H vs ds) (q : P (.d (.list ds)) S) : Q (.ref p) (upd H p (.lst vs)) := by
  have po : Po Z As S H As S (upd H p (.lst vs)) := Po.new r np
  exact k _ _ _ _ _ q po (r.new np) (DV.lst (r.notLive np) upd_same (DVs.ex po.ext _ _ h))
theorem Kon.dct (k : Kon K Z As S H P Q) (r : Rl K Z As S H) {p : Addr} (np : H p = none) (q : P (.d (.dict [])) S) : Q (.ref p) (upd H p (.dK [])) :=
  k _ _ _ _ _ q (Po.new r np) (r.new np) (DV.dct (r.notLive np) upd_same)
/-- a new thing that changes -/
theorem new_mut (r : Rl K Z As S H) {p : Addr} {u : HO} {o : MO} (np : H p = none) (no : o ≠ .dead) (h : ∀ {As' : List Addr} {S' : Store} {H' : Hp}, Ex (lv Z As S) H (lv Z As' S') H' → (∃ l, As' = As ++ l) → H' p = some u → MOr K Z As' S' H' p o) :
    Po Z As S H (As ++ [p]) (S ++ [o]) (upd H p u) ∧ Rl K Z (As ++ [p]) (S ++ [o]) (upd H p u) ∧ (As ++ [p])[S.length]? = some p := by
  have hl := r.len
  have lvE : ∀ b, lv Z (As ++ [p]) (S ++ [o]) b → lv Z As S b ∨ b = p := fun b hb => by
    rcases hb with hb | ⟨k, o', h1, h2, h3⟩
    · exact .inl (.inl hb)
    · rcases Nat.lt_or_ge k As.length with z | z
      · rw [List.getElem?_append_left z] at h1
        rw [List.getElem?_append_left (by omega)] at h2
        exact .inl (.inr ⟨k, o', h1, h2, h3⟩)
      · rw [List.getElem?_append_right z] at h1
        refine .inr ?_
        cases e : k - As.length with
        | zero => rw [e] at h1; exact (Option.some.inj h1).symm
        | succ m => rw [e] at h1; simp at h1
  have po : Po Z As S H (As ++ [p]) (S ++ [o]) (upd H p u) := by
    refine ⟨fun b x e n => ⟨fun z => ?_, by rw [upd_ne (ne_of_none e np)]; exact e⟩, fun b hb => upd_ne fun z => (r.hz b hb).1 (by rw [z]; exact np), [p], rfl⟩
    rcases lvE b z with z | z
    · exact n z
    · exact ne_of_none e np z
  have top : ∀ {k : Nat} {x : Addr} {y : MO}, (As ++ [p])[k]? = some x → (S ++ [o])[k]? = some y → (As[k]? = some x ∧ S[k]? = some y) ∨ (k = As.length ∧ x = p ∧ y = o) := fun {k x y} h1 h2 => by
    rcases Nat.lt_or_ge k As.length with z | z
    · rw [List.getElem?_append_left z] at h1
      rw [List.getElem?_append_left (by omega)] at h2
      exact .inl ⟨h1, h2⟩
    · rw [List.getElem?_append_right z] at h1
      rw [List.getElem?_append_right (by omega)] at h2
      rw [show k - S.length = k - As.length by omega] at h2
      cases e : k - As.length with
      | zero =>
        rw [e] at h1 h2
        exact .inr ⟨by omega, (Option.some.inj h1).symm, (Option.some.inj h2).symm⟩
      | succ m => rw [e] at h1; simp at h1
  refine ⟨po, ⟨by simp [hl], fun i j a oi oj h1 h2 h3 h4 h5 h6 => ?_, fun k a x h1 h2 => ?_, fun b hb => ⟨?_, fun k x h1 h2 => ?_⟩⟩, ?_⟩
  · rcases top h1 h3 with ⟨a1, a2⟩ | ⟨a1, a2, a3⟩
    · rcases top h2 h4 with ⟨b1, b2⟩ | ⟨b1, b2, b3⟩
      · exact r.inj i j a oi oj a1 b1 a2 b2 h5 h6
      · exact absurd np (r.live (.inr ⟨i, oi, by rw [← b2]; exact a1, a2, h5⟩))
    · rcases top h2 h4 with ⟨b1, b2⟩ | ⟨b1, b2, b3⟩
      · exact absurd np (r.live (.inr ⟨j, oj, by rw [← a2]; exact b1, b2, h6⟩))
      · omega
  · rcases top h1 h2 with ⟨a1, a2⟩ | ⟨a1, a2, a3⟩
    · by_cases hd : x = .dead
      · subst hd; trivial
      · exact MOr.ex po.ext po.pre (upd_ne fun z => r.live (.inr ⟨k, x, a1, a2, hd⟩) (by rw [z]; exact np)) (r.at_ k a x a1 a2)
    · subst a2 a3
      exact h po.ext po.pre upd_same
  · rw [po.hid b hb]; exact (r.hz b hb).1
  · rcases top h1 h2 with ⟨a1, a2⟩ | ⟨a1, a2, a3⟩
    · exact (r.hz b hb).2 k x a1 a2
    · exact absurd np (by rw [← a2]; exact (r.hz b hb).1)
  · rw [← hl, List.getElem?_append_right (Nat.le_refl _)]
    simp
theorem Kon.lstM (k : Kon K Z As S H P Q) (r : Rl K Z As S H) {p : Addr} {vs : List V} {as : List AV} (np : H p = none) (h : AVs K Z As S H vs as) (q : P (.m S.length) (S ++ [.lst as])) : Q (.ref p) (upd H p (.lst vs)) := by
  obtain ⟨po, rl, e⟩ := new_mut (u := .lst vs) (o := .lst as) r np (by simp) fun ex pr e => ⟨vs, e, h.ex ex pr⟩
  exact k _ _ _ _ _ q po rl ⟨p, rfl, e⟩
/-- a thing changes -/
theorem put_mut (r : Rl K Z As S H) {p : Addr} {u : HO} {k : Nat} {o o' : MO} (hA : As[k]? = some p) (hS : S[k]? = some o) (no : o ≠ .dead) (no' : o' ≠ .dead)
    (h : ∀ {S' : Store} {H' : Hp}, Ex (lv Z As S) H (lv Z As S') H' → H' p = some u → MOr K Z As S' H' p o') : Po Z As S H As (S.set k o') (upd H p u) ∧ Rl K Z As (S.set k o') (upd H p u) := by
  have hk : k < S.length := by
    rcases Nat.lt_or_ge k S.length with z | z
    · exact z
    · rw [List.getElem?_eq_none z] at hS; cases hS
  have at' : ∀ {j : Nat} {y : MO}, (S.set k o')[j]? = some y → (j = k ∧ y = o') ∨ (j ≠ k ∧ S[j]? = some y) := fun {j y} e => by
    by_cases hj : k = j
    · subst hj
      rw [List.getElem?_set_self hk] at e
      exact .inl ⟨rfl, (Option.some.inj e).symm⟩
    · rw [List.getElem?_set_ne hj] at e
      exact .inr ⟨fun z => hj z.symm, e⟩
  have live : ∀ b, lv Z As (S.set k o') b → lv Z As S b := fun b hb => by
    rcases hb with hb | ⟨j, x, h1, h2, h3⟩
    · exact .inl hb
    · rcases at' h2 with ⟨rfl, rfl⟩ | ⟨_, h2⟩
      · exact .inr ⟨j, o, h1, hS, no⟩
      · exact .inr ⟨j, x, h1, h2, h3⟩
  have lp : lv Z As S p := .inr ⟨k, o, hA, hS, no⟩
  have np : p ∉ Z := fun z => no ((r.hz p z).2 k o hA hS)
  have po : Po Z As S H As (S.set k o') (upd H p u) :=
    ⟨fun b x e n => ⟨fun z => n (live b z), by rw [upd_ne fun z => n (by rw [z]; exact lp)]; exact e⟩, fun b hb => upd_ne fun z => np (by rw [← z]; exact hb), [], by simp⟩
  refine ⟨po, ⟨by simp [r.len], fun i j a oi oj h1 h2 h3 h4 h5 h6 => ?_, fun j a x h1 h2 => ?_, fun b hb => ⟨?_, fun j x h1 h2 => ?_⟩⟩⟩
  · have f : ∀ {i : Nat} {oi : MO}, (S.set k o')[i]? = some oi → oi ≠ .dead → ∃ q, S[i]? = some q ∧ q ≠ .dead := fun {i oi} e n => by
      rcases at' e with ⟨rfl, rfl⟩ | ⟨_, e⟩
      · exact ⟨o, hS, no⟩
      · exact ⟨oi, e, n⟩
    obtain ⟨q1, e1, n1⟩ := f h3 h5
    obtain ⟨q2, e2, n2⟩ := f h4 h6
    exact r.inj i j a q1 q2 h1 h2 e1 e2 n1 n2
  · rcases at' h2 with ⟨rfl, rfl⟩ | ⟨n, h2⟩
    · rw [hA] at h1
      cases h1
      exact h po.ext upd_same
    · by_cases hd : x = .dead
      · subst hd; trivial
      · refine MOr.ex po.ext po.pre (upd_ne fun z => n ?_) (r.at_ j a x h1 h2)
        subst z
        exact r.inj j k a x o h1 hA h2 hS hd no
  · rw [po.hid b hb]; exact (r.hz b hb).1
  · rcases at' h2 with ⟨rfl, rfl⟩ | ⟨n, h2⟩
    · exact absurd ((r.hz b hb).2 j o h1 hS) no
    · exact (r.hz b hb).2 j x h1 h2
/-- a list is left as data -/
theorem freeze (r : Rl K Z As S H) {k : Nat} {ds : List PyData} (hS : S[k]? = some (.lst (ds.map .d))) : Po Z As S H As (S.set k .dead) H ∧ Rl K Z As (S.set k .dead) H ∧ ∀ v, AVr K Z As S H v (.m k) → AVr K Z As (S.set k .dead) H v (.d (.list ds)) := by
  have hk : k < S.length := by
    rcases Nat.lt_or_ge k S.length with z | z
    · exact z
    · rw [List.getElem?_eq_none z] at hS; cases hS
  have at' : ∀ {j : Nat} {y : MO}, (S.set k .dead)[j]? = some y → (j = k ∧ y = .dead) ∨ (j ≠ k ∧ S[j]? = some y) := fun {j y} e => by
    by_cases hj : k = j
    · subst hj
      rw [List.getElem?_set_self hk] at e
      exact .inl ⟨rfl, (Option.some.inj e).symm⟩
    · rw [List.getElem?_set_ne hj] at e
      exact .inr ⟨fun z => hj z.symm, e⟩
  have live : ∀ b, lv Z As (S.set k .dead) b → lv Z As S b := fun b hb => by
    rcases hb with hb | ⟨j, x, h1, h2, h3⟩
    · exact .inl hb
    · rcases at' h2 with ⟨rfl, rfl⟩ | ⟨_, h2⟩
      · exact absurd rfl h3
      · exact .inr ⟨j, x, h1, h2, h3⟩
  have po : Po Z As S H As (S.set k .dead) H := ⟨fun b x e n => ⟨fun z => n (live b z), e⟩, fun _ _ => rfl, [], by simp⟩
  refine ⟨po, ⟨by simp [r.len], fun i j a oi oj h1 h2 h3 h4 h5 h6 => ?_, fun j a x h1 h2 => ?_, fun b hb => ⟨(r.hz b hb).1, fun j x h1 h2 => ?_⟩⟩, fun v hv => ?_⟩
  · rcases at' h3 with ⟨_, rfl⟩ | ⟨_, h3⟩
    · exact absurd rfl h5
    · rcases at' h4 with ⟨_, rfl⟩ | ⟨_, h4⟩
      · exact absurd rfl h6
      · exact r.inj i j a oi oj h1 h2 h3 h4 h5 h6
  · rcases at' h2 with ⟨rfl, rfl⟩ | ⟨n, h2⟩
    · trivial
    · exact MOr.ex po.ext po.pre rfl (r.at_ j a x h1 h2)
  · rcases at' h2 with ⟨rfl, rfl⟩ | ⟨n, h2⟩
    · rfl
    · exact (r.hz b hb).2 j x h1 h2
  · obtain ⟨a, rfl, hA⟩ := hv
    obtain ⟨vs, e, q⟩ := (show ∃ vs, H a = some (.lst vs) ∧ AVs K Z As S H vs (ds.map .d) from r.at_ k a _ hA hS)
    refine DV.lst (fun z => ?_) e (DVs.ex po.ext _ _ q.to_d)
    rcases z with z | ⟨j, x, h1, h2, h3⟩
    · have := (r.hz a z).2 k _ hA hS
      cases this
    · rcases at' h2 with ⟨rfl, rfl⟩ | ⟨n, h2⟩
      · exact h3 rfl
      · exact n (r.inj j k a x _ h1 hA h2 hS h3 (by simp))
end
end DL
/-! expressions -/
namespace DL
open PySem PySem.Spec PyProof.Rows L2
/-! ### views -/
def dats : List AV → Option (List PyData)
  | [] => some []
  | .d x :: r => (dats r).map (x :: ·)
  | _ :: _ => none
/-- what is read of a value as data -/
def vw (S : Store) : AV → Option PyData
  | .d x => some x
  | .m k => match S[k]? with
    | some (.lst xs) => (dats xs).map .list
    | _ => none
  | .v _ => none
theorem dats_map (ds : List PyData) : dats (ds.map .d) = some ds := by
  induction ds with
  | nil => rfl
  | cons d ds ih => show (dats (ds.map .d)).map _ = _; rw [ih]; rfl
theorem dats_eq : ∀ {xs : List AV} {ds : List PyData}, dats xs = some ds → xs = ds.map .d
  | [], ds, h => by cases h; rfl
  | .d x :: r, ds, h => by
    obtain ⟨es, e1, rfl⟩ := Option.map_eq_some_iff.mp (show (dats r).map (x :: ·) = some ds from h)
    rw [dats_eq e1]
    rfl
  | .m _ :: _, _, h => by cases h
  | .v _ :: _, _, h => by cases h
section
variable {K : PySem.W.Frag} {Z As : List Addr} {S : Store} {H : Hp} {v : V} {a : AV}
theorem vw_m {k : Nat} {d : PyData} (h : vw S (.m k) = some d) : ∃ ds, d = .list ds ∧ S[k]? = some (.lst (ds.map .d)) := by
  have h' : (match S[k]? with
    | some (.lst xs) => (dats xs).map .list
    | _ => none) = some d := h
  split at h'
  · rename_i xs e
    obtain ⟨ds, e1, rfl⟩ := Option.map_eq_some_iff.mp h'
    exact ⟨ds, rfl, by rw [e, dats_eq e1]⟩
  · cases h'
theorem vw_list (r : Rl K Z As S H) (h : AVr K Z As S H v a) {ds : List PyData} (e : vw S a = some (.list ds)) : ∃ p vs, v = .ref p ∧ H p = some (.lst vs) ∧ DVs K (lv Z As S) H vs ds := by
  cases a with
  | d x =>
    cases e
    cases h with
    | lst n e1 t => exact ⟨_, _, rfl, e1, t⟩
  | m k =>
    obtain ⟨es, e1, e2⟩ := vw_m e
    cases e1
    obtain ⟨p, rfl, hA⟩ := h
    obtain ⟨vs, e3, q⟩ := (show ∃ vs, H p = some (.lst vs) ∧ AVs K Z As S H vs (ds.map .d) from r.at_ k p _ hA e2)
    exact ⟨p, vs, rfl, e3, q.to_d⟩
  | v x => cases e
theorem sqt_up {K : PySem.W.Frag} {H : Hp} {a : Addr} {xs : List V} (h : SqT K (fun _ => none) a xs) : SqT K H a xs := by
  rcases h with (h | ⟨o, h⟩) | h
  · cases h
  · cases h
  · exact .inr h
theorem dv_tup {L : Addr → Prop} {ds : List PyData} (h : DV K L H v (.tuple ds)) : ∃ p vs, v = .ref p ∧ SqT K H p vs ∧ DVs K L H vs ds := by
  cases h with
  | tup n e t => exact ⟨_, _, rfl, .inl (.inl e), t⟩
  | tupK e t => exact ⟨_, _, rfl, sqt_up e, t⟩
theorem vw_tup (h : AVr K Z As S H v a) {ds : List PyData} (e : vw S a = some (.tuple ds)) : ∃ p vs, v = .ref p ∧ SqT K H p vs ∧ DVs K (lv Z As S) H vs ds := by
  cases a with
  | d x => cases e; exact dv_tup h
  | m k =>
    obtain ⟨es, e1, e2⟩ := vw_m e
    cases e1
  | v x => cases e
theorem vw_int (h : AVr K Z As S H v a) {i : Int} (e : vw S a = some (.int i)) : v = .int i := by
  cases a with
  | d x => cases e; cases h; rfl
  | m k =>
    obtain ⟨es, e1, e2⟩ := vw_m e
    cases e1
  | v x => cases e
theorem vw_str (h : AVr K Z As S H v a) {i : Str} (e : vw S a = some (.str i)) : v = .str i := by
  cases a with
  | d x => cases e; cases h; rfl
  | m k =>
    obtain ⟨es, e1, e2⟩ := vw_m e
    cases e1
  | v x => cases e
theorem vw_bool (h : AVr K Z As S H v a) {i : Bool} (e : vw S a = some (.bool i)) : v = .bl i := by
  cases a with
  | d x => cases e; cases h; rfl
  | m k =>
    obtain ⟨es, e1, e2⟩ := vw_m e
    cases e1
  | v x => cases e
theorem vw_none (h : AVr K Z As S H v a) (e : vw S a = some .none) : v = .non := by
  cases a with
  | d x => cases e; cases h; rfl
  | m k =>
    obtain ⟨es, e1, e2⟩ := vw_m e
    cases e1
  | v x => cases e
theorem d_bool {c : Bool} (h : AVr K Z As S H v (.d (.bool c))) : v = .bl c := by cases h; rfl
/-- with nothing live: for reading alone -/
theorem DV.any {L : Addr → Prop} {x : PyData} (h : DV K L H v x) : DV K (fun _ => False) H v x := DV.ex (fun _ _ e _ => ⟨fun z => z, e⟩) x v h
theorem vw_any (r : Rl K Z As S H) (h : AVr K Z As S H v a) {x : PyData} (e : vw S a = some x) : DV K (fun _ => False) H v x := by
  cases a with
  | d y => cases e; exact DV.any h
  | m k =>
    obtain ⟨ds, rfl, e2⟩ := vw_m e
    obtain ⟨p, vs, rfl, e3, t⟩ := vw_list r h e
    exact .lst (fun z => z) e3 (DVs.ex (fun _ _ e _ => ⟨fun z => z, e⟩) _ _ t)
  | v y => cases e
end
/-! ### weakening -/
section
variable {X : Cx}
theorem PEwk {e : Expr} {t t' : TE} (h : PE X e t) (w : ∀ σ H Q, t' σ H Q → t σ H Q) : PE X e t' := ⟨fun pins s σ H Q I hw => h.run pins s σ H Q I (w σ H Q hw)⟩
theorem PTwk {e : Expr} {t t' : TT} (h : PT X e t) (w : ∀ σ H Q, t' σ H Q → t σ H Q) : PT X e t' := ⟨fun pins s σ H Q I hw => h.run pins s σ H Q I (w σ H Q hw)⟩
theorem PWwk {e : Expr} {t t' : TT} (h : PW X e t) (w : ∀ σ H Q, t' σ H Q → t σ H Q) : PW X e t' := ⟨fun wh pins s σ H Q I hw => h.run wh pins s σ H Q I (w σ H Q hw)⟩
theorem PAwk {es : List Expr} {t t' : TA} (h : PA X es t) (w : ∀ σ H Q, t' σ H Q → t σ H Q) : PA X es t' := ⟨fun pos pins s σ H Q I hw => h.run pos pins s σ H Q I (w σ H Q hw)⟩
theorem PSwk {st : Stmt} {t t' : TS} (h : PS X st t) (w : ∀ D σ H, t' D σ H → t D σ H) : PS X st t' := ⟨fun pins s σ H D I hw => h.run pins s σ H D I (w D σ H hw)⟩
theorem PSswk {st : List Stmt} {t t' : TS} (h : PSs X st t) (w : ∀ D σ H, t' D σ H → t D σ H) : PSs X st t' := ⟨fun pins s σ H D I hw => h.run pins s σ H D I (w D σ H hw)⟩
end
abbrev PDW (X : Cx) (e : Expr) (g : GT) : Prop := PW X e (tDT X.K g)
/-! ### forms of readings -/
def gBin (R : AV → AV → Store → PQ → Prop) (g1 g2 : G) : G := fun env S P => g1 env S fun a S1 => g2 env S1 fun b S2 => R a b S2 P
def gUn (R : AV → Store → PQ → Prop) (g1 : G) : G := fun env S P => g1 env S fun a S1 => R a S1 P
def gNil : GA := fun _ S P => P [] S
def gCons (g : G) (ga : GA) : GA := fun env S P => g env S fun a S1 => ga env S1 fun as S2 => P (a :: as) S2
def gApp (R : List AV → Store → PQ → Prop) (ga : GA) : G := fun env S P => ga env S fun as S1 => R as S1 P
def gC (x : PyData) : G := fun _ S P => P (.d x) S
def gV (x : V) : G := fun _ S P => P (.v x) S
def gVar (i : Nat) : G := fun env S P => match env[i]? with
  | some (some a) => P a S
  | _ => False
def onB (a : AV) (k : Bool → Prop) : Prop := match a with
  | .d (.bool c) => k c
  | _ => False
def gTest (g : G) : GT := fun env S P => g env S fun a S1 => onB a fun c => P c S1
def gAnd (g1 g2 : GT) : GT := fun env S P => g1 env S fun c S1 => cond c (g2 env S1 P) (P false S1)
def gOr (g1 g2 : GT) : GT := fun env S P => g1 env S fun c S1 => cond c (P true S1) (g2 env S1 P)
def gNot (g1 : GT) : GT := fun env S P => g1 env S fun c S1 => P (!c) S1
def gVal (g : GT) : G := fun env S P => g env S fun c S1 => P (.d (.bool c)) S1
def gIfE (t : GT) (g1 g2 : G) : G := fun env S P => t env S fun c S1 => cond c (g1 env S1 P) (g2 env S1 P)
def VR2 (K : PySem.W.Frag) (r : R2) (R : AV → AV → Store → PQ → Prop) : Prop := ∀ Z As S H x y a b P Q, Rl K Z As S H → AVr K Z As S H x a → AVr K Z As S H y b → R a b S P → Kon K Z As S H P Q → r x y H Q
def VRn (K : PySem.W.Frag) (r : List V → Hp → VK → Prop) (R : List AV → Store → PQ → Prop) : Prop := ∀ Z As S H xs as P Q, Rl K Z As S H → AVs K Z As S H xs as → R as S P → Kon K Z As S H P Q → r xs H Q
section
variable {K : PySem.W.Frag}
theorem bin_wk {r : R2} {R : AV → AV → Store → PQ → Prop} {g1 g2 : G} (hr : VR2 K r R) (σ : L2.St) (H : Hp) (Q : VK) (h : tD K (gBin R g1 g2) σ H Q) : tOp r (tD K g1) (tD K g2) σ H Q := by
  obtain ⟨Z, As, S, env, P, rl, sl, hg, hQ⟩ := h
  refine ⟨Z, As, S, env, _, rl, sl, hg, fun a S1 As1 x H1 h1 po1 rl1 av1 => ?_⟩
  refine ⟨Z, As1, S1, env, _, rl1, sl.po po1, h1, fun b S2 As2 y H2 h2 po2 rl2 av2 => ?_⟩
  exact hr Z As2 S2 H2 x y a b P Q rl2 (av1.po po2) av2 h2 (hQ.later (po1.trans po2))
theorem nil_wk (σ : L2.St) (H : Hp) (Q : List V → Hp → Prop) (h : tDA K gNil σ H Q) : tNil σ H Q := by
  obtain ⟨Z, As, S, env, P, rl, sl, hg, hQ⟩ := h
  exact hQ [] S As [] H hg Po.refl rl .nil
theorem cons_wk {g : G} {ga : GA} (σ : L2.St) (H : Hp) (Q : List V → Hp → Prop) (h : tDA K (gCons g ga) σ H Q) : tCons (tD K g) (tDA K ga) σ H Q := by
  obtain ⟨Z, As, S, env, P, rl, sl, hg, hQ⟩ := h
  refine ⟨Z, As, S, env, _, rl, sl, hg, fun a S1 As1 x H1 h1 po1 rl1 av1 => ?_⟩
  refine ⟨Z, As1, S1, env, _, rl1, sl.po po1, h1, fun as S2 As2 xs H2 h2 po2 rl2 av2 => ?_⟩
  exact hQ _ _ _ _ _ h2 (po1.trans po2) rl2 (.cons (av1.po po2) av2)
theorem app_wk {r : List V → Hp → VK → Prop} {R : List AV → Store → PQ → Prop} {ga : GA} (hr : VRn K r R) (σ : L2.St) (H : Hp) (Q : VK) (h : tD K (gApp R ga) σ H Q) : tCB r (tDA K ga) σ H Q := by
  obtain ⟨Z, As, S, env, P, rl, sl, hg, hQ⟩ := h
  refine ⟨Z, As, S, env, _, rl, sl, hg, fun as S1 As1 xs H1 h1 po1 rl1 av1 => ?_⟩
  exact hr Z As1 S1 H1 xs as P Q rl1 av1 h1 (hQ.later po1)
end
section
variable {X : Cx} {a b c e : Expr} {es : List Expr} {g g1 g2 g3 : G} {gt gt1 gt2 : GT} {ga : GA} {pos p : Pos}
theorem pd_var {i : Nat} {x : Str} (hN : X.N[i]? = some x) (hv : Vis X.env.scope x) (hd : (x == ("__debug__" : Str)) = false := by decide) (hcd : (x == ("__classdict__" : Str)) = false := by decide) : PD X (.Name x pos) (gVar i) := by
  refine PEwk (pe_var (i := i) hN hv hd hcd) fun σ H Q h => ?_
  obtain ⟨Z, As, S, env, P, rl, sl, hg, hQ⟩ := h
  unfold gVar at hg
  split at hg
  · rename_i a0 e0
    obtain ⟨v, e1, r⟩ := sl.get e0
    exact ⟨v, e1, hQ.here rl r hg⟩
  · exact hg.elim
theorem c_wk {K : PySem.W.Frag} {v : V} {x : PyData} (hx : ∀ L H, DV K L H v x) (σ : L2.St) (H : Hp) (Q : VK) (h : tD K (gC x) σ H Q) : tC v σ H Q := by
  obtain ⟨Z, As, S, env, P, rl, sl, hg, hQ⟩ := h
  exact hQ.here rl (a := .d x) (hx _ _) hg
theorem pd_int {i : Int} {j} : PD X (.Constant (.int i) j pos) (gC (.int i)) := PEwk pe_int (c_wk fun _ _ => .int i)
theorem pd_bl {i : Bool} {j} : PD X (.Constant (.bool i) j pos) (gC (.bool i)) := PEwk pe_bl (c_wk fun _ _ => .bl i)
theorem pd_non {j} : PD X (.Constant .none j pos) (gC .none) := PEwk pe_non (c_wk fun _ _ => .non)
theorem pd_str {i : Str} {j} (hz : i.length ≤ sizeLine := by decide +kernel) : PD X (.Constant (.str i) j pos) (gC (.str i)) := PEwk pe_str (c_wk fun _ _ => .str i hz)
theorem pd_tC {v : V} {x : PyData} (h : PE X e (tC v)) (hx : ∀ L H, DV X.K L H v x) : PD X e (gC x) := PEwk h (c_wk hx)
theorem pd_tV {v : V} (h : PE X e (tC v)) : PD X e (gV v) := PEwk h fun σ H Q h => by
  obtain ⟨Z, As, S, env, P, rl, sl, hg, hQ⟩ := h
  exact hQ.here rl (a := .v v) rfl hg
theorem pda_nil : PDA X [] gNil := PAwk pa_nil nil_wk
theorem pda_cons (h : PD X e g) (ha : PDA X es ga) (hs : starEach (e :: es) X.env = (false, eval e X.env) :: starEach es X.env := by rfl) : PDA X (e :: es) (gCons g ga) := PAwk (pa_cons h ha hs) cons_wk
theorem pd_op {op : Operator} {r : R2} {R : AV → AV → Store → PQ → Prop} (ho : OpR X (binaryOp op) r) (hr : VR2 X.K r R) (h1 : PD X a g1) (h2 : PD X b g2) : PD X (.BinOp a op b pos) (gBin R g1 g2) := PEwk (pe_op ho h1 h2) (bin_wk hr)
theorem pd_cmp {op : CmpOp} {r : R2} {R : AV → AV → Store → PQ → Prop} (ho : OpR X (compareOp op) r) (hr : VR2 X.K r R) (h1 : PD X a g1) (h2 : PD X b g2) (hm : behindInMarks op b = false) : PD X (.Compare a [op] [b] pos) (gBin R g1 g2) := PEwk (pe_cmpR ho h1 h2 hm) (bin_wk hr)
theorem test_wk {K : PySem.W.Frag} {g : G} {t : TE} (w : ∀ σ H Q, tD K g σ H Q → t σ H Q) (σ : L2.St) (H : Hp) (Q : Bool → Hp → Prop) (h : tDT K (gTest g) σ H Q) : tTest t σ H Q := by
  obtain ⟨Z, As, S, env, P, rl, sl, hg, hQ⟩ := h
  refine w σ H _ ⟨Z, As, S, env, _, rl, sl, hg, fun r S1 As1 v H1 h1 po1 rl1 av1 => ?_⟩
  match r, h1, av1 with
  | .d (.bool c), h1, av1 => exact ⟨c, d_bool av1, hQ c S1 As1 H1 h1 po1 rl1⟩
theorem pdt_cmp {op : CmpOp} {r : R2} {R : AV → AV → Store → PQ → Prop} (ho : OpR X (compareOp op) r) (hr : VR2 X.K r R) (h1 : PD X a g1) (h2 : PD X b g2) (hm : behindInMarks op b = false) : PDT X (.Compare a [op] [b] pos) (gTest (gBin R g1 g2)) :=
  PTwk (pt_cmpR ho h1 h2 hm) (test_wk (bin_wk hr))
/-- a call, a name, an attribute as a test -/
theorem pdt_val (h : PD X e g) (he : ∀ whole, isTrue e X.env whole = (do let v ← whole; standAt e.pos; holding [v] (truthy v)) := by intro _; rfl) : PDT X e (gTest g) :=
  PTwk (pt_val h he) (test_wk (t := tD X.K g) fun _ _ _ h => h)
theorem pdt_w (h : PDW X e gt) : PDT X e gt := h.pt
theorem pdw_one {op} (h : PDT X a gt) (ho : op = .And ∨ op = .Or) : PDW X (.BoolOp op [a] pos) gt := by
  rcases ho with rfl | rfl
  · exact pw_and1 h
  · exact pw_or1 h
theorem pdw_and1 (h : PDT X a gt) : PDW X (.BoolOp .And [a] pos) gt := pw_and1 h
theorem pdw_or1 (h : PDT X a gt) : PDW X (.BoolOp .Or [a] pos) gt := pw_or1 h
theorem pdw_and (h1 : PDT X a gt1) (h2 : PDW X (.BoolOp .And (b :: es) pos) gt2) : PDW X (.BoolOp .And (a :: b :: es) pos) (gAnd gt1 gt2) := by
  refine PWwk (pw_and h1 h2) fun σ H Q h => ?_
  obtain ⟨Z, As, S, env, P, rl, sl, hg, hQ⟩ := h
  refine ⟨Z, As, S, env, _, rl, sl, hg, fun c S1 As1 H1 h1 po1 rl1 => ?_⟩
  cases c with
  | true => exact ⟨Z, As1, S1, env, P, rl1, sl.po po1, h1, hQ.later po1⟩
  | false => exact hQ false S1 As1 H1 h1 po1 rl1
theorem pdw_or (h1 : PDT X a gt1) (h2 : PDW X (.BoolOp .Or (b :: es) pos) gt2) : PDW X (.BoolOp .Or (a :: b :: es) pos) (gOr gt1 gt2) := by
  refine PWwk (pw_or h1 h2) fun σ H Q h => ?_
  obtain ⟨Z, As, S, env, P, rl, sl, hg, hQ⟩ := h
  refine ⟨Z, As, S, env, _, rl, sl, hg, fun c S1 As1 H1 h1 po1 rl1 => ?_⟩
  cases c with
  | false => exact ⟨Z, As1, S1, env, P, rl1, sl.po po1, h1, hQ.later po1⟩
  | true => exact hQ true S1 As1 H1 h1 po1 rl1
theorem pdt_not (h : PDT X a gt) : PDT X (.UnaryOp .Not a pos) (gNot gt) := by
  refine PTwk (pt_not h) fun σ H Q h => ?_
  obtain ⟨Z, As, S, env, P, rl, sl, hg, hQ⟩ := h
  exact ⟨Z, As, S, env, _, rl, sl, hg, fun c S1 As1 H1 h1 po1 rl1 => hQ (!c) S1 As1 H1 h1 po1 rl1⟩
/-- and, or, not as values -/
theorem pd_one {op} (h : PD X a g) : PD X (.BoolOp op [a] pos) g := pe_one h
theorem pd_and (h1 : PD X a g1) (h2 : PD X (.BoolOp .And (b :: es) pos) g2) : PD X (.BoolOp .And (a :: b :: es) pos) (fun env S P => gTest g1 env S fun c S1 => cond c (g2 env S1 P) (P (.d (.bool false)) S1)) := by
  refine PEwk (pe_and h1 h2) fun σ H Q h => ?_
  obtain ⟨Z, As, S, env, P, rl, sl, hg, hQ⟩ := h
  refine ⟨Z, As, S, env, _, rl, sl, hg, fun r S1 As1 v H1 h1 po1 rl1 av1 => ?_⟩
  match r, h1, av1 with
  | .d (.bool true), h1, av1 => exact ⟨true, d_bool av1, ⟨Z, As1, S1, env, P, rl1, sl.po po1, h1, hQ.later po1⟩⟩
  | .d (.bool false), h1, av1 => exact ⟨false, d_bool av1, hQ (.d (.bool false)) S1 As1 (.bl false) H1 h1 po1 rl1 (.bl false)⟩
theorem pd_or (h1 : PD X a g1) (h2 : PD X (.BoolOp .Or (b :: es) pos) g2) : PD X (.BoolOp .Or (a :: b :: es) pos) (fun env S P => gTest g1 env S fun c S1 => cond c (P (.d (.bool true)) S1) (g2 env S1 P)) := by
  refine PEwk (pe_or h1 h2) fun σ H Q h => ?_
  obtain ⟨Z, As, S, env, P, rl, sl, hg, hQ⟩ := h
  refine ⟨Z, As, S, env, _, rl, sl, hg, fun r S1 As1 v H1 h1 po1 rl1 av1 => ?_⟩
  match r, h1, av1 with
  | .d (.bool false), h1, av1 => exact ⟨false, d_bool av1, ⟨Z, As1, S1, env, P, rl1, sl.po po1, h1, hQ.later po1⟩⟩
  | .d (.bool true), h1, av1 => exact ⟨true, d_bool av1, hQ (.d (.bool true)) S1 As1 (.bl true) H1 h1 po1 rl1 (.bl true)⟩
theorem pd_not (h : PD X a g) : PD X (.UnaryOp .Not a pos) (gVal (gNot (gTest g))) := by
  refine PEwk (pe_not h) fun σ H Q h => ?_
  obtain ⟨Z, As, S, env, P, rl, sl, hg, hQ⟩ := h
  refine ⟨Z, As, S, env, _, rl, sl, hg, fun r S1 As1 v H1 h1 po1 rl1 av1 => ?_⟩
  match r, h1, av1 with
  | .d (.bool c), h1, av1 => exact ⟨c, d_bool av1, hQ (.d (.bool (!c))) S1 As1 (.bl (!c)) H1 h1 po1 rl1 (.bl _)⟩
theorem pd_ife (hc : PDT X c gt) (h1 : PD X a g1) (h2 : PD X b g2) : PD X (.IfExp c a b pos) (gIfE gt g1 g2) := by
  refine PEwk (pe_ifExp hc h1 h2) fun σ H Q h => ?_
  obtain ⟨Z, As, S, env, P, rl, sl, hg, hQ⟩ := h
  refine ⟨Z, As, S, env, _, rl, sl, hg, fun c S1 As1 H1 h1 po1 rl1 => ?_⟩
  cases c with
  | true => exact ⟨Z, As1, S1, env, P, rl1, sl.po po1, h1, hQ.later po1⟩
  | false => exact ⟨Z, As1, S1, env, P, rl1, sl.po po1, h1, hQ.later po1⟩
/-- a <= b <= c -/
def gChain (R R' : AV → AV → Store → PQ → Prop) (g1 g2 g3 : G) : G := fun env S P => g1 env S fun a S1 => g2 env S1 fun b S2 => R a b S2 fun r S3 => onB r fun c => cond c (g3 env S3 fun c S4 => R' b c S4 P) (P (.d (.bool false)) S3)
theorem chain_wk {K : PySem.W.Frag} {r r' : R2} {R R' : AV → AV → Store → PQ → Prop} (hr : VR2 K r R) (hr' : VR2 K r' R') (σ : L2.St) (H : Hp) (Q : VK) (h : tD K (gChain R R' g1 g2 g3) σ H Q) : tChain r r' (tD K g1) (tD K g2) (tD K g3) σ H Q := by
  obtain ⟨Z, As, S, env, P, rl, sl, hg, hQ⟩ := h
  refine ⟨Z, As, S, env, _, rl, sl, hg, fun a S1 As1 x H1 h1 po1 rl1 av1 => ?_⟩
  refine ⟨Z, As1, S1, env, _, rl1, sl.po po1, h1, fun b S2 As2 y H2 h2 po2 rl2 av2 => ?_⟩
  refine hr Z As2 S2 H2 x y a b _ _ rl2 (av1.po po2) av2 h2 fun r S3 As3 z H3 h3 po3 rl3 av3 => ?_
  match r, h3, av3 with
  | .d (.bool true), h3, av3 =>
    refine ⟨true, d_bool av3, ⟨Z, As3, S3, env, _, rl3, sl.po ((po1.trans po2).trans po3), h3, fun c S4 As4 u H4 h4 po4 rl4 av4 => ?_⟩⟩
    exact hr' Z As4 S4 H4 y u b c P Q rl4 (av2.po (po3.trans po4)) av4 h4 (hQ.later (((po1.trans po2).trans po3).trans po4))
  | .d (.bool false), h3, av3 => exact ⟨false, d_bool av3, hQ (.d (.bool false)) S3 As3 (.bl false) H3 h3 ((po1.trans po2).trans po3) rl3 (.bl false)⟩
theorem pd_chain {op op' : CmpOp} {r r' : R2} {R R' : AV → AV → Store → PQ → Prop} (ho : OpR X (compareOp op) r) (ho' : OpR X (compareOp op') r') (hr : VR2 X.K r R) (hr' : VR2 X.K r' R') (h1 : PD X a g1) (h2 : PD X b g2) (h3 : PD X c g3)
    (hm : lastMarks [op, op'] [b, c] = false := by with_unfolding_all rfl) : PD X (.Compare a [op, op'] [b, c] pos) (gChain R R' g1 g2 g3) := PEwk (pe_chain ho ho' h1 h2 h3 hm) (chain_wk hr hr')
theorem pdt_chain {op op' : CmpOp} {r r' : R2} {R R' : AV → AV → Store → PQ → Prop} (ho : OpR X (compareOp op) r) (ho' : OpR X (compareOp op') r') (hr : VR2 X.K r R) (hr' : VR2 X.K r' R') (h1 : PD X a g1) (h2 : PD X b g2) (h3 : PD X c g3)
    (hm : lastMarks [op, op'] [b, c] = false := by with_unfolding_all rfl) : PDT X (.Compare a [op, op'] [b, c] pos) (gTest (gChain R R' g1 g2 g3)) := PTwk (pt_chain ho ho' h1 h2 h3 hm) (test_wk (chain_wk hr hr'))
/-! ### displays -/
def dTup : List AV → Store → PQ → Prop := fun as S P => match dats as with
  | some ds => P (.d (.tuple ds)) S
  | none => False
def dLst : List AV → Store → PQ → Prop := fun as S P => match dats as with
  | some ds => P (.d (.list ds)) S
  | none => False
def dLstM : List AV → Store → PQ → Prop := fun as S P => P (.m S.length) (S ++ [.lst as])
theorem pd_tup {x1} (h : PDA X es ga) (hl : es.length ≤ 60 := by decide) : PD X (.Tuple es x1 pos) (fun env S P => ga env S fun as S1 => as.length ≤ sizeLine ∧ dTup as S1 P) := by
  refine PEwk (pe_tup h) fun σ H Q h => ?_
  obtain ⟨Z, As, S, env, P, rl, sl, hg, hQ⟩ := h
  refine ⟨Z, As, S, env, _, rl, sl, hg, fun as S1 As1 xs H1 h1 po1 rl1 av1 => ?_⟩
  obtain ⟨hz, h1⟩ := h1
  refine ⟨by rw [av1.length]; exact hz, fun p np => ?_⟩
  unfold dTup at h1
  split at h1
  · rename_i ds e
    rw [dats_eq e] at av1
    exact (hQ.later po1).tup rl1 np av1.to_d h1
  · exact h1.elim
theorem pd_lst (h : PDA X es ga) : PD X (.List es pos) (fun env S P => ga env S fun as S1 => as.length ≤ sizeLine ∧ dLst as S1 P) := by
  refine PEwk (pe_lst h) fun σ H Q h => ?_
  obtain ⟨Z, As, S, env, P, rl, sl, hg, hQ⟩ := h
  refine ⟨Z, As, S, env, _, rl, sl, hg, fun as S1 As1 xs H1 h1 po1 rl1 av1 => ?_⟩
  obtain ⟨hz, h1⟩ := h1
  refine ⟨by rw [av1.length]; exact hz, fun p np => ?_⟩
  unfold dLst at h1
  split at h1
  · rename_i ds e
    rw [dats_eq e] at av1
    exact (hQ.later po1).lst rl1 np av1.to_d h1
  · exact h1.elim
theorem pd_lstM (h : PDA X es ga) : PD X (.List es pos) (fun env S P => ga env S fun as S1 => as.length ≤ sizeLine ∧ dLstM as S1 P) := by
  refine PEwk (pe_lst h) fun σ H Q h => ?_
  obtain ⟨Z, As, S, env, P, rl, sl, hg, hQ⟩ := h
  refine ⟨Z, As, S, env, _, rl, sl, hg, fun as S1 As1 xs H1 h1 po1 rl1 av1 => ?_⟩
  obtain ⟨hz, h1⟩ := h1
  exact ⟨by rw [av1.length]; exact hz, fun p np => (hQ.later po1).lstM rl1 np av1 h1⟩
/-! ### built-in calls -/
theorem pd_callB {id : String} {r : List V → Hp → VK → Prop} {R : List AV → Store → PQ → Prop} {x : Str} (hc : CallR X (.builtin id) r) (hr : VRn X.K r R) (hg : Gl X x) (hm : X.mg x = none) (hv : bootBuiltins x = some (.builtin id)) (ha : PDA X (e :: es) ga) (hn : x ≠ "__name__" := by decide)
    (hdb : (x == ("__debug__" : Str)) = false := by decide) (he : starEach (e :: es) X.env = (false, eval e X.env) :: starEach es X.env := by rfl) (hpl : (backTo pos (starEach es X.env)).any (·.1) = false := by rfl) :
    PD X (.Call (.Name x p) (e :: es) [] pos) (gApp R ga) := PEwk (pe_callB hc hg hm hv ha hn hdb he hpl) (app_wk hr)
theorem pd_callTy {T : String} {r : List V → Hp → VK → Prop} {R : List AV → Store → PQ → Prop} {x : Str} (hc : CallR X (.type T) r) (hr : VRn X.K r R) (hg : Gl X x) (hm : X.mg x = none) (hv : bootBuiltins x = some (.type T)) (ha : PDA X (e :: es) ga) (hn : x ≠ "__name__" := by decide)
    (hdb : (x == ("__debug__" : Str)) = false := by decide) (he : starEach (e :: es) X.env = (false, eval e X.env) :: starEach es X.env := by rfl) (hpl : (backTo pos (starEach es X.env)).any (·.1) = false := by rfl) :
    PD X (.Call (.Name x p) (e :: es) [] pos) (gApp R ga) := PEwk (pe_callTy hc hg hm hv ha hn hdb he hpl) (app_wk hr)
/-! ### subscripts, slices -/
theorem pd_ix {r : R2} {R : AV → AV → Store → PQ → Prop} (hx : IxR X r) (hr : VR2 X.K r R) (h1 : PD X a g1) (h2 : PD X b g2) (hs : PlainIx b) : PD X (.Subscript a b pos) (gBin R g1 g2) := PEwk (pe_ix hx h1 h2 hs) (bin_wk hr)
abbrev GO := DEnv → Store → (Option Int → Store → Prop) → Prop
def tDO (K : PySem.W.Frag) (g : GO) : L2.St → Hp → (Option Int → Hp → Prop) → Prop := fun σ H Q => ∃ Z As S env P, Rl K Z As S H ∧ Sl K Z As S H σ env ∧ g env S P ∧ ∀ o S' As' H', P o S' → Po Z As S H As' S' H' → Rl K Z As' S' H' → Q o H'
abbrev PDO (X : Cx) (e : Option Expr) (g : GO) : Prop := PO X e (tDO X.K g)
def goNone : GO := fun _ S P => P none S
def goSome (g : G) : GO := fun env S P => g env S fun a S1 => match a with
  | .d (.int i) => P (some i) S1
  | _ => False
end
end DL
/-! what operators and built-ins answer -/
namespace DL
open PySem PySem.Spec PyProof.Rows L2
section
variable {K : PySem.W.Frag} {Z As : List Addr} {S : Store} {H : Hp} {v : V} {a : AV}
theorem vw_d {x : PyData} (h : vw S a = some x) (n : ∀ ds, x ≠ .list ds) : a = .d x := by
  cases a with
  | d y => cases h; rfl
  | m k =>
    obtain ⟨ds, e, _⟩ := vw_m h
    exact absurd e (n ds)
  | v y => cases h
theorem Kon.d {P : PQ} {Q : VK} {x : PyData} (k : Kon K Z As S H P Q) (r : Rl K Z As S H) (h : ∀ L, DV K L H v x) (p : P (.d x) S) : Q v H := k.here r (a := .d x) (h _) p
end
/-! ### + -/
def dAdd : AV → AV → Store → PQ → Prop := fun a b S P => match vw S a, vw S b with
  | some (.int i), some (.int j) => P (.d (.int (i + j))) S
  | some (.str x), some (.str y) => x.length + y.length ≤ sizeLine ∧ P (.d (.str (x ++ y))) S
  | some (.list xs), some (.list ys) => xs.length + ys.length ≤ sizeLine ∧ P (.d (.list (xs ++ ys))) S
  | some (.tuple xs), some (.tuple ys) => xs.length + ys.length ≤ sizeLine ∧ P (.d (.tuple (xs ++ ys))) S
  | _, _ => False
def rAdd (K : PySem.W.Frag) : R2 := fun x y H Q => (∃ i j, x = .int i ∧ y = .int j ∧ Q (.int (i + j)) H) ∨ (∃ i j, x = .str i ∧ y = .str j ∧ i.length + j.length ≤ sizeLine ∧ Q (.str (i ++ j)) H) ∨ rCat x y H Q ∨ rCatA K x y H Q
theorem op_addAll {X : Cx} : OpR X (binaryOp .Add) (rAdd X.K) := by
  intro pins s σ H x y v u Q I rx ry h
  rcases h with h | h | h | h
  · exact op_add pins s σ H x y v u Q I rx ry h
  · exact op_add_str pins s σ H x y v u Q I rx ry h
  · exact op_cat pins s σ H x y v u Q I rx ry h
  · exact op_catA pins s σ H x y v u Q I rx ry h
theorem vr_add {K : PySem.W.Frag} : VR2 K (rAdd K) dAdd := by
  intro Z As S H x y a b P Q rl ax ay h k
  unfold dAdd at h
  split at h
  · rename_i i j e1 e2
    exact .inl ⟨i, j, vw_int ax e1, vw_int ay e2, k.d rl (fun _ => .int _) h⟩
  · rename_i i j e1 e2
    exact .inr (.inl ⟨i, j, vw_str ax e1, vw_str ay e2, h.1, k.d rl (fun _ => .str _ (by rw [app_len]; exact h.1)) h.2⟩)
  · rename_i xs ys e1 e2
    obtain ⟨p, vs, rfl, hp, t1⟩ := vw_list rl ax e1
    obtain ⟨q, ws, rfl, hq, t2⟩ := vw_list rl ay e2
    exact .inr (.inr (.inl ⟨p, q, vs, ws, rfl, rfl, hp, hq, by rw [t1.length, t2.length]; exact h.1, fun r nr => k.lst rl nr (t1.append t2) h.2⟩))
  · rename_i xs ys e1 e2
    have a1 := vw_d e1 (by intro ds z; cases z)
    have a2 := vw_d e2 (by intro ds z; cases z)
    subst a1 a2
    obtain ⟨p, vs, rfl, hp, t1⟩ := vw_tup ax e1
    obtain ⟨q, ws, rfl, hq, t2⟩ := vw_tup ay e2
    refine .inr (.inr (.inr ⟨p, q, vs, ws, rfl, rfl, hp, hq, by rw [t1.length, t2.length]; exact h.1, fun e => ?_, fun _ e => ?_, fun _ _ r nr => k.tup rl nr (t1.append t2) h.2⟩))
    · subst e
      cases t1
      exact k.here rl (a := .d (.tuple ys)) ay h.2
    · subst e
      cases t2
      have z := h.2
      rw [List.append_nil] at z
      exact k.here rl (a := .d (.tuple xs)) ax z
  · exact h.elim
/-! ### ints -/
def dInt (C : Int → Int → Prop) (f : Int → Int → PyData) : AV → AV → Store → PQ → Prop := fun a b S P => match vw S a, vw S b with
  | some (.int i), some (.int j) => C i j ∧ P (.d (f i j)) S
  | _, _ => False
def dInt0 (f : Int → Int → PyData) : AV → AV → Store → PQ → Prop := fun a b S P => match vw S a, vw S b with
  | some (.int i), some (.int j) => P (.d (f i j)) S
  | _, _ => False
theorem vr_int {K : PySem.W.Frag} {C : Int → Int → Prop} {f : Int → Int → V} {g : Int → Int → PyData} (hf : ∀ i j L H, DV K L H (f i j) (g i j)) : VR2 K (rI C f) (dInt C g) := by
  intro Z As S H x y a b P Q rl ax ay h k
  unfold dInt at h
  split at h
  · rename_i i j e1 e2
    exact ⟨i, j, vw_int ax e1, vw_int ay e2, h.1, k.d rl (fun _ => hf _ _ _ _) h.2⟩
  · exact h.elim
theorem vr_int0 {K : PySem.W.Frag} {f : Int → Int → V} {g : Int → Int → PyData} (hf : ∀ i j L H, DV K L H (f i j) (g i j)) : VR2 K (rI0 f) (dInt0 g) := by
  intro Z As S H x y a b P Q rl ax ay h k
  unfold dInt0 at h
  split at h
  · rename_i i j e1 e2
    exact ⟨i, j, vw_int ax e1, vw_int ay e2, k.d rl (fun _ => hf _ _ _ _) h⟩
  · exact h.elim
abbrev dSub := dInt0 fun i j => .int (i - j)
abbrev dMul := dInt CMul fun i j => .int (i * j)
abbrev dMod := dInt (fun _ j => 0 < j) fun i j => .int (i % j)
abbrev dFdiv := dInt CDiv fun i j => .int (i / j)
abbrev dPow := dInt CPow fun i j => .int (i ^ j.toNat)
abbrev dLt := dInt0 fun i j => .bool (decide (i < j))
abbrev dLe := dInt0 fun i j => .bool (decide (i ≤ j))
abbrev dGt := dInt0 fun i j => .bool (decide (j < i))
abbrev dGe := dInt0 fun i j => .bool (decide (j ≤ i))
theorem vr_sub {K : PySem.W.Frag} : VR2 K (rI0 fun i j => .int (i - j)) dSub := vr_int0 fun _ _ _ _ => .int _
theorem vr_mul {K : PySem.W.Frag} : VR2 K (rI CMul fun i j => .int (i * j)) dMul := vr_int fun _ _ _ _ => .int _
theorem vr_mod {K : PySem.W.Frag} : VR2 K (rI (fun _ j => 0 < j) fun i j => .int (i % j)) dMod := vr_int fun _ _ _ _ => .int _
theorem vr_fdiv {K : PySem.W.Frag} : VR2 K (rI CDiv fun i j => .int (i / j)) dFdiv := vr_int fun _ _ _ _ => .int _
theorem vr_pow {K : PySem.W.Frag} : VR2 K (rI CPow fun i j => .int (i ^ j.toNat)) dPow := vr_int fun _ _ _ _ => .int _
theorem vr_lt {K : PySem.W.Frag} : VR2 K (rI0 fun i j => .bl (decide (i < j))) dLt := vr_int0 fun _ _ _ _ => .bl _
theorem vr_le {K : PySem.W.Frag} : VR2 K (rI0 fun i j => .bl (decide (i ≤ j))) dLe := vr_int0 fun _ _ _ _ => .bl _
theorem vr_gt {K : PySem.W.Frag} : VR2 K (rI0 fun i j => .bl (decide (j < i))) dGt := vr_int0 fun _ _ _ _ => .bl _
theorem vr_ge {K : PySem.W.Frag} : VR2 K (rI0 fun i j => .bl (decide (j ≤ i))) dGe := vr_int0 fun _ _ _ _ => .bl _
/-- texts by their order -/
def strLe (x y : Str) : Bool := !decide (y.cps.toList < x.cps.toList)
def dLeS : AV → AV → Store → PQ → Prop := fun a b S P => match vw S a, vw S b with
  | some (.str x), some (.str y) => P (.d (.bool (strLe x y))) S
  | _, _ => False
theorem vr_leS {K : PySem.W.Frag} : VR2 K (fun x y H Q => ∃ i j, x = .str i ∧ y = .str j ∧ Q (.bl (!decide (j.cps.toList < i.cps.toList))) H) dLeS := by
  intro Z As S H x y a b P Q rl ax ay h k
  unfold dLeS at h
  split at h
  · rename_i i j e1 e2
    exact ⟨i, j, vw_str ax e1, vw_str ay e2, k.d rl (fun _ => .bl _) h⟩
  · exact h.elim
/-- tuple * n -/
def dRep : AV → AV → Store → PQ → Prop := fun a b S P => match vw S a, vw S b with
  | some (.tuple xs), some (.int k) => (xs ≠ [] ∧ 2 ≤ k ∧ k ≤ 1000 ∧ xs.length ≤ 1000) ∧ P (.d (.tuple (List.replicate k.toNat xs).flatten)) S
  | _, _ => False
theorem DVs.rep {K : PySem.W.Frag} {L : Addr → Prop} {H : Hp} {vs : List V} {ds : List PyData} (h : DVs K L H vs ds) : ∀ n : Nat, DVs K L H (List.replicate n vs).flatten (List.replicate n ds).flatten
  | 0 => .nil
  | n + 1 => by
    rw [List.replicate_succ, List.replicate_succ, List.flatten_cons, List.flatten_cons]
    exact h.append (h.rep n)
theorem vr_rep {K : PySem.W.Frag} : VR2 K (rRepT K) dRep := by
  intro Z As S H x y a b P Q rl ax ay h k
  unfold dRep at h
  split at h
  · rename_i xs n e1 e2
    obtain ⟨p, vs, rfl, hp, t1⟩ := vw_tup ax e1
    obtain ⟨⟨h1, h2, h3, h4⟩, h5⟩ := h
    exact ⟨p, n, vs, rfl, vw_int ay e2, hp, fun z => h1 (by subst z; cases t1; rfl), h2, h3, by rw [t1.length]; exact h4, fun r nr => k.tup rl nr (t1.rep _) h5⟩
  · exact h.elim
/-! ### equal or not -/
mutual
theorem DV.dp {K : PySem.W.Frag} {L : Addr → Prop} {H : Hp} : ∀ (d : PyData) (v : V), PyData.canLay0 d = true → DV K L H v d → Dp K H v d
  | .none, _, _, h => by cases h; exact .non
  | .bool b, _, _, h => by cases h; exact .bl b
  | .int i, _, _, h => by cases h; exact .int i
  | .str x, _, _, h => by cases h; exact .str x
  | .list ds, _, c, h => by
    cases h with
    | lst n e t => exact .lst (.inl (.inl e)) (DVs.dp ds _ (by simpa [PyData.canLay0] using c) t)
  | .tuple ds, _, c, h => by
    cases h with
    | tup n e t => exact .tup (.inl (.inl e)) (DVs.dp ds _ (by simpa [PyData.canLay0] using c) t)
    | tupK e t => exact .tup (sqt_up e) (DVs.dp ds _ (by simpa [PyData.canLay0] using c) t)
  | .dict kvs, _, c, _ => by simp [PyData.canLay0] at c
theorem DVs.dp {K : PySem.W.Frag} {L : Addr → Prop} {H : Hp} : ∀ (ds : List PyData) (vs : List V), PyData.canLayAll0 ds = true → DVs K L H vs ds → DpAll K H vs ds
  | [], _, _, h => by cases h; exact .nil
  | d :: ds, _, c, h => by
    have c1 : (PyData.canLay0 d && PyData.canLayAll0 ds) = true := by simpa [PyData.canLayAll0] using c
    obtain ⟨c1, c2⟩ := Bool.and_eq_true_iff.mp c1
    cases h with
    | cons a t => exact .cons (DV.dp d _ c1 a) (DVs.dp ds _ c2 t)
end
theorem shaped_lay {d : PyData} (h : SeqAt.shaped d = true) : PyData.canLay0 d = true := by
  unfold SeqAt.shaped at h
  exact (Bool.and_eq_true_iff.mp h).1
def dEqD (neg : Bool) : AV → AV → Store → PQ → Prop := fun a b S P => match vw S a, vw S b with
  | some x, some y => (SeqAt.shaped x = true ∧ SeqAt.shaped y = true) ∧ P (.d (.bool (cond neg (!PyData.eqv x y) (PyData.eqv x y)))) S
  | _, _ => False
theorem vr_eqD {K : PySem.W.Frag} : VR2 K (rEqD K) (dEqD false) := by
  intro Z As S H x y a b P Q rl ax ay h k
  unfold dEqD at h
  split at h
  · rename_i d e e1 e2
    exact ⟨d, e, DV.dp d _ (shaped_lay h.1.1) (vw_any rl ax e1), DV.dp e _ (shaped_lay h.1.2) (vw_any rl ay e2), h.1.1, h.1.2, k.d rl (fun _ => .bl _) h.2⟩
  · exact h.elim
theorem vr_neD {K : PySem.W.Frag} : VR2 K (rNeD K) (dEqD true) := by
  intro Z As S H x y a b P Q rl ax ay h k
  unfold dEqD at h
  split at h
  · rename_i d e e1 e2
    exact ⟨d, e, DV.dp d _ (shaped_lay h.1.1) (vw_any rl ax e1), DV.dp e _ (shaped_lay h.1.2) (vw_any rl ay e2), h.1.1, h.1.2, k.d rl (fun _ => .bl _) h.2⟩
  · exact h.elim
/-- plain values of one kind, or of kinds that are never equal -/
def scD : PyData → PyData → Option Bool
  | .int i, .int j => some (decide (i = j))
  | .str x, .str y => some (decide (x = y))
  | .bool x, .bool y => some (decide (x = y))
  | .none, .none => some true
  | .none, .int _ | .int _, .none | .none, .bool _ | .bool _, .none | .none, .str _ | .str _, .none => some false
  | .int _, .str _ | .str _, .int _ | .bool _, .str _ | .str _, .bool _ => some false
  | _, _ => none
theorem scD_scal {K : PySem.W.Frag} {L : Addr → Prop} {H : Hp} {x y : V} {d e : PyData} {c : Bool} (hx : DV K L H x d) (hy : DV K L H y e) (h : scD d e = some c) : scal x y = true ∧ decide (x = y) = c := by
  cases hx <;> cases hy <;> first | (cases h; done) | (cases h; refine ⟨rfl, ?_⟩; simp)
def dEqS (neg : Bool) : AV → AV → Store → PQ → Prop := fun a b S P => match vw S a, vw S b with
  | some x, some y => match scD x y with
    | some c => P (.d (.bool (cond neg (!c) c))) S
    | none => False
  | _, _ => False
theorem vr_eqS {K : PySem.W.Frag} : VR2 K rEq (dEqS false) := by
  intro Z As S H x y a b P Q rl ax ay h k
  unfold dEqS at h
  split at h
  · rename_i d e e1 e2
    split at h
    · rename_i c e3
      obtain ⟨z1, z2⟩ := scD_scal (vw_any rl ax e1) (vw_any rl ay e2) e3
      exact ⟨z1, by rw [z2]; exact k.d rl (fun _ => .bl _) h⟩
    · exact h.elim
  · exact h.elim
theorem vr_neS {K : PySem.W.Frag} : VR2 K rNe (dEqS true) := by
  intro Z As S H x y a b P Q rl ax ay h k
  unfold dEqS at h
  split at h
  · rename_i d e e1 e2
    split at h
    · rename_i c e3
      obtain ⟨z1, z2⟩ := scD_scal (vw_any rl ax e1) (vw_any rl ay e2) e3
      exact ⟨z1, by rw [z2]; exact k.d rl (fun _ => .bl _) h⟩
    · exact h.elim
  · exact h.elim
/-! ### is None -/
def nonD : PyData → Bool
  | .none => true
  | _ => false
def dIsN (neg : Bool) : AV → AV → Store → PQ → Prop := fun a b S P => match vw S b with
  | some .none => match vw S a with
    | some x => P (.d (.bool (cond neg (!nonD x) (nonD x)))) S
    | none => False
  | _ => False
theorem dv_non {K : PySem.W.Frag} {L : Addr → Prop} {H : Hp} {x : V} {d : PyData} (h : DV K L H x d) : decide (x = .non) = nonD d := by cases h <;> rfl
theorem vr_isN {K : PySem.W.Frag} : VR2 K (fun x y H Q => y = .non ∧ Q (.bl (decide (x = .non))) H) (dIsN false) := by
  intro Z As S H x y a b P Q rl ax ay h k
  unfold dIsN at h
  split at h
  · rename_i e2
    split at h
    · rename_i d e1
      refine ⟨vw_none ay e2, ?_⟩
      rw [dv_non (vw_any rl ax e1)]
      exact k.d rl (fun _ => .bl _) h
    · exact h.elim
  · exact h.elim
theorem vr_notN {K : PySem.W.Frag} : VR2 K (fun x y H Q => y = .non ∧ Q (.bl (!decide (x = .non))) H) (dIsN true) := by
  intro Z As S H x y a b P Q rl ax ay h k
  unfold dIsN at h
  split at h
  · rename_i e2
    split at h
    · rename_i d e1
      refine ⟨vw_none ay e2, ?_⟩
      rw [dv_non (vw_any rl ax e1)]
      exact k.d rl (fun _ => .bl _) h
    · exact h.elim
  · exact h.elim
/-! ### in -/
def txts : List PyData → Option (List Str)
  | [] => some []
  | .str x :: r => (txts r).map (x :: ·)
  | _ :: _ => none
theorem strs_map (xs : List Str) : txts (xs.map .str) = some xs := by
  induction xs with
  | nil => rfl
  | cons d ds ih => show (txts (ds.map .str)).map _ = _; rw [ih]; rfl
theorem strs_eq : ∀ {ds : List PyData} {xs : List Str}, txts ds = some xs → ds = xs.map .str
  | [], xs, h => by cases h; rfl
  | .str x :: r, xs, h => by
    obtain ⟨es, e1, rfl⟩ := Option.map_eq_some_iff.mp (show (txts r).map (x :: ·) = some xs from h)
    rw [strs_eq e1]
    rfl
  | .none :: _, _, h => by cases h
  | .bool _ :: _, _, h => by cases h
  | .int _ :: _, _, h => by cases h
  | .list _ :: _, _, h => by cases h
  | .tuple _ :: _, _, h => by cases h
  | .dict _ :: _, _, h => by cases h
theorem dvs_strs {K : PySem.W.Frag} {L : Addr → Prop} {H : Hp} : ∀ {xs : List Str} {vs : List V}, DVs K L H vs (xs.map .str) → vs = xs.map V.str
  | [], _, h => by cases h; rfl
  | x :: xs, _, h => by
    cases h with
    | cons a t =>
      cases a
      rw [dvs_strs t]
      rfl
/-- a text in a list or tuple of texts -/
def dInS (neg : Bool) : AV → AV → Store → PQ → Prop := fun a b S P => match vw S a, vw S b with
  | some (.str x), some (.list ds) => match txts ds with
    | some ys => P (.d (.bool (cond neg (!ys.any fun y => decide (y = x)) (ys.any fun y => decide (y = x))))) S
    | none => False
  | some (.str x), some (.tuple ds) => match txts ds with
    | some ys => P (.d (.bool (cond neg (!ys.any fun y => decide (y = x)) (ys.any fun y => decide (y = x))))) S
    | none => False
  | _, _ => False
theorem inV_strs (x : Str) (ys : List Str) : inV (.str x) (ys.map V.str) = ys.any fun y => decide (y = x) := by
  unfold inV
  rw [List.any_map]
  congr 1
theorem flat_strs (ys : List Str) : (ys.map V.str).all flatV = true := by
  rw [List.all_map]
  exact List.all_eq_true.mpr fun _ _ => rfl
theorem vr_inS {K : PySem.W.Frag} (neg : Bool) : VR2 K (rIn K neg) (dInS neg) := by
  intro Z As S H x y a b P Q rl ax ay h k
  unfold dInS at h
  split at h
  · rename_i i ds e1 e2
    split at h
    · rename_i ys e3
      obtain ⟨p, vs, rfl, hp, t1⟩ := vw_list rl ay e2
      rw [strs_eq e3] at t1
      rw [dvs_strs t1] at hp
      refine ⟨p, _, rfl, .inl (.inl (.inl hp)), by rw [vw_str ax e1]; rfl, flat_strs ys, ?_⟩
      rw [vw_str ax e1, inV_strs]
      refine k.d rl (fun _ => .bl _) ?_
      cases neg <;> exact h
    · exact h.elim
  · rename_i i ds e1 e2
    split at h
    · rename_i ys e3
      obtain ⟨p, vs, rfl, hp, t1⟩ := vw_tup ay e2
      rw [strs_eq e3] at t1
      rw [dvs_strs t1] at hp
      refine ⟨p, _, rfl, .inr hp, by rw [vw_str ax e1]; rfl, flat_strs ys, ?_⟩
      rw [vw_str ax e1, inV_strs]
      refine k.d rl (fun _ => .bl _) ?_
      cases neg <;> exact h
    · exact h.elim
  · exact h.elim
/-- a sign in a text -/
def dInC (neg : Bool) : AV → AV → Store → PQ → Prop := fun a b S P => match vw S a, vw S b with
  | some (.str x), some (.str z) => match x.cps.toList with
    | [c] => P (.d (.bool (cond neg (!decide (c ∈ z.cps.toList)) (decide (c ∈ z.cps.toList))))) S
    | _ => False
  | _, _ => False
theorem one_sign {x : Str} {c : Nat} (h : x.cps.toList = [c]) : x = ⟨#[c]⟩ := by
  obtain ⟨a⟩ := x
  exact congrArg Str.mk (Array.ext' h)
theorem vr_inC {K : PySem.W.Frag} : VR2 K (fun x y H Q => ∃ (c : Nat) (z : Str), x = .str ⟨#[c]⟩ ∧ y = .str z ∧ Q (.bl (decide (c ∈ z.cps.toList))) H) (dInC false) := by
  intro Z As S H x y a b P Q rl ax ay h k
  unfold dInC at h
  split at h
  · rename_i i j e1 e2
    split at h
    · rename_i c e3
      exact ⟨c, j, by rw [vw_str ax e1, one_sign e3], vw_str ay e2, k.d rl (fun _ => .bl _) h⟩
    · exact h.elim
  · exact h.elim
theorem vr_notInC {K : PySem.W.Frag} : VR2 K (fun x y H Q => ∃ (c : Nat) (z : Str), x = .str ⟨#[c]⟩ ∧ y = .str z ∧ Q (.bl (!decide (c ∈ z.cps.toList))) H) (dInC true) := by
  intro Z As S H x y a b P Q rl ax ay h k
  unfold dInC at h
  split at h
  · rename_i i j e1 e2
    split at h
    · rename_i c e3
      exact ⟨c, j, by rw [vw_str ax e1, one_sign e3], vw_str ay e2, k.d rl (fun _ => .bl _) h⟩
    · exact h.elim
  · exact h.elim
/-- a value in a list of such -/
def dInD (neg : Bool) : AV → AV → Store → PQ → Prop := fun a b S P => match vw S a, vw S b with
  | some x, some (.list ds) => (SeqAt.shaped x = true ∧ SeqAt.shaped (.list ds) = true) ∧ P (.d (.bool (cond neg (!ds.any fun z => PyData.eqv z x) (ds.any fun z => PyData.eqv z x)))) S
  | _, _ => False
theorem vr_inD {K : PySem.W.Frag} : VR2 K (rInD K) (dInD false) := by
  intro Z As S H x y a b P Q rl ax ay h k
  unfold dInD at h
  split at h
  · rename_i d ds e1 e2
    exact ⟨d, ds, DV.dp d _ (shaped_lay h.1.1) (vw_any rl ax e1), DV.dp _ _ (shaped_lay h.1.2) (vw_any rl ay e2), h.1.1, h.1.2, k.d rl (fun _ => .bl _) h.2⟩
  · exact h.elim
/-! ### subscripts -/
def dIxL : AV → AV → Store → PQ → Prop := fun a b S P => match vw S a, vw S b with
  | some (.list ds), some (.int i) => match atI ds i with
    | some d => P (.d d) S
    | none => False
  | _, _ => False
def dIxT : AV → AV → Store → PQ → Prop := fun a b S P => match vw S a, vw S b with
  | some (.tuple ds), some (.int i) => match atI ds i with
    | some d => P (.d d) S
    | none => False
  | _, _ => False
theorem at_dvs {K : PySem.W.Frag} {L : Addr → Prop} {H : Hp} {vs : List V} {ds : List PyData} {i : Int} {d : PyData} (t : DVs K L H vs ds) (h : atI ds i = some d) : ∃ v, atI vs i = some v ∧ DV K L H v d := by
  unfold atI at h ⊢
  obtain ⟨j, h1, h2⟩ := Option.bind_eq_some_iff.mp h
  obtain ⟨v, e, q⟩ := t.get h2
  exact ⟨v, by rw [t.length, h1]; exact e, q⟩
theorem vr_ixL {K : PySem.W.Frag} : VR2 K (rIxL K) dIxL := by
  intro Z As S H x y a b P Q rl ax ay h k
  unfold dIxL at h
  split at h
  · rename_i ds i e1 e2
    split at h
    · rename_i d e3
      obtain ⟨p, vs, rfl, hp, t1⟩ := vw_list rl ax e1
      obtain ⟨v, e4, q⟩ := at_dvs t1 e3
      exact ⟨p, vs, i, v, rfl, vw_int ay e2, .inl (.inl hp), e4, k.here rl (a := .d d) q h⟩
    · exact h.elim
  · exact h.elim
theorem vr_ixT {K : PySem.W.Frag} : VR2 K (rIxT K) dIxT := by
  intro Z As S H x y a b P Q rl ax ay h k
  unfold dIxT at h
  split at h
  · rename_i ds i e1 e2
    split at h
    · rename_i d e3
      obtain ⟨p, vs, rfl, hp, t1⟩ := vw_tup ax e1
      obtain ⟨v, e4, q⟩ := at_dvs t1 e3
      exact ⟨p, vs, i, v, rfl, vw_int ay e2, hp, e4, k.here rl (a := .d d) q h⟩
    · exact h.elim
  · exact h.elim
end DL
/-! statements, targets, loops, comprehensions -/
namespace DL
open PySem PySem.Spec PyProof.Rows L2
/-! ### statements -/
def gsNext : GS := fun env S D => D.nx env S
def gsSeq (g1 g2 : GS) : GS := fun env S D => g1 env S { D with nx := fun env' S' => g2 env' S' D }
def gsRet (g : G) : GS := fun env S D => g env S D.rt
def gsRetN : GS := fun _ S D => D.rt (.d .none) S
def gsDrop (g : G) : GS := fun env S D => g env S fun _ S1 => D.nx env S1
def gsIf (gt : GT) (g1 g2 : GS) : GS := fun env S D => gt env S fun c S1 => cond c (g1 env S1 D) (g2 env S1 D)
def gsBk : GS := fun env S D => D.bk env S
def gsCt : GS := fun env S D => D.ct env S
/-- a list that changes is left as data (its slots are data from now on) -/
def thaw (k : Nat) (ds : List PyData) : Option AV → Option AV
  | some (.m j) => if j = k then some (.d (.list ds)) else some (.m j)
  | a => a
section
variable {X : Cx} {st : Stmt} {rest : List Stmt} {g g1 g2 : GS} {ge : G} {gt : GT} {e : Expr} {pos : Pos}
theorem pdss_nil : PDSs X [] gsNext := PSswk pss_nil fun D σ H h => by
  obtain ⟨Z, As, S, env, E, rl, sl, hg, k1, k2, k3, k4⟩ := h
  exact k1 env S As σ H hg Po.refl rl sl
theorem pdss_one (h : PDS X st g) : PDSs X [st] g := pss_one h
theorem pdss_cons (h1 : PDS X st g1) (h2 : PDSs X rest g2) : PDSs X (st :: rest) (gsSeq g1 g2) := PSswk (pss_cons h1 h2) fun D σ H h => by
  obtain ⟨Z, As, S, env, E, rl, sl, hg, k1, k2, k3, k4⟩ := h
  refine ⟨Z, As, S, env, _, rl, sl, hg, fun env' S' As' σ' H' h' po rl' sl' => ?_, k2, k3, k4⟩
  exact ⟨Z, As', S', env', E, rl', sl', h', k1.later po, k2.later po, k3.later po, k4.later po⟩
theorem pds_pass : PDS X (.Pass pos) gsNext := PSwk ps_pass fun D σ H h => by
  obtain ⟨Z, As, S, env, E, rl, sl, hg, k1, k2, k3, k4⟩ := h
  exact k1 env S As σ H hg Po.refl rl sl
theorem pds_break : PDS X (.Break pos) gsBk := PSwk ps_break fun D σ H h => by
  obtain ⟨Z, As, S, env, E, rl, sl, hg, k1, k2, k3, k4⟩ := h
  exact k3 env S As σ H hg Po.refl rl sl
theorem pds_continue : PDS X (.Continue pos) gsCt := PSwk ps_continue fun D σ H h => by
  obtain ⟨Z, As, S, env, E, rl, sl, hg, k1, k2, k3, k4⟩ := h
  exact k4 env S As σ H hg Po.refl rl sl
theorem pds_ret (h : PD X e ge) : PDS X (.Return (some e) pos) (gsRet ge) := PSwk (ps_ret h) fun D σ H h => by
  obtain ⟨Z, As, S, env, E, rl, sl, hg, k1, k2, k3, k4⟩ := h
  exact ⟨Z, As, S, env, _, rl, sl, hg, k2⟩
theorem pds_retN : PDS X (.Return none pos) gsRetN := PSwk ps_retN fun D σ H h => by
  obtain ⟨Z, As, S, env, E, rl, sl, hg, k1, k2, k3, k4⟩ := h
  exact k2.here rl (a := .d .none) .non hg
theorem pds_expr (h : PD X e ge) (hs : swapsWith e none pos.line X.env = pure false := by rfl) : PDS X (.Expr e pos) (gsDrop ge) := PSwk (ps_expr h hs) fun D σ H h => by
  obtain ⟨Z, As, S, env, E, rl, sl, hg, k1, k2, k3, k4⟩ := h
  exact ⟨Z, As, S, env, _, rl, sl, hg, fun r S' As' v H' h' po rl' av => k1 env S' As' σ H' h' po rl' (sl.po po)⟩
theorem pds_if {c : Expr} {a b : List Stmt} (hc : PDT X c gt) (h1 : PDSs X a g1) (h2 : PDSs X b g2) : PDS X (.If c a b pos) (gsIf gt g1 g2) := PSwk (ps_if hc h1 h2) fun D σ H h => by
  obtain ⟨Z, As, S, env, E, rl, sl, hg, k1, k2, k3, k4⟩ := h
  refine ⟨Z, As, S, env, _, rl, sl, hg, fun c S' As' H' h' po rl' => ?_⟩
  cases c with
  | true => exact ⟨Z, As', S', env, E, rl', sl.po po, h', k1.later po, k2.later po, k3.later po, k4.later po⟩
  | false => exact ⟨Z, As', S', env, E, rl', sl.po po, h', k1.later po, k2.later po, k3.later po, k4.later po⟩
/-- ahead of a statement: a list is left as data -/
theorem Sl.thaw {K : PySem.W.Frag} {Z As : List Addr} {S : Store} {H : Hp} {σ : L2.St} {env : DEnv} {k : Nat} {ds : List PyData} (hf : ∀ v, AVr K Z As S H v (.m k) → AVr K Z As (S.set k .dead) H v (.d (.list ds)))
    (po : Po Z As S H As (S.set k .dead) H) (h : Sl K Z As S H σ env) : Sl K Z As (S.set k .dead) H σ (env.map (DL.thaw k ds)) := by
  induction h with
  | nil => exact .nil
  | none _ ih => exact .none ih
  | @some v a σ env r _ ih =>
    rw [List.map_cons]
    have same : AVr K Z As (S.set k .dead) H v a := r.po po
    cases a with
    | d x => exact .some same ih
    | v x => exact .some same ih
    | m j =>
      show Sl K Z As (S.set k .dead) H _ ((if j = k then Option.some (AV.d (.list ds)) else Option.some (AV.m j)) :: _)
      by_cases e : j = k
      · subst e
        rw [if_pos rfl]
        exact .some (hf v r) ih
      · rw [if_neg e]
        exact .some same ih
theorem pds_thaw (h : PDS X st g) : PDS X st (fun env S D => g env S D ∨ ∃ k ds, S[k]? = some (.lst (ds.map .d)) ∧ g (env.map (thaw k ds)) (S.set k .dead) D) := PSwk h fun D σ H h => by
  obtain ⟨Z, As, S, env, E, rl, sl, hg, k1, k2, k3, k4⟩ := h
  rcases hg with hg | ⟨k, ds, hS, hg⟩
  · exact ⟨Z, As, S, env, E, rl, sl, hg, k1, k2, k3, k4⟩
  · obtain ⟨po, rl', hf⟩ := freeze rl hS
    exact ⟨Z, As, S.set k .dead, _, E, rl', sl.thaw hf po, hg, k1.later po, k2.later po, k3.later po, k4.later po⟩
end
/-! ### targets -/
abbrev GG := AV → DEnv → Store → (DEnv → Store → Prop) → Prop
abbrev GGs := List AV → DEnv → Store → (DEnv → Store → Prop) → Prop
def tDG (K : PySem.W.Frag) (g : GG) : TG := fun v σ H Q => ∃ Z As S env a P, Rl K Z As S H ∧ Sl K Z As S H σ env ∧ AVr K Z As S H v a ∧ g a env S P ∧ KonS K Z As S H P Q
def tDGs (K : PySem.W.Frag) (g : GGs) : TGs := fun vs σ H Q => ∃ Z As S env as P, Rl K Z As S H ∧ Sl K Z As S H σ env ∧ AVs K Z As S H vs as ∧ g as env S P ∧ KonS K Z As S H P Q
abbrev PDG (X : Cx) (e : Expr) (g : GG) : Prop := PG X e (tDG X.K g)
abbrev PDGs (X : Cx) (es : List Expr) (g : GGs) : Prop := PGs X es (tDGs X.K g)
def ggName (i : Nat) : GG := fun a env S P => P (env.set i (some a)) S
def ggNil : GGs := fun as env S P => as = [] ∧ P env S
def ggCons (g : GG) (gs : GGs) : GGs := fun as env S P => match as with
  | a :: r => g a env S fun env' S' => gs r env' S' P
  | [] => False
def ggTup (n : Nat) (gs : GGs) : GG := fun a env S P => match vw S a with
  | some (.tuple ds) => ds.length = n ∧ gs (ds.map .d) env S P
  | _ => False
section
variable {X : Cx} {e : Expr} {es : List Expr} {pos : Pos}
theorem PGwk {t t' : TG} (h : PG X e t) (w : ∀ v σ H Q, t' v σ H Q → t v σ H Q) : PG X e t' := ⟨fun pins s σ H v u Q I r hw => h.run pins s σ H v u Q I r (w v σ H Q hw)⟩
theorem PGswk {t t' : TGs} (h : PGs X es t) (w : ∀ v σ H Q, t' v σ H Q → t v σ H Q) : PGs X es t' := ⟨fun pins s σ H v u Q I r hw => h.run pins s σ H v u Q I r (w v σ H Q hw)⟩
theorem pdg_name {i : Nat} {x : Str} (hN : X.N.Nodup) (hi : X.N[i]? = some x) (hx : Loc X.env.scope x) (hf : X.fn x = true ∨ X.env.scope.names.lookup x = some .local := by first | exact .inl rfl | exact .inr rfl | assumption) : PDG X (.Name x pos) (ggName i) :=
  PGwk (pg_name (i := i) hN hi hx hf) fun v σ H Q h => by
    obtain ⟨Z, As, S, env, a, P, rl, sl, av, hg, k⟩ := h
    exact k _ S As _ H hg Po.refl rl (sl.set av)
theorem pdgs_nil : PDGs X [] ggNil := PGswk pgs_nil fun v σ H Q h => by
  obtain ⟨Z, As, S, env, a, P, rl, sl, av, ⟨rfl, hg⟩, k⟩ := h
  cases av
  exact ⟨rfl, k env S As σ H hg Po.refl rl sl⟩
theorem pdgs_cons {g : GG} {gs : GGs} (h1 : PDG X e g) (h2 : PDGs X es gs) (hs : (assignEach (e :: es) X.env).map (·.2) = assign e X.env :: (assignEach es X.env).map (·.2) := by rfl) : PDGs X (e :: es) (ggCons g gs) := PGswk (pgs_cons h1 h2 hs) fun v σ H Q h => by
  obtain ⟨Z, As, S, env, as, P, rl, sl, av, hg, k⟩ := h
  cases av with
  | nil => exact hg.elim
  | @cons v vs a r a1 a2 =>
    exact ⟨v, vs, rfl, Z, As, S, env, a, _, rl, sl, a1, hg, fun env' S' As' σ' H' h' po rl' sl' => ⟨Z, As', S', env', r, P, rl', sl', a2.po po, h', k.later po⟩⟩
theorem pdg_tup {gs : GGs} {k : Nat} {n : Nat} (hc : X.calm = true) (h : PDGs X es gs) (hn : (assignEach es X.env).length = n := by rfl) (hst : (assignEach es X.env).findIdx? (·.1) = none := by rfl) : PDG X (.Tuple es k pos) (ggTup n gs) :=
  PGwk (pg_tup hc h hn hst) fun v σ H Q h => by
    obtain ⟨Z, As, S, env, a, P, rl, sl, av, hg, k⟩ := h
    unfold ggTup at hg
    split at hg
    · rename_i ds e1
      obtain ⟨p, vs, rfl, hp, t⟩ := vw_tup av e1
      exact ⟨p, vs, rfl, hp, by rw [t.length]; exact hg.1, Z, As, S, env, _, P, rl, sl, AVs.of_d t, hg.2, k⟩
    · exact hg.elim
/-- target = value -/
def gsAsg (g : G) (gg : GG) : GS := fun env S D => g env S fun a S1 => gg a env S1 D.nx
theorem asg_wk {K : PySem.W.Frag} {g : G} {gg : GG} (D : Ends) (σ : L2.St) (H : Hp) (h : tDS K (gsAsg g gg) D σ H) : tAsg (tD K g) (tDG K gg) D σ H := by
  obtain ⟨Z, As, S, env, E, rl, sl, hg, k1, k2, k3, k4⟩ := h
  exact ⟨Z, As, S, env, _, rl, sl, hg, fun r S' As' v H' h' po rl' av => ⟨Z, As', S', env, r, _, rl', sl.po po, av, h', k1.later po⟩⟩
theorem pds_asg {tg : Expr} {g : G} {gg : GG} (he : PD X e g) (hg : PDG X tg gg) (hs : swapsWithSole [tg] e pos.line X.env = pure false := by rfl) (hw : swappedStores [tg] e X.env = pure none := by rfl)
    (h1 : (assignEach [tg] X.env).map (·.2) = [assign tg X.env] := by rfl) : PDS X (.Assign [tg] e pos) (gsAsg g gg) := PSwk (ps_asg he hg hs hw h1) asg_wk
theorem pds_set {i : Nat} {x : Str} {g : G} {pos' : Pos} (hN : X.N.Nodup) (hi : X.N[i]? = some x) (hx : Loc X.env.scope x) (he : PD X e g) (hs : swapsWith e (some (.Name x pos')) pos.line X.env = pure false := by rfl)
    (hf : X.fn x = true ∨ X.env.scope.names.lookup x = some .local := by first | exact .inl rfl | exact .inr rfl | assumption) : PDS X (.Assign [.Name x pos'] e pos) (gsAsg g (ggName i)) :=
  PSwk (ps_set (i := i) hN hi hx he hs hf) fun D σ H h => by
    obtain ⟨Z, As, S, env, E, rl, sl, hg, k1, k2, k3, k4⟩ := h
    exact ⟨Z, As, S, env, _, rl, sl, hg, fun r S' As' v H' h' po rl' av => k1 _ S' As' _ H' h' po rl' ((sl.po po).set av)⟩
/-- a, b = x, y -/
def gsPar (i j : Nat) (ga : GA) : GS := fun env S D => ga env S fun as S1 => match as with
  | [a, b] => D.nx ((env.set i (some a)).set j (some b)) S1
  | _ => False
end
/-! ### what is walked -/
/-- J walks these data while things are so -/
def Wk (K : PySem.W.Frag) (Z As : List Addr) (S : Store) (H : Hp) (J : It) (items : List PyData) : Prop := ∃ (Gd : Hp → Prop) (Y : Nat → Hp → V → Hp → Prop), Walk J items.length Gd Y ∧
  (∀ Z' As' S' H', Ex (lv Z As S) H (lv Z' As' S') H' → Gd H') ∧
  (∀ i Z' As' S' H' x H'', i < items.length → Ex (lv Z As S) H (lv Z' As' S') H' → Rl K Z' As' S' H' → Y i H' x H'' → ∃ d, items[i]? = some d ∧ Po Z' As' S' H' As' S' H'' ∧ Rl K Z' As' S' H'' ∧ DV K (lv Z' As' S') H'' x d)
abbrev GI := DEnv → Store → (List PyData → Store → Prop) → Prop
def tDI (K : PySem.W.Frag) (g : GI) : TI := fun σ H R => ∃ Z As S env P, Rl K Z As S H ∧ Sl K Z As S H σ env ∧ g env S P ∧
  ∀ items S' As' H' J, P items S' → Po Z As S H As' S' H' → Rl K Z As' S' H' → Wk K Z As' S' H' J items → R J H'
abbrev PDI (X : Cx) (tg e : Expr) (g : GI) : Prop := PI X tg e (tDI X.K g)
def loopD (gg : GG) (body : GS) : List PyData → GS
  | [] => fun env S D => D.nx env S
  | x :: xs => fun env S D => gg (.d x) env S fun env' S' => body env' S' { nx := fun e s => loopD gg body xs e s D, rt := D.rt, bk := D.nx, ct := fun e s => loopD gg body xs e s D }
def gsFor (gi : GI) (gg : GG) (body : GS) : GS := fun env S D => gi env S fun items S1 => loopD gg body items env S1 D
def compD (gg : GG) (gt : GT) (ge : G) : List PyData → List PyData → DEnv → Store → PQ → Prop
  | [], acc => fun _ S P => P (.d (.list acc)) S
  | x :: xs, acc => fun env S P => gg (.d x) env S fun env' S' => gt env' S' fun b S2 => cond b
      (ge env' S2 fun r S3 => match r with
        | .d y => compD gg gt ge xs (acc ++ [y]) env S3 P
        | _ => False)
      (compD gg gt ge xs acc env S2 P)
def gComp (vs : List Nat) (gi : GI) (gg : GG) (gt : GT) (ge : G) : G := fun env S P => gi env S fun items S1 => items.length < sizeLine ∧ compD gg gt ge items [] (wipeE env vs) S1 P
def gtYes : GT := fun _ S P => P true S
section
variable {K : PySem.W.Frag}
theorem for_wk {gi : GI} {gg : GG} {body : GS} (D : Ends) (σ : L2.St) (H : Hp) (h : tDS K (gsFor gi gg body) D σ H) : tFor (tDI K gi) (tDG K gg) (tDS K body) D σ H := by
  obtain ⟨Z, As, S, env, E, rl, sl, hg, k1, k2, k3, k4⟩ := h
  refine ⟨Z, As, S, env, _, rl, sl, hg, fun items S1 As1 H1 J hL po1 rl1 wk => ?_⟩
  obtain ⟨Gd, Y, w1, w2, w3⟩ := wk
  refine for_it w1 (fun i σ' H' => ∃ As' S' env', Po Z As1 S1 H1 As' S' H' ∧ Rl K Z As' S' H' ∧ Sl K Z As' S' H' σ' env' ∧ loopD gg body (items.drop i) env' S' E) ?_ ?_ ?_ ?_
  · exact ⟨As1, S1, env, Po.refl, rl1, sl.po po1, by rw [List.drop_zero]; exact hL⟩
  · rintro i σ' H' _ ⟨As', S', env', po', rl', sl', _⟩
    exact w2 _ _ _ _ po'.ext
  · rintro i x σ' H' H'' hi ⟨As', S', env', po', rl', sl', hl⟩ y
    obtain ⟨d, hd, po2, rl2, dv⟩ := w3 i Z As' S' H' x H'' hi po'.ext rl' y
    have e : items.drop i = d :: items.drop (i + 1) := by
      have := List.getElem_of_getElem? hd
      obtain ⟨h1, h2⟩ := this
      rw [List.drop_eq_getElem_cons h1, h2]
    rw [e] at hl
    have pall : Po Z As S H As' S' H'' := (po1.trans po').trans po2
    refine ⟨Z, As', S', env', .d d, _, rl2, sl'.po po2, dv, hl, fun env3 S3 As3 σ3 H3 h3 po3 rl3 sl3 => ?_⟩
    have p3 : Po Z As S H As3 S3 H3 := pall.trans po3
    refine ⟨Z, As3, S3, env3, _, rl3, sl3, h3, ?_, k2.later p3, ?_, ?_⟩
    · exact fun env4 S4 As4 σ4 H4 h4 po4 rl4 sl4 => ⟨As4, S4, env4, ((po'.trans po2).trans po3).trans po4, rl4, sl4, h4⟩
    · exact k1.later p3
    · exact fun env4 S4 As4 σ4 H4 h4 po4 rl4 sl4 => ⟨As4, S4, env4, ((po'.trans po2).trans po3).trans po4, rl4, sl4, h4⟩
  · rintro σ' H' ⟨As', S', env', po', rl', sl', hl⟩
    rw [List.drop_length] at hl
    exact k1 env' S' As' σ' H' hl (po1.trans po') rl' sl'
end
section
variable {X : Cx} {tg e iter : Expr} {pos : Pos}
theorem PIwk {t t' : TI} (h : PI X tg e t) (w : ∀ σ H R, t' σ H R → t σ H R) : PI X tg e t' := ⟨fun pins s σ H R I hw => h.run pins s σ H R I (w σ H R hw)⟩
theorem pds_for {body : List Stmt} {gi : GI} {gg : GG} {gb : GS} (hp : PassesOwn (model X.prog X.w) X.A X.env X.xe) (hc : X.calm = true) (hi : PDI X tg iter gi) (hg : PDG X tg gg) (hb : PDSs X body gb)
    (hs : ∀ x, foldedSetIterable iter X.env x = pure x := by intro _; rfl) : PDS X (.For tg iter body [] pos) (gsFor gi gg gb) := PSwk (ps_for hp hc hi hg hb hs) for_wk
/-- data that are walked -/
def giSeq (g : G) : GI := fun env S P => g env S fun a S1 => match a with
  | .d (.list ds) => P ds S1
  | _ => False
def giTup (g : G) : GI := fun env S P => g env S fun a S1 => match a with
  | .d (.tuple ds) => P ds S1
  | _ => False
def giStr (g : G) : GI := fun env S P => g env S fun a S1 => match a with
  | .d (.str x) => P (x.cps.toList.map fun c => .str ⟨#[c]⟩) S1
  | _ => False
def giRange1 (ga : GA) : GI := fun env S P => ga env S fun as S1 => match as with
  | [.d (.int n)] => (-(2 ^ 62) ≤ n ∧ n < 2 ^ 62) ∧ P ((List.range n.toNat).map fun i => .int (i : Nat)) S1
  | _ => False
/-- zip of two lists or tuples -/
theorem pdi_list {g : G} (h : PD X e g) : PDI X tg e (giSeq g) := PIwk (pi_list h) fun σ H R h => by
  obtain ⟨Z, As, S, env, P, rl, sl, hg, k⟩ := h
  refine ⟨Z, As, S, env, _, rl, sl, hg, fun r S1 As1 v H1 h1 po1 rl1 av1 => ?_⟩
  match r, h1, av1 with
  | .d (.list ds), h1, av1 =>
    cases av1 with
    | @lst a xs _ n e1 t =>
      refine ⟨a, rfl, ⟨xs, .inl (.inl e1)⟩, k ds S1 As1 H1 _ h1 po1 rl1 ⟨fun H => SqL X.K H a xs, YAt xs, by rw [← t.length]; exact walk_list (xs := xs), fun Z2 A2 S2 H2 p2 => .inl (.inl (p2 a _ e1 n).2), fun i Z2 A2 S2 H2 x H3 hi p2 rl2 y => ?_⟩⟩
      obtain ⟨rfl, hx⟩ := y
      obtain ⟨d, hd, dv⟩ := t.got hx
      exact ⟨d, hd, Po.refl, rl2, DV.ex p2 _ _ dv⟩
theorem pdi_tup {g : G} (h : PD X e g) : PDI X tg e (giTup g) := PIwk (pi_tup h) fun σ H R h => by
  obtain ⟨Z, As, S, env, P, rl, sl, hg, k⟩ := h
  refine ⟨Z, As, S, env, _, rl, sl, hg, fun r S1 As1 v H1 h1 po1 rl1 av1 => ?_⟩
  match r, h1, av1 with
  | .d (.tuple ds), h1, av1 =>
    cases av1 with
    | @tup a xs _ n e1 t =>
      refine ⟨a, rfl, ⟨xs, .inl (.inl e1)⟩, k ds S1 As1 H1 _ h1 po1 rl1 ⟨fun H => SqT X.K H a xs, YAt xs, by rw [← t.length]; exact walk_tup (xs := xs), fun Z2 A2 S2 H2 p2 => .inl (.inl (p2 a _ e1 n).2), fun i Z2 A2 S2 H2 x H3 hi p2 rl2 y => ?_⟩⟩
      obtain ⟨rfl, hx⟩ := y
      obtain ⟨d, hd, dv⟩ := t.got hx
      exact ⟨d, hd, Po.refl, rl2, DV.ex p2 _ _ dv⟩
    | @tupK a xs _ e1 t =>
      refine ⟨a, rfl, ⟨xs, sqt_up e1⟩, k ds S1 As1 H1 _ h1 po1 rl1 ⟨fun H => SqT X.K H a xs, YAt xs, by rw [← t.length]; exact walk_tup (xs := xs), fun Z2 A2 S2 H2 p2 => sqt_up e1, fun i Z2 A2 S2 H2 x H3 hi p2 rl2 y => ?_⟩⟩
      obtain ⟨rfl, hx⟩ := y
      obtain ⟨d, hd, dv⟩ := t.got hx
      exact ⟨d, hd, Po.refl, rl2, DV.ex p2 _ _ dv⟩
theorem pdi_str {g : G} (h : PD X e g) : PDI X tg e (giStr g) := PIwk (pi_str h) fun σ H R h => by
  obtain ⟨Z, As, S, env, P, rl, sl, hg, k⟩ := h
  refine ⟨Z, As, S, env, _, rl, sl, hg, fun r S1 As1 v H1 h1 po1 rl1 av1 => ?_⟩
  match r, h1, av1 with
  | .d (.str z), h1, av1 =>
    cases av1
    refine ⟨z, rfl, k _ S1 As1 H1 _ h1 po1 rl1 ⟨_, _, by rw [List.length_map, Array.length_toList]; exact walk_str (z := z), fun _ _ _ _ _ => trivial, fun i Z2 A2 S2 H2 x H3 hi p2 rl2 y => ?_⟩⟩
    obtain ⟨rfl, c, hc, rfl⟩ := y
    exact ⟨.str ⟨#[c]⟩, by rw [List.getElem?_map, Array.getElem?_toList, hc]; rfl, Po.refl, rl2, .str _ (by rw [sizeLine_eq]; show 1 ≤ _; decide)⟩
theorem pdi_range1 {a : Expr} {ga : GA} {p : Pos} (hg : Gl X "range") (hm : X.mg "range" = none) (ha : PDA X [a] ga) (hs : starEach [a] X.env = [(false, eval a X.env)] := by rfl) : PDI X tg (.Call (.Name "range" p) [a] [] pos) (giRange1 ga) :=
  PIwk (pi_range1 hg hm ha hs) fun σ H R h => by
    obtain ⟨Z, As, S, env, P, rl, sl, hg, k⟩ := h
    refine ⟨Z, As, S, env, _, rl, sl, hg, fun r S1 As1 v H1 h1 po1 rl1 av1 => ?_⟩
    match r, h1, av1 with
    | [.d (.int n)], h1, av1 =>
      obtain ⟨⟨b1, b2⟩, h1⟩ := h1
      cases av1 with
      | cons q t =>
        cases t
        cases q
        refine ⟨n, rfl, b1, b2, k _ S1 As1 H1 _ h1 po1 rl1 ⟨_, _, by rw [List.length_map, List.length_range]; exact walk_range, fun _ _ _ _ _ => trivial, fun i Z2 A2 S2 H2 x H3 hi p2 rl2 y => ?_⟩⟩
        obtain ⟨rfl, rfl⟩ := y
        rw [List.length_map, List.length_range] at hi
        exact ⟨.int (i : Nat), by rw [List.getElem?_map, List.getElem?_range hi]; rfl, Po.refl, rl2, by show DV X.K _ _ (.int (0 + (i : Nat))) _; rw [Int.zero_add]; exact .int _⟩
end
/-! ### comprehensions -/
theorem Sl.reh {K : PySem.W.Frag} {Z Z' As As' : List Addr} {S S' : Store} {H H' : Hp} {σ : L2.St} {env : DEnv} (e : Ex (lv Z As S) H (lv Z' As' S') H') (p : ∃ l, As' = As ++ l) (h : Sl K Z As S H σ env) : Sl K Z' As' S' H' σ env := by
  induction h with
  | nil => exact .nil
  | none _ ih => exact .none ih
  | @some v a σ env r _ ih =>
    refine .some ?_ ih
    cases a with
    | d y => exact DV.ex e _ _ r
    | m k =>
      obtain ⟨b, e1, e2⟩ := r
      exact ⟨b, e1, pre_get p e2⟩
    | v y => exact r
section
variable {K : PySem.W.Frag} {Z As As' : List Addr} {S S' : Store} {H H' : Hp}
/-- one more hidden thing -/
theorem lv_hide {D b : Addr} : lv (D :: Z) As S b ↔ b = D ∨ lv Z As S b := by
  constructor
  · rintro (h | h)
    · rcases List.mem_cons.mp h with h | h
      · exact .inl h
      · exact .inr (.inl h)
    · exact .inr (.inr h)
  · rintro (h | h | h)
    · exact .inl (List.mem_cons.mpr (.inl h))
    · exact .inl (List.mem_cons.mpr (.inr h))
    · exact .inr h
theorem lv_unhide {D : Addr} : Ex (lv (D :: Z) As S) H (lv Z As S) H := fun b o e n => ⟨fun z => n (lv_hide.mpr (.inr z)), e⟩
theorem AVs.reh {Z' : List Addr} {vs : List V} {as : List AV} (e : Ex (lv Z As S) H (lv Z' As S) H') (h : AVs K Z As S H vs as) : AVs K Z' As S H' vs as := by
  induction h with
  | nil => exact .nil
  | @cons v vs a as x _ ih =>
    refine .cons ?_ ih
    cases a with
    | d y => exact DV.ex e _ _ x
    | m k => exact x
    | v y => exact x
theorem Rl.unhide {D : Addr} (r : Rl K (D :: Z) As S H) : Rl K Z As S H := by
  refine ⟨r.len, r.inj, fun k a o h1 h2 => ?_, fun b hb => r.hz b (List.mem_cons_of_mem _ hb)⟩
  have z := r.at_ k a o h1 h2
  cases o with
  | dead => trivial
  | rng => exact z
  | lst xs =>
    obtain ⟨vs, e, q⟩ := z
    exact ⟨vs, e, q.reh lv_unhide⟩
theorem Rl.hide {D : Addr} {o : HO} (r : Rl K Z As S H) (n : H D = none) : Ex (lv Z As S) H (lv (D :: Z) As S) (upd H D o) ∧ Rl K (D :: Z) As S (upd H D o) := by
  have ex : Ex (lv Z As S) H (lv (D :: Z) As S) (upd H D o) := fun b u e nb => by
    have nd : b ≠ D := ne_of_none e n
    refine ⟨fun z => ?_, by rw [upd_ne nd]; exact e⟩
    rcases lv_hide.mp z with z | z
    · exact nd z
    · exact nb z
  refine ⟨ex, r.len, r.inj, fun k a u h1 h2 => ?_, fun b hb => ?_⟩
  · have z := r.at_ k a u h1 h2
    cases u with
    | dead => trivial
    | rng =>
      obtain ⟨x, y, e, q⟩ := z
      exact ⟨x, y, by rw [upd_ne (ne_of_none e n)]; exact e, q⟩
    | lst xs =>
      obtain ⟨vs, e, q⟩ := z
      exact ⟨vs, by rw [upd_ne (ne_of_none e n)]; exact e, q.reh ex⟩
  · rcases List.mem_cons.mp hb with rfl | hb
    · refine ⟨by rw [upd_same]; simp, fun k u h1 h2 => ?_⟩
      cases u with
      | dead => rfl
      | rng => exact absurd n (r.live (.inr ⟨k, _, h1, h2, by simp⟩))
      | lst xs => exact absurd n (r.live (.inr ⟨k, _, h1, h2, by simp⟩))
    · exact ⟨by rw [upd_ne fun z => (r.hz b hb).1 (by rw [z]; exact n)]; exact (r.hz b hb).1, (r.hz b hb).2⟩
/-- the hidden thing changes -/
theorem Rl.hput {D : Addr} {o : HO} (r : Rl K (D :: Z) As S H) : Ex (lv (D :: Z) As S) H (lv (D :: Z) As S) (upd H D o) ∧ Rl K (D :: Z) As S (upd H D o) := by
  have ex : Ex (lv (D :: Z) As S) H (lv (D :: Z) As S) (upd H D o) := fun b u e nb => ⟨nb, by rw [upd_ne fun z => nb (by rw [z]; exact lv_hide.mpr (.inl rfl))]; exact e⟩
  have hD := r.hz D (List.mem_cons_self ..)
  refine ⟨ex, r.len, r.inj, fun k a u h1 h2 => ?_, fun b hb => ⟨?_, (r.hz b hb).2⟩⟩
  · have z := r.at_ k a u h1 h2
    have na : u ≠ .dead → a ≠ D := fun nu e => nu (hD.2 k u (by rw [← e]; exact h1) h2)
    cases u with
    | dead => trivial
    | rng =>
      obtain ⟨x, y, e, q⟩ := z
      exact ⟨x, y, by rw [upd_ne (na (by simp))]; exact e, q⟩
    | lst xs =>
      obtain ⟨vs, e, q⟩ := z
      exact ⟨vs, by rw [upd_ne (na (by simp))]; exact e, q.reh ex⟩
  · by_cases e : b = D
    · rw [e, upd_same]; simp
    · rw [upd_ne e]; exact (r.hz b hb).1
end
/-! the slots of a comprehension's own names -/
theorem wipe_get (σ : L2.St) (j : Nat) : ∀ vs : List Nat, (wipe σ vs)[j]? = if j ∈ vs then σ[j]?.map (fun _ => none) else σ[j]?
  | [] => by simp [wipe]
  | v :: vs => by
    unfold wipe
    by_cases h : v = j
    · subst h
      rw [if_pos (List.mem_cons_self ..), List.getElem?_set]
      rw [if_pos rfl, wipe_length]
      by_cases hl : v < σ.length
      · rw [if_pos hl, List.getElem?_eq_getElem hl]; rfl
      · rw [if_neg hl, List.getElem?_eq_none (by omega)]; rfl
    · rw [List.getElem?_set_ne h, wipe_get σ j vs]
      by_cases hm : j ∈ vs
      · rw [if_pos hm, if_pos (List.mem_cons_of_mem _ hm)]
      · rw [if_neg hm, if_neg fun z => hm ((List.mem_cons.mp z).resolve_left fun e => h e.symm)]
theorem wipe_set {σ : L2.St} {vs : List Nat} {i : Nat} {x : Option V} (h : i ∈ vs) : wipe (σ.set i x) vs = wipe σ vs := by
  refine List.ext_getElem? fun j => ?_
  rw [wipe_get, wipe_get]
  by_cases hj : i = j
  · subst hj
    rw [if_pos h, if_pos h, List.getElem?_set]
    by_cases hl : i < σ.length
    · rw [if_pos rfl, if_pos hl, List.getElem?_eq_getElem hl]; rfl
    · rw [if_pos rfl, if_neg hl, List.getElem?_eq_none (by omega)]
  · rw [List.getElem?_set_ne hj]
theorem wipe_wipe {σ : L2.St} {vs : List Nat} : wipe (wipe σ vs) vs = wipe σ vs := by
  refine List.ext_getElem? fun j => ?_
  rw [wipe_get, wipe_get]
  by_cases h : j ∈ vs
  · rw [if_pos h, if_pos h]
    cases σ[j]? <;> rfl
  · rw [if_neg h, if_neg h]
/-- a target of a comprehension: its own names alone are stored -/
def CG (K : PySem.W.Frag) (g : TG) (gg : GG) (vs : List Nat) : Prop := ∀ Z As S H σ env v a P (Q : L2.St → Hp → Prop), Rl K Z As S H → Sl K Z As S H σ env → AVr K Z As S H v a → gg a env S P →
  (∀ env' S' As' σ' H', P env' S' → Po Z As S H As' S' H' → Rl K Z As' S' H' → Sl K Z As' S' H' σ' env' → wipe σ' vs = wipe σ vs → Q σ' H') → g v σ H Q
def CGs (K : PySem.W.Frag) (g : TGs) (gg : GGs) (vs : List Nat) : Prop := ∀ Z As S H σ env ws as P (Q : L2.St → Hp → Prop), Rl K Z As S H → Sl K Z As S H σ env → AVs K Z As S H ws as → gg as env S P →
  (∀ env' S' As' σ' H', P env' S' → Po Z As S H As' S' H' → Rl K Z As' S' H' → Sl K Z As' S' H' σ' env' → wipe σ' vs = wipe σ vs → Q σ' H') → g ws σ H Q
theorem cg_name {K : PySem.W.Frag} {i : Nat} {vs : List Nat} (h : i ∈ vs) : CG K (gName i) (ggName i) vs := by
  intro Z As S H σ env v a P Q rl sl av hg k
  exact k _ S As _ H hg Po.refl rl (sl.set av) (wipe_set h)
theorem cgs_nil {K : PySem.W.Frag} {vs : List Nat} : CGs K L2.gNil ggNil vs := by
  intro Z As S H σ env ws as P Q rl sl av hg k
  obtain ⟨rfl, hg⟩ := hg
  cases av
  exact ⟨rfl, k env S As σ H hg Po.refl rl sl rfl⟩
theorem cgs_cons {K : PySem.W.Frag} {vs : List Nat} {t : TG} {u : TGs} {g : GG} {gs : GGs} (h1 : CG K t g vs) (h2 : CGs K u gs vs) : CGs K (L2.gCons t u) (ggCons g gs) vs := by
  intro Z As S H σ env ws as P Q rl sl av hg k
  cases av with
  | nil => exact hg.elim
  | @cons v ws a r a1 a2 =>
    refine ⟨v, ws, rfl, h1 Z As S H σ env v a _ _ rl sl a1 hg fun env' S' As' σ' H' h' po rl' sl' w => ?_⟩
    exact h2 Z As' S' H' σ' env' ws r P Q rl' sl' (a2.po po) h' fun env2 S2 As2 σ2 H2 h2' po2 rl2 sl2 w2 => k env2 S2 As2 σ2 H2 h2' (po.trans po2) rl2 sl2 (w2.trans w)
theorem cg_tup {K : PySem.W.Frag} {vs : List Nat} {n : Nat} {u : TGs} {gs : GGs} (h : CGs K u gs vs) : CG K (gTup K n u) (ggTup n gs) vs := by
  intro Z As S H σ env v a P Q rl sl av hg k
  unfold ggTup at hg
  split at hg
  · rename_i ds e1
    obtain ⟨p, ws, rfl, hp, t⟩ := vw_tup av e1
    exact ⟨p, ws, rfl, hp, by rw [t.length]; exact hg.1, h Z As S H σ env ws _ P Q rl sl (AVs.of_d t) hg.2 k⟩
  · exact hg.elim
section
variable {K : PySem.W.Frag}
theorem comp_wk {gi : GI} {g : TG} {gg : GG} {gt : GT} {ge : G} {vs : List Nat} (cg : CG K g gg vs) (σ : L2.St) (H : Hp) (Q : VK) (h : tD K (gComp vs gi gg gt ge) σ H Q) : tLc (tDI K gi) g (tDT K gt) (tD K ge) vs σ H Q := by
  obtain ⟨Z, As, S, env, P, rl, sl, hg, k⟩ := h
  refine ⟨Z, As, S, env, _, rl, sl, hg, fun items S1 As1 H1 J hL po1 rl1 wk D hD => ?_⟩
  obtain ⟨hlen, hL⟩ := hL
  obtain ⟨Gd, Y, w1, w2, w3⟩ := wk
  obtain ⟨ex0, rl0⟩ := rl1.hide (o := .lst []) hD
  refine lc_it w1 (fun i H' => ∃ As' S' acc ws, Rl K (D :: Z) As' S' H' ∧ Ex (lv Z As1 S1) H1 (lv (D :: Z) As' S') H' ∧ (∀ b, b ∈ Z → H' b = H1 b) ∧ (∃ l, As' = As1 ++ l) ∧ H' D = some (.lst ws) ∧
    DVs K (lv (D :: Z) As' S') H' ws acc ∧ acc.length ≤ i ∧ compD gg gt ge (items.drop i) acc (wipeE env vs) S' P) ?_ ?_ ?_ ?_
  · exact ⟨As1, S1, [], [], rl0, ex0, fun b hb => upd_ne fun z => (rl1.hz b hb).1 (by rw [z]; exact hD), ⟨[], by simp⟩, upd_same, .nil, Nat.le_refl _, by rw [List.drop_zero]; exact hL⟩
  · rintro i H' _ ⟨As', S', acc, ws, _, e, _⟩
    exact w2 _ _ _ _ e
  · rintro i x H' H'' hi ⟨As', S', acc, ws, rl', ex', hid', pre', hw, hdv, hacc, hc⟩ y
    obtain ⟨d, hd, po2, rl2, dv⟩ := w3 i (D :: Z) As' S' H' x H'' hi ex' rl' y
    have e : items.drop i = d :: items.drop (i + 1) := by
      obtain ⟨h1, h2⟩ := List.getElem_of_getElem? hd
      rw [List.drop_eq_getElem_cons h1, h2]
    rw [e] at hc
    have exA : Ex (lv Z As1 S1) H1 (lv (D :: Z) As' S') H'' := ex'.trans po2.ext
    have hD2 : H'' D = some (.lst ws) := (po2.hid D (List.mem_cons_self ..)).trans hw
    have sl2 : Sl K (D :: Z) As' S' H'' (wipe σ vs) (wipeE env vs) := by
      have := (sl.po po1).wipe vs
      exact Sl.reh exA pre' this
    have nextP : ∀ {As3 : List Addr} {S3 : Store} {H3 : Hp}, Po (D :: Z) As' S' H'' As3 S3 H3 → (∀ b, b ∈ Z → H3 b = H1 b) ∧ (∃ l, As3 = As1 ++ l) ∧ Ex (lv Z As1 S1) H1 (lv (D :: Z) As3 S3) H3 ∧ H3 D = some (.lst ws) ∧ DVs K (lv (D :: Z) As3 S3) H3 ws acc := fun {As3 S3 H3} po3 => by
      obtain ⟨l1, e1⟩ := pre'
      obtain ⟨l2, e2⟩ := po3.pre
      refine ⟨fun b hb => (po3.hid b (List.mem_cons_of_mem _ hb)).trans ((po2.hid b (List.mem_cons_of_mem _ hb)).trans (hid' b hb)), ⟨l1 ++ l2, by rw [e2, e1, List.append_assoc]⟩, exA.trans po3.ext, (po3.hid D (List.mem_cons_self ..)).trans hD2, DVs.ex (po2.ext.trans po3.ext) _ _ hdv⟩
    refine cg (D :: Z) As' S' H'' (wipe σ vs) (wipeE env vs) x (.d d) _ _ rl2 sl2 dv hc fun env3 S3 As3 σ3 H3 h3 po3 rl3 sl3 wp => ⟨wp.trans wipe_wipe, ?_⟩
    refine ⟨D :: Z, As3, S3, env3, _, rl3, sl3, h3, fun b S4 As4 H4 h4 po4 rl4 => ?_⟩
    cases b with
    | false =>
      obtain ⟨q1, q2, q3, q4, q5⟩ := nextP (po3.trans po4)
      exact ⟨As4, S4, acc, ws, rl4, q3, q1, q2, q4, q5, by omega, h4⟩
    | true =>
      refine ⟨D :: Z, As4, S4, env3, _, rl4, sl3.po po4, h4, fun r S5 As5 y5 H5 h5 po5 rl5 av5 => ?_⟩
      obtain ⟨q1, q2, q3, q4, q5⟩ := nextP ((po3.trans po4).trans po5)
      match r, h5, av5 with
      | .d yd, h5, av5 =>
        obtain ⟨ex6, rl6⟩ := rl5.hput (o := .lst (ws ++ [y5]))
        have hwl := q5.length
        refine ⟨ws, q4, by omega, As5, S5, acc ++ [yd], ws ++ [y5], rl6, q3.trans ex6, fun b hb => ?_, q2, upd_same, DVs.ex ex6 _ _ (q5.append (.cons av5 .nil)), by rw [List.length_append]; simp; omega, h5⟩
        rw [upd_ne fun z => (show D ∉ Z from ?_) (by rw [← z]; exact hb)]
        · exact q1 b hb
        · intro z
          have := q1 D z
          rw [q4] at this
          rw [hD] at this
          cases this
  · rintro H' ⟨As', S', acc, ws, rl', ex', hid', pre', hw, hdv, hacc, hc⟩
    rw [List.drop_length] at hc
    have nD : ¬ lv Z As' S' D := fun z => by
      rcases z with z | ⟨j, o, h1, h2, h3⟩
      · have := (rl1.hz D z).1
        exact this hD
      · exact h3 ((rl'.hz D (List.mem_cons_self ..)).2 j o h1 h2)
    exact k (.d (.list acc)) S' As' (.ref D) H' hc (po1.trans ⟨ex'.trans lv_unhide, hid', pre'⟩) rl'.unhide (.lst nD hw (DVs.ex lv_unhide _ _ hdv))
end
section
variable {X : Cx} {pos : Pos}
theorem pd_lc {elt tg iter : Expr} {ifs : List Expr} {scope : Scope} {own : List (Str × Nat)} {gi : GI} {g : TG} {gg : GG} {gt : GT} {ge : G} (hc : X.calm = true) (hN : X.N.Nodup) (hi : PDI X tg iter gi) (ok : BlkOk X.N X.env.scope scope own)
    (cg : CG X.K g gg (own.map (·.2)))
    (hg : ∀ (s : Shared) (H : Hp) (C : Addr) (cl : List (Str × Addr)) (fp : List Addr), PG (X.blk s H scope (compEnvC scope cl C X.env) fp) tg g) (ht : ∀ (s : Shared) (H : Hp) (C : Addr) (cl : List (Str × Addr)) (fp : List Addr), PTs (X.blk s H scope (compEnvC scope cl C X.env) fp) ifs (tDT X.K gt))
    (he : ∀ (s : Shared) (H : Hp) (C : Addr) (cl : List (Str × Addr)) (fp : List Addr), PE (X.blk s H scope (compEnvC scope cl C X.env) fp) elt (tD X.K ge)) (hs : ∀ x, foldedSetIterable iter X.env x = pure x := by intro _; rfl) :
    PD X (.ListComp elt [⟨tg, iter, ifs, 0⟩] scope pos) (gComp (own.map (·.2)) gi gg gt ge) := PEwk (pe_lc hc hN hi ok hg ht he hs) (comp_wk cg)
theorem pds_setLc {i : Nat} {y : Str} {py : Pos} {elt tg iter : Expr} {ifs : List Expr} {scope : Scope} {own : List (Str × Nat)} {spos : Pos} {gi : GI} {g : TG} {gg : GG} {gt : GT} {ge : G} (hc : X.calm = true) (hN : X.N.Nodup) (hy : X.N[i]? = some y) (hyl : X.env.scope.names.lookup y = some .local)
    (hsw : swapsWith (.ListComp elt [⟨tg, iter, ifs, 0⟩] scope pos) (some (.Name y py)) spos.line X.env = pure true) (hi : PDI X tg iter gi) (ok : BlkOk X.N X.env.scope scope own) (cg : CG X.K g gg (own.map (·.2)))
    (hg : ∀ (s : Shared) (H : Hp) (C : Addr) (cl : List (Str × Addr)) (fp : List Addr), PG (X.blk s H scope (compEnvC scope cl C X.env) fp) tg g) (ht : ∀ (s : Shared) (H : Hp) (C : Addr) (cl : List (Str × Addr)) (fp : List Addr), PTs (X.blk s H scope (compEnvC scope cl C X.env) fp) ifs (tDT X.K gt))
    (he : ∀ (s : Shared) (H : Hp) (C : Addr) (cl : List (Str × Addr)) (fp : List Addr), PE (X.blk s H scope (compEnvC scope cl C X.env) fp) elt (tD X.K ge)) (hs : ∀ x, foldedSetIterable iter X.env x = pure x := by intro _; rfl) :
    PDS X (.Assign [.Name y py] (.ListComp elt [⟨tg, iter, ifs, 0⟩] scope pos) spos) (gsAsg (gComp (own.map (·.2)) gi gg gt ge) (ggName i)) :=
  PSwk (ps_setLc hc hN hy hyl hsw hi ok hg ht he hs) fun D σ H h => by
    obtain ⟨Z, As, S, env, E, rl, sl, hg, k1, k2, k3, k4⟩ := h
    exact comp_wk cg σ H _ ⟨Z, As, S, env, _, rl, sl, hg, fun r S' As' v H' h' po rl' av => k1 _ S' As' _ H' h' po rl' ((sl.po po).set av)⟩
theorem pts_yes {X : Cx} : PTs X [] (tDT X.K gtYes) := ⟨fun pins s σ H Q I h => by
  obtain ⟨Z, As, S, env, P, rl, sl, hg, k⟩ := h
  exact pts_nil.run pins s σ H Q I (k true S As H hg Po.refl rl)⟩
end
end DL
/-! defs and their calls; built-ins; zip; slices; changes of lists -/
namespace DL
open PySem PySem.Spec PyProof.Rows L2
abbrev WD := List AV → Store → PQ → Prop
def spW (K : PySem.W.Frag) (W : WD) : Sp := fun vs H Q _ => ∃ Z As S args P, Rl K Z As S H ∧ AVs K Z As S H vs args ∧ W args S P ∧ Kon K Z As S H P Q
abbrev FnD (P : Program) (w : World) (K : PySem.W.Frag) (mg : Str → Option Value) (base : Heap) (k : Nat) (f : Addr) (fd : FuncData) (ps : List Str) (W : WD) : Prop := FnG P w K mg base k f fd ps (spW K W)
section
variable {P : Program} {w : World} {K : PySem.W.Frag} {mg : Str → Option Value} {base : Heap} {k : Nat} {f : Addr} {fd : FuncData} {N ps : List Str} {W : WD}
/-- a def: its body's reading, and what follows from it -/
theorem okD {x qual : Str} {st : Stmt} {g : GS} (F : Fun K x qual st f fd) (S : FnScope N ps (defScope st)) (hlen : ∀ as S P, W as S P → as.length = ps.length)
    (hb : ∀ (cdv : Value) (A : Around) (outer : List Env) (s : Shared) (H : Hp) (E : XK), A.guards = some [] → Room k (A.deeper (envOfC qual (defScope st) s.heap.objs.size f cdv)) →
      PDSs (cxOf CX0 P w K mg base N qual (defScope st) f cdv A outer s H E).nox (defBody st) g)
    (hw : ∀ args S P, W args S P → g (args.map some ++ List.replicate (N.length - ps.length) none) S ⟨fun _ S' => P (.d .none) S', P, fun _ _ => False, fun _ _ => False⟩) : FnD P w K mg base (k + 1) f fd ps W := by
  refine F.okG S (fun vs H Q E h => ?_) (fun cdv A outer s H vs Q E hgd hr h => ?_)
  · obtain ⟨Z, As, S, args, P, rl, av, hW, _⟩ := h
    rw [av.length]
    exact hlen _ _ _ hW
  · obtain ⟨Z, As, S1, args, P1, rl, av, hW, hk⟩ := h
    have hl : vs.length = ps.length := by rw [av.length]; exact hlen _ _ _ hW
    refine ⟨_, hb cdv A outer s H E hgd hr, Z, As, S1, _, _, rl, ?_, hw args S1 P1 hW, ?_, hk, ?_, ?_⟩
    · show Sl K Z As S1 H (vs.map some ++ List.replicate (N.length - vs.length) none) _
      rw [hl]
      exact Sl.start _ av
    · exact fun env' S' As' σ' H' h' po rl' sl' => hk (.d .none) S' As' .non H' h' po rl' .non
    · exact fun _ _ _ _ _ z => z.elim
    · exact fun _ _ _ _ _ z => z.elim
theorem FnD.imp {W' : WD} (F : FnD P w K mg base k f fd ps W) (h : ∀ as S P, W' as S P → W as S P) : FnD P w K mg base k f fd ps W' := by
  refine ⟨fun vs H Q E q => ?_, fun A hg hr outer s H args us vs Q E e0 hb r q => ?_⟩
  · obtain ⟨Z, As, S, args, P, rl, av, hW, hk⟩ := q
    exact F.len vs H Q E ⟨Z, As, S, args, P, rl, av, h _ _ _ hW, hk⟩
  · obtain ⟨Z, As, S, args, P, rl, av, hW, hk⟩ := q
    exact F.run A hg hr outer s H _ us vs Q E e0 hb r ⟨Z, As, S, _, P, rl, av, h _ _ _ hW, hk⟩
theorem FnG.mono {j : Nat} {sp : Sp} (F : FnG P w K mg base j f fd ps sp) (h : j ≤ k) : FnG P w K mg base k f fd ps sp := ⟨F.len, fun A hg hr => F.run A hg (hr.mono h)⟩
end
section
variable {X : Cx} {k : Nat} {f : Addr} {fd : FuncData} {ps ks : List Str} {W : WD} {x : Str} {p pos : Pos} {e : Expr} {es : List Expr} {kws : List Keyword} {ga gk : GA}
theorem pd_call (F : FnD X.prog X.w X.K X.mg X.base k f fd ps W) (hgd : X.A.guards = some []) (hr : Room k X.A) (hg : Gl X x) (hm : X.mg x = some (.ref f)) (hk : PySem.W.keepIn X.K (.ref f) = true) (hb : Binds X.K fd ps [])
    (ha : PDA X (e :: es) ga) (hdb : (x == ("__debug__" : Str)) = false := by decide) (he : starEach (e :: es) X.env = (false, eval e X.env) :: starEach es X.env := by rfl)
    (hpl : (backTo pos (starEach es X.env)).any (·.1) = false := by rfl) : PD X (.Call (.Name x p) (e :: es) [] pos) (gApp W ga) := by
  refine PEwk (pe_callG F hgd hr hg hm hk hb ha hdb he hpl) fun σ H Q h => ?_
  obtain ⟨Z, As, S, env, P, rl, sl, hg, hQ⟩ := h
  refine ⟨Z, As, S, env, _, rl, sl, hg, fun as S1 As1 xs H1 h1 po1 rl1 av1 => ?_⟩
  show spW X.K W (xs ++ []) H1 Q E0
  rw [List.append_nil]
  exact ⟨Z, As1, S1, as, P, rl1, av1, h1, hQ.later po1⟩
abbrev PDK (X : Cx) (kws : List Keyword) (g : GA) : Prop := L2.PK X kws (tDA X.K g)
theorem pdk_nil : PDK X [] gNil := ⟨fun pos pins s σ H Q I h => pk_nil.run pos pins s σ H Q I (nil_wk σ H Q h)⟩
theorem pdk_cons {g : G} {nm : Option Str} {kpos : Pos} (h : PD X e g) (ha : PDK X kws ga) : PDK X (⟨nm, e, kpos⟩ :: kws) (gCons g ga) := ⟨fun pos pins s σ H Q I hw => (pk_cons h ha).run pos pins s σ H Q I (cons_wk σ H Q hw)⟩
/-- f(k = e, ..) with every argument named, in the parameters' order -/
theorem pd_callK (F : FnD X.prog X.w X.K X.mg X.base k f fd ps W) (hgd : X.A.guards = some []) (hr : Room k X.A) (hg : Gl X x) (hm : X.mg x = some (.ref f)) (hk : PySem.W.keepIn X.K (.ref f) = true)
    (hb : ∀ (s : Shared) (us : List Value), us.length = ps.length → BindsTo s fd ⟨[], ps.zip us⟩ (ps.zip us))
    (hkw : PDK X kws gk) (hall : (backToKw pos (keywordEach kws X.env)).all (·.1.isSome) = true := by rfl) (hks : (backToKw pos (keywordEach kws X.env)).filterMap (·.1) = ps := by rfl)
    (hdb : (x == ("__debug__" : Str)) = false := by decide) (hpl : ((backTo pos (starEach [] X.env)).any (·.1) || (backToKw pos (keywordEach kws X.env)).any (·.1.isNone)) = false := by rfl) :
    PD X (.Call (.Name x p) [] kws pos) (gApp W gk) := by
  refine ⟨fun pins s σ H Q I h => ?_⟩
  obtain ⟨Z, As, S, env, P, rl, sl, hg2, hQ⟩ := h
  refine wpAny_Call_Name_kw (ld_glob I hg hm ?_ hdb)
  refine PySem.W.callWith_KW0 (h₀ := X.base) I.ok.mod.kin hk hall ?_ hpl
  refine thn (hkw.run pos pins s σ H (fun zs H2 => spW X.K W zs H2 Q E0) I ⟨Z, As, S, env, _, rl, sl, hg2, fun as S1 As1 xs H1 h1 po1 rl1 av1 => ⟨Z, As1, S1, as, P, rl1, av1, h1, hQ.later po1⟩⟩) fun ws s2 ⟨zs, H2, I2, rz, q2⟩ => ⟨I2.kIn, ?_⟩
  rw [hks]
  have hl : ws.length = ps.length := by rw [← rz.length]; exact F.len _ _ _ _ q2
  refine wpAny_call (codeAny_mono (F.run X.A hgd hr X.stack s2 H2 ⟨[], ps.zip ws⟩ ws zs Q E0 I2.env0 (hb s2 ws hl) rz q2) fun r s' z => ?_)
  match r, z with
  | .ok (.ret u), z => exact I2.after z
  | .ok .next, z => exact z.elim
  | .ok .brk, z => exact z.elim
  | .ok .cont, z => exact z.elim
  | .error _, z => exact z.elim
end
/-! ### built-ins -/
def tyD : PyData → String
  | .none => "NoneType"
  | .bool _ => "bool"
  | .int _ => "int"
  | .str _ => "str"
  | .list _ => "list"
  | .tuple _ => "tuple"
  | .dict _ => "dict"
def isTy (T U : String) : Bool := decide (U = T) || (decide (T = "int") && decide (U = "bool"))
/-- isinstance, by the class's name -/
def isT (T : String) : PyData → Bool
  | .none => decide (T = "NoneType")
  | .bool _ => decide (T = "bool") || decide (T = "int")
  | .int _ => decide (T = "int")
  | .str _ => decide (T = "str")
  | .list _ => decide (T = "list")
  | .tuple _ => decide (T = "tuple")
  | .dict _ => decide (T = "dict")
theorem kit_all : ∀ T ∈ ["int", "bool", "str", "tuple", "list", "dict"], ∀ U ∈ ["NoneType", "bool", "int", "str", "list", "tuple", "dict"], kitB U T = some (isTy T U) := by decide +kernel
theorem ty_mem (d : PyData) : tyD d ∈ ["NoneType", "bool", "int", "str", "list", "tuple", "dict"] := by cases d <;> simp [tyD]
theorem isTy_isT {T : String} (hT : T ∈ ["int", "bool", "str", "tuple", "list", "dict"]) (d : PyData) : isTy T (tyD d) = isT T d := by
  simp only [List.mem_cons, List.not_mem_nil, or_false] at hT
  rcases hT with rfl | rfl | rfl | rfl | rfl | rfl <;> cases d <;> rfl
theorem DV.ty {K : PySem.W.Frag} {L : Addr → Prop} {H : Hp} {v : V} {d : PyData} (h : DV K L H v d) : TyX K H v (.type (tyD d)) := by
  cases h with
  | non => exact .base .non
  | bl b => exact .base (.bl b)
  | int i => exact .base (.int i)
  | str x => exact .base (.str x)
  | lst _ e _ => exact .base (.lst e)
  | tup _ e _ => exact .base (.tup e)
  | tupK e _ =>
    rcases e with (e | ⟨o, e⟩) | ⟨o, its, n, hk, hc, _⟩
    · cases e
    · cases e
    · exact .kTuple hk hc
  | dct _ e => exact .base (.dK e)
section
variable {K : PySem.W.Frag}
def dIsi : List AV → Store → PQ → Prop := fun as S P => match as with
  | [a, .v (.ty T)] => match vw S a with
    | some x => T ∈ ["int", "bool", "str", "tuple", "list", "dict"] ∧ P (.d (.bool (isT T x))) S
    | none => False
  | _ => False
theorem vr_isi : VRn K (rIsi K) dIsi := by
  intro Z As S H xs as P Q rl av h k
  unfold dIsi at h
  split at h
  · rename_i a T
    split at h
    · rename_i x e
      obtain ⟨hT, h⟩ := h
      cases av with
      | cons a1 t =>
        cases t with
        | cons a2 t =>
          cases t
          cases (show _ = V.ty T from a2)
          refine ⟨_, .ty T, _, .type T, isT T x, rfl, .ty T, (vw_any rl a1 e).ty, ?_, k.d rl (fun _ => .bl _) h⟩
          rw [← isTy_isT hT]
          exact kit_ty (kit_all T hT _ (ty_mem x))
    · exact h.elim
  · exact h.elim
/-- len -/
def dLen : List AV → Store → PQ → Prop := fun as S P => match as with
  | [a] => match vw S a with
    | some (.list ds) => P (.d (.int ds.length)) S
    | some (.tuple ds) => P (.d (.int ds.length)) S
    | some (.str x) => P (.d (.int x.length)) S
    | _ => False
  | _ => False
def rLen (K : PySem.W.Frag) : List V → Hp → VK → Prop := fun xs H Q => (∃ p ys, xs = [.ref p] ∧ (SqL K H p ys ∨ SqT K H p ys) ∧ Q (.int ys.length) H) ∨ (∃ z, xs = [.str z] ∧ z.length ≤ sizeLine ∧ Q (.int z.length) H)
theorem call_lenAll {X : Cx} : CallR X (.builtin "len") (rLen X.K) := by
  intro pins s σ H xs us Q I rs q
  rcases q with q | q
  · exact call_len_seq pins s σ H xs us Q I rs q
  · exact call_len_str pins s σ H xs us Q I rs q
theorem vr_len : VRn K (rLen K) dLen := by
  intro Z As S H xs as P Q rl av h k
  unfold dLen at h
  split at h
  · rename_i a
    cases av with
    | cons a1 t =>
      cases t
      split at h
      · rename_i ds e
        obtain ⟨p, vs, rfl, hp, t1⟩ := vw_list rl a1 e
        exact .inl ⟨p, vs, rfl, .inl (.inl (.inl hp)), by rw [t1.length]; exact k.d rl (fun _ => .int _) h⟩
      · rename_i ds e
        obtain ⟨p, vs, rfl, hp, t1⟩ := vw_tup a1 e
        exact .inl ⟨p, vs, rfl, .inr hp, by rw [t1.length]; exact k.d rl (fun _ => .int _) h⟩
      · rename_i x e
        refine .inr ⟨x, by rw [vw_str a1 e], ?_, k.d rl (fun _ => .int _) h⟩
        cases vw_any rl a1 e with
        | str _ z => exact z
      · exact h.elim
  · exact h.elim
/-- all(a list of truths), sum, max, min of ints -/
def bls : List PyData → Option (List Bool)
  | [] => some []
  | .bool x :: r => (bls r).map (x :: ·)
  | _ :: _ => none
theorem bls_map (xs : List Bool) : bls (xs.map .bool) = some xs := by
  induction xs with
  | nil => rfl
  | cons d ds ih => show (bls (ds.map .bool)).map _ = _; rw [ih]; rfl
theorem dvs_bls {L : Addr → Prop} {H : Hp} : ∀ {ds : List PyData} {bs : List Bool} {vs : List V}, bls ds = some bs → DVs K L H vs ds → vs = bs.map V.bl
  | [], bs, _, e, h => by cases e; cases h; rfl
  | .bool x :: r, bs, _, e, h => by
    obtain ⟨es, e1, rfl⟩ := Option.map_eq_some_iff.mp (show (bls r).map (x :: ·) = some bs from e)
    cases h with
    | cons a t =>
      cases a
      rw [dvs_bls e1 t]
      rfl
  | .none :: _, _, _, e, _ => by cases e
  | .str _ :: _, _, _, e, _ => by cases e
  | .int _ :: _, _, _, e, _ => by cases e
  | .list _ :: _, _, _, e, _ => by cases e
  | .tuple _ :: _, _, _, e, _ => by cases e
  | .dict _ :: _, _, _, e, _ => by cases e
def nts : List PyData → Option (List Int)
  | [] => some []
  | .int x :: r => (nts r).map (x :: ·)
  | _ :: _ => none
theorem nts_map (xs : List Int) : nts (xs.map .int) = some xs := by
  induction xs with
  | nil => rfl
  | cons d ds ih => show (nts (ds.map .int)).map _ = _; rw [ih]; rfl
theorem dvs_nts {L : Addr → Prop} {H : Hp} : ∀ {ds : List PyData} {bs : List Int} {vs : List V}, nts ds = some bs → DVs K L H vs ds → vs = bs.map V.int
  | [], bs, _, e, h => by cases e; cases h; rfl
  | .int x :: r, bs, _, e, h => by
    obtain ⟨es, e1, rfl⟩ := Option.map_eq_some_iff.mp (show (nts r).map (x :: ·) = some bs from e)
    cases h with
    | cons a t =>
      cases a
      rw [dvs_nts e1 t]
      rfl
  | .none :: _, _, _, e, _ => by cases e
  | .str _ :: _, _, _, e, _ => by cases e
  | .bool _ :: _, _, _, e, _ => by cases e
  | .list _ :: _, _, _, e, _ => by cases e
  | .tuple _ :: _, _, _, e, _ => by cases e
  | .dict _ :: _, _, _, e, _ => by cases e
def dAll (any : Bool) : List AV → Store → PQ → Prop := fun as S P => match as with
  | [a] => match vw S a with
    | some (.list ds) => match bls ds with
      | some bs => P (.d (.bool (cond any (bs.any id) (bs.all id)))) S
      | none => False
    | _ => False
  | _ => False
theorem vr_all : VRn K (rAll K) (dAll false) := by
  intro Z As S H xs as P Q rl av h k
  unfold dAll at h
  split at h
  · rename_i a
    cases av with
    | cons a1 t =>
      cases t
      split at h
      · rename_i ds e
        split at h
        · rename_i bs e2
          obtain ⟨p, vs, rfl, hp, t1⟩ := vw_list rl a1 e
          rw [dvs_bls e2 t1] at hp
          exact ⟨p, bs, rfl, .inl (.inl hp), k.d rl (fun _ => .bl _) h⟩
        · exact h.elim
      · exact h.elim
  · exact h.elim
theorem vr_any : VRn K (rAny K) (dAll true) := by
  intro Z As S H xs as P Q rl av h k
  unfold dAll at h
  split at h
  · rename_i a
    cases av with
    | cons a1 t =>
      cases t
      split at h
      · rename_i ds e
        split at h
        · rename_i bs e2
          obtain ⟨p, vs, rfl, hp, t1⟩ := vw_list rl a1 e
          rw [dvs_bls e2 t1] at hp
          exact ⟨p, bs, rfl, .inl (.inl hp), k.d rl (fun _ => .bl _) h⟩
        · exact h.elim
      · exact h.elim
  · exact h.elim
def dSum : List AV → Store → PQ → Prop := fun as S P => match as with
  | [a] => match vw S a with
    | some (.list ds) => match nts ds with
      | some ns => P (.d (.int ns.sum)) S
      | none => False
    | _ => False
  | _ => False
theorem vr_sum : VRn K (rSum K) dSum := by
  intro Z As S H xs as P Q rl av h k
  unfold dSum at h
  split at h
  · rename_i a
    cases av with
    | cons a1 t =>
      cases t
      split at h
      · rename_i ds e
        split at h
        · rename_i bs e2
          obtain ⟨p, vs, rfl, hp, t1⟩ := vw_list rl a1 e
          rw [dvs_nts e2 t1] at hp
          exact ⟨p, bs, rfl, .inl (.inl hp), k.d rl (fun _ => .int _) h⟩
        · exact h.elim
      · exact h.elim
  · exact h.elim
def dMax : List AV → Store → PQ → Prop := fun as S P => match as with
  | [a] => match vw S a with
    | some (.list ds) => match nts ds with
      | some ns => 0 < ns.length ∧ ∀ m, m ∈ ns → (∀ y, y ∈ ns → y ≤ m) → P (.d (.int m)) S
      | none => False
    | _ => False
  | [.d (.int i), .d (.int j)] => P (.d (.int (if j > i then j else i))) S
  | _ => False
def rMaxAll (K : PySem.W.Frag) : List V → Hp → VK → Prop := fun xs H Q => rMax K xs H Q ∨ ∃ i j, xs = [.int i, .int j] ∧ Q (.int (if j > i then j else i)) H
theorem call_maxAll {X : Cx} (hc : X.calm = true) : CallR X (.builtin "max") (rMaxAll X.K) := by
  intro pins s σ H xs us Q I rs q
  rcases q with q | q
  · exact cr_max hc pins s σ H xs us Q I rs q
  · exact call_max2 hc pins s σ H xs us Q I rs q
theorem vr_max : VRn K (rMaxAll K) dMax := by
  intro Z As S H xs as P Q rl av h k
  unfold dMax at h
  split at h
  · rename_i a
    cases av with
    | cons a1 t =>
      cases t
      split at h
      · rename_i ds e
        split at h
        · rename_i bs e2
          obtain ⟨p, vs, rfl, hp, t1⟩ := vw_list rl a1 e
          rw [dvs_nts e2 t1] at hp
          exact .inl ⟨p, bs, rfl, .inl (.inl hp), h.1, fun m h1 h2 => k.d rl (fun _ => .int _) (h.2 m h1 h2)⟩
        · exact h.elim
      · exact h.elim
  · rename_i i j
    cases av with
    | cons a1 t =>
      cases t with
      | cons a2 t =>
        cases t
        cases a1
        cases a2
        exact .inr ⟨i, j, rfl, k.d rl (fun _ => .int _) h⟩
  · exact h.elim
def dMin2 : List AV → Store → PQ → Prop := fun as S P => match as with
  | [.d (.int i), .d (.int j)] => P (.d (.int (if j < i then j else i))) S
  | _ => False
theorem vr_min2 : VRn K (fun xs H Q => ∃ i j, xs = [.int i, .int j] ∧ Q (.int (if j < i then j else i)) H) dMin2 := by
  intro Z As S H xs as P Q rl av h k
  unfold dMin2 at h
  split at h
  · rename_i i j
    cases av with
    | cons a1 t =>
      cases t with
      | cons a2 t =>
        cases t
        cases a1
        cases a2
        exact ⟨i, j, rfl, k.d rl (fun _ => .int _) h⟩
  · exact h.elim
def dAbs : List AV → Store → PQ → Prop := fun as S P => match as with
  | [.d (.int i)] => P (.d (.int (if i < 0 then -i else i))) S
  | _ => False
theorem vr_abs : VRn K (fun xs H Q => ∃ i, xs = [.int i] ∧ Q (.int (if i < 0 then -i else i)) H) dAbs := by
  intro Z As S H xs as P Q rl av h k
  unfold dAbs at h
  split at h
  · rename_i i
    cases av with
    | cons a1 t =>
      cases t
      cases a1
      exact ⟨i, rfl, k.d rl (fun _ => .int _) h⟩
  · exact h.elim
/-- list(..): a new one, as data or to be changed -/
def seqD : PyData → Option (List PyData)
  | .list ds => some ds
  | .tuple ds => some ds
  | _ => none
def rList (K : PySem.W.Frag) : List V → Hp → VK → Prop := fun xs H Q => ∃ p ys, xs = [.ref p] ∧ (SqL K H p ys ∨ SqT K H p ys) ∧ ∀ l, H l = none → Q (.ref l) (upd H l (.lst ys))
theorem vw_seq {Z As : List Addr} {S : Store} {H : Hp} {v : V} {a : AV} (r : Rl K Z As S H) (h : AVr K Z As S H v a) {x : PyData} {ds : List PyData} (e : vw S a = some x) (e2 : seqD x = some ds) :
    ∃ p vs, v = .ref p ∧ (SqL K H p vs ∨ SqT K H p vs) ∧ DVs K (lv Z As S) H vs ds := by
  cases x with
  | list es =>
    cases e2
    obtain ⟨p, vs, rfl, hp, t1⟩ := vw_list r h e
    exact ⟨p, vs, rfl, .inl (.inl (.inl hp)), t1⟩
  | tuple es =>
    cases e2
    obtain ⟨p, vs, rfl, hp, t1⟩ := vw_tup h e
    exact ⟨p, vs, rfl, .inr hp, t1⟩
  | none => cases e2
  | bool _ => cases e2
  | int _ => cases e2
  | str _ => cases e2
  | dict _ => cases e2
def dList : List AV → Store → PQ → Prop := fun as S P => match as with
  | [a] => match (vw S a).bind seqD with
    | some ds => P (.d (.list ds)) S
    | none => False
  | _ => False
def dListM : List AV → Store → PQ → Prop := fun as S P => match as with
  | [a] => match (vw S a).bind seqD with
    | some ds => P (.m S.length) (S ++ [.lst (ds.map .d)])
    | none => False
  | _ => False
theorem vr_list : VRn K (rList K) dList := by
  intro Z As S H xs as P Q rl av h k
  unfold dList at h
  split at h
  · rename_i a
    cases av with
    | cons a1 t =>
      cases t
      split at h
      · rename_i ds e
        obtain ⟨x, e1, e2⟩ := Option.bind_eq_some_iff.mp e
        obtain ⟨p, vs, rfl, hp, t1⟩ := vw_seq rl a1 e1 e2
        exact ⟨p, vs, rfl, hp, fun l nl => k.lst rl nl t1 h⟩
      · exact h.elim
  · exact h.elim
theorem vr_listM : VRn K (rList K) dListM := by
  intro Z As S H xs as P Q rl av h k
  unfold dListM at h
  split at h
  · rename_i a
    cases av with
    | cons a1 t =>
      cases t
      split at h
      · rename_i ds e
        obtain ⟨x, e1, e2⟩ := Option.bind_eq_some_iff.mp e
        obtain ⟨p, vs, rfl, hp, t1⟩ := vw_seq rl a1 e1 e2
        exact ⟨p, vs, rfl, hp, fun l nl => k.lstM rl nl (AVs.of_d t1) h⟩
      · exact h.elim
  · exact h.elim
def dTuple : List AV → Store → PQ → Prop := fun as S P => match as with
  | [a] => match (vw S a).bind seqD with
    | some ds => P (.d (.tuple ds)) S
    | none => False
  | _ => False
theorem vr_tuple : VRn K (fun xs H Q => ∃ p ys, xs = [.ref p] ∧ ((SqL K H p ys ∧ ∀ l, H l = none → Q (.ref l) (upd H l (.tup ys))) ∨ (SqT K H p ys ∧ Q (.ref p) H))) dTuple := by
  intro Z As S H xs as P Q rl av h k
  unfold dTuple at h
  split at h
  · rename_i a
    cases av with
    | cons a1 t =>
      cases t
      split at h
      · rename_i ds e
        obtain ⟨x, e1, e2⟩ := Option.bind_eq_some_iff.mp e
        cases x with
        | list es =>
          cases e2
          obtain ⟨p, vs, rfl, hp, t1⟩ := vw_list rl a1 e1
          exact ⟨p, vs, rfl, .inl ⟨.inl (.inl hp), fun l nl => k.tup rl nl t1 h⟩⟩
        | tuple es =>
          cases e2
          have a2 := vw_d e1 (by intro ds z; cases z)
          subst a2
          obtain ⟨p, vs, rfl, hp, t1⟩ := vw_tup a1 e1
          exact ⟨p, vs, rfl, .inr ⟨hp, k.here rl a1 h⟩⟩
        | none => cases e2
        | bool _ => cases e2
        | int _ => cases e2
        | str _ => cases e2
        | dict _ => cases e2
      · exact h.elim
  · exact h.elim
end
end DL
/-! join, repr, slices, zip, changes of lists, tables of the module, draws -/
namespace DL
open PySem PySem.Spec PyProof.Rows L2
/-! ### methods of texts and lists -/
def isLst : Option MO → Prop
  | some (.lst _) => True
  | _ => False
def kdOk (T : String) (S : Store) : AV → Prop
  | .d (.str _) => T = "str"
  | .m k => T = "list" ∧ isLst S[k]?
  | _ => False
def VRm (K : PySem.W.Frag) (r : V → List V → Hp → VK → Prop) (R : AV → List AV → Store → PQ → Prop) : Prop := ∀ Z As S H x xs a as P Q, Rl K Z As S H → AVr K Z As S H x a → AVs K Z As S H xs as → R a as S P → Kon K Z As S H P Q → r x xs H Q
def gM (T : String) (R : AV → List AV → Store → PQ → Prop) (g : G) (ga : GA) : G := fun env S P => g env S fun a S1 => kdOk T S1 a ∧ ga env S1 fun as S2 => R a as S2 P
theorem kd_ty {K : PySem.W.Frag} {Z As : List Addr} {S : Store} {H : Hp} {T : String} {x : V} {a : AV} (r : Rl K Z As S H) (h : AVr K Z As S H x a) (k : kdOk T S a) : tyV K T x H := by
  match a, h, k with
  | .d (.str z), h, k =>
    cases h
    exact k
  | .m j, h, k =>
    obtain ⟨rfl, k2⟩ := k
    obtain ⟨p, rfl, hA⟩ := h
    cases e : S[j]? with
    | none => rw [e] at k2; exact k2.elim
    | some o =>
      rw [e] at k2
      cases o with
      | lst xs =>
        obtain ⟨vs, e2, _⟩ := (show ∃ vs, H p = some (.lst vs) ∧ AVs K Z As S H vs xs from r.at_ j p _ hA e)
        exact .inl ⟨rfl, vs, .inl (.inl e2)⟩
      | dead => exact k2.elim
      | rng => exact k2.elim
theorem bm_wk {K : PySem.W.Frag} {T : String} {r : V → List V → Hp → VK → Prop} {R : AV → List AV → Store → PQ → Prop} {g : G} {ga : GA} (hr : VRm K r R) (σ : L2.St) (H : Hp) (Q : VK) (h : tD K (gM T R g ga) σ H Q) : tBM K T r (tD K g) (tDA K ga) σ H Q := by
  obtain ⟨Z, As, S, env, P, rl, sl, hg, hQ⟩ := h
  refine ⟨Z, As, S, env, _, rl, sl, hg, fun a S1 As1 x H1 h1 po1 rl1 av1 => ⟨kd_ty rl1 av1 h1.1, ?_⟩⟩
  refine ⟨Z, As1, S1, env, _, rl1, sl.po po1, h1.2, fun as S2 As2 xs H2 h2 po2 rl2 av2 => ?_⟩
  exact hr Z As2 S2 H2 x xs a as P Q rl2 (av1.po po2) av2 h2 (hQ.later (po1.trans po2))
section
variable {X : Cx} {o e : Expr} {es : List Expr} {g : G} {ga : GA} {name : Str} {apos cpos : Pos} {T id : String} {r : V → List V → Hp → VK → Prop} {R : AV → List AV → Store → PQ → Prop}
theorem pd_bm (pa : PlainAttrs T) (slot : Slot T name id) (hty : typeOf (.builtin id) = pure (.type "method_descriptor")) (hm : MtR X id r) (hr : VRm X.K r R) (ho : PD X o g) (ha : PDA X (e :: es) ga)
    (hbase : attributeBase o name X.env (eval o X.env) = eval o X.env := by rfl)
    (hfew : ((backTo cpos (starEach (e :: es) X.env)).all (fun x => !x.1) && (backToKw cpos (keywordEach [] X.env)).all (fun x => x.1.isSome)
      && decide ((e :: es).length + ([] : List Keyword).length + (if ([] : List Keyword).isEmpty then 0 else 1) < 30)) = true := by rfl)
    (hline : (apos.endLine == cpos.line) = true := by rfl) (hs : starEach (e :: es) X.env = (false, eval e X.env) :: starEach es X.env := by rfl) (hplain : (backTo cpos (starEach es X.env)).any (·.1) = false := by rfl) :
    PD X (.Call (.Attribute o name apos) (e :: es) [] cpos) (gM T R g ga) := PEwk (pe_bm pa slot hty hm ho ha hbase hfew hline hs hplain) (bm_wk hr)
end
section
variable {K : PySem.W.Frag}
/-- sep.join(list or tuple of texts) -/
def dJoin : AV → List AV → Store → PQ → Prop := fun a as S P => match a, as with
  | .d (.str s), [b] => match (vw S b).bind seqD with
    | some ds => match txts ds with
      | some ys => (ys.map (·.length)).sum + ys.length * s.length ≤ 16777216 ∧ P (.d (.str (Txt.join s ys))) S
      | none => False
    | none => False
  | _, _ => False
theorem sizeLine_big : 16777216 ≤ sizeLine := by rw [sizeLine_eq]; decide
theorem join_len {s : Str} {ys : List Str} (h : (ys.map (·.length)).sum + ys.length * s.length ≤ 16777216) : (Txt.join s ys).length ≤ sizeLine := by
  show (PySem.Builtin.Str.glued s ys).length ≤ sizeLine
  rw [StrLaws.glued_eq_join]
  exact Nat.le_trans (Nat.le_trans (PySem.StrLaws.join_length_le s ys) h) sizeLine_big
theorem cutS_len (z : Str) (lo hi : Option Int) : (cutS z lo hi).length ≤ z.length := by
  show (List.toArray _).size ≤ z.cps.size
  rw [List.size_toArray, List.length_take, List.length_drop, Array.length_toList]
  omega
def rJoin (K : PySem.W.Frag) : V → List V → Hp → VK → Prop := fun x xs H Q => ∃ a p, ∃ ys : List Str, x = .str a ∧ xs = [.ref p] ∧ (SqL K H p (ys.map V.str) ∨ SqT K H p (ys.map V.str)) ∧
    (ys.map (·.length)).sum + ys.length * a.length ≤ 16777216 ∧ Q (.str (Txt.join a ys)) H
theorem vr_join : VRm K (rJoin K) dJoin := by
  intro Z As S H x xs a as P Q rl av avs h k
  unfold dJoin at h
  split at h
  · rename_i s b
    split at h
    · rename_i ds e
      split at h
      · rename_i ys e2
        obtain ⟨y, e3, e4⟩ := Option.bind_eq_some_iff.mp e
        cases avs with
        | cons b1 t =>
          cases t
          cases av
          obtain ⟨p, vs, rfl, hp, t1⟩ := vw_seq rl b1 e3 e4
          rw [strs_eq e2] at t1
          rw [dvs_strs t1] at hp
          exact ⟨s, p, ys, rfl, rfl, hp, h.1, k.d rl (fun _ => .str _ (join_len h.1)) h.2⟩
      · exact h.elim
    · exact h.elim
  · exact h.elim
/-- own.append(x) -/
def dAppend : AV → List AV → Store → PQ → Prop := fun a as S P => match a, as with
  | .m k, [b] => match S[k]? with
    | some (.lst xs) => xs.length < sizeLine ∧ P (.d .none) (S.set k (.lst (xs ++ [b])))
    | _ => False
  | _, _ => False
theorem vr_append : VRm K rAppend dAppend := by
  intro Z As S H x xs a as P Q rl av avs h k
  unfold dAppend at h
  split at h
  · rename_i j b
    split at h
    · rename_i ys e
      cases avs with
      | cons b1 t =>
        cases t
        obtain ⟨p, rfl, hA⟩ := av
        obtain ⟨vs, e2, q⟩ := (show ∃ vs, H p = some (.lst vs) ∧ AVs K Z As S H vs ys from rl.at_ j p _ hA e)
        obtain ⟨po, rl'⟩ := put_mut (o' := .lst (ys ++ [b])) (u := .lst (vs ++ [_])) rl hA e (by simp) (by simp) fun ex e3 => ⟨_, e3, (q.append (.cons b1 .nil)).ex ex ⟨[], by simp⟩⟩
        exact ⟨p, vs, _, rfl, rfl, e2, by rw [q.length]; exact h.1, k _ _ _ _ _ h.2 po rl' .non⟩
    · exact h.elim
  · exact h.elim
end
/-! ### own[i] = x -/
def ggSubM (g gi : G) : GG := fun v env S P => g env S fun a S1 => gi env S1 fun i S2 => match a, i with
  | .m k, .d (.int j) => match S2[k]? with
    | some (.lst xs) => match ixN xs.length j with
      | some n => P env (S2.set k (.lst (xs.set n v)))
      | none => False
    | _ => False
  | _, _ => False
theorem AVs.set {K : PySem.W.Frag} {Z As : List Addr} {S : Store} {H : Hp} {vs : List V} {as : List AV} {v : V} {a : AV} (r : AVr K Z As S H v a) (h : AVs K Z As S H vs as) : ∀ n : Nat, AVs K Z As S H (vs.set n v) (as.set n a) := by
  induction h with
  | nil => intro n; exact .nil
  | cons x t ih =>
    intro n
    cases n with
    | zero => exact .cons r t
    | succ n => exact .cons x (ih n)
theorem pdg_subM {X : Cx} {o i : Expr} {g gi : G} {pos : Pos} (ho : PD X o g) (hi : PD X i gi)
    (ha : ∀ v, assign (.Subscript o i pos) X.env v = (do
      let ov ← holding [v] (eval o X.env)
      let iv ← holding [v, ov] (eval i X.env)
      standAt pos
      holding [v, ov, iv] (setItem ov iv v)
      release [v, ov, iv] []) := by intro _; rfl) : PDG X (.Subscript o i pos) (ggSubM g gi) := PGwk (pg_sub ho hi set_list ha) fun v σ H Q h => by
  obtain ⟨Z, As, S, env, a, P, rl, sl, av, hg, k⟩ := h
  refine ⟨Z, As, S, env, _, rl, sl, hg, fun b S1 As1 x H1 h1 po1 rl1 av1 => ?_⟩
  refine ⟨Z, As1, S1, env, _, rl1, sl.po po1, h1, fun c S2 As2 y H2 h2 po2 rl2 av2 => ?_⟩
  have av1' := av1.po po2
  split at h2
  · rename_i j n
    split at h2
    · rename_i ys e
      split at h2
      · rename_i m e2
        obtain ⟨p, rfl, hA⟩ := av1'
        cases av2
        obtain ⟨vs, e3, q⟩ := (show ∃ vs, H2 p = some (.lst vs) ∧ AVs X.K Z As2 S2 H2 vs ys from rl2.at_ j p _ hA e)
        obtain ⟨po, rl'⟩ := put_mut (o' := .lst (ys.set m a)) (u := .lst (vs.set m v)) rl2 hA e (by simp) (by simp) fun ex e4 => ⟨_, e4, ((q.set (av.po (po1.trans po2)) m).ex ex ⟨[], by simp⟩)⟩
        refine ⟨p, vs, n, m, rfl, rfl, e3, by rw [q.length]; exact e2, ?_⟩
        exact k env _ _ σ _ h2 ((po1.trans po2).trans po) rl' ((sl.po (po1.trans po2)).po po)
      · exact h2.elim
    · exact h2.elim
  · exact h2.elim
/-! ### slices -/
section
variable {X : Cx} {e : Expr} {lo hi : Option Expr} {g : G} {gl gh : GO} {pos p2 : Pos}
theorem POwk {e : Option Expr} {t t' : L2.TO} (h : PO X e t) (w : ∀ σ H Q, t' σ H Q → t σ H Q) : PO X e t' := ⟨fun pins s σ H Q I hw => h.run pins s σ H Q I (w σ H Q hw)⟩
theorem pdo_none : PDO X none goNone := POwk po_none fun σ H Q h => by
  obtain ⟨Z, As, S, env, P, rl, sl, hg, k⟩ := h
  exact k none S As H hg Po.refl rl
theorem pdo_some (h : PD X e g) : PDO X (some e) (goSome g) := POwk (po_some h) fun σ H Q h => by
  obtain ⟨Z, As, S, env, P, rl, sl, hg, k⟩ := h
  refine ⟨Z, As, S, env, _, rl, sl, hg, fun a S1 As1 x H1 h1 po1 rl1 av1 => ?_⟩
  match a, h1, av1 with
  | .d (.int i), h1, av1 =>
    cases av1
    exact ⟨i, rfl, k (some i) S1 As1 H1 h1 po1 rl1⟩
def cutD (ds : List PyData) (lo hi : Option Int) : List PyData := (ds.drop (HT.sIx ds.length 0 lo)).take (HT.sIx ds.length ds.length hi - HT.sIx ds.length 0 lo)
/-- x[lo:hi] -/
def dSl : AV → Option Int → Option Int → Store → PQ → Prop := fun a lo hi S P => match vw S a with
  | some (.list ds) => P (.d (.list (cutD ds lo hi))) S
  | some (.tuple ds) => P (.d (.tuple (cutD ds lo hi))) S
  | some (.str z) => P (.d (.str (cutS z lo hi))) S
  | _ => False
def gSl (g : G) (gl gh : GO) : G := fun env S P => g env S fun a S1 => gl env S1 fun l S2 => gh env S2 fun h S3 => dSl a l h S3 P
def rSlAll (K : PySem.W.Frag) : V → Option Int → Option Int → Hp → VK → Prop := fun x lo hi H Q => rSlL K x lo hi H Q ∨ rSlA K x lo hi H Q ∨ rSlS x lo hi H Q
theorem sl_all : SlR X (rSlAll X.K) := SlR.or sl_list (SlR.or sl_tupA sl_str)
theorem DVs.cut {K : PySem.W.Frag} {L : Addr → Prop} {H : Hp} {vs : List V} {ds : List PyData} (h : DVs K L H vs ds) (lo hi : Option Int) : DVs K L H (cutV vs lo hi) (cutD ds lo hi) := by
  unfold cutV cutD
  rw [h.length]
  exact (h.drop _).take _
theorem pd_slice (he : PD X e g) (hl : PDO X lo gl) (hu : PDO X hi gh) : PD X (.Subscript e (.Slice lo hi none p2) pos) (gSl g gl gh) := PEwk (pe_slice sl_all he hl hu) fun σ H Q h => by
  obtain ⟨Z, As, S, env, P, rl, sl, hg, hQ⟩ := h
  refine ⟨Z, As, S, env, _, rl, sl, hg, fun a S1 As1 x H1 h1 po1 rl1 av1 => ?_⟩
  refine ⟨Z, As1, S1, env, _, rl1, sl.po po1, h1, fun l S2 As2 H2 h2 po2 rl2 => ?_⟩
  refine ⟨Z, As2, S2, env, _, rl2, (sl.po po1).po po2, h2, fun u S3 As3 H3 h3 po3 rl3 => ?_⟩
  have av3 := av1.po (po2.trans po3)
  have k := hQ.later ((po1.trans po2).trans po3)
  unfold dSl at h3
  split at h3
  · rename_i ds e
    obtain ⟨p, vs, rfl, hp, t⟩ := vw_list rl3 av3 e
    exact .inl ⟨p, vs, rfl, .inl (.inl hp), fun q nq => k.lst rl3 nq (t.cut l u) h3⟩
  · rename_i ds e
    have a2 := vw_d e (by intro ds z; cases z)
    subst a2
    obtain ⟨p, vs, rfl, hp, t⟩ := vw_tup av3 e
    refine .inr (.inl ⟨p, vs, rfl, hp, fun w => ?_, fun _ q nq => k.tup rl3 nq (t.cut l u) h3⟩)
    have e2 : cutD ds l u = ds := by
      unfold cutD
      rw [← t.length, w.1, w.2, List.drop_zero, Nat.sub_zero, t.length, List.take_length]
    rw [e2] at h3
    exact k.here rl3 (a := .d (.tuple ds)) av3 h3
  · rename_i z e
    have hz : z.length ≤ sizeLine := by
      cases vw_any rl3 av3 e with
      | str _ z => exact z
    exact .inr (.inr ⟨z, vw_str av3 e, hz, k.d rl3 (fun _ => .str _ (Nat.le_trans (cutS_len z l u) hz)) h3⟩)
  · exact h3.elim
end
/-! ### zip of two -/
def zipD (xs ys : List PyData) : List PyData := (xs.zip ys).map fun p => .tuple [p.1, p.2]
def giZip (ga : GA) : GI := fun env S P => ga env S fun as S1 => match as with
  | [.d (.list xs), .d (.list ys)] => P (zipD xs ys) S1
  | [.d (.tuple xs), .d (.tuple ys)] => P (zipD xs ys) S1
  | _ => False
theorem walk_zipT {K : PySem.W.Frag} {a b : Addr} {xs ys : List V} {n : Nat} (hn : n = min xs.length ys.length) : Walk (RZ.ItzT K a b) n (fun H => SqT K H a xs ∧ SqT K H b ys) (YPair (fun i => xs[i]?) (fun i => ys[i]?)) := by
  subst hn
  refine ⟨fun i _ hi q => ?_, fun _ q => ⟨xs, ys, q.1, q.2, by omega⟩, fun i H v H' _ q y => ?_⟩
  · have h1 : i < xs.length := by omega
    have h2 : i < ys.length := by omega
    exact ⟨xs, ys, xs[i], ys[i], q.1, q.2, by simp [h1], by simp [h2]⟩
  · obtain ⟨T, x, z, h1, h2, h3, h4, h5⟩ := y
    exact ⟨T, x, z, h1, h2, h3, h4 xs q.1, h5 ys q.2⟩
theorem zip_turn {K : PySem.W.Frag} {Z As As' : List Addr} {S S' : Store} {H H' H'' : Hp} {xs ys : List V} {ds es : List PyData} {i : Nat} {v : V} {Z' : List Addr} (t1 : DVs K (lv Z As S) H xs ds) (t2 : DVs K (lv Z As S) H ys es)
    (p2 : Ex (lv Z As S) H (lv Z' As' S') H') (rl2 : Rl K Z' As' S' H') (y : YPair (fun i => xs[i]?) (fun i => ys[i]?) i H' v H'') : ∃ d, (zipD ds es)[i]? = some d ∧ Po Z' As' S' H' As' S' H'' ∧ Rl K Z' As' S' H'' ∧ DV K (lv Z' As' S') H'' v d := by
  obtain ⟨T, a, b, rfl, nT, rfl, e1, e2⟩ := y
  obtain ⟨d1, g1, q1⟩ := t1.got e1
  obtain ⟨d2, g2, q2⟩ := t2.got e2
  have po : Po Z' As' S' H' As' S' (upd H' T (.tup [a, b])) := Po.new rl2 nT
  refine ⟨.tuple [d1, d2], ?_, po, rl2.new nT, .tup (rl2.notLive nT) upd_same (.cons (DV.ex (p2.trans po.ext) _ _ q1) (.cons (DV.ex (p2.trans po.ext) _ _ q2) .nil))⟩
  unfold zipD
  rw [List.getElem?_map, List.getElem?_zip_eq_some (z := (d1, d2)) |>.mpr ⟨g1, g2⟩]
  rfl
theorem zipD_len (xs ys : List PyData) : (zipD xs ys).length = min xs.length ys.length := by unfold zipD; rw [List.length_map, List.length_zip]
theorem pdi_zip {X : Cx} {e e2 : Expr} {ga : GA} {p pos tpos : Pos} {elts : List Expr} {kk : Nat} (hg : Gl X "zip") (hm : X.mg "zip" = none) (ha : PDA X [e, e2] ga)
    (hs : starEach [e, e2] X.env = (false, eval e X.env) :: starEach [e2] X.env := by rfl) (hpl : (backTo pos (starEach [e2] X.env)).any (·.1) = false := by rfl) :
    PDI X (.Tuple elts kk tpos) (.Call (.Name "zip" p) [e, e2] [] pos) (giZip ga) := PIwk (RZ.pi_zipA hg hm ha hs hpl) fun σ H R h => by
  obtain ⟨Z, As, S, env, P, rl, sl, hg, k⟩ := h
  refine ⟨Z, As, S, env, _, rl, sl, hg, fun r S1 As1 v H1 h1 po1 rl1 av1 => ?_⟩
  match r, h1, av1 with
  | [.d (.list ds), .d (.list es)], h1, av1 =>
    cases av1 with
    | cons a1 t =>
      cases t with
      | cons a2 t =>
        cases t
        cases a1 with
        | @lst a xs _ na ea ta =>
          cases a2 with
          | @lst b ys _ nb eb tb =>
            refine ⟨a, b, xs, ys, rfl, .inl ⟨.inl (.inl ea), .inl (.inl eb), k _ S1 As1 H1 _ h1 po1 rl1 ⟨fun H => SqL X.K H a xs ∧ SqL X.K H b ys, YPair (fun i => xs[i]?) (fun i => ys[i]?), walk_zip (by rw [zipD_len, ta.length, tb.length]), ?_, ?_⟩⟩⟩
            · exact fun Z2 A2 S2 H2 p2 => ⟨.inl (.inl (p2 a _ ea na).2), .inl (.inl (p2 b _ eb nb).2)⟩
            · exact fun i Z2 A2 S2 H2 x H3 hi p2 rl2 y => zip_turn ta tb p2 rl2 y
  | [.d (.tuple ds), .d (.tuple es)], h1, av1 =>
    cases av1 with
    | cons a1 t =>
      cases t with
      | cons a2 t =>
        cases t
        have f : ∀ {v : V} {ds : List PyData}, DV X.K (lv Z As1 S1) H1 v (.tuple ds) → ∃ a xs, v = .ref a ∧ (∀ Z2 A2 S2 H2, Ex (lv Z As1 S1) H1 (lv Z2 A2 S2) H2 → SqT X.K H2 a xs) ∧ DVs X.K (lv Z As1 S1) H1 xs ds := fun {v ds} h => by
          cases h with
          | @tup a xs _ n e t => exact ⟨a, xs, rfl, fun Z2 A2 S2 H2 p2 => .inl (.inl (p2 a _ e n).2), t⟩
          | @tupK a xs _ e t => exact ⟨a, xs, rfl, fun _ _ _ _ _ => sqt_up e, t⟩
        obtain ⟨a, xs, rfl, fa, ta⟩ := f a1
        obtain ⟨b, ys, rfl, fb, tb⟩ := f a2
        refine ⟨a, b, xs, ys, rfl, .inr ⟨fa Z As1 S1 H1 Ex.refl, fb Z As1 S1 H1 Ex.refl, k _ S1 As1 H1 _ h1 po1 rl1 ⟨fun H => SqT X.K H a xs ∧ SqT X.K H b ys, YPair (fun i => xs[i]?) (fun i => ys[i]?), walk_zipT (by rw [zipD_len, ta.length, tb.length]), ?_, ?_⟩⟩⟩
        · exact fun Z2 A2 S2 H2 p2 => ⟨fa Z2 A2 S2 H2 p2, fb Z2 A2 S2 H2 p2⟩
        · exact fun i Z2 A2 S2 H2 x H3 hi p2 rl2 y => zip_turn ta tb p2 rl2 y
/-! ### repr -/
mutual
theorem DV.reads {X : Cx} {pins : List (Addr × Obj)} {σ : L2.St} {H : Hp} {s : Shared} {L : Addr → Prop} {o : Obj} (I : Inv X pins σ H s) (ko : s.heap.get? sysModules = some o) (kc : o.cls = .type "dict") : ∀ (d : PyData) (v : V) (u : Value), DV X.K L H v d → RelV v u → ∃ as, Reads s.heap u d as ∧ sysModules ∉ as
  | .none, _, _, h, r => by cases h; cases r; exact ⟨_, .none, by simp⟩
  | .bool b, _, _, h, r => by cases h; cases r; exact ⟨_, .bool b, by simp⟩
  | .int i, _, _, h, r => by cases h; obtain ⟨t, rfl⟩ := r; exact ⟨_, .int i t, by simp⟩
  | .str x, _, _, h, r => by cases h; obtain ⟨t, rfl⟩ := r; exact ⟨_, .str x t, by simp⟩
  | .list ds, _, _, h, r => by
    cases h with
    | lst n e t =>
      cases r
      obtain ⟨its, rv, ⟨ob, n, ho, hc, _, hd⟩, _⟩ := I.list (.inl (.inl e))
      obtain ⟨as, hr, na⟩ := DVs.reads I ko kc ds _ _ t rv
      refine ⟨_, .list ho hc hd hr, ?_⟩
      simp only [List.mem_cons, not_or]
      exact ⟨ne_sys ko kc ho hc, na⟩
  | .tuple ds, v, _, h, r => by
    obtain ⟨p, vs, e0, hp, t⟩ := dv_tup h
    subst e0
    cases r
    obtain ⟨its, rv, ⟨ob, ho, hc, n, hd⟩, _⟩ := I.tuple hp
    have hx : DVs X.K L H vs ds := t
    obtain ⟨as, hr, na⟩ := DVs.reads I ko kc ds _ _ hx rv
    exact ⟨_, .tuple ho hc hd hr, na⟩
  | .dict _, _, _, h, r => by
    cases h with
    | dct n e => exact DX.reads I ko kc (.dct e) r
theorem DVs.reads {X : Cx} {pins : List (Addr × Obj)} {σ : L2.St} {H : Hp} {s : Shared} {L : Addr → Prop} {o : Obj} (I : Inv X pins σ H s) (ko : s.heap.get? sysModules = some o) (kc : o.cls = .type "dict") : ∀ (ds : List PyData) (vs : List V) (us : List Value), DVs X.K L H vs ds → Vals vs us → ∃ as, ReadsAll s.heap us ds as ∧ sysModules ∉ as
  | [], _, _, h, r => by cases h; cases r; exact ⟨_, .nil, by simp⟩
  | d :: ds, _, _, h, r => by
    cases h with
    | cons h1 h2 =>
      cases r with
      | cons r1 r2 =>
        obtain ⟨as, q1, n1⟩ := DV.reads I ko kc d _ _ h1 r1
        obtain ⟨bs, q2, n2⟩ := DVs.reads I ko kc ds _ _ h2 r2
        exact ⟨_, .cons q1 q2, by simp [n1, n2]⟩
end
def reprOk (d : PyData) : Prop := d.showable = true ∧ d.depth ≤ 40 ∧ d.shown.length ≤ sizeLine
def rRepr (K : PySem.W.Frag) : List V → Hp → VK → Prop := fun xs H Q => ∃ (v : V) (d : PyData), xs = [v] ∧ DV K (fun _ => False) H v d ∧ reprOk d ∧ Q (.str d.shown) H
theorem call_repr {X : Cx} {o : Obj} (hgd : X.A.guards = some []) (hu : X.A.units + 64 < cLine) (ks : X.K.lookup sysModules = some o) (kc : o.cls = .type "dict") : CallR X (.builtin "repr") (rRepr X.K) := by
  intro pins s σ H xs us Q I r h
  obtain ⟨v, d, rfl, hd, ⟨h1, h2, h3⟩, q⟩ := h
  obtain ⟨u, rfl, r1⟩ := vals1 r
  have ref : ∀ a, v = .ref a → wpAny (model X.prog X.w) X.A (call (.builtin "repr") [u]) (EP X pins σ Q) X.xe s := fun a e => by
    subst e
    cases (show u = Value.ref a from r1)
    obtain ⟨as, rd, na⟩ := DV.reads I (I.kIn _ _ ks) kc d _ _ hd rfl
    exact repr_of_reads' rd h1 (fun _ => na) hgd (by omega) (fun _ _ e => e) (fun h' u tk hk => ⟨.str d.shown, H, I.kept (t' := tk) hk, ⟨u, rfl⟩, q⟩) h3
  cases hd with
  | non =>
    cases (show u = Value.none from r1)
    exact PySem.P.repr_of_none ⟨.str _, H, I.tok _, ⟨_, rfl⟩, q⟩
  | bl b =>
    cases (show u = Value.bool b from r1)
    exact PySem.P.repr_of_bool ⟨.str _, H, I.tok _, ⟨_, rfl⟩, by cases b <;> exact q⟩
  | int i =>
    obtain ⟨t, rfl⟩ := r1
    exact PySem.P.repr_of_int (by simpa [PyData.showable] using h1) ⟨.str _, H, I.tok _, ⟨_, rfl⟩, q⟩
  | str z _ =>
    obtain ⟨t, rfl⟩ := r1
    exact PySem.P.repr_of_str ⟨.str _, H, I.tok _, ⟨_, rfl⟩, q⟩ h3
  | lst _ _ _ => exact ref _ rfl
  | tup _ _ _ => exact ref _ rfl
  | tupK _ _ => exact ref _ rfl
  | dct _ _ => exact ref _ rfl
def dRepr : List AV → Store → PQ → Prop := fun as S P => match as with
  | [a] => match vw S a with
    | some d => reprOk d ∧ P (.d (.str d.shown)) S
    | none => False
  | _ => False
theorem vr_repr {K : PySem.W.Frag} : VRn K (rRepr K) dRepr := by
  intro Z As S H xs as P Q rl av h k
  unfold dRepr at h
  split at h
  · rename_i a
    cases av with
    | cons a1 t =>
      cases t
      split at h
      · rename_i d e
        exact ⟨_, d, rfl, vw_any rl a1 e, h.1, k.d rl (fun _ => .str _ h.1.2.2) h.2⟩
      · exact h.elim
  · exact h.elim
/-! ### tables of the module: text keys, written values -/
structure KTab (K : PySem.W.Frag) (w : World) (d : Addr) (T : Str → Option PyData) : Prop where
  at_ : ∃ es n, KDict K w d es n
  get : ∀ z, ∃ r : Option Value, PySem.W.nsIn K d z = some r ∧ r.isSome = (T z).isSome ∧ ∀ x, T z = some x → ∃ u v, r = some u ∧ RelV v u ∧ ∀ L H, DV K L H v x
def dInTab (T : Str → Option PyData) (neg : Bool) : AV → AV → Store → PQ → Prop := fun a b S P => match a with
  | .d (.str z) => P (.d (.bool (cond neg (!(T z).isSome) (T z).isSome))) S
  | _ => False
def rInTab (K : PySem.W.Frag) (d : Addr) (T : Str → Option PyData) (neg : Bool) : R2 := fun x y H Q => ∃ z, x = .str z ∧ y = .ref d ∧ Q (.bl (cond neg (!(T z).isSome) (T z).isSome)) H
theorem op_inTab {X : Cx} {d : Addr} {T : Str → Option PyData} (D : KTab X.K X.w d T) : OpR X (compareOp .In) (rInTab X.K d T false) := by
  intro pins s σ H x y v u Q I rx ry h
  obtain ⟨z, rfl, rfl, q⟩ := h
  obtain ⟨es, n, kd⟩ := D.at_
  obtain ⟨r, e1, e2, _⟩ := D.get z
  exact op_in_kd kd pins s σ H _ _ v u Q I rx ry ⟨z, r, rfl, rfl, e1, by rw [e2]; exact q⟩
theorem op_notInTab {X : Cx} {d : Addr} {T : Str → Option PyData} (D : KTab X.K X.w d T) : OpR X (compareOp .NotIn) (rInTab X.K d T true) := by
  intro pins s σ H x y v u Q I rx ry h
  obtain ⟨z, rfl, rfl, q⟩ := h
  obtain ⟨es, n, kd⟩ := D.at_
  obtain ⟨r, e1, e2, _⟩ := D.get z
  exact op_notIn_kd kd pins s σ H _ _ v u Q I rx ry ⟨z, r, rfl, rfl, e1, by rw [e2]; exact q⟩
end DL
/-! one rule for a sign; defs by their names -/
namespace DL
open PySem PySem.Spec PyProof.Rows L2
theorem OpRor {X : Cx} {f : Value → Value → Sem Value} {r r' : R2} (h : OpR X f r) (h' : OpR X f r') : OpR X f fun x y H Q => r x y H Q ∨ r' x y H Q := by
  intro pins s σ H x y v u Q I rx ry q
  rcases q with q | q
  · exact h pins s σ H x y v u Q I rx ry q
  · exact h' pins s σ H x y v u Q I rx ry q
section
variable {X : Cx} {a b c e : Expr} {es : List Expr} {g g1 g2 g3 : G} {gt gt1 gt2 : GT} {ga : GA} {pos p : Pos}
/-! names -/
theorem pdv (i : Nat) {x : Str} (hN : X.N[i]? = some x := by rfl) (hv : Vis X.env.scope x := by first | exact Or.inl rfl | exact Or.inr (Or.inl rfl) | exact Or.inr (Or.inr rfl)) (hd : (x == ("__debug__" : Str)) = false := by decide)
    (hcd : (x == ("__classdict__" : Str)) = false := by decide) : PD X (.Name x pos) (gVar i) := pd_var hN hv hd hcd
theorem pdt_v (i : Nat) {x : Str} (hN : X.N[i]? = some x := by rfl) (hv : Vis X.env.scope x := by first | exact Or.inl rfl | exact Or.inr (Or.inl rfl) | exact Or.inr (Or.inr rfl)) (hd : (x == ("__debug__" : Str)) = false := by decide)
    (hcd : (x == ("__classdict__" : Str)) = false := by decide) : PDT X (.Name x pos) (gTest (gVar i)) := pdt_val (pdv i hN hv hd hcd)
theorem pd_gint {x : Str} {i : Int} (h : ∃ t, X.mg x = some (.int i t)) (hg : Gl X x) (hd : (x == ("__debug__" : Str)) = false := by decide) : PD X (.Name x pos) (gC (.int i)) := by
  obtain ⟨t, h⟩ := h
  exact pd_tC (pe_glob (v := .int i) hg h ⟨t, rfl⟩ hd) fun _ _ => .int _
theorem pd_gstr {x : Str} {i : Str} (h : ∃ t, X.mg x = some (.str i t)) (hg : Gl X x) (hz : i.length ≤ sizeLine := by decide +kernel) (hd : (x == ("__debug__" : Str)) = false := by decide) : PD X (.Name x pos) (gC (.str i)) := by
  obtain ⟨t, h⟩ := h
  exact pd_tC (pe_glob (v := .str i) hg h ⟨t, rfl⟩ hd) fun _ _ => .str _ hz
theorem pd_gref {x : Str} {d : Addr} (h : X.mg x = some (.ref d)) (hg : Gl X x) (hd : (x == ("__debug__" : Str)) = false := by decide) : PD X (.Name x pos) (gV (.ref d)) := pd_tV (pe_glob (v := .ref d) hg h rfl hd)
/-- a built-in class as an argument -/
theorem pd_ty {x : Str} (T : String) (hg : Gl X x) (hm : X.mg x = none) (hv : bootBuiltins x = some (.type T)) (hn : x ≠ "__name__" := by decide) (hd : (x == ("__debug__" : Str)) = false := by decide) : PD X (.Name x pos) (gV (.ty T)) :=
  pd_tV (pe_bltn (v := .ty T) hg hm hv rfl hn hd)
/-! - x -/
def dNeg : AV → Store → PQ → Prop := fun a S P => match a with
  | .d (.int i) => P (.d (.int (-i))) S
  | _ => False
theorem pd_neg (h : PD X a g) : PD X (.UnaryOp .USub a pos) (gUn dNeg g) := PEwk (pe_un un_neg h) fun σ H Q h => by
  obtain ⟨Z, As, S, env, P, rl, sl, hg, hQ⟩ := h
  refine ⟨Z, As, S, env, _, rl, sl, hg, fun a S1 As1 x H1 h1 po1 rl1 av1 => ?_⟩
  match a, h1, av1 with
  | .d (.int i), h1, av1 =>
    cases av1
    exact ⟨i, rfl, (hQ.later po1).d rl1 (fun _ => .int _) h1⟩
/-! + - * % // ** -/
theorem pd_add (h1 : PD X a g1) (h2 : PD X b g2) : PD X (.BinOp a .Add b pos) (gBin dAdd g1 g2) := pd_op op_addAll vr_add h1 h2
theorem pd_sub (h1 : PD X a g1) (h2 : PD X b g2) : PD X (.BinOp a .Sub b pos) (gBin dSub g1 g2) := pd_op op_sub vr_sub h1 h2
theorem pd_mod (h1 : PD X a g1) (h2 : PD X b g2) : PD X (.BinOp a .Mod b pos) (gBin dMod g1 g2) := pd_op op_mod vr_mod h1 h2
theorem pd_fdiv (h1 : PD X a g1) (h2 : PD X b g2) : PD X (.BinOp a .FloorDiv b pos) (gBin dFdiv g1 g2) := pd_op op_fdiv vr_fdiv h1 h2
theorem pd_pow (h1 : PD X a g1) (h2 : PD X b g2) : PD X (.BinOp a .Pow b pos) (gBin dPow g1 g2) := pd_op op_pow vr_pow h1 h2
theorem pd_mul (h1 : PD X a g1) (h2 : PD X b g2) : PD X (.BinOp a .Mult b pos) (gBin dMul g1 g2) := pd_op op_mul vr_mul h1 h2
/-- a tuple n times -/
theorem pd_rep (h1 : PD X a g1) (h2 : PD X b g2) : PD X (.BinOp a .Mult b pos) (gBin dRep g1 g2) := pd_op op_repT vr_rep h1 h2
/-! comparisons -/
def dOrd (p : Int → Int → Bool) (q : Str → Str → Bool) : AV → AV → Store → PQ → Prop := fun a b S P => match vw S a, vw S b with
  | some (.int i), some (.int j) => P (.d (.bool (p i j))) S
  | some (.str x), some (.str y) => P (.d (.bool (q x y))) S
  | _, _ => False
def rOrd (p : Int → Int → Bool) (q : Str → Str → Bool) : R2 := fun x y H Q => rI0 (fun i j => .bl (p i j)) x y H Q ∨ ∃ i j, x = .str i ∧ y = .str j ∧ Q (.bl (q i j)) H
theorem vr_ord {K : PySem.W.Frag} {p : Int → Int → Bool} {q : Str → Str → Bool} : VR2 K (rOrd p q) (dOrd p q) := by
  intro Z As S H x y a b P Q rl ax ay h k
  unfold dOrd at h
  split at h
  · rename_i i j e1 e2
    exact .inl ⟨i, j, vw_int ax e1, vw_int ay e2, k.d rl (fun _ => .bl _) h⟩
  · rename_i i j e1 e2
    exact .inr ⟨i, j, vw_str ax e1, vw_str ay e2, k.d rl (fun _ => .bl _) h⟩
  · exact h.elim
def sLt (x y : Str) : Bool := decide (x.cps.toList < y.cps.toList)
def sLe (x y : Str) : Bool := !decide (y.cps.toList < x.cps.toList)
def sGt (x y : Str) : Bool := decide (y.cps.toList < x.cps.toList)
def sGe (x y : Str) : Bool := !decide (x.cps.toList < y.cps.toList)
def iLt (i j : Int) : Bool := decide (i < j)
def iLe (i j : Int) : Bool := decide (i ≤ j)
def iGt (i j : Int) : Bool := decide (j < i)
def iGe (i j : Int) : Bool := decide (j ≤ i)
theorem op_ltA : OpR X (compareOp .Lt) (rOrd iLt sLt) := OpRor op_lt op_lt_str
theorem op_leA : OpR X (compareOp .LtE) (rOrd iLe sLe) := OpRor op_le op_le_str
theorem op_gtA : OpR X (compareOp .Gt) (rOrd iGt sGt) := OpRor op_gt op_gt_str
theorem op_geA : OpR X (compareOp .GtE) (rOrd iGe sGe) := OpRor op_ge op_ge_str
theorem pd_lt (h1 : PD X a g1) (h2 : PD X b g2) : PD X (.Compare a [.Lt] [b] pos) (gBin (dOrd iLt sLt) g1 g2) := pd_cmp op_ltA vr_ord h1 h2 (nobehind _ (by decide) (by decide))
theorem pd_le (h1 : PD X a g1) (h2 : PD X b g2) : PD X (.Compare a [.LtE] [b] pos) (gBin (dOrd iLe sLe) g1 g2) := pd_cmp op_leA vr_ord h1 h2 (nobehind _ (by decide) (by decide))
theorem pd_gt (h1 : PD X a g1) (h2 : PD X b g2) : PD X (.Compare a [.Gt] [b] pos) (gBin (dOrd iGt sGt) g1 g2) := pd_cmp op_gtA vr_ord h1 h2 (nobehind _ (by decide) (by decide))
theorem pd_ge (h1 : PD X a g1) (h2 : PD X b g2) : PD X (.Compare a [.GtE] [b] pos) (gBin (dOrd iGe sGe) g1 g2) := pd_cmp op_geA vr_ord h1 h2 (nobehind _ (by decide) (by decide))
theorem pdt_lt (h1 : PD X a g1) (h2 : PD X b g2) : PDT X (.Compare a [.Lt] [b] pos) (gTest (gBin (dOrd iLt sLt) g1 g2)) := pdt_cmp op_ltA vr_ord h1 h2 (nobehind _ (by decide) (by decide))
theorem pdt_le (h1 : PD X a g1) (h2 : PD X b g2) : PDT X (.Compare a [.LtE] [b] pos) (gTest (gBin (dOrd iLe sLe) g1 g2)) := pdt_cmp op_leA vr_ord h1 h2 (nobehind _ (by decide) (by decide))
theorem pdt_gt (h1 : PD X a g1) (h2 : PD X b g2) : PDT X (.Compare a [.Gt] [b] pos) (gTest (gBin (dOrd iGt sGt) g1 g2)) := pdt_cmp op_gtA vr_ord h1 h2 (nobehind _ (by decide) (by decide))
theorem pdt_ge (h1 : PD X a g1) (h2 : PD X b g2) : PDT X (.Compare a [.GtE] [b] pos) (gTest (gBin (dOrd iGe sGe) g1 g2)) := pdt_cmp op_geA vr_ord h1 h2 (nobehind _ (by decide) (by decide))
theorem pd_lele (h1 : PD X a g1) (h2 : PD X b g2) (h3 : PD X c g3) (hm : lastMarks [.LtE, .LtE] [b, c] = false := by with_unfolding_all rfl) : PD X (.Compare a [.LtE, .LtE] [b, c] pos) (gChain (dOrd iLe sLe) (dOrd iLe sLe) g1 g2 g3) := pd_chain op_leA op_leA vr_ord vr_ord h1 h2 h3 hm
theorem pdt_lele (h1 : PD X a g1) (h2 : PD X b g2) (h3 : PD X c g3) (hm : lastMarks [.LtE, .LtE] [b, c] = false := by with_unfolding_all rfl) : PDT X (.Compare a [.LtE, .LtE] [b, c] pos) (gTest (gChain (dOrd iLe sLe) (dOrd iLe sLe) g1 g2 g3)) := pdt_chain op_leA op_leA vr_ord vr_ord h1 h2 h3 hm
theorem pd_ltlt (h1 : PD X a g1) (h2 : PD X b g2) (h3 : PD X c g3) (hm : lastMarks [.Lt, .Lt] [b, c] = false := by with_unfolding_all rfl) : PD X (.Compare a [.Lt, .Lt] [b, c] pos) (gChain (dOrd iLt sLt) (dOrd iLt sLt) g1 g2 g3) := pd_chain op_ltA op_ltA vr_ord vr_ord h1 h2 h3 hm
theorem pdt_ltlt (h1 : PD X a g1) (h2 : PD X b g2) (h3 : PD X c g3) (hm : lastMarks [.Lt, .Lt] [b, c] = false := by with_unfolding_all rfl) : PDT X (.Compare a [.Lt, .Lt] [b, c] pos) (gTest (gChain (dOrd iLt sLt) (dOrd iLt sLt) g1 g2 g3)) := pdt_chain op_ltA op_ltA vr_ord vr_ord h1 h2 h3 hm
/-- ==, != -/
def dEq (neg : Bool) : AV → AV → Store → PQ → Prop := fun a b S P => match vw S a, vw S b with
  | some x, some y => match scD x y with
    | some c => P (.d (.bool (cond neg (!c) c))) S
    | none => (SeqAt.shaped x = true ∧ SeqAt.shaped y = true) ∧ P (.d (.bool (cond neg (!PyData.eqv x y) (PyData.eqv x y)))) S
  | _, _ => False
theorem vr_eq {K : PySem.W.Frag} : VR2 K (fun x y H Q => rEq x y H Q ∨ rEqD K x y H Q) (dEq false) := by
  intro Z As S H x y a b P Q rl ax ay h k
  unfold dEq at h
  split at h
  · rename_i d e e1 e2
    split at h
    · rename_i c e3
      obtain ⟨z1, z2⟩ := scD_scal (vw_any rl ax e1) (vw_any rl ay e2) e3
      exact .inl ⟨z1, by rw [z2]; exact k.d rl (fun _ => .bl _) h⟩
    · exact .inr ⟨d, e, DV.dp d _ (shaped_lay h.1.1) (vw_any rl ax e1), DV.dp e _ (shaped_lay h.1.2) (vw_any rl ay e2), h.1.1, h.1.2, k.d rl (fun _ => .bl _) h.2⟩
  · exact h.elim
theorem vr_ne {K : PySem.W.Frag} : VR2 K (fun x y H Q => rNe x y H Q ∨ rNeD K x y H Q) (dEq true) := by
  intro Z As S H x y a b P Q rl ax ay h k
  unfold dEq at h
  split at h
  · rename_i d e e1 e2
    split at h
    · rename_i c e3
      obtain ⟨z1, z2⟩ := scD_scal (vw_any rl ax e1) (vw_any rl ay e2) e3
      exact .inl ⟨z1, by rw [z2]; exact k.d rl (fun _ => .bl _) h⟩
    · exact .inr ⟨d, e, DV.dp d _ (shaped_lay h.1.1) (vw_any rl ax e1), DV.dp e _ (shaped_lay h.1.2) (vw_any rl ay e2), h.1.1, h.1.2, k.d rl (fun _ => .bl _) h.2⟩
  · exact h.elim
theorem room_eq {k : Nat} (hr : Room k X.A) : X.A.units + 65 < cLine := by have := hr.un; omega
theorem pd_eq {k : Nat} (hr : Room k X.A) (h1 : PD X a g1) (h2 : PD X b g2) : PD X (.Compare a [.Eq] [b] pos) (gBin (dEq false) g1 g2) := pd_cmp (OpRor op_eq (op_eqD (by have := room_eq hr; omega))) vr_eq h1 h2 (nobehind _ (by decide) (by decide))
theorem pd_ne {k : Nat} (hr : Room k X.A) (h1 : PD X a g1) (h2 : PD X b g2) : PD X (.Compare a [.NotEq] [b] pos) (gBin (dEq true) g1 g2) := pd_cmp (OpRor op_ne (op_neD (by have := room_eq hr; omega))) vr_ne h1 h2 (nobehind _ (by decide) (by decide))
theorem pdt_eq {k : Nat} (hr : Room k X.A) (h1 : PD X a g1) (h2 : PD X b g2) : PDT X (.Compare a [.Eq] [b] pos) (gTest (gBin (dEq false) g1 g2)) := pdt_cmp (OpRor op_eq (op_eqD (by have := room_eq hr; omega))) vr_eq h1 h2 (nobehind _ (by decide) (by decide))
theorem pdt_ne {k : Nat} (hr : Room k X.A) (h1 : PD X a g1) (h2 : PD X b g2) : PDT X (.Compare a [.NotEq] [b] pos) (gTest (gBin (dEq true) g1 g2)) := pdt_cmp (OpRor op_ne (op_neD (by have := room_eq hr; omega))) vr_ne h1 h2 (nobehind _ (by decide) (by decide))
theorem pd_is (h1 : PD X a g1) (h2 : PD X b g2) : PD X (.Compare a [.Is] [b] pos) (gBin (dIsN false) g1 g2) := pd_cmp op_isN vr_isN h1 h2 (nobehind _ (by decide) (by decide))
theorem pd_isnot (h1 : PD X a g1) (h2 : PD X b g2) : PD X (.Compare a [.IsNot] [b] pos) (gBin (dIsN true) g1 g2) := pd_cmp op_notN vr_notN h1 h2 (nobehind _ (by decide) (by decide))
theorem pdt_is (h1 : PD X a g1) (h2 : PD X b g2) : PDT X (.Compare a [.Is] [b] pos) (gTest (gBin (dIsN false) g1 g2)) := pdt_cmp op_isN vr_isN h1 h2 (nobehind _ (by decide) (by decide))
theorem pdt_isnot (h1 : PD X a g1) (h2 : PD X b g2) : PDT X (.Compare a [.IsNot] [b] pos) (gTest (gBin (dIsN true) g1 g2)) := pdt_cmp op_notN vr_notN h1 h2 (nobehind _ (by decide) (by decide))
/-! in -/
def dIn (neg : Bool) : AV → AV → Store → PQ → Prop := fun a b S P => match vw S b with
  | some (.str _) => dInC neg a b S P
  | some (.tuple _) => dInS neg a b S P
  | some (.list _) => dInS neg a b S P ∨ dInD neg a b S P
  | _ => False
theorem vr_in {K : PySem.W.Frag} : VR2 K (fun x y H Q => (∃ (c : Nat) (z : Str), x = .str ⟨#[c]⟩ ∧ y = .str z ∧ Q (.bl (decide (c ∈ z.cps.toList))) H) ∨ rIn K false x y H Q ∨ rInD K x y H Q) (dIn false) := by
  intro Z As S H x y a b P Q rl ax ay h k
  unfold dIn at h
  split at h
  · exact .inl (vr_inC Z As S H x y a b P Q rl ax ay h k)
  · exact .inr (.inl (vr_inS false Z As S H x y a b P Q rl ax ay h k))
  · rcases h with h | h
    · exact .inr (.inl (vr_inS false Z As S H x y a b P Q rl ax ay h k))
    · exact .inr (.inr (vr_inD Z As S H x y a b P Q rl ax ay h k))
  · exact h.elim
theorem vr_notInD {K : PySem.W.Frag} : VR2 K (rNotInD K) (dInD true) := by
  intro Z As S H x y a b P Q rl ax ay h k
  unfold dInD at h
  split at h
  · rename_i d ds e1 e2
    exact ⟨d, ds, DV.dp d _ (shaped_lay h.1.1) (vw_any rl ax e1), DV.dp _ _ (shaped_lay h.1.2) (vw_any rl ay e2), h.1.1, h.1.2, k.d rl (fun _ => .bl _) h.2⟩
  · exact h.elim
theorem vr_notIn {K : PySem.W.Frag} : VR2 K (fun x y H Q => (∃ (c : Nat) (z : Str), x = .str ⟨#[c]⟩ ∧ y = .str z ∧ Q (.bl (!decide (c ∈ z.cps.toList))) H) ∨ rIn K true x y H Q ∨ rNotInD K x y H Q) (dIn true) := by
  intro Z As S H x y a b P Q rl ax ay h k
  unfold dIn at h
  split at h
  · exact .inl (vr_notInC Z As S H x y a b P Q rl ax ay h k)
  · exact .inr (.inl (vr_inS true Z As S H x y a b P Q rl ax ay h k))
  · rcases h with h | h
    · exact .inr (.inl (vr_inS true Z As S H x y a b P Q rl ax ay h k))
    · exact .inr (.inr (vr_notInD Z As S H x y a b P Q rl ax ay h k))
  · exact h.elim
theorem op_inAll {k : Nat} (hr : Room k X.A) : OpR X (compareOp .In) (fun x y H Q => (∃ (c : Nat) (z : Str), x = .str ⟨#[c]⟩ ∧ y = .str z ∧ Q (.bl (decide (c ∈ z.cps.toList))) H) ∨ rIn X.K false x y H Q ∨ rInD X.K x y H Q) := OpRor op_in_sign (OpRor op_in_seq (op_inD (room_eq hr)))
theorem op_notInAll {k : Nat} (hr : Room k X.A) : OpR X (compareOp .NotIn) (fun x y H Q => (∃ (c : Nat) (z : Str), x = .str ⟨#[c]⟩ ∧ y = .str z ∧ Q (.bl (!decide (c ∈ z.cps.toList))) H) ∨ rIn X.K true x y H Q ∨ rNotInD X.K x y H Q) := OpRor op_notIn_sign (OpRor op_notIn_seq (op_notInD (room_eq hr)))
theorem pd_in {k : Nat} (hr : Room k X.A) (h1 : PD X a g1) (h2 : PD X b g2) (hm : behindInMarks .In b = false) : PD X (.Compare a [.In] [b] pos) (gBin (dIn false) g1 g2) := pd_cmp (op_inAll hr) vr_in h1 h2 hm
theorem pd_notin {k : Nat} (hr : Room k X.A) (h1 : PD X a g1) (h2 : PD X b g2) (hm : behindInMarks .NotIn b = false) : PD X (.Compare a [.NotIn] [b] pos) (gBin (dIn true) g1 g2) := pd_cmp (op_notInAll hr) vr_notIn h1 h2 hm
theorem pdt_in {k : Nat} (hr : Room k X.A) (h1 : PD X a g1) (h2 : PD X b g2) (hm : behindInMarks .In b = false) : PDT X (.Compare a [.In] [b] pos) (gTest (gBin (dIn false) g1 g2)) := pdt_cmp (op_inAll hr) vr_in h1 h2 hm
theorem pdt_notin {k : Nat} (hr : Room k X.A) (h1 : PD X a g1) (h2 : PD X b g2) (hm : behindInMarks .NotIn b = false) : PDT X (.Compare a [.NotIn] [b] pos) (gTest (gBin (dIn true) g1 g2)) := pdt_cmp (op_notInAll hr) vr_notIn h1 h2 hm
/-! x[i] -/
def sgn (c : Nat) : Str := ⟨#[c]⟩
def dIx : AV → AV → Store → PQ → Prop := fun a b S P => match vw S a, vw S b with
  | some (.list ds), some (.int i) => match atI ds i with
    | some d => P (.d d) S
    | none => False
  | some (.tuple ds), some (.int i) => match atI ds i with
    | some d => P (.d d) S
    | none => False
  | some (.str z), some (.int i) => match atI z.cps.toList i with
    | some c => P (.d (.str (sgn c))) S
    | none => False
  | _, _ => False
theorem vr_ix {K : PySem.W.Frag} : VR2 K (rIx K) dIx := by
  intro Z As S H x y a b P Q rl ax ay h k
  unfold dIx at h
  split at h
  · rename_i ds i e1 e2
    refine .inl (vr_ixL Z As S H x y a b P Q rl ax ay ?_ k)
    unfold dIxL
    rw [e1, e2]
    exact h
  · rename_i ds i e1 e2
    refine .inr (.inl (vr_ixT Z As S H x y a b P Q rl ax ay ?_ k))
    unfold dIxT
    rw [e1, e2]
    exact h
  · rename_i z i e1 e2
    split at h
    · rename_i c e3
      have hz : z.length ≤ sizeLine := by
        cases vw_any rl ax e1 with
        | str _ z => exact z
      exact .inr (.inr ⟨z, i, c, vw_str ax e1, vw_int ay e2, hz, e3, k.d rl (fun _ => .str _ (by rw [sizeLine_eq]; show 1 ≤ _; decide)) h⟩)
    · exact h.elim
  · exact h.elim
theorem pd_at (h1 : PD X a g1) (h2 : PD X b g2) (hs : PlainIx b := by exact fun _ _ => rfl) : PD X (.Subscript a b pos) (gBin dIx g1 g2) := pd_ix ix_seq vr_ix h1 h2 hs
/-- a table of the module -/
def dTab (T : Str → Option PyData) : AV → AV → Store → PQ → Prop := fun _ b S P => match b with
  | .d (.str z) => match T z with
    | some x => P (.d x) S
    | none => False
  | _ => False
def rTab (d : Addr) (K : PySem.W.Frag) (w : World) : R2 := fun x y H Q => x = .ref d ∧ rIxD K w x y H Q
theorem pd_tab {d : Addr} {x : Str} {px : Pos} {T : Str → Option PyData} (D : KTab X.K X.w d T) (hx : X.mg x = some (.ref d)) (hg : Gl X x) (h2 : PD X b g2) (hs : PlainIx b := by exact fun _ _ => rfl) (hd : (x == ("__debug__" : Str)) = false := by decide) :
    PD X (.Subscript (.Name x px) b pos) (gBin (dTab T) (gV (.ref d)) g2) := by
  refine PEwk (pe_ix ix_kdict (pe_glob (v := .ref d) hg hx rfl hd) h2 hs) fun σ H Q h => ?_
  obtain ⟨Z, As, S, env, P, rl, sl, hg, hQ⟩ := h
  refine ⟨Z, As, S, env, _, rl, sl, hg, fun b S2 As2 y H2 h2 po2 rl2 av2 => ?_⟩
  match b, h2, av2 with
  | .d (.str z), h2, av2 =>
    cases av2
    obtain ⟨es, n, kd⟩ := D.at_
    obtain ⟨r, e1, e2, e3⟩ := D.get z
    change (match T z with | some x => P (.d x) S2 | none => False) at h2
    split at h2
    · rename_i x e4
      obtain ⟨u, v, rfl, rv, dv⟩ := e3 x e4
      exact ⟨d, z, v, rfl, rfl, ⟨es, n, u, kd.at_, kd.lit, e1, rv⟩, (hQ.later po2).d rl2 (fun _ => dv _ _) h2⟩
    · exact h2.elim
theorem tab_in_wk {K : PySem.W.Frag} {d : Addr} {T : Str → Option PyData} {neg : Bool} : VR2 K (rInTab K d T neg) (fun a b S P => match b with
    | .v (.ref q) => q = d ∧ dInTab T neg a b S P
    | _ => False) := by
  intro Z As S H x y a b P Q rl ax ay h k
  split at h
  · rename_i q
    obtain ⟨rfl, h⟩ := h
    unfold dInTab at h
    split at h
    · rename_i z
      cases ax
      exact ⟨z, rfl, ay, k.d rl (fun _ => .bl _) h⟩
    · exact h.elim
  · exact h.elim
theorem pdt_notinTab {d : Addr} {x : Str} {px : Pos} {T : Str → Option PyData} (D : KTab X.K X.w d T) (hx : X.mg x = some (.ref d)) (hg : Gl X x) (h1 : PD X a g1) (hm : behindInMarks .NotIn (.Name x px) = false := by rfl) (hd : (x == ("__debug__" : Str)) = false := by decide) :
    PDT X (.Compare a [.NotIn] [.Name x px] pos) (gTest (gBin (fun a b S P => match b with
    | .v (.ref q) => q = d ∧ dInTab T true a b S P
    | _ => False) g1 (gV (.ref d)))) := pdt_cmp (op_notInTab D) tab_in_wk h1 (pd_gref hx hg hd) hm
/-! pairs and triples at once -/
theorem pds_par {i j : Nat} {x y : Str} {px py pt : Pos} {kt k2 pt2} (hc : X.calm = true) (hN : X.N.Nodup) (hi : X.N[i]? = some x) (hj : X.N[j]? = some y) (hij : i ≠ j)
    (hx : X.env.scope.names.lookup x = some .local) (hy : X.env.scope.names.lookup y = some .local) (ha : PDA X [a, b] ga)
    (hw : swappedStores [.Tuple [.Name x px, .Name y py] kt pt] (.Tuple [a, b] k2 pt2) X.env = pure (some [x, y]))
    (hs : swapsWithSole [.Tuple [.Name x px, .Name y py] kt pt] (.Tuple [a, b] k2 pt2) pos.line X.env = pure false := by rfl) :
    PDS X (.Assign [.Tuple [.Name x px, .Name y py] kt pt] (.Tuple [a, b] k2 pt2) pos) (gsPar i j ga) := PSwk (ps_par hc hN hi hj hij hx hy ha hw hs) fun D σ H h => by
  obtain ⟨Z, As, S, env, E, rl, sl, hg, k1, k2, k3, k4⟩ := h
  refine ⟨Z, As, S, env, _, rl, sl, hg, fun as S' As' vs H' h' po rl' av => ?_⟩
  match as, h', av with
  | [p, q], h', av =>
    cases av with
    | cons a1 t =>
      cases t with
      | cons a2 t =>
        cases t
        exact ⟨_, _, rfl, k1 _ S' As' _ H' h' po rl' (((sl.po po).set a1).set a2)⟩
def gsPar3 (i j l : Nat) (ga : GA) : GS := fun env S D => ga env S fun as S1 => match as with
  | [a, b, c] => D.nx (((env.set i (some a)).set j (some b)).set l (some c)) S1
  | _ => False
theorem pds_par3 {i j l : Nat} {x y z : Str} {px py pz pt : Pos} {kt k2 pt2} (hc : X.calm = true) (hN : X.N.Nodup) (hi : X.N[i]? = some x) (hj : X.N[j]? = some y) (hl : X.N[l]? = some z) (hij : i ≠ j) (hil : i ≠ l) (hjl : j ≠ l)
    (hx : X.env.scope.names.lookup x = some .local) (hy : X.env.scope.names.lookup y = some .local) (hz : X.env.scope.names.lookup z = some .local) (ha : PDA X [a, b, c] ga)
    (hw : swappedStores [.Tuple [.Name x px, .Name y py, .Name z pz] kt pt] (.Tuple [a, b, c] k2 pt2) X.env = pure (some [x, y, z]))
    (hs : swapsWithSole [.Tuple [.Name x px, .Name y py, .Name z pz] kt pt] (.Tuple [a, b, c] k2 pt2) pos.line X.env = pure false := by rfl) :
    PDS X (.Assign [.Tuple [.Name x px, .Name y py, .Name z pz] kt pt] (.Tuple [a, b, c] k2 pt2) pos) (gsPar3 i j l ga) := PSwk (ps_par3 hc hN hi hj hl hij hil hjl hx hy hz ha hw hs) fun D σ H h => by
  obtain ⟨Z, As, S, env, E, rl, sl, hg, k1, k2, k3, k4⟩ := h
  refine ⟨Z, As, S, env, _, rl, sl, hg, fun as S' As' vs H' h' po rl' av => ?_⟩
  match as, h', av with
  | [p, q, r], h', av =>
    cases av with
    | cons a1 t =>
      cases t with
      | cons a2 t =>
        cases t with
        | cons a3 t =>
          cases t
          exact ⟨_, _, _, rfl, k1 _ S' As' _ H' h' po rl' ((((sl.po po).set a1).set a2).set a3)⟩
end
/-! ### defs by their names -/
/-- a def as the top has left it -/
structure DefAt (K : PySem.W.Frag) (mg : Str → Option Value) (x : Str) (st : Stmt) (ps : List Str) : Prop where
  ex : ∃ f fd, Fun K x x st f fd ∧ mg x = some (.ref f) ∧ PySem.W.keepIn K (.ref f) = true ∧ Binds K fd ps [] ∧ ∀ (s : Shared) (us : List Value), us.length = ps.length → BindsTo s fd ⟨[], ps.zip us⟩ (ps.zip us)
/-- it keeps a promise -/
structure Own (P : Program) (w : World) (K : PySem.W.Frag) (mg : Str → Option Value) (base : Heap) (k : Nat) (x : Str) (ps : List Str) (W : WD) : Prop where
  ex : ∃ f fd, FnD P w K mg base k f fd ps W ∧ mg x = some (.ref f) ∧ PySem.W.keepIn K (.ref f) = true ∧ Binds K fd ps [] ∧ ∀ (s : Shared) (us : List Value), us.length = ps.length → BindsTo s fd ⟨[], ps.zip us⟩ (ps.zip us)
section
variable {P : Program} {w : World} {K : PySem.W.Frag} {mg : Str → Option Value} {base : Heap} {k : Nat} {x : Str} {N ps : List Str} {W : WD}
theorem okO {st : Stmt} {g : GS} (D : DefAt K mg x st ps) (S : FnScope N ps (defScope st)) (hlen : ∀ as S P, W as S P → as.length = ps.length)
    (hb : ∀ (f : Addr) (cdv : Value) (A : Around) (outer : List Env) (s : Shared) (H : Hp) (E : XK), A.guards = some [] → Room k (A.deeper (envOfC x (defScope st) s.heap.objs.size f cdv)) →
      PDSs (cxOf CX0 P w K mg base N x (defScope st) f cdv A outer s H E).nox (defBody st) g)
    (hw : ∀ args S P, W args S P → g (args.map some ++ List.replicate (N.length - ps.length) none) S ⟨fun _ S' => P (.d .none) S', P, fun _ _ => False, fun _ _ => False⟩) : Own P w K mg base (k + 1) x ps W := by
  obtain ⟨f, fd, F, h1, h2, h3, h4⟩ := D.ex
  exact ⟨f, fd, okD F S hlen (fun cdv A outer s H E hg hr => hb f cdv A outer s H E hg hr) hw, h1, h2, h3, h4⟩
theorem Own.imp {W' : WD} (O : Own P w K mg base k x ps W) (h : ∀ as S P, W' as S P → W as S P) : Own P w K mg base k x ps W' := by
  obtain ⟨f, fd, F, h1, h2, h3, h4⟩ := O.ex
  exact ⟨f, fd, F.imp h, h1, h2, h3, h4⟩
theorem Own.mono {j : Nat} (O : Own P w K mg base j x ps W) (h : j ≤ k) : Own P w K mg base k x ps W := by
  obtain ⟨f, fd, F, h1, h2, h3, h4⟩ := O.ex
  exact ⟨f, fd, FnG.mono F h, h1, h2, h3, h4⟩
end
section
variable {X : Cx} {j k : Nat} {x : Str} {ps : List Str} {W : WD} {p pos : Pos} {e : Expr} {es : List Expr} {kws : List Keyword} {ga gk : GA}
theorem pdc (O : Own X.prog X.w X.K X.mg X.base j x ps W) (hgd : X.A.guards = some []) (hr : Room k X.A) (hg : Gl X x) (ha : PDA X (e :: es) ga) (hjk : j ≤ k := by first | decide | omega) (hdb : (x == ("__debug__" : Str)) = false := by decide)
    (he : starEach (e :: es) X.env = (false, eval e X.env) :: starEach es X.env := by rfl) (hpl : (backTo pos (starEach es X.env)).any (·.1) = false := by rfl) : PD X (.Call (.Name x p) (e :: es) [] pos) (gApp W ga) := by
  obtain ⟨f, fd, F, h1, h2, h3, h4⟩ := O.ex
  exact pd_call F hgd (hr.mono hjk) hg h1 h2 h3 ha hdb he hpl
theorem pdck (O : Own X.prog X.w X.K X.mg X.base j x ps W) (hgd : X.A.guards = some []) (hr : Room k X.A) (hg : Gl X x) (hkw : PDK X kws gk) (hjk : j ≤ k := by first | decide | omega) (hall : (backToKw pos (keywordEach kws X.env)).all (·.1.isSome) = true := by rfl)
    (hks : (backToKw pos (keywordEach kws X.env)).filterMap (·.1) = ps := by rfl) (hdb : (x == ("__debug__" : Str)) = false := by decide)
    (hpl : ((backTo pos (starEach [] X.env)).any (·.1) || (backToKw pos (keywordEach kws X.env)).any (·.1.isNone)) = false := by rfl) : PD X (.Call (.Name x p) [] kws pos) (gApp W gk) := by
  obtain ⟨f, fd, F, h1, h2, h3, h4⟩ := O.ex
  exact pd_callK F hgd (hr.mono hjk) hg h1 h2 h4 hkw hall hks hdb hpl
end
end DL
/-! a list, a tuple, a dict is equal to no text -/
namespace DL
open PySem PySem.Spec PyProof.Rows L2 PySem.SeqAt
open PySem.MeetsSeq
theorem dict_eq_declines_str (l : Addr) (es : Array DictEntry) (n : Nat) (dd : Option Addr) (sl : Array (Option Value)) (b : Str) (u : Tok) :
    Meets (Builtin.«dict.__eq__» ⟨[.ref l, .str b u], []⟩) (fun _ R s => s.heap.get? l = some { cls := .type "dict", dict := dd, data := .dict es n, slots := sl } ∧ R (.ok (.ret .notImplemented)) s) :=
  .of_wp fun prog w A R s h => by obtain ⟨hp, g, d, tk, os⟩ := s; obtain ⟨hl, h⟩ := h; have f1 := F.sub_str_dict; wp_walk using wpAny_loadPart' hl; exact ⟨_, rfl, h⟩
theorem str_eq_declines_dict (b : Str) (u : Tok) (l : Addr) (es : Array DictEntry) (n : Nat) (dd : Option Addr) (sl : Array (Option Value)) :
    Meets (Builtin.«str.__eq__» ⟨[.str b u, .ref l], []⟩) (fun _ R s => s.heap.get? l = some { cls := .type "dict", dict := dd, data := .dict es n, slots := sl } ∧ R (.ok (.ret .notImplemented)) s) :=
  .of_wp fun prog w A R s h => by obtain ⟨hp, g, d, tk, os⟩ := s; obtain ⟨hl, h⟩ := h; wp_walk using wpAny_loadPart' hl; exact ⟨_, rfl, h⟩
theorem RcAt.dict_str {A : Around} {s : Shared} {l : Addr} {es : Array DictEntry} {n : Nat} {dd : Option Addr} {sl : Array (Option Value)} (b : Str) (u : Tok) (ho : s.heap.get? l = some { cls := .type "dict", dict := dd, data := .dict es n, slots := sl }) (hu : A.units < cLine) : SeqAt.RcAt A s (.ref l) (.str b u) false := fun prog w E Q h =>
  rc_eq_decline_or (k := false) ⟨_, ho, rfl⟩ (typeIs_str s b u) (by decide) F.sub_str_dict F.slot_dict_eq F.slot_str_eq_refl
    (fun _ hq => call_meets F.slot_dict_eq ⟨_, ho, rfl⟩ F.entry_dict_eq (F.args_dict_eq_2 _ _) (dict_eq_declines_str l es n dd sl b u) ⟨ho, hq⟩)
    (fun _ hq => call_meets F.slot_str_eq_refl (typeIs_str s b u) F.entry_str_eq (F.args_str_eq_2 _ _) (str_eq_declines_dict b u l es n dd sl) ⟨ho, hq⟩)
    (fun _ hq => wpAny_of_eq (rfl : isSame (.ref l) (.str b u) = pure false) hq) (.inr hu) h
def isSeqD : PyData → Bool
  | .list _ => true
  | .tuple _ => true
  | .dict _ => true
  | _ => false
def rEqT (K : PySem.W.Frag) : R2 := fun x y H Q => ∃ (d : PyData) (z : Str), y = .str z ∧ DV K (fun _ => False) H x d ∧ isSeqD d = true ∧ Q (.bl false) H
theorem op_eqT {X : Cx} (hu : X.A.units < cLine) : OpR X (compareOp .Eq) (rEqT X.K) := by
  intro pins s σ H x y v u Q I rx ry h
  obtain ⟨d, z, rfl, hd, hi, q⟩ := h
  obtain ⟨t, rfl⟩ := ry
  have fin : EP X pins σ Q (.bool false) s := ⟨.bl false, H, I, rfl, q⟩
  cases hd with
  | lst n e t =>
    obtain rfl : v = Value.ref _ := rx
    obtain ⟨its, rv, pl, _⟩ := I.list (.inl (.inl e))
    exact RcAt.list_str z _ pl.isList hu X.prog X.w _ _ fin
  | tup n e t =>
    obtain rfl : v = Value.ref _ := rx
    obtain ⟨its, rv, pl, _⟩ := I.tuple (.inl (.inl e))
    exact RcAt.tuple_str z _ pl hu X.prog X.w _ _ fin
  | tupK e t =>
    obtain rfl : v = Value.ref _ := rx
    obtain ⟨its, rv, pl, _⟩ := I.tuple (sqt_up e)
    exact RcAt.tuple_str z _ pl hu X.prog X.w _ _ fin
  | dct n e =>
    obtain rfl : v = Value.ref _ := rx
    obtain ⟨_, hne, vs, kv, ob, es, ep, ho, hx, hdt, _⟩ := (show ObjOk X.prog X.w H s.heap _ (.dK []) from I.hok _ _ e)
    obtain ⟨c, dd, dt, sl⟩ := ob
    have hc : c = .type "dict" := hx.1
    subst hc
    have hdt' : dt = .dict es ep := hdt
    subst hdt'
    exact RcAt.dict_str z _ ho hu X.prog X.w _ _ fin
  | non => cases hi
  | bl _ => cases hi
  | int _ => cases hi
  | str _ => cases hi
/-- x == text -/
def eqT (x : PyData) (z : Str) : Bool := match x with | .str y => decide (y = z) | _ => false
theorem vr_eqT {K : PySem.W.Frag} : VR2 K (fun x y H Q => rEq x y H Q ∨ rEqT K x y H Q) (fun a b S P => match vw S b with
    | some (.str z) => match vw S a with
      | some x => P (.d (.bool (eqT x z))) S
      | none => False
    | _ => False) := by
  intro Z As S H x y a b P Q rl ax ay h k
  split at h
  · rename_i z e2
    split at h
    · rename_i d e1
      have hv := vw_any rl ax e1
      have hy := vw_str ay e2
      subst hy
      have hz : z.length ≤ sizeLine := by
        cases vw_any rl ay e2 with
        | str _ z => exact z
      have s := @scD_scal K (fun _ => False) H x (.str z) d (.str z)
      cases d with
      | none => obtain ⟨z1, z2⟩ := s hv (.str z hz) rfl; exact .inl ⟨z1, by rw [z2]; exact k.d rl (fun _ => .bl _) h⟩
      | bool b => obtain ⟨z1, z2⟩ := s hv (.str z hz) rfl; exact .inl ⟨z1, by rw [z2]; exact k.d rl (fun _ => .bl _) h⟩
      | int b => obtain ⟨z1, z2⟩ := s hv (.str z hz) rfl; exact .inl ⟨z1, by rw [z2]; exact k.d rl (fun _ => .bl _) h⟩
      | str b => obtain ⟨z1, z2⟩ := s hv (.str z hz) rfl; exact .inl ⟨z1, by rw [z2]; exact k.d rl (fun _ => .bl _) h⟩
      | list ds => exact .inr ⟨_, z, rfl, hv, rfl, k.d rl (fun _ => .bl _) h⟩
      | tuple ds => exact .inr ⟨_, z, rfl, hv, rfl, k.d rl (fun _ => .bl _) h⟩
      | dict ds => exact .inr ⟨_, z, rfl, hv, rfl, k.d rl (fun _ => .bl _) h⟩
    · exact h.elim
  · exact h.elim
def gEqT : AV → AV → Store → PQ → Prop := fun a b S P => match vw S b with
    | some (.str z) => match vw S a with
      | some x => P (.d (.bool (eqT x z))) S
      | none => False
    | _ => False
theorem pd_eqT {X : Cx} {a b : Expr} {g1 g2 : G} {pos : Pos} {k : Nat} (hr : Room k X.A) (h1 : PD X a g1) (h2 : PD X b g2) : PD X (.Compare a [.Eq] [b] pos) (gBin gEqT g1 g2) := pd_cmp (OpRor op_eq (op_eqT (by have := room_eq hr; omega))) vr_eqT h1 h2 (nobehind _ (by decide) (by decide))
theorem pdt_eqT {X : Cx} {a b : Expr} {g1 g2 : G} {pos : Pos} {k : Nat} (hr : Room k X.A) (h1 : PD X a g1) (h2 : PD X b g2) : PDT X (.Compare a [.Eq] [b] pos) (gTest (gBin gEqT g1 g2)) := pdt_cmp (OpRor op_eq (op_eqT (by have := room_eq hr; omega))) vr_eqT h1 h2 (nobehind _ (by decide) (by decide))
theorem room_u {k : Nat} {A : Around} (hr : Room k A) : A.units + 64 < cLine := by have := hr.un; omega
theorem bt_bool : bootBuiltins "bool" = some (.type "bool") := by decide +kernel
theorem bt_int : bootBuiltins "int" = some (.type "int") := by decide +kernel
/-- the built-in names that no name of the module hides -/
def bltNames : List Str := ["isinstance", "len", "all", "any", "sum", "max", "min", "abs", "repr", "list", "tuple", "str", "int", "bool", "dict", "range", "zip", "divmod", "sorted", "enumerate", "set", "reversed"]
structure Bl (mg : Str → Option Value) : Prop where
  b : ∀ x : Str, x ∈ bltNames → mg x = none
end DL
/-! comprehensions and loops by a relation of their items -/
namespace DL
open PySem PySem.Spec PyProof.Rows L2
theorem compD_rel {gg : GG} {ge : G} (R : PyData → PyData → Prop) {env : DEnv} {S : Store} {P : PQ} : ∀ {items acc : List PyData},
    (∀ x, x ∈ items → ∀ Q : PQ, (∀ y, R x y → Q (.d y) S) → gg (.d x) env S fun env' S' => ge env' S' Q) → (∀ ys, Paired R items ys → P (.d (.list (acc ++ ys))) S) → compD gg gtYes ge items acc env S P
  | [], acc, _, k => by
    have := k [] .nil
    rw [List.append_nil] at this
    exact this
  | x :: xs, acc, h, k => by
    refine h x (List.mem_cons_self ..) _ fun y hy => ?_
    show compD gg gtYes ge xs (acc ++ [y]) env S P
    refine compD_rel R (fun z hz => h z (List.mem_cons_of_mem _ hz)) fun ys hys => ?_
    rw [List.append_assoc]
    exact k (y :: ys) (.cons hy hys)
theorem compD_map {gg : GG} {ge : G} (f : PyData → PyData) {env : DEnv} {S : Store} {P : PQ} : ∀ {items acc : List PyData},
    (∀ x, x ∈ items → ∀ Q : PQ, Q (.d (f x)) S → gg (.d x) env S fun env' S' => ge env' S' Q) → P (.d (.list (acc ++ items.map f))) S → compD gg gtYes ge items acc env S P
  | [], acc, _, k => by
    rw [List.map_nil, List.append_nil] at k
    exact k
  | x :: xs, acc, h, k => by
    refine h x (List.mem_cons_self ..) _ ?_
    show compD gg gtYes ge xs (acc ++ [f x]) env S P
    refine compD_map f (fun z hz => h z (List.mem_cons_of_mem _ hz)) ?_
    rw [List.append_assoc]
    exact k
theorem compD_filter {gg : GG} {gt : GT} {ge : G} (p : PyData → Bool) (f : PyData → PyData) {env : DEnv} {S : Store} {P : PQ} : ∀ {items acc : List PyData},
    (∀ x, x ∈ items → ∀ (Q : PQ) (Nn : Store → Prop), (p x = true → Q (.d (f x)) S) → (p x = false → Nn S) → gg (.d x) env S fun env' S' => gt env' S' fun b S2 => cond b (ge env' S2 Q) (Nn S2)) →
    P (.d (.list (acc ++ (items.filter p).map f))) S → compD gg gt ge items acc env S P
  | [], acc, _, k => by
    rw [List.filter_nil, List.map_nil, List.append_nil] at k
    exact k
  | x :: xs, acc, h, k => by
    refine h x (List.mem_cons_self ..) _ _ (fun hp => ?_) (fun hp => ?_)
    · show compD gg gt ge xs (acc ++ [f x]) env S P
      refine compD_filter p f (fun z hz => h z (List.mem_cons_of_mem _ hz)) ?_
      rw [List.filter_cons_of_pos hp, List.map_cons] at k
      rw [List.append_assoc]
      exact k
    · refine compD_filter p f (fun z hz => h z (List.mem_cons_of_mem _ hz)) ?_
      rw [List.filter_cons_of_neg (by rw [hp]; simp)] at k
      exact k
/-- a loop whose turns keep I, or return -/
theorem loopD_inv {gg : GG} {body : GS} (I : DEnv → Store → Prop) {D : DE} : ∀ {items : List PyData} {env : DEnv} {S : Store},
    (∀ x, x ∈ items → ∀ env S, I env S → ∀ E : DE, (∀ e s, I e s → E.nx e s) → (∀ e s, I e s → E.ct e s) → E.rt = D.rt → E.bk = D.nx → gg (.d x) env S fun env' S' => body env' S' E) → (∀ env S, I env S → D.nx env S) → I env S → loopD gg body items env S D
  | [], env, S, _, k, i => k env S i
  | x :: xs, env, S, h, k, i => by
    refine h x (List.mem_cons_self ..) env S i _ (fun e s is => ?_) (fun e s is => ?_) rfl rfl
    · exact loopD_inv I (fun z hz => h z (List.mem_cons_of_mem _ hz)) k is
    · exact loopD_inv I (fun z hz => h z (List.mem_cons_of_mem _ hz)) k is
theorem Paired.get_left {R : PyData → PyData → Prop} : ∀ {xs ys : List PyData}, Paired R xs ys → ∀ y, y ∈ ys → ∃ x, x ∈ xs ∧ R x y
  | _, _, .nil, _, h => by cases h
  | _, _, .cons a t, y, h => by
    rcases List.mem_cons.mp h with rfl | h
    · exact ⟨_, List.mem_cons_self .., a⟩
    · obtain ⟨x, h1, h2⟩ := Paired.get_left t y h
      exact ⟨x, List.mem_cons_of_mem _ h1, h2⟩
/-! texts -/
theorem str_dec {x y : Str} : decide (x = y) = decide (x.cps.toList = y.cps.toList) := by
  by_cases h : x = y
  · rw [h]; simp
  · rw [decide_eq_false h, decide_eq_false]
    intro e
    obtain ⟨a⟩ := x
    obtain ⟨b⟩ := y
    exact h (congrArg Str.mk (Array.ext' e))
theorem lt_one (a b : Nat) : decide (([a] : List Nat) < [b]) = decide (a < b) := by
  by_cases h : a < b
  · rw [decide_eq_true h]
    exact decide_eq_true (List.Lex.rel h)
  · rw [decide_eq_false h]
    refine decide_eq_false fun z => ?_
    cases z with
    | rel q => exact h q
    | cons q => cases q
theorem cond_t {A B : Prop} {c : Bool} (h : c = true) (a : A) : cond c A B := by subst h; exact a
theorem cond_f {A B : Prop} {c : Bool} (h : c = false) (b : B) : cond c A B := by subst h; exact b
theorem cond_or {A B : Prop} {c : Bool} (a : c = true → A) (b : c = false → B) : cond c A B := by
  cases c with
  | true => exact a rfl
  | false => exact b rfl
end DL
namespace DL
open PySem PySem.Spec PyProof.Rows L2
theorem pdss_never {X : Cx} {sts : List Stmt} : PDSs X sts (fun _ _ _ => False) := PSswk pss_never fun D σ H h => by
  obtain ⟨Z, As, S, env, E, rl, sl, hg, _⟩ := h
  exact hg
/-- a def that is not called -/
theorem Own.never {P : Program} {w : World} {K : PySem.W.Frag} {mg : Str → Option Value} {base : Heap} {k : Nat} {x : Str} {N ps : List Str} {st : Stmt} (D : DefAt K mg x st ps) (S : FnScope N ps (defScope st)) : Own P w K mg base (k + 1) x ps (fun _ _ _ => False) :=
  okO D S (fun _ _ _ h => h.elim) (fun _ _ _ _ _ _ _ _ _ => pdss_never) (fun _ _ _ h => h)
/-- a table of the module under its name -/
structure TabAt (K : PySem.W.Frag) (w : World) (mg : Str → Option Value) (x : Str) (T : Str → Option PyData) (d : Addr) : Prop where
  tab : KTab K w d T
  at_ : mg x = some (.ref d)
theorem ix_t {a b : AV} {S : Store} {P : PQ} {ds : List PyData} {i : Int} {d : PyData} (e1 : vw S a = some (.tuple ds)) (e2 : vw S b = some (.int i)) (e3 : atI ds i = some d) (h : P (.d d) S) : dIx a b S P := by
  unfold dIx
  rw [e1, e2]
  show (match atI ds i with | some d => P (.d d) S | none => False)
  rw [e3]
  exact h
theorem ix_l {a b : AV} {S : Store} {P : PQ} {ds : List PyData} {i : Int} {d : PyData} (e1 : vw S a = some (.list ds)) (e2 : vw S b = some (.int i)) (e3 : atI ds i = some d) (h : P (.d d) S) : dIx a b S P := by
  unfold dIx
  rw [e1, e2]
  show (match atI ds i with | some d => P (.d d) S | none => False)
  rw [e3]
  exact h
theorem ix_s {a b : AV} {S : Store} {P : PQ} {z : Str} {i : Int} {c : Nat} (e1 : vw S a = some (.str z)) (e2 : vw S b = some (.int i)) (e3 : atI z.cps.toList i = some c) (h : P (.d (.str (sgn c))) S) : dIx a b S P := by
  unfold dIx
  rw [e1, e2]
  show (match atI z.cps.toList i with | some c => P (.d (.str (sgn c))) S | none => False)
  rw [e3]
  exact h
theorem at0 {x : PyData} {xs : List PyData} : atI (x :: xs) 0 = some x := atI_nat (j := 0) rfl
theorem at1 {x y : PyData} {xs : List PyData} : atI (x :: y :: xs) 1 = some y := atI_nat (j := 1) rfl
theorem at2 {x y z : PyData} {xs : List PyData} : atI (x :: y :: z :: xs) 2 = some z := atI_nat (j := 2) rfl
theorem at3 {x y z u : PyData} {xs : List PyData} : atI (x :: y :: z :: u :: xs) 3 = some u := atI_nat (j := 3) rfl
theorem cut1 (y : PyData) (ys : List PyData) : cutD (y :: ys) (some 1) none = ys := by
  unfold cutD
  have e : HT.sIx (y :: ys).length 0 (some 1) = 1 := by
    show HT.sIx (y :: ys).length 0 (some ((1 : Nat) : Int)) = 1
    rw [HT.sIx_nat]
    show min 1 (ys.length + 1) = 1
    omega
  rw [e, HT.sIx_none]
  show (ys).take (ys.length + 1 - 1) = ys
  rw [Nat.add_sub_cancel, List.take_length]
end DL
/-! the end of a def (what it made for itself is forgotten); draws; == [] -/
namespace DL
open PySem PySem.Spec PyProof.Rows L2
/-! ### the end of a def -/
/-- what may be told at a return: as it is; data, what was made behind S forgotten; a list of one's own, as data -/
def RetD (P : PQ) (S : Store) (r : AV) (S' : Store) : Prop := P r S' ∨ (∃ x Gb, r = .d x ∧ S' = S ++ Gb ∧ P (.d x) S) ∨ ∃ k ds Gb, r = .m k ∧ S' = S ++ Gb ∧ S.length ≤ k ∧ S'[k]? = some (.lst (ds.map .d)) ∧ P (.d (.list ds)) S
section
variable {K : PySem.W.Frag} {Z As As' : List Addr} {S S' Gb : Store} {H H' : Hp}
theorem trim (r : Rl K Z As S H) (r' : Rl K Z As' (S ++ Gb) H') (po : Po Z As S H As' (S ++ Gb) H') : Po Z As S H As S H' ∧ Rl K Z As S H' ∧ Ex (lv Z As' (S ++ Gb)) H' (lv Z As S) H' := by
  obtain ⟨l, hl⟩ := po.pre
  have live : ∀ b, lv Z As S b → lv Z As' (S ++ Gb) b := fun b hb => by
    rcases hb with hb | ⟨k, o, h1, h2, h3⟩
    · exact .inl hb
    · refine .inr ⟨k, o, pre_get ⟨l, hl⟩ h1, ?_, h3⟩
      have : k < S.length := by
        rcases Nat.lt_or_ge k S.length with z | z
        · exact z
        · rw [List.getElem?_eq_none z] at h2; cases h2
      rw [List.getElem?_append_left this]
      exact h2
  have up : ∀ {k : Nat} {o : MO}, S[k]? = some o → (S ++ Gb)[k]? = some o := fun {k o} h2 => by
    have : k < S.length := by
      rcases Nat.lt_or_ge k S.length with z | z
      · exact z
      · rw [List.getElem?_eq_none z] at h2; cases h2
    rw [List.getElem?_append_left this]
    exact h2
  have ex : Ex (lv Z As' (S ++ Gb)) H' (lv Z As S) H' := fun b o e n => ⟨fun z => n (live b z), e⟩
  refine ⟨⟨fun b o e n => ?_, po.hid, [], by simp⟩, ⟨r.len, fun i j a oi oj h1 h2 h3 h4 h5 h6 => r.inj i j a oi oj h1 h2 h3 h4 h5 h6, fun k a o h1 h2 => ?_, fun b hb => ⟨(r'.hz b hb).1, (r.hz b hb).2⟩⟩, ex⟩
  · obtain ⟨n', e'⟩ := po.ext b o e n
    exact ⟨fun z => n' (live b z), e'⟩
  · have z := r'.at_ k a o (pre_get ⟨l, hl⟩ h1) (up h2)
    cases o with
    | dead => trivial
    | rng => exact z
    | lst xs =>
      obtain ⟨vs, e, q⟩ := z
      refine ⟨vs, e, ?_⟩
      -- the items: data stay data; numbers of things name the same things
      have xsOk : ∀ {ws : List V} {ys : List AV}, AVs K Z As' (S ++ Gb) H' ws ys → AVs K Z As S H ws ys ∨ True := fun _ => .inr trivial
      have z0 := r.at_ k a (.lst xs) h1 h2
      obtain ⟨vs0, e0, q0⟩ := z0
      exact back ex ⟨l, hl⟩ q0 q
where
  back {Z As As' : List Addr} {S Sg : Store} {H H' : Hp} {vs vs0 : List V} {xs : List AV} (ex : Ex (lv Z As' Sg) H' (lv Z As S) H') (pre : ∃ l, As' = As ++ l) (q0 : AVs K Z As S H vs0 xs) (q : AVs K Z As' Sg H' vs xs) : AVs K Z As S H' vs xs := by
    induction q generalizing vs0 with
    | nil => exact .nil
    | @cons v ws a as x t ih =>
      cases q0 with
      | cons x0 t0 =>
        refine .cons ?_ (ih t0)
        cases a with
        | d y => exact DV.ex ex _ _ x
        | m k =>
          obtain ⟨b, e1, e2⟩ := x
          obtain ⟨b0, _, e3⟩ := x0
          have e4 := pre_get pre e3
          rw [e4] at e2
          cases e2
          exact ⟨_, e1, e3⟩
        | v y => exact x
theorem Kon.ret {P : PQ} {Q : VK} (k : Kon K Z As S H P Q) (rl : Rl K Z As S H) : Kon K Z As S H (RetD P S) Q := fun r S2 As2 v H2 h po rl2 av => by
  rcases h with h | ⟨x, Gb, rfl, rfl, h⟩ | ⟨j, ds, Gb, rfl, rfl, hj, hS, h⟩
  · exact k r S2 As2 v H2 h po rl2 av
  · obtain ⟨po', rl', ex⟩ := trim rl rl2 po
    exact k (.d x) S As v H2 h po' rl' (DV.ex ex _ _ av)
  · obtain ⟨po3, rl3, hf⟩ := freeze rl2 hS
    have dv : AVr K Z As2 ((S ++ Gb).set j .dead) H2 v (.d (.list ds)) := hf v av
    have e : (S ++ Gb).set j .dead = S ++ Gb.set (j - S.length) .dead := by rw [List.set_append_right _ _ hj]
    rw [e] at po3 rl3 dv
    obtain ⟨po', rl', ex⟩ := trim rl rl3 (po.trans po3)
    exact k (.d (.list ds)) S As v H2 h po' rl' (DV.ex ex _ _ dv)
end
section
variable {P : Program} {w : World} {K : PySem.W.Frag} {mg : Str → Option Value} {base : Heap} {k : Nat} {x : Str} {N ps : List Str} {W : WD}
/-- a def that may leave things of its own behind -/
theorem okR {st : Stmt} {g : GS} (D : DefAt K mg x st ps) (S : FnScope N ps (defScope st)) (hlen : ∀ as S P, W as S P → as.length = ps.length)
    (hb : ∀ (f : Addr) (cdv : Value) (A : Around) (outer : List Env) (s : Shared) (H : Hp) (E : XK), A.guards = some [] → Room k (A.deeper (envOfC x (defScope st) s.heap.objs.size f cdv)) →
      PDSs (cxOf CX0 P w K mg base N x (defScope st) f cdv A outer s H E).nox (defBody st) g)
    (hw : ∀ args S P, W args S P → g (args.map some ++ List.replicate (N.length - ps.length) none) S ⟨fun _ S' => RetD P S (.d .none) S', RetD P S, fun _ _ => False, fun _ _ => False⟩) : Own P w K mg base (k + 1) x ps W := by
  obtain ⟨f, fd, F, h1, h2, h3, h4⟩ := D.ex
  refine ⟨f, fd, F.okG S (fun vs H Q E h => ?_) (fun cdv A outer s H vs Q E hgd hr h => ?_), h1, h2, h3, h4⟩
  · obtain ⟨Z, As, S, args, P, rl, av, hW, _⟩ := h
    rw [av.length]
    exact hlen _ _ _ hW
  · obtain ⟨Z, As, S1, args, P1, rl, av, hW, hk⟩ := h
    have hl : vs.length = ps.length := by rw [av.length]; exact hlen _ _ _ hW
    have hk' := hk.ret rl
    refine ⟨_, hb f cdv A outer s H E hgd hr, Z, As, S1, _, _, rl, ?_, hw args S1 P1 hW, ?_, hk', ?_, ?_⟩
    · show Sl K Z As S1 H (vs.map some ++ List.replicate (N.length - vs.length) none) _
      rw [hl]
      exact Sl.start _ av
    · exact fun env' S' As' σ' H' h' po rl' sl' => hk' (.d .none) S' As' .non H' h' po rl' .non
    · exact fun _ _ _ _ _ z => z.elim
    · exact fun _ _ _ _ _ z => z.elim
end
/-! ### draws -/
def But (a : Addr) (H H' : Hp) : Prop := ∀ b o, b ≠ a → H b = some o → H' b = some o
def Rng (H : Hp) (a : Addr) : Prop := ∃ x y : Int, H a = some (.lst [.int x, .int y]) ∧ 0 ≤ y ∧ y ≤ 2147483629
def spRng (K : PySem.W.Frag) : Sp := fun vs H Q _ => ∃ (a : Addr) (ns : List Int) (k : Nat), vs = [.ref a, .int (k : Int)] ∧ SqL K H a (ns.map V.int) ∧ k ≤ 100 ∧ ∀ (p : Addr) (H' : Hp), H p = none → Same H H' → Rng H' p → Q (.ref p) H'
def spDraw : Sp := fun vs H Q _ => ∃ (a : Addr) (n : Int), vs = [.ref a, .int n] ∧ Rng H a ∧ 0 < n ∧ n < 10 ^ 28 ∧ ∀ (d : Int) (H' : Hp), 0 ≤ d → d < n → But a H H' → Rng H' a → Q (.int d) H'
theorem wide_n {n : Int} (h0 : 0 < n) (h : n < 10 ^ 28) : n.natAbs.log2 < 9000 := by
  refine Nat.lt_of_lt_of_le (PySem.Flt.log2_lt_of (k := 100) (by decide) ?_) (by decide)
  have z : (10 : Int) ^ 28 ≤ 2 ^ 100 := by decide
  omega
/-- _law_draw(rng, n) -/
def WDraw : WD := fun as S P => ∃ (r : Nat) (n : Int), as = [.m r, .d (.int n)] ∧ S[r]? = some .rng ∧ (0 < n ∧ n < 10 ^ 28) ∧ ∀ d : Int, 0 ≤ d → d < n → P (.d (.int d)) S
theorem WDraw.len {as : List AV} {S : Store} {P : PQ} (h : WDraw as S P) : as.length = 2 := by obtain ⟨_, _, rfl, _⟩ := h; rfl
section
variable {K : PySem.W.Frag} {Z As : List Addr} {S : Store} {H H' : Hp} {a : Addr} {r : Nat}
theorem but_state (rl : Rl K Z As S H) (hA : As[r]? = some a) (hS : S[r]? = some .rng) (b : But a H H') (hr : Rng H' a) : Po Z As S H As S H' ∧ Rl K Z As S H' := by
  have la : lv Z As S a := .inr ⟨r, .rng, hA, hS, by simp⟩
  have nz : a ∉ Z := fun z => by
    have := (rl.hz a z).2 r .rng hA hS
    cases this
  have po : Po Z As S H As S H' := by
    refine ⟨fun c o e n => ⟨n, b c o (fun z => n (by rw [z]; exact la)) e⟩, fun c hc => ?_, [], by simp⟩
    have hn := (rl.hz c hc).1
    cases e : H c with
    | none => exact absurd e hn
    | some o => exact b c o (fun z => nz (by rw [← z]; exact hc)) e
  refine ⟨po, ⟨rl.len, rl.inj, fun k c o h1 h2 => ?_, fun c hc => ⟨by rw [po.hid c hc]; exact (rl.hz c hc).1, (rl.hz c hc).2⟩⟩⟩
  by_cases hk : k = r
  · subst hk
    rw [hA] at h1
    rw [hS] at h2
    cases h1
    cases h2
    exact hr
  · by_cases hd : o = .dead
    · subst hd; trivial
    · have hc : H' c = H c := by
        have hne : c ≠ a := fun z => hk (rl.inj k r c o .rng h1 (by rw [z]; exact hA) h2 hS hd (by simp))
        cases e : H c with
        | none => exact absurd e (rl.live (.inr ⟨k, o, h1, h2, hd⟩))
        | some u => exact b c u hne e
      exact MOr.ex po.ext po.pre hc (rl.at_ k c o h1 h2)
theorem draw_of {P : Program} {w : World} {mg : Str → Option Value} {base : Heap} {k : Nat} {f : Addr} {fd : FuncData} (F : FnOk P w K mg base CX0 k f fd ["_law_rng_here", "_law_many"] spDraw) : FnD P w K mg base k f fd ["_law_rng_here", "_law_many"] WDraw := by
  have conv : ∀ vs H Q E, spW K WDraw vs H Q E → spDraw vs H Q E := fun vs H Q E h => by
    obtain ⟨Z, As, S, args, P, rl, av, ⟨r, n, rfl, hS, ⟨n0, n1⟩, hP⟩, hk⟩ := h
    cases av with
    | cons a1 t =>
      cases t with
      | cons a2 t =>
        cases t
        obtain ⟨a, rfl, hA⟩ := a1
        cases a2
        have z : MOr K Z As S H a .rng := rl.at_ r a .rng hA hS
        refine ⟨a, n, rfl, z, n0, n1, fun d H' d0 d1 b R => ?_⟩
        obtain ⟨po, rl'⟩ := but_state rl hA hS b R
        exact hk (.d (.int d)) S As (.int d) H' (hP d d0 d1) po rl' (.int d)
  exact ⟨fun vs H Q E h => F.len vs H Q E (conv _ _ _ _ h), fun A hg hr outer s H args us vs Q E e0 hb r h => F.run A outer s H args us vs Q E hr e0 hb r (conv _ _ _ _ h)⟩
end
/-- _law_rng(script, k): a new thing to draw from -/
def WRng : WD := fun as S P => ∃ (ns : List Int) (k : Nat), as = [.d (.list (ns.map .int)), .d (.int (k : Int))] ∧ k ≤ 100 ∧ P (.m S.length) (S ++ [.rng])
theorem WRng.len {as : List AV} {S : Store} {P : PQ} (h : WRng as S P) : as.length = 2 := by obtain ⟨_, _, rfl, _⟩ := h; rfl
/-- _law_choice(rng, a list) -/
def WChoice : WD := fun as S P => ∃ (r : Nat) (b : AV) (ds : List PyData), as = [.m r, b] ∧ S[r]? = some .rng ∧ vw S b = some (.list ds) ∧ (0 < ds.length ∧ ds.length ≤ 1000) ∧ ∀ y, y ∈ ds → P (.d y) S
theorem WChoice.len {as : List AV} {S : Store} {P : PQ} (h : WChoice as S P) : as.length = 2 := by obtain ⟨_, _, _, rfl, _⟩ := h; rfl
/-! ### == [] -/
def rEqNil (neg : Bool) : R2 := fun x y H Q => ∃ (a b : Addr) (xs : List V), x = .ref a ∧ y = .ref b ∧ H a = some (.lst xs) ∧ H b = some (.lst []) ∧ Q (.bl (cond neg (!xs.isEmpty) xs.isEmpty)) H
theorem op_eqNil {X : Cx} (hu : X.A.units < cLine) : OpR X (compareOp .Eq) (rEqNil false) := by
  intro pins s σ H x y v u Q I rx ry h
  obtain ⟨a, b, xs, rfl, rfl, ha, hb, q⟩ := h
  obtain rfl : v = .ref a := rx
  obtain rfl : u = .ref b := ry
  obtain ⟨us, r1, p1, _⟩ := I.list (show SqL X.K H a xs from .inl (.inl ha))
  obtain ⟨ws, r2, p2, _⟩ := I.list (show SqL X.K H b [] from .inl (.inl hb))
  cases r2
  cases xs with
  | nil =>
    cases r1
    exact SeqAt.eq_listAt (e := fun _ => true) p1.isList p2.isList rfl hu (fun j h1 _ => absurd h1 (by simp)) ⟨.bl true, H, I, rfl, q⟩
  | cons z zs =>
    cases r1
    exact SeqAt.eq_list_lengthsAt p1.isList p2.isList (by simp) hu ⟨.bl false, H, I, rfl, q⟩
theorem op_neNil {X : Cx} (hu : X.A.units < cLine) : OpR X (compareOp .NotEq) (rEqNil true) := by
  intro pins s σ H x y v u Q I rx ry h
  obtain ⟨a, b, xs, rfl, rfl, ha, hb, q⟩ := h
  obtain rfl : v = .ref a := rx
  obtain rfl : u = .ref b := ry
  obtain ⟨us, r1, p1, _⟩ := I.list (show SqL X.K H a xs from .inl (.inl ha))
  obtain ⟨ws, r2, p2, _⟩ := I.list (show SqL X.K H b [] from .inl (.inl hb))
  cases r2
  cases xs with
  | nil =>
    cases r1
    exact SeqAt.RcNeAt.lists (e := fun _ => true) p1.isList p2.isList rfl hu (fun j h1 _ => absurd h1 (by simp)) X.prog X.w _ _ ⟨.bl false, H, I, rfl, q⟩
  | cons z zs =>
    cases r1
    exact SeqAt.RcNeAt.lists_lengths p1.isList p2.isList (by simp) hu X.prog X.w _ _ ⟨.bl true, H, I, rfl, q⟩
def dEqNil (neg : Bool) : AV → AV → Store → PQ → Prop := fun a b S P => match vw S a with
  | some (.list ds) => vw S b = some (.list []) ∧ P (.d (.bool (cond neg (!ds.isEmpty) ds.isEmpty))) S
  | _ => False
theorem vr_eqNil {K : PySem.W.Frag} (neg : Bool) : VR2 K (rEqNil neg) (dEqNil neg) := by
  intro Z As S H x y a b P Q rl ax ay h k
  unfold dEqNil at h
  split at h
  · rename_i ds e1
    obtain ⟨p, vs, rfl, hp, t1⟩ := vw_list rl ax e1
    obtain ⟨q, ws, rfl, hq, t2⟩ := vw_list rl ay h.1
    cases t2
    refine ⟨p, q, vs, rfl, rfl, hp, hq, ?_⟩
    have e : vs.isEmpty = ds.isEmpty := by cases t1 <;> rfl
    rw [e]
    exact k.d rl (fun _ => .bl _) h.2
  · exact h.elim
section
variable {X : Cx} {a b : Expr} {g1 g2 : G} {pos : Pos} {k : Nat}
theorem pd_eqNil (hr : Room k X.A) (h1 : PD X a g1) (h2 : PD X b g2) : PD X (.Compare a [.Eq] [b] pos) (gBin (dEqNil false) g1 g2) := pd_cmp (op_eqNil (by have := room_eq hr; omega)) (vr_eqNil false) h1 h2 (nobehind _ (by decide) (by decide))
theorem pdt_eqNil (hr : Room k X.A) (h1 : PD X a g1) (h2 : PD X b g2) : PDT X (.Compare a [.Eq] [b] pos) (gTest (gBin (dEqNil false) g1 g2)) := pdt_cmp (op_eqNil (by have := room_eq hr; omega)) (vr_eqNil false) h1 h2 (nobehind _ (by decide) (by decide))
theorem pd_neNil (hr : Room k X.A) (h1 : PD X a g1) (h2 : PD X b g2) : PD X (.Compare a [.NotEq] [b] pos) (gBin (dEqNil true) g1 g2) := pd_cmp (op_neNil (by have := room_eq hr; omega)) (vr_eqNil true) h1 h2 (nobehind _ (by decide) (by decide))
theorem pdt_neNil (hr : Room k X.A) (h1 : PD X a g1) (h2 : PD X b g2) : PDT X (.Compare a [.NotEq] [b] pos) (gTest (gBin (dEqNil true) g1 g2)) := pdt_cmp (op_neNil (by have := room_eq hr; omega)) (vr_eqNil true) h1 h2 (nobehind _ (by decide) (by decide))
theorem pd_dct0 : PD X (.Dict [] [] pos) (gC (.dict [])) := PEwk pe_dnewK fun σ H Q h => by
  obtain ⟨Z, As, S, env, P, rl, sl, hg, hQ⟩ := h
  exact fun d hd => hQ.dct rl hd hg
/-- a list of one's own from two -/
def dAddM : AV → AV → Store → PQ → Prop := fun a b S P => match vw S a, vw S b with
  | some (.list xs), some (.list ys) => xs.length + ys.length ≤ sizeLine ∧ P (.m S.length) (S ++ [.lst ((xs ++ ys).map .d)])
  | _, _ => False
theorem vr_addM {K : PySem.W.Frag} : VR2 K rCat dAddM := by
  intro Z As S H x y a b P Q rl ax ay h k
  unfold dAddM at h
  split at h
  · rename_i xs ys e1 e2
    obtain ⟨p, vs, rfl, hp, t1⟩ := vw_list rl ax e1
    obtain ⟨q, ws, rfl, hq, t2⟩ := vw_list rl ay e2
    exact ⟨p, q, vs, ws, rfl, rfl, hp, hq, by rw [t1.length, t2.length]; exact h.1, fun r nr => k.lstM rl nr (AVs.of_d (t1.append t2)) h.2⟩
  · exact h.elim
theorem pd_addM (h1 : PD X a g1) (h2 : PD X b g2) : PD X (.BinOp a .Add b pos) (gBin dAddM g1 g2) := pd_op op_cat vr_addM h1 h2
end
end DL
/-! written texts of numbers, split, partition, find, str, int; a slot that holds a def; == () -/
namespace DL
open PySem PySem.Spec PyProof.Rows L2
/-! ### numbers as texts -/
def numT (i : Int) : Str := Str.ofString (toString i)
theorem log_small {i : Int} (h : i.natAbs < 10 ^ 570) : i.natAbs.log2 < 1920 := log2_small (Nat.lt_trans h (by decide +kernel))
theorem numT_len {i : Int} (h : i.natAbs < 10 ^ 570) : (numT i).length ≤ 600 := by
  have z := int_text_length_le10 (k := 570) (by decide) h
  unfold numT
  rw [PySem.ofString_length]
  omega
theorem numT_line {i : Int} (h : i.natAbs < 10 ^ 570) : (numT i).length ≤ sizeLine := by
  have := numT_len h
  rw [sizeLine_eq]
  omega
def gFmt (g : G) : G := fun env S P => g env S fun a S1 => match a with
  | .d (.str y) => P (.d (.str y)) S1
  | .d (.int i) => i.natAbs < 10 ^ 570 ∧ P (.d (.str (numT i))) S1
  | _ => False
def gJs : List G → Str → DEnv → Store → (Str → Store → Prop) → Prop
  | [], acc => fun _ S P => P acc S
  | g :: gs, acc => fun env S P => g env S fun a S1 => match a with
    | .d (.str y) => (acc ++ y).length ≤ sizeLine ∧ gJs gs (acc ++ y) env S1 P
    | _ => False
def gJoined (gs : List G) : G := fun env S P => gJs gs Str.empty env S fun out S' => P (.d (.str out)) S'
theorem js_wk {K : PySem.W.Frag} {Z : List Addr} {env : DEnv} {σ : L2.St} {P : Str → Store → Prop} {Q : Str → Hp → Prop} : ∀ (gs : List G) (acc : Str) {As : List Addr} {S : Store} {H : Hp}, acc.length ≤ sizeLine → Rl K Z As S H → Sl K Z As S H σ env → gJs gs acc env S P →
    (∀ out S' As' H', out.length ≤ sizeLine → P out S' → Po Z As S H As' S' H' → Rl K Z As' S' H' → Q out H') → tJs (gs.map (tD K)) acc σ H Q
  | [], acc, As, S, H, ha, rl, sl, h, k => k acc S As H ha h Po.refl rl
  | g :: gs, acc, As, S, H, ha, rl, sl, h, k => by
    refine ⟨Z, As, S, env, _, rl, sl, h, fun a S1 As1 x H1 h1 po1 rl1 av1 => ?_⟩
    match a, h1, av1 with
    | .d (.str y), h1, av1 =>
      cases av1
      refine ⟨y, rfl, h1.1, js_wk gs (acc ++ y) h1.1 rl1 (sl.po po1) h1.2 fun out S' As' H' hl p po r => k out S' As' H' hl p (po1.trans po) r⟩
section
variable {X : Cx} {a b e : Expr} {es : List Expr} {g g1 g2 : G} {ga : GA} {pos p : Pos}
theorem pd_fmt (h : PD X e g) : PD X (.FormattedValue e (-1) none pos) (gFmt g) := PEwk (pe_fmt h) fun σ H Q h => by
  obtain ⟨Z, As, S, env, P, rl, sl, hg, hQ⟩ := h
  refine ⟨Z, As, S, env, _, rl, sl, hg, fun a S1 As1 x H1 h1 po1 rl1 av1 => ?_⟩
  match a, h1, av1 with
  | .d (.str y), h1, av1 =>
    cases av1 with
    | str _ hz => exact .inl ⟨y, rfl, hz, hQ (.d (.str y)) S1 As1 _ H1 h1 po1 rl1 (.str y hz)⟩
  | .d (.int i), h1, av1 =>
    cases av1
    exact .inr ⟨i, rfl, log_small h1.1, hQ (.d (.str (numT i))) S1 As1 _ H1 h1.2 po1 rl1 (.str _ (numT_line h1.1))⟩
abbrev PDJ (X : Cx) (es : List Expr) (gs : List G) : Prop := PJ X es (gs.map (tD X.K))
theorem pdj_nil : PDJ X [] [] := .nil
theorem pdj_cons {gs : List G} (h : PD X e g) (t : PDJ X es gs) : PDJ X (e :: es) (g :: gs) := .cons h t
theorem pd_joined {gs : List G} (h : PDJ X (a :: b :: es) gs) : PD X (.JoinedStr (a :: b :: es) pos) (gJoined gs) := PEwk (pe_joined h) fun σ H Q h => by
  obtain ⟨Z, As, S, env, P, rl, sl, hg, hQ⟩ := h
  exact js_wk gs Str.empty (Nat.zero_le _) rl sl hg fun out S' As' H' hl p po r => hQ (.d (.str out)) S' As' _ H' p po r (.str out hl)
end
/-! ### str(n), int(text) -/
section
variable {K : PySem.W.Frag}
def dStrOf : List AV → Store → PQ → Prop := fun as S P => match as with
  | [.d (.int i)] => i.natAbs < 10 ^ 570 ∧ P (.d (.str (numT i))) S
  | _ => False
theorem vr_strOf : VRn K (fun xs H Q => ∃ i : Int, xs = [.int i] ∧ i.natAbs.log2 < 1920 ∧ Q (.str (toString i)) H) dStrOf := by
  intro Z As S H xs as P Q rl av h k
  unfold dStrOf at h
  split at h
  · rename_i i
    cases av with
    | cons a1 t =>
      cases t
      cases a1
      exact ⟨i, rfl, log_small h.1, k.d rl (fun _ => .str _ (numT_line h.1)) h.2⟩
  · exact h.elim
def dIntOf : List AV → Store → PQ → Prop := fun as S P => match as with
  | [.d (.str x)] => x.length ≤ 640 ∧ ∃ n, PySem.intText? x = some n ∧ P (.d (.int n)) S
  | _ => False
theorem vr_intOf : VRn K (fun xs H Q => ∃ a n, xs = [.str a] ∧ PySem.intText? a = some n ∧ a.length ≤ 640 ∧ Q (.int n) H) dIntOf := by
  intro Z As S H xs as P Q rl av h k
  unfold dIntOf at h
  split at h
  · rename_i x
    cases av with
    | cons a1 t =>
      cases t
      cases a1
      obtain ⟨h1, n, h2, h3⟩ := h
      exact ⟨x, n, rfl, h2, h1, k.d rl (fun _ => .int _) h3⟩
  · exact h.elim
/-! ### find, split, partition -/
def dFind : AV → List AV → Store → PQ → Prop := fun a as S P => match a, as with
  | .d (.str x), [.d (.str y)] => P (.d (.int (Txt.find x y))) S
  | _, _ => False
theorem vr_find : VRm K (fun x xs H Q => ∃ a b, x = V.str a ∧ xs = [V.str b] ∧ Q (V.int (Txt.find a b)) H) dFind := by
  intro Z As S H x xs a as P Q rl av avs h k
  unfold dFind at h
  split at h
  · rename_i s z
    cases avs with
    | cons b1 t =>
      cases t
      cases av
      cases b1
      exact ⟨s, z, rfl, rfl, k.d rl (fun _ => .int _) h⟩
  · exact h.elim
theorem sum_ge : ∀ {l : List Nat} {n : Nat}, n ∈ l → n ≤ l.sum
  | m :: l, n, h => by
    rw [List.sum_cons]
    rcases List.mem_cons.mp h with rfl | h
    · omega
    · have := sum_ge h
      omega
theorem part_len {x y z : Str} (hy : 1 ≤ y.length) (h : z ∈ Txt.split x y) : z.length ≤ x.length := by
  have w := split_weight x y hy
  have a := sum_ge (List.mem_map.mpr ⟨z, h, rfl⟩ : z.length ∈ (Txt.split x y).map (·.length))
  have b : 1 ≤ (Txt.split x y).length := List.length_pos_of_mem h
  omega
theorem dvs_of_strs {L : Addr → Prop} {H : Hp} : ∀ {xs : List Str}, (∀ x, x ∈ xs → x.length ≤ sizeLine) → DVs K L H (xs.map V.str) (xs.map .str)
  | [], _ => .nil
  | x :: xs, h => .cons (.str x (h x (List.mem_cons_self ..))) (dvs_of_strs fun z hz => h z (List.mem_cons_of_mem _ hz))
def dSplit : AV → List AV → Store → PQ → Prop := fun a as S P => match a, as with
  | .d (.str x), [.d (.str y)] => (1 ≤ y.length ∧ x.length ≤ 100000) ∧ P (.d (.list ((Txt.split x y).map .str))) S
  | _, _ => False
theorem vr_split : VRm K (fun x xs H Q => ∃ a b, x = V.str a ∧ xs = [V.str b] ∧ (b.length == 0) = false ∧ a.length + 2 ≤ sizeLine ∧ rNewStrs (Txt.split a b) H Q) dSplit := by
  intro Z As S H x xs a as P Q rl av avs h k
  unfold dSplit at h
  split at h
  · rename_i s z
    cases avs with
    | cons b1 t =>
      cases t
      cases av
      cases b1
      obtain ⟨⟨h1, h2⟩, h3⟩ := h
      refine ⟨s, z, rfl, rfl, beq_eq_false_iff_ne.mpr (by omega), by rw [sizeLine_eq]; omega, fun p np => k.lst rl np (dvs_of_strs fun u hu => ?_) h3⟩
      have := part_len h1 hu
      rw [sizeLine_eq]
      omega
  · exact h.elim
theorem part_lens (x y : Str) : (Txt.partition x y).1.length ≤ x.length ∧ (Txt.partition x y).2.1.length ≤ x.length ∧ (Txt.partition x y).2.2.length ≤ x.length := by
  have z := congrArg Str.length (StrLaws.partition_sum x y)
  rw [Str.length_append, Str.length_append] at z
  omega
def dPart : AV → List AV → Store → PQ → Prop := fun a as S P => match a, as with
  | .d (.str x), [.d (.str y)] => (1 ≤ y.length ∧ x.length ≤ 100000) ∧ P (.d (.tuple [.str (Txt.partition x y).1, .str (Txt.partition x y).2.1, .str (Txt.partition x y).2.2])) S
  | _, _ => False
theorem vr_part : VRm K (fun x xs H Q => ∃ a b, x = V.str a ∧ xs = [V.str b] ∧ (b.length == 0) = false ∧ a.length ≤ sizeLine ∧ ∀ p, H p = none → Q (.ref p) (upd H p (.tup [.str (Txt.partition a b).1, .str (Txt.partition a b).2.1, .str (Txt.partition a b).2.2]))) dPart := by
  intro Z As S H x xs a as P Q rl av avs h k
  unfold dPart at h
  split at h
  · rename_i s z
    cases avs with
    | cons b1 t =>
      cases t
      cases av
      cases b1
      obtain ⟨⟨h1, h2⟩, h3⟩ := h
      have hl := part_lens s z
      have ln : ∀ {n : Nat}, n ≤ s.length → n ≤ sizeLine := fun hn => by rw [sizeLine_eq]; omega
      refine ⟨s, z, rfl, rfl, beq_eq_false_iff_ne.mpr (by omega), ln (Nat.le_refl _), fun p np => k.tup rl np ?_ h3⟩
      exact .cons (.str _ (ln hl.1)) (.cons (.str _ (ln hl.2.1)) (.cons (.str _ (ln hl.2.2)) .nil))
  · exact h.elim
end
/-! ### a slot that holds a def -/
section
variable {X : Cx} {k i : Nat} {x : Str} {p pos : Pos} {e : Expr} {es : List Expr} {ga : GA}
def gCallA (i : Nat) (T : Addr → Option WD) (ga : GA) : G := fun env S P => ∃ f W, env[i]? = some (some (.v (.ref f))) ∧ T f = some W ∧ ga env S fun as S1 => W as S1 P
structure HeldD (P : Program) (w : World) (K : PySem.W.Frag) (mg : Str → Option Value) (base : Heap) (k : Nat) (f : Addr) (W : WD) : Prop where
  ex : ∃ (fd : FuncData) (ps : List Str), FnD P w K mg base k f fd ps W ∧ PySem.W.keepIn K (.ref f) = true ∧ Binds K fd ps []
theorem pd_callA {T : Addr → Option WD} (A : ∀ f W, T f = some W → HeldD X.prog X.w X.K X.mg X.base k f W) (hgd : X.A.guards = some []) (hr : Room k X.A) (hN : X.N[i]? = some x) (ha : PDA X (e :: es) ga)
    (hv : Vis X.env.scope x := by first | exact Or.inl rfl | exact Or.inr (Or.inl rfl) | exact Or.inr (Or.inr rfl)) (hdb : (x == ("__debug__" : Str)) = false := by decide) (hcd : (x == ("__classdict__" : Str)) = false := by decide)
    (he : starEach (e :: es) X.env = (false, eval e X.env) :: starEach es X.env := by rfl) (hpl : (backTo pos (starEach es X.env)).any (·.1) = false := by rfl) : PD X (.Call (.Name x p) (e :: es) [] pos) (gCallA i T ga) := by
  refine ⟨fun pins s σ H Q I h => ?_⟩
  obtain ⟨Z, As, S, env, P, rl, sl, ⟨f, W, he1, hT, hga⟩, hQ⟩ := h
  obtain ⟨fd, ps, F, hk, hb⟩ := (A f W hT).ex
  obtain ⟨v0, hs, hv0⟩ := sl.get he1
  have hv0 : v0 = .ref f := hv0
  subst hv0
  refine wpAny_Call_Name_kw (thn ((pe_var (pos := p) hN hv hdb hcd).run pins s σ H (fun v H1 => v = .ref f ∧ H1 = H) I ⟨.ref f, hs, rfl, rfl⟩) fun u s1 hh => ?_)
  obtain ⟨v, H1, I1, r1, e1, e2⟩ := hh
  subst e1
  subst e2
  cases r1
  refine PySem.W.callWith_K (h₀ := X.base) I.ok.mod.kin hk (thn (ha.run pos pins s1 σ _ (fun vs H2 => spW X.K W vs H2 Q E0) I1 ⟨Z, As, S, env, _, rl, sl, hga, fun as S1 As1 xs H1 h1 po1 rl1 av1 => ⟨Z, As1, S1, as, P, rl1, av1, h1, hQ.later po1⟩⟩) fun us s2 hh => ?_) he hpl
  obtain ⟨vs, H2, I2, r, q⟩ := hh
  refine ⟨I2.kIn, ?_⟩
  have hl : us.length = ps.length := by rw [← r.length]; exact F.len _ _ _ _ q
  have b := hb s2 us I2.kIn (by rw [List.append_nil]; exact hl)
  rw [List.append_nil] at b
  refine wpAny_call (codeAny_mono (F.run X.A hgd hr X.stack s2 H2 ⟨us, []⟩ us vs Q E0 I2.env0 b r q) fun r s' z => ?_)
  match r, z with
  | .ok (.ret u), z => exact I2.after z
  | .ok .next, z => exact z.elim
  | .ok .brk, z => exact z.elim
  | .ok .cont, z => exact z.elim
  | .error _, z => exact z.elim
end

end DL
/-! raise X(e, ..) for an own error of any base with fields; behind `except X as n`: n.f, isinstance(n, Y) -/
namespace L2
open PySem PySem.Spec PyProof.Rows
/-- an __init__ that stores fs: what it leaves, with the error's own dict told -/
def spIniX (C : Addr) (fs : List Str) : Sp := fun vs H Q _ => ∃ (a : Addr) (ys : List V), vs = .ref a :: ys ∧ ys.length = fs.length ∧ H a = some (exo a C none) ∧
  ∀ (d : Addr) (l : List (Str × V)) (H2 : Hp), H d = none → d ≠ a → (∀ b o, b ≠ a → H b = some o → H2 b = some o) → H2 a = some (exo a C (some d)) → H2 d = some (exd d l) → (∀ f v, (fs.zip ys).lookup f = some v → l.lookup f = some v) → Q .non H2
/-- raise C(e, ..): the wish asked of the error's class, its dict, the heap -/
def tMkX (C : Addr) (fs : List Str) (ta : TA) : L2.St → Hp → XK → Prop := fun σ H E => ta σ H fun zs H1 => zs.length = fs.length ∧
  ∀ (d : Addr) (l : List (Str × V)) (H2 : Hp), H1 d = none → Same H1 H2 → H2 d = some (.xd l) → (∀ f v, (fs.zip zs).lookup f = some v → l.lookup f = some v) → E (.ref C) (some d) H2
structure RaCls (P : Program) (w : World) (K : PySem.W.Frag) (mg : Str → Option Value) (base : Heap) (x : Str) (C : Addr) (fs : List Str) : Prop where
  T : OexG K C
  gC : mg x = some (.ref C)
  tyC : PySem.W.typeIn K (.ref C) = some (.type "type")
  ini : ∃ (fI : Addr) (fd : FuncData), PySem.W.findIn K (.ref C) "__init__" = some (some (.ref fI)) ∧ PySem.W.typeIn K (.ref fI) = some (.type "function") ∧ FnOk P w K mg base CX0 1 fI fd (("self" : Str) :: fs) (spIniX C fs) ∧
    (∀ (s : Shared) (us : List Value), us.length = fs.length + 1 → BindsTo s fd ⟨us, []⟩ ((("self" : Str) :: fs).zip us))
theorem pmk_X {X : Cx} {x : Str} {C : Addr} {fs : List Str} {e : Expr} {es : List Expr} {ta : TA} {p pos : Pos} (G : RaCls X.prog X.w X.K X.mg X.base x C fs) (h5 : fs.length ≤ 5) (hr : Room 2 X.A) (hg : Gl X x) (ha : PA X (e :: es) ta)
    (hdb : (x == ("__debug__" : Str)) = false := by decide) (he : starEach (e :: es) X.env = (false, eval e X.env) :: starEach es X.env := by rfl) (hpl : (backTo pos (starEach es X.env)).any (·.1) = false := by rfl) :
    PMk X (.Call (.Name x p) (e :: es) [] pos) (tMkX C fs ta) := by
  intro pins s σ H Q I h
  obtain ⟨T, gC, tyC, fI, fd, iC, tI, F1, b1⟩ := G
  obtain ⟨B, newId, initId, bmB, FB, SB, ei, eo⟩ := T.cls
  refine wpAny_Call_Name_kw (ld_glob I hg gC (PySem.W.callWith_K (h₀ := X.base) I.ok.mod.kin T.kC (thn (ha.run pos pins s σ H _ I h) fun us s1 hh => ?_) he hpl) hdb)
  obtain ⟨zs, H1, I1, r1, hl, q1⟩ := hh
  refine ⟨I1.kIn, ?_⟩
  show wpAny _ _ (call (.ref C) us) _ _ _
  have hlu : us.length = fs.length := r1.length.symm.trans hl
  obtain ⟨nm, N, q, bs', bm, hdct, sn, sub, ab, col, dd, k0, k1, k2, k3, k5, hC, hbm⟩ := PySem.W.excInit_of I1.kIn ei
  obtain ⟨hp, g, dr, tk, os⟩ := s1
  have hn : H1 (hp.objs.size + 1) = none := I1.hok.fresh (Nat.le_succ _)
  have kk : ∀ b o, hp.get? b = some o → ((hp.push (PySem.W.kdv_tup us)).push (PySem.HandSPX.excO C hp.objs.size)).get? b = some o := fun b o z => Heap.get?_push_of_some _ (Heap.get?_push_of_some _ z)
  have at1 : ((hp.push (PySem.W.kdv_tup us)).push (PySem.HandSPX.excO C hp.objs.size)).get? (hp.objs.size + 1) = some (PySem.HandSPX.excO C hp.objs.size) := by heap_get
  have I2 := I1.laid (t' := tk) (a := hp.objs.size + 1) (o := exo (hp.objs.size + 1) C none) (h' := (hp.push (PySem.W.kdv_tup us)).push (PySem.HandSPX.excO C hp.objs.size)) kk (Nat.le_succ _) (exo_ok at1)
  have hq : spIniX C fs (.ref (hp.objs.size + 1) :: zs) (upd H1 (hp.objs.size + 1) (exo (hp.objs.size + 1) C none))
      (fun v H2 => v = .non ∧ ∃ (d : Addr) (l : List (Str × V)), H2 (hp.objs.size + 1) = some (exo (hp.objs.size + 1) C (some d)) ∧ H2 d = some (exd d l) ∧ H1 d = none ∧ Q (.ref C) (some d) (upd (del H2 (hp.objs.size + 1)) d (.xd l))) (fun _ _ _ => False) := by
    refine ⟨_, zs, rfl, hl, upd_same, fun d l H2 n1 n2 k e1 e2 lk => ⟨rfl, d, l, e1, e2, ?_, ?_⟩⟩
    · rw [upd_ne n2] at n1
      exact n1
    · have n3 : H1 d = none := by
        rw [upd_ne n2] at n1
        exact n1
      refine q1 d l _ n3 (fun b o z => ?_) upd_same lk
      have m1 := ne_of_none z hn
      rw [upd_ne (ne_of_none z n3), del_ne m1]
      exact k b o m1 (by rw [upd_ne m1]; exact z)
  refine wpAny_call (PySem.OEG.call_kw (kw := []) FB hbm hC (PySem.W.looks_findIn I1.kIn iC) (fun self => PySem.W.bind_fn I1.kIn self tI) (small_line hlu h5)
    (codeAny_mono (F1.run _ X.stack _ _ ⟨Value.ref (hp.objs.size + 1) :: us, []⟩ (Value.ref (hp.objs.size + 1) :: us) _ _ (fun _ _ _ => False) (hr.make C us []) (I2.env0.make C us []) (b1 _ _ (congrArg Nat.succ hlu)) (show Vals (V.ref (hp.objs.size + 1) :: zs) (Value.ref (hp.objs.size + 1) :: us) from .cons rfl r1) hq) fun r s' z => ?_))
  match r, z with
  | .ok (.ret u), z =>
    obtain ⟨v, H2, o2, bare2, un2, hok2, rv, rfl, d, l, ea, ed, hd1, q2⟩ := z
    obtain ⟨h2, g2, d2, t2, os'⟩ := s'
    exact ⟨rv, mk_end (raises_own T.exC tyC) I1 (Nat.le_succ _) kk un2 hok2 o2 bare2 ea ed hd1 q2⟩
  | .ok .next, z => exact z.elim
  | .ok .brk, z => exact z.elim
  | .ok .cont, z => exact z.elim
  | .error _, z => exact z.elim
/-- n.f, n the error that the suite holds -/
def tSuF (K : PySem.W.Frag) (f : Str) (a : Addr) (cls : Value) (d : Option Addr) (te : TE) : TE := fun σ H Q => te σ H fun x H1 => ∃ (C dd : Addr) (l : List (Str × V)) (v : V), x = .ref a ∧ cls = .ref C ∧ OexG K C ∧ PySem.W.findIn K (.ref C) f = some none ∧ d = some dd ∧ H1 dd = some (.xd l) ∧ l.lookup f = some v ∧ Q v H1
theorem pe_suF {X : Cx} {a : Addr} {oe : Obj} {cls : Value} {d : Option Addr} {pn : List (Addr × Obj)} {e : Expr} {te : TE} {f : Str} {pos : Pos} (hz : Zc cls d oe) (hf : ∃ vs, oe.data = .fields vs) (he : PE (X.suite a ((a, oe) :: pn)) e te)
    (hb : attributeBase e f X.env (eval e X.env) = eval e X.env := by rfl) : PE (X.suite a ((a, oe) :: pn)) (.Attribute e f pos) (tSuF X.K f a cls d te) := by
  refine ⟨fun pins s σ H Q I h => attr_of hb (thn (he.run pins s σ H _ I h) fun u s1 hh => ?_)⟩
  obtain ⟨x, H1, I1, rx, C, dd, l, v, rfl, rfl, T, hno, rfl, ea, lv, q⟩ := hh
  cases (show u = Value.ref a from rx)
  obtain ⟨ha, _⟩ := I1.pin (a, oe) (List.mem_append_left _ List.mem_cons_self)
  obtain ⟨vs, hd⟩ := hf
  obtain ⟨mA, hns, hr⟩ := (show ObjOk X.prog X.w H1 s1.heap dd (.xd l) from I1.hok dd _ ea)
  obtain ⟨od, ho, hl⟩ := lookIn_ns hns
  obtain ⟨u, hu, ru⟩ := RelO.some_of (v := v) (o := mA f) (by rw [← lv]; exact hr f)
  have J : PySem.W.InstAt s1.heap a oe C (some od) := ⟨ha, hz.1, by unfold PySem.W.notCls; rw [hd] <;> rfl, by rw [hz.2]; exact ho⟩
  exact HandSPX.exc_get I1.kIn J T.ga T.gg T.exC (PySem.W.findObj_own T.hd hno rfl (by rw [hl, hu])) (handed_of ru) ⟨v, H1, I1.tok _, ru, q⟩
/-- isinstance(n, Y), n the error that the suite holds, its dict tracked -/
def rSuI (K : PySem.W.Frag) (a : Addr) (cls : Value) (d : Option Addr) : List V → Hp → VK → Prop := fun xs H Q => ∃ (C dd : Addr) (l : List (Str × V)) (c : V) (u : Value) (b : Bool), xs = [.ref a, c] ∧ cls = .ref C ∧ OexG K C ∧ d = some dd ∧ H dd = some (.xd l) ∧ ClsV c u ∧
  PySem.W.kitOne K (.ref C) u = some b ∧ Q (.bl b) H
theorem call_suI {X : Cx} {a : Addr} {oe : Obj} {cls : Value} {d : Option Addr} {pn : List (Addr × Obj)} (G : GetC X.K) (hz : Zc cls d oe) (hf : ∃ vs, oe.data = .fields vs) : CallR (X.suite a ((a, oe) :: pn)) (.builtin "isinstance") (rSuI X.K a cls d) := by
  intro pins s σ H xs us Q I r h
  obtain ⟨C, dd, l, c, u, b, rfl, rfl, T, rfl, ed, k, e, q⟩ := h
  obtain ⟨u1, u2, rfl, r1, r2⟩ := vals2 r
  cases (show u1 = Value.ref a from r1)
  cases k.eq r2
  obtain ⟨ha, _⟩ := I.pin (a, oe) (List.mem_append_left _ List.mem_cons_self)
  obtain ⟨vs, hd⟩ := hf
  obtain ⟨mA, ⟨o, es, ep, ho, hr⟩, _⟩ := (show ObjOk X.prog X.w H s.heap dd (.xd l) from I.hok dd _ ed)
  have J : PySem.W.InstAt s.heap a oe C (some o) := ⟨ha, hz.1, by unfold PySem.W.notCls; rw [hd] <;> rfl, by rw [hz.2]; exact ho⟩
  exact PySem.W.kia_one (kit_err G T) I.kIn J e (fun z => nomatch z) fun tk => ⟨.bl b, H, I.kept (t' := tk) fun _ _ z => z, rfl, q⟩
end L2
/-! defs that may raise an own error of one field; several clauses «except X as n» -/
namespace L2
open PySem PySem.Spec PyProof.Rows
/-- a def that may raise, under known guards -/
structure FnE (P : Program) (w : World) (K : PySem.W.Frag) (mg : Str → Option Value) (base : Heap) (k : Nat) (f : Addr) (fd : FuncData) (ps : List Str) (sp : Sp) : Prop where
  len : ∀ vs H Q E, sp vs H Q E → vs.length = ps.length
  run : ∀ (A : Around), A.guards = some [] → Room k A → ∀ (outer : List Env) (s : Shared) (H : Hp) (args : Args) (us : List Value) (vs : List V) (Q : VK) (E : XK),
    Env0 P w K mg base A outer s H → BindsTo s fd args (ps.zip us) → Vals vs us → sp vs H Q E → codeAny (model P w) A (.call (.ref f) args) (CR (L2.CX P w) outer P w H s Q E) s
section
variable {P : Program} {w : World} {K : PySem.W.Frag} {mg : Str → Option Value} {base : Heap} {k : Nat} {f : Addr} {fd : FuncData} {ps : List Str} {sp : Sp}
theorem Fun.okE {x qual : Str} {st : Stmt} {N : List Str} (F : Fun K x qual st f fd) (S : FnScope N ps (defScope st)) (len : ∀ vs H Q E, sp vs H Q E → vs.length = ps.length)
    (body : ∀ (cdv : Value) (A : Around) (outer : List Env) (s : Shared) (H : Hp) (vs : List V) (Q : VK) (E : XK), A.guards = some [] → Room k (A.deeper (envOfC qual (defScope st) s.heap.objs.size f cdv)) → sp vs H Q E →
      ∃ t, PSs (cxOf (L2.CX P w) P w K mg base N qual (defScope st) f cdv A outer s H E) (defBody st) t ∧ t { nx := fun _ H' => Q .non H', rt := Q } (start N vs) H) : FnE P w K mg base (k + 1) f fd ps sp := by
  refine ⟨len, fun A hgd hr outer s H args us vs Q E e0 hb r hsp => ?_⟩
  obtain ⟨oc, od, kV, doc, pm, an, cdv, ct, osl, rfl, lk, hcd⟩ := F.ex
  obtain ⟨t, ht, hq⟩ := body cdv A outer s H vs Q E hgd (hr.deeper _) hsp
  have inK : K.In s.heap := e0.mod.kin.keeps fun b o e => (e0.bs b o e).1
  refine codeAny_call_function hr.depth (inK _ _ lk) rfl S.co S.gen rfl (PySem.W.codeRec_of inK hcd) (hb _ _ _ _ (wpAny_newFunctionEnv_cells S.kind ?_ ?_))
  · rintro ⟨n, v⟩ hy
    rcases S.par n (List.of_mem_zip hy).1 with q | q
    · exact .inl q
    · exact .inr ⟨q, PySem.W.cellsFrom_some _ _ _ (.inl q)⟩
  · intro env he s1 x
    subst he
    refine ⟨(e0.mod.nolimit.keeps fun b o e => (e0.bs b o e).1).keeps x.toInCall.keep, codeAny_func ?_⟩
    refine wpAny_mono (ht.run [] s1 (start N vs) H _ (inv_start S hr.hd e0 (len _ _ _ _ hsp) r x) hq) (fun fl s' hs => ?_) fun _ _ hs => hs
    cases fl with
    | ret u =>
      obtain ⟨v, σ', H', J, rv, q⟩ := hs
      exact ⟨v, H', J.os, J.bare, J.base, J.hok, rv, q⟩
    | next =>
      obtain ⟨σ', H', J, q⟩ := hs
      exact ⟨V.non, H', J.os, J.bare, J.base, J.hok, rfl, q⟩
    | brk => exact hs.choose_spec.choose_spec.2.elim
    | cont => exact hs.choose_spec.choose_spec.2.elim
end
/-- what several clauses «except X as n» wish, one behind the other; i is n's slot -/
def wManyA (K : PySem.W.Frag) (i : Nat) (Wout : WX) (D : Ends) : List (Value × (Addr → Value → Option Addr → TS)) → WX
  | [] => Wout
  | (c, ts) :: r => fun cls d σ H => ∃ b, PySem.W.exmOne K cls c = some b ∧
    (b = true → ∀ a, H a = none → ts a cls d ⟨fun σ' H' => D.nx (σ'.set i none) H', D.rt, fun σ' H' => D.bk (σ'.set i none) H', fun σ' H' => D.ct (σ'.set i none) H'⟩ (σ.set i (some (.ref a))) H) ∧ (b = false → wManyA K i Wout D r cls d σ H)
inductive HdsA (X : Cx) (n : Str) : List ExceptHandler → List (Value × (Addr → Value → Option Addr → TS)) → Prop
  | nil : HdsA X n [] []
  | cons {x : Str} {c : Value} {ts : Addr → Value → Option Addr → TS} {b₀ : Stmt} {suite : List Stmt} {np pos' : Pos} {hds : List ExceptHandler} {l : List (Value × (Addr → Value → Option Addr → TS))} (hc : Names X x c)
      (hsu : ∀ (a : Addr) (oe : Obj) (cls : Value) (d : Option Addr) (pn : List (Addr × Obj)), Zc cls d oe → (∃ vs, oe.data = .fields vs) → PSs (X.suite a ((a, oe) :: pn)) (b₀ :: suite) (ts a cls d)) (r : HdsA X n hds l) :
      HdsA X n (.ExceptHandler (some (.Name x np)) (some n) (b₀ :: suite) pos' :: hds) ((c, ts) :: l)
theorem ps_try_manyA {X : Cx} {n : Str} {i : Nat} {body : List Stmt} {h₀ : ExceptHandler} {hds : List ExceptHandler} {l : List (Value × (Addr → Value → Option Addr → TS))} {pos : Pos} {tb : WX → TS} {Wout : WX}
    (hs : X.stack = X.env :: X.outer) (hf : X.env.frame = some X.env.locals) (hN : X.N.Nodup) (hi : X.N[i]? = some n) (hln : X.env.kindOf n = some .local) (tk : Takes X Wout)
    (hb : ∀ (W : WX) (pn : List (Addr × Obj)) (xe : Value → Shared → Prop), Takes (X.tr pn xe) W → PassesOwn (model X.prog X.w) X.A X.env xe → PSs (X.tr pn xe) body (tb W)) (hh : HdsA X n (h₀ :: hds) l) :
    PS X (.Try body (h₀ :: hds) [] [] pos) (fun D σ H => tb (wManyA X.K i Wout D l) D σ H) := by
  constructor
  intro pins s σ H D I hT
  have okX := I.ok
  have frX : X.A.frames = some (X.env :: X.outer) := okX.frames.trans (congrArg some hs)
  have locN : Loc X.env.scope n := Or.inl hln
  apply wpAny_Try_except
  have CATCH : Takes (X.tr (X.pn ++ pins) fun e s₁ => wpAny (model X.prog X.w) X.A (noteFrame e X.env) (fun _ s₂ => wpAny (model X.prog X.w) X.A (setFlight e none) (fun _ s₃ => wpAny (model X.prog X.w) X.A (handleBy e X.env (h₀ :: hds)) (SP X pins D) X.xe s₃) X.xe s₂) X.xe s₁) (wManyA X.K i Wout D l) := by
    rintro u s' ⟨a, B, sI, pins', τ, G, cls, d, rfl, J', nb, up, sky, na, os, ag, wish⟩
    have J : Inv X pins τ G sI := J'.ofTry okX
    rw [show (X.tr _ _).stack = X.env :: X.outer from hs] at sky
    apply Sky.land Zc.steady frX hf sky
    intro h3 fl3 up3
    have J3 : Inv X pins τ G ⟨h3, s'.gens, s'.drawn, s'.toks, s'.os⟩ := J.landed nb fl3.1 (up.trans up3) os ag
    obtain ⟨oe3, vs3, he3, hz3, hd3⟩ := fl3.there
    have off : a ∉ frs (X.env :: X.outer) := by
      intro hm
      obtain ⟨_, o', e', hnf⟩ := fl3.2.2.1.mem hm
      cases he3.symm.trans e'
      exact hnf _ hd3
    have nL : a ≠ X.env.locals := by
      intro z
      exact off (List.mem_filterMap.mpr ⟨X.env, .head _, z ▸ hf⟩)
    have nF : a ∉ X.fs := by
      intro hm
      obtain ⟨e, he, q⟩ := List.mem_filterMap.mp hm
      exact off (List.mem_filterMap.mpr ⟨e, .tail _ he, q⟩)
    have S3 := J3.suite he3 hd3 na nL nF
    suffices go : ∀ {hds' l'}, HdsA X n hds' l' → wManyA X.K i Wout D l' cls d τ G → wpAny (model X.prog X.w) X.A (handleBy (.ref a) X.env hds') (SP X pins D) X.xe ⟨h3, s'.gens, s'.drawn, s'.toks, s'.os⟩ from go hh wish
    intro hds' l' hk
    induction hk with
    | nil =>
      intro wout
      apply wpAny_handleBy_nil
      obtain ⟨_, _, _, oe, vs, T, oT, ts', he, hz, hd, h1, hr⟩ := id fl3
      unfold PySem.passOn
      apply wpAny_bind
      apply wpAny_field he hd h1
      have noT : ¬ ((Value.ref T == Value.none) = true) := by simp
      rw [if_neg noT]
      have fin : wpAny (model X.prog X.w) X.A (setFlight (.ref a) X.env.frame) (fun _ s4 => wpAny (model X.prog X.w) X.A (throw (.ref a) : Sem Flow) (SP X pins D) X.xe s4) X.xe ⟨h3, s'.gens, s'.drawn, s'.toks, s'.os⟩ := by
        rw [hf]
        apply HandSPX.setFlight_upZ fl3
        intro h4 hh4 up4
        have sky4 : Sky B X.stack a (Zc cls d) X.env.locals h4 := .inr (.inr (hs ▸ hh4))
        exact wpAny_throw (tk _ _ ⟨a, B, sI, pins, τ, G, cls, d, rfl, J, nb, (up.trans up3).trans up4, sky4, na, os, ag, wout⟩)
      first
        | exact wpAny_bind (wpAny_pure (wpAny_bind fin))
        | exact wpAny_bind fin
    | @cons x c ts b₀ suite np pos' more lm hc hsu r ih =>
      rintro ⟨b, is, yes, no⟩
      refine wpAny_handleBy_cons (codeAny_handlers_test ?_) (by rintro ⟨⟩)
      have LT : PySem.W.Looks (model X.prog X.w) h3 (typeOf (.ref a)) cls := by
        intro A Q E s k q
        exact wpAny_typeOf_ref (k _ _ he3) (hz3.1 ▸ q)
      have LM := PySem.W.exm_one (M := model X.prog X.w) J3.kIn LT is
      have named : ∀ {Q E : Value → Shared → Prop}, Q c ⟨h3, s'.gens, s'.drawn, s'.toks, s'.os⟩ → wpAny (model X.prog X.w) (X.A.mark (some (.ref a))) (eval (.Name x np) X.env) Q E ⟨h3, s'.gens, s'.drawn, s'.toks, s'.os⟩ := by
        intro Q E q
        rcases hc with ⟨hg, hdbg, hm | ⟨hm, hv, hnn⟩⟩
        · exact ld_glob (X := X.suite a ((a, oe3) :: (X.pn ++ pins))) S3 hg hm q hdbg
        · exact ld_blt (X := X.suite a ((a, oe3) :: (X.pn ++ pins))) S3 hg hm hv q hnn hdbg
      apply named
      apply LM.here
      cases b with
      | false => exact ih (no rfl)
      | true =>
        apply codeAny_handlers_suite_as
        apply HandSPX.lands_againZ fl3
        intro h4 fl4 up4
        have J4 : Inv X pins τ G ⟨h4, s'.gens, s'.drawn, s'.toks, s'.os⟩ := J.landed nb fl4.1 ((up.trans up3).trans up4) os ag
        obtain ⟨oe4, vs4, he4, hz4, hd4⟩ := fl4.there
        have S4 := J4.suite he4 hd4 na nL nF
        apply store_ok (X := X.suite a ((a, oe4) :: (X.pn ++ pins))) (v := .ref a) S4 hN hi locN rfl ?_ (.inr hln)
        intro s5 S5
        refine wpAny_mono ((hsu a oe4 cls d (X.pn ++ pins) hz4 ⟨_, hd4⟩).run [] s5 _ G _ S5 (yes rfl a na)) (fun f s6 hsp => ?_) (fun _ _ z => z.elim)
        have ends : ∀ {τ6 : L2.St} {G6 : Hp} {Q : Shared → Prop}, Inv (X.suite a ((a, oe4) :: (X.pn ++ pins))) [] τ6 G6 s6 → (∀ s7, Inv X pins (τ6.set i none) G6 s7 → Q s7) →
            wpAny (model X.prog X.w) X.A (do bindName X.env n .none; unbindBehindTheSuite X.env n pos') (fun _ s7 => Q s7) X.xe s6 := by
          intro τ6 G6 Q S6 hq
          exact gone_ok (S6.unsuite okX) hN hi hln hq
        cases f with
        | next => obtain ⟨_, _, S6, q6⟩ := hsp; exact ends S6 fun s7 J7 => ⟨_, _, J7, q6⟩
        | brk => obtain ⟨_, _, S6, q6⟩ := hsp; exact ends S6 fun s7 J7 => ⟨_, _, J7, q6⟩
        | cont => obtain ⟨_, _, S6, q6⟩ := hsp; exact ends S6 fun s7 J7 => ⟨_, _, J7, q6⟩
        | ret u => obtain ⟨_, _, _, S6, r6, q6⟩ := hsp; exact ends S6 fun s7 J7 => ⟨_, _, _, J7, r6, q6⟩
  refine wpAny_mono ((hb _ _ _ CATCH PassesOwn.looking).run [] s σ H D (I.toTry _) hT) (fun f s1 hsp => ?_) (fun e s1 he => he)
  cases f with
  | next => obtain ⟨_, _, J', q⟩ := hsp; exact wpAny_execs_nil ⟨_, _, J'.ofTry okX, q⟩
  | brk => obtain ⟨_, _, J', q⟩ := hsp; exact ⟨_, _, J'.ofTry okX, q⟩
  | cont => obtain ⟨_, _, J', q⟩ := hsp; exact ⟨_, _, J'.ofTry okX, q⟩
  | ret u => obtain ⟨_, _, _, J', r, q⟩ := hsp; exact ⟨_, _, _, J'.ofTry okX, r, q⟩
end L2
/-! data: defs that may raise -/
namespace DL
open PySem PySem.Spec PyProof.Rows L2
/-- what is wished where an error is raised: the slots, the class's name, its one field -/
abbrev EQ := DEnv → Str → PyData → Store → Prop
/-- own classes of one field: where, which field -/
abbrev CLs := Str → Option (Addr × Str)
def KonW (K : PySem.W.Frag) (T : CLs) (Z As : List Addr) (S : Store) (H : Hp) (EP : EQ) (W : WX) : Prop := ∀ env' c C f x S' As' σ' v H' dd l H'', T c = some (C, f) → EP env' c x S' → Po Z As S H As' S' H' → Rl K Z As' S' H' → Sl K Z As' S' H' σ' env' →
  DV K (lv Z As' S') H' v x → H' dd = none → Same H' H'' → H'' dd = some (.xd l) → l.lookup f = some v → W (.ref C) (some dd) σ' H''
def KonE (K : PySem.W.Frag) (T : CLs) (Z As : List Addr) (S : Store) (H : Hp) (EP : Str → PyData → Store → Prop) (E : XK) : Prop := ∀ c C f x S' As' v H' dd l H'', T c = some (C, f) → EP c x S' → Po Z As S H As' S' H' → Rl K Z As' S' H' →
  DV K (lv Z As' S') H' v x → H' dd = none → Same H' H'' → H'' dd = some (.xd l) → l.lookup f = some v → E (.ref C) (some dd) H''
section
variable {K : PySem.W.Frag} {T : CLs} {Z As As' : List Addr} {S S' : Store} {H H' : Hp} {EP : EQ} {W : WX}
theorem KonW.later (k : KonW K T Z As S H EP W) (po : Po Z As S H As' S' H') : KonW K T Z As' S' H' EP W := fun env' c C f x S2 As2 σ' v H2 dd l H3 a b po2 => k env' c C f x S2 As2 σ' v H2 dd l H3 a b (po.trans po2)
theorem KonE.body {EP : Str → PyData → Store → Prop} {E : XK} (k : KonE K T Z As S H EP E) : KonW K T Z As S H (fun _ => EP) (fun c d _ H => E c d H) := fun env' c C f x S2 As2 σ' v H2 dd l H3 a b po rl _ dv n s e lk => k c C f x S2 As2 v H2 dd l H3 a b po rl dv n s e lk
/-- objects that are new and not told of -/
theorem same_po (r : Rl K Z As S H) (s : Same H H') : Po Z As S H As S H' ∧ Rl K Z As S H' := by
  have hid : ∀ b, H b ≠ none → H' b = H b := fun b hb => by
    cases e : H b with
    | none => exact absurd e hb
    | some o => exact s b o e
  have po : Po Z As S H As S H' := ⟨fun b o e n => ⟨n, s b o e⟩, fun b hb => hid b (r.hz b hb).1, [], by simp⟩
  refine ⟨po, r.len, r.inj, fun k a o h1 h2 => ?_, fun b hb => ⟨by rw [hid b (r.hz b hb).1]; exact (r.hz b hb).1, (r.hz b hb).2⟩⟩
  by_cases hd : o = .dead
  · subst hd; trivial
  · exact MOr.ex po.ext po.pre (hid a (r.live (.inr ⟨k, o, h1, h2, hd⟩))) (r.at_ k a o h1 h2)
end
abbrev GE := DEnv → Store → PQ → EQ → Prop
abbrev GAE := DEnv → Store → (List AV → Store → Prop) → EQ → Prop
abbrev GSE := DEnv → Store → DE → EQ → Prop
def tDE (K : PySem.W.Frag) (T : CLs) (W : WX) (g : GE) : TE := fun σ H Q => ∃ Z As S env P EP, Rl K Z As S H ∧ Sl K Z As S H σ env ∧ g env S P EP ∧ Kon K Z As S H P Q ∧ KonW K T Z As S H EP W
def tDAE (K : PySem.W.Frag) (T : CLs) (W : WX) (g : GAE) : TA := fun σ H Q => ∃ Z As S env P EP, Rl K Z As S H ∧ Sl K Z As S H σ env ∧ g env S P EP ∧ KonA K Z As S H P Q ∧ KonW K T Z As S H EP W
def tDSE (K : PySem.W.Frag) (T : CLs) (W : WX) (g : GSE) : TS := fun D σ H => ∃ Z As S env E EP, Rl K Z As S H ∧ Sl K Z As S H σ env ∧ g env S E EP ∧ KonS K Z As S H E.nx D.nx ∧ Kon K Z As S H E.rt D.rt ∧ KonS K Z As S H E.bk D.bk ∧ KonS K Z As S H E.ct D.ct ∧ KonW K T Z As S H EP W
abbrev PDE (X : Cx) (T : CLs) (W : WX) (e : Expr) (g : GE) : Prop := PE X e (tDE X.K T W g)
abbrev PDAE (X : Cx) (T : CLs) (W : WX) (es : List Expr) (g : GAE) : Prop := PA X es (tDAE X.K T W g)
abbrev PDSE (X : Cx) (T : CLs) (W : WX) (st : Stmt) (g : GSE) : Prop := PS X st (tDSE X.K T W g)
abbrev PDSsE (X : Cx) (T : CLs) (W : WX) (st : List Stmt) (g : GSE) : Prop := PSs X st (tDSE X.K T W g)
abbrev WDE := List AV → Store → PQ → (Str → PyData → Store → Prop) → Prop
def spE (K : PySem.W.Frag) (T : CLs) (W : WDE) : Sp := fun vs H Q E => ∃ Z As S args P EP, Rl K Z As S H ∧ AVs K Z As S H vs args ∧ W args S P EP ∧ Kon K Z As S H P Q ∧ KonE K T Z As S H EP E
structure OwnE (P : Program) (w : World) (K : PySem.W.Frag) (mg : Str → Option Value) (base : Heap) (T : CLs) (k : Nat) (x : Str) (ps : List Str) (W : WDE) : Prop where
  ex : ∃ f fd, FnE P w K mg base k f fd ps (spE K T W) ∧ mg x = some (.ref f) ∧ PySem.W.keepIn K (.ref f) = true ∧ Binds K fd ps [] ∧ ∀ (s : Shared) (us : List Value), us.length = ps.length → BindsTo s fd ⟨[], ps.zip us⟩ (ps.zip us)
section
variable {P : Program} {w : World} {K : PySem.W.Frag} {mg : Str → Option Value} {base : Heap} {T : CLs} {k : Nat} {x : Str} {N ps : List Str} {W : WDE}
theorem OwnE.mono {j : Nat} (O : OwnE P w K mg base T j x ps W) (h : j ≤ k) : OwnE P w K mg base T k x ps W := by
  obtain ⟨f, fd, F, r⟩ := O.ex
  exact ⟨f, fd, ⟨F.len, fun A hg hr => F.run A hg (hr.mono h)⟩, r⟩
theorem okE {st : Stmt} {g : GSE} (D : DefAt K mg x st ps) (S : FnScope N ps (defScope st)) (hlen : ∀ as S P EP, W as S P EP → as.length = ps.length)
    (hb : ∀ (f : Addr) (cdv : Value) (A : Around) (outer : List Env) (s : Shared) (H : Hp) (E : XK), A.guards = some [] → Room k (A.deeper (envOfC x (defScope st) s.heap.objs.size f cdv)) →
      PDSsE (cxOf (L2.CX P w) P w K mg base N x (defScope st) f cdv A outer s H E) T (fun c d _ H => E c d H) (defBody st) g)
    (hw : ∀ args S P EP, W args S P EP → g (args.map some ++ List.replicate (N.length - ps.length) none) S ⟨fun _ S' => P (.d .none) S', P, fun _ _ => False, fun _ _ => False⟩ (fun _ => EP)) : OwnE P w K mg base T (k + 1) x ps W := by
  obtain ⟨f, fd, F, h1, h2, h3, h4⟩ := D.ex
  refine ⟨f, fd, L2.Fun.okE F S (fun vs H Q E h => ?_) (fun cdv A outer s H vs Q E hgd hr h => ?_), h1, h2, h3, h4⟩
  · obtain ⟨Z, As, S, args, P, EP, rl, av, hW, _⟩ := h
    rw [av.length]
    exact hlen _ _ _ _ hW
  · obtain ⟨Z, As, S1, args, P1, EP, rl, av, hW, hk, he⟩ := h
    have hl : vs.length = ps.length := by rw [av.length]; exact hlen _ _ _ _ hW
    refine ⟨_, hb f cdv A outer s H E hgd hr, Z, As, S1, _, _, _, rl, ?_, hw args S1 P1 EP hW, ?_, hk, ?_, ?_, he.body⟩
    · show Sl K Z As S1 H (vs.map some ++ List.replicate (N.length - vs.length) none) _
      rw [hl]
      exact Sl.start _ av
    · exact fun env' S' As' σ' H' h' po rl' sl' => hk (.d .none) S' As' .non H' h' po rl' .non
    · exact fun _ _ _ _ _ z => z.elim
    · exact fun _ _ _ _ _ z => z.elim
end
section
variable {X : Cx} {T : CLs} {W : WX} {j k : Nat} {x : Str} {ps : List Str} {p pos : Pos} {a b c e : Expr} {es : List Expr} {kws : List Keyword} {st : Stmt} {rest : List Stmt} {g g1 g2 : G} {ge ge1 ge2 : GE} {ga gk : GA} {gae : GAE} {gt : GT} {gs : GS} {gse gs1 gs2 : GSE}
/-! what raises nothing -/
def upE (g : G) : GE := fun env S P _ => g env S P
def upS (g : GS) : GSE := fun env S D _ => g env S D
theorem pde_up (h : PD X e g) : PDE X T W e (upE g) := PEwk h fun σ H Q h => by
  obtain ⟨Z, As, S, env, P, EP, rl, sl, hg, k1, k2⟩ := h
  exact ⟨Z, As, S, env, P, rl, sl, hg, k1⟩
theorem pdse_up (h : PDS X st gs) : PDSE X T W st (upS gs) := PSwk h fun D σ H h => by
  obtain ⟨Z, As, S, env, E, EP, rl, sl, hg, k1, k2, k3, k4, k5⟩ := h
  exact ⟨Z, As, S, env, E, rl, sl, hg, k1, k2, k3, k4⟩
theorem pdsse_up (h : PDSs X rest gs) : PDSsE X T W rest (upS gs) := PSswk h fun D σ H h => by
  obtain ⟨Z, As, S, env, E, EP, rl, sl, hg, k1, k2, k3, k4, k5⟩ := h
  exact ⟨Z, As, S, env, E, rl, sl, hg, k1, k2, k3, k4⟩
/-! expressions -/
def gIfEE (t : GT) (g1 g2 : GE) : GE := fun env S P EP => t env S fun c S1 => cond c (g1 env S1 P EP) (g2 env S1 P EP)
theorem pde_ife (hc : PDT X c gt) (h1 : PDE X T W a ge1) (h2 : PDE X T W b ge2) : PDE X T W (.IfExp c a b pos) (gIfEE gt ge1 ge2) := PEwk (pe_ifExp hc h1 h2) fun σ H Q h => by
  obtain ⟨Z, As, S, env, P, EP, rl, sl, hg, hQ, hE⟩ := h
  refine ⟨Z, As, S, env, _, rl, sl, hg, fun c S1 As1 H1 h1 po1 rl1 => ?_⟩
  cases c with
  | true => exact ⟨Z, As1, S1, env, P, EP, rl1, sl.po po1, h1, hQ.later po1, hE.later po1⟩
  | false => exact ⟨Z, As1, S1, env, P, EP, rl1, sl.po po1, h1, hQ.later po1, hE.later po1⟩
def gAppE (WW : WDE) (ga : GA) : GE := fun env S P EP => ga env S fun as S1 => WW as S1 P (EP env)
theorem konE_of {K : PySem.W.Frag} {Z As : List Addr} {S : Store} {H : Hp} {EP : EQ} {σ : L2.St} {env : DEnv} (k : KonW K T Z As S H EP W) (sl : Sl K Z As S H σ env) : KonE K T Z As S H (EP env) (fun c d H => W c d σ H) :=
  fun c C f x S2 As2 v H2 dd l H3 a b po rl dv n s e lk => k env c C f x S2 As2 σ v H2 dd l H3 a b po rl (sl.po po) dv n s e lk
theorem run_E {pins : List (Addr × Obj)} {σ : L2.St} {H : Hp} {s : Shared} {Q : VK} {f : Addr} {fd : FuncData} {sp : Sp} {args : Args} {us : List Value} {vs : List V} (F : FnE X.prog X.w X.K X.mg X.base j f fd ps sp) (hgd : X.A.guards = some []) (hr : Room j X.A) (tk : Takes X W) (I : Inv X pins σ H s)
    (hb : BindsTo s fd args (ps.zip us)) (r : Vals vs us) (h : sp vs H Q (fun c d H => W c d σ H)) : codeAny (model X.prog X.w) X.A (.call (.ref f) args) (fun r s' => match r with
      | .ok (.ret u) => EP X pins σ Q u s'
      | .ok _ => False
      | .error e => X.xe e s') s := by
  refine codeAny_mono (F.run X.A hgd hr X.stack s H args us vs Q _ I.env0 hb r h) fun r s' z => ?_
  match r, z with
  | .ok (.ret u), z => exact I.after z
  | .ok .next, z => exact z.elim
  | .ok .brk, z => exact z.elim
  | .ok .cont, z => exact z.elim
  | .error e, z => exact passAt tk σ pins H s e s' I z
theorem pde_call {WW : WDE} (O : OwnE X.prog X.w X.K X.mg X.base T j x ps WW) (tk : Takes X W) (hgd : X.A.guards = some []) (hr : Room k X.A) (hg : Gl X x) (ha : PDA X (e :: es) ga) (hjk : j ≤ k := by first | decide | omega) (hdb : (x == ("__debug__" : Str)) = false := by decide)
    (he : starEach (e :: es) X.env = (false, eval e X.env) :: starEach es X.env := by rfl) (hpl : (backTo pos (starEach es X.env)).any (·.1) = false := by rfl) : PDE X T W (.Call (.Name x p) (e :: es) [] pos) (gAppE WW ga) := by
  obtain ⟨f, fd, F, hm, hk, hb, _⟩ := O.ex
  refine ⟨fun pins s σ H Q I h => ?_⟩
  obtain ⟨Z, As, S, env, P, EP, rl, sl, hg2, hQ, hE⟩ := h
  refine wpAny_Call_Name_kw (ld_glob I hg hm ?_ hdb)
  refine PySem.W.callWith_K (h₀ := X.base) I.ok.mod.kin hk (thn (ha.run pos pins s σ H (fun zs H2 => spE X.K T WW zs H2 Q (fun c d H => W c d σ H)) I ⟨Z, As, S, env, _, rl, sl, hg2, fun as S1 As1 xs H1 h1 po1 rl1 av1 => ⟨Z, As1, S1, as, P, _, rl1, av1, h1, hQ.later po1, konE_of (hE.later po1) (sl.po po1)⟩⟩) fun us s2 hh => ?_) he hpl
  obtain ⟨zs, H2, I2, rz, q2⟩ := hh
  refine ⟨I2.kIn, ?_⟩
  have hl : us.length = ps.length := by rw [← rz.length]; exact F.len _ _ _ _ q2
  have bb := hb s2 us I2.kIn (by rw [List.append_nil]; exact hl)
  rw [List.append_nil] at bb
  refine wpAny_call (codeAny_mono (run_E F hgd (hr.mono hjk) tk I2 bb rz q2) fun r s' z => ?_)
  match r, z with
  | .ok (.ret u), z => exact z
  | .ok .next, z => exact z.elim
  | .ok .brk, z => exact z.elim
  | .ok .cont, z => exact z.elim
  | .error e, z => exact z
theorem pde_callK {WW : WDE} (O : OwnE X.prog X.w X.K X.mg X.base T j x ps WW) (tk : Takes X W) (hgd : X.A.guards = some []) (hr : Room k X.A) (hg : Gl X x) (hkw : PDK X kws gk) (hjk : j ≤ k := by first | decide | omega) (hall : (backToKw pos (keywordEach kws X.env)).all (·.1.isSome) = true := by rfl)
    (hks : (backToKw pos (keywordEach kws X.env)).filterMap (·.1) = ps := by rfl) (hdb : (x == ("__debug__" : Str)) = false := by decide)
    (hpl : ((backTo pos (starEach [] X.env)).any (·.1) || (backToKw pos (keywordEach kws X.env)).any (·.1.isNone)) = false := by rfl) : PDE X T W (.Call (.Name x p) [] kws pos) (gAppE WW gk) := by
  obtain ⟨f, fd, F, hm, hk, _, hb⟩ := O.ex
  refine ⟨fun pins s σ H Q I h => ?_⟩
  obtain ⟨Z, As, S, env, P, EP, rl, sl, hg2, hQ, hE⟩ := h
  refine wpAny_Call_Name_kw (ld_glob I hg hm ?_ hdb)
  refine PySem.W.callWith_KW0 (h₀ := X.base) I.ok.mod.kin hk hall ?_ hpl
  refine thn (hkw.run pos pins s σ H (fun zs H2 => spE X.K T WW zs H2 Q (fun c d H => W c d σ H)) I ⟨Z, As, S, env, _, rl, sl, hg2, fun as S1 As1 xs H1 h1 po1 rl1 av1 => ⟨Z, As1, S1, as, P, _, rl1, av1, h1, hQ.later po1, konE_of (hE.later po1) (sl.po po1)⟩⟩) fun ws s2 hh => ?_
  obtain ⟨zs, H2, I2, rz, q2⟩ := hh
  refine ⟨I2.kIn, ?_⟩
  rw [hks]
  have hl : ws.length = ps.length := by rw [← rz.length]; exact F.len _ _ _ _ q2
  refine wpAny_call (codeAny_mono (run_E F hgd (hr.mono hjk) tk I2 (hb s2 ws hl) rz q2) fun r s' z => ?_)
  match r, z with
  | .ok (.ret u), z => exact z
  | .ok .next, z => exact z.elim
  | .ok .brk, z => exact z.elim
  | .ok .cont, z => exact z.elim
  | .error e, z => exact z
def gNilE : GAE := fun _ S P _ => P [] S
def gConsE (g : GE) (ga : GAE) : GAE := fun env S P EP => g env S (fun a S1 => ga env S1 (fun as S2 => P (a :: as) S2) EP) EP
theorem pdae_nil : PDAE X T W [] gNilE := PAwk pa_nil fun σ H Q h => by
  obtain ⟨Z, As, S, env, P, EP, rl, sl, hg, hQ, hE⟩ := h
  exact hQ [] S As [] H hg Po.refl rl .nil
theorem pdae_cons (h : PDE X T W e ge) (ha : PDAE X T W es gae) (hs : starEach (e :: es) X.env = (false, eval e X.env) :: starEach es X.env := by rfl) : PDAE X T W (e :: es) (gConsE ge gae) := PAwk (pa_cons h ha hs) fun σ H Q h => by
  obtain ⟨Z, As, S, env, P, EP, rl, sl, hg, hQ, hE⟩ := h
  refine ⟨Z, As, S, env, _, EP, rl, sl, hg, fun a S1 As1 x H1 h1 po1 rl1 av1 => ?_, hE⟩
  refine ⟨Z, As1, S1, env, _, EP, rl1, sl.po po1, h1, fun as S2 As2 xs H2 h2 po2 rl2 av2 => ?_, hE.later po1⟩
  exact hQ _ _ _ _ _ h2 (po1.trans po2) rl2 (.cons (av1.po po2) av2)
theorem pde_lst (h : PDAE X T W es gae) : PDE X T W (.List es pos) (fun env S P EP => gae env S (fun as S1 => as.length ≤ sizeLine ∧ dLst as S1 P) EP) := PEwk (pe_lst h) fun σ H Q h => by
  obtain ⟨Z, As, S, env, P, EP, rl, sl, hg, hQ, hE⟩ := h
  refine ⟨Z, As, S, env, _, EP, rl, sl, hg, fun as S1 As1 xs H1 h1 po1 rl1 av1 => ?_, hE⟩
  obtain ⟨hz, h1⟩ := h1
  refine ⟨by rw [av1.length]; exact hz, fun p np => ?_⟩
  unfold dLst at h1
  split at h1
  · rename_i ds e
    rw [dats_eq e] at av1
    exact (hQ.later po1).lst rl1 np av1.to_d h1
  · exact h1.elim
/-! statements -/
def gsSeqE (g1 g2 : GSE) : GSE := fun env S D EP => g1 env S { D with nx := fun env' S' => g2 env' S' D EP } EP
theorem pdsse_one (h : PDSE X T W st gse) : PDSsE X T W [st] gse := pss_one h
theorem pdsse_cons (h1 : PDSE X T W st gs1) (h2 : PDSsE X T W rest gs2) : PDSsE X T W (st :: rest) (gsSeqE gs1 gs2) := PSswk (pss_cons h1 h2) fun D σ H h => by
  obtain ⟨Z, As, S, env, E, EP, rl, sl, hg, k1, k2, k3, k4, k5⟩ := h
  refine ⟨Z, As, S, env, _, EP, rl, sl, hg, fun env' S' As' σ' H' h' po rl' sl' => ?_, k2, k3, k4, k5⟩
  exact ⟨Z, As', S', env', E, EP, rl', sl', h', k1.later po, k2.later po, k3.later po, k4.later po, k5.later po⟩
def gsIfE (gt : GT) (g1 g2 : GSE) : GSE := fun env S D EP => gt env S fun c S1 => cond c (g1 env S1 D EP) (g2 env S1 D EP)
theorem pdse_if {c : Expr} {a b : List Stmt} (hc : PDT X c gt) (h1 : PDSsE X T W a gs1) (h2 : PDSsE X T W b gs2) : PDSE X T W (.If c a b pos) (gsIfE gt gs1 gs2) := PSwk (ps_if hc h1 h2) fun D σ H h => by
  obtain ⟨Z, As, S, env, E, EP, rl, sl, hg, k1, k2, k3, k4, k5⟩ := h
  refine ⟨Z, As, S, env, _, rl, sl, hg, fun c S' As' H' h' po rl' => ?_⟩
  cases c with
  | true => exact ⟨Z, As', S', env, E, EP, rl', sl.po po, h', k1.later po, k2.later po, k3.later po, k4.later po, k5.later po⟩
  | false => exact ⟨Z, As', S', env, E, EP, rl', sl.po po, h', k1.later po, k2.later po, k3.later po, k4.later po, k5.later po⟩
def gsRetE (g : GE) : GSE := fun env S D EP => g env S D.rt EP
theorem pdse_ret (h : PDE X T W e ge) : PDSE X T W (.Return (some e) pos) (gsRetE ge) := PSwk (ps_ret h) fun D σ H h => by
  obtain ⟨Z, As, S, env, E, EP, rl, sl, hg, k1, k2, k3, k4, k5⟩ := h
  exact ⟨Z, As, S, env, _, EP, rl, sl, hg, k2, k5⟩
def gsSetE (i : Nat) (g : GE) : GSE := fun env S D EP => g env S (fun a S1 => D.nx (env.set i (some a)) S1) EP
theorem pdse_set {i : Nat} {x : Str} {pos' : Pos} (hN : X.N.Nodup) (hi : X.N[i]? = some x) (hx : Loc X.env.scope x) (he : PDE X T W e ge) (hs : swapsWith e (some (.Name x pos')) pos.line X.env = pure false := by rfl)
    (hf : X.fn x = true ∨ X.env.scope.names.lookup x = some .local := by first | exact .inl rfl | exact .inr rfl | assumption) : PDSE X T W (.Assign [.Name x pos'] e pos) (gsSetE i ge) :=
  PSwk (ps_set (i := i) hN hi hx he hs hf) fun D σ H h => by
    obtain ⟨Z, As, S, env, E, EP, rl, sl, hg, k1, k2, k3, k4, k5⟩ := h
    exact ⟨Z, As, S, env, _, EP, rl, sl, hg, fun r S' As' v H' h' po rl' av => k1 _ S' As' _ H' h' po rl' ((sl.po po).set av), k5⟩
def gsRaise (x : Str) (g : G) : GSE := fun env S D EP => g env S fun a S1 => match a with
  | .d y => EP env x y S1
  | _ => False
theorem lookup_one {f : Str} {v : V} : ([f].zip [v]).lookup f = some v := by
  show (match f == f with | true => some v | false => _) = _
  rw [beq_self_eq_true]
theorem pdse_raise {C : Addr} {f : Str} (R : RaCls X.prog X.w X.K X.mg X.base x C [f]) (hT : T x = some (C, f)) (hc : X.calm = true) (tk : Takes X W) (hr : Room 2 X.A) (hg : Gl X x) (he : PD X e g) (hdb : (x == ("__debug__" : Str)) = false := by decide)
    (hs : starEach [e] X.env = (false, eval e X.env) :: starEach [] X.env := by rfl) {pos' : Pos} : PDSE X T W (.Raise (some (.Call (.Name x p) [e] [] pos)) none pos') (gsRaise x g) :=
  PSwk (ps_raise hc tk (pmk_X R (by show 1 ≤ 5; decide) hr hg (pa_cons he pa_nil hs) hdb hs rfl)) fun D σ H h => by
    obtain ⟨Z, As, S, env, E, EP, rl, sl, hg, k1, k2, k3, k4, k5⟩ := h
    refine ⟨Z, As, S, env, _, rl, sl, hg, fun a S1 As1 v H1 h1 po rl1 av => ?_⟩
    match a, h1, av with
    | .d y, h1, av =>
      exact ⟨rfl, fun dd l H2 n s2 hl lk => k5 env x C f y S1 As1 σ v H1 dd l H2 hT h1 po rl1 (sl.po po) av n s2 hl (lk f v lookup_one)⟩
end
end DL
/-! how great data are; a tuple is empty or not -/
namespace DL
open PySem PySem.Spec PyProof.Rows L2
structure Fit (d l : Nat) (x : PyData) : Prop where
  sh : x.showable = true
  dp : x.depth ≤ d
  ln : x.shown.length ≤ l
theorem Fit.mono {d d' l l' : Nat} {x : PyData} (h : Fit d l x) (hd : d ≤ d') (hl : l ≤ l') : Fit d' l' x := ⟨h.sh, Nat.le_trans h.dp hd, Nat.le_trans h.ln hl⟩
theorem dp_tup (xs : List PyData) : (PyData.tuple xs).depth = PyData.depthAll xs + 1 := by simp [PyData.depth]
theorem dp_lst (xs : List PyData) : (PyData.list xs).depth = PyData.depthAll xs + 1 := by simp [PyData.depth]
theorem dp_cons (x : PyData) (xs : List PyData) : PyData.depthAll (x :: xs) = max x.depth (PyData.depthAll xs) := by simp [PyData.depthAll]
theorem dp_nil : PyData.depthAll [] = 0 := by simp [PyData.depthAll]
theorem dp_all_le {xs : List PyData} {d : Nat} : PyData.depthAll xs ≤ d ↔ ∀ x, x ∈ xs → x.depth ≤ d := by
  induction xs with
  | nil => rw [dp_nil]; simp
  | cons y ys ih =>
    rw [dp_cons, Nat.max_le, ih]
    simp
/-- what the items of a row take -/
def row (xs : List PyData) : Nat := piled (PyData.shownAll xs)
theorem row_nil : row [] = 0 := by
  show piled (PyData.shownAll []) = 0
  rw [PyData.shownAll_nil]
  rfl
theorem row_cons (x : PyData) (xs : List PyData) : row (x :: xs) = x.shown.length + 2 + row xs := by
  show piled (PyData.shownAll (x :: xs)) = _
  rw [PyData.shownAll_cons]
  show ((x.shown :: PyData.shownAll xs).map fun t => t.length + 2).sum = _
  rw [List.map_cons, List.sum_cons]
  rfl
theorem row_app : ∀ xs ys : List PyData, row (xs ++ ys) = row xs + row ys
  | [], ys => by rw [row_nil, List.nil_append, Nat.zero_add]
  | x :: xs, ys => by rw [List.cons_append, row_cons, row_cons, row_app xs ys]; omega
theorem row_len : ∀ xs : List PyData, 2 * xs.length ≤ row xs
  | [] => by rw [row_nil]; simp
  | x :: xs => by rw [row_cons, List.length_cons]; have := row_len xs; omega
theorem row_mem {xs : List PyData} {x : PyData} (h : x ∈ xs) : x.shown.length ≤ row xs := by
  induction xs with
  | nil => cases h
  | cons y ys ih =>
    rw [row_cons]
    rcases List.mem_cons.mp h with rfl | h
    · omega
    · have := ih h; omega
theorem row_set : ∀ {xs : List PyData} {i : Nat} {x y : PyData}, xs[i]? = some x → row (xs.set i y) + x.shown.length = row xs + y.shown.length
  | [], _, _, _, h => by cases h
  | z :: zs, 0, x, y, h => by
    cases h
    rw [List.set_cons_zero, row_cons, row_cons]
    omega
  | z :: zs, i + 1, x, y, h => by
    have := row_set (xs := zs) (i := i) (y := y) h
    rw [List.set_cons_succ, row_cons, row_cons]
    omega
theorem row_le {xs : List PyData} {l : Nat} (h : ∀ x, x ∈ xs → x.shown.length ≤ l) : row xs ≤ xs.length * (l + 2) := by
  induction xs with
  | nil => rw [row_nil]; exact Nat.zero_le _
  | cons y ys ih =>
    rw [row_cons, List.length_cons, Nat.succ_mul]
    have h1 := h y (List.mem_cons_self ..)
    have h2 := ih fun x hx => h x (List.mem_cons_of_mem _ hx)
    omega
theorem join_row (xs : List PyData) : (Str.join ", " (PyData.shownAll xs)).length ≤ row xs := by
  cases xs with
  | nil => rw [PyData.shownAll_nil]; exact Nat.zero_le _
  | cons x xs =>
    have := join_length_add (PyData.shownAll (x :: xs)) (by rw [PyData.shownAll_cons]; exact List.cons_ne_nil _ _)
    show _ ≤ piled (PyData.shownAll (x :: xs))
    omega
theorem join_ge (xs : List PyData) : row xs ≤ (Str.join ", " (PyData.shownAll xs)).length + 2 := by
  cases xs with
  | nil => rw [row_nil]; exact Nat.zero_le _
  | cons x xs =>
    have := join_length_add (PyData.shownAll (x :: xs)) (by rw [PyData.shownAll_cons]; exact List.cons_ne_nil _ _)
    show piled (PyData.shownAll (x :: xs)) ≤ _
    omega
theorem tup_len (xs : List PyData) : (PyData.tuple xs).shown.length ≤ row xs + 3 := by
  rw [PyData.shown_tuple, app_len, app_len]
  have := join_row xs
  have e : (Str.ofString (if (xs.length == 1) = true then ",)" else ")")).length ≤ 2 := by split <;> decide
  have e1 : (Str.ofString "(").length = 1 := rfl
  omega
theorem tup_ge (xs : List PyData) : row xs ≤ (PyData.tuple xs).shown.length := by
  rw [PyData.shown_tuple, app_len, app_len]
  have := join_ge xs
  have e : 1 ≤ (Str.ofString (if (xs.length == 1) = true then ",)" else ")")).length := by split <;> decide
  have e1 : (Str.ofString "(").length = 1 := rfl
  omega
theorem lst_len (xs : List PyData) : (PyData.list xs).shown.length ≤ row xs + 3 := by
  rw [PyData.shown_list, app_len, app_len]
  have := join_row xs
  have e : (Str.ofString "]").length = 1 := rfl
  have e1 : (Str.ofString "[").length = 1 := rfl
  omega
theorem sh_tup {xs : List PyData} (h : ∀ x, x ∈ xs → x.showable = true) : (PyData.tuple xs).showable = true := by
  simp only [PyData.showable]
  exact Spec.showableAll_of h
theorem sh_lst {xs : List PyData} (h : ∀ x, x ∈ xs → x.showable = true) : (PyData.list xs).showable = true := by
  simp only [PyData.showable]
  exact Spec.showableAll_of h
theorem sh_all : ∀ {xs : List PyData}, PyData.showableAll xs = true → ∀ x, x ∈ xs → x.showable = true
  | [], _, x, hx => by cases hx
  | y :: ys, h, x, hx => by
    simp only [PyData.showableAll, Bool.and_eq_true] at h
    rcases List.mem_cons.mp hx with rfl | hx
    · exact h.1
    · exact sh_all h.2 x hx
theorem sh_of_tup {xs : List PyData} (h : (PyData.tuple xs).showable = true) : ∀ x, x ∈ xs → x.showable = true := by
  simp only [PyData.showable] at h
  exact sh_all h
/-- a row of fitting things -/
structure Fits (d l : Nat) (xs : List PyData) : Prop where
  sh : ∀ x, x ∈ xs → x.showable = true
  dp : ∀ x, x ∈ xs → x.depth ≤ d
  ln : row xs ≤ l
theorem Fits.tup {d l : Nat} {xs : List PyData} (h : Fits d l xs) : Fit (d + 1) (l + 3) (.tuple xs) := ⟨sh_tup h.sh, by rw [dp_tup]; have := dp_all_le.mpr h.dp; omega, by have := tup_len xs; have := h.ln; omega⟩
theorem Fits.lst {d l : Nat} {xs : List PyData} (h : Fits d l xs) : Fit (d + 1) (l + 3) (.list xs) := ⟨sh_lst h.sh, by rw [dp_lst]; have := dp_all_le.mpr h.dp; omega, by have := lst_len xs; have := h.ln; omega⟩
theorem Fit.items {d l : Nat} {xs : List PyData} (h : Fit d l (.tuple xs)) : Fits (d - 1) l xs ∧ 1 ≤ d := by
  have h1 := h.dp
  rw [dp_tup] at h1
  exact ⟨⟨sh_of_tup h.sh, dp_all_le.mp (by omega), Nat.le_trans (tup_ge xs) h.ln⟩, by omega⟩
theorem Fits.nil {d l : Nat} : Fits d l [] := ⟨fun x h => (nomatch h), fun x h => (nomatch h), (by rw [row_nil]; exact Nat.zero_le _)⟩
theorem Fits.cons {d l m : Nat} {x : PyData} {xs : List PyData} (h : Fit d l x) (t : Fits d m xs) : Fits d (l + 2 + m) (x :: xs) := by
  refine ⟨fun y hy => ?_, fun y hy => ?_, by rw [row_cons]; have := h.ln; have := t.ln; omega⟩
  · rcases List.mem_cons.mp hy with rfl | hy
    · exact h.sh
    · exact t.sh y hy
  · rcases List.mem_cons.mp hy with rfl | hy
    · exact h.dp
    · exact t.dp y hy
theorem Fits.app {d l m : Nat} {xs ys : List PyData} (h : Fits d l xs) (t : Fits d m ys) : Fits d (l + m) (xs ++ ys) := by
  refine ⟨fun y hy => ?_, fun y hy => ?_, by rw [row_app]; have := h.ln; have := t.ln; omega⟩
  · rcases List.mem_append.mp hy with hy | hy
    · exact h.sh y hy
    · exact t.sh y hy
  · rcases List.mem_append.mp hy with hy | hy
    · exact h.dp y hy
    · exact t.dp y hy
theorem Fits.mono {d d' l l' : Nat} {xs : List PyData} (h : Fits d l xs) (hd : d ≤ d') (hl : l ≤ l') : Fits d' l' xs := ⟨h.sh, fun x hx => Nat.le_trans (h.dp x hx) hd, Nat.le_trans h.ln hl⟩
theorem Fits.of {d l : Nat} {xs : List PyData} (h : ∀ x, x ∈ xs → Fit d l x) : Fits d (xs.length * (l + 2)) xs := ⟨fun x hx => (h x hx).sh, fun x hx => (h x hx).dp, row_le fun x hx => (h x hx).ln⟩
theorem row_sub {xs ys : List PyData} (h : xs.Sublist ys) : row xs ≤ row ys := by
  induction h with
  | slnil => exact Nat.le_refl _
  | cons a _ ih => rw [row_cons]; omega
  | cons_cons a _ ih => rw [row_cons, row_cons]; omega
theorem Fits.sub {d l : Nat} {xs ys : List PyData} (h : Fits d l ys) (s : xs.Sublist ys) : Fits d l xs := ⟨fun x hx => h.sh x (s.subset hx), fun x hx => h.dp x (s.subset hx), Nat.le_trans (row_sub s) h.ln⟩
/-! leaves -/
theorem fit_non : Fit 0 4 .none := ⟨by simp [PyData.showable], by simp [PyData.depth], by rw [PyData.shown_none]; decide⟩
theorem fit_bool (b : Bool) : Fit 0 5 (.bool b) := ⟨by simp [PyData.showable], by simp [PyData.depth], by rw [PyData.shown_bool]; cases b <;> decide⟩
theorem fit_intK {i : Int} {k : Nat} (hk : 1 ≤ k) (hk2 : k ≤ 560) (h : i.natAbs < 10 ^ k) : Fit 0 (k + 2) (.int i) := by
  have h2 : i.natAbs < 10 ^ 570 := Nat.lt_of_lt_of_le h (Nat.pow_le_pow_right (by decide) (by omega))
  refine ⟨?_, by simp [PyData.depth], ?_⟩
  · simp only [PyData.showable, decide_eq_true_eq]
    have := log_small h2
    omega
  · rw [PyData.shown_int]
    have := int_text_length_le10 (k := k) hk h
    rw [PySem.ofString_length]
    omega
theorem fit_str {z : Str} (hz : ∀ c, c ∈ z.cps.toList → c < 16 ^ 8) : Fit 0 (10 * z.length + 2) (.str z) := ⟨by simp [PyData.showable], by simp [PyData.depth], by rw [PyData.shown_str]; exact StrLaws.reprText_len z hz⟩
/-- what may be shown -/
theorem Fit.repr {d l : Nat} {x : PyData} (h : Fit d l x) (hd : d ≤ 40) (hl : l ≤ 16777216) : reprOk x := ⟨h.sh, Nat.le_trans h.dp hd, Nat.le_trans h.ln (Nat.le_trans hl sizeLine_big)⟩
theorem get_old {S : Store} {r : Nat} {o : MO} {S' : Store} (h : S[r]? = some o) : (S ++ S')[r]? = some o := by
  rw [List.getElem?_append_left]
  · exact h
  · rcases Nat.lt_or_ge r S.length with z | z
    · exact z
    · rw [List.getElem?_eq_none z] at h; cases h
theorem Fits.nil0 {d : Nat} : Fits d 0 [] := Fits.nil
theorem cut_sub (xs : List PyData) (lo hi : Option Int) : (cutD xs lo hi).Sublist xs := (List.take_sublist _ _).trans (List.drop_sublist _ _)
theorem small2 {n : Nat} (h : Nat.ble n 1000 = true) : n ≤ sizeLine := by have := Nat.le_of_ble_eq_true h; rw [sizeLine_eq]; omega
theorem small3 {n : Nat} (h : Nat.ble n 1000 = true) : n < sizeLine := by have := Nat.le_of_ble_eq_true h; rw [sizeLine_eq]; omega
theorem paired_all {p : PyData → Prop} : ∀ {xs ys : List PyData}, Paired (fun _ y => p y) xs ys → ys.length = xs.length ∧ ∀ y, y ∈ ys → p y
  | _, _, .nil => ⟨rfl, fun y h => (nomatch h)⟩
  | _, _, .cons a t => by
    obtain ⟨h1, h2⟩ := paired_all t
    refine ⟨by rw [List.length_cons, List.length_cons, h1], fun y hy => ?_⟩
    rcases List.mem_cons.mp hy with rfl | hy
    · exact a
    · exact h2 y hy

/-! ### == () -/
def rEqNilT (K : PySem.W.Frag) (neg : Bool) : R2 := fun x y H Q => ∃ (a b : Addr) (xs : List V), x = .ref a ∧ y = .ref b ∧ SqT K H a xs ∧ SqT K H b [] ∧ Q (.bl (cond neg (!xs.isEmpty) xs.isEmpty)) H
theorem op_eqNilT {X : Cx} (hu : X.A.units < cLine) : OpR X (compareOp .Eq) (rEqNilT X.K false) := by
  intro pins s σ H x y v u Q I rx ry h
  obtain ⟨a, b, xs, rfl, rfl, ha, hb, q⟩ := h
  obtain rfl : v = .ref a := rx
  obtain rfl : u = .ref b := ry
  obtain ⟨us, r1, p1, _⟩ := I.tuple ha
  obtain ⟨ws, r2, p2, _⟩ := I.tuple hb
  cases r2
  refine SeqAt.eq_tupleAt (e := fun _ => true) p1 p2 hu (fun j _ h2 => absurd h2 (by simp)) ?_
  cases r1 with
  | nil => exact ⟨.bl true, H, I, rfl, q⟩
  | cons _ _ => exact ⟨.bl false, H, I, by simp [L2.RelV], q⟩
theorem op_neNilT {X : Cx} (hu : X.A.units < cLine) : OpR X (compareOp .NotEq) (rEqNilT X.K true) := by
  intro pins s σ H x y v u Q I rx ry h
  obtain ⟨a, b, xs, rfl, rfl, ha, hb, q⟩ := h
  obtain rfl : v = .ref a := rx
  obtain rfl : u = .ref b := ry
  obtain ⟨us, r1, p1, _⟩ := I.tuple ha
  obtain ⟨ws, r2, p2, _⟩ := I.tuple hb
  cases r2
  refine SeqAt.RcNeAt.tuples (e := fun _ => true) p1 p2 hu (fun j _ h2 => absurd h2 (by simp)) X.prog X.w _ _ ?_
  cases r1 with
  | nil => exact ⟨.bl false, H, I, rfl, q⟩
  | cons _ _ => exact ⟨.bl true, H, I, by simp [L2.RelV], q⟩
def dEqNilT (neg : Bool) : AV → AV → Store → PQ → Prop := fun a b S P => match vw S a with
  | some (.tuple ds) => vw S b = some (.tuple []) ∧ P (.d (.bool (cond neg (!ds.isEmpty) ds.isEmpty))) S
  | _ => False
theorem vr_eqNilT {K : PySem.W.Frag} (neg : Bool) : VR2 K (rEqNilT K neg) (dEqNilT neg) := by
  intro Z As S H x y a b P Q rl ax ay h k
  unfold dEqNilT at h
  split at h
  · rename_i ds e1
    obtain ⟨p, vs, rfl, hp, t1⟩ := vw_tup ax e1
    obtain ⟨q, ws, rfl, hq, t2⟩ := vw_tup ay h.1
    cases t2
    refine ⟨p, q, vs, rfl, rfl, hp, hq, ?_⟩
    have e : vs.isEmpty = ds.isEmpty := by cases t1 <;> rfl
    rw [e]
    exact k.d rl (fun _ => .bl _) h.2
  · exact h.elim
section
variable {X : Cx} {a b : Expr} {g1 g2 : G} {pos : Pos} {k : Nat}
theorem pdt_eqNilT (hr : Room k X.A) (h1 : PD X a g1) (h2 : PD X b g2) : PDT X (.Compare a [.Eq] [b] pos) (gTest (gBin (dEqNilT false) g1 g2)) := pdt_cmp (op_eqNilT (by have := room_eq hr; omega)) (vr_eqNilT false) h1 h2 (nobehind _ (by decide) (by decide))
theorem pdt_neNilT (hr : Room k X.A) (h1 : PD X a g1) (h2 : PD X b g2) : PDT X (.Compare a [.NotEq] [b] pos) (gTest (gBin (dEqNilT true) g1 g2)) := pdt_cmp (op_neNilT (by have := room_eq hr; omega)) (vr_eqNilT true) h1 h2 (nobehind _ (by decide) (by decide))
end
end DL
/-! law k11: what is a name, a version, a label, a path -/
namespace K11
open PySem PySem.Spec PyProof.Rows L2 DL
def top (i : Nat) : Stmt := PySem.Challenge.pw_leastlinks_k11_names_versions_labels_pat.main.body.getD i (.Pass ⟨0, 0, 0, 0⟩)
def digS : Str := "0123456789"
/-- the module's constants -/
structure Gc (K : PySem.W.Frag) (mg : Str → Option Value) : Prop where
  g_MOST_LETTERS : ∃ t, mg "MOST_LETTERS" = some (.int 8 t)
  g_MOST_LABELS : ∃ t, mg "MOST_LABELS" = some (.int 10 t)
  g_DIGITS : ∃ t, mg "DIGITS" = some (.str digS t)
  g_MAIN_TEXT : ∃ t, mg "MAIN_TEXT" = some (.str "-" t)
def intD : PyData → Bool
  | .int _ => true
  | _ => false
def countD : PyData → Bool
  | .int i => decide (0 ≤ i)
  | _ => false
def okC (c : Nat) : Bool := decide (97 ≤ c) && decide (c ≤ 122)
def nameS (s : Str) : Bool := decide (1 ≤ s.length) && decide (s.length ≤ 8) && s.cps.toList.all okC
def nameD : PyData → Bool
  | .str s => nameS s
  | _ => false
def pairD (f : PyData → Bool) : PyData → Bool
  | .tuple [a, b] => f a && countD b
  | _ => false
def pathD : PyData → Bool
  | .tuple ds => decide (ds.length ≤ 10) && ds.all (pairD nameD)
  | _ => false
/-- a def that tells a truth of one value -/
def WB (f : PyData → Bool) : WD := fun as S P => ∃ x, as = [.d x] ∧ P (.d (.bool (f x))) S
theorem WB.len {f : PyData → Bool} {as : List AV} {S : Store} {P : PQ} (h : WB f as S P) : as.length = 1 := by obtain ⟨x, rfl, _⟩ := h; rfl
section
variable {P : Program} {w : World} {K : PySem.W.Frag} {mg : Str → Option Value} {base : Heap}
abbrev s_is_integer : Stmt := top 10
theorem sc_is_integer : FnScope ["value"] ["value"] (defScope s_is_integer) := ⟨rfl, rfl, rfl, by decide +kernel, rfl, by decide +kernel, by decide +kernel⟩
theorem ok_is_integer (D : DefAt K mg "is_integer" s_is_integer ["value"]) (B : Bl mg) : Own P w K mg base 1 "is_integer" ["value"] (WB intD) := by
  have sc := sc_is_integer
  refine okO D sc (fun as S P h => h.len) (fun f cdv A outer s H E hg hr => (pdss_one (pds_ret (pd_and (pd_callB call_isi vr_isi (by rfl) (B.b _ (by decide)) boot_isinstance (pda_cons (pdv 0) (pda_cons (pd_ty "int" (by rfl) (B.b _ (by decide)) (by decide +kernel)) pda_nil))) (pd_one (pd_not (pd_callB call_isi vr_isi (by rfl) (B.b _ (by decide)) boot_isinstance (pda_cons (pdv 0) (pda_cons (pd_ty "bool" (by rfl) (B.b _ (by decide)) (by decide +kernel)) pda_nil))))))))) (fun args S P h => ?_)
  obtain ⟨x, rfl, h⟩ := h
  cases x <;> exact ⟨by decide, by first | exact ⟨by decide, h⟩ | exact h⟩
abbrev s_is_count : Stmt := top 11
theorem sc_is_count : FnScope ["value"] ["value"] (defScope s_is_count) := ⟨rfl, rfl, rfl, by decide +kernel, rfl, by decide +kernel, by decide +kernel⟩
theorem ok_is_count (D : DefAt K mg "is_count" s_is_count ["value"]) (o_is_integer : Own P w K mg base 1 "is_integer" ["value"] (WB intD)) : Own P w K mg base 2 "is_count" ["value"] (WB countD) := by
  have sc := sc_is_count
  refine okO D sc (fun as S P h => h.len) (fun f cdv A outer s H E hg hr => (pdss_one (pds_ret (pd_and (pdc o_is_integer hg hr (by rfl) (pda_cons (pdv 0) pda_nil)) (pd_one (pd_ge (pdv 0) (pd_int))))))) (fun args S P h => ?_)
  obtain ⟨x, rfl, h⟩ := h
  refine ⟨x, rfl, ?_⟩
  cases x <;> exact h
abbrev s_is_name : Stmt := top 12
theorem sc_is_name : FnScope ["value", "letter"] ["value"] (defScope s_is_name) := ⟨rfl, rfl, rfl, by decide +kernel, rfl, by decide +kernel, by decide +kernel⟩
theorem sLe_a (c : Nat) : sLe "a" (sgn c) = decide (97 ≤ c) := by
  show (!decide (([c] : List Nat) < [97])) = _
  rw [lt_one]
  by_cases h : 97 ≤ c
  · rw [decide_eq_true h, decide_eq_false (by omega)]; rfl
  · rw [decide_eq_false h, decide_eq_true (by omega)]; rfl
theorem sLe_z (c : Nat) : sLe (sgn c) "z" = decide (c ≤ 122) := by
  show (!decide (([122] : List Nat) < [c])) = _
  rw [lt_one]
  by_cases h : c ≤ 122
  · rw [decide_eq_true h, decide_eq_false (by omega)]; rfl
  · rw [decide_eq_false h, decide_eq_true (by omega)]; rfl
/-- what a sign of a text says -/
def okL : PyData → PyData
  | .str x => .bool (sLe "a" x && sLe x "z")
  | _ => .none
theorem name_all (z : Str) : bls ((z.cps.toList.map fun c => PyData.str (sgn c)).map okL) = some (z.cps.toList.map okC) := by
  rw [← bls_map, List.map_map, List.map_map]
  congr 1
  refine List.map_congr_left fun c _ => ?_
  show PyData.bool (sLe "a" (sgn c) && sLe (sgn c) "z") = PyData.bool (okC c)
  rw [sLe_a, sLe_z]
  rfl
theorem str_size (z : Str) : z.cps.toList.length = z.length := by simp [Str.length]
theorem ok_is_name (D : DefAt K mg "is_name" s_is_name ["value"]) (B : Bl mg) (G : Gc K mg) : Own P w K mg base 1 "is_name" ["value"] (WB nameD) := by
  have sc := sc_is_name
  refine okO D sc (fun as S P h => h.len) (fun f cdv A outer s H E hg hr => (pdss_cons (pds_if (pdt_w (pdw_or (pdt_not (pdt_val (pd_callB call_isi vr_isi (by rfl) (B.b _ (by decide)) boot_isinstance (pda_cons (pdv 0) (pda_cons (pd_ty "str" (by rfl) (B.b _ (by decide)) (by decide +kernel)) pda_nil))))) (pdw_or1 (pdt_not (pdt_lele (pd_int) (pd_callB call_lenAll vr_len (by rfl) (B.b _ (by decide)) (by decide +kernel) (pda_cons (pdv 0) pda_nil)) (pd_gint G.g_MOST_LETTERS (by rfl))))))) (pdss_one (pds_ret (pd_bl))) pdss_nil) (pdss_one (pds_ret (pd_callB (cr_all rfl) vr_all (by rfl) (B.b _ (by decide)) (by decide +kernel) (pda_cons (pd_lc (own := [("letter", 1)]) rfl sc.nd (pdi_str (pdv 0)) (blkOk_by (N := ["value", "letter"]) (sc := defScope s_is_name) (by decide +kernel)) (cg_name (by decide)) (fun _ _ _ _ _ => (pg_name (i := 1) sc.nd rfl (Or.inl rfl))) (fun _ _ _ _ _ => pts_yes) (fun _ _ _ _ _ => (pd_lele (pd_str) (pdv 1) (pd_str)))) pda_nil)))))) (fun args S P h => ?_)
  obtain ⟨x, rfl, h⟩ := h
  refine ⟨by decide, ?_⟩
  cases x with
  | str z =>
    have h' : P (.d (.bool (nameS z))) S := h
    have fail : ¬ (1 ≤ z.length ∧ z.length ≤ 8) → P (.d (.bool false)) S := fun n => by
      have e : nameS z = false := by
        unfold nameS
        by_cases h1 : 1 ≤ z.length
        · rw [decide_eq_false (show ¬ z.length ≤ 8 from fun h2 => n ⟨h1, h2⟩)]; simp
        · rw [decide_eq_false h1]; simp
      rw [e] at h'
      exact h'
    refine cond_or (fun h1 => ?_) (fun h1 => ?_)
    · refine cond_or (fun h2 => ?_) (fun h2 => ?_)
      · refine fail fun ⟨_, n⟩ => ?_
        have h3 : iLe (z.length : Int) 8 = true := decide_eq_true (by omega)
        rw [h3] at h2
        cases h2
      · have e1 : 1 ≤ z.length := by have := of_decide_eq_true h1; omega
        have e2 : z.length ≤ 8 := by
          have h3 : iLe (z.length : Int) 8 = true := by cases c : iLe (z.length : Int) 8 <;> rw [c] at h2 <;> first | rfl | cases h2
          have := of_decide_eq_true h3
          omega
        refine ⟨?_, compD_map okL (fun x hx Q q => ?_) ?_⟩
        · rw [List.length_map, sizeLine_eq, str_size]
          omega
        · obtain ⟨c, _, rfl⟩ := List.mem_map.mp hx
          refine cond_or (fun h3 => ?_) (fun h3 => ?_)
          · have q' : Q (.d (.bool (sLe "a" (sgn c) && sLe (sgn c) "z"))) S := q
            rw [show sLe "a" (sgn c) = true from h3, Bool.true_and] at q'
            exact q'
          · have q' : Q (.d (.bool (sLe "a" (sgn c) && sLe (sgn c) "z"))) S := q
            rw [show sLe "a" (sgn c) = false from h3, Bool.false_and] at q'
            exact q'
        · show (match bls ((z.cps.toList.map fun c => PyData.str (sgn c)).map okL) with | some bs => P (.d (.bool (bs.all id))) S | none => False)
          rw [name_all]
          have e3 : (z.cps.toList.map okC).all id = nameS z := by
            unfold nameS
            rw [decide_eq_true e1, decide_eq_true e2, List.all_map]
            rfl
          show P (.d (.bool ((z.cps.toList.map okC).all id))) S
          rw [e3]
          exact h'
    · refine fail fun ⟨n, _⟩ => ?_
      have h3 : iLe 1 (z.length : Int) = true := decide_eq_true (by omega)
      rw [h3] at h1
      cases h1
  | none => exact h
  | bool b => exact h
  | int b => exact h
  | list b => exact h
  | tuple b => exact h
  | dict b => exact h
theorem pair_read {f g : PyData → Bool} {a b : PyData} {S : Store} {P : PQ} (h : P (.d (.bool (f a && g b))) S) : (f a = true → P (.d (.bool (g b))) S) ∧ (f a = false → P (.d (.bool false)) S) := by
  constructor
  · intro e
    rw [e, Bool.true_and] at h
    exact h
  · intro e
    rw [e, Bool.false_and] at h
    exact h
abbrev s_is_label : Stmt := top 14
theorem sc_is_label : FnScope ["value"] ["value"] (defScope s_is_label) := ⟨rfl, rfl, rfl, by decide +kernel, rfl, by decide +kernel, by decide +kernel⟩
theorem ok_is_label (D : DefAt K mg "is_label" s_is_label ["value"]) (B : Bl mg) (o_is_name : Own P w K mg base 1 "is_name" ["value"] (WB nameD)) (o_is_count : Own P w K mg base 2 "is_count" ["value"] (WB countD)) : Own P w K mg base 3 "is_label" ["value"] (WB (pairD nameD)) := by
  have sc := sc_is_label
  refine okO D sc (fun as S P h => h.len) (fun f cdv A outer s H E hg hr => (pdss_one (pds_ret (pd_and (pd_callB call_isi vr_isi (by rfl) (B.b _ (by decide)) boot_isinstance (pda_cons (pdv 0) (pda_cons (pd_ty "tuple" (by rfl) (B.b _ (by decide)) (by decide +kernel)) pda_nil))) (pd_and (pd_eq hr (pd_callB call_lenAll vr_len (by rfl) (B.b _ (by decide)) (by decide +kernel) (pda_cons (pdv 0) pda_nil)) (pd_int)) (pd_and (pdc o_is_name hg hr (by rfl) (pda_cons (pd_at (pdv 0) (pd_int)) pda_nil)) (pd_one (pdc o_is_count hg hr (by rfl) (pda_cons (pd_at (pdv 0) (pd_int)) pda_nil))))))))) (fun args S P h => ?_)
  obtain ⟨x, rfl, h⟩ := h
  refine ⟨by decide, ?_⟩
  cases x with
  | tuple ds =>
    match ds, h with
    | [], h => exact h
    | [_], h => exact h
    | [a, b], h => exact ⟨a, rfl, cond_or (fun h1 => ⟨b, rfl, (pair_read (f := nameD) (g := countD) h).1 h1⟩) (fun h1 => (pair_read (f := nameD) (g := countD) h).2 h1)⟩
    | a :: b :: c :: r, h => exact h
  | none => exact h
  | bool b => exact h
  | int b => exact h
  | list b => exact h
  | str b => exact h
  | dict b => exact h
abbrev s_is_version : Stmt := top 13
theorem sc_is_version : FnScope ["value"] ["value"] (defScope s_is_version) := ⟨rfl, rfl, rfl, by decide +kernel, rfl, by decide +kernel, by decide +kernel⟩
theorem ok_is_version (D : DefAt K mg "is_version" s_is_version ["value"]) (B : Bl mg) (o_is_count : Own P w K mg base 2 "is_count" ["value"] (WB countD)) : Own P w K mg base 3 "is_version" ["value"] (WB (pairD countD)) := by
  have sc := sc_is_version
  refine okO D sc (fun as S P h => h.len) (fun f cdv A outer s H E hg hr => (pdss_one (pds_ret (pd_and (pd_callB call_isi vr_isi (by rfl) (B.b _ (by decide)) boot_isinstance (pda_cons (pdv 0) (pda_cons (pd_ty "tuple" (by rfl) (B.b _ (by decide)) (by decide +kernel)) pda_nil))) (pd_and (pd_eq hr (pd_callB call_lenAll vr_len (by rfl) (B.b _ (by decide)) (by decide +kernel) (pda_cons (pdv 0) pda_nil)) (pd_int)) (pd_and (pdc o_is_count hg hr (by rfl) (pda_cons (pd_at (pdv 0) (pd_int)) pda_nil)) (pd_one (pdc o_is_count hg hr (by rfl) (pda_cons (pd_at (pdv 0) (pd_int)) pda_nil))))))))) (fun args S P h => ?_)
  obtain ⟨x, rfl, h⟩ := h
  refine ⟨by decide, ?_⟩
  cases x with
  | tuple ds =>
    match ds, h with
    | [], h => exact h
    | [_], h => exact h
    | [a, b], h => exact ⟨a, rfl, cond_or (fun h1 => ⟨b, rfl, (pair_read (f := countD) (g := countD) h).1 h1⟩) (fun h1 => (pair_read (f := countD) (g := countD) h).2 h1)⟩
    | a :: b :: c :: r, h => exact h
  | none => exact h
  | bool b => exact h
  | int b => exact h
  | list b => exact h
  | str b => exact h
  | dict b => exact h
theorem all_bls (xs : List PyData) (p : PyData → Bool) : bls (xs.map fun x => .bool (p x)) = some (xs.map p) := by
  rw [← bls_map, List.map_map]
  rfl
theorem path_go {xs : List PyData} {S : Store} {P : PQ} (h : P (.d (.bool (xs.all (pairD nameD)))) S) : dAll false [.d (.list (xs.map fun x => .bool (pairD nameD x)))] S P := by
  show (match bls (xs.map fun x => .bool (pairD nameD x)) with | some bs => P (.d (.bool (bs.all id))) S | none => False)
  rw [all_bls]
  show P (.d (.bool ((xs.map (pairD nameD)).all id))) S
  rw [List.all_map]
  exact h
abbrev s_is_path : Stmt := top 15
theorem sc_is_path : FnScope ["value", "label"] ["value"] (defScope s_is_path) := ⟨rfl, rfl, rfl, by decide +kernel, rfl, by decide +kernel, by decide +kernel⟩
theorem ok_is_path (D : DefAt K mg "is_path" s_is_path ["value"]) (B : Bl mg) (G : Gc K mg) (o_is_label : Own P w K mg base 3 "is_label" ["value"] (WB (pairD nameD))) : Own P w K mg base 4 "is_path" ["value"] (WB pathD) := by
  have sc := sc_is_path
  refine okO D sc (fun as S P h => h.len) (fun f cdv A outer s H E hg hr => (pdss_cons (pds_if (pdt_w (pdw_or (pdt_not (pdt_val (pd_callB call_isi vr_isi (by rfl) (B.b _ (by decide)) boot_isinstance (pda_cons (pdv 0) (pda_cons (pd_ty "tuple" (by rfl) (B.b _ (by decide)) (by decide +kernel)) pda_nil))))) (pdw_or1 (pdt_gt (pd_callB call_lenAll vr_len (by rfl) (B.b _ (by decide)) (by decide +kernel) (pda_cons (pdv 0) pda_nil)) (pd_gint G.g_MOST_LABELS (by rfl)))))) (pdss_one (pds_ret (pd_bl))) pdss_nil) (pdss_one (pds_ret (pd_callB (cr_all rfl) vr_all (by rfl) (B.b _ (by decide)) (by decide +kernel) (pda_cons (pd_lc (own := [("label", 1)]) rfl sc.nd (pdi_tup (pdv 0)) (blkOk_by (N := ["value", "label"]) (sc := defScope s_is_path) (by decide +kernel)) (cg_name (by decide)) (fun _ _ _ _ _ => (pg_name (i := 1) sc.nd rfl (Or.inl rfl))) (fun _ _ _ _ _ => pts_yes) (fun _ _ _ _ _ => (pdc o_is_label hg hr (by rfl) (pda_cons (pdv 1) pda_nil)))) pda_nil)))))) (fun args S P h => ?_)
  obtain ⟨x, rfl, h⟩ := h
  refine ⟨by decide, ?_⟩
  cases x with
  | tuple ds =>
    have q : P (.d (.bool (decide (ds.length ≤ 10) && ds.all (pairD nameD)))) S := h
    refine cond_or (fun h2 => ?_) (fun h2 => ?_)
    · have h3 : ¬ ds.length ≤ 10 := by have := of_decide_eq_true h2; omega
      rw [decide_eq_false h3, Bool.false_and] at q
      exact q
    · have h3 : ds.length ≤ 10 := by have := of_decide_eq_false h2; omega
      rw [decide_eq_true h3, Bool.true_and] at q
      exact ⟨by rw [sizeLine_eq]; omega, compD_map (fun x => .bool (pairD nameD x)) (fun x hx Q q => ⟨x, rfl, q⟩) (path_go q)⟩
  | none => exact h
  | bool b => exact h
  | int b => exact h
  | list b => exact h
  | str b => exact h
  | dict b => exact h
/-! ### the law's own -/
def abc : Str := "abcdefghijklmnopqrstuvwxyz"
theorem abc_at : abc.cps.toList = List.range' 97 26 := by decide +kernel
theorem mem_abc (c : Nat) : decide (c ∈ abc.cps.toList) = okC c := by
  unfold okC
  rw [abc_at, Bool.eq_iff_iff, Bool.and_eq_true, decide_eq_true_eq, decide_eq_true_eq, decide_eq_true_eq, List.mem_range'_1]
  omega
theorem filter_nil {α : Type} (l : List α) (p : α → Bool) : (l.filter fun c => !p c).isEmpty = l.all p := by
  induction l with
  | nil => rfl
  | cons c l ih =>
    rw [List.filter_cons, List.all_cons]
    cases hc : p c with
    | true =>
      rw [Bool.not_true, if_neg Bool.false_ne_true, Bool.true_and]
      exact ih
    | false => rfl
/-- the one sign of a text -/
def sgB (p : Nat → Bool) : PyData → Bool
  | .str x => match x.cps.toList with
    | [c] => p c
    | _ => false
  | _ => false
theorem signs_all (z : Str) (p : Nat → Bool) : ((z.cps.toList.map fun c => PyData.str (sgn c)).all (sgB p)) = z.cps.toList.all p := by
  rw [List.all_map]
  rfl
abbrev s__law_is_word : Stmt := top 29
theorem sc__law_is_word : FnScope ["_law_thing_here", "_law_sign"] ["_law_thing_here"] (defScope s__law_is_word) := ⟨rfl, rfl, rfl, by decide +kernel, rfl, by decide +kernel, by decide +kernel⟩
theorem ok__law_is_word (D : DefAt K mg "_law_is_word" s__law_is_word ["_law_thing_here"]) (B : Bl mg) : Own P w K mg base 1 "_law_is_word" ["_law_thing_here"] (WB nameD) := by
  have sc := sc__law_is_word
  refine okO D sc (fun as S P h => h.len) (fun f cdv A outer s H E hg hr => (pdss_cons (pds_if (pdt_w (pdw_or (pdt_not (pdt_val (pd_callB call_isi vr_isi (by rfl) (B.b _ (by decide)) boot_isinstance (pda_cons (pdv 0) (pda_cons (pd_ty "str" (by rfl) (B.b _ (by decide)) (by decide +kernel)) pda_nil))))) (pdw_or1 (pdt_not (pdt_ltlt (pd_int) (pd_callB call_lenAll vr_len (by rfl) (B.b _ (by decide)) (by decide +kernel) (pda_cons (pdv 0) pda_nil)) (pd_int)))))) (pdss_one (pds_ret (pd_bl))) pdss_nil) (pdss_one (pds_ret (pd_eqNil hr (pd_lc (own := [("_law_sign", 1)]) rfl sc.nd (pdi_str (pdv 0)) (blkOk_by (N := ["_law_thing_here", "_law_sign"]) (sc := defScope s__law_is_word) (by decide +kernel)) (cg_name (by decide)) (fun _ _ _ _ _ => (pg_name (i := 1) sc.nd rfl (Or.inl rfl))) (fun _ _ _ _ _ => (pts_one (pdt_notin hr (pdv 1) (pd_str) rfl))) (fun _ _ _ _ _ => (pdv 1))) (pd_lst pda_nil)))))) (fun args S P h => ?_)
  obtain ⟨x, rfl, h⟩ := h
  refine ⟨by decide, ?_⟩
  cases x with
  | str z =>
    have h' : P (.d (.bool (nameS z))) S := h
    have fail : ¬ (1 ≤ z.length ∧ z.length ≤ 8) → P (.d (.bool false)) S := fun n => by
      have e : nameS z = false := by
        unfold nameS
        by_cases h1 : 1 ≤ z.length
        · rw [decide_eq_false (show ¬ z.length ≤ 8 from fun h2 => n ⟨h1, h2⟩)]; simp
        · rw [decide_eq_false h1]; simp
      rw [e] at h'
      exact h'
    refine cond_or (fun h1 => ?_) (fun h1 => ?_)
    · refine cond_or (fun h2 => ?_) (fun h2 => ?_)
      · refine fail fun ⟨_, n⟩ => ?_
        have h3 : iLt (z.length : Int) 9 = true := decide_eq_true (by omega)
        rw [h3] at h2
        cases h2
      · have e1 : 1 ≤ z.length := by have := of_decide_eq_true h1; omega
        have e2 : z.length ≤ 8 := by
          have h3 : iLt (z.length : Int) 9 = true := by cases c : iLt (z.length : Int) 9 <;> rw [c] at h2 <;> first | rfl | cases h2
          have := of_decide_eq_true h3
          omega
        refine ⟨?_, compD_filter (fun x => !sgB okC x) id (fun x hx Q Nn q1 q2 => ?_) ?_⟩
        · rw [List.length_map, sizeLine_eq, str_size]
          omega
        · obtain ⟨c, _, rfl⟩ := List.mem_map.mp hx
          show cond (!decide (c ∈ abc.cps.toList)) _ _
          rw [mem_abc]
          exact cond_or (fun g => q1 g) (fun g => q2 g)
        · rw [List.nil_append, List.map_id]
          refine ⟨small2 rfl, ⟨rfl, ?_⟩⟩
          show P (.d (.bool ((List.filter (fun x => !sgB okC x) (z.cps.toList.map fun c => PyData.str (sgn c))).isEmpty))) S
          rw [filter_nil, signs_all]
          have e3 : z.cps.toList.all okC = nameS z := by
            unfold nameS
            rw [decide_eq_true e1, decide_eq_true e2]
            rfl
          rw [e3]
          exact h'
    · refine fail fun ⟨n, _⟩ => ?_
      have h3 : iLt 0 (z.length : Int) = true := decide_eq_true (by omega)
      rw [h3] at h1
      cases h1
  | none => exact h
  | bool b => exact h
  | int b => exact h
  | list b => exact h
  | tuple b => exact h
  | dict b => exact h
abbrev s__law_is_number : Stmt := top 30
theorem sc__law_is_number : FnScope ["_law_thing_here"] ["_law_thing_here"] (defScope s__law_is_number) := ⟨rfl, rfl, rfl, by decide +kernel, rfl, by decide +kernel, by decide +kernel⟩
theorem ok__law_is_number (D : DefAt K mg "_law_is_number" s__law_is_number ["_law_thing_here"]) (B : Bl mg) : Own P w K mg base 1 "_law_is_number" ["_law_thing_here"] (WB countD) := by
  have sc := sc__law_is_number
  refine okO D sc (fun as S P h => h.len) (fun f cdv A outer s H E hg hr => (pdss_one (pds_ret (pd_and (pd_callB call_isi vr_isi (by rfl) (B.b _ (by decide)) boot_isinstance (pda_cons (pdv 0) (pda_cons (pd_ty "int" (by rfl) (B.b _ (by decide)) (by decide +kernel)) pda_nil))) (pd_and (pd_not (pd_callB call_isi vr_isi (by rfl) (B.b _ (by decide)) boot_isinstance (pda_cons (pdv 0) (pda_cons (pd_ty "bool" (by rfl) (B.b _ (by decide)) (by decide +kernel)) pda_nil)))) (pd_one (pd_ge (pdv 0) (pd_int)))))))) (fun args S P h => ?_)
  obtain ⟨x, rfl, h⟩ := h
  cases x <;> exact ⟨by decide, by first | exact ⟨by decide, h⟩ | exact h⟩
end
end K11
/-! texts of versions and paths, in plain Lean -/
namespace K11
open PySem PySem.Spec PySem.Builtin.Str PyProof.Rows L2 DL
def digB (c : Nat) : Bool := decide (48 ≤ c) && decide (c ≤ 57)
def stepL (n c : Nat) : Nat := n * 10 + (c - 48)
def valL (l : List Nat) : Nat := l.foldl stepL 0
def badHead (l : List Nat) : Bool := decide (l = []) || (decide (l.head? = some 48) && !decide (l = [48]))
def countT (x : Str) : Option Nat := if badHead x.cps.toList || !x.cps.toList.all digB then none else some (valL x.cps.toList)
theorem dig_sub : ∀ i, i < 10 → strSub digS i (i + 1) = ⟨#[48 + i]⟩ := by decide +kernel
theorem find_dig' : ∀ i, i < 10 → Txt.find digS ⟨#[48 + i]⟩ = (i : Int) := by decide +kernel
theorem find_dig {c : Nat} (h : digB c = true) : Txt.find digS ⟨#[c]⟩ = ((c - 48 : Nat) : Int) := by
  obtain ⟨h1, h2⟩ := Bool.and_eq_true_iff.mp h
  have h1 := of_decide_eq_true h1
  have h2 := of_decide_eq_true h2
  have z := find_dig' (c - 48) (by omega)
  rw [show 48 + (c - 48) = c by omega] at z
  exact z
theorem find_not {c : Nat} (h : digB c = false) : Txt.find digS ⟨#[c]⟩ = -1 := by
  rcases find_spec digS ⟨#[c]⟩ with e | ⟨i, _, h1, h2⟩
  · exact e
  · exfalso
    have h3 : i < 10 := by
      have a1 : (⟨#[c]⟩ : Str).length = 1 := rfl
      have a2 : digS.length = 10 := by decide +kernel
      omega
    have z := dig_sub i h3
    have a1 : (⟨#[c]⟩ : Str).length = 1 := rfl
    rw [a1, z] at h2
    have e : 48 + i = c := by
      have := congrArg (fun s : Str => s.cps.toList) h2
      simpa using this
    unfold digB at h
    rw [decide_eq_true (by omega : 48 ≤ c), decide_eq_true (by omega : c ≤ 57)] at h
    cases h
/-- the counts of the parts -/
def cts (x y : Str) : List (Option Nat) := (Txt.split x y).map countT
theorem val_lt : ∀ (l : List Nat) (n : Nat), l.all digB = true → l.foldl stepL n < (n + 1) * 10 ^ l.length
  | [], n, _ => by
    show n < (n + 1) * 1
    omega
  | c :: l, n, h => by
    obtain ⟨h1, h2⟩ := Bool.and_eq_true_iff.mp (show (digB c && l.all digB) = true from h)
    have z := val_lt l (stepL n c) h2
    have d : c - 48 ≤ 9 := by
      have := of_decide_eq_true (Bool.and_eq_true_iff.mp h1).2
      omega
    show l.foldl stepL (stepL n c) < _
    refine Nat.lt_of_lt_of_le z ?_
    rw [List.length_cons, Nat.pow_succ, Nat.mul_comm (10 ^ l.length) 10, ← Nat.mul_assoc]
    refine Nat.mul_le_mul_right _ ?_
    unfold stepL
    omega
theorem count_lt {x : Str} {n : Nat} (h : countT x = some n) : n < 10 ^ x.length := by
  unfold countT at h
  split at h
  · cases h
  · rename_i c
    rw [Bool.or_eq_true] at c
    have hd : x.cps.toList.all digB = true := by
      cases e : x.cps.toList.all digB with
      | true => rfl
      | false =>
        rw [e] at c
        exact absurd (.inr rfl) c
    cases h
    have z := val_lt x.cps.toList 0 hd
    have e : x.length = x.cps.toList.length := by simp [Str.length]
    rw [e]
    show x.cps.toList.foldl stepL 0 < _
    omega
theorem cts_lt {x y : Str} {n : Nat} (hy : 1 ≤ y.length) (h : some n ∈ cts x y) : n < 10 ^ x.length := by
  obtain ⟨z, hz, e⟩ := List.mem_map.mp h
  exact Nat.lt_of_lt_of_le (count_lt e) (Nat.pow_le_pow_right (by decide) (part_len hy hz))
/-- the label that a text has, by the first slash -/
def labIn (x : Str) : Option (Str × Nat) :=
  match countT (Txt.partition x "/").2.2 with
  | none => none
  | some n => if nameS (Txt.partition x "/").1 then some ((Txt.partition x "/").1, n) else none
def labD : Option (Str × Nat) → PyData
  | none => .none
  | some (x, n) => .tuple [.str x, .int n]
def lbs (x : Str) : List (Option (Str × Nat)) := (Txt.split x ">").map labIn
/-- the path that a text has, as data; none if there is none -/
def pathIn (x : Str) : PyData := if x.cps.toList = [45] then .tuple [] else if 10 < (lbs x).length ∨ none ∈ lbs x then .none else .tuple ((lbs x).map labD)
def verL : List (Option Nat) → PyData
  | [some a, some b] => .tuple [.int (a : Int), .int (b : Int)]
  | _ => .none
def verIn (x : Str) : PyData := verL (cts x ".")
def dig10 : Str := "0123456789"
theorem dig10_at : dig10.cps.toList = List.range' 48 10 := by decide +kernel
theorem mem_dig (c : Nat) : decide (c ∈ dig10.cps.toList) = digB c := by
  unfold digB
  rw [dig10_at, Bool.eq_iff_iff, Bool.and_eq_true, decide_eq_true_eq, decide_eq_true_eq, decide_eq_true_eq, List.mem_range'_1]
  omega
theorem int_of {x : Str} (h : x.cps.toList.all digB = true) (h0 : x.cps.toList ≠ []) (hl : x.length ≤ 640) : intText? x = some ((valL x.cps.toList : Nat) : Int) := by
  have hd : NumText.AllDigits x.cps.toList := fun c hc => by
    obtain ⟨a, b⟩ := Bool.and_eq_true_iff.mp (List.all_eq_true.mp h c hc)
    exact ⟨of_decide_eq_true a, of_decide_eq_true b⟩
  exact intText_digits hd h0 (by omega)
def slash : Str := ⟨#[47]⟩
theorem slash_is : Str.ofString "/" = slash := by decide +kernel
def labOf2 : List Str → Option (Str × Nat)
  | [a, b] => if nameS a then (countT b).map fun n => (a, n) else none
  | _ => none
theorem labIn_is {x a b : Str} (h : (Txt.partition x slash).1 = a) (h2 : (Txt.partition x slash).2.2 = b) : labIn x = if nameS a then (countT b).map fun n => (a, n) else none := by
  unfold labIn
  rw [slash_is, h, h2]
  cases countT b with
  | none => cases nameS a <;> rfl
  | some n => rfl
theorem app_cancel {a b c : Str} (h : a ++ slash ++ b = a ++ slash ++ c) : b = c := by
  have z := congrArg (fun s : Str => s.cps.toList) h
  have t : ∀ u v : Str, (u ++ v).cps.toList = u.cps.toList ++ v.cps.toList := fun u v => by
    show (u.cps ++ v.cps).toList = _
    rw [Array.toList_append]
  simp only [t] at z
  exact Str.ext' (Array.toList_inj.mp (List.append_cancel_left z))
theorem count_slash {x : Str} (h : 47 ∈ x.cps.toList) : countT x = none := by
  have e : x.cps.toList.all digB = false := by
    rw [List.all_eq_false]
    exact ⟨47, h, by decide⟩
  unfold countT
  rw [e, Bool.not_false, Bool.or_true]
  rfl
theorem labOf_eq (x : Str) : labOf2 (Txt.split x slash) = labIn x := by
  have js := StrLaws.join_split x slash
  have fr := StrLaws.split_free x 47
  have ps := StrLaws.partition_sum x slash
  rcases partition_whole x slash with ⟨hp, hn⟩ | ⟨i, hp, hi, hk⟩
  · have nm : 47 ∉ x.cps.toList := fun hm => by
      obtain ⟨i, hi⟩ := (mem_iff_at x 47).mp hm
      exact hn i hi
    rw [labIn_is (a := x) (b := Str.empty) (by rw [hp]) (by rw [hp])]
    have e1 : countT Str.empty = none := by decide +kernel
    rw [e1]
    have ln := split_len x 47
    rw [cnt_none 47 _ nm] at ln
    have l1 : (Txt.split x slash).length = 1 := by
      have : ((Txt.split x slash).length : Int) = 1 + 0 := ln
      omega
    match hs : Txt.split x slash, l1 with
    | [a], _ => cases nameS x <;> rfl
  · have hm : 47 ∈ x.cps.toList := (mem_iff_at x 47).mpr ⟨i, hi⟩
    have hd : ∀ a, (Txt.split x slash)[0]? = some a → (Txt.partition x slash).1 = a := fun a ha => by
      rcases split_head x slash (by decide +kernel) a ha with ⟨_, hn⟩ | ⟨j, e, hj, hl⟩
      · exact absurd hi (hn i)
      · have ij : i = j := by
          rcases Nat.lt_trichotomy i j with l | l | l
          · exact absurd hi (hl i l)
          · exact l
          · exact absurd hj (hk j l)
        rw [hp, e, ij]
    have sep : (Txt.partition x slash).2.1 = slash := by rw [hp]
    rw [sep] at ps
    match hs : Txt.split x slash with
    | [] =>
      have := split_pos x slash
      rw [hs] at this
      cases this
    | [a] =>
      have ea : a = x := by
        rw [hs] at js
        exact js
      have z := fr a (by show a ∈ Txt.split x slash; rw [hs]; exact .head _)
      rw [ea] at z
      exact absurd hm z
    | [a, b] =>
      have h1 := hd a (by rw [hs]; rfl)
      rw [hs] at js
      have h2 : (Txt.partition x slash).2.2 = b := by
        rw [h1] at ps
        exact app_cancel (a := a) (ps.trans (show a ++ slash ++ b = x from js).symm)
      rw [labIn_is h1 h2]
      rfl
    | a :: b :: c :: r =>
      have h1 := hd a (by rw [hs]; rfl)
      rw [hs] at js
      have h2 : (Txt.partition x slash).2.2 = b ++ slash ++ Str.join slash (c :: r) := by
        rw [h1] at ps
        exact app_cancel (a := a) (ps.trans (show a ++ slash ++ (b ++ slash ++ Str.join slash (c :: r)) = x from js).symm)
      rw [labIn_is h1 h2, count_slash]
      · show none = _
        cases nameS a <;> rfl
      · show 47 ∈ ((b.cps ++ slash.cps) ++ (Str.join slash (c :: r)).cps).toList
        rw [Array.toList_append, Array.toList_append]
        exact List.mem_append_left _ (List.mem_append_right _ (.head _))
end K11
/-! law k11: pairs, judged; texts read by the program -/
namespace DL
open PySem PySem.Spec PyProof.Rows L2
theorem loopD_cnt {gg : GG} {body : GS} (I : Nat → DEnv → Store → Prop) {D : DE} : ∀ {items : List PyData} {n : Nat} {env : DEnv} {S : Store},
    (∀ j x, items[j]? = some x → ∀ env S, I (n + j) env S → ∀ E : DE, (∀ e s, I (n + j + 1) e s → E.nx e s) → (∀ e s, I (n + j + 1) e s → E.ct e s) → E.rt = D.rt → E.bk = D.nx → gg (.d x) env S fun env' S' => body env' S' E) →
    (∀ env S, I (n + items.length) env S → D.nx env S) → I n env S → loopD gg body items env S D
  | [], n, env, S, _, k, i => k env S i
  | x :: xs, n, env, S, h, k, i => by
    have step : ∀ e s, I (n + 1) e s → loopD gg body xs e s D := fun e s is => by
      refine loopD_cnt I (n := n + 1) (fun j y hy env S i E en ec er eb => ?_) (fun env S i => ?_) is
      · refine h (j + 1) y hy env S (by rw [show n + (j + 1) = n + 1 + j by omega]; exact i) E (fun e s is => en e s ?_) (fun e s is => ec e s ?_) er eb
        · rw [show n + 1 + j + 1 = n + (j + 1) + 1 by omega]; exact is
        · rw [show n + 1 + j + 1 = n + (j + 1) + 1 by omega]; exact is
      · refine k env S ?_
        rw [List.length_cons, show n + (xs.length + 1) = n + 1 + xs.length by omega]
        exact i
    exact h 0 x rfl env S i _ step step rfl rfl
theorem atx0 {α : Type} {x : α} {xs : List α} : atI (x :: xs) 0 = some x := atI_nat (j := 0) rfl
theorem not_t {c : Bool} (h : (!c) = true) : c = false := by cases c <;> first | rfl | cases h
theorem not_f {c : Bool} (h : (!c) = false) : c = true := by cases c <;> first | rfl | cases h
theorem and_t {g1 g2 : GT} {env : DEnv} {S : Store} {P : Bool → Store → Prop} (h : g1 env S fun c S1 => cond c (g2 env S1 P) (P false S1)) : gAnd g1 g2 env S P := h
theorem or_t {g1 g2 : GT} {env : DEnv} {S : Store} {P : Bool → Store → Prop} (h : g1 env S fun c S1 => cond c (P true S1) (g2 env S1 P)) : gOr g1 g2 env S P := h
theorem t_ix0 {neg : Bool} {i : Nat} {env : DEnv} {S : Store} {k : Bool → Store → Prop} {x y : Str} {c : Nat} {r : List Nat} (hi : env[i]? = some (some (.d (.str x)))) (hl : x.cps.toList = c :: r)
    (h : k (cond neg (!decide (sgn c = y)) (decide (sgn c = y))) S) : gTest (gBin (dEq neg) (gBin dIx (gVar i) (gC (.int 0))) (gC (.str y))) env S k := by
  unfold gTest gBin gVar gC
  rw [hi]
  refine ix_s (a := .d (.str x)) (b := .d (.int 0)) (z := x) (i := 0) rfl rfl (c := c) (by rw [hl]; exact atx0) ?_
  exact h
theorem tup_ix2 {i : Nat} {env : DEnv} {S : Store} {D : DE} {x y : PyData} (hi : env[i]? = some (some (.d (.list [x, y])))) (h : D.rt (.d (.tuple [x, y])) S) :
    gsRet (fun env S P => DL.gCons (gBin dIx (gVar i) (gC (.int 0))) (DL.gCons (gBin dIx (gVar i) (gC (.int 1))) DL.gNil) env S fun as S1 => as.length ≤ sizeLine ∧ dTup as S1 P) env S D := by
  dsimp only [gsRet, DL.gCons, DL.gNil, gBin, gVar, gC]
  rw [hi]
  refine ix_l (a := .d (.list [x, y])) (b := .d (.int 0)) rfl rfl atx0 ?_
  refine ix_l (a := .d (.list [x, y])) (b := .d (.int 1)) rfl rfl at1 ?_
  exact ⟨small2 rfl, h⟩
end DL
namespace K11
open PySem PySem.Spec PyProof.Rows L2 DL
/-- what one def of the two may be given -/
def two (fw fn : Addr) : Addr → Option WD := fun a => if a = fw then some (WB nameD) else if a = fn then some (WB countD) else none
def WPair (fw fn : Addr) : WD := fun as S P => ∃ x a f, as = [.d x, .v (.ref a)] ∧ two fw fn a = some (WB f) ∧ P (.d (.bool (pairD f x))) S
def WJ : WD := fun as S P => ∃ x, as = [.d x] ∧ P (.d (.list [.bool (nameD x), .bool (pairD countD x), .bool (pairD nameD x), .bool (pathD x)])) S
def ctD : Option Nat → PyData
  | none => .none
  | some n => .int (n : Int)
def WCt : WD := fun as S P => ∃ x : Str, as = [.d (.str x)] ∧ x.length ≤ 570 ∧ P (.d (ctD (countT x))) S
section
variable {P : Program} {w : World} {K : PySem.W.Frag} {mg : Str → Option Value} {base : Heap} {fa__law_is_word fa__law_is_number : Addr}
abbrev s__law_is_pair : Stmt := top 31
theorem sc__law_is_pair : FnScope ["_law_thing_here", "_law_is_right"] ["_law_thing_here", "_law_is_right"] (defScope s__law_is_pair) := ⟨rfl, rfl, rfl, by decide +kernel, rfl, by decide +kernel, by decide +kernel⟩
theorem ok__law_is_pair (D : DefAt K mg "_law_is_pair" s__law_is_pair ["_law_thing_here", "_law_is_right"]) (B : Bl mg) (o__law_is_number : Own P w K mg base 1 "_law_is_number" ["_law_thing_here"] (WB countD))
    (hA : ∀ f W, two fa__law_is_word fa__law_is_number f = some W → HeldD P w K mg base 1 f W) : Own P w K mg base 2 "_law_is_pair" ["_law_thing_here", "_law_is_right"] (WPair fa__law_is_word fa__law_is_number) := by
  have sc := sc__law_is_pair
  refine okO D sc (fun as S P h => by obtain ⟨_, _, _, rfl, _⟩ := h; rfl) (fun f cdv A outer s H E hg hr => (pdss_one (pds_ret (pd_and (pd_callB call_isi vr_isi (by rfl) (B.b _ (by decide)) boot_isinstance (pda_cons (pdv 0) (pda_cons (pd_ty "tuple" (by rfl) (B.b _ (by decide)) (by decide +kernel)) pda_nil))) (pd_and (pd_eq hr (pd_callB call_lenAll vr_len (by rfl) (B.b _ (by decide)) (by decide +kernel) (pda_cons (pdv 0) pda_nil)) (pd_int)) (pd_and (pd_callA (i := 1) hA hg hr rfl (pda_cons (pd_at (pdv 0) (pd_int)) pda_nil)) (pd_one (pdc o__law_is_number hg hr (by rfl) (pda_cons (pd_at (pdv 0) (pd_int)) pda_nil))))))))) (fun args S P h => ?_)
  obtain ⟨x, a, f, rfl, hf, h⟩ := h
  refine ⟨by decide, ?_⟩
  cases x with
  | tuple ds =>
    match ds, h with
    | [], h => exact h
    | [_], h => exact h
    | [u, v], h => exact ⟨a, _, rfl, hf, u, rfl, cond_or (fun h1 => ⟨v, rfl, (pair_read (f := f) (g := countD) h).1 h1⟩) (fun h1 => (pair_read (f := f) (g := countD) h).2 h1)⟩
    | u :: v :: z :: r, h => exact h
  | none => exact h
  | bool b => exact h
  | int b => exact h
  | list b => exact h
  | str b => exact h
  | dict b => exact h
abbrev s__law_judged : Stmt := top 32
theorem sc__law_judged : FnScope ["_law_thing_here", "_law_found", "_law_is_tuple", "_law_one"] ["_law_thing_here"] (defScope s__law_judged) := ⟨rfl, rfl, rfl, by decide +kernel, rfl, by decide +kernel, by decide +kernel⟩
theorem ok__law_judged (D : DefAt K mg "_law_judged" s__law_judged ["_law_thing_here"]) (B : Bl mg) (o__law_is_word : Own P w K mg base 1 "_law_is_word" ["_law_thing_here"] (WB nameD)) (m__law_is_word : mg "_law_is_word" = some (.ref fa__law_is_word)) (m__law_is_number : mg "_law_is_number" = some (.ref fa__law_is_number)) (ne : fa__law_is_number ≠ fa__law_is_word)
    (o__law_is_pair : Own P w K mg base 2 "_law_is_pair" ["_law_thing_here", "_law_is_right"] (WPair fa__law_is_word fa__law_is_number)) : Own P w K mg base 3 "_law_judged" ["_law_thing_here"] WJ := by
  have sc := sc__law_judged
  refine okO D sc (fun as S P h => by obtain ⟨_, rfl, _⟩ := h; rfl) (fun f cdv A outer s H E hg hr => (pdss_cons (pds_set (i := 1) sc.nd rfl (Or.inl rfl) (pd_lst (pda_cons (pdc o__law_is_word hg hr (by rfl) (pda_cons (pdv 0) pda_nil)) (pda_cons (pdc o__law_is_pair hg hr (by rfl) (pda_cons (pdv 0) (pda_cons (pd_tV (pe_glob (v := .ref fa__law_is_number) (by rfl) m__law_is_number rfl)) pda_nil))) (pda_cons (pdc o__law_is_pair hg hr (by rfl) (pda_cons (pdv 0) (pda_cons (pd_tV (pe_glob (v := .ref fa__law_is_word) (by rfl) m__law_is_word rfl)) pda_nil))) pda_nil))))) (pdss_cons (pds_set (i := 2) sc.nd rfl (Or.inl rfl) (pd_and (pd_callB call_isi vr_isi (by rfl) (B.b _ (by decide)) boot_isinstance (pda_cons (pdv 0) (pda_cons (pd_ty "tuple" (by rfl) (B.b _ (by decide)) (by decide +kernel)) pda_nil))) (pd_one (pd_lt (pd_callB call_lenAll vr_len (by rfl) (B.b _ (by decide)) (by decide +kernel) (pda_cons (pdv 0) pda_nil)) (pd_int))))) (pdss_one (pds_ret (pd_add (pdv 1) (pd_lst (pda_cons (pd_and (pdv 2) (pd_one (pd_callB (cr_all rfl) vr_all (by rfl) (B.b _ (by decide)) (by decide +kernel) (pda_cons (pd_lc (own := [("_law_one", 3)]) rfl sc.nd (pdi_tup (pdv 0)) (blkOk_by (N := ["_law_thing_here", "_law_found", "_law_is_tuple", "_law_one"]) (sc := defScope s__law_judged) (by decide +kernel)) (cg_name (by decide)) (fun _ _ _ _ _ => (pg_name (i := 3) sc.nd rfl (Or.inl rfl))) (fun _ _ _ _ _ => pts_yes) (fun _ _ _ _ _ => (pdc o__law_is_pair hg hr (by rfl) (pda_cons (pdv 3) (pda_cons (pd_tV (pe_glob (v := .ref fa__law_is_word) (by rfl) m__law_is_word rfl)) pda_nil))))) pda_nil)))) pda_nil)))))))) (fun args S P h => ?_)
  obtain ⟨x, rfl, h⟩ := h
  have tw : two fa__law_is_word fa__law_is_number fa__law_is_word = some (WB nameD) := if_pos rfl
  have tn : two fa__law_is_word fa__law_is_number fa__law_is_number = some (WB countD) := by unfold two; rw [if_neg ne, if_pos rfl]
  refine ⟨x, rfl, x, _, countD, rfl, tn, x, _, nameD, rfl, tw, small2 rfl, ⟨by decide, ?_⟩⟩
  have no : pathD x = false → P (.d (.list ([.bool (nameD x), .bool (pairD countD x), .bool (pairD nameD x)] ++ [.bool false]))) S := fun e => by
    rw [e] at h
    exact h
  cases x with
  | tuple ds =>
    refine cond_or (fun h1 => ?_) (fun h1 => ?_)
    · have h2 : ds.length ≤ 10 := by have := of_decide_eq_true h1; omega
      refine ⟨by rw [sizeLine_eq]; omega, compD_map (fun x => .bool (pairD nameD x)) (fun x hx Q q => ⟨x, _, nameD, rfl, tw, q⟩) ?_⟩
      dsimp only [DL.gNil, List.nil_append]
      refine path_go ⟨small2 rfl, small2 rfl, ?_⟩
      have e : pathD (.tuple ds) = ds.all (pairD nameD) := by
        show (decide (ds.length ≤ 10) && _) = _
        rw [decide_eq_true h2, Bool.true_and]
      rw [e] at h
      exact h
    · have h2 : ¬ ds.length ≤ 10 := by have := of_decide_eq_false h1; omega
      refine ⟨small2 rfl, small2 rfl, no ?_⟩
      show (decide (ds.length ≤ 10) && _) = _
      rw [decide_eq_false h2, Bool.false_and]
  | none => exact ⟨small2 rfl, small2 rfl, no rfl⟩
  | bool b => exact ⟨small2 rfl, small2 rfl, no rfl⟩
  | int b => exact ⟨small2 rfl, small2 rfl, no rfl⟩
  | list b => exact ⟨small2 rfl, small2 rfl, no rfl⟩
  | str b => exact ⟨small2 rfl, small2 rfl, no rfl⟩
  | dict b => exact ⟨small2 rfl, small2 rfl, no rfl⟩
abbrev s_count_in : Stmt := top 19
theorem sc_count_in : FnScope ["text", "number", "character", "digit"] ["text"] (defScope s_count_in) := ⟨rfl, rfl, rfl, by decide +kernel, rfl, by decide +kernel, by decide +kernel⟩
theorem ok_count_in (D : DefAt K mg "count_in" s_count_in ["text"]) (G : Gc K mg) : Own P w K mg base 1 "count_in" ["text"] WCt := by
  have sc := sc_count_in
  refine okO D sc (fun as S P h => by obtain ⟨_, rfl, _⟩ := h; rfl) (fun f cdv A outer s H E hg hr => (pdss_cons (pds_if (pdt_w (pdw_or (pdt_eq hr (pdv 0) (pd_str)) (pdw_or1 (pdt_w (pdw_and (pdt_eq hr (pd_at (pdv 0) (pd_int)) (pd_str)) (pdw_and1 (pdt_ne hr (pdv 0) (pd_str)))))))) (pdss_one (pds_ret (pd_non))) pdss_nil) (pdss_cons (pds_set (i := 1) sc.nd rfl (Or.inl rfl) (pd_int)) (pdss_cons (pds_for PassesOwn.never rfl (pdi_str (pdv 0)) (pdg_name (i := 2) sc.nd rfl (Or.inl rfl)) (pdss_cons (pds_set (i := 3) sc.nd rfl (Or.inl rfl) (pd_bm PySem.F.plainAttrs_str PySem.F.slot_str_find PySem.F.type_str_find mt_find vr_find (pd_gstr G.g_DIGITS (by rfl)) (pda_cons (pdv 2) pda_nil))) (pdss_cons (pds_if (pdt_lt (pdv 3) (pd_int)) (pdss_one (pds_ret (pd_non))) pdss_nil) (pdss_one (pds_set (i := 1) sc.nd rfl (Or.inl rfl) (pd_add (pd_mul (pdv 1) (pd_int)) (pdv 3))))))) (pdss_one (pds_ret (pdv 1))))))) (fun args S P h => ?_)
  obtain ⟨x, rfl, hx, h⟩ := h
  have bad : badHead x.cps.toList = true → P (.d .none) S := fun e => by
    unfold countT at h
    rw [e] at h
    exact h
  have val : badHead x.cps.toList = false → x.cps.toList.all digB = true → P (.d (.int (valL x.cps.toList))) S := fun e e2 => by
    unfold countT at h
    rw [e, e2] at h
    exact h
  have odd : ∀ (i c : Nat), x.cps.toList[i]? = some c → digB c = false → P (.d .none) S := fun i c hc hd => by
    have e : x.cps.toList.all digB = false := by
      rw [List.all_eq_false]
      exact ⟨c, List.mem_of_getElem? hc, by rw [hd]; exact Bool.false_ne_true⟩
    unfold countT at h
    rw [e, Bool.not_false, Bool.or_true] at h
    exact h
  refine cond_or (c := decide (x = "")) (fun h0 => ?_) (fun h0 => ?_)
  · rw [str_dec] at h0
    have h0 := of_decide_eq_true h0
    exact bad (by rw [h0]; rfl)
  rw [str_dec] at h0
  have h0 : x.cps.toList ≠ [] := of_decide_eq_false h0
  obtain ⟨c, r, hl⟩ := List.exists_cons_of_ne_nil h0
  refine and_t (t_ix0 rfl hl ?_)
  have h48 : decide (sgn c = "0") = decide (c = 48) := by
    rw [str_dec]
    show decide (([c] : List Nat) = [48]) = _
    rw [Bool.eq_iff_iff, decide_eq_true_eq, decide_eq_true_eq]
    exact ⟨fun h => by cases h; rfl, fun h => by rw [h]⟩
  have main : badHead x.cps.toList = false → gsSeq (gsAsg (gC (.int 0)) (ggName 1)) (gsSeq (gsFor (giStr (gVar 0)) (ggName 2) (gsSeq (gsAsg (gM "str" dFind (gC (.str digS)) (DL.gCons (gVar 2) DL.gNil)) (ggName 3))
      (gsSeq (gsIf (gTest (gBin (dOrd iLt sLt) (gVar 3) (gC (.int 0)))) (gsRet (gC .none)) gsNext) (gsAsg (gBin dAdd (gBin dMul (gVar 1) (gC (.int 10))) (gVar 3)) (ggName 1))))) (gsRet (gVar 1)))
      [some (.d (.str x)), none, none, none] S ⟨fun _ S' => P (.d .none) S', P, fun _ _ => False, fun _ _ => False⟩ := fun hb => by
    show loopD _ _ (x.cps.toList.map fun c => PyData.str (sgn c)) [some (.d (.str x)), some (.d (.int 0)), none, none] S _
    refine loopD_cnt (fun j e s => s = S ∧ (∀ c ∈ x.cps.toList.take j, digB c = true) ∧ ∃ a b, e = [some (.d (.str x)), some (.d (.int ((valL (x.cps.toList.take j) : Nat) : Int))), a, b]) (n := 0) (fun j y hy env S' I E en ec er eb => ?_) (fun env S' I => ?_)
      ⟨rfl, fun c hc => (by rw [List.take_zero] at hc; cases hc), _, _, rfl⟩
    · rw [Nat.zero_add] at I en
      obtain ⟨rfl, hd, a, b, rfl⟩ := I
      rw [List.getElem?_map] at hy
      obtain ⟨c, hc, rfl⟩ := Option.map_eq_some_iff.mp hy
      refine ⟨rfl, ?_⟩
      cases hcd : digB c with
      | true =>
        have e := find_dig hcd
        refine cond_f (c := iLt (Txt.find digS (sgn c)) 0) (by show decide _ = _; rw [show Txt.find digS (sgn c) = _ from e]; exact decide_eq_false (by omega)) ?_
        refine ⟨.inr ⟨by decide, by decide⟩, en _ _ ⟨rfl, fun d hm => ?_, some (.d (.str (sgn c))), some (.d (.int (Txt.find digS (sgn c)))), ?_⟩⟩
        · rw [List.take_add_one, hc, List.mem_append] at hm
          rcases hm with hm | hm
          · exact hd d hm
          · obtain rfl : d = c := by simpa using hm
            exact hcd
        · rw [show Txt.find digS (sgn c) = _ from e, List.take_add_one, hc]
          have e2 : ((valL (x.cps.toList.take j ++ [c]) : Nat) : Int) = (valL (x.cps.toList.take j) : Int) * 10 + ((c - 48 : Nat) : Int) := by
            unfold valL
            rw [List.foldl_append]
            show ((stepL _ _ : Nat) : Int) = _
            unfold stepL
            push_cast
            rfl
          show _ = [some (AV.d (.str x)), some (.d (.int (valL (x.cps.toList.take j ++ [c]) : Nat))), _, _]
          rw [e2]
          rfl
      | false =>
        have e := find_not hcd
        refine cond_t (c := iLt (Txt.find digS (sgn c)) 0) (by show decide _ = _; rw [show Txt.find digS (sgn c) = _ from e]; rfl) ?_
        show E.rt (.d .none) _
        rw [er]
        exact odd j c hc hcd
    · rw [List.length_map, Nat.zero_add, List.take_length] at I
      obtain ⟨rfl, hd, a, b, rfl⟩ := I
      exact val hb (List.all_eq_true.mpr hd)
  refine cond_or (c := decide (sgn c = "0")) (fun h1 => ?_) (fun h1 => ?_)
  · rw [h48] at h1
    have h1 := of_decide_eq_true h1
    refine cond_or (c := !decide (x = "0")) (fun h2 => ?_) (fun h2 => ?_)
    · rw [str_dec] at h2
      have h2 : ¬ x.cps.toList = [48] := of_decide_eq_false (not_t h2)
      refine bad ?_
      unfold badHead
      rw [decide_eq_false h2, hl, h1]
      rfl
    · rw [str_dec] at h2
      have h2 : x.cps.toList = [48] := of_decide_eq_true (not_f h2)
      exact main (by rw [h2]; rfl)
  · rw [h48] at h1
    have h1 := of_decide_eq_false h1
    refine main ?_
    unfold badHead
    rw [hl, decide_eq_false (by simp), decide_eq_false (by simpa using h1)]
    rfl
/-! ### parts of a text -/
theorem cps_eq {x y : Str} : decide (x = y) = decide (x.cps.toList = y.cps.toList) := str_dec
theorem ct_mem (l : List (Option Nat)) : ((l.map ctD).any fun z => PyData.eqv z .none) = decide (none ∈ l) := by
  rw [List.any_map]
  induction l with
  | nil => rfl
  | cons a l ih =>
    rw [List.any_cons, ih]
    cases a <;> simp [ctD, PyData.eqv]
theorem ct_lay : ∀ l : List (Option Nat), PyData.canLayAll0 (l.map ctD) = true
  | [] => rfl
  | a :: l => by
    rw [List.map_cons]
    unfold PyData.canLayAll0
    rw [ct_lay l, Bool.and_true]
    cases a <;> rfl
theorem ct_depth : ∀ l : List (Option Nat), PyData.depthAll (l.map ctD) ≤ 0
  | [] => Nat.zero_le _
  | a :: l => by
    rw [List.map_cons]
    unfold PyData.depthAll
    refine Nat.max_le.mpr ⟨?_, ct_depth l⟩
    cases a <;> simp [ctD, PyData.depth]
theorem ct_shaped (l : List (Option Nat)) : SeqAt.shaped (.list (l.map ctD)) = true := by
  unfold SeqAt.shaped PyData.canLay0
  rw [ct_lay, Bool.true_and]
  refine decide_eq_true ?_
  unfold PyData.depth
  have := ct_depth l
  omega
/-- None in a list of data -/
theorem in_none {env : DEnv} {S : Store} {k : Bool → Store → Prop} {i : Nat} {ds : List PyData} (hi : env[i]? = some (some (.d (.list ds)))) (hs : SeqAt.shaped (.list ds) = true) (h : k (ds.any fun z => PyData.eqv z .none) S) :
    gTest (gBin (dIn false) (gC .none) (gVar i)) env S k := by
  unfold gTest gBin gVar gC
  rw [hi]
  exact Or.inr ⟨⟨rfl, hs⟩, h⟩
theorem split_ok {x y : Str} : ∀ z, z ∈ (Txt.split x y).map PyData.str → ∃ u, u ∈ Txt.split x y ∧ z = .str u := fun z hz => by
  obtain ⟨u, hu, rfl⟩ := List.mem_map.mp hz
  exact ⟨u, hu, rfl⟩
theorem split_few {x y : Str} (hy : 1 ≤ y.length) (hx : x.length ≤ 570) : (Txt.split x y).length < sizeLine := by
  have wt := split_weight x y hy
  rw [sizeLine_eq]
  omega
/-- what one part of a text becomes -/
def ofS (f : Str → PyData) : PyData → PyData
  | .str x => f x
  | _ => .none
theorem ofS_map (f : Str → PyData) (xs : List Str) : (xs.map PyData.str).map (ofS f) = xs.map f := by
  rw [List.map_map]
  rfl
def WSt (f : Str → PyData) : WD := fun as S P => ∃ x : Str, as = [.d (.str x)] ∧ x.length ≤ 570 ∧ P (.d (f x)) S
theorem ver_of {l : List (Option Nat)} (h2 : l.length = 2) (h3 : none ∉ l) : ∃ a b : Nat, l = [some a, some b] := by
  match l, h2, h3 with
  | [a, b], _, h3 =>
    cases a with
    | none => exact absurd (.head _) h3
    | some a =>
      cases b with
      | none => exact absurd (.tail _ (.head _)) h3
      | some b => exact ⟨a, b, rfl⟩
theorem ver_bad {l : List (Option Nat)} (h : l.length ≠ 2 ∨ none ∈ l) : verL l = .none := by
  unfold verL
  split
  · exact absurd h (by simp)
  · rfl
abbrev s_version_in : Stmt := top 20
theorem sc_version_in : FnScope ["text", "counts", "part"] ["text"] (defScope s_version_in) := ⟨rfl, rfl, rfl, by decide +kernel, rfl, by decide +kernel, by decide +kernel⟩
theorem ok_version_in (D : DefAt K mg "version_in" s_version_in ["text"]) (B : Bl mg) (o_count_in : Own P w K mg base 1 "count_in" ["text"] WCt) : Own P w K mg base 2 "version_in" ["text"] (WSt verIn) := by
  have sc := sc_version_in
  refine okO D sc (fun as S P h => by obtain ⟨_, rfl, _⟩ := h; rfl) (fun f cdv A outer s H E hg hr => (pdss_cons (pds_setLc (i := 1) (own := [("part", 2)]) rfl sc.nd rfl rfl (sw_true rfl rfl rfl (by decide +kernel)) (pdi_list (pd_bm PySem.F.plainAttrs_str PySem.F.slot_str_split PySem.F.type_str_split mt_split vr_split (pdv 0) (pda_cons (pd_str) pda_nil))) (blkOk_by (N := ["text", "counts", "part"]) (sc := defScope s_version_in) (by decide +kernel)) (cg_name (by decide)) (fun _ _ _ _ _ => (pg_name (i := 2) sc.nd rfl (Or.inl rfl))) (fun _ _ _ _ _ => pts_yes) (fun _ _ _ _ _ => (pdc o_count_in hg hr (by rfl) (pda_cons (pdv 2) pda_nil)))) (pdss_cons (pds_if (pdt_w (pdw_or (pdt_ne hr (pd_callB call_lenAll vr_len (by rfl) (B.b _ (by decide)) (by decide +kernel) (pda_cons (pdv 1) pda_nil)) (pd_int)) (pdw_or1 (pdt_in hr (pd_non) (pdv 1) rfl)))) (pdss_one (pds_ret (pd_non))) pdss_nil) (pdss_one (pds_ret (pd_tup (pda_cons (pd_at (pdv 1) (pd_int)) (pda_cons (pd_at (pdv 1) (pd_int)) pda_nil)))))))) (fun args S P h => ?_)
  obtain ⟨x, rfl, hx, h⟩ := h
  have h1 : 1 ≤ ("." : Str).length := by decide +kernel
  refine ⟨rfl, ⟨h1, by omega⟩, by rw [List.length_map]; exact split_few h1 hx, compD_map (ofS fun u => ctD (countT u)) (fun z hz Q q => ?_) ?_⟩
  · obtain ⟨u, hu, rfl⟩ := split_ok z hz
    exact ⟨u, rfl, by have := part_len h1 hu; omega, q⟩
  rw [List.nil_append, ofS_map]
  have e : (Txt.split x ".").map (fun u => ctD (countT u)) = (cts x ".").map ctD := by
    unfold cts
    rw [List.map_map]
    rfl
  rw [e]
  have hv : P (.d (verL (cts x "."))) S := h
  have hl : ((cts x ".").map ctD).length = (cts x ".").length := List.length_map ..
  refine cond_or (c := !decide ((((cts x ".").map ctD).length : Int) = 2)) (fun g => ?_) (fun g => ?_)
  · have g := of_decide_eq_false (not_t g)
    rw [ver_bad (.inl (by rw [hl] at g; omega))] at hv
    exact hv
  have g := of_decide_eq_true (not_f g)
  refine in_none rfl (ct_shaped _) ?_
  rw [ct_mem]
  refine cond_or (c := decide (none ∈ cts x ".")) (fun g2 => ?_) (fun g2 => ?_)
  · rw [ver_bad (.inr (of_decide_eq_true g2))] at hv
    exact hv
  · obtain ⟨a, b, e2⟩ := ver_of (by rw [hl] at g; omega) (of_decide_eq_false g2)
    rw [e2] at hv ⊢
    dsimp only [gsNext]
    exact tup_ix2 rfl hv
def lbD (x : Str) : PyData := labD (labIn x)
abbrev s_label_in : Stmt := top 21
theorem sc_label_in : FnScope ["text", "generation", "package", "_", "number"] ["text"] (defScope s_label_in) := ⟨rfl, rfl, rfl, by decide +kernel, rfl, by decide +kernel, by decide +kernel⟩
theorem ok_label_in (D : DefAt K mg "label_in" s_label_in ["text"]) (B : Bl mg) (o_count_in : Own P w K mg base 1 "count_in" ["text"] WCt) (o_is_name : Own P w K mg base 1 "is_name" ["value"] (WB nameD)) : Own P w K mg base 2 "label_in" ["text"] (WSt lbD) := by
  have sc := sc_label_in
  refine okO D sc (fun as S P h => by obtain ⟨_, rfl, _⟩ := h; rfl) (fun f cdv A outer s H E hg hr => (pdss_cons (pds_asg (pd_bm PySem.F.plainAttrs_str PySem.F.slot_str_partition PySem.F.type_str_partition mt_partition vr_part (pdv 0) (pda_cons (pd_str) pda_nil)) (pdg_tup (n := 3) rfl (pdgs_cons (pdg_name (i := 2) sc.nd rfl (Or.inl rfl)) (pdgs_cons (pdg_name (i := 3) sc.nd rfl (Or.inl rfl)) (pdgs_cons (pdg_name (i := 4) sc.nd rfl (Or.inl rfl)) pdgs_nil))))) (pdss_cons (pds_set (i := 1) sc.nd rfl (Or.inl rfl) (pdc o_count_in hg hr (by rfl) (pda_cons (pdv 4) pda_nil))) (pdss_cons (pds_if (pdt_w (pdw_or (pdt_not (pdt_val (pdc o_is_name hg hr (by rfl) (pda_cons (pdv 2) pda_nil)))) (pdw_or1 (pdt_is (pdv 1) (pd_non))))) (pdss_one (pds_ret (pd_non))) pdss_nil) (pdss_one (pds_ret (pd_tup (pda_cons (pdv 2) (pda_cons (pdv 1) pda_nil))))))))) (fun args S P h => ?_)
  obtain ⟨x, rfl, hx, h⟩ := h
  have h : P (.d (labD (labIn x))) S := h
  have ln := part_lens x "/"
  refine ⟨rfl, ⟨by decide +kernel, by omega⟩, rfl, rfl, _, rfl, by omega, _, rfl, ?_⟩
  unfold labIn at h
  refine cond_or (c := !nameS (Txt.partition x "/").1) (fun g => ?_) (fun g => ?_)
  · have g := not_t g
    cases e : countT (Txt.partition x "/").2.2 with
    | none => rw [e] at h; exact h
    | some n =>
      rw [e] at h
      have h : P (.d (labD (if nameS (Txt.partition x "/").1 then some ((Txt.partition x "/").1, n) else none))) S := h
      rw [g] at h
      exact h
  have g := not_f g
  cases e : countT (Txt.partition x "/").2.2 with
  | none => rw [e] at h; exact h
  | some n =>
    rw [e] at h
    have h : P (.d (labD (if nameS (Txt.partition x "/").1 then some ((Txt.partition x "/").1, n) else none))) S := h
    rw [g] at h
    exact ⟨small2 rfl, h⟩
theorem okStr {n : Str} (h : nameS n = true) : PyData.strOk n = true := by
  obtain ⟨_, z⟩ := Bool.and_eq_true_iff.mp h
  show Array.all _ _ = true
  rw [← Array.all_toList, List.all_eq_true]
  intro c hc
  have z2 := List.all_eq_true.mp z c hc
  have z3 := of_decide_eq_true (Bool.and_eq_true_iff.mp z2).2
  exact decide_eq_true (by omega)
theorem lab_name {x : Str} {n : Str} {m : Nat} (h : labIn x = some (n, m)) : nameS n = true := by
  unfold labIn at h
  split at h
  · cases h
  · split at h
    · rename_i _ _ hn
      cases h
      exact hn
    · cases h
def okLab (o : Option (Str × Nat)) : Prop := ∀ n m, o = some (n, m) → PyData.strOk n = true
theorem lab_canLay : ∀ {o : Option (Str × Nat)}, okLab o → PyData.canLay0 (labD o) = true
  | none, _ => rfl
  | some (n, m), h => by
    simp only [labD, PyData.canLay0, PyData.canLayAll0, h n m rfl, Bool.and_self]
theorem labs_canLay : ∀ {os : List (Option (Str × Nat))}, (∀ o ∈ os, okLab o) → PyData.canLayAll0 (os.map labD) = true
  | [], _ => rfl
  | o :: os, h => by
    rw [List.map_cons]
    unfold PyData.canLayAll0
    rw [lab_canLay (h o (.head _)), labs_canLay (fun o ho => h o (.tail _ ho))]
    rfl
theorem lab_depth (o : Option (Str × Nat)) : PyData.depth (labD o) ≤ 1 := by
  cases o with
  | none => exact Nat.zero_le _
  | some p =>
    obtain ⟨n, m⟩ := p
    simp [labD, PyData.depth, PyData.depthAll]
theorem labs_depth : ∀ os : List (Option (Str × Nat)), PyData.depthAll (os.map labD) ≤ 1
  | [] => Nat.zero_le _
  | o :: os => by
    rw [List.map_cons]
    unfold PyData.depthAll
    exact Nat.max_le.mpr ⟨lab_depth o, labs_depth os⟩
theorem labs_shaped {os : List (Option (Str × Nat))} (h : ∀ o ∈ os, okLab o) : SeqAt.shaped (.list (os.map labD)) = true := by
  unfold SeqAt.shaped PyData.canLay0
  rw [labs_canLay h, Bool.true_and]
  refine decide_eq_true ?_
  unfold PyData.depth
  have := labs_depth os
  omega
theorem labs_none (os : List (Option (Str × Nat))) : ((os.map labD).any fun z => PyData.eqv z .none) = decide (none ∈ os) := by
  rw [List.any_map]
  induction os with
  | nil => rfl
  | cons o os ih =>
    rw [List.any_cons, ih]
    cases o with
    | none => simp [labD, PyData.eqv]
    | some p =>
      obtain ⟨n, m⟩ := p
      simp [labD, PyData.eqv]
theorem lbs_ok (x : Str) : ∀ o ∈ lbs x, okLab o := fun o ho => by
  obtain ⟨u, _, rfl⟩ := List.mem_map.mp ho
  exact fun n m e => okStr (lab_name e)
theorem dash_eq (x : Str) : decide (x = "-") = decide (x.cps.toList = [45]) := str_dec
/-- what both readers of a path do behind its parts -/
theorem path_end {x : Str} {S : Store} {P : PQ} (h : P (.d (pathIn x)) S) (h0 : ¬ x.cps.toList = [45]) : (10 < (lbs x).length ∨ none ∈ lbs x → P (.d .none) S) ∧ (¬ (10 < (lbs x).length ∨ none ∈ lbs x) → P (.d (.tuple ((lbs x).map labD))) S) := by
  constructor
  · intro e
    rw [show pathIn x = .none by unfold pathIn; rw [if_neg h0, if_pos e]] at h
    exact h
  · intro e
    rw [show pathIn x = .tuple ((lbs x).map labD) by unfold pathIn; rw [if_neg h0, if_neg e]] at h
    exact h
theorem lbs_map (x : Str) : (Txt.split x ">").map lbD = (lbs x).map labD := by
  unfold lbs
  rw [List.map_map]
  rfl
abbrev s_path_in : Stmt := top 22
theorem sc_path_in : FnScope ["text", "labels", "part"] ["text"] (defScope s_path_in) := ⟨rfl, rfl, rfl, by decide +kernel, rfl, by decide +kernel, by decide +kernel⟩
theorem ok_path_in (D : DefAt K mg "path_in" s_path_in ["text"]) (B : Bl mg) (G : Gc K mg) (o_label_in : Own P w K mg base 2 "label_in" ["text"] (WSt lbD)) : Own P w K mg base 3 "path_in" ["text"] (WSt pathIn) := by
  have sc := sc_path_in
  refine okO D sc (fun as S P h => by obtain ⟨_, rfl, _⟩ := h; rfl) (fun f cdv A outer s H E hg hr => (pdss_cons (pds_if (pdt_eq hr (pdv 0) (pd_gstr G.g_MAIN_TEXT (by rfl))) (pdss_one (pds_ret (pd_tup pda_nil))) pdss_nil) (pdss_cons (pds_setLc (i := 1) (own := [("part", 2)]) rfl sc.nd rfl rfl (sw_true rfl rfl rfl (by decide +kernel)) (pdi_list (pd_bm PySem.F.plainAttrs_str PySem.F.slot_str_split PySem.F.type_str_split mt_split vr_split (pdv 0) (pda_cons (pd_str) pda_nil))) (blkOk_by (N := ["text", "labels", "part"]) (sc := defScope s_path_in) (by decide +kernel)) (cg_name (by decide)) (fun _ _ _ _ _ => (pg_name (i := 2) sc.nd rfl (Or.inl rfl))) (fun _ _ _ _ _ => pts_yes) (fun _ _ _ _ _ => (pdc o_label_in hg hr (by rfl) (pda_cons (pdv 2) pda_nil)))) (pdss_cons (pds_if (pdt_w (pdw_or (pdt_gt (pd_callB call_lenAll vr_len (by rfl) (B.b _ (by decide)) (by decide +kernel) (pda_cons (pdv 1) pda_nil)) (pd_gint G.g_MOST_LABELS (by rfl))) (pdw_or1 (pdt_in hr (pd_non) (pdv 1) rfl)))) (pdss_one (pds_ret (pd_non))) pdss_nil) (pdss_one (pds_ret (pd_callTy call_tuple_of vr_tuple (by rfl) (B.b _ (by decide)) (by decide +kernel) (pda_cons (pdv 1) pda_nil)))))))) (fun args S P h => ?_)
  obtain ⟨x, rfl, hx, h⟩ := h
  have h1 : 1 ≤ (">" : Str).length := by decide +kernel
  refine cond_or (c := decide (x = "-")) (fun g => ?_) (fun g => ?_)
  · rw [dash_eq] at g
    rw [show pathIn x = .tuple [] from if_pos (of_decide_eq_true g)] at h
    exact ⟨small2 rfl, h⟩
  rw [dash_eq] at g
  obtain ⟨bad, good⟩ := path_end h (of_decide_eq_false g)
  refine ⟨rfl, ⟨h1, by omega⟩, by rw [List.length_map]; exact split_few h1 hx, compD_map (ofS lbD) (fun z hz Q q => ?_) ?_⟩
  · obtain ⟨u, hu, rfl⟩ := split_ok z hz
    exact ⟨u, rfl, by have := part_len h1 hu; omega, q⟩
  rw [List.nil_append, ofS_map, lbs_map]
  have hl : ((lbs x).map labD).length = (lbs x).length := List.length_map ..
  refine cond_or (c := iGt (((lbs x).map labD).length : Int) 10) (fun g => ?_) (fun g => ?_)
  · have g := of_decide_eq_true g
    exact bad (.inl (by rw [hl] at g; omega))
  have g := of_decide_eq_false g
  refine in_none rfl (labs_shaped (lbs_ok x)) ?_
  rw [labs_none]
  refine cond_or (c := decide (none ∈ lbs x)) (fun g2 => bad (.inr (of_decide_eq_true g2))) (fun g2 => good ?_)
  rintro (z | z)
  · rw [hl] at g; omega
  · exact of_decide_eq_false g2 z
/-! ### the law's own readers -/
abbrev s__law_number_of : Stmt := top 40
theorem sc__law_number_of : FnScope ["_law_word", "_law_sign"] ["_law_word"] (defScope s__law_number_of) := ⟨rfl, rfl, rfl, by decide +kernel, rfl, by decide +kernel, by decide +kernel⟩
theorem ok__law_number_of (D : DefAt K mg "_law_number_of" s__law_number_of ["_law_word"]) (B : Bl mg) : Own P w K mg base 1 "_law_number_of" ["_law_word"] WCt := by
  have sc := sc__law_number_of
  refine okO D sc (fun as S P h => by obtain ⟨_, rfl, _⟩ := h; rfl) (fun f cdv A outer s H E hg hr => (pdss_cons (pds_if (pdt_w (pdw_or (pdt_eq hr (pdv 0) (pd_str)) (pdw_or1 (pdt_neNil hr (pd_lc (own := [("_law_sign", 1)]) rfl sc.nd (pdi_str (pdv 0)) (blkOk_by (N := ["_law_word", "_law_sign"]) (sc := defScope s__law_number_of) (by decide +kernel)) (cg_name (by decide)) (fun _ _ _ _ _ => (pg_name (i := 1) sc.nd rfl (Or.inl rfl))) (fun _ _ _ _ _ => (pts_one (pdt_notin hr (pdv 1) (pd_str) rfl))) (fun _ _ _ _ _ => (pdv 1))) (pd_lst pda_nil))))) (pdss_one (pds_ret (pd_non))) pdss_nil) (pdss_one (pds_ret (pd_ife (pdt_w (pdw_or (pdt_eq hr (pdv 0) (pd_str)) (pdw_or1 (pdt_ne hr (pd_at (pdv 0) (pd_int)) (pd_str))))) (pd_callTy call_int_str vr_intOf (by rfl) (B.b _ (by decide)) (by decide +kernel) (pda_cons (pdv 0) pda_nil)) (pd_non)))))) (fun args S P h => ?_)
  obtain ⟨x, rfl, hx, h⟩ := h
  refine cond_or (c := decide (x = "")) (fun h0 => ?_) (fun h0 => ?_)
  · rw [str_dec] at h0
    have h0 : x.cps.toList = [] := of_decide_eq_true h0
    rw [show countT x = none by unfold countT; rw [h0]; rfl] at h
    exact h
  rw [str_dec] at h0
  have h0 : x.cps.toList ≠ [] := of_decide_eq_false h0
  obtain ⟨c, r, hl⟩ := List.exists_cons_of_ne_nil h0
  refine ⟨by rw [List.length_map, sizeLine_eq, str_size]; omega, compD_filter (fun x => !sgB digB x) id (fun x hx Q Nn q1 q2 => ?_) ?_⟩
  · obtain ⟨c, _, rfl⟩ := List.mem_map.mp hx
    show cond (!decide (c ∈ dig10.cps.toList)) _ _
    rw [mem_dig]
    exact cond_or (fun g => q1 g) (fun g => q2 g)
  rw [List.nil_append, List.map_id]
  refine ⟨small2 rfl, ⟨rfl, ?_⟩⟩
  refine cond_or (c := !(List.filter (fun x => !sgB digB x) (x.cps.toList.map fun c => PyData.str (sgn c))).isEmpty) (fun g => ?_) (fun g => ?_)
  · have g := not_t g
    rw [filter_nil, signs_all] at g
    rw [show countT x = none by unfold countT; rw [g, Bool.not_false, Bool.or_true]; rfl] at h
    exact h
  have g := not_f g
  rw [filter_nil, signs_all] at g
  have hi := int_of g h0 (by omega)
  refine cond_or (c := decide (x = "0")) (fun h1 => ?_) (fun h1 => ?_)
  · rw [str_dec] at h1
    have h1 : x.cps.toList = [48] := of_decide_eq_true h1
    rw [show countT x = some (valL x.cps.toList) by unfold countT; rw [g, h1]; rfl] at h
    exact ⟨by omega, _, hi, h⟩
  rw [str_dec] at h1
  have h1 : ¬ x.cps.toList = [48] := of_decide_eq_false h1
  have h48 : decide (sgn c = "0") = decide (c = 48) := by
    rw [str_dec]
    show decide (([c] : List Nat) = [48]) = _
    rw [Bool.eq_iff_iff, decide_eq_true_eq, decide_eq_true_eq]
    exact ⟨fun h => by cases h; rfl, fun h => by rw [h]⟩
  refine t_ix0 rfl hl ?_
  rw [h48]
  refine cond_or (c := !decide (c = 48)) (fun h2 => ?_) (fun h2 => ?_)
  · have h2 := of_decide_eq_false (not_t h2)
    rw [show countT x = some (valL x.cps.toList) by
      unfold countT badHead
      rw [g, decide_eq_false h0, hl, decide_eq_false (show ¬ ((c :: r).head? = some 48) from fun e => h2 (by cases e; rfl))]
      rfl] at h
    exact ⟨by omega, _, hi, h⟩
  · have h2 := of_decide_eq_true (not_f h2)
    rw [show countT x = none by
      unfold countT badHead
      rw [hl, h2, decide_eq_false (show ¬ (48 :: r = [48]) from fun e => h1 (by rw [hl, h2, e]))]
      rfl] at h
    exact h
abbrev s__law_label_of : Stmt := top 41
theorem sc__law_label_of : FnScope ["_law_word", "_law_parts"] ["_law_word"] (defScope s__law_label_of) := ⟨rfl, rfl, rfl, by decide +kernel, rfl, by decide +kernel, by decide +kernel⟩
theorem ok__law_label_of (D : DefAt K mg "_law_label_of" s__law_label_of ["_law_word"]) (B : Bl mg) (o__law_number_of : Own P w K mg base 1 "_law_number_of" ["_law_word"] WCt) (o__law_is_word : Own P w K mg base 1 "_law_is_word" ["_law_thing_here"] (WB nameD)) :
    Own P w K mg base 2 "_law_label_of" ["_law_word"] (WSt lbD) := by
  have sc := sc__law_label_of
  refine okO D sc (fun as S P h => by obtain ⟨_, rfl, _⟩ := h; rfl) (fun f cdv A outer s H E hg hr => (pdss_cons (pds_set (i := 1) sc.nd rfl (Or.inl rfl) (pd_bm PySem.F.plainAttrs_str PySem.F.slot_str_split PySem.F.type_str_split mt_split vr_split (pdv 0) (pda_cons (pd_str) pda_nil))) (pdss_cons (pds_if (pdt_w (pdw_or (pdt_ne hr (pd_callB call_lenAll vr_len (by rfl) (B.b _ (by decide)) (by decide +kernel) (pda_cons (pdv 1) pda_nil)) (pd_int)) (pdw_or (pdt_not (pdt_val (pdc o__law_is_word hg hr (by rfl) (pda_cons (pd_at (pdv 1) (pd_int)) pda_nil)))) (pdw_or1 (pdt_is (pdc o__law_number_of hg hr (by rfl) (pda_cons (pd_at (pdv 1) (pd_int)) pda_nil)) (pd_non)))))) (pdss_one (pds_ret (pd_non))) pdss_nil) (pdss_one (pds_ret (pd_tup (pda_cons (pd_at (pdv 1) (pd_int)) (pda_cons (pdc o__law_number_of hg hr (by rfl) (pda_cons (pd_at (pdv 1) (pd_int)) pda_nil)) pda_nil)))))))) (fun args S P h => ?_)
  obtain ⟨x, rfl, hx, h⟩ := h
  have h : P (.d (labD (labIn x))) S := h
  have h1 : 1 ≤ ("/" : Str).length := by decide +kernel
  have le := labOf_eq x
  rw [← slash_is] at le
  rw [← le] at h
  refine ⟨rfl, ⟨h1, by omega⟩, ?_⟩
  have hl : ((Txt.split x "/").map PyData.str).length = (Txt.split x "/").length := List.length_map ..
  refine cond_or (c := !decide ((((Txt.split x "/").map PyData.str).length : Int) = 2)) (fun g => ?_) (fun g => ?_)
  · have g := of_decide_eq_false (not_t g)
    have e : labOf2 (Txt.split x "/") = none := by
      match e : Txt.split x "/", g with
      | [], _ => rfl
      | [_], _ => rfl
      | [_, _], g => exact absurd rfl g
      | _ :: _ :: _ :: _, _ => rfl
    rw [e] at h
    exact h
  have g := of_decide_eq_true (not_f g)
  obtain ⟨a, b, e⟩ : ∃ a b, Txt.split x "/" = [a, b] := by
    match e : Txt.split x "/", g with
    | [a, b], _ => exact ⟨a, b, rfl⟩
  have pl : ∀ z ∈ Txt.split x "/", z.length ≤ 570 := fun z hz => Nat.le_trans (part_len h1 hz) hx
  rw [e] at h pl ⊢
  have lb := pl b (.tail _ (.head _))
  have h : P (.d (labD (if nameS a then (countT b).map fun n => (a, n) else none))) S := h
  refine ⟨_, rfl, ?_⟩
  refine cond_or (c := !nameS a) (fun g2 => ?_) (fun g2 => ?_)
  · rw [not_t g2] at h
    exact h
  rw [not_f g2] at h
  refine ⟨b, rfl, lb, ?_⟩
  cases ec : countT b with
  | none => rw [ec] at h; exact h
  | some n =>
    rw [ec] at h
    exact ⟨b, rfl, lb, small2 rfl, by rw [ec]; exact h⟩
def rdD (i : Int) (x : Str) : PyData := if i = 0 then verIn x else pathIn x
def WRe : WD := fun as S P => ∃ (i : Int) (x : Str), as = [.d (.int i), .d (.str x)] ∧ x.length ≤ 570 ∧ P (.d (rdD i x)) S
abbrev s__law_read : Stmt := top 42
theorem sc__law_read : FnScope ["_law_way", "_law_written", "_law_found", "_law_part"] ["_law_way", "_law_written"] (defScope s__law_read) := ⟨rfl, rfl, rfl, by decide +kernel, rfl, by decide +kernel, by decide +kernel⟩
theorem ok__law_read (D : DefAt K mg "_law_read" s__law_read ["_law_way", "_law_written"]) (B : Bl mg) (o__law_number_of : Own P w K mg base 1 "_law_number_of" ["_law_word"] WCt) (o__law_label_of : Own P w K mg base 2 "_law_label_of" ["_law_word"] (WSt lbD)) :
    Own P w K mg base 3 "_law_read" ["_law_way", "_law_written"] WRe := by
  have sc := sc__law_read
  refine okO D sc (fun as S P h => by obtain ⟨_, _, rfl, _⟩ := h; rfl) (fun f cdv A outer s H E hg hr => (pdss_cons (pds_if (pdt_eq hr (pdv 0) (pd_int)) (pdss_cons (pds_setLc (i := 2) (own := [("_law_part", 3)]) rfl sc.nd rfl rfl (sw_true rfl rfl rfl (by decide +kernel)) (pdi_list (pd_bm PySem.F.plainAttrs_str PySem.F.slot_str_split PySem.F.type_str_split mt_split vr_split (pdv 1) (pda_cons (pd_str) pda_nil))) (blkOk_by (N := ["_law_way", "_law_written", "_law_found", "_law_part"]) (sc := defScope s__law_read) (by decide +kernel)) (cg_name (by decide)) (fun _ _ _ _ _ => (pg_name (i := 3) sc.nd rfl (Or.inl rfl))) (fun _ _ _ _ _ => pts_yes) (fun _ _ _ _ _ => (pdc o__law_number_of hg hr (by rfl) (pda_cons (pdv 3) pda_nil)))) (pdss_one (pds_ret (pd_ife (pdt_w (pdw_or (pdt_ne hr (pd_callB call_lenAll vr_len (by rfl) (B.b _ (by decide)) (by decide +kernel) (pda_cons (pdv 2) pda_nil)) (pd_int)) (pdw_or1 (pdt_in hr (pd_non) (pdv 2) rfl)))) (pd_non) (pd_callTy call_tuple_of vr_tuple (by rfl) (B.b _ (by decide)) (by decide +kernel) (pda_cons (pdv 2) pda_nil)))))) pdss_nil) (pdss_cons (pds_if (pdt_eq hr (pdv 1) (pd_str)) (pdss_one (pds_ret (pd_tup pda_nil))) pdss_nil) (pdss_cons (pds_setLc (i := 2) (own := [("_law_part", 3)]) rfl sc.nd rfl rfl (sw_true rfl rfl rfl (by decide +kernel)) (pdi_list (pd_bm PySem.F.plainAttrs_str PySem.F.slot_str_split PySem.F.type_str_split mt_split vr_split (pdv 1) (pda_cons (pd_str) pda_nil))) (blkOk_by (N := ["_law_way", "_law_written", "_law_found", "_law_part"]) (sc := defScope s__law_read) (by decide +kernel)) (cg_name (by decide)) (fun _ _ _ _ _ => (pg_name (i := 3) sc.nd rfl (Or.inl rfl))) (fun _ _ _ _ _ => pts_yes) (fun _ _ _ _ _ => (pdc o__law_label_of hg hr (by rfl) (pda_cons (pdv 3) pda_nil)))) (pdss_one (pds_ret (pd_ife (pdt_w (pdw_or (pdt_gt (pd_callB call_lenAll vr_len (by rfl) (B.b _ (by decide)) (by decide +kernel) (pda_cons (pdv 2) pda_nil)) (pd_int)) (pdw_or1 (pdt_in hr (pd_non) (pdv 2) rfl)))) (pd_non) (pd_callTy call_tuple_of vr_tuple (by rfl) (B.b _ (by decide)) (by decide +kernel) (pda_cons (pdv 2) pda_nil))))))))) (fun args S P h => ?_)
  obtain ⟨i, x, rfl, hx, h⟩ := h
  unfold rdD at h
  refine cond_or (c := decide (i = 0)) (fun g => ?_) (fun g => ?_)
  · rw [if_pos (of_decide_eq_true g)] at h
    have h1 : 1 ≤ ("." : Str).length := by decide +kernel
    refine ⟨rfl, ⟨h1, by omega⟩, by rw [List.length_map]; exact split_few h1 hx, compD_map (ofS fun u => ctD (countT u)) (fun z hz Q q => ?_) ?_⟩
    · obtain ⟨u, hu, rfl⟩ := split_ok z hz
      exact ⟨u, rfl, by have := part_len h1 hu; omega, q⟩
    rw [List.nil_append, ofS_map]
    have e : (Txt.split x ".").map (fun u => ctD (countT u)) = (cts x ".").map ctD := by
      unfold cts
      rw [List.map_map]
      rfl
    rw [e]
    have hv : P (.d (verL (cts x "."))) S := h
    have hl : ((cts x ".").map ctD).length = (cts x ".").length := List.length_map ..
    refine cond_or (c := !decide ((((cts x ".").map ctD).length : Int) = 2)) (fun g => ?_) (fun g => ?_)
    · have g := of_decide_eq_false (not_t g)
      rw [ver_bad (.inl (by rw [hl] at g; omega))] at hv
      exact hv
    have g := of_decide_eq_true (not_f g)
    refine in_none rfl (ct_shaped _) ?_
    rw [ct_mem]
    refine cond_or (c := decide (none ∈ cts x ".")) (fun g2 => ?_) (fun g2 => ?_)
    · rw [ver_bad (.inr (of_decide_eq_true g2))] at hv
      exact hv
    · obtain ⟨a, b, e2⟩ := ver_of (by rw [hl] at g; omega) (of_decide_eq_false g2)
      rw [e2] at hv ⊢
      exact hv
  rw [if_neg (of_decide_eq_false g)] at h
  have h1 : 1 ≤ (">" : Str).length := by decide +kernel
  refine cond_or (c := decide (x = "-")) (fun g => ?_) (fun g => ?_)
  · rw [dash_eq] at g
    rw [show pathIn x = .tuple [] from if_pos (of_decide_eq_true g)] at h
    exact ⟨small2 rfl, h⟩
  rw [dash_eq] at g
  obtain ⟨bad, good⟩ := path_end h (of_decide_eq_false g)
  refine ⟨rfl, ⟨h1, by omega⟩, by rw [List.length_map]; exact split_few h1 hx, compD_map (ofS lbD) (fun z hz Q q => ?_) ?_⟩
  · obtain ⟨u, hu, rfl⟩ := split_ok z hz
    exact ⟨u, rfl, by have := part_len h1 hu; omega, q⟩
  rw [List.nil_append, ofS_map, lbs_map]
  have hl : ((lbs x).map labD).length = (lbs x).length := List.length_map ..
  refine cond_or (c := iGt (((lbs x).map labD).length : Int) 10) (fun g => ?_) (fun g => ?_)
  · have g := of_decide_eq_true g
    exact bad (.inl (by rw [hl] at g; omega))
  have g := of_decide_eq_false g
  refine in_none rfl (labs_shaped (lbs_ok x)) ?_
  rw [labs_none]
  refine cond_or (c := decide (none ∈ lbs x)) (fun g2 => bad (.inr (of_decide_eq_true g2))) (fun g2 => good ?_)
  rintro (z | z)
  · rw [hl] at g; omega
  · exact of_decide_eq_false g2 z
end
end K11
/-! law k11: texts written, texts read or refused -/
namespace K11
open PySem PySem.Spec PyProof.Rows L2 DL
mutual
/-- small numbers, short texts of plain signs -/
def okA : PyData → Bool
  | .none => true
  | .bool _ => true
  | .int i => decide (i.natAbs < 10 ^ 28)
  | .str s => decide (s.length ≤ 560) && s.cps.toList.all fun c => decide (c < 128)
  | .list xs => okAs xs
  | .tuple xs => okAs xs
  | .dict _ => true
def okAs : List PyData → Bool
  | [] => true
  | x :: xs => okA x && okAs xs
end
theorem okAs_mem : ∀ {xs : List PyData}, okAs xs = true → ∀ x, x ∈ xs → okA x = true
  | y :: ys, h, x, hx => by
    obtain ⟨h1, h2⟩ := Bool.and_eq_true_iff.mp (show (okA y && okAs ys) = true from h)
    rcases List.mem_cons.mp hx with rfl | hx
    · exact h1
    · exact okAs_mem h2 x hx
theorem okAs_of : ∀ {xs : List PyData}, (∀ x, x ∈ xs → okA x = true) → okAs xs = true
  | [], _ => rfl
  | y :: ys, h => by
    show (okA y && okAs ys) = true
    rw [h y (List.mem_cons_self ..), okAs_of fun x hx => h x (List.mem_cons_of_mem _ hx)]
    rfl
theorem emp_app (x : Str) : Str.empty ++ x = x := by
  refine Str.ext' ?_
  show Str.empty.cps ++ x.cps = x.cps
  exact Array.empty_append
theorem count_int {d : PyData} (h : countD d = true) : ∃ i : Int, d = .int i := by
  cases d with
  | int i => exact ⟨i, rfl⟩
  | _ => cases h
theorem okInt {i : Int} (h : okA (.int i) = true) : i.natAbs < 10 ^ 570 := Nat.lt_trans (of_decide_eq_true h) (by decide +kernel)
theorem ver_parts {d : PyData} (h : pairD countD d = true) (ho : okA d = true) : ∃ a b : Int, d = .tuple [.int a, .int b] ∧ a.natAbs < 10 ^ 570 ∧ b.natAbs < 10 ^ 570 := by
  match d, h, ho with
  | .tuple [x, y], h, ho =>
    obtain ⟨h1, h2⟩ := Bool.and_eq_true_iff.mp (show (countD x && countD y) = true from h)
    obtain ⟨a, rfl⟩ := count_int h1
    obtain ⟨b, rfl⟩ := count_int h2
    exact ⟨a, b, rfl, okInt (okAs_mem ho _ (by simp)), okInt (okAs_mem ho _ (by simp))⟩
theorem lab_parts {d : PyData} (h : pairD nameD d = true) (ho : okA d = true) : ∃ (x : Str) (i : Int), d = .tuple [.str x, .int i] ∧ x.length ≤ 8 ∧ i.natAbs < 10 ^ 570 := by
  match d, h, ho with
  | .tuple [u, y], h, ho =>
    obtain ⟨h1, h2⟩ := Bool.and_eq_true_iff.mp (show (nameD u && countD y) = true from h)
    obtain ⟨b, rfl⟩ := count_int h2
    cases u with
    | str z =>
      have z1 : (decide (1 ≤ z.length) && decide (z.length ≤ 8) && z.cps.toList.all okC) = true := h1
      obtain ⟨z2, _⟩ := Bool.and_eq_true_iff.mp z1
      exact ⟨z, b, rfl, of_decide_eq_true (Bool.and_eq_true_iff.mp z2).2, okInt (okAs_mem ho _ (by simp))⟩
    | _ => cases h1
def verT (a b : Int) : Str := numT a ++ "." ++ numT b
def labT (x : Str) (i : Int) : Str := x ++ "/" ++ numT i
def labOf : PyData → Str
  | .tuple [.str x, .int i] => labT x i
  | _ => Str.empty
def pathT (ds : List PyData) : Str := if ds.isEmpty then "-" else Txt.join ">" (ds.map labOf)
def verS : PyData → Str
  | .tuple [.int a, .int b] => verT a b
  | _ => Str.empty
def pathS : PyData → Str
  | .tuple ds => pathT ds
  | _ => Str.empty
theorem lab_len {d : PyData} (h : pairD nameD d = true) (ho : okA d = true) : (labOf d).length ≤ 800 := by
  obtain ⟨x, i, rfl, hx, hi⟩ := lab_parts h ho
  have l2 := numT_len hi
  show (x ++ PySem.Str.ofString "/" ++ numT i).length ≤ 800
  rw [app_len, app_len]
  have : (PySem.Str.ofString "/").length = 1 := by decide +kernel
  omega
theorem sum_le {n : Nat} : ∀ (l : List Nat), (∀ m ∈ l, m ≤ n) → l.sum ≤ n * l.length
  | [], _ => Nat.zero_le _
  | x :: l, h => by
    have h1 := h x (List.mem_cons_self ..)
    have h2 := sum_le l (fun m hm => h m (List.mem_cons_of_mem _ hm))
    rw [List.sum_cons, List.length_cons, Nat.mul_succ]
    omega
theorem join_txt {s : Str} {ys : List Str} {S : Store} {P : PQ} (hl : (ys.map (·.length)).sum + ys.length * s.length ≤ 16777216) (h : P (.d (.str (Txt.join s ys))) S) : dJoin (.d (.str s)) [.d (.list (ys.map .str))] S P := by
  show (match txts (ys.map .str) with
      | some ys => (ys.map (·.length)).sum + ys.length * s.length ≤ 16777216 ∧ P (.d (.str (Txt.join s ys))) S
      | none => False)
  rw [DL.strs_map]
  exact ⟨hl, h⟩
theorem join_labs {ds : List PyData} {S : Store} {P : PQ} (hn : ds.length ≤ 10) (hd : ∀ d, d ∈ ds → pairD nameD d = true ∧ okA d = true) (h : P (.d (.str (Txt.join ">" (ds.map labOf)))) S) : dJoin (.d (.str ">")) [.d (.list (ds.map fun d => .str (labOf d)))] S P := by
  have e : (ds.map fun d => PyData.str (labOf d)) = (ds.map labOf).map .str := by rw [List.map_map]; rfl
  rw [e]
  refine join_txt ?_ h
  have hs : (((ds.map labOf).map (·.length)).sum) ≤ 800 * ((ds.map labOf).map (·.length)).length := sum_le _ (fun m hm => by
    obtain ⟨y, hy, rfl⟩ := List.mem_map.mp hm
    obtain ⟨d, hd', rfl⟩ := List.mem_map.mp hy
    obtain ⟨h1, h2⟩ := hd d hd'
    exact lab_len h1 h2)
  rw [List.length_map, List.length_map] at hs
  rw [List.length_map, show (PySem.Str.ofString ">").length = 1 by decide +kernel]
  omega
theorem path_all {ds : List PyData} (h : pathD (.tuple ds) = true) (ho : okA (.tuple ds) = true) : ds.length ≤ 10 ∧ ∀ d, d ∈ ds → pairD nameD d = true ∧ okA d = true := by
  obtain ⟨p1, p2⟩ := Bool.and_eq_true_iff.mp (show (decide (ds.length ≤ 10) && ds.all (pairD nameD)) = true from h)
  exact ⟨of_decide_eq_true p1, fun d hd => ⟨List.all_eq_true.mp p2 d hd, okAs_mem ho d hd⟩⟩
/-- the text of a pair that one display joins: i and j read of a tuple in slot 0 -/
def WLt : WD := fun as S P => ∃ (x : Str) (i : Int), as = [.d (.tuple [.str x, .int i])] ∧ x.length ≤ 8 ∧ i.natAbs < 10 ^ 570 ∧ P (.d (.str (labT x i))) S
def WVt : WDE := fun as S P EP => ∃ x, as = [.d x] ∧ okA x = true ∧ (pairD countD x = true → P (.d (.str (verS x))) S) ∧ (pairD countD x = false → EP "InvalidVersion" x S)
def WPt : WDE := fun as S P EP => ∃ x, as = [.d x] ∧ okA x = true ∧ (pathD x = true → P (.d (.str (pathS x))) S) ∧ (pathD x = false → EP "InvalidPath" x S)
/-- what a reader tells of any value -/
def rdE (rd : Str → PyData) (x : PyData) (S : Store) (P : PQ) (EP : Str → PyData → Store → Prop) : Prop := match x with
  | .str z => (nonD (rd z) = true → EP "InvalidText" (.int 1) S) ∧ (nonD (rd z) = false → P (.d (rd z)) S)
  | _ => EP "InvalidText" (.int 0) S
def WRd (rd : Str → PyData) : WDE := fun as S P EP => ∃ x, as = [.d x] ∧ okA x = true ∧ rdE rd x S P EP
def WTx : WD := fun as S P => ∃ (i : Int) (x : PyData), as = [.d (.int i), .d x] ∧ okA x = true ∧ (i = 0 → pairD countD x = true ∧ P (.d (.str (verS x))) S) ∧ (i ≠ 0 → pathD x = true ∧ P (.d (.str (pathS x))) S)
section
variable {P : Program} {w : World} {K : PySem.W.Frag} {mg : Str → Option Value} {base : Heap} {T : CLs} {cV cP cT : Addr}
theorem line {n : Nat} (h : n ≤ 100000) : n ≤ sizeLine := by rw [sizeLine_eq]; omega
theorem dot1 : ("." : Str).length = 1 := by decide +kernel
theorem sl1 : ("/" : Str).length = 1 := by decide +kernel
theorem j_ver {i : Nat} {a b : Int} {env : DEnv} {S : Store} {D : DE} (hi : env[i]? = some (some (.d (.tuple [.int a, .int b])))) (ha : a.natAbs < 10 ^ 570) (hb : b.natAbs < 10 ^ 570) (h : D.rt (.d (.str (verT a b))) S) :
    gsRet (gJoined [gFmt (gBin dIx (gVar i) (gC (.int 0))), gC (.str "."), gFmt (gBin dIx (gVar i) (gC (.int 1)))]) env S D := by
  have l1 := numT_len ha
  have l2 := numT_len hb
  dsimp only [gsRet, gJoined, gJs, gFmt, gBin, gVar, gC]
  rw [hi]
  refine ix_t (a := .d (.tuple [.int a, .int b])) (b := .d (.int 0)) rfl rfl atx0 ?_
  refine ⟨ha, line (by rw [emp_app]; omega), line (by rw [emp_app, app_len, dot1]; omega), ?_⟩
  refine ix_t (a := .d (.tuple [.int a, .int b])) (b := .d (.int 1)) rfl rfl at1 ?_
  refine ⟨hb, line (by rw [emp_app, app_len, app_len, dot1]; omega), ?_⟩
  rw [emp_app]
  exact h
theorem j_lab {i : Nat} {x : Str} {b : Int} {env : DEnv} {S : Store} {D : DE} (hi : env[i]? = some (some (.d (.tuple [.str x, .int b])))) (hx : x.length ≤ 8) (hb : b.natAbs < 10 ^ 570) (h : D.rt (.d (.str (labT x b))) S) :
    gsRet (gJoined [gFmt (gBin dIx (gVar i) (gC (.int 0))), gC (.str "/"), gFmt (gBin dIx (gVar i) (gC (.int 1)))]) env S D := by
  have l2 := numT_len hb
  dsimp only [gsRet, gJoined, gJs, gFmt, gBin, gVar, gC]
  rw [hi]
  refine ix_t (a := .d (.tuple [.str x, .int b])) (b := .d (.int 0)) rfl rfl atx0 ?_
  refine ⟨line (by rw [emp_app]; omega), line (by rw [emp_app, app_len, sl1]; omega), ?_⟩
  refine ix_t (a := .d (.tuple [.str x, .int b])) (b := .d (.int 1)) rfl rfl at1 ?_
  refine ⟨hb, line (by rw [emp_app, app_len, app_len, sl1]; omega), ?_⟩
  rw [emp_app]
  exact h
abbrev s_version_text : Stmt := top 16
theorem sc_version_text : FnScope ["version"] ["version"] (defScope s_version_text) := ⟨rfl, rfl, rfl, by decide +kernel, rfl, by decide +kernel, by decide +kernel⟩
theorem ok_version_text (D : DefAt K mg "version_text" s_version_text ["version"]) (B : Bl mg) (o_is_version : Own P w K mg base 3 "is_version" ["value"] (WB (pairD countD))) (R_InvalidVersion : RaCls P w K mg base "InvalidVersion" cV ["value"]) (hT_InvalidVersion : T "InvalidVersion" = some (cV, ("value" : Str))) :
    OwnE P w K mg base T 4 "version_text" ["version"] WVt := by
  have sc := sc_version_text
  refine okE D sc (fun as S P EP h => by obtain ⟨_, rfl, _⟩ := h; rfl) (fun f cdv A outer s H E hg hr => (pdsse_cons (pdse_if (pdt_not (pdt_val (pdc o_is_version hg hr (by rfl) (pda_cons (pdv 0) pda_nil)))) (pdsse_one (pdse_raise R_InvalidVersion hT_InvalidVersion rfl (takes_of rfl rfl rfl rfl) (hr.mono (by decide)) (by rfl) (pdv 0))) (pdsse_up pdss_nil)) (pdsse_one (pdse_up (pds_ret (pd_joined (pdj_cons (pd_fmt (pd_at (pdv 0) (pd_int))) (pdj_cons (pd_str) (pdj_cons (pd_fmt (pd_at (pdv 0) (pd_int))) pdj_nil))))))))) (fun args S P EP h => ?_)
  obtain ⟨x, rfl, ho, h, he⟩ := h
  refine ⟨x, rfl, cond_or (c := !pairD countD x) (fun g => he (not_t g)) (fun g => ?_)⟩
  have g := not_f g
  obtain ⟨a, b, rfl, ha, hb⟩ := ver_parts g ho
  dsimp only [upS, gsNext]
  exact j_ver rfl ha hb (h g)
abbrev s_label_text : Stmt := top 17
theorem sc_label_text : FnScope ["label"] ["label"] (defScope s_label_text) := ⟨rfl, rfl, rfl, by decide +kernel, rfl, by decide +kernel, by decide +kernel⟩
theorem ok_label_text (D : DefAt K mg "label_text" s_label_text ["label"]) : Own P w K mg base 1 "label_text" ["label"] WLt := by
  have sc := sc_label_text
  refine okO D sc (fun as S P h => by obtain ⟨_, _, rfl, _⟩ := h; rfl) (fun f cdv A outer s H E hg hr => (pdss_one (pds_ret (pd_joined (pdj_cons (pd_fmt (pd_at (pdv 0) (pd_int))) (pdj_cons (pd_str) (pdj_cons (pd_fmt (pd_at (pdv 0) (pd_int))) pdj_nil))))))) (fun args S P h => ?_)
  obtain ⟨x, i, rfl, hx, hi, h⟩ := h
  exact j_lab rfl hx hi h
abbrev s_path_text : Stmt := top 18
theorem sc_path_text : FnScope ["path", "label"] ["path"] (defScope s_path_text) := ⟨rfl, rfl, rfl, by decide +kernel, rfl, by decide +kernel, by decide +kernel⟩
theorem ok_path_text (D : DefAt K mg "path_text" s_path_text ["path"]) (B : Bl mg) (G : Gc K mg) (o_is_path : Own P w K mg base 4 "is_path" ["value"] (WB pathD)) (o_label_text : Own P w K mg base 1 "label_text" ["label"] WLt) (R_InvalidPath : RaCls P w K mg base "InvalidPath" cP ["value"])
    (hT_InvalidPath : T "InvalidPath" = some (cP, ("value" : Str))) : OwnE P w K mg base T 5 "path_text" ["path"] WPt := by
  have sc := sc_path_text
  refine okE D sc (fun as S P EP h => by obtain ⟨_, rfl, _⟩ := h; rfl) (fun f cdv A outer s H E hg hr => (pdsse_cons (pdse_if (pdt_not (pdt_val (pdc o_is_path hg hr (by rfl) (pda_cons (pdv 0) pda_nil)))) (pdsse_one (pdse_raise R_InvalidPath hT_InvalidPath rfl (takes_of rfl rfl rfl rfl) (hr.mono (by decide)) (by rfl) (pdv 0))) (pdsse_up pdss_nil)) (pdsse_cons (pdse_up (pds_if (pdt_eq hr (pd_callB call_lenAll vr_len (by rfl) (B.b _ (by decide)) (by decide +kernel) (pda_cons (pdv 0) pda_nil)) (pd_int)) (pdss_one (pds_ret (pd_gstr G.g_MAIN_TEXT (by rfl)))) pdss_nil)) (pdsse_one (pdse_up (pds_ret (pd_bm PySem.F.plainAttrs_str PySem.F.slot_str_join PySem.F.type_str_join mt_join vr_join (pd_str) (pda_cons (pd_lc (own := [("label", 1)]) rfl sc.nd (pdi_tup (pdv 0)) (blkOk_by (N := ["path", "label"]) (sc := defScope s_path_text) (by decide +kernel)) (cg_name (by decide)) (fun _ _ _ _ _ => (pg_name (i := 1) sc.nd rfl (Or.inl rfl))) (fun _ _ _ _ _ => pts_yes) (fun _ _ _ _ _ => (pdc o_label_text hg hr (by rfl) (pda_cons (pdv 1) pda_nil)))) pda_nil)))))))) (fun args S P EP h => ?_)
  obtain ⟨x, rfl, ho, h, he⟩ := h
  refine ⟨x, rfl, cond_or (c := !pathD x) (fun g => he (not_t g)) (fun g => ?_)⟩
  have g := not_f g
  have h := h g
  cases x with
  | tuple ds =>
    obtain ⟨hn, hd⟩ := path_all g ho
    have h : P (.d (.str (pathT ds))) S := h
    refine cond_or (c := decide ((ds.length : Int) = 0)) (fun g => ?_) (fun g => ?_)
    · have g := of_decide_eq_true g
      have e : ds = [] := List.eq_nil_of_length_eq_zero (by omega)
      rw [e] at h
      exact h
    · have g := of_decide_eq_false g
      have e : ds.isEmpty = false := by
        cases ds with
        | nil => exact absurd rfl g
        | cons _ _ => rfl
      unfold pathT at h
      rw [e] at h
      refine ⟨rfl, by rw [sizeLine_eq]; omega, compD_map (fun d => .str (labOf d)) (fun d md Q q => ?_) ?_⟩
      · obtain ⟨y, i, rfl, hy, hi⟩ := lab_parts (hd d md).1 (hd d md).2
        exact ⟨y, i, rfl, hy, hi, q⟩
      · dsimp only [DL.gNil, List.nil_append]
        exact join_labs hn hd h
  | _ => cases g
abbrev s_read_version : Stmt := top 23
theorem sc_read_version : FnScope ["text", "version"] ["text"] (defScope s_read_version) := ⟨rfl, rfl, rfl, by decide +kernel, rfl, by decide +kernel, by decide +kernel⟩
theorem ok_read_version (D : DefAt K mg "read_version" s_read_version ["text"]) (B : Bl mg) (o_version_in : Own P w K mg base 2 "version_in" ["text"] (WSt verIn)) (R_InvalidText : RaCls P w K mg base "InvalidText" cT ["line"]) (hT_InvalidText : T "InvalidText" = some (cT, ("line" : Str))) :
    OwnE P w K mg base T 3 "read_version" ["text"] (WRd verIn) := by
  have sc := sc_read_version
  refine okE D sc (fun as S P EP h => by obtain ⟨_, rfl, _⟩ := h; rfl) (fun f cdv A outer s H E hg hr => (pdsse_cons (pdse_if (pdt_not (pdt_val (pd_callB call_isi vr_isi (by rfl) (B.b _ (by decide)) boot_isinstance (pda_cons (pdv 0) (pda_cons (pd_ty "str" (by rfl) (B.b _ (by decide)) (by decide +kernel)) pda_nil))))) (pdsse_one (pdse_raise R_InvalidText hT_InvalidText rfl (takes_of rfl rfl rfl rfl) (hr.mono (by decide)) (by rfl) (pd_int))) (pdsse_up pdss_nil)) (pdsse_cons (pdse_up (pds_set (i := 1) sc.nd rfl (Or.inl rfl) (pdc o_version_in hg hr (by rfl) (pda_cons (pdv 0) pda_nil)))) (pdsse_cons (pdse_if (pdt_is (pdv 1) (pd_non)) (pdsse_one (pdse_raise R_InvalidText hT_InvalidText rfl (takes_of rfl rfl rfl rfl) (hr.mono (by decide)) (by rfl) (pd_int))) (pdsse_up pdss_nil)) (pdsse_one (pdse_up (pds_ret (pdv 1)))))))) (fun args S P EP h => ?_)
  obtain ⟨x, rfl, ho, h⟩ := h
  refine ⟨by decide, ?_⟩
  cases x with
  | str z =>
    have hz : z.length ≤ 570 := by
      obtain ⟨h1, _⟩ := Bool.and_eq_true_iff.mp (show (decide (z.length ≤ 560) && z.cps.toList.all fun c => decide (c < 128)) = true from ho)
      have := of_decide_eq_true h1
      omega
    exact ⟨z, rfl, hz, cond_or (c := nonD (verIn z)) (fun g => h.1 g) (fun g => h.2 g)⟩
  | none => exact h
  | bool b => exact h
  | int b => exact h
  | list b => exact h
  | tuple b => exact h
  | dict b => exact h
abbrev s_read_path : Stmt := top 24
theorem sc_read_path : FnScope ["text", "path"] ["text"] (defScope s_read_path) := ⟨rfl, rfl, rfl, by decide +kernel, rfl, by decide +kernel, by decide +kernel⟩
theorem ok_read_path (D : DefAt K mg "read_path" s_read_path ["text"]) (B : Bl mg) (o_path_in : Own P w K mg base 3 "path_in" ["text"] (WSt pathIn)) (R_InvalidText : RaCls P w K mg base "InvalidText" cT ["line"]) (hT_InvalidText : T "InvalidText" = some (cT, ("line" : Str))) :
    OwnE P w K mg base T 4 "read_path" ["text"] (WRd pathIn) := by
  have sc := sc_read_path
  refine okE D sc (fun as S P EP h => by obtain ⟨_, rfl, _⟩ := h; rfl) (fun f cdv A outer s H E hg hr => (pdsse_cons (pdse_if (pdt_not (pdt_val (pd_callB call_isi vr_isi (by rfl) (B.b _ (by decide)) boot_isinstance (pda_cons (pdv 0) (pda_cons (pd_ty "str" (by rfl) (B.b _ (by decide)) (by decide +kernel)) pda_nil))))) (pdsse_one (pdse_raise R_InvalidText hT_InvalidText rfl (takes_of rfl rfl rfl rfl) (hr.mono (by decide)) (by rfl) (pd_int))) (pdsse_up pdss_nil)) (pdsse_cons (pdse_up (pds_set (i := 1) sc.nd rfl (Or.inl rfl) (pdc o_path_in hg hr (by rfl) (pda_cons (pdv 0) pda_nil)))) (pdsse_cons (pdse_if (pdt_is (pdv 1) (pd_non)) (pdsse_one (pdse_raise R_InvalidText hT_InvalidText rfl (takes_of rfl rfl rfl rfl) (hr.mono (by decide)) (by rfl) (pd_int))) (pdsse_up pdss_nil)) (pdsse_one (pdse_up (pds_ret (pdv 1)))))))) (fun args S P EP h => ?_)
  obtain ⟨x, rfl, ho, h⟩ := h
  refine ⟨by decide, ?_⟩
  cases x with
  | str z =>
    have hz : z.length ≤ 570 := by
      obtain ⟨h1, _⟩ := Bool.and_eq_true_iff.mp (show (decide (z.length ≤ 560) && z.cps.toList.all fun c => decide (c < 128)) = true from ho)
      have := of_decide_eq_true h1
      omega
    exact ⟨z, rfl, hz, cond_or (c := nonD (pathIn z)) (fun g => h.1 g) (fun g => h.2 g)⟩
  | none => exact h
  | bool b => exact h
  | int b => exact h
  | list b => exact h
  | tuple b => exact h
  | dict b => exact h
/-! ### the law's own texts -/
abbrev s__law_label_text : Stmt := top 38
theorem sc__law_label_text : FnScope ["_law_label"] ["_law_label"] (defScope s__law_label_text) := ⟨rfl, rfl, rfl, by decide +kernel, rfl, by decide +kernel, by decide +kernel⟩
theorem ok__law_label_text (D : DefAt K mg "_law_label_text" s__law_label_text ["_law_label"]) (B : Bl mg) : Own P w K mg base 1 "_law_label_text" ["_law_label"] WLt := by
  have sc := sc__law_label_text
  refine okO D sc (fun as S P h => by obtain ⟨_, _, rfl, _⟩ := h; rfl) (fun f cdv A outer s H E hg hr => (pdss_one (pds_ret (pd_add (pd_add (pd_at (pdv 0) (pd_int)) (pd_str)) (pd_callTy call_str_int vr_strOf (by rfl) (B.b _ (by decide)) (by decide +kernel) (pda_cons (pd_at (pdv 0) (pd_int)) pda_nil)))))) (fun args S P h => ?_)
  obtain ⟨x, i, rfl, hx, hi, h⟩ := h
  have l2 := numT_len hi
  exact ⟨line (by rw [sl1]; omega), hi, line (by rw [app_len, sl1]; omega), h⟩
abbrev s__law_text : Stmt := top 39
theorem sc__law_text : FnScope ["_law_way", "_law_thing_here", "_law_label"] ["_law_way", "_law_thing_here"] (defScope s__law_text) := ⟨rfl, rfl, rfl, by decide +kernel, rfl, by decide +kernel, by decide +kernel⟩
theorem ok__law_text (D : DefAt K mg "_law_text" s__law_text ["_law_way", "_law_thing_here"]) (B : Bl mg) (o__law_label_text : Own P w K mg base 1 "_law_label_text" ["_law_label"] WLt) : Own P w K mg base 2 "_law_text" ["_law_way", "_law_thing_here"] WTx := by
  have sc := sc__law_text
  refine okO D sc (fun as S P h => by obtain ⟨_, _, rfl, _⟩ := h; rfl) (fun f cdv A outer s H E hg hr => (pdss_cons (pds_if (pdt_eq hr (pdv 0) (pd_int)) (pdss_one (pds_ret (pd_add (pd_add (pd_callTy call_str_int vr_strOf (by rfl) (B.b _ (by decide)) (by decide +kernel) (pda_cons (pd_at (pdv 1) (pd_int)) pda_nil)) (pd_str)) (pd_callTy call_str_int vr_strOf (by rfl) (B.b _ (by decide)) (by decide +kernel) (pda_cons (pd_at (pdv 1) (pd_int)) pda_nil))))) pdss_nil) (pdss_one (pds_ret (pd_ife (pdt_neNilT hr (pdv 1) (pd_tup pda_nil)) (pd_bm PySem.F.plainAttrs_str PySem.F.slot_str_join PySem.F.type_str_join mt_join vr_join (pd_str) (pda_cons (pd_lc (own := [("_law_label", 2)]) rfl sc.nd (pdi_tup (pdv 1)) (blkOk_by (N := ["_law_way", "_law_thing_here", "_law_label"]) (sc := defScope s__law_text) (by decide +kernel)) (cg_name (by decide)) (fun _ _ _ _ _ => (pg_name (i := 2) sc.nd rfl (Or.inl rfl))) (fun _ _ _ _ _ => pts_yes) (fun _ _ _ _ _ => (pdc o__law_label_text hg hr (by rfl) (pda_cons (pdv 2) pda_nil)))) pda_nil)) (pd_str)))))) (fun args S P h => ?_)
  obtain ⟨i, x, rfl, ho, h0, h1⟩ := h
  refine cond_or (c := decide (i = 0)) (fun g => ?_) (fun g => ?_)
  · obtain ⟨hv, h⟩ := h0 (of_decide_eq_true g)
    obtain ⟨a, b, rfl, ha, hb⟩ := ver_parts hv ho
    have l1 := numT_len ha
    have l2 := numT_len hb
    exact ⟨ha, line (by rw [dot1]; omega), hb, line (by rw [app_len, dot1]; omega), h⟩
  · obtain ⟨hv, h⟩ := h1 (of_decide_eq_false g)
    cases x with
    | tuple ds =>
      obtain ⟨hn, hd⟩ := path_all hv ho
      have h : P (.d (.str (pathT ds))) S := h
      refine ⟨small2 rfl, rfl, ?_⟩
      refine cond_or (c := !ds.isEmpty) (fun g => ?_) (fun g => ?_)
      · unfold pathT at h
        rw [not_t g] at h
        refine ⟨rfl, by rw [sizeLine_eq]; omega, compD_map (fun d => .str (labOf d)) (fun d md Q q => ?_) ?_⟩
        · obtain ⟨y, i, rfl, hy, hi⟩ := lab_parts (hd d md).1 (hd d md).2
          exact ⟨y, i, rfl, hy, hi, q⟩
        · dsimp only [DL.gNil, List.nil_append]
          exact join_labs hn hd h
      · unfold pathT at h
        rw [not_f g] at h
        exact h
    | _ => cases hv
end
end K11
/-! try: .. except X as n: told = [word, n.field] .. for several X -/
namespace DL
open PySem PySem.Spec PyProof.Rows L2
theorem Sl.length {K : PySem.W.Frag} {Z As : List Addr} {S : Store} {H : Hp} {σ : L2.St} {env : DEnv} (h : Sl K Z As S H σ env) : σ.length = env.length := by
  induction h with
  | nil => rfl
  | none _ ih => exact congrArg Nat.succ ih
  | some _ _ ih => exact congrArg Nat.succ ih
/-- the clauses l take an error of the class at C, field f, with the word w: slot i is n's, slot t told's -/
def HX (K : PySem.W.Frag) (i t : Nat) (w f : Str) (C : Addr) (l : List (Value × (Addr → Value → Option Addr → TS))) : Prop := ∀ (Wout : WX) (D : Ends) (σ : L2.St) (H : Hp) (d : Addr) (ls : List (Str × V)) (v : V), i < σ.length → H d = some (.xd ls) → ls.lookup f = some v →
  (∀ a p, H p = none → D.nx (((σ.set i (some (.ref a))).set t (some (.ref p))).set i none) (upd H p (.lst [.str w, v]))) → wManyA K i Wout D l (.ref C) (some d) σ H
def gTryA (i t : Nat) (tag : Str → Option Str) (gb : GSE) : GS := fun env S D => gb env S D fun env' c x S' => ∃ w, tag c = some w ∧ (w.length ≤ 1000 ∧ i < env'.length) ∧
  ∀ a, D.nx (((env'.set i (some (.v (.ref a)))).set t (some (.d (.list [.str w, x])))).set i none) S'
theorem pds_tryA {X : Cx} {T : CLs} {body : List Stmt} {h₀ : ExceptHandler} {hds : List ExceptHandler} {l : List (Value × (Addr → Value → Option Addr → TS))} {n : Str} {i t : Nat} {pos : Pos} {tag : Str → Option Str} {gb : GSE}
    (hs : X.stack = X.env :: X.outer) (hf : X.env.frame = some X.env.locals) (hN : X.N.Nodup) (hi : X.N[i]? = some n) (hln : X.env.kindOf n = some .local)
    (hb : ∀ (W : WX) (pn : List (Addr × Obj)) (xe : Value → Shared → Prop), Takes (X.tr pn xe) W → PassesOwn (model X.prog X.w) X.A X.env xe → PDSsE (X.tr pn xe) T W body gb)
    (hh : HdsA X n (h₀ :: hds) l) (hl : ∀ c C f w, T c = some (C, f) → tag c = some w → HX X.K i t w f C l) : PDS X (.Try body (h₀ :: hds) [] [] pos) (gTryA i t tag gb) := by
  refine PSwk (ps_try_manyA hs hf hN hi hln takes0 (tb := fun W => tDSE X.K T W gb) hb hh) fun D σ H h => ?_
  obtain ⟨Z, As, S, env, E, rl, sl, hg, k1, k2, k3, k4⟩ := h
  refine ⟨Z, As, S, env, E, _, rl, sl, hg, k1, k2, k3, k4, ?_⟩
  intro env' c C f x S' As' σ' v H' dd ls H'' hT hE po rl' sl' dv nd sm hd hlk
  obtain ⟨w, hw, ⟨wl, il⟩, hn⟩ := hE
  obtain ⟨po2, rl2⟩ := same_po rl' sm
  refine hl c C f w hT hw _ D σ' H'' dd ls v (by rw [DL.Sl.length sl']; exact il) hd hlk fun a p np => ?_
  have po3 : Po Z As' S' H'' As' S' (upd H'' p (.lst [.str w, v])) := Po.new rl2 np
  have pall := (po.trans po2).trans po3
  have dl : AVr X.K Z As' S' (upd H'' p (.lst [.str w, v])) (.ref p) (.d (.list [.str w, x])) :=
    .lst (rl2.notLive np) upd_same (.cons (.str w (by rw [sizeLine_eq]; omega)) (.cons (DV.ex (po2.ext.trans po3.ext) _ _ dv) .nil))
  have s3 : Sl X.K Z As' S' (upd H'' p (.lst [.str w, v])) σ' env' := sl'.po (po2.trans po3)
  exact k1 _ S' As' _ _ (hn a) pall (rl2.new np) (((s3.set (a := .v (.ref a)) rfl).set dl).unset)
end DL
/-! law k11: asked, told -/
namespace K11
open PySem PySem.Spec PyProof.Rows L2 DL
/-- what a call answers, or the error's class and its field -/
def rdO (rd : Str → PyData) : PyData → PyData ⊕ (Str × PyData)
  | .str z => if nonD (rd z) then .inr ("InvalidText", .int 1) else .inl (rd z)
  | _ => .inr ("InvalidText", .int 0)
def outc (i : Nat) (x : PyData) : PyData ⊕ (Str × PyData) :=
  if i = 0 then (if pairD countD x then .inl (.str (verS x)) else .inr ("InvalidVersion", x))
  else if i = 1 then (if pathD x then .inl (.str (pathS x)) else .inr ("InvalidPath", x))
  else if i = 2 then rdO verIn x else rdO pathIn x
def outP (o : PyData ⊕ (Str × PyData)) (S : Store) (P : PQ) (EP : Str → PyData → Store → Prop) : Prop := match o with
  | .inl d => P (.d d) S
  | .inr (c, y) => EP c y S
def WAs : WDE := fun as S P EP => ∃ (i : Nat) (x : PyData) (b : Bool), as = [.d (.int i), .d x, .d (.bool b)] ∧ i < 4 ∧ okA x = true ∧ outP (outc i x) S P EP
theorem out_rd {rd : Str → PyData} {x : PyData} {S : Store} {P : PQ} {EP : Str → PyData → Store → Prop} (h : outP (rdO rd x) S P EP) : rdE rd x S P EP := by
  cases x with
  | str z =>
    have h : outP (if nonD (rd z) = true then .inr ("InvalidText", .int 1) else .inl (rd z)) S P EP := h
    constructor
    · intro g
      rw [if_pos g] at h
      exact h
    · intro g
      rw [if_neg (by rw [g]; exact Bool.false_ne_true)] at h
      exact h
  | _ => exact h
theorem out_if {c : Bool} {d y : PyData} {n : Str} {S : Store} {P : PQ} {EP : Str → PyData → Store → Prop} (h : outP (if c = true then .inl d else .inr (n, y)) S P EP) : (c = true → P (.d d) S) ∧ (c = false → EP n y S) := by
  constructor
  · intro g
    rw [if_pos g] at h
    exact h
  · intro g
    rw [if_neg (by rw [g]; exact Bool.false_ne_true)] at h
    exact h
theorem itt {A B : Prop} {c : Bool} (h : c = true) (a : A) : if c = true then A else B := by rw [if_pos h]; exact a
theorem by_name {A : Prop} {b : Bool} (h : A) : cond b A A := by cases b <;> exact h
section
variable {P : Program} {w : World} {K : PySem.W.Frag} {mg : Str → Option Value} {base : Heap} {T : CLs} {cV cP cT cL : Addr}
abbrev s__law_asked : Stmt := top 43
theorem sc__law_asked : FnScope ["_law_way", "_law_thing_here", "_law_by_name"] ["_law_way", "_law_thing_here", "_law_by_name"] (defScope s__law_asked) := ⟨rfl, rfl, rfl, by decide +kernel, rfl, by decide +kernel, by decide +kernel⟩
theorem ok__law_asked (D : DefAt K mg "_law_asked" s__law_asked ["_law_way", "_law_thing_here", "_law_by_name"]) (o_version_text : OwnE P w K mg base T 4 "version_text" ["version"] WVt) (o_path_text : OwnE P w K mg base T 5 "path_text" ["path"] WPt)
    (o_read_version : OwnE P w K mg base T 3 "read_version" ["text"] (WRd verIn)) (o_read_path : OwnE P w K mg base T 4 "read_path" ["text"] (WRd pathIn)) : OwnE P w K mg base T 6 "_law_asked" ["_law_way", "_law_thing_here", "_law_by_name"] WAs := by
  have sc := sc__law_asked
  refine okE D sc (fun as S P EP h => by obtain ⟨_, _, _, rfl, _⟩ := h; rfl) (fun f cdv A outer s H E hg hr => (pdsse_cons (pdse_if (pdt_eq hr (pdv 0) (pd_int)) (pdsse_one (pdse_ret (pde_ife (pdt_v 2) (pde_callK o_version_text (takes_of rfl rfl rfl rfl) hg hr (by rfl) (pdk_cons (pdv 1) pdk_nil)) (pde_call o_version_text (takes_of rfl rfl rfl rfl) hg hr (by rfl) (pda_cons (pdv 1) pda_nil))))) (pdsse_up pdss_nil)) (pdsse_cons (pdse_if (pdt_eq hr (pdv 0) (pd_int)) (pdsse_one (pdse_ret (pde_ife (pdt_v 2) (pde_callK o_path_text (takes_of rfl rfl rfl rfl) hg hr (by rfl) (pdk_cons (pdv 1) pdk_nil)) (pde_call o_path_text (takes_of rfl rfl rfl rfl) hg hr (by rfl) (pda_cons (pdv 1) pda_nil))))) (pdsse_up pdss_nil)) (pdsse_cons (pdse_if (pdt_eq hr (pdv 0) (pd_int)) (pdsse_one (pdse_ret (pde_ife (pdt_v 2) (pde_callK o_read_version (takes_of rfl rfl rfl rfl) hg hr (by rfl) (pdk_cons (pdv 1) pdk_nil)) (pde_call o_read_version (takes_of rfl rfl rfl rfl) hg hr (by rfl) (pda_cons (pdv 1) pda_nil))))) (pdsse_up pdss_nil)) (pdsse_one (pdse_ret (pde_ife (pdt_v 2) (pde_callK o_read_path (takes_of rfl rfl rfl rfl) hg hr (by rfl) (pdk_cons (pdv 1) pdk_nil)) (pde_call o_read_path (takes_of rfl rfl rfl rfl) hg hr (by rfl) (pda_cons (pdv 1) pda_nil))))))))) (fun args S P EP h => ?_)
  obtain ⟨i, x, b, rfl, hi, ho, h⟩ := h
  have : i = 0 ∨ i = 1 ∨ i = 2 ∨ i = 3 := by omega
  rcases this with rfl | rfl | rfl | rfl
  · obtain ⟨h1, h2⟩ := out_if (show outP (if pairD countD x = true then _ else _) S P EP from h)
    have z : WVt [.d x] S P EP := ⟨x, rfl, ho, h1, h2⟩
    exact by_name (b := b) z
  · obtain ⟨h1, h2⟩ := out_if (show outP (if pathD x = true then _ else _) S P EP from h)
    have z : WPt [.d x] S P EP := ⟨x, rfl, ho, h1, h2⟩
    exact by_name (b := b) z
  · have z : WRd verIn [.d x] S P EP := ⟨x, rfl, ho, out_rd h⟩
    exact by_name (b := b) z
  · have z : WRd pathIn [.d x] S P EP := ⟨x, rfl, ho, out_rd h⟩
    exact by_name (b := b) z
/-- what the written part says of the own classes that the law catches -/
structure Errs (K : PySem.W.Frag) (mg : Str → Option Value) (cV cP cT cL : Addr) : Prop where
  gV : mg "InvalidVersion" = some (.ref cV)
  gP : mg "InvalidPath" = some (.ref cP)
  gT : mg "InvalidText" = some (.ref cT)
  gL : mg "LinkError" = some (.ref cL)
  tV : OexG K cV
  tP : OexG K cP
  tT : OexG K cT
  nV : PySem.W.findIn K (.ref cV) "value" = some none
  nP : PySem.W.findIn K (.ref cP) "value" = some none
  nT : PySem.W.findIn K (.ref cT) "line" = some none
  vv : PySem.W.exmOne K (.ref cV) (.ref cV) = some true
  pv : PySem.W.exmOne K (.ref cP) (.ref cV) = some false
  pp : PySem.W.exmOne K (.ref cP) (.ref cP) = some true
  tv : PySem.W.exmOne K (.ref cT) (.ref cV) = some false
  tp : PySem.W.exmOne K (.ref cT) (.ref cP) = some false
  tt : PySem.W.exmOne K (.ref cT) (.ref cT) = some true
  kV : PySem.W.kitOne K (.ref cV) (.ref cL) = some true
  kP : PySem.W.kitOne K (.ref cP) (.ref cL) = some true
  kT : PySem.W.kitOne K (.ref cT) (.ref cL) = some true
  G : GetC K
def TT (cV cP cT : Addr) : CLs := fun c => if c = "InvalidVersion" then some (cV, "value") else if c = "InvalidPath" then some (cP, "value") else if c = "InvalidText" then some (cT, "line") else none
def tagT (c : Str) : Option Str := if c = "InvalidVersion" then some "version" else if c = "InvalidPath" then some "path" else if c = "InvalidText" then some "text" else none
def toldD : PyData ⊕ (Str × PyData) → PyData
  | .inl d => .list [.str "told", d]
  | .inr (c, y) => .list [.str ((tagT c).getD ""), y]
def WTo : WD := fun as S P => ∃ (i : Nat) (x : PyData) (b : Bool), as = [.d (.int i), .d x, .d (.bool b)] ∧ i < 4 ∧ okA x = true ∧ P (.d (toldD (outc i x))) S
theorem out_tag {i : Nat} {x : PyData} {c : Str} {y : PyData} (h : outc i x = .inr (c, y)) : ∃ w, tagT c = some w ∧ w.length ≤ 1000 := by
  have rd : ∀ r, rdO r x = .inr (c, y) → c = "InvalidText" := fun r h => by
    cases x with
    | str z =>
      have h : (if nonD (r z) = true then Sum.inr (("InvalidText" : Str), PyData.int 1) else Sum.inl (r z)) = Sum.inr (c, y) := h
      split at h
      · cases h; rfl
      · cases h
    | _ => cases h; rfl
  have e1 : ("InvalidPath" : Str) ≠ "InvalidVersion" := by decide +kernel
  have e2 : ("InvalidText" : Str) ≠ "InvalidVersion" := by decide +kernel
  have e3 : ("InvalidText" : Str) ≠ "InvalidPath" := by decide +kernel
  have cs : c = "InvalidVersion" ∨ c = "InvalidPath" ∨ c = "InvalidText" := by
    unfold outc at h
    split at h
    · split at h
      · cases h
      · cases h; exact .inl rfl
    · split at h
      · split at h
        · cases h
        · cases h; exact .inr (.inl rfl)
      · split at h
        · exact .inr (.inr (rd _ h))
        · exact .inr (.inr (rd _ h))
  rcases cs with rfl | rfl | rfl
  · exact ⟨"version", if_pos rfl, by decide +kernel⟩
  · exact ⟨"path", by unfold tagT; rw [if_neg e1, if_pos rfl], by decide +kernel⟩
  · exact ⟨"text", by unfold tagT; rw [if_neg e2, if_neg e3, if_pos rfl], by decide +kernel⟩
theorem su_read {a C d : Addr} {f wd : Str} {σ : L2.St} {H : Hp} {ls : List (Str × V)} {v : V} {D : Ends} (T : OexG K C) (nf : PySem.W.findIn K (.ref C) f = some none) (kit : PySem.W.kitOne K (.ref C) (.ref cL) = some true) (il : 4 < σ.length) (hd : H d = some (.xd ls)) (hlk : ls.lookup f = some v)
    (hn : ∀ p, H p = none → D.nx (((σ.set 4 (some (.ref a))).set 3 (some (.ref p))).set 4 none) (upd H p (.lst [.str wd, v]))) :
    tAsg (tIf (tB (tCB (rSuI K a (.ref C) (some d)) (tCons (tVar 4) (tCons (tC (.ref cL)) tNil)))) (tLst (tCons (tC (.str wd)) (tCons (tSuF K f a (.ref C) (some d) (tVar 4)) tNil))) (tLst (tCons (tC (.str "other")) tNil))) (gName 3)
      ⟨fun σ' H' => D.nx (σ'.set 4 none) H', D.rt, fun σ' H' => D.bk (σ'.set 4 none) H', fun σ' H' => D.ct (σ'.set 4 none) H'⟩ (σ.set 4 (some (.ref a))) H := by
  have slot : (σ.set 4 (some (V.ref a)))[4]? = some (some (.ref a)) := List.getElem?_set_self il
  refine ⟨.ref a, slot, C, d, ls, .ref cL, .ref cL, true, rfl, rfl, T, rfl, hd, .own cL, kit, true, rfl, ?_⟩
  refine itt rfl ?_
  exact ⟨.ref a, slot, C, d, ls, v, rfl, rfl, T, nf, rfl, hd, hlk, small2 rfl, fun p np => hn p np⟩
abbrev s__law_told : Stmt := top 44
theorem sc__law_told : FnScope ["_law_way", "_law_thing_here", "_law_by_name", "_law_told_here", "e"] ["_law_way", "_law_thing_here", "_law_by_name"] (defScope s__law_told) := ⟨rfl, rfl, rfl, by decide +kernel, rfl, by decide +kernel, by decide +kernel⟩
theorem ok__law_told (D : DefAt K mg "_law_told" s__law_told ["_law_way", "_law_thing_here", "_law_by_name"]) (B : Bl mg) (R : Errs K mg cV cP cT cL) (o__law_asked : OwnE P w K mg base (TT cV cP cT) 6 "_law_asked" ["_law_way", "_law_thing_here", "_law_by_name"] WAs) :
    Own P w K mg base 7 "_law_told" ["_law_way", "_law_thing_here", "_law_by_name"] WTo := by
  have sc := sc__law_told
  refine okO D sc (fun as S P h => by obtain ⟨_, _, _, rfl, _⟩ := h; rfl) (fun f cdv A outer s H E hg hr =>
    pdss_cons (pds_set (i := 3) sc.nd rfl (Or.inl rfl) (pd_lst (pda_cons pd_str pda_nil)))
    (pdss_cons (pds_tryA (i := 4) (t := 3) (T := TT cV cP cT) (tag := tagT) rfl rfl sc.nd rfl rfl
      (fun W pn xe tk _ => pdsse_one (pdse_set (i := 3) sc.nd rfl (Or.inl rfl) (pde_lst (pdae_cons (pde_up pd_str) (pdae_cons (pde_call o__law_asked tk hg hr (by rfl) (pda_cons (pdv 0) (pda_cons (pdv 1) (pda_cons (pdv 2) pda_nil)))) pdae_nil)))))
      (.cons ⟨rfl, rfl, .inl R.gV⟩ (fun a oe cls d pn hz hf => pss_one (ps_set (i := 3) sc.nd rfl (Or.inl rfl) (pe_ifExp (pt_val (pe_callB (call_suI R.G hz hf) (by rfl) (B.b _ (by decide)) boot_isinstance (pa_cons (pv 4) (pa_cons (pe_glob (v := .ref cL) (by rfl) R.gL rfl) pa_nil))))
          (pe_lst (pa_cons pe_str (pa_cons (pe_suF hz hf (pv 4)) pa_nil))) (pe_lst (pa_cons pe_str pa_nil)))))
      (.cons ⟨rfl, rfl, .inl R.gP⟩ (fun a oe cls d pn hz hf => pss_one (ps_set (i := 3) sc.nd rfl (Or.inl rfl) (pe_ifExp (pt_val (pe_callB (call_suI R.G hz hf) (by rfl) (B.b _ (by decide)) boot_isinstance (pa_cons (pv 4) (pa_cons (pe_glob (v := .ref cL) (by rfl) R.gL rfl) pa_nil))))
          (pe_lst (pa_cons pe_str (pa_cons (pe_suF hz hf (pv 4)) pa_nil))) (pe_lst (pa_cons pe_str pa_nil)))))
      (.cons ⟨rfl, rfl, .inl R.gT⟩ (fun a oe cls d pn hz hf => pss_one (ps_set (i := 3) sc.nd rfl (Or.inl rfl) (pe_ifExp (pt_val (pe_callB (call_suI R.G hz hf) (by rfl) (B.b _ (by decide)) boot_isinstance (pa_cons (pv 4) (pa_cons (pe_glob (v := .ref cL) (by rfl) R.gL rfl) pa_nil))))
          (pe_lst (pa_cons pe_str (pa_cons (pe_suF hz hf (pv 4)) pa_nil))) (pe_lst (pa_cons pe_str pa_nil)))))
      .nil))) (by
        intro c C f w hT ht Wout D σ H d ls v il hd hlk hn
        have e1 : ("InvalidPath" : Str) ≠ "InvalidVersion" := by decide +kernel
        have e2 : ("InvalidText" : Str) ≠ "InvalidVersion" := by decide +kernel
        have e3 : ("InvalidText" : Str) ≠ "InvalidPath" := by decide +kernel
        by_cases c1 : c = "InvalidVersion"
        · subst c1
          cases (show some (cV, ("value" : Str)) = some (C, f) from hT)
          cases (show some ("version" : Str) = some w from ht)
          exact ⟨true, R.vv, fun _ a na => su_read R.tV R.nV R.kV il hd hlk fun p np => hn a p np, (by intro z; cases z)⟩
        by_cases c2 : c = "InvalidPath"
        · subst c2
          have hT : some (cP, ("value" : Str)) = some (C, f) := by rw [← hT]; unfold TT; rw [if_neg e1, if_pos rfl]
          have ht : some ("path" : Str) = some w := by rw [← ht]; unfold tagT; rw [if_neg e1, if_pos rfl]
          cases hT
          cases ht
          exact ⟨false, R.pv, (by intro z; cases z), fun _ => ⟨true, R.pp, fun _ a na => su_read R.tP R.nP R.kP il hd hlk fun p np => hn a p np, (by intro z; cases z)⟩⟩
        by_cases c3 : c = "InvalidText"
        · subst c3
          have hT : some (cT, ("line" : Str)) = some (C, f) := by rw [← hT]; unfold TT; rw [if_neg e2, if_neg e3, if_pos rfl]
          have ht : some ("text" : Str) = some w := by rw [← ht]; unfold tagT; rw [if_neg e2, if_neg e3, if_pos rfl]
          cases hT
          cases ht
          exact ⟨false, R.tv, (by intro z; cases z), fun _ => ⟨false, R.tp, (by intro z; cases z), fun _ => ⟨true, R.tt, fun _ a na => su_read R.tT R.nT R.kT il hd hlk fun p np => hn a p np, (by intro z; cases z)⟩⟩⟩
        · unfold tagT at ht
          rw [if_neg c1, if_neg c2, if_neg c3] at ht
          cases ht))
    (pdss_one (pds_ret (pdv 3))))) (fun args S P h => ?_)
  obtain ⟨i, x, b, rfl, hi, ho, h⟩ := h
  refine ⟨small2 rfl, i, x, b, rfl, hi, ho, ?_⟩
  cases e : outc i x with
  | inl d =>
    rw [e] at h
    exact ⟨small2 rfl, h⟩
  | inr p =>
    obtain ⟨c, y⟩ := p
    rw [e] at h
    obtain ⟨w, hw, hl⟩ := out_tag e
    have h : P (.d (.list [.str ((tagT c).getD ""), y])) S := h
    rw [hw] at h
    exact ⟨w, hw, ⟨hl, by show 4 < 5; decide⟩, fun a => h⟩
end
end K11
/-! law k11: draws -/
namespace K11
open PySem PySem.Spec PyProof.Rows L2 DL
abbrev sRng : Stmt := top 26
abbrev sDraw : Stmt := top 27
section
variable {P : Program} {w : World} {K : PySem.W.Frag} {mg : Str → Option Value} {base : Heap} {f : Addr} {fd : FuncData}
theorem scRng : FnScope ["_law_script", "_law_k", "_law_cell"] ["_law_script", "_law_k"] (defScope sRng) := ⟨rfl, rfl, rfl, by decide +kernel, rfl, by decide +kernel, by decide +kernel⟩

theorem scDraw : FnScope ["_law_rng_here", "_law_many", "_law_digit"] ["_law_rng_here", "_law_many"] (defScope sDraw) := ⟨rfl, rfl, rfl, by decide +kernel, rfl, by decide +kernel, by decide +kernel⟩
theorem ok_rng (F : Fun K "_law_rng" "_law_rng" sRng f fd) (B : Bl mg) : FnOk P w K mg base CX0 1 f fd ["_law_script", "_law_k"] (spRng K) := by
  refine F.ok scRng (fun vs H Q E h => ?_) (fun cdv A outer s H vs Q E hr h => ?_)
  · obtain ⟨a, ns, k, rfl, _⟩ := h
    rfl
  · obtain ⟨a, ns, k, rfl, hS, hk, q⟩ := h
    refine ⟨_, pss_cons (ps_set (i := 2) scRng.nd rfl (Or.inl rfl) (pe_ifExp (pt_cmpR op_lt (pv 1) (pe_callB call_len_seq (by rfl) (B.b "len" (by decide)) boot_len (pa_cons (pv 0) pa_nil)) (nomark _))
        (pe_callB call_abs (by rfl) (B.b "abs" (by decide)) boot_abs (pa_cons (pe_ix ix_list (pv 0) (pv 1) (fun _ _ => rfl)) pa_nil)) pe_int))
      (pss_one (ps_ret (pe_lst (pa_cons (pe_callB (call_max2 rfl) (by rfl) (B.b "max" (by decide)) boot_max (pa_cons pe_int (pa_cons (pe_op op_sub (pv 2) (pe_op op_pow pe_int pe_int)) pa_nil)))
        (pa_cons (pe_op op_add (pe_op op_mod (pe_op op_pow (pe_op op_add (pe_op op_add (pe_op op_mod (pv 2) pe_int) (pe_op op_mul pe_int (pv 1))) pe_int) pe_int) pe_int) pe_int) pa_nil))))), ?_⟩
    -- what comes behind the cell's value
    have rest : ∀ c : Int, 0 ≤ c → ∀ σ : L2.St, σ = [some (.ref a), some (.int (k : Int)), some (.int c)] →
        tRet (tLst (tCons (tCB (fun xs H Q => ∃ i j, xs = [.int i, .int j] ∧ Q (.int (if j > i then j else i)) H) (tCons (tC (.int 0)) (tCons (tOp (rI0 fun i j => .int (i - j)) (tVar 2) (tOp (rI CPow fun i j => .int (i ^ j.toNat)) (tC (.int 10)) (tC (.int 18)))) tNil)))
          (tCons (tOp (rI0 fun i j => .int (i + j)) (tOp (rI (fun _ j => 0 < j) fun i j => .int (i % j)) (tOp (rI CPow fun i j => .int (i ^ j.toNat)) (tOp (rI0 fun i j => .int (i + j)) (tOp (rI0 fun i j => .int (i + j)) (tOp (rI (fun _ j => 0 < j) fun i j => .int (i % j)) (tVar 2) (tC (.int 2147483563)))
            (tOp (rI CMul fun i j => .int (i * j)) (tC (.int 4099)) (tVar 1))) (tC (.int 17))) (tC (.int 2))) (tC (.int 2147483549))) (tC (.int 1))) tNil)))
          { nx := fun _ H' => Q .non H', rt := Q } σ H := by
      intro c hc σ hσ
      subst hσ
      have m1 : 0 ≤ c % 2147483563 := Int.emod_nonneg _ (by decide)
      have m2 : c % 2147483563 < 2147483563 := Int.emod_lt_of_pos _ (by decide)
      refine ⟨_, rfl, _, _, rfl, rfl, ⟨by decide, by decide, by decide⟩, _, _, rfl, rfl, _, _, rfl, ?_⟩
      refine ⟨_, rfl, _, _, rfl, rfl, (by show (0 : Int) < 2147483563; decide), _, rfl, _, _, rfl, rfl, .inl ⟨by decide, by decide⟩, _, _, rfl, rfl, _, _, rfl, rfl, _, _, rfl, rfl, ⟨by decide, by decide, ?_⟩, _, _, rfl, rfl, (by show (0 : Int) < 2147483549; decide), _, _, rfl, rfl, ?_⟩
      · show (c % 2147483563 + 4099 * (k : Int) + 17).natAbs < 2 ^ 64
        omega
      · refine ⟨(by show 2 ≤ sizeLine; decide), fun p hp => q p _ hp (fun b o e => ?_) ⟨_, _, upd_same, ?_, ?_⟩⟩
        · rw [upd_ne (ne_of_none e hp)]
          exact e
        · have := Int.emod_nonneg ((c % 2147483563 + 4099 * (k : Int) + 17) ^ (2 : Int).toNat) (show (2147483549 : Int) ≠ 0 by decide)
          omega
        · have := Int.emod_lt_of_pos ((c % 2147483563 + 4099 * (k : Int) + 17) ^ (2 : Int).toNat) (show (0 : Int) < 2147483549 by decide)
          omega
    refine ⟨_, rfl, _, rfl, a, _, rfl, .inl hS, _, _, rfl, rfl, _, rfl, ?_⟩
    refine ite2 (fun hlt => ?_) (fun _ => ?_)
    · have hlt' : k < (ns.map V.int).length := by
        have z := of_decide_eq_true hlt
        omega
      rw [List.length_map] at hlt'
      have hat : (ns.map V.int)[k]? = some (.int ns[k]) := by rw [List.getElem?_map, List.getElem?_eq_getElem hlt']; rfl
      refine ⟨_, rfl, _, rfl, a, _, _, _, rfl, rfl, hS, atI_nat hat, _, rfl, ?_⟩
      refine rest _ ?_ _ rfl
      split <;> omega
    · exact rest 0 (by decide) _ rfl
/-! ### _law_draw, _law_choice -/
theorem ok_draw (F : Fun K "_law_draw" "_law_draw" sDraw f fd) (B : Bl mg) : FnOk P w K mg base CX0 1 f fd ["_law_rng_here", "_law_many"] spDraw := by
  refine F.ok scDraw (fun vs H Q E h => ?_) (fun cdv A outer s H vs Q E hr h => ?_)
  · obtain ⟨a, n, rfl, _⟩ := h
    rfl
  · obtain ⟨a, n, rfl, ⟨x, y, ha, y0, y1⟩, n0, n1, q⟩ := h
    refine ⟨_, pss_cons (ps_if (pt_cmpR op_gt (pe_ix ix_list (pv 0) pe_int (fun _ _ => rfl)) pe_int (nomark _))
        (pss_cons (ps_asg (pe_callB call_divmodW (by rfl) (B.b "divmod" (by decide)) boot_divmod (pa_cons (pe_ix ix_list (pv 0) pe_int (fun _ _ => rfl)) (pa_cons (pv 1) pa_nil)))
            (pg_tup rfl (pgs_cons (pg_sub (pv 0) pe_int set_list) (pgs_cons (pg_name (i := 2) scDraw.nd rfl (Or.inl rfl)) pgs_nil))))
          (pss_one (ps_ret (pv 2)))) pss_nil)
      (pss_cons (ps_asg (pe_op op_mod (pe_op op_add (pe_op op_mul (pe_ix ix_list (pv 0) pe_int (fun _ _ => rfl)) pe_int) pe_int) pe_int) (pg_sub (pv 0) pe_int set_list))
      (pss_one (ps_ret (pe_op op_mod (pe_op op_fdiv (pe_op op_mod (pe_op op_mul (pe_ix ix_list (pv 0) pe_int (fun _ _ => rfl)) (pe_ix ix_list (pv 0) pe_int (fun _ _ => rfl))) pe_int) pe_int) (pv 1))))), ?_⟩
    have hS : SqL K H a [.int x, .int y] := .inl (.inl ha)
    refine ⟨_, rfl, a, _, _, _, rfl, rfl, hS, rfl, _, _, rfl, rfl, _, rfl, ?_⟩
    refine ite2 (fun hgt => ?_) (fun _ => ?_)
    · have hx : 0 < x := of_decide_eq_true hgt
      refine ⟨_, rfl, a, _, _, _, rfl, rfl, hS, rfl, _, rfl, _, _, rfl, ⟨n0, PyProof.noPylong_of_log2 (wide_n n0 n1)⟩, fun p hp => ?_⟩
      have ne : a ≠ p := ne_of_none ha hp
      refine ⟨p, _, rfl, .inl (.inl upd_same), rfl, _, _, rfl, _, rfl, a, _, _, 0, rfl, rfl, by rw [upd_ne ne]; exact ha, rfl, _, _, rfl, rfl, ?_⟩
      refine ⟨_, rfl, q _ _ (Int.emod_nonneg _ (by omega)) (Int.emod_lt_of_pos _ n0) (fun b o hb e => ?_) ⟨_, y, upd_same, y0, y1⟩⟩
      rw [upd_ne hb, upd_ne (ne_of_none e hp)]
      exact e
    · have z0 := Int.emod_nonneg (y * 39373 + 9311) (show (2147483629 : Int) ≠ 0 by decide)
      have z1 := Int.emod_lt_of_pos (y * 39373 + 9311) (show (0 : Int) < 2147483629 by decide)
      have hS' : SqL K (upd H a (.lst [.int x, .int ((y * 39373 + 9311) % 2147483629)])) a [.int x, .int ((y * 39373 + 9311) % 2147483629)] := .inl (.inl upd_same)
      have zz : -(2 ^ 64) < ((y * 39373 + 9311) % 2147483629) ∧ ((y * 39373 + 9311) % 2147483629) < 2 ^ 64 := ⟨by omega, by omega⟩
      refine ⟨_, rfl, a, _, _, _, rfl, rfl, hS, rfl, _, _, rfl, rfl, .inr ⟨by decide, by decide⟩, _, _, rfl, rfl, _, _, rfl, rfl, (by show (0 : Int) < 2147483629; decide), _, rfl, a, _, _, 1, rfl, rfl, ha, rfl, ?_⟩
      refine ⟨_, rfl, a, [.int x, .int ((y * 39373 + 9311) % 2147483629)], 1, .int ((y * 39373 + 9311) % 2147483629), rfl, rfl, hS', rfl, _, rfl, a, [.int x, .int ((y * 39373 + 9311) % 2147483629)], 1, .int ((y * 39373 + 9311) % 2147483629), rfl, rfl, hS', rfl, ((y * 39373 + 9311) % 2147483629), ((y * 39373 + 9311) % 2147483629), rfl, rfl, .inl zz, _, _, rfl, rfl, (by show (0 : Int) < 2147483563; decide), _, _, rfl, rfl, ⟨by decide, by decide⟩, _, rfl, _, _, rfl, rfl, n0, ?_⟩
      refine q _ _ (Int.emod_nonneg _ (by omega)) (Int.emod_lt_of_pos _ n0) (fun b o hb e => ?_) ⟨x, ((y * 39373 + 9311) % 2147483629), upd_same, z0, by omega⟩
      rw [upd_ne hb]
      exact e
theorem own_draw (D : DefAt K mg "_law_draw" sDraw ["_law_rng_here", "_law_many"]) (B : Bl mg) : Own P w K mg base 1 "_law_draw" ["_law_rng_here", "_law_many"] WDraw := by
  obtain ⟨f, fd, F, h1, h2, h3, h4⟩ := D.ex
  exact ⟨f, fd, draw_of (ok_draw F B), h1, h2, h3, h4⟩
/-- choice from a list, or from a text -/
def WCh : WD := fun as S P => ∃ (r : Nat) (b : AV), as = [.m r, b] ∧ S[r]? = some .rng ∧ ((∃ ds, vw S b = some (.list ds) ∧ (0 < ds.length ∧ ds.length ≤ 1000) ∧ ∀ y, y ∈ ds → P (.d y) S) ∨
  ∃ z, b = .d (.str z) ∧ (0 < z.length ∧ z.length ≤ 1000) ∧ ∀ c, c ∈ z.cps.toList → P (.d (.str (sgn c))) S)
abbrev s__law_choice : Stmt := top 28
theorem sc__law_choice : FnScope ["_law_rng_here", "_law_some"] ["_law_rng_here", "_law_some"] (defScope s__law_choice) := ⟨rfl, rfl, rfl, by decide +kernel, rfl, by decide +kernel, by decide +kernel⟩
theorem ok__law_choice (D : DefAt K mg "_law_choice" s__law_choice ["_law_rng_here", "_law_some"]) (B : Bl mg) (o__law_draw : Own P w K mg base 1 "_law_draw" ["_law_rng_here", "_law_many"] WDraw) : Own P w K mg base 2 "_law_choice" ["_law_rng_here", "_law_some"] WCh := by
  have sc := sc__law_choice
  refine okO D sc (fun as S P h => by obtain ⟨_, _, rfl, _⟩ := h; rfl) (fun f cdv A outer s H E hg hr => (pdss_one (pds_ret (pd_at (pdv 1) (pdc o__law_draw hg hr (by rfl) (pda_cons (pdv 0) (pda_cons (pd_callB call_lenAll vr_len (by rfl) (B.b _ (by decide)) (by decide +kernel) (pda_cons (pdv 1) pda_nil)) pda_nil))))))) (fun args S P h => ?_)
  obtain ⟨r, b, rfl, hS, h⟩ := h
  rcases h with ⟨ds, hb, ⟨h0, h1⟩, h⟩ | ⟨z, rfl, ⟨h0, h1⟩, h⟩
  · show (match vw S b with
      | some (.list ds) => _
      | some (.tuple ds) => _
      | some (.str x) => _
      | _ => False)
    rw [hb]
    refine ⟨r, (ds.length : Int), rfl, hS, ⟨by omega, by omega⟩, fun d d0 d1 => ?_⟩
    obtain ⟨j, rfl⟩ : ∃ j : Nat, d = (j : Int) := ⟨d.toNat, by omega⟩
    have hj : j < ds.length := by omega
    exact ix_l hb rfl (atI_nat (List.getElem?_eq_getElem hj)) (h _ (List.getElem_mem hj))
  · refine ⟨r, (z.length : Int), rfl, hS, ⟨by omega, by omega⟩, fun d d0 d1 => ?_⟩
    obtain ⟨j, rfl⟩ : ∃ j : Nat, d = (j : Int) := ⟨d.toNat, by omega⟩
    have hj : j < z.cps.toList.length := by rw [str_size]; omega
    exact ix_s (z := z) rfl rfl (atI_nat (List.getElem?_eq_getElem hj)) (h _ (List.getElem_mem hj))
/-! ### how great what is drawn is -/
structure Nice (d l : Nat) (x : PyData) : Prop where
  fit : Fit d l x
  ok : okA x = true
theorem Nice.mono {d d' l l' : Nat} {x : PyData} (h : Nice d l x) (hd : d ≤ d') (hl : l ≤ l') : Nice d' l' x := ⟨h.fit.mono hd hl, h.ok⟩
structure Nices (d l : Nat) (xs : List PyData) : Prop where
  fit : Fits d l xs
  ok : ∀ x, x ∈ xs → okA x = true
theorem Nices.nil {d : Nat} : Nices d 0 [] := ⟨Fits.nil0, fun x h => (nomatch h)⟩
theorem Nices.cons {d l m : Nat} {x : PyData} {xs : List PyData} (h : Nice d l x) (t : Nices d m xs) : Nices d (l + 2 + m) (x :: xs) := ⟨Fits.cons h.fit t.fit, fun y hy => by
  rcases List.mem_cons.mp hy with rfl | hy
  · exact h.ok
  · exact t.ok y hy⟩
theorem Nices.app {d l m : Nat} {xs ys : List PyData} (h : Nices d l xs) (t : Nices d m ys) : Nices d (l + m) (xs ++ ys) := ⟨Fits.app h.fit t.fit, fun y hy => by
  rcases List.mem_append.mp hy with hy | hy
  · exact h.ok y hy
  · exact t.ok y hy⟩
theorem Nices.sub {d l : Nat} {xs ys : List PyData} (h : Nices d l ys) (s : xs.Sublist ys) : Nices d l xs := ⟨h.fit.sub s, fun y hy => h.ok y (s.subset hy)⟩
theorem Nices.mono {d d' l l' : Nat} {xs : List PyData} (h : Nices d l xs) (hd : d ≤ d') (hl : l ≤ l') : Nices d' l' xs := ⟨h.fit.mono hd hl, h.ok⟩
theorem Nices.tup {d l : Nat} {xs : List PyData} (h : Nices d l xs) : Nice (d + 1) (l + 3) (.tuple xs) := ⟨h.fit.tup, okAs_of h.ok⟩
theorem Nices.lst {d l : Nat} {xs : List PyData} (h : Nices d l xs) : Nice (d + 1) (l + 3) (.list xs) := ⟨h.fit.lst, okAs_of h.ok⟩
theorem Nices.of {d l : Nat} {xs : List PyData} (h : ∀ x, x ∈ xs → Nice d l x) : Nices d (xs.length * (l + 2)) xs := ⟨Fits.of fun x hx => (h x hx).fit, fun x hx => (h x hx).ok⟩
theorem Nice.items {d l : Nat} {xs : List PyData} (h : Nice d l (.tuple xs)) : Nices (d - 1) l xs ∧ 1 ≤ d := ⟨⟨h.fit.items.1, okAs_mem h.ok⟩, h.fit.items.2⟩
theorem nice_int {i : Int} (h0 : 0 ≤ i) (h : i < 10 ^ 27) : Nice 0 29 (.int i) := by
  have e : (10 : Int) ^ 27 = ((10 ^ 27 : Nat) : Int) := by decide
  have g : (10 : Nat) ^ 27 < 10 ^ 28 := by decide
  have n : i.natAbs < 10 ^ 27 := by rw [e] at h; omega
  exact ⟨fit_intK (k := 27) (by decide) (by decide) n, decide_eq_true (Nat.lt_trans n g)⟩
theorem nice_str {z : Str} (hz : ∀ c, c ∈ z.cps.toList → c < 128) (hl : z.length ≤ 560) : Nice 0 (10 * z.length + 2) (.str z) :=
  ⟨fit_str fun c hc => Nat.lt_of_lt_of_le (hz c hc) (by decide), by
    show (decide (z.length ≤ 560) && z.cps.toList.all fun c => decide (c < 128)) = true
    rw [decide_eq_true hl, Bool.true_and]
    exact List.all_eq_true.mpr fun c hc => decide_eq_true (hz c hc)⟩
def WNu : WD := fun as S P => ∃ r : Nat, as = [.m r] ∧ S[r]? = some .rng ∧ ∀ i : Int, 0 ≤ i → i < 10 ^ 27 → P (.d (.int i)) S
abbrev s__law_number : Stmt := top 33
theorem sc__law_number : FnScope ["_law_rng_here"] ["_law_rng_here"] (defScope s__law_number) := ⟨rfl, rfl, rfl, by decide +kernel, rfl, by decide +kernel, by decide +kernel⟩
theorem ok__law_number (D : DefAt K mg "_law_number" s__law_number ["_law_rng_here"]) (o__law_draw : Own P w K mg base 1 "_law_draw" ["_law_rng_here", "_law_many"] WDraw) : Own P w K mg base 2 "_law_number" ["_law_rng_here"] WNu := by
  have sc := sc__law_number
  refine okO D sc (fun as S P h => by obtain ⟨_, rfl, _⟩ := h; rfl) (fun f cdv A outer s H E hg hr => (pdss_one (pds_ret (pd_at (pd_lst (pda_cons (pd_int) (pda_cons (pd_int) (pda_cons (pdc o__law_draw hg hr (by rfl) (pda_cons (pdv 0) (pda_cons (pd_int) pda_nil))) (pda_cons (pdc o__law_draw hg hr (by rfl) (pda_cons (pdv 0) (pda_cons (pd_int) pda_nil))) (pda_cons (pdc o__law_draw hg hr (by rfl) (pda_cons (pdv 0) (pda_cons (pd_pow (pd_int) (pd_int)) pda_nil))) pda_nil)))))) (pdc o__law_draw hg hr (by rfl) (pda_cons (pdv 0) (pda_cons (pd_int) pda_nil))))))) (fun args S P h => ?_)
  obtain ⟨r, rfl, hS, h⟩ := h
  refine ⟨r, 12, rfl, hS, ⟨by decide, by decide⟩, fun i1 a1 b1 => ⟨r, 1000, rfl, hS, ⟨by decide, by decide⟩, fun i2 a2 b2 => ⟨⟨by decide, by decide, by decide⟩, r, 10 ^ 27, rfl, hS, ⟨by decide, by decide⟩, fun i3 a3 b3 => ⟨small2 rfl, r, 5, rfl, hS, ⟨by decide, by decide⟩, fun j j0 j1 => ?_⟩⟩⟩⟩
  obtain ⟨j, rfl⟩ : ∃ j' : Nat, j = (j' : Int) := ⟨j.toNat, by omega⟩
  have hj : j < ([.int 0, .int 1, .int i1, .int i2, .int i3] : List PyData).length := by show j < 5; omega
  refine ix_l (a := .d (.list [.int 0, .int 1, .int i1, .int i2, .int i3])) rfl rfl (atI_nat (List.getElem?_eq_getElem hj)) ?_
  have m := List.getElem_mem hj
  simp only [List.mem_cons, List.not_mem_nil, or_false] at m
  have t12 : (1000 : Int) < 10 ^ 27 := by decide
  rcases m with m | m | m | m | m
  · rw [m]; exact h _ (by decide) (by decide)
  · rw [m]; exact h _ (by decide) (by decide)
  · rw [m]; exact h _ a1 (by omega)
  · rw [m]; exact h _ a2 (by omega)
  · rw [m]; exact h _ a3 b3
end
end K11
/-! law k11: things drawn -/
namespace K11
open PySem PySem.Spec PyProof.Rows L2 DL
theorem abc_ix {j : Nat} (h : j < 26) : atI abc.cps.toList (j : Int) = some (97 + j) := by
  rw [abc_at]
  refine atI_nat ?_
  rw [List.getElem?_range' h]
  simp
theorem join_cps : ∀ cs : List Nat, (Str.join "" (cs.map sgn)).cps.toList = cs
  | [] => rfl
  | [c] => rfl
  | c :: d :: r => by
    show ((sgn c ++ "" ++ Str.join "" ((d :: r).map sgn)) : Str).cps.toList = _
    rw [Str.cps_append, Array.toList_append, join_cps (d :: r), Str.cps_append, Array.toList_append]
    rfl
theorem join_sgn (cs : List Nat) : Txt.join "" (cs.map sgn) = ⟨cs.toArray⟩ := by
  show PySem.Builtin.Str.glued "" (cs.map sgn) = _
  rw [StrLaws.glued_eq_join]
  have h := join_cps cs
  cases e : Str.join "" (cs.map sgn) with
  | mk a =>
    rw [e] at h
    have h : a.toList = cs := h
    rw [← h]
theorem sgn_lens : ∀ cs : List Nat, ((cs.map sgn).map (·.length)).sum = cs.length
  | [] => rfl
  | c :: cs => by
    rw [List.map_cons, List.map_cons, List.sum_cons, sgn_lens cs, List.length_cons]
    show 1 + cs.length = _
    omega
theorem join_ok {S : Store} {P : PQ} {ys : List PyData} (cs : List Nat) (e : ys = (cs.map sgn).map .str) (hl : cs.length ≤ 1000) (h : P (.d (.str ⟨cs.toArray⟩)) S) : dJoin (.d (.str "")) [.d (.list ys)] S P := by
  subst e
  show (match txts ((cs.map sgn).map .str) with
      | some ys => (ys.map (·.length)).sum + ys.length * ("" : Str).length ≤ 16777216 ∧ P (.d (.str (Txt.join "" ys))) S
      | none => False)
  rw [DL.strs_map]
  refine ⟨?_, ?_⟩
  · rw [sgn_lens]
    show cs.length + (cs.map sgn).length * 0 ≤ _
    omega
  · rw [join_sgn]
    exact h
def SgR : PyData → PyData → Prop := fun _ y => ∃ j, j < 26 ∧ y = .str (sgn (97 + j))
theorem paired_signs : ∀ {xs ys : List PyData}, Paired SgR xs ys → ∃ cs : List Nat, ys = (cs.map sgn).map .str ∧ cs.length = xs.length ∧ cs.all okC = true
  | _, _, .nil => ⟨[], rfl, rfl, rfl⟩
  | _, _, .cons ⟨j, hj, e⟩ t => by
    obtain ⟨cs, e1, e2, e3⟩ := paired_signs t
    refine ⟨(97 + j) :: cs, by rw [e, e1]; rfl, by rw [List.length_cons, e2, List.length_cons], ?_⟩
    rw [List.all_cons, e3, Bool.and_true]
    unfold okC
    rw [decide_eq_true (show 97 ≤ 97 + j by omega), decide_eq_true (show 97 + j ≤ 122 by omega)]
    rfl
theorem args_ix {i : Nat} {k : Int} {env : DEnv} {S : Store} {K : List AV → Store → Prop} {ga : GA} {ds : List PyData} {y : PyData} (hi : env[i]? = some (some (.d (.tuple ds)))) (ha : atI ds k = some y) (h : ga env S fun as S1 => K (.d y :: as) S1) :
    DL.gCons (gBin dIx (gVar i) (gC (.int k))) ga env S K := by
  dsimp only [DL.gCons, gBin, gVar, gC]
  rw [hi]
  exact ix_t (a := .d (.tuple ds)) (b := .d (.int k)) rfl rfl ha h
theorem e_ix {i j : Nat} {env : DEnv} {S : Store} {P : PQ} {ds : List PyData} {q : Int} {y : PyData} (hi : env[i]? = some (some (.d (.tuple ds)))) (hj : env[j]? = some (some (.d (.int q)))) (ha : atI ds q = some y) (h : P (.d y) S) : gBin dIx (gVar i) (gVar j) env S P := by
  dsimp only [gBin, gVar]
  rw [hi, hj]
  exact ix_t (a := .d (.tuple ds)) (b := .d (.int q)) rfl rfl ha h
theorem ife_t {t : GT} {g1 g2 : G} {env : DEnv} {S : Store} {P : PQ} (h : t env S fun c S1 => cond c (g1 env S1 P) (g2 env S1 P)) : gIfE t g1 g2 env S P := h
theorem t_isi {i j : Nat} {env : DEnv} {S : Store} {k : Bool → Store → Prop} {T : String} {ds : List PyData} {q : Int} {y : PyData} (hi : env[i]? = some (some (.d (.tuple ds)))) (hj : env[j]? = some (some (.d (.int q)))) (ha : atI ds q = some y)
    (hT : T ∈ ["int", "bool", "str", "tuple", "list", "dict"]) (h : k (isT T y) S) : gTest (gApp dIsi (DL.gCons (gBin dIx (gVar i) (gVar j)) (DL.gCons (gV (.ty T)) DL.gNil))) env S k := by
  dsimp only [gTest, gApp, DL.gCons, DL.gNil, gBin, gVar, gV]
  rw [hi, hj]
  exact ix_t (a := .d (.tuple ds)) (b := .d (.int q)) rfl rfl ha ⟨hT, h⟩
theorem Nices.mem {d l : Nat} {xs : List PyData} {x : PyData} (h : Nices d l xs) (m : x ∈ xs) : Nice d l x := ⟨⟨h.fit.sh x m, h.fit.dp x m, Nat.le_trans (row_mem m) h.fit.ln⟩, h.ok x m⟩
theorem ascii_cs {cs : List Nat} (h : cs.all okC = true) : ∀ c, c ∈ cs → c < 128 := fun c hc => by
  have z := List.all_eq_true.mp h c hc
  have := of_decide_eq_true (Bool.and_eq_true_iff.mp z).2
  omega
def isLab (y : PyData) : Prop := ∃ (z : Str) (i : Int), y = .tuple [.str z, .int i] ∧ Nice 0 92 (.str z) ∧ 0 ≤ i ∧ i < 10 ^ 27
theorem isLab.nice {y : PyData} (h : isLab y) : Nice 1 130 y := by
  obtain ⟨z, i, rfl, hz, i0, i1⟩ := h
  exact (Nices.cons hz (Nices.cons (nice_int i0 i1) Nices.nil)).tup.mono (by omega) (by omega)
def WLd : WD := fun as S P => ∃ r : Nat, as = [.m r] ∧ S[r]? = some .rng ∧ ∀ y, isLab y → P (.d y) S
section
variable {P : Program} {w : World} {K : PySem.W.Frag} {mg : Str → Option Value} {base : Heap}
abbrev s__law_label_drawn : Stmt := top 34
theorem sc__law_label_drawn : FnScope ["_law_rng_here", "_law_letters", "_law_word", "_law_k"] ["_law_rng_here"] (defScope s__law_label_drawn) := ⟨rfl, rfl, rfl, by decide +kernel, rfl, by decide +kernel, by decide +kernel⟩
theorem ok__law_label_drawn (D : DefAt K mg "_law_label_drawn" s__law_label_drawn ["_law_rng_here"]) (B : Bl mg) (o__law_draw : Own P w K mg base 1 "_law_draw" ["_law_rng_here", "_law_many"] WDraw) (o__law_number : Own P w K mg base 2 "_law_number" ["_law_rng_here"] WNu) :
    Own P w K mg base 3 "_law_label_drawn" ["_law_rng_here"] WLd := by
  have sc := sc__law_label_drawn
  refine okO D sc (fun as S P h => by obtain ⟨_, rfl, _⟩ := h; rfl) (fun f cdv A outer s H E hg hr => (pdss_cons (pds_set (i := 1) sc.nd rfl (Or.inr rfl) (pd_str)) (pdss_cons (pds_set (i := 2) sc.nd rfl (Or.inl rfl) (pd_bm PySem.F.plainAttrs_str PySem.F.slot_str_join PySem.F.type_str_join mt_join vr_join (pd_str) (pda_cons (pd_lc (own := [("_law_k", 3)]) rfl sc.nd (pdi_range1 (by rfl) (B.b _ (by decide)) (pda_cons (pd_add (pd_int) (pdc o__law_draw hg hr (by rfl) (pda_cons (pdv 0) (pda_cons (pd_int) pda_nil)))) pda_nil)) (blkOk_by (N := ["_law_rng_here", "_law_letters", "_law_word", "_law_k"]) (sc := defScope s__law_label_drawn) (by decide +kernel)) (cg_name (by decide)) (fun _ _ _ _ _ => (pg_name (i := 3) sc.nd rfl (Or.inl rfl))) (fun _ _ _ _ _ => pts_yes) (fun _ _ _ _ _ => (pd_at (pdv 1) (pdc o__law_draw hg hr (by rfl) (pda_cons (pdv 0) (pda_cons (pd_int) pda_nil)))))) pda_nil))) (pdss_one (pds_ret (pd_tup (pda_cons (pdv 2) (pda_cons (pdc o__law_number hg hr (by rfl) (pda_cons (pdv 0) pda_nil)) pda_nil)))))))) (fun args S P h => ?_)
  obtain ⟨r, rfl, hS, h⟩ := h
  refine ⟨rfl, r, 9, rfl, hS, ⟨by decide, by decide⟩, fun d d0 d1 => ?_⟩
  refine ⟨⟨by omega, by omega⟩, ?_, ?_⟩
  · rw [List.length_map, List.length_range, sizeLine_eq]; omega
  refine compD_rel SgR (fun y hy Q q => ?_) (fun ys hys => ?_)
  · refine ⟨r, 26, rfl, hS, ⟨by decide, by decide⟩, fun c c0 c1 => ?_⟩
    obtain ⟨j, rfl⟩ : ∃ j : Nat, c = (j : Int) := ⟨c.toNat, by omega⟩
    have hj : j < 26 := by omega
    exact ix_s (z := abc) rfl rfl (abc_ix hj) (q _ ⟨j, hj, rfl⟩)
  · obtain ⟨cs, e1, e2, e3⟩ := paired_signs hys
    rw [List.length_map, List.length_range] at e2
    rw [List.nil_append]
    dsimp only [DL.gNil]
    refine join_ok cs e1 (by omega) ?_
    refine ⟨r, rfl, hS, fun i i0 i1 => ⟨small2 rfl, h _ ⟨⟨cs.toArray⟩, i, rfl, ?_, i0, i1⟩⟩⟩
    have hl : (⟨cs.toArray⟩ : Str).length = cs.length := rfl
    exact (nice_str (z := ⟨cs.toArray⟩) (ascii_cs e3) (by omega)).mono (Nat.le_refl _) (by omega)
/-- what is drawn -/
def WTh : WD := fun as S P => ∃ r : Nat, as = [.m r] ∧ S[r]? = some .rng ∧ ∀ y, Nice 2 2000 y → P (.d y) S
abbrev s__law_thing : Stmt := top 35
theorem sc__law_thing : FnScope ["_law_rng_here", "_law_way", "_law_label", "_law_k"] ["_law_rng_here"] (defScope s__law_thing) := ⟨rfl, rfl, rfl, by decide +kernel, rfl, by decide +kernel, by decide +kernel⟩
theorem ok__law_thing (D : DefAt K mg "_law_thing" s__law_thing ["_law_rng_here"]) (B : Bl mg) (o__law_draw : Own P w K mg base 1 "_law_draw" ["_law_rng_here", "_law_many"] WDraw) (o__law_number : Own P w K mg base 2 "_law_number" ["_law_rng_here"] WNu)
    (o__law_label_drawn : Own P w K mg base 3 "_law_label_drawn" ["_law_rng_here"] WLd) : Own P w K mg base 4 "_law_thing" ["_law_rng_here"] WTh := by
  have sc := sc__law_thing
  refine okO D sc (fun as S P h => by obtain ⟨_, rfl, _⟩ := h; rfl) (fun f cdv A outer s H E hg hr => (pdss_cons (pds_par (i := 1) (j := 2) rfl sc.nd rfl rfl (by decide) rfl rfl (pda_cons (pdc o__law_draw hg hr (by rfl) (pda_cons (pdv 0) (pda_cons (pd_int) pda_nil))) (pda_cons (pdc o__law_label_drawn hg hr (by rfl) (pda_cons (pdv 0) pda_nil)) pda_nil)) rfl) (pdss_cons (pds_if (pdt_eq hr (pdv 1) (pd_int)) (pdss_one (pds_ret (pd_at (pdv 2) (pd_int)))) pdss_nil) (pdss_cons (pds_if (pdt_eq hr (pdv 1) (pd_int)) (pdss_one (pds_ret (pd_tup (pda_cons (pdc o__law_number hg hr (by rfl) (pda_cons (pdv 0) pda_nil)) (pda_cons (pd_at (pdv 2) (pd_int)) pda_nil))))) pdss_nil) (pdss_cons (pds_if (pdt_eq hr (pdv 1) (pd_int)) (pdss_one (pds_ret (pdv 2))) pdss_nil) (pdss_one (pds_ret (pd_callTy call_tuple_of vr_tuple (by rfl) (B.b _ (by decide)) (by decide +kernel) (pda_cons (pd_lc (own := [("_law_k", 3)]) rfl sc.nd (pdi_range1 (by rfl) (B.b _ (by decide)) (pda_cons (pdc o__law_draw hg hr (by rfl) (pda_cons (pdv 0) (pda_cons (pd_int) pda_nil))) pda_nil)) (blkOk_by (N := ["_law_rng_here", "_law_way", "_law_label", "_law_k"]) (sc := defScope s__law_thing) (by decide +kernel)) (cg_name (by decide)) (fun _ _ _ _ _ => (pg_name (i := 3) sc.nd rfl (Or.inl rfl))) (fun _ _ _ _ _ => pts_yes) (fun _ _ _ _ _ => (pdc o__law_label_drawn hg hr (by rfl) (pda_cons (pdv 0) pda_nil)))) pda_nil))))))))) (fun args S P h => ?_)
  obtain ⟨r, rfl, hS, h⟩ := h
  refine ⟨r, 4, rfl, hS, ⟨by decide, by decide⟩, fun d d0 d1 => ⟨r, rfl, hS, fun y hy => ?_⟩⟩
  have hn := hy.nice
  obtain ⟨z, i, rfl, hz, i0, i1⟩ := hy
  refine cond_or (c := decide (d = 0)) (fun g => ?_) (fun g => ?_)
  · exact ix_t (a := .d (.tuple [.str z, .int i])) (b := .d (.int 0)) rfl rfl atx0 (h _ (hz.mono (by omega) (by omega)))
  refine cond_or (c := decide (d = 1)) (fun g => ?_) (fun g => ?_)
  · refine ⟨r, rfl, hS, fun j j0 j1 => ?_⟩
    dsimp only
    refine args_ix (y := .int i) rfl at1 ?_
    exact ⟨small2 rfl, h _ ((Nices.cons (nice_int j0 j1) (Nices.cons (nice_int i0 i1) Nices.nil)).tup.mono (by omega) (by omega))⟩
  refine cond_or (c := decide (d = 2)) (fun g => ?_) (fun g => ?_)
  · exact h _ (hn.mono (by omega) (by omega))
  refine ⟨r, 12, rfl, hS, ⟨by decide, by decide⟩, fun m m0 m1 => ⟨⟨by omega, by omega⟩, by rw [List.length_map, List.length_range, sizeLine_eq]; omega, ?_⟩⟩
  refine compD_rel (fun _ y => isLab y) (fun x hx Q q => ⟨r, rfl, hS, fun y hy => q y hy⟩) (fun ps hps => ?_)
  obtain ⟨lp, fp⟩ := paired_all hps
  rw [List.length_map, List.length_range] at lp
  refine h _ ((Nices.of (d := 1) (l := 130) fun x hx => (fp x hx).nice).tup.mono (by omega) ?_)
  rw [lp]
  omega
def niceB (y : PyData) : Bool := okA y && (y.showable && (decide (y.depth ≤ 3) && decide (y.shown.length ≤ 100)))
theorem nice_closed {L : List PyData} (h : L.all niceB = true) : ∀ y, y ∈ L → Nice 3 100 y := fun y hy => by
  have := List.all_eq_true.mp h y hy
  unfold niceB at this
  rw [Bool.and_eq_true, Bool.and_eq_true, Bool.and_eq_true] at this
  exact ⟨⟨this.2.1, of_decide_eq_true this.2.2.1, of_decide_eq_true this.2.2.2⟩, this.1⟩
def WOd : WD := fun as S P => ∃ r : Nat, as = [.m r] ∧ S[r]? = some .rng ∧ ∀ y, Nice 3 100 y → P (.d y) S
abbrev s__law_odd : Stmt := top 36
theorem sc__law_odd : FnScope ["_law_rng_here", "_law_odd_here"] ["_law_rng_here"] (defScope s__law_odd) := ⟨rfl, rfl, rfl, by decide +kernel, rfl, by decide +kernel, by decide +kernel⟩
theorem ok__law_odd (D : DefAt K mg "_law_odd" s__law_odd ["_law_rng_here"]) (B : Bl mg) (o__law_choice : Own P w K mg base 2 "_law_choice" ["_law_rng_here", "_law_some"] WCh) : Own P w K mg base 3 "_law_odd" ["_law_rng_here"] WOd := by
  have sc := sc__law_odd
  refine okO D sc (fun as S P h => by obtain ⟨_, rfl, _⟩ := h; rfl) (fun f cdv A outer s H E hg hr => (pdss_cons (pds_set (i := 1) sc.nd rfl (Or.inl rfl) (pd_lst (pda_cons (pd_non) (pda_cons (pd_bl) (pda_cons (pd_bl) (pda_cons (pd_int) (pda_cons (pd_neg (pd_int)) (pda_cons (pd_str) (pda_cons (pd_str) (pda_cons (pd_str) (pda_cons (pd_str) (pda_cons (pd_str) (pda_cons (pd_tup pda_nil) (pda_cons (pd_lst pda_nil) (pda_cons (pd_dct0) (pda_cons (pd_tup (pda_cons (pd_int) pda_nil)) (pda_cons (pd_tup (pda_cons (pd_int) (pda_cons (pd_int) pda_nil))) (pda_cons (pd_tup (pda_cons (pd_int) (pda_cons (pd_int) (pda_cons (pd_int) pda_nil)))) (pda_cons (pd_tup (pda_cons (pd_bl) (pda_cons (pd_int) pda_nil))) pda_nil))))))))))))))))))) (pdss_cons (pds_set (i := 1) sc.nd rfl (Or.inl rfl) (pd_add (pdv 1) (pd_lst (pda_cons (pd_tup (pda_cons (pd_int) (pda_cons (pd_bl) pda_nil))) (pda_cons (pd_tup (pda_cons (pd_str) (pda_cons (pd_bl) pda_nil))) (pda_cons (pd_tup (pda_cons (pd_str) (pda_cons (pd_neg (pd_int)) pda_nil))) (pda_cons (pd_tup (pda_cons (pd_str) (pda_cons (pd_int) pda_nil))) (pda_cons (pd_tup (pda_cons (pd_str) (pda_cons (pd_str) pda_nil))) (pda_cons (pd_lst (pda_cons (pd_int) (pda_cons (pd_int) pda_nil))) (pda_cons (pd_tup (pda_cons (pd_tup (pda_cons (pd_str) (pda_cons (pd_int) pda_nil))) pda_nil)) (pda_cons (pd_lst (pda_cons (pd_tup (pda_cons (pd_str) (pda_cons (pd_int) pda_nil))) pda_nil)) (pda_cons (pd_tup (pda_cons (pd_str) (pda_cons (pd_int) pda_nil))) pda_nil)))))))))))) (pdss_cons (pds_set (i := 1) sc.nd rfl (Or.inl rfl) (pd_add (pdv 1) (pd_lst (pda_cons (pd_tup (pda_cons (pd_neg (pd_int)) (pda_cons (pd_int) pda_nil))) (pda_cons (pd_tup (pda_cons (pd_str) (pda_cons (pd_str) pda_nil))) (pda_cons (pd_tup (pda_cons (pd_tup (pda_cons (pd_int) (pda_cons (pd_int) pda_nil))) pda_nil)) (pda_cons (pd_tup (pda_cons (pd_tup (pda_cons (pd_str) pda_nil)) pda_nil)) (pda_cons (pd_tup (pda_cons (pd_tup (pda_cons (pd_str) (pda_cons (pd_int) pda_nil))) (pda_cons (pd_non) pda_nil))) (pda_cons (pd_str) (pda_cons (pd_str) (pda_cons (pd_str) pda_nil))))))))))) (pdss_one (pds_ret (pdc o__law_choice hg hr (by rfl) (pda_cons (pdv 0) (pda_cons (pdv 1) pda_nil))))))))) (fun args S P h => ?_)
  obtain ⟨r, rfl, hS, h⟩ := h
  repeat refine ⟨small2 rfl, ?_⟩
  refine ⟨r, _, rfl, hS, .inl ⟨_, rfl, ⟨Nat.lt_of_lt_of_le (Nat.zero_lt_succ 0) (Nat.le_of_ble_eq_true rfl), Nat.le_of_ble_eq_true rfl⟩, fun y hy => h y (nice_closed (by decide +kernel) y hy)⟩⟩
theorem cut_len (xs : List PyData) (lo hi : Option Int) : (cutD xs lo hi).length ≤ xs.length := (cut_sub xs lo hi).length_le
def WSp : WD := fun as S P => ∃ (r : Nat) (x : PyData), as = [.m r, .d x] ∧ S[r]? = some .rng ∧ Nice 2 2000 x ∧ ∀ y, Nice 5 9000 y → P (.d y) S
abbrev s__law_spoilt : Stmt := top 37
theorem sc__law_spoilt : FnScope ["_law_rng_here", "_law_thing_here", "_law_way", "_law_at", "_law_inner"] ["_law_rng_here", "_law_thing_here"] (defScope s__law_spoilt) := ⟨rfl, rfl, rfl, by decide +kernel, rfl, by decide +kernel, by decide +kernel⟩
theorem ok__law_spoilt (D : DefAt K mg "_law_spoilt" s__law_spoilt ["_law_rng_here", "_law_thing_here"]) (B : Bl mg) (o__law_draw : Own P w K mg base 1 "_law_draw" ["_law_rng_here", "_law_many"] WDraw) (o__law_odd : Own P w K mg base 3 "_law_odd" ["_law_rng_here"] WOd) :
    Own P w K mg base 4 "_law_spoilt" ["_law_rng_here", "_law_thing_here"] WSp := by
  have sc := sc__law_spoilt
  refine okO D sc (fun as S P h => by obtain ⟨_, _, rfl, _⟩ := h; rfl) (fun f cdv A outer s H E hg hr => (pdss_cons (pds_set (i := 2) sc.nd rfl (Or.inl rfl) (pdc o__law_draw hg hr (by rfl) (pda_cons (pdv 0) (pda_cons (pd_int) pda_nil)))) (pdss_cons (pds_if (pdt_w (pdw_or (pdt_eq hr (pdv 2) (pd_int)) (pdw_or (pdt_not (pdt_val (pd_callB call_isi vr_isi (by rfl) (B.b _ (by decide)) boot_isinstance (pda_cons (pdv 1) (pda_cons (pd_ty "tuple" (by rfl) (B.b _ (by decide)) (by decide +kernel)) pda_nil))))) (pdw_or1 (pdt_eqNilT hr (pdv 1) (pd_tup pda_nil)))))) (pdss_one (pds_ret (pdc o__law_odd hg hr (by rfl) (pda_cons (pdv 0) pda_nil)))) pdss_nil) (pdss_cons (pds_set (i := 3) sc.nd rfl (Or.inl rfl) (pdc o__law_draw hg hr (by rfl) (pda_cons (pdv 0) (pda_cons (pd_callB call_lenAll vr_len (by rfl) (B.b _ (by decide)) (by decide +kernel) (pda_cons (pdv 1) pda_nil)) pda_nil)))) (pdss_cons (pds_if (pdt_eq hr (pdv 2) (pd_int)) (pdss_one (pds_ret (pd_add (pd_slice (pdv 1) pdo_none (pdo_some (pdv 3))) (pd_slice (pdv 1) (pdo_some (pd_add (pdv 3) (pd_int))) pdo_none)))) pdss_nil) (pdss_cons (pds_if (pdt_eq hr (pdv 2) (pd_int)) (pdss_one (pds_ret (pd_add (pd_slice (pdv 1) pdo_none (pdo_some (pd_add (pdv 3) (pd_int)))) (pd_slice (pdv 1) (pdo_some (pdv 3)) pdo_none)))) pdss_nil) (pdss_cons (pds_if (pdt_eq hr (pdv 2) (pd_int)) (pdss_one (pds_ret (pd_callTy call_list_of vr_list (by rfl) (B.b _ (by decide)) (by decide +kernel) (pda_cons (pdv 1) pda_nil)))) pdss_nil) (pdss_cons (pds_set (i := 4) sc.nd rfl (Or.inl rfl) (pd_ife (pdt_w (pdw_and (pdt_val (pd_callB call_isi vr_isi (by rfl) (B.b _ (by decide)) boot_isinstance (pda_cons (pd_at (pdv 1) (pdv 3)) (pda_cons (pd_ty "tuple" (by rfl) (B.b _ (by decide)) (by decide +kernel)) pda_nil)))) (pdw_and1 (pdt_eq hr (pdv 2) (pd_int))))) (pd_at (pdv 1) (pdv 3)) (pd_non))) (pdss_one (pds_ret (pd_add (pd_add (pd_slice (pdv 1) pdo_none (pdo_some (pdv 3))) (pd_tup (pda_cons (pd_ife (pdt_is (pdv 4) (pd_non)) (pdc o__law_odd hg hr (by rfl) (pda_cons (pdv 0) pda_nil)) (pd_callTy call_list_of vr_list (by rfl) (B.b _ (by decide)) (by decide +kernel) (pda_cons (pdv 4) pda_nil))) pda_nil))) (pd_slice (pdv 1) (pdo_some (pd_add (pdv 3) (pd_int))) pdo_none)))))))))))) (fun args S P h => ?_)
  obtain ⟨r, x, rfl, hS, hx, h⟩ := h
  have odd : WOd [.m r] S P := ⟨r, rfl, hS, fun y hy => h y (hy.mono (by omega) (by omega))⟩
  refine ⟨r, 6, rfl, hS, ⟨by decide, by decide⟩, fun d d0 d1 => ?_⟩
  refine cond_or (c := decide (d = 0)) (fun g => odd) (fun g => ?_)
  refine ⟨by decide, ?_⟩
  cases x with
  | tuple xs =>
    have nx := hx.items.1
    have hlen := row_len xs
    have hln := nx.fit.ln
    refine ⟨small2 rfl, rfl, ?_⟩
    refine cond_or (c := xs.isEmpty) (fun g => odd) (fun g2 => ?_)
    have pos : 0 < xs.length := by
      cases xs with
      | nil => cases g2
      | cons _ _ => exact Nat.zero_lt_succ _
    refine ⟨r, (xs.length : Int), rfl, hS, ⟨by omega, by omega⟩, fun at_ a0 a1 => ?_⟩
    have c1 := fun lo hi => cut_len xs lo hi
    have l2 : ∀ lo hi lo' hi', (cutD xs lo hi).length + (cutD xs lo' hi').length ≤ sizeLine := fun lo hi lo' hi' => line (by have := c1 lo hi; have := c1 lo' hi'; omega)
    have two : ∀ lo hi lo' hi', Nice 5 9000 (.tuple (cutD xs lo hi ++ cutD xs lo' hi')) := fun lo hi lo' hi' => ((nx.sub (cut_sub xs lo hi)).app (nx.sub (cut_sub xs lo' hi'))).tup.mono (by omega) (by omega)
    refine cond_or (c := decide (d = 1)) (fun g => ⟨l2 _ _ _ _, h _ (two _ _ _ _)⟩) (fun g => ?_)
    refine cond_or (c := decide (d = 2)) (fun g => ⟨l2 _ _ _ _, h _ (two _ _ _ _)⟩) (fun g => ?_)
    refine cond_or (c := decide (d = 3)) (fun g => h _ (nx.lst.mono (by omega) (by omega))) (fun g => ?_)
    obtain ⟨j, rfl⟩ : ∃ j : Nat, at_ = (j : Int) := ⟨at_.toNat, by omega⟩
    have hj : j < xs.length := by omega
    have hat : atI xs (j : Int) = some xs[j] := atI_nat (List.getElem?_eq_getElem hj)
    have fin : ∀ y, Nice 4 3000 y → ∀ lo hi lo' hi', (cutD xs lo hi).length + [y].length ≤ sizeLine ∧ (((cutD xs lo hi ++ [y]).length + (cutD xs lo' hi').length ≤ sizeLine) ∧ P (.d (.tuple (cutD xs lo hi ++ [y] ++ cutD xs lo' hi'))) S) := fun y hy lo hi lo' hi' => by
      have a1 := c1 lo hi
      have a2 := c1 lo' hi'
      refine ⟨line (by simp only [List.length_cons, List.length_nil]; omega), line (by simp only [List.length_append, List.length_cons, List.length_nil]; omega), h _ ?_⟩
      exact ((((nx.sub (cut_sub xs lo hi)).mono (d' := 4) (by omega) (Nat.le_refl _)).app (Nices.cons hy Nices.nil)).app ((nx.sub (cut_sub xs lo' hi')).mono (by omega) (Nat.le_refl _))).tup.mono (by omega) (by omega)
    dsimp only [gsNext, gsSeq, gsAsg]
    refine ife_t (and_t (t_isi rfl rfl hat (by decide) ?_))
    cases hy : isT "tuple" xs[j] with
    | false => exact ⟨r, rfl, hS, fun y hy => ⟨small2 rfl, fin y (hy.mono (by omega) (by omega)) _ _ _ _⟩⟩
    | true =>
      refine cond_or (c := decide (d = 4)) (fun g => ?_) (fun g => ?_)
      · refine e_ix rfl rfl hat ?_
        have nj := nx.mem (List.getElem_mem hj)
        cases e : xs[j] with
        | tuple ys =>
          rw [e] at nj
          exact ⟨small2 rfl, fin (.list ys) (nj.items.1.lst.mono (by omega) (by omega)) _ _ _ _⟩
        | _ => rw [e] at hy; cases hy
      · exact ⟨r, rfl, hS, fun y hy => ⟨small2 rfl, fin y (hy.mono (by omega) (by omega)) _ _ _ _⟩⟩
  | none => exact odd
  | bool b => exact odd
  | int b => exact odd
  | list b => exact odd
  | str b => exact odd
  | dict b => exact odd
/-- a text of plain signs -/
def plS (n : Nat) (z : Str) : Prop := z.length ≤ n ∧ ∀ c, c ∈ z.cps.toList → c < 128
theorem cut_pl {n : Nat} {z : Str} (h : plS n z) (lo hi : Option Int) : plS n (cutS z lo hi) := ⟨Nat.le_trans (cutS_len z lo hi) h.1, fun c hc => h.2 c (List.mem_of_mem_drop (List.mem_of_mem_take hc))⟩
theorem app_mem {x y : Str} {c : Nat} (h : c ∈ (x ++ y).cps.toList) : c ∈ x.cps.toList ∨ c ∈ y.cps.toList := by
  rw [Str.cps_append, Array.toList_append] at h
  exact List.mem_append.mp h
theorem cut_parts (z : Str) (i : Int) (h0 : 0 ≤ i) (h1 : i ≤ z.length) : (cutS z none (some i)).length + (cutS z (some i) none).length = z.length := by
  obtain ⟨j, rfl⟩ : ∃ j : Nat, i = (j : Int) := ⟨i.toNat, by omega⟩
  have e : HT.sIx z.length 0 (some (j : Int)) = j := by rw [HT.sIx_nat]; omega
  have e2 : HT.sIx z.length z.length (some (j : Int)) = j := by rw [HT.sIx_nat]; omega
  have l : ∀ lo hi, (cutS z lo hi).length = (((z.cps.toList.drop (HT.sIx z.length 0 lo)).take (HT.sIx z.length z.length hi - HT.sIx z.length 0 lo)).toArray).size := fun _ _ => rfl
  rw [l, l, e, e2, HT.sIx_none, HT.sIx_none, List.size_toArray, List.size_toArray, List.length_take, List.length_take, List.length_drop, List.length_drop, str_size]
  omega
theorem cut_behind (z : Str) (i : Int) (h0 : 0 ≤ i) : (cutS z (some (i + 1)) none).length ≤ (cutS z (some i) none).length := by
  obtain ⟨j, rfl⟩ : ∃ j : Nat, i = (j : Int) := ⟨i.toNat, by omega⟩
  have l : ∀ lo hi, (cutS z lo hi).length = (((z.cps.toList.drop (HT.sIx z.length 0 lo)).take (HT.sIx z.length z.length hi - HT.sIx z.length 0 lo)).toArray).size := fun _ _ => rfl
  have e : HT.sIx z.length 0 (some (j : Int)) = min j z.length := by rw [HT.sIx_nat]
  have e2 : HT.sIx z.length 0 (some ((j : Int) + 1)) = min (j + 1) z.length := by
    rw [show (j : Int) + 1 = ((j + 1 : Nat) : Int) by omega, HT.sIx_nat]
  rw [l, l, e, e2, HT.sIx_none, List.size_toArray, List.size_toArray, List.length_take, List.length_take, List.length_drop, List.length_drop, str_size]
  omega
def WBe : WD := fun as S P => ∃ (r n : Nat) (z : Str), as = [.m r, .d (.str z)] ∧ S[r]? = some .rng ∧ n ≤ 500 ∧ plS n z ∧ ∀ y, plS (n + 1) y → P (.d (.str y)) S
abbrev s__law_bent : Stmt := top 47
theorem sc__law_bent : FnScope ["_law_rng_here", "_law_written", "_law_at", "_law_way", "_law_sign", "_law_ahead", "_law_behind"] ["_law_rng_here", "_law_written"] (defScope s__law_bent) := ⟨rfl, rfl, rfl, by decide +kernel, rfl, by decide +kernel, by decide +kernel⟩
theorem ok__law_bent (D : DefAt K mg "_law_bent" s__law_bent ["_law_rng_here", "_law_written"]) (B : Bl mg) (o__law_draw : Own P w K mg base 1 "_law_draw" ["_law_rng_here", "_law_many"] WDraw) (o__law_choice : Own P w K mg base 2 "_law_choice" ["_law_rng_here", "_law_some"] WCh) :
    Own P w K mg base 3 "_law_bent" ["_law_rng_here", "_law_written"] WBe := by
  have sc := sc__law_bent
  refine okO D sc (fun as S P h => by obtain ⟨_, _, _, rfl, _⟩ := h; rfl) (fun f cdv A outer s H E hg hr => (pdss_cons (pds_par3 (i := 2) (j := 3) (l := 4) rfl sc.nd rfl rfl rfl (by decide) (by decide) (by decide) rfl rfl rfl (pda_cons (pdc o__law_draw hg hr (by rfl) (pda_cons (pdv 0) (pda_cons (pd_add (pd_callB call_lenAll vr_len (by rfl) (B.b _ (by decide)) (by decide +kernel) (pda_cons (pdv 1) pda_nil)) (pd_int)) pda_nil))) (pda_cons (pdc o__law_draw hg hr (by rfl) (pda_cons (pdv 0) (pda_cons (pd_int) pda_nil))) (pda_cons (pdc o__law_choice hg hr (by rfl) (pda_cons (pdv 0) (pda_cons (pd_str) pda_nil))) pda_nil))) rfl) (pdss_cons (pds_par (i := 5) (j := 6) rfl sc.nd rfl rfl (by decide) rfl rfl (pda_cons (pd_slice (pdv 1) pdo_none (pdo_some (pdv 2))) (pda_cons (pd_slice (pdv 1) (pdo_some (pd_add (pdv 2) (pd_int))) pdo_none) pda_nil)) rfl) (pdss_one (pds_ret (pd_at (pd_lst (pda_cons (pd_add (pd_add (pdv 5) (pdv 4)) (pd_slice (pdv 1) (pdo_some (pdv 2)) pdo_none)) (pda_cons (pd_add (pdv 5) (pdv 6)) (pda_cons (pd_add (pd_add (pdv 5) (pdv 4)) (pdv 6)) pda_nil)))) (pdv 3))))))) (fun args S P h => ?_)
  obtain ⟨r, n, z, rfl, hS, hn, hz, h⟩ := h
  have hl := hz.1
  refine ⟨r, (z.length : Int) + 1, rfl, hS, ⟨by omega, by omega⟩, fun a a0 a1 => ⟨r, 3, rfl, hS, ⟨by decide, by decide⟩, fun d d0 d1 => ⟨r, _, rfl, hS, .inr ⟨_, rfl, ⟨by decide +kernel, by decide +kernel⟩, fun c hc => ?_⟩⟩⟩⟩
  have c128 : c < 128 := of_decide_eq_true (List.all_eq_true.mp (show (List.all _ fun c => decide (c < 128)) = true by decide +kernel) c hc)
  have pa := cut_pl hz none (some a)
  have pb := cut_pl hz (some a) none
  have pc := cut_pl hz (some (a + 1)) none
  have cp := cut_parts z a a0 (by omega)
  have cb := cut_behind z a a0
  have s1 : (sgn c).length = 1 := rfl
  have sm : ∀ x, x ∈ (sgn c).cps.toList → x < 128 := fun x hx => by
    rcases List.mem_cons.mp hx with rfl | hx
    · exact c128
    · cases hx
  have p1 : plS (n + 1) (cutS z none (some a) ++ sgn c ++ cutS z (some a) none) := by
    refine ⟨by rw [app_len, app_len, s1]; omega, fun x hx => ?_⟩
    rcases app_mem hx with hx | hx
    · rcases app_mem hx with hx | hx
      · exact pa.2 x hx
      · exact sm x hx
    · exact pb.2 x hx
  have p2 : plS (n + 1) (cutS z none (some a) ++ cutS z (some (a + 1)) none) := by
    refine ⟨by rw [app_len]; omega, fun x hx => ?_⟩
    rcases app_mem hx with hx | hx
    · exact pa.2 x hx
    · exact pc.2 x hx
  have p3 : plS (n + 1) (cutS z none (some a) ++ sgn c ++ cutS z (some (a + 1)) none) := by
    refine ⟨by rw [app_len, app_len, s1]; omega, fun x hx => ?_⟩
    rcases app_mem hx with hx | hx
    · rcases app_mem hx with hx | hx
      · exact pa.2 x hx
      · exact sm x hx
    · exact pc.2 x hx
  have ln : ∀ {m : Nat}, m ≤ 2000 → m ≤ sizeLine := fun hm => line (by omega)
  refine ⟨ln (by rw [s1]; have := pa.1; omega), ln (by rw [app_len, s1]; have := pa.1; have := pb.1; omega), ln (by have := pa.1; have := pc.1; omega), ln (by rw [s1]; have := pa.1; omega), ln (by rw [app_len, s1]; have := pa.1; have := pc.1; omega), small2 rfl, ?_⟩
  have : d = 0 ∨ d = 1 ∨ d = 2 := by omega
  rcases this with rfl | rfl | rfl
  · exact h _ p1
  · exact h _ p2
  · exact h _ p3
end
end K11
/-! law k11: texts right, things right, the turn -/
namespace K11
open PySem PySem.Spec PyProof.Rows L2 DL
theorem numT_ascii (i : Int) : ∀ c, c ∈ (numT i).cps.toList → c < 128 := fun c hc => by
  rcases Nat.lt_or_ge c 128 with h | h
  · exact h
  · exact absurd hc (int_text_free' c ⟨by omega, .inr (by omega)⟩ i)
theorem numT_pl {i : Int} {k : Nat} (hk : 1 ≤ k) (h : i.natAbs < 10 ^ k) : plS (k + 1) (numT i) := ⟨by
  have := int_text_length_le10 (k := k) hk h
  unfold numT
  rw [PySem.ofString_length]
  omega, numT_ascii i⟩
theorem plS.app {n m : Nat} {x y : Str} (h : plS n x) (g : plS m y) : plS (n + m) (x ++ y) := ⟨by rw [app_len]; have := h.1; have := g.1; omega, fun c hc => by
  rcases app_mem hc with hc | hc
  · exact h.2 c hc
  · exact g.2 c hc⟩
theorem plS.mono {n m : Nat} {x : Str} (h : plS n x) (l : n ≤ m) : plS m x := ⟨Nat.le_trans h.1 l, h.2⟩
theorem plS_one {y : Str} {n : Nat} (h : (decide (y.length ≤ n) && y.cps.toList.all fun c => decide (c < 128)) = true) : plS n y := by
  obtain ⟨h1, h2⟩ := Bool.and_eq_true_iff.mp h
  exact ⟨of_decide_eq_true h1, fun c hc => of_decide_eq_true (List.all_eq_true.mp h2 c hc)⟩
theorem plS_join {s : Str} {n m : Nat} (hs : plS m s) : ∀ ys : List Str, (∀ y, y ∈ ys → plS n y) → plS (ys.length * (n + m)) (Str.join s ys)
  | [], _ => ⟨Nat.zero_le _, fun c hc => (nomatch hc)⟩
  | [y], h => by
    have := h y (by simp)
    exact plS.mono (show plS n (Str.join s [y]) from this) (by simp)
  | y :: z :: r, h => by
    have h1 := h y (by simp)
    have h2 := plS_join hs (z :: r) fun u hu => h u (List.mem_cons_of_mem _ hu)
    have := (h1.app hs).app h2
    refine plS.mono (show plS _ (y ++ s ++ Str.join s (z :: r)) from this) ?_
    rw [List.length_cons (a := y), Nat.succ_mul]
    omega
theorem txt_join (s : Str) (ys : List Str) : Txt.join s ys = Str.join s ys := by
  show PySem.Builtin.Str.glued s ys = _
  rw [StrLaws.glued_eq_join]
theorem okA28 {i : Int} (h : okA (.int i) = true) : i.natAbs < 10 ^ 28 := of_decide_eq_true h
theorem ver_pl {x : PyData} (h : pairD countD x = true) (ho : okA x = true) : plS 100 (verS x) := by
  obtain ⟨a, b, rfl, _, _⟩ := ver_parts h ho
  have ha := numT_pl (k := 28) (by decide) (okA28 (okAs_mem ho (.int a) (by simp)))
  have hb := numT_pl (k := 28) (by decide) (okA28 (okAs_mem ho (.int b) (by simp)))
  exact plS.mono ((ha.app (plS_one (n := 1) (y := ".") (by decide +kernel))).app hb) (by omega)
theorem name_pl {z : Str} (h : nameS z = true) : plS 8 z := by
  obtain ⟨h1, h2⟩ := Bool.and_eq_true_iff.mp h
  refine ⟨of_decide_eq_true (Bool.and_eq_true_iff.mp h1).2, fun c hc => ?_⟩
  have := of_decide_eq_true (Bool.and_eq_true_iff.mp (List.all_eq_true.mp h2 c hc)).2
  omega
theorem lab_pl {d : PyData} (h : pairD nameD d = true) (ho : okA d = true) : plS 40 (labOf d) := by
  obtain ⟨x, i, rfl, hx, hi⟩ := lab_parts h ho
  have hn : nameS x = true := (Bool.and_eq_true_iff.mp (show (nameD (.str x) && countD (.int i)) = true from h)).1
  have hb := numT_pl (k := 28) (by decide) (okA28 (okAs_mem ho (.int i) (by simp)))
  exact plS.mono (((name_pl hn).app (plS_one (n := 1) (y := "/") (by decide +kernel))).app hb) (by omega)
theorem path_pl {x : PyData} (h : pathD x = true) (ho : okA x = true) : plS 450 (pathS x) := by
  cases x with
  | tuple ds =>
    obtain ⟨hn, hd⟩ := path_all h ho
    show plS 450 (pathT ds)
    unfold pathT
    split
    · exact plS.mono (plS_one (n := 1) (y := "-") (by decide +kernel)) (by omega)
    · rw [txt_join]
      refine plS.mono (plS_join (n := 40) (plS_one (n := 1) (y := ">") (by decide +kernel)) _ fun y hy => ?_) ?_
      · obtain ⟨d, md, rfl⟩ := List.mem_map.mp hy
        exact lab_pl (hd d md).1 (hd d md).2
      · rw [List.length_map]
        omega
  | _ => cases h
theorem plS.fit {n : Nat} {z : Str} (h : plS n z) : Fit 0 (10 * n + 2) (.str z) := (fit_str fun c hc => Nat.lt_of_lt_of_le (h.2 c hc) (by decide)).mono (Nat.le_refl _) (by have := h.1; omega)
theorem plS.nice {n : Nat} {z : Str} (h : plS n z) (hn : n ≤ 560) : Nice 0 (10 * n + 2) (.str z) := (nice_str h.2 (Nat.le_trans h.1 hn)).mono (Nat.le_refl _) (by have := h.1; omega)
theorem fit_nat {n : Nat} (h : n < 10 ^ 560) : Fit 0 562 (.int (n : Int)) := fit_intK (k := 560) (by decide) (Nat.le_refl _) (by rw [Int.natAbs_natCast]; exact h)
theorem ver_fit {z : Str} (hz : z.length ≤ 560) : Fit 6 8000 (verIn z) := by
  unfold verIn
  by_cases h : ∃ a b : Nat, cts z "." = [some a, some b]
  · obtain ⟨a, b, e⟩ := h
    have la : a < 10 ^ 560 := Nat.lt_of_lt_of_le (cts_lt (y := ".") (by decide +kernel) (by rw [e]; simp)) (Nat.pow_le_pow_right (by decide) hz)
    have lb : b < 10 ^ 560 := Nat.lt_of_lt_of_le (cts_lt (y := ".") (by decide +kernel) (by rw [e]; simp)) (Nat.pow_le_pow_right (by decide) hz)
    rw [e]
    exact (Fits.cons (fit_nat la) (Fits.cons (fit_nat lb) Fits.nil0)).tup.mono (by omega) (by omega)
  · have : verL (cts z ".") = .none := by
      unfold verL
      split
      · rename_i a b e
        exact absurd ⟨a, b, e⟩ h
      · rfl
    rw [this]
    exact fit_non.mono (by omega) (by omega)
theorem lab_cnt {u : Str} {n : Str} {m : Nat} (h : labIn u = some (n, m)) : m < 10 ^ u.length := by
  unfold labIn at h
  split at h
  · cases h
  · rename_i k e
    split at h
    · cases h
      have := count_lt e
      exact Nat.lt_of_lt_of_le this (Nat.pow_le_pow_right (by decide) (part_lens u "/").2.2)
    · cases h
theorem path_fit {z : Str} (hz : z.length ≤ 560) : Fit 6 8000 (pathIn z) := by
  unfold pathIn
  split
  · exact (Fits.nil0 (d := 0)).tup.mono (by omega) (by omega)
  · split
    · exact fit_non.mono (by omega) (by omega)
    · rename_i h
      have hl : (lbs z).length ≤ 10 := by
        rcases Nat.lt_or_ge 10 (lbs z).length with g | g
        · exact absurd (.inl g) h
        · exact g
      have hn : none ∉ lbs z := fun g => h (.inr g)
      refine (Fits.of (d := 1) (l := 660) fun x hx => ?_).tup.mono (by omega) (by rw [List.length_map]; omega)
      obtain ⟨o, ho, rfl⟩ := List.mem_map.mp hx
      obtain ⟨u, hu, e⟩ := List.mem_map.mp ho
      cases o with
      | none => exact absurd ho hn
      | some p =>
        obtain ⟨n, m⟩ := p
        have hul := part_len (y := ">") (by decide +kernel) hu
        have hm : m < 10 ^ 560 := Nat.lt_of_lt_of_le (lab_cnt e) (Nat.pow_le_pow_right (by decide) (by omega))
        exact (Fits.cons (name_pl (lab_name e)).fit (Fits.cons (fit_nat hm) Fits.nil0)).tup.mono (by omega) (by omega)
theorem okA_str {z : Str} (h : okA (.str z) = true) : z.length ≤ 560 ∧ plS 560 z := by
  have := plS_one (y := z) (n := 560) h
  exact ⟨this.1, this⟩
theorem tag_v : tagT "InvalidVersion" = some ("version" : Str) := if_pos rfl
theorem tag_p : tagT "InvalidPath" = some ("path" : Str) := by unfold tagT; rw [if_neg (by decide +kernel), if_pos rfl]
theorem tag_t : tagT "InvalidText" = some ("text" : Str) := by unfold tagT; rw [if_neg (by decide +kernel), if_neg (by decide +kernel), if_pos rfl]
theorem told_inr {c w : Str} {y : PyData} (h : tagT c = some w) : toldD (.inr (c, y)) = .list [.str w, y] := by
  show PyData.list [.str ((tagT c).getD ""), y] = _
  rw [h]
  rfl
def dueR (rd : Str → PyData) : PyData → PyData
  | .str z => if nonD (rd z) then .list [.str "text", .int 1] else .list [.str "told", rd z]
  | _ => .list [.str "text", .int 0]
theorem due_told (rd : Str → PyData) (x : PyData) : toldD (rdO rd x) = dueR rd x := by
  cases x with
  | str z =>
    show toldD (if nonD (rd z) = true then .inr ("InvalidText", .int 1) else .inl (rd z)) = if nonD (rd z) = true then _ else _
    split
    · exact told_inr tag_t
    · rfl
  | _ => exact told_inr tag_t
theorem fit_w {w : Str} (h : (decide (w.length ≤ 10) && w.cps.toList.all fun c => decide (c < 128)) = true) : Fit 6 102 (.str w) := (plS_one h).fit.mono (by omega) (by omega)
theorem pair_fit {w : Str} {y : PyData} (h : (decide (w.length ≤ 10) && w.cps.toList.all fun c => decide (c < 128)) = true) (hy : Fit 6 10000 y) : Fit 7 12000 (.list [.str w, y]) := (Fits.cons (fit_w h) (Fits.cons hy Fits.nil0)).lst.mono (by omega) (by omega)
theorem due_fit {rd : Str → PyData} (hr : ∀ z : Str, z.length ≤ 560 → Fit 6 8000 (rd z)) {x : PyData} (ho : okA x = true) : Fit 7 12000 (dueR rd x) := by
  have fi : ∀ i : Int, i.natAbs < 10 ^ 1 → Fit 6 10000 (.int i) := fun i h => (fit_intK (k := 1) (by decide) (by decide) h).mono (by omega) (by omega)
  cases x with
  | str z =>
    show Fit 7 12000 (if nonD (rd z) = true then _ else _)
    split
    · exact pair_fit (by decide +kernel) (fi 1 (by decide))
    · exact pair_fit (by decide +kernel) ((hr z (okA_str ho).1).mono (Nat.le_refl _) (by omega))
  | _ => exact pair_fit (by decide +kernel) (fi 0 (by decide))
theorem two_repr {x : PyData} (h : Fit 7 12000 x) : reprOk (.list [x, x]) := ((Fits.cons h (Fits.cons h Fits.nil0)).lst).repr (by omega) (by omega)
def WTr : WD := fun as S P => ∃ x, as = [.d x] ∧ okA x = true ∧ P (.d (.bool true)) S
section
variable {P : Program} {w : World} {K : PySem.W.Frag} {mg : Str → Option Value} {base : Heap} {so : Obj}
abbrev s__law_text_right : Stmt := top 46
theorem sc__law_text_right : FnScope ["_law_written", "_law_way", "_law_due", "_law_found"] ["_law_written"] (defScope s__law_text_right) := ⟨rfl, rfl, rfl, by decide +kernel, rfl, by decide +kernel, by decide +kernel⟩
theorem ok__law_text_right (D : DefAt K mg "_law_text_right" s__law_text_right ["_law_written"]) (B : Bl mg) (RS : K.lookup sysModules = some so ∧ so.cls = .type "dict") (o__law_told : Own P w K mg base 7 "_law_told" ["_law_way", "_law_thing_here", "_law_by_name"] WTo)
    (o__law_read : Own P w K mg base 3 "_law_read" ["_law_way", "_law_written"] WRe) : Own P w K mg base 8 "_law_text_right" ["_law_written"] WTr := by
  have sc := sc__law_text_right
  refine okO D sc (fun as S P h => by obtain ⟨_, rfl, _⟩ := h; rfl) (fun f cdv A outer s H E hg hr => (pdss_cons (pds_for PassesOwn.never rfl (pdi_range1 (by rfl) (B.b _ (by decide)) (pda_cons (pd_int) pda_nil)) (pdg_name (i := 1) sc.nd rfl (Or.inl rfl)) (pdss_cons (pds_set (i := 2) sc.nd rfl (Or.inl rfl) (pd_lst (pda_cons (pd_str) (pda_cons (pd_int) pda_nil)))) (pdss_cons (pds_if (pdt_val (pd_callB call_isi vr_isi (by rfl) (B.b _ (by decide)) boot_isinstance (pda_cons (pdv 0) (pda_cons (pd_ty "str" (by rfl) (B.b _ (by decide)) (by decide +kernel)) pda_nil)))) (pdss_cons (pds_set (i := 3) sc.nd rfl (Or.inl rfl) (pdc o__law_read hg hr (by rfl) (pda_cons (pdv 1) (pda_cons (pdv 0) pda_nil)))) (pdss_one (pds_set (i := 2) sc.nd rfl (Or.inl rfl) (pd_ife (pdt_is (pdv 3) (pd_non)) (pd_lst (pda_cons (pd_str) (pda_cons (pd_int) pda_nil))) (pd_lst (pda_cons (pd_str) (pda_cons (pdv 3) pda_nil))))))) pdss_nil) (pdss_one (pds_if (pdt_ne hr (pd_callB (call_repr hg (room_u hr) RS.1 RS.2) vr_repr (by rfl) (B.b _ (by decide)) (by decide +kernel) (pda_cons (pd_lst (pda_cons (pdc o__law_told hg hr (by rfl) (pda_cons (pd_add (pd_int) (pdv 1)) (pda_cons (pdv 0) (pda_cons (pd_bl) pda_nil)))) (pda_cons (pdc o__law_told hg hr (by rfl) (pda_cons (pd_add (pd_int) (pdv 1)) (pda_cons (pdv 0) (pda_cons (pd_bl) pda_nil)))) pda_nil))) pda_nil)) (pd_callB (call_repr hg (room_u hr) RS.1 RS.2) vr_repr (by rfl) (B.b _ (by decide)) (by decide +kernel) (pda_cons (pd_lst (pda_cons (pdv 2) (pda_cons (pdv 2) pda_nil))) pda_nil))) (pdss_one (pds_ret (pd_bl))) pdss_nil))))) (pdss_one (pds_ret (pd_bl))))) (fun args S P h => ?_)
  obtain ⟨x, rfl, ho, h⟩ := h
  refine ⟨⟨by decide, by decide⟩, ?_⟩
  refine loopD_inv (fun e s => s = S ∧ ∃ a b c, e = [some (.d x), a, b, c]) (fun y hy env S' I E en ec er eb => ?_) (fun env S' I => ?_) ⟨rfl, _, _, _, rfl⟩
  · obtain ⟨rfl, a, b, c, rfl⟩ := I
    obtain ⟨i, hi, rfl⟩ := List.mem_map.mp hy
    have hi : i < 2 := List.mem_range.mp hi
    have fin : ∀ (rd : Str → PyData) (d : PyData), (∀ z : Str, z.length ≤ 560 → Fit 6 8000 (rd z)) → toldD (outc (2 + i) x) = dueR rd x → d = dueR rd x →
        ∀ c' : Option AV, gsIf (gTest (gBin (dEq true) (gApp dRepr (DL.gCons (fun env S P => DL.gCons (gApp WTo (DL.gCons (gBin dAdd (gC (.int 2)) (gVar 1)) (DL.gCons (gVar 0) (DL.gCons (gC (.bool false)) DL.gNil))))
          (DL.gCons (gApp WTo (DL.gCons (gBin dAdd (gC (.int 2)) (gVar 1)) (DL.gCons (gVar 0) (DL.gCons (gC (.bool true)) DL.gNil)))) DL.gNil) env S fun as S1 => as.length ≤ sizeLine ∧ dLst as S1 P) DL.gNil))
          (gApp dRepr (DL.gCons (fun env S P => DL.gCons (gVar 2) (DL.gCons (gVar 2) DL.gNil) env S fun as S1 => as.length ≤ sizeLine ∧ dLst as S1 P) DL.gNil)))) (gsRet (gC (.bool false))) gsNext [some (.d x), some (.d (.int (i : Int))), some (.d d), c'] S' E := fun rd d hrd e1 e2 c' => by
      subst e2
      have fd := due_fit hrd ho
      have ei : (2 : Int) + (i : Int) = ((2 + i : Nat) : Int) := by omega
      refine ⟨2 + i, x, false, congrArg (fun j => [AV.d (.int j), .d x, .d (.bool false)]) ei, by omega, ho, ?_⟩
      rw [e1]
      refine ⟨2 + i, x, true, congrArg (fun j => [AV.d (.int j), .d x, .d (.bool true)]) ei, by omega, ho, ?_⟩
      rw [e1]
      refine ⟨small2 rfl, two_repr fd, small2 rfl, two_repr fd, ?_⟩
      refine cond_f (c := !decide ((PyData.list [dueR rd x, dueR rd x]).shown = (PyData.list [dueR rd x, dueR rd x]).shown)) (by rw [decide_eq_true rfl]; rfl) ?_
      exact en _ _ ⟨rfl, _, _, _, rfl⟩
    have pick : ∃ rd : Str → PyData, (∀ z : Str, z.length ≤ 560 → Fit 6 8000 (rd z)) ∧ toldD (outc (2 + i) x) = dueR rd x ∧ ∀ z, rdD (i : Int) z = rd z := by
      have : i = 0 ∨ i = 1 := by omega
      rcases this with rfl | rfl
      · exact ⟨verIn, fun z hz => ver_fit hz, due_told verIn x, fun z => rfl⟩
      · exact ⟨pathIn, fun z hz => path_fit hz, due_told pathIn x, fun z => rfl⟩
    obtain ⟨rd, hrd, e1, e2⟩ := pick
    refine ⟨small2 rfl, by decide, ?_⟩
    cases x with
    | str z =>
      have hz := (okA_str ho).1
      refine ⟨(i : Int), z, rfl, by omega, ?_⟩
      rw [e2]
      refine cond_or (c := nonD (rd z)) (fun g => ⟨small2 rfl, fin rd _ hrd e1 ?_ _⟩) (fun g => ⟨small2 rfl, fin rd _ hrd e1 ?_ _⟩)
      · exact (if_pos g).symm
      · exact (if_neg (by rw [g]; exact Bool.false_ne_true)).symm
    | none => exact fin rd _ hrd e1 rfl _
    | bool b => exact fin rd _ hrd e1 rfl _
    | int b => exact fin rd _ hrd e1 rfl _
    | list b => exact fin rd _ hrd e1 rfl _
    | tuple b => exact fin rd _ hrd e1 rfl _
    | dict b => exact fin rd _ hrd e1 rfl _
  · obtain ⟨rfl, a, b, c, rfl⟩ := I
    exact h
end
end K11
/-! law k11: things right, the turn -/
namespace K11
open PySem PySem.Spec PyProof.Rows L2 DL
def four (x : PyData) : PyData := .list [.bool (nameD x), .bool (pairD countD x), .bool (pairD nameD x), .bool (pathD x)]
theorem four_fit (x : PyData) : reprOk (four x) := ((Fits.cons (fit_bool _) (Fits.cons (fit_bool _) (Fits.cons (fit_bool _) (Fits.cons (fit_bool _) Fits.nil0)))).lst).repr (by omega) (by omega)
theorem told_fit {i : Nat} (hi : i < 2) {x : PyData} (h : Nice 5 9000 x) : Fit 7 12000 (toldD (outc i x)) := by
  have : i = 0 ∨ i = 1 := by omega
  rcases this with rfl | rfl
  · show Fit 7 12000 (toldD (if pairD countD x = true then .inl (.str (verS x)) else .inr ("InvalidVersion", x)))
    split
    · rename_i g
      exact pair_fit (w := "told") (by decide +kernel) ((ver_pl g h.ok).fit.mono (by omega) (by omega))
    · rw [told_inr tag_v]
      exact pair_fit (by decide +kernel) (h.fit.mono (by omega) (by omega))
  · show Fit 7 12000 (toldD (if pathD x = true then .inl (.str (pathS x)) else .inr ("InvalidPath", x)))
    split
    · rename_i g
      exact pair_fit (w := "told") (by decide +kernel) ((path_pl g h.ok).fit.mono (by omega) (by omega))
    · rw [told_inr tag_p]
      exact pair_fit (by decide +kernel) (h.fit.mono (by omega) (by omega))
theorem same_t {s : Str} {A B : Prop} (h : B) : cond (!decide (s = s)) A B := cond_f (by rw [decide_eq_true rfl]; rfl) h
theorem t_due {env : DEnv} {S : Store} {k : Bool → Store → Prop} {bs : List PyData} {i : Nat} {c : Bool} (h5 : env[5]? = some (some (.d (.list bs)))) (h3 : env[3]? = some (some (.d (.int (i : Int))))) (hat : atI bs (2 * (i : Int) + 1) = some (.bool c)) (h : k c S) :
    gTest (gBin dIx (gVar 5) (gBin dAdd (gBin dMul (gC (.int 2)) (gVar 3)) (gC (.int 1)))) env S k := by
  dsimp only [gTest, gBin, gVar, gC]
  rw [h5, h3]
  refine ⟨.inl ⟨by decide, by decide⟩, ?_⟩
  dsimp only [dAdd, vw]
  exact ix_l (a := .d (.list bs)) (b := .d (.int (2 * (i : Int) + 1))) rfl rfl hat h
theorem t_at {env : DEnv} {S : Store} {k : Bool → Store → Prop} {bs : List PyData} {i : Nat} {j : Int} {c : Bool} (h5 : env[i]? = some (some (.d (.list bs)))) (hat : atI bs j = some (.bool c)) (h : k c S) : gTest (gBin dIx (gVar i) (gC (.int j))) env S k := by
  dsimp only [gTest, gBin, gVar, gC]
  rw [h5]
  exact ix_l (a := .d (.list bs)) (b := .d (.int j)) rfl rfl hat h
def WThr : WD := fun as S P => ∃ x, as = [.d x] ∧ Nice 5 9000 x ∧ P (.d (.bool true)) S
section
variable {P : Program} {w : World} {K : PySem.W.Frag} {mg : Str → Option Value} {base : Heap} {so : Obj}
abbrev s__law_thing_right : Stmt := top 45
theorem sc__law_thing_right : FnScope ["_law_thing_here", "_law_told_here", "_law_named", "_law_way", "_law_kept", "_law_due", "_law_expected"] ["_law_thing_here"] (defScope s__law_thing_right) := ⟨rfl, rfl, rfl, by decide +kernel, rfl, by decide +kernel, by decide +kernel⟩
theorem ok__law_thing_right (D : DefAt K mg "_law_thing_right" s__law_thing_right ["_law_thing_here"]) (B : Bl mg) (RS : K.lookup sysModules = some so ∧ so.cls = .type "dict") (o__law_judged : Own P w K mg base 3 "_law_judged" ["_law_thing_here"] WJ)
    (o_is_name : Own P w K mg base 1 "is_name" ["value"] (WB nameD)) (o_is_version : Own P w K mg base 3 "is_version" ["value"] (WB (pairD countD))) (o_is_label : Own P w K mg base 3 "is_label" ["value"] (WB (pairD nameD))) (o_is_path : Own P w K mg base 4 "is_path" ["value"] (WB pathD))
    (o__law_text : Own P w K mg base 2 "_law_text" ["_law_way", "_law_thing_here"] WTx) (o__law_told : Own P w K mg base 7 "_law_told" ["_law_way", "_law_thing_here", "_law_by_name"] WTo) (o__law_text_right : Own P w K mg base 8 "_law_text_right" ["_law_written"] WTr) :
    Own P w K mg base 9 "_law_thing_right" ["_law_thing_here"] WThr := by
  have sc := sc__law_thing_right
  refine okO D sc (fun as S P h => by obtain ⟨_, rfl, _⟩ := h; rfl) (fun f cdv A outer s H E hg hr => (pdss_cons (pds_par (i := 4) (j := 5) rfl sc.nd rfl rfl (by decide) rfl rfl (pda_cons (pd_callB (call_repr hg (room_u hr) RS.1 RS.2) vr_repr (by rfl) (B.b _ (by decide)) (by decide +kernel) (pda_cons (pdv 0) pda_nil)) (pda_cons (pdc o__law_judged hg hr (by rfl) (pda_cons (pdv 0) pda_nil)) pda_nil)) rfl) (pdss_cons (pds_set (i := 1) sc.nd rfl (Or.inl rfl) (pd_lst (pda_cons (pdc o_is_name hg hr (by rfl) (pda_cons (pdv 0) pda_nil)) (pda_cons (pdc o_is_version hg hr (by rfl) (pda_cons (pdv 0) pda_nil)) (pda_cons (pdc o_is_label hg hr (by rfl) (pda_cons (pdv 0) pda_nil)) (pda_cons (pdc o_is_path hg hr (by rfl) (pda_cons (pdv 0) pda_nil)) pda_nil)))))) (pdss_cons (pds_set (i := 2) sc.nd rfl (Or.inl rfl) (pd_lst (pda_cons (pdck o_is_name hg hr (by rfl) (pdk_cons (pdv 0) pdk_nil)) (pda_cons (pdck o_is_version hg hr (by rfl) (pdk_cons (pdv 0) pdk_nil)) (pda_cons (pdck o_is_label hg hr (by rfl) (pdk_cons (pdv 0) pdk_nil)) (pda_cons (pdck o_is_path hg hr (by rfl) (pdk_cons (pdv 0) pdk_nil)) pda_nil)))))) (pdss_cons (pds_if (pdt_w (pdw_or (pdt_ne hr (pd_callB (call_repr hg (room_u hr) RS.1 RS.2) vr_repr (by rfl) (B.b _ (by decide)) (by decide +kernel) (pda_cons (pdv 1) pda_nil)) (pd_callB (call_repr hg (room_u hr) RS.1 RS.2) vr_repr (by rfl) (B.b _ (by decide)) (by decide +kernel) (pda_cons (pdv 5) pda_nil))) (pdw_or1 (pdt_ne hr (pd_callB (call_repr hg (room_u hr) RS.1 RS.2) vr_repr (by rfl) (B.b _ (by decide)) (by decide +kernel) (pda_cons (pdv 2) pda_nil)) (pd_callB (call_repr hg (room_u hr) RS.1 RS.2) vr_repr (by rfl) (B.b _ (by decide)) (by decide +kernel) (pda_cons (pdv 5) pda_nil)))))) (pdss_one (pds_ret (pd_bl))) pdss_nil) (pdss_cons (pds_for PassesOwn.never rfl (pdi_range1 (by rfl) (B.b _ (by decide)) (pda_cons (pd_int) pda_nil)) (pdg_name (i := 3) sc.nd rfl (Or.inl rfl)) (pdss_cons (pds_set (i := 6) sc.nd rfl (Or.inl rfl) (pd_ife (pdt_val (pd_at (pdv 5) (pd_add (pd_mul (pd_int) (pdv 3)) (pd_int)))) (pd_lst (pda_cons (pd_str) (pda_cons (pdc o__law_text hg hr (by rfl) (pda_cons (pdv 3) (pda_cons (pdv 0) pda_nil))) pda_nil))) (pd_lst (pda_cons (pd_at (pd_lst (pda_cons (pd_str) (pda_cons (pd_str) pda_nil))) (pdv 3)) (pda_cons (pdv 0) pda_nil))))) (pdss_one (pds_if (pdt_ne hr (pd_callB (call_repr hg (room_u hr) RS.1 RS.2) vr_repr (by rfl) (B.b _ (by decide)) (by decide +kernel) (pda_cons (pd_lst (pda_cons (pdc o__law_told hg hr (by rfl) (pda_cons (pdv 3) (pda_cons (pdv 0) (pda_cons (pd_bl) pda_nil)))) (pda_cons (pdc o__law_told hg hr (by rfl) (pda_cons (pdv 3) (pda_cons (pdv 0) (pda_cons (pd_bl) pda_nil)))) pda_nil))) pda_nil)) (pd_callB (call_repr hg (room_u hr) RS.1 RS.2) vr_repr (by rfl) (B.b _ (by decide)) (by decide +kernel) (pda_cons (pd_lst (pda_cons (pdv 6) (pda_cons (pdv 6) pda_nil))) pda_nil))) (pdss_one (pds_ret (pd_bl))) pdss_nil)))) (pdss_one (pds_ret (pd_and (pdc o__law_text_right hg hr (by rfl) (pda_cons (pdv 0) pda_nil)) (pd_one (pd_eq hr (pd_callB (call_repr hg (room_u hr) RS.1 RS.2) vr_repr (by rfl) (B.b _ (by decide)) (by decide +kernel) (pda_cons (pdv 0) pda_nil)) (pdv 4)))))))))))) (fun args S P h => ?_)
  obtain ⟨x, rfl, hx, h⟩ := h
  have ro : reprOk x := hx.fit.repr (by omega) (by omega)
  have ho := hx.ok
  refine ⟨ro, x, rfl, x, rfl, x, rfl, x, rfl, x, rfl, small2 rfl, x, rfl, x, rfl, x, rfl, x, rfl, small2 rfl, four_fit x, four_fit x, ?_⟩
  refine same_t ⟨four_fit x, four_fit x, same_t ⟨⟨by decide, by decide⟩, ?_⟩⟩
  refine loopD_inv (fun e s => s = S ∧ ∃ a b, e = [some (.d x), some (.d (four x)), some (.d (four x)), a, some (.d (.str x.shown)), some (.d (four x)), b]) (fun y hy env S' I E en ec er eb => ?_) (fun env S' I => ?_) ⟨rfl, _, _, rfl⟩
  · obtain ⟨rfl, a, b, rfl⟩ := I
    obtain ⟨i, hi, rfl⟩ := List.mem_map.mp hy
    have hi : i < 2 := List.mem_range.mp hi
    have fd := told_fit hi hx
    have fin : ∀ d, d = toldD (outc i x) → gsIf (gTest (gBin (dEq true) (gApp dRepr (DL.gCons (fun env S P => DL.gCons (gApp WTo (DL.gCons (gVar 3) (DL.gCons (gVar 0) (DL.gCons (gC (.bool false)) DL.gNil))))
          (DL.gCons (gApp WTo (DL.gCons (gVar 3) (DL.gCons (gVar 0) (DL.gCons (gC (.bool true)) DL.gNil)))) DL.gNil) env S fun as S1 => as.length ≤ sizeLine ∧ dLst as S1 P) DL.gNil))
          (gApp dRepr (DL.gCons (fun env S P => DL.gCons (gVar 6) (DL.gCons (gVar 6) DL.gNil) env S fun as S1 => as.length ≤ sizeLine ∧ dLst as S1 P) DL.gNil)))) (gsRet (gC (.bool false))) gsNext
          [some (.d x), some (.d (four x)), some (.d (four x)), some (.d (.int (i : Int))), some (.d (.str x.shown)), some (.d (four x)), some (.d d)] S' E := fun d e => by
      subst e
      exact ⟨i, x, false, rfl, by omega, ho, i, x, true, rfl, by omega, ho, small2 rfl, two_repr fd, small2 rfl, two_repr fd, same_t (en _ _ ⟨rfl, _, _, rfl⟩)⟩
    have : i = 0 ∨ i = 1 := by omega
    rcases this with rfl | rfl
    · dsimp only [ggName, gsSeq, gsAsg]
      refine ife_t (t_due (i := 0) (c := pairD countD x) (bs := [.bool (nameD x), .bool (pairD countD x), .bool (pairD nameD x), .bool (pathD x)]) rfl rfl (by rw [show (2 * ((0 : Nat) : Int) + 1) = 1 by decide]; exact at1) ?_)
      refine cond_or (c := pairD countD x) (fun g => ?_) (fun g => ?_)
      · have e : toldD (outc 0 x) = .list [.str "told", .str (verS x)] := by
          show toldD (if pairD countD x = true then _ else _) = _
          rw [if_pos g]
          rfl
        exact ⟨((0 : Nat) : Int), x, rfl, ho, fun _ => ⟨g, small2 rfl, fin _ e.symm⟩, fun n => absurd rfl n⟩
      · have e : toldD (outc 0 x) = .list [.str "version", x] := by
          show toldD (if pairD countD x = true then _ else _) = _
          rw [if_neg (by rw [g]; exact Bool.false_ne_true), told_inr tag_v]
        exact ⟨small2 rfl, small2 rfl, fin _ e.symm⟩
    · dsimp only [ggName, gsSeq, gsAsg]
      refine ife_t (t_due (i := 1) (c := pathD x) (bs := [.bool (nameD x), .bool (pairD countD x), .bool (pairD nameD x), .bool (pathD x)]) rfl rfl (by rw [show (2 * ((1 : Nat) : Int) + 1) = 3 by decide]; exact at3) ?_)
      refine cond_or (c := pathD x) (fun g => ?_) (fun g => ?_)
      · have e : toldD (outc 1 x) = .list [.str "told", .str (pathS x)] := by
          show toldD (if pathD x = true then _ else _) = _
          rw [if_pos g]
          rfl
        exact ⟨((1 : Nat) : Int), x, rfl, ho, fun n => absurd n (by decide), fun _ => ⟨g, small2 rfl, fin _ e.symm⟩⟩
      · have e : toldD (outc 1 x) = .list [.str "path", x] := by
          show toldD (if pathD x = true then _ else _) = _
          rw [if_neg (by rw [g]; exact Bool.false_ne_true), told_inr tag_p]
        exact ⟨small2 rfl, small2 rfl, fin _ e.symm⟩
  · obtain ⟨rfl, a, b, rfl⟩ := I
    refine ⟨x, rfl, ho, ro, ?_⟩
    show P (.d (.bool (decide (x.shown = x.shown)))) S'
    rw [decide_eq_true rfl]
    exact h
def WRi : WD := fun as S P => ∃ r : Nat, as = [.m r] ∧ S[r]? = some .rng ∧ P (.d (.bool true)) S
abbrev s__law_right : Stmt := top 48
theorem sc__law_right : FnScope ["_law_rng_here", "_law_thing_here", "_law_judged_here", "_law_written", "_law_bent_here", "_law_some", "_law_one"] ["_law_rng_here"] (defScope s__law_right) := ⟨rfl, rfl, rfl, by decide +kernel, rfl, by decide +kernel, by decide +kernel⟩
theorem ok__law_right (D : DefAt K mg "_law_right" s__law_right ["_law_rng_here"]) (B : Bl mg) (o__law_thing : Own P w K mg base 4 "_law_thing" ["_law_rng_here"] WTh) (o__law_thing_right : Own P w K mg base 9 "_law_thing_right" ["_law_thing_here"] WThr)
    (o__law_spoilt : Own P w K mg base 4 "_law_spoilt" ["_law_rng_here", "_law_thing_here"] WSp) (o__law_judged : Own P w K mg base 3 "_law_judged" ["_law_thing_here"] WJ) (o__law_text : Own P w K mg base 2 "_law_text" ["_law_way", "_law_thing_here"] WTx)
    (o__law_bent : Own P w K mg base 3 "_law_bent" ["_law_rng_here", "_law_written"] WBe) (o__law_text_right : Own P w K mg base 8 "_law_text_right" ["_law_written"] WTr) (o__law_odd : Own P w K mg base 3 "_law_odd" ["_law_rng_here"] WOd) :
    Own P w K mg base 10 "_law_right" ["_law_rng_here"] WRi := by
  have sc := sc__law_right
  refine okO D sc (fun as S P h => by obtain ⟨_, rfl, _⟩ := h; rfl) (fun f cdv A outer s H E hg hr => (pdss_cons (pds_set (i := 1) sc.nd rfl (Or.inl rfl) (pdc o__law_thing hg hr (by rfl) (pda_cons (pdv 0) pda_nil))) (pdss_cons (pds_if (pdt_w (pdw_or (pdt_not (pdt_val (pdc o__law_thing_right hg hr (by rfl) (pda_cons (pdv 1) pda_nil)))) (pdw_or1 (pdt_not (pdt_val (pdc o__law_thing_right hg hr (by rfl) (pda_cons (pdc o__law_spoilt hg hr (by rfl) (pda_cons (pdv 0) (pda_cons (pdv 1) pda_nil))) pda_nil))))))) (pdss_one (pds_ret (pd_bl))) pdss_nil) (pdss_cons (pds_set (i := 2) sc.nd rfl (Or.inl rfl) (pdc o__law_judged hg hr (by rfl) (pda_cons (pdv 1) pda_nil))) (pdss_cons (pds_set (i := 3) sc.nd rfl (Or.inl rfl) (pd_ife (pdt_val (pd_at (pdv 2) (pd_int))) (pdc o__law_text hg hr (by rfl) (pda_cons (pd_int) (pda_cons (pdv 1) pda_nil))) (pd_ife (pdt_val (pd_at (pdv 2) (pd_int))) (pdc o__law_text hg hr (by rfl) (pda_cons (pd_int) (pda_cons (pdv 1) pda_nil))) (pd_str)))) (pdss_cons (pds_set (i := 4) sc.nd rfl (Or.inl rfl) (pdc o__law_bent hg hr (by rfl) (pda_cons (pdv 0) (pda_cons (pdv 3) pda_nil)))) (pdss_cons (pds_set (i := 5) sc.nd rfl (Or.inl rfl) (pd_lst (pda_cons (pdv 3) (pda_cons (pdv 4) (pda_cons (pdc o__law_bent hg hr (by rfl) (pda_cons (pdv 0) (pda_cons (pdv 4) pda_nil))) pda_nil))))) (pdss_one (pds_ret (pd_and (pd_callB (cr_all rfl) vr_all (by rfl) (B.b _ (by decide)) (by decide +kernel) (pda_cons (pd_lc (own := [("_law_one", 6)]) rfl sc.nd (pdi_list (pdv 5)) (blkOk_by (N := ["_law_rng_here", "_law_thing_here", "_law_judged_here", "_law_written", "_law_bent_here", "_law_some", "_law_one"]) (sc := defScope s__law_right) (by decide +kernel)) (cg_name (by decide)) (fun _ _ _ _ _ => (pg_name (i := 6) sc.nd rfl (Or.inl rfl))) (fun _ _ _ _ _ => pts_yes) (fun _ _ _ _ _ => (pdc o__law_text_right hg hr (by rfl) (pda_cons (pdv 6) pda_nil)))) pda_nil)) (pd_one (pdc o__law_thing_right hg hr (by rfl) (pda_cons (pdc o__law_odd hg hr (by rfl) (pda_cons (pdv 0) pda_nil)) pda_nil))))))))))))) (fun args S P h => ?_)
  obtain ⟨r, rfl, hS, h⟩ := h
  refine ⟨r, rfl, hS, fun x hx => ⟨x, rfl, hx.mono (by omega) (by omega), r, x, rfl, hS, hx, fun y hy => ⟨y, rfl, hy, x, rfl, ?_⟩⟩⟩
  have ho := hx.ok
  have okz : ∀ {n : Nat} {z : Str}, plS n z → n ≤ 560 → okA (.str z) = true := fun h hn => (h.nice hn).ok
  dsimp only [ggName, gsSeq, gsAsg]
  refine ife_t (t_at (i := 2) (c := pairD countD x) (bs := [.bool (nameD x), .bool (pairD countD x), .bool (pairD nameD x), .bool (pathD x)]) rfl at1 ?_)
  refine cond_or (c := pairD countD x) (fun g => ?_) (fun g => ?_)
  · have hz := plS.mono (ver_pl g ho) (show 100 ≤ 450 by omega)
    refine ⟨0, x, rfl, ho, fun _ => ⟨g, ?_⟩, fun n => absurd rfl n⟩
    refine ⟨r, 450, _, rfl, hS, by omega, hz, fun y hy => ⟨r, 451, y, rfl, hS, by omega, hy, fun u hu => ⟨small2 rfl, small3 rfl, compD_map (fun _ => .bool true) (fun o mo Q q => ⟨o, rfl, ?_, q⟩) ?_⟩⟩⟩
    · rcases List.mem_cons.mp mo with rfl | mo
      · exact okz hz (by omega)
      rcases List.mem_cons.mp mo with rfl | mo
      · exact okz hy (by omega)
      rcases List.mem_cons.mp mo with rfl | mo
      · exact okz hu (by omega)
      cases mo
    · exact ⟨r, rfl, hS, fun v hv => ⟨v, rfl, hv.mono (by omega) (by omega), h⟩⟩
  refine ife_t (t_at (i := 2) (c := pathD x) (bs := [.bool (nameD x), .bool (pairD countD x), .bool (pairD nameD x), .bool (pathD x)]) rfl at3 ?_)
  refine cond_or (c := pathD x) (fun g => ?_) (fun g => ?_)
  · have hz := path_pl g ho
    refine ⟨1, x, rfl, ho, fun n => absurd n (by decide), fun _ => ⟨g, ?_⟩⟩
    refine ⟨r, 450, _, rfl, hS, by omega, hz, fun y hy => ⟨r, 451, y, rfl, hS, by omega, hy, fun u hu => ⟨small2 rfl, small3 rfl, compD_map (fun _ => .bool true) (fun o mo Q q => ⟨o, rfl, ?_, q⟩) ?_⟩⟩⟩
    · rcases List.mem_cons.mp mo with rfl | mo
      · exact okz hz (by omega)
      rcases List.mem_cons.mp mo with rfl | mo
      · exact okz hy (by omega)
      rcases List.mem_cons.mp mo with rfl | mo
      · exact okz hu (by omega)
      cases mo
    · exact ⟨r, rfl, hS, fun v hv => ⟨v, rfl, hv.mono (by omega) (by omega), h⟩⟩
  · have hz : plS 450 "0.1" := plS_one (by decide +kernel)
    refine ⟨r, 450, _, rfl, hS, by omega, hz, fun y hy => ⟨r, 451, y, rfl, hS, by omega, hy, fun u hu => ⟨small2 rfl, small3 rfl, compD_map (fun _ => .bool true) (fun o mo Q q => ⟨o, rfl, ?_, q⟩) ?_⟩⟩⟩
    · rcases List.mem_cons.mp mo with rfl | mo
      · exact okz hz (by omega)
      rcases List.mem_cons.mp mo with rfl | mo
      · exact okz hy (by omega)
      rcases List.mem_cons.mp mo with rfl | mo
      · exact okz hu (by omega)
      cases mo
    · exact ⟨r, rfl, hS, fun v hv => ⟨v, rfl, hv.mono (by omega) (by omega), h⟩⟩
end
end K11
/-! law k11: the law -/
namespace K11
open PySem PySem.Spec PyProof.Rows L2 DL
abbrev sLaw : Stmt := top 49
def spRight : Sp := fun vs H Q _ => ∃ p, vs = [.ref p] ∧ Rng H p ∧ ∀ H', But p H H' → Rng H' p → Q (.bl true) H'
section
variable {P : Program} {w : World} {K : PySem.W.Frag} {mg : Str → Option Value} {base : Heap} {k : Nat} {f fG : Addr} {fd dG : FuncData}
theorem right_sp (F : FnD P w K mg base k f fd ["_law_rng_here"] WRi) : FnG P w K mg base k f fd ["_law_rng_here"] spRight := by
  have conv : ∀ vs H Q E, spRight vs H Q E → spW K WRi vs H Q E := fun vs H Q E h => by
    obtain ⟨p, rfl, hp, h⟩ := h
    have one : ∀ {α : Type} {x y : α} {j : Nat}, [x][j]? = some y → j = 0 ∧ y = x := fun {α x y j} e => by
      cases j with
      | zero => exact ⟨rfl, (Option.some.inj e).symm⟩
      | succ j => simp at e
    have rl : Rl K [] [p] [MO.rng] H := by
      refine ⟨rfl, fun i j a oi oj h1 h2 _ _ _ _ => ?_, fun j a o h1 h2 => ?_, fun b hb => (nomatch hb)⟩
      · rw [(one h1).1, (one h2).1]
      · obtain ⟨rfl, rfl⟩ := one h1
        obtain ⟨_, rfl⟩ := one h2
        exact hp
    refine ⟨[], [p], [.rng], [.m 0], fun r S' => r = .d (.bool true) ∧ S' = [.rng], rl, .cons ⟨p, rfl, rfl⟩ .nil, ⟨0, rfl, rfl, rfl, rfl⟩, fun r S' As' v H' hr po rl' av => ?_⟩
    obtain ⟨rfl, rfl⟩ := hr
    have hv := d_bool av
    subst hv
    obtain ⟨l, hl⟩ := po.pre
    have hl0 : l = [] := by
      have := rl'.len
      rw [hl] at this
      simp at this
      exact this
    subst hl0
    refine h H' (fun b o hb e => (po.ext b o e fun z => ?_).2) (rl'.at_ 0 p .rng (by rw [hl]; rfl) rfl)
    rcases z with z | ⟨j, o', h1, _, _⟩
    · cases z
    · exact hb (one h1).2
  exact ⟨fun vs H Q E h => F.len vs H Q E (conv _ _ _ _ h), fun A hg hr outer s H args us vs Q E e0 hb r h => F.run A hg hr outer s H args us vs Q E e0 hb r (conv _ _ _ _ h)⟩
def spLaw (K : PySem.W.Frag) : Sp := fun vs H Q _ => ∃ (a : Addr) (ns : List Int), vs = [.ref a] ∧ SqL K H a (ns.map V.int) ∧ ns.length ≤ 63 ∧ ∀ H', Same H H' → Q (.bl true) H'
theorem scLaw : FnScope ["_law_script", "_law_k", "_law_rng_here", "_law_turn"] ["_law_script"] (defScope sLaw) := ⟨rfl, rfl, rfl, by decide +kernel, rfl, by decide +kernel, by decide +kernel⟩
theorem itf {A B : Prop} {c : Bool} (h : c = false) (b : B) : if c = true then A else B := by rw [if_neg (by rw [h]; exact Bool.false_ne_true)]; exact b
theorem cnt_le (n : Int) (h : n ≤ 63) : (if (if n < 6 then n else 6) > 2 then (if n < 6 then n else 6) else 2 : Int) ≤ 6 ∧ 2 ≤ (if (if n < 6 then n else 6) > 2 then (if n < 6 then n else 6) else 2 : Int) := by
  split <;> split <;> omega
theorem ok_law {fR : Addr} {dR : FuncData} (F : Fun K "law" "law" sLaw f fd) (B : Bl mg) (G : Gc K mg) (R : FnG P w K mg base 10 fR dR ["_law_rng_here"] spRight) (mR : mg "_law_right" = some (.ref fR)) (kR : PySem.W.keepIn K (.ref fR) = true) (bR : L2.Binds K dR ["_law_rng_here"] [])
    (N : FnOk P w K mg base CX0 1 fG dG ["_law_script", "_law_k"] (spRng K)) (mG : mg "_law_rng" = some (.ref fG)) (kG : PySem.W.keepIn K (.ref fG) = true) (bG : L2.Binds K dG ["_law_script", "_law_k"] []) : FnG P w K mg base 11 f fd ["_law_script"] (spLaw K) := by
  have sc := scLaw
  obtain ⟨tM, gM⟩ := G.g_MOST_LABELS
  refine F.okG sc (fun vs H Q E h => ?_) (fun cdv A outer s H vs Q E' hgd hr h => ?_)
  · obtain ⟨a, ns, rfl, _⟩ := h
    rfl
  · obtain ⟨a, ns, rfl, hS, hn, q⟩ := h
    have hr1 : Room 1 _ := hr.mono (by decide)
    have hg : (cxOf CX0 P w K mg base ["_law_script", "_law_k", "_law_rng_here", "_law_turn"] "law" (defScope sLaw) f cdv A outer s H E').nox.A.guards = some [] := hgd
    refine ⟨_, pss_cons (ps_if (pt_cmpR op_ne (pe_glob (v := .int 10) (by rfl) gM ⟨_, rfl⟩) pe_int (nomark _)) (pss_one (ps_ret pe_bl)) pss_nil)
      (pss_cons (ps_for PassesOwn.never rfl (pi_range1 (by rfl) (B.b "range" (by decide)) (pa_cons (pe_callB (call_max2 rfl) (by rfl) (B.b "max" (by decide)) boot_max (pa_cons pe_int (pa_cons (pe_callB (call_min2 rfl) (by rfl) (B.b "min" (by decide)) boot_min (pa_cons pe_int (pa_cons (pe_callB call_len_seq (by rfl) (B.b "len" (by decide)) boot_len (pa_cons (pv 0) pa_nil)) pa_nil))) pa_nil))) pa_nil))
        (pg_name (i := 1) sc.nd rfl (Or.inl rfl))
        (pss_cons (ps_set (i := 2) sc.nd rfl (Or.inr rfl) (pe_call N hr1 (by rfl) mG kG bG .nil pass0 (pa_cons (pv 0) (pa_cons (pv 1) pa_nil))))
        (pss_one (ps_if (pt_not (pt_val (pe_callB (cr_all rfl) (by rfl) (B.b "all" (by decide)) boot_all (pa_cons (pe_lc (own := [("_law_turn", 3)]) (g := gName 3) (tt := tYes) rfl sc.nd (pi_range1 (by rfl) (B.b "range" (by decide)) (pa_cons pe_int pa_nil))
          (blkOk_by (N := ["_law_script", "_law_k", "_law_rng_here", "_law_turn"]) (sc := defScope sLaw) (by decide +kernel)) (fun _ _ _ _ _ => pg_name (i := 3) sc.nd rfl (Or.inl rfl)) (fun _ _ _ _ _ => pts_nil)
          (fun _ _ _ _ _ => pe_callG R hg hr (by rfl) mR kR bR (pa_cons (pv 2) pa_nil))) pa_nil)))) (pss_one (ps_ret pe_bl)) pss_nil))))
      (pss_one (ps_ret pe_bl))), ?_⟩
    have hl : ((ns.map V.int).length : Int) ≤ 63 := by rw [List.length_map]; omega
    obtain ⟨c1, c2⟩ := cnt_le ((ns.map V.int).length : Int) hl
    refine ⟨rfl, _, rfl, itf rfl ?_⟩
    refine ⟨_, rfl, a, _, rfl, .inl hS, _, _, rfl, _, _, rfl, _, rfl, ?_, ?_, ?_⟩
    · exact Int.le_trans (by decide) c2
    · exact Int.lt_of_le_of_lt c1 (by decide)
    have hz : ((if (if ((ns.map V.int).length : Int) < 6 then ((ns.map V.int).length : Int) else 6) > 2 then (if ((ns.map V.int).length : Int) < 6 then ((ns.map V.int).length : Int) else 6) else 2) : Int).toNat ≤ 6 := by omega
    refine for_range (fun i σ H2 => Same H H2 ∧ ∃ x1 x2 x3, σ = [some (.ref a), x1, x2, x3]) ⟨Same.refl H, _, _, _, rfl⟩ ?_ ?_
    · rintro i σ H2 hi ⟨s2, x1, x2, x3, rfl⟩
      have hi6 : i < 6 := Nat.lt_of_lt_of_le hi hz
      refine ⟨.ref a, rfl, _, rfl, a, ns, i, by rw [Int.zero_add]; rfl, s2.seq hS, by omega, fun p H3 np s3 R3 => ?_⟩
      have s13 : Same H H3 := s2.trans s3
      have hp : H p = none := by
        cases e : H p with
        | none => rfl
        | some o => rw [s2 p o e] at np; cases np
      -- six turns
      refine ⟨_, rfl, by decide, by decide, fun D hD => lc_range (fun j H4 => Same H H4 ∧ Rng H4 p ∧ H4 D = some (.lst (List.replicate j (.bl true)))) ⟨?_, ?_, upd_same⟩ ?_ ?_⟩
      · exact fun b o e => by rw [upd_ne fun z => by rw [z] at e; rw [s13 _ _ e] at hD; cases hD]; exact s13 b o e
      · obtain ⟨u, v, e, r⟩ := R3
        exact ⟨u, v, by rw [upd_ne fun z => by rw [z, hD] at e; cases e]; exact e, r⟩
      · rintro j H4 hj ⟨s4, R4, d4⟩
        refine ⟨rfl, .ref p, rfl, p, rfl, R4, fun H5 b5 R5 => ⟨_, b5 D _ (fun z => ?_) d4, by rw [List.length_replicate, sizeLine_eq]; omega, ?_, ?_, ?_⟩⟩
        · obtain ⟨u, v, e, _⟩ := R4
          rw [← z, d4] at e
          cases j with
          | zero => cases e
          | succ j => rw [List.replicate_succ] at e; cases e
        · intro b o e
          have nb : b ≠ p := fun z => by rw [z, hp] at e; cases e
          have nD : b ≠ D := fun z => by
            have := s13 _ _ e
            rw [z, hD] at this
            cases this
          rw [upd_ne nD]
          exact b5 b o nb (s4 b o e)
        · obtain ⟨u, v, e, r⟩ := R5
          refine ⟨u, v, ?_, r⟩
          rw [upd_ne fun z => ?_]
          · exact e
          · obtain ⟨u', v', e', _⟩ := R4
            rw [z, d4] at e'
            cases j with
            | zero => cases e'
            | succ j => rw [List.replicate_succ] at e'; cases e'
        · rw [List.replicate_succ']
          exact upd_same
      · rintro H4 ⟨s4, _, d4⟩
        refine ⟨D, List.replicate 6 true, rfl, .inl (.inl (by rw [d4, List.map_replicate]; rfl)), true, rfl, ?_⟩
        refine itf rfl ?_
        exact ⟨s4, _, _, _, rfl⟩
    · rintro σ H2 ⟨s2, x1, x2, x3, rfl⟩
      exact q H2 s2
end
end K11
namespace DL
open PySem PySem.Spec PyProof.Rows L2
/-! ### the law's call, no repr under way -/
theorem run_law {P : Program} {w : World} {K : PySem.W.Frag} {mg mb : Str → Option Value} {k : Nat} {fa a : Addr} {fd : FuncData} {x : Str} {sp : Sp} {s : Shared} {vs : List Value} {ns : List Int} (KX : K.In s.heap) (G : s.heap.Ns mainGlobals mg)
    (Gb : s.heap.Ns builtinsNs mb) (bb : ∀ y : Str, y ≠ "__name__" → mb y = bootBuiltins y) (lim : s.heap.NoLimit) (gz : s.gens = #[]) (ha : s.heap.get? a = some { cls := .type "list", data := .seq vs.toArray }) (hi : IntsAre vs ns) (hl : ns.length ≤ sizeLine)
    (hr : Room k callerA) (F : ∀ base : Heap, K.In base → base.Ns mainGlobals mg → FnG P w K mg base k fa fd [x] sp) (hb : ∀ (s : Shared) (u : Value), BindsTo s fd ⟨[u], []⟩ [(x, u)])
    (hsp : ∀ H : Hp, Only H → SqL K H a (ns.map V.int) → sp [.ref a] H (fun v H' => v = .bl true ∧ Same H H') fun _ _ _ => False) :
    codeAny (model P w) callerA (.call (.ref fa) ⟨[.ref a], []⟩) (fun r s' => r = .ok (.ret (.bool true)) ∧ OldK s.heap s'.heap ∧ s'.os = s.os ∧ AllBare s'.gens) s := by
  have go : ∀ H : Hp, (∀ b u, H b = some u → b = a ∧ K.lookup a = none ∧ u = .frz { cls := .type "list", data := .seq vs.toArray } (.lst (ns.map V.int))) → SqL K H a (ns.map V.int) →
      codeAny (model P w) callerA (.call (.ref fa) ⟨[.ref a], []⟩) (fun r s' => r = .ok (.ret (.bool true)) ∧ OldK s.heap s'.heap ∧ s'.os = s.os ∧ AllBare s'.gens) s := by
    intro H hH hS
    have none_of : ∀ b : Addr, ¬ (b = a ∧ K.lookup a = none) → H b = none := fun b nb => by
      cases e : H b with
      | none => rfl
      | some u => exact absurd ⟨(hH b u e).1, (hH b u e).2.1⟩ nb
    have dict_none : ∀ (b : Addr) (o : Obj) (es : Array DictEntry) (ep : Nat), s.heap.get? b = some o → o.data = .dict es ep → H b = none := fun b o es ep e d => none_of b fun z => by
      rw [z.1, ha] at e
      cases e
      cases d
    have keep_ns : ∀ {b : Addr} {m : Str → Option Value}, s.heap.Ns b m → (hidT s.heap H).Ns b m := fun {b m} z => by
      obtain ⟨o, es, ep, e, d, r⟩ := z
      exact ⟨o, es, ep, hidT_get e (dict_none b o es ep e d), d, r⟩
    have inB : K.In (hidT s.heap H) := fun b o e => hidT_get (KX b o e) (none_of b fun z => by rw [z.1, z.2] at e; cases e)
    obtain ⟨mc, c1, c2⟩ := lim
    have hok : HOk P w H s.heap := fun b u e => by
      obtain ⟨rfl, _, rfl⟩ := hH b u e
      exact ⟨ha, by rw [List.length_map]; exact hl, vs, _, vals_ints hi, ha⟩
    have e0 : Env0 P w K mg (hidT s.heap H) callerA [] s H := ⟨rfl, ⟨inB, keep_ns G, ⟨mb, keep_ns Gb, bb⟩, ⟨mc, keep_ns c1, c2⟩⟩, fun b o e => of_hidT e, Nat.le_of_eq (hidT_size _ _), trivial, (fun b z => absurd (show b ∈ ([] : List Addr) from z) (by simp)), hok, .of_eq gz⟩
    have only : Only H := fun b => by
      cases e : H b with
      | none => exact .inl rfl
      | some u => exact .inr ⟨_, _, by rw [(hH b u e).2.2]⟩
    refine codeAny_mono ((F _ inB (keep_ns G)).run callerA rfl hr [] s H ⟨[.ref a], []⟩ [.ref a] [.ref a] _ _ e0 (hb s (.ref a)) (.cons rfl .nil) (hsp H only hS)) fun r s' z => ?_
    match r, z with
    | .ok (.ret u), z =>
      obtain ⟨v, H', os, bare, un, hok', rv, ⟨rfl, sm⟩⟩ := z
      cases (show u = Value.bool true from rv)
      refine ⟨rfl, OldK.of_keep fun b o e => ?_, os, bare⟩
      cases q : H b with
      | none => exact un.keep b o e q (by intro z; cases z) (by intro z; cases z)
      | some u =>
        obtain ⟨rfl, _, rfl⟩ := hH b u q
        rw [ha] at e
        cases e
        exact (hok' b _ (sm _ _ q)).1
    | .ok .next, z => exact z.elim
    | .ok .brk, z => exact z.elim
    | .ok .cont, z => exact z.elim
    | .error _, z => exact z.elim
  cases hk : K.lookup a with
  | none =>
    refine go (fun b => if b = a then some (.frz { cls := .type "list", data := .seq vs.toArray } (.lst (ns.map V.int))) else none) (fun b u e => ?_) (.inl (.inr ⟨_, if_pos rfl⟩))
    by_cases hba : b = a
    · have e' := (if_pos hba).symm.trans e
      exact ⟨hba, hk, (Option.some.inj e').symm⟩
    · exact absurd ((if_neg hba).symm.trans e) (by simp)
  | some o =>
    have e := (KX a o hk).symm.trans ha
    cases e
    exact go (fun _ => none) (fun b u e => by cases e) (.inr ⟨_, vs.toArray, _, hk, rfl, rfl, rfl, by rw [List.size_toArray, hi.length]; exact hl, by simpa using vals_ints hi⟩)
theorem walk_ofX {l : PySem.W.OpenLaw} {n k : Nat} {q : Program} {loose : List Str} {XP : (Str → Option Value) → Heap → Prop} {YP : World → Heap → Prop} {d : DefRec} {x : Str} {sp : PySem.W.Frag → Sp} (hn : l.most = some n) (hn2 : n ≤ sizeLine)
    (hdf : d.params.defaults = []) (hr : Room k callerA)
    (F : ∀ (w : World) (mg : Str → Option Value) (fa : Addr) (h : Heap), YP w h → h.Ns mainGlobals mg → mg d.name = some (.ref fa) → ∃ (K : PySem.W.Frag) (fd : FuncData), K.In h ∧
      (∀ (s : Shared) (u : Value), BindsTo s fd ⟨[u], []⟩ [(x, u)]) ∧ ∀ base : Heap, K.In base → base.Ns mainGlobals mg → FnG l.prog w K mg base k fa fd [x] (sp K))
    (hsp : ∀ (K : PySem.W.Frag) (H : Hp) (a : Addr) (ns : List Int), ns.length ≤ n → Only H → SqL K H a (ns.map V.int) → sp K [.ref a] H (fun v H' => v = .bl true ∧ Same H H') fun _ _ _ => False) :
    PySem.W.WalkO q loose XP YP l.row.toRowW d [] (fun f vs => PySem.call f vs) := by
  refine Att.attach_call hn hdf fun w s₀ s₁ mg mb fa o pm cd doc a vs ns G Y ho hd hcd hmg hobj hints hlen hg => ?_
  obtain ⟨K, fd, KX, hb, hF⟩ := F w mg fa _ Y G.T.g hmg
  exact run_law KX G.T.g G.T.b G.T.builtins G.T.nolimit hg hobj hints (Nat.le_trans hlen hn2) hr hF hb fun H hO hS => hsp K H a ns hlen hO hS
end DL
/-! law k11: what the top leaves, and what follows from it -/
namespace K11
open PySem PySem.Spec PyProof.Rows L2 DL
/-! ### own classes -/
theorem zip1x {f g : Str} {y v : V} (h : ([f].zip [y]).lookup g = some v) : g = f ∧ v = y := by
  have h : (match g == f with | true => some y | false => none) = some v := h
  cases e : g == f with
  | true => rw [e] at h; exact ⟨beq_iff_eq.mp e, (Option.some.inj h).symm⟩
  | false => rw [e] at h; cases h
theorem iniX {P : Program} {w : World} {K : PySem.W.Frag} {mg : Str → Option Value} {base : Heap} {C fI : Addr} {fd : FuncData} {st : Stmt} {qual f : Str} (df : (f == ("__debug__" : Str)) = false) (dcf : (f == ("__classdict__" : Str)) = false) (F : Fun K "__init__" qual st fI fd)
    (S : FnScope [("self" : Str), f] [("self" : Str), f] (defScope st)) (hb : ∃ q1 q2 q3 q4, defBody st = [.Assign [.Attribute (.Name "self" q1) f q2] (.Name f q3) q4]) (T : OexG K C) (no : PySem.W.findIn K (.ref C) f = some none) :
    FnOk P w K mg base CX0 1 fI fd [("self" : Str), f] (spIniX C [f]) := by
  obtain ⟨q1, q2, q3, q4, hb⟩ := hb
  refine F.ok S (fun vs H Q E h => ?_) (fun cdv A outer s H vs Q E hr h => ?_)
  · obtain ⟨a, ys, rfl, hl, _⟩ := h
    exact congrArg Nat.succ hl
  · obtain ⟨a, ys, rfl, hl, ha, k⟩ := h
    obtain ⟨y, rfl⟩ : ∃ y, ys = [y] := by
      match ys, hl with
      | [y], _ => exact ⟨y, rfl⟩
    rw [hb]
    refine ⟨_, pss_one (ps_ostG (pe_var (i := 0) rfl (vis_par S List.mem_cons_self)) (pe_var (i := 1) rfl (vis_par S (List.mem_cons_of_mem _ List.mem_cons_self)) (hd := df) (hcd := dcf))), ?_⟩
    refine ⟨y, rfl, .ref a, rfl, a, C, rfl, T, no, .inl ⟨ha, fun dx nd ne => ?_⟩⟩
    refine k dx [(f, y)] _ nd ne (fun b o hb e => ?_) upd_same (by rw [upd_ne ne, upd_same]) fun g v e => ?_
    · rw [upd_ne hb, upd_ne (ne_of_none e nd)]
      exact e
    · obtain ⟨rfl, rfl⟩ := zip1x e
      show (match g == g with | true => some v | false => _) = _
      rw [beq_self_eq_true]
def bmVE : List Value := [.type "ValueError", .type "Exception", .type "BaseException", .type "object"]
/-- what is asked of a class of errors in the written part -/
def clsOk (K : PySem.W.Frag) (x f : Str) : Bool :=
  He.eqO (PySem.W.nsIn K mainGlobals x) (some (some (.ref (He.ga K x)))) && (PySem.W.excInitIn K (He.ga K x) bmVE "ValueError.__new__" && (PySem.W.excOver K (He.ga K x) bmVE &&
  (He.eqO (PySem.W.findIn K (.ref (He.ga K x)) "__setattr__") (some (some (.builtin "object.__setattr__"))) && (decide (PySem.W.subIn K (.ref (He.ga K x)) (.type "BaseException") = some true) && (PySem.W.keepIn K (.ref (He.ga K x)) &&
  (He.eqO (PySem.W.findIn K (.ref (He.ga K x)) "__getattribute__") (some (some (.builtin "BaseException.__getattribute__"))) && (He.eqO (PySem.W.findIn K (.ref (He.ga K x)) "__getattr__") (some none) && (PySem.W.hasDictIn K (He.ga K x) &&
  (He.eqO (PySem.W.findIn K (.ref (He.ga K x)) "__class__") (some (some (.builtin "object.__class__"))) && (decide (PySem.W.mroIn K (He.ga K x) (.type "object") = some true) && (He.eqO (PySem.W.findIn K (.ref (He.ga K x)) f) (some none) &&
  (He.eqO (PySem.W.findIn K (.ref (He.ga K x)) "__init__") (some (some (.ref (He.ma K (He.ga K x) "__init__")))) && (decide (PySem.W.typeIn K (.ref (He.ma K (He.ga K x) "__init__")) = some (.type "function")) && (decide (PySem.W.typeIn K (.ref (He.ga K x)) = some (.type "type")) &&
  decide (PySem.W.kitOne K (.ref (He.ga K x)) (.ref (He.ga K "LinkError")) = some true)))))))))))))))
structure ClsS (K : PySem.W.Frag) (x f : Str) : Prop where
  at_ : PySem.W.nsIn K mainGlobals x = some (some (.ref (He.ga K x)))
  T : OexG K (He.ga K x)
  nf : PySem.W.findIn K (.ref (He.ga K x)) f = some none
  iC : PySem.W.findIn K (.ref (He.ga K x)) "__init__" = some (some (.ref (He.ma K (He.ga K x) "__init__")))
  tI : PySem.W.typeIn K (.ref (He.ma K (He.ga K x) "__init__")) = some (.type "function")
  tC : PySem.W.typeIn K (.ref (He.ga K x)) = some (.type "type")
  kit : PySem.W.kitOne K (.ref (He.ga K x)) (.ref (He.ga K "LinkError")) = some true
theorem cls_ok {K : PySem.W.Frag} {x f : Str} (h : clsOk K x f = true) : ClsS K x f := by
  obtain ⟨c1, h⟩ := He.ba h
  obtain ⟨b1, h⟩ := He.ba h
  obtain ⟨b2, h⟩ := He.ba h
  obtain ⟨c2, h⟩ := He.ba h
  obtain ⟨c3, h⟩ := He.ba h
  obtain ⟨c4, h⟩ := He.ba h
  obtain ⟨c5, h⟩ := He.ba h
  obtain ⟨c6, h⟩ := He.ba h
  obtain ⟨c7, h⟩ := He.ba h
  obtain ⟨c8, h⟩ := He.ba h
  obtain ⟨c9, h⟩ := He.ba h
  obtain ⟨c10, h⟩ := He.ba h
  obtain ⟨c11, h⟩ := He.ba h
  obtain ⟨c12, h⟩ := He.ba h
  obtain ⟨c13, c14⟩ := He.ba h
  exact ⟨He.eqO_ok c1, ⟨⟨"ValueError", "ValueError.__new__", _, bmVE, F.excBase_ValueError, F.store_ValueError, b1, b2⟩, He.eqO_ok c2, of_decide_eq_true c3, c4, He.eqO_ok c5, He.eqO_ok c6, c7, He.eqO_ok c8, of_decide_eq_true c9⟩, He.eqO_ok c10, He.eqO_ok c11, of_decide_eq_true c12, of_decide_eq_true c13, of_decide_eq_true c14⟩
/-! ### the defs -/
def dOf (x : Str) (st : Stmt) : He.DefD := ⟨(x, none), x, x, defArgs st, defBody st, defScope st, [], []⟩
def iOf (x q : Str) (st : Stmt) : He.DefD := ⟨(x, some "__init__"), "__init__", q, defArgs st, defBody st, defScope st, [], []⟩
def defs : List He.DefD := [
  iOf "InvalidVersion" "InvalidVersion.__init__" (inClass (top 2) 0),
  iOf "InvalidPath" "InvalidPath.__init__" (inClass (top 3) 0),
  iOf "InvalidText" "InvalidText.__init__" (inClass (top 4) 0),
  dOf "is_integer" (top 10),
  dOf "is_count" (top 11),
  dOf "is_name" (top 12),
  dOf "is_version" (top 13),
  dOf "is_label" (top 14),
  dOf "is_path" (top 15),
  dOf "version_text" (top 16),
  dOf "label_text" (top 17),
  dOf "path_text" (top 18),
  dOf "count_in" (top 19),
  dOf "version_in" (top 20),
  dOf "label_in" (top 21),
  dOf "path_in" (top 22),
  dOf "read_version" (top 23),
  dOf "read_path" (top 24),
  dOf "_law_rng" (top 26),
  dOf "_law_draw" (top 27),
  dOf "_law_choice" (top 28),
  dOf "_law_is_word" (top 29),
  dOf "_law_is_number" (top 30),
  dOf "_law_is_pair" (top 31),
  dOf "_law_judged" (top 32),
  dOf "_law_number" (top 33),
  dOf "_law_label_drawn" (top 34),
  dOf "_law_thing" (top 35),
  dOf "_law_odd" (top 36),
  dOf "_law_spoilt" (top 37),
  dOf "_law_label_text" (top 38),
  dOf "_law_text" (top 39),
  dOf "_law_number_of" (top 40),
  dOf "_law_label_of" (top 41),
  dOf "_law_read" (top 42),
  dOf "_law_asked" (top 43),
  dOf "_law_told" (top 44),
  dOf "_law_thing_right" (top 45),
  dOf "_law_text_right" (top 46),
  dOf "_law_bent" (top 47),
  dOf "_law_right" (top 48),
  dOf "law" (top 49)]
def gloN : List Str := [("is_integer" : Str), ("is_count" : Str), ("is_name" : Str), ("is_version" : Str), ("is_label" : Str), ("is_path" : Str), ("version_text" : Str), ("label_text" : Str), ("path_text" : Str), ("count_in" : Str), ("version_in" : Str), ("label_in" : Str)] ++ ([("path_in" : Str), ("read_version" : Str), ("read_path" : Str), ("_law_rng" : Str), ("_law_draw" : Str), ("_law_choice" : Str), ("_law_is_word" : Str), ("_law_is_number" : Str), ("_law_is_pair" : Str), ("_law_judged" : Str), ("_law_number" : Str), ("_law_label_drawn" : Str)] ++ ([("_law_thing" : Str), ("_law_odd" : Str), ("_law_spoilt" : Str), ("_law_label_text" : Str), ("_law_text" : Str), ("_law_number_of" : Str), ("_law_label_of" : Str), ("_law_read" : Str), ("_law_asked" : Str), ("_law_told" : Str), ("_law_thing_right" : Str), ("_law_text_right" : Str)] ++ ([("_law_bent" : Str), ("_law_right" : Str), ("law" : Str), ("LinkError" : Str)])))
def cns : List He.Fa := [.int "MOST_LETTERS" 8, .int "MOST_LABELS" 10, .str "DIGITS" "0123456789", .str "MAIN_TEXT" "-"]
def sysOk (K : PySem.W.Frag) : Bool := match K.lookup sysModules with
  | some o => decide (o.cls = .type "dict")
  | none => false
def exF (K : PySem.W.Frag) (x y : Str) (b : Bool) : Bool := decide (PySem.W.exmOne K (.ref (He.ga K x)) (.ref (He.ga K y)) = some b)
def exAll (K : PySem.W.Frag) : Bool := exF K "InvalidVersion" "InvalidVersion" true && (exF K "InvalidPath" "InvalidVersion" false && (exF K "InvalidPath" "InvalidPath" true && (exF K "InvalidText" "InvalidVersion" false && (exF K "InvalidText" "InvalidPath" false && exF K "InvalidText" "InvalidText" true))))
def allOk (K : PySem.W.Frag) : Bool := clsOk K "InvalidVersion" "value" && (clsOk K "InvalidPath" "value" && (clsOk K "InvalidText" "line" && (exAll K && ((defs.all fun d => d.ok K) && ((bltNames.all fun x => He.eqO (PySem.W.nsIn K mainGlobals x) (some none)) &&
  ((gloN.all fun x => He.eqO (PySem.W.nsIn K mainGlobals x) (some (some (.ref (He.ga K x))))) && ((cns.all fun c => c.ok K) && (decide (He.ga K "_law_is_number" ≠ He.ga K "_law_is_word") &&
  (He.eqO (PySem.W.specialIn K (.builtin "object.__class__") "__get__") (some (some (.builtin "getset_descriptor.__get__"))) && (decide (PySem.W.takesIn K (.builtin "object.__class__") = some true) && sysOk K))))))))))
theorem toFun {K : PySem.W.Frag} {x q : Str} {st : Stmt} {f : Addr} {fd : FuncData} (F : FunD K x q (defArgs st) (defBody st) (defScope st) [] [] f fd) : Fun K x q st f fd := by
  obtain ⟨oc, od, dV, kV, doc, pm, an, cdv, ct, osl, rfl, lk, hcd, hD, _⟩ := F.ex
  rcases hD with ⟨_, rfl⟩ | ⟨n, _⟩
  · exact ⟨⟨oc, od, kV, doc, pm, an, cdv, ct, osl, rfl, lk, hcd⟩, F.kp⟩
  · exact absurd rfl n
theorem funOf {K : PySem.W.Frag} (e : (defs.map fun d => He.fnW K d.at_) = defs.map He.DefD.val) (c : (defs.all fun d => d.ok K) = true) {d : He.DefD} (m : d ∈ defs) : ∃ fd, FunD K d.name d.qual d.params d.body d.scope (d.dvs K) (d.kws K) (He.fAd K d.at_) fd :=
  He.DefD.funD (List.map_inj_left.mp e d m) (List.all_eq_true.mp c d m)
section
variable {P : Program} {w : World} {K : PySem.W.Frag} {mg : Str → Option Value} {base h : Heap}
theorem raCls {x f q : Str} {st : Stmt} {fd : FuncData} (X : K.In h) (G : h.Ns mainGlobals mg) (S : ClsS K x f) (F : Fun K "__init__" q st (He.ma K (He.ga K x) "__init__") fd) (df : (f == ("__debug__" : Str)) = false) (dcf : (f == ("__classdict__" : Str)) = false)
    (sc : FnScope [("self" : Str), f] [("self" : Str), f] (defScope st)) (hb : ∃ q1 q2 q3 q4, defBody st = [.Assign [.Attribute (.Name "self" q1) f q2] (.Name f q3) q4]) (bb : ∀ (s : Shared) (us : List Value), us.length = 2 → BindsTo s fd ⟨us, []⟩ ([("self" : Str), f].zip us)) :
    RaCls P w K mg base x (He.ga K x) [f] := ⟨S.T, PySem.W.mg_of X G S.at_, S.tC, _, fd, S.iC, S.tI, iniX df dcf F sc hb S.T S.nf, bb⟩
theorem heldA {fw fn : Addr} {ps qs : List Str} (Ow : Own P w K mg base 1 "_law_is_word" ps (WB nameD)) (On : Own P w K mg base 1 "_law_is_number" qs (WB countD)) (mw : mg "_law_is_word" = some (.ref fw)) (mn : mg "_law_is_number" = some (.ref fn)) :
    ∀ f W, two fw fn f = some W → HeldD P w K mg base 1 f W := fun f W hW => by
  unfold two at hW
  split at hW
  · rename_i e
    cases hW
    obtain ⟨f', fd, F, hm, hk, hb, _⟩ := Ow.ex
    rw [mw] at hm
    cases hm
    rw [e]
    exact ⟨fd, ps, F, hk, hb⟩
  · split at hW
    · rename_i e
      cases hW
      obtain ⟨f', fd, F, hm, hk, hb, _⟩ := On.ex
      rw [mn] at hm
      cases hm
      rw [e]
      exact ⟨fd, qs, F, hk, hb⟩
    · cases hW
/-- every def as the top has left it -/
structure Tops (K : PySem.W.Frag) (mg : Str → Option Value) : Prop where
  d_is_integer : DefAt K mg "is_integer" (top 10) ["value"]
  d_is_count : DefAt K mg "is_count" (top 11) ["value"]
  d_is_name : DefAt K mg "is_name" (top 12) ["value"]
  d_is_version : DefAt K mg "is_version" (top 13) ["value"]
  d_is_label : DefAt K mg "is_label" (top 14) ["value"]
  d_is_path : DefAt K mg "is_path" (top 15) ["value"]
  d_version_text : DefAt K mg "version_text" (top 16) ["version"]
  d_label_text : DefAt K mg "label_text" (top 17) ["label"]
  d_path_text : DefAt K mg "path_text" (top 18) ["path"]
  d_count_in : DefAt K mg "count_in" (top 19) ["text"]
  d_version_in : DefAt K mg "version_in" (top 20) ["text"]
  d_label_in : DefAt K mg "label_in" (top 21) ["text"]
  d_path_in : DefAt K mg "path_in" (top 22) ["text"]
  d_read_version : DefAt K mg "read_version" (top 23) ["text"]
  d_read_path : DefAt K mg "read_path" (top 24) ["text"]
  d__law_rng : DefAt K mg "_law_rng" (top 26) ["_law_script", "_law_k"]
  d__law_draw : DefAt K mg "_law_draw" (top 27) ["_law_rng_here", "_law_many"]
  d__law_choice : DefAt K mg "_law_choice" (top 28) ["_law_rng_here", "_law_some"]
  d__law_is_word : DefAt K mg "_law_is_word" (top 29) ["_law_thing_here"]
  d__law_is_number : DefAt K mg "_law_is_number" (top 30) ["_law_thing_here"]
  d__law_is_pair : DefAt K mg "_law_is_pair" (top 31) ["_law_thing_here", "_law_is_right"]
  d__law_judged : DefAt K mg "_law_judged" (top 32) ["_law_thing_here"]
  d__law_number : DefAt K mg "_law_number" (top 33) ["_law_rng_here"]
  d__law_label_drawn : DefAt K mg "_law_label_drawn" (top 34) ["_law_rng_here"]
  d__law_thing : DefAt K mg "_law_thing" (top 35) ["_law_rng_here"]
  d__law_odd : DefAt K mg "_law_odd" (top 36) ["_law_rng_here"]
  d__law_spoilt : DefAt K mg "_law_spoilt" (top 37) ["_law_rng_here", "_law_thing_here"]
  d__law_label_text : DefAt K mg "_law_label_text" (top 38) ["_law_label"]
  d__law_text : DefAt K mg "_law_text" (top 39) ["_law_way", "_law_thing_here"]
  d__law_number_of : DefAt K mg "_law_number_of" (top 40) ["_law_word"]
  d__law_label_of : DefAt K mg "_law_label_of" (top 41) ["_law_word"]
  d__law_read : DefAt K mg "_law_read" (top 42) ["_law_way", "_law_written"]
  d__law_asked : DefAt K mg "_law_asked" (top 43) ["_law_way", "_law_thing_here", "_law_by_name"]
  d__law_told : DefAt K mg "_law_told" (top 44) ["_law_way", "_law_thing_here", "_law_by_name"]
  d__law_thing_right : DefAt K mg "_law_thing_right" (top 45) ["_law_thing_here"]
  d__law_text_right : DefAt K mg "_law_text_right" (top 46) ["_law_written"]
  d__law_bent : DefAt K mg "_law_bent" (top 47) ["_law_rng_here", "_law_written"]
  d__law_right : DefAt K mg "_law_right" (top 48) ["_law_rng_here"]
  d_law : DefAt K mg "law" (top 49) ["_law_script"]
theorem tops_ok (X : K.In h) (G : h.Ns mainGlobals mg) (e : (defs.map fun d => He.fnW K d.at_) = defs.map He.DefD.val) (c : (defs.all fun d => d.ok K) = true) (glo : ∀ x, x ∈ gloN → mg x = some (.ref (He.ga K x))) : Tops K mg := by
  constructor
  · obtain ⟨fd, F⟩ := funOf e c (d := dOf "is_integer" (top 10)) (List.mem_of_getElem? (i := 3) rfl)
    have F : Fun K "is_integer" "is_integer" (top 10) (He.fAd K ("is_integer", none)) fd := toFun (st := top 10) F
    have b := F.binds (ps := ["value"]) fun _ _ _ _ _ _ us hl => match us, hl with | [_], _ => rfl
    refine ⟨_, fd, F, glo "is_integer" (List.mem_of_getElem? (i := 0) rfl), F.kp, b, ?_⟩
    obtain ⟨oc, od, kV, doc, pm, an, cdv, ct, osl, rfl, lk, hcd⟩ := F.ex
    exact fun s us hl => match us, hl with | [_], _ => .of_eq rfl
  · obtain ⟨fd, F⟩ := funOf e c (d := dOf "is_count" (top 11)) (List.mem_of_getElem? (i := 4) rfl)
    have F : Fun K "is_count" "is_count" (top 11) (He.fAd K ("is_count", none)) fd := toFun (st := top 11) F
    have b := F.binds (ps := ["value"]) fun _ _ _ _ _ _ us hl => match us, hl with | [_], _ => rfl
    refine ⟨_, fd, F, glo "is_count" (List.mem_of_getElem? (i := 1) rfl), F.kp, b, ?_⟩
    obtain ⟨oc, od, kV, doc, pm, an, cdv, ct, osl, rfl, lk, hcd⟩ := F.ex
    exact fun s us hl => match us, hl with | [_], _ => .of_eq rfl
  · obtain ⟨fd, F⟩ := funOf e c (d := dOf "is_name" (top 12)) (List.mem_of_getElem? (i := 5) rfl)
    have F : Fun K "is_name" "is_name" (top 12) (He.fAd K ("is_name", none)) fd := toFun (st := top 12) F
    have b := F.binds (ps := ["value"]) fun _ _ _ _ _ _ us hl => match us, hl with | [_], _ => rfl
    refine ⟨_, fd, F, glo "is_name" (List.mem_of_getElem? (i := 2) rfl), F.kp, b, ?_⟩
    obtain ⟨oc, od, kV, doc, pm, an, cdv, ct, osl, rfl, lk, hcd⟩ := F.ex
    exact fun s us hl => match us, hl with | [_], _ => .of_eq rfl
  · obtain ⟨fd, F⟩ := funOf e c (d := dOf "is_version" (top 13)) (List.mem_of_getElem? (i := 6) rfl)
    have F : Fun K "is_version" "is_version" (top 13) (He.fAd K ("is_version", none)) fd := toFun (st := top 13) F
    have b := F.binds (ps := ["value"]) fun _ _ _ _ _ _ us hl => match us, hl with | [_], _ => rfl
    refine ⟨_, fd, F, glo "is_version" (List.mem_of_getElem? (i := 3) rfl), F.kp, b, ?_⟩
    obtain ⟨oc, od, kV, doc, pm, an, cdv, ct, osl, rfl, lk, hcd⟩ := F.ex
    exact fun s us hl => match us, hl with | [_], _ => .of_eq rfl
  · obtain ⟨fd, F⟩ := funOf e c (d := dOf "is_label" (top 14)) (List.mem_of_getElem? (i := 7) rfl)
    have F : Fun K "is_label" "is_label" (top 14) (He.fAd K ("is_label", none)) fd := toFun (st := top 14) F
    have b := F.binds (ps := ["value"]) fun _ _ _ _ _ _ us hl => match us, hl with | [_], _ => rfl
    refine ⟨_, fd, F, glo "is_label" (List.mem_of_getElem? (i := 4) rfl), F.kp, b, ?_⟩
    obtain ⟨oc, od, kV, doc, pm, an, cdv, ct, osl, rfl, lk, hcd⟩ := F.ex
    exact fun s us hl => match us, hl with | [_], _ => .of_eq rfl
  · obtain ⟨fd, F⟩ := funOf e c (d := dOf "is_path" (top 15)) (List.mem_of_getElem? (i := 8) rfl)
    have F : Fun K "is_path" "is_path" (top 15) (He.fAd K ("is_path", none)) fd := toFun (st := top 15) F
    have b := F.binds (ps := ["value"]) fun _ _ _ _ _ _ us hl => match us, hl with | [_], _ => rfl
    refine ⟨_, fd, F, glo "is_path" (List.mem_of_getElem? (i := 5) rfl), F.kp, b, ?_⟩
    obtain ⟨oc, od, kV, doc, pm, an, cdv, ct, osl, rfl, lk, hcd⟩ := F.ex
    exact fun s us hl => match us, hl with | [_], _ => .of_eq rfl
  · obtain ⟨fd, F⟩ := funOf e c (d := dOf "version_text" (top 16)) (List.mem_of_getElem? (i := 9) rfl)
    have F : Fun K "version_text" "version_text" (top 16) (He.fAd K ("version_text", none)) fd := toFun (st := top 16) F
    have b := F.binds (ps := ["version"]) fun _ _ _ _ _ _ us hl => match us, hl with | [_], _ => rfl
    refine ⟨_, fd, F, glo "version_text" (List.mem_of_getElem? (i := 6) rfl), F.kp, b, ?_⟩
    obtain ⟨oc, od, kV, doc, pm, an, cdv, ct, osl, rfl, lk, hcd⟩ := F.ex
    exact fun s us hl => match us, hl with | [_], _ => .of_eq rfl
  · obtain ⟨fd, F⟩ := funOf e c (d := dOf "label_text" (top 17)) (List.mem_of_getElem? (i := 10) rfl)
    have F : Fun K "label_text" "label_text" (top 17) (He.fAd K ("label_text", none)) fd := toFun (st := top 17) F
    have b := F.binds (ps := ["label"]) fun _ _ _ _ _ _ us hl => match us, hl with | [_], _ => rfl
    refine ⟨_, fd, F, glo "label_text" (List.mem_of_getElem? (i := 7) rfl), F.kp, b, ?_⟩
    obtain ⟨oc, od, kV, doc, pm, an, cdv, ct, osl, rfl, lk, hcd⟩ := F.ex
    exact fun s us hl => match us, hl with | [_], _ => .of_eq rfl
  · obtain ⟨fd, F⟩ := funOf e c (d := dOf "path_text" (top 18)) (List.mem_of_getElem? (i := 11) rfl)
    have F : Fun K "path_text" "path_text" (top 18) (He.fAd K ("path_text", none)) fd := toFun (st := top 18) F
    have b := F.binds (ps := ["path"]) fun _ _ _ _ _ _ us hl => match us, hl with | [_], _ => rfl
    refine ⟨_, fd, F, glo "path_text" (List.mem_of_getElem? (i := 8) rfl), F.kp, b, ?_⟩
    obtain ⟨oc, od, kV, doc, pm, an, cdv, ct, osl, rfl, lk, hcd⟩ := F.ex
    exact fun s us hl => match us, hl with | [_], _ => .of_eq rfl
  · obtain ⟨fd, F⟩ := funOf e c (d := dOf "count_in" (top 19)) (List.mem_of_getElem? (i := 12) rfl)
    have F : Fun K "count_in" "count_in" (top 19) (He.fAd K ("count_in", none)) fd := toFun (st := top 19) F
    have b := F.binds (ps := ["text"]) fun _ _ _ _ _ _ us hl => match us, hl with | [_], _ => rfl
    refine ⟨_, fd, F, glo "count_in" (List.mem_of_getElem? (i := 9) rfl), F.kp, b, ?_⟩
    obtain ⟨oc, od, kV, doc, pm, an, cdv, ct, osl, rfl, lk, hcd⟩ := F.ex
    exact fun s us hl => match us, hl with | [_], _ => .of_eq rfl
  · obtain ⟨fd, F⟩ := funOf e c (d := dOf "version_in" (top 20)) (List.mem_of_getElem? (i := 13) rfl)
    have F : Fun K "version_in" "version_in" (top 20) (He.fAd K ("version_in", none)) fd := toFun (st := top 20) F
    have b := F.binds (ps := ["text"]) fun _ _ _ _ _ _ us hl => match us, hl with | [_], _ => rfl
    refine ⟨_, fd, F, glo "version_in" (List.mem_of_getElem? (i := 10) rfl), F.kp, b, ?_⟩
    obtain ⟨oc, od, kV, doc, pm, an, cdv, ct, osl, rfl, lk, hcd⟩ := F.ex
    exact fun s us hl => match us, hl with | [_], _ => .of_eq rfl
  · obtain ⟨fd, F⟩ := funOf e c (d := dOf "label_in" (top 21)) (List.mem_of_getElem? (i := 14) rfl)
    have F : Fun K "label_in" "label_in" (top 21) (He.fAd K ("label_in", none)) fd := toFun (st := top 21) F
    have b := F.binds (ps := ["text"]) fun _ _ _ _ _ _ us hl => match us, hl with | [_], _ => rfl
    refine ⟨_, fd, F, glo "label_in" (List.mem_of_getElem? (i := 11) rfl), F.kp, b, ?_⟩
    obtain ⟨oc, od, kV, doc, pm, an, cdv, ct, osl, rfl, lk, hcd⟩ := F.ex
    exact fun s us hl => match us, hl with | [_], _ => .of_eq rfl
  · obtain ⟨fd, F⟩ := funOf e c (d := dOf "path_in" (top 22)) (List.mem_of_getElem? (i := 15) rfl)
    have F : Fun K "path_in" "path_in" (top 22) (He.fAd K ("path_in", none)) fd := toFun (st := top 22) F
    have b := F.binds (ps := ["text"]) fun _ _ _ _ _ _ us hl => match us, hl with | [_], _ => rfl
    refine ⟨_, fd, F, glo "path_in" (List.mem_of_getElem? (i := 12) rfl), F.kp, b, ?_⟩
    obtain ⟨oc, od, kV, doc, pm, an, cdv, ct, osl, rfl, lk, hcd⟩ := F.ex
    exact fun s us hl => match us, hl with | [_], _ => .of_eq rfl
  · obtain ⟨fd, F⟩ := funOf e c (d := dOf "read_version" (top 23)) (List.mem_of_getElem? (i := 16) rfl)
    have F : Fun K "read_version" "read_version" (top 23) (He.fAd K ("read_version", none)) fd := toFun (st := top 23) F
    have b := F.binds (ps := ["text"]) fun _ _ _ _ _ _ us hl => match us, hl with | [_], _ => rfl
    refine ⟨_, fd, F, glo "read_version" (List.mem_of_getElem? (i := 13) rfl), F.kp, b, ?_⟩
    obtain ⟨oc, od, kV, doc, pm, an, cdv, ct, osl, rfl, lk, hcd⟩ := F.ex
    exact fun s us hl => match us, hl with | [_], _ => .of_eq rfl
  · obtain ⟨fd, F⟩ := funOf e c (d := dOf "read_path" (top 24)) (List.mem_of_getElem? (i := 17) rfl)
    have F : Fun K "read_path" "read_path" (top 24) (He.fAd K ("read_path", none)) fd := toFun (st := top 24) F
    have b := F.binds (ps := ["text"]) fun _ _ _ _ _ _ us hl => match us, hl with | [_], _ => rfl
    refine ⟨_, fd, F, glo "read_path" (List.mem_of_getElem? (i := 14) rfl), F.kp, b, ?_⟩
    obtain ⟨oc, od, kV, doc, pm, an, cdv, ct, osl, rfl, lk, hcd⟩ := F.ex
    exact fun s us hl => match us, hl with | [_], _ => .of_eq rfl
  · obtain ⟨fd, F⟩ := funOf e c (d := dOf "_law_rng" (top 26)) (List.mem_of_getElem? (i := 18) rfl)
    have F : Fun K "_law_rng" "_law_rng" (top 26) (He.fAd K ("_law_rng", none)) fd := toFun (st := top 26) F
    have b := F.binds (ps := ["_law_script", "_law_k"]) fun _ _ _ _ _ _ us hl => match us, hl with | [_, _], _ => rfl
    refine ⟨_, fd, F, glo "_law_rng" (List.mem_of_getElem? (i := 15) rfl), F.kp, b, ?_⟩
    obtain ⟨oc, od, kV, doc, pm, an, cdv, ct, osl, rfl, lk, hcd⟩ := F.ex
    exact fun s us hl => match us, hl with | [_, _], _ => .of_eq rfl
  · obtain ⟨fd, F⟩ := funOf e c (d := dOf "_law_draw" (top 27)) (List.mem_of_getElem? (i := 19) rfl)
    have F : Fun K "_law_draw" "_law_draw" (top 27) (He.fAd K ("_law_draw", none)) fd := toFun (st := top 27) F
    have b := F.binds (ps := ["_law_rng_here", "_law_many"]) fun _ _ _ _ _ _ us hl => match us, hl with | [_, _], _ => rfl
    refine ⟨_, fd, F, glo "_law_draw" (List.mem_of_getElem? (i := 16) rfl), F.kp, b, ?_⟩
    obtain ⟨oc, od, kV, doc, pm, an, cdv, ct, osl, rfl, lk, hcd⟩ := F.ex
    exact fun s us hl => match us, hl with | [_, _], _ => .of_eq rfl
  · obtain ⟨fd, F⟩ := funOf e c (d := dOf "_law_choice" (top 28)) (List.mem_of_getElem? (i := 20) rfl)
    have F : Fun K "_law_choice" "_law_choice" (top 28) (He.fAd K ("_law_choice", none)) fd := toFun (st := top 28) F
    have b := F.binds (ps := ["_law_rng_here", "_law_some"]) fun _ _ _ _ _ _ us hl => match us, hl with | [_, _], _ => rfl
    refine ⟨_, fd, F, glo "_law_choice" (List.mem_of_getElem? (i := 17) rfl), F.kp, b, ?_⟩
    obtain ⟨oc, od, kV, doc, pm, an, cdv, ct, osl, rfl, lk, hcd⟩ := F.ex
    exact fun s us hl => match us, hl with | [_, _], _ => .of_eq rfl
  · obtain ⟨fd, F⟩ := funOf e c (d := dOf "_law_is_word" (top 29)) (List.mem_of_getElem? (i := 21) rfl)
    have F : Fun K "_law_is_word" "_law_is_word" (top 29) (He.fAd K ("_law_is_word", none)) fd := toFun (st := top 29) F
    have b := F.binds (ps := ["_law_thing_here"]) fun _ _ _ _ _ _ us hl => match us, hl with | [_], _ => rfl
    refine ⟨_, fd, F, glo "_law_is_word" (List.mem_of_getElem? (i := 18) rfl), F.kp, b, ?_⟩
    obtain ⟨oc, od, kV, doc, pm, an, cdv, ct, osl, rfl, lk, hcd⟩ := F.ex
    exact fun s us hl => match us, hl with | [_], _ => .of_eq rfl
  · obtain ⟨fd, F⟩ := funOf e c (d := dOf "_law_is_number" (top 30)) (List.mem_of_getElem? (i := 22) rfl)
    have F : Fun K "_law_is_number" "_law_is_number" (top 30) (He.fAd K ("_law_is_number", none)) fd := toFun (st := top 30) F
    have b := F.binds (ps := ["_law_thing_here"]) fun _ _ _ _ _ _ us hl => match us, hl with | [_], _ => rfl
    refine ⟨_, fd, F, glo "_law_is_number" (List.mem_of_getElem? (i := 19) rfl), F.kp, b, ?_⟩
    obtain ⟨oc, od, kV, doc, pm, an, cdv, ct, osl, rfl, lk, hcd⟩ := F.ex
    exact fun s us hl => match us, hl with | [_], _ => .of_eq rfl
  · obtain ⟨fd, F⟩ := funOf e c (d := dOf "_law_is_pair" (top 31)) (List.mem_of_getElem? (i := 23) rfl)
    have F : Fun K "_law_is_pair" "_law_is_pair" (top 31) (He.fAd K ("_law_is_pair", none)) fd := toFun (st := top 31) F
    have b := F.binds (ps := ["_law_thing_here", "_law_is_right"]) fun _ _ _ _ _ _ us hl => match us, hl with | [_, _], _ => rfl
    refine ⟨_, fd, F, glo "_law_is_pair" (List.mem_of_getElem? (i := 20) rfl), F.kp, b, ?_⟩
    obtain ⟨oc, od, kV, doc, pm, an, cdv, ct, osl, rfl, lk, hcd⟩ := F.ex
    exact fun s us hl => match us, hl with | [_, _], _ => .of_eq rfl
  · obtain ⟨fd, F⟩ := funOf e c (d := dOf "_law_judged" (top 32)) (List.mem_of_getElem? (i := 24) rfl)
    have F : Fun K "_law_judged" "_law_judged" (top 32) (He.fAd K ("_law_judged", none)) fd := toFun (st := top 32) F
    have b := F.binds (ps := ["_law_thing_here"]) fun _ _ _ _ _ _ us hl => match us, hl with | [_], _ => rfl
    refine ⟨_, fd, F, glo "_law_judged" (List.mem_of_getElem? (i := 21) rfl), F.kp, b, ?_⟩
    obtain ⟨oc, od, kV, doc, pm, an, cdv, ct, osl, rfl, lk, hcd⟩ := F.ex
    exact fun s us hl => match us, hl with | [_], _ => .of_eq rfl
  · obtain ⟨fd, F⟩ := funOf e c (d := dOf "_law_number" (top 33)) (List.mem_of_getElem? (i := 25) rfl)
    have F : Fun K "_law_number" "_law_number" (top 33) (He.fAd K ("_law_number", none)) fd := toFun (st := top 33) F
    have b := F.binds (ps := ["_law_rng_here"]) fun _ _ _ _ _ _ us hl => match us, hl with | [_], _ => rfl
    refine ⟨_, fd, F, glo "_law_number" (List.mem_of_getElem? (i := 22) rfl), F.kp, b, ?_⟩
    obtain ⟨oc, od, kV, doc, pm, an, cdv, ct, osl, rfl, lk, hcd⟩ := F.ex
    exact fun s us hl => match us, hl with | [_], _ => .of_eq rfl
  · obtain ⟨fd, F⟩ := funOf e c (d := dOf "_law_label_drawn" (top 34)) (List.mem_of_getElem? (i := 26) rfl)
    have F : Fun K "_law_label_drawn" "_law_label_drawn" (top 34) (He.fAd K ("_law_label_drawn", none)) fd := toFun (st := top 34) F
    have b := F.binds (ps := ["_law_rng_here"]) fun _ _ _ _ _ _ us hl => match us, hl with | [_], _ => rfl
    refine ⟨_, fd, F, glo "_law_label_drawn" (List.mem_of_getElem? (i := 23) rfl), F.kp, b, ?_⟩
    obtain ⟨oc, od, kV, doc, pm, an, cdv, ct, osl, rfl, lk, hcd⟩ := F.ex
    exact fun s us hl => match us, hl with | [_], _ => .of_eq rfl
  · obtain ⟨fd, F⟩ := funOf e c (d := dOf "_law_thing" (top 35)) (List.mem_of_getElem? (i := 27) rfl)
    have F : Fun K "_law_thing" "_law_thing" (top 35) (He.fAd K ("_law_thing", none)) fd := toFun (st := top 35) F
    have b := F.binds (ps := ["_law_rng_here"]) fun _ _ _ _ _ _ us hl => match us, hl with | [_], _ => rfl
    refine ⟨_, fd, F, glo "_law_thing" (List.mem_of_getElem? (i := 24) rfl), F.kp, b, ?_⟩
    obtain ⟨oc, od, kV, doc, pm, an, cdv, ct, osl, rfl, lk, hcd⟩ := F.ex
    exact fun s us hl => match us, hl with | [_], _ => .of_eq rfl
  · obtain ⟨fd, F⟩ := funOf e c (d := dOf "_law_odd" (top 36)) (List.mem_of_getElem? (i := 28) rfl)
    have F : Fun K "_law_odd" "_law_odd" (top 36) (He.fAd K ("_law_odd", none)) fd := toFun (st := top 36) F
    have b := F.binds (ps := ["_law_rng_here"]) fun _ _ _ _ _ _ us hl => match us, hl with | [_], _ => rfl
    refine ⟨_, fd, F, glo "_law_odd" (List.mem_of_getElem? (i := 25) rfl), F.kp, b, ?_⟩
    obtain ⟨oc, od, kV, doc, pm, an, cdv, ct, osl, rfl, lk, hcd⟩ := F.ex
    exact fun s us hl => match us, hl with | [_], _ => .of_eq rfl
  · obtain ⟨fd, F⟩ := funOf e c (d := dOf "_law_spoilt" (top 37)) (List.mem_of_getElem? (i := 29) rfl)
    have F : Fun K "_law_spoilt" "_law_spoilt" (top 37) (He.fAd K ("_law_spoilt", none)) fd := toFun (st := top 37) F
    have b := F.binds (ps := ["_law_rng_here", "_law_thing_here"]) fun _ _ _ _ _ _ us hl => match us, hl with | [_, _], _ => rfl
    refine ⟨_, fd, F, glo "_law_spoilt" (List.mem_of_getElem? (i := 26) rfl), F.kp, b, ?_⟩
    obtain ⟨oc, od, kV, doc, pm, an, cdv, ct, osl, rfl, lk, hcd⟩ := F.ex
    exact fun s us hl => match us, hl with | [_, _], _ => .of_eq rfl
  · obtain ⟨fd, F⟩ := funOf e c (d := dOf "_law_label_text" (top 38)) (List.mem_of_getElem? (i := 30) rfl)
    have F : Fun K "_law_label_text" "_law_label_text" (top 38) (He.fAd K ("_law_label_text", none)) fd := toFun (st := top 38) F
    have b := F.binds (ps := ["_law_label"]) fun _ _ _ _ _ _ us hl => match us, hl with | [_], _ => rfl
    refine ⟨_, fd, F, glo "_law_label_text" (List.mem_of_getElem? (i := 27) rfl), F.kp, b, ?_⟩
    obtain ⟨oc, od, kV, doc, pm, an, cdv, ct, osl, rfl, lk, hcd⟩ := F.ex
    exact fun s us hl => match us, hl with | [_], _ => .of_eq rfl
  · obtain ⟨fd, F⟩ := funOf e c (d := dOf "_law_text" (top 39)) (List.mem_of_getElem? (i := 31) rfl)
    have F : Fun K "_law_text" "_law_text" (top 39) (He.fAd K ("_law_text", none)) fd := toFun (st := top 39) F
    have b := F.binds (ps := ["_law_way", "_law_thing_here"]) fun _ _ _ _ _ _ us hl => match us, hl with | [_, _], _ => rfl
    refine ⟨_, fd, F, glo "_law_text" (List.mem_of_getElem? (i := 28) rfl), F.kp, b, ?_⟩
    obtain ⟨oc, od, kV, doc, pm, an, cdv, ct, osl, rfl, lk, hcd⟩ := F.ex
    exact fun s us hl => match us, hl with | [_, _], _ => .of_eq rfl
  · obtain ⟨fd, F⟩ := funOf e c (d := dOf "_law_number_of" (top 40)) (List.mem_of_getElem? (i := 32) rfl)
    have F : Fun K "_law_number_of" "_law_number_of" (top 40) (He.fAd K ("_law_number_of", none)) fd := toFun (st := top 40) F
    have b := F.binds (ps := ["_law_word"]) fun _ _ _ _ _ _ us hl => match us, hl with | [_], _ => rfl
    refine ⟨_, fd, F, glo "_law_number_of" (List.mem_of_getElem? (i := 29) rfl), F.kp, b, ?_⟩
    obtain ⟨oc, od, kV, doc, pm, an, cdv, ct, osl, rfl, lk, hcd⟩ := F.ex
    exact fun s us hl => match us, hl with | [_], _ => .of_eq rfl
  · obtain ⟨fd, F⟩ := funOf e c (d := dOf "_law_label_of" (top 41)) (List.mem_of_getElem? (i := 33) rfl)
    have F : Fun K "_law_label_of" "_law_label_of" (top 41) (He.fAd K ("_law_label_of", none)) fd := toFun (st := top 41) F
    have b := F.binds (ps := ["_law_word"]) fun _ _ _ _ _ _ us hl => match us, hl with | [_], _ => rfl
    refine ⟨_, fd, F, glo "_law_label_of" (List.mem_of_getElem? (i := 30) rfl), F.kp, b, ?_⟩
    obtain ⟨oc, od, kV, doc, pm, an, cdv, ct, osl, rfl, lk, hcd⟩ := F.ex
    exact fun s us hl => match us, hl with | [_], _ => .of_eq rfl
  · obtain ⟨fd, F⟩ := funOf e c (d := dOf "_law_read" (top 42)) (List.mem_of_getElem? (i := 34) rfl)
    have F : Fun K "_law_read" "_law_read" (top 42) (He.fAd K ("_law_read", none)) fd := toFun (st := top 42) F
    have b := F.binds (ps := ["_law_way", "_law_written"]) fun _ _ _ _ _ _ us hl => match us, hl with | [_, _], _ => rfl
    refine ⟨_, fd, F, glo "_law_read" (List.mem_of_getElem? (i := 31) rfl), F.kp, b, ?_⟩
    obtain ⟨oc, od, kV, doc, pm, an, cdv, ct, osl, rfl, lk, hcd⟩ := F.ex
    exact fun s us hl => match us, hl with | [_, _], _ => .of_eq rfl
  · obtain ⟨fd, F⟩ := funOf e c (d := dOf "_law_asked" (top 43)) (List.mem_of_getElem? (i := 35) rfl)
    have F : Fun K "_law_asked" "_law_asked" (top 43) (He.fAd K ("_law_asked", none)) fd := toFun (st := top 43) F
    have b := F.binds (ps := ["_law_way", "_law_thing_here", "_law_by_name"]) fun _ _ _ _ _ _ us hl => match us, hl with | [_, _, _], _ => rfl
    refine ⟨_, fd, F, glo "_law_asked" (List.mem_of_getElem? (i := 32) rfl), F.kp, b, ?_⟩
    obtain ⟨oc, od, kV, doc, pm, an, cdv, ct, osl, rfl, lk, hcd⟩ := F.ex
    exact fun s us hl => match us, hl with | [_, _, _], _ => .of_eq rfl
  · obtain ⟨fd, F⟩ := funOf e c (d := dOf "_law_told" (top 44)) (List.mem_of_getElem? (i := 36) rfl)
    have F : Fun K "_law_told" "_law_told" (top 44) (He.fAd K ("_law_told", none)) fd := toFun (st := top 44) F
    have b := F.binds (ps := ["_law_way", "_law_thing_here", "_law_by_name"]) fun _ _ _ _ _ _ us hl => match us, hl with | [_, _, _], _ => rfl
    refine ⟨_, fd, F, glo "_law_told" (List.mem_of_getElem? (i := 33) rfl), F.kp, b, ?_⟩
    obtain ⟨oc, od, kV, doc, pm, an, cdv, ct, osl, rfl, lk, hcd⟩ := F.ex
    exact fun s us hl => match us, hl with | [_, _, _], _ => .of_eq rfl
  · obtain ⟨fd, F⟩ := funOf e c (d := dOf "_law_thing_right" (top 45)) (List.mem_of_getElem? (i := 37) rfl)
    have F : Fun K "_law_thing_right" "_law_thing_right" (top 45) (He.fAd K ("_law_thing_right", none)) fd := toFun (st := top 45) F
    have b := F.binds (ps := ["_law_thing_here"]) fun _ _ _ _ _ _ us hl => match us, hl with | [_], _ => rfl
    refine ⟨_, fd, F, glo "_law_thing_right" (List.mem_of_getElem? (i := 34) rfl), F.kp, b, ?_⟩
    obtain ⟨oc, od, kV, doc, pm, an, cdv, ct, osl, rfl, lk, hcd⟩ := F.ex
    exact fun s us hl => match us, hl with | [_], _ => .of_eq rfl
  · obtain ⟨fd, F⟩ := funOf e c (d := dOf "_law_text_right" (top 46)) (List.mem_of_getElem? (i := 38) rfl)
    have F : Fun K "_law_text_right" "_law_text_right" (top 46) (He.fAd K ("_law_text_right", none)) fd := toFun (st := top 46) F
    have b := F.binds (ps := ["_law_written"]) fun _ _ _ _ _ _ us hl => match us, hl with | [_], _ => rfl
    refine ⟨_, fd, F, glo "_law_text_right" (List.mem_of_getElem? (i := 35) rfl), F.kp, b, ?_⟩
    obtain ⟨oc, od, kV, doc, pm, an, cdv, ct, osl, rfl, lk, hcd⟩ := F.ex
    exact fun s us hl => match us, hl with | [_], _ => .of_eq rfl
  · obtain ⟨fd, F⟩ := funOf e c (d := dOf "_law_bent" (top 47)) (List.mem_of_getElem? (i := 39) rfl)
    have F : Fun K "_law_bent" "_law_bent" (top 47) (He.fAd K ("_law_bent", none)) fd := toFun (st := top 47) F
    have b := F.binds (ps := ["_law_rng_here", "_law_written"]) fun _ _ _ _ _ _ us hl => match us, hl with | [_, _], _ => rfl
    refine ⟨_, fd, F, glo "_law_bent" (List.mem_of_getElem? (i := 36) rfl), F.kp, b, ?_⟩
    obtain ⟨oc, od, kV, doc, pm, an, cdv, ct, osl, rfl, lk, hcd⟩ := F.ex
    exact fun s us hl => match us, hl with | [_, _], _ => .of_eq rfl
  · obtain ⟨fd, F⟩ := funOf e c (d := dOf "_law_right" (top 48)) (List.mem_of_getElem? (i := 40) rfl)
    have F : Fun K "_law_right" "_law_right" (top 48) (He.fAd K ("_law_right", none)) fd := toFun (st := top 48) F
    have b := F.binds (ps := ["_law_rng_here"]) fun _ _ _ _ _ _ us hl => match us, hl with | [_], _ => rfl
    refine ⟨_, fd, F, glo "_law_right" (List.mem_of_getElem? (i := 37) rfl), F.kp, b, ?_⟩
    obtain ⟨oc, od, kV, doc, pm, an, cdv, ct, osl, rfl, lk, hcd⟩ := F.ex
    exact fun s us hl => match us, hl with | [_], _ => .of_eq rfl
  · obtain ⟨fd, F⟩ := funOf e c (d := dOf "law" (top 49)) (List.mem_of_getElem? (i := 41) rfl)
    have F : Fun K "law" "law" (top 49) (He.fAd K ("law", none)) fd := toFun (st := top 49) F
    have b := F.binds (ps := ["_law_script"]) fun _ _ _ _ _ _ us hl => match us, hl with | [_], _ => rfl
    refine ⟨_, fd, F, glo "law" (List.mem_of_getElem? (i := 38) rfl), F.kp, b, ?_⟩
    obtain ⟨oc, od, kV, doc, pm, an, cdv, ct, osl, rfl, lk, hcd⟩ := F.ex
    exact fun s us hl => match us, hl with | [_], _ => .of_eq rfl
end
end K11
/-! law k11: from the top's end to the law's promise -/
namespace K11
open PySem PySem.Spec PyProof.Rows L2 DL
section
variable {P : Program} {w : World} {K : PySem.W.Frag} {mg : Str → Option Value} {base h : Heap}
theorem all_mk {fa : Addr} (X : K.In h) (G : h.Ns mainGlobals mg) (hfa : mg "law" = some (.ref fa)) (e : (defs.map fun d => He.fnW K d.at_) = defs.map He.DefD.val) (ok : allOk K = true) :
    ∃ fd : FuncData, (∀ (s : Shared) (u : Value), BindsTo s fd ⟨[u], []⟩ [("_law_script", u)]) ∧ ∀ base : Heap, K.In base → base.Ns mainGlobals mg → FnG P w K mg base 11 fa fd ["_law_script"] (spLaw K) := by
  obtain ⟨kV, ok⟩ := He.ba ok
  obtain ⟨kP, ok⟩ := He.ba ok
  obtain ⟨kT, ok⟩ := He.ba ok
  obtain ⟨ex, ok⟩ := He.ba ok
  obtain ⟨c, ok⟩ := He.ba ok
  obtain ⟨fr, ok⟩ := He.ba ok
  obtain ⟨gl, ok⟩ := He.ba ok
  obtain ⟨cn, ok⟩ := He.ba ok
  obtain ⟨ne, ok⟩ := He.ba ok
  obtain ⟨g1, ok⟩ := He.ba ok
  obtain ⟨g2, sy⟩ := He.ba ok
  obtain ⟨x1, ex⟩ := He.ba ex
  obtain ⟨x2, ex⟩ := He.ba ex
  obtain ⟨x3, ex⟩ := He.ba ex
  obtain ⟨x4, ex⟩ := He.ba ex
  obtain ⟨x5, x6⟩ := He.ba ex
  have SV := cls_ok kV
  have SP := cls_ok kP
  have ST := cls_ok kT
  have glo : ∀ x, x ∈ gloN → mg x = some (.ref (He.ga K x)) := fun x hx => PySem.W.mg_of X G (He.eqO_ok (List.all_eq_true.mp gl x hx))
  have B : Bl mg := ⟨fun x hx => PySem.W.mg_none_of X G (He.eqO_ok (List.all_eq_true.mp fr x hx))⟩
  have GG : Gc K mg := ⟨He.int_ok X G (List.all_eq_true.mp cn _ (List.mem_of_getElem? (i := 0) rfl)), He.int_ok X G (List.all_eq_true.mp cn _ (List.mem_of_getElem? (i := 1) rfl)), He.str_ok X G (List.all_eq_true.mp cn _ (List.mem_of_getElem? (i := 2) rfl)), He.str_ok X G (List.all_eq_true.mp cn _ (List.mem_of_getElem? (i := 3) rfl))⟩
  have T := tops_ok X G e c glo
  have R : Errs K mg (He.ga K "InvalidVersion") (He.ga K "InvalidPath") (He.ga K "InvalidText") (He.ga K "LinkError") := ⟨PySem.W.mg_of X G SV.at_, PySem.W.mg_of X G SP.at_, PySem.W.mg_of X G ST.at_, glo "LinkError" (List.mem_of_getElem? (i := 39) rfl), SV.T, SP.T, ST.T, SV.nf, SP.nf, ST.nf,
    of_decide_eq_true x1, of_decide_eq_true x2, of_decide_eq_true x3, of_decide_eq_true x4, of_decide_eq_true x5, of_decide_eq_true x6, SV.kit, SP.kit, ST.kit, ⟨He.eqO_ok g1, of_decide_eq_true g2⟩⟩
  obtain ⟨oS, ks, kc⟩ : ∃ o, K.lookup sysModules = some o ∧ o.cls = .type "dict" := by
    unfold sysOk at sy
    split at sy
    · rename_i o ho
      exact ⟨o, ho, of_decide_eq_true sy⟩
    · cases sy
  have RS : K.lookup sysModules = some oS ∧ oS.cls = .type "dict" := ⟨ks, kc⟩
  obtain ⟨fdV, FV⟩ := funOf e c (d := iOf "InvalidVersion" "InvalidVersion.__init__" (inClass (top 2) 0)) (List.mem_of_getElem? (i := 0) rfl)
  have FV := toFun (st := inClass (top 2) 0) FV
  obtain ⟨fdP, FP⟩ := funOf e c (d := iOf "InvalidPath" "InvalidPath.__init__" (inClass (top 3) 0)) (List.mem_of_getElem? (i := 1) rfl)
  have FP := toFun (st := inClass (top 3) 0) FP
  obtain ⟨fdT, FT⟩ := funOf e c (d := iOf "InvalidText" "InvalidText.__init__" (inClass (top 4) 0)) (List.mem_of_getElem? (i := 2) rfl)
  have FT := toFun (st := inClass (top 4) 0) FT
  have bV : ∀ (s : Shared) (us : List Value), us.length = 2 → BindsTo s fdV ⟨us, []⟩ ([("self" : Str), "value"].zip us) := by
    obtain ⟨oc, od, kV, doc, pm, an, cdv, ct, osl, rfl, lk, hcd⟩ := FV.ex
    exact fun s us hl => match us, hl with | [_, _], _ => .of_eq rfl
  have bP : ∀ (s : Shared) (us : List Value), us.length = 2 → BindsTo s fdP ⟨us, []⟩ ([("self" : Str), "value"].zip us) := by
    obtain ⟨oc, od, kV, doc, pm, an, cdv, ct, osl, rfl, lk, hcd⟩ := FP.ex
    exact fun s us hl => match us, hl with | [_, _], _ => .of_eq rfl
  have bT : ∀ (s : Shared) (us : List Value), us.length = 2 → BindsTo s fdT ⟨us, []⟩ ([("self" : Str), "line"].zip us) := by
    obtain ⟨oc, od, kV, doc, pm, an, cdv, ct, osl, rfl, lk, hcd⟩ := FT.ex
    exact fun s us hl => match us, hl with | [_, _], _ => .of_eq rfl
  obtain ⟨fd11, F11⟩ := funOf e c (d := dOf "law" (top 49)) (List.mem_of_getElem? (i := 41) rfl)
  have F11 : Fun K "law" "law" (top 49) (He.fAd K ("law", none)) fd11 := toFun (st := top 49) F11
  obtain ⟨fd0, F0⟩ := funOf e c (d := dOf "_law_rng" (top 26)) (List.mem_of_getElem? (i := 18) rfl)
  have F0 : Fun K "_law_rng" "_law_rng" (top 26) (He.fAd K ("_law_rng", none)) fd0 := toFun (st := top 26) F0
  have b0 := F0.binds (ps := ["_law_script", "_law_k"]) fun _ _ _ _ _ _ us hl => match us, hl with | [_, _], _ => rfl
  have el : fa = He.fAd K ("law", none) := by
    have z := hfa.symm.trans (glo "law" (List.mem_of_getElem? (i := 38) rfl))
    cases z
    rfl
  subst el
  refine ⟨fd11, ?_, fun base Kb Gb => ?_⟩
  · obtain ⟨oc, od, kV, doc, pm, an, cdv, ct, osl, rfl, lk, hcd⟩ := F11.ex
    exact fun s u => .of_eq rfl
  · have hTV : TT (He.ga K "InvalidVersion") (He.ga K "InvalidPath") (He.ga K "InvalidText") "InvalidVersion" = some (He.ga K "InvalidVersion", ("value" : Str)) := if_pos rfl
    have hTP : TT (He.ga K "InvalidVersion") (He.ga K "InvalidPath") (He.ga K "InvalidText") "InvalidPath" = some (He.ga K "InvalidPath", ("value" : Str)) := by unfold TT; rw [if_neg (by decide +kernel), if_pos rfl]
    have hTT : TT (He.ga K "InvalidVersion") (He.ga K "InvalidPath") (He.ga K "InvalidText") "InvalidText" = some (He.ga K "InvalidText", ("line" : Str)) := by unfold TT; rw [if_neg (by decide +kernel), if_neg (by decide +kernel), if_pos rfl]
    have RV : RaCls P w K mg base "InvalidVersion" (He.ga K "InvalidVersion") ["value"] := raCls X G SV FV (by decide) (by decide) ⟨rfl, rfl, rfl, by decide +kernel, rfl, by decide +kernel, by decide +kernel⟩ ⟨_, _, _, _, rfl⟩ bV
    have RP : RaCls P w K mg base "InvalidPath" (He.ga K "InvalidPath") ["value"] := raCls X G SP FP (by decide) (by decide) ⟨rfl, rfl, rfl, by decide +kernel, rfl, by decide +kernel, by decide +kernel⟩ ⟨_, _, _, _, rfl⟩ bP
    have RT : RaCls P w K mg base "InvalidText" (He.ga K "InvalidText") ["line"] := raCls X G ST FT (by decide) (by decide) ⟨rfl, rfl, rfl, by decide +kernel, rfl, by decide +kernel, by decide +kernel⟩ ⟨_, _, _, _, rfl⟩ bT
    have i1 : Own P w K mg base 1 "is_integer" ["value"] (WB intD) := ok_is_integer T.d_is_integer B
    have i2 : Own P w K mg base 2 "is_count" ["value"] (WB countD) := ok_is_count T.d_is_count i1
    have i3 : Own P w K mg base 1 "is_name" ["value"] (WB nameD) := ok_is_name T.d_is_name B GG
    have i4 : Own P w K mg base 3 "is_label" ["value"] (WB (pairD nameD)) := ok_is_label T.d_is_label B i3 i2
    have i5 : Own P w K mg base 3 "is_version" ["value"] (WB (pairD countD)) := ok_is_version T.d_is_version B i2
    have i6 : Own P w K mg base 4 "is_path" ["value"] (WB pathD) := ok_is_path T.d_is_path B GG i4
    have l1 : Own P w K mg base 1 "_law_is_word" ["_law_thing_here"] (WB nameD) := ok__law_is_word T.d__law_is_word B
    have l2 : Own P w K mg base 1 "_law_is_number" ["_law_thing_here"] (WB countD) := ok__law_is_number T.d__law_is_number B
    have mw := glo "_law_is_word" (List.mem_of_getElem? (i := 18) rfl)
    have mn := glo "_law_is_number" (List.mem_of_getElem? (i := 19) rfl)
    have l3 := ok__law_is_pair (fa__law_is_word := He.ga K "_law_is_word") (fa__law_is_number := He.ga K "_law_is_number") T.d__law_is_pair B l2 (heldA l1 l2 mw mn)
    have l4 := ok__law_judged T.d__law_judged B l1 mw mn (of_decide_eq_true ne) l3
    have r1 : Own P w K mg base 1 "count_in" ["text"] WCt := ok_count_in T.d_count_in GG
    have r2 := ok_version_in T.d_version_in B r1
    have r3 := ok_label_in T.d_label_in B r1 i3
    have r4 := ok_path_in T.d_path_in B GG r3
    have l5 : Own P w K mg base 1 "_law_number_of" ["_law_word"] WCt := ok__law_number_of T.d__law_number_of B
    have l6 := ok__law_label_of T.d__law_label_of B l5 l1
    have l7 := ok__law_read T.d__law_read B l5 l6
    have t1 : OwnE P w K mg base (TT (He.ga K "InvalidVersion") (He.ga K "InvalidPath") (He.ga K "InvalidText")) 4 "version_text" ["version"] WVt := ok_version_text T.d_version_text B i5 RV hTV
    have t2 : Own P w K mg base 1 "label_text" ["label"] WLt := ok_label_text T.d_label_text
    have t3 : OwnE P w K mg base (TT (He.ga K "InvalidVersion") (He.ga K "InvalidPath") (He.ga K "InvalidText")) 5 "path_text" ["path"] WPt := ok_path_text T.d_path_text B GG i6 t2 RP hTP
    have t4 : OwnE P w K mg base (TT (He.ga K "InvalidVersion") (He.ga K "InvalidPath") (He.ga K "InvalidText")) 3 "read_version" ["text"] (WRd verIn) := ok_read_version T.d_read_version B r2 RT hTT
    have t5 : OwnE P w K mg base (TT (He.ga K "InvalidVersion") (He.ga K "InvalidPath") (He.ga K "InvalidText")) 4 "read_path" ["text"] (WRd pathIn) := ok_read_path T.d_read_path B r4 RT hTT
    have l8 : Own P w K mg base 1 "_law_label_text" ["_law_label"] WLt := ok__law_label_text T.d__law_label_text B
    have l9 := ok__law_text T.d__law_text B l8
    have a1 := ok__law_asked T.d__law_asked t1 t3 t4 t5
    have a2 := ok__law_told T.d__law_told B R a1
    have z1 : Own P w K mg base 1 "_law_draw" ["_law_rng_here", "_law_many"] WDraw := own_draw T.d__law_draw B
    have z2 := ok__law_choice T.d__law_choice B z1
    have z3 := ok__law_number T.d__law_number z1
    have z4 := ok__law_label_drawn T.d__law_label_drawn B z1 z3
    have z5 := ok__law_thing T.d__law_thing B z1 z3 z4
    have z6 := ok__law_odd T.d__law_odd B z2
    have z7 := ok__law_spoilt T.d__law_spoilt B z1 z6
    have z8 := ok__law_bent T.d__law_bent B z1 z2
    have y1 := ok__law_text_right T.d__law_text_right B RS a2 l7
    have y2 := ok__law_thing_right T.d__law_thing_right B RS l4 i3 i5 i4 i6 l9 a2 y1
    have y3 := ok__law_right T.d__law_right B z5 y2 z7 l4 l9 z8 y1 z6
    obtain ⟨fR, dR, FR, mR, kR, bR, _⟩ := y3.ex
    exact ok_law F11 B GG (right_sp FR) mR kR bR (ok_rng F0 B) (glo "_law_rng" (List.mem_of_getElem? (i := 15) rfl)) F0.kp b0
end
end K11
/-! law k11: the top's run -/
namespace K11
open PySem PySem.Spec PyProof.Rows L2 DL
abbrev R : PySem.W.OpenRow := PySem.W.OpenLaw.row PySem.Challenge.rw_leastlinks_k11_names_versions_labels_pat
/-- the part of the heap that is looked at: what the module's names reach, and sys.modules -/
def asX (g : Addr → Option Obj) : List Addr := sysModules :: He.asD g 5
def obsX (g : Addr → Option Obj) : Bool × List He.FnW := (allOk (He.frG g (asX g)), defs.map fun d => He.fnW (He.frG g (asX g)) d.at_)
def hk : PySem.W.Hook where
  α := Bool × List He.FnW
  obs := fun s => obsX s.heap.get?
  val := fun _ => (true, defs.map He.DefD.val)
  says := fun _ h => ∃ K : PySem.W.Frag, K.In h ∧ allOk K = true ∧ (defs.map fun d => He.fnW K d.at_) = defs.map He.DefD.val
  of := fun _ _ e => ⟨_, He.frG_in, congrArg Prod.fst e, congrArg Prod.snd e⟩
  keeps := fun _ _ _ z k => by
    obtain ⟨K, h1, h2, h3⟩ := z
    exact ⟨K, PySem.W.Frag.In.keeps h1 k, h2, h3⟩
def ob (s : PySem.W.SharedT) : Bool × List He.FnW := obsX (HandSHeadRun.getT s)
theorem ob_eq (s : PySem.W.SharedT) : ob s = hk.obs s.abs := by
  unfold ob
  rw [show HandSHeadRun.getT s = s.abs.heap.get? from funext (HandSHeadRun.getT_eq s)]
  rfl
def loose1 : List Str := [("LinkError" : Str), ("InvalidVersion" : Str), ("InvalidPath" : Str), ("InvalidText" : Str), ("MOST_LETTERS" : Str), ("MOST_LABELS" : Str), ("DIGITS" : Str), ("MAIN_TEXT" : Str), ("is_integer" : Str), ("is_count" : Str), ("is_name" : Str), ("is_version" : Str), ("is_label" : Str), ("is_path" : Str), ("version_text" : Str), ("label_text" : Str), ("path_text" : Str), ("count_in" : Str), ("version_in" : Str), ("label_in" : Str), ("path_in" : Str), ("read_version" : Str), ("read_path" : Str), ("_law_rng" : Str), ("_law_draw" : Str)]
def loose2 : List Str := [("_law_choice" : Str), ("_law_is_word" : Str), ("_law_is_number" : Str), ("_law_is_pair" : Str), ("_law_judged" : Str), ("_law_number" : Str), ("_law_label_drawn" : Str), ("_law_thing" : Str), ("_law_odd" : Str), ("_law_spoilt" : Str), ("_law_label_text" : Str), ("_law_text" : Str), ("_law_number_of" : Str), ("_law_label_of" : Str), ("_law_read" : Str), ("_law_asked" : Str), ("_law_told" : Str), ("_law_thing_right" : Str), ("_law_text_right" : Str), ("_law_bent" : Str), ("_law_right" : Str)]
theorem run (w : World) : HandSHeadRun.RunEq R (PySem.W.view R.prog [49]) hk ob 8400 (loose1 ++ loose2) w := by
  intro os
  kernel_rfl
end K11
open PySem PySem.W PySem.Calls PyProof.Rows
set_option maxRecDepth 100000 in
set_option maxHeartbeats 0 in
theorem PySem.Challenge.cw_leastlinks_k11_names_versions_labels_pat_holds : PySem.Challenge.rw_leastlinks_k11_names_versions_labels_pat.Holds := by
  w_on; o_law
  refine HandSHeadRun.head_any (r := OpenLaw.row PySem.Challenge.rw_leastlinks_k11_names_versions_labels_pat) (q := view (OpenLaw.row PySem.Challenge.rw_leastlinks_k11_names_versions_labels_pat).prog [49]) (H := K11.hk) (ob := K11.ob) (M := 8400) (loose := K11.loose1 ++ K11.loose2)
    (d := HandSHeadRun.topDef (OpenLaw.row PySem.Challenge.rw_leastlinks_k11_names_versions_labels_pat).prog 49) (kwd := []) K11.ob_eq (by kernel_rfl) (fun s => by kernel_rfl) K11.run (by kernel_rfl) (by kernel_rfl) (by kernel_rfl) (by rfl) (by first | assumption | decide +kernel) (by decide +kernel)
    ⟨rfl, rfl, rfl, rfl, rfl, by decide +kernel⟩ ?hw ?hc
  case hw => w_witness2
  case hc =>
    refine DL.walk_ofX (l := PySem.Challenge.rw_leastlinks_k11_names_versions_labels_pat) (n := 63) (k := 11) (x := "_law_script") (sp := K11.spLaw) rfl (by decide) (by kernel_rfl) ⟨rfl, by decide, by decide⟩ ?F (fun K H a ns hl _ hS => ⟨a, ns, rfl, hS, hl, fun H' s => ⟨rfl, s⟩⟩)
    intro w mg fa h Y G hmg0
    obtain ⟨K, KX, ok, e⟩ := Y
    have hmg : mg ("law" : PySem.Str) = some (.ref fa) := by
      have z : (HandSHeadRun.topDef (OpenLaw.row PySem.Challenge.rw_leastlinks_k11_names_versions_labels_pat).prog 49).name = ("law" : PySem.Str) := by kernel_rfl
      rw [← z]
      exact hmg0
    obtain ⟨fd, hb, hF⟩ := K11.all_mk (P := (PySem.Challenge.rw_leastlinks_k11_names_versions_labels_pat).prog) (w := w) KX G hmg e ok
    exact ⟨K, fd, KX, hb, hF⟩
