import PyProof.Rows.All
import KE.KExcInit
import HandS.Exc
import HandS.ExcInit
import HandS.ForMost
import HandS.Wide
import HandS.Flow
import HandS.Lambda
import HandS.IsInst
import HandS.WideBits
import HandS.Conv
import HandS.Gcd
import HandS.ForExc
import HandS.TryMany
import HandS.Star
import HandS.ExcIs
import HandS.ExcField
import HandS.HeadHook4
import HandS.EndBits
import HandS.EndTab
import HandS.Spec
import HandS.Head0
import HandS.Head1
import HandS.Head2
import HandS.Head3
import HandS.HeadEnd
import PySem.Challenge.RW_threeswaps_k10_errors_made
set_option Elab.async false
set_option linter.all false
set_option maxRecDepth 100000
set_option maxHeartbeats 0
/-! MnA: an own exception is made, of whatever built-in base; keywords too. -/
namespace PySem
namespace GX
open PySem.W PySem.Calls PyProof.Rows Builtin Builtin.ObjectAttr PySem.HandSPX
section
variable {M : Model} {A : Around} {E : Value → Shared → Prop} {h
                                                                 : Heap} {g : Array GenState} {d : Drawn} {t : Nat} {os : OsState}
variable {nm q : Str} {C N : Addr} {bs bm bmB : List Value} {hdct : Bool} {sn : List Str} {sub : List Value}
                                                                                                             {ab : Bool} {col : Option Bool} {dd : Option Addr} {k0 k1 k2 k3 k5 : Option Value} {B newId initId : String}
theorem check_newK (F : ExcBaseFacts B newId initId bmB) (hT : ∀ X : String, bm.contains (.type X) = bmB.contains (.type X)) {rest : List Value} {kw : List (Str × Value)} {Q : Unit → Shared → Prop}
    (hC : h.get? C = some (excClassObj nm q C N bs bm hdct sn sub ab col dd k0 k1 k2 k3 k5 newId)) (hq : Q () ⟨h, g, d, t, os⟩) : wpAny M A (checkBuiltinCall newId ⟨.ref C :: rest, kw⟩) Q E ⟨h, g, d, t, os⟩ := by
  have hcont : (Value.ref C :: bm).contains (.type B) =
                                                        true := by rw [List.contains_cons, hT, F.hasB, Bool.or_true]
  have hstar := F.noStar
  simp only [checkBuiltinCall,
                               F.newKind, F.newSplit, F.newRow]
  repeat (first | refine wpAny_loadPart_at hC ?_ | (refine wpAny_isSubtype_exc hC ?_; rw [hcont]) | refine wpAny_staticBase_exc
                                                                                                                                hC ?_ | refine wpAny_madeBy_exc hC ?_ | simp only [bne_self_eq_false, Bool.false_eq_true, if_false] | wp_step)
  exact hq
end
section
variable {prog : Program} {w : World} {A : Around} {E : Value → Shared → Prop} {R : Result
                                                                                           → Shared → Prop} {h : Heap} {g : Array GenState} {d : Drawn} {t : Nat} {os : OsState}
variable {nm q : Str} {C N : Addr} {bs bm bmB : List Value} {hdct : Bool} {sn : List Str} {sub : List Value}
                                                                                                             {ab : Bool} {col : Option Bool} {dd : Option Addr} {k0 k1 k2 k3 k5 : Option Value} {B newId initId : String}
theorem newK (F : ExcBaseFacts B newId initId bmB) (hT : ∀ X : String, bm.contains (.type X) = bmB.contains (.type X)) {rest : List Value} {kw : List (Str × Value)}
    (hC : h.get? C = some (excClassObj nm q C N bs
                                                   bm hdct sn sub ab col dd k0 k1 k2 k3 k5 newId))
    (hq : R (.ok (.ret (.ref (h.objs.size + 1)))) ⟨(h.push {
                                                             cls := .type "tuple", data := .seq rest.toArray }).push
      { cls := .ref C, data := .fields #[.ref h.objs.size, .none, .none, .none,
                                                                                .bool false, .none] }, g, d, t, os⟩) (hrest : rest.length ≤ sizeLine) :
    codeAny (model prog w) A (.builtin newId ⟨.ref C :: rest, kw⟩) R ⟨h, g, d, t, os⟩ := by
  have hends := F.ends
  have hcB : (Value.ref C :: bm).contains (.type B) =
                                                      true := by rw [List.contains_cons, hT, F.hasB, Bool.or_true]
  have hcA : (Value.ref C :: bm).contains (.type "AttributeError")
                                                                   = false := by rw [List.contains_cons, hT, F.noAttr]; rfl
  have hcN : (Value.ref C :: bm).contains (.type "NameError")
                                                              = false := by rw [List.contains_cons, hT, F.noName]; rfl
  refine codeAny_builtinAt
                           F.entry ?_
  unfold
         Builtin.«BaseException.__new__»
  refine wpAt_bind ?_
  show wpAt _ _ _
                  (stack >>= _) _ _ _
  refine wpAt_bind (wpAt_stack
                               fun p below => wpAt_of_wpAny ?_)
  wp_walk
  refine wpAt_of_wpAny ?_
  rw [F.owner]
  repeat (first | with_reducible refine wpAny_madeHere_exc F.canon hC ?_ | with_reducible refine wpAny_loadPart_at
                                                                                                                   hC ?_ | (with_reducible refine wpAny_isSubtype_exc hC ?_; first | rw [hcB] | rw [hcA] | rw [hcN]) | wp_step)
  show R _ _
  rw [Heap.size_push]
  exact hq
theorem type_callK (F : ExcBaseFacts B newId initId bmB) (hT : ∀ X : String, bm.contains (.type X) = bmB.contains (.type X)) {rest : List Value} {kw : List (Str × Value)} {fI : Addr} {Q : Fin → Shared → Prop}
    (hC : h.get? C = some (excClassObj nm q C N bs
                                                   bm hdct sn sub ab col dd k0 k1 k2 k3 k5 newId))
    (hi : W.Looks (model prog w) h (typeLookup (.ref C) "__init__") (some (.ref fI))) (hb : ∀ self, W.Looks
                                                                                                            (model prog w) h (bindSpecial (.ref fI) self) (.ref fI, [self])) (hrest : rest.length ≤ sizeLine)
    (hq : codeAny (model prog w) A (.call (.ref fI) ⟨.ref (h.objs.size + 1) :: rest, kw⟩)
      (fun r s' => match r with | .ok (.ret v) => v = .none ∧ Q (.done (.ret
                                                                             (.ref (h.objs.size + 1)))) s' | .ok _ => False | .error e => E e s')
      ⟨(h.push (W.kdv_tup rest)).push
                                      (excO C h.objs.size), g, d, t, os⟩) :
    wpAny (model prog w) A (Builtin.«type.__call__» ⟨.ref C :: rest, kw⟩) Q E ⟨h, g, d, t, os⟩ := by
  repeat (first | with_reducible refine wpAny_loadPart_at hC
                                                             ?_ | with_reducible refine wpAny_madeBy_exc hC ?_ | wp_step)
  refine codeAny_call_builtin_code (Code.quiet_builtin _ F.quiet) (check_newK F hT hC ?_)
  refine newK F hT hC ?_ hrest
  show wpAny _ _ _ _ _ _
  have k : ∀ b o, h.get? b = some o → ((h.push (W.kdv_tup rest)).push (excO C h.objs.size)).get?
                                                                                                 b = some o := fun b o e => Heap.get?_push_of_some _ (Heap.get?_push_of_some _ e)
  have hC₁ := k _ _ hC
  have hget : ((h.push (W.kdv_tup rest)).push (excO C h.objs.size)).get?
                                                                         (h.objs.size + 1) = some (excO C h.objs.size) := by heap_get
  have hcC : (Value.ref C :: bm).contains
                                          (.ref C) = true := by simp
  have i1 := hi.keeps k
  have b1 := (hb (.ref
                       (h.objs.size + 1))).keeps k
  unfold isInstance
  repeat (first | with_reducible refine wpAny_loadPart_at hget
                                                               ?_ | (with_reducible refine wpAny_isSubtype_exc hC₁ ?_; rw [hcC]) | wp_step)
  show wpAny _ _ (typeLookup
                             (.ref C) _) _ _ _
  refine i1.at ?_
  refine wpAny_holding
                       (wpAny_bind (b1.at ?_))
  refine wpAny_bind (wpAny_call
                                (codeAny_mono hq fun r s' z => ?_))
  rcases
         r with e | (v | _ | _ | _) <;> first | exact z | exact z.elim | skip
  obtain ⟨rfl, z⟩ := z
  first
    | exact wpAny_pure
                       (wpAny_pure z)
    | (wp_walk; exact z)
theorem callK (F : ExcBaseFacts B newId initId bmB) (hT : ∀ X : String, bm.contains (.type X) = bmB.contains (.type X)) {rest : List Value} {kw : List (Str × Value)} {fI : Addr}
    (hC : h.get? C = some (excClassObj nm q C N bs
                                                   bm hdct sn sub ab col dd k0 k1 k2 k3 k5 newId))
    (hi : W.Looks (model prog w) h (typeLookup (.ref C) "__init__") (some (.ref fI))) (hb : ∀ self, W.Looks
                                                                                                            (model prog w) h (bindSpecial (.ref fI) self) (.ref fI, [self])) (hrest : rest.length ≤ sizeLine)
    (hq : codeAny (model prog w) (A.under (.builtin "type.__call__" ⟨.ref C :: rest, kw⟩)) (.call (.ref fI) ⟨.ref (h.objs.size + 1) :: rest, kw⟩) (W.InitBack (h.objs.size + 1) R)
      ⟨(h.push (W.kdv_tup rest)).push
                                      (excO C h.objs.size), g, d, t, os⟩) :
    codeAny (model prog w) A (.call (.ref
                                          C) ⟨rest, kw⟩) R ⟨h, g, d, t, os⟩ := by
  have f1 := tc_lookup
  have f2 := tc_bind (.ref C)
  have hTy : (⟨h, g, d, t, os⟩ : Shared).TypeIs
                                                (.ref C) "type" := ⟨_, hC, rfl⟩
  refine codeAny_of_tree ?_
  show wpAny _ _ (callAny
                          (.ref C) _) _ _ _
  repeat (any_goals (first | assumption | with_reducible
                                                         refine wpAny_loadPart_at hC ?_ | wp_step))
  refine ⟨rfl, ?_⟩
  refine codeAny_call_builtin_at (Code.quiet_builtin _ (by decide +kernel)) entry_typeCall (wpAny_check_type_call_sub hC (type_callK F hT hC hi hb hrest ?_))
  refine codeAny_mono
                      hq fun r s' z => ?_
  rcases
         r with e | (v | _ | _ | _) <;> exact z
end
end GX
end PySem
/-! MnB: own exceptions over any built-in base with a store's facts: fields stored. -/
namespace PySem
namespace GX
open PySem.W PySem.Calls
                         PyProof.Rows PySem.HandSPX
structure Xb (B newId initId : String) (bmB : List Value) : Prop where
  F : ExcBaseFacts B newId initId bmB
  SF : StoreFacts B bmB "object.__setattr__" "object"
theorem xbV : Xb "ValueError" "ValueError.__new__" "ValueError.__init__" [.type "ValueError", .type "Exception", .type "BaseException", .type "object"] := ⟨F.excBase_ValueError, F.store_ValueError⟩
theorem xbL : Xb "LookupError" "LookupError.__new__" "LookupError.__init__" [.type "LookupError", .type "Exception", .type "BaseException", .type "object"] := ⟨F.excBase_LookupError, F.store_LookupError⟩
theorem xbA : Xb "ArithmeticError" "ArithmeticError.__new__" "ArithmeticError.__init__" [.type "ArithmeticError", .type "Exception", .type "BaseException", .type "object"] := ⟨F.excBase_ArithmeticError, F.store_ArithmeticError⟩
section
open Builtin
             Builtin.ObjectAttr
variable {prog : Program} {w : World} {A : Around} {E : Value → Shared → Prop} {R : Result → Shared → Prop} {hp : Heap} {g : Array GenState} {d : Drawn} {t : Nat} {os : OsState} {B newId initId : String} {bmB : List Value}
theorem osaN {K : W.Frag} {name : Str} {tk : Tok} {v : Value} {x C : Addr} {fv : Array Value} {cd : ClassData} (Z : Xb B newId initId bmB)
    (X : K.In hp) (hx : hp.get? x = some { cls := .ref C, data := .fields fv }) (hcd : W.clsIn K C = some cd) (ne : cd.mro.isEmpty = false) (hm : excTail bmB cd.mro = true) (hh : cd.hasDict = true) (ha : W.findIn K (.ref C) name = some none)
    (hq : ∀ h' tk' dx, (∀ b o, b ≠ x → hp.get? b = some o → h'.get? b = some o) → hp.objs.size
                                                                                               ≤ dx → dx ≠ x → h'.get? x = some { cls := .ref C, dict := some dx, data := .fields fv } →
      h'.Ns1 dx (fun y => if y = name then some v else
                                                       none) → R (.ok (.ret .none)) ⟨h', g, d, tk', os⟩) :
    codeAny (model prog w) A (.call (.builtin "object.__setattr__")
                                                                    ⟨[.ref x, .str name tk, v], []⟩) R ⟨hp, g, d, t, os⟩ := by
  have I : W.InstAt hp x { cls := .ref C, data :=
                                                  .fields fv } C none := ⟨hx, rfl, rfl, trivial⟩
  have SF := F.store_object
  have hob : cd.mro.contains (.type "object") = true := (excTail_contains "object" _ hm).trans Z.SF.hasOwner
  have hxs : x ≠ hp.objs.size :=
                                 Nat.ne_of_lt (Heap.lt_size hx)
  have sub : W.Looks (model prog w) hp (isInstance (.ref x) (.type "object")) true := I.type.andThen
                                                                                                     (W.looks_mroIn X (by unfold W.mroIn; rw [hcd, Option.bind_some, if_neg (by rw [ne]; decide), hob]))
  refine codeAny_call_builtin SF.slot.plain SF.entry (@W.check_slot (model prog w) _ _ ⟨hp, g, d, t, os⟩ "object.__setattr__"
                                                                                                                              "object" "__setattr__" (.ref x) [.str name tk, v] [] _ SF.kind SF.split sub (SF.args (.ref x) (.str name tk) v) ?_)
  have hmr : W.Looks (model prog w) hp (mroOf (.ref
                                                    C)) cd.mro := (W.looks_clsIn X hcd).andThen .now
  have L3 : W.Looks (model prog w)
                                   hp (storeTaker? none) none := .now
  have hcls : W.Looks (model prog w) hp
                                        (classData C) cd := W.looks_clsIn X hcd
  rw [W.osa_eq, refuse_eq]
  refine wpAny_bind (wpAny_bind
                                (I.type.at (wpAny_bind (hmr.at ?_))))
  rw [excTail_pass _ (Z.SF.passes _) _ hm]
  refine wpAny_pure (wpAny_bind (I.type.at (wpAny_bind
                                                       ((W.looks_findIn X ha).at (wpAny_bind (L3.at ?_))))))
  show wpAny _ _ (storeInOwnDict (.ref x)
                                          (.ref C) (.str name tk) name v false) _ _ _
  obtain ⟨nm, bs, mro, ns, qn,
                               hd, sn, sb, ab, col, del⟩ := cd
  dsimp only at hh
  subst hh
  unfold storeInOwnDict
                        ownDictForStores
  repeat (first | with_reducible refine store_in_new ?_ ?_ | with_reducible
                                                                            refine wpAny_loadPart_at hx ?_ | with_reducible refine hcls.at ?_ | wp_step)
  · exact ⟨_, #[], _, (Heap.get?_update_ne _ _ _ _ hxs.symm).trans
                                                                   (Heap.get?_push_at rfl rfl), rfl, fun e he => absurd he (by simp), fun _ => rfl⟩
  · intro h' tk' hn' hs
    have hx₁ : (hp.push { cls := .type "dict", data := .dict #[] }).get? x =
                                                                             some { cls := .ref C, data := .fields fv } := Heap.get?_push_of_some _ hx
    refine hq h' tk' hp.objs.size (fun b o hb
                                              ho => ?_) (Nat.le_refl _) hxs.symm ?_ hn'
    · exact (hs.2 b (Nat.ne_of_lt (Heap.lt_size ho))).trans
                                                            ((Heap.get?_update_ne _ _ _ _ hb).trans (Heap.get?_push_of_some _ ho))
    · exact (hs.2 x hxs).trans
                               (Heap.get?_update_self _ hx₁ rfl)
theorem osaO {K : W.Frag} {name : Str} {tk : Tok} {v : Value} {x C dx : Addr} {fv : Array Value} {cd : ClassData} {m0 : Str → Option Value} {nl : List Str} (Z : Xb B newId initId bmB)
    (X : K.In hp) (hx : hp.get? x = some { cls := .ref C, dict := some dx, data := .fields fv }) (hns : hp.Ns1 dx m0) (hw : Within m0 nl) (hz : nl.length ≤ 1000) (hcd : W.clsIn K C = some cd) (ne : cd.mro.isEmpty = false) (hm : excTail bmB cd.mro = true) (hh : cd.hasDict = true)
    (ha : W.findIn K (.ref
                           C) name = some none)
    (hq : ∀ h' tk', (∀ b o, b ≠ dx → hp.get? b = some o → h'.get? b = some o) → h'.Ns1 dx (fun
                                                                                               y => if y = name then some v else m0 y) → R (.ok (.ret .none)) ⟨h', g, d, tk', os⟩) :
    codeAny (model prog w) A (.call (.builtin "object.__setattr__")
                                                                    ⟨[.ref x, .str name tk, v], []⟩) R ⟨hp, g, d, t, os⟩ := by
  obtain ⟨oD, esD, epD, hoD,
                             hdD, _⟩ := hns.count hw
  have I : W.InstAt hp x { cls := .ref C, dict := some dx,
                                                           data := .fields fv } C (some oD) := ⟨hx, rfl, rfl, hoD⟩
  have SF := F.store_object
  have hob : cd.mro.contains (.type "object") = true := (excTail_contains "object" _ hm).trans Z.SF.hasOwner
  have sub : W.Looks (model prog w) hp (isInstance (.ref x) (.type "object")) true := I.type.andThen
                                                                                                     (W.looks_mroIn X (by unfold W.mroIn; rw [hcd, Option.bind_some, if_neg (by rw [ne]; decide), hob]))
  refine codeAny_call_builtin SF.slot.plain SF.entry (@W.check_slot (model prog w) _ _ ⟨hp, g, d, t, os⟩ "object.__setattr__"
                                                                                                                              "object" "__setattr__" (.ref x) [.str name tk, v] [] _ SF.kind SF.split sub (SF.args (.ref x) (.str name tk) v) ?_)
  have hmr : W.Looks (model prog w) hp (mroOf (.ref
                                                    C)) cd.mro := (W.looks_clsIn X hcd).andThen .now
  have L3 : W.Looks (model prog w)
                                   hp (storeTaker? none) none := .now
  have hcls : W.Looks (model prog w) hp
                                        (classData C) cd := W.looks_clsIn X hcd
  rw [W.osa_eq, refuse_eq]
  refine wpAny_bind (wpAny_bind
                                (I.type.at (wpAny_bind (hmr.at ?_))))
  rw [excTail_pass _ (Z.SF.passes _) _ hm]
  refine wpAny_pure (wpAny_bind (I.type.at (wpAny_bind
                                                       ((W.looks_findIn X ha).at (wpAny_bind (L3.at ?_))))))
  show wpAny _ _ (storeInOwnDict (.ref x)
                                          (.ref C) (.str name tk) name v false) _ _ _
  obtain ⟨nm, bs, mro, ns, qn,
                               hd, sn, sb, ab, col, del⟩ := cd
  dsimp only at hh
  subst hh
  unfold storeInOwnDict
                        ownDictForStores
  repeat (first | with_reducible refine OEX.store_in_old hns hw hz ?_ | with_reducible refine wpAny_loadPart_at hx ?_ | with_reducible refine hcls.at ?_ | wp_step)
  intro h' tk' hn' hs
  exact hq h' tk' (fun b o hb
                              ho => (hs.2 b hb).trans ho) hn'
end
end GX
end PySem
namespace Mn
open PySem PySem.Spec
                      PyProof.Rows L2
/-- what the written part says of an own exception class over some built-in base -/
structure OexG (K : PySem.W.Frag) (C : Addr) : Prop where
  cls : ∃ (B newId initId : String) (bmB : List Value), GX.Xb B newId initId bmB ∧ ∃ nm q N bs bm sn sub ab col dd k0 k1 k2 k3 k5, K.lookup C = some (excClassObj nm q C N bs bm true sn sub ab col dd k0 k1 k2 k3 k5 newId) ∧ PySem.W.excTail bmB bm = true
  sa : PySem.W.findIn K (.ref C) "__setattr__"
                                               = some (some (.builtin "object.__setattr__"))
  exC : PySem.W.subIn K (.ref C)
                                 (.type "BaseException") = some true
  tyC : PySem.W.typeIn K (.ref
                               C) = some (.type "type")
  kC : PySem.W.keepIn
                      K (.ref C) = true
section
variable {X : Cx} {pins : List (Addr × Obj)} {σ : L2.St} {H : Hp} {s : Shared} {a C dx : Addr} {f : Str} {y : V} {u : Value} {fs : List (Str × V)} {Q : Unit → Shared → Prop} {E : Value → Shared → Prop} {A : Around}
/-- self.f = y, the first one (own reading) -/
theorem ostN (T : OexG X.K C) (I : Inv X pins σ H s) (e : H a = some (exo a C none)) (hno : PySem.W.findIn X.K (.ref C) f = some none) (ry : RelV y u)
    (h : ∀ dx s', H dx = none → dx ≠ a → Inv X pins σ (upd (upd H dx (exd dx [(f, y)])) a (exo a
                                                                                                 C (some dx))) s' → Q () s') : wpAny (model X.prog X.w) A (setAttr (.ref a) f u) Q E s := by
  obtain ⟨B, newId, initId, bmB, Z, nm, q, N, bs, bm, sn, sub, ab, col, dd, k0, k1, k2, k3, k5, hC, hbm⟩ := T.cls
  have hcl : PySem.W.clsIn X.K C = some { name := nm, bases := bs, mro := .ref C :: bm, ns := N, qualname := q, hasDict := true,
                                                                                                                                 slotNames := sn, subclasses := sub, abstract := ab, collection := col, hasDel := false } := by unfold PySem.W.clsIn; rw [hC] <;> rfl
  obtain ⟨t1, ho⟩ :=
                     exo_at I.hok e
  obtain ⟨hp, g, d, t, os⟩ := s
  refine PySem.W.set_plain I.kIn (ox := { cls := .ref C, dict := none, data := .fields #[.ref
                                                                                              t1, .none, .none, .none, .bool false, .none] }) (od := none) ⟨ho, rfl, rfl, trivial⟩ T.sa ?_
  refine PySem.GX.osaN Z I.kIn ho hcl rfl (show PySem.W.excTail bmB (.ref C :: bm) = true from hbm) rfl hno (fun h' tk' dx k dn dne hx hn => ?_)
  have hnd : H dx =
                    none := I.hok.fresh dn
  have nd : ∀ {b : Addr} {o : Obj}, hp.get? b = some o → b ≠ dx :=
                                                                   fun {b o} q => Nat.ne_of_lt (Nat.lt_of_lt_of_le (Heap.lt_size q) dn)
  have na : ∀ {b : Addr}, H b =
                                none → b ≠ a := fun {b} n z => by
    rw [z, e] at n
    cases n
  have Un1 : Un X.fs [] H (upd (upd H dx (exd dx
                                                 [(f, y)])) a (exo a C (some dx))) hp h' := {
    keep := fun b o q n
                        _ _ => k b o (na n) q
    slot := fun b o q n _ _ =>
                               ⟨o.slots, k b o (na n) q⟩
    free := fun b o q n _ => by rw [upd_ne
                                           (na n), upd_ne (nd q)]; exact n
    there := fun b o q _ => by
      by_cases hb : b = a
      · exact ⟨_, by rw [hb];
                              exact hx⟩
      · exact ⟨o, k b o hb q⟩
    tups := fun b xs q => by rw [upd_ne (at_ne e q
                                                   exo_tup), upd_ne (ne_of_none q hnd)]; exact q
    frzs := fun b o v q => by rw [upd_ne (at_ne e
                                                  q exo_frz), upd_ne (ne_of_none q hnd)]; exact q
    tbls := fun b ps q => ⟨#[], by rw [upd_ne (at_ne e
                                                       q exo_tbl), upd_ne (ne_of_none q hnd), q]; simp⟩ }
  refine h dx _ hnd dne (I.un
                              (t' := tk') Un1 fun b o q => ?_)
  by_cases hb : b = a
  · subst hb
    rw [upd_same] at q
    cases q
    exact exo_ok hx
  · rw [upd_ne hb] at q
    by_cases hd : b = dx
    · subst hd
      rw [upd_same] at q
      cases q
      exact exd_ok hn (relO_put (fs :=
                                       []) ry fun g => True.intro)
    · rw [upd_ne hd] at q
      exact (I.hok b o q).stay
                               (fun c v hc z => k c v (by
          rcases hc with hc | hc
          · rw [hc]
            exact hb
          · exact at_ne e
                          hc exo_own) z)
        (fun c hc => by rw [upd_ne (at_ne e hc exo_own), upd_ne (ne_of_none hc hnd)]; exact hc)
                                                                                                (fun c xs hc => by rw [upd_ne (at_ne e hc exo_tup), upd_ne (ne_of_none hc hnd)]; exact hc)
/-- self.f = y, a further one (own reading) -/
theorem ostO (T : OexG X.K C) (I : Inv X pins σ H s) (e : H a = some (exo a C (some dx))) (ed : H dx = some (exd dx fs)) (hl : fs.length ≤ 900) (hno : PySem.W.findIn X.K (.ref C) f = some none) (ry : RelV y u)
    (h : ∀ s', Inv X pins σ (upd H dx (exd dx ((f, y) :: fs))) s' → Q ()
                                                                         s') : wpAny (model X.prog X.w) A (setAttr (.ref a) f u) Q E s := by
  obtain ⟨B, newId, initId, bmB, Z, nm, q, N, bs, bm, sn, sub, ab, col, dd, k0, k1, k2, k3, k5, hC, hbm⟩ := T.cls
  have hcl : PySem.W.clsIn X.K C = some { name := nm, bases := bs, mro := .ref C :: bm, ns := N, qualname := q, hasDict := true,
                                                                                                                                 slotNames := sn, subclasses := sub, abstract := ab, collection := col, hasDel := false } := by unfold PySem.W.clsIn; rw [hC] <;> rfl
  obtain ⟨t1, ho⟩ :=
                     exo_at I.hok e
  obtain ⟨mA, hns,
                   rel⟩ := exd_at I.hok ed
  have hw := within_of rel
  obtain ⟨hp, g, d, t, os⟩ := s
  obtain ⟨oD, _, _, hoD,
                         _, _⟩ := hns.count hw
  refine PySem.W.set_plain I.kIn (ox := { cls := .ref C, dict := some dx, data := .fields #[.ref
                                                                                                 t1, .none, .none, .none, .bool false, .none] }) (od := some oD) ⟨ho, rfl, rfl, hoD⟩ T.sa ?_
  refine PySem.GX.osaO Z I.kIn ho hns hw (by rw [List.length_map]; omega) hcl rfl (show PySem.W.excTail bmB (.ref C :: bm) = true from hbm) rfl hno (fun h' tk' k hn => ?_)
  have hd : ∃ o, h'.get?
                         dx = some o := by
    obtain ⟨o, _, _, e', _⟩ := hn
    exact ⟨o, e'⟩
  exact h _ (I.write (t' := tk') (x := dx) (e := dx) (o := exd dx ((f, y) :: fs))
                                                                                  (by rw [ed]; exact True.intro) (.inl rfl) k hd (exd_ok hn (relO_put ry rel)))
end
/-- self.f = e -/
def tOsG (K : PySem.W.Frag) (f : Str) (to te : TE) : TS := fun D σ H => te σ H fun y H1 => to σ H1 fun x H2 => ∃ a C : Addr, x = .ref a ∧ OexG K C ∧ PySem.W.findIn K (.ref C) f = some none ∧
  ((H2 a = some (exo a C none) ∧ ∀ dx, H2 dx = none → dx ≠ a → D.nx
                                                                    σ (upd (upd H2 dx (exd dx [(f, y)])) a (exo a C (some dx)))) ∨
    ∃ (dx : Addr) (fs : List (Str × V)), H2 a = some (exo a C (some dx)) ∧ H2 dx =
                                                                                   some (exd dx fs) ∧ fs.length ≤ 900 ∧ D.nx σ (upd H2 dx (exd dx ((f, y) :: fs))))
theorem ps_osG {X : Cx} {o e : Expr} {to te : TE} {f : Str} {p' pos : Pos} (ho : PE X o to) (he : PE X e te) (hs : swapsWith e (some (.Attribute o f p')) pos.line X.env = pure false := by rfl) : PS X (.Assign [.Attribute o f p'] e pos) (tOsG X.K f to te) := by
  refine ⟨fun pins
                   s σ H D I h => ?_⟩
  refine plainObj_wpAny_Assign_Attribute (thn (he.run pins s σ H _ I h) fun v s1 ⟨y, H1, I1, r1,
                                                                                                 q1⟩ => thn (ho.run pins s1 σ H1 _ I1 q1) fun u s2 ⟨x, H2, I2, r2, a, C, ex, T, hno, q⟩ => ?_) hs
  subst ex
  obtain rfl : u =
                   Value.ref a := r2
  rcases q with ⟨ea,
                     q⟩ | ⟨dx, fs, ea, ed, hl, q⟩
  · exact ostN T I2 ea hno r1 fun dx s' n ne J => ⟨σ, _, J, q dx n ne⟩
  · exact ostO T I2 ea ed hl hno r1 fun s' J => ⟨σ, _, J, q⟩
end Mn
/-! Mn: a small machine over plain values and a store by places; what it tells of a text holds of the text's run. -/
namespace Mn
open PySem PySem.Spec
                      PyProof.Rows L2

/-! ### values, objects, the store -/
/-- a lambda that takes nothing of its maker -/
structure LamD where
  qual : Str
  params : Arguments
  body : Expr
  scope : Scope
inductive MV where
  | non | bl (b : Bool) | int (i : Int) | str (s : Str) | ty (n : String)
  | tup (xs : List MV) | ref (k : Nat) | fn (i : Nat) | cls (i : Nat)
  | exo (c : Nat) (ns : List Str) (xs : List MV) | lam (d : LamD)
/-- at f: the function of the lambda d, its code object at c -/
def LamO (d : LamD) (c f : Addr) : HO := .ext fun h => ∃ pm ctv : Value, h.get? f = some (PySem.W.kla_obj "<lambda>" d.qual d.params d.body d.scope [] pm c ctv)

inductive MO where
  | lst (xs : List MV) | frz (xs : List MV)
  | ins (c : Nat) (fs : List (Str × MV))
  | dct (kvs : List (Key × MV))

abbrev Store := List MO

inductive R (α : Type) where
  | ok (a : α) (st : Store)
  | exc (c : Nat) (fs : List (Str × MV)) (st : Store)
  | stk

def R.bind {α β : Type} (r : R α) (f : α → Store → R β) : R β := match r with
  | .ok a st => f a st
  | .exc c fs st => .exc c fs st
  | .stk => .stk

/-- where the store's places lie -/
structure Wd where
  ρ : Nat → Addr
  n : Nat
  H : Hp

/-- a tuple: a tracked one, or one of the written part -/
def TuH (K : PySem.W.Frag) (H : Hp) (a : Addr) (xs : List V) : Prop := H a = some (.tup xs) ∨
  ∃ (o : Obj) (its : Array Value) (n : Nat), K.lookup a = some o ∧ o.cls =
                                                                           .type "tuple" ∧ o.data = .seq its n ∧ its.size ≤ sizeLine ∧ Vals xs its.toList
theorem TuH.sq {K : PySem.W.Frag} {H : Hp} {a : Addr} {xs : List V} (h : TuH K H a xs) : SqT K H a xs := by
  rcases h with h | h
  · exact .inl (.inl h)
  · exact .inr h
/-- an object that is never written anew -/
def Still (u : HO) : Prop := (∃ gs, u = .xd gs) ∨ ∃ φ, u = .ext φ
/-- a later world -/
structure LeK (K : PySem.W.Frag) (T : List (Addr × Str)) (W W' : Wd) : Prop where
  n : W.n ≤ W'.n
  ρ : ∀ k, k < W.n → W'.ρ k = W.ρ k
  tup : ∀ a vs, TuH K W.H a vs → TuH K W'.H a vs
  still : ∀ a u, W.H a = some u → Still u → W'.H a = some u
  tab : LamX.Tabs T W.H → LamX.Tabs T W'.H
/-- what a table of the text's defs and classes stands for in the written part; what is held of every world -/
structure Gm where
  K : PySem.W.Frag
  fa : Nat → Addr
  ca : Nat → Addr
  T : List (Addr × Str)
  P : Wd → Prop
  mono : ∀ {W W' : Wd}, LeK K T W W' → P W → P W'
  xs : Option (Nat × Addr)
abbrev Le (Γ : Gm) : Wd → Wd → Prop := LeK Γ.K Γ.T

mutual
inductive VR (Γ : Gm) (W : Wd) : MV → V → Prop
  | non : VR Γ W .non .non
  | bl (b : Bool) : VR Γ W (.bl b) (.bl b)
  | int (i : Int) : VR Γ W (.int i) (.int i)
  | str (s : Str) : VR Γ W (.str s) (.str s)
  | ty (n : String) : VR Γ W (.ty n) (.ty n)
  | tup {xs : List MV} {a : Addr} {vs : List V} : TuH Γ.K W.H a vs → VRs Γ W xs vs → VR Γ W (.tup xs) (.ref a)
  | ref {k : Nat} : k < W.n → VR Γ W (.ref k) (.ref (W.ρ k))
  | fn (i : Nat) : VR Γ W (.fn i) (.ref (Γ.fa i))
  | cls (i : Nat) : VR Γ W (.cls i) (.ref (Γ.ca i))
  | exo0 {c : Nat} {a : Addr} : W.H a = some (L2.exo a (Γ.ca c) none) → VR Γ W (.exo c [] []) (.ref a)
  | exo {c : Nat} {ns : List Str} {xs : List MV} {a d : Addr} {vs : List V} : W.H a = some (L2.exo a (Γ.ca c) (some d)) → W.H d = some (L2.exd d (ns.zip vs).reverse) → ns.length = vs.length → VRs Γ W xs vs → VR Γ W (.exo c ns xs) (.ref a)
  | lam {d : LamD} {f c : Addr} : W.H f = some (LamO d c f) → W.H c = some (LamX.CodeO c d.qual) → VR Γ W (.lam d) (.ref f)
inductive VRs (Γ : Gm) (W : Wd) : List MV → List V → Prop
  | nil : VRs Γ W [] []
  | cons {x : MV} {v : V} {xs : List MV} {vs : List V} : VR Γ W x v → VRs Γ W xs vs → VRs Γ W (x :: xs) (v :: vs)
end

/-- what stands at a place -/
inductive OR (Γ : Gm) (W : Wd) : MO → HO → Prop
  | lst {xs : List MV} {vs : List V} : VRs Γ W xs vs → OR Γ W (.lst xs) (.lst vs)
  | frz {xs : List MV} {vs : List V} {o : Obj} : VRs Γ W xs vs → OR Γ W (.frz xs) (.frz o (.lst vs))
  | ins {c : Nat} {fs : List (Str × MV)} {dx : Addr} {gs : List (Str × V)} : fs.map (·.1) = gs.map (·.1) → VRs Γ W (fs.map (·.2)) (gs.map (·.2)) → OR Γ W (.ins c fs) (.ins (Γ.ca c) dx gs)
  | dct {kvs : List (Key × MV)} {gs : List (Key × V)} : kvs.map (·.1) = gs.map (·.1) → VRs Γ W (kvs.map (·.2)) (gs.map (·.2)) → OR Γ W (.dct kvs) (.dK gs)

structure SR (Γ : Gm) (W : Wd) (st : Store) : Prop where
  len : W.n = st.length
  at_ : ∀ k o, st[k]? = some o → ∃ u, W.H (W.ρ k) = some u ∧ OR Γ W o u
  inj : ∀ j k, j < W.n → k < W.n → W.ρ j = W.ρ k → j = k
  sys : ∃ o, W.H sysModules = some (.frz o (.own sysModules))
  tabs : LamX.Tabs Γ.T W.H
  hold : Γ.P W

section
variable {Γ : Gm} {W W' W2 : Wd}
theorem Le.refl : Le Γ W W := ⟨Nat.le_refl _, fun _ _ => rfl, fun _ _ h => h, fun _ _ h _ => h, fun t => t⟩
theorem Le.trans (a : Le Γ W W') (b : Le Γ W' W2) : Le Γ W W2 :=
  ⟨Nat.le_trans a.n b.n, fun k h => (b.ρ k (Nat.lt_of_lt_of_le h a.n)).trans (a.ρ k h), fun c vs h => b.tup c vs (a.tup c vs h), fun c u h q => b.still c u (a.still c u h q) q, fun t => b.tab (a.tab t)⟩
theorem _root_.Mn.LeK.trans (a : Le Γ W W') (b : Le Γ W' W2) : Le Γ W W2 := Le.trans a b
mutual
theorem VR.mono (l : Le Γ W W') : ∀ {x : MV} {v : V}, VR Γ W x v → VR Γ W' x v
  | _, _, .non => .non
  | _, _, .bl b => .bl b
  | _, _, .int i => .int i
  | _, _, .str s => .str s
  | _, _, .ty n => .ty n
  | _, _, .tup h r => .tup (l.tup _ _ h) (VRs.mono l r)
  | _, _, .ref (k := k) h => by
    have e : W'.ρ k = W.ρ k := l.ρ k h
    rw [← e]
    exact .ref (Nat.lt_of_lt_of_le h l.n)
  | _, _, .fn i => .fn i
  | _, _, .cls i => .cls i
  | _, _, .exo0 h => .exo0 (l.still _ _ h (.inr ⟨_, rfl⟩))
  | _, _, .exo h h2 e r => .exo (l.still _ _ h (.inr ⟨_, rfl⟩)) (l.still _ _ h2 (.inr ⟨_, rfl⟩)) e (VRs.mono l r)
  | _, _, .lam h h2 => .lam (l.still _ _ h (.inr ⟨_, rfl⟩)) (l.still _ _ h2 (.inr ⟨_, rfl⟩))
theorem VRs.mono (l : Le Γ W W') : ∀ {xs : List MV} {vs : List V}, VRs Γ W xs vs → VRs Γ W' xs vs
  | _, _, .nil => .nil
  | _, _, .cons a b => .cons (VR.mono l a) (VRs.mono l b)
end
theorem OR.mono (l : Le Γ W W') {o : MO} {u : HO} (h : OR Γ W o u) : OR Γ W' o u := by
  cases h with
  | lst r => exact .lst (r.mono l)
  | frz r => exact .frz (r.mono l)
  | ins e r => exact .ins e (r.mono l)
  | dct e r => exact .dct e (r.mono l)
theorem VRs.length : ∀ {xs : List MV} {vs : List V}, VRs Γ W xs vs → xs.length = vs.length
  | _, _, .nil => rfl
  | _, _, .cons _ b => congrArg (· + 1) b.length
theorem VRs.get : ∀ {xs : List MV} {vs : List V} {i : Nat} {x : MV}, VRs Γ W xs vs → xs[i]? = some x → ∃ v, vs[i]? = some v ∧ VR Γ W x v
  | _, _, _, _, .nil,
                      e => by simp at e
  | _, _, 0, _, .cons r _, e => by simp at e;
                                              subst e; exact ⟨_, rfl, r⟩
  | _, _, i + 1, _, .cons _ t, e => by
    obtain ⟨v, h1, h2⟩ := VRs.get (i := i) t (by simpa using e)
    exact ⟨v, by simpa using h1, h2⟩
theorem VRs.append : ∀ {xs ys : List MV} {vs ws : List V}, VRs Γ W xs vs → VRs Γ W ys ws → VRs Γ W (xs ++ ys) (vs ++ ws)
  | _, _, _, _, .nil, s => s
  | _, _, _, _, .cons r t, s => .cons r (t.append s)
theorem VRs.take : ∀ {xs : List MV} {vs : List V} (n : Nat), VRs Γ W xs vs → VRs Γ W (xs.take n) (vs.take n)
  | _, _, 0, _ => .nil
  | _, _, _ + 1, .nil => .nil
  | _, _, n + 1, .cons r t => .cons r (t.take n)
theorem VRs.drop : ∀ {xs : List MV} {vs : List V} (n : Nat), VRs Γ W xs vs → VRs Γ W (xs.drop n) (vs.drop n)
  | _, _, 0, r => r
  | _, _, _ + 1, .nil => .nil
  | _, _, n + 1, .cons _ t => VRs.drop n t
theorem VRs.set {x : MV} {v : V} (r : VR Γ W x v) : ∀ {xs : List MV} {vs : List V} (i : Nat), VRs Γ W xs vs → VRs Γ W (xs.set i x) (vs.set i v)
  | _, _, _, .nil => .nil
  | _, _, 0, .cons
                   _ t => .cons r t
  | _, _, i + 1, .cons q t => .cons q (VRs.set r i t)
theorem VRs.eraseIdx : ∀ {xs : List MV} {vs : List V} (i : Nat), VRs Γ W xs vs → VRs Γ W (xs.eraseIdx i) (vs.eraseIdx i)
  | _, _, _, .nil => .nil
  | _, _, 0, .cons _ t => t
  | _, _, i + 1, .cons q t => .cons q (VRs.eraseIdx i t)
theorem VRs.rep {x : List MV} {v : List V} (r : VRs Γ W x v) : ∀ k : Nat, VRs Γ W (List.replicate k x).flatten (List.replicate k v).flatten
  | 0 => .nil
  | k + 1 => by
    rw [List.replicate_succ, List.replicate_succ,
                                                  List.flatten_cons, List.flatten_cons]
    exact r.append (VRs.rep r k)
theorem VRs.ints : ∀ {ns : List Int} {vs : List V}, VRs Γ W (ns.map MV.int) vs → vs = ns.map V.int
  | [], _, h => by cases h; rfl
  | n :: ns, _, h => by
    cases h with
    | cons a b => cases a; rw [VRs.ints b]; rfl
theorem vrs_ints : ∀ ns : List Int, VRs Γ W (ns.map MV.int) (ns.map V.int)
  | [] => .nil
  | n :: ns => .cons (.int n) (vrs_ints ns)
theorem VRs.bls : ∀ {ns : List Bool} {vs : List V}, VRs Γ W (ns.map MV.bl) vs → vs = ns.map V.bl
  | [], _, h => by cases h; rfl
  | n :: ns, _, h => by
    cases h with
    | cons a b => cases a; rw [VRs.bls b]; rfl

/-! ### steps of the world -/
def Wd.put (W : Wd) (p : Addr) (o : HO) : Wd := ⟨fun k => if k = W.n then p else W.ρ k, W.n + 1, upd W.H p o⟩
def Wd.side (W : Wd) (p : Addr) (o : HO) : Wd := ⟨W.ρ, W.n, upd W.H p o⟩
theorem sqt_upd {H : Hp} {p a : Addr} {o : HO} {vs : List V} (h : TuH Γ.K H a vs) (hp : H p = none ∨ (∃ u, H p = some u ∧ ∀ xs, u ≠ .tup xs)) : TuH Γ.K (upd H p o) a vs := by
  rcases h with h | h
  · refine .inl ?_
    rw [upd_ne ?_]
    · exact h
    · rintro rfl
      rcases hp with hp | ⟨u, hp, q⟩
      · rw [hp] at h; cases h
      · rw [hp] at h; cases h; exact q vs rfl
  · exact .inr h
theorem le_put {p : Addr} {o : HO} (hp : W.H p = none) : Le Γ W (W.put p o) :=
  ⟨Nat.le_succ _, fun k h => if_neg (Nat.ne_of_lt h), fun _ _ h => sqt_upd h (.inl hp), fun a u h _ => by
    show upd W.H p o a = some u
    rw [upd_ne (ne_of_none h hp)]; exact h, fun t => t.ext fun b o h => by
    show upd W.H p _ b = some o
    rw [upd_ne (ne_of_none h hp)]; exact h⟩
theorem le_side {p : Addr} {o : HO} (hp : W.H p = none) : Le Γ W (W.side p o) :=
  ⟨Nat.le_refl _, fun k h => rfl, fun _ _ h => sqt_upd h (.inl hp), fun a u h _ => by
    show upd W.H p o a = some u
    rw [upd_ne (ne_of_none h hp)]; exact h, fun t => t.ext fun b o h => by
    show upd W.H p _ b = some o
    rw [upd_ne (ne_of_none h hp)]; exact h⟩
/-- the tables stay where what is neither a table nor pinned is written -/
theorem tabs_upd {T : List (Addr × Str)} {H : Hp} {p : Addr} {o v : HO} (h : H p = some v) (n1 : ∀ ps, v ≠ .tbl ps) (n2 : ∀ φ, v ≠ .ext φ) (t : LamX.Tabs T H) : LamX.Tabs T (upd H p o) := fun q hq => by
  obtain ⟨ps, h1, h2, h3⟩ := t q hq
  refine ⟨ps, ?_, h2, fun pos cv hc => ?_⟩
  · rw [upd_ne]
    · exact h1
    · intro e
      rw [e, h] at h1
      exact n1 _ (Option.some.inj h1)
  · obtain ⟨c, e1, e2⟩ := h3 pos cv hc
    refine ⟨c, e1, ?_⟩
    rw [upd_ne]
    · exact e2
    · intro e
      rw [e, h] at e2
      exact n2 _ (Option.some.inj e2)
theorem SR.lt {st : Store} (S : SR Γ W st) {k : Nat} {o : MO} (h : st[k]? = some o) : k < W.n := by
  rw [S.len]
  exact (List.getElem?_eq_some_iff.mp
                                      h).1
theorem SR.ne {st : Store} (S : SR Γ W st) {p : Addr} (hp : W.H p = none) {k : Nat} (h : k < W.n) : W.ρ k ≠ p := fun e => by
  rw [S.len] at h
  obtain ⟨u, hu, _⟩ := S.at_ k _ (List.getElem?_eq_getElem h)
  rw [e, hp] at hu
  cases hu
theorem SR.sys_upd {st : Store} (S : SR Γ W st) {p : Addr} {u : HO} (hp : W.H p = none) : ∃ o, upd W.H p u sysModules = some (.frz o (.own sysModules)) := by
  obtain ⟨o, h⟩ := S.sys
  exact ⟨o, by rw [upd_ne (ne_of_none h hp)]; exact h⟩
/-- a new object is laid -/
theorem SR.put {st : Store} (S : SR Γ W st) {p : Addr} {o : MO} {u : HO} (hp : W.H p = none) (r : OR Γ (W.put p u) o u) : SR Γ (W.put p u) (st ++ [o]) := by
  have l : Le Γ W (W.put p u) := le_put hp
  refine ⟨by rw [List.length_append]; exact congrArg (· + 1) S.len, fun k o' h => ?_, fun j k hj hk e => ?_, S.sys_upd hp, l.tab S.tabs, Γ.mono l S.hold⟩
  · by_cases hk : k < st.length
    · rw [List.getElem?_append_left hk] at h
      obtain ⟨v, hv, q⟩ := S.at_ k o' h
      have hk' : k < W.n := by rw [S.len]; exact hk
      refine ⟨v, ?_, q.mono l⟩
      rw [l.ρ k hk']
      show upd W.H p u (W.ρ k) = some v
      rw [upd_ne (S.ne hp hk')]
      exact hv
    · have hk2 : k = st.length := by
        have := (List.getElem?_eq_some_iff.mp h).1
        rw [List.length_append] at this
        simp at this
        omega
      subst hk2
      rw [List.getElem?_concat_length] at h
      cases h
      refine ⟨u, ?_, r⟩
      show upd W.H p u (if st.length = W.n then p else W.ρ st.length) = some u
      rw [if_pos S.len.symm, upd_same]
  · have hj : j < W.n + 1 := hj
    have hk : k < W.n + 1 := hk
    have e : (if j = W.n then p else W.ρ j) = (if k = W.n then p else W.ρ k) := e
    by_cases h1 : j = W.n
    · by_cases h2 : k = W.n
      · rw [h1, h2]
      · rw [if_pos h1, if_neg h2] at e
        exact absurd e.symm (S.ne hp (by omega))
    · by_cases h2 : k = W.n
      · rw [if_neg h1, if_pos h2] at e
        exact absurd e (S.ne hp (by omega))
      · rw [if_neg h1, if_neg h2] at e
        exact S.inj j k (by omega) (by omega) e
/-- a new object beside the store -/
theorem SR.side {st : Store} (S : SR Γ W st) {p : Addr} {u : HO} (hp : W.H p = none) : SR Γ (W.side p u) st := by
  have l : Le Γ W (W.side p u) := le_side hp
  refine ⟨S.len, fun k o' h => ?_, S.inj, S.sys_upd hp, l.tab S.tabs, Γ.mono l S.hold⟩
  obtain ⟨v, hv, q⟩ := S.at_ k o' h
  refine ⟨v, ?_, q.mono l⟩
  show upd W.H p u (W.ρ k) = some v
  rw [upd_ne (S.ne hp (S.lt h))]
  exact hv
/-- what may be written anew: a list, an instance, a dict -/
def Mu : MO → Prop
  | .frz _ => False
  | _ => True
theorem le_set {st : Store} (S : SR Γ W st) {k : Nat} {o : MO} {u : HO} (h : st[k]? = some o) (mu : Mu o) : Le Γ W (W.side (W.ρ k) u) := by
  obtain ⟨v, hv, r⟩ := S.at_ k o h
  refine ⟨Nat.le_refl _, fun _ _ => rfl, fun a vs q => sqt_upd q (.inr ⟨v, hv, fun xs => ?_⟩), fun a u' q z => ?_, fun t => ?_⟩
  · cases r with
    | frz _ => exact mu.elim
    | lst _ => exact fun z => by cases z
    | ins _ _ => exact fun z => by cases z
    | dct _ _ => exact fun z => by cases z
  · show upd W.H (W.ρ k) u a = some u'
    rw [upd_ne]
    · exact q
    · rintro rfl
      rw [hv] at q
      cases q
      cases r with
      | frz _ => exact mu.elim
      | lst _ => rcases z with ⟨_, z⟩ | ⟨_, z⟩ <;> cases z
      | ins _ _ => rcases z with ⟨_, z⟩ | ⟨_, z⟩ <;> cases z
      | dct _ _ => rcases z with ⟨_, z⟩ | ⟨_, z⟩ <;> cases z
  · refine tabs_upd hv (fun ps e => ?_) (fun φ e => ?_) t
    all_goals
      subst e
      cases r
theorem SR.nsys {st : Store} (S : SR Γ W st) {k : Nat} {o : MO} (h : st[k]? = some o) : sysModules ≠ W.ρ k := fun e => by
  obtain ⟨v, hv, r⟩ := S.at_ k o h
  obtain ⟨ob, hs⟩ := S.sys
  rw [← e, hs] at hv
  cases hv
  cases r
theorem SR.sys_set {st : Store} (S : SR Γ W st) {k : Nat} {o : MO} {u : HO} (h : st[k]? = some o) : ∃ ob, upd W.H (W.ρ k) u sysModules = some (.frz ob (.own sysModules)) := by
  obtain ⟨ob, hs⟩ := S.sys
  exact ⟨ob, by rw [upd_ne (S.nsys h)]; exact hs⟩
theorem SR.set {st : Store} (S : SR Γ W st) {k : Nat} {o o' : MO} {u : HO} (h : st[k]? = some o) (mu : Mu o) (r : OR Γ (W.side (W.ρ k) u) o' u) : SR Γ (W.side (W.ρ k) u) (st.set k o') := by
  have l : Le Γ W (W.side (W.ρ k) u) := le_set S h mu
  have hk := S.lt h
  refine ⟨by rw [List.length_set]; exact S.len, fun j o2 q => ?_, S.inj, S.sys_set h, l.tab S.tabs, Γ.mono l S.hold⟩
  by_cases hj : j = k
  · subst hj
    rw [List.getElem?_set_self (List.getElem?_eq_some_iff.mp h).1] at q
    cases q
    exact ⟨u, upd_same, r⟩
  · rw [List.getElem?_set_ne (Ne.symm hj)] at q
    obtain ⟨v, hv, p⟩ := S.at_ j o2 q
    refine ⟨v, ?_, p.mono l⟩
    show upd W.H (W.ρ k) u (W.ρ j) = some v
    rw [upd_ne fun e => hj (S.inj j k (S.lt q) hk e)]
    exact hv
end

/-! ### the names' values -/
abbrev Env := List (Option MV)
def ER (Γ : Gm) (W : Wd) (env : Env) (σ : L2.St) : Prop := env.length = σ.length ∧ (∀ (i : Nat) (x : MV), env[i]? = some (some x) → ∃ v : V, (σ : List (Option V))[i]? = some (some v) ∧ VR Γ W x v) ∧
  ∀ i a, Γ.xs = some (i, a) → env[i]? = some none → (σ : List (Option V))[i]? = some (some (.ref a))
theorem ER.mono {Γ : Gm} {W W' : Wd} {env : Env} {σ : L2.St} (l : Le Γ W W') (h : ER Γ W env σ) : ER Γ W' env σ := ⟨h.1, fun i x e => by
  obtain ⟨v, a, b⟩ := h.2.1 i x e
  exact ⟨v, a, b.mono l⟩, h.2.2⟩
theorem ER.set {Γ : Gm} {W : Wd} {env : Env} {σ : L2.St} {x : MV} {v : V} (h : ER Γ W env σ) (i : Nat) (r : VR Γ W x v) : ER Γ W (env.set i (some x)) (σ.set i (some v)) := by
  refine ⟨by rw [List.length_set, List.length_set]; exact h.1, fun j y e => ?_, fun j a q e => ?_⟩
  · by_cases hj : j = i
    · subst hj
      have hl : j < env.length := by
        have := (List.getElem?_eq_some_iff.mp e).1
        rwa [List.length_set] at this
      rw [List.getElem?_set_self hl] at e
      cases e
      exact ⟨v, by rw [List.getElem?_set_self (by rw [← h.1]; exact hl)], r⟩
    · rw [List.getElem?_set_ne (Ne.symm hj)] at e
      rw [List.getElem?_set_ne (Ne.symm hj)]
      exact h.2.1 j y e
  · by_cases hj : j = i
    · subst hj
      have hl : j < env.length := by
        have := (List.getElem?_eq_some_iff.mp e).1
        rwa [List.length_set] at this
      rw [List.getElem?_set_self hl] at e
      cases e
    · rw [List.getElem?_set_ne (Ne.symm hj)] at e
      rw [List.getElem?_set_ne (Ne.symm hj)]
      exact h.2.2 j a q e
theorem ER.del {Γ : Gm} {W : Wd} {env : Env} {σ : L2.St} (h : ER Γ W env σ) (hx : Γ.xs = none) (i : Nat) (o : Option V) : ER Γ W (env.set i none) (σ.set i o) := by
  refine ⟨by rw [List.length_set, List.length_set]; exact h.1, fun j y e => ?_, fun j a q e => by rw [hx] at q; cases q⟩
  by_cases hj : j = i
  · subst hj
    have hl : j < env.length := by
      have := (List.getElem?_eq_some_iff.mp e).1
      rwa [List.length_set] at this
    rw [List.getElem?_set_self hl] at e
    cases e
  · rw [List.getElem?_set_ne (Ne.symm hj)] at e
    rw [List.getElem?_set_ne (Ne.symm hj)]
    exact h.2.1 j y e

/-! ### what is wanted of an answer -/
/-- the dict d holds the fields fs -/
def XD (Γ : Gm) (W : Wd) (fs : List (Str × MV)) (d : Option Addr) : Prop := (fs = [] ∧ d = none) ∨
  ∃ (a : Addr) (gs : List (Str × V)), d = some a ∧ W.H a = some (.xd gs) ∧ fs.map (·.1) = gs.map (·.1) ∧ VRs Γ W (fs.map (·.2)) (gs.map (·.2))
theorem XD.mono {Γ : Gm} {W W' : Wd} {fs : List (Str × MV)} {d : Option Addr} (l : Le Γ W W') (h : XD Γ W fs d) : XD Γ W' fs d := by
  rcases h with h | ⟨a, gs, h1, h2, h3, h4⟩
  · exact .inl h
  · exact .inr ⟨a, gs, h1, l.still a _ h2 (.inl ⟨_, rfl⟩), h3, h4.mono l⟩
/-- an exception of the class c with the fields fs, as it is wished for -/
def ExW (Γ : Gm) (W : Wd) (Wx : Value → Option Addr → Hp → Prop) (c : Nat) (fs : List (Str × MV)) : Prop :=
  ∀ d, XD Γ W fs d → Wx (.ref (Γ.ca c)) d W.H
/-- an answer r: where it is a value, Q of each value that stands for it behind each later world; where an exception, the wish -/
def Post {α β : Type} (Γ : Gm) (W : Wd) (rel : Wd → α → β → Prop) (Wx : Value → Option Addr → Hp → Prop) (r : R α) (Q : β → Wd → Prop) : Prop := match r with
  | .ok a st => ∀ W' b, Le Γ W W' → SR Γ W' st → rel W' a b → Q b W'
  | .exc c fs st => ∀ W', Le Γ W W' → SR Γ W' st → ExW Γ W' Wx c fs
  | .stk => False
theorem Post.ok {α β : Type} {Γ : Gm} {W : Wd} {rel : Wd → α → β → Prop} {Wx : Value → Option Addr → Hp → Prop} {a : α} {st : Store} {Q : β → Wd → Prop} (h : Post Γ W rel Wx (.ok a st) Q) {W' : Wd} {b : β} (l : Le Γ W W') (S : SR Γ W' st) (r : rel W' a b) : Q b W' := h W' b l S r
theorem Post.later {α β : Type} {Γ : Gm} {W W1 : Wd} {rel : Wd → α → β → Prop} {Wx : Value → Option Addr → Hp → Prop} {r : R α} {Q : β → Wd → Prop} (h : Post Γ W rel Wx r Q) (l : Le Γ W W1) : Post Γ W1 rel Wx r Q := by
  cases r with
  | ok a st => exact fun W' b l' S q => h W' b (l.trans l') S q
  | exc c fs st => exact fun W' l' S => h W' (l.trans l') S
  | stk => exact h
theorem Post.imp {α β : Type} {Γ : Gm} {W : Wd} {rel : Wd → α → β → Prop} {Wx : Value → Option Addr → Hp → Prop} {r : R α} {Q Q' : β → Wd → Prop} (h : Post Γ W rel Wx r Q) (f : ∀ b W', Q b W' → Q' b W') : Post Γ W rel Wx r Q' := by
  cases r with
  | ok a st => exact fun W' b l S q => f b W' (h W' b l S q)
  | exc c fs st => exact h
  | stk => exact h
/-- an answer behind an answer -/
theorem Post.seq {α β γ δ : Type} {Γ : Gm} {W : Wd} {rel : Wd → α → β → Prop} {rel2 : Wd → γ → δ → Prop} {Wx : Value → Option Addr → Hp → Prop} {r : R α} {f : α → Store → R γ} {Q : δ → Wd → Prop}
    (h : Post Γ W rel2 Wx (r.bind f) Q) : Post Γ W rel Wx r fun b W1 => Le Γ W W1 ∧ ∃ a st, SR Γ W1 st ∧ rel W1 a b ∧ Post Γ W1 rel2 Wx (f a st) Q := by
  cases r with
  | ok a st => exact fun W' b l S q => ⟨l, a, st, S, q, Post.later h l⟩
  | exc c fs st => exact h
  | stk => exact h
end Mn
/-! Mn2: operators on values, and that the text's operators do the same. -/
namespace Mn
open PySem PySem.Spec
                      PyProof.Rows L2

abbrev LN : Nat := 16777216
theorem ln_eq : LN = sizeLine := sizeLine_eq.symm

/-! ### reading -/
def mapO {α β : Type} (f : α → Option β) : List α → Option (List β)
  | [] => some []
  | x :: xs => match f x, mapO f xs with
    | some y, some ys => some (y :: ys)
    | _, _ => none
def seqL (st : Store) : MV → Option (List MV)
  | .ref k => match st[k]? with
    | some (.lst xs) => some xs
    | some (.frz xs) => some xs
    | _ => none
  | _ => none
def seqT : MV → Option (List MV)
  | .tup xs => some xs
  | _ => none
def keyD : Key → PyData
  | .inl i => .int i
  | .inr x => .str x
/-- a value as data, n deep at most -/
def dat (st : Store) : Nat → MV → Option PyData
  | _, .non => some .none
  | _, .bl b => some (.bool b)
  | _, .int i => some (.int i)
  | _, .str x => some (.str x)
  | n + 1, .tup xs => (mapO (dat st n) xs).map .tuple
  | n + 1, .ref k => match st[k]? with
    | some (.lst xs) => (mapO (dat st n) xs).map .list
    | some (.frz xs) => (mapO (dat st n) xs).map .list
    | some (.dct []) => some (.dict [])
    | _ => none
  | _, _ => none

section
variable {Γ : Gm} {W W' : Wd} {st : Store}
theorem seqL_rel (S : SR Γ W st) {x : MV} {v : V} {xs : List MV} (r : VR Γ W x v) (h : seqL st x = some xs) : ∃ a vs, v = .ref a ∧ SqL Γ.K W.H a vs ∧ VRs Γ W xs vs := by
  cases r with
  | ref hk =>
    rename_i k
    cases e : st[k]? with
    | none => simp only [seqL, e] at h; cases h
    | some o =>
      simp only [seqL, e] at h
      obtain ⟨u, hu, q⟩ := S.at_ k o e
      cases q with
      | lst r => cases h; exact ⟨_, _, rfl, .inl (.inl hu), r⟩
      | frz r => cases h; exact ⟨_, _, rfl, .inl (.inr ⟨_, hu⟩), r⟩
      | ins _ _ => cases h
      | dct _ _ => cases h
  | _ => cases h
theorem lst_rel (S : SR Γ W st) {k : Nat} {xs : List MV} (h : st[k]? = some (.lst xs)) : ∃ vs, W.H (W.ρ k) = some (.lst vs) ∧ VRs Γ W xs vs := by
  obtain ⟨u, hu, q⟩ := S.at_ k _ h
  cases q with
  | lst r => exact ⟨_, hu, r⟩
theorem seqT_rel {x : MV} {v : V} {xs : List MV} (r : VR Γ W x v) (h : seqT x = some xs) : ∃ a vs, v = .ref a ∧ TuH Γ.K W.H a vs ∧ VRs Γ W xs vs := by
  cases r with
  | tup h1 h2 => cases h; exact ⟨_, _, rfl, h1, h2⟩
  | _ => cases h
/-- the new place's value -/
theorem vr_new (S : SR Γ W st) {p : Addr} {u : HO} : VR Γ (W.put p u) (.ref st.length) (.ref p) := by
  have e : (W.put p u).ρ st.length = p := if_pos S.len.symm
  have q : VR Γ (W.put p u) (.ref st.length) (.ref ((W.put p u).ρ st.length)) := .ref (by show st.length < W.n + 1; rw [S.len]; omega)
  rw [e] at q
  exact q
/-- an answer that is a new list -/
theorem post_lst {Wx : Value → Option Addr → Hp → Prop} {Q : V → Wd → Prop} {xs : List MV} {vs : List V} (S : SR Γ W st) (r : VRs Γ W xs vs) (h : Post Γ W (VR Γ) Wx (.ok (.ref st.length) (st ++ [.lst xs])) Q) {p : Addr} (hp : W.H p = none) : Q (.ref p) (W.put p (.lst vs)) :=
  h _ _ (le_put hp) (S.put hp (.lst (r.mono (le_put hp)))) (vr_new S)
theorem post_tup {Wx : Value → Option Addr → Hp → Prop} {Q : V → Wd → Prop} {xs : List MV} {vs : List V} (S : SR Γ W st) (r : VRs Γ W xs vs) (h : Post Γ W (VR Γ) Wx (.ok (.tup xs) st) Q) {p : Addr} (hp : W.H p = none) : Q (.ref p) (W.side p (.tup vs)) :=
  h _ _ (le_side hp) (S.side hp) (.tup (.inl upd_same) (r.mono (le_side hp)))
theorem post_val {Wx : Value → Option Addr → Hp → Prop} {Q : V → Wd → Prop} {x : MV} {v : V} (S : SR Γ W st) (h : Post Γ W (VR Γ) Wx (.ok x st) Q) (r : VR Γ W x v) : Q v W := h _ _ Le.refl S r
/-- an answer behind a change of a place -/
theorem post_set {Wx : Value → Option Addr → Hp → Prop} {Q : V → Wd → Prop} {x : MV} {v : V} {k : Nat} {o o' : MO} {u : HO} (S : SR Γ W st) (hk : st[k]? = some o) (mu : Mu o) (q : OR Γ W o' u) (h : Post Γ W (VR Γ) Wx (.ok x (st.set k o')) Q) (r : VR Γ W x v) :
    Q v (W.side (W.ρ k) u) := h _ _ (le_set S hk mu) (S.set hk mu (q.mono (le_set S hk mu))) (r.mono (le_set S hk mu))
end

/-! ### what an operator is worth -/
abbrev M2 := Store → MV → MV → R MV
abbrev M1 := Store → MV → R MV
abbrev MA := Store → List MV → R MV
/-- the reading of an operator that the machine has -/
def t2M (Γ : Gm) (m : M2) : R2 := fun x y H Q => ∃ (W : Wd) (st : Store) (a b : MV), W.H = H ∧ SR Γ W st ∧ VR Γ W a x ∧ VR Γ W b y ∧ Post Γ W (VR Γ) (fun _ _ _ => False) (m st a b) (fun v W => Q v W.H)
def t1M (Γ : Gm) (m : M1) : V → Hp → VK → Prop := fun x H Q => ∃ (W : Wd) (st : Store) (a : MV), W.H = H ∧ SR Γ W st ∧ VR Γ W a x ∧ Post Γ W (VR Γ) (fun _ _ _ => False) (m st a) (fun v W => Q v W.H)
def tAM (Γ : Gm) (m : MA) : List V → Hp → VK → Prop := fun xs H Q => ∃ (W : Wd) (st : Store) (as : List MV), W.H = H ∧ SR Γ W st ∧ VRs Γ W as xs ∧ Post Γ W (VR Γ) (fun _ _ _ => False) (m st as) (fun v W => Q v W.H)
theorem opM {X : Cx} {f : Value → Value → Sem Value} {m : M2} {r : R2} (h : OpR X f r) (Γ : Gm)
    (k : ∀ (W : Wd) (st : Store) (a b : MV) (x y : V) (Q : V → Wd → Prop), SR Γ W st → VR Γ W a x → VR Γ W b y → Post Γ W (VR Γ) (fun _ _ _ => False) (m st a b) Q → r x y W.H (fun v H => ∃ W', W'.H = H ∧ Q v W')) : OpR X f (t2M Γ m) := by
  intro pn s σ H x y v u Q I rx ry ⟨W, st, a, b, e, S, ra, rb, hp⟩
  subst e
  refine thn (h pn s σ W.H x y v u _ I rx ry (k W st a b x y _ S ra rb hp)) fun z s' ⟨z', H', I', r', W', e, q⟩ => ?_
  subst e
  exact ⟨z', _, I', r', q⟩
theorem callM {X : Cx} {f : Value} {m : MA} {r : List V → Hp → VK → Prop} (h : CallR X f r) (Γ : Gm)
    (k : ∀ (W : Wd) (st : Store) (as : List MV) (xs : List V) (Q : V → Wd → Prop), SR Γ W st → VRs Γ W as xs → Post Γ W (VR Γ) (fun _ _ _ => False) (m st as) Q → r xs W.H (fun v H => ∃ W', W'.H = H ∧ Q v W')) : CallR X f (tAM Γ m) := by
  intro pn s σ H xs us Q I rx ⟨W, st, as, e, S, ra, hp⟩
  subst e
  refine thn (h pn s σ W.H xs us _ I rx (k W st as xs _ S ra hp)) fun z s' ⟨z', H', I', r', W', e, q⟩ => ?_
  subst e
  exact ⟨z', _, I', r', q⟩
theorem unM {X : Cx} {f : Value → Sem Value} {m : M1} {r : V → Hp → VK → Prop} (h : UnR X f r) (Γ : Gm)
    (k : ∀ (W : Wd) (st : Store) (a : MV) (x : V) (Q : V → Wd → Prop), SR Γ W st → VR Γ W a x → Post Γ W (VR Γ) (fun _ _ _ => False) (m st a) Q → r x W.H (fun v H => ∃ W', W'.H = H ∧ Q v W')) : UnR X f (t1M Γ m) := by
  intro pn s σ H x v Q I rx ⟨W, st, a, e, S, ra, hp⟩
  subst e
  refine thn (h pn s σ W.H x v _ I rx (k W st a x _ S ra hp)) fun z s' ⟨z', H', I', r', W', e, q⟩ => ?_
  subst e
  exact ⟨z', _, I', r', q⟩

/-! ### + - * // % ** -/
def mAdd : M2 := fun st x y => match x, y with
  | .int i, .int j => .ok (.int (i + j)) st
  | .str a, .str b => if a.length + b.length ≤ LN then .ok (.str (a ++ b)) st else .stk
  | .tup xs, .tup ys => if xs ≠ [] ∧ ys ≠ [] ∧ xs.length + ys.length ≤ LN then .ok (.tup (xs ++ ys)) st else .stk
  | .ref j, .ref k => match st[j]?, st[k]? with
    | some (.lst xs), some (.lst ys) => if xs.length + ys.length ≤ LN then .ok (.ref st.length) (st ++ [.lst (xs ++ ys)]) else .stk
    | _, _ => .stk
  | _, _ => .stk
def mSub : M2 := fun st x y => match x, y with
  | .int i, .int j => .ok (.int (i - j)) st
  | _, _ => .stk
def mMul : M2 := fun st x y => match x, y with
  | .int i, .int j => if i.natAbs.log2 + j.natAbs.log2 < 1000000 then .ok (.int (i * j)) st else .stk
  | .ref j, .int k => match st[j]? with
    | some (.lst xs) => if k < 2 ^ 24 ∧ xs.length * k.toNat ≤ LN ∧ -(2 ^ 24) < k then .ok (.ref st.length) (st ++ [.lst (List.replicate k.toNat xs).flatten]) else .stk
    | _ => .stk
  | _, _ => .stk
def pyDiv (i j : Int) : Int := if 0 < j then i / j else i.fdiv j
def pyMod (i j : Int) : Int := if 0 < j then i % j else i.fmod j
def mDiv : M2 := fun st x y => match x, y with
  | .int i, .int j => if j ≠ 0 ∧ j.natAbs.log2 < 9000 then .ok (.int (pyDiv i j)) st else .stk
  | _, _ => .stk
def mMod : M2 := fun st x y => match x, y with
  | .int i, .int j => if j ≠ 0 then .ok (.int (pyMod i j)) st else .stk
  | _, _ => .stk
def mPow : M2 := fun st x y => match x, y with
  | .int i, .int j => if 0 ≤ j ∧ j ≤ 1000000 ∧ i.natAbs < 2 ^ 64 then .ok (.int (i ^ j.toNat)) st else .stk
  | _, _ => .stk

section
variable {X : Cx} {Γ : Gm}
theorem op_fdivG : OpR X (binaryOp .FloorDiv) (rI (fun _ j => j ≠ 0 ∧ j.natAbs.log2 < 9000) fun i j => .int (i.fdiv j)) := opI fun _ _ _ _ _ _ _ c q => floordiv_int c.1 q (.inl (PyProof.noPylong_of_log2 c.2))
theorem pyDiv_eq (i j : Int) : pyDiv i j = i.fdiv j := by
  unfold pyDiv
  split
  · rw [Int.fdiv_eq_ediv_of_nonneg i (by omega)]
  · rfl
theorem pyMod_eq (i j : Int) : pyMod i j = i.fmod j := by
  unfold pyMod
  split
  · rw [Int.fmod_eq_emod_of_nonneg i (by omega)]
  · rfl
theorem sd_sub : OpR X (binaryOp .Sub) (t2M Γ mSub) := opM op_sub Γ fun W st a b x y Q S ra rb h => by
  unfold mSub at h
  split at h
  · cases ra; cases rb
    exact ⟨_, _, rfl, rfl, W, rfl, post_val S h (.int _)⟩
  · exact h.elim
def mNeg : M1 := fun st x => match x with
  | .int i => .ok (.int (-i)) st
  | _ => .stk
theorem sd_neg : UnR X (unaryOp .USub) (t1M Γ mNeg) := unM un_neg Γ fun W st a x Q S ra h => by
  unfold mNeg at h
  split at h
  · cases ra
    exact ⟨_, rfl, W, rfl, post_val S h (.int _)⟩
  · exact h.elim
theorem sd_div : OpR X (binaryOp .FloorDiv) (t2M Γ mDiv) := opM op_fdivG Γ fun W st a b x y Q S ra rb h => by
  unfold mDiv at h
  split at h
  · split at h
    · rename_i c
      cases ra; cases rb
      refine ⟨_, _, rfl, rfl, c, W, rfl, ?_⟩
      rw [pyDiv_eq] at h
      exact post_val S h (.int _)
    · exact h.elim
  · exact h.elim
theorem sd_mod : OpR X (binaryOp .Mod) (t2M Γ mMod) := opM op_modN Γ fun W st a b x y Q S ra rb h => by
  unfold mMod at h
  split at h
  · split at h
    · rename_i c
      cases ra; cases rb
      refine ⟨_, _, rfl, rfl, c, W, rfl, ?_⟩
      rw [pyMod_eq] at h
      exact post_val S h (.int _)
    · exact h.elim
  · exact h.elim
theorem sd_pow : OpR X (binaryOp .Pow) (t2M Γ mPow) := opM op_pow Γ fun W st a b x y Q S ra rb h => by
  unfold mPow at h
  split at h
  · split at h
    · rename_i c
      cases ra; cases rb
      exact ⟨_, _, rfl, rfl, c, W, rfl, post_val S h (.int _)⟩
    · exact h.elim
  · exact h.elim
theorem sd_mul : OpR X (binaryOp .Mult) (t2M Γ mMul) := opM (OpR.or op_mulW op_rep) Γ fun W st a b x y Q S ra rb h => by
  unfold mMul at h
  split at h
  · split at h
    · rename_i c
      cases ra; cases rb
      exact .inl ⟨_, _, rfl, rfl, c, W, rfl, post_val S h (.int _)⟩
    · exact h.elim
  · split at h
    · rename_i xs e
      split at h
      · rename_i c
        cases ra; cases rb
        obtain ⟨vs, hv, rv⟩ := lst_rel S e
        have e1 : (2 : Int) ^ 24 = 16777216 := by decide
        have e2 : (2 : Int) ^ 63 = 9223372036854775808 := by decide
        rw [e1] at c
        refine .inr ⟨_, _, vs, rfl, rfl, hv, by rw [e2]; omega, by rw [e2]; omega, by rw [← rv.length, ← ln_eq]; exact c.2.1, fun p hp => ⟨_, rfl, post_lst S (rv.rep _) h hp⟩⟩
      · exact h.elim
    · exact h.elim
  · exact h.elim
theorem sd_add (hK : Γ.K = X.K) : OpR X (binaryOp .Add) (t2M Γ mAdd) := opM (OpR.or (OpR.or op_add op_add_str) (OpR.or (op_catT (X := X)) op_cat)) Γ fun W st a b x y Q S ra rb h => by
  unfold mAdd at h
  split at h
  · cases ra; cases rb
    exact .inl (.inl ⟨_, _, rfl, rfl, W, rfl, post_val S h (.int _)⟩)
  · split at h
    · rename_i c
      cases ra; cases rb
      exact .inl (.inr ⟨_, _, rfl, rfl, by rw [← ln_eq]; exact c, W, rfl, post_val S h (.str _)⟩)
    · exact h.elim
  · split at h
    · rename_i c
      cases ra with
      | tup h1 r1 =>
        cases rb with
        | tup h2 r2 =>
          rename_i vs _ ws
          have n1 : vs ≠ [] := fun z => by subst z; cases r1; exact c.1 rfl
          have n2 : ws ≠ [] := fun z => by subst z; cases r2; exact c.2.1 rfl
          exact .inr (.inl ⟨_, _, vs, ws, rfl, rfl, hK ▸ h1.sq, hK ▸ h2.sq, n1, by rw [← r1.length, ← r2.length, ← ln_eq]; exact c.2.2, fun z => absurd z n2, fun _ p hp => ⟨_, rfl, post_tup S (r1.append r2) h hp⟩⟩)
    · exact h.elim
  · split at h
    · rename_i xs ys e1 e2
      split at h
      · rename_i c
        cases ra; cases rb
        obtain ⟨vs, hv, rv⟩ := lst_rel S e1
        obtain ⟨ws, hw, rw'⟩ := lst_rel S e2
        exact .inr (.inr ⟨_, _, vs, ws, rfl, rfl, hv, hw, by rw [← rv.length, ← rw'.length, ← ln_eq]; exact c, fun p hp => ⟨_, rfl, post_lst S (rv.append rw') h hp⟩⟩)
      · exact h.elim
    · exact h.elim
  · exact h.elim
/-- an operator of two places -/
def mBin (o : Operator) : M2 := match o with
  | .Add => mAdd | .Sub => mSub | .Mult => mMul | .FloorDiv => mDiv | .Mod => mMod | .Pow => mPow
  | _ => fun _ _ _ => .stk
theorem sd_bin (hK : Γ.K = X.K) (o : Operator) : OpR X (binaryOp o) (t2M Γ (mBin o)) := by
  cases o with
  | Add => exact sd_add hK
  | Sub => exact sd_sub
  | Mult => exact sd_mul
  | FloorDiv => exact sd_div
  | Mod => exact sd_mod
  | Pow => exact sd_pow
  | _ => exact fun pn s σ H x y v u Q I rx ry ⟨W, st, a, b, e, S, ra, rb, h⟩ => h.elim
end
end Mn
/-! Mn3: comparisons, truth, items, slices, built-ins. -/
namespace Mn
open PySem PySem.Spec
                      PyProof.Rows L2

abbrev DF : Nat := 40

section
variable {Γ : Gm} {W : Wd} {st : Store}
theorem dat_dp (S : SR Γ W st) : ∀ (n : Nat) {x : MV} {v : V} {d : PyData}, VR Γ W x v → dat st n x = some d → d.hasDict = false → Dp Γ.K W.H v d := by
  intro n
  induction n with
  | zero =>
    intro x v d r h hd
    cases r with
    | non => cases h; exact .non
    | bl b => cases h; exact .bl b
    | int i => cases h; exact .int i
    | str s => cases h; exact .str s
    | _ => cases h
  | succ n ih =>
    have all : ∀ {xs : List MV} {vs : List V} {ds : List PyData}, VRs Γ W xs vs → mapO (dat st n) xs = some ds → PyData.hasDictAll ds = false → DpAll Γ.K W.H vs ds := by
      intro xs
      induction xs with
      | nil => intro vs ds r h hd; cases r; cases h; exact .nil
      | cons x xs ihx =>
        intro vs ds r h hd
        cases r with
        | cons r1 r2 =>
          unfold mapO at h
          split at h
          · rename_i y ys h1 h2
            cases h
            rw [PyData.hasDictAll, Bool.or_eq_false_iff] at hd
            exact .cons (ih r1 h1 hd.1) (ihx r2 h2 hd.2)
          · cases h
    intro x v d r h hd
    cases r with
    | non => cases h; exact .non
    | bl b => cases h; exact .bl b
    | int i => cases h; exact .int i
    | str s => cases h; exact .str s
    | tup h1 h2 =>
      rename_i xs a vs
      have h' : (mapO (dat st n) xs).map PyData.tuple = some d := h
      cases e : mapO (dat st n) xs with
      | none =>
                rw [e] at h'; cases h'
      | some ds =>
        rw [e] at h'
        cases h'
        exact .tup h1.sq (all h2 e (by rw [PyData.hasDict] at hd; exact hd))
    | ref hk =>
      rename_i k
      have go : ∀ xs, seqL st (.ref k) = some xs → (mapO (dat st n) xs).map PyData.list = some d → Dp Γ.K W.H (.ref (W.ρ k)) d := by
        intro xs hs h
        obtain ⟨a, vs, ea, hq, rv⟩ := seqL_rel S (.ref hk) hs
        cases ea
        cases e : mapO (dat st n) xs with
        | none =>
                  rw [e] at h; cases h
        | some ds =>
          rw [e] at h
          cases h
          exact .lst hq (all rv e (by rw [PyData.hasDict] at hd; exact hd))
      cases e : st[k]? with
      | none => simp only [dat, e] at h; cases h
      | some o =>
        simp only [dat, e] at h
        cases o with
        | lst xs => exact go xs (by simp only [seqL, e]) h
        | frz xs => exact go xs (by simp only [seqL, e]) h
        | ins _ _ => cases h
        | dct kvs =>
          cases kvs with
          | nil => cases h; rw [PyData.hasDict] at hd; cases hd
          | cons _ _ => cases h
    | _ => cases h
end

/-! ### comparisons -/
def eqD (st : Store) (x y : MV) : Option Bool := match dat st DF x, dat st DF y with
  | some d, some e => if SeqAt.shaped d && SeqAt.shaped e then some (PyData.eqv d e) else none
  | _, _ => none
def isNon : MV → Bool
  | .non => true
  | _ => false
def flat : MV → Option V
  | .non => some .non
  | .bl b => some (.bl b)
  | .int i => some (.int i)
  | .str s => some (.str s)
  | _ => none
def seqA (st : Store) (x : MV) : Option (List MV) := match seqL st x with
  | some xs => some xs
  | none => seqT x
def inD (st : Store) (x y : MV) : Option Bool := match flat x, seqA st y with
  | some v, some xs => (mapO flat xs).map fun vs => inV v vs
  | _, _ => none
def bR (st : Store) (o : Option Bool) : R MV := match o with
  | some b => .ok (.bl b) st
  | none => .stk
def mCmp (op : CmpOp) : M2 := fun st x y => match op with
  | .Eq => bR st (eqD st x y)
  | .NotEq => bR st ((eqD st x y).map (!·))
  | .Lt => match x, y with
    | .int i, .int j => .ok (.bl (decide (i < j))) st
    | _, _ => .stk
  | .LtE => match x, y with
    | .int i, .int j => .ok (.bl (decide (i ≤ j))) st
    | _, _ => .stk
  | .Gt => match x, y with
    | .int i, .int j => .ok (.bl (decide (j < i))) st
    | _, _ => .stk
  | .GtE => match x, y with
    | .int i, .int j => .ok (.bl (decide (j ≤ i))) st
    | _, _ => .stk
  | .Is => if isNon y then .ok (.bl (isNon x)) st else .stk
  | .IsNot => if isNon y then .ok (.bl (!isNon x)) st else .stk
  | .In => bR st (inD st x y)
  | .NotIn => bR st ((inD st x y).map (!·))
section
variable {Γ : Gm} {W : Wd} {st : Store} {X : Cx}
theorem isNon_rel {x : MV} {v : V} (r : VR Γ W x v) : isNon x = decide (v = .non) := by
  cases r <;> simp [isNon]
theorem non_of {x : MV} {v : V} (r : VR Γ W x v) (h : isNon x = true) : v = .non := by
  cases r with
  | non => rfl
  | _ => cases h
theorem flat_rel {x : MV} {v y : V} (r : VR Γ W x v) (h : flat x = some y) : v = y ∧ flatV y = true := by
  cases r with
  | non => cases h; exact ⟨rfl, rfl⟩
  | bl b => cases h; exact ⟨rfl, rfl⟩
  | int b => cases h; exact ⟨rfl, rfl⟩
  | str b => cases h; exact ⟨rfl, rfl⟩
  | _ => cases h
theorem flats_rel : ∀ {xs : List MV} {vs ys : List V}, VRs Γ W xs vs → mapO flat xs = some ys → vs = ys ∧ ys.all flatV = true
  | [], _, _, .nil, h => by cases h; exact ⟨rfl, rfl⟩
  | x :: xs, _, _, .cons a b, h => by
    unfold mapO at h
    split at h
    · rename_i y ys h1 h2
      cases h
      obtain ⟨e1, f1⟩ := flat_rel a h1
      obtain ⟨e2, f2⟩ := flats_rel b h2
      subst e1; subst e2
      exact ⟨rfl, by rw [List.all_cons, f1, f2]; rfl⟩
    · cases h
theorem seqA_rel (S : SR Γ W st) {x : MV} {v : V} {xs : List MV} (r : VR Γ W x v) (h : seqA st x = some xs) : ∃ a vs, v = .ref a ∧ (SqL Γ.K W.H a vs ∨ SqT Γ.K W.H a vs) ∧ VRs Γ W xs vs := by
  unfold seqA at h
  split at h
  · rename_i ys e
    cases h
    obtain ⟨a, vs, e1, h1, h2⟩ := seqL_rel S r e
    exact ⟨a, vs, e1, .inl h1, h2⟩
  · obtain ⟨a, vs, e1, h1, h2⟩ := seqT_rel r h
    exact ⟨a, vs, e1, .inr h1.sq, h2⟩
theorem eqD_rel (S : SR Γ W st) {x y : MV} {u v : V} {c : Bool} (rx : VR Γ W x u) (ry : VR Γ W y v) (h : eqD st x y = some c) :
    ∃ d e, Dp Γ.K W.H u d ∧ Dp Γ.K W.H v e ∧ SeqAt.shaped d = true ∧ SeqAt.shaped e = true ∧ c = PyData.eqv d e := by
  unfold eqD at h
  split at h
  · rename_i d e hd he
    split at h
    · rename_i q
      cases h
      rw [Bool.and_eq_true] at q
      exact ⟨d, e, dat_dp S _ rx hd (PyData.hasDict_of_canLay d (SeqAt.canLay_of_shaped q.1)), dat_dp S _ ry he (PyData.hasDict_of_canLay e (SeqAt.canLay_of_shaped q.2)), q.1, q.2, rfl⟩
    · cases h
  · cases h
theorem inD_rel (S : SR Γ W st) {x y : MV} {u v : V} {c : Bool} (rx : VR Γ W x u) (ry : VR Γ W y v) (h : inD st x y = some c) :
    ∃ p vs, v = .ref p ∧ (SqL Γ.K W.H p vs ∨ SqT Γ.K W.H p vs) ∧ flatV u = true ∧ vs.all flatV = true ∧ c = inV u vs := by
  unfold inD at h
  split at h
  · rename_i w xs h1 h2
    obtain ⟨a, vs, e1, hq, rv⟩ := seqA_rel S ry h2
    obtain ⟨e2, f2⟩ := flat_rel rx h1
    cases e : mapO flat xs with
    | none =>
              rw [e] at h; cases h
    | some ys =>
      rw [e] at h
      cases h
      obtain ⟨e3, f3⟩ := flats_rel rv e
      subst e2; subst e3
      exact ⟨a, vs, e1, hq, f2, f3, rfl⟩
  · cases h
theorem bR_some {o : Option Bool} {Wx : Value → Option Addr → Hp → Prop} {Q : V → Wd → Prop} (S : SR Γ W st) (h : Post Γ W (VR Γ) Wx (bR st o) Q) : ∃ b, o = some b ∧ Q (.bl b) W := by
  cases o with
  | none => exact h.elim
  | some b => exact ⟨b, rfl, post_val S h (.bl b)⟩
theorem sd_cmp (hK : Γ.K = X.K) (hu : X.A.units + 64 < cLine) (op : CmpOp) : OpR X (compareOp op) (t2M Γ (mCmp op)) := by
  cases op with
  | Eq =>
    refine opM (op_eqD hu) Γ fun W st a b x y Q S ra rb h => ?_
    obtain ⟨c, e, q⟩ := bR_some S h
    obtain ⟨d1, d2, h1, h2, s1, s2, rfl⟩ := eqD_rel S ra rb e
    exact ⟨d1, d2, hK ▸ h1, hK ▸ h2, s1, s2, W, rfl, q⟩
  | NotEq =>
    refine opM (op_neD hu) Γ fun W st a b x y Q S ra rb h => ?_
    obtain ⟨c, e, q⟩ := bR_some S h
    cases e' : eqD st a b with
    | none => rw [e'] at e; cases e
    | some c' =>
      rw [e'] at e
      cases e
      obtain ⟨d1, d2, h1, h2, s1, s2, rfl⟩ := eqD_rel S ra rb e'
      exact ⟨d1, d2, hK ▸ h1, hK ▸ h2, s1, s2, W, rfl, q⟩
  | Lt =>
    refine opM op_lt Γ fun W st a b x y Q S ra rb h => ?_
    simp only [mCmp] at h
    split at h
    · cases ra; cases rb; exact ⟨_, _, rfl, rfl, W, rfl, post_val S h (.bl _)⟩
    · exact h.elim
  | LtE =>
    refine opM op_le Γ fun W st a b x y Q S ra rb h => ?_
    simp only [mCmp] at h
    split at h
    · cases ra; cases rb; exact ⟨_, _, rfl, rfl, W, rfl, post_val S h (.bl _)⟩
    · exact h.elim
  | Gt =>
    refine opM op_gt Γ fun W st a b x y Q S ra rb h => ?_
    simp only [mCmp] at h
    split at h
    · cases ra; cases rb; exact ⟨_, _, rfl, rfl, W, rfl, post_val S h (.bl _)⟩
    · exact h.elim
  | GtE =>
    refine opM op_ge Γ fun W st a b x y Q S ra rb h => ?_
    simp only [mCmp] at h
    split at h
    · cases ra; cases rb; exact ⟨_, _, rfl, rfl, W, rfl, post_val S h (.bl _)⟩
    · exact h.elim
  | Is =>
    refine opM op_isN Γ fun W st a b x y Q S ra rb h => ?_
    simp only [mCmp] at h
    split at h
    · rename_i c
      refine ⟨non_of rb c, W, rfl, ?_⟩
      rw [← isNon_rel ra]
      exact post_val S h (.bl _)
    · exact h.elim
  | IsNot =>
    refine opM op_notN Γ fun W st a b x y Q S ra rb h => ?_
    simp only [mCmp] at h
    split at h
    · rename_i c
      refine ⟨non_of rb c, W, rfl, ?_⟩
      rw [← isNon_rel ra]
      exact post_val S h (.bl _)
    · exact h.elim
  | In =>
    refine opM (op_in_seq (X := X)) Γ fun W st a b x y Q S ra rb h => ?_
    obtain ⟨c, e, q⟩ := bR_some S h
    obtain ⟨p, vs, rfl, hq, f1, f2, rfl⟩ := inD_rel S ra rb e
    exact ⟨p, vs, rfl, hK ▸ hq, f1, f2, W, rfl, q⟩
  | NotIn =>
    refine opM (op_notIn_seq (X := X)) Γ fun W st a b x y Q S ra rb h => ?_
    obtain ⟨c, e, q⟩ := bR_some S h
    cases e' : inD st a b with
    | none => rw [e'] at e; cases e
    | some c' =>
      rw [e'] at e
      cases e
      obtain ⟨p, vs, rfl, hq, f1, f2, rfl⟩ := inD_rel S ra rb e'
      exact ⟨p, vs, rfl, hK ▸ hq, f1, f2, W, rfl, q⟩

/-! ### truth -/
end
def tru (st : Store) : MV → Option Bool
  | .non => some false
  | .bl b => some b
  | .int i => some (i != 0)
  | .str s => if s.length ≤ LN then some ((s.length : Int) != 0) else none
  | .tup xs => some (!xs.isEmpty)
  | .ref k => match st[k]? with
    | some (.lst xs) => some (!xs.isEmpty)
    | some (.frz xs) => some (!xs.isEmpty)
    | some (.dct kvs) => some (!kvs.isEmpty)
    | _ => none
  | _ => none
section
variable {Γ : Gm} {W : Wd} {st : Store} {X : Cx}
theorem VRs.isEmpty {xs : List MV} {vs : List V} (r : VRs Γ W xs vs) : vs.isEmpty = xs.isEmpty := by cases r <;> rfl
theorem tru_rel (S : SR Γ W st) {x : MV} {v : V} {k : Bool} (r : VR Γ W x v) (h : tru st x = some k) : TruV Γ.K v W.H k := by
  cases r with
  | non => cases h; exact rfl
  | bl b => cases h; exact rfl
  | int b => cases h; exact rfl
  | str s =>
    simp only [tru] at h
    split at h
    · cases h; exact ⟨by rw [← ln_eq]; assumption, rfl⟩
    · cases h
  | tup h1 h2 => cases h; exact .inr (.inl ⟨_, h1.sq, by rw [h2.isEmpty]⟩)
  | ref hk =>
    rename_i j
    cases e : st[j]? with
    | none => simp only [tru, e] at h; cases h
    | some o =>
      simp only [tru, e] at h
      obtain ⟨u, hu, q⟩ := S.at_ j o e
      cases q with
      | lst r => cases h; exact .inl ⟨_, .inl (.inl hu), by rw [r.isEmpty]⟩
      | frz r => cases h; exact .inl ⟨_, .inl (.inr ⟨_, hu⟩), by rw [r.isEmpty]⟩
      | ins _ _ => cases h
      | dct e1 r =>
        rename_i kvs gs
        cases h
        refine .inr (.inr ⟨_, hu, ?_⟩)
        cases kvs with
        | nil => cases gs with
          | nil => rfl
          | cons _ _ => cases e1
        | cons _ _ => cases gs with
          | nil => cases e1
          | cons _ _ => rfl
  | _ => cases h

/-! ### items and slices -/
theorem atI_rel {xs : List MV} {vs : List V} {i : Int} {x : MV} (r : VRs Γ W xs vs) (h : atI xs i = some x) : ∃ v, atI vs i = some v ∧ VR Γ W x v := by
  unfold atI at h ⊢
  rw [← r.length]
  cases e : ixN
                xs.length i with
  | none =>
            rw [e] at h; cases h
  | some j =>
    rw [e] at h
    exact r.get h
end
def mIx : M2 := fun st x y => match y with
  | .int i => match x with
    | .str z => if z.length ≤ LN then match atI z.cps.toList i with
      | some c => .ok (.str ⟨#[c]⟩) st
      | none => .stk
      else .stk
    | x => match seqA st x with
      | some xs => match atI xs i with
        | some v => .ok v st
        | none => .stk
      | none => .stk
  | _ => .stk
def cutM (xs : List MV) (lo hi : Option Int) : List MV := (xs.drop (HT.sIx xs.length 0 lo)).take (HT.sIx xs.length xs.length hi - HT.sIx xs.length 0 lo)
def mSl (st : Store) (x : MV) (lo hi : Option Int) : R MV := match x with
  | .str z => if z.length ≤ LN then .ok (.str (cutS z lo hi)) st else .stk
  | .tup xs => if HT.sIx xs.length 0 lo = 0 ∧ HT.sIx xs.length xs.length hi = xs.length then .stk else .ok (.tup (cutM xs lo hi)) st
  | x => match seqL st x with
    | some xs => .ok (.ref st.length) (st ++ [.lst (cutM xs lo hi)])
    | none => .stk
/-- x[i] = v -/
def mSet (st : Store) (x i v : MV) : R Unit := match x, i with
  | .ref k, .int j => match st[k]? with
    | some (.lst xs) => match ixN xs.length j with
      | some n => .ok () (st.set k (.lst (xs.set n v)))
      | none => .stk
    | _ => .stk
  | _, _ => .stk
section
variable {Γ : Gm} {W : Wd} {st : Store} {X : Cx}
theorem cut_rel {xs : List MV} {vs : List V} (r : VRs Γ W xs vs) (lo hi : Option Int) : VRs Γ W (cutM xs lo hi) (cutV vs lo hi) := by
  unfold cutM cutV
  rw [← r.length]
  exact (r.drop _).take _
theorem sd_ix (hK : Γ.K = X.K) : IxR X (t2M Γ mIx) := by
  intro value slice pn s σ H x y v u Q I rx ry ⟨W, st, a, b, e0, S, ra, rb, h⟩ hs
  subst e0
  refine ix_seq (X := X) value slice pn s σ W.H x y v u Q I rx ry ?_ hs
  unfold mIx at h
  split at h
  · cases rb
    split at h
    · split at h
      · rename_i c1
        split at h
        · rename_i c2
          cases ra
          exact .inr (.inr ⟨_, _, _, rfl, rfl, by rw [← ln_eq]; exact c1, c2, post_val S h (.str _)⟩)
        · exact h.elim
      · exact h.elim
    · split at h
      · rename_i xs e
        split at h
        · rename_i z e2
          obtain ⟨p, vs, rfl, hq, rv⟩ := seqA_rel S ra e
          obtain ⟨w, hw, rw'⟩ := atI_rel rv e2
          rcases hq with hq | hq
          · exact .inl ⟨p, vs, _, w, rfl, rfl, hK ▸ hq, hw, post_val S h rw'⟩
          · exact .inr (.inl ⟨p, vs, _, w, rfl, rfl, hK ▸ hq, hw, post_val S h rw'⟩)
        · exact h.elim
      · exact h.elim
  · exact h.elim
def tSlM (Γ : Gm) : V → Option Int → Option Int → Hp → VK → Prop := fun x lo hi H Q => ∃ (W : Wd) (st : Store) (a : MV), W.H = H ∧ SR Γ W st ∧ VR Γ W a x ∧ Post Γ W (VR Γ) (fun _ _ _ => False) (mSl st a lo hi) (fun v W => Q v W.H)
theorem sd_sl (hK : Γ.K = X.K) : SlR X (tSlM Γ) := by
  intro pn s σ H x v vl vu lo hi sl Q I rx hsl pl pu ⟨W, st, a, e0, S, ra, h⟩
  subst e0
  refine SlR.or (X := X) sl_list (SlR.or sl_tup sl_str) pn s σ W.H x v vl vu lo hi sl Q I rx hsl pl pu ?_
  unfold mSl at h
  split at h
  · split at h
    · rename_i c
      cases ra
      exact .inr (.inr ⟨_, rfl, by rw [← ln_eq]; exact c, post_val S h (.str _)⟩)
    · exact h.elim
  · split at h
    · exact h.elim
    · rename_i c
      cases ra with
      | tup h1 r1 =>
        refine .inr (.inl ⟨_, _, rfl, hK ▸ h1.sq, by rw [← r1.length]; exact c, fun p hp => post_tup S (cut_rel r1 lo hi) h hp⟩)
  · split at h
    · rename_i xs e
      obtain ⟨p, vs, rfl, hq, rv⟩ := seqL_rel S ra e
      exact .inl ⟨p, vs, rfl, hK ▸ hq, fun q hq' => post_lst S (cut_rel rv lo hi) h hq'⟩
    · exact h.elim
def tSetM (Γ : Gm) : TSet := fun o i v H Q => ∃ (W : Wd) (st : Store) (a b c : MV), W.H = H ∧ SR Γ W st ∧ VR Γ W a o ∧ VR Γ W b i ∧ VR Γ W c v ∧
  Post Γ W (fun _ _ (_ : Unit) => True) (fun _ _ _ => False) (mSet st a b c) (fun _ W => Q W.H)
theorem sd_set : PSet X (tSetM Γ) := by
  intro pn s σ H o i v ov iv vv Q I ro ri rv' ⟨W, st, a, b, c, e0, S, ra, rb, rc, h⟩
  subst e0
  refine set_list pn s σ W.H o i v ov iv vv Q I ro ri rv' ?_
  unfold mSet at h
  split at h
  · split at h
    · rename_i xs e
      split at h
      · rename_i n en
        cases ra; cases rb
        obtain ⟨vs, hv, rv⟩ := lst_rel S e
        refine ⟨_, vs, _, n, rfl, rfl, hv, by rw [← rv.length]; exact en, ?_⟩
        exact h _ () (le_set S e True.intro) (S.set e True.intro (.lst ((VRs.set rc n rv).mono (le_set S e True.intro)))) True.intro
      · exact h.elim
    · exact h.elim
  · exact h.elim
end
end Mn
/-! Mn4: built-in functions. -/
namespace Mn
open PySem PySem.Spec
                      PyProof.Rows L2

/-! ### data as the text's repr reads it -/
section
variable {Γ : Gm} {W : Wd} {st : Store} {X : Cx}
theorem dat_reads (hK : Γ.K = X.K) {pn : List (Addr × Obj)} {σ : L2.St} {s : Shared} (I : Inv X pn σ W.H s) (S : SR Γ W st) :
    ∀ (n : Nat) {x : MV} {v : V} {u : Value} {d : PyData}, VR Γ W x v → RelV v u → dat st n x = some d → ∃ as, Reads s.heap u d as ∧ sysModules ∉ as := by
  intro n
  induction n with
  | zero =>
    intro x v u d r q h
    cases r with
    | non => cases h; cases q; exact ⟨_, .none, List.not_mem_nil⟩
    | bl b => cases h; cases q; exact ⟨_, .bool b, List.not_mem_nil⟩
    | int i => cases h; obtain ⟨t, rfl⟩ := q; exact ⟨_, .int i t, List.not_mem_nil⟩
    | str s => cases h; obtain ⟨t, rfl⟩ := q; exact ⟨_, .str s t, List.not_mem_nil⟩
    | _ => cases h
  | succ n ih =>
    have all : ∀ {xs : List MV} {vs : List V} {us : List Value} {ds : List PyData}, VRs Γ W xs vs → Vals vs us → mapO (dat st n) xs = some ds → ∃ as, ReadsAll s.heap us ds as ∧ sysModules ∉ as := by
      intro xs
      induction xs with
      | nil => intro vs us ds r q h; cases r; cases q; cases h; exact ⟨_, .nil, List.not_mem_nil⟩
      | cons x xs ihx =>
        intro vs us ds r q h
        cases r with
        | cons r1 r2 =>
          cases q with
          | cons q1 q2 =>
            unfold mapO at h
            split at h
            · rename_i y ys h1 h2
              cases h
              obtain ⟨as, a1, a2⟩ := ih r1 q1 h1
              obtain ⟨bs, b1, b2⟩ := ihx r2 q2 h2
              exact ⟨_, .cons a1 b1, fun z => (List.mem_append.mp z).elim a2 b2⟩
            · cases h
    intro x v u d r q h
    cases r with
    | non => cases h; cases q; exact ⟨_, .none, List.not_mem_nil⟩
    | bl b => cases h; cases q; exact ⟨_, .bool b, List.not_mem_nil⟩
    | int i => cases h; obtain ⟨t, rfl⟩ := q; exact ⟨_, .int i t, List.not_mem_nil⟩
    | str s => cases h; obtain ⟨t, rfl⟩ := q; exact ⟨_, .str s t, List.not_mem_nil⟩
    | tup h1 h2 =>
      rename_i xs a vs
      cases q
      have h' : (mapO (dat st n) xs).map PyData.tuple = some d := h
      cases e : mapO (dat st n) xs with
      | none =>
                rw [e] at h'; cases h'
      | some ds =>
        rw [e] at h'
        cases h'
        obtain ⟨its, rv, ⟨o, ho, hc, m, hd⟩, _⟩ := I.tuple (hK ▸ h1.sq)
        obtain ⟨as, a1, a2⟩ := all h2 rv e
        exact ⟨_, .tuple ho hc hd a1, a2⟩
    | ref hk =>
      rename_i k
      cases q
      have go : ∀ xs o, st[k]? = some o → seqL st (.ref k) = some xs → (mapO (dat st n) xs).map PyData.list = some d → ∃ as, Reads s.heap (.ref (W.ρ k)) d as ∧ sysModules ∉ as := by
        intro xs o he hs h
        obtain ⟨a, vs, ea, hq, rv⟩ := seqL_rel S (.ref hk) hs
        cases ea
        cases e : mapO (dat st n) xs with
        | none =>
                  rw [e] at h; cases h
        | some ds =>
          rw [e] at h
          cases h
          obtain ⟨its, rv', ⟨ob, m, hob, hcl, _, hdt⟩, _⟩ := I.list (hK ▸ hq)
          obtain ⟨as, a1, a2⟩ := all rv rv' e
          refine ⟨_, .list hob hcl hdt a1, fun z => ?_⟩
          rcases List.mem_cons.mp
                                  z with z | z
          · exact S.nsys he z
          · exact a2 z
      cases e : st[k]? with
      | none => simp only [dat, e] at h; cases h
      | some o =>
        simp only [dat, e] at h
        cases o with
        | lst xs => exact go xs _ e (by simp only [seqL, e]) h
        | frz xs => exact go xs _ e (by simp only [seqL, e]) h
        | ins _ _ => cases h
        | dct kvs =>
          cases kvs with
          | cons _ _ => cases h
          | nil =>
            cases h
            obtain ⟨w, hw, q⟩ := S.at_ k _ e
            cases q with
            | dct e1 r =>
              rename_i gs
              cases gs with
              | cons _ _ => cases e1
              | nil =>
                obtain ⟨_, hS, vs, hkv, o, es, ep, h1, h2, h3, _, h5, _⟩ : (0 : Nat) ≤ sizeLine ∧ (W.ρ k == sysModules) = false ∧ ∃ vs, KV [] vs ∧ s.heap.DictOf (mixKind X.prog X.w) (W.ρ k) vs := I.hok _ _ hw
                cases hkv
                have he : es.toList = [] := by
                  cases e2 : es.toList with
                  | nil => rfl
                  | cons a b => rw [e2] at h5; cases h5
                refine ⟨W.ρ k :: [] ++ [], .dict h1 h2.1 h3 (by rw [he]; exact .nil) (by rw [he]; exact .nil), fun z => ?_⟩
                have z' : sysModules = W.ρ k := by simpa using z
                rw [← z'] at hS
                simp at hS
    | _ => cases h
end

/-! ### room, with no repr under way -/
structure RoomG (k : Nat) (A : Around) : Prop where
  room : Room k A
  gd : A.guards = some []
theorem RoomG.mono {j k : Nat} {A : Around} (r : RoomG k A) (h : j ≤ k) : RoomG j A := ⟨r.room.mono h, r.gd⟩

/-! ### the built-in functions -/
inductive BF where
  | len | abs | int | bool | max | min | sum | all | any | list | tuple | divmod | repr | gcd | lcm
  deriving DecidableEq
/-- one that runs a part of its own -/
def BF.loud : BF → Bool
  | .max | .min | .sum | .all | .any => true
  | _ => false
def BF.val : BF → Value
  | .len => .builtin "len" | .abs => .builtin "abs" | .int => .type "int" | .bool => .type "bool" | .max => .builtin "max" | .min => .builtin "min" | .sum => .builtin "sum"
  | .all => .builtin "all" | .any => .builtin "any" | .list => .type "list" | .tuple => .type "tuple" | .divmod => .builtin "divmod" | .repr => .builtin "repr" | .gcd => .builtin "math.gcd" | .lcm => .builtin "math.lcm"
def intO : MV → Option Int
  | .int i => some i
  | _ => none
def blO : MV → Option Bool
  | .bl b => some b
  | _ => none
def maxL (n : Int) (ns : List Int) : Int := ns.foldl (fun a b => if a < b then b else a) n
def minL (n : Int) (ns : List Int) : Int := ns.foldl (fun a b => if b < a then b else a) n
def mB (f : BF) : MA := fun st as => match f with
  | .len => match as with
    | [.str z] => if z.length ≤ LN then .ok (.int z.length) st else .stk
    | [x] => match seqA st x with
      | some xs => .ok (.int xs.length) st
      | none => .stk
    | _ => .stk
  | .abs => match as with
    | [.int i] => .ok (.int (if i < 0 then -i else i)) st
    | _ => .stk
  | .int => match as with
    | [.int i] => .ok (.int i) st
    | [.bl k] => .ok (.int (if k then 1 else 0)) st
    | _ => .stk
  | .bool => match as with
    | [.int i] => .ok (.bl (i != 0)) st
    | [.bl k] => .ok (.bl k) st
    | _ => .stk
  | .max => match as with
    | [.int i, .int j] => .ok (.int (if j > i then j else i)) st
    | [x] => match (seqL st x).bind (mapO intO) with
      | some (n :: ns) => .ok (.int (maxL n ns)) st
      | _ => .stk
    | _ => .stk
  | .min => match as with
    | [.int i, .int j] => .ok (.int (if j < i then j else i)) st
    | [x] => match (seqL st x).bind (mapO intO) with
      | some (n :: ns) => .ok (.int (minL n ns)) st
      | _ => .stk
    | _ => .stk
  | .sum => match as with
    | [x] => match (seqL st x).bind (mapO intO) with
      | some ns => .ok (.int ns.sum) st
      | none => .stk
    | _ => .stk
  | .all => match as with
    | [x] => match (seqL st x).bind (mapO blO) with
      | some bs => .ok (.bl (bs.all _root_.id)) st
      | none => .stk
    | _ => .stk
  | .any => match as with
    | [x] => match (seqL st x).bind (mapO blO) with
      | some bs => .ok (.bl (bs.any _root_.id)) st
      | none => .stk
    | _ => .stk
  | .list => match as with
    | [x] => match seqA st x with
      | some xs => .ok (.ref st.length) (st ++ [.lst xs])
      | none => .stk
    | _ => .stk
  | .tuple => match as with
    | [x] => match seqA st x with
      | some xs => .ok (.tup xs) st
      | none => .stk
    | _ => .stk
  | .divmod => match as with
    | [.int i, .int j] => if 0 < j ∧ j.natAbs.log2 < 9000 then .ok (.tup [.int (i / j), .int (i % j)]) st else .stk
    | _ => .stk
  | .repr => match as with
    | [x] => match dat st DF x with
      | some d => if d.showable = true ∧ d.shown.length ≤ LN ∧ d.depth ≤ DF then .ok (.str d.shown) st else .stk
      | none => .stk
    | _ => .stk
  | .gcd => match as with
    | [.int i, .int j] => .ok (.int ((Nat.gcd i.natAbs j.natAbs : Nat) : Int)) st
    | _ => .stk
  | .lcm => match as with
    | [.int i, .int j] => if (max 1 i.natAbs).log2 ≤ 13000 ∧ (max i.natAbs j.natAbs).log2 ≤ 13000 ∧ (Nat.lcm i.natAbs j.natAbs).log2 ≤ 30000 then .ok (.int ((Nat.lcm i.natAbs j.natAbs : Nat) : Int)) st else .stk
    | _ => .stk
section
variable {Γ : Gm} {W : Wd} {st : Store} {X : Cx}
theorem ints_rel : ∀ {xs : List MV} {vs : List V} {ns : List Int}, VRs Γ W xs vs → mapO intO xs = some ns → vs = ns.map V.int
  | [], _, _, .nil, h => by cases h; rfl
  | x :: xs, _, _, .cons a b, h => by
    unfold mapO at h
    split at h
    · rename_i y ys h1 h2
      cases h
      cases a with
      | int i => cases h1; rw [ints_rel b h2]; rfl
      | _ => cases h1
    · cases h
theorem bls_rel : ∀ {xs : List MV} {vs : List V} {ns : List Bool}, VRs Γ W xs vs → mapO blO xs = some ns → vs = ns.map V.bl
  | [], _, _, .nil, h => by cases h; rfl
  | x :: xs, _, _, .cons a b, h => by
    unfold mapO at h
    split at h
    · rename_i y ys h1 h2
      cases h
      cases a with
      | bl i => cases h1; rw [bls_rel b h2]; rfl
      | _ => cases h1
    · cases h
theorem maxL_max : ∀ (ns : List Int) (n m : Int), m ∈ n :: ns → (∀ y, y ∈ n :: ns → y ≤ m) → m = maxL n ns
  | [], n, m, h, _ => by simpa [maxL] using h
  | k :: ns, n, m, h, h2 => by
    show m = maxL (if n < k then k else n) ns
    have a := h2 n (by simp)
    have b := h2 k (by simp)
    refine maxL_max ns _ m ?_ fun y hy => ?_
    · rcases List.mem_cons.mp h with e | e
      · subst e
        by_cases q : m < k
        · omega
        · rw [if_neg q]; simp
      · rcases List.mem_cons.mp
                                e with e | e
        · subst e
          by_cases q : n < m
          · rw [if_pos q]; simp
          · have : n = m := by omega
            rw [if_neg q, this]; simp
        · exact List.mem_cons_of_mem _ e
    · rcases List.mem_cons.mp hy with e | e
      · rw [e]; split <;> assumption
      · exact h2 y (by simp [e])
theorem minL_min : ∀ (ns : List Int) (n m : Int), m ∈ n :: ns → (∀ y, y ∈ n :: ns → m ≤ y) → m = minL n ns
  | [], n, m, h, _ => by simpa [minL] using h
  | k :: ns, n, m, h, h2 => by
    show m = minL (if k < n then k else n) ns
    have a := h2 n (by simp)
    have b := h2 k (by simp)
    refine minL_min ns _ m ?_ fun y hy => ?_
    · rcases List.mem_cons.mp h with e | e
      · subst e
        by_cases q : k < m
        · omega
        · rw [if_neg q]; simp
      · rcases List.mem_cons.mp
                                e with e | e
        · subst e
          by_cases q : m < n
          · rw [if_pos q]; simp
          · have : n = m := by omega
            rw [if_neg q, this]; simp
        · exact List.mem_cons_of_mem _ e
    · rcases List.mem_cons.mp hy with e | e
      · rw [e]; split <;> assumption
      · exact h2 y (by simp [e])
theorem vrs1 {x : MV} {vs : List V} (r : VRs Γ W [x] vs) : ∃ v, vs = [v] ∧ VR Γ W x v := by
  cases r with
  | cons a b => cases b; exact ⟨_, rfl, a⟩
theorem vrs2 {x y : MV} {vs : List V} (r : VRs Γ W [x, y] vs) : ∃ v w, vs = [v, w] ∧ VR Γ W x v ∧ VR Γ W y w := by
  cases r with
  | cons a b =>
    obtain ⟨w, rfl, q⟩ := vrs1 b
    exact ⟨_, _, rfl, a, q⟩
theorem int_rel {i : Int} {v : V} (r : VR Γ W (.int i) v) : v = .int i := by cases r; rfl
theorem bl_rel {i : Bool} {v : V} (r : VR Γ W (.bl i) v) : v = .bl i := by cases r; rfl
theorem str_rel {i : Str} {v : V} (r : VR Γ W (.str i) v) : v = .str i := by cases r; rfl
theorem lints_rel (S : SR Γ W st) {x : MV} {v : V} {ns : List Int} (r : VR Γ W x v) (h : (seqL st x).bind (mapO intO) = some ns) : ∃ a, v = .ref a ∧ SqL Γ.K W.H a (ns.map V.int) := by
  cases e : seqL st x with
  | none =>
            rw [e] at h; cases h
  | some xs =>
    rw [e] at h
    obtain ⟨a, vs, rfl, h1, h2⟩ := seqL_rel S r e
    rw [ints_rel h2 h] at h1
    exact ⟨a, rfl, h1⟩
theorem lbls_rel (S : SR Γ W st) {x : MV} {v : V} {ns : List Bool} (r : VR Γ W x v) (h : (seqL st x).bind (mapO blO) = some ns) : ∃ a, v = .ref a ∧ SqL Γ.K W.H a (ns.map V.bl) := by
  cases e : seqL st x with
  | none =>
            rw [e] at h; cases h
  | some xs =>
    rw [e] at h
    obtain ⟨a, vs, rfl, h1, h2⟩ := seqL_rel S r e
    rw [bls_rel h2 h] at h1
    exact ⟨a, rfl, h1⟩
/-- repr of a value whose data are known -/
theorem call_reprD (hg : X.A.guards = some []) (hu : X.A.units + 64 < cLine) {pn : List (Addr × Obj)} {σ : L2.St} {H : Hp} {s : Shared} {u : Value} {d : PyData} {as : List Addr} {Q : VK} (I : Inv X pn σ H s) (r : Reads s.heap u d as) (hn : sysModules ∉ as)
    (h1 : d.showable = true) (h2 : d.shown.length ≤ sizeLine) (h3 : d.depth ≤ DF) (q : Q (.str d.shown) H) : wpAny (model X.prog X.w) X.A (call (.builtin "repr") [u]) (EP X pn σ Q) X.xe s := by
  have fin : ∀ (s' : Shared) (t : Tok), Inv X pn σ H s' → EP X pn σ Q (.str d.shown t) s' := fun s' t J => ⟨.str d.shown, H, J, ⟨t, rfl⟩, q⟩
  cases r with
  | none => exact PySem.P.repr_of_none (fin _ _ (I.tok _))
  | bool b => exact PySem.P.repr_of_bool (by have := fin _ s.toks (I.tok (s.toks + 1)); rw [PyData.shown_bool] at this; cases b <;> exact this)
  | int i t => exact PySem.P.repr_of_int (by simpa [PyData.showable] using h1) (by have := fin _ s.toks (I.tok (s.toks + 1)); rw [PyData.shown_int] at this; exact this)
  | str x t => exact PySem.P.repr_of_str (by have := fin _ s.toks (I.tok (s.toks + 1)); rw [PyData.shown_str] at this; exact this) (by rw [PyData.shown_str] at h2; exact h2)
  | list a b c e => exact repr_of_reads' (.list a b c e) h1 (fun _ => hn) hg (by have h4 : _ ≤ 40 := h3; omega) (fun _ _ z => z) (fun h' u tk k => fin _ _ (I.kept k)) h2
  | tuple a b c e => exact repr_of_reads' (.tuple a b c e) h1 (fun _ => hn) hg (by have h4 : _ ≤ 40 := h3; omega) (fun _ _ z => z) (fun h' u tk k => fin _ _ (I.kept k)) h2
  | dict a b c e f => exact repr_of_reads' (.dict a b c e f) h1 (fun _ => hn) hg (by have h4 : _ ≤ 40 := h3; omega) (fun _ _ z => z) (fun h' u tk k => fin _ _ (I.kept k)) h2
theorem sd_repr (hK : Γ.K = X.K) (hg : X.A.guards = some []) (hu : X.A.units + 64 < cLine) : CallR X (.builtin "repr") (tAM Γ (mB .repr)) := by
  intro pn s σ H xs us Q I rx ⟨W, st, as, e0, S, ra, h⟩
  subst e0
  simp only [mB] at h
  split at h
  · split at h
    · rename_i x d e
      split at h
      · rename_i c
        obtain ⟨v, rfl, rv⟩ := vrs1 ra
        obtain ⟨u, rfl, ru⟩ := vals1 rx
        obtain ⟨bs, h1, h2⟩ := dat_reads hK I S DF rv ru e
        exact call_reprD hg hu I h1 h2 c.1 (by rw [← ln_eq]; exact c.2.1) c.2.2 (post_val S h (.str _))
      · exact h.elim
    · exact h.elim
  · exact h.elim
theorem sd_divmod (W : Wd) {st : Store} {i j : Int} {Wx : Value → Option Addr → Hp → Prop} {Q : V → Wd → Prop} (S : SR Γ W st) (h : Post Γ W (VR Γ) Wx (.ok (.tup [.int (i / j), .int (i % j)]) st) Q) {p : Addr} (hp : W.H p = none) : Q (.ref p) (W.side p (.tup [.int (i / j), .int (i % j)])) :=
  post_tup S (.cons (.int _) (.cons (.int _) .nil)) h hp
def rLcm : List V → Hp → VK → Prop := fun vs H Q => ∃ a b : Int, vs = [.int a, .int b] ∧ (max 1 a.natAbs).log2 ≤ 13000 ∧ (max a.natAbs b.natAbs).log2 ≤ 13000 ∧ (Nat.lcm a.natAbs b.natAbs).log2 ≤ 30000 ∧ Q (.int ((Nat.lcm a.natAbs b.natAbs : Nat) : Int)) H
theorem cr_lcm : CallR X (.builtin "math.lcm") rLcm := by
  intro pins s σ
                 H vs us Q I r h
  obtain ⟨a, b, rfl, h1, h2, h3, q⟩ := h
  obtain ⟨t, u,
                rfl⟩ := Vals.int2 r
  have e : Nat.lcm 1 a.natAbs = a.natAbs := Nat.lcm_one_left _
  have h3' : ((((Nat.lcm 1 a.natAbs).lcm b.natAbs : Nat) : Int)).natAbs.log2 < bitsLine := by
    rw [e, Int.natAbs_natCast]
    exact Nat.lt_of_le_of_lt h3 (by decide)
  have g := PySem.W.mg_run_lcm a t b u (by omega) (by omega) h3'
  rw [e] at g
  exact call_function_meets PySem.W.MGF.kind_lcm PySem.W.MGF.plain_lcm PySem.W.MGF.entry_lcm (PySem.W.MGF.args_lcm _ _) g.meets ⟨.int _, H, I.tok _, ⟨_, rfl⟩, q⟩
theorem sd_blt (hK : Γ.K = X.K) (hg : X.A.guards = some []) (hu : X.A.units + 64 < cLine) (f : BF) (hc : f.loud = true → X.calm = true) : CallR X f.val (tAM Γ (mB f)) := by
  cases f with
  | repr => exact sd_repr hK hg hu
  | len =>
    refine callM (call_len (X := X)) Γ fun W st as xs Q S ra h => ?_
    simp only [mB] at h
    split at h
    · split at h
      · rename_i c
        obtain ⟨v, rfl, rv⟩ := vrs1 ra
        cases rv
        exact ⟨_, _, rfl, ⟨by rw [← ln_eq]; exact c, rfl⟩, W, rfl, post_val S h (.int _)⟩
      · exact h.elim
    · split at h
      · rename_i ys e
        obtain ⟨v, rfl, rv⟩ := vrs1 ra
        obtain ⟨p, vs, rfl, hq, rv⟩ := seqA_rel S rv e
        refine ⟨_, ys.length, rfl, ?_, W, rfl, post_val S h (.int _)⟩
        rcases hq with hq | hq
        · exact .inl ⟨vs, hK ▸ hq, rv.length⟩
        · exact .inr ⟨vs, hK ▸ hq, rv.length⟩
      · exact h.elim
    · exact h.elim
  | abs =>
    refine callM (call_abs (X := X)) Γ fun W st as xs Q S ra h => ?_
    simp only [mB] at h
    split at h
    · obtain ⟨v, rfl, rv⟩ := vrs1 ra
      cases rv
      exact ⟨_, rfl, W, rfl, post_val S h (.int _)⟩
    · exact h.elim
  | int =>
    refine callM (call_int1 (X := X)) Γ fun W st as xs Q S ra h => ?_
    simp only [mB] at h
    split at h
    · obtain ⟨v, rfl, rv⟩ := vrs1 ra
      cases rv
      exact .inl ⟨_, rfl, W, rfl, post_val S h (.int _)⟩
    · obtain ⟨v, rfl, rv⟩ := vrs1 ra
      cases rv
      exact .inr ⟨_, rfl, W, rfl, post_val S h (.int _)⟩
    · exact h.elim
  | bool =>
    refine callM (call_bool1 (X := X)) Γ fun W st as xs Q S ra h => ?_
    simp only [mB] at h
    split at h
    · obtain ⟨v, rfl, rv⟩ := vrs1 ra
      cases rv
      exact .inl ⟨_, rfl, W, rfl, post_val S h (.bl _)⟩
    · obtain ⟨v, rfl, rv⟩ := vrs1 ra
      cases rv
      exact .inr ⟨_, rfl, W, rfl, post_val S h (.bl _)⟩
    · exact h.elim
  | max =>
    refine callM (CallR.or (call_max2 (hc rfl)) (cr_max (hc rfl))) Γ fun W st as xs Q S ra h => ?_
    simp only [mB] at h
    split at h
    · obtain ⟨v, w, rfl, rv, rw'⟩ := vrs2 ra
      cases rv; cases rw'
      exact .inl ⟨_, _, rfl, W, rfl, post_val S h (.int _)⟩
    · split at h
      · rename_i n ns e
        obtain ⟨v, rfl, rv⟩ := vrs1 ra
        obtain ⟨a, rfl, hq⟩ := lints_rel S rv e
        refine .inr ⟨a, n :: ns, rfl, hK ▸ hq, Nat.succ_pos _, fun m h1 h2 => ⟨W, rfl, ?_⟩⟩
        rw [maxL_max ns n m h1 h2]
        exact post_val S h (.int _)
      · exact h.elim
    · exact h.elim
  | min =>
    refine callM (CallR.or (call_min2 (hc rfl)) (cr_min (hc rfl))) Γ fun W st as xs Q S ra h => ?_
    simp only [mB] at h
    split at h
    · obtain ⟨v, w, rfl, rv, rw'⟩ := vrs2 ra
      cases rv; cases rw'
      exact .inl ⟨_, _, rfl, W, rfl, post_val S h (.int _)⟩
    · split at h
      · rename_i n ns e
        obtain ⟨v, rfl, rv⟩ := vrs1 ra
        obtain ⟨a, rfl, hq⟩ := lints_rel S rv e
        refine .inr ⟨a, n :: ns, rfl, hK ▸ hq, Nat.succ_pos _, fun m h1 h2 => ⟨W, rfl, ?_⟩⟩
        rw [minL_min ns n m h1 h2]
        exact post_val S h (.int _)
      · exact h.elim
    · exact h.elim
  | sum =>
    refine callM (cr_sum (hc rfl)) Γ fun W st as xs Q S ra h => ?_
    simp only [mB] at h
    split at h
    · split at h
      · rename_i ns e
        obtain ⟨v, rfl, rv⟩ := vrs1 ra
        obtain ⟨a, rfl, hq⟩ := lints_rel S rv e
        exact ⟨a, ns, rfl, hK ▸ hq, W, rfl, post_val S h (.int _)⟩
      · exact h.elim
    · exact h.elim
  | all =>
    refine callM (cr_all (hc rfl)) Γ fun W st as xs Q S ra h => ?_
    simp only [mB] at h
    split at h
    · split at h
      · rename_i ns e
        obtain ⟨v, rfl, rv⟩ := vrs1 ra
        obtain ⟨a, rfl, hq⟩ := lbls_rel S rv e
        exact ⟨a, ns, rfl, hK ▸ hq, W, rfl, post_val S h (.bl _)⟩
      · exact h.elim
    · exact h.elim
  | any =>
    refine callM (cr_any (hc rfl)) Γ fun W st as xs Q S ra h => ?_
    simp only [mB] at h
    split at h
    · split at h
      · rename_i ns e
        obtain ⟨v, rfl, rv⟩ := vrs1 ra
        obtain ⟨a, rfl, hq⟩ := lbls_rel S rv e
        exact ⟨a, ns, rfl, hK ▸ hq, W, rfl, post_val S h (.bl _)⟩
      · exact h.elim
    · exact h.elim
  | list =>
    refine callM (call_list_of (X := X)) Γ fun W st as xs Q S ra h => ?_
    simp only [mB] at h
    split at h
    · split at h
      · rename_i ys e
        obtain ⟨v, rfl, rv⟩ := vrs1 ra
        obtain ⟨p, vs, rfl, hq, rv⟩ := seqA_rel S rv e
        exact ⟨p, vs, rfl, hK ▸ hq, fun q hq' => ⟨_, rfl, post_lst S rv h hq'⟩⟩
      · exact h.elim
    · exact h.elim
  | tuple =>
    refine callM (call_tuple_of (X := X)) Γ fun W st as xs Q S ra h => ?_
    simp only [mB] at h
    split at h
    · split at h
      · rename_i ys e
        obtain ⟨v, rfl, rv⟩ := vrs1 ra
        unfold seqA at e
        split at e
        · rename_i zs e2
          cases e
          obtain ⟨p, vs, rfl, hq, rv⟩ := seqL_rel S rv e2
          exact ⟨p, vs, rfl, .inl ⟨hK ▸ hq, fun q hq' => ⟨_, rfl, post_tup S rv h hq'⟩⟩⟩
        · obtain ⟨p, vs, rfl, hq, rv⟩ := seqT_rel rv e
          exact ⟨p, vs, rfl, .inr ⟨hK ▸ hq.sq, W, rfl, post_val S h (.tup hq rv)⟩⟩
      · exact h.elim
    · exact h.elim
  | divmod =>
    refine callM (call_divmodW (X := X)) Γ fun W st as xs Q S ra h => ?_
    simp only [mB] at h
    split at h
    · split at h
      · rename_i c
        obtain ⟨v, w, rfl, rv, rw'⟩ := vrs2 ra
        cases rv; cases rw'
        exact ⟨_, _, rfl, ⟨c.1, PyProof.noPylong_of_log2 c.2⟩, fun p hp => ⟨_, rfl, sd_divmod W S h hp⟩⟩
      · exact h.elim
    · exact h.elim
  | lcm =>
    refine callM (cr_lcm (X := X)) Γ fun W st as xs Q S ra h => ?_
    simp only [mB] at h
    split at h
    · split at h
      · rename_i c
        obtain ⟨v, w, rfl, rv, rw'⟩ := vrs2 ra
        cases rv; cases rw'
        exact ⟨_, _, rfl, c.1, c.2.1, c.2.2, W, rfl, post_val S h (.int _)⟩
      · exact h.elim
    · exact h.elim
  | gcd =>
    refine callM (cr_gcd (X := X)) Γ fun W st as xs Q S ra h => ?_
    simp only [mB] at h
    split at h
    · obtain ⟨v, w, rfl, rv, rw'⟩ := vrs2 ra
      cases rv; cases rw'
      exact ⟨_, _, rfl, W, rfl, post_val S h (.int _)⟩
    · exact h.elim
end
end Mn
/-! Mn4b: isinstance of values that are no instances. -/
namespace Mn
open PySem PySem.Spec
                      PyProof.Rows L2

/-- a class that isinstance names -/
inductive CT where
  | own (i : Nat) | ty (n : String)
def tyM (st : Store) : MV → Option String
  | .non => some "NoneType"
  | .bl _ => some "bool"
  | .int _ => some "int"
  | .str _ => some "str"
  | .tup _ => some "tuple"
  | .ref k => match st[k]? with
    | some (.lst
                 _) => some "list"
    | some (.frz _) => some "list"
    | some (.dct _) => some "dict"
    | _ => none
  | _ => none
def tys : List String := ["NoneType", "bool", "int", "str", "tuple", "list", "dict"]
def ctys : List String := ["bool", "int", "str", "tuple", "list", "dict"]
def subT (t : String) : CT → Bool
  | .ty n => t == n || (t == "bool" && n == "int")
  | .own _ => false
theorem kit_tab : ∀ t ∈ tys, ∀ n ∈ ctys, kitB t n = some (subT t (.ty n)) := by decide +kernel
def ctOf : MV → Option CT
  | .ty n => if ctys.contains n then some (.ty n) else none
  | .cls i => some (.own i)
  | _ => none
def clsL : MV → Option (List CT)
  | .tup xs => mapO ctOf xs
  | c => match ctOf c with
    | some t => some [t]
    | none => none
def mIsi (st : Store) (as : List MV) : R MV := match as with
  | [x, c] => match tyM st x, clsL c with
    | some t, some l => .ok (.bl (l.any (subT t))) st
    | _, _ => .stk
  | _ => .stk
/-- no built-in type is below an own class -/
def IsC (Γ : Gm) : Prop := ∀ t ∈ tys, ∀ i, PySem.W.kitOne Γ.K (.type t) (.ref (Γ.ca i)) = some false
section
variable {Γ : Gm} {W : Wd} {st : Store} {X : Cx}
theorem tyM_mem {x : MV} {t : String} (h : tyM st x = some t) : t ∈ tys := by
  unfold tyM at h
  (repeat' split at h) <;> cases h <;> decide
theorem tyM_ok (S : SR Γ W st) {x : MV} {v : V} {t : String} (r : VR Γ W x v) (h : tyM st x = some t) : TyX Γ.K W.H v (.type t) := by
  cases r with
  | non => cases h; exact .base .non
  | bl b => cases h; exact .base (.bl b)
  | int i => cases h; exact .base (.int i)
  | str s => cases h; exact .base (.str s)
  | tup h1 h2 =>
    cases h
    rcases h1 with h1 | ⟨o, its, n, h1, h2, _⟩
    · exact .base (.tup h1)
    · exact .kTuple h1 h2
  | ref hk =>
    rename_i k
    have h' : (match st[k]? with
      | some (.lst
                   _) => some "list"
      | some (.frz _) => some "list"
      | some (.dct _) => some "dict"
      | _ => none) = some t := h
    split at h'
    · rename_i e
      cases h'
      obtain ⟨u, hu, q⟩ := S.at_ _ _ e
      cases q
      exact .base (.lst hu)
    · rename_i e
      cases h'
      obtain ⟨u, hu, q⟩ := S.at_ _ _ e
      cases q
      exact .base (.frz hu)
    · rename_i e
      cases h'
      obtain ⟨u, hu, q⟩ := S.at_ _ _ e
      cases q
      exact .base (.dK hu)
    · cases h'
  | _ => cases h
/-- the class that stands for it -/
def cvOf (Γ : Gm) : CT → Value
  | .own i => .ref (Γ.ca i)
  | .ty n => .type n
theorem ctOf_ok {x : MV} {v : V} {c : CT} (r : VR Γ W x v) (h : ctOf x = some c) : ClsV v (cvOf Γ c) ∧ (∀ n, c = .ty n → n ∈ ctys) := by
  cases r with
  | ty n =>
    have h' : (if ctys.contains n then some (CT.ty n) else none) = some c := h
    split at h'
    · rename_i e
      cases h'
      exact ⟨.ty n, fun m e' => by cases e'; exact List.contains_iff_mem.mp e⟩
    · cases h'
  | cls i => cases h; exact ⟨.own _, fun m e => by cases e⟩
  | _ => cases h
theorem kit_ok (hC : IsC Γ) {t : String} (ht : t ∈ tys) {c : CT} (hc : ∀ n, c = .ty n → n ∈ ctys) : PySem.W.kitOne Γ.K (.type t) (cvOf Γ c) = some (subT t c) := by
  cases c with
  | own i => exact hC t ht i
  | ty n => exact kit_ty (kit_tab t ht n (hc n rfl))
theorem cts_ok (hC : IsC Γ) {t : String} (ht : t ∈ tys) : ∀ {xs : List MV} {vs : List V} {l : List CT}, VRs Γ W xs vs → mapO ctOf xs = some l →
    Paired ClsV vs (l.map (cvOf Γ)) ∧ PySem.W.kitAny Γ.K (.type t) (l.map (cvOf Γ)) = some (l.any (subT t)) := by
  intro xs
  induction xs with
  | nil => intro vs l r h; cases r; cases h; exact ⟨.nil, rfl⟩
  | cons x xs ih =>
    intro vs l r h
    cases r with
    | cons r1 r2 =>
      unfold mapO at h
      split at h
      · rename_i c cs h1 h2
        cases h
        obtain ⟨a1, a2⟩ := ctOf_ok r1 h1
        obtain ⟨b1, b2⟩ := ih r2 h2
        refine ⟨.cons a1 b1, kitAny_cons (kit_ok hC ht a2) (fun e => ?_) fun e => ?_⟩
        · rw [b2, List.any_cons, e, Bool.false_or]
        · rw [List.any_cons, e, Bool.true_or]
      · cases h
theorem sd_isi (hK : Γ.K = X.K) (hC : IsC Γ) : CallR X (.builtin "isinstance") (tAM Γ mIsi) := by
  refine callM (CallR.or (call_isi (X := X)) (CallR.or (call_isiT (X := X)) (call_isiK (X := X)))) Γ fun W st as xs Q S ra h => ?_
  unfold mIsi at h
  split at h
  · rename_i x c
    split at h
    · rename_i t l ht hl
      obtain ⟨v, w, rfl, rv, rw'⟩ := vrs2 ra
      have hm := tyM_mem ht
      have hty := tyM_ok S rv ht
      have one : ∀ {t' : CT}, ctOf c = some t' → l = [t'] → rIsi X.K [v, w] W.H fun v H => ∃ W', W'.H = H ∧ Q v W' := fun {t'} e el => by
        subst el
        obtain ⟨a1, a2⟩ := ctOf_ok rw' e
        refine ⟨v, w, _, _, _, rfl, a1, hK ▸ hty, hK ▸ kit_ok hC hm a2, W, rfl, ?_⟩
        have h' : Post Γ W (VR Γ) (fun _ _ _ => False) (.ok (.bl ((subT t t') || false)) st) Q := h
        rw [Bool.or_false] at h'
        exact post_val S h' (.bl _)
      unfold clsL at hl
      split at hl
      · rename_i ys
        cases rw' with
        | tup g1 g2 =>
          obtain ⟨b1, b2⟩ := cts_ok hC hm g2 hl
          rcases g1 with g1 | ⟨o, its, n, g1, gc, gd, _, gv⟩
          · exact .inr (.inl ⟨v, _, _, _, _, _, rfl, g1, b1, hK ▸ hty, hK ▸ b2, W, rfl, post_val S h (.bl _)⟩)
          · obtain ⟨oc, od, dt, sl⟩ := o
            simp only at gc gd
            subst gc gd
            have e := ClsV.all b1 gv
            refine .inr (.inr ⟨v, _, od, l.map (cvOf Γ), n, sl, _, _, rfl, ?_, hK ▸ hty, hK ▸ b2, W, rfl, post_val S h (.bl _)⟩)
            rw [← hK, g1, ← e]
      · split at hl
        · rename_i t' e
          cases hl
          exact .inl (one e rfl)
        · cases hl
    · exact h.elim
  · exact h.elim
theorem isi_nx (st : Store) (xs : List MV) : ∀ c fs st', mIsi st xs ≠ .exc c fs st' := by
  intro c fs st' e
  unfold mIsi at e
  (repeat' split at e) <;> cases e
end
end Mn
/-! Mn5: expressions, one rule a form. -/
namespace Mn
open PySem PySem.Spec
                      PyProof.Rows L2

theorem pe_imp {X : Cx} {e : Expr} {t t' : TE} (h : PE X e t) (f : ∀ σ H Q, t' σ H Q → t σ H Q) : PE X e t' := ⟨fun pn s σ H Q I q => h.run pn s σ H Q I (f σ H Q q)⟩
theorem pt_imp {X : Cx} {e : Expr} {t t' : TT} (h : PT X e t) (f : ∀ σ H Q, t' σ H Q → t σ H Q) : PT X e t' := ⟨fun pn s σ H Q I q => h.run pn s σ H Q I (f σ H Q q)⟩
theorem pa_imp {X : Cx} {e : List Expr} {t t' : TA} (h : PA X e t) (f : ∀ σ H Q, t' σ H Q → t σ H Q) : PA X e t' := ⟨fun pos pn s σ H Q I q => h.run pos pn s σ H Q I (f σ H Q q)⟩

abbrev Sm := Env → Store → R MV
abbrev SmB := Env → Store → R Bool
abbrev SmA := Env → Store → R (List MV)
def wx (Wx : WX) (σ : L2.St) : Value → Option Addr → Hp → Prop := fun c d H => Wx c d σ H
/-- the reading of an expression that the machine evaluates as m -/
def tE (Γ : Gm) (Wx : WX) (m : Sm) : TE := fun σ H Q => ∃ (W : Wd) (st : Store) (env : Env), W.H = H ∧ SR Γ W st ∧ ER Γ W env σ ∧ Post Γ W (VR Γ) (wx Wx σ) (m env st) (fun v W => Q v W.H)
def bRel : Wd → Bool → Bool → Prop := fun _ a b => a = b
def tT (Γ : Gm) (Wx : WX) (m : SmB) : TT := fun σ H Q => ∃ (W : Wd) (st : Store) (env : Env), W.H = H ∧ SR Γ W st ∧ ER Γ W env σ ∧ Post Γ W bRel (wx Wx σ) (m env st) (fun v W => Q v W.H)
def tA (Γ : Gm) (Wx : WX) (m : SmA) : TA := fun σ H Q => ∃ (W : Wd) (st : Store) (env : Env), W.H = H ∧ SR Γ W st ∧ ER Γ W env σ ∧ Post Γ W (VRs Γ) (wx Wx σ) (m env st) (fun v W => Q v W.H)

/-! ### the machine's forms -/
def sV (i : Nat) : Sm := fun env st => match env[i]? with
  | some (some x) => .ok x st
  | _ => .stk
def sK (x : MV) : Sm := fun _ st => .ok x st
def s2 (m : M2) (a b : Sm) : Sm := fun env st => (a env st).bind fun x st => (b env st).bind fun y st => m st x y
def s1 (m : M1) (a : Sm) : Sm := fun env st => (a env st).bind fun x st => m st x
def sT (a : Sm) : SmB := fun env st => (a env st).bind fun x st => match tru st x with
  | some b => .ok b st
  | none => .stk
def sBl (a : SmB) : Sm := fun env st => (a env st).bind fun b st => .ok (.bl b) st
def sNot (a : SmB) : SmB := fun env st => (a env st).bind fun b st => .ok (!b) st
def sAndT (a b : SmB) : SmB := fun env st => (a env st).bind fun x st => if x = true then b env st else .ok false st
def sOrT (a b : SmB) : SmB := fun env st => (a env st).bind fun x st => if x = true then .ok true st else b env st
def sAnd (a b : Sm) : Sm := fun env st => (a env st).bind fun x st => match tru st x with
  | some true => b env st
  | some false => .ok x st
  | none => .stk
def sOr (a b : Sm) : Sm := fun env st => (a env st).bind fun x st => match tru st x with
  | some true => .ok x st
  | some false => b env st
  | none => .stk
def sIte (t : SmB) (a b : Sm) : Sm := fun env st => (t env st).bind fun c st => if c = true then a env st else b env st
def sNil : SmA := fun _ st => .ok [] st
def sCons (a : Sm) (r : SmA) : SmA := fun env st => (a env st).bind fun x st => (r env st).bind fun xs st => .ok (x :: xs) st
def sTup (r : SmA) : Sm := fun env st => (r env st).bind fun xs st => if xs.length ≤ LN then .ok (.tup xs) st else .stk
def sLst (r : SmA) : Sm := fun env st => (r env st).bind fun xs st => if xs.length ≤ LN then .ok (.ref st.length) (st ++ [.lst xs]) else .stk
def sA (m : MA) (r : SmA) : Sm := fun env st => (r env st).bind fun xs st => m st xs
def sChain (m m' : M2) (a b c : Sm) : Sm := fun env st => (a env st).bind fun x st => (b env st).bind fun y st => (m st x y).bind fun z st => match z with
  | .bl true => (c env st).bind fun w st => m' st y w
  | .bl false => .ok (.bl false) st
  | _ => .stk

section
variable {Γ : Gm} {Wx : WX} {X : Cx} {a b c : Expr} {ma mb mc : Sm} {ta tb : SmB} {pos : Pos} {es : List Expr} {ms : SmA}
/-- how a rule's reading follows the machine: the first part's answer -/
theorem seqE {α γ δ : Type} {rel2 : Wd → γ → δ → Prop} {W : Wd} {st : Store} {env : Env} {σ : L2.St} {r : Sm} {f : MV → Store → R γ} {Q : δ → Wd → Prop} {P : V → Hp → Prop} (S : SR Γ W st) (E : ER Γ W env σ)
    (h : Post Γ W rel2 (wx Wx σ) ((r env st).bind f) Q)
    (k : ∀ (W1 : Wd) (st1 : Store) (x : MV) (v : V), Le Γ W W1 → SR Γ W1 st1 → ER Γ W1 env σ → VR Γ W1 x v → Post Γ W1 rel2 (wx Wx σ) (f x st1) Q → P v W1.H) : tE Γ Wx r σ W.H P :=
  ⟨W, st, env, rfl, S, E, (Post.seq h).imp fun v W1 ⟨l, x, st1, S1, r1, p⟩ => k W1 st1 x v l S1 (E.mono l) r1 p⟩
theorem seqTT {γ δ : Type} {rel2 : Wd → γ → δ → Prop} {W : Wd} {st : Store} {env : Env} {σ : L2.St} {r : SmB} {f : Bool → Store → R γ} {Q : δ → Wd → Prop} {P : Bool → Hp → Prop} (S : SR Γ W st) (E : ER Γ W env σ)
    (h : Post Γ W rel2 (wx Wx σ) ((r env st).bind f) Q)
    (k : ∀ (W1 : Wd) (st1 : Store) (x : Bool), Le Γ W W1 → SR Γ W1 st1 → ER Γ W1 env σ → Post Γ W1 rel2 (wx Wx σ) (f x st1) Q → P x W1.H) : tT Γ Wx r σ W.H P :=
  ⟨W, st, env, rfl, S, E, (Post.seq h).imp fun v W1 ⟨l, x, st1, S1, r1, p⟩ => by
    have r1' : x = v := r1
    subst r1'
    exact k W1 st1 x l S1 (E.mono l) p⟩
theorem seqAA {γ δ : Type} {rel2 : Wd → γ → δ → Prop} {W : Wd} {st : Store} {env : Env} {σ : L2.St} {r : SmA} {f : List MV → Store → R γ} {Q : δ → Wd → Prop} {P : List V → Hp → Prop} (S : SR Γ W st) (E : ER Γ W env σ)
    (h : Post Γ W rel2 (wx Wx σ) ((r env st).bind f) Q)
    (k : ∀ (W1 : Wd) (st1 : Store) (xs : List MV) (vs : List V), Le Γ W W1 → SR Γ W1 st1 → ER Γ W1 env σ → VRs Γ W1 xs vs → Post Γ W1 rel2 (wx Wx σ) (f xs st1) Q → P vs W1.H) : tA Γ Wx r σ W.H P :=
  ⟨W, st, env, rfl, S, E, (Post.seq h).imp fun v W1 ⟨l, x, st1, S1, r1, p⟩ => k W1 st1 x v l S1 (E.mono l) r1 p⟩
/-- a machine's operator raises nothing, so its wish may be any -/
theorem Post.nx {α β : Type} {W : Wd} {rel : Wd → α → β → Prop} {w : Value → Option Addr → Hp → Prop} {r : R α} {Q : β → Wd → Prop} (h : Post Γ W rel w r Q) (n : ∀ c fs st, r ≠ .exc c fs st) : Post Γ W rel (fun _ _ _ => False) r Q := by
  cases r with
  | ok _ _ => exact h
  | stk => exact h
  | exc c fs st => exact absurd rfl (n c fs st)
def NoX {α : Type} (r : R α) : Prop := ∀ c fs st, r ≠ .exc c fs st
theorem e_var {i : Nat} {x : Str} (hN : X.N[i]? = some x) (hv : Vis X.env.scope x) (hd : (x == ("__debug__" : Str)) = false) (hcd : (x == ("__classdict__" : Str)) = false) : PE X (.Name x pos) (tE Γ Wx (sV i)) :=
  pe_imp (pe_var hN hv hd hcd) fun σ H Q ⟨W, st, env, e, S, E, h⟩ => by
    subst e
    unfold sV at h
    split at h
    · rename_i x e
      obtain ⟨v, e1, r⟩ := E.2.1 i x e
      exact ⟨v, e1, post_val S h r⟩
    · exact h.elim
theorem e_const {e : Expr} {x : MV} {v : V} (h : PE X e (tC v)) (r : ∀ W, VR Γ W x v) : PE X e (tE Γ Wx (sK x)) :=
  pe_imp h fun σ H Q ⟨W, st, env, e, S, E, p⟩ => by
    subst e
    exact post_val S p (r W)
theorem e_op {op : Operator} (ho : OpR X (binaryOp op) (t2M Γ (mBin op))) (hn : ∀ st x y, NoX (mBin op st x y)) (ha : PE X a (tE Γ Wx ma)) (hb : PE X b (tE Γ Wx mb)) : PE X (.BinOp a op b pos) (tE Γ Wx (s2 (mBin op) ma mb)) :=
  pe_imp (pe_op ho ha hb) fun σ H Q ⟨W, st, env, e, S, E, p⟩ => by
    subst e
    exact seqE (α := MV) S E p fun W1 st1 x v l1 S1 E1 r1 p1 => seqE (α := MV) S1 E1 p1 fun W2 st2 y u l2 S2 E2 r2 p2 => ⟨W2, st2, x, y, rfl, S2, r1.mono l2, r2, p2.nx (hn _ _ _)⟩
theorem e_un {op : UnaryOp} {m : M1} (ho : UnR X (unaryOp op) (t1M Γ m)) (hn : ∀ st x, NoX (m st x)) (ha : PE X a (tE Γ Wx ma)) : PE X (.UnaryOp op a pos) (tE Γ Wx (s1 m ma)) :=
  pe_imp (pe_un ho ha) fun σ H Q ⟨W, st, env, e, S, E, p⟩ => by
    subst e
    exact seqE (α := MV) S E p fun W1 st1 x v l1 S1 E1 r1 p1 => ⟨W1, st1, x, rfl, S1, r1, p1.nx (hn _ _)⟩
theorem e_cmp {op : CmpOp} (ho : OpR X (compareOp op) (t2M Γ (mCmp op))) (hn : ∀ st x y, NoX (mCmp op st x y)) (ha : PE X a (tE Γ Wx ma)) (hb : PE X b (tE Γ Wx mb)) (hm : behindInMarks op b = false) : PE X (.Compare a [op] [b] pos) (tE Γ Wx (s2 (mCmp op) ma mb)) :=
  pe_imp (pe_cmpR ho ha hb hm) fun σ H Q ⟨W, st, env, e, S, E, p⟩ => by
    subst e
    exact seqE (α := MV) S E p fun W1 st1 x v l1 S1 E1 r1 p1 => seqE (α := MV) S1 E1 p1 fun W2 st2 y u l2 S2 E2 r2 p2 => ⟨W2, st2, x, y, rfl, S2, r1.mono l2, r2, p2.nx (hn _ _ _)⟩
theorem cmp_form (op : CmpOp) (st : Store) (x y : MV) : mCmp op st x y = .stk ∨ ∃ b, mCmp op st x y = .ok (.bl b) st := by
  have br : ∀ o : Option Bool, bR st o = .stk ∨ ∃ b, bR st o = .ok (.bl b) st := fun o => by
    cases o with
    | none => exact .inl rfl
    | some b => exact .inr ⟨b, rfl⟩
  cases op with
  | Eq => exact br _
  | NotEq => exact br _
  | In => exact br _
  | NotIn => exact br _
  | Is => simp only [mCmp]; split; exact .inr ⟨_, rfl⟩; exact .inl rfl
  | IsNot => simp only [mCmp]; split; exact .inr ⟨_, rfl⟩; exact .inl rfl
  | _ => simp only [mCmp]; split; exact .inr ⟨_, rfl⟩; exact .inl rfl
theorem cmp_nx {op : CmpOp} {st : Store} {x y : MV} : NoX (mCmp op st x y) := fun c fs st' e => by
  rcases cmp_form op st x y with h | ⟨b, h⟩ <;> rw [h] at e <;> cases e
theorem R.bind_assoc {α β γ : Type} (r : R α) (f : α → Store → R β) (g : β → Store → R γ) : (r.bind f).bind g = r.bind fun x st => (f x st).bind g := by cases r <;> rfl
theorem t_cmp {op : CmpOp} (ho : OpR X (compareOp op) (t2M Γ (mCmp op))) (ha : PE X a (tE Γ Wx ma)) (hb : PE X b (tE Γ Wx mb)) (hm : behindInMarks op b = false) :
    PT X (.Compare a [op] [b] pos) (tT Γ Wx (sT (s2 (mCmp op) ma mb))) :=
  pt_imp (pt_cmpR ho ha hb hm) fun σ H Q ⟨W, st, env, e, S, E, p⟩ => by
    subst e
    unfold sT s2 at p
    rw [R.bind_assoc] at p
    show tE Γ Wx ma σ W.H fun x H1 => tE Γ Wx mb σ H1 fun y H2 => t2M Γ (mCmp op) x y H2 fun z H3 => ∃ k, z = .bl k ∧ Q k H3
    refine seqE (α := MV) S E p fun W1 st1 x v l1 S1 E1 r1 p1 => ?_
    rw [R.bind_assoc] at p1
    refine seqE (α := MV) S1 E1 p1 fun W2 st2 y u l2 S2 E2 r2 p2 => ⟨W2, st2, x, y, rfl, S2, r1.mono l2, r2, ?_⟩
    rcases cmp_form op st2 x y with h | ⟨b, h⟩
    · rw [h] at p2; exact p2.elim
    · rw [h] at p2 ⊢
      intro W3 v3 l3 S3 r3
      cases r3
      exact ⟨b, rfl, p2 W3 b l3 S3 rfl⟩
theorem e_notT (ha : PT X a (tT Γ Wx ta)) : PT X (.UnaryOp .Not a pos) (tT Γ Wx (sNot ta)) :=
  pt_imp (pt_not ha) fun σ H Q ⟨W, st, env, e, S, E, p⟩ => by
    subst e
    refine seqTT S E p fun W1 st1 x l1 S1 E1 p1 => ?_
    exact p1 W1 (!x) Le.refl S1 rfl
/-- a value's truth -/
theorem t_val (hK : Γ.K = X.K) (ha : PE X a (tE Γ Wx ma)) (he : ∀ whole, isTrue a X.env whole = (do let v ← whole; standAt a.pos; holding [v] (truthy v))) : PT X a (tT Γ Wx (sT ma)) :=
  pt_imp (pt_truth ha he) fun σ H Q ⟨W, st, env, e, S, E, p⟩ => by
    subst e
    refine seqE (α := MV) S E p fun W1 st1 x v l1 S1 E1 r1 p1 => ?_
    split at p1
    · rename_i b e
      exact ⟨b, hK ▸ tru_rel S1 r1 e, p1 W1 b Le.refl S1 rfl⟩
    · exact p1.elim
/-- not x as a value -/
theorem e_not (hK : Γ.K = X.K) (ha : PE X a (tE Γ Wx ma)) : PE X (.UnaryOp .Not a pos) (tE Γ Wx (sBl (sNot (sT ma)))) :=
  pe_imp (pe_notT ha) fun σ H Q ⟨W, st, env, e, S, E, p⟩ => by
    subst e
    unfold sBl sNot sT at p
    rw [R.bind_assoc, R.bind_assoc] at p
    refine seqE (α := MV) S E p fun W1 st1 x v l1 S1 E1 r1 p1 => ?_
    split at p1
    · rename_i b e
      exact ⟨b, hK ▸ tru_rel S1 r1 e, p1 W1 (.bl (!b)) Le.refl S1 (.bl _)⟩
    · exact p1.elim
theorem e_and (hK : Γ.K = X.K) {rest : List Expr} (ha : PE X a (tE Γ Wx ma)) (hb : PE X (.BoolOp .And (b :: rest) pos) (tE Γ Wx mb)) : PE X (.BoolOp .And (a :: b :: rest) pos) (tE Γ Wx (sAnd ma mb)) :=
  pe_imp (pe_andT ha hb) fun σ H Q ⟨W, st, env, e, S, E, p⟩ => by
    subst e
    refine seqE (α := MV) S E p fun W1 st1 x v l1 S1 E1 r1 p1 => ?_
    split at p1
    · rename_i e
      refine ⟨true, hK ▸ tru_rel S1 r1 e, ?_⟩
      rw [if_pos rfl]
      exact ⟨W1, st1, env, rfl, S1, E1, p1⟩
    · rename_i e
      refine ⟨false, hK ▸ tru_rel S1 r1 e, ?_⟩
      rw [if_neg
                 Bool.false_ne_true]
      exact post_val S1 p1 r1
    · exact p1.elim
theorem e_or (hK : Γ.K = X.K) {rest : List Expr} (ha : PE X a (tE Γ Wx ma)) (hb : PE X (.BoolOp .Or (b :: rest) pos) (tE Γ Wx mb)) : PE X (.BoolOp .Or (a :: b :: rest) pos) (tE Γ Wx (sOr ma mb)) :=
  pe_imp (pe_orT ha hb) fun σ H Q ⟨W, st, env, e, S, E, p⟩ => by
    subst e
    refine seqE (α := MV) S E p fun W1 st1 x v l1 S1 E1 r1 p1 => ?_
    split at p1
    · rename_i e
      refine ⟨true, hK ▸ tru_rel S1 r1 e, ?_⟩
      rw [if_pos rfl]
      exact post_val S1 p1 r1
    · rename_i e
      refine ⟨false, hK ▸ tru_rel S1 r1 e, ?_⟩
      rw [if_neg
                 Bool.false_ne_true]
      exact ⟨W1, st1, env, rfl, S1, E1, p1⟩
    · exact p1.elim
theorem w_and1 (ha : PT X a (tT Γ Wx ta)) : PW X (.BoolOp .And [a] pos) (tT Γ Wx ta) := pw_and1 ha
theorem w_or1 (ha : PT X a (tT Γ Wx ta)) : PW X (.BoolOp .Or [a] pos) (tT Γ Wx ta) := pw_or1 ha
theorem pw_imp {e : Expr} {t t' : TT} (h : PW X e t) (f : ∀ σ H Q, t' σ H Q → t σ H Q) : PW X e t' := ⟨fun wh pn s σ H Q I q => h.run wh pn s σ H Q I (f σ H Q q)⟩
theorem w_and {rest : List Expr} (ha : PT X a (tT Γ Wx ta)) (hb : PW X (.BoolOp .And (b :: rest) pos) (tT Γ Wx tb)) : PW X (.BoolOp .And (a :: b :: rest) pos) (tT Γ Wx (sAndT ta tb)) :=
  pw_imp (pw_and ha hb) fun σ H Q ⟨W, st, env, e, S, E, p⟩ => by
    subst e
    refine seqTT S E p fun W1 st1 x l1 S1 E1 p1 => ?_
    cases x with
    | true => rw [if_pos rfl] at p1 ⊢; exact ⟨W1, st1, env, rfl, S1, E1, p1⟩
    | false => rw [if_neg Bool.false_ne_true] at p1 ⊢; exact p1 W1 false Le.refl S1 rfl
theorem w_or {rest : List Expr} (ha : PT X a (tT Γ Wx ta)) (hb : PW X (.BoolOp .Or (b :: rest) pos) (tT Γ Wx tb)) : PW X (.BoolOp .Or (a :: b :: rest) pos) (tT Γ Wx (sOrT ta tb)) :=
  pw_imp (pw_or ha hb) fun σ H Q ⟨W, st, env, e, S, E, p⟩ => by
    subst e
    refine seqTT S E p fun W1 st1 x l1 S1 E1 p1 => ?_
    cases x with
    | true => rw [if_pos rfl] at p1 ⊢; exact p1 W1 true Le.refl S1 rfl
    | false => rw [if_neg Bool.false_ne_true] at p1 ⊢; exact ⟨W1, st1, env, rfl, S1, E1, p1⟩
theorem e_ite (hc : PT X c (tT Γ Wx ta)) (ha : PE X a (tE Γ Wx ma)) (hb : PE X b (tE Γ Wx mb)) : PE X (.IfExp c a b pos) (tE Γ Wx (sIte ta ma mb)) :=
  pe_imp (pe_ifExp hc ha hb) fun σ H Q ⟨W, st, env, e, S, E, p⟩ => by
    subst e
    refine seqTT S E p fun W1 st1 x l1 S1 E1 p1 => ?_
    cases x with
    | true => rw [if_pos rfl] at p1 ⊢; exact ⟨W1, st1, env, rfl, S1, E1, p1⟩
    | false => rw [if_neg Bool.false_ne_true] at p1 ⊢; exact ⟨W1, st1, env, rfl, S1, E1, p1⟩
theorem a_nil : PA X [] (tA Γ Wx sNil) := pa_imp pa_nil fun σ H Q ⟨W, st, env, e, S, E, p⟩ => by
  subst e
  exact p W [] Le.refl S .nil
theorem a_cons (ha : PE X a (tE Γ Wx ma)) (hr : PA X es (tA Γ Wx ms)) (hs : starEach (a :: es) X.env = (false, eval a X.env) :: starEach es X.env) : PA X (a :: es) (tA Γ Wx (sCons ma ms)) :=
  pa_imp (pa_cons ha hr hs) fun σ H Q ⟨W, st, env, e, S, E, p⟩ => by
    subst e
    refine seqE (α := MV) S E p fun W1 st1 x v l1 S1 E1 r1 p1 => ?_
    exact seqAA S1 E1 p1 fun W2 st2 xs vs l2 S2 E2 r2 p2 => p2 W2 _ Le.refl S2 (.cons (r1.mono l2) r2)
theorem e_tup {k : Nat} (h : PA X es (tA Γ Wx ms)) : PE X (.Tuple es k pos) (tE Γ Wx (sTup ms)) :=
  pe_imp (pe_tup h) fun σ H Q ⟨W, st, env, e, S, E, p⟩ => by
    subst e
    refine seqAA S E p fun W1 st1 xs vs l1 S1 E1 r1 p1 => ?_
    split at p1
    · rename_i c
      exact ⟨by rw [← r1.length, ← ln_eq]; exact c, fun q hq => post_tup (Q := fun v W => Q v W.H) S1 r1 p1 hq⟩
    · exact p1.elim
theorem e_lst (h : PA X es (tA Γ Wx ms)) : PE X (.List es pos) (tE Γ Wx (sLst ms)) :=
  pe_imp (pe_lst h) fun σ H Q ⟨W, st, env, e, S, E, p⟩ => by
    subst e
    refine seqAA S E p fun W1 st1 xs vs l1 S1 E1 r1 p1 => ?_
    split at p1
    · rename_i c
      exact ⟨by rw [← r1.length, ← ln_eq]; exact c, fun q hq => post_lst (Q := fun v W => Q v W.H) S1 r1 p1 hq⟩
    · exact p1.elim
theorem e_ix (hi : IxR X (t2M Γ mIx)) (hn : ∀ st x y, NoX (mIx st x y)) (ha : PE X a (tE Γ Wx ma)) (hb : PE X b (tE Γ Wx mb)) (hs : PlainIx b) : PE X (.Subscript a b pos) (tE Γ Wx (s2 mIx ma mb)) :=
  pe_imp (pe_ix hi ha hb hs) fun σ H Q ⟨W, st, env, e, S, E, p⟩ => by
    subst e
    exact seqE (α := MV) S E p fun W1 st1 x v l1 S1 E1 r1 p1 => seqE (α := MV) S1 E1 p1 fun W2 st2 y u l2 S2 E2 r2 p2 => ⟨W2, st2, x, y, rfl, S2, r1.mono l2, r2, p2.nx (hn _ _ _)⟩
/-- a slice's bounds -/
abbrev SmO := Env → Store → R (Option Int)
def oRel : Wd → Option Int → Option Int → Prop := fun _ a b => a = b
def tO (Γ : Gm) (Wx : WX) (m : SmO) : TO := fun σ H Q => ∃ (W : Wd) (st : Store) (env : Env), W.H = H ∧ SR Γ W st ∧ ER Γ W env σ ∧ Post Γ W oRel (wx Wx σ) (m env st) (fun v W => Q v W.H)
def sOn : SmO := fun _ st => .ok none st
def sOs (a : Sm) : SmO := fun env st => (a env st).bind fun x st => match x with
  | .int i => .ok (some i) st
  | _ => .stk
def sSl (a : Sm) (l h : SmO) : Sm := fun env st => (a env st).bind fun x st => (l env st).bind fun i st => (h env st).bind fun j st => mSl st x i j
theorem po_imp {e : Option Expr} {t t' : TO} (h : PO X e t) (f : ∀ σ H Q, t' σ H Q → t σ H Q) : PO X e t' := ⟨fun pn s σ H Q I q => h.run pn s σ H Q I (f σ H Q q)⟩
theorem o_none : PO X none (tO Γ Wx sOn) := po_imp po_none fun σ H Q ⟨W, st, env, e, S, E, p⟩ => by
  subst e
  exact p W none Le.refl S rfl
theorem o_some (ha : PE X a (tE Γ Wx ma)) : PO X (some a) (tO Γ Wx (sOs ma)) := po_imp (po_some ha) fun σ H Q ⟨W, st, env, e, S, E, p⟩ => by
  subst e
  refine seqE (α := MV) S E p fun W1 st1 x v l1 S1 E1 r1 p1 => ?_
  split at p1
  · cases r1
    exact ⟨_, rfl, p1 W1 _ Le.refl S1 rfl⟩
  · exact p1.elim
theorem seqO {γ δ : Type} {rel2 : Wd → γ → δ → Prop} {W : Wd} {st : Store} {env : Env} {σ : L2.St} {r : SmO} {f : Option Int → Store → R γ} {Q : δ → Wd → Prop} {P : Option Int → Hp → Prop} (S : SR Γ W st) (E : ER Γ W env σ)
    (h : Post Γ W rel2 (wx Wx σ) ((r env st).bind f) Q)
    (k : ∀ (W1 : Wd) (st1 : Store) (x : Option Int), Le Γ W W1 → SR Γ W1 st1 → ER Γ W1 env σ → Post Γ W1 rel2 (wx Wx σ) (f x st1) Q → P x W1.H) : tO Γ Wx r σ W.H P :=
  ⟨W, st, env, rfl, S, E, (Post.seq h).imp fun v W1 ⟨l, x, st1, S1, r1, p⟩ => by
    have r1' : x = v := r1
    subst r1'
    exact k W1 st1 x l S1 (E.mono l) p⟩
theorem e_sl {lo hi : Option Expr} {ml mh : SmO} {p2 : Pos} (hr : SlR X (tSlM Γ)) (hn : ∀ st x i j, NoX (mSl st x i j)) (ha : PE X a (tE Γ Wx ma)) (hl : PO X lo (tO Γ Wx ml)) (hh : PO X hi (tO Γ Wx mh)) : PE X (.Subscript a (.Slice lo hi none p2) pos) (tE Γ Wx (sSl ma ml mh)) :=
  pe_imp (pe_slice hr ha hl hh) fun σ H Q ⟨W, st, env, e, S, E, p⟩ => by
    subst e
    exact seqE (α := MV) S E p fun W1 st1 x v l1 S1 E1 r1 p1 => seqO S1 E1 p1 fun W2 st2 i l2 S2 E2 p2 => seqO S2 E2 p2 fun W3 st3 j l3 S3 E3 p3 => ⟨W3, st3, x, rfl, S3, r1.mono (l2.trans l3), p3.nx (hn _ _ _ _)⟩
/-- f(..), f a built-in -/
theorem tA_imp {m : MA} {r : List V → Hp → VK → Prop} (hr : r = tAM Γ m) (hn : ∀ st xs, NoX (m st xs)) : ∀ σ H Q, tE Γ Wx (sA m ms) σ H Q → tCB r (tA Γ Wx ms) σ H Q := fun σ H Q ⟨W, st, env, e, S, E, p⟩ => by
  subst e
  subst hr
  exact seqAA S E p fun W1 st1 xs vs l1 S1 E1 r1 p1 => ⟨W1, st1, xs, rfl, S1, r1, p1.nx (hn _ _)⟩
end
end Mn
/-! Mn6: what is walked, targets, statements, loops, comprehensions. -/
namespace Mn
open PySem PySem.Spec
                      PyProof.Rows L2

/-! ### statements' answers -/
inductive RS where
  | nx (env : Env) (st : Store)
  | rt (v : MV) (st : Store)
  | bk (env : Env) (st : Store)
  | ct (env : Env) (st : Store)
  | ex (c : Nat) (fs : List (Str × MV)) (env : Env) (st : Store)
  | stk
def RS.of {α : Type} (r : R α) (env : Env) (f : α → Store → RS) : RS := match r with
  | .ok a st => f a st
  | .exc c fs st => .ex c fs env st
  | .stk => .stk
abbrev SmS := Env → Store → RS
def PostS (Γ : Gm) (W : Wd) (Wx : WX) (r : RS) (D : Ends) : Prop := match r with
  | .nx env st => ∀ W' σ', Le Γ W W' → SR Γ W' st → ER Γ W' env σ' → D.nx σ' W'.H
  | .rt v st => ∀ W' u, Le Γ W W' → SR Γ W' st → VR Γ W' v u → D.rt u W'.H
  | .bk env st => ∀ W' σ', Le Γ W W' → SR Γ W' st → ER Γ W' env σ' → D.bk σ' W'.H
  | .ct env st => ∀ W' σ', Le Γ W W' → SR Γ W' st → ER Γ W' env σ' → D.ct σ' W'.H
  | .ex c fs env st => ∀ W' σ', Le Γ W W' → SR Γ W' st → ER Γ W' env σ' → ExW Γ W' (wx Wx σ') c fs
  | .stk => False
def tS (Γ : Gm) (Wx : WX) (m : SmS) : TS := fun D σ H => ∃ (W : Wd) (st : Store) (env : Env), W.H = H ∧ SR Γ W st ∧ ER Γ W env σ ∧ PostS Γ W Wx (m env st) D
section
variable {Γ : Gm} {Wx : WX} {W W1 : Wd}
theorem PostS.later {r : RS} {D : Ends} (h : PostS Γ W Wx r D) (l : Le Γ W W1) : PostS Γ W1 Wx r D := by
  cases r with
  | nx env st => exact fun W' σ' l' => h W' σ' (l.trans l')
  | rt v st => exact fun W' u l' => h W' u (l.trans l')
  | bk env st => exact fun W' σ' l' => h W' σ' (l.trans l')
  | ct env st => exact fun W' σ' l' => h W' σ' (l.trans l')
  | ex c fs env st => exact fun W' σ' l' => h W' σ' (l.trans l')
  | stk => exact h
theorem PostS.imp {r : RS} {D D' : Ends} (h : PostS Γ W Wx r D) (h1 : ∀ σ H, D.nx σ H → D'.nx σ H) (h2 : ∀ v H, D.rt v H → D'.rt v H) (h3 : ∀ σ H, D.bk σ H → D'.bk σ H) (h4 : ∀ σ H, D.ct σ H → D'.ct σ H) : PostS Γ W Wx r D' := by
  cases r with
  | nx env st => exact fun W' σ' l S E => h1 _ _ (h W' σ' l S E)
  | rt v st => exact fun W' σ' l S E => h2 _ _ (h W' σ' l S E)
  | bk env st => exact fun W' σ' l S E => h3 _ _ (h W' σ' l S E)
  | ct env st => exact fun W' σ' l S E => h4 _ _ (h W' σ' l S E)
  | ex c fs env st => exact h
  | stk => exact h
theorem seqSt {α β : Type} {rel : Wd → α → β → Prop} {r : R α} {env : Env} {σ : L2.St} {f : α → Store → RS} {D : Ends} (E : ER Γ W env σ) (h : PostS Γ W Wx (RS.of r env f) D) :
    Post Γ W rel (wx Wx σ) r fun b W1 => Le Γ W W1 ∧ ∃ a st, SR Γ W1 st ∧ rel W1 a b ∧ PostS Γ W1 Wx (f a st) D := by
  cases r with
  | ok a st => exact fun W' b l S q => ⟨l, a, st, S, q, PostS.later h l⟩
  | exc c fs st => exact fun W' l S => h W' σ l S (E.mono l)
  | stk => exact h
/-- the first part of a statement is an expression -/
theorem stE {m : Sm} {st : Store} {env : Env} {σ : L2.St} {f : MV → Store → RS} {D : Ends} {P : V → Hp → Prop} (S : SR Γ W st) (E : ER Γ W env σ) (h : PostS Γ W Wx (RS.of (m env st) env f) D)
    (k : ∀ (W1 : Wd) (st1 : Store) (x : MV) (v : V), Le Γ W W1 → SR Γ W1 st1 → ER Γ W1 env σ → VR Γ W1 x v → PostS Γ W1 Wx (f x st1) D → P v W1.H) : tE Γ Wx m σ W.H P :=
  ⟨W, st, env, rfl, S, E, (seqSt E h).imp fun v W1 ⟨l, x, st1, S1, r1, p⟩ => k W1 st1 x v l S1 (E.mono l) r1 p⟩
theorem stT {m : SmB} {st : Store} {env : Env} {σ : L2.St} {f : Bool → Store → RS} {D : Ends} {P : Bool → Hp → Prop} (S : SR Γ W st) (E : ER Γ W env σ) (h : PostS Γ W Wx (RS.of (m env st) env f) D)
    (k : ∀ (W1 : Wd) (st1 : Store) (x : Bool), Le Γ W W1 → SR Γ W1 st1 → ER Γ W1 env σ → PostS Γ W1 Wx (f x st1) D → P x W1.H) : tT Γ Wx m σ W.H P :=
  ⟨W, st, env, rfl, S, E, (seqSt (rel := bRel) E h).imp fun v W1 ⟨l, x, st1, S1, r1, p⟩ => by
    have r1' : x = v := r1
    subst r1'
    exact k W1 st1 x l S1 (E.mono l) p⟩
end

/-! ### targets -/
/-- σ' is σ but at the slots T -/
def But (T : List Nat) (σ σ' : L2.St) : Prop := σ'.length = σ.length ∧ ∀ j, j ∉ T → (σ' : List (Option V))[j]? = (σ : List (Option V))[j]?
abbrev SmG := MV → Env → Store → R Env
def eRel (Γ : Gm) (T : List Nat) (σ : L2.St) : Wd → Env → L2.St → Prop := fun W env σ' => ER Γ W env σ' ∧ But T σ σ'
def tG (Γ : Gm) (Wx : WX) (T : List Nat) (m : SmG) : TG := fun v σ H Q => ∃ (W : Wd) (st : Store) (env : Env) (x : MV), W.H = H ∧ SR Γ W st ∧ ER Γ W env σ ∧ VR Γ W x v ∧ Post Γ W (eRel Γ T σ) (wx Wx σ) (m x env st) (fun σ' W' => Q σ' W'.H)
abbrev SmGs := List MV → Env → Store → R Env
def tGs (Γ : Gm) (Wx : WX) (T : List Nat) (m : SmGs) : TGs := fun vs σ H Q => ∃ (W : Wd) (st : Store) (env : Env) (xs : List MV), W.H = H ∧ SR Γ W st ∧ ER Γ W env σ ∧ VRs Γ W xs vs ∧ Post Γ W (eRel Γ T σ) (wx Wx σ) (m xs env st) (fun σ' W' => Q σ' W'.H)
def gV (i : Nat) : SmG := fun x env st => .ok (env.set i (some x)) st
def gN : SmGs := fun xs env st => match xs with
  | [] => .ok env st
  | _ => .stk
def gC (a : SmG) (r : SmGs) : SmGs := fun xs env st => match xs with
  | x :: xs => (a x env st).bind fun env st => r xs env st
  | [] => .stk
def gT (n : Nat) (r : SmGs) : SmG := fun x env st => match seqT x with
  | some xs => if xs.length = n then r xs env st else .stk
  | none => .stk
def gI (o i : Sm) : SmG := fun x env st => (o env st).bind fun a st => (i env st).bind fun b st => (mSet st a b x).bind fun _ st => .ok env st
theorem pg_imp {X : Cx} {tg : Expr} {t t' : TG} (h : PG X tg t) (f : ∀ v σ H Q, t' v σ H Q → t v σ H Q) : PG X tg t' := ⟨fun pn s σ H v u Q I r q => h.run pn s σ H v u Q I r (f v σ H Q q)⟩
theorem pgs_imp {X : Cx} {tg : List Expr} {t t' : TGs} (h : PGs X tg t) (f : ∀ v σ H Q, t' v σ H Q → t v σ H Q) : PGs X tg t' := ⟨fun pn s σ H v u Q I r q => h.run pn s σ H v u Q I r (f v σ H Q q)⟩
theorem But.refl {T : List Nat} {σ : L2.St} : But T σ σ := ⟨rfl, fun _ _ => rfl⟩
theorem But.trans {T U : List Nat} {σ σ1 σ2 : L2.St} (a : But T σ σ1) (b : But U σ1 σ2) : But (T ++ U) σ σ2 := ⟨b.1.trans a.1, fun j h => (b.2 j fun z => h (List.mem_append_right _ z)).trans (a.2 j fun z => h (List.mem_append_left _ z))⟩
theorem But.set {i : Nat} {σ : L2.St} {o : Option V} : But [i] σ (σ.set i o) := ⟨List.length_set, fun j h => by rw [List.getElem?_set_ne]; intro e; exact h (by simp [e])⟩
section
variable {Γ : Gm} {Wx : WX} {X : Cx} {pos : Pos} {e o i : Expr} {es : List Expr} {T U : List Nat} {ma mb : Sm} {mg : SmG} {mgs : SmGs}
theorem g_name {i : Nat} {x : Str} (hN : X.N.Nodup) (hi : X.N[i]? = some x) (hx : Loc X.env.scope x) (hf : X.fn x = true ∨ X.env.scope.names.lookup x = some .local) : PG X (.Name x pos) (tG Γ Wx [i] (gV i)) :=
  pg_imp (pg_name hN hi hx hf) fun v σ H Q ⟨W, st, env, x, e, S, E, r, p⟩ => by
    subst e
    exact p W _ Le.refl S ⟨E.set i r, But.set⟩
theorem gs_nil : PGs X [] (tGs Γ Wx [] gN) := pgs_imp pgs_nil fun v σ H Q ⟨W, st, env, xs, e, S, E, r, p⟩ => by
  subst e
  unfold gN at p
  split at p
  · cases r
    exact ⟨rfl, p W _ Le.refl S ⟨E, But.refl⟩⟩
  · exact p.elim
theorem gs_cons (h1 : PG X e (tG Γ Wx T mg)) (h2 : PGs X es (tGs Γ Wx U mgs)) (hs : (assignEach (e :: es) X.env).map (·.2) = assign e X.env :: (assignEach es X.env).map (·.2))
    (hn : ∀ xs env st, NoX (mgs xs env st)) : PGs X (e :: es) (tGs Γ Wx (T ++ U) (gC mg mgs)) :=
  pgs_imp (pgs_cons h1 h2 hs) fun vs σ H Q ⟨W, st, env, xs, e, S, E, r, p⟩ => by
    subst e
    unfold gC at p
    split at p
    · cases r with
      | cons r1 r2 =>
        refine ⟨_, _, rfl, W, st, env, _, rfl, S, E, r1, ?_⟩
        refine (Post.seq (rel := eRel Γ T σ) p).imp fun σ1 W1 ⟨l, env1, st1, S1, ⟨E1, B1⟩, p1⟩ => ?_
        refine ⟨W1, st1, env1, _, rfl, S1, E1, r2.mono l, ?_⟩
        revert p1
        cases hm : mgs _ env1 st1 with
        | ok a st2 => exact fun p1 W2 σ2 l2 S2 ⟨E2, B2⟩ => p1 W2 σ2 l2 S2 ⟨E2, B1.trans B2⟩
        | exc c fs st2 => exact absurd hm (hn _ _ _ c fs st2)
        | stk => exact fun p1 => p1
    · exact p.elim
theorem g_tup {k n : Nat} (hK : Γ.K = X.K) (hc : X.calm = true) (h : PGs X es (tGs Γ Wx T mgs)) (hn : (assignEach es X.env).length = n) (hst : (assignEach es X.env).findIdx? (·.1) = none) : PG X (.Tuple es k pos) (tG Γ Wx T (gT n mgs)) :=
  pg_imp (pg_tup hc h hn hst) fun v σ H Q ⟨W, st, env, x, e, S, E, r, p⟩ => by
    subst e
    unfold gT at p
    split at p
    · rename_i xs e
      split at p
      · rename_i hl
        obtain ⟨a, vs, rfl, hq, rv⟩ := seqT_rel r e
        exact ⟨a, vs, rfl, hK ▸ hq.sq, by rw [← rv.length]; exact hl, W, st, env, xs, rfl, S, E, rv, p⟩
      · exact p.elim
    · exact p.elim
theorem g_sub (hs : PSet X (tSetM Γ)) (hn : ∀ st a b c, NoX (mSet st a b c)) (ho : PE X o (tE Γ Wx ma)) (hi : PE X i (tE Γ Wx mb))
    (ha : ∀ v, assign (.Subscript
                                  o i pos) X.env v = (do
      let ov ← holding
                       [v] (eval o X.env)
      let iv ← holding [v,
                           ov] (eval i X.env)
      standAt pos
      holding [v, ov, iv]
                          (setItem ov iv v)
      release [v, ov, iv] [])) : PG X (.Subscript o i pos) (tG Γ Wx [] (gI ma mb)) :=
  pg_imp (pg_sub ho hi hs ha) fun v σ H Q ⟨W, st, env, x, e, S, E, r, p⟩ => by
    subst e
    refine seqE (α := MV) S E p fun W1 st1 y u l1 S1 E1 r1 p1 => seqE (α := MV) S1 E1 p1 fun W2 st2 z w l2 S2 E2 r2 p2 => ?_
    refine ⟨W2, st2, y, z, x, rfl, S2, r1.mono l2, r2, r.mono (l1.trans l2), ?_⟩
    exact ((Post.seq (rel := fun _ _ (_ : Unit) => True) p2).imp fun _ W3 ⟨l, a, st3, S3, _, p3⟩ => p3 W3 _ Le.refl S3 ⟨E2.mono l, But.refl⟩).nx (hn _ _ _ _)
end

/-! ### what is walked -/
inductive Src where
  | lst (k : Nat) | tup (xs : List MV) | rng (lo : Int) (n : Nat) | enm (k : Nat) | zip (j k : Nat)
def Src.nx (s : Src) (st : Store) (i : Nat) : Option (Option MV) := match s with
  | .lst k => match st[k]? with
    | some (.lst xs) => some xs[i]?
    | some (.frz xs) => some xs[i]?
    | _ => none
  | .tup xs => some xs[i]?
  | .rng lo n => if i < n then some (some (.int (lo + i))) else some none
  | .enm k => match seqL st (.ref k) with
    | some xs => some (xs[i]?.map fun x => .tup [.int i, x])
    | none => none
  | .zip j k => match seqL st (.ref j), seqL st (.ref k) with
    | some xs, some ys => some (match xs[i]?, ys[i]? with
      | some x, some y => some (.tup [x, y])
      | _, _ => none)
    | _, _ => none
def Src.size (s : Src) (st : Store) : Nat := match s with
  | .lst k => match st[k]? with
    | some (.lst xs) => xs.length
    | some (.frz xs) => xs.length
    | _ => 0
  | .tup xs => xs.length
  | .rng _ n => n
  | .enm k => match seqL st (.ref k) with
    | some xs => xs.length
    | none => 0
  | .zip j _ => match seqL st (.ref j) with
    | some xs => xs.length
    | none => 0
def JR (Γ : Gm) (W0 : Wd) (s : Src) (J : It) : Prop := ∀ W st i, Le Γ W0 W → SR Γ W st → (s.nx st i = some none → J.stop i W.H) ∧
  ∀ x, s.nx st i = some (some x) → J.go i W.H ∧ ∀ v H', J.yld i W.H v H' → ∃ W', W'.H = H' ∧ Le Γ W W' ∧ SR Γ W' st ∧ VR Γ W' x v
abbrev SmI := Env → Store → R Src
def tI (Γ : Gm) (Wx : WX) (m : SmI) : TI := fun σ H Rr => ∃ (W : Wd) (st : Store) (env : Env), W.H = H ∧ SR Γ W st ∧ ER Γ W env σ ∧ Post Γ W (JR Γ) (wx Wx σ) (m env st) (fun J W' => Rr J W'.H)
def iSeqM (a : Sm) : SmI := fun env st => (a env st).bind fun x st => match x with
  | .ref k => match seqL st (.ref k) with
    | some _ => .ok (.lst k) st
    | none => .stk
  | .tup xs => .ok (.tup xs) st
  | _ => .stk
def iRngM (r : SmA) : SmI := fun env st => (r env st).bind fun xs st => match xs with
  | [.int j] => if -(2 ^ 62) ≤ j ∧ j < 2 ^ 62 then .ok (.rng 0 j.toNat) st else .stk
  | [.int i, .int j] => if -(2 ^ 62) ≤ i ∧ i < 2 ^ 62 ∧ -(2 ^ 62) ≤ j ∧ j < 2 ^ 62 then .ok (.rng i (j - i).toNat) st else .stk
  | _ => .stk
section
variable {Γ : Gm} {Wx : WX} {X : Cx} {pos : Pos} {tg e l : Expr} {ma : Sm} {ms : SmA}
theorem pi_imp {iter : Expr} {t t' : TI} (h : PI X tg iter t) (f : ∀ σ H Q, t' σ H Q → t σ H Q) : PI X tg iter t' := ⟨fun pn s σ H Q I q => h.run pn s σ H Q I (f σ H Q q)⟩
def iSeq (K : PySem.W.Frag) (tl : TE) : TI := fun σ H Rr => tl σ H fun x H1 => ∃ a, x = .ref a ∧ (((∃ xs, SqL K H1 a xs) ∧ Rr (Itl K a) H1) ∨ ((∃ xs, SqT K H1 a xs) ∧ Rr (Itt K a) H1))
theorem pi_seq {tl : TE} (hl : PE X l tl) : PI X tg l (iSeq X.K tl) := by
  refine ⟨fun pn s σ H Rr I h => ?_⟩
  refine thn (hl.run pn s σ H _ I h) fun v s1 ⟨x, H1, I1, r1, a, ex, q⟩ => ?_
  subst ex
  cases r1
  have fp : ∀ b ∈ [s1.heap.objs.size], FpOk X pn H1 b := fun b hb => by
    rw [List.mem_singleton.mp hb]
    exact I1.fpOk (Nat.le_refl _) I1.fresh
  rcases q with ⟨⟨xs, hq⟩, q⟩ | ⟨⟨xs, hq⟩, q⟩
  · obtain ⟨us, _, pl, _⟩ := I1.list hq
    exact wpAny_pyIter_list pl.isList ⟨_, _, _, _, H1, rfl, I1.kept (t' := s1.toks) (fun b o z => Heap.get?_push_of_some _ z), turn_list a _, ⟨_, Heap.get?_push_size _ rfl, rfl, rfl⟩, fp, q⟩
  · obtain ⟨us, _, pl, _⟩ := I1.tuple hq
    exact wpAny_pyIter_tuple (show s1.heap.IsTuple a us.toArray from pl) ⟨_, _, _, _, H1, rfl, I1.kept (t' := s1.toks) (fun b o z => Heap.get?_push_of_some _ z), turn_tuple a _, ⟨_, Heap.get?_push_size _ rfl, rfl, rfl⟩, fp, q⟩
theorem jr_lst (hK : Γ.K = X.K) {W : Wd} {k : Nat} (hk : k < W.n) : JR Γ W (.lst k) (Itl X.K (W.ρ k)) := fun W1 st i l S => by
  have e : W1.ρ k = W.ρ k := l.ρ k hk
  have go : ∀ {xs : List MV} {vs : List V}, SqL X.K W1.H (W.ρ k) vs → VRs Γ W1 xs vs → (some xs[i]? = some none → (Itl X.K (W.ρ k)).stop i W1.H) ∧
      ∀ x, some xs[i]? = some (some x) → (Itl X.K (W.ρ k)).go i W1.H ∧ ∀ v H', (Itl X.K (W.ρ k)).yld i W1.H v H' → ∃ W', W'.H = H' ∧ Le Γ W1 W' ∧ SR Γ W' st ∧ VR Γ W' x v := by
    intro xs vs hq rv
    refine ⟨fun h => ⟨vs, hq, ?_⟩, fun x h => ?_⟩
    · rw [← rv.length]
      exact List.getElem?_eq_none_iff.mp (Option.some.inj h)
    · obtain ⟨v, hv, r⟩ := rv.get (Option.some.inj h)
      refine ⟨⟨vs, v, hq, hv⟩, fun u H' hy => ⟨W1, hy.1.symm, Le.refl, S, ?_⟩⟩
      have := hy.2 vs hq
      rw [hv] at this
      cases this
      exact r
  have nil : (Src.lst k).nx st i = none → ((Src.lst k).nx st i = some none → (Itl X.K (W.ρ k)).stop i W1.H) ∧
      ∀ x, (Src.lst k).nx st i = some (some x) → (Itl X.K (W.ρ k)).go i W1.H ∧ ∀ v H', (Itl X.K (W.ρ k)).yld i W1.H v H' → ∃ W', W'.H = H' ∧ Le Γ W1 W' ∧ SR Γ W' st ∧ VR Γ W' x v := fun z => by
    rw [z]
    exact ⟨(fun z => by cases z), (fun x z => by cases z)⟩
  cases h : st[k]? with
  | none => exact nil (by simp only [Src.nx, h])
  | some o =>
    obtain ⟨u, hu, q⟩ := S.at_ k o h
    rw [e] at hu
    cases q with
    | lst r => rw [show (Src.lst k).nx st i = some _ by simp only [Src.nx, h]; exact rfl]; exact go (.inl (.inl hu)) r
    | frz r => rw [show (Src.lst k).nx st i = some _ by simp only [Src.nx, h]; exact rfl]; exact go (.inl (.inr ⟨_, hu⟩)) r
    | ins _ _ => exact nil (by simp only [Src.nx, h])
    | dct _ _ => exact nil (by simp only [Src.nx, h])
theorem jr_tup (hK : Γ.K = X.K) {W : Wd} {a : Addr} {xs : List MV} {vs : List V} (hq : TuH Γ.K W.H a vs) (rv : VRs Γ W xs vs) : JR Γ W (.tup xs) (Itt X.K a) := fun W1 st i l S => by
  have hq1 : SqT X.K W1.H a vs := hK ▸ (l.tup a vs hq).sq
  have rv1 := rv.mono l
  refine ⟨fun h => ⟨vs, hq1, ?_⟩, fun x h => ?_⟩
  · rw [← rv.length]
    exact List.getElem?_eq_none_iff.mp (Option.some.inj h)
  · obtain ⟨v, hv, r⟩ := rv1.get (Option.some.inj h)
    refine ⟨⟨vs, v, hq1, hv⟩, fun u H' hy => ⟨W1, hy.1.symm, Le.refl, S, ?_⟩⟩
    have := hy.2 vs hq1
    rw [hv] at this
    cases this
    exact r
theorem jr_rng {W : Wd} (lo : Int) (n : Nat) : JR Γ W (.rng lo n) (Itr lo n) := fun W1 st i l S => by
  unfold Src.nx
  refine ⟨fun h => ?_, fun x h => ?_⟩
  · by_cases c : i < n
    · simp only [if_pos c] at h; cases h
    · show n ≤ i; omega
  · by_cases c : i < n
    · simp only [if_pos c] at h
      cases h
      exact ⟨c, fun v H' hy => ⟨W1, hy.1.symm, Le.refl, S, by rw [hy.2]; exact .int _⟩⟩
    · simp only [if_neg c] at h; cases h
theorem jr_enm (hK : Γ.K = X.K) {W : Wd} {k : Nat} (hk : k < W.n) : JR Γ W (.enm k) (Ite X.K (W.ρ k)) := fun W1 st i l S => by
  have e : W1.ρ k = W.ρ k := l.ρ k hk
  cases h : seqL st (.ref k) with
  | none => exact ⟨(fun z => by simp only [Src.nx, h] at z; cases z), (fun x z => by simp only [Src.nx, h] at z; cases z)⟩
  | some xs =>
    obtain ⟨a, vs, ea, hq, rv⟩ := seqL_rel S (.ref (Nat.lt_of_lt_of_le hk l.n)) h
    cases ea
    rw [e, hK] at hq
    refine ⟨fun z => ?_, fun x z => ?_⟩
    · simp only [Src.nx, h] at z
      have z' := Option.some.inj z
      rw [Option.map_eq_none_iff] at z'
      exact ⟨vs, hq, by rw [← rv.length]; exact List.getElem?_eq_none_iff.mp z'⟩
    · simp only [Src.nx, h] at z
      obtain ⟨y, hy, rfl⟩ := Option.map_eq_some_iff.mp (Option.some.inj z)
      obtain ⟨v, hv, r⟩ := rv.get hy
      refine ⟨⟨vs, v, hq, hv⟩, fun u H' ⟨T, y', eu, hT, eH, hall⟩ => ?_⟩
      subst eu eH
      have := hall vs hq
      rw [hv] at this
      cases this
      have l2 : Le Γ W1 (W1.side T (.tup [.int (i : Nat), v])) := le_side hT
      exact ⟨_, rfl, l2, S.side hT, .tup (.inl upd_same) (.cons (.int _) (.cons (r.mono l2) .nil))⟩
theorem jr_zip (hK : Γ.K = X.K) {W : Wd} {j k : Nat} (hj : j < W.n) (hk : k < W.n) : JR Γ W (.zip j k) (Itz X.K (W.ρ j) (W.ρ k)) := fun W1 st i l S => by
  have ej : W1.ρ j = W.ρ j := l.ρ j hj
  have ek : W1.ρ k = W.ρ k := l.ρ k hk
  cases h1 : seqL st (.ref j) with
  | none => exact ⟨(fun z => by simp only [Src.nx, h1] at z; cases z), (fun x z => by simp only [Src.nx, h1] at z; cases z)⟩
  | some xs =>
    cases h2 : seqL st (.ref k) with
    | none => exact ⟨(fun z => by simp only [Src.nx, h1, h2] at z; cases z), (fun x z => by simp only [Src.nx, h1, h2] at z; cases z)⟩
    | some ys =>
      obtain ⟨a, vs, ea, hq, rv⟩ := seqL_rel S (.ref (Nat.lt_of_lt_of_le hj l.n)) h1
      cases ea
      rw [ej, hK] at hq
      obtain ⟨b, ws, eb, hq2, rw'⟩ := seqL_rel S (.ref (Nat.lt_of_lt_of_le hk l.n)) h2
      cases eb
      rw [ek, hK] at hq2
      refine ⟨fun z => ?_, fun x z => ?_⟩
      · simp only [Src.nx, h1, h2] at z
        have z' := Option.some.inj z
        refine ⟨vs, ws, hq, hq2, ?_⟩
        split at z'
        · cases z'
        · rename_i hno
          cases e1 : xs[i]? with
          | none => exact .inl (by rw [← rv.length]; exact List.getElem?_eq_none_iff.mp e1)
          | some x => cases e2 : ys[i]? with
            | none => exact .inr (by rw [← rw'.length]; exact List.getElem?_eq_none_iff.mp e2)
            | some y => exact absurd e2 (hno x y e1)
      · simp only [Src.nx, h1, h2] at z
        have z' := Option.some.inj z
        split at z'
        · rename_i x' y' e1 e2
          cases z'
          obtain ⟨v, hv, r⟩ := rv.get e1
          obtain ⟨u, hu, r2⟩ := rw'.get e2
          refine ⟨⟨vs, ws, v, u, hq, hq2, hv, hu⟩, fun w H' ⟨T, x2, y2, ew, hT, eH, a1, a2⟩ => ?_⟩
          subst ew eH
          have b1 := a1 vs hq
          rw [hv] at b1
          cases b1
          have b2 := a2 ws hq2
          rw [hu] at b2
          cases b2
          have l2 : Le Γ W1 (W1.side T (.tup [v, u])) := le_side hT
          exact ⟨_, rfl, l2, S.side hT, .tup (.inl upd_same) (.cons (r.mono l2) (.cons (r2.mono l2) .nil))⟩
        · cases z'
def iEnmM (r : SmA) : SmI := fun env st => (r env st).bind fun xs st => match xs with
  | [.ref k] => match seqL st (.ref k) with
    | some _ => .ok (.enm k) st
    | none => .stk
  | _ => .stk
def iZipM (r : SmA) : SmI := fun env st => (r env st).bind fun xs st => match xs with
  | [.ref j, .ref k] => match seqL st (.ref j), seqL st (.ref k) with
    | some _, some _ => .ok (.zip j k) st
    | _, _ => .stk
  | _ => .stk
theorem i_enum {a : Expr} {elts : List Expr} {kk : Nat} {p pos tpos : Pos} (hK : Γ.K = X.K) (hg : Gl X "enumerate") (hm : X.mg "enumerate" = none) (ha : PA X [a] (tA Γ Wx ms)) (hs : starEach [a] X.env = [(false, eval a X.env)]) :
    PI X (.Tuple elts kk tpos) (.Call (.Name "enumerate" p) [a] [] pos) (tI Γ Wx (iEnmM ms)) :=
  pi_imp (pi_enum hg hm ha hs) fun σ H Q ⟨W, st, env, e, S, E, p⟩ => by
    subst e
    refine seqAA S E p fun W1 st1 xs vs l1 S1 E1 r1 p1 => ?_
    split at p1
    · rename_i k
      split at p1
      · rename_i ys h
        obtain ⟨v, rfl, rv⟩ := vrs1 r1
        obtain ⟨b, ws, eb, hq, rw'⟩ := seqL_rel S1 rv h
        cases rv with
        | ref hk =>
          cases eb
          exact ⟨_, ws, rfl, hK ▸ hq, p1 W1 _ Le.refl S1 (jr_enm hK hk)⟩
      · exact p1.elim
    · exact p1.elim
theorem i_zip {a b : Expr} {elts : List Expr} {kk : Nat} {p pos tpos : Pos} (hK : Γ.K = X.K) (hg : Gl X "zip") (hm : X.mg "zip" = none) (ha : PA X [a, b] (tA Γ Wx ms)) (hs : starEach [a, b] X.env = (false, eval a X.env) :: starEach [b] X.env) (hpl : (backTo pos (starEach [b] X.env)).any (·.1) = false) :
    PI X (.Tuple elts kk tpos) (.Call (.Name "zip" p) [a, b] [] pos) (tI Γ Wx (iZipM ms)) :=
  pi_imp (pi_zip hg hm ha hs hpl) fun σ H Q ⟨W, st, env, e, S, E, p⟩ => by
    subst e
    refine seqAA S E p fun W1 st1 xs vs l1 S1 E1 r1 p1 => ?_
    split at p1
    · rename_i j k
      split at p1
      · rename_i xs' ys' h1 h2
        obtain ⟨v, w, rfl, rv, rw'⟩ := vrs2 r1
        obtain ⟨a1, ws, ea, hq, _⟩ := seqL_rel S1 rv h1
        obtain ⟨b1, us, eb, hq2, _⟩ := seqL_rel S1 rw' h2
        cases rv with
        | ref hj => cases rw' with
          | ref hk =>
            cases ea
            cases eb
            exact ⟨_, _, ws, us, rfl, hK ▸ hq, hK ▸ hq2, p1 W1 _ Le.refl S1 (jr_zip hK hj hk)⟩
      · exact p1.elim
    · exact p1.elim
theorem i_seq (hK : Γ.K = X.K) (ha : PE X l (tE Γ Wx ma)) : PI X tg l (tI Γ Wx (iSeqM ma)) :=
  pi_imp (pi_seq ha) fun σ H Q ⟨W, st, env, e, S, E, p⟩ => by
    subst e
    refine seqE (α := MV) S E p fun W1 st1 x v l1 S1 E1 r1 p1 => ?_
    split at p1
    · split at p1
      · rename_i k xs e
        obtain ⟨a, vs, rfl, hq, rv⟩ := seqL_rel S1 r1 e
        cases r1 with
        | ref hk => exact ⟨_, rfl, .inl ⟨⟨vs, hK ▸ hq⟩, p1 W1 _ Le.refl S1 (jr_lst hK hk)⟩⟩
      · exact p1.elim
    · cases r1 with
      | tup hq rv => exact ⟨_, rfl, .inr ⟨⟨_, hK ▸ hq.sq⟩, p1 W1 _ Le.refl S1 (jr_tup hK hq rv)⟩⟩
    · exact p1.elim
theorem i_rng1 {a : Expr} {p pos : Pos} (hg : Gl X "range") (hm : X.mg "range" = none) (ha : PA X [a] (tA Γ Wx ms)) (hs : starEach [a] X.env = [(false, eval a X.env)]) : PI X tg (.Call (.Name "range" p) [a] [] pos) (tI Γ Wx fun env st => (ms env st).bind fun xs st => match xs with
  | [.int j] => if -(2 ^ 62) ≤ j ∧ j < 2 ^ 62 then .ok (.rng 0 j.toNat) st else .stk
  | _ => .stk) :=
  pi_imp (pi_range1 hg hm ha hs) fun σ H Q ⟨W, st, env, e, S, E, p⟩ => by
    subst e
    refine seqAA S E p fun W1 st1 xs vs l1 S1 E1 r1 p1 => ?_
    split at p1
    · split at p1
      · rename_i c
        obtain ⟨v, rfl, rv⟩ := vrs1 r1
        cases rv
        exact ⟨_, rfl, c.1, c.2, p1 W1 _ Le.refl S1 (jr_rng _ _)⟩
      · exact p1.elim
    · exact p1.elim
theorem i_rng2 {a b : Expr} {p pos : Pos} (hg : Gl X "range") (hm : X.mg "range" = none) (ha : PA X [a, b] (tA Γ Wx ms)) (hs : starEach [a, b] X.env = [(false, eval a X.env), (false, eval b X.env)]) (hs2 : starEach [b] X.env = [(false, eval b X.env)]) :
    PI X tg (.Call (.Name "range" p) [a, b] [] pos) (tI Γ Wx fun env st => (ms env st).bind fun xs st => match xs with
  | [.int i, .int j] => if -(2 ^ 62) ≤ i ∧ i < 2 ^ 62 ∧ -(2 ^ 62) ≤ j ∧ j < 2 ^ 62 then .ok (.rng i (j - i).toNat) st else .stk
  | _ => .stk) :=
  pi_imp (pi_range2 hg hm ha hs hs2) fun σ H Q ⟨W, st, env, e, S, E, p⟩ => by
    subst e
    refine seqAA S E p fun W1 st1 xs vs l1 S1 E1 r1 p1 => ?_
    split at p1
    · split at p1
      · rename_i c
        obtain ⟨v, w, rfl, rv, rw'⟩ := vrs2 r1
        cases rv; cases rw'
        exact ⟨_, _, rfl, c, p1 W1 _ Le.refl S1 (jr_rng _ _)⟩
      · exact p1.elim
    · exact p1.elim
end
end Mn
/-! Mn7: statements, loops, comprehensions. -/
namespace Mn
open PySem PySem.Spec
                      PyProof.Rows L2

theorem ps_imp {X : Cx} {s : Stmt} {t t' : TS} (h : PS X s t) (f : ∀ D σ H, t' D σ H → t D σ H) : PS X s t' := ⟨fun pn s σ H D I q => h.run pn s σ H D I (f D σ H q)⟩
theorem pss_imp {X : Cx} {s : List Stmt} {t t' : TS} (h : PSs X s t) (f : ∀ D σ H, t' D σ H → t D σ H) : PSs X s t' := ⟨fun pn s σ H D I q => h.run pn s σ H D I (f D σ H q)⟩
def qNext : SmS := fun env st => .nx env st
def qSeq (a b : SmS) : SmS := fun env st => match a env st with
  | .nx env st => b env st
  | r => r
def qExpr (a : Sm) : SmS := fun env st => RS.of (a env st) env fun _ st => .nx env st
def qRet (a : Sm) : SmS := fun env st => RS.of (a env st) env fun v st => .rt v st
def qRetN : SmS := fun _ st => .rt .non st
def qBrk : SmS := fun env st => .bk env st
def qCont : SmS := fun env st => .ct env st
def qIf (c : SmB) (a b : SmS) : SmS := fun env st => RS.of (c env st) env fun k st => if k = true then a env st else b env st
def qSet (i : Nat) (a : Sm) : SmS := fun env st => RS.of (a env st) env fun v st => .nx (env.set i (some v)) st
def qAsg (a : Sm) (g : SmG) : SmS := fun env st => RS.of (a env st) env fun v st => RS.of (g v env st) env fun env st => .nx env st
def qPar (i j : Nat) (r : SmA) : SmS := fun env st => RS.of (r env st) env fun xs st => match xs with
  | [x, y] => .nx ((env.set i (some x)).set j (some y)) st
  | _ => .stk
section
variable {Γ : Gm} {Wx : WX} {X : Cx} {pos : Pos} {s : Stmt} {ss ts : List Stmt} {e c : Expr} {ma mb : Sm} {mc : SmB} {a b : SmS} {mg : SmG} {T : List Nat}
theorem q_nil : PSs X [] (tS Γ Wx qNext) := pss_imp pss_nil fun D σ H ⟨W, st, env, e, S, E, p⟩ => by
  subst e
  exact p W σ Le.refl S E
theorem q_pass : PS X (.Pass pos) (tS Γ Wx qNext) := ps_imp ps_pass fun D σ H ⟨W, st, env, e, S, E, p⟩ => by
  subst e
  exact p W σ Le.refl S E
theorem q_break : PS X (.Break pos) (tS Γ Wx qBrk) := ps_imp ps_break fun D σ H ⟨W, st, env, e, S, E, p⟩ => by
  subst e
  exact p W σ Le.refl S E
theorem q_cont : PS X (.Continue pos) (tS Γ Wx qCont) := ps_imp ps_continue fun D σ H ⟨W, st, env, e, S, E, p⟩ => by
  subst e
  exact p W σ Le.refl S E
theorem q_cons (h1 : PS X s (tS Γ Wx a)) (h2 : PSs X ss (tS Γ Wx b)) : PSs X (s :: ss) (tS Γ Wx (qSeq a b)) := pss_imp (pss_cons h1 h2) fun D σ H ⟨W, st, env, e, S, E, p⟩ => by
  subst e
  refine ⟨W, st, env, rfl, S, E, ?_⟩
  revert p
  unfold qSeq
  cases a env st with
  | nx env1 st1 => exact fun p W1 σ1 l S1 E1 => ⟨W1, st1, env1, rfl, S1, E1, p.later l⟩
  | _ => exact fun p => p
theorem q_expr (he : PE X e (tE Γ Wx ma)) (hs : swapsWith e none pos.line X.env = pure false) : PS X (.Expr e pos) (tS Γ Wx (qExpr ma)) := ps_imp (ps_expr he hs) fun D σ H ⟨W, st, env, e, S, E, p⟩ => by
  subst e
  exact stE S E p fun W1 st1 x v l S1 E1 r p1 => p1 W1 σ Le.refl S1 E1
theorem q_ret (he : PE X e (tE Γ Wx ma)) : PS X (.Return (some e) pos) (tS Γ Wx (qRet ma)) := ps_imp (ps_ret he) fun D σ H ⟨W, st, env, e, S, E, p⟩ => by
  subst e
  exact stE S E p fun W1 st1 x v l S1 E1 r p1 => p1 W1 v Le.refl S1 r
theorem q_retN : PS X (.Return none pos) (tS Γ Wx qRetN) := ps_imp ps_retN fun D σ H ⟨W, st, env, e, S, E, p⟩ => by
  subst e
  exact p W .non Le.refl S .non
theorem q_if (hc : PT X c (tT Γ Wx mc)) (ha : PSs X ss (tS Γ Wx a)) (hb : PSs X ts (tS Γ Wx b)) : PS X (.If c ss ts pos) (tS Γ Wx (qIf mc a b)) := ps_imp (ps_if hc ha hb) fun D σ H ⟨W, st, env, e, S, E, p⟩ => by
  subst e
  refine stT S E p fun W1 st1 x l S1 E1 p1 => ?_
  cases x with
  | true => rw [if_pos rfl] at p1 ⊢; exact ⟨W1, st1, env, rfl, S1, E1, p1⟩
  | false => rw [if_neg Bool.false_ne_true] at p1 ⊢; exact ⟨W1, st1, env, rfl, S1, E1, p1⟩
theorem q_set {i : Nat} {x : Str} {pos' : Pos} (hN : X.N.Nodup) (hi : X.N[i]? = some x) (hx : Loc X.env.scope x) (he : PE X e (tE Γ Wx ma)) (hs : swapsWith e (some (.Name x pos')) pos.line X.env = pure false) (hf : X.fn x = true ∨ X.env.scope.names.lookup x = some .local) :
    PS X (.Assign [.Name x pos'] e pos) (tS Γ Wx (qSet i ma)) := ps_imp (ps_set hN hi hx he hs hf) fun D σ H ⟨W, st, env, e, S, E, p⟩ => by
  subst e
  exact stE S E p fun W1 st1 x v l S1 E1 r p1 => p1 W1 _ Le.refl S1 (E1.set i r)
theorem q_asg {tg : Expr} (he : PE X e (tE Γ Wx ma)) (hg : PG X tg (tG Γ Wx T mg)) (hs : swapsWithSole [tg] e pos.line X.env = pure false) (hw : swappedStores [tg] e X.env = pure none) (h1 : (assignEach [tg] X.env).map (·.2) = [assign tg X.env]) :
    PS X (.Assign [tg] e pos) (tS Γ Wx (qAsg ma mg)) := ps_imp (ps_asg he hg hs hw h1) fun D σ H ⟨W, st, env, e, S, E, p⟩ => by
  subst e
  refine stE S E p fun W1 st1 x v l S1 E1 r p1 => ⟨W1, st1, env, x, rfl, S1, E1, r, ?_⟩
  exact (seqSt (rel := eRel Γ T σ) E1 p1).imp fun σ2 W2 ⟨l2, env2, st2, S2, ⟨E2, _⟩, p2⟩ => p2 W2 σ2 Le.refl S2 E2
theorem q_par {i j : Nat} {x y : Str} {u v : Expr} {px py pt : Pos} {kt k2 : Nat} {pt2 : Pos} {ms : SmA} (hc : X.calm = true) (hN : X.N.Nodup) (hi : X.N[i]? = some x) (hj : X.N[j]? = some y) (hij : i ≠ j)
    (hx : X.env.scope.names.lookup x = some .local) (hy : X.env.scope.names.lookup y = some .local) (ha : PA X [u, v] (tA Γ Wx ms)) (hw : swappedStores [.Tuple [.Name x px, .Name y py] kt pt] (.Tuple [u, v] k2 pt2) X.env = pure (some [x, y])) :
    PS X (.Assign [.Tuple [.Name x px, .Name y py] kt pt] (.Tuple [u, v] k2 pt2) pos) (tS Γ Wx (qPar i j ms)) := ps_imp (ps_par hc hN hi hj hij hx hy ha hw rfl) fun D σ H ⟨W, st, env, e, S, E, p⟩ => by
  subst e
  refine ⟨W, st, env, rfl, S, E, (seqSt (rel := VRs Γ) E p).imp fun vs W1 ⟨l, xs, st1, S1, r, p1⟩ => ?_⟩
  split at p1
  · obtain ⟨v1, w1, rfl, r1, r2⟩ := vrs2 r
    exact ⟨v1, w1, rfl, p1 W1 _ Le.refl S1 (((E.mono l).set i r1).set j r2)⟩
  · exact p1.elim
end

/-! ### for, while -/
def forGo (nx : Store → Nat → Option (Option MV)) (g : SmG) (b : SmS) : Nat → Nat → Env → Store → RS
  | 0, _, _, _ => .stk
  | n + 1, i, env, st => match nx st i with
    | none => .stk
    | some none => .nx env st
    | some (some x) => RS.of (g x env st) env fun env1 st1 => match b env1 st1 with
      | .nx env2 st2 => forGo nx g b n (i + 1) env2 st2
      | .ct env2 st2 => forGo nx g b n (i + 1) env2 st2
      | .bk env2 st2 => .nx env2 st2
      | r => r
def qFor (it : SmI) (g : SmG) (b : SmS) : SmS := fun env st => RS.of (it env st) env fun s st => forGo s.nx g b (s.size st + 1) 0 env st
def whileGo (c : SmB) (b : SmS) : Nat → Env → Store → RS
  | 0, _, _ => .stk
  | n + 1, env, st => RS.of (c env st) env fun k st1 => if k = true then (match b env st1 with
      | .nx env2 st2 => whileGo c b n env2 st2
      | .ct env2 st2 => whileGo c b n env2 st2
      | .bk env2 st2 => .nx env2 st2
      | r => r) else .nx env st1
/-- as many turns of a while as may be -/
abbrev WF : Nat := 2 ^ 40
def qWhile (c : SmB) (b : SmS) : SmS := fun env st => whileGo c b WF env st
section
variable {Γ : Gm} {Wx : WX} {X : Cx} {pos : Pos} {ss : List Stmt} {c tg iter : Expr} {mc : SmB} {b : SmS} {mg : SmG} {mi : SmI} {T : List Nat}
theorem q_for (hp : PassesOwn (model X.prog X.w) X.A X.env X.xe) (hc : X.calm = true) (hi : PI X tg iter (tI Γ Wx mi)) (hg : PG X tg (tG Γ Wx T mg)) (hb : PSs X ss (tS Γ Wx b)) (hs : ∀ x, foldedSetIterable iter X.env x = pure x) :
    PS X (.For tg iter ss [] pos) (tS Γ Wx (qFor mi mg b)) := ps_imp (ps_for hp hc hi hg hb hs) fun D σ H ⟨W, st, env, e, S, E, p⟩ => by
  subst e
  refine ⟨W, st, env, rfl, S, E, (seqSt (rel := JR Γ) E p).imp fun J W1 ⟨l, s, st1, S1, j, p1⟩ => ?_⟩
  refine ⟨fun i m σ H => ∃ (W2 : Wd) (st2 : Store) (env2 : Env), W2.H = H ∧ Le Γ W1 W2 ∧ SR Γ W2 st2 ∧ ER Γ W2 env2 σ ∧ PostS Γ W2 Wx (forGo s.nx mg b m i env2 st2) D, ⟨_, W1, st1, env, rfl, Le.refl, S1, E.mono l, p1⟩, ?_⟩
  intro i m σ2 H2 ⟨W2, st2, env2, e, l2, S2, E2, p2⟩
  subst e
  cases m with
  | zero => exact p2.elim
  | succ m =>
    obtain ⟨j1, j2⟩ := j W2 st2 i l2 S2
    unfold forGo at p2
    split at p2
    · exact p2.elim
    · rename_i e
      exact .inl ⟨j1 e, p2 W2 σ2 Le.refl S2 E2⟩
    · rename_i x e
      obtain ⟨go, y⟩ := j2 x e
      refine .inr ⟨go, fun σ H => ∃ m', m' < m + 1 ∧ ∃ (W3 : Wd) (st3 : Store) (env3 : Env), W3.H = H ∧ Le Γ W1 W3 ∧ SR Γ W3 st3 ∧ ER Γ W3 env3 σ ∧ PostS Γ W3 Wx (forGo s.nx mg b m' (i + 1) env3 st3) D, fun _ _ q => q, fun v H' hy => ?_⟩
      obtain ⟨W3, e3, l3, S3, r3⟩ := y v H' hy
      subst e3
      refine ⟨W3, st2, env2, x, rfl, S3, E2.mono l3, r3, ?_⟩
      refine (seqSt (rel := eRel Γ T σ2) (E2.mono l3) (p2.later l3)).imp fun σ4 W4 ⟨l4, env4, st4, S4, ⟨E4, _⟩, p4⟩ => ⟨W4, st4, env4, rfl, S4, E4, ?_⟩
      have lt : Le Γ W1 W4 := (l2.trans l3).trans l4
      revert p4
      cases b env4 st4 with
      | nx env5 st5 => exact fun p4 W5 σ5 l5 S5 E5 => ⟨m, Nat.lt_succ_self _, W5, st5, env5, rfl, lt.trans l5, S5, E5, p4.later l5⟩
      | ct env5 st5 => exact fun p4 W5 σ5 l5 S5 E5 => ⟨m, Nat.lt_succ_self _, W5, st5, env5, rfl, lt.trans l5, S5, E5, p4.later l5⟩
      | bk env5 st5 => exact fun p4 => p4
      | rt v st5 => exact fun p4 => p4
      | ex c fs env5 st5 => exact fun p4 => p4
      | stk => exact fun p4 => p4
theorem q_while (hp : PassesOwn (model X.prog X.w) X.A X.env X.xe) (hc : PT X c (tT Γ Wx mc)) (hb : PSs X ss (tS Γ Wx b)) : PS X (.While c ss [] pos) (tS Γ Wx (qWhile mc b)) := ps_imp (ps_while hp hc hb) fun D σ H ⟨W, st, env, e, S, E, p⟩ => by
  subst e
  refine ⟨fun m σ H => ∃ (W2 : Wd) (st2 : Store) (env2 : Env), W2.H = H ∧ SR Γ W2 st2 ∧ ER Γ W2 env2 σ ∧ PostS Γ W2 Wx (whileGo mc b m env2 st2) D, ⟨WF, W, st, env, rfl, S, E, p⟩, ?_⟩
  intro m σ2 H2 ⟨W2, st2, env2, e, S2, E2, p2⟩
  subst e
  cases m with
  | zero => exact p2.elim
  | succ m =>
    unfold whileGo at p2
    refine stT S2 E2 p2 fun W3 st3 x l3 S3 E3 p3 => ?_
    cases x with
    | false => rw [if_neg Bool.false_ne_true] at p3 ⊢; exact p3 W3 σ2 Le.refl S3 E3
    | true =>
      rw [if_pos rfl] at p3 ⊢
      refine ⟨fun σ H => ∃ m', m' < m + 1 ∧ ∃ (W3 : Wd) (st3 : Store) (env3 : Env), W3.H = H ∧ SR Γ W3 st3 ∧ ER Γ W3 env3 σ ∧ PostS Γ W3 Wx (whileGo mc b m' env3 st3) D, fun _ _ q => q, W3, st3, env2, rfl, S3, E3, ?_⟩
      revert p3
      cases b env2 st3 with
      | nx env5 st5 => exact fun p4 W5 σ5 l5 S5 E5 => ⟨m, Nat.lt_succ_self _, W5, st5, env5, rfl, S5, E5, p4.later l5⟩
      | ct env5 st5 => exact fun p4 W5 σ5 l5 S5 E5 => ⟨m, Nat.lt_succ_self _, W5, st5, env5, rfl, S5, E5, p4.later l5⟩
      | bk env5 st5 => exact fun p4 => p4
      | rt v st5 => exact fun p4 => p4
      | ex c fs env5 st5 => exact fun p4 => p4
      | stk => exact fun p4 => p4
end

/-! ### comprehensions -/
def wipeE (env : Env) : List Nat → Env
  | [] => env
  | v :: vs => (wipeE env vs).set v none
def lcGo (nx : Store → Nat → Option (Option MV)) (g : SmG) (c : SmB) (e : Sm) (D : Nat) (env : Env) : Nat → Nat → Store → R MV
  | 0, _, _ => .stk
  | n + 1, i, st => match nx st i with
    | none => .stk
    | some none => .ok (.ref D) st
    | some (some x) => match g x env st with
      | .ok env1 st1 => match c env1 st1 with
        | .ok true st2 => match e env1 st2 with
          | .ok y st3 => match st3[D]? with
            | some (.lst acc) => if acc.length < LN then lcGo nx g c e D env n (i + 1) (st3.set D (.lst (acc ++ [y]))) else .stk
            | _ => .stk
          | _ => .stk
        | .ok false st2 => lcGo nx g c e D env n (i + 1) st2
        | _ => .stk
      | _ => .stk
def sLc (it : SmI) (own : List Nat) (g : SmG) (c : SmB) (e : Sm) : Sm := fun env st => (it env st).bind fun s st => lcGo s.nx g c e st.length (wipeE env own) (s.size st + 1) 0 (st ++ [.lst []])
section
variable {Γ : Gm} {Wx : WX} {X : Cx} {pos : Pos} {elt tg iter : Expr} {ifs : List Expr} {scope : Scope} {own : List (Str × Nat)} {mi : SmI} {mg : SmG} {mc : SmB} {me : Sm} {T : List Nat}
theorem ER.wipe {W : Wd} {env : Env} {σ : L2.St} (E : ER Γ W env σ) (hx : Γ.xs = none) : ∀ vs : List Nat, ER Γ W (wipeE env vs) (L2.wipe σ vs)
  | [] => E
  | v :: vs => (ER.wipe E hx vs).del hx v none
theorem wipe_but {T : List Nat} {σ σ' : L2.St} : ∀ {vs : List Nat}, (∀ j ∈ T, j ∈ vs) → But T (L2.wipe σ vs) σ' → L2.wipe σ' vs = L2.wipe σ vs := by
  intro vs hT hB
  have key : ∀ (us : List Nat) (τ : L2.St) (j : Nat), j ∉ us → (L2.wipe τ us : List (Option V))[j]? = (τ : List (Option V))[j]? := fun us τ j h => wipe_out h
  have inn : ∀ (us : List Nat) (τ : L2.St) (j : Nat), j ∈ us → j < τ.length → (L2.wipe τ us : List (Option V))[j]? = some none := by
    intro us
    induction us with
    | nil => intro τ j h; simp at h
    | cons u us ih =>
      intro τ j h hl
      show ((L2.wipe τ us).set u none)[j]? = some none
      by_cases e : j = u
      · subst e
        rw [List.getElem?_set_self (by rw [wipe_length]; exact hl)]
      · rw [List.getElem?_set_ne (Ne.symm e)]
        exact ih τ j ((List.mem_cons.mp h).resolve_left e) hl
  have hlen : σ'.length = σ.length := by rw [hB.1, wipe_length]
  refine List.ext_getElem?
                           fun j => ?_
  by_cases hj : j ∈ vs
  · by_cases hl : j < σ.length
    · rw [inn vs σ' j hj (by rw [hlen]; exact hl), inn vs σ j hj hl]
    · rw [List.getElem?_eq_none (by rw [wipe_length]; omega), List.getElem?_eq_none (by rw [wipe_length]; omega)]
  · rw [key vs σ' j hj, hB.2 j fun z => hj (hT j z)]
theorem tlc_of (hx : Γ.xs = none) {σ : L2.St} {H : Hp} {Q : VK} (hT : ∀ j ∈ T, j ∈ own.map (·.2)) (h : tE Γ Wx (sLc mi (own.map (·.2)) mg mc me) σ H Q) :
    tLc (tI Γ Wx mi) (tG Γ (fun _ _ _ _ => False) T mg) (tT Γ (fun _ _ _ _ => False) mc) (tE Γ (fun _ _ _ _ => False) me) (own.map (·.2)) σ H Q := by
  obtain ⟨W, st, env, e, S, E, p⟩ := h
  subst e
  refine ⟨W, st, env, rfl, S, E, (Post.seq (rel := JR Γ) p).imp fun J W1 ⟨l, s, st1, S1, j, p1⟩ D hD => ?_⟩
  have l1 : Le Γ W1 (W1.put D (.lst [])) := le_put hD
  have hρ : ∀ {W2 : Wd}, Le Γ (W1.put D (.lst [])) W2 → W2.ρ st1.length = D := fun {W2} l2 => (l2.ρ _ (by show st1.length < W1.n + 1; rw [S1.len]; omega)).trans (if_pos S1.len.symm)
  refine ⟨fun i m H => ∃ (W2 : Wd) (st2 : Store), W2.H = H ∧ Le Γ (W1.put D (.lst [])) W2 ∧ SR Γ W2 st2 ∧ Post Γ W2 (VR Γ) (wx Wx σ) (lcGo s.nx mg mc me st1.length (wipeE env (own.map (·.2))) m i st2) (fun v W => Q v W.H),
    ⟨_, W1.put D (.lst []), _, rfl, Le.refl, S1.put hD (.lst .nil), p1.later l1⟩, ?_⟩
  intro i m H2 ⟨W2, st2, e, l2, S2, p2⟩
  subst e
  have E2 : ER Γ W2 env σ := E.mono ((l.trans l1).trans l2)
  cases m with
  | zero => exact p2.elim
  | succ m =>
    obtain ⟨j1, j2⟩ := j W2 st2 i (l1.trans l2) S2
    unfold lcGo at p2
    split at p2
    · exact p2.elim
    · rename_i e
      refine .inl ⟨j1 e, ?_⟩
      have hk : st1.length < W2.n := Nat.lt_of_lt_of_le (by show st1.length < W1.n + 1; rw [S1.len]; omega) l2.n
      have q := p2 W2 _ Le.refl S2 (.ref hk)
      rw [hρ l2] at q
      exact q
    · rename_i x e
      obtain ⟨go, y⟩ := j2 x e
      refine .inr ⟨go, fun H => ∃ m', m' < m + 1 ∧ ∃ (W3 : Wd) (st3 : Store), W3.H = H ∧ Le Γ (W1.put D (.lst [])) W3 ∧ SR Γ W3 st3 ∧ Post Γ W3 (VR Γ) (wx Wx σ) (lcGo s.nx mg mc me st1.length (wipeE env (own.map (·.2))) m' (i + 1) st3) (fun v W => Q v W.H), fun _ q => q, fun v H' hy => ?_⟩
      obtain ⟨W3, e3, l3, S3, r3⟩ := y v H' hy
      subst e3
      refine ⟨W3, st2, wipeE env (own.map (·.2)), x, rfl, S3, (E2.mono l3).wipe hx _, r3, ?_⟩
      revert p2
      cases hgx : mg x (wipeE env (own.map (·.2))) st2 with
      | exc c fs st4 => exact fun p2 => p2.elim
      | stk => exact fun p2 => p2.elim
      | ok env4 st4 =>
        intro p2 W4 σ4 l4 S4 ⟨E4, B4⟩
        refine ⟨wipe_but hT B4, W4, st4, env4, rfl, S4, E4, ?_⟩
        revert p2
        dsimp only
        cases hcx : mc env4 st4 with
        | exc c fs st5 => exact fun p2 => p2.elim
        | stk => exact fun p2 => p2.elim
        | ok k st5 =>
          intro p2 W5 k' l5 S5 hk
          have hk' : k = k' := hk
          subst hk'
          cases k with
          | false =>
            rw [if_neg
                       Bool.false_ne_true]
            exact ⟨m, Nat.lt_succ_self _, W5, st5, rfl, ((l2.trans l3).trans l4).trans l5, S5, p2.later ((l3.trans l4).trans l5)⟩
          | true =>
            rw [if_pos rfl]
            refine ⟨W5, st5, env4, rfl, S5, E4.mono l5, ?_⟩
            revert p2
            dsimp only
            cases hex : me env4 st5 with
            | exc c fs st6 => exact fun p2 => p2.elim
            | stk => exact fun p2 => p2.elim
            | ok z st6 =>
              intro p2 W6 u l6 S6 r6
              have L : Le Γ (W1.put D (.lst [])) W6 := (((l2.trans l3).trans l4).trans l5).trans l6
              dsimp only at p2
              split at p2
              · rename_i acc ea
                split at p2
                · rename_i hz
                  obtain ⟨vs, hv, rv⟩ := lst_rel S6 ea
                  rw [hρ L] at hv
                  refine ⟨vs, hv, by rw [← rv.length, ← ln_eq]; exact hz, m, Nat.lt_succ_self _, W6.side (W6.ρ st1.length) (.lst (vs ++ [u])), _, ?_, L.trans (le_set S6 ea True.intro), S6.set ea True.intro (.lst ((rv.append (.cons r6 .nil)).mono (le_set S6 ea True.intro))), ?_⟩
                  · show upd W6.H (W6.ρ st1.length) _ = _
                    rw [hρ L]
                  · exact p2.later ((((l3.trans l4).trans l5).trans l6).trans (le_set S6 ea True.intro))
                · exact p2.elim
              · exact p2.elim
theorem e_lc (hx : Γ.xs = none) (hc : X.calm = true) (hN : X.N.Nodup) (hi : PI X tg iter (tI Γ Wx mi)) (ok : BlkOk X.N X.env.scope scope own) (hT : ∀ j ∈ T, j ∈ own.map (·.2))
    (hg : ∀ (s : Shared) (H : Hp) (C : Addr) (cl : List (Str × Addr)) (fp : List Addr), PG (X.blk s H scope (compEnvC scope cl C X.env) fp) tg (tG Γ (fun _ _ _ _ => False) T mg))
    (ht : ∀ (s : Shared) (H : Hp) (C : Addr) (cl : List (Str × Addr)) (fp : List Addr), PTs (X.blk s H scope (compEnvC scope cl C X.env) fp) ifs (tT Γ (fun _ _ _ _ => False) mc))
    (he : ∀ (s : Shared) (H : Hp) (C : Addr) (cl : List (Str × Addr)) (fp : List Addr), PE (X.blk s H scope (compEnvC scope cl C X.env) fp) elt (tE Γ (fun _ _ _ _ => False) me)) (hs : ∀ x, foldedSetIterable iter X.env x = pure x) :
    PE X (.ListComp elt [⟨tg, iter, ifs, 0⟩] scope pos) (tE Γ Wx (sLc mi (own.map (·.2)) mg mc me)) := pe_imp (pe_lc hc hN hi ok hg ht he hs) fun σ H Q h => tlc_of hx hT h
theorem q_setLc (hx : Γ.xs = none) {i : Nat} {y : Str} {py spos : Pos} (hc : X.calm = true) (hN : X.N.Nodup) (hy : X.N[i]? = some y) (hyl : X.env.scope.names.lookup y = some .local)
    (hsw : swapsWith (.ListComp elt [⟨tg, iter, ifs, 0⟩] scope pos) (some (.Name y py)) spos.line X.env = pure true) (hi : PI X tg iter (tI Γ Wx mi)) (ok : BlkOk X.N X.env.scope scope own) (hT : ∀ j ∈ T, j ∈ own.map (·.2))
    (hg : ∀ (s : Shared) (H : Hp) (C : Addr) (cl : List (Str × Addr)) (fp : List Addr), PG (X.blk s H scope (compEnvC scope cl C X.env) fp) tg (tG Γ (fun _ _ _ _ => False) T mg))
    (ht : ∀ (s : Shared) (H : Hp) (C : Addr) (cl : List (Str × Addr)) (fp : List Addr), PTs (X.blk s H scope (compEnvC scope cl C X.env) fp) ifs (tT Γ (fun _ _ _ _ => False) mc))
    (he : ∀ (s : Shared) (H : Hp) (C : Addr) (cl : List (Str × Addr)) (fp : List Addr), PE (X.blk s H scope (compEnvC scope cl C X.env) fp) elt (tE Γ (fun _ _ _ _ => False) me)) (hs : ∀ x, foldedSetIterable iter X.env x = pure x) :
    PS X (.Assign [.Name y py] (.ListComp elt [⟨tg, iter, ifs, 0⟩] scope pos) spos) (tS Γ Wx (qSet i (sLc mi (own.map (·.2)) mg mc me))) := ps_imp (ps_setLc hc hN hy hyl hsw hi ok hg ht he hs) fun D σ H ⟨W, st, env, e, S, E, p⟩ => by
  subst e
  exact tlc_of (σ := σ) (Wx := Wx) hx hT (stE S E p fun W1 st1 x v l S1 E1 r p1 => p1 W1 _ Le.refl S1 (E1.set i r))
end
end Mn
/-! Mn8: defs and their calls. -/
namespace Mn
open PySem PySem.Spec
                      PyProof.Rows L2

abbrev Cl := List MV → Store → R MV
def SpM (Γ : Gm) (C : Cl) : Sp := fun vs H Q E => ∃ (W : Wd) (st : Store) (ms : List MV), W.H = H ∧ SR Γ W st ∧ VRs Γ W ms vs ∧ Post Γ W (VR Γ) E (C ms st) (fun v W => Q v W.H)
/-- the def at f does what C tells -/
structure FnM (Γ : Gm) (P : Program) (w : World) (mg : Str → Option Value) (base : Heap) (k : Nat) (f : Addr) (fd : FuncData) (ps : List Str) (C : Cl) : Prop where
  len : ∀ ms st, ms.length ≠ ps.length → C ms st = .stk
  run : ∀ (A : Around) (outer : List PySem.Env) (s : Shared) (H : Hp) (args : Args) (us : List Value) (vs : List V) (Q : VK) (E : XK), RoomG k A → Env0 P w Γ.K mg base A outer s H → BindsTo s fd args (ps.zip us) → Vals vs us → vs.length = ps.length → SpM Γ C vs H Q E →
    codeAny (model P w) A (.call (.ref f) args) (CR (L2.CX P w) outer P w H s Q E) s
theorem FnM.mono {Γ : Gm} {P : Program} {w : World} {mg : Str → Option Value} {base : Heap} {j k : Nat} {f : Addr} {fd : FuncData} {ps : List Str} {C : Cl} (F : FnM Γ P w mg base j f fd ps C) (h : j ≤ k) : FnM Γ P w mg base k f fd ps C :=
  ⟨F.len, fun A outer s H args us vs Q E hr => F.run A outer s H args us vs Q E (hr.mono h)⟩
theorem Around.deeper_gd {A : Around} {env : PySem.Env} : (A.deeper env).guards = A.guards := rfl
def retOf (r : RS) : R MV := match r with
  | .rt v st => .ok v st
  | .nx _ st => .ok .non st
  | .ex c fs _ st => .exc c fs st
  | _ => .stk
def startE (n : Nat) (ms : List MV) : Env := ms.map some ++ List.replicate (n - ms.length) none
def bodyC (np n : Nat) (m : SmS) : Cl := fun ms st => if ms.length = np then retOf (m (startE n ms) st) else .stk
theorem er_start {Γ : Gm} (hx : Γ.xs = none) {W : Wd} {N : List Str} {ms : List MV} {vs : List V} (r : VRs Γ W ms vs) : ER Γ W (startE N.length ms) (L2.start N vs) := by
  refine ⟨by unfold startE L2.start; rw [List.length_append, List.length_append, List.length_map, List.length_map, r.length, List.length_replicate, List.length_replicate], fun i x e => ?_, fun i a q => by rw [hx] at q; cases q⟩
  unfold startE at e
  by_cases hi : i < ms.length
  · rw [List.getElem?_append_left (by simpa using hi), List.getElem?_map] at e
    cases e' : ms[i]? with
    | none => rw [e'] at e; cases e
    | some y =>
      rw [e'] at e
      cases e
      obtain ⟨v, hv, q⟩ := r.get e'
      refine ⟨v, ?_, q⟩
      unfold L2.start
      rw [List.getElem?_append_left (by rw [List.length_map, ← r.length]; exact hi), List.getElem?_map, hv]
      rfl
  · rw [List.getElem?_append_right (by simpa using hi), List.getElem?_replicate] at e
    split at e <;> cases e
/-- THE RULE: a def by its body -/
theorem fnM_of {Γ : Gm} {P : Program} {w : World} {mg : Str → Option Value} {base : Heap} {k : Nat} {f : Addr} {name qual : Str} {params : Arguments} {body : List Stmt} {scope : Scope} {dV kV doc pm cdv ct oc : Value} {an od : Option Addr}
    {osl : Array (Option Value)} {N ps : List Str} {m : SmS} (lk : Γ.K.lookup f = some ⟨oc, od, .func (PySem.W.fnOf name qual params body scope dV kV doc pm an cdv ct), osl⟩) (hcd : PySem.W.codeIn Γ.K cdv qual = true) (S : FnScope N ps scope) (hx : Γ.xs = none)
    (hbody : ∀ (A : Around) (outer : List PySem.Env) (s : Shared) (H : Hp) (E : XK), RoomG k (A.deeper (envOfC qual scope s.heap.objs.size f cdv)) →
      PSs (cxOf (L2.CX P w) P w Γ.K mg base N qual scope f cdv A outer s H E) body (tS Γ (fun c d _ H => E c d H) m)) :
    FnM Γ P w mg base (k + 1) f (PySem.W.fnOf name qual params body scope dV kV doc pm an cdv ct) ps (bodyC ps.length N.length m) := by
  refine ⟨fun ms st h => if_neg h, fun A outer s H args us vs Q E hr e0 hb r hl hsp => ?_⟩
  have kin : Γ.K.In s.heap := e0.mod.kin.keeps fun b o e => (e0.bs b o e).1
  have lim : s.heap.NoLimit := e0.mod.nolimit.keeps
                                                    fun b o e => (e0.bs b o e).1
  have kinds : ∀ y ∈ ps.zip us, scope.names.lookup y.1 = some .local ∨ (scope.names.lookup y.1 = some .cell ∧ ((cellsFrom (s.heap.objs.size + 1) scope.names []).lookup y.1).isSome = true) := fun y hy => by
    rcases S.par y.1 (List.of_mem_zip (a := y.1) (b := y.2) hy).1 with q | q
    · exact .inl q
    · exact .inr ⟨q,
                     PySem.W.cellsFrom_some _ _ _ (.inl q)⟩
  refine codeAny_call_function hr.room.depth (kin _ _ lk) rfl S.co S.gen rfl (PySem.W.codeRec_of kin hcd) (hb _ _ _ _ ?_)
  refine wpAny_newFunctionEnv_cells S.kind kinds fun env he s1 x => ?_
  subst he
  refine ⟨lim.keeps
                    x.toInCall.keep, codeAny_func ?_⟩
  have ht := hbody A outer s H E ⟨hr.room.deeper _, hr.gd⟩
  have I := inv_start (CX := L2.CX P w) (E := E) S hr.room.hd e0 hl r x
  obtain ⟨W, st, ms, eH, SW, rv, p⟩ := hsp
  subst eH
  have hml : ms.length = ps.length := rv.length.trans hl
  have q : tS Γ (fun c d _ H => E c d H) m { nx := fun _ H' => Q .non H', rt := Q } (L2.start N vs) W.H := by
    refine ⟨W, st, startE N.length ms, rfl, SW, er_start hx rv, ?_⟩
    unfold bodyC at p
    rw [if_pos hml] at p
    revert p
    cases m (startE N.length ms) st with
    | rt v st1 => exact fun p => p
    | nx env st1 => exact fun p W1 σ1 l S1 _ => p W1 .non l S1 .non
    | ex c fs env st1 => exact fun p W1 σ1 l S1 _ => p W1 l S1
    | bk _ _ => exact fun p => p.elim
    | ct _ _ => exact fun p => p.elim
    | stk => exact fun p => p.elim
  refine wpAny_mono (ht.run [] s1 (L2.start N vs) W.H _ I q) (fun fl s' hs => ?_) fun e s' hs => hs
  have fin : ∀ {σ' : L2.St} {H' : Hp} {v : V} {u : Value}, Inv (cxOf (L2.CX P w) P w Γ.K mg base N qual scope f cdv A outer s W.H E) [] σ' H' s' → RelV v u → Q v H' → CE outer P w W.H s Q u s' :=
    fun J rv q => ⟨_, _, J.os, J.bare, J.base, J.hok, rv, q⟩
  cases fl with
  | ret u =>
    obtain ⟨v, σ', H',
                       J, rv, q⟩ := hs
    exact fin J rv q
  | next =>
    obtain ⟨σ', H', J, q⟩ := hs
    exact fin (v := V.non)
                           (u := Value.none) J rfl q
  | brk => exact hs.elim fun _ h => h.elim fun _ h => h.2.elim
  | cont => exact hs.elim fun _ h => h.elim fun _ h => h.2.elim

/-! ### calls -/
def sCall (C : Cl) (dm : List MV) (r : SmA) : Sm := fun env st => (r env st).bind fun xs st => C (xs ++ dm) st
section
variable {Γ : Gm} {Wx : WX} {X : Cx} {k : Nat} {f : Addr} {fd : FuncData} {ps : List Str} {C : Cl} {x : Str} {p pos : Pos} {e : Expr} {es : List Expr} {ms : SmA} {ds : List Value} {dm : List MV}
/-- how the written arguments bind, the defaults behind them -/
def BindD (K : PySem.W.Frag) (fd : FuncData) (ps : List Str) (n : Nat) (ds : List Value) : Prop := ∀ (s : Shared) (us : List Value), K.In s.heap → us.length = n → n + ds.length = ps.length → BindsTo s fd ⟨us, []⟩ (ps.zip (us ++ ds))
def DefV (Γ : Gm) (dm : List MV) (ds : List Value) : Prop := ∀ W, ∃ vs, VRs Γ W dm vs ∧ Vals vs ds
/-- the callee runs -/
theorem runM {pn : List (Addr × Obj)} {σ : L2.St} {H : Hp} {s : Shared} {Q : VK} {us : List Value} {vs : List V} {args : Args} (hK : Γ.K = X.K) (F : FnM Γ X.prog X.w X.mg X.base k f fd ps C) (hr : RoomG k X.A) (tk : Takes X Wx)
    (I : Inv X pn σ H s) (b : vs.length = ps.length → BindsTo s fd args (ps.zip us)) (r : Vals vs us) (h : SpM Γ C vs H Q (WE Wx σ)) : codeAny (model X.prog X.w) X.A (.call (.ref f) args) (fun r s' => match r with
      | .error e => X.xe e s'
      | .ok (.ret u) => EP X pn σ Q u s'
      | .ok _ => False) s := by
  have hl : vs.length = ps.length := by
    obtain ⟨W, st, ms, eH, SW, rv, p⟩ := h
    by_cases hl : ms.length = ps.length
    · rw [← rv.length]; exact hl
    · rw [F.len ms st hl] at p
      exact p.elim
  have e0 : Env0 X.prog X.w Γ.K X.mg X.base X.A X.stack s H := by rw [hK]; exact I.env0
  refine codeAny_mono (F.run X.A X.stack s H args us vs Q (WE Wx σ) hr e0 (b hl) r hl h) fun r s' hq => ?_
  cases r with
  | error e => exact passAt tk σ pn H s e s' I hq
  | ok fl =>
    cases fl with
    | ret u => exact I.after hq
    | next => exact hq
    | brk => exact hq
    | cont => exact hq
theorem backTo_none : ∀ {es : List Expr} {pos : Pos} {env : PySem.Env}, (starEach es env).any (·.1) = false → (backTo pos (starEach es env)).any (·.1) = false := by
  intro es pos env h
  unfold backTo
  rw [List.any_map]
  exact h
/-- the call of a known def with values -/
theorem call_vals {pn : List (Addr × Obj)} {σ : L2.St} {s1 : Shared} {Q : VK} {us : List Value} {vs : List V} {W1 : Wd} {st1 : Store} {xs : List MV} {n : Nat} (hK : Γ.K = X.K) (F : FnM Γ X.prog X.w X.mg X.base k f fd ps C) (hr : RoomG k X.A) (tk : Takes X Wx)
    (hb : BindD X.K fd ps n ds) (hd : DefV Γ dm ds) (hn : xs.length = n) (I : Inv X pn σ W1.H s1) (r : Vals vs us) (S1 : SR Γ W1 st1) (rv : VRs Γ W1 xs vs)
    (p : Post Γ W1 (VR Γ) (wx Wx σ) (C (xs ++ dm) st1) (fun v W => Q v W.H)) : wpAny (model X.prog X.w) X.A (call (.ref f) us) (EP X pn σ Q) X.xe s1 := by
  obtain ⟨vd, rd, qd⟩ := hd W1
  refine wpAny_call (codeAny_mono (runM (us := us ++ ds) (vs := vs ++ vd) hK F hr tk I (fun hl' => hb s1 us I.kIn (by rw [← r.length, ← rv.length]; exact hn) ?_) (r.append qd) ⟨W1, st1, xs ++ dm, rfl, S1, rv.append rd, p⟩) fun r s' hq => ?_)
  · rw [← hl', List.length_append, ← rv.length, hn, qd.length]
  · cases r with
    | error e => exact hq
    | ok fl => cases fl <;> first | exact hq | exact hq.elim
end
theorem vals_take : ∀ {vs : List V} {us : List Value}, Vals vs us → ∀ n, Vals (vs.take n) (us.take n)
  | _, _, _, 0 => .nil
  | _, _, .nil, _ + 1 => .nil
  | _, _, .cons r t, n + 1 => .cons r (vals_take t n)
theorem vals_drop : ∀ {vs : List V} {us : List Value}, Vals vs us → ∀ n, Vals (vs.drop n) (us.drop n)
  | _, _, r, 0 => r
  | _, _, .nil, _ + 1 => .nil
  | _, _, .cons _ t, n + 1 => vals_drop t n
/-! ### calls by position -/
/-- f, called with any values by position, does what C tells -/
structure FnP (Γ : Gm) (P : Program) (w : World) (mg : Str → Option Value) (base : Heap) (k : Nat) (f : Addr) (C : Cl) : Prop where
  run : ∀ (A : Around) (outer : List PySem.Env) (s : Shared) (H : Hp) (us : List Value) (vs : List V) (Q : VK) (E : XK), RoomG k A → Env0 P w Γ.K mg base A outer s H → Vals vs us → SpM Γ C vs H Q E →
    codeAny (model P w) A (.call (.ref f) ⟨us, []⟩) (CR (L2.CX P w) outer P w H s Q E) s
/-- defaults fill up -/
def posC (np : Nat) (dms : List MV) (C : Cl) : Cl := fun ms st => if ms.length ≤ np ∧ np ≤ ms.length + dms.length then C (ms ++ dms.drop (ms.length + dms.length - np)) st else .stk
/-- what is left over is a tuple -/
def starC (n : Nat) (C : Cl) : Cl := fun ms st => if n ≤ ms.length ∧ ms.length ≤ LN then C (ms.take n ++ [.tup (ms.drop n)]) st else .stk
theorem fnP_of {Γ : Gm} {P : Program} {w : World} {mg : Str → Option Value} {base : Heap} {k : Nat} {f : Addr} {fd : FuncData} {ps : List Str} {C : Cl} {dms : List MV} (F : FnM Γ P w mg base k f fd ps C)
    (hb : ∀ n, n ≤ ps.length → ps.length ≤ n + dms.length → ∃ ds, BindD Γ.K fd ps n ds ∧ DefV Γ (dms.drop (n + dms.length - ps.length)) ds) : FnP Γ P w mg base k f (posC ps.length dms C) := by
  refine ⟨fun A outer s H us vs Q E hr e0 r ⟨W, st, ms, eH, S, rv, p⟩ => ?_⟩
  unfold posC at p
  split at p
  · rename_i hn
    obtain ⟨ds, b, hd⟩ := hb ms.length hn.1 hn.2
    obtain ⟨vd, rd, qd⟩ := hd W
    have kin : Γ.K.In s.heap := e0.mod.kin.keeps fun b o e => (e0.bs b o e).1
    have hl : us.length = ms.length := by rw [← r.length, ← rv.length]
    have hdl : ms.length + ds.length = ps.length := by
      rw [← qd.length, ← rd.length, List.length_drop]
      omega
    exact F.run A outer s H ⟨us, []⟩ (us ++ ds) (vs ++ vd) Q E hr e0 (b s us kin hl hdl) (r.append qd) (by rw [List.length_append, ← rv.length, qd.length]; exact hdl) ⟨W, st, _, eH, S, rv.append rd, p⟩
  · exact p.elim
/-- the start of a body -/
theorem ts_start {Γ : Gm} (hx : Γ.xs = none) {N : List Str} {np : Nat} {m : SmS} {vs : List V} {H : Hp} {Q : VK} {E : XK} (hl : vs.length = np) (h : SpM Γ (bodyC np N.length m) vs H Q E) : tS Γ (fun c d _ H => E c d H) m { nx := fun _ H' => Q .non H', rt := Q } (L2.start N vs) H := by
  obtain ⟨W, st, ms, eH, SW, rv, p⟩ := h
  subst eH
  refine ⟨W, st, startE N.length ms, rfl, SW, er_start hx rv, ?_⟩
  unfold bodyC at p
  rw [if_pos (rv.length.trans hl)] at p
  revert p
  cases m (startE N.length ms) st with
  | rt v st1 => exact fun p => p
  | nx env st1 => exact fun p W1 σ1 l S1 _ => p W1 .non l S1 .non
  | ex c fs env st1 => exact fun p W1 σ1 l S1 _ => p W1 l S1
  | bk _ _ => exact fun p => p.elim
  | ct _ _ => exact fun p => p.elim
  | stk => exact fun p => p.elim
/-- how a def with a star binds -/
def BindS (fd : FuncData) (ps : List Str) (pv : Str) : Prop := ∀ us rest : List Value, us.length = ps.length → bindArgs fd ⟨us ++ rest, []⟩ = (newTuple rest >>= fun t => pure (ps.zip us ++ [(pv, t)]))
theorem fnP_star {Γ : Gm} {P : Program} {w : World} {mg : Str → Option Value} {base : Heap} {k : Nat} {f : Addr} {name qual : Str} {params : Arguments} {body : List Stmt} {scope : Scope} {dV kV doc pm cdv ct oc : Value} {an od : Option Addr}
    {osl : Array (Option Value)} {N ps : List Str} {pv : Str} {m : SmS} (lk : Γ.K.lookup f = some ⟨oc, od, .func (PySem.W.fnOf name qual params body scope dV kV doc pm an cdv ct), osl⟩) (hcd : PySem.W.codeIn Γ.K cdv qual = true) (S : FnScope N (ps ++ [pv]) scope) (hx : Γ.xs = none)
    (hb : BindS (PySem.W.fnOf name qual params body scope dV kV doc pm an cdv ct) ps pv)
    (hbody : ∀ (A : Around) (outer : List PySem.Env) (s : Shared) (H : Hp) (E : XK), RoomG k (A.deeper (envOfC qual scope s.heap.objs.size f cdv)) →
      PSs (cxOf (L2.CX P w) P w Γ.K mg base N qual scope f cdv A outer s H E) body (tS Γ (fun c d _ H => E c d H) m)) :
    FnP Γ P w mg base (k + 1) f (starC ps.length (bodyC (ps ++ [pv]).length N.length m)) := by
  refine ⟨fun A outer s H us vs Q E hr e0 r ⟨W, st, ms, eH, SW, rv, p⟩ => ?_⟩
  subst eH
  unfold starC at p
  split at p
  · rename_i hn
    have hlv : vs.length = us.length := r.length
    have hlm : ms.length = vs.length := rv.length
    have cutU : us = us.take ps.length ++ us.drop ps.length := (List.take_append_drop _ _).symm
    have r1 : Vals (vs.take ps.length) (us.take ps.length) := vals_take r _
    have r2 : Vals (vs.drop ps.length) (us.drop ps.length) := vals_drop r _
    have hn0 : W.H s.heap.objs.size = none := e0.hok.fresh (Nat.le_refl _)
    have hz : (us.drop ps.length).length ≤ sizeLine := by rw [← ln_eq, List.length_drop]; omega
    have hl1 : (us.take ps.length).length = ps.length := by rw [List.length_take]; omega
    refine StX.run_bnd lk hcd S hr.room e0 (G := fun xs H2 => xs.length = (ps ++ [pv]).length ∧ SpM Γ (bodyC (ps ++ [pv]).length N.length m) xs H2 Q E) (fun A' Ex Q' h => ?_) fun s2 H2 xs ⟨hx2, g⟩ hr' => ⟨_, hbody A outer s2 H2 E ⟨hr', hr.gd⟩, ts_start hx hx2 g⟩
    have e := hb (us.take ps.length) (us.drop ps.length) hl1
    rw [← cutU] at e
    rw [e]
    refine wpAny_bind (wpAny_newTuple (wpAny_pure ?_) hz)
    have new : ObjOk P w (upd W.H s.heap.objs.size (.tup (vs.drop ps.length))) (s.heap.push ({ cls := .type "tuple", data := .seq (us.drop ps.length).toArray } : Obj)) s.heap.objs.size (.tup (vs.drop ps.length)) :=
      ⟨by rw [List.length_drop, hlv, ← List.length_drop]; exact hz, _, r2, ⟨_, Heap.get?_push_size _ rfl, rfl, _, rfl⟩⟩
    have un := StX.un_laid (fs := frs outer) (s := s) (o := ({ cls := .type "tuple", data := .seq (us.drop ps.length).toArray } : Obj)) (u := .tup (vs.drop ps.length)) hn0
    have l : Le Γ W (W.side s.heap.objs.size (.tup (vs.drop ps.length))) := le_side hn0
    have z := h _ _ (vs.take ps.length ++ [V.ref s.heap.objs.size]) (us.take ps.length ++ [Value.ref s.heap.objs.size]) (StX.env0_laid e0 new) un rfl (fun e s' => StX.cxUp outer s W.H _ _ E e s' un (fun b o q => Heap.get?_push_of_some _ q) rfl) (r1.append (.cons rfl .nil))
      (by rw [List.length_append, List.length_append, List.length_take]; simp; omega)
      ⟨by rw [List.length_append, List.length_append, List.length_take]; simp; omega, _, st, _, rfl, SW.side hn0, ((rv.take ps.length).mono l).append (.cons (.tup (.inl upd_same) ((rv.drop ps.length).mono l)) .nil), Post.later p l⟩
    rw [List.zip_append
                        hl1.symm] at z
    exact z
  · exact p.elim
section
variable {Γ : Gm} {Wx : WX} {X : Cx} {k : Nat} {f : Addr} {C : Cl} {x : Str} {p pos : Pos} {es : List Expr} {ms : SmA}
theorem runP {pn : List (Addr × Obj)} {σ : L2.St} {H : Hp} {s : Shared} {Q : VK} {us : List Value} {vs : List V} (hK : Γ.K = X.K) (F : FnP Γ X.prog X.w X.mg X.base k f C) (hr : RoomG k X.A) (tk : Takes X Wx)
    (I : Inv X pn σ H s) (r : Vals vs us) (h : SpM Γ C vs H Q (WE Wx σ)) : wpAny (model X.prog X.w) X.A (call (.ref f) us) (EP X pn σ Q) X.xe s := by
  have e0 : Env0 X.prog X.w Γ.K X.mg X.base X.A X.stack s H := by rw [hK]; exact I.env0
  refine wpAny_call (codeAny_mono (F.run X.A X.stack s H us vs Q (WE Wx σ) hr e0 r h) fun r s' hq => ?_)
  cases r with
  | error e => exact passAt tk σ pn H s e s' I hq
  | ok fl =>
    cases fl with
    | ret u => exact I.after hq
    | next => exact hq.elim
    | brk => exact hq.elim
    | cont => exact hq.elim
theorem call_P {pn : List (Addr × Obj)} {σ : L2.St} {W : Wd} {st : Store} {env : Env} {s : Shared} {Q : VK} (hK : Γ.K = X.K) (F : FnP Γ X.prog X.w X.mg X.base k f C) (hr : RoomG k X.A) (tk : Takes X Wx) (hk : PySem.W.keepIn X.K (.ref f) = true) (I : Inv X pn σ W.H s) (S : SR Γ W st) (E : ER Γ W env σ)
    (ha : PA X es (tA Γ Wx ms)) (hnil : es = [] → ms = sNil) (he : ∀ e r, es = e :: r → starEach es X.env = (false, eval e X.env) :: starEach r X.env) (hpl : ∀ e r, es = e :: r → (backTo pos (starEach r X.env)).any (·.1) = false)
    (h : Post Γ W (VR Γ) (wx Wx σ) ((ms env st).bind fun xs st => C xs st) (fun v W => Q v W.H)) : wpAny (model X.prog X.w) X.A (callWith pos (.ref f) [] (backTo pos (starEach es X.env)) (backToKw pos (keywordEach [] X.env))) (EP X pn σ Q) X.xe s := by
  cases es with
  | nil =>
    rw [hnil rfl] at h
    exact PySem.W.callWith_K0 I.kIn hk (runP (us := []) (vs := []) hK F hr tk I .nil ⟨W, st, [], rfl, S, .nil, h⟩)
  | cons e r =>
    refine PySem.W.callWith_K (h₀ := X.base) I.ok.mod.kin hk ?_ (he e r rfl) (hpl e r rfl)
    have hA : tA Γ Wx ms σ W.H fun vs H1 => SpM Γ C vs H1 Q (WE Wx σ) :=
      ⟨W, st, env, rfl, S, E, (Post.seq h).imp fun vs W1 ⟨l, xs, st1, S1, rv, p1⟩ => ⟨W1, st1, xs, rfl, S1, rv, p1⟩⟩
    refine thn (ha.run pos pn s σ W.H _ I hA) fun us s1 ⟨vs, H1, I1, r1, q⟩ => ⟨I1.kIn, ?_⟩
    exact runP hK F hr tk I1 r1 q
theorem e_callP (hK : Γ.K = X.K) (F : FnP Γ X.prog X.w X.mg X.base k f C) (hr : RoomG k X.A) (tk : Takes X Wx) (hg : Gl X x) (hm : X.mg x = some (.ref f)) (hk : PySem.W.keepIn X.K (.ref f) = true) (ha : PA X es (tA Γ Wx ms)) (hnil : es = [] → ms = sNil)
    (hdb : (x == ("__debug__" : Str)) = false) (he : ∀ e r, es = e :: r → starEach es X.env = (false, eval e X.env) :: starEach r X.env) (hpl : ∀ e r, es = e :: r → (backTo pos (starEach r X.env)).any (·.1) = false) : PE X (.Call (.Name x p) es [] pos) (tE Γ Wx (sCall C [] ms)) := by
  refine ⟨fun pn s σ H Q I ⟨W, st, env, e, S, E, h⟩ => ?_⟩
  subst e
  refine wpAny_Call_Name_kw
                            (ld_glob I hg hm ?_ hdb)
  refine call_P hK F hr tk hk I S E ha hnil he hpl ?_
  unfold sCall at h
  simp only [List.append_nil] at h
  exact h
end
end Mn
/-! Mn8b: methods of lists. -/
namespace Mn
open PySem PySem.Spec
                      PyProof.Rows L2

inductive BM where
  | append | pop | popAt
def BM.name : BM → Str
  | .append => "append"
  | .pop => "pop"
  | .popAt => "pop"
def BM.id : BM → String
  | .append => "list.append"
  | .pop => "list.pop"
  | .popAt => "list.pop"
def mM (m : BM) (st : Store) (x : MV) (as : List MV) : R MV := match x with
  | .ref k => match st[k]? with
    | some (.lst xs) => match m, as with
      | .append, [y] => if xs.length < LN then .ok .non (st.set k (.lst (xs ++ [y]))) else .stk
      | .pop, [] => match xs[xs.length - 1]? with
        | some y => .ok y (st.set k (.lst xs.dropLast))
        | none => .stk
      | .popAt, [.int i] => if -(2 ^ 63) ≤ i ∧ i < 2 ^ 63 then (match seqIndex? i xs.length with
        | some j => match xs[j]? with
          | some y => .ok y (st.set k (.lst (xs.eraseIdx j)))
          | none => .stk
        | none => .stk) else .stk
      | _, _ => .stk
    | _ => .stk
  | _ => .stk
/-- the reading of a method that the machine has -/
def tMM (Γ : Gm) (m : BM) : V → List V → Hp → VK → Prop := fun v vs H Q => ∃ (W : Wd) (st : Store) (x : MV) (xs : List MV), W.H = H ∧ SR Γ W st ∧ VR Γ W x v ∧ VRs Γ W xs vs ∧ Post Γ W (VR Γ) (fun _ _ _ => False) (mM m st x xs) (fun v W => Q v W.H)
theorem VRs.dropLast {Γ : Gm} {W : Wd} {xs : List MV} {vs : List V} (r : VRs Γ W xs vs) : VRs Γ W xs.dropLast vs.dropLast := by
  rw [List.dropLast_eq_take, List.dropLast_eq_take, r.length]
  exact r.take _
theorem sd_meth {Γ : Gm} {X : Cx} (m : BM) : MtM X m.id (tMM Γ m) := by
  intro pn s σ H x vs v us Q I rx rv ⟨W, st, a, as, e, S, ra, rs, h⟩
  subst e
  unfold mM at h
  split at h
  · rename_i k
    split at h
    · rename_i xs ek
      cases ra
      obtain ⟨ws, hw, rw'⟩ := lst_rel S ek
      split at h
      · rename_i y
        split at h
        · rename_i hz
          obtain ⟨u, rfl, ru⟩ := vrs1 rs
          exact mt_append pn s σ W.H _ _ v us Q I rx rv ⟨_, ws, u, rfl, rfl, hw, by rw [← rw'.length, ← ln_eq]; exact hz, post_set S ek True.intro (.lst (rw'.append (.cons ru .nil))) h .non⟩
        · exact h.elim
      · split at h
        · rename_i y hy
          cases rs
          obtain ⟨u, hu, ru⟩ := rw'.get hy
          rw [rw'.length] at hu
          exact mt_pop pn s σ W.H _ _ v us Q I rx rv ⟨_, ws, u, rfl, rfl, hw, hu, post_set S ek True.intro (.lst rw'.dropLast) h ru⟩
        · exact h.elim
      · rename_i i
        split at h
        · rename_i c
          split at h
          · rename_i j ej
            split at h
            · rename_i y hy
              obtain ⟨u, rfl, ru⟩ := vrs1 rs
              cases ru
              obtain ⟨u, hu, ru⟩ := rw'.get hy
              rw [rw'.length] at ej
              exact mt_popAt pn s σ W.H _ _ v us Q I rx rv ⟨_, ws, _, j, u, rfl, rfl, hw, c.1, c.2, ej, hu, post_set S ek True.intro (.lst (rw'.eraseIdx j)) h ru⟩
            · exact h.elim
          · exact h.elim
        · exact h.elim
      · exact h.elim
    · exact h.elim
  · exact h.elim
theorem meth_nx (m : BM) (st : Store) (x : MV) (xs : List MV) : NoX (mM m st x xs) := by
  intro c fs st' e
  unfold mM at e
  (repeat' split at e) <;> cases e

/-! ### keywords -/
def perm {α : Type} (pm : List Nat) (l : List α) : List α := pm.filterMap fun j => l[j]?
theorem VRs.perm {Γ : Gm} {W : Wd} {xs : List MV} {vs : List V} (r : VRs Γ W xs vs) : ∀ pm : List Nat, VRs Γ W (perm pm xs) (perm pm vs)
  | [] => .nil
  | j :: pm => by
    unfold Mn.perm
    rw [List.filterMap_cons, List.filterMap_cons]
    cases e : xs[j]? with
    | none =>
      have e2 : vs[j]? = none := by
        rw [List.getElem?_eq_none_iff] at e ⊢
        rw [← r.length]; exact e
      rw [e2]
      exact VRs.perm r pm
    | some x =>
      obtain ⟨v, e2, q⟩ := r.get e
      rw [e2]
      exact .cons q (VRs.perm r pm)
theorem vals_get : ∀ {vs : List V} {us : List Value} {i : Nat}, Vals vs us → (vs[i]? = none ∧ us[i]? = none) ∨ ∃ v u, vs[i]? = some v ∧ us[i]? = some u ∧ RelV v u
  | _, _, i, .nil => .inl ⟨by simp, by simp⟩
  | _, _, 0, .cons r _ => .inr ⟨_, _, rfl, rfl, r⟩
  | _, _, i + 1, .cons _ t => by
    have := vals_get (i := i) t
    simpa using this
theorem vals_perm {vs : List V} {us : List Value} (r : Vals vs us) : ∀ pm : List Nat, Vals (perm pm vs) (perm pm us)
  | [] => .nil
  | j :: pm => by
    unfold Mn.perm
    rw [List.filterMap_cons, List.filterMap_cons]
    rcases vals_get (i := j) r with ⟨e1, e2⟩ | ⟨v, u, e1, e2, q⟩
    · rw [e1, e2]
      exact vals_perm r pm
    · rw [e1, e2]
      exact .cons q (vals_perm r pm)
def sCallK (C : Cl) (pm : List Nat) (r q : SmA) : Sm := fun env st => (r env st).bind fun xs st => (q env st).bind fun ys st => C (perm pm (xs ++ ys)) st
def kwNames : List Keyword → Option (List Str)
  | [] => some []
  | k :: r => match k.arg, kwNames r with
    | some n, some ns => some (n :: ns)
    | _, _ => none
theorem kw_each : ∀ {ks : List Keyword} {ns : List Str} {pos : Pos} {env : PySem.Env}, kwNames ks = some ns →
    (backToKw pos (keywordEach ks env)).all (·.1.isSome) = true ∧ (backToKw pos (keywordEach ks env)).filterMap (·.1) = ns ∧ (backToKw pos (keywordEach ks env)).any (·.1.isNone) = false
  | [], _, _, _, h => by cases h; exact ⟨rfl, rfl, rfl⟩
  | k :: r, ns, pos, env, h => by
    unfold kwNames at h
    split at h
    · rename_i n ns' h1 h2
      cases h
      obtain ⟨a1, a2, a3⟩ := kw_each (pos := pos) (env := env) h2
      obtain ⟨ka, kv, kp⟩ := k
      have h1' : ka = some n := h1
      subst h1'
      refine ⟨?_, ?_, ?_⟩
      · show (true && (backToKw pos (keywordEach r env)).all (·.1.isSome)) = true
        rw [a1]; rfl
      · show (n :: (backToKw pos (keywordEach r env)).filterMap (·.1)) = _
        rw [a2]
      · show (false || (backToKw pos (keywordEach r env)).any (·.1.isNone)) = false
        rw [a3]; rfl
    · cases h
section
variable {Γ : Gm} {Wx : WX} {X : Cx} {k : Nat} {f : Addr} {fd : FuncData} {ps : List Str} {C : Cl} {x : Str} {p pos : Pos} {es : List Expr} {ks : List Keyword} {ms mk : SmA} {pm : List Nat} {kn : List Str} {n : Nat}
theorem pk_imp {t t' : TA} (h : PK X ks t) (g : ∀ σ H Q, t' σ H Q → t σ H Q) : PK X ks t' := ⟨fun pos pn s σ H Q I q => h.run pos pn s σ H Q I (g σ H Q q)⟩
theorem k_nil : PK X [] (tA Γ Wx sNil) := pk_imp pk_nil fun σ H Q ⟨W, st, env, e, S, E, p⟩ => by
  subst e
  exact p W [] Le.refl S .nil
theorem k_cons {kw : Keyword} {ma : Sm} (ha : PE X kw.value (tE Γ Wx ma)) (hr : PK X ks (tA Γ Wx ms)) : PK X (kw :: ks) (tA Γ Wx (sCons ma ms)) := by
  obtain ⟨nm, e, kp⟩ := kw
  exact pk_imp (pk_cons (nm := nm) (kpos := kp) ha hr) fun σ H Q ⟨W, st, env, e, S, E, p⟩ => by
    subst e
    refine seqE (α := MV) S E p fun W1 st1 x v l1 S1 E1 r1 p1 => ?_
    exact seqAA S1 E1 p1 fun W2 st2 xs vs l2 S2 E2 r2 p2 => p2 W2 _ Le.refl S2 (.cons (r1.mono l2) r2)
/-- how the written arguments bind, the keywords behind them -/
def BindK (K : PySem.W.Frag) (fd : FuncData) (ps : List Str) (n : Nat) (kn : List Str) (pm : List Nat) : Prop := ∀ (s : Shared) (us ws : List Value), K.In s.heap → us.length = n → ws.length = kn.length → BindsTo s fd ⟨us, kn.zip ws⟩ (ps.zip (perm pm (us ++ ws)))
theorem e_callk (hK : Γ.K = X.K) (F : FnM Γ X.prog X.w X.mg X.base k f fd ps C) (hr : RoomG k X.A) (tk : Takes X Wx) (hg : Gl X x) (hm : X.mg x = some (.ref f)) (hk : PySem.W.keepIn X.K (.ref f) = true) (hb : BindK X.K fd ps n kn pm)
    (ha : PA X es (tA Γ Wx ms)) (hkw : PK X ks (tA Γ Wx mk)) (hn : kwNames ks = some kn) (hnil : es = [] → ms = sNil) (hl : ∀ env st xs st', ms env st = .ok xs st' → xs.length = n) (hl2 : ∀ env st xs st', mk env st = .ok xs st' → xs.length = kn.length)
    (hdb : (x == ("__debug__" : Str)) = false) (he : ∀ e r, es = e :: r → starEach es X.env = (false, eval e X.env) :: starEach r X.env) (hpl : (backTo pos (starEach es X.env)).any (·.1) = false) : PE X (.Call (.Name x p) es ks pos) (tE Γ Wx (sCallK C pm ms mk)) := by
  obtain ⟨k1, k2, k3⟩ := kw_each (pos := pos) (env := X.env) hn
  refine ⟨fun pn s σ H Q I ⟨W, st, env, e, S, E, h⟩ => ?_⟩
  subst e
  refine wpAny_Call_Name_kw
                            (ld_glob I hg hm ?_ hdb)
  have fin : ∀ {W1 : Wd} {st1 : Store} {xs : List MV} {vs : List V} {us : List Value} {s1 : Shared}, Inv X pn σ W1.H s1 → SR Γ W1 st1 → ER Γ W1 env σ → VRs Γ W1 xs vs → Vals vs us → xs.length = n → Post Γ W1 (VR Γ) (wx Wx σ) ((mk env st1).bind fun ys st => C (perm pm (xs ++ ys)) st) (fun v W => Q v W.H) →
      wpAny (model X.prog X.w) X.A (evalAll ((backToKw pos (keywordEach ks X.env)).map (·.2))) (fun ws s2 => X.K.In s2.heap ∧ wpAny (model X.prog X.w) X.A (call (.ref f) ([] ++ us) (((backToKw pos (keywordEach ks X.env)).filterMap (·.1)).zip ws)) (EP X pn σ Q) X.xe s2) X.xe s1 := fun {W1 st1 xs vs us s1} I1 S1 E1 rv r hxl p1 => by
    have hA : tA Γ Wx mk σ W1.H fun zs H2 => ∃ (W2 : Wd) (st2 : Store) (ys : List MV), W2.H = H2 ∧ ys.length = kn.length ∧ LeK Γ.K Γ.T W1 W2 ∧ SR Γ W2 st2 ∧ VRs Γ W2 ys zs ∧ Post Γ W2 (VR Γ) (wx Wx σ) (C (perm pm (xs ++ ys)) st2) (fun v W => Q v W.H) := by
      refine ⟨W1, st1, env, rfl, S1, E1, ?_⟩
      cases e : mk env st1 with
      | ok ys st2 => rw [e] at p1; exact fun W2 zs l S2 r2 => ⟨W2, st2, ys, rfl, hl2 env st1 ys st2 e, l, S2, r2, Post.later p1 l⟩
      | exc c fs st2 => rw [e] at p1; exact p1
      | stk => rw [e] at p1; exact p1
    refine thn (hkw.run pos pn s1 σ W1.H _ I1 hA) fun ws s2 ⟨zs, H2, I2, rz, W2, st2, ys, e2, hy, l, S2, rw', p2⟩ => ⟨I2.kIn, ?_⟩
    subst e2
    rw [k2, List.nil_append]
    refine wpAny_call (codeAny_mono (runM (us := perm pm (us ++ ws)) (vs := perm pm (vs ++ zs)) hK F hr tk I2 (fun _ => hb s2 us ws I2.kIn (by rw [← r.length, ← rv.length]; exact hxl) (by rw [← rz.length, ← rw'.length]; exact hy)) (vals_perm (r.append rz) pm) ⟨W2, st2, perm pm (xs ++ ys), rfl, S2, ((rv.mono l).append rw').perm pm, p2⟩) fun r s' hq => ?_)
    cases r with
    | error e => exact hq
    | ok fl => cases fl <;> first | exact hq | exact hq.elim
  cases es with
  | nil =>
    have e0 := hnil rfl
    subst e0
    refine PySem.W.callWith_KW0 (h₀ := X.base) I.ok.mod.kin hk k1 ?_ (by rw [k3]; rfl)
    exact fin (us := []) (vs := []) (xs := []) I S E .nil .nil (hl env st [] st rfl) h
  | cons e r =>
    refine PySem.W.callWith_KW (h₀ := X.base) I.ok.mod.kin hk k1 ?_ (by rw [k3, Bool.or_false]; exact hpl) (he e r rfl)
    have hA : tA Γ Wx ms σ W.H fun vs H1 => ∃ (W1 : Wd) (st1 : Store) (xs : List MV), W1.H = H1 ∧ xs.length = n ∧ LeK Γ.K Γ.T W W1 ∧ SR Γ W1 st1 ∧ VRs Γ W1 xs vs ∧ Post Γ W1 (VR Γ) (wx Wx σ) ((mk env st1).bind fun ys st => C (perm pm (xs ++ ys)) st) (fun v W => Q v W.H) := by
      refine ⟨W, st, env, rfl, S, E, ?_⟩
      unfold sCallK at h
      cases e : ms env st with
      | ok xs st1 => rw [e] at h; exact fun W1 vs l S1 rv => ⟨W1, st1, xs, rfl, hl env st xs st1 e, l, S1, rv, Post.later h l⟩
      | exc c fs st1 => rw [e] at h; exact h
      | stk => rw [e] at h; exact h
    refine thn (ha.run pos pn s σ W.H _ I hA) fun us s1 ⟨vs, H1, I1, r1, W1, st1, xs, e1, hx, l, S1, rv, p1⟩ => ?_
    subst e1
    exact fin I1 S1 (E.mono l) rv r1 hx p1
end
end Mn
/-! Mn9: the machine's own terms, and how a text is turned into them. -/
namespace Mn
open PySem PySem.Spec
                      PyProof.Rows L2

mutual
inductive E where
  | v (i : Nat) | k (x : MV) | bin (o : Operator) (a b : E) | neg (a : E) | not (a : E) | cmp (o : CmpOp) (a b : E)
  | and (a b : E) | or (a b : E) | ite (t : T) (a b : E) | tup (es : Es) | lst (es : Es) | ix (a b : E) | sl (a : E) (l h : Oe)
  | blt (f : BF) (es : Es) | call (i : Nat) (dm : List MV) (es : Es) | callk (i : Nat) (pm : List Nat) (es ks : Es) | callv (j : Nat) (es : Es) | lc (own : List Nat) (g : Tg) (it : Ie) (c : T) (e : E)
  | meth (m : BM) (o : E) (es : Es) | exf (f : Str) | exis (l : List CT) | isi (es : Es) | dct0
  | lam (d : LamD) | fld (o : E) (f : Str) | mkx (c : Nat) (pm : List Nat) (es ks : Es)
inductive Es where
  | nil | cons (e : E) (es : Es)
inductive T where
  | e (e : E) | not (t : T) | and (a b : T) | or (a b : T) | yes
inductive Oe where
  | no | so (e : E)
inductive Tg where
  | v (i : Nat) | tup (n : Nat) (ts : Tgs) | ix (a b : E)
inductive Tgs where
  | nil | cons (t : Tg) (ts : Tgs)
inductive Ie where
  | seq (e : E) | r1 (a : E) | r2 (a b : E) | enm (a : E) | zip (a b : E)
end
mutual
inductive S where
  | set (i : Nat) (e : E) | asg (e : E) (g : Tg) | par (i j : Nat) (a b : E) | expr (e : E) | ret (e : E) | retN | pass | brk | cont
  | ite (t : T) (a b : Ss) | for_ (g : Tg) (it : Ie) (b : Ss) | while_ (t : T) (b : Ss) | raise (c : Nat) (es : Es) | try_ (b : Ss) (h : Hs)
inductive Ss where
  | nil | cons (s : S) (r : Ss)
inductive Hs where
  | nil | cons (c : CT) (oi : Option Nat) (b : Ss) (r : Hs)
end

def nilEs : Es → Bool
  | .nil => true
  | .cons _ _ => false
/-- what a run may ask: the text's defs; the class and the fields of the exception that a suite holds -/
structure Rt where
  call : Nat → Cl
  full : Nat → Cl
  xc : Nat
  xf : List (Str × MV)
  xi : Nat
  sub : Nat → CT → Bool
  flds : Nat → Option (List Str)
  lam : LamD → Cl
def sYes : SmB := fun _ st => .ok true st
def sCallV (cs : Rt) (j : Nat) (nil : Bool) (r : SmA) : Sm := fun env st => match env[j]? with
  | some (some (.fn i)) => (r env st).bind fun xs st => cs.call i xs st
  | some (some (.lam d)) => if nil = true then cs.lam d [] st else .stk
  | _ => .stk
/-- a field of an exception -/
def mFld (cs : Rt) (f : Str) (st : Store) : MV → R MV
  | .exo c ns xs => if cs.flds c = some ns then (match (ns.zip xs).reverse.lookup f with
    | some v => .ok v st
    | none => .stk) else .stk
  | _ => .stk
def sFld (cs : Rt) (f : Str) (o : Sm) : Sm := fun env st => (o env st).bind fun x st => mFld cs f st x
/-- an exception is made -/
def mMkx (cs : Rt) (c : Nat) (st : Store) (xs : List MV) : R MV := match cs.flds c with
  | some fl => if xs.length = fl.length then .ok (.exo c fl xs) st else .stk
  | none => .stk
def sMkx (cs : Rt) (c : Nat) (pm : List Nat) (r q : SmA) : Sm := fun env st => (r env st).bind fun xs st => (q env st).bind fun ys st => mMkx cs c st (perm pm (xs ++ ys))
def etys : List String := ["ValueError", "LookupError", "ArithmeticError", "Exception", "KeyError", "IndexError", "ZeroDivisionError"]
def ctOfX : MV → Option CT
  | .ty n => if etys.contains n then some (.ty n) else none
  | .cls i => some (.own i)
  | _ => none
def clsLX : MV → Option (List CT)
  | .tup xs => mapO ctOfX xs
  | c => (ctOfX c).map fun t => [t]
/-- isinstance of an exception, or of what is none -/
def mIsx (cs : Rt) (st : Store) (as : List MV) : R MV := match as with
  | [.exo c ns xs, k] => if (cs.flds c).isSome then (match clsLX k with
    | some l => .ok (.bl (l.any (cs.sub c))) st
    | none => .stk) else .stk
  | as => mIsi st as
def isLst (st : Store) : MV → Bool
  | .ref k => match st[k]? with
    | some (.lst _) => true
    | _ => false
  | _ => false
def sMeth (m : BM) (o : Sm) (r : SmA) : Sm := fun env st => (o env st).bind fun x st => if isLst st x = true then (r env st).bind fun xs st => mM m st x xs else .stk
def sDct0 : Sm := fun _ st => .ok (.ref st.length) (st ++ [.dct []])
def unset (env : Env) (i : Nat) : Bool := match env[i]? with
  | some none => true
  | _ => false
theorem unset_of {env : Env} {i : Nat} (h : unset env i = true) : env[i]? = some none := by
  unfold unset at h
  split at h
  · assumption
  · cases h
def sExf (cs : Rt) (f : Str) : Sm := fun env st => if unset env cs.xi = true then (match cs.xf.lookup f with
  | some x => .ok x st
  | none => .stk) else .stk
def sExis (cs : Rt) (l : List CT) : Sm := fun env st => if unset env cs.xi = true then .ok (.bl (l.any (cs.sub cs.xc))) st else .stk
mutual
def ev (cs : Rt) : E → Sm
  | .v i => sV i
  | .k x => sK x
  | .bin o a b => s2 (mBin o) (ev cs a) (ev cs b)
  | .neg a => s1 mNeg (ev cs a)
  | .not a => sBl (sNot (sT (ev cs a)))
  | .cmp o a b => s2 (mCmp o) (ev cs a) (ev cs b)
  | .and a b => sAnd (ev cs a) (ev cs b)
  | .or a b => sOr (ev cs a) (ev cs b)
  | .ite t a b => sIte (evT cs t) (ev cs a) (ev cs b)
  | .tup es => sTup (evs cs es)
  | .lst es => sLst (evs cs es)
  | .ix a b => s2 mIx (ev cs a) (ev cs b)
  | .sl a l h => sSl (ev cs a) (evO cs l) (evO cs h)
  | .blt f es => sA (mB f) (evs cs es)
  | .call i dm es => sCall (cs.call i) dm (evs cs es)
  | .callk i pm es ks => sCallK (cs.full i) pm (evs cs es) (evs cs ks)
  | .callv j es => sCallV cs j (nilEs es) (evs cs es)
  | .meth m o es => sMeth m (ev cs o) (evs cs es)
  | .exf f => sExf cs f
  | .exis l => sExis cs l
  | .isi es => sA (mIsx cs) (evs cs es)
  | .dct0 => sDct0
  | .lam d => sK (.lam d)
  | .fld o f => sFld cs f (ev cs o)
  | .mkx c pm es ks => sMkx cs c pm (evs cs es) (evs cs ks)
  | .lc own g it c e => sLc (evI cs it) own (evG cs g) (evT cs c) (ev cs e)
def evs (cs : Rt) : Es → SmA
  | .nil => sNil
  | .cons e es => sCons (ev cs e) (evs cs es)
def evT (cs : Rt) : T → SmB
  | .e e => sT (ev cs e)
  | .not t => sNot (evT cs t)
  | .and a b => sAndT (evT cs a) (evT cs b)
  | .or a b => sOrT (evT cs a) (evT cs b)
  | .yes => sYes
def evO (cs : Rt) : Oe → SmO
  | .no => sOn
  | .so e => sOs (ev cs e)
def evG (cs : Rt) : Tg → SmG
  | .v i => gV i
  | .tup n ts => gT n (evGs cs ts)
  | .ix a b => gI (ev cs a) (ev cs b)
def evGs (cs : Rt) : Tgs → SmGs
  | .nil => gN
  | .cons t ts => gC (evG cs t) (evGs cs ts)
def evI (cs : Rt) : Ie → SmI
  | .seq e => iSeqM (ev cs e)
  | .enm a => iEnmM (sCons (ev cs a) sNil)
  | .zip a b => iZipM (sCons (ev cs a) (sCons (ev cs b) sNil))
  | .r1 a => fun env st => (sCons (ev cs a) sNil env st).bind fun xs st => match xs with
    | [.int j] => if -(2 ^ 62) ≤ j ∧ j < 2 ^ 62 then .ok (.rng 0 j.toNat) st else .stk
    | _ => .stk
  | .r2 a b => fun env st => (sCons (ev cs a) (sCons (ev cs b) sNil) env st).bind fun xs st => match xs with
    | [.int i, .int j] => if -(2 ^ 62) ≤ i ∧ i < 2 ^ 62 ∧ -(2 ^ 62) ≤ j ∧ j < 2 ^ 62 then .ok (.rng i (j - i).toNat) st else .stk
    | _ => .stk
end
def Rt.in_ (cs : Rt) (c : Nat) (fs : List (Str × MV)) (oi : Option Nat) : Rt := { cs with xc := c, xf := fs, xi := oi.getD 0 }
/-- a clause's class may be asked -/
def hOk (cs : Rt) : CT → Bool
  | .own j => (cs.flds j).isSome
  | .ty _ => true
def offE (oi : Option Nat) (env : Env) : Env := match oi with
  | none => env
  | some i => env.set i none
def offR (oi : Option Nat) (r : RS) : RS := match r with
  | .nx env st => .nx (offE oi env) st
  | .bk env st => .bk (offE oi env) st
  | .ct env st => .ct (offE oi env) st
  | .rt v st => .rt v st
  | _ => .stk
/-- the exception is one of the text's classes, with this class's fields -/
def okX (cs : Rt) (c : Nat) (fs : List (Str × MV)) : Bool := match cs.flds c with
  | some fl => decide (fs.map (·.1) = fl.reverse)
  | none => false
def qTry (b : SmS) (h : Nat → List (Str × MV) → SmS) : SmS := fun env st => match b env st with
  | .ex c fs env st => h c fs env st
  | r => r
def qRaise (fl : Option (List Str)) (c : Nat) (r : SmA) : SmS := fun env st => RS.of (r env st) env fun xs st => match fl with
  | some fl => if xs.length = fl.length ∧ fl ≠ [] then .ex c (fl.zip xs).reverse env st else .stk
  | none => .stk
mutual
def ex (cs : Rt) : S → SmS
  | .set i e => qSet i (ev cs e)
  | .asg e g => qAsg (ev cs e) (evG cs g)
  | .par i j a b => qPar i j (sCons (ev cs a) (sCons (ev cs b) sNil))
  | .expr e => qExpr (ev cs e)
  | .ret e => qRet (ev cs e)
  | .retN => qRetN
  | .pass => qNext
  | .brk => qBrk
  | .cont => qCont
  | .ite t a b => qIf (evT cs t) (exs cs a) (exs cs b)
  | .for_ g it b => qFor (evI cs it) (evG cs g) (exs cs b)
  | .while_ t b => qWhile (evT cs t) (exs cs b)
  | .raise c es => qRaise (cs.flds c) c (evs cs es)
  | .try_ b h => qTry (exs cs b) fun c fs => if okX cs c fs = true then exh cs h c fs else fun _ _ => .stk
def exs (cs : Rt) : Ss → SmS
  | .nil => qNext
  | .cons s ss => qSeq (ex cs s) (exs cs ss)
def exh (cs : Rt) : Hs → Nat → List (Str × MV) → SmS
  | .nil, c, fs => fun env st => .ex c fs env st
  | .cons ct oi b r, c, fs => fun env st => if hOk cs ct = true then (if cs.sub c ct = true then offR oi (exs (cs.in_ c fs oi) b (offE oi env) st) else exh cs r c fs env st) else .stk
end

/-! ### the text's global names -/
inductive G where
  | fn (i np : Nat) (dms : List MV) | blt (f : BF) | lib (f : BF) | range | cst (x : MV) | isi | cls (i : Nat) | bty (n : String)
/-- m: the names; cm: outside of a suite; xn: the name that a suite gives its exception; ec: the classes that are raised -/
structure Tab where
  m : List (Str × G)
  cm : Bool
  xn : Option Str
  ec : List Nat
  kw : List ((Str × Nat × List Str) × (Nat × List Nat))
  lm : Option Str
  vc : List Nat
  ck : List ((Str × Nat × List Str) × (Nat × List Nat))
end Mn
/-! Mn9b: exceptions as values: what is asked of their classes. -/
namespace Mn
open PySem PySem.Spec
                      PyProof.Rows L2

/-! ### isinstance of the exception that a suite holds -/
/-- what a class must have for its exceptions to be asked -/
abbrev XcOk (K : PySem.W.Frag) (D : Addr) : Prop := L2.ExcC K D
def xcB (K : PySem.W.Frag) (D : Addr) : Bool := decide (PySem.W.findIn K (.ref D) "__getattribute__" = some (some (.builtin "BaseException.__getattribute__"))) && decide (PySem.W.findIn K (.ref D) "__getattr__" = some none) && decide (PySem.W.subIn K (.ref D) (.type "BaseException") = some true) &&
  PySem.W.hasDictIn K D && decide (PySem.W.findIn K (.ref D) "__class__" = some (some (.builtin "object.__class__"))) && decide (PySem.W.specialIn K (.builtin "object.__class__") "__get__" = some (some (.builtin "getset_descriptor.__get__"))) &&
  decide (PySem.W.takesIn K (.builtin "object.__class__") = some true) && decide (PySem.W.mroIn K D (.type "object") = some true)
theorem xcB_ok {K : PySem.W.Frag} {D : Addr} (h : xcB K D = true) : XcOk K D := by
  unfold xcB at h
  simp only [decide_eq_true_eq, Bool.and_eq_true] at h
  obtain ⟨⟨⟨⟨⟨⟨⟨e1, e2⟩, e3⟩, e4⟩, e5⟩, e6⟩, e7⟩, e8⟩ := h
  exact ⟨e1, e2, e3, e4, e5, e6, e7, e8⟩
end Mn
namespace PySem.W
open PySem PySem.Spec
                      PySem.Calls PyProof.Rows
section
variable {prog : Program} {w : World} {A : Around} {E : Value → Shared → Prop} {s : Shared} {K : Frag} {x D : Addr} {ox : Obj} {od : Option Obj}
theorem mn_dataO {C : Addr} {name : Str} {a g : Value} (hc : (clsIn K C).isSome = true) (ha : findIn K (.ref C) name = some (some a)) (hg : specialIn K a "__get__" = some (some g)) (ht : takesIn K a = some true) : findObj K C od name = some (.bind g a) := by
  cases e : clsIn K C with
  | none => rw [e] at hc; cases hc
  | some cd => simp [findObj, e, ha, hg, ht]
/-- e.__class__ of an exception of an own class, with a dict or without one -/
theorem mn_classE {Q : Option Value → Shared → Prop} (Z : Mn.XcOk K D) (X : K.In s.heap) (I : InstAt s.heap x ox D od) (h : Q (some (.ref D)) { s with toks := s.toks + 1 }) : wpAny (model prog w) A (getAttr? (.ref x) "__class__") Q E s := by
  have known : (clsIn K D).isSome = true := by
    obtain ⟨cd, e, _⟩ := any_some Z.hd
    rw [e]; rfl
  obtain ⟨hp, gs, dr, tk, os⟩ := s
  have T := I.type (M := model prog w)
  have A1 := looks_findIn (M := model prog w) X Z.hg
  have A2 := looks_findIn (M := model prog w) X Z.hk
  have A3 := looks_find (M := model prog w) X I (mn_dataO (od := od) known Z.ha Z.hn Z.ht)
  have nq : (Value.builtin "BaseException.__getattribute__" == Value.builtin "object.__getattribute__") = false := by decide +kernel
  have n1 : ¬ (onTheHeap (Value.ref D) && Value.builtin "BaseException.__getattribute__" == Value.builtin "object.__getattribute__") = true := by rw [nq]; exact Bool.false_ne_true
  have n2 : ¬ (false && onTheHeap (Value.builtin "BaseException.__getattribute__")) = true := Bool.false_ne_true
  unfold getAttr?
  unfold getAttrBy?
  unfold getAttrBy
  refine wpAny_bind (wpAny_mkText (wpAny_bind (wpAny_attempt (wpAny_holding (wpAny_bind (T.at (wpAny_bind (A1.at ?_))))))))
  have own : onTheHeap (Value.ref D) = true := rfl
  show wpAny _ _ (if (onTheHeap (Value.ref D) &&
    Value.builtin "BaseException.__getattribute__" == Value.builtin "object.__getattribute__") = true then _ else _) _ _ _
  rw [if_neg n1]
  unfold getAttrByItsOwn
  unfold hookBefore
  rw [if_pos own]
  refine wpAny_bind (A2.at (wpAny_bind (wpAny_attempt (wpAny_holding ?_))))
  unfold callGetattribute
  rw [if_neg n2]
  unfold boundAndCalled
  have bnd := PySem.F.excAttr_ValueError.ga.bind (.ref x)
  rw [bnd]
  apply wpAny_bind
  apply wpAny_pure
  show wpAny _ _ (call (.builtin "BaseException.__getattribute__") [.ref x, .str "__class__" tk]) _ _ _
  have pl := PySem.F.excAttr_ValueError.ga.plain
  refine wpAny_call (codeAny_call_builtin pl PySem.F.entry_bexc_ga ?_)
  refine @check_slot (model prog w) _ _ ⟨hp, gs, dr, tk + 1, os⟩ "BaseException.__getattribute__" "BaseException" "__getattribute__" (.ref x) [.str "__class__" tk] [] _ (by decide +kernel) (by decide +kernel) (T.andThen (looks_subIn X Z.hs)) (PySem.F.args_bexc_ga (.ref x) (.str "__class__" tk)) ?_
  unfold
    Builtin.«object.__getattribute__»
  refine wpAny_bind (wpAny_of_eq (a := ((Value.ref x : Value), [Value.str "__class__" tk])) (by first | rfl | (simp only [slotArgs]; rfl)) ?_)
  refine wpAny_bind (wpAny_pure (wpAny_bind (T.at (wpAny_bind (A3.at ?_)))))
  show wpAny _ _ (holding [Value.builtin "object.__class__"]
    (call (.builtin "getset_descriptor.__get__") [.builtin "object.__class__", .ref x, .ref D]) >>= ret) _ _ _
  refine wpAny_bind (wpAny_holding (wpAny_call (class_get (s := ⟨hp, gs, dr, tk + 1, os⟩) (ox := ox) (od := od) X I Z.hm (wpAny_pure ?_))))
  show wpAny _ _
    (handedOut (.ref D)) _ _ _
  have out := handedOut_of (v := .ref D) rfl
  rw [out]
  have p1 := @wpAny_pure
  first
    | exact wpAny_pure (p1 h)
    | exact p1 h
    | exact p1 (wpAny_bind (wpAny_pure (p1 h)))
theorem mn_kitE (Z : Mn.XcOk K D) : KitX K (.ref x) (.ref D) (fun h => ∃ od, InstAt h x ox D od) where
  ty := fun _ _ _ ⟨_, I⟩ => I.type
  it := fun _ _ X _ => by
    obtain ⟨cd, hc, _⟩ := any_some Z.hd
    unfold clsIn at hc
    split at hc
    · rename_i ho
      exact fun A' Q' E' s' k q => by
        unfold isType loadHead
        exact wpAny_bind
          (wpAny_loadPart (k _ _ (X _ _ ho)) (wpAny_pure q))
    · cases hc
  ne := fun hp tp dd its n sl X htp => by
    obtain ⟨cd, hc, _⟩ := any_some Z.hd
    rw [Bool.eq_false_iff]
    intro q
    obtain rfl : D = tp := Value.ref.inj (beq_iff_eq.mp q)
    unfold clsIn at hc
    split at hc
    · rename_i ho
      cases (X _ _ ho).symm.trans htp
    · cases hc
  ca := fun X ⟨od, I⟩ k => mn_classE Z X I k
end
end PySem.W
namespace Mn
open PySem PySem.Spec
                      PyProof.Rows L2
/-- what the classes of the text must bear, so that its exceptions may be caught and asked -/
structure ClsOk (Γ : Gm) (cs : Rt) : Prop where
  xc : ∀ c fl, cs.flds c = some fl → XcOk Γ.K (Γ.ca c) ∧ ∀ f ∈ fl, PySem.W.findIn Γ.K (.ref (Γ.ca c)) f = some none
  kit : ∀ c fl, cs.flds c = some fl → ∀ ct, (∀ n, ct = .ty n → n ∈ etys) → PySem.W.kitOne Γ.K (.ref (Γ.ca c)) (cvOf Γ ct) = some (cs.sub c ct)
  exm : ∀ c fl, cs.flds c = some fl → ∀ ct, hOk cs ct = true → (∀ n, ct = .ty n → n ∈ etys) → PySem.W.exmOne Γ.K (.ref (Γ.ca c)) (cvOf Γ ct) = some (cs.sub c ct)
theorem mapO_len {α β : Type} {f : α → Option β} : ∀ {es : List α} {l : List β}, mapO f es = some l → l.length = es.length
  | [], _, h => by cases h; rfl
  | e :: es, _, h => by
    unfold mapO at h
    split at h
    · rename_i h2
      cases h
      rw [List.length_cons, List.length_cons, mapO_len h2]
    · cases h
theorem kit_all {K : PySem.W.Frag} {tv : Value} {f : CT → Value} {g : CT → Bool} : ∀ {l : List CT}, (∀ ct ∈ l, PySem.W.kitOne K tv (f ct) = some (g ct)) → PySem.W.kitAny K tv (l.map f) = some (l.any g)
  | [], _ => rfl
  | c :: l, h => kitAny_cons (h c List.mem_cons_self) (fun e => by
      rw [kit_all fun ct hm => h ct (List.mem_cons_of_mem _ hm), List.any_cons, e, Bool.false_or]) fun e => by rw [List.any_cons, e, Bool.true_or]
/-- nothing is asked of a lambda, and nothing of its maker -/
def lamOk (params : Arguments) (scope : Scope) : Bool := params.posonlyargs.isEmpty && params.args.isEmpty && params.vararg.isNone && params.kwonlyargs.isEmpty && params.kw_defaults.isEmpty && params.kwarg.isNone && params.defaults.isEmpty &&
  decide (scope.kind = .function) && !scope.isCoroutine && !scope.isGenerator && scope.names.all fun y => decide (y.2 = .globalImplicit)
/-- the call of a lambda -/
structure LamM (Γ : Gm) (P : Program) (w : World) (mg : Str → Option Value) (base : Heap) (k : Nat) (d : LamD) (C : Cl) : Prop where
  run : ∀ (A : Around) (outer : List PySem.Env) (s : Shared) (H : Hp) (f c : Addr) (Q : VK) (E : XK), RoomG k A → Env0 P w Γ.K mg base A outer s H → H f = some (LamO d c f) → H c = some (LamX.CodeO c d.qual) → SpM Γ C [] H Q E →
    codeAny (model P w) A (.call (.ref f) ⟨[], []⟩) (CR (L2.CX P w) outer P w H s Q E) s

/-! ### an exception as a value -/
theorem exo_inst {X : Cx} {pins : List (Addr × Obj)} {σ : L2.St} {H : Hp} {s : Shared} {a D : Addr} {d : Option Addr} (I : Inv X pins σ H s) (h : H a = some (exo a D d)) (hd : d = none ∨ ∃ b fs, d = some b ∧ H b = some (exd b fs)) : ∃ (oe : Obj) (od : Option Obj), PySem.W.InstAt s.heap a oe D od := by
  obtain ⟨t1, ho⟩ := exo_at I.hok h
  rcases hd with rfl | ⟨b, fs, rfl, hb⟩
  · exact ⟨_, none, ho, rfl, rfl, trivial⟩
  · obtain ⟨mA, hns, _⟩ := exd_at I.hok hb
    obtain ⟨od, ho2, _⟩ := lookIn_ns hns
    exact ⟨_, some od, ho, rfl, rfl, ho2⟩
/-- isinstance(x, c), isinstance(x, (c, ..)), x an exception -/
def rIsV (K : PySem.W.Frag) : List V → Hp → VK → Prop := fun xs H Q => ∃ (a D : Addr) (d : Option Addr) (c : V) (k : Bool), xs = [.ref a, c] ∧ H a = some (exo a D d) ∧ (d = none ∨ ∃ b fs, d = some b ∧ H b = some (exd b fs)) ∧ XcOk K D ∧
  ((∃ u, ClsV c u ∧ PySem.W.kitOne K (.ref D) u = some k) ∨ ∃ (tp : Addr) (cs : List V) (us : List Value), c = .ref tp ∧ (H tp = some (.tup cs) ∨ ∃ (dd : Option Addr) (n : Nat) (sl : Array (Option Value)), K.lookup tp = some ⟨.type "tuple", dd, .seq us.toArray n, sl⟩) ∧ Paired ClsV cs us ∧ PySem.W.kitAny K (.ref D) us = some k) ∧ Q (.bl k) H
theorem call_isV {X : Cx} : CallR X (.builtin "isinstance") (rIsV X.K) := by
  intro pins s σ H xs us Q I r ⟨a, D, d, c, k, ex, ha, hd, Z, hc, q⟩
  subst ex
  obtain ⟨u1, u2, rfl,
                       r1, r2⟩ := vals2 r
  cases (show u1 =
                   Value.ref a from r1)
  obtain ⟨oe, od, J0⟩ := exo_inst I ha hd
  have J : ∃ od, PySem.W.InstAt s.heap a oe D od := ⟨od, J0⟩
  rcases hc with ⟨u, cv, e⟩ | ⟨tp, cs, ws, e1, hT, cv, e⟩
  · have e2 := cv.eq r2
    subst e2
    exact PySem.W.kia_one (PySem.W.mn_kitE Z) I.kIn J e (fun z => nomatch z) fun tk => ⟨.bl k, H, I.tok tk, rfl, q⟩
  · subst e1
    cases (show u2 =
                     Value.ref tp from r2)
    rcases hT with hT | ⟨dd, n, sl, hT⟩
    rotate_left
    · exact PySem.W.kia_tup (PySem.W.mn_kitE Z) I.kIn J (I.kIn _ _ hT) e (fun z => nomatch z) fun tk => ⟨.bl k, H, I.tok tk, rfl, q⟩
    obtain ⟨_, its, rv, o, h1, h2, n, h3⟩ := (show ObjOk
                                                         X.prog X.w H s.heap tp (.tup cs) from I.hok tp _ hT)
    have e3 := ClsV.all cv rv
    subst e3
    obtain ⟨oc, od, dt, sl⟩ := o
    simp only at h2 h3
    subst h2 h3
    exact PySem.W.kia_tup (PySem.W.mn_kitE Z) I.kIn J h1 e (fun z => nomatch z) fun tk => ⟨.bl k, H, I.tok tk, rfl, q⟩
section
variable {Γ : Gm} {W : Wd} {st : Store} {X : Cx} {cs : Rt}
theorem ctOfX_ok {x : MV} {v : V} {c : CT} (r : VR Γ W x v) (h : ctOfX x = some c) : ClsV v (cvOf Γ c) ∧ (∀ n, c = .ty n → n ∈ etys) := by
  cases r with
  | ty n =>
    have h' : (if etys.contains n then some (CT.ty n) else none) = some c := h
    split at h'
    · rename_i e
      cases h'
      exact ⟨.ty n, fun m e' => by cases e'; exact List.contains_iff_mem.mp e⟩
    · cases h'
  | cls i => cases h; exact ⟨.own _, fun m e => by cases e⟩
  | _ => cases h
theorem ctsX_ok : ∀ {xs : List MV} {vs : List V} {l : List CT}, VRs Γ W xs vs → mapO ctOfX xs = some l → Paired ClsV vs (l.map (cvOf Γ)) ∧ ∀ c ∈ l, ∀ n, c = .ty n → n ∈ etys := by
  intro xs
  induction xs with
  | nil => intro vs l r h; cases r; cases h; exact ⟨.nil, fun _ z => nomatch z⟩
  | cons x xs ih =>
    intro vs l r h
    cases r with
    | cons r1 r2 =>
      unfold mapO at h
      split at h
      · rename_i c cs h1 h2
        cases h
        obtain ⟨a1, a2⟩ := ctOfX_ok r1 h1
        obtain ⟨b1, b2⟩ := ih r2 h2
        refine ⟨.cons a1 b1, fun c' hm => ?_⟩
        rcases List.mem_cons.mp
                                hm with rfl | hm
        · exact a2
        · exact b2 c' hm
      · cases h
/-- an exception among the values, as the library tells of it -/
theorem vr_exo {c : Nat} {ns : List Str} {xs : List MV} {v : V} (r : VR Γ W (.exo c ns xs) v) : ∃ (a : Addr) (d : Option Addr), v = .ref a ∧ W.H a = some (L2.exo a (Γ.ca c) d) ∧ (d = none ∨ ∃ b fs, d = some b ∧ W.H b = some (exd b fs)) := by
  cases r with
  | exo0 h => exact ⟨_, _, rfl, h, .inl rfl⟩
  | exo h h2 e r => exact ⟨_, _, rfl, h, .inr ⟨_, _, rfl, h2⟩⟩
theorem sd_isx (hK : Γ.K = X.K) (hC : IsC Γ) (L : ClsOk Γ cs) : CallR X (.builtin "isinstance") (tAM Γ (mIsx cs)) := by
  intro pn s σ H xs us Q I rx ⟨W, st, as, e, S, ra, hp⟩
  have other : Post Γ W (VR Γ) (fun _ _ _ => False) (mIsi st as) (fun v W => Q v W.H) → wpAny (model X.prog X.w) X.A (call (.builtin "isinstance") us) (EP X pn σ Q) X.xe s := fun hp => sd_isi hK hC pn s σ H xs us Q I rx ⟨W, st, as, e, S, ra, hp⟩
  unfold mIsx at hp
  split at hp
  · rename_i c ns ys k
    split at hp
    · rename_i hfl
      obtain ⟨fl, hfl⟩ := Option.isSome_iff_exists.mp hfl
      split at hp
      · rename_i l hl
        subst e
        obtain ⟨v, w, rfl, rv, rw'⟩ := vrs2 ra
        obtain ⟨a, d, rfl, ha, hd⟩ := vr_exo rv
        have Z := (L.xc c fl hfl).1
        have kit := L.kit c fl hfl
        refine call_isV pn s σ W.H _ us Q I rx ⟨a, Γ.ca c, d, w, _, rfl, ha, hd, hK ▸ Z, ?_, post_val S hp (.bl _)⟩
        have one : ∀ {t' : CT}, ctOfX k = some t' → l = [t'] → (∃ u, ClsV w u ∧ PySem.W.kitOne X.K (.ref (Γ.ca c)) u = some (l.any (cs.sub c))) := fun {t'} e el => by
          subst el
          obtain ⟨a1, a2⟩ := ctOfX_ok rw' e
          refine ⟨_, a1, ?_⟩
          rw [← hK, kit t' a2]
          show _ = some (cs.sub c t' || false)
          rw [Bool.or_false]
        unfold clsLX at hl
        split at hl
        · rename_i zs
          cases rw' with
          | tup g1 g2 =>
            obtain ⟨b1, b2⟩ := ctsX_ok g2 hl
            rcases g1 with g1 | ⟨o, its, n, g1, gc, gd, _, gv⟩
            · exact .inr ⟨_, _, _, rfl, .inl g1, b1, by rw [← hK]; exact kit_all fun ct hm => kit ct (b2 ct hm)⟩
            · obtain ⟨oc, od, dt, sl⟩ := o
              simp only at gc gd
              subst gc gd
              have e := ClsV.all b1 gv
              exact .inr ⟨_, _, _, rfl, .inr ⟨od, n, sl, by rw [← hK, ← e]; exact g1⟩, b1, by rw [← hK]; exact kit_all fun ct hm => kit ct (b2 ct hm)⟩
        · cases hk : ctOfX k with
          | none => rw [hk] at hl; cases hl
          | some t' => rw [hk] at hl; cases hl; exact .inl (one hk rfl)
      · exact hp.elim
    · exact hp.elim
  · exact other hp
theorem isx_nx (st : Store) (xs : List MV) : ∀ c fs st', mIsx cs st xs ≠ .exc c fs st' := by
  intro c fs st' e
  unfold mIsx at e
  split at e
  · (repeat' split at e) <;> cases e
  · exact isi_nx _ _ _ _ _ e
theorem fld_nx (f : Str) (st : Store) (x : MV) : ∀ c fs st', mFld cs f st x ≠ .exc c fs st' := by
  intro c fs st' e
  unfold mFld at e
  (repeat' split at e) <;> cases e
/-- x.f, x an exception with the field f -/
def tFldV (K : PySem.W.Frag) (n : Str) (te : TE) : TE := fun σ H Q => te σ H fun x H1 => ∃ (a C b : Addr) (fs : List (Str × V)) (v : V), x = .ref a ∧ H1 a = some (L2.exo a C (some b)) ∧ H1 b = some (exd b fs) ∧ XcOk K C ∧ PySem.W.findIn K (.ref C) n = some none ∧ fs.lookup n = some v ∧ Q v H1
theorem pe_fldV {e : Expr} {te : TE} {pos : Pos} {n : Str} (he : PE X e te) (hb : attributeBase e n X.env (eval e X.env) = eval e X.env) : PE X (.Attribute e n pos) (tFldV X.K n te) := by
  refine ⟨fun pins
                   s σ H Q I h => ?_⟩
  refine attr_of hb (thn (he.run pins
                                      s σ H _ I h) fun u s1 hh => ?_)
  obtain ⟨x, H1, I1, rx, a, C, b, fs, v, ex, ea, eb, Z, hno, l, q⟩ := hh
  subst ex
  obtain rfl : u =
                   Value.ref a := rx
  obtain ⟨t1, ho⟩ := exo_at I1.hok ea
  obtain ⟨mA, hns, hr⟩ := exd_at I1.hok eb
  obtain ⟨od, ho2, hl⟩ := lookIn_ns hns
  obtain ⟨u, hu, ru⟩ := RelO.some_of (v :=
                                           v) (o := mA n) (by rw [← l]; exact hr n)
  have J : PySem.W.InstAt s1.heap a _ C (some od) := ⟨ho, rfl, rfl, ho2⟩
  exact HandSPX.exc_get I1.kIn J Z.hg Z.hk Z.hs (PySem.W.findObj_own Z.hd hno rfl (by rw [hl, hu])) (handed_of ru) ⟨v, H1, I1.tok _, ru, q⟩
theorem lookup_zip {W : Wd} {f : Str} {x : MV} : ∀ {ns : List Str} {xs : List MV} {vs : List V}, ns.length = vs.length → VRs Γ W xs vs → ∀ (l : List (Str × MV)) (l' : List (Str × V)), (∀ x, l.lookup f = some x → ∃ v, l'.lookup f = some v ∧ VR Γ W x v) → (l.lookup f = none → l'.lookup f = none) →
    ((ns.zip xs).reverse ++ l).lookup f = some x → ∃ v, ((ns.zip vs).reverse ++ l').lookup f = some v ∧ VR Γ W x v
  | [], xs, vs, _, _, l, l', h, _, e => by
    rw [List.zip_nil_left] at e ⊢
    exact h x e
  | n :: ns, [], [], e0, _, _, _, _, _, _ => by cases e0
  | n :: ns, y :: xs, v :: vs, e0, .cons r1 r2, l, l', h, hn, e => by
    rw [List.zip_cons_cons, List.reverse_cons, List.append_assoc] at e ⊢
    refine lookup_zip (xs := xs) (vs := vs) (by simpa using e0) r2 ([(n, y)] ++ l) ([(n, v)] ++ l') (fun z hz => ?_) (fun hz => ?_) e
    · show ∃ w, List.lookup f ((n, v) :: l') = some w ∧ _
      have hz' : List.lookup f ((n, y) :: l) = some z := hz
      rw [List.lookup_cons] at hz' ⊢
      split at hz'
      · cases hz'; exact ⟨v, rfl, r1⟩
      · exact h z hz'
    · show List.lookup f ((n, v) :: l') = none
      have hz' : List.lookup f ((n, y) :: l) = none := hz
      rw [List.lookup_cons] at hz' ⊢
      split at hz'
      · cases hz'
      · exact hn hz'
theorem e_fld {Wx : WX} {o : Expr} {mo : Sm} {f : Str} {pos : Pos} (hK : Γ.K = X.K) (L : ClsOk Γ cs) (ho : PE X o (tE Γ Wx mo)) (hb : attributeBase o f X.env (eval o X.env) = eval o X.env) : PE X (.Attribute o f pos) (tE Γ Wx (sFld cs f mo)) := by
  refine pe_imp (pe_fldV ho hb) fun σ H Q ⟨W, st, env, e, S, E, h⟩ => ?_
  subst e
  refine seqE (α := MV) S E h fun W1 st1 x v l1 S1 E1 r1 p1 => ?_
  unfold mFld at p1
  split at p1
  · rename_i c ns xs
    split at p1
    · rename_i hfl
      split at p1
      · rename_i y hy
        obtain ⟨Z, hno⟩ := L.xc c ns hfl
        have mem : f ∈ ns := by
          obtain ⟨l1, l2, el, _⟩ := List.lookup_eq_some_iff.mp hy
          have : (f, y) ∈ (ns.zip xs).reverse := by rw [el]; exact List.mem_append.mpr (.inr List.mem_cons_self)
          exact (List.of_mem_zip (List.mem_reverse.mp this)).1
        cases r1 with
        | exo0 h0 => cases hy
        | exo h1 h2 e3 r3 =>
          obtain ⟨w, y1, y2⟩ := lookup_zip (Γ := Γ) (W := W1) (f := f) (x := y) e3 r3 [] [] (fun _ z => by cases z) (fun _ => rfl) (by rw [List.append_nil]; exact hy)
          rw [List.append_nil] at y1
          exact ⟨_, _, _, _, w, rfl, h1, h2, hK ▸ Z, hK ▸ hno f mem, y1, post_val S1 (Post.nx (show Post Γ W1 (VR Γ) (wx Wx σ) (.ok y st1) _ from p1) (fun _ _ _ z => by cases z)) y2⟩
      · exact p1.elim
    · exact p1.elim
  · exact p1.elim
end
end Mn
/-! Mn9c: lambdas that take nothing of their maker: made, and called. -/
namespace Mn
open PySem PySem.Spec
                      PyProof.Rows L2 LamX
theorem lamO_ok {P : Program} {w : World} {H : Hp} {h : Heap} {d : LamD} {c f : Addr} {pm ctv : Value} (e : h.get? f = some (PySem.W.kla_obj "<lambda>" d.qual d.params d.body d.scope [] pm c ctv)) : ObjOk P w H h f (LamO d c f) :=
  ⟨⟨pm, ctv, e⟩, ⟨_, e⟩, fun h1 h2 z k => by
    obtain ⟨pm, ctv, q⟩ := z
    exact ⟨pm, ctv, k _ q⟩⟩
theorem lamO_at {P : Program} {w : World} {H : Hp} {h : Heap} {d : LamD} {c f : Addr} (hok : HOk P w H h) (he : H f = some (LamO d c f)) : ∃ pm ctv : Value, h.get? f = some (PySem.W.kla_obj "<lambda>" d.qual d.params d.body d.scope [] pm c ctv) := by
  have x : ObjOk P w H h f (.ext fun h => ∃ pm ctv : Value, h.get? f = some (PySem.W.kla_obj "<lambda>" d.qual d.params d.body d.scope [] pm c ctv)) := hok f _ he
  exact x.1
structure LamF (params : Arguments) (scope : Scope) : Prop where
  kind : scope.kind = .function
  co : scope.isCoroutine
                         = false
  gen : scope.isGenerator
                          = false
  glo : ∀ y ∈ scope.names, y.2 = .globalImplicit
  par : params = { posonlyargs := [], args := [], vararg := none, kwonlyargs := [], kw_defaults := [], kwarg := none, defaults := [] }
theorem lamF_of {params : Arguments} {scope : Scope} (h : lamOk params scope = true) : LamF params scope := by
  unfold lamOk at h
  simp only [Bool.and_eq_true, decide_eq_true_eq, Bool.not_eq_true', List.isEmpty_iff, Option.isNone_iff_eq_none, List.all_eq_true] at h
  obtain ⟨⟨⟨⟨⟨⟨⟨⟨⟨⟨a1, a2⟩, a3⟩, a4⟩, a5⟩, a6⟩, a7⟩, k⟩, co⟩, g⟩, n⟩ := h
  refine ⟨k, co, g, n, ?_⟩
  cases params
  simp only at a1 a2 a3 a4 a5 a6 a7
  subst a1 a2 a3 a4 a5 a6 a7
  rfl
theorem LamF.clo {params : Arguments} {scope : Scope} (F : LamF params scope) (cells : List (Str × Addr)) : cloFrom cells scope.names [] = [] := by
  have : ∀ (l : List (Str × NameKind)) (acc : List (Str × Addr)), (∀ y ∈ l, y.2 = .globalImplicit) → cloFrom cells l acc = acc := by
    intro l
    induction l with
    | nil => intro acc _; rfl
    | cons y l ih =>
      intro acc h
      obtain ⟨y1, y2⟩ := y
      have := h (y1, y2) List.mem_cons_self
      simp only at this
      subst this
      exact ih acc fun z hz => h z (List.mem_cons_of_mem _ hz)
  exact this _ _ F.glo
section
variable {X : Cx} {pins : List (Addr ×
                                       Obj)} {σ : L2.St} {H : Hp} {s : Shared}
/-- the lambda is made, and tracked -/
theorem lam_make3 {T : List (Addr × Str)} {c P : Addr} {params : Arguments} {body : Expr} {scope : Scope} {pos : Pos} {E : Value → Shared → Prop} {Q : Value → Shared → Prop} {q : Str} (I : Inv X pins σ H s) (TB : TabB X.base X.mg c P) (hcode : X.env.code = .ref c) (hq : X.env.qual = q)
    (hm : (P, q ++ "<lambda>") ∈ T) (hu : ∀ p ∈ T, p.1 = P → p.2 = q ++ "<lambda>") (hT : Tabs T H) (F : LamF params scope)
    (h : ∀ (f c' : Addr) (H1 : Hp) (s' : Shared), Inv X pins σ H1 s' → ExtN H H1 → Tabs T H1 → H1 f = some (LamO ⟨q ++ "<lambda>", params, body, scope⟩ c' f) → H1 c' = some (CodeO c' (q ++ "<lambda>")) → Q (.ref f) s') :
    wpAny (model X.prog X.w) X.A (eval (.Lambda
                                                params body scope pos) X.env) Q E s := by
  subst hq
  have hdef : defaultsOf params X.env = ([], []) := by rw [F.par]; rfl
  have hfree : ∀ y ∈ scope.names, y.2 = .free → ∃ c,
                                                     X.env.cells.lookup y.1 = some c := fun y hy e => by
    rw [F.glo y hy] at e
    cases e
  have ecl := F.clo X.env.cells
  obtain ⟨ps, hP,
                  ht, ha⟩ := hT _ hm
  refine PySem.W.kla_eval
                          hdef ?_
  have bP : s.heap.BuiltinsAt
                              X.mg P := TB.bm.keeps I.bk
  have hP' : s.heap.get? P = some { cls :=
                                           .none, data := .fields ps } := I.hok P _ hP
  cases hc : codeAmong
                       pos ps.toList with
  | none =>
    refine PySem.W.kla_makeFunction (mg := X.mg) (c := c) (P := P) (ps := ps) (closure_ok hfree) I.ok.glob
                                                                                                           (I.mod.glob.keeps I.bk) hcode (TB.code.keeps I.bk) hP' ht hc TB.gP bP fun c' ctv h' tk hx hge hlt hrec htb => ?_
    obtain ⟨c2, oc, vs, t,
                           e2, hoc, hd, hv⟩ := hrec
    cases e2
    rw [ecl]
    have nC : H c' =
                     none := I.hok.fresh hge
    have I0 := inv_table (t' := tk) (more := #[rawInt pos.line, rawInt pos.col, .ref c']) (h' := h') I hP hx htb hge ⟨oc, vs, t, hoc, hd, hv⟩
    have hE0 : ExtN H (upd (upd H P (.tbl (ps ++ #[rawInt pos.line, rawInt pos.col, .ref c']))) c' (CodeO c' (X.env.qual ++ "<lambda>"))) := fun b o e n => by
      rw [upd_ne (ne_of_none e nC), upd_ne (fun z => n ps
                                                          (Option.some.inj (e.symm.trans (by rw [z]; exact hP))))]
      exact e
    have hfresh := I0.hok.fresh (Nat.le_refl h'.objs.size)
    have I1 := I0.laid (t' := tk) (a := h'.objs.size) (o := LamO ⟨X.env.qual ++ "<lambda>", params, body, scope⟩ c' h'.objs.size) (h' := h'.push (PySem.W.kla_obj "<lambda>" (X.env.qual ++ "<lambda>") params body scope [] ((X.mg "__name__").getD .none) c' ctv))
      (fun b o e => Heap.get?_push_of_some _ e) (Nat.le_refl _) (lamO_ok (d := ⟨X.env.qual ++ "<lambda>", params, body, scope⟩) (Heap.get?_push_size _ rfl))
    have ext1 : ∀ b o, (upd (upd H P (.tbl (ps ++ #[rawInt pos.line, rawInt pos.col, .ref c']))) c' (CodeO c' (X.env.qual ++ "<lambda>"))) b = some o → (upd (upd (upd H P (.tbl (ps ++ #[rawInt pos.line, rawInt pos.col, .ref c']))) c' (CodeO c' (X.env.qual ++ "<lambda>"))) h'.objs.size (LamO ⟨X.env.qual ++ "<lambda>", params, body, scope⟩ c' h'.objs.size)) b = some o := fun b o e => by
      rw [upd_ne (ne_of_none e hfresh)]
      exact e
    have eL : (ps ++ #[rawInt pos.line, rawInt pos.col, .ref c']).toList
                                                                         = ps.toList ++ [rawInt pos.line, rawInt pos.col, .ref c'] := by simp
    have hT0 : Tabs T (upd (upd H P (.tbl (ps ++ #[rawInt pos.line, rawInt pos.col, .ref c']))) c' (CodeO c' (X.env.qual ++ "<lambda>"))) := fun p hp => by
      by_cases hb : p.1 = P
      · rw [hu p hp hb, hb]
        refine ⟨_, by rw [upd_ne (ne_of_none hP nC), upd_same], by rw [eL];
                                                                            exact PySem.TriplesOk_snoc _ _ _ _ ht, fun p' cv hcv => ?_⟩
        rw [eL] at hcv
        rcases among_app _
                           ht hcv with z | z
        · obtain ⟨c0, e1,
                          e2⟩ := ha p' cv z
          exact ⟨c0, e1, hE0 _ _ e2 codeO_ne⟩
        · exact ⟨c', z, upd_same⟩
      · obtain ⟨ps', a1,
                         a2, a3⟩ := hT p hp
        refine ⟨ps', by rw [upd_ne (ne_of_none a1 nC),
                                                       upd_ne hb]; exact a1, a2, fun p' cv hcv => ?_⟩
        obtain ⟨c0, e1,
                        e2⟩ := a3 p' cv hcv
        exact ⟨c0, e1, hE0 _ _ e2 codeO_ne⟩
    exact h h'.objs.size c' _ _ I1 (hE0.trans (.of ext1)) (hT0.ext ext1) upd_same (ext1 _ _ upd_same)
  | some cv =>
    obtain ⟨c', e,
                   hco⟩ := ha pos cv hc
    subst e
    refine PySem.W.kla_makeFunctionHit (mg := X.mg) (c := c) (P := P) (ps := ps) (closure_ok hfree)
                                                                                                    I.ok.glob (I.mod.glob.keeps I.bk) hcode (TB.code.keeps I.bk) hP' ht hc bP fun ctv h' tk hx hsz => ?_
    rw [ecl]
    have I0 : Inv X pins σ H { s with heap := h', toks := tk } := I.kept fun b o e => hx b o e
    have hfresh := I0.hok.fresh (Nat.le_refl h'.objs.size)
    have I1 := I0.laid (t' := tk) (a := h'.objs.size) (o := LamO ⟨X.env.qual ++ "<lambda>", params, body, scope⟩ c' h'.objs.size) (h' := h'.push (PySem.W.kla_obj "<lambda>" (X.env.qual ++ "<lambda>") params body scope [] ((X.mg "__name__").getD .none) c' ctv))
      (fun b o e => Heap.get?_push_of_some _ e) (Nat.le_refl _) (lamO_ok (d := ⟨X.env.qual ++ "<lambda>", params, body, scope⟩) (Heap.get?_push_size _ rfl))
    have ext1 : ∀ b o, H b = some o → (upd H h'.objs.size (LamO ⟨X.env.qual ++ "<lambda>", params, body, scope⟩ c' h'.objs.size)) b = some o := fun b o e => by
      rw [upd_ne (ne_of_none e hfresh)]
      exact e
    exact h h'.objs.size c' _ _ I1 (.of ext1) (hT.ext ext1) upd_same (ext1 _ _ hco)
end
section
variable {Γ : Gm} {W : Wd} {st : Store} {H1 : Hp}
theorem le_extN (e : ExtN W.H H1) (t : Tabs Γ.T H1) : Le Γ W ⟨W.ρ, W.n, H1⟩ :=
  ⟨Nat.le_refl _, fun _ _ => rfl, fun a vs h => by
    rcases h with h | h
    · exact .inl (e _ _ h (fun ps z => by cases z))
    · exact .inr h, fun a u h z => e _ _ h (fun ps y => by rcases z with ⟨_, z⟩ | ⟨_, z⟩ <;> (rw [z] at y; cases y)), fun _ => t⟩
theorem SR.extN (S : SR Γ W st) (e : ExtN W.H H1) (t : Tabs Γ.T H1) : SR Γ ⟨W.ρ, W.n, H1⟩ st := by
  have l : Le Γ W ⟨W.ρ, W.n, H1⟩ := le_extN e t
  refine ⟨S.len, fun k o h => ?_, S.inj, ?_, t, Γ.mono l S.hold⟩
  · obtain ⟨u, hu, r⟩ := S.at_ k o h
    refine ⟨u, e _ _ hu (fun ps z => ?_), r.mono l⟩
    subst z
    cases r
  · obtain ⟨o, h⟩ := S.sys
    exact ⟨o, e _ _ h (fun ps z => by cases z)⟩
/-- a lambda -/
theorem e_lam {X : Cx} {Wx : WX} {c P : Addr} {q : Str} {params : Arguments} {body : Expr} {scope : Scope} {pos : Pos} (TB : TabB X.base X.mg c P) (hcode : X.env.code = .ref c) (hm : (P, q ++ "<lambda>") ∈ Γ.T) (hu : ∀ p ∈ Γ.T, p.1 = P → p.2 = q ++ "<lambda>") (hq : X.env.qual = q) (ok : lamOk params scope = true) :
    PE X (.Lambda params body scope pos) (tE Γ Wx (sK (.lam ⟨q ++ "<lambda>", params, body, scope⟩))) := by
  refine ⟨fun pins s σ H Q I ⟨W, st, env, e, S, E, h⟩ => ?_⟩
  subst e
  refine lam_make3 I TB hcode hq hm hu S.tabs (lamF_of ok) fun f c' H1 s' I1 eN T1 hf hco => ?_
  exact ⟨.ref f, H1, I1, rfl, h ⟨W.ρ, W.n, H1⟩ _ (le_extN eN T1) (S.extN eN T1) (.lam hf hco)⟩
end
/-! ### the call -/
abbrev lamEnv0 (d : LamD) (L f c' : Addr) : PySem.Env := PySem.W.envX d.qual d.scope L f (.ref c') []
/-- the context of the lambda's body, entered at s from the frames outer (own reading) -/
def lamCx0 (P : Program) (w : World) (K : PySem.W.Frag) (mg : Str → Option Value) (base : Heap) (A : Around) (outer : List PySem.Env) (s : Shared) (H : Hp) (E : XK) (d : LamD) (f c' : Addr) : Cx where
  prog := P
  w := w
  K := K
  mg := mg
  base := base
  A := A.deeper (lamEnv0 d s.heap.objs.size f c')
  N := []
  s_0 := s
  H_0 := H
  env := lamEnv0 d s.heap.objs.size f c'
  outer := outer
  stack := lamEnv0 d s.heap.objs.size f c' :: outer
  ex := []
  fn := fun _ => false
  calm := true
  pn := []
  xe := fun e s' => wpAny (model P w) (A.deeper (lamEnv0 d s.heap.objs.size f c')) (leaving (lamEnv0 d s.heap.objs.size f c') e) (fun _ s'' => L2.CX P w outer H s E e s'') (fun e' s'' => L2.CX P w outer H s E e' s'') s'
section
variable {P : Program} {w : World} {K : PySem.W.Frag} {mg : Str → Option Value} {base : Heap} {A : Around} {outer : List PySem.Env} {s : Shared} {H : Hp} {E : XK} {d : LamD} {f c' : Addr} {h₁ : Heap} {tk : Nat}
theorem lam_start0 (L : LamF d.params d.scope) (e0 : Env0 P w K mg base A outer s H) (hd : A.handled = none)
    (hns : h₁.Ns s.heap.objs.size fun y => ([] : List (Str × Value)).reverse.lookup y) (kp : ∀ b o, s.heap.get? b = some o → h₁.get? b = some o) :
    Inv (lamCx0 P w K mg base A outer s H E d f c') [] [] H { s with heap := h₁, toks := tk } := by
  have noA : ∀ b : Addr, b ∉ (lamCx0 P w K mg base A outer s H E d f c').ex := fun b z => absurd (show b ∈ ([] : List Addr) from z) (by simp)
  have noG : ∀ {y : Str} {k : NameKind}, d.scope.names.lookup y = some k → k = .globalImplicit := fun {y k} h => L.glo _ (PySem.mem_of_lookup h)
  refine ⟨⟨e0.mod, L.kind, rfl, rfl, Nat.le_refl _, fun y z c e1 e2 => (by cases (show ([] : List (Str × Addr)).lookup y = some c from e1)), fun y hy => ?_, fun y c z _ => ?_, fun _ => hd, Around.frames_deeper e0.frames, .inr ⟨rfl, rfl⟩, fun b z => absurd z (noA b), e0.bs, e0.bsz, fun b _ _ => noA b,
      fun b z => absurd z (noA
                               b), e0.funs, e0.frf⟩,
    rfl, e0.bare, Un.kept kp, ⟨_, hns, fun i y v e1 e2 e3 => ?_⟩, fun y c e => ?_, e0.hok.fresh (Nat.le_refl _), fun y c e => ?_, fun q hq => absurd (show q ∈ ([] : List (Addr × Obj)) ++ [] from hq) (by simp), e0.hok.kept kp, rfl⟩
  · have hy : d.scope.names.lookup y = some .cell ∨ d.scope.names.lookup y = some .free := hy
    rcases hy with hy | hy <;> cases noG hy
  · have z : false = true := z
    cases z
  · cases (show ([] : List Str)[i]? = some y from e1)
  · cases (show ([] : List (Str × Addr)).lookup y = some c from e)
  · cases (show ([] : List (Str × Addr)).lookup y = some c from e)
end
theorem lamM_of {Γ : Gm} {P : Program} {w : World} {mg : Str → Option Value} {base : Heap} {k : Nat} {d : LamD} {m : Sm} (hx : Γ.xs = none) (ok : lamOk d.params d.scope = true)
    (hbody : ∀ (A : Around) (outer : List PySem.Env) (s : Shared) (H : Hp) (E : XK) (f c' : Addr), RoomG k (A.deeper (lamEnv0 d s.heap.objs.size f c')) → PE (lamCx0 P w Γ.K mg base A outer s H E d f c') d.body (tE Γ (fun c d _ H => E c d H) m)) :
    LamM Γ P w mg base (k + 1) d (fun xs st => match xs with | [] => m [] st | _ => .stk) := by
  have L := lamF_of ok
  refine ⟨fun A outer s H f c Q E hr e0 hf hc sp => ?_⟩
  obtain ⟨W, st, ms, e, S, rv, p⟩ := sp
  subst e
  cases rv
  obtain ⟨pm, ctv, ho⟩ := lamO_at e0.hok hf
  obtain ⟨⟨oc, vs, t, hoc, hdc, hvc⟩, _, _⟩ := e0.hok c _ hc
  have lim : s.heap.NoLimit := e0.mod.nolimit.keeps
                                                    fun b o e => (e0.bs b o e).1
  refine PySem.W.kla_callFunE hr.room.depth ho rfl L.co L.gen rfl ⟨c, oc, vs, t, rfl, hoc, hdc, hvc⟩ ?_
  have hb : bindArgs (PySem.W.kla_fn "<lambda>" d.qual d.params d.body d.scope [] pm (.ref c) ctv) ⟨[], []⟩ = pure [] := by
    rw [L.par]
    rfl
  rw [hb]
  refine wpAny_pure (wpAny_newFunctionEnv (fun y hy => by rw [L.glo y hy]; simp) (fun y hy => absurd hy (by simp)) (fun h₁ hns hsb => ⟨lim.fresh _ hsb, ?_⟩) L.kind)
  show codeAny _ _ (.expr d.body (lamEnv0 d s.heap.objs.size f c)) _ _
  have kp : ∀ b o, s.heap.get? b = some o → h₁.get? b = some o := fun b o e =>
                                                                               hsb.extBut b o (Nat.ne_of_lt (Heap.lt_size e)) (Heap.get?_push_of_some _ e)
  have J : Inv (lamCx0 P w Γ.K mg base A outer s W.H E d f c) [] [] W.H { s with heap := h₁, toks := s.toks + ([] : List (Str × Value)).length } := lam_start0 L e0 hr.room.hd hns kp
  refine PySem.W.kla_codeExpr (wpAny_mono ((hbody A outer s W.H E f c ⟨hr.room.deeper _, hr.gd⟩).run [] _ _ W.H Q J ⟨W, st, [], rfl, S, ⟨rfl, fun i x e => (by cases e), fun i a e => by rw [hx] at e; cases e⟩, p⟩) (fun v s' hq => ?_) fun e s' hq => hq)
  obtain ⟨w', H', J', rv', q⟩ := hq
  exact ⟨w', H', J'.os, J'.bare, J'.base, J'.hok, rv', q⟩
end Mn
/-! Mn10: from a text's expressions to the machine's terms. -/
namespace Mn
open PySem PySem.Spec
                      PyProof.Rows L2

def isStar : Expr → Bool
  | .Starred _ _ => true
  | _ => false
def isTup : Expr → Bool
  | .Tuple _ _ _ => true
  | _ => false
theorem isTup_of {e : Expr} (h : isTup e = true) : ∃ es k p, e = .Tuple es k p := by
  cases e <;> first | exact ⟨_, _, _, rfl⟩ | cases h
def isSlice : Expr → Bool
  | .Slice _ _ _ _ => true
  | _ => false
def isSet : Expr → Bool
  | .Set _ _ _ => true
  | _ => false
/-- the one for of a comprehension -/
def gen1 : List Comprehension → Option Comprehension
  | [g] => if g.is_async = 0 then some g else none
  | _ => none
theorem gen1_some {gs : List Comprehension} {g : Comprehension} (h : gen1 gs = some g) : gs = [⟨g.target, g.iter, g.ifs, 0⟩] := by
  unfold gen1 at h
  split at h
  · split at h
    · rename_i e
      cases h
      cases g
      simp only at e
      subst e
      rfl
    · cases h
  · cases h
/-- an expression that a test does not look into -/
def plainT : Expr → Bool
  | .UnaryOp .Not _ _ => false
  | .BoolOp _ _ _ => false
  | .IfExp _ _ _ _ => false
  | .Compare _ _ _ _ => false
  | _ => true
def vis (sc : Scope) (x : Str) : Bool := match sc.names.lookup x with
  | some .local => true
  | some .cell => true
  | some .free => true
  | _ => false
def loc (sc : Scope) (x : Str) : Bool := match sc.names.lookup x with
  | some .local => true
  | some .cell => true
  | _ => false
def glo (sc : Scope) (x : Str) : Bool := match sc.names.lookup x with
  | some .globalImplicit => true
  | _ => false
def ixOf : List Str → Str → Option Nat
  | [], _ => none
  | y :: r, x => if y = x then some 0 else (ixOf r x).map (· + 1)
def odd (x : Str) : Bool := x == ("__debug__" : Str) || x == ("__classdict__" : Str) || x == ("__name__" : Str)
def ownOf (N : List Str) (scope : Scope) : List (Str × Nat) := scope.names.filterMap fun p => match p.2 with
  | .local => (ixOf N p.1).map fun i => (p.1, i)
  | .cell => (ixOf N p.1).map fun i => (p.1, i)
  | _ => none
def both {α β γ : Type} (a : Option α) (b : Option β) (f : α → β → γ) : Option γ := match a, b with
  | some x, some y => some (f x y)
  | _, _ => none
theorem both_some {α β γ : Type} {a : Option α} {b : Option β} {f : α → β → γ} {z : γ} (h : both a b f = some z) : ∃ x y, a = some x ∧ b = some y ∧ f x y = z := by
  cases a with
  | none => cases h
  | some x => cases b with
    | none => cases h
    | some y => cases h; exact ⟨x, y, rfl, rfl, rfl⟩
theorem map_some {α β : Type} {a : Option α} {f : α → β} {z : β} (h : a.map f = some z) : ∃ x, a = some x ∧ f x = z := by
  cases a with
  | none => cases h
  | some x => cases h; exact ⟨x, rfl, rfl⟩

/-- an object whose attribute is asked plainly -/
def nbase : Expr → Bool
  | .Call (.Name _ _) [] [] _ => false
  | _ => true
def bmOf (m : Str) (n : Nat) : Option BM :=
  if m = BM.append.name ∧ n = 1 then some .append
  else if m = BM.pop.name ∧ n = 0 then some .pop
  else if m = BM.pop.name ∧ n = 1 then some .popAt
  else none
/-- an expression that raises nothing -/
def safeE : E → Bool
  | .v _ => true
  | .k _ => true
  | .bin _ a b => safeE a && safeE b
  | .neg a => safeE a
  | .ix a b => safeE a && safeE b
  | _ => false
mutual
def safeG : Tg → Bool
  | .v _ => true
  | .tup _ ts => safeGs ts
  | .ix a b => safeE a && safeE b
def safeGs : Tgs → Bool
  | .nil => true
  | .cons t ts => safeG t && safeGs ts
end
/-- the classes that an expression names -/
def trCls (t : Tab) (sc : Scope) : Expr → Option CT
  | .Name x _ => if glo sc x && !odd x then (match t.m.lookup x with
    | some (.cls i) => some (.own i)
    | some (.bty n) => if etys.contains n then some (.ty n) else none
    | _ => none) else none
  | _ => none
def trCl (t : Tab) (sc : Scope) : Expr → Option (List CT)
  | .Tuple es _ _ => if es.length ≤ 64 then mapO (trCls t sc) es else none
  | e => (trCls t sc e).map fun c => [c]
/-- isinstance(e, ..) of the exception that the suite holds -/
def exCall (t : Tab) (x : Str) (es : List Expr) : Bool := match es with
  | [.Name y _, _] => x == ("isinstance" : Str) && t.xn == some y
  | _ => false
def exArg : List Expr → Option Expr
  | [_, c] => some c
  | _ => none
mutual
def trE (t : Tab) (N : List Str) : Nat → Scope → Expr → Option E
  | 0, _, _ => none
  | n + 1, sc, e => match e with
    | .Name x _ => if odd x || t.xn == some x then none else if vis sc x then (ixOf N x).map E.v else if glo sc x then (match t.m.lookup x with
      | some (.fn i _ _) => some (.k (.fn i))
      | some (.cst c) => some (.k c)
      | some (.cls i) => some (.k (.cls i))
      | some (.bty n) => some (.k (.ty n))
      | some (.blt f) => (match f.val with
        | .type n => some (.k (.ty n))
        | _ => none)
      | _ => none) else none
    | .Constant c _ _ => match c with
      | .int i => some (.k (.int i))
      | .bool b => some (.k (.bl b))
      | .none => some (.k .non)
      | .str s => some (.k (.str s))
      | _ => none
    | .BinOp a o b _ => both (trE t N n sc a) (trE t N n sc b) (.bin o)
    | .UnaryOp .USub a _ => (trE t N n sc a).map .neg
    | .UnaryOp .Not a _ => (trE t N n sc a).map .not
    | .BoolOp op vs _ => trV t N n sc op vs
    | .Compare a [op] [b] _ => if behindInMarks op b then none else both (trE t N n sc a) (trE t N n sc b) (.cmp op)
    | .IfExp c a b _ => both (trT t N n sc c) (both (trE t N n sc a) (trE t N n sc b) Prod.mk) fun c p => .ite c p.1 p.2
    | .Tuple es _ _ => (trA t N n sc es).map .tup
    | .List es _ => (trA t N n sc es).map .lst
    | .Subscript a b _ => match b with
      | .Slice l h none _ => both (trE t N n sc a) (both (trO t N n sc l) (trO t N n sc h) Prod.mk) fun a p => .sl a p.1 p.2
      | b => if isSlice b then none else both (trE t N n sc a) (trE t N n sc b) .ix
    | .Dict [] [] _ => some .dct0
    | .Attribute o f _ => (match o with
      | .Name x _ => if t.xn == some x then some (.exf f) else if nbase o then (trE t N n sc o).map fun o' => .fld o' f else none
      | _ => if nbase o then (trE t N n sc o).map fun o' => .fld o' f else none)
    | .Lambda params body scope _ => if t.cm && lamOk params scope then t.lm.map fun q => .lam ⟨q ++ "<lambda>", params, body, scope⟩ else none
    | .Call (.Attribute o m apos) es [] pos => if apos.endLine == pos.line && nbase o && es.length < 30 then both (bmOf m es.length) (both (trE t N n sc o) (trA t N n sc es) Prod.mk) fun b p => .meth b p.1 p.2 else none
    | .Call (.Name x _) es [] _ => if odd x then none else if exCall t x es then (if glo sc x then (match t.m.lookup x with
      | some .isi => ((exArg es).bind (trCl t sc)).map .exis
      | _ => none) else none) else if vis sc x then (if t.cm then both (ixOf N x) (trA t N n sc es) .callv else none) else if glo sc x then (match t.m.lookup x with
      | some (.fn i _ _) => if t.cm = true then (trA t N n sc es).map fun es' => .call i [] es' else none
      | some (.isi) => if es.isEmpty then none else (trA t N n sc es).map .isi
      | some (.blt f) => if es.isEmpty || (f.loud && !t.cm) then none else (trA t N n sc es).map (.blt f)
      | some (.lib f) => if es.isEmpty || (f.loud && !t.cm) then none else (trA t N n sc es).map (.blt f)
      | some (.cls i) => (match t.ck.lookup (x, es.length, []) with
        | some (j, pm) => if t.cm && (i = j && t.vc.contains i) then (trA t N n sc es).map fun es' => .mkx i pm es' .nil else none
        | none => none)
      | _ => none) else none
    | .Call (.Name x _) es (kw :: kws) _ => if odd x || vis sc x || !glo sc x || !t.cm then none else (match kwNames (kw :: kws) with
      | some kn => (match t.kw.lookup (x, es.length, kn) with
        | some (i, pm) => both (trA t N n sc es) (trA t N n sc ((kw :: kws).map (·.value))) (.callk i pm)
        | none => (match t.m.lookup x, t.ck.lookup (x, es.length, kn) with
          | some (.cls i), some (j, pm) => if i = j && t.vc.contains i then both (trA t N n sc es) (trA t N n sc ((kw :: kws).map (·.value))) (.mkx i pm) else none
          | _, _ => none))
      | none => none)
    | .ListComp elt gs scope _ => match gen1 gs with
      | some g => if !t.cm || isSet g.iter || !blkC N sc scope (ownOf N scope) then none else
        both (both (trG t N n (relS scope sc) ((ownOf N scope).map (·.1)) g.target) (trI t N n sc (isTup g.target) g.iter) Prod.mk) (both (trC t N n (relS scope sc) g.ifs) (trE t N n (relS scope sc) elt) Prod.mk)
          fun p q => .lc ((ownOf N scope).map (·.2)) p.1 p.2 q.1 q.2
      | none => none
    | _ => none
def trV (t : Tab) (N : List Str) : Nat → Scope → BoolOp → List Expr → Option E
  | 0, _, _, _ => none
  | n + 1, sc, op, vs => match vs with
    | [a] => trE t N n sc a
    | a :: b :: r => both (trE t N n sc a) (trV t N n sc op (b :: r)) (match op with | .And => .and | .Or => .or)
    | [] => none
def trT (t : Tab) (N : List Str) : Nat → Scope → Expr → Option T
  | 0, _, _ => none
  | n + 1, sc, e => match e with
    | .UnaryOp .Not a _ => (trT t N n sc a).map .not
    | .BoolOp op vs _ => trB t N n sc op vs
    | .Compare a [op] [b] _ => if behindInMarks op b then none else both (trE t N n sc a) (trE t N n sc b) fun a b => .e (.cmp op a b)
    | e => if plainT e then (trE t N n sc e).map .e else none
def trB (t : Tab) (N : List Str) : Nat → Scope → BoolOp → List Expr → Option T
  | 0, _, _, _ => none
  | n + 1, sc, op, vs => match vs with
    | [a] => trT t N n sc a
    | a :: b :: r => both (trT t N n sc a) (trB t N n sc op (b :: r)) (match op with | .And => .and | .Or => .or)
    | [] => none
def trA (t : Tab) (N : List Str) : Nat → Scope → List Expr → Option Es
  | 0, _, _ => none
  | n + 1, sc, es => match es with
    | [] => some .nil
    | e :: r => if isStar e then none else both (trE t N n sc e) (trA t N n sc r) .cons
def trO (t : Tab) (N : List Str) : Nat → Scope → Option Expr → Option Oe
  | 0, _, _ => none
  | n + 1, sc, o => match o with
    | none => some .no
    | some e => (trE t N n sc e).map .so
def trG (t : Tab) (N : List Str) : Nat → Scope → List Str → Expr → Option Tg
  | 0, _, _, _ => none
  | n + 1, sc, as, e => match e with
    | .Name x _ => if as.contains x && loc sc x then (ixOf N x).map .v else none
    | .Tuple es _ _ => if t.cm then (trGs t N n sc as es).map (.tup es.length) else none
    | .Subscript a b _ => if isSlice b then none else both (trE t N n sc a) (trE t N n sc b) .ix
    | _ => none
def trGs (t : Tab) (N : List Str) : Nat → Scope → List Str → List Expr → Option Tgs
  | 0, _, _, _ => none
  | n + 1, sc, as, es => match es with
    | [] => some .nil
    | e :: r => if isStar e then none else both (trG t N n sc as e) ((trGs t N n sc as r).filter safeGs) .cons
def trI (t : Tab) (N : List Str) : Nat → Scope → Bool → Expr → Option Ie
  | 0, _, _, _ => none
  | n + 1, sc, tup, e => match e with
    | .Call (.Name x _) [a] [] _ => if x = ("range" : Str) ∧ vis sc x = false ∧ glo sc x = true ∧ isStar a = false then (match t.m.lookup x with
      | some .range => (trE t N n sc a).map .r1
      | _ => none) else if x = ("enumerate" : Str) ∧ tup = true ∧ vis sc x = false ∧ glo sc x = true ∧ isStar a = false then (match t.m.lookup x with
      | some .range => (trE t N n sc a).map .enm
      | _ => none) else (trE t N n sc e).map .seq
    | .Call (.Name x _) [a, b] [] _ => if x = ("range" : Str) ∧ vis sc x = false ∧ glo sc x = true ∧ isStar a = false ∧ isStar b = false then (match t.m.lookup x with
      | some .range => both (trE t N n sc a) (trE t N n sc b) .r2
      | _ => none) else if x = ("zip" : Str) ∧ tup = true ∧ vis sc x = false ∧ glo sc x = true ∧ isStar a = false ∧ isStar b = false then (match t.m.lookup x with
      | some .range => both (trE t N n sc a) (trE t N n sc b) .zip
      | _ => none) else (trE t N n sc e).map .seq
    | e => (trE t N n sc e).map .seq
def trC (t : Tab) (N : List Str) : Nat → Scope → List Expr → Option T
  | 0, _, _ => none
  | n + 1, sc, es => match es with
    | [] => some .yes
    | [c] => trT t N n sc c
    | _ => none
end

/-! ### what the context must bear -/
structure GOk (Γ : Gm) (mg : Str → Option Value) (x : Str) (g : G) : Prop where
  fn : ∀ i np dms, g = .fn i np dms → mg x = some (.ref (Γ.fa i))
  blt : ∀ f, g = .blt f → mg x = none ∧ bootBuiltins x = some f.val
  lib : ∀ f, g = .lib f → mg x = some f.val
  range : g = .range → mg x = none
  cst : ∀ c, g = .cst c → ∃ v u, mg x = some u ∧ RelV v u ∧ ∀ W, VR Γ W c v
  isi : g = .isi → mg x = none ∧ bootBuiltins x = some (.builtin "isinstance")
  cls : ∀ i, g = .cls i → mg x = some (.ref (Γ.ca i))
  bty : ∀ n, g = .bty n → mg x = none ∧ bootBuiltins x = some (.type n)
/-- the making of an exception of an own class, as a value -/
def MkV (vc : List Nat) (ck : List ((Str × Nat × List Str) × (Nat × List Nat))) (Γ : Gm) (cs : Rt) (k : Nat) (P : Program) (w : World) (mg : Str → Option Value) (base : Heap) : Prop := ∀ (Y : Cx) (Wx : WX) (c n : Nat) (x : Str) (es : List Expr) (ks : List Keyword) (kn : List Str) (pm : List Nat) (ms mk : SmA) (p pos : Pos),
  Y.prog = P → Y.w = w → Y.K = Γ.K → Y.mg = mg → Y.base = base → RoomG k Y.A → Takes Y Wx → c ∈ vc → ck.lookup (x, n, kn) = some (c, pm) → Gl Y x → mg x = some (.ref (Γ.ca c)) → (x == ("__debug__" : Str)) = false →
    PA Y es (tA Γ Wx ms) → PK Y ks (tA Γ Wx mk) → kwNames ks = some kn → (es = [] → ms = sNil) → (∀ env st xs st', ms env st = .ok xs st' → xs.length = n) → (∀ env st xs st', mk env st = .ok xs st' → xs.length = kn.length) → es.any isStar = false →
    PE Y (.Call (.Name x p) es ks pos) (tE Γ Wx (sMkx cs c pm ms mk))
structure XOk (Γ : Gm) (t : Tab) (N : List Str) (cs : Rt) (k : Nat) (sc : Scope) (as : List Str) (Wx : WX) (X : Cx) : Prop where
  hK : Γ.K = X.K
  hN : X.N = N
  nd : N.Nodup
  hsc : X.env.scope = sc
  un : X.A.units + 64 < cLine
  gd : X.A.guards = some []
  isC : IsC Γ
  calm : t.cm = true → X.calm = true
  xn : t.cm = true → t.xn = none
  xs : t.cm = true → Γ.xs = none
  room : t.cm = true → RoomG k X.A
  tk : Takes X Wx
  fn : ∀ x ∈ as, loc sc x = true → X.fn x = true ∨ sc.names.lookup x = some .local
  gl : ∀ x g, t.m.lookup x = some g → GOk Γ X.mg x g
  call : t.cm = true → ∀ i, FnP Γ X.prog X.w X.mg X.base k (Γ.fa i) (cs.call i) ∧ PySem.W.keepIn X.K (.ref (Γ.fa i)) = true
  kw : t.cm = true → ∀ x n kn i pm, t.kw.lookup (x, n, kn) = some (i, pm) → X.mg x = some (.ref (Γ.fa i)) ∧ ∃ fd ps, FnM Γ X.prog X.w X.mg X.base k (Γ.fa i) fd ps (cs.full i) ∧ PySem.W.keepIn X.K (.ref (Γ.fa i)) = true ∧ BindK X.K fd ps n kn pm
  cl : ClsOk Γ cs
  mkv : t.cm = true → MkV t.vc t.ck Γ cs k X.prog X.w X.mg X.base
  lamv : t.cm = true → ∀ d, LamM Γ X.prog X.w X.mg X.base k d (cs.lam d)
  lamk : t.cm = true → ∀ q, t.lm = some q → ∃ c P, LamX.TabB X.base X.mg c P ∧ X.env.code = .ref c ∧ (P, q ++ "<lambda>") ∈ Γ.T ∧ (∀ p ∈ Γ.T, p.1 = P → p.2 = q ++ "<lambda>") ∧ X.env.qual = q
  exf : ∀ nm f p pos, t.xn = some nm → PE X (.Attribute (.Name nm p) f pos) (tE Γ Wx (sExf cs f))
  exi : ∀ nm x c l p p2 pos, t.xn = some nm → odd x = false → glo sc x = true → t.m.lookup x = some .isi → trCl t sc c = some l → PE X (.Call (.Name x p) [.Name nm p2, c] [] pos) (tE Γ Wx (sExis cs l))
end Mn
/-! Mn11: what the machine tells of an expression holds of its run. -/
namespace Mn
open PySem PySem.Spec
                      PyProof.Rows L2

theorem ixOf_at : ∀ {N : List Str} {x : Str} {i : Nat}, ixOf N x = some i → N[i]? = some x
  | y :: r, x, i, h => by
    unfold ixOf at h
    split at h
    · rename_i e
      cases h
      rw [e]; rfl
    · obtain ⟨j, e, rfl⟩ := map_some h
      exact ixOf_at (N := r) e
theorem vis_of {sc : Scope} {x : Str} (h : vis sc x = true) : Vis sc x := by
  unfold vis at h
  unfold Vis
  split at h <;> simp_all
theorem loc_of {sc : Scope} {x : Str} (h : loc sc x = true) : L2.Loc sc x := by
  unfold loc at h
  unfold L2.Loc
  split at h <;> simp_all
theorem glo_of {sc : Scope} {x : Str} (h : glo sc x = true) : sc.names.lookup x = some .globalImplicit := by
  unfold glo at h
  split at h <;> simp_all
theorem odd_of {x : Str} (h : ¬ odd x = true) : (x == ("__debug__" : Str)) = false ∧ (x == ("__classdict__" : Str)) = false ∧ x ≠ "__name__" := by
  unfold odd at h
  simp only [Bool.or_eq_true, not_or, Bool.not_eq_true] at h
  exact ⟨h.1.1, h.1.2, fun e => by rw [e] at h; simp at h⟩
theorem star_cons {e : Expr} {es : List Expr} {env : PySem.Env} (h : isStar e = false) : starEach (e :: es) env = (false, eval e env) :: starEach es env := by
  cases e <;> first | rfl | cases h
theorem star_any : ∀ {es : List Expr} {env : PySem.Env} {pos : Pos}, es.any isStar = false → (backTo pos (starEach es env)).any (·.1) = false
  | [], _, _, _ => rfl
  | e :: es, env, pos, h => by
    rw [List.any_cons, Bool.or_eq_false_iff] at h
    rw [star_cons h.1]
    show (false || (backTo pos (starEach es env)).any (·.1)) = false
    rw [star_any h.2]
    rfl
theorem asg_cons {e : Expr} {es : List Expr} {env : PySem.Env} (h : isStar e = false) : assignEach (e :: es) env = (false, assign e env) :: assignEach es env := by
  cases e <;> first | rfl | cases h
theorem plainT_of {e : Expr} {env : PySem.Env} (h : plainT e = true) : ∀ whole, isTrue e env whole = (do let v ← whole; standAt e.pos; holding [v] (truthy v)) := by
  intro whole
  cases e with
  | UnaryOp op a p => cases op <;> first | rfl | cases h
  | BoolOp _ _ _ => cases h
  | IfExp _ _ _ _ => cases h
  | Compare _ _ _ _ => cases h
  | _ => rfl
theorem plainIx_of {b : Expr} (h : isSlice b = false) : PlainIx b := by
  intro o i
  cases b <;> first | rfl | cases h
theorem set_of {e : Expr} {env : PySem.Env} (h : isSet e = false) : ∀ x, foldedSetIterable e env x = pure x := by
  intro x
  cases e <;> first | rfl | cases h

section
variable {Γ : Gm} {t : Tab} {N : List Str} {cs : Rt} {k : Nat}
theorem bin_nx (o : Operator) (st : Store) (x y : MV) : NoX (mBin o st x y) := by
  intro c fs st' e
  cases o with
  | Add => simp only [mBin, mAdd] at e; (repeat' split at e) <;> cases e
  | Sub => simp only [mBin, mSub] at e; (repeat' split at e) <;> cases e
  | Mult => simp only [mBin, mMul] at e; (repeat' split at e) <;> cases e
  | FloorDiv => simp only [mBin, mDiv] at e; (repeat' split at e) <;> cases e
  | Mod => simp only [mBin, mMod] at e; (repeat' split at e) <;> cases e
  | Pow => simp only [mBin, mPow] at e; (repeat' split at e) <;> cases e
  | _ => cases e
theorem neg_nx (st : Store) (x : MV) : NoX (mNeg st x) := by
  intro c fs st' e
  unfold mNeg at e
  split at e <;> cases e
theorem ix_nx (st : Store) (x y : MV) : NoX (mIx st x y) := by
  intro c fs st' e
  unfold mIx at e
  (repeat' split at e) <;> cases e
theorem sl_nx (st : Store) (x : MV) (i j : Option Int) : NoX (mSl st x i j) := by
  intro c fs st' e
  unfold mSl at e
  (repeat' split at e) <;> cases e
theorem set_nx (st : Store) (a b c : MV) : NoX (mSet st a b c) := by
  intro c fs st' e
  unfold mSet at e
  (repeat' split at e) <;> cases e
theorem blt_nx (f : BF) (st : Store) (xs : List MV) : NoX (mB f st xs) := by
  intro c fs st' e
  cases f <;> simp only [mB] at e <;> (repeat' split at e) <;> cases e
theorem NoX.bind {α β : Type} {r : R α} {f : α → Store → R β} (h : NoX r) (g : ∀ a st, NoX (f a st)) : NoX (r.bind f) := by
  intro c fs st e
  cases r with
  | ok a st1 => exact g a st1 c fs st e
  | exc c1 f1 st1 => exact h c1 f1 st1 rfl
  | stk => cases e
theorem safeE_nx : ∀ {a : E}, safeE a = true → ∀ env st, NoX (ev cs a env st)
  | .v i, _, env, st => fun c fs st' e => by
    have e' : sV i env st = .exc c fs st' := e
    unfold sV at e'
    split at e' <;> cases e'
  | .k x, _, env, st => fun c fs st' e => by cases e
  | .bin o a b, h, env, st => by
    have h' := Bool.and_eq_true_iff.mp h
    exact NoX.bind (safeE_nx h'.1 env st) fun x st1 => NoX.bind (safeE_nx h'.2 env st1) fun y st2 => bin_nx o st2 x y
  | .neg a, h, env, st => NoX.bind (safeE_nx (a := a) h env st) fun x st1 => neg_nx st1 x
  | .ix a b, h, env, st => by
    have h' := Bool.and_eq_true_iff.mp h
    exact NoX.bind (safeE_nx h'.1 env st) fun x st1 => NoX.bind (safeE_nx h'.2 env st1) fun y st2 => ix_nx st2 x y
mutual
theorem safeG_nx : ∀ {m : Tg}, safeG m = true → ∀ v env st, NoX (evG cs m v env st)
  | .v i, _, v, env, st => fun c fs st' e => by cases e
  | .tup n ts, h, v, env, st => fun c fs st' e => by
    have e' : gT n (evGs cs ts) v env st = .exc c fs st' := e
    unfold gT at e'
    split at e'
    · split at e'
      · exact safeGs_nx (m := ts) h _ env st c fs st' e'
      · cases e'
    · cases e'
  | .ix a b, h, v, env, st => by
    have h' := Bool.and_eq_true_iff.mp h
    exact NoX.bind (safeE_nx h'.1 env st) fun x st1 => NoX.bind (safeE_nx h'.2 env st1) fun y st2 => NoX.bind (set_nx st2 x y v) fun _ _ c fs st' e => by cases e
theorem safeGs_nx : ∀ {m : Tgs}, safeGs m = true → ∀ v env st, NoX (evGs cs m v env st)
  | .nil, _, v, env, st => fun c fs st' e => by
    have e' : gN v env st = .exc c fs st' := e
    unfold gN at e'
    split at e' <;> cases e'
  | .cons t ts, h, v, env, st => by
    have h' := Bool.and_eq_true_iff.mp h
    intro c fs st' e
    have e' : gC (evG cs t) (evGs cs ts) v env st = .exc c fs st' := e
    unfold gC at e'
    split at e'
    · exact NoX.bind (safeG_nx h'.1 _ env st) (fun env1 st1 => safeGs_nx h'.2 _ env1 st1) c fs st' e'
    · cases e'
end
/-- a call of a built-in, by its name or by a name that the text imports -/
theorem e_bltG {X : Cx} {Wx : WX} {fv : Value} {mm : MA} {x : Str} {e : Expr} {es : List Expr} {ms : SmA} {p pos : Pos} (hk : (∃ id, fv = .builtin id) ∨ (∃ T, fv = .type T)) (hnx : ∀ st xs, NoX (mm st xs)) (hc : CallR X fv (tAM Γ mm)) (hg : Gl X x) (hm : X.mg x = none ∧ bootBuiltins x = some fv ∨ X.mg x = some fv) (ha : PA X (e :: es) (tA Γ Wx ms)) (hn : x ≠ "__name__") (hdb : (x == ("__debug__" : Str)) = false)
    (he : starEach (e :: es) X.env = (false, eval e X.env) :: starEach es X.env) (hpl : (backTo pos (starEach es X.env)).any (·.1) = false) : PE X (.Call (.Name x p) (e :: es) [] pos) (tE Γ Wx (sA mm ms)) := by
  rcases hk with ⟨id, h⟩ | ⟨T, h⟩
  · subst h
    rcases hm with ⟨h1, h2⟩ | h1
    · exact pe_imp (pe_callB hc hg h1 h2 ha hn hdb he hpl) (tA_imp rfl hnx)
    · refine pe_imp (t := tCB (tAM Γ mm) (tA Γ Wx ms)) ⟨fun pn s σ H Q I q => ?_⟩ (tA_imp rfl hnx)
      refine wpAny_Call_Name_kw (ld_glob I hg h1 ?_ hdb)
      exact PyProof.Rows.callWith_builtin1 (thn (ha.run pos pn s σ H _ I q) fun us s1 ⟨vs, H1, I1, r1, q1⟩ => hc pn s1 σ H1 vs us Q I1 r1 q1) he hpl
  · subst h
    rcases hm with ⟨h1, h2⟩ | h1
    · exact pe_imp (pe_callTy hc hg h1 h2 ha hn hdb he hpl) (tA_imp rfl hnx)
    · refine pe_imp (t := tCB (tAM Γ mm) (tA Γ Wx ms)) ⟨fun pn s σ H Q I q => ?_⟩ (tA_imp rfl hnx)
      refine wpAny_Call_Name_kw (ld_glob I hg h1 ?_ hdb)
      exact PyProof.Rows.callWith_type1 (thn (ha.run pos pn s σ H _ I q) fun us s1 ⟨vs, H1, I1, r1, q1⟩ => hc pn s1 σ H1 vs us Q I1 r1 q1) he hpl
theorem e_blt {X : Cx} {Wx : WX} {f : BF} {x : Str} {e : Expr} {es : List Expr} {ms : SmA} {p pos : Pos} (hc : CallR X f.val (tAM Γ (mB f))) (hg : Gl X x) (hm : X.mg x = none ∧ bootBuiltins x = some f.val ∨ X.mg x = some f.val) (ha : PA X (e :: es) (tA Γ Wx ms)) (hn : x ≠ "__name__") (hdb : (x == ("__debug__" : Str)) = false)
    (he : starEach (e :: es) X.env = (false, eval e X.env) :: starEach es X.env) (hpl : (backTo pos (starEach es X.env)).any (·.1) = false) : PE X (.Call (.Name x p) (e :: es) [] pos) (tE Γ Wx (sA (mB f) ms)) :=
  e_bltG (by cases f <;> first | exact .inl ⟨_, rfl⟩ | exact .inr ⟨_, rfl⟩) (blt_nx f) hc hg hm ha hn hdb he hpl
theorem base_of {o : Expr} {m : Str} {env : PySem.Env} (h : nbase o = true) : attributeBase o m env (eval o env) = eval o env := by
  cases o with
  | Call f es ks p =>
    cases f with
    | Name _ _ =>
      cases es with
      | nil => cases ks with
        | nil => cases h
        | cons _ _ => rfl
      | cons _ _ => rfl
    | _ => rfl
  | _ => rfl
theorem bm_slot (m : BM) : Slot "list" m.name m.id := by cases m <;> first | exact PySem.F.slot_list_append | exact PySem.F.slot_list_pop
theorem bm_ty (m : BM) : typeOf (.builtin m.id) = pure (.type "method_descriptor") := by cases m <;> first | exact PySem.F.type_list_append | exact PySem.F.type_list_pop
theorem few_of {es : List Expr} {env : PySem.Env} {pos : Pos} (h : es.any isStar = false) (hl : es.length < 30) : ((backTo pos (starEach es env)).all (fun x => !x.1) && (backToKw pos (keywordEach [] env)).all (fun x => x.1.isSome)
      && decide (es.length + ([] : List Keyword).length + (if ([] : List Keyword).isEmpty then 0 else 1) < 30)) = true := by
  have h1 : (backTo pos (starEach es env)).all (fun x => !x.1) = true := by
    have := star_any (env := env) (pos := pos) h
    rw [List.all_eq_not_any_not]
    simpa using this
  rw [h1, Bool.true_and, Bool.and_eq_true]
  exact ⟨rfl, by simpa using hl⟩
/-- a method of a list -/
theorem e_meth {X : Cx} {Wx : WX} (m : BM) {o : Expr} {es : List Expr} {mo : Sm} {ms : SmA} {p pos : Pos} (ho : PE X o (tE Γ Wx mo)) (ha : PA X es (tA Γ Wx ms)) (hnil : es = [] → ms = sNil) (hb : nbase o = true) (hs : es.any isStar = false) (hl : es.length < 30)
    (hline : (p.endLine == pos.line) = true) (hK : Γ.K = X.K) : PE X (.Call (.Attribute o m.name p) es [] pos) (tE Γ Wx (sMeth m mo ms)) := by
  have ty : ∀ {W1 : Wd} {st1 : Store} {x : MV} {v : V}, SR Γ W1 st1 → VR Γ W1 x v → isLst st1 x = true → tyV X.K "list" v W1.H := fun {W1 st1 x v} S r h => by
    unfold isLst at h
    split at h
    · split at h
      · rename_i e
        cases r
        obtain ⟨ws, hw, _⟩ := lst_rel S e
        exact .inl ⟨rfl, ws, .inl (.inl hw)⟩
      · cases h
    · cases h
  cases es with
  | nil =>
    rw [hnil rfl]
    refine pe_imp (t := tBM0 X.K "list" (tMM Γ m) (tE Γ Wx mo)) (pe_bm0 PySem.F.plainAttrs_list (bm_slot m) (bm_ty m) (sd_meth m) ho (base_of hb) hline) fun σ H Q ⟨W, st, env, e, S, E, h⟩ => ?_
    subst e
    refine seqE (α := Unit) S E h fun W1 st1 x v l1 S1 E1 r1 p1 => ?_
    split at p1
    · rename_i hq
      exact ⟨ty S1 r1 hq, W1, st1, x, [], rfl, S1, r1, .nil, Post.nx (show Post Γ W1 (VR Γ) (wx Wx σ) (mM m st1 x []) _ from p1) (meth_nx m _ _ _)⟩
    · exact p1.elim
  | cons e es =>
    rw [List.any_cons, Bool.or_eq_false_iff] at hs
    refine pe_imp (t := tBM X.K "list" (tMM Γ m) (tE Γ Wx mo) (tA Γ Wx ms)) (pe_bm PySem.F.plainAttrs_list (bm_slot m) (bm_ty m) (sd_meth m) ho ha (base_of hb) (few_of (by rw [List.any_cons, hs.1, hs.2]; rfl) hl) hline (star_cons hs.1) (star_any hs.2)) fun σ H Q ⟨W, st, env, e, S, E, h⟩ => ?_
    subst e
    refine seqE (α := Unit) S E h fun W1 st1 x v l1 S1 E1 r1 p1 => ?_
    split at p1
    · rename_i hq
      exact ⟨ty S1 r1 hq, seqAA S1 E1 p1 fun W2 st2 xs vs l2 S2 E2 r2 p2 => ⟨W2, st2, x, xs, rfl, S2, r1.mono l2, r2, p2.nx (meth_nx m _ _ _)⟩⟩
    · exact p1.elim
theorem e_callv {X : Cx} {Wx : WX} {sc : Scope} {as : List Str} (K : XOk Γ t N cs k sc as Wx X) (hcm : t.cm = true) {x : Str} {j : Nat} {es : List Expr} {ms : SmA} {p pos : Pos} (hj : N[j]? = some x) (hv : vis sc x = true) (ho : ¬ odd x = true) (ha : PA X es (tA Γ Wx ms)) (hs : es.any isStar = false)
    (hnil : es = [] → ms = sNil) {nil : Bool} (hn : nil = true → es = []) : PE X (.Call (.Name x p) es [] pos) (tE Γ Wx (sCallV cs j nil ms)) := by
  obtain ⟨o1, o2, o3⟩ := odd_of ho
  have hvar : PE X (.Name x p) (tVar j) := pe_var (by rw [K.hN]; exact hj) (by rw [K.hsc]; exact vis_of hv) o1 o2
  refine ⟨fun pn s σ H Q I ⟨W, st, env, e, S, E, h⟩ => ?_⟩
  subst e
  unfold sCallV at h
  split at h
  · rename_i i ei
    obtain ⟨v, hv1, rv⟩ := E.2.1 j _ ei
    cases rv
    obtain ⟨F, kp⟩ := K.call hcm i
    refine wpAny_Call_Name_kw (thn (hvar.run pn s σ W.H (fun v H1 => v = .ref (Γ.fa i) ∧ H1 = W.H) I ⟨_, hv1, rfl, rfl⟩) fun u s1 ⟨v, H1, I1, rv, ev, eH⟩ => ?_)
    subst ev
    subst eH
    obtain rfl : u = Value.ref (Γ.fa i) := rv
    exact call_P K.hK F (K.room hcm) K.tk kp I1 S E ha hnil (fun e r z => by subst z; rw [List.any_cons, Bool.or_eq_false_iff] at hs; exact star_cons hs.1) (fun e r z => by subst z; rw [List.any_cons, Bool.or_eq_false_iff] at hs; exact star_any hs.2) h
  · rename_i d ei
    split at h
    · rename_i en
      have e0 := hn en
      subst e0
      obtain ⟨v, hv1, rv⟩ := E.2.1 j _ ei
      cases rv with
      | @lam _ f c hf hc =>
        have M := K.lamv hcm d
        refine wpAny_Call_Name_kw (thn (hvar.run pn s σ W.H (fun v H1 => v = .ref f ∧ H1 = W.H) I ⟨_, hv1, rfl, rfl⟩) fun u s1 ⟨v, H1, I1, rv, ev, eH⟩ => ?_)
        subst ev
        subst eH
        obtain rfl : u = Value.ref f := rv
        obtain ⟨pm, ctv, ho⟩ := lamO_at I1.hok hf
        refine PySem.W.callWith_F0 ⟨_, _, _, _, ho⟩ ?_
        have e0 : Env0 X.prog X.w Γ.K X.mg X.base X.A X.stack s1 W.H := by rw [K.hK]; exact I1.env0
        refine wpAny_call (codeAny_mono (M.run X.A X.stack s1 W.H f c Q (WE Wx σ) (K.room hcm) e0 hf hc ⟨W, st, [], rfl, S, .nil, h⟩) fun r s' hq => ?_)
        cases r with
        | error e => exact passAt K.tk σ pn W.H s1 e s' I1 hq
        | ok fl =>
          cases fl with
          | ret u => exact I1.after hq
          | next => exact hq
          | brk => exact hq
          | cont => exact hq
    · exact h.elim
  · exact h.elim
end
end Mn
/-! Mn12: the soundness of expressions. -/
namespace Mn
open PySem PySem.Spec
                      PyProof.Rows L2

def lenEs : Es → Nat
  | .nil => 0
  | .cons _ es => lenEs es + 1
mutual
/-- the slots that a target stores -/
def slG : Tg → List Nat
  | .v i => [i]
  | .tup _ ts => slGs ts
  | .ix _ _ => []
def slGs : Tgs → List Nat
  | .nil => []
  | .cons t ts => slG t ++ slGs ts
end
section
variable {Γ : Gm} {t : Tab} {N : List Str} {cs : Rt} {k : Nat}
theorem evs_len : ∀ (es : Es) (env : Env) (st : Store) (xs : List MV) (st' : Store), evs cs es env st = .ok xs st' → xs.length = lenEs es
  | .nil, env, st, xs, st', h => by
    have h' : R.ok [] st = R.ok xs st' := h
    cases h'
    rfl
  | .cons e es, env, st, xs, st', h => by
    have h' : ((ev cs e env st).bind fun x st => (evs cs es env st).bind fun xs st => .ok (x :: xs) st) = .ok xs st' := h
    cases e1 : ev cs e env st with
    | ok x st1 =>
      rw [e1] at h'
      simp only [R.bind] at h'
      cases e2 : evs cs es env st1 with
      | ok ys st2 =>
        rw [e2] at h'
        simp only at h'
        cases h'
        show ys.length + 1 = _
        rw [evs_len es env st1 ys _ e2]
        rfl
      | exc c fs st2 => rw [e2] at h'; cases h'
      | stk => rw [e2] at h'; cases h'
    | exc c fs st1 => rw [e1] at h'; cases h'
    | stk => rw [e1] at h'; cases h'
theorem kwNames_len : ∀ {ks : List Keyword} {ns : List Str}, kwNames ks = some ns → ns.length = ks.length := by
  intro ks
  induction ks with
  | nil => intro ns e; cases e; rfl
  | cons k r ih =>
    intro ns e
    unfold kwNames at e
    split at e
    · rename_i h1 h2
      cases e
      rw [List.length_cons, List.length_cons, ih h2]
    · cases e
theorem relabel_eq (scope : Scope) (env : PySem.Env) : PySem.relabel scope env = relS scope env.scope := rfl
theorem XOk.blk {sc : Scope} {as : List Str} {Wx : WX} {X : Cx} (K : XOk Γ t N cs k sc as Wx X) (hcm : t.cm = true) {scope : Scope} (hb : blkC N sc scope (ownOf N scope) = true) (s : Shared) (H : Hp) (C : Addr) (cl : List (Str × Addr)) (fp : List Addr) :
    XOk Γ t N cs k (relS scope sc) ((ownOf N scope).map (·.1)) (fun _ _ _ _ => False) (X.blk s H scope (compEnvC scope cl C X.env) fp) where
  hK := K.hK
  hN := K.hN
  nd := K.nd
  hsc := by show PySem.relabel scope X.env = _; rw [relabel_eq, K.hsc]
  un := K.un
  gd := K.gd
  isC := K.isC
  calm := K.calm
  xn := K.xn
  xs := K.xs
  cl := K.cl
  mkv := K.mkv
  lamv := K.lamv
  lamk := fun c q h => by
    obtain ⟨a, P, h1, h2, h3, h4, h5⟩ := K.lamk c q h
    exact ⟨a, P, h1, h2, h3, h4, h5⟩
  room := K.room
  tk := takes0
  fn := fun x hx hl => by
    obtain ⟨p, hp, rfl⟩ := List.mem_map.mp hx
    obtain ⟨y, hy, e⟩ := List.mem_filterMap.mp hp
    have u := (blkOk_by hb).uniq y hy
    cases hk : y.2 with
    | «local» =>
      rw [hk] at e u
      obtain ⟨i, _, e⟩ := map_some e
      subst e
      exact .inr (lookup_relS_keep (by intro z; cases z) u)
    | cell =>
      rw [hk] at e u
      obtain ⟨i, _, e⟩ := map_some e
      subst e
      refine .inl ?_
      show (scope.names.lookup y.1 == some .cell) = true
      rw [u]
      rfl
    | free => rw [hk] at e; cases e
    | globalExplicit => rw [hk] at e; cases e
    | globalImplicit => rw [hk] at e; cases e
  gl := K.gl
  call := K.call
  kw := K.kw
  exf := fun nm _ _ _ h => by rw [K.xn hcm] at h; cases h
  exi := fun nm _ _ _ _ _ _ h _ => by rw [K.xn hcm] at h; cases h
/-- the soundness of all readings of n steps -/
structure Snd (Γ : Gm) (t : Tab) (N : List Str) (cs : Rt) (k : Nat) (n : Nat) (sc : Scope) (as : List Str) (Wx : WX) (X : Cx) : Prop where
  pe : ∀ e m, trE t N n sc e = some m → PE X e (tE Γ Wx (ev cs m))
  pv : ∀ op vs m, trV t N n sc op vs = some m → ∀ pos, PE X (.BoolOp op vs pos) (tE Γ Wx (ev cs m))
  pt : ∀ e m, trT t N n sc e = some m → PT X e (tT Γ Wx (evT cs m))
  pb : ∀ op vs m, trB t N n sc op vs = some m → ∀ pos, PW X (.BoolOp op vs pos) (tT Γ Wx (evT cs m))
  pa : ∀ es m, trA t N n sc es = some m → PA X es (tA Γ Wx (evs cs m)) ∧ lenEs m = es.length ∧ es.any isStar = false ∧ (es = [] → m = .nil)
  pk : ∀ (ks : List Keyword) m, trA t N n sc (ks.map (·.value)) = some m → PK X ks (tA Γ Wx (evs cs m))
  po : ∀ o m, trO t N n sc o = some m → PO X o (tO Γ Wx (evO cs m))
  pg : ∀ e m, trG t N n sc as e = some m → PG X e (tG Γ Wx (slG m) (evG cs m)) ∧ ∀ j ∈ slG m, ∃ x, x ∈ as ∧ N[j]? = some x
  pgs : ∀ es m, trGs t N n sc as es = some m → PGs X es (tGs Γ Wx (slGs m) (evGs cs m)) ∧ (∀ j ∈ slGs m, ∃ x, x ∈ as ∧ N[j]? = some x) ∧ (assignEach es X.env).length = es.length ∧ (assignEach es X.env).findIdx? (·.1) = none
  pi : ∀ e m tg, trI t N n sc (isTup tg) e = some m → PI X tg e (tI Γ Wx (evI cs m))
  pc : ∀ es m, trC t N n sc es = some m → PTs X es (tT Γ Wx (evT cs m))
theorem pts_imp {X : Cx} {es : List Expr} {t t' : TT} (h : PTs X es t) (f : ∀ σ H Q, t' σ H Q → t σ H Q) : PTs X es t' := ⟨fun pn s σ H Q I q => h.run pn s σ H Q I (f σ H Q q)⟩
theorem snd_zero {sc : Scope} {as : List Str} {Wx : WX} {X : Cx} : Snd Γ t N cs k 0 sc as Wx X :=
  ⟨(fun _ _ h => nomatch h), (fun _ _ _ h => nomatch h), (fun _ _ h => nomatch h), (fun _ _ _ h => nomatch h), (fun _ _ h => nomatch h), (fun _ _ h => nomatch h), (fun _ _ h => nomatch h), (fun _ _ h => nomatch h), (fun _ _ h => nomatch h), (fun _ _ _ h => nomatch h), (fun _ _ h => nomatch h)⟩
theorem snd_a {n : Nat} {sc : Scope} {as : List Str} {Wx : WX} {X : Cx} (ih : Snd Γ t N cs k n sc as Wx X) : ∀ es m, trA t N (n + 1) sc es = some m → PA X es (tA Γ Wx (evs cs m)) ∧ lenEs m = es.length ∧ es.any isStar = false ∧ (es = [] → m = .nil) := by
  intro es m h
  cases es with
  | nil => cases h; exact ⟨a_nil, rfl, rfl, fun _ => rfl⟩
  | cons e r =>
    simp only [trA] at h
    split at h
    · cases h
    · rename_i hs
      have hs' : isStar e = false := by simpa using hs
      obtain ⟨x, y, h1, h2, rfl⟩ := both_some h
      obtain ⟨p, q, s, _⟩ := ih.pa r y h2
      exact ⟨a_cons (ih.pe e x h1) p (star_cons hs'), congrArg (· + 1) q, by rw [List.any_cons, hs', s]; rfl, fun z => by cases z⟩
theorem snd_k {n : Nat} {sc : Scope} {as : List Str} {Wx : WX} {X : Cx} (ih : Snd Γ t N cs k n sc as Wx X) : ∀ (ks : List Keyword) m, trA t N (n + 1) sc (ks.map (·.value)) = some m → PK X ks (tA Γ Wx (evs cs m)) := by
  intro ks m h
  cases ks with
  | nil => cases h; exact k_nil
  | cons kw r =>
    simp only [List.map_cons, trA] at h
    split at h
    · cases h
    · obtain ⟨x, y, h1, h2, rfl⟩ := both_some h
      exact k_cons (ih.pe kw.value x h1) (ih.pk r y h2)
theorem snd_o {n : Nat} {sc : Scope} {as : List Str} {Wx : WX} {X : Cx} (ih : Snd Γ t N cs k n sc as Wx X) : ∀ o m, trO t N (n + 1) sc o = some m → PO X o (tO Γ Wx (evO cs m)) := by
  intro o m h
  cases o with
  | none => cases h; exact o_none
  | some e =>
    obtain ⟨x, h1, rfl⟩ := map_some (show (trE t N n sc e).map Oe.so = some m from h)
    exact o_some (ih.pe e x h1)
theorem snd_gs {n : Nat} {sc : Scope} {as : List Str} {Wx : WX} {X : Cx} (ih : Snd Γ t N cs k n sc as Wx X) : ∀ es m, trGs t N (n + 1) sc as es = some m →
    PGs X es (tGs Γ Wx (slGs m) (evGs cs m)) ∧ (∀ j ∈ slGs m, ∃ x, x ∈ as ∧ N[j]? = some x) ∧ (assignEach es X.env).length = es.length ∧ (assignEach es X.env).findIdx? (·.1) = none := by
  intro es m h
  cases es with
  | nil => cases h; exact ⟨gs_nil, fun _ z => (nomatch z), rfl, rfl⟩
  | cons e r =>
    simp only [trGs] at h
    split at h
    · cases h
    · rename_i hs
      have hs' : isStar e = false := by simpa using hs
      obtain ⟨x, y, h1, h2, rfl⟩ := both_some h
      obtain ⟨h2, h2s⟩ := Option.filter_eq_some_iff.mp h2
      obtain ⟨p1, p2⟩ := ih.pg e x h1
      obtain ⟨q1, q2, q3, q4⟩ := ih.pgs r y h2
      refine ⟨gs_cons p1 q1 (by rw [asg_cons hs']; rfl) (fun xs env st => safeGs_nx h2s xs env st), fun j hj => (List.mem_append.mp hj).elim (p2 j) (q2 j), by rw [asg_cons hs', List.length_cons, List.length_cons, q3], ?_⟩
      rw [asg_cons hs', List.findIdx?_cons, q4]
      rfl
theorem snd_g {n : Nat} {sc : Scope} {as : List Str} {Wx : WX} {X : Cx} (K : XOk Γ t N cs k sc as Wx X) (ih : Snd Γ t N cs k n sc as Wx X) : ∀ e m, trG t N (n + 1) sc as e = some m →
    PG X e (tG Γ Wx (slG m) (evG cs m)) ∧ ∀ j ∈ slG m, ∃ x, x ∈ as ∧ N[j]? = some x := by
  intro e m h
  cases e with
  | Name x pos =>
    simp only [trG] at h
    split at h
    · rename_i c
      rw [Bool.and_eq_true] at c
      obtain ⟨i, hi, rfl⟩ := map_some h
      have hx : x ∈ as := List.contains_iff_mem.mp c.1
      refine ⟨g_name (by rw [K.hN]; exact K.nd) (by rw [K.hN]; exact ixOf_at hi) (by rw [K.hsc]; exact loc_of c.2) (by rw [K.hsc]; exact K.fn x hx c.2), fun j hj => ?_⟩
      rw [List.mem_singleton.mp hj]
      exact ⟨x, hx, ixOf_at hi⟩
    · cases h
  | Tuple es kk pos =>
    simp only [trG] at h
    split at h
    · rename_i hcm
      obtain ⟨ts, hts, rfl⟩ := map_some h
      obtain ⟨p1, p2, p3, p4⟩ := ih.pgs es ts hts
      exact ⟨g_tup K.hK (K.calm hcm) p1 p3 p4, p2⟩
    · cases h
  | Subscript a b pos =>
    simp only [trG] at h
    split at h
    · cases h
    · rename_i hsl
      obtain ⟨x, y, h1, h2, rfl⟩ := both_some h
      exact ⟨g_sub sd_set set_nx (ih.pe a x h1) (ih.pe b y h2) (fun _ => by cases b <;> first | rfl | exact absurd rfl hsl), fun _ z => nomatch z⟩
  | _ => cases h
theorem snd_c {n : Nat} {sc : Scope} {as : List Str} {Wx : WX} {X : Cx} (ih : Snd Γ t N cs k n sc as Wx X) : ∀ es m, trC t N (n + 1) sc es = some m → PTs X es (tT Γ Wx (evT cs m)) := by
  intro es m h
  cases es with
  | nil =>
    cases h
    exact pts_imp pts_nil fun σ H Q ⟨W, st, env, e, S, E, p⟩ => by
      subst e
      exact p W true Le.refl S rfl
  | cons c r =>
    cases r with
    | nil => exact pts_one (ih.pt c m h)
    | cons _ _ => cases h
theorem snd_b {n : Nat} {sc : Scope} {as : List Str} {Wx : WX} {X : Cx} (ih : Snd Γ t N cs k n sc as Wx X) : ∀ op vs m, trB t N (n + 1) sc op vs = some m → ∀ pos, PW X (.BoolOp op vs pos) (tT Γ Wx (evT cs m)) := by
  intro op vs m h pos
  cases vs with
  | nil => cases h
  | cons a r =>
    cases r with
    | nil =>
      have h1 := ih.pt a m h
      cases op with
      | And => exact w_and1 h1
      | Or => exact w_or1 h1
    | cons b r =>
      obtain ⟨x, y, h1, h2, e⟩ := both_some (show both (trT t N n sc a) (trB t N n sc op (b :: r)) _ = some m from h)
      subst e
      cases op with
      | And => exact w_and (ih.pt a x h1) (ih.pb .And (b :: r) y h2 pos)
      | Or => exact w_or (ih.pt a x h1) (ih.pb .Or (b :: r) y h2 pos)
theorem snd_v {n : Nat} {sc : Scope} {as : List Str} {Wx : WX} {X : Cx} (K : XOk Γ t N cs k sc as Wx X) (ih : Snd Γ t N cs k n sc as Wx X) : ∀ op vs m, trV t N (n + 1) sc op vs = some m → ∀ pos, PE X (.BoolOp op vs pos) (tE Γ Wx (ev cs m)) := by
  intro op vs m h pos
  cases vs with
  | nil => cases h
  | cons a r =>
    cases r with
    | nil => exact pe_one (ih.pe a m h)
    | cons b r =>
      obtain ⟨x, y, h1, h2, e⟩ := both_some (show both (trE t N n sc a) (trV t N n sc op (b :: r)) _ = some m from h)
      subst e
      cases op with
      | And => exact e_and K.hK (ih.pe a x h1) (ih.pv .And (b :: r) y h2 pos)
      | Or => exact e_or K.hK (ih.pe a x h1) (ih.pv .Or (b :: r) y h2 pos)
theorem snd_t {n : Nat} {sc : Scope} {as : List Str} {Wx : WX} {X : Cx} (K : XOk Γ t N cs k sc as Wx X) (ih : Snd Γ t N cs k n sc as Wx X) : ∀ e m, trT t N (n + 1) sc e = some m → PT X e (tT Γ Wx (evT cs m)) := by
  intro e m h
  have plain : plainT e = true → (trE t N n sc e).map T.e = some m → PT X e (tT Γ Wx (evT cs m)) := fun hp h => by
    obtain ⟨x, h1, rfl⟩ := map_some h
    exact t_val K.hK (ih.pe e x h1) (plainT_of hp)
  cases e with
  | UnaryOp op a pos =>
    cases op with
    | Not =>
      obtain ⟨x, h1, rfl⟩ := map_some (show (trT t N n sc a).map T.not = some m from h)
      exact e_notT (ih.pt a x h1)
    | _ => exact plain rfl (by simpa only [trT, plainT, if_true] using h)
  | BoolOp op vs pos => exact (ih.pb op vs m h pos).pt
  | Compare a ops bs pos =>
    cases ops with
    | nil => simp only [trT, plainT] at h; cases h
    | cons op r =>
      cases r with
      | cons _ _ => simp only [trT, plainT] at h; cases h
      | nil =>
        cases bs with
        | nil => simp only [trT, plainT] at h; cases h
        | cons b r =>
          cases r with
          | cons _ _ => simp only [trT, plainT] at h; cases h
          | nil =>
            simp only [trT] at h
            split at h
            · cases h
            · rename_i hm
              obtain ⟨x, y, h1, h2, rfl⟩ := both_some h
              exact t_cmp (sd_cmp K.hK K.un op) (ih.pe a x h1) (ih.pe b y h2) (by simpa using hm)
  | IfExp _ _ _ _ => simp only [trT, plainT] at h; cases h
  | _ => exact plain rfl (by simpa only [trT, plainT, if_true] using h)
theorem snd_i {n : Nat} {sc : Scope} {as : List Str} {Wx : WX} {X : Cx} (K : XOk Γ t N cs k sc as Wx X) (ih : Snd Γ t N cs k n sc as Wx X) : ∀ e m tg, trI t N (n + 1) sc (isTup tg) e = some m → PI X tg e (tI Γ Wx (evI cs m)) := by
  intro e m tg h
  have plain : (trE t N n sc e).map Ie.seq = some m → PI X tg e (tI Γ Wx (evI cs m)) := fun h => by
    obtain ⟨x, h1, rfl⟩ := map_some h
    exact i_seq K.hK (ih.pe e x h1)
  have gl : ∀ {x : Str}, glo sc x = true → Gl X x := fun h => by show X.env.scope.names.lookup _ = _; rw [K.hsc]; exact glo_of h
  unfold trI at h
  split at h
  · rename_i x p a pos
    split at h
    · rename_i c
      split at h
      · rename_i g
        obtain ⟨y, h1, rfl⟩ := map_some h
        obtain ⟨c1, c2, c3, c4⟩ := c
        subst c1
        exact i_rng1 (gl c3) ((K.gl _ _ g).range rfl) (a_cons (ih.pe a y h1) a_nil (star_cons c4)) (star_cons c4)
      · cases h
    · split at h
      · rename_i c
        split at h
        · rename_i g
          obtain ⟨y, h1, rfl⟩ := map_some h
          obtain ⟨c1, c0, c2, c3, c4⟩ := c
          subst c1
          obtain ⟨es, kk, tp, rfl⟩ := isTup_of c0
          exact i_enum K.hK (gl c3) ((K.gl _ _ g).range rfl) (a_cons (ih.pe a y h1) a_nil (star_cons c4)) (star_cons c4)
        · cases h
      · exact plain h
  · rename_i x p a b pos
    split at h
    · rename_i c
      split at h
      · rename_i g
        obtain ⟨y, z, h1, h2, rfl⟩ := both_some h
        obtain ⟨c1, c2, c3, c4, c5⟩ := c
        subst c1
        exact i_rng2 (gl c3) ((K.gl _ _ g).range rfl) (a_cons (ih.pe a y h1) (a_cons (ih.pe b z h2) a_nil (star_cons c5)) (star_cons c4)) (by rw [star_cons c4, star_cons c5]; rfl) (star_cons c5)
      · cases h
    · split at h
      · rename_i c
        split at h
        · rename_i g
          obtain ⟨y, z, h1, h2, rfl⟩ := both_some h
          obtain ⟨c1, c0, c2, c3, c4, c5⟩ := c
          subst c1
          obtain ⟨es, kk, tp, rfl⟩ := isTup_of c0
          exact i_zip K.hK (gl c3) ((K.gl _ _ g).range rfl) (a_cons (ih.pe a y h1) (a_cons (ih.pe b z h2) a_nil (star_cons c5)) (star_cons c4)) (star_cons c4) (star_any (by rw [List.any_cons, c5]; rfl))
        · cases h
      · exact plain h
  · exact plain h
theorem snd_e {n : Nat} {sc : Scope} {as : List Str} {Wx : WX} {X : Cx} (K : XOk Γ t N cs k sc as Wx X) (ih : ∀ sc as Wx X, XOk Γ t N cs k sc as Wx X → Snd Γ t N cs k n sc as Wx X) : ∀ e m, trE t N (n + 1) sc e = some m → PE X e (tE Γ Wx (ev cs m)) := by
  have ih0 := ih sc as Wx X K
  intro e m h
  cases e with
  | Name x pos =>
    simp only [trE] at h
    split at h
    · cases h
    · rename_i ho
      obtain ⟨o1, o2, o3⟩ := odd_of (fun z => ho (by rw [z]; rfl))
      split at h
      · rename_i hv
        obtain ⟨i, hi, rfl⟩ := map_some h
        exact e_var (by rw [K.hN]; exact ixOf_at hi) (by rw [K.hsc]; exact vis_of hv) o1 o2
      · split at h
        · rename_i hg
          have hg' : Gl X x := by show X.env.scope.names.lookup _ = _; rw [K.hsc]; exact glo_of hg
          split at h
          · rename_i i np dms g
            cases h
            exact e_const (pe_glob (v := .ref (Γ.fa i)) hg' ((K.gl _ _ g).fn i np dms rfl) rfl o1) fun W => .fn i
          · rename_i c g
            cases h
            obtain ⟨v, u, h1, h2, h3⟩ := (K.gl _ _ g).cst c rfl
            exact e_const (pe_glob hg' h1 h2 o1) h3
          · rename_i i g
            cases h
            exact e_const (pe_glob (v := .ref (Γ.ca i)) hg' ((K.gl _ _ g).cls i rfl) rfl o1) fun W => .cls i
          · rename_i n' g
            cases h
            obtain ⟨h1, h2⟩ := (K.gl _ _ g).bty n' rfl
            exact e_const (pe_bltn (v := .ty n') hg' h1 h2 rfl o3 o1) fun W => .ty n'
          · rename_i f g
            obtain ⟨h1, h2⟩ := (K.gl _ _ g).blt f rfl
            split at h
            · rename_i n' hn
              cases h
              rw [hn] at h2
              exact e_const (pe_bltn (v := .ty n') hg' h1 h2 rfl o3 o1) fun W => .ty n'
            · cases h
          · cases h
        · cases h
  | Constant c j pos =>
    cases c with
    | int i => cases h; exact e_const pe_int fun W => .int i
    | bool b => cases h; exact e_const pe_bl fun W => .bl b
    | none => cases h; exact e_const pe_non fun W => .non
    | str s => cases h; exact e_const pe_str fun W => .str s
    | _ => cases h
  | BinOp a o b pos =>
    obtain ⟨x, y, h1, h2, rfl⟩ := both_some (show both (trE t N n sc a) (trE t N n sc b) (E.bin o) = some m from h)
    exact e_op (sd_bin K.hK o) (bin_nx o) (ih0.pe a x h1) (ih0.pe b y h2)
  | UnaryOp op a pos =>
    cases op with
    | USub =>
      obtain ⟨x, h1, rfl⟩ := map_some (show (trE t N n sc a).map E.neg = some m from h)
      exact e_un sd_neg neg_nx (ih0.pe a x h1)
    | Not =>
      obtain ⟨x, h1, rfl⟩ := map_some (show (trE t N n sc a).map E.not = some m from h)
      exact e_not K.hK (ih0.pe a x h1)
    | _ => cases h
  | BoolOp op vs pos => exact ih0.pv op vs m h pos
  | Compare a ops bs pos =>
    cases ops with
    | nil => cases h
    | cons op r =>
      cases r with
      | cons _ _ => cases h
      | nil =>
        cases bs with
        | nil => cases h
        | cons b r =>
          cases r with
          | cons _ _ => cases h
          | nil =>
            simp only [trE] at h
            split at h
            · cases h
            · rename_i hm
              obtain ⟨x, y, h1, h2, rfl⟩ := both_some h
              exact e_cmp (sd_cmp K.hK K.un op) (fun _ _ _ => cmp_nx) (ih0.pe a x h1) (ih0.pe b y h2) (by simpa using hm)
  | IfExp c a b pos =>
    obtain ⟨x, p, h1, h2, rfl⟩ := both_some (show both (trT t N n sc c) (both (trE t N n sc a) (trE t N n sc b) Prod.mk) (fun c p => E.ite c p.1 p.2) = some m from h)
    obtain ⟨y, z, h3, h4, rfl⟩ := both_some h2
    exact e_ite (ih0.pt c x h1) (ih0.pe a y h3) (ih0.pe b z h4)
  | Tuple es kk pos =>
    obtain ⟨x, h1, rfl⟩ := map_some (show (trA t N n sc es).map E.tup = some m from h)
    exact e_tup (ih0.pa es x h1).1
  | List es pos =>
    obtain ⟨x, h1, rfl⟩ := map_some (show (trA t N n sc es).map E.lst = some m from h)
    exact e_lst (ih0.pa es x h1).1
  | Subscript a b pos =>
    simp only [trE] at h
    split at h
    · rename_i l hi p2
      obtain ⟨x, p, h1, h2, rfl⟩ := both_some h
      obtain ⟨y, z, h3, h4, rfl⟩ := both_some h2
      exact e_sl (sd_sl K.hK) sl_nx (ih0.pe a x h1) (ih0.po l y h3) (ih0.po hi z h4)
    · split at h
      · cases h
      · rename_i hsl
        obtain ⟨x, y, h1, h2, rfl⟩ := both_some h
        exact e_ix (sd_ix K.hK) ix_nx (ih0.pe a x h1) (ih0.pe b y h2) (plainIx_of (by simpa using hsl))
  | Dict keys vals pos =>
    cases keys with
    | cons _ _ => cases h
    | nil =>
      cases vals with
      | cons _ _ => cases h
      | nil =>
        cases h
        refine pe_imp pe_dnewK fun σ H Q ⟨W, st, env, e, S, E, h⟩ p hp => ?_
        subst e
        exact h _ _ (le_put hp) (S.put hp (.dct rfl .nil)) (vr_new S)
  | Attribute o f pos =>
    have gen : ∀ {o : Expr}, (if nbase o = true then (trE t N n sc o).map fun o' => E.fld o' f else none) = some m → PE X (.Attribute o f pos) (tE Γ Wx (ev cs m)) := fun {o} h => by
      split at h
      · rename_i hb
        obtain ⟨o', h1, rfl⟩ := map_some h
        exact e_fld K.hK K.cl (ih0.pe o o' h1) (base_of hb)
      · cases h
    simp only [trE] at h
    split at h
    · rename_i x p
      split at h
      · rename_i hx
        cases h
        have hx' : t.xn = some x := by simpa using hx
        exact K.exf x f p pos hx'
      · exact gen h
    · exact gen h
  | Lambda params body scope pos =>
    simp only [trE] at h
    split at h
    · rename_i c
      rw [Bool.and_eq_true] at c
      obtain ⟨q, hq, rfl⟩ := map_some h
      obtain ⟨a, P, h1, h2, h3, h4, h5⟩ := K.lamk c.1 q hq
      exact e_lam h1 h2 h3 h4 h5 c.2
    · cases h
  | Call f es kws pos =>
    cases kws with
    | cons kw kws =>
      cases f with
      | Name x p =>
        simp only [trE] at h
        split at h
        · cases h
        · rename_i c
          simp only [Bool.or_eq_true, not_or] at c
          obtain ⟨⟨⟨c1, c2⟩, c3⟩, c4⟩ := c
          have hcm : t.cm = true := by simpa using c4
          have hg : glo sc x = true := by simpa using c3
          obtain ⟨o1, o2, o3⟩ := odd_of c1
          have hg' : Gl X x := by show X.env.scope.names.lookup _ = _; rw [K.hsc]; exact glo_of hg
          split at h
          · rename_i kn hkn
            split at h
            · rename_i i pm hl
              obtain ⟨ea, ek, h1, h2, rfl⟩ := both_some h
              obtain ⟨p1, p2, p3, p4⟩ := ih0.pa es ea h1
              have q1 := ih0.pk (kw :: kws) ek h2
              have q2 := (ih0.pa _ ek h2).2.1
              obtain ⟨hm, fd, ps, F, kp, hb⟩ := K.kw hcm x _ kn i pm hl
              exact e_callk K.hK F (K.room hcm) K.tk hg' hm kp hb p1 q1 hkn (fun z => by rw [p4 z]; rfl) (fun env st xs st' e => by rw [evs_len ea env st xs st' e, p2]) (fun env st xs st' e => by rw [evs_len ek env st xs st' e, q2, List.length_map, kwNames_len hkn]) o1
                (fun e r z => by subst z; rw [List.any_cons, Bool.or_eq_false_iff] at p3; exact star_cons p3.1) (star_any p3)
            · split at h
              · rename_i i j pm g hl
                split at h
                · rename_i cc
                  rw [Bool.and_eq_true] at cc
                  obtain ⟨c5, c6⟩ := cc
                  obtain rfl : i = j := by simpa using c5
                  obtain ⟨ea, ek, h1, h2, rfl⟩ := both_some h
                  obtain ⟨p1, p2, p3, p4⟩ := ih0.pa es ea h1
                  have q1 := ih0.pk (kw :: kws) ek h2
                  have q2 := (ih0.pa _ ek h2).2.1
                  exact K.mkv hcm X Wx i es.length x es (kw :: kws) kn pm _ _ p pos rfl rfl K.hK.symm rfl rfl (K.room hcm) K.tk (by simpa using c6) hl hg' ((K.gl _ _ g).cls i rfl) o1 p1 q1 hkn (fun z => by rw [p4 z]; rfl) (fun env st xs st' e => by rw [evs_len ea env st xs st' e, p2])
                    (fun env st xs st' e => by rw [evs_len ek env st xs st' e, q2, List.length_map, kwNames_len hkn]) p3
                · cases h
              · cases h
          · cases h
      | _ => cases h
    | nil =>
      cases f with
      | Attribute o mn apos =>
        simp only [trE] at h
        split at h
        · rename_i c
          rw [Bool.and_eq_true, Bool.and_eq_true] at c
          obtain ⟨⟨c1, c2⟩, c3⟩ := c
          obtain ⟨b, p, h1, h2, rfl⟩ := both_some h
          obtain ⟨mo, ms, h3, h4, rfl⟩ := both_some h2
          obtain ⟨p1, p2, p3, p4⟩ := ih0.pa es ms h4
          have hb : mn = b.name := by
            unfold bmOf at h1
            split at h1
            · rename_i q; cases h1; exact q.1
            · split at h1
              · rename_i q; cases h1; exact q.1
              · split at h1
                · rename_i q; cases h1; exact q.1
                · cases h1
          subst hb
          exact e_meth b (ih0.pe o mo h3) p1 (fun z => by rw [p4 z]; rfl) c2 p3 (by simpa using c3) c1 K.hK
        · cases h
      | Name x p =>
        simp only [trE] at h
        split at h
        · cases h
        · rename_i ho
          obtain ⟨o1, o2, o3⟩ := odd_of ho
          split at h
          · rename_i hex
            split at h
            · rename_i hg
              split at h
              · rename_i g
                obtain ⟨l, h1, rfl⟩ := map_some h
                unfold exCall at hex
                split at hex
                · rename_i y py c
                  rw [Bool.and_eq_true] at hex
                  exact K.exi y x c l p py pos (by simpa using hex.2) (by simpa using ho) hg g h1
                · cases hex
              · cases h
            · cases h
          · split at h
            · rename_i hv
              split at h
              · rename_i hcm
                obtain ⟨j, ea, h1, h2, rfl⟩ := both_some h
                obtain ⟨p1, p2, p3, p4⟩ := ih0.pa es ea h2
                exact e_callv K hcm (ixOf_at h1) hv ho p1 p3 (fun z => by rw [p4 z]; rfl) (fun z => by
                  cases ea with
                  | nil => exact List.length_eq_zero_iff.mp p2.symm
                  | cons _ _ => cases z)
              · cases h
            · split at h
              · rename_i hg
                have hg' : Gl X x := by show X.env.scope.names.lookup _ = _; rw [K.hsc]; exact glo_of hg
                split at h
                · rename_i i np dms g
                  split at h
                  · rename_i c
                    obtain ⟨ea, h1, rfl⟩ := map_some h
                    obtain ⟨p1, p2, p3, p4⟩ := ih0.pa es ea h1
                    obtain ⟨F, kp⟩ := K.call c i
                    exact e_callP K.hK F (K.room c) K.tk hg' ((K.gl _ _ g).fn i np dms rfl) kp p1 (fun z => by rw [p4 z]; rfl) o1 (fun e r z => by subst z; rw [List.any_cons, Bool.or_eq_false_iff] at p3; exact star_cons p3.1) (fun e r z => by subst z; rw [List.any_cons, Bool.or_eq_false_iff] at p3; exact star_any p3.2)
                  · cases h
                · rename_i g
                  split at h
                  · cases h
                  · rename_i hne
                    obtain ⟨ea, h1, rfl⟩ := map_some h
                    obtain ⟨p1, p2, p3, p4⟩ := ih0.pa es ea h1
                    cases es with
                    | nil => exact absurd rfl hne
                    | cons e0 es0 =>
                      rw [List.any_cons, Bool.or_eq_false_iff] at p3
                      exact e_bltG (.inl ⟨_, rfl⟩) isx_nx (sd_isx K.hK K.isC K.cl) hg' (.inl ((K.gl _ _ g).isi rfl)) p1 o3 o1 (star_cons p3.1) (star_any p3.2)
                · rename_i f g
                  split at h
                  · cases h
                  · rename_i hne
                    have hne' : es.isEmpty = false ∧ (f.loud = true → t.cm = true) := by
                      rw [Bool.or_eq_true, not_or] at hne
                      refine ⟨by simpa using hne.1, fun z => ?_⟩
                      have := hne.2
                      rw [z] at this
                      simpa using this
                    obtain ⟨ea, h1, rfl⟩ := map_some h
                    obtain ⟨p1, p2, p3, p4⟩ := ih0.pa es ea h1
                    cases es with
                    | nil => cases hne'.1
                    | cons e0 es0 =>
                      rw [List.any_cons, Bool.or_eq_false_iff] at p3
                      exact e_blt (sd_blt K.hK K.gd K.un f fun z => K.calm (hne'.2 z)) hg' (.inl ((K.gl _ _ g).blt f rfl)) p1 o3 o1 (star_cons p3.1) (star_any p3.2)
                · rename_i f g
                  split at h
                  · cases h
                  · rename_i hne
                    have hne' : es.isEmpty = false ∧ (f.loud = true → t.cm = true) := by
                      rw [Bool.or_eq_true, not_or] at hne
                      refine ⟨by simpa using hne.1, fun z => ?_⟩
                      have := hne.2
                      rw [z] at this
                      simpa using this
                    obtain ⟨ea, h1, rfl⟩ := map_some h
                    obtain ⟨p1, p2, p3, p4⟩ := ih0.pa es ea h1
                    cases es with
                    | nil => cases hne'.1
                    | cons e0 es0 =>
                      rw [List.any_cons, Bool.or_eq_false_iff] at p3
                      exact e_blt (sd_blt K.hK K.gd K.un f fun z => K.calm (hne'.2 z)) hg' (.inr ((K.gl _ _ g).lib f rfl)) p1 o3 o1 (star_cons p3.1) (star_any p3.2)
                · rename_i i g
                  split at h
                  · rename_i j pm hl
                    split at h
                    rotate_left
                    · cases h
                    rename_i c
                    rw [Bool.and_eq_true, Bool.and_eq_true] at c
                    obtain ⟨c1, c2, c3⟩ := c
                    obtain rfl : i = j := by simpa using c2
                    obtain ⟨ea, h1, rfl⟩ := map_some h
                    obtain ⟨p1, p2, p3, p4⟩ := ih0.pa es ea h1
                    exact K.mkv c1 X Wx i es.length x es [] [] _ _ _ p pos rfl rfl K.hK.symm rfl rfl (K.room c1) K.tk (by simpa using c3) hl hg' ((K.gl _ _ g).cls i rfl) o1 p1 k_nil rfl (fun z => by rw [p4 z]; rfl) (fun env st xs st' e => by rw [evs_len ea env st xs st' e, p2])
                      (fun env st xs st' e => by cases e; rfl) p3
                  · cases h
                · cases h
              · cases h
      | _ => cases h
  | ListComp elt gs scope pos =>
    simp only [trE] at h
    split at h
    · rename_i g hg
      rw [gen1_some hg]
      split at h
      · cases h
      · rename_i hc'
        have hc0 : t.cm = true ∧ isSet g.iter = false ∧ blkC N sc scope (ownOf N scope) = true := by
          rw [Bool.or_eq_true, Bool.or_eq_true, not_or, not_or] at hc'
          refine ⟨by simpa using hc'.1.1, by simpa using hc'.1.2, by simpa using hc'.2⟩
        obtain ⟨hcm, hc1⟩ := hc0
        obtain ⟨p, q, h1, h2, rfl⟩ := both_some h
        obtain ⟨mg, mi, h3, h4, rfl⟩ := both_some h1
        obtain ⟨mc, me, h5, h6, rfl⟩ := both_some h2
        have hok := blkOk_by hc1.2
        refine e_lc (K.xs hcm) (T := slG mg) (K.calm hcm) (by rw [K.hN]; exact K.nd) (ih0.pi _ mi _ h4) (by rw [K.hN]; show BlkOk N X.env.scope _ _; rw [K.hsc]; exact hok) (fun j hj => ?_)
          (fun s H C cl fp => ((ih _ _ _ _ (K.blk hcm hc1.2 s H C cl fp)).pg _ mg h3).1)
          (fun s H C cl fp => (ih _ _ _ _ (K.blk hcm hc1.2 s H C cl fp)).pc _ mc h5)
          (fun s H C cl fp => (ih _ _ _ _ (K.blk hcm hc1.2 s H C cl fp)).pe elt me h6) (set_of hc1.1)
        obtain ⟨x, hx, hj'⟩ := ((ih _ _ _ _ (K.blk hcm hc1.2 {} (fun _ => none) 0 [] [])).pg _ mg h3).2 j hj
        obtain ⟨⟨x', i⟩, hp, e⟩ := List.mem_map.mp hx
        have e' : x' = x := e
        subst e'
        have := hok.ix _ hp
        exact List.mem_map.mpr ⟨_, hp, nodup_ix K.nd this hj'⟩
    · cases h
  | _ => cases h
/-- THE RULE of expressions: every reading is sound -/
theorem snd_all : ∀ (n : Nat) (sc : Scope) (as : List Str) (Wx : WX) (X : Cx), XOk Γ t N cs k sc as Wx X → Snd Γ t N cs k n sc as Wx X
  | 0, _, _, _, _, _ => snd_zero
  | n + 1, sc, as, Wx, X, K => ⟨snd_e K (snd_all n), snd_v K (snd_all n sc as Wx X K), snd_t K (snd_all n sc as Wx X K), snd_b (snd_all n sc as Wx X K), snd_a (snd_all n sc as Wx X K), snd_k (snd_all n sc as Wx X K), snd_o (snd_all n sc as Wx X K), snd_g K (snd_all n sc as Wx X K),
    snd_gs (snd_all n sc as Wx X K), snd_i K (snd_all n sc as Wx X K), snd_c (snd_all n sc as Wx X K)⟩
end
end Mn
/-! Mn13: a try with any clauses, each with or without a name. -/
namespace Mn
open PySem PySem.Spec
                      PyProof.Rows L2

/-- a clause as the rule sees it: its class, the slot of its name, what its suite asks -/
structure Cls1 where
  c : Value
  oi : Option Nat
  ts : Addr → Value → Option Addr → TS
/-- the ends behind a suite that unbinds its name -/
def offD (oi : Option Nat) (D : Ends) : Ends := match oi with
  | none => D
  | some i => ⟨fun τ G => D.nx (τ.set i none) G, D.rt, fun τ G => D.bk (τ.set i none) G, fun τ G => D.ct (τ.set i none) G⟩
def onS (oi : Option Nat) (σ : L2.St) (a : Addr) : L2.St := match oi with
  | none => σ
  | some i => σ.set i (some (.ref a))
def wTry (K : PySem.W.Frag) (Wo : WX) (D : Ends) : List Cls1 → WX
  | [] => Wo
  | q :: r => fun cls d σ H => ∃ b, PySem.W.exmOne K cls q.c = some b ∧ (b = true → ∀ a, H a = none → q.ts a cls d (offD q.oi D) (onS q.oi σ a) H) ∧ (b = false → wTry K Wo D r cls d σ H)
def SuiteOk (X : Cx) (b : List Stmt) (ts : Addr → Value → Option Addr → TS) : Prop :=
  ∀ (a : Addr) (oe : Obj) (cls : Value) (d : Option Addr) (pn : List (Addr × Obj)), Zc cls d oe → (∃ vs, oe.data = .fields vs) → PSs (X.suite a ((a, oe) :: pn)) b (ts a cls d)
inductive HdX (X : Cx) : List ExceptHandler → List Cls1 → Prop
  | nil : HdX X [] []
  | bare {x : Str} {q : Cls1} {b : Stmt} {bs : List Stmt} {np p : Pos} {hs : List ExceptHandler} {l : List Cls1} : Names X x q.c → q.oi = none → SuiteOk X (b :: bs) q.ts → HdX X hs l →
      HdX X (.ExceptHandler (some (.Name x np)) none (b :: bs) p :: hs) (q :: l)
  | named {x n : Str} {i : Nat} {q : Cls1} {b : Stmt} {bs : List Stmt} {np p : Pos} {hs : List ExceptHandler} {l : List Cls1} : Names X x q.c → q.oi = some i → X.N[i]? = some n → X.env.kindOf n = some .local → SuiteOk X (b :: bs) q.ts → HdX X hs l →
      HdX X (.ExceptHandler (some (.Name x np)) (some n) (b :: bs) p :: hs) (q :: l)
section
variable {X : Cx} {pn : List (Addr × Obj)} {σ : L2.St} {H : Hp} {D : Ends} {a : Addr} {cls : Value} {d : Option Addr} {B : Heap} {sI s : Shared}
/-- where a caught exception stands: the run's facts behind the landing -/
structure Caught (X : Cx) (pn : List (Addr × Obj)) (σ : L2.St) (H : Hp) (a : Addr) (cls : Value) (d : Option Addr) (B : Heap) (sI s : Shared) : Prop where
  ok : X.Ok
  J : Inv X pn σ H sI
  nb : ∀ b o, sI.heap.get? b = some o → b ∉ frs X.stack → B.get? b = some o
  up : sI.heap.UpToSlots s.heap
  fly : HandSPX.FlyingZ B (X.env :: X.outer) a (Zc cls d) s.heap
  na : H a = none
  os : s.os = sI.os
  ag : AllBare s.gens
  hs : X.stack = X.env :: X.outer
  hf : X.env.frame = some X.env.locals
theorem Caught.later (C : Caught X pn σ H a cls d B sI s) {h' : Heap} (f : HandSPX.FlyingZ B (X.env :: X.outer) a (Zc cls d) h') (u : s.heap.UpToSlots h') : Caught X pn σ H a cls d B sI { s with heap := h' } :=
  ⟨C.ok, C.J, C.nb, C.up.trans u, f, C.na, C.os, C.ag, C.hs, C.hf⟩
theorem Caught.out (C : Caught X pn σ H a cls d B sI s) {o : Obj} {vs : Array Value} (e : s.heap.get? a = some o) (dd : o.data = .fields vs) : a ∉ frs (X.env :: X.outer) := fun hm => by
  obtain ⟨_, o', e', n'⟩ := C.fly.2.2.1.mem hm
  rw [e] at e'
  cases e'
  exact n' _ dd
/-- the run within the suite -/
theorem Caught.inv (C : Caught X pn σ H a cls d B sI s) : ∃ oe vs, oe.data = .fields vs ∧ Zc cls d oe ∧ Inv X pn σ H s ∧ Inv (X.suite a ((a, oe) :: (X.pn ++ pn))) [] σ H s := by
  obtain ⟨oe, vs, he, hz, hd⟩ := C.fly.there
  have J := C.J.landed C.nb C.fly.1 C.up C.os C.ag
  have nf := C.out he hd
  have n1 : a ≠ X.env.locals := fun z => nf (List.mem_filterMap.mpr ⟨X.env, List.mem_cons_self, by rw [C.hf, z]⟩)
  have n2 : a ∉ X.fs := fun hm => by
    obtain ⟨e, h1, h2⟩ := List.mem_filterMap.mp hm
    exact nf (List.mem_filterMap.mpr ⟨e, List.mem_cons_of_mem _ h1, h2⟩)
  exact ⟨oe, vs, hd, hz, J, J.suite he hd C.na n1 n2⟩
/-- no clause takes it: it goes on -/
theorem Caught.pass {Wo : WX} {Q : Flow → Shared → Prop} (C : Caught X pn σ H a cls d B sI s) (tk : Takes X Wo) (w : Wo cls d σ H) : wpAny (model X.prog X.w) X.A (handleBy (.ref a) X.env []) Q X.xe s := by
  have f := C.fly
  obtain ⟨_, _, _, oe, vs, T, oT, us, he, hz, hd, h1, _⟩ := id f
  have go : wpAny (model X.prog X.w) X.A (setFlight (.ref a) X.env.frame) (fun _ s4 => wpAny (model X.prog X.w) X.A (throw (.ref a) : Sem Flow) Q X.xe s4) X.xe s := by
    rw [C.hf]
    refine HandSPX.setFlight_upZ f fun h4 hh up4 => wpAny_throw (tk _ _ ⟨a, B, sI, pn, σ, H, cls, d, rfl, C.J, C.nb, C.up.trans up4, .inr (.inr ?_), C.na, C.os, C.ag, w⟩)
    rw [C.hs]
    exact hh
  refine wpAny_handleBy_nil ?_
  unfold PySem.passOn
  refine wpAny_bind
                    (wpAny_field he hd h1 ?_)
  rw [if_neg (by simp)]
  first
    | exact wpAny_bind (wpAny_pure (wpAny_bind go))
    | exact wpAny_bind go
/-- the clauses, one after another -/
theorem Caught.run {Wo : WX} (hN : X.N.Nodup) (tk : Takes X Wo) : ∀ {hs : List ExceptHandler} {l : List Cls1} {s : Shared}, HdX X hs l → Caught X pn σ H a cls d B sI s → wTry X.K Wo D l cls d σ H →
    wpAny (model X.prog X.w) X.A (handleBy (.ref a) X.env hs) (SP X pn D) X.xe s := by
  intro hs l s hk
  induction hk generalizing s with
  | nil => exact fun C w => C.pass tk w
  | @bare x q b bs np p hs l nm hoi su r ih =>
    intro C ⟨k, e1, yes, no⟩
    obtain ⟨oe, vs, hd, hz, J, S⟩ := C.inv
    obtain ⟨_, _, he, _⟩ := C.fly.there
    have LT : PySem.W.Looks (model X.prog X.w) s.heap (typeOf (.ref a)) cls := by
      obtain ⟨oe', _, he', hz', _⟩ := C.fly.there
      exact fun A Q E s' kk qq => wpAny_typeOf_ref (kk _ _ he') (by rw [hz'.1]; exact qq)
    have LM := PySem.W.exm_one (M := model X.prog X.w) J.kIn LT e1
    refine wpAny_handleBy_cons (codeAny_handlers_test ?_) (by intro z; cases z)
    have test : ∀ {Q : Value → Shared → Prop} {E : Value → Shared → Prop}, Q q.c s → wpAny (model X.prog X.w) (X.A.mark (some (.ref a))) (eval (.Name x np) X.env) Q E s := fun {Q E} z => by
      obtain ⟨g, db, m | ⟨m, bv, nn⟩⟩ := nm
      · exact ld_glob (X := X.suite a ((a, oe) :: (X.pn ++ pn))) S g m z db
      · exact ld_blt (X := X.suite a ((a, oe) :: (X.pn ++ pn))) S g m bv z nn db
    refine test (LM.here ?_)
    cases k with
    | false => exact ih C (no rfl)
    | true =>
      have y := yes rfl a C.na
      rw [hoi] at y
      refine codeAny_handlers_suite (HandSPX.lands_againZ C.fly fun h4 f4 u4 => ?_)
      obtain ⟨oe4, vs4, hd4, hz4, J4, S4⟩ := (C.later f4 u4).inv
      refine wpAny_mono ((su a oe4 cls d (X.pn ++ pn) hz4 ⟨_, hd4⟩).run [] _ _ H _ S4 y) (fun fl s6 z => ?_) (fun _ _ z => False.elim z)
      cases fl with
      | ret u =>
        obtain ⟨v6, σ6, H6, S6, r6, q6⟩ := z
        exact ⟨_, _, _, S6.unsuite C.ok, r6, q6⟩
      | next => obtain ⟨σ6, H6, S6, q6⟩ := z; exact ⟨_, _, S6.unsuite C.ok, q6⟩
      | brk => obtain ⟨σ6, H6, S6, q6⟩ := z; exact ⟨_, _, S6.unsuite C.ok, q6⟩
      | cont => obtain ⟨σ6, H6, S6, q6⟩ := z; exact ⟨_, _, S6.unsuite C.ok, q6⟩
  | @named x n i q b bs np p hs l nm hoi hi hn su r ih =>
    intro C ⟨k, e1, yes, no⟩
    obtain ⟨oe, vs, hd, hz, J, S⟩ := C.inv
    have LT : PySem.W.Looks (model X.prog X.w) s.heap (typeOf (.ref a)) cls := by
      obtain ⟨oe', _, he', hz', _⟩ := C.fly.there
      exact fun A Q E s' kk qq => wpAny_typeOf_ref (kk _ _ he') (by rw [hz'.1]; exact qq)
    have LM := PySem.W.exm_one (M := model X.prog X.w) J.kIn LT e1
    refine wpAny_handleBy_cons (codeAny_handlers_test ?_) (by intro z; cases z)
    have test : ∀ {Q : Value → Shared → Prop} {E : Value → Shared → Prop}, Q q.c s → wpAny (model X.prog X.w) (X.A.mark (some (.ref a))) (eval (.Name x np) X.env) Q E s := fun {Q E} z => by
      obtain ⟨g, db, m | ⟨m, bv, nn⟩⟩ := nm
      · exact ld_glob (X := X.suite a ((a, oe) :: (X.pn ++ pn))) S g m z db
      · exact ld_blt (X := X.suite a ((a, oe) :: (X.pn ++ pn))) S g m bv z nn db
    refine test (LM.here ?_)
    cases k with
    | false => exact ih C (no rfl)
    | true =>
      have y := yes rfl a C.na
      rw [hoi] at y
      refine codeAny_handlers_suite_as (HandSPX.lands_againZ C.fly fun h4 f4 u4 => ?_)
      obtain ⟨oe4, vs4, hd4, hz4, J4, S4⟩ := (C.later f4 u4).inv
      refine store_ok (X := X.suite a ((a, oe4) :: (X.pn ++ pn))) (v := .ref a) S4 hN hi (.inl hn) rfl (fun s5 S5 => ?_) (.inr hn)
      refine wpAny_mono ((su a oe4 cls d (X.pn ++ pn) hz4 ⟨_, hd4⟩).run [] s5 _ H _ S5 y) (fun fl s6 z => ?_) (fun _ _ z => False.elim z)
      have fin : ∀ {τ : L2.St} {G : Hp} {Q : Shared → Prop}, Inv (X.suite a ((a, oe4) :: (X.pn ++ pn))) [] τ G s6 → (∀ s7, Inv X pn (τ.set i none) G s7 → Q s7) →
          wpAny (model X.prog X.w) X.A (do bindName X.env n .none; unbindBehindTheSuite X.env n p) (fun _ s7 => Q s7) X.xe s6 := fun S6 hq => gone_ok (S6.unsuite C.ok) hN hi hn hq
      cases fl with
      | ret u =>
        obtain ⟨v6, σ6, H6, S6, r6, q6⟩ := z
        exact fin S6 fun s7 J7 => ⟨_, _, _, J7, r6, q6⟩
      | next => obtain ⟨σ6, H6, S6, q6⟩ := z; exact fin S6 fun s7 J7 => ⟨_, _, J7, q6⟩
      | brk => obtain ⟨σ6, H6, S6, q6⟩ := z; exact fin S6 fun s7 J7 => ⟨_, _, J7, q6⟩
      | cont => obtain ⟨σ6, H6, S6, q6⟩ := z; exact fin S6 fun s7 J7 => ⟨_, _, J7, q6⟩
end
/-- THE RULE of a try with clauses -/
theorem ps_tryX {X : Cx} {body : List Stmt} {h : ExceptHandler} {hs : List ExceptHandler} {l : List Cls1} {pos : Pos} {tb : WX → TS} {Wo : WX} (hst : X.stack = X.env :: X.outer) (hf : X.env.frame = some X.env.locals) (hN : X.N.Nodup) (tk : Takes X Wo)
    (hb : ∀ (W : WX) (pn : List (Addr × Obj)) (xe : Value → Shared → Prop), Takes (X.tr pn xe) W → PassesOwn (model X.prog X.w) X.A X.env xe → PSs (X.tr pn xe) body (tb W)) (hh : HdX X (h :: hs) l) :
    PS X (.Try body (h :: hs) [] [] pos) (fun D σ H => tb (wTry X.K Wo D l) D σ H) := by
  refine ⟨fun pn s σ H D I q => wpAny_Try_except ?_⟩
  have ok := I.ok
  have hfr : X.A.frames = some (X.env :: X.outer) := by rw [ok.frames, hst]
  have run := (hb (wTry X.K Wo D l) (X.pn ++ pn) (fun e s₁ => wpAny (model X.prog X.w) X.A (noteFrame e X.env) (fun _ s₂ => wpAny (model X.prog X.w) X.A (setFlight e none) (fun _ s₃ =>
    wpAny (model X.prog X.w) X.A (handleBy e X.env (h :: hs)) (SP X pn D) X.xe s₃) X.xe s₂) X.xe s₁) (fun u s' xx => by
      obtain ⟨a, B, sI, pn', τ, G, cls, d, rfl, J, nb, up, sky, na, os, ag, w⟩ := xx
      have sky' : Sky B (X.env :: X.outer) a (Zc cls d) X.env.locals s'.heap := by rw [← hst]; exact sky
      show wpAny (model X.prog X.w) X.A
                                        (noteFrame (.ref a) X.env) _ _ _
      exact Sky.land Zc.steady hfr hf sky' fun h3 f3 u3 => Caught.run (sI := sI) hN tk hh ⟨ok, J.ofTry ok, nb, up.trans u3, f3, na, os, ag, hst, hf⟩ w) PassesOwn.looking).run [] s σ H D (I.toTry _) q
  refine wpAny_mono run (fun f s1 z => ?_) fun e s1 z => z
  cases f with
  | ret u =>
    obtain ⟨v, τ, G, J, r, z⟩ := z
    exact ⟨v, τ, G, J.ofTry ok, r, z⟩
  | next =>
    obtain ⟨τ, G, J, z⟩ := z
    exact wpAny_execs_nil ⟨τ, G, J.ofTry ok, z⟩
  | brk => obtain ⟨τ, G, J, z⟩ := z; exact ⟨τ, G, J.ofTry ok, z⟩
  | cont => obtain ⟨τ, G, J, z⟩ := z; exact ⟨τ, G, J.ofTry ok, z⟩
end Mn
/-! Mn14: the suite of an except clause; what it may ask of its exception. -/
namespace Mn
open PySem PySem.Spec
                      PyProof.Rows L2

/-- the machine's facts within a suite: behind W0, the exception a in the slot i -/
def Gm.held (Γ : Gm) (W0 : Wd) (q : Option (Nat × Addr)) : Gm := { Γ with P := fun W => Γ.P W ∧ LeK Γ.K Γ.T W0 W, mono := fun l h => ⟨Γ.mono l h.1, h.2.trans l⟩, xs := q }
section
variable {Γ : Gm} {W0 W : Wd} {q : Option (Nat × Addr)}
mutual
theorem VR.toHeld : ∀ {x : MV} {v : V}, VR Γ W x v → VR (Γ.held W0 q) W x v
  | _, _, .non => .non
  | _, _, .bl b => .bl b
  | _, _, .int i => .int i
  | _, _, .str s => .str s
  | _, _, .ty n => .ty n
  | _, _, .tup h r => .tup h (VRs.toHeld r)
  | _, _, .ref h => .ref h
  | _, _, .fn i => .fn (Γ := Γ.held W0 q) i
  | _, _, .cls i => .cls (Γ := Γ.held W0 q) i
  | _, _, .exo0 h => .exo0 (Γ := Γ.held W0 q) h
  | _, _, .exo h h2 e r => .exo (Γ := Γ.held W0 q) h h2 e (VRs.toHeld r)
  | _, _, .lam h h2 => .lam h h2
theorem VRs.toHeld : ∀ {xs : List MV} {vs : List V}, VRs Γ W xs vs → VRs (Γ.held W0 q) W xs vs
  | _, _, .nil => .nil
  | _, _, .cons a b => .cons (VR.toHeld a) (VRs.toHeld b)
end
mutual
theorem VR.ofHeld : ∀ {x : MV} {v : V}, VR (Γ.held W0 q) W x v → VR Γ W x v
  | _, _, .non => .non
  | _, _, .bl b => .bl b
  | _, _, .int i => .int i
  | _, _, .str s => .str s
  | _, _, .ty n => .ty n
  | _, _, .tup h r => .tup h (VRs.ofHeld r)
  | _, _, .ref h => .ref h
  | _, _, .fn i => .fn (Γ := Γ) i
  | _, _, .cls i => .cls (Γ := Γ) i
  | _, _, .exo0 h => .exo0 (Γ := Γ) h
  | _, _, .exo h h2 e r => .exo (Γ := Γ) h h2 e (VRs.ofHeld r)
  | _, _, .lam h h2 => .lam h h2
theorem VRs.ofHeld : ∀ {xs : List MV} {vs : List V}, VRs (Γ.held W0 q) W xs vs → VRs Γ W xs vs
  | _, _, .nil => .nil
  | _, _, .cons a b => .cons (VR.ofHeld a) (VRs.ofHeld b)
end
theorem OR.toHeld {o : MO} {u : HO} (h : OR Γ W o u) : OR (Γ.held W0 q) W o u := by
  cases h with
  | lst r => exact .lst r.toHeld
  | frz r => exact .frz r.toHeld
  | ins e r => exact OR.ins (Γ := Γ.held W0 q) e r.toHeld
  | dct e r => exact .dct e r.toHeld
theorem OR.ofHeld {o : MO} {u : HO} (h : OR (Γ.held W0 q) W o u) : OR Γ W o u := by
  cases h with
  | lst r => exact .lst r.ofHeld
  | frz r => exact .frz r.ofHeld
  | ins e r => exact OR.ins (Γ := Γ) e r.ofHeld
  | dct e r => exact .dct e r.ofHeld
theorem SR.toHeld {st : Store} (S : SR Γ W st) (l : LeK Γ.K Γ.T W0 W) : SR (Γ.held W0 q) W st := ⟨S.len, fun k o e => by
  obtain ⟨u, h, r⟩ := S.at_ k o e
  exact ⟨u, h, r.toHeld⟩, S.inj, S.sys, S.tabs, ⟨S.hold, l⟩⟩
theorem SR.ofHeld {st : Store} (S : SR (Γ.held W0 q) W st) : SR Γ W st ∧ LeK Γ.K Γ.T W0 W := ⟨⟨S.len, fun k o e => by
  obtain ⟨u, h, r⟩ := S.at_ k o e
  exact ⟨u, h, r.ofHeld⟩, S.inj, S.sys, S.tabs, S.hold.1⟩, S.hold.2⟩
theorem XD.toHeld {fs : List (Str × MV)} {d : Option Addr} (h : XD Γ W fs d) : XD (Γ.held W0 q) W fs d := by
  rcases h with h | ⟨a, gs, h1, h2, h3, h4⟩
  · exact .inl h
  · exact .inr ⟨a, gs, h1, h2, h3, h4.toHeld⟩
theorem ER.ofHeld {env : Env} {σ : L2.St} (hx : Γ.xs = none) (E : ER (Γ.held W0 q) W env σ) : ER Γ W env σ := ⟨E.1, fun i x e => by
  obtain ⟨v, h, r⟩ := E.2.1 i x e
  exact ⟨v, h, r.ofHeld⟩, fun i a e => by rw [hx] at e; cases e⟩
end

def dOk (H : Hp) (d : Option Addr) : Prop := d = none ∨ ∃ (b : Addr) (gs : List (Str × V)), d = some b ∧ H b = some (.xd gs)
theorem XD.dOk {Γ : Gm} {W : Wd} {fs : List (Str × MV)} {d : Option Addr} (h : XD Γ W fs d) : dOk W.H d := by
  rcases h with h | ⟨b, gs, h1, h2, _⟩
  · exact .inl h.2
  · exact .inr ⟨b, gs, h1, h2⟩
/-- isinstance(e, c), isinstance(e, (c, ..)), e the exception that the suite holds -/
def rIsX (K : PySem.W.Frag) (D a : Addr) (d : Option Addr) : List V → Hp → VK → Prop := fun xs H Q => ∃ (c : V) (k : Bool), xs = [.ref a, c] ∧ dOk H d ∧
  ((∃ u, ClsV c u ∧ PySem.W.kitOne K (.ref D) u = some k) ∨ ∃ (tp : Addr) (cs : List V) (us : List Value), c = .ref tp ∧ (H tp = some (.tup cs) ∨ ∃ (dd : Option Addr) (n : Nat) (sl : Array (Option Value)), K.lookup tp = some ⟨.type "tuple", dd, .seq us.toArray n, sl⟩) ∧ Paired ClsV cs us ∧ PySem.W.kitAny K (.ref D) us = some k) ∧ Q (.bl k) H
theorem call_isX {X : Cx} {a D : Addr} {oe : Obj} {d : Option Addr} {pn : List (Addr × Obj)} (Z : XcOk X.K D) (hz : Zc (.ref D) d oe) (hf : ∃ vs, oe.data = .fields vs) : CallR (X.suite a ((a, oe) :: pn)) (.builtin "isinstance") (rIsX X.K D a d) := by
  intro pins s σ H xs us Q I r ⟨c, k, ex, hd, hc, q⟩
  subst ex
  obtain ⟨u1, u2, rfl,
                       r1, r2⟩ := vals2 r
  cases (show u1 =
                   Value.ref a from r1)
  obtain ⟨hget, _⟩ := I.pin (a, oe)
                                    (List.mem_append.mpr (.inl List.mem_cons_self))
  obtain ⟨vs, hv⟩ := hf
  have J : ∃ od, PySem.W.InstAt s.heap a oe D od := by
    have nc : PySem.W.notCls oe := by unfold PySem.W.notCls; rw [hv] <;> rfl
    rcases hd with hd | ⟨b, gs, hd, hb⟩
    · exact ⟨none, hget, hz.1, nc, by rw [hz.2, hd]; trivial⟩
    · obtain ⟨mA, hns, _⟩ : ObjOk X.prog X.w H s.heap b (.xd gs) := I.hok b _ hb
      obtain ⟨od, ho, _⟩ := lookIn_ns hns
      exact ⟨some od, hget, hz.1, nc, by rw [hz.2, hd]; exact ho⟩
  rcases hc with ⟨u, cv, e⟩ | ⟨tp, cs, ws, e1, hT, cv, e⟩
  · have e2 := cv.eq r2
    subst e2
    exact PySem.W.kia_one (PySem.W.mn_kitE Z) I.kIn J e (fun z => nomatch z) fun tk => ⟨.bl k, H, I.tok tk, rfl, q⟩
  · subst e1
    cases (show u2 =
                     Value.ref tp from r2)
    rcases hT with hT | ⟨dd, n, sl, hT⟩
    rotate_left
    · exact PySem.W.kia_tup (PySem.W.mn_kitE Z) I.kIn J (I.kIn _ _ hT) e (fun z => nomatch z) fun tk => ⟨.bl k, H, I.tok tk, rfl, q⟩
    obtain ⟨_, its, rv, o, h1, h2, n, h3⟩ := (show ObjOk
                                                         X.prog X.w H s.heap tp (.tup cs) from I.hok tp _ hT)
    have e3 := ClsV.all cv rv
    subst e3
    obtain ⟨oc, od, dt, sl⟩ := o
    simp only at h2 h3
    subst h2 h3
    exact PySem.W.kia_tup (PySem.W.mn_kitE Z) I.kIn J h1 e (fun z => nomatch z) fun tk => ⟨.bl k, H, I.tok tk, rfl, q⟩
def mvOf : CT → MV
  | .own i => .cls i
  | .ty n => .ty n
def sKs (l : List CT) : SmA := fun _ st => .ok (l.map mvOf) st
section
variable {Γ : Gm} {X : Cx} {t : Tab} {sc : Scope}
/-- a class by its name -/
theorem cls_name {c : Expr} {ct : CT} {Wx : WX} (hsc : X.env.scope = sc) (gl : ∀ x g, t.m.lookup x = some g → GOk Γ X.mg x g) (h : trCls t sc c = some ct) :
    PE X c (tE Γ Wx (sK (mvOf ct))) ∧ (∀ n, ct = .ty n → n ∈ etys) ∧ isStar c = false := by
  unfold trCls at h
  split at h
  · rename_i x p
    split at h
    · rename_i hg
      rw [Bool.and_eq_true] at hg
      have hg' : Gl X x := by show X.env.scope.names.lookup _ = _; rw [hsc]; exact glo_of hg.1
      obtain ⟨o1, o2, o3⟩ := odd_of (by simpa using hg.2)
      split at h
      · rename_i i g
        cases h
        exact ⟨e_const (pe_glob (v := .ref (Γ.ca i)) hg' ((gl _ _ g).cls i rfl) rfl o1) fun W => .cls i, (fun n e => by cases e), rfl⟩
      · rename_i n g
        split at h
        · rename_i hn
          cases h
          obtain ⟨h1, h2⟩ := (gl _ _ g).bty n rfl
          exact ⟨e_const (pe_bltn (v := .ty n) hg' h1 h2 rfl o3 o1) fun W => .ty n, (fun m e => by cases e; exact List.contains_iff_mem.mp hn), rfl⟩
        · cases h
      · cases h
    · cases h
  · cases h
theorem cls_names {Wx : WX} (hsc : X.env.scope = sc) (gl : ∀ x g, t.m.lookup x = some g → GOk Γ X.mg x g) : ∀ {es : List Expr} {l : List CT}, mapO (trCls t sc) es = some l →
    PA X es (tA Γ Wx (sKs l)) ∧ (∀ ct ∈ l, ∀ n, ct = .ty n → n ∈ etys) ∧ es.any isStar = false := by
  intro es
  induction es with
  | nil =>
    intro l h
    cases h
    exact ⟨a_nil, fun _ z => (nomatch z), rfl⟩
  | cons e es ih =>
    intro l h
    unfold mapO at h
    split at h
    · rename_i c cs h1 h2
      cases h
      obtain ⟨a1, a2, a3⟩ := cls_name (Wx := Wx) hsc gl h1
      obtain ⟨b1, b2, b3⟩ := ih h2
      refine ⟨a_cons a1 b1 (star_cons a3), fun ct hm => ?_, by rw [List.any_cons, a3, b3]; rfl⟩
      rcases List.mem_cons.mp
                              hm with rfl | hm
      · exact a2
      · exact b2 ct hm
    · cases h
theorem mv_cls {Γ : Gm} {W : Wd} {ct : CT} {v : V} (r : VR Γ W (mvOf ct) v) : ClsV v (cvOf Γ ct) := by
  cases ct with
  | own i => cases r; exact .own _
  | ty n => cases r; exact .ty n
theorem mv_clss {Γ : Gm} {W : Wd} : ∀ {l : List CT} {vs : List V}, VRs Γ W (l.map mvOf) vs → Paired ClsV vs (l.map (cvOf Γ))
  | [], _, r => by cases r; exact .nil
  | c :: l, _, r => by
    cases r with
    | cons a b => exact .cons (mv_cls a) (mv_clss b)
end
section
variable {Γ : Gm} {X : Cx} {t : Tab} {sc : Scope} {W0 : Wd} {i : Nat} {a : Addr} {oe : Obj} {d : Option Addr} {pn : List (Addr × Obj)} {cs : Rt} {nm : Str} {fl : List Str} {Wx : WX}
theorem e_exf (hK : Γ.K = X.K) (L : ClsOk Γ cs) (hfl : cs.flds cs.xc = some fl) (hn : cs.xf.map (·.1) = fl.reverse) (hz : Zc (.ref (Γ.ca cs.xc)) d oe) (hf : ∃ vs, oe.data = .fields vs) (hd : XD Γ W0 cs.xf d) (hN : X.N[cs.xi]? = some nm) (hv : vis X.env.scope nm = true)
    (ho : odd nm = false) (f : Str) (p pos : Pos) : PE (X.suite a ((a, oe) :: pn)) (.Attribute (.Name nm p) f pos) (tE (Γ.held W0 (some (cs.xi, a))) Wx (sExf cs f)) := by
  obtain ⟨o1, o2, o3⟩ := odd_of (by rw [ho]; exact Bool.false_ne_true)
  refine ⟨fun pins s σ H Q I ⟨W, st, env, e, S, E, h⟩ => ?_⟩
  subst e
  unfold sExf at h
  split at h
  · rename_i hu
    split at h
    · rename_i x hx
      have hv1 := E.2.2 _ _ rfl (unset_of hu)
      have mem : f ∈ fl := by
        have : f ∈ cs.xf.map (·.1) := by
          obtain ⟨l1, l2, el, _⟩ := List.lookup_eq_some_iff.mp hx
          rw [el, List.map_append, List.map_cons]
          exact List.mem_append.mpr (.inr List.mem_cons_self)
        rw [hn] at this
        exact List.mem_reverse.mp this
      obtain ⟨Z, hno⟩ := L.xc _ _ hfl
      rw [hK] at Z
      have hno' := hno f mem
      rw [hK] at hno'
      have hvar : PE (X.suite a ((a, oe) :: pn)) (.Name nm p) (tVar cs.xi) := pe_var hN (vis_of hv) o1 o2
      refine (pe_xf ⟨Z.hg, Z.hk, Z.hs, Z.hd⟩ hno' hz hf hvar).run pins s σ W.H Q I ⟨.ref a, hv1, rfl, rfl, ?_⟩
      rcases hd.mono (S.ofHeld.2) with ⟨h1, _⟩ | ⟨b, gs, h1, h2, h3, h4⟩
      · rw [h1] at hx; cases hx
      · have : ∀ {fs : List (Str × MV)} {gs : List (Str × V)}, fs.map (·.1) = gs.map (·.1) → VRs Γ W (fs.map (·.2)) (gs.map (·.2)) → fs.lookup f = some x → ∃ v, gs.lookup f = some v ∧ VR Γ W x v := by
          intro fs
          induction fs with
          | nil => intro gs _ _ z; cases z
          | cons q fs ih =>
            intro gs e1 e2 z
            cases gs with
            | nil => cases e1
            | cons g gs =>
              obtain ⟨q1, q2⟩ := q
              obtain ⟨g1, g2⟩ := g
              simp only [List.map_cons, List.cons.injEq] at e1
              obtain ⟨rfl, e1⟩ := e1
              cases e2 with
              | cons r1 r2 =>
                rw [List.lookup_cons] at z
                rw [List.lookup_cons]
                split at z
                · rename_i c
                  cases z
                  exact ⟨g2, rfl, r1⟩
                · rename_i c
                  obtain ⟨v, y1, y2⟩ := ih e1 r2 z
                  exact ⟨v, y1, y2⟩
        obtain ⟨v, y1, y2⟩ := this h3 h4 hx
        exact ⟨b, gs, v, h1, h2, y1, h W v Le.refl S y2.toHeld⟩
    · exact h.elim
  · exact h.elim
theorem e_exi (hK : Γ.K = X.K) (L : ClsOk Γ cs) (hfl : cs.flds cs.xc = some fl) (hz : Zc (.ref (Γ.ca cs.xc)) d oe) (hf : ∃ vs, oe.data = .fields vs) (hd : XD Γ W0 cs.xf d) (hN : X.N[cs.xi]? = some nm) (hv : vis X.env.scope nm = true)
    (ho : odd nm = false) (hsc : X.env.scope = sc) (gl : ∀ x g, t.m.lookup x = some g → GOk Γ X.mg x g) {x : Str} {c : Expr} {l : List CT} (hx : odd x = false) (hg : glo sc x = true) (hm : X.mg x = none ∧ bootBuiltins x = some (.builtin "isinstance")) (hl : trCl t sc c = some l) (p p2 pos : Pos) :
    PE (X.suite a ((a, oe) :: pn)) (.Call (.Name x p) [.Name nm p2, c] [] pos) (tE (Γ.held W0 (some (cs.xi, a))) Wx (sExis cs l)) := by
  obtain ⟨o1, o2, o3⟩ := odd_of (by rw [ho]; exact Bool.false_ne_true)
  obtain ⟨x1, x2, x3⟩ := odd_of (by rw [hx]; exact Bool.false_ne_true)
  obtain ⟨Z, _⟩ := L.xc _ _ hfl
  have kit := L.kit _ _ hfl
  rw [hK] at Z
  have hvar : PE (X.suite a ((a, oe) :: pn)) (.Name nm p2) (tVar cs.xi) := pe_var hN (vis_of hv) o1 o2
  have hg' : Gl (X.suite a ((a, oe) :: pn)) x := by show X.env.scope.names.lookup _ = _; rw [hsc]; exact glo_of hg
  let Γ' := Γ.held W0 (some (cs.xi, a))
  have gl' : ∀ y g, t.m.lookup y = some g → GOk Γ' (X.suite a ((a, oe) :: pn)).mg y g := fun y g e => by
    obtain ⟨g1, g2, g3, g4, g5, g6, g7, g8⟩ := gl y g e
    exact ⟨g1, g2, g3, g4, fun c e => by
      obtain ⟨v, u, y1, y2, y3⟩ := g5 c e
      exact ⟨v, u, y1, y2, fun W => (y3 W).toHeld⟩, g6, g7, g8⟩
  -- the second argument
  have arg : ∃ ma : Sm, PE (X.suite a ((a, oe) :: pn)) c (tE Γ' Wx ma) ∧ isStar c = false ∧ (∀ ct ∈ l, ∀ n, ct = .ty n → n ∈ etys) ∧ ∀ env st, (∃ ct, l = [ct] ∧ ma env st = .ok (mvOf ct) st) ∨ ma env st = .ok (.tup (l.map mvOf)) st := by
    have one : ∀ {c : Expr}, (trCls t sc c).map (fun c => [c]) = some l → ∃ ma : Sm, PE (X.suite a ((a, oe) :: pn)) c (tE Γ' Wx ma) ∧ isStar c = false ∧ (∀ ct ∈ l, ∀ n, ct = .ty n → n ∈ etys) ∧ ∀ env st, (∃ ct, l = [ct] ∧ ma env st = .ok (mvOf ct) st) ∨ ma env st = .ok (.tup (l.map mvOf)) st := fun {c} h => by
      obtain ⟨ct, h1, rfl⟩ := map_some h
      obtain ⟨b1, b2, b3⟩ := cls_name (X := X.suite a ((a, oe) :: pn)) (Wx := Wx) hsc gl' h1
      exact ⟨_, b1, b3, fun ct' hm => by rw [List.mem_singleton.mp hm]; exact b2, fun env st => .inl ⟨ct, rfl, rfl⟩⟩
    unfold trCl at hl
    split at hl
    · rename_i es kk pp
      split at hl
      · rename_i h64
        obtain ⟨b1, b2, b3⟩ := cls_names (X := X.suite a ((a, oe) :: pn)) (Wx := Wx) hsc gl' hl
        refine ⟨_, e_tup b1, rfl, b2, fun env st => .inr ?_⟩
        show (if (l.map mvOf).length ≤ LN then R.ok (MV.tup (l.map mvOf)) st else R.stk) = _
        rw [if_pos]
        rw [List.length_map, mapO_len hl]
        exact Nat.le_trans h64 (by decide)
      · cases hl
    · exact one hl
  obtain ⟨ma, ha, hst, het, hval⟩ := arg
  refine pe_imp (pe_callB (call_isX Z hz hf) hg' hm.1 hm.2 (pa_cons hvar (pa_cons ha pa_nil (star_cons hst)) (star_cons rfl)) x3 x1 (star_cons rfl) (star_any (by rw [List.any_cons, hst]; rfl))) fun σ H Q ⟨W, st, env, e, S, E, h⟩ => ?_
  subst e
  unfold sExis at h
  split at h
  · rename_i hu
    refine ⟨.ref a, E.2.2 _ _ rfl (unset_of hu), W, st, env, rfl, S, E, ?_⟩
    have fin : ∀ {W1 : Wd} {c' : V}, LeK Γ.K Γ.T W W1 → SR Γ' W1 st → ((∃ u, ClsV c' u ∧ PySem.W.kitOne X.K (.ref (Γ.ca cs.xc)) u = some (l.any (cs.sub cs.xc))) ∨ ∃ (tp : Addr) (vs : List V) (us : List Value), c' = .ref tp ∧ (W1.H tp = some (.tup vs) ∨ ∃ (dd : Option Addr) (n : Nat) (sl : Array (Option Value)), X.K.lookup tp = some ⟨.type "tuple", dd, .seq us.toArray n, sl⟩) ∧ Paired ClsV vs us ∧ PySem.W.kitAny X.K (.ref (Γ.ca cs.xc)) us = some (l.any (cs.sub cs.xc))) →
        rIsX X.K (Γ.ca cs.xc) a d [.ref a, c'] W1.H (fun v H => Q v H) := fun {W1 c'} l1 S1 hc =>
      ⟨c', _, rfl, (hd.mono S1.ofHeld.2).dOk, hc, h W1 _ l1 S1 (.bl _)⟩
    rcases hval env st with ⟨ct, hl1, e1⟩ | e1
    · rw [e1]
      intro W1 v l1 S1 r1
      refine fin l1 S1 (.inl ⟨_, mv_cls r1, ?_⟩)
      subst hl1
      show PySem.W.kitOne X.K _ (cvOf Γ ct) = _
      rw [← hK, kit ct (het ct List.mem_cons_self), List.any_cons]
      show _ = some (_ || false)
      rw [Bool.or_false]
    · rw [e1]
      intro W1 v l1 S1 r1
      cases r1 with
      | tup h1 h2 =>
        rcases h1 with h1 | h1
        · refine fin l1 S1 (.inr ⟨_, _, _, rfl, .inl h1, mv_clss h2, ?_⟩)
          rw [← hK]
          exact kit_all fun ct hm => kit ct (het ct hm)
        · obtain ⟨o, its, n, g1, gc, gd, _, gv⟩ := h1
          obtain ⟨oc, od, dt, sl⟩ := o
          simp only at gc gd
          subst gc gd
          have b1 := mv_clss h2
          have e := ClsV.all b1 gv
          refine fin l1 S1 (.inr ⟨_, _, _, rfl, .inr ⟨od, n, sl, ?_⟩, b1, ?_⟩)
          · rw [← hK, ← e]; exact g1
          · rw [← hK]
            exact kit_all fun ct hm => kit ct (het ct hm)
  · exact h.elim
end
end Mn
/-! Mn15: from a text's statements to the machine's; raise, try. -/
namespace Mn
open PySem PySem.Spec
                      PyProof.Rows L2

def isComp : Expr → Bool
  | .ListComp _ _ _ _ => true
  | .SetComp _ _ _ _ => true
  | .DictComp _ _ _ _ _ => true
  | _ => false
theorem swaps_no {e : Expr} {tg : Option Expr} {l : Nat} {env : PySem.Env} (h : isComp e = false) : swapsWith e tg l env = pure false := by
  cases e <;> first | rfl | cases h
def own1 (scope : Scope) (y : Str) : Bool := scope.names.any fun x => match x with
  | (n, k) => n == y && (k == NameKind.local || k == NameKind.cell)
/-- two tuples: are they swapped? -/
def parK (sc : Scope) (ts vs : List Expr) : Option (Option (List Str)) :=
  if (!(ts.length == 2 || ts.length == 3) || vs.length != ts.length) = true then some none
  else if (vs.any fun x => match x with | .Starred _ _ => true | _ => false) = true then some none
  else
    let line := (ts.head?.map fun x => x.pos.line).getD 0
    let names := ts.filterMap fun x => match x with
      | .Name id pos => if (sc.names.lookup id == some NameKind.local && pos.line == line) = true then some id else none
      | _ => none
    if (names.length != ts.length || names.eraseDups.length != names.length) = true then some none
    else if vs.all (foldedForSure 8) = true then some none
    else if vs.all (constantsAlone 8) = true then none
    else some (some names)
theorem parK_ok {sc : Scope} {ts vs : List Expr} {k k2 : Nat} {p p2 : Pos} {env : PySem.Env} {r : Option (List Str)} (hsc : env.scope = sc) (hk : sc.kind = .function) (h : parK sc ts vs = some r) :
    swappedStores [.Tuple ts k p] (.Tuple vs k2 p2) env = pure r := by
  have hb : env.blockKind = ScopeKind.function := by
    unfold PySem.Env.blockKind
    rw [hsc, hk]
    rfl
  unfold parK at h
  unfold swappedStores
  simp only [hb, PySem.Env.kindOf, hsc]
  have e1 : (ScopeKind.function != ScopeKind.function) = false := by decide
  rw [e1, Bool.or_false]
  split at h
  · rename_i c
    cases h
    exact if_pos c
  · rename_i c
    refine (if_neg c).trans ?_
    split at h
    · rename_i c2
      cases h
      exact if_pos c2
    · rename_i c2
      refine (if_neg c2).trans ?_
      dsimp only at h
      split at h
      · rename_i c3
        cases h
        exact if_pos c3
      · rename_i c3
        refine (if_neg c3).trans ?_
        split at h
        · rename_i c4
          cases h
          exact if_pos c4
        · rename_i c4
          refine (if_neg c4).trans ?_
          split at h
          · cases h
          · rename_i c5
            cases h
            exact if_neg c5
def names2 : List Expr → Option (Str × Str)
  | [.Name x _, .Name y _] => some (x, y)
  | _ => none
def two : List Expr → Option (Expr × Expr)
  | [a, b] => some (a, b)
  | _ => none
def isLoc (sc : Scope) (x : Str) : Bool := sc.names.lookup x == some NameKind.local
mutual
def trS (t : Tab) (N : List Str) : Nat → Scope → List Str → Stmt → Option S
  | 0, _, _, _ => none
  | n + 1, sc, as, s => match s with
    | .Pass _ => some .pass
    | .Break _ => some .brk
    | .Continue _ => some .cont
    | .Expr e _ => if isComp e then none else (trE t N n sc e).map .expr
    | .Return o _ => match o with
      | some e => (trE t N n sc e).map .ret
      | none => some .retN
    | .If c a b _ => both (trT t N n sc c) (both (trSs t N n sc as a) (trSs t N n sc as b) Prod.mk) fun c p => .ite c p.1 p.2
    | .While c b [] _ => if t.cm then both (trT t N n sc c) (trSs t N n sc as b) .while_ else none
    | .For tg it b [] _ => if t.cm && !isSet it then both (both (trG t N n sc as tg) (trI t N n sc (isTup tg) it) Prod.mk) (trSs t N n sc as b) fun p b => .for_ p.1 p.2 b else none
    | .Assign [tg] e _ => match tg with
      | .Name x p => if as.contains x && loc sc x then (match e with
        | .ListComp elt gs scope cp => if isLoc sc x && p.line == cp.line && !own1 scope x then both (ixOf N x) (trE t N n sc (.ListComp elt gs scope cp)) .set else none
        | e => if isComp e then none else both (ixOf N x) (trE t N n sc e) .set) else none
      | .Tuple ts k p => match e with
        | .Tuple vs k2 p2 => match parK sc ts vs with
          | some none => both (trE t N n sc (.Tuple vs k2 p2)) (trG t N n sc as (.Tuple ts k p)) .asg
          | some (some ns) => if t.cm then (match names2 ts, two vs with
            | some (x, y), some (u, v) => if ns == [x, y] && isLoc sc x && isLoc sc y && !isStar u && !isStar v then (match ixOf N x, ixOf N y with
              | some i, some j => if i = j then none else both (trE t N n sc u) (trE t N n sc v) (.par i j)
              | _, _ => none) else none
            | _, _ => none) else none
          | none => none
        | e => both (trE t N n sc e) (trG t N n sc as (.Tuple ts k p)) .asg
      | .Subscript a b p => both (trE t N n sc e) (trG t N n sc as (.Subscript a b p)) .asg
      | _ => none
    | .Raise (some (.Call (.Name x _) (e :: es) [] _)) none _ => if t.cm && glo sc x && !odd x then (match t.m.lookup x with
      | some (.cls c) => if t.ec.contains c then (trA t N n sc (e :: es)).map (.raise c) else none
      | _ => none) else none
    | .Try b (h :: hs) [] [] _ => if t.cm then both (trSs t N n sc as b) (trHs t N n sc as (h :: hs)) .try_ else none
    | _ => none
def trSs (t : Tab) (N : List Str) : Nat → Scope → List Str → List Stmt → Option Ss
  | 0, _, _, _ => none
  | n + 1, sc, as, ss => match ss with
    | [] => some .nil
    | s :: ss => both (trS t N n sc as s) (trSs t N n sc as ss) .cons
def trHs (t : Tab) (N : List Str) : Nat → Scope → List Str → List ExceptHandler → Option Hs
  | 0, _, _, _ => none
  | n + 1, sc, as, hs => match hs with
    | [] => some .nil
    | .ExceptHandler (some (.Name x np)) none (b :: bs) _ :: hs => both (both (trCls t sc (.Name x np)) (trSs ⟨t.m, false, none, t.ec, t.kw, none, [], []⟩ N n sc as (b :: bs)) Prod.mk) (trHs t N n sc as hs) fun p r => .cons p.1 none p.2 r
    | .ExceptHandler (some (.Name x np)) (some nm) (b :: bs) _ :: hs => if isLoc sc nm && !odd nm then (match ixOf N nm with
      | some i => both (both (trCls t sc (.Name x np)) (trSs ⟨t.m, false, some nm, t.ec, t.kw, none, [], []⟩ N n sc as (b :: bs)) Prod.mk) (trHs t N n sc as hs) fun p r => .cons p.1 (some i) p.2 r
      | none => none) else none
    | _ => none
end
/-- the making of an exception of an own class, whose parts become its fields -/
def tMk (C : Addr) (fl : List Str) (ta : TA) : L2.St → Hp → XK → Prop := fun σ H Q => ta σ H fun vs H1 => vs.length = fl.length ∧ ∀ d, H1 d = none → Q (.ref C) (some d) (upd H1 d (.xd (fl.zip vs).reverse))
def MkOk (ec : List Nat) (Γ : Gm) (cs : Rt) (k : Nat) (P : Program) (w : World) (mg : Str → Option Value) (base : Heap) : Prop := ∀ (Y : Cx) (Wx : WX) (c : Nat) (fl : List Str) (x : Str) (e : Expr) (es : List Expr) (ms : SmA) (p pos : Pos),
  Y.prog = P → Y.w = w → Y.K = Γ.K → Y.mg = mg → Y.base = base → RoomG k Y.A → Takes Y Wx → c ∈ ec → cs.flds c = some fl → fl ≠ [] → Gl Y x → mg x = some (.ref (Γ.ca c)) → (x == ("__debug__" : Str)) = false → PA Y (e :: es) (tA Γ Wx ms) → (e :: es).any isStar = false →
    PMk Y (.Call (.Name x p) (e :: es) [] pos) (tMk (Γ.ca c) fl (tA Γ Wx ms))
structure YOk (Γ : Gm) (t : Tab) (N : List Str) (cs : Rt) (k : Nat) (sc : Scope) (as : List Str) (Wx : WX) (X : Cx) : Prop extends XOk Γ t N cs k sc as Wx X where
  kind : sc.kind = .function
  pass : t.cm = true → PassesOwn (model X.prog X.w) X.A X.env X.xe
  stk : X.stack = X.env :: X.outer
  fr : X.env.frame = some X.env.locals
  ec : ∀ c ∈ t.ec, ∃ fl, cs.flds c = some fl ∧ fl ≠ []
  mk' : t.cm = true → MkOk t.ec Γ cs k X.prog X.w X.mg X.base
section
variable {Γ : Gm} {t : Tab} {N : List Str} {cs : Rt} {k : Nat} {sc : Scope} {as : List Str} {Wx : WX} {X : Cx}
/-! ### raise -/
theorem zip_fst {α β γ : Type} {fl : List α} {xs : List β} {vs : List γ} (h1 : xs.length = fl.length) (h2 : vs.length = fl.length) : (fl.zip xs).reverse.map (·.1) = (fl.zip vs).reverse.map (·.1) := by
  rw [List.map_reverse, List.map_reverse]
  congr 1
  rw [show (fl.zip xs).map (·.1) = fl from List.map_fst_zip (by omega), show (fl.zip vs).map (·.1) = fl from List.map_fst_zip (by omega)]
theorem VRs.reverse {W : Wd} : ∀ {xs : List MV} {vs : List V}, VRs Γ W xs vs → VRs Γ W xs.reverse vs.reverse
  | _, _, .nil => .nil
  | _, _, .cons a b => by
    rw [List.reverse_cons,
                           List.reverse_cons]
    exact (VRs.reverse b).append (.cons a .nil)
theorem zip_snd {W : Wd} {fl : List Str} {xs : List MV} {vs : List V} (h1 : xs.length = fl.length) (r : VRs Γ W xs vs) : VRs Γ W ((fl.zip xs).reverse.map (·.2)) ((fl.zip vs).reverse.map (·.2)) := by
  rw [List.map_reverse, List.map_reverse, show (fl.zip xs).map (·.2) = xs from List.map_snd_zip (by omega), show (fl.zip vs).map (·.2) = vs from List.map_snd_zip (by rw [← r.length]; omega)]
  exact r.reverse
theorem q_raise {e : Expr} {c : Nat} {fl : List Str} {ms : SmA} {pos : Pos} (hc : X.calm = true) (tk : Takes X Wx) (he : PMk X e (tMk (Γ.ca c) fl (tA Γ Wx ms))) : PS X (.Raise (some e) none pos) (tS Γ Wx (qRaise (some fl) c ms)) :=
  ps_imp (ps_raise hc tk he) fun D σ H ⟨W, st, env, e, S, E, p⟩ => by
    subst e
    refine ⟨W, st, env, rfl, S, E, (seqSt (rel := VRs Γ) E p).imp fun vs W1 ⟨l, xs, st1, S1, r, p1⟩ => ?_⟩
    dsimp only at p1
    split at p1
    · rename_i hl
      refine ⟨by rw [← r.length]; exact hl.1, fun d hd => ?_⟩
      have l2 : Le Γ W1 (W1.side d (.xd (fl.zip vs).reverse)) := le_side hd
      exact p1 _ σ l2 (S1.side hd) (E.mono (l.trans l2)) (some d) (.inr ⟨d, _, rfl, upd_same, zip_fst hl.1 (by rw [← r.length]; exact hl.1), (zip_snd hl.1 r).mono l2⟩)
    · exact p1.elim

/-! ### try -/
theorem ER.catch {W : Wd} {env : Env} {σ : L2.St} {a : Addr} (E : ER Γ W env σ) (hx : Γ.xs = none) (oi : Option Nat) : ER (Γ.held W (oi.map fun i => (i, a))) W (offE oi env) (onS oi σ a) := by
  cases oi with
  | none => exact ⟨E.1, fun i x e => by
      obtain ⟨v, h, r⟩ := E.2.1 i x e
      exact ⟨v, h, r.toHeld⟩, fun i b e => by cases e⟩
  | some i =>
    refine ⟨by show (env.set i none).length = (σ.set i _).length; rw [List.length_set, List.length_set]; exact E.1, fun j x e => ?_, fun j b q e => ?_⟩
    · have e' : (env.set i none)[j]? = some (some x) := e
      have hj : j ≠ i := by
        rintro rfl
        have hl := (List.getElem?_eq_some_iff.mp e').1
        rw [List.length_set] at hl
        rw [List.getElem?_set_self hl] at e'
        cases e'
      rw [List.getElem?_set_ne (Ne.symm hj)] at e'
      obtain ⟨v, h, r⟩ := E.2.1 j x e'
      exact ⟨v, by show (σ.set i _)[j]? = _; rw [List.getElem?_set_ne (Ne.symm hj)]; exact h, r.toHeld⟩
    · cases q
      have e' : (env.set i none)[i]? = some none := e
      have hl := (List.getElem?_eq_some_iff.mp e').1
      rw [List.length_set] at hl
      show (σ.set i (some (.ref a)))[i]? = _
      rw [List.getElem?_set_self (by rw [← E.1]; exact hl)]
/-- what the rule asks of a suite: its run by the machine -/
def tSu (Γ : Gm) (cs : Rt) (oi : Option Nat) (m : Ss) : Addr → Value → Option Addr → TS := fun a cls d D σ H => ∃ (c : Nat) (fl : List Str) (fs : List (Str × MV)) (W : Wd) (st : Store) (env : Env), cls = .ref (Γ.ca c) ∧ cs.flds c = some fl ∧ fs.map (·.1) = fl.reverse ∧ XD Γ W fs d ∧ W.H = H ∧ SR Γ W st ∧
  ER (Γ.held W (oi.map fun i => (i, a))) W env σ ∧ PostS (Γ.held W (oi.map fun i => (i, a))) W (fun _ _ _ _ => False) (exs (cs.in_ c fs oi) m env st) D
/-- a suite's ends -/
theorem post_suite {W : Wd} {oi : Option Nat} {a : Addr} {r : RS} {D : Ends} (hx : Γ.xs = none) (p : PostS Γ W Wx (offR oi r) D) : PostS (Γ.held W (oi.map fun i => (i, a))) W (fun _ _ _ _ => False) r (offD oi D) := by
  have off : ∀ {W' : Wd} {env : Env} {σ : L2.St}, ER (Γ.held W (oi.map fun i => (i, a))) W' env σ → ER Γ W' (offE oi env) (match oi with | none => σ | some i => σ.set i none) := fun {W' env σ} E => by
    cases oi with
    | none => exact E.ofHeld hx
    | some i => exact (E.ofHeld hx).del hx i none
  cases r with
  | nx env st =>
    intro W' σ l S E
    have := p W' _ l S.ofHeld.1 (off E)
    cases oi <;> exact this
  | bk env st =>
    intro W' σ l S E
    have := p W' _ l S.ofHeld.1 (off E)
    cases oi <;> exact this
  | ct env st =>
    intro W' σ l S E
    have := p W' _ l S.ofHeld.1 (off E)
    cases oi <;> exact this
  | rt v st =>
    intro W' u l S r
    have := p W' u l S.ofHeld.1 r.ofHeld
    cases oi <;> exact this
  | ex c fs env st => exact p.elim
  | stk => exact p.elim
/-- the clauses as the rule sees them -/
def cl1 (Γ : Gm) (cs : Rt) : Hs → List Cls1
  | .nil => []
  | .cons ct oi b r => ⟨cvOf Γ ct, oi, tSu Γ cs oi b⟩ :: cl1 Γ cs r
def hTy : Hs → Prop
  | .nil => True
  | .cons ct _ _ r => (∀ n, ct = .ty n → n ∈ etys) ∧ hTy r
theorem wtry_of (hK : Γ.K = X.K) (L : ClsOk Γ cs) (hx : Γ.xs = none) {D : Ends} {c : Nat} {fl : List Str} {fs : List (Str × MV)} (hfl : cs.flds c = some fl) (hn : fs.map (·.1) = fl.reverse) : ∀ {h : Hs} {W : Wd} {env : Env} {st : Store} {σ : L2.St} {d : Option Addr}, hTy h →
    SR Γ W st → ER Γ W env σ → XD Γ W fs d → PostS Γ W Wx (exh cs h c fs env st) D → wTry X.K Wx D (cl1 Γ cs h) (.ref (Γ.ca c)) d σ W.H
  | .nil, W, env, st, σ, d, _, S, E, hd, p => p W σ Le.refl S E d hd
  | .cons ct oi b r, W, env, st, σ, d, ht, S, E, hd, p => by
    have p' : PostS Γ W Wx (if hOk cs ct = true then (if cs.sub c ct = true then offR oi (exs (cs.in_ c fs oi) b (offE oi env) st) else exh cs r c fs env st) else .stk) D := p
    split at p'
    · rename_i ho
      refine ⟨cs.sub c ct, ?_, fun hs a na => ?_, fun hs => ?_⟩
      · rw [← hK]
        exact L.exm c fl hfl ct ho ht.1
      · rw [if_pos hs] at p'
        exact ⟨c, fl, fs, W, st, offE oi env, rfl, hfl, hn, hd, rfl, S, E.catch hx oi, post_suite hx p'⟩
      · rw [if_neg (by rw [hs]; exact Bool.false_ne_true)] at p'
        exact wtry_of hK L hx hfl hn ht.2 S E hd p'
    · exact p'.elim
end
end Mn
/-! Mn16: the soundness of statements. -/
namespace Mn
open PySem PySem.Spec
                      PyProof.Rows L2
section
variable {Γ : Gm} {t : Tab} {N : List Str} {cs : Rt} {k : Nat} {sc : Scope} {as : List Str} {Wx : WX} {X : Cx}
theorem YOk.tr (K : YOk Γ t N cs k sc as Wx X) (hcm : t.cm = true) {W : WX} {pn : List (Addr × Obj)} {xe : Value → Shared → Prop} (tk : Takes (X.tr pn xe) W) (hp : PassesOwn (model X.prog X.w) X.A X.env xe) : YOk Γ t N cs k sc as W (X.tr pn xe) where
  hK := K.hK
  hN := K.hN
  nd := K.nd
  hsc := K.hsc
  un := K.un
  gd := K.gd
  isC := K.isC
  calm := K.calm
  xn := K.xn
  xs := K.xs
  room := K.room
  tk := tk
  fn := K.fn
  gl := K.gl
  call := K.call
  kw := K.kw
  exf := fun nm _ _ _ h => by rw [K.xn hcm] at h; cases h
  exi := fun nm _ _ _ _ _ _ h _ => by rw [K.xn hcm] at h; cases h
  mkv := K.mkv
  lamv := K.lamv
  lamk := K.lamk
  kind := K.kind
  pass := fun _ => hp
  stk := K.stk
  fr := K.fr
  cl := K.cl
  ec := K.ec
  mk' := K.mk'
theorem GOk.held {mg : Str → Option Value} {x : Str} {g : G} {W0 : Wd} {q : Option (Nat × Addr)} (h : GOk Γ mg x g) : GOk (Γ.held W0 q) mg x g := by
  obtain ⟨g1, g2, g3, g4, g5, g6, g7, g8⟩ := h
  exact ⟨g1, g2, g3, g4, fun c e => by
    obtain ⟨v, u, y1, y2, y3⟩ := g5 c e
    exact ⟨v, u, y1, y2, fun W => (y3 W).toHeld⟩, g6, g7, g8⟩
theorem YOk.suite (K : YOk Γ t N cs k sc as Wx X) {oi : Option Nat} {nm : Option Str} (hnm : ∀ n, nm = some n → ∃ i, oi = some i ∧ N[i]? = some n ∧ vis sc n = true ∧ odd n = false) {c : Nat} {fl : List Str} {fs : List (Str × MV)} (hfl : cs.flds c = some fl) (hn : fs.map (·.1) = fl.reverse)
    {W0 : Wd} {d : Option Addr} (hd : XD Γ W0 fs d) {a : Addr} {oe : Obj} {pn : List (Addr × Obj)} (hz : Zc (.ref (Γ.ca c)) d oe) (hf : ∃ vs, oe.data = .fields vs) :
    YOk (Γ.held W0 (oi.map fun i => (i, a))) ⟨t.m, false, nm, t.ec, t.kw, none, [], []⟩ N (cs.in_ c fs oi) k sc as (fun _ _ _ _ => False) (X.suite a ((a, oe) :: pn)) where
  hK := K.hK
  hN := K.hN
  nd := K.nd
  hsc := K.hsc
  un := K.un
  gd := K.gd
  isC := K.isC
  calm := fun z => by cases z
  xn := fun z => by cases z
  xs := fun z => by cases z
  room := fun z => by cases z
  tk := takes0
  fn := K.fn
  gl := fun x g e => (K.gl x g e).held
  call := fun z => by cases z
  kw := fun z => by cases z
  exf := fun n f p pos h => by
    obtain ⟨i, hi, h1, h2, h3⟩ := hnm n h
    subst hi
    have L : ClsOk Γ (cs.in_ c fs (some i)) := ⟨K.cl.xc, K.cl.kit, K.cl.exm⟩
    exact e_exf (cs := cs.in_ c fs (some i)) K.hK L hfl hn hz hf hd (by rw [K.hN]; exact h1) (by rw [K.hsc]; exact h2) h3 f p pos
  exi := fun n x c' l p p2 pos h hx hg hm hl => by
    obtain ⟨i, hi, h1, h2, h3⟩ := hnm n h
    subst hi
    have L : ClsOk Γ (cs.in_ c fs (some i)) := ⟨K.cl.xc, K.cl.kit, K.cl.exm⟩
    exact e_exi (cs := cs.in_ c fs (some i)) (t := ⟨t.m, false, nm, t.ec, t.kw, none, [], []⟩) K.hK L hfl hz hf hd (by rw [K.hN]; exact h1) (by rw [K.hsc]; exact h2) h3 K.hsc K.gl hx hg ((K.gl _ _ hm).isi rfl) hl p p2 pos
  mkv := fun z => by cases z
  lamv := fun z => by cases z
  lamk := fun z => by cases z
  kind := K.kind
  pass := fun z => by cases z
  stk := K.stk
  fr := K.fr
  cl := ⟨K.cl.xc, K.cl.kit, K.cl.exm⟩
  ec := K.ec
  mk' := fun z => by cases z

theorem XOk.snd (K : XOk Γ t N cs k sc as Wx X) (n : Nat) : Snd Γ t N cs k n sc as Wx X := snd_all n sc as Wx X K
/-- the soundness of all readings of n steps -/
def SndS (N : List Str) (k n : Nat) : Prop := ∀ (Γ : Gm) (t : Tab) (cs : Rt) (sc : Scope) (as : List Str) (Wx : WX) (X : Cx), YOk Γ t N cs k sc as Wx X →
  (∀ s m, trS t N n sc as s = some m → PS X s (tS Γ Wx (ex cs m))) ∧ (∀ ss m, trSs t N n sc as ss = some m → PSs X ss (tS Γ Wx (exs cs m))) ∧
    (t.cm = true → ∀ hs m, trHs t N n sc as hs = some m → HdX X hs (cl1 Γ cs m) ∧ hTy m)
theorem names_of (K : YOk Γ t N cs k sc as Wx X) {x : Str} {np : Pos} {ct : CT} (h : trCls t sc (.Name x np) = some ct) : Names X x (cvOf Γ ct) ∧ ∀ n, ct = .ty n → n ∈ etys := by
  refine ⟨?_, (cls_name (Wx := Wx) K.hsc K.gl h).2.1⟩
  have h' : (if (glo sc x && !odd x) = true then (match t.m.lookup x with
    | some (.cls i) => some (CT.own i)
    | some (.bty n) => if etys.contains n then some (CT.ty n) else none
    | _ => none) else none) = some ct := h
  split at h'
  · rename_i hg
    rw [Bool.and_eq_true] at hg
    have hg' : Gl X x := by show X.env.scope.names.lookup _ = _; rw [K.hsc]; exact glo_of hg.1
    obtain ⟨o1, o2, o3⟩ := odd_of (by simpa using hg.2)
    split at h'
    · rename_i i g
      cases h'
      exact ⟨hg', o1, .inl ((K.gl _ _ g).cls i rfl)⟩
    · rename_i n g
      split at h'
      · cases h'
        obtain ⟨h1, h2⟩ := (K.gl _ _ g).bty n rfl
        exact ⟨hg', o1, .inr ⟨h1, h2, o3⟩⟩
      · cases h'
    · cases h'
  · cases h'
theorem isLoc_of {y : Str} (h : isLoc sc y = true) : sc.names.lookup y = some NameKind.local := beq_iff_eq.mp h
theorem snd_hs {n : Nat} (ih : SndS N k n) (K : YOk Γ t N cs k sc as Wx X) (hcm : t.cm = true) : ∀ hs m, trHs t N (n + 1) sc as hs = some m → HdX X hs (cl1 Γ cs m) ∧ hTy m := by
  intro hs m h
  have go : ∀ {nm : Option Str} {oi : Option Nat} {bs : List Stmt} {mb : Ss}, (∀ y, nm = some y → ∃ i, oi = some i ∧ N[i]? = some y ∧ vis sc y = true ∧ odd y = false) → trSs ⟨t.m, false, nm, t.ec, t.kw, none, [], []⟩ N n sc as bs = some mb → SuiteOk X bs (tSu Γ cs oi mb) := fun {nm oi bs mb} hnm hb a oe cls d pn hz hf => by
    refine ⟨fun pn2 s σ H D I ⟨c, fl, fs, W, st, env, ec, hfl, hn, hd, eH, S, E, p⟩ => ?_⟩
    subst ec
    subst eH
    have Y := K.suite (oi := oi) hnm hfl hn hd (a := a) (pn := pn) hz hf
    exact ((ih _ _ _ _ _ _ _ Y).2.1 bs mb hb).run pn2 s σ W.H D I ⟨W, st, env, rfl, S.toHeld Le.refl, E, p⟩
  simp only [trHs] at h
  split at h
  · cases h
    exact ⟨.nil, True.intro⟩
  · obtain ⟨p, r, h1, h2, rfl⟩ := both_some h
    obtain ⟨ct, mb, h3, h4, rfl⟩ := both_some h1
    obtain ⟨a1, a2⟩ := names_of K h3
    obtain ⟨b1, b2⟩ := (ih _ _ _ _ _ _ _ K).2.2 hcm _ r h2
    exact ⟨.bare a1 rfl (go (fun y z => by cases z) h4) b1, a2, b2⟩
  · split at h
    · rename_i hl
      rw [Bool.and_eq_true] at hl
      split at h
      · rename_i i hi
        obtain ⟨p, r, h1, h2, rfl⟩ := both_some h
        obtain ⟨ct, mb, h3, h4, rfl⟩ := both_some h1
        obtain ⟨a1, a2⟩ := names_of K h3
        obtain ⟨b1, b2⟩ := (ih _ _ _ _ _ _ _ K).2.2 hcm _ r h2
        have hloc := isLoc_of hl.1
        refine ⟨.named a1 rfl (by rw [K.hN]; exact ixOf_at hi) (by show X.env.scope.names.lookup _ = _; rw [K.hsc]; exact hloc) (go (fun y z => ?_) h4) b1, a2, b2⟩
        cases z
        exact ⟨i, rfl, ixOf_at hi, by unfold vis; rw [hloc], by simpa using hl.2⟩
      · cases h
    · cases h
  · cases h
theorem snd_ss {n : Nat} (ih : SndS N k n) (K : YOk Γ t N cs k sc as Wx X) : ∀ ss m, trSs t N (n + 1) sc as ss = some m → PSs X ss (tS Γ Wx (exs cs m)) := by
  intro ss m h
  cases ss with
  | nil => cases h; exact q_nil
  | cons s ss =>
    obtain ⟨x, y, h1, h2, rfl⟩ := both_some (show both (trS t N n sc as s) (trSs t N n sc as ss) Ss.cons = some m from h)
    obtain ⟨p1, p2, _⟩ := ih _ _ _ _ _ _ _ K
    exact q_cons (p1 s x h1) (p2 ss y h2)
theorem fn_of_loc (K : YOk Γ t N cs k sc as Wx X) {x : Str} (h : (as.contains x && loc sc x) = true) : L2.Loc X.env.scope x ∧ (X.fn x = true ∨ X.env.scope.names.lookup x = some .local) := by
  rw [Bool.and_eq_true] at h
  rw [K.hsc]
  exact ⟨loc_of h.2, K.fn x (List.contains_iff_mem.mp h.1) h.2⟩
theorem q_try {b : List Stmt} {h : ExceptHandler} {hs : List ExceptHandler} {mb : SmS} {mh : Hs} {pos : Pos} (K : YOk Γ t N cs k sc as Wx X) (hcm : t.cm = true)
    (hb : ∀ (W : WX) (pn : List (Addr × Obj)) (xe : Value → Shared → Prop), Takes (X.tr pn xe) W → PassesOwn (model X.prog X.w) X.A X.env xe → PSs (X.tr pn xe) b (tS Γ W mb)) (hh : HdX X (h :: hs) (cl1 Γ cs mh)) (ht : hTy mh) :
    PS X (.Try b (h :: hs) [] [] pos) (tS Γ Wx (qTry mb fun c fs => if okX cs c fs = true then exh cs mh c fs else fun _ _ => .stk)) :=
  ps_imp (ps_tryX K.stk K.fr (by rw [K.hN]; exact K.nd) K.tk hb hh) fun D σ H ⟨W, st, env, e, S, E, p⟩ => by
    subst e
    refine ⟨W, st, env, rfl, S, E, ?_⟩
    revert p
    unfold qTry
    cases mb env st with
    | ex c fs env1 st1 =>
      intro p W1 σ1 l S1 E1 d hd
      dsimp only at p
      split at p
      · rename_i ho
        unfold okX at ho
        split at ho
        · rename_i fl hfl
          exact wtry_of K.hK K.cl (K.xs hcm) hfl (of_decide_eq_true ho) ht S1 E1 hd (p.later l)
        · cases ho
      · exact p.elim
    | _ => exact fun p => p
theorem snd_setLc {n : Nat} (K : YOk Γ t N cs k sc as Wx X) {elt : Expr} {gs : List Comprehension} {scope : Scope} {cp p pos : Pos} {x : Str} {i : Nat} {m : E} (hi : ixOf N x = some i) (hl : isLoc sc x = true) (hp : (p.line == cp.line) = true) (ho : own1 scope x = false)
    (h : trE t N n sc (.ListComp elt gs scope cp) = some m) : PS X (.Assign [.Name x p] (.ListComp elt gs scope cp) pos) (tS Γ Wx (qSet i (ev cs m))) := by
  cases n with
  | zero => cases h
  | succ n =>
    simp only [trE] at h
    split at h
    · rename_i g hg
      have e := gen1_some hg
      subst e
      split at h
      · cases h
      · rename_i hc'
        have hc0 : t.cm = true ∧ isSet g.iter = false ∧ blkC N sc scope (ownOf N scope) = true := by
          rw [Bool.or_eq_true, Bool.or_eq_true, not_or, not_or] at hc'
          exact ⟨by simpa using hc'.1.1, by simpa using hc'.1.2, by simpa using hc'.2⟩
        obtain ⟨hcm, hc1, hc2⟩ := hc0
        obtain ⟨p1, q, h1, h2, rfl⟩ := both_some h
        obtain ⟨mg, mi, h3, h4, rfl⟩ := both_some h1
        obtain ⟨mc, me, h5, h6, rfl⟩ := both_some h2
        have hok := blkOk_by hc2
        have Sb := fun (s : Shared) (H : Hp) (C : Addr) (cl : List (Str × Addr)) (fp : List Addr) => (K.toXOk.blk hcm hc2 s H C cl fp).snd n
        have hsw : swapsWith (.ListComp elt [⟨g.target, g.iter, g.ifs, 0⟩] scope cp) (some (.Name x p)) pos.line X.env = pure true := sw_true (by rw [K.hsc]; exact K.kind) (by rw [K.hsc]; exact isLoc_of hl) hp ho
        refine q_setLc (T := slG mg) (K.xs hcm) (K.calm hcm) (by rw [K.hN]; exact K.nd) (by rw [K.hN]; exact ixOf_at hi) (by rw [K.hsc]; exact isLoc_of hl) hsw ((K.toXOk.snd n).pi _ mi _ h4) (by rw [K.hN]; show BlkOk N X.env.scope _ _; rw [K.hsc]; exact hok) (fun j hj => ?_)
          (fun s H C cl fp => ((Sb s H C cl fp).pg _ mg h3).1) (fun s H C cl fp => (Sb s H C cl fp).pc _ mc h5) (fun s H C cl fp => (Sb s H C cl fp).pe elt me h6) (set_of hc1)
        obtain ⟨y, hy, hj'⟩ := ((Sb {} (fun _ => none) 0 [] []).pg _ mg h3).2 j hj
        obtain ⟨⟨y', i'⟩, hm, e⟩ := List.mem_map.mp hy
        have e' : y' = y := e
        subst e'
        exact List.mem_map.mpr ⟨_, hm, nodup_ix K.nd (hok.ix _ hm) hj'⟩
    · cases h
theorem snd_s {n : Nat} (ih : SndS N k n) (K : YOk Γ t N cs k sc as Wx X) : ∀ s m, trS t N (n + 1) sc as s = some m → PS X s (tS Γ Wx (ex cs m)) := by
  intro s m h
  have Se := K.toXOk.snd n
  have Ss' := ih _ _ _ _ _ _ _ K
  have hN : X.N.Nodup := by rw [K.hN]; exact K.nd
  have at_ : ∀ {x : Str} {i : Nat}, ixOf N x = some i → X.N[i]? = some x := fun {x i} e => by rw [K.hN]; exact ixOf_at e
  cases s with
  | Pass pos => cases h; exact q_pass
  | Break pos => cases h; exact q_break
  | Continue pos => cases h; exact q_cont
  | Expr e pos =>
    simp only [trS] at h
    split at h
    · cases h
    · rename_i hc
      obtain ⟨x, h1, rfl⟩ := map_some h
      exact q_expr (Se.pe e x h1) (swaps_no (by simpa using hc))
  | Return o pos =>
    cases o with
    | none => cases h; exact q_retN
    | some e =>
      obtain ⟨x, h1, rfl⟩ := map_some (show (trE t N n sc e).map S.ret = some m from h)
      exact q_ret (Se.pe e x h1)
  | If c a b pos =>
    obtain ⟨x, p, h1, h2, rfl⟩ := both_some (show both (trT t N n sc c) (both (trSs t N n sc as a) (trSs t N n sc as b) Prod.mk) (fun c p => S.ite c p.1 p.2) = some m from h)
    obtain ⟨y, z, h3, h4, rfl⟩ := both_some h2
    exact q_if (Se.pt c x h1) (Ss'.2.1 a y h3) (Ss'.2.1 b z h4)
  | While c b orelse pos =>
    cases orelse with
    | cons _ _ => cases h
    | nil =>
      simp only [trS] at h
      split at h
      · rename_i hcm
        obtain ⟨x, y, h1, h2, rfl⟩ := both_some h
        exact q_while (K.pass hcm) (Se.pt c x h1) (Ss'.2.1 b y h2)
      · cases h
  | For tg it b orelse pos =>
    cases orelse with
    | cons _ _ => cases h
    | nil =>
      simp only [trS] at h
      split at h
      · rename_i hc
        rw [Bool.and_eq_true] at hc
        obtain ⟨p, y, h1, h2, rfl⟩ := both_some h
        obtain ⟨mg, mi, h3, h4, rfl⟩ := both_some h1
        exact q_for (K.pass hc.1) (K.calm hc.1) (Se.pi it mi tg h4) (Se.pg tg mg h3).1 (Ss'.2.1 b y h2) (set_of (by simpa using hc.2))
      · cases h
  | Assign tgs e pos =>
    cases tgs with
    | nil => cases h
    | cons tg r =>
      cases r with
      | cons _ _ => cases h
      | nil =>
        cases tg with
        | Name x p =>
          simp only [trS] at h
          split at h
          · rename_i hl
            obtain ⟨hloc, hfn⟩ := fn_of_loc K hl
            split at h
            · rename_i elt gs scope cp
              split at h
              · rename_i c
                rw [Bool.and_eq_true, Bool.and_eq_true] at c
                obtain ⟨⟨c1, c2⟩, c3⟩ := c
                obtain ⟨i, mm, h1, h2, rfl⟩ := both_some h
                exact snd_setLc K h1 c1 c2 (by simpa using c3) h2
              · cases h
            · split at h
              · cases h
              · rename_i hc
                obtain ⟨i, mm, h1, h2, rfl⟩ := both_some h
                exact q_set hN (at_ h1) hloc (Se.pe e mm h2) (swaps_no (by simpa using hc)) hfn
          · cases h
        | Tuple ts kk p =>
          have gen : ∀ {mm : E} {mg : Tg}, trE t N n sc e = some mm → trG t N n sc as (.Tuple ts kk p) = some mg → swappedStores [.Tuple ts kk p] e X.env = pure none → PS X (.Assign [.Tuple ts kk p] e pos) (tS Γ Wx (qAsg (ev cs mm) (evG cs mg))) := fun {mm mg} h1 h2 hw =>
            q_asg (Se.pe e mm h1) (Se.pg _ mg h2).1 (by cases e <;> rfl) hw rfl
          simp only [trS] at h
          split at h
          · rename_i vs k2 p2
            split at h
            · rename_i hp
              obtain ⟨mm, mg, h1, h2, rfl⟩ := both_some h
              exact gen h1 h2 (parK_ok K.hsc K.kind hp)
            · rename_i ns hp
              split at h
              · rename_i hcm
                split at h
                · rename_i x y u v hn2 hv2
                  split at h
                  · rename_i c
                    simp only [Bool.and_eq_true] at c
                    obtain ⟨⟨⟨⟨c1, c2⟩, c3⟩, c4⟩, c5⟩ := c
                    split at h
                    · rename_i i j hi hj
                      split at h
                      · cases h
                      · rename_i hij
                        obtain ⟨ma, mb, h1, h2, rfl⟩ := both_some h
                        unfold names2 at hn2
                        split at hn2
                        · cases hn2
                          unfold two at hv2
                          split at hv2
                          · cases hv2
                            have hns : ns = [x, y] := by simpa using c1
                            rw [hns] at hp
                            refine q_par (K.calm hcm) hN (at_ hi) (at_ hj) hij (by rw [K.hsc]; exact isLoc_of c2) (by rw [K.hsc]; exact isLoc_of c3) (a_cons (Se.pe u ma h1) (a_cons (Se.pe v mb h2) a_nil (star_cons (by simpa using c5))) (star_cons (by simpa using c4))) (parK_ok K.hsc K.kind hp)
                          · cases hv2
                        · cases hn2
                    · cases h
                  · cases h
                · cases h
              · cases h
            · cases h
          · rename_i hne
            obtain ⟨mm, mg, h1, h2, rfl⟩ := both_some h
            refine gen h1 h2 ?_
            cases e <;> first | rfl | exact absurd rfl (hne _ _ _)
        | Subscript a b p =>
          obtain ⟨mm, mg, h1, h2, rfl⟩ := both_some (show both (trE t N n sc e) (trG t N n sc as (.Subscript a b p)) S.asg = some m from h)
          exact q_asg (Se.pe e mm h1) (Se.pg _ mg h2).1 (by cases e <;> rfl) (by cases e <;> rfl) rfl
        | _ => cases h
  | Raise o cause pos =>
    cases cause with
    | some _ => cases o with
      | none => cases h
      | some o => cases o with
        | Call f es ks p => cases f with
          | Name _ _ => cases es with
            | nil => cases h
            | cons _ _ => cases ks <;> cases h
          | _ => cases h
        | _ => cases h
    | none => cases o with
      | none => cases h
      | some o => cases o with
        | Call f es ks p => cases f with
          | Name x px => cases es with
            | nil => cases h
            | cons e es => cases ks with
              | cons _ _ => cases h
              | nil =>
                simp only [trS] at h
                split at h
                · rename_i c
                  simp only [Bool.and_eq_true] at c
                  obtain ⟨⟨hcm, hg⟩, ho⟩ := c
                  have hg' : Gl X x := by show X.env.scope.names.lookup _ = _; rw [K.hsc]; exact glo_of hg
                  obtain ⟨o1, o2, o3⟩ := odd_of (by simpa using ho)
                  split at h
                  · rename_i cc g
                    split at h
                    · rename_i hec
                      obtain ⟨ms, h1, rfl⟩ := map_some h
                      obtain ⟨p1, p2, p3, p4⟩ := Se.pa (e :: es) ms h1
                      obtain ⟨fl, hfl, hne⟩ := K.ec cc (List.contains_iff_mem.mp hec)
                      have := q_raise (pos := pos) (K.calm hcm) K.tk (K.mk' hcm X Wx cc fl x e es (evs cs ms) px p rfl rfl K.hK.symm rfl rfl (K.room hcm) K.tk (List.contains_iff_mem.mp hec) hfl hne hg' ((K.gl _ _ g).cls cc rfl) o1 p1 p3)
                      show PS X _ (tS Γ Wx (qRaise (cs.flds cc) cc (evs cs ms)))
                      rw [hfl]
                      exact this
                    · cases h
                  · cases h
                · cases h
          | _ => cases h
        | _ => cases h
  | Try b hs orelse fin pos =>
    cases hs with
    | nil => cases h
    | cons hd hs => cases orelse with
      | cons _ _ => cases h
      | nil => cases fin with
        | cons _ _ => cases h
        | nil =>
          simp only [trS] at h
          split at h
          · rename_i hcm
            obtain ⟨mb, mh, h1, h2, rfl⟩ := both_some h
            obtain ⟨a1, a2⟩ := Ss'.2.2 hcm (hd :: hs) mh h2
            exact q_try K hcm (fun W pn xe tk hp => (ih _ _ _ _ _ _ _ (K.tr hcm tk hp)).2.1 b mb h1) a1 a2
          · cases h
  | _ => cases h
/-- THE RULE of statements: every reading is sound -/
theorem snd_stm (N : List Str) (k : Nat) : ∀ n, SndS N k n
  | 0 => fun Γ t cs sc as Wx X K => ⟨(fun _ _ h => nomatch h), (fun _ _ h => nomatch h), (fun _ _ _ h => nomatch h)⟩
  | n + 1 => fun Γ t cs sc as Wx X K => ⟨snd_s (snd_stm N k n) K, snd_ss (snd_stm N k n) K, fun hcm => snd_hs (snd_stm N k n) K hcm⟩
end
end Mn
/-! Mn17: a text's defs, each by its body, to any depth. -/
namespace Mn
open PySem PySem.Spec
                      PyProof.Rows L2

/-- a def as the machine takes it; lm: it may make lambdas; star: its last parameter takes what is left over -/
structure Fd where
  d : He.DefD
  N : List Str
  ps : List Str
  as : List Str
  m : Ss
  star : Bool := false
  lm : Bool := false
/-- a default that the machine has -/
def mvDv : He.Dv → Option MV
  | .non => some .non
  | .bl b => some (.bl b)
  | .int i => some (.int i)
  | .str s => some (.str s)
  | .ty n => some (.ty n)
  | _ => none
def Fd.dms (f : Fd) : List MV := (mapO mvDv f.d.dfl).getD []
def fget (defs : List Fd) (d0 : Fd) (i : Nat) : Fd := (defs[i]?).getD d0
/-- a def by position, from the def by all its parameters -/
def Fd.pos (f : Fd) (C : Cl) : Cl := if f.star = true then starC (f.ps.length - 1) C else posC f.ps.length f.dms C
def posF (defs : List Fd) (d0 : Fd) (full : Nat → Cl) (i : Nat) : Cl := (fget defs d0 i).pos (full i)
/-- as many steps as a translation may take -/
abbrev TF : Nat := 60
/-- the table as a def has it: lambdas only where it may make them -/
def Fd.tab (T : Tab) (f : Fd) : Tab := { T with lm := if f.lm = true then some (f.d.qual ++ ".<locals>.") else none }
/-- a lambda's body -/
def lamC (T : Tab) (cs : Rt) (d : LamD) : Cl := match lamOk d.params d.scope, trE { T with lm := none } [] TF d.scope d.body with
  | true, some e => fun xs st => match xs with
    | [] => ev cs e [] st
    | _ => .stk
  | _, _ => fun _ _ => .stk
def stepN (T : Tab) (defs : List Fd) (d0 : Fd) (R : (Nat → Cl) → (LamD → Cl) → Rt) : Nat → (Nat → Cl) × (LamD → Cl)
  | 0 => (fun _ _ _ => .stk, fun _ _ _ => .stk)
  | n + 1 => (fun i => bodyC (fget defs d0 i).ps.length (fget defs d0 i).N.length (exs (R (stepN T defs d0 R n).1 (stepN T defs d0 R n).2) (fget defs d0 i).m), fun d => lamC T (R (stepN T defs d0 R n).1 (stepN T defs d0 R n).2) d)
def callN (T : Tab) (defs : List Fd) (d0 : Fd) (R : (Nat → Cl) → (LamD → Cl) → Rt) (n : Nat) : Nat → Cl := (stepN T defs d0 R n).1
def lamN (T : Tab) (defs : List Fd) (d0 : Fd) (R : (Nat → Cl) → (LamD → Cl) → Rt) (n : Nat) : LamD → Cl := (stepN T defs d0 R n).2
structure DefOk (Γ : Gm) (T : Tab) (TB : Addr → Addr → Prop) (f : Fd) (i : Nat) (fd : FuncData) : Prop where
  lk : ∃ (oc : Value) (od : Option Addr) (dV kV doc pm : Value) (an : Option Addr) (cdv ct : Value) (osl : Array (Option Value)),
    fd = PySem.W.fnOf f.d.name f.d.qual f.d.params f.d.body f.d.scope dV kV doc pm an cdv ct ∧ Γ.K.lookup (Γ.fa i) = some ⟨oc, od, .func fd, osl⟩ ∧ PySem.W.codeIn Γ.K cdv f.d.qual = true
  kp : PySem.W.keepIn Γ.K (.ref (Γ.fa i)) = true
  bd : f.star = false → ∀ n, n ≤ f.ps.length → f.ps.length ≤ n + f.dms.length → ∃ ds, BindD Γ.K fd f.ps n ds ∧ DefV Γ (f.dms.drop (n + f.dms.length - f.ps.length)) ds
  bs : f.star = true → ∃ ps pv, f.ps = ps ++ [pv] ∧ BindS fd ps pv
  bk : ∀ x n kn pm, T.kw.lookup (x, n, kn) = some (i, pm) → BindK Γ.K fd f.ps n kn pm
  sc : FnScope f.N f.ps f.d.scope
  tr : trSs (f.tab T) f.N TF f.d.scope f.as f.d.body = some f.m
  lm : f.lm = true → ∃ c P, fd.code = .ref c ∧ (P, f.d.qual ++ ".<locals>." ++ "<lambda>") ∈ Γ.T ∧ (∀ p ∈ Γ.T, p.1 = P → p.2 = f.d.qual ++ ".<locals>." ++ "<lambda>") ∧ TB c P
structure TxtOk (Γ : Gm) (T : Tab) (R : (Nat → Cl) → (LamD → Cl) → Rt) (defs : List Fd) (d0 : Fd) (P : Program) (w : World) (mg : Str → Option Value) (base : Heap) : Prop where
  xs : Γ.xs = none
  cm : T.cm = true
  xn : T.xn = none
  isC : IsC Γ
  gl : ∀ x g, T.m.lookup x = some g → GOk Γ mg x g
  gk : ∀ x n kn i pm, T.kw.lookup (x, n, kn) = some (i, pm) → mg x = some (.ref (Γ.fa i))
  df : ∀ i, ∃ fd, DefOk Γ T (LamX.TabB base mg) (fget defs d0 i) i fd
  full : ∀ c l, (R c l).full = c
  call : ∀ c l, (R c l).call = posF defs d0 c
  lam : ∀ c l, (R c l).lam = l
  cl : ∀ c l, ClsOk Γ (R c l)
  ec : ∀ c l, ∀ e ∈ T.ec, ∃ fl, (R c l).flds e = some fl ∧ fl ≠ []
  mkx : ∀ c l n, MkOk T.ec Γ (R c l) (n + 3) P w mg base
  mkv : ∀ c l n, MkV T.vc T.ck Γ (R c l) (n + 3) P w mg base
theorem fnM_all {Γ : Gm} {T : Tab} {R : (Nat → Cl) → (LamD → Cl) → Rt} {defs : List Fd} {d0 : Fd} {P : Program} {w : World} {mg : Str → Option Value} {base : Heap} (O : TxtOk Γ T R defs d0 P w mg base) :
    ∀ n, (∀ i, ∃ fd, DefOk Γ T (LamX.TabB base mg) (fget defs d0 i) i fd ∧ FnM Γ P w mg base (n + 3) (Γ.fa i) fd (fget defs d0 i).ps (callN T defs d0 R n i) ∧ FnP Γ P w mg base (n + 3) (Γ.fa i) (posF defs d0 (callN T defs d0 R n) i)) ∧ ∀ d, LamM Γ P w mg base (n + 3) d (lamN T defs d0 R n d) := by
  intro n
  induction n with
  | zero =>
    refine ⟨fun i => ?_, fun d => ⟨fun A outer s H f c Q E _ _ _ _ ⟨W, st, ms, _, _, _, p⟩ => p.elim⟩⟩
    obtain ⟨fd, D⟩ := O.df i
    refine ⟨fd, D, ⟨fun _ _ _ => rfl, fun A outer s H args us vs Q E _ _ _ _ _ ⟨W, st, ms, _, _, _, p⟩ => p.elim⟩, ⟨fun A outer s H us vs Q E _ _ _ ⟨W, st, ms, _, _, _, p⟩ => ?_⟩⟩
    unfold posF Fd.pos at p
    split at p
    · unfold starC at p
      split at p <;> exact p.elim
    · unfold posC at p
      split at p <;> exact p.elim
  | succ n ih =>
    obtain ⟨ih, ihl⟩ := ih
    refine ⟨fun i => ?_, fun d => ?_⟩
    · obtain ⟨fd, D⟩ := O.df i
      obtain ⟨oc, od, dV, kV, doc, pm, an, cdv, ct, osl, rfl, lk, hcd⟩ := D.lk
      have body : ∀ (A : Around) (outer : List PySem.Env) (s : Shared) (H : Hp) (E : XK), RoomG (n + 3) (A.deeper (envOfC (fget defs d0 i).d.qual (fget defs d0 i).d.scope s.heap.objs.size (Γ.fa i) cdv)) →
          PSs (cxOf (L2.CX P w) P w Γ.K mg base (fget defs d0 i).N (fget defs d0 i).d.qual (fget defs d0 i).d.scope (Γ.fa i) cdv A outer s H E) (fget defs d0 i).d.body (tS Γ (fun c d _ H => E c d H) (exs (R (callN T defs d0 R n) (lamN T defs d0 R n)) (fget defs d0 i).m)) := fun A outer s H E hr => by
        refine (snd_stm (fget defs d0 i).N (n + 3) TF _ ((fget defs d0 i).tab T) (R (callN T defs d0 R n) (lamN T defs d0 R n)) _ _ _ _ ?_).2.1 _ _ D.tr
        exact {
          hK := rfl
          hN := rfl
          nd := D.sc.nd
          hsc := rfl
          un := by have := hr.room.un; show (A.deeper _).units + 64 < cLine; omega
          gd := hr.gd
          isC := O.isC
          calm := fun _ => rfl
          xn := fun _ => O.xn
          xs := fun _ => O.xs
          room := fun _ => hr
          tk := takes_of rfl rfl rfl rfl
          fn := fun _ _ _ => .inl rfl
          gl := O.gl
          call := fun _ j => by
            obtain ⟨fd', D', _, F'⟩ := ih j
            rw [O.call]
            exact ⟨F', D'.kp⟩
          kw := fun _ x n' kn i' pm hl => by
            obtain ⟨fd', D', F', _⟩ := ih i'
            rw [O.full]
            exact ⟨O.gk x n' kn i' pm hl, fd', _, F', D'.kp, D'.bk x n' kn pm hl⟩
          cl := O.cl _ _
          mkv := fun _ => O.mkv _ _ n
          lamv := fun _ d => by
            rw [O.lam]
            exact ihl d
          lamk := fun _ q hq => by
            have hq' : (if (fget defs d0 i).lm = true then some ((fget defs d0 i).d.qual ++ ".<locals>.") else none) = some q := hq
            split at hq'
            · rename_i hlm
              cases hq'
              obtain ⟨c, P, h1, h2, h3, h4⟩ := D.lm hlm
              exact ⟨c, P, h4, h1, h2, h3, rfl⟩
            · cases hq'
          exf := fun nm _ _ _ h => by rw [show ((fget defs d0 i).tab T).xn = none from O.xn] at h; cases h
          exi := fun nm _ _ _ _ _ _ h => by rw [show ((fget defs d0 i).tab T).xn = none from O.xn] at h; cases h
          kind := D.sc.kind
          pass := fun _ => passes_of rfl
          stk := rfl
          fr := rfl
          ec := O.ec _ _
          mk' := fun _ => O.mkx _ _ n }
      have F := fnM_of lk hcd D.sc O.xs body
      refine ⟨_, D, F, ?_⟩
      show FnP Γ P w mg base (n + 1 + 3) (Γ.fa i) ((fget defs d0 i).pos (callN T defs d0 R (n + 1) i))
      unfold Fd.pos
      split
      · rename_i hs
        obtain ⟨ps, pv, eps, b⟩ := D.bs hs
        have G := fnP_star (m := exs (R (callN T defs d0 R n) (lamN T defs d0 R n)) (fget defs d0 i).m) lk hcd (eps ▸ D.sc) O.xs b body
        have el : (fget defs d0 i).ps.length - 1 = ps.length := by rw [eps, List.length_append]; rfl
        rw [el]
        show FnP Γ P w mg base (n + 1 + 3) (Γ.fa i) (starC ps.length (bodyC (fget defs d0 i).ps.length _ _))
        rw [eps]
        exact G
      · rename_i hs
        exact fnP_of F (D.bd (by simpa using hs))
    · show LamM Γ P w mg base (n + 3 + 1) d (lamC T (R (callN T defs d0 R n) (lamN T defs d0 R n)) d)
      unfold lamC
      split
      · rename_i e ok htr
        refine lamM_of O.xs ok fun A outer s H E f c' hr => ?_
        refine (snd_all (k := n + 3) TF d.scope [] (fun c d _ H => E c d H) _ ?_).pe d.body e htr
        exact {
          hK := rfl
          hN := rfl
          nd := List.nodup_nil
          hsc := rfl
          un := by have := hr.room.un; show (A.deeper _).units + 64 < cLine; omega
          gd := hr.gd
          isC := O.isC
          calm := fun _ => rfl
          xn := fun _ => O.xn
          xs := fun _ => O.xs
          room := fun _ => hr
          tk := takes_of rfl rfl rfl rfl
          fn := fun _ hx => by cases hx
          gl := O.gl
          call := fun _ j => by
            obtain ⟨fd', D', _, F'⟩ := ih j
            rw [O.call]
            exact ⟨F', D'.kp⟩
          kw := fun _ x n' kn i' pm hl => by
            obtain ⟨fd', D', F', _⟩ := ih i'
            rw [O.full]
            exact ⟨O.gk x n' kn i' pm hl, fd', _, F', D'.kp, D'.bk x n' kn pm hl⟩
          cl := O.cl _ _
          mkv := fun _ => O.mkv _ _ n
          lamv := fun _ d => by
            rw [O.lam]
            exact ihl d
          lamk := fun _ q hq => by cases hq
          exf := fun nm _ _ _ h => by rw [show T.xn = none from O.xn] at h; cases h
          exi := fun nm _ _ _ _ _ _ h => by rw [show T.xn = none from O.xn] at h; cases h }
      · exact ⟨fun A outer s H f c Q E _ _ _ _ ⟨W, st, ms, _, _, _, p⟩ => p.elim⟩
end Mn
/-! Mn18: the law's call. -/
namespace Mn
open PySem PySem.Spec
                      PyProof.Rows L2 LamX

/-- what a top leaves, so that the machine may run: the written part K, without the script and without sys.modules, which is there; the tables cs of code objects, empty -/
structure Says (K : PySem.W.Frag) (h : Heap) (cs : List (Addr × Addr)) : Prop where
  kin : K.In h
  lst : (K.all fun p => p.2.cls != .type "list") = true
  sys : K.lookup sysModules = none
  has : ∃ o, h.get? sysModules = some o ∧ o.cls = .type "dict"
  tab : ∀ p ∈ cs, h.get? p.2 = some { cls := .none, data := .fields #[] }
  out : ∀ p ∈ cs, K.lookup p.2 = none
  code : ∀ p ∈ cs, PySem.W.CodeHd h p.1 p.2
def startH (a : Addr) (oa os : Obj) (ts : List Addr) (xs : List V) : Hp := fun b => if b = a then some (.frz oa (.lst xs)) else if b = sysModules then some (.frz os (.own sysModules)) else if b ∈ ts then some (.tbl #[]) else none
theorem law_callM {P : Program} {w : World} {mg mb : Str → Option Value} {k : Nat} {fa a : Addr} {fd : FuncData} {x : Str} {C : Cl} {s₁ : Shared} {vs : List Value} {ns : List Int} {Γ : Gm} {cs : List (Addr × Addr)}
    (Y : Says Γ.K s₁.heap cs) (hns : s₁.heap.Ns mainGlobals mg) (hb : s₁.heap.Ns builtinsNs mb) (hbb : ∀ x : Str, x ≠ "__name__" → mb x = bootBuiltins x) (hlim : s₁.heap.NoLimit) (hg : s₁.gens = #[])
    (hbm : ∃ (bm : Addr) (ob : Obj), mg "__builtins__" = some (.ref bm) ∧ bm ≠ builtinsNs ∧
                                                                                            s₁.heap.get? bm = some ob ∧ ob.cls = .type "module" ∧ ob.dict = some builtinsNs ∧ ob.data = .plain)
    (ha : s₁.heap.get? a = some { cls := .type "list", data := .seq vs.toArray }) (hi : IntsAre vs ns) (hl : ns.length ≤ sizeLine) (hr : RoomG k callerA) (hP : ∀ W, Γ.P W) (hT : ∀ p ∈ Γ.T, ∃ c, (c, p.1) ∈ cs)
    (F : ∀ base : Heap, Γ.K.In base → base.Ns mainGlobals mg → (∀ p ∈ cs, TabB base mg p.1 p.2) → FnM Γ P w mg base k fa fd [x] C) (hbind : ∀ (s : Shared) (u : Value), BindsTo s fd ⟨[u], []⟩ [(x, u)])
    (hC : ∃ st, C [.ref 0] [.frz (ns.map MV.int)] = .ok (.bl true) st) :
    codeAny (model P w) callerA (.call (.ref fa) ⟨[.ref a], []⟩) (fun r s' => r = .ok
                                                                                      (.ret (.bool true)) ∧ OldK s₁.heap s'.heap ∧ s'.os = s₁.os ∧ AllBare s'.gens) s₁ := by
  have rv := vals_ints hi
  obtain ⟨os, hos, hol⟩ := Y.has
  have na : a ≠ sysModules := fun z => by
    rw [← z, ha] at hos
    cases hos
    simp at hol
  have nK : Γ.K.lookup a = none := by
    cases e : Γ.K.lookup a with
    | none => rfl
    | some o =>
      have e1 := Y.kin _ _ e
      rw [ha] at e1
      cases e1
      have := List.all_eq_true.mp Y.lst _ (He.lookup_mem e)
      simp at this
  have isT : ∀ b : Addr, b ∈ cs.map (·.2) → s₁.heap.get? b =
                                                             some { cls := .none, data := .fields #[] } := fun b hb => by
    obtain ⟨p, hp, e⟩ :=
                         List.mem_map.mp hb
    rw [← e]
    exact Y.tab p hp
  have memT : ∀ p ∈ cs, p.2 ∈ cs.map (·.2) :=
                                              fun p hp => List.mem_map.mpr ⟨p, hp, rfl⟩
  have aT : a ∉ cs.map
                       (·.2) := fun z => by
    have q := isT a z
    rw [ha] at q
    have z' : Data.seq vs.toArray _ = Data.fields
                                                  #[] := congrArg Obj.data (Option.some.inj q)
    cases z'
  have sT : sysModules ∉ cs.map (·.2) := fun z => by
    have q := isT _ z
    rw [hos] at q
    cases q
    cases hol
  let H : Hp := startH a { cls := .type "list", data := .seq vs.toArray } os (cs.map (·.2)) (ns.map V.int)
  have Ha : H a = some (.frz { cls := .type "list", data := .seq vs.toArray } (.lst (ns.map V.int))) := if_pos rfl
  have Hs : H sysModules = some (.frz os (.own sysModules)) := (if_neg (Ne.symm na)).trans (if_pos rfl)
  have Ht : ∀ b, b ∈ cs.map (·.2) → H b = some (.tbl #[]) := fun b hb => (if_neg (fun z : b = a => aT (z ▸ hb))).trans ((if_neg (fun z : b = sysModules => sT (z ▸ hb))).trans (if_pos hb))
  have Hn : ∀ b, b ≠ a → b ≠ sysModules → b ∉ cs.map (·.2) → H b = none := fun b h1 h2 h3 => (if_neg h1).trans ((if_neg h2).trans (if_neg h3))
  have free : ∀ {b : Addr} {m : Str → Option Value}, s₁.heap.Ns b m → b ≠ sysModules → H b = none := fun {b m} h n => by
    obtain ⟨o, es, ep, e, d, _⟩ := h
    refine Hn b (fun z => ?_) n fun z => ?_
    · rw [z, ha] at e
      cases e
      have d' : Data.seq vs.toArray
                                    _ = Data.dict es ep := d
      cases d'
    · rw [isT b z] at e
      cases e
      cases d
  have base_of : ∀ {b : Addr} {o : Obj}, s₁.heap.get? b = some o → H b
                                                                       = none → (hidT s₁.heap H).get? b = some o := fun e n => hidT_get e n
  have nsK : ∀ {b : Addr} {m : Str → Option Value}, s₁.heap.Ns b m → b ≠ sysModules → (hidT s₁.heap H).Ns b m := fun {b m} h n => by
    have hf := free h n
    obtain ⟨o, es, ep, e, d, r⟩ := h
    exact ⟨o, es, ep, base_of e hf, d, r⟩
  have hKb : Γ.K.In (hidT s₁.heap H) := fun b o e => base_of (Y.kin b o e) (Hn b (fun z => by rw [z, nK] at e; cases e) (fun z => by rw [z, Y.sys] at e; cases e) fun z => by
    obtain ⟨p, hp, ep⟩ := List.mem_map.mp z
    rw [← ep, Y.out p hp] at e
    cases e)
  have hM : L2.Mod Γ.K mg (hidT s₁.heap H) := ⟨hKb, nsK hns (by decide), ⟨mb, nsK hb (by decide), hbb⟩, let ⟨mc, h1, h2⟩ := hlim; ⟨mc, nsK h1 (by decide), h2⟩⟩
  have hok : HOk P w H s₁.heap := fun b u z => by
    by_cases h1 : b = a
    · subst h1
      rw [Ha] at z
      cases z
      exact ⟨ha, by rw [List.length_map];
                                          exact hl, vs, _, rv, ha⟩
    · by_cases h2 : b = sysModules
      · subst h2
        rw [Hs] at z
        cases z
        exact ⟨hos, _, hos⟩
      · by_cases h3 : b ∈ cs.map (·.2)
        · rw [Ht b h3] at z
          cases z
          exact isT b h3
        · rw [Hn b h1 h2 h3] at z
          cases z
  have TB : ∀ p ∈ cs, TabB (hidT s₁.heap
                                         H) mg p.1 p.2 := fun p hp => by
    have hTp := Y.tab p hp
    refine ⟨?_, ?_, fun z => ?_⟩
    · obtain ⟨o, us, file, tf, flags, tg, inF, text, tt, e1, r1, r2, r3, r4, r5, r6, r7, r8, hne⟩ := Y.code p hp
      refine ⟨o, us, file, tf, flags, tg, inF, text, tt, base_of e1 (Hn _ (fun z => ?_) (fun z => ?_) fun z => ?_), r1, r2, r3, r4, r5, r6, r7, r8, hne⟩
      · rw [z, ha] at e1
        cases e1
        cases r2
      · rw [z, hos] at e1
        cases e1
        rw [hol] at r1
        simp at r1
      · rw [isT _ z] at e1
        cases e1
        cases r1
    · obtain ⟨bm, ob, b1, b2,
                              b3, b4, b5, b6⟩ := hbm
      have nG : bm ≠
                     mainGlobals := fun q => by
        obtain ⟨o, es, ep,
                           e, hd, _⟩ := hns
        rw [q, e] at b3
        cases b3
        rw [hd] at b6
        cases b6
      have nP : bm ≠
                     p.2 := fun q => by
        rw [q, hTp] at b3
        cases b3
        cases b6
      refine ⟨bm, ob, b1, b2, nG, nP, base_of b3 (Hn _ (fun z => ?_) (fun z => ?_) fun z => ?_), b4, b5, b6⟩
      · rw [z, ha] at b3
        cases b3
        cases b6
      · rw [z, hos] at b3
        cases b3
        rw [hol] at b4
        simp at b4
      · rw [isT _ z] at b3
        cases b3
        cases b6
    · obtain ⟨o, es,
                     ep, e, hd, _⟩ := hns
      rw [z, hTp] at e
      cases e
      cases hd
  have e0 : Env0 P w Γ.K mg (hidT s₁.heap H) callerA [] s₁ H := ⟨rfl, hM, fun b o e => of_hidT e, Nat.le_of_eq (hidT_size _ _), trivial, fun b hb => absurd (show b ∈ ([] : List Addr) from hb) (by simp), hok, .of_eq hg⟩
  obtain ⟨st, hC⟩ := hC
  have tabs0 : Tabs Γ.T H := fun p hp => by
    obtain ⟨c, hc⟩ := hT p hp
    exact TabS.nil (Ht _ (memT _ hc))
  have sp : SpM Γ C [.ref a] H (fun v _ => v = .bl true) fun _ _ _ => False := by
    refine ⟨⟨fun _ => a, 1, H⟩, [.frz (ns.map MV.int)], [.ref 0], rfl, ⟨rfl, fun k o e => ?_, fun j k h1 h2 _ => ?_, ⟨_, Hs⟩, tabs0, hP _⟩, .cons (.ref (k := 0) Nat.zero_lt_one) .nil, ?_⟩
    · cases k with
      | zero =>
        cases e
        exact ⟨_, Ha, .frz (vrs_ints ns)⟩
      | succ k => cases e
    · have h1 : j < 1 := h1
      have h2 : k < 1 := h2
      omega
    · rw [hC]
      intro W' v _ _ r
      cases r
      rfl
  refine codeAny_mono ((F _ hKb (nsK hns (by decide)) TB).run callerA [] s₁ H ⟨[.ref a], []⟩ [.ref a] [.ref a] _ _ hr e0 (hbind s₁ (.ref a)) (.cons rfl .nil) rfl sp) fun r s' h => ?_
  cases r with
  | error e =>
    obtain ⟨_, _, _, _, _, _, _, _, _, _, _, _, h⟩ := h
    exact h.elim
  | ok fl =>
    cases fl with
    | next => exact h.elim
    | brk => exact h.elim
    | cont => exact h.elim
    | ret u =>
      obtain ⟨v, H', ho, bare, un, hok', r', q⟩ := h
      obtain rfl : v = .bl true := q
      obtain rfl : u =
                       Value.bool true := r'
      have key : ∀ b o, b ∉ cs.map (·.2) → s₁.heap.get? b = some o → s'.heap.get? b = some o := fun b o h3 e => by
        have old : ∀ {ob : Obj} {u : HO}, H b = some (.frz ob u) → s'.heap.get? b = some o := fun {ob u} z => by
          have z2 := un.frzs b ob _ z
          obtain ⟨e1, _⟩ := hok b _ z
          obtain ⟨e2, _⟩ := hok' b _ z2
          rw [e] at e1
          cases e1
          exact e2
        by_cases h1 : b = a
        · subst h1
          exact old Ha
        · by_cases h2 : b = sysModules
          · subst h2
            exact old Hs
          · exact un.keep b o e (Hn b h1 h2 h3) (by intro z; exact absurd (show b ∈ ([] : List Addr) from z) (by simp)) (by simp)
      have grown : ∀ p ∈ cs, ∃ more : Array Value, s'.heap.get? p.2
                                                                    = some { cls := .none, data := .fields more } := fun p hp => by
        obtain ⟨more, z⟩ := un.tbls p.2 #[] (Ht _ (memT p hp))
        exact ⟨_, hok' p.2 _ z⟩
      refine ⟨rfl, ⟨fun b o e => ?_, fun b o e => ?_⟩, ho, bare⟩
      · by_cases hb :
                      b ∈ cs.map (·.2)
        · obtain ⟨p, hp, ep⟩ :=
                                List.mem_map.mp hb
          obtain ⟨more,
                        hm⟩ := grown p hp
          rw [← ep] at e ⊢
          rw [Y.tab p hp] at e
          cases e
          exact .inr (.inl ⟨((Y.code p hp).tab (Y.tab p hp)).isCodeTable, rfl, #[], more, rfl, by rw [Array.empty_append]; exact hm⟩)
        · exact .inl (key b o hb e)
      · by_cases hb :
                      b ∈ cs.map (·.2)
        · obtain ⟨p, hp, ep⟩ :=
                                List.mem_map.mp hb
          obtain ⟨more,
                        hm⟩ := grown p hp
          rw [← ep]
          exact ⟨_, hm⟩
        · exact ⟨o, key b o hb e⟩
/-- THE RULE of a law: its own def, by the machine -/
theorem walkM {l : PySem.W.OpenLaw} {n k : Nat} {q : Program} {loose : List Str} {XP : (Str → Option Value) → Heap → Prop} {YP : World → Heap → Prop} {d : DefRec} {x : Str}
    (hn : l.most = some n) (hn2 : n ≤ sizeLine) (hdf : d.params.defaults = []) (hr : RoomG k callerA)
    (F : ∀ (w : World) (mg : Str → Option Value) (fa : Addr) (h :
                                                                  Heap), YP w h → h.Ns mainGlobals mg → mg d.name = some (.ref fa) →
      ∃ (Γ : Gm) (fd : FuncData) (C : Cl) (cs : List (Addr × Addr)), Says Γ.K h cs ∧ (∀ W, Γ.P W) ∧ (∀ p ∈ Γ.T, ∃ c, (c, p.1) ∈ cs) ∧ (∀ (s : Shared) (u : Value), BindsTo s fd ⟨[u], []⟩ [(x, u)]) ∧
        (∀ ns : List Int, ns.length ≤ n → (∀ j ∈ ns, Builtin.Int.intBits j ≤ 1048576) → ∃ st, C [.ref 0] [.frz (ns.map MV.int)] = .ok (.bl true) st) ∧
        ∀ base : Heap, Γ.K.In base → base.Ns mainGlobals mg → (∀ p ∈ cs, TabB base mg p.1 p.2) → FnM Γ l.prog w mg base k fa fd [x] C) :
    PySem.W.WalkO q loose XP YP l.row.toRowW
                                             d [] (fun f vs => PySem.call f vs) := by
  refine Att.attach_callB hn hdf fun w s₀ s₁ mg mb fa o pm cd
                                                              doc a vs ns G Y ho hd hcd hmg hobj hints hlen hbits hg => ?_
  obtain ⟨Γ, fd, C, cs, hS, hP, hT, hb, hC, hF⟩ := F w mg fa _ Y G.T.g hmg
  exact law_callM hS G.T.g G.T.b G.T.builtins G.T.nolimit hg G.T.bmain hobj hints (Nat.le_trans hlen hn2) hr hP hT hF hb (hC ns hlen hbits)
end Mn
/-! Mn19: what the top leaves, as one Bool of the written part. -/
namespace Mn
open PySem PySem.Spec
                      PyProof.Rows L2

def frM (n : Nat) (g : Addr → Option Obj) : PySem.W.Frag := He.frT g (He.asD g n)
def obsM (n : Nat) (fn : List He.DefD) (ex : PySem.W.Frag → Bool) (tf : List He.Defn) (g : Addr → Option Obj) : He.AlD :=
  ((fn.all fun d => d.ok (frM n g)) && (ex (frM n g) && (He.tabsB g tf (frM n g) && (((frM n g).all fun p => p.2.cls != .type "list") && (((frM n g).lookup sysModules).isNone && (match g sysModules with
    | some o => decide (o.cls = .type "dict")
    | none => false))))), fn.map fun d => He.fnW (frM n g) d.at_)
structure SaysM (fn : List He.DefD) (ex : PySem.W.Frag → Bool) (tf : List He.Defn) (K : PySem.W.Frag) (h : Heap) : Prop where
  says : Says K h (tf.map (He.cT K))
  more : ex K = true
  defs : ∀ d ∈ fn, ∃ fd, FunD K d.name d.qual d.params d.body d.scope (d.dvs K) (d.kws K) (He.fAd K d.at_) fd
theorem saysM_of {n : Nat} {fn : List He.DefD} {ex : PySem.W.Frag → Bool} {tf : List He.Defn} {h : Heap} (e : obsM n fn ex tf h.get? = He.valD fn) : SaysM fn ex tf (frM n h.get?) h := by
  have e1 := congrArg
                      Prod.fst e
  have e2 := congrArg Prod.snd e
  have e1' : ((fn.all fun d => d.ok (frM n h.get?)) && (ex (frM n h.get?) && (He.tabsB h.get? tf (frM n h.get?) && (((frM n h.get?).all fun p => p.2.cls != .type "list") && (((frM n h.get?).lookup sysModules).isNone && (match h.get? sysModules with
    | some o => decide (o.cls = .type "dict")
    | none => false)))))) = true := e1
  simp only [Bool.and_eq_true] at e1'
  obtain ⟨a1, a2, at_, a3, a4, a5⟩ := e1'
  have key : ∀ p ∈ tf, PySem.W.codeHdIn (frM n h.get?) (He.cT (frM n h.get?) p).1 (He.cT (frM n h.get?) p).2 = true ∧ ∃ o, h.get? (He.cT (frM n h.get?) p).2 = some o ∧ He.emptyTab o = true := fun p hp => by
    obtain ⟨h3, h4⟩ := He.ba (List.all_eq_true.mp at_ p hp)
    refine ⟨h3, ?_⟩
    cases q : h.get? (He.cT (frM n h.get?) p).2 with
    | none =>
      rw [q] at h4
      cases h4
    | some o =>
      rw [q] at h4
      exact ⟨o, rfl, h4⟩
  refine ⟨⟨He.frT_in, a3, by simpa using a4, ?_, fun p hp => ?_, fun p hp => ?_, fun p hp => ?_⟩, a2, fun d hd => ?_⟩
  · split at a5
    · rename_i o eo
      exact ⟨o, eo, of_decide_eq_true a5⟩
    · cases a5
  · obtain ⟨q, hq, rfl⟩ := List.mem_map.mp hp
    obtain ⟨_, o, z, y⟩ := key q hq
    rw [z, He.emptyTab_eq y]
  · obtain ⟨q, hq, rfl⟩ := List.mem_map.mp hp
    obtain ⟨_, o, z, y⟩ := key q hq
    exact He.frT_none z y
  · obtain ⟨q, hq, rfl⟩ := List.mem_map.mp hp
    exact PySem.W.codeHd_of_K He.frT_in (key q hq).1
  · refine He.DefD.funD ?_ (List.all_eq_true.mp a1 d hd)
    exact List.map_inj_left.mp e2 d hd
theorem SaysM.keeps {fn : List He.DefD} {ex : PySem.W.Frag → Bool} {tf : List He.Defn} {K : PySem.W.Frag} {h h' : Heap} (s : SaysM fn ex tf K h) (k : ∀ (b : Addr) (o : Obj), h.get? b = some o → h'.get? b = some o) : SaysM fn ex tf K h' :=
  ⟨⟨PySem.W.Frag.In.keeps s.says.kin k, s.says.lst, s.says.sys, let ⟨o, e, n⟩ := s.says.has; ⟨o, k _ _ e, n⟩, fun p hp => k _ _ (s.says.tab p hp), s.says.out, fun p hp => (s.says.code p hp).keeps k⟩, s.more, s.defs⟩
def hookM (n : Nat) (fn : List He.DefD) (ex : PySem.W.Frag → Bool) (tf : List He.Defn) : PySem.W.Hook where
  α := He.AlD
  obs := fun s => obsM n fn ex tf s.heap.get?
  val := fun _ => He.valD fn
  says := fun _ h => ∃ K : PySem.W.Frag, SaysM fn ex tf K h
  of := fun _ _ e => ⟨_, saysM_of e⟩
  keeps := fun _ _ _ ⟨K, s⟩ k => ⟨K, s.keeps k⟩
theorem obsM_eq {n : Nat} {fn : List He.DefD} {ex : PySem.W.Frag → Bool} {tf : List He.Defn} {g : Addr → Option Obj} {s : Shared} (h : ∀ a, g a = s.heap.get? a) : obsM n fn ex tf g = (hookM n fn ex tf).obs s := by
  rw [funext h]
  rfl

/-! ### facts -/
/-- the text's classes: name, fields (of an exception), the own classes above it (itself among them), the built-in ones -/
structure Cd where
  name : Str
  fl : Option (List Str)
  own : List Nat
  up : List String
def cget (cl : List Cd) (c0 : Cd) (i : Nat) : Cd := (cl[i]?).getD c0
def subC (cl : List Cd) (c0 : Cd) (c : Nat) : CT → Bool
  | .own j => (cget cl c0 c).own.contains (if j < cl.length then j else 0)
  | .ty n => (cget cl c0 c).up.contains n
def fldC (cl : List Cd) (c : Nat) : Option (List Str) := (cl[c]?).bind (·.fl)
def rtOf (defs : List Fd) (d0 : Fd) (cl : List Cd) (c0 : Cd) (full : Nat → Cl) (lam : LamD → Cl) : Rt := ⟨posF defs d0 full, full, 0, [], 0, subC cl c0, fldC cl, lam⟩
/-- the defs that may make lambdas -/
def lms (defs : List Fd) : List Fd := defs.filter (·.lm)
def tfOf (defs : List Fd) : List He.Defn := (lms defs).map (·.d.at_)
def tOf (K : PySem.W.Frag) (defs : List Fd) : List (Addr × Str) := (lms defs).map fun f => ((He.cT K f.d.at_).2, f.d.qual ++ ".<locals>." ++ "<lambda>")
/-- tables are told apart -/
def lmB (defs : List Fd) (K : PySem.W.Frag) : Bool := (lms defs).all fun f => (lms defs).all fun g => !((He.cT K f.d.at_).2 == (He.cT K g.d.at_).2) || decide (f.d.qual = g.d.qual)
def gmOf (K : PySem.W.Frag) (defs : List Fd) (d0 : Fd) (cl : List Cd) (c0 : Cd) : Gm := ⟨K, fun i => He.fAd K (fget defs d0 i).d.at_, fun i => He.ga K (cget cl c0 i).name, tOf K defs, fun _ => True, fun _ h => h, none⟩
/-- a name's fact -/
def gB (defs : List Fd) (d0 : Fd) (cl : List Cd) (c0 : Cd) (K : PySem.W.Frag) (x : Str) : G → Bool
  | .fn i _ _ => (He.Fa.glo x).ok K && decide ((fget defs d0 i).d.at_ = (x, none))
  | .blt _ => (He.Fa.free x).ok K
  | .lib f => decide (PySem.W.nsIn K mainGlobals x = some (some f.val))
  | .range => (He.Fa.free x).ok K
  | .cst _ => false
  | .isi => (He.Fa.free x).ok K
  | .cls i => (He.Fa.glo x).ok K && decide ((cget cl c0 i).name = x)
  | .bty _ => (He.Fa.free x).ok K
/-- its fact of the built-in names -/
def bB (x : Str) : G → Bool
  | .blt f => decide (bootBuiltins x = some f.val)
  | .isi => decide (bootBuiltins x = some (.builtin "isinstance"))
  | .bty n => decide (bootBuiltins x = some (.type n))
  | _ => true
def isCB (cl : List Cd) (c0 : Cd) (K : PySem.W.Frag) : Bool := (c0 :: cl).all fun c => tys.all fun t => decide (PySem.W.kitOne K (.type t) (.ref (He.ga K c.name)) = some false)
def cvB (cl : List Cd) (c0 : Cd) (K : PySem.W.Frag) : CT → Value
  | .own i => .ref (He.ga K (cget cl c0 i).name)
  | .ty n => .type n
def ctsB (cl : List Cd) : List CT := (List.range cl.length).map CT.own ++ etys.map CT.ty
def clB (cl : List Cd) (c0 : Cd) (K : PySem.W.Frag) : Bool := (List.range cl.length).all fun c => match fldC cl c with
  | none => true
  | some fl => xcB K (He.ga K (cget cl c0 c).name) && (fl.all fun f => decide (PySem.W.findIn K (.ref (He.ga K (cget cl c0 c).name)) f = some none)) &&
    (ctsB cl).all fun ct => decide (PySem.W.kitOne K (.ref (He.ga K (cget cl c0 c).name)) (cvB cl c0 K ct) = some (subC cl c0 c ct)) &&
      (!(match ct with | .own j => (fldC cl j).isSome | .ty _ => true) || decide (PySem.W.exmOne K (.ref (He.ga K (cget cl c0 c).name)) (cvB cl c0 K ct) = some (subC cl c0 c ct)))
def exB (defs : List Fd) (d0 : Fd) (cl : List Cd) (c0 : Cd) (T : Tab) (K : PySem.W.Frag) : Bool := (T.m.all fun p => gB defs d0 cl c0 K p.1 p.2) && isCB cl c0 K && clB cl c0 K && lmB defs K
section
variable {defs : List Fd} {d0 : Fd} {cl : List Cd} {c0 : Cd} {T : Tab} {K : PySem.W.Frag} {h : Heap} {mg : Str → Option Value}
theorem lmB_of (e : exB defs d0 cl c0 T K = true) : lmB defs K = true := by
  unfold exB at e
  simp only
            [Bool.and_eq_true] at e
  exact e.2
theorem gl_of (X : K.In h) (G : h.Ns mainGlobals mg) (e : exB defs d0 cl c0 T K = true) (b : (T.m.all fun p => bB p.1 p.2) = true) : ∀ x g, T.m.lookup x = some g → GOk (gmOf K defs d0 cl c0) mg x g := by
  intro x g hl
  have hm : (x, g) ∈ T.m := by
    obtain ⟨l1, l2, el, _⟩ := List.lookup_eq_some_iff.mp hl
    rw [el]
    exact List.mem_append.mpr (.inr List.mem_cons_self)
  unfold exB at e
  simp only
            [Bool.and_eq_true] at e
  have e1 := List.all_eq_true.mp e.1.1.1 _ hm
  have b1 := List.all_eq_true.mp b _ hm
  constructor
  · rintro i np dms rfl
    have e2 : ((He.Fa.glo x).ok K && decide ((fget defs d0 i).d.at_ = (x, none))) = true := e1
    obtain ⟨h1, h2⟩ := He.ba e2
    have h3 := of_decide_eq_true h2
    show mg x = some (.ref (He.fAd K (fget defs d0 i).d.at_))
    rw [h3]
    exact He.glo_ok X G h1
  · rintro f rfl
    exact ⟨He.free_ok X G e1, of_decide_eq_true b1⟩
  · rintro f rfl
    exact PySem.W.mg_of X G (of_decide_eq_true e1)
  · rintro rfl
    exact He.free_ok X G e1
  · rintro c rfl
    cases e1
  · rintro rfl
    exact ⟨He.free_ok X G e1, of_decide_eq_true b1⟩
  · rintro i rfl
    have e2 : ((He.Fa.glo x).ok K && decide ((cget cl c0 i).name = x)) = true := e1
    obtain ⟨h1, h2⟩ := He.ba e2
    show mg x = some (.ref (He.ga K (cget cl c0 i).name))
    rw [of_decide_eq_true h2]
    exact He.glo_ok X G h1
  · rintro n rfl
    exact ⟨He.free_ok X G e1, of_decide_eq_true b1⟩
theorem cget_mem (i : Nat) : cget cl c0 i ∈ c0 :: cl := by
  unfold cget
  cases e : cl[i]? with
  | none => exact List.mem_cons_self
  | some c => exact List.mem_cons_of_mem _ (List.mem_of_getElem? e)
theorem isC_of (e : exB defs d0 cl c0 T K = true) : IsC (gmOf K defs d0 cl c0) := by
  unfold exB at e
  simp only
            [Bool.and_eq_true] at e
  intro t ht i
  exact of_decide_eq_true (List.all_eq_true.mp (List.all_eq_true.mp e.1.1.2 _ (cget_mem i)) t ht)
theorem fld_lt {c : Nat} {fl : List Str} (h : fldC cl c = some fl) : c < cl.length := by
  unfold fldC at h
  cases e : cl[c]? with
  | none =>
            rw [e] at h; cases h
  | some _ => exact (List.getElem?_eq_some_iff.mp e).1
theorem cl_of (h0 : cl[0]? = some c0) (e : exB defs d0 cl c0 T K = true) (call : Nat → Cl) (lam : LamD → Cl) : ClsOk (gmOf K defs d0 cl c0) (rtOf defs d0 cl c0 call lam) := by
  unfold exB at e
  simp only
            [Bool.and_eq_true] at e
  have main : ∀ c fl, fldC cl c = some fl → (xcB K (He.ga K (cget cl c0 c).name) = true ∧ (fl.all fun f => decide (PySem.W.findIn K (.ref (He.ga K (cget cl c0 c).name)) f = some none)) = true) ∧
      ∀ ct ∈ ctsB cl, PySem.W.kitOne K (.ref (He.ga K (cget cl c0 c).name)) (cvB cl c0 K ct) = some (subC cl c0 c ct) ∧ (hOk (rtOf defs d0 cl c0 call lam) ct = true → PySem.W.exmOne K (.ref (He.ga K (cget cl c0 c).name)) (cvB cl c0 K ct) = some (subC cl c0 c ct)) := by
    intro c fl hfl
    have z := List.all_eq_true.mp e.1.2 c (List.mem_range.mpr (fld_lt hfl))
    rw [hfl] at z
    simp only [Bool.and_eq_true] at z
    refine ⟨z.1, fun ct hm => ?_⟩
    have y := List.all_eq_true.mp z.2 ct hm
    simp only [Bool.and_eq_true] at y
    refine ⟨of_decide_eq_true y.1, fun ho => ?_⟩
    have y2 := y.2
    rw [Bool.or_eq_true] at y2
    rcases y2 with y2 | y2
    · cases ct with
      | own j =>
        have ho' : (fldC cl j).isSome = true := ho
        simp [ho'] at y2
      | ty n => simp at y2
    · exact of_decide_eq_true y2
  -- an index out of the range stands for the first class
  have norm : ∀ ct, (∀ n, ct = .ty n → n ∈ etys) → ∃ ct' ∈ ctsB cl, cvB cl c0 K ct = cvB cl c0 K ct' ∧ (∀ c, subC cl c0 c ct = subC cl c0 c ct') ∧ (hOk (rtOf defs d0 cl c0 call lam) ct = true → ct = ct' ) := by
    intro ct ht
    cases ct with
    | ty n => exact ⟨.ty n, List.mem_append.mpr (.inr (List.mem_map.mpr ⟨n, ht n rfl, rfl⟩)), rfl, fun _ => rfl, fun _ => rfl⟩
    | own j =>
      by_cases hj : j < cl.length
      · exact ⟨.own j, List.mem_append.mpr (.inl (List.mem_map.mpr ⟨j, List.mem_range.mpr hj, rfl⟩)), rfl, fun _ => rfl, fun _ => rfl⟩
      · have hl : 0 < cl.length := (List.getElem?_eq_some_iff.mp h0).1
        refine ⟨.own 0, List.mem_append.mpr (.inl (List.mem_map.mpr ⟨0, List.mem_range.mpr hl, rfl⟩)), ?_, fun c => ?_, fun ho => ?_⟩
        · show Value.ref _ = Value.ref _
          have : cget cl c0 j = cget cl c0 0 := by
            unfold cget
            rw [h0, List.getElem?_eq_none (by omega)]
            rfl
          rw [this]
        · show List.contains _ _ = List.contains _ _
          rw [if_neg hj, if_pos hl]
        · have ho' : (fldC cl j).isSome = true := ho
          obtain ⟨fl, hfl⟩ := Option.isSome_iff_exists.mp ho'
          exact absurd (fld_lt hfl) hj
  have cvEq : ∀ ct, cvOf (gmOf K defs d0 cl c0) ct = cvB cl c0 K ct := fun ct => by cases ct <;> rfl
  refine ⟨fun c fl hfl => ?_, fun c fl hfl ct ht => ?_, fun c fl hfl ct ho ht => ?_⟩
  · obtain ⟨⟨a, b⟩, _⟩ := main c fl hfl
    exact ⟨xcB_ok a, fun f hf => of_decide_eq_true (List.all_eq_true.mp b f hf)⟩
  · obtain ⟨_, m⟩ := main c fl hfl
    obtain ⟨ct', hm, h1, h2, _⟩ := norm ct ht
    rw [cvEq, h1]
    show _ = some (subC cl c0 c ct)
    rw [h2]
    exact (m ct' hm).1
  · obtain ⟨_, m⟩ := main c fl hfl
    obtain ⟨ct', hm, h1, h2, h3⟩ := norm ct ht
    have := h3 ho
    subst this
    rw [cvEq]
    exact (m ct hm).2 ho
end
end Mn
/-! Mn20: how a def's arguments bind; the law's whole. -/
namespace Mn
open PySem PySem.Spec
                      PyProof.Rows L2

/-- of every list of n values -/
def BindAt {α : Type} : Nat → (List α → Prop) → Prop
  | 0, P => P []
  | n + 1, P => ∀ a, BindAt n fun us => P (a :: us)
theorem bindAt_of {α : Type} : ∀ {n : Nat} {P : List α → Prop}, BindAt n P → ∀ us, us.length = n → P us
  | 0, _, h, [], _ => h
  | n + 1, _, h, a :: us, e => bindAt_of (h a) us (by simpa using e)
theorem mvDv_ok {Γ : Gm} {W : Wd} {d : He.Dv} {x : MV} (h : mvDv d = some x) : VR Γ W x (He.Dv.v Γ.K d) := by
  cases d <;> cases h
  · exact .non
  · exact .bl _
  · exact .int _
  · exact .str _
  · exact .ty _
theorem mvDvs_ok {Γ : Gm} {W : Wd} : ∀ {ds : List He.Dv} {xs : List MV}, mapO mvDv ds = some xs → VRs Γ W xs (ds.map (He.Dv.v Γ.K))
  | [], _, h => by cases h; exact .nil
  | d :: ds, _, h => by
    unfold mapO at h
    split at h
    · rename_i h1 h2
      cases h
      exact .cons (mvDv_ok h1) (mvDvs_ok h2)
    · cases h
theorem mapO_drop {α β : Type} {f : α → Option β} : ∀ {ds : List α} {xs : List β} (j : Nat), mapO f ds = some xs → mapO f (ds.drop j) = some (xs.drop j)
  | ds, xs, 0, h => h
  | [], _, j + 1, h => by cases h; rfl
  | d :: ds, _, j + 1, h => by
    unfold mapO at h
    split at h
    · rename_i h1 h2
      cases h
      exact mapO_drop j h2
    · cases h
/-- how a def of plain parameters binds: no defaults -/
def Bind0 (f : Fd) : Prop := ∀ (kV doc pm : Value) (an : Option Addr) (cdv ct : Value), BindAt f.ps.length fun us => bindArgs (PySem.W.fnOf f.d.name f.d.qual f.d.params f.d.body f.d.scope .none kV doc pm an cdv ct) ⟨us, []⟩ = pure (f.ps.zip us)
/-- with defaults, n values written -/
def Bind1 (f : Fd) (n : Nat) : Prop := ∀ (T : Addr) (kV doc pm : Value) (an : Option Addr) (cdv ct : Value), BindAt n fun us => BindAt f.d.dfl.length fun its =>
  ∃ k, bindArgs (PySem.W.fnOf f.d.name f.d.qual f.d.params f.d.body f.d.scope (.ref T) kV doc pm an cdv ct) ⟨us, []⟩ = seqItems? (.ref T) >>= k ∧ k (some its.toArray) = pure (f.ps.zip (us ++ its.drop (n + its.length - f.ps.length)))
theorem bind0_ok {Γ : Gm} {f : Fd} {a : Addr} {fd : FuncData} (F : FunD Γ.K f.d.name f.d.qual f.d.params f.d.body f.d.scope (f.d.dvs Γ.K) (f.d.kws Γ.K) a fd) (hd : f.d.dfl = []) (b : Bind0 f) {n : Nat} {ds : List Value} (hn : n = f.ps.length) (hds : ds = []) : BindD Γ.K fd f.ps n ds := by
  have e : f.d.dvs Γ.K = [] := by unfold He.DefD.dvs; rw [hd]; rfl
  rw [e] at F
  have B := FunD.bindsN (ps := f.ps) F fun kV doc pm an cdv ct us hl => bindAt_of (b kV doc pm an cdv ct) us hl
  intro s us X hl h2
  subst hds
  exact B s us X (by rw [List.append_nil, hl, hn])
theorem bind1_ok {Γ : Gm} {f : Fd} {a : Addr} {fd : FuncData} (F : FunD Γ.K f.d.name f.d.qual f.d.params f.d.body f.d.scope (f.d.dvs Γ.K) (f.d.kws Γ.K) a fd) (hd : f.d.dfl ≠ []) {n : Nat} (b : Bind1 f n) (h1 : n ≤ f.ps.length) (h2 : f.ps.length ≤ n + f.d.dfl.length) :
    ∃ ds, Vals ((f.d.dvs Γ.K).drop (n + f.d.dfl.length - f.ps.length)) ds ∧ BindD Γ.K fd f.ps n ds := by
  have el : (f.d.dvs Γ.K).length = f.d.dfl.length := by unfold He.DefD.dvs; rw [List.length_map]
  obtain ⟨ds, hv, B⟩ := FunD.binds1 (ps := f.ps) F n (n + f.d.dfl.length - f.ps.length) (by intro z; rw [z] at el; exact hd (List.length_eq_zero_iff.mp el.symm)) (by rw [el]; omega) fun T kV doc pm an cdv ct us its hl hi => by
    obtain ⟨k, e1, e2⟩ := bindAt_of (bindAt_of (b T kV doc pm an cdv ct) us hl) its (by rw [hi, el])
    rw [hi, el] at e2
    exact ⟨k, e1, e2⟩
  refine ⟨ds, hv, fun s us X hl h3 => B s us X (by rw [List.length_append, hl, h3])⟩
/-- a def's binding: no defaults; defaults; a star behind plain parameters -/
def BindOk (f : Fd) : Prop := (f.star = false ∧ f.d.dfl = [] ∧ Bind0 f) ∨ (f.star = false ∧ f.d.dfl ≠ [] ∧ f.d.dfl.length ≤ f.ps.length ∧ (mapO mvDv f.d.dfl).isSome = true ∧ ∀ j, j ≤ f.d.dfl.length → Bind1 f (f.ps.length - j)) ∨
  (f.star = true ∧ f.d.dfl = [] ∧ ∃ ps pv, f.ps = ps ++ [pv] ∧ ∀ (kV doc pm : Value) (an : Option Addr) (cdv ct : Value), BindS (PySem.W.fnOf f.d.name f.d.qual f.d.params f.d.body f.d.scope .none kV doc pm an cdv ct) ps pv)
/-- how a call with keywords binds: every parameter is given -/
def BindKOk (f : Fd) (n : Nat) (kn : List Str) (pm : List Nat) : Prop :=
  (f.d.dfl = [] ∧ ∀ (kV doc p : Value) (an : Option Addr) (cdv ct : Value), BindAt n fun us => BindAt kn.length fun ws => bindArgs (PySem.W.fnOf f.d.name f.d.qual f.d.params f.d.body f.d.scope .none kV doc p an cdv ct) ⟨us, kn.zip ws⟩ = pure (f.ps.zip (perm pm (us ++ ws)))) ∨
  (f.d.dfl ≠ [] ∧ ∀ (T : Addr) (kV doc p : Value) (an : Option Addr) (cdv ct : Value), BindAt n fun us => BindAt kn.length fun ws => BindAt f.d.dfl.length fun its =>
    ∃ k, bindArgs (PySem.W.fnOf f.d.name f.d.qual f.d.params f.d.body f.d.scope (.ref T) kV doc p an cdv ct) ⟨us, kn.zip ws⟩ = seqItems? (.ref T) >>= k ∧ k (some its.toArray) = pure (f.ps.zip (perm pm (us ++ ws))))
theorem bindK_ok {Γ : Gm} {f : Fd} {a : Addr} {fd : FuncData} (F : FunD Γ.K f.d.name f.d.qual f.d.params f.d.body f.d.scope (f.d.dvs Γ.K) (f.d.kws Γ.K) a fd) {n : Nat} {kn : List Str} {pm : List Nat} (b : BindKOk f n kn pm) : BindK Γ.K fd f.ps n kn pm := by
  obtain ⟨oc, od, dV, kV, doc, p, an, cdv, ct, osl, rfl, lk, hcd, hD, hK⟩ := F.ex
  intro s us ws X hl hw
  rcases hD with ⟨e, rfl⟩ | ⟨e, T, o, its, m, rfl, lT, oT, rT⟩
  · have e' : f.d.dfl = [] := List.map_eq_nil_iff.mp e
    rcases b with ⟨_, b⟩ | ⟨b, _⟩
    · exact .of_eq (bindAt_of (bindAt_of (b kV doc p an cdv ct) us hl) ws hw)
    · exact absurd e' b
  · have e' : f.d.dfl ≠ [] := fun z => e (by unfold He.DefD.dvs; rw [z]; rfl)
    rcases b with ⟨b, _⟩ | ⟨_, b⟩
    · exact absurd b e'
    · have li : its.length = f.d.dfl.length := by rw [← rT.length, He.DefD.dvs, List.length_map]
      obtain ⟨k, e1, e2⟩ := bindAt_of (bindAt_of (bindAt_of (b T kV doc p an cdv ct) us hl) ws hw) its li
      refine BindsTo.of_looks
                              fun M => ?_
      rw [e1]
      exact looks_items X
                          lT oT (.of_pure e2)
def KwOk (defs : List Fd) (d0 : Fd) (T : Tab) : Prop := ∀ x n kn i pm, ((x, n, kn), (i, pm)) ∈ T.kw → BindKOk (fget defs d0 i) n kn pm ∧ ∃ np dms, T.m.lookup x = some (.fn i np dms)
theorem defOk_of {Γ : Gm} {T : Tab} {defs : List Fd} {d0 : Fd} {i : Nat} {fd : FuncData} (F : FunD Γ.K (fget defs d0 i).d.name (fget defs d0 i).d.qual (fget defs d0 i).d.params (fget defs d0 i).d.body (fget defs d0 i).d.scope ((fget defs d0 i).d.dvs Γ.K) ((fget defs d0 i).d.kws Γ.K) (Γ.fa i) fd)
    (hb : BindOk (fget defs d0 i)) (hk : KwOk defs d0 T) (sc : FnScope (fget defs d0 i).N (fget defs d0 i).ps (fget defs d0 i).d.scope) (tr : trSs ((fget defs d0 i).tab T) (fget defs d0 i).N TF (fget defs d0 i).d.scope (fget defs d0 i).as (fget defs d0 i).d.body = some (fget defs d0 i).m)
    {TB : Addr → Addr → Prop} (lm : (fget defs d0 i).lm = true → ∃ c P, fd.code = .ref c ∧ (P, (fget defs d0 i).d.qual ++ ".<locals>." ++ "<lambda>") ∈ Γ.T ∧ (∀ p ∈ Γ.T, p.1 = P → p.2 = (fget defs d0 i).d.qual ++ ".<locals>." ++ "<lambda>") ∧ TB c P) :
    DefOk Γ T TB (fget defs d0 i) i fd := by
  refine ⟨?_, F.kp, fun hs n h1 h2 => ?_, fun hs => ?_, fun x n kn pm hl => ?_, sc, tr, lm⟩
  · obtain ⟨oc, od, dV, kV, doc, pm, an, cdv, ct, osl, h1, h2, h3, _⟩ := F.ex
    exact ⟨oc, od, dV, kV, doc, pm, an, cdv, ct, osl, h1, h2, h3⟩
  · rcases hb with ⟨_, g1, g2⟩ | ⟨_, g1, g2, g3, g4⟩ | ⟨g0, _⟩
    · have hd : (fget defs d0 i).dms = [] := by unfold Fd.dms; rw [g1]; rfl
      rw [hd] at h2 ⊢
      rw [List.length_nil] at h2
      exact ⟨[], bind0_ok F g1 g2 (by omega) rfl, fun W => ⟨[], by rw [List.drop_nil]; exact .nil, .nil⟩⟩
    · obtain ⟨dms, e2⟩ := Option.isSome_iff_exists.mp g3
      have ed : (fget defs d0 i).dms = dms := by unfold Fd.dms; rw [e2]; rfl
      have ld := mapO_len e2
      rw [ed] at h2 ⊢
      have g5 := g4 ((fget defs d0 i).ps.length - n) (by omega)
      rw [show (fget defs d0 i).ps.length - ((fget defs d0 i).ps.length - n) = n by omega] at g5
      obtain ⟨ds, hv, B⟩ := bind1_ok F g1 g5 (by omega) (by omega)
      refine ⟨ds, B, fun W => ⟨_, ?_, hv⟩⟩
      rw [ld]
      have := mvDvs_ok (Γ := Γ) (W := W) (mapO_drop (n + (fget defs d0 i).d.dfl.length - (fget defs d0 i).ps.length) e2)
      rw [List.map_drop] at this
      exact this
    · rw [g0] at hs; cases hs
  · rcases hb with ⟨g0, _⟩ | ⟨g0, _⟩ | ⟨_, g1, ps, pv, g2, g3⟩
    · rw [g0] at hs; cases hs
    · rw [g0] at hs; cases hs
    · obtain ⟨oc, od, dV, kV, doc, pm, an, cdv, ct, osl, e, h2, h3, hD, _⟩ := F.ex
      have hdV : dV = .none := by
        rcases hD with ⟨_, z⟩ | ⟨z, _⟩
        · exact z
        · exact absurd (by unfold He.DefD.dvs; rw [g1]; rfl) z
      rw [e, hdV]
      exact ⟨ps, pv, g2, g3 kV doc pm an cdv ct⟩
  · have hm : ((x, n, kn), (i, pm)) ∈ T.kw := by
      obtain ⟨l1, l2, el, _⟩ := List.lookup_eq_some_iff.mp hl
      rw [el]
      exact List.mem_append.mpr (.inr List.mem_cons_self)
    exact bindK_ok F (hk x n kn i pm hm).1
end Mn
/-! Mn21: the law's whole. -/
namespace Mn
open PySem PySem.Spec
                      PyProof.Rows L2

/-- a text as the machine takes it -/
structure Txt where
  defs : List Fd
  d0 : Fd
  cl : List Cd
  c0 : Cd
  T : Tab
  law : Nat
/-- what is true of a text whatever ran -/
structure Txt.Ok (t : Txt) : Prop where
  h0 : t.defs[0]? = some t.d0
  k0 : t.cl[0]? = some t.c0
  cm : t.T.cm = true
  xn : t.T.xn = none
  bb : (t.T.m.all fun p => bB p.1 p.2) = true
  kw : KwOk t.defs t.d0 t.T
  ec : ∀ e ∈ t.T.ec, ∃ fl, fldC t.cl e = some fl ∧ fl ≠ []
  bind : ∀ f ∈ t.defs, BindOk f
  sc : ∀ f ∈ t.defs, FnScope f.N f.ps f.d.scope
  tr : ∀ f ∈ t.defs, trSs (f.tab t.T) f.N TF f.d.scope f.as f.d.body = some f.m
def Txt.run (t : Txt) (n i : Nat) : Cl := callN t.T t.defs t.d0 (rtOf t.defs t.d0 t.cl t.c0) n i
def Txt.lamr (t : Txt) (n : Nat) (d : LamD) : Cl := lamN t.T t.defs t.d0 (rtOf t.defs t.d0 t.cl t.c0) n d
/-- what a def that may go n deep asks -/
def Txt.rt (t : Txt) (n : Nat) : Rt := rtOf t.defs t.d0 t.cl t.c0 (t.run n) (t.lamr n)
def Txt.gm (t : Txt) (K : PySem.W.Frag) : Gm := gmOf K t.defs t.d0 t.cl t.c0
theorem fget_mem {t : Txt} (h0 : t.defs[0]? = some t.d0) (i : Nat) : fget t.defs t.d0 i ∈ t.defs := by
  unfold fget
  cases e : t.defs[i]? with
  | none => exact List.mem_of_getElem? h0
  | some f => exact List.mem_of_getElem? e
theorem txt_ok {t : Txt} (ok : t.Ok) {fn : List He.DefD} {ex : PySem.W.Frag → Bool} (hfn : ∀ f ∈ t.defs, f.d ∈ fn) {K : PySem.W.Frag} {h : Heap} {mg : Str → Option Value} (s : SaysM fn ex (tfOf t.defs) K h) (hex : ex K = true → exB t.defs t.d0 t.cl t.c0 t.T K = true) (G : h.Ns mainGlobals mg)
    {P : Program} {w : World} {base : Heap} (mk : ∀ n, MkOk t.T.ec (t.gm K) (rtOf t.defs t.d0 t.cl t.c0 (fun _ _ _ => .stk) fun _ _ _ => .stk) (n + 3) P w mg base)
    (mv : ∀ n, MkV t.T.vc t.T.ck (t.gm K) (rtOf t.defs t.d0 t.cl t.c0 (fun _ _ _ => .stk) fun _ _ _ => .stk) (n + 3) P w mg base) (tb : ∀ p ∈ (tfOf t.defs).map (He.cT K), LamX.TabB base mg p.1 p.2) : TxtOk (t.gm K) t.T (rtOf t.defs t.d0 t.cl t.c0) t.defs t.d0 P w mg base where
  xs := rfl
  cm := ok.cm
  xn := ok.xn
  isC := isC_of (hex s.more)
  gl := gl_of s.says.kin G (hex s.more) ok.bb
  gk := fun x n kn i pm hl => by
    have hm : ((x, n, kn), (i, pm)) ∈ t.T.kw := by
      obtain ⟨l1, l2, el, _⟩ := List.lookup_eq_some_iff.mp hl
      rw [el]
      exact List.mem_append.mpr (.inr List.mem_cons_self)
    obtain ⟨_, np, dms, e⟩ := ok.kw x n kn i pm hm
    exact (gl_of s.says.kin G (hex s.more) ok.bb x _ e).fn i np dms rfl
  df := fun i => by
    have hm := fget_mem ok.h0 i
    obtain ⟨fd, F⟩ := s.defs _ (hfn _ hm)
    refine ⟨fd, defOk_of F (ok.bind _ hm) ok.kw (ok.sc _ hm) (ok.tr _ hm) fun hl => ?_⟩
    obtain ⟨oc, od, dV, kV, doc, pm, an, cdv, ct, osl, rfl, lk, hcd, _⟩ := F.ex
    obtain ⟨c, rfl⟩ := He.codeIn_ref hcd
    have ec : He.codeOf K (fget t.defs t.d0 i).d.at_ = c := He.codeOf_eq lk rfl
    have mem : fget t.defs t.d0 i ∈ lms t.defs := List.mem_filter.mpr ⟨hm, hl⟩
    refine ⟨c, (He.cT K (fget t.defs t.d0 i).d.at_).2, rfl, List.mem_map.mpr ⟨_, mem, rfl⟩, fun p hp e => ?_, ?_⟩
    · obtain ⟨f, hf, rfl⟩ := List.mem_map.mp hp
      have b := List.all_eq_true.mp (List.all_eq_true.mp (lmB_of (hex s.more)) f hf) _ mem
      rw [Bool.or_eq_true] at b
      rcases b with b | b
      · simp only [Bool.not_eq_true', beq_eq_false_iff_ne, ne_eq] at b
        exact absurd e b
      · show f.d.qual ++ _ ++ _ = _
        rw [of_decide_eq_true b]
    · have := tb (He.cT K (fget t.defs t.d0 i).d.at_) (List.mem_map.mpr ⟨_, List.mem_map.mpr ⟨_, mem, rfl⟩, rfl⟩)
      have e1 : (He.cT K (fget t.defs t.d0 i).d.at_).1 = c := ec
      rw [e1] at this
      exact this
  full := fun _ _ => rfl
  call := fun _ _ => rfl
  lam := fun _ _ => rfl
  cl := fun c l => cl_of ok.k0 (hex s.more) c l
  ec := fun _ _ => ok.ec
  mkx := fun _ _ n => mk n
  mkv := fun _ _ n => mv n
theorem law_F {t : Txt} (ok : t.Ok) {fn : List He.DefD} {ex : PySem.W.Frag → Bool} (hfn : ∀ f ∈ t.defs, f.d ∈ fn) {K : PySem.W.Frag} {h : Heap} {mg : Str → Option Value} (s : SaysM fn ex (tfOf t.defs) K h) (hex : ex K = true → exB t.defs t.d0 t.cl t.c0 t.T K = true) (G : h.Ns mainGlobals mg)
    {x y : Str} {fa : Addr} {n m : Nat} (hmg : mg y = some (.ref fa)) (hy : t.T.m.lookup y = some (.fn t.law 1 [])) (hx : (fget t.defs t.d0 t.law).ps = [x]) (hd : (fget t.defs t.d0 t.law).d.dfl = []) (hst : (fget t.defs t.d0 t.law).star = false) {P : Program} {w : World}
    (mk : ∀ (base : Heap) n, K.In base → base.Ns mainGlobals mg → MkOk t.T.ec (t.gm K) (rtOf t.defs t.d0 t.cl t.c0 (fun _ _ _ => .stk) fun _ _ _ => .stk) (n + 3) P w mg base)
    (mv : ∀ (base : Heap) n, K.In base → base.Ns mainGlobals mg → MkV t.T.vc t.T.ck (t.gm K) (rtOf t.defs t.d0 t.cl t.c0 (fun _ _ _ => .stk) fun _ _ _ => .stk) (n + 3) P w mg base)
    (hev : ∀ ns : List Int, ns.length ≤ m → (∀ j ∈ ns, Builtin.Int.intBits j ≤ 1048576) → ∃ st, t.run n t.law [.ref 0] [.frz (ns.map MV.int)] = .ok (.bl true) st) :
    ∃ (Γ : Gm) (fd : FuncData) (C : Cl) (cs : List (Addr × Addr)), Says Γ.K h cs ∧ (∀ W, Γ.P W) ∧ (∀ p ∈ Γ.T, ∃ c, (c, p.1) ∈ cs) ∧ (∀ (s : Shared) (u : Value), BindsTo s fd ⟨[u], []⟩ [(x, u)]) ∧
        (∀ ns : List Int, ns.length ≤ m → (∀ j ∈ ns, Builtin.Int.intBits j ≤ 1048576) → ∃ st, C [.ref 0] [.frz (ns.map MV.int)] = .ok (.bl true) st) ∧
        ∀ base : Heap, Γ.K.In base → base.Ns mainGlobals mg → (∀ p ∈ cs, LamX.TabB base mg p.1 p.2) → FnM Γ P w mg base (n + 3) fa fd [x] C := by
  have hm := fget_mem ok.h0 t.law
  have hfa : fa = (t.gm K).fa t.law := by
    have := (gl_of s.says.kin G (hex s.more) ok.bb y _ hy).fn _ _ _ rfl
    have e := hmg.symm.trans this
    exact Value.ref.inj (Option.some.inj e)
  obtain ⟨fd0, F0⟩ := s.defs _ (hfn _ hm)
  obtain ⟨oc, od, dV, kV, doc, pm, an, cdv, ct, osl, efd, lk, hcd, hD, hK⟩ := F0.ex
  have hdV : dV = .none := by
    rcases hD with ⟨_, e⟩ | ⟨e, _⟩
    · exact e
    · exact absurd (show (fget t.defs t.d0 t.law).d.dvs K = [] from by unfold He.DefD.dvs; rw [hd]; rfl) e
  refine ⟨t.gm K, fd0, t.run n t.law, _, s.says, fun _ => True.intro, fun p hp => ?_, fun s' u => ?_, hev, fun base hb hn htb => ?_⟩
  · obtain ⟨f, hf, rfl⟩ := List.mem_map.mp hp
    exact ⟨_, List.mem_map.mpr ⟨_, List.mem_map.mpr ⟨f, hf, rfl⟩, rfl⟩⟩
  · rcases ok.bind _ hm with ⟨_, _, b⟩ | ⟨_, b, _⟩ | ⟨b, _⟩
    · have e := bindAt_of (b kV doc pm an cdv ct) [u] (by rw [hx]; rfl)
      rw [hx] at e
      rw [efd, hdV]
      exact .of_eq e
    · exact absurd hd b
    · rw [hst] at b; cases b
  · obtain ⟨fd, D, F, _⟩ := (fnM_all (txt_ok ok hfn s hex G (fun n => mk base n hb hn) (fun n => mv base n hb hn) htb) n).1 t.law
    obtain ⟨oc', od', dV', kV', doc', pm', an', cdv', ct', osl', efd', lk', _⟩ := D.lk
    have e : fd = fd0 := by
      have z : (t.gm K).K.lookup ((t.gm K).fa t.law) = some ⟨oc, od, .func fd0, osl⟩ := lk
      rw [lk'] at z
      cases z
      rfl
    subst e
    rw [hx] at F
    rw [hfa]
    exact F
end Mn
namespace Mn
open PySem PySem.Spec
                      PyProof.Rows L2
def AllP {α : Type} (P :
                         α → Prop) : List α → Prop
  | [] => True
  | p :: r => P p ∧ AllP P r
theorem allP_mem {α : Type} {P : α → Prop} : ∀ {l : List α}, AllP P l → ∀ x ∈ l, P x
  | _ :: _, h, x, m => by
    rcases List.mem_cons.mp m with rfl | m
    · exact h.1
    · exact allP_mem h.2 x m
theorem kwOk_of {defs : List Fd} {d0 : Fd} {T : Tab} (h : AllP (fun p : (Str × Nat × List Str) × (Nat × List Nat) => BindKOk (fget defs d0 p.2.1) p.1.2.1 p.1.2.2 p.2.2 ∧ ∃ np dms, T.m.lookup p.1.1 = some (.fn p.2.1 np dms)) T.kw) : KwOk defs d0 T := fun x n kn i pm m => allP_mem h ((x, n, kn), (i, pm)) m
theorem ecOk_of {cl : List Cd} {l : List Nat} (h : AllP (fun e => ∃ fl, fldC cl e = some fl ∧ fl ≠ []) l) : ∀ e ∈ l, ∃ fl, fldC cl e = some fl ∧ fl ≠ [] := allP_mem h
theorem allF_of {P : Fd → Prop} {l : List Fd} (h : AllP P l) : ∀ f ∈ l, P f := allP_mem h
end Mn
/-! Mn22: exceptions of own classes whose __init__ keeps its arguments. -/
namespace Mn
open PySem PySem.Spec
                      PyProof.Rows L2

/-- self.f = p, one after another -/
inductive IB (self : Str) (N : List Str) : List Stmt → List (Str × Nat) → Prop
  | nil : IB self N [] []
  | cons {f p : Str} {i : Nat} {p1 p2 p3 p4 : Pos} {b : List Stmt} {l : List (Str × Nat)} : N[i]? = some p → (p == ("__debug__" : Str)) = false → (p == ("__classdict__" : Str)) = false → IB self N b l → IB self N (.Assign [.Attribute (.Name self p1) f p2] (.Name p p3) p4 :: b) ((f, i) :: l)
/-- the fields behind it -/
def acc (σ : L2.St) : List (Str × Nat) → List (Str × V) → List (Str × V)
  | [], fs => fs
  | (f, i) :: l, fs => acc σ l ((f, match (σ : List (Option V))[i]? with | some (some v) => v | _ => .non) :: fs)
/-- what the body asks -/
def tInit (K : PySem.W.Frag) (l : List (Str × Nat)) : TS := fun D σ H => ∃ a C : Addr, (σ : List (Option V))[0]? = some (some (.ref a)) ∧ OexG K C ∧ (∀ q ∈ l, PySem.W.findIn K (.ref C) q.1 = some none) ∧ (∀ q ∈ l, ∃ v, (σ : List (Option V))[q.2]? = some (some v)) ∧
  ((l ≠ [] ∧ l.length ≤ 900 ∧ H a = some (exo a C none) ∧ ∀ dx, H dx = none → dx ≠ a → D.nx σ (upd (upd H dx (exd dx (acc σ l []))) a (exo a C (some dx)))) ∨
    ∃ (dx : Addr) (fs : List (Str × V)), dx ≠ a ∧ H a = some (exo a C (some dx)) ∧ H dx = some (exd dx fs) ∧ fs.length + l.length ≤ 900 ∧ D.nx σ (upd H dx (exd dx (acc σ l fs))))
theorem upd_self {H : Hp} {a : Addr} {u : HO} (h : H a = some u) : upd H a u = H := by
  funext b
  unfold upd
  split
  · rename_i e
    subst e
    exact h.symm
  · rfl
theorem upd_swap {H : Hp} {a b : Addr} {u v w : HO} (h : b ≠ a) : upd (upd (upd H b u) a v) b w = upd (upd H b w) a v := by
  funext c
  unfold upd
  by_cases h1 : c = b
  · subst h1
    rw [if_pos rfl, if_neg h, if_pos rfl]
  · rw [if_neg h1]
    by_cases h2 : c = a
    · rw [if_pos h2, if_pos h2]
    · rw [if_neg h2, if_neg h2, if_neg h1, if_neg h1]
theorem ib_run {X : Cx} {self : Str} (h0 : X.N[0]? = some self) (hv : ∀ x, x ∈ X.N → Vis X.env.scope x) (d1 : (self == ("__debug__" : Str)) = false) (d2 : (self == ("__classdict__" : Str)) = false) : ∀ {b : List Stmt} {l : List (Str × Nat)}, IB self X.N b l → PSs X b (tInit X.K l) := by
  intro b l h
  induction h with
  | nil =>
    refine pss_imp pss_nil fun D σ H ⟨a, C, _, _, _, _, h⟩ => ?_
    rcases h with ⟨z, _⟩ | ⟨dx, fs, _, _, e2, _, h⟩
    · exact absurd rfl z
    · have h' : D.nx σ (upd H dx (exd dx fs)) := h
      rw [upd_self e2] at h'
      exact h'
  | @cons f p i p1 p2 p3 p4 b l hi q1 q2 hb ih =>
    have pself : PE X (.Name self p1) (tVar 0) := pe_var h0 (hv _ (List.mem_of_getElem? h0)) d1 d2
    have pp : PE X (.Name p p3) (tVar i) := pe_var hi (hv _ (List.mem_of_getElem? hi)) q1 q2
    refine pss_imp (pss_cons (ps_osG pself pp rfl) ih) fun D σ H ⟨a, C, e0, T, hf, hvals, h⟩ => ?_
    obtain ⟨v, ev⟩ := hvals _ List.mem_cons_self
    refine ⟨v, ev, .ref a, e0, a, C, rfl, T, hf _ List.mem_cons_self, ?_⟩
    have ac : ∀ fs, acc σ ((f, i) :: l) fs = acc σ l ((f, v) :: fs) := fun fs => by
      show acc σ l _ = _
      have : (match (σ : List (Option V))[i]? with | some (some v) => v | _ => V.non) = v := by rw [ev]
      rw [this]
    rcases h with ⟨_, hl, ha, h⟩ | ⟨dx, fs, hne, ha, hd, hl, h⟩
    · refine .inl ⟨ha, fun dx hdx hne => ⟨a, C, e0, T, fun q hq => hf q (List.mem_cons_of_mem _ hq), fun q hq => hvals q (List.mem_cons_of_mem _ hq), .inr ⟨dx, [(f, v)], hne, upd_same, ?_, ?_, ?_⟩⟩⟩
      · rw [upd_ne hne, upd_same]
      · rw [List.length_cons] at hl
        rw [List.length_singleton]
        omega
      · rw [upd_swap hne, ← ac]
        exact h dx hdx hne
    · refine .inr ⟨dx, fs, ha, hd, by rw [List.length_cons] at hl; omega, a, C, e0, T, fun q hq => hf q (List.mem_cons_of_mem _ hq), fun q hq => hvals q (List.mem_cons_of_mem _ hq), .inr ⟨dx, (f, v) :: fs, hne, ?_, upd_same, ?_, ?_⟩⟩
      · rw [upd_ne (Ne.symm hne)]
        exact ha
      · rw [List.length_cons] at hl ⊢
        omega
      · rw [upd_upd, ← ac]
        exact h

theorem acc_eq (σ : L2.St) : ∀ (l : List (Str × Nat)) (vs : List V) (fs : List (Str × V)), l.length = vs.length → (∀ (k : Nat) (q : Str × Nat) (v : V), l[k]? = some q → vs[k]? = some v → (σ : List (Option V))[q.2]? = some (some v)) → acc σ l fs = ((l.map Prod.fst).zip vs).reverse ++ fs
  | [], [], fs, _, _ => rfl
  | (f, i) :: l, v :: vs, fs, hl, h => by
    have ev := h 0 (f, i) v rfl rfl
    show acc σ l _ = _
    have : (match (σ : List (Option V))[i]? with | some (some v) => v | _ => V.non) = v := by rw [show (σ : List (Option V))[i]? = some (some v) from ev]
    rw [this, acc_eq σ l vs ((f, v) :: fs) (by simpa using hl) fun k q u h1 h2 => h (k + 1) q u h1 h2]
    simp
/-- what __init__ promises -/
def spI (C : Addr) (n : Nat) (fl : List Str) : Sp := fun vs H Q _ => ∃ (a : Addr) (ws : List V), vs = .ref a :: ws ∧ ws.length = n ∧ H a = some (exo a C none) ∧ (fl = [] → Q .non H) ∧ (fl ≠ [] → ∀ dx, H dx = none → dx ≠ a → Q .non (upd (upd H dx (exd dx (fl.zip ws).reverse)) a (exo a C (some dx))))
/-- the fields, each with the slot of its parameter -/
def slots (fl : List Str) : List (Str × Nat) := (List.range fl.length).map fun k => (fl.getD k Str.empty, k + 1)
theorem slots_at {fl : List Str} {k : Nat} {q : Str × Nat} (h : (slots fl)[k]? = some q) : q = (fl.getD k Str.empty, k + 1) ∧ k < fl.length := by
  unfold slots at h
  rw [List.getElem?_map] at h
  by_cases hk : k < fl.length
  · rw [List.getElem?_range hk] at h
    cases h
    exact ⟨rfl, hk⟩
  · rw [List.getElem?_eq_none (by simpa using hk)] at h
    cases h
theorem slots_fst (fl : List Str) : (slots fl).map Prod.fst = fl := by
  unfold slots
  rw [List.map_map]
  apply List.ext_getElem
  · simp
  · intro i h1 h2
    simp at h1
    simp [List.getD_eq_getElem?_getD, h1]
/-- a body that does nothing -/
def nopB : List Stmt → Bool
  | [.Expr (.Constant (.str _) _ _) _] => true
  | [.Pass _] => true
  | _ => false
theorem nop_run {X : Cx} {b : List Stmt} (h : nopB b = true) : PSs X b (fun D σ H => D.nx σ H) := by
  unfold nopB at h
  split at h
  · exact pss_imp (pss_one (ps_expr pe_str)) fun D σ H h => h
  · exact pss_imp (pss_one ps_pass) fun D σ H h => h
  · cases h
/-- the body of an __init__ that keeps its arguments, or that does nothing -/
def InitB (self : Str) (N : List Str) (b : List Stmt) (fl : List Str) : Prop := (fl ≠ [] ∧ IB self N b (slots fl)) ∨ (fl = [] ∧ nopB b = true)
theorem init_ok {P : Program} {w : World} {K : PySem.W.Frag} {mg : Str → Option Value} {base : Heap} {x qual : Str} {params : Arguments} {body : List Stmt} {scope : Scope} {kws : List (Str × V)} {f C : Addr} {fd : FuncData} {self : Str} {ps fl : List Str}
    (F : FunD K x qual params body scope [] kws f fd) (S : FnScope (self :: ps) (self :: ps) scope) (hv : ∀ y, y ∈ self :: ps → Vis scope y) (d1 : (self == ("__debug__" : Str)) = false) (d2 : (self == ("__classdict__" : Str)) = false) (hl : fl.length = ps.length) (hl2 : fl.length ≤ 900)
    (T : OexG K C) (hf : ∀ g ∈ fl, PySem.W.findIn K (.ref C) g = some none) (hb : InitB self (self :: ps) body fl) : FnOk P w K mg base (L2.CX P w) 1 f fd (self :: ps) (spI C ps.length fl) := by
  refine F.ok S (fun vs H Q E h => ?_) fun cdv A outer s H vs Q E hr h => ?_
  · obtain ⟨a, ws, rfl, e, _⟩ := h
    rw [List.length_cons, List.length_cons, e]
  · rcases hb with ⟨hne, hb⟩ | ⟨he, hb⟩
    · refine ⟨tInit K (slots fl), ib_run (X := cxOf (L2.CX P w) P w K mg base (self :: ps) qual scope f cdv A outer s H E) rfl hv d1 d2 hb, ?_⟩
      obtain ⟨a, ws, rfl, e, ha, _, q⟩ := h
      have q := q hne
      have at_ : ∀ k v, ws[k]? = some v → (L2.start (self :: ps) (.ref a :: ws) : List (Option V))[k + 1]? = some (some v) := fun k v hk => by
        unfold L2.start
        rw [List.getElem?_append_left (by
          have := (List.getElem?_eq_some_iff.mp hk).1
          rw [List.length_map, List.length_cons]
          omega), List.map_cons, List.getElem?_cons_succ, List.getElem?_map, hk]
        rfl
      refine ⟨a, C, rfl, T, fun q hq => ?_, fun q hq => ?_, .inl ⟨?_, ?_, ha, fun dx h1 h2 => ?_⟩⟩
      · obtain ⟨k, hk⟩ := List.mem_iff_getElem?.mp hq
        obtain ⟨rfl, hk'⟩ := slots_at hk
        refine hf _ ?_
        rw [List.getD_eq_getElem?_getD, List.getElem?_eq_getElem hk']
        exact List.getElem_mem hk'
      · obtain ⟨k, hk⟩ := List.mem_iff_getElem?.mp hq
        obtain ⟨rfl, hk'⟩ := slots_at hk
        have : k < ws.length := by omega
        exact ⟨ws[k], at_ k _ (List.getElem?_eq_getElem this)⟩
      · intro z
        have := congrArg List.length z
        unfold slots at this
        simp at this
        exact hne this
      · unfold slots
        simpa using hl2
      · rw [acc_eq _ (slots fl) ws [] (by unfold slots; simp; omega) (fun k q v h1 h2 => by
          obtain ⟨rfl, _⟩ := slots_at h1
          exact at_ k v h2), slots_fst, List.append_nil]
        exact q dx h1 h2
    · refine ⟨_, nop_run (X := cxOf (L2.CX P w) P w K mg base (self :: ps) qual scope f cdv A outer s H E) hb, ?_⟩
      obtain ⟨a, ws, rfl, e, ha, q, _⟩ := h
      exact q he
/-- an own class whose exceptions may be made -/
structure MkC (K : PySem.W.Frag) (C fI : Addr) : Prop where
  T : OexG K C
  iC : PySem.W.findIn K (.ref C) "__init__" = some (some (.ref fI))
  tI : PySem.W.typeIn K (.ref fI) = some (.type "function")
section
variable {X : Cx} {CX : CXT} {C fI : Addr} {k : Nat} {fd : FuncData} {ps : List Str} {sp : Sp}
/-- the making, __init__ keeping sp -/
theorem run_oxV {pins : List (Addr × Obj)} {σ : L2.St} {H1 : Hp} {s1 : Shared} {Q : VK} {us us2 : List Value} {kw : List (Str × Value)} {vs : List V} (M : MkC X.K C fI) (F1 : FnOk X.prog X.w X.K X.mg X.base CX k fI fd ps sp) (hr : Room (k + 1) X.A) (hx : Passes CX X (fun _ _ _ => False))
    (I1 : Inv X pins σ H1 s1) (hus : us.length ≤ sizeLine) (hb : ∀ (s : Shared) (a : Addr), X.K.In s.heap → BindsTo s fd ⟨.ref a :: us, kw⟩ (ps.zip (.ref a :: us2))) (r : Vals vs us2)
    (h : ∀ a, H1 a = none → sp (.ref a :: vs) (upd H1 a (exo a C none)) (fun v H2 => v = .non ∧ Q (.ref a) H2) (fun _ _ _ => False)) :
    wpAny (model X.prog X.w) X.A (call (.ref C) us kw) (EP X pins σ Q) X.xe s1 := by
  obtain ⟨B, newId, initId, bmB, Z, nm, q, N, bs, bm, sn, sub, ab, col, dd, k0, k1, k2, k3, k5, hC, hbm⟩ := M.T.cls
  obtain ⟨hp, g,
                 dr, tk, os⟩ := s1
  have hsz : hp.objs.size ≤
                            hp.objs.size + 1 := Nat.le_succ _
  have hn : H1 (hp.objs.size +
                               1) = none := I1.hok.fresh hsz
  have hq := h (hp.objs.size + 1) hn
  have kk : ∀ b o, hp.get? b = some o → ((hp.push (PySem.W.kdv_tup us)).push (PySem.HandSPX.excO C
                                                                                                   hp.objs.size)).get? b = some o := fun b o e => Heap.get?_push_of_some _ (Heap.get?_push_of_some _ e)
  have hget : ((hp.push (PySem.W.kdv_tup us)).push (PySem.HandSPX.excO C hp.objs.size)).get?
                                                                                             (hp.objs.size + 1) = some (PySem.HandSPX.excO C hp.objs.size) := by heap_get
  have I2 : Inv X pins σ (upd H1 (hp.objs.size + 1) (exo (hp.objs.size + 1) C none))
                                                                                     ⟨(hp.push (PySem.W.kdv_tup us)).push (PySem.HandSPX.excO C hp.objs.size), g, dr, tk, os⟩ :=
    I1.laid (t' := tk) (a := hp.objs.size + 1) (o := exo (hp.objs.size + 1) C none) (h' :=
                                                                                           (hp.push (PySem.W.kdv_tup us)).push (PySem.HandSPX.excO C hp.objs.size)) kk hsz (exo_ok hget)
  have r2 : Vals (V.ref (hp.objs.size + 1) :: vs) (Value.ref (hp.objs.size + 1) :: us2) := .cons rfl r
  refine wpAny_call (PySem.GX.callK Z.F (fun Y => PySem.W.excTail_contains Y bm hbm) (I1.kIn _ _ hC) (PySem.W.looks_findIn I1.kIn M.iC) (fun self => PySem.W.bind_fn I1.kIn self M.tI) hus
    (codeAny_mono (F1.run _ X.stack _ _ ⟨Value.ref (hp.objs.size + 1) :: us, kw⟩ (Value.ref (hp.objs.size + 1) :: us2) _ _ (fun _ _ _ => False) (hr.make C us kw) (I2.env0.make C us kw) (hb _ _ I2.kIn) r2 hq) fun r s' hq' => ?_))
  cases r with
  | error er => exact hx
                         pins σ _ _ er s' I2 hq'
  | ok fl =>
    cases fl with
    | ret u =>
      obtain ⟨v, H', I3, rv,
                             ev, q3⟩ := I2.after hq'
      subst ev
      exact ⟨rv, ⟨V.ref (hp.objs.size + 1), H', I3, rfl, q3⟩⟩
    | next =>
              exact False.elim hq'
    | brk => exact False.elim hq'
    | cont =>
              exact False.elim hq'
/-- the making for a raise -/
theorem pmk_oxG {x : Str} {e : Expr} {es : List Expr} {ta : TA} {p pos : Pos} (M : MkC X.K C fI)
    (F1 : FnOk X.prog X.w X.K X.mg X.base CX k fI fd ps sp) (hr : Room (k + 1) X.A) (hb : Binds X.K fd ps []) (hx : Passes CX X (fun _ _ _ => False)) (hg : Gl X x) (hm : X.mg x = some (.ref C)) (ha : PA X (e :: es) ta)
    (hdb : (x == ("__debug__" : Str)) = false) (he : starEach (e :: es) X.env = (false, eval e X.env) :: starEach es X.env) (hpl : (backTo pos (starEach es X.env)).any (·.1) = false) :
    PMk X (.Call (.Name x p) (e :: es) [] pos) (tMkO C sp [] ta) := by
  intro pins s σ H Q I h
  obtain ⟨B, newId, initId, bmB, Z, nm, q, N, bs, bm, sn, sub, ab, col, dd, k0, k1, k2, k3, k5, hC, hbm⟩ := M.T.cls
  refine wpAny_Call_Name_kw
                            (ld_glob I hg hm ?_ hdb)
  refine PySem.W.callWith_K (h₀ := X.base) I.ok.mod.kin M.T.kC (thn (ha.run pos pins s σ H _ I h) fun us s1 ⟨vs, H1, I1, r1, hz, q1⟩ => ⟨I1.kIn, ?_⟩) he hpl
  show wpAny _ _ (call
                       (.ref C) us) _ _ _
  obtain ⟨hp, g,
                 dr, tk, os⟩ := s1
  have hsz : hp.objs.size ≤
                            hp.objs.size + 1 := Nat.le_succ _
  have hn : H1 (hp.objs.size +
                               1) = none := I1.hok.fresh hsz
  have hq := q1
                (hp.objs.size + 1) hn
  have kk : ∀ b o, hp.get? b = some o → ((hp.push (PySem.W.kdv_tup us)).push (PySem.HandSPX.excO C
                                                                                                   hp.objs.size)).get? b = some o := fun b o e => Heap.get?_push_of_some _ (Heap.get?_push_of_some _ e)
  have hget : ((hp.push (PySem.W.kdv_tup us)).push (PySem.HandSPX.excO C hp.objs.size)).get?
                                                                                             (hp.objs.size + 1) = some (PySem.HandSPX.excO C hp.objs.size) := by heap_get
  have I2 : Inv X pins σ (upd H1 (hp.objs.size + 1) (exo (hp.objs.size + 1) C none))
                                                                                     ⟨(hp.push (PySem.W.kdv_tup us)).push (PySem.HandSPX.excO C hp.objs.size), g, dr, tk, os⟩ :=
    I1.laid (t' := tk) (a := hp.objs.size + 1) (o := exo (hp.objs.size + 1) C none) (h' :=
                                                                                           (hp.push (PySem.W.kdv_tup us)).push (PySem.HandSPX.excO C hp.objs.size)) kk hsz (exo_ok hget)
  have r2 : Vals (V.ref (hp.objs.size + 1) :: (vs ++ [])) (Value.ref (hp.objs.size + 1) :: us) := .cons rfl (by rw [List.append_nil]; exact r1)
  have hl : (Value.ref (hp.objs.size + 1)
                                          :: us ++ []).length = ps.length := by
    have e := r2.length
    rw [F1.len _ _ _ _ hq] at e
    rw [List.append_nil]
    exact e.symm
  have hb' := hb _ (Value.ref (hp.objs.size + 1) :: us) I2.kIn hl
  rw [List.append_nil] at hb'
  have hus : us.length
                       ≤ sizeLine := by
    rw [← Paired.length
                        r1, sizeLine_eq]
    omega
  refine wpAny_call (PySem.GX.callK Z.F (fun Y => PySem.W.excTail_contains Y bm hbm) (I1.kIn _ _ hC) (PySem.W.looks_findIn I1.kIn M.iC) (fun self => PySem.W.bind_fn I1.kIn self M.tI) hus
    (codeAny_mono (F1.run _ X.stack _ _ ⟨Value.ref (hp.objs.size + 1) :: us, []⟩ (Value.ref (hp.objs.size + 1) :: us) _ _ (fun _ _ _ => False) (hr.make C us []) (I2.env0.make C us []) hb' r2 hq) fun r s' hq' => ?_))
  cases r with
  | error er => exact hx
                         pins σ _ _ er s' I2 hq'
  | ok fl =>
    cases fl with
    | ret u =>
      obtain ⟨v, H2, os2, bare2, un2, hok2,
                                            rv, ev, d, fs, ea, ed, hd1, q2⟩ := hq'
      subst ev
      obtain ⟨h2, g2,
                      d2, t2, os'⟩ := s'
      exact ⟨rv, mk_end (raises_own M.T.exC M.T.tyC) I1 hsz kk un2 hok2 os2 bare2 ea ed hd1 q2⟩
    | next =>
              exact False.elim hq'
    | brk => exact False.elim hq'
    | cont =>
              exact False.elim hq'
end
theorem pass0 {X : Cx} : Passes (L2.CX X.prog X.w) X (fun _ _ _ => False) := fun pins σ H s e s' I h => by
  obtain ⟨_, _, _, _, _, _,
                            _, _, _, _, _, _, z⟩ := h
  exact z.elim
theorem mk_of_init {Y : Cx} {Wx : WX} {Γ : Gm} {C fI : Addr} {fd : FuncData} {self : Str} {ps fl : List Str} {x : Str} {e : Expr} {es : List Expr} {ms : SmA} {p pos : Pos} (M : MkC Y.K C fI) (hne : fl ≠ []) (hl : fl.length = ps.length) (hl2 : fl.length ≤ 900)
    (F : FnOk Y.prog Y.w Y.K Y.mg Y.base (L2.CX Y.prog Y.w) 1 fI fd (self :: ps) (spI C ps.length fl)) (hb : L2.Binds Y.K fd (self :: ps) []) (hr : Room 2 Y.A) (hg : Gl Y x) (hm : Y.mg x = some (.ref C)) (hdb : (x == ("__debug__" : Str)) = false) (ha : PA Y (e :: es) (tA Γ Wx ms)) (hs : (e :: es).any isStar = false) :
    PMk Y (.Call (.Name x p) (e :: es) [] pos) (tMk C fl (tA Γ Wx ms)) := by
  rw [List.any_cons, Bool.or_eq_false_iff] at hs
  have P := pmk_oxG (p := p) (pos := pos) M F hr hb pass0 hg hm ha hdb (star_cons hs.1) (star_any hs.2)
  intro pins s σ H Q I ⟨W, st, env, eH, S, E, q⟩
  refine P pins s σ H Q I ⟨W, st, env, eH, S, E, q.imp fun vs W1 ⟨h1, h2⟩ => ?_⟩
  refine ⟨by omega, fun a na => ?_⟩
  refine ⟨a, vs, by rw [List.append_nil], by omega, upd_same, fun z => absurd z hne, fun _ dx h3 h4 => ?_⟩
  have hd : W1.H dx = none := by rw [upd_ne h4] at h3; exact h3
  refine ⟨rfl, dx, (fl.zip vs).reverse, upd_same, ?_, hd, ?_⟩
  · rw [upd_ne h4, upd_same]
  · have : upd (L2.del (upd (upd (upd W1.H a (exo a C none)) dx (exd dx (fl.zip vs).reverse)) a (exo a C (some dx))) a) dx (.xd (fl.zip vs).reverse) = upd W1.H dx (.xd (fl.zip vs).reverse) := by
      funext b
      unfold upd L2.del
      by_cases hb : b = dx
      · rw [if_pos hb, if_pos hb]
      · rw [if_neg hb, if_neg hb]
        by_cases hb2 : b = a
        · rw [if_pos hb2, hb2, na]
        · rw [if_neg hb2]
          dsimp only
          rw [if_neg hb2, if_neg hb, if_neg hb2]
    rw [this]
    exact h2 dx hd
/-- the making as a value -/
theorem e_mkx {X : Cx} {Wx : WX} {Γ : Gm} {cs : Rt} {c n : Nat} {fI : Addr} {fd : FuncData} {self : Str} {ps fl kn : List Str} {pm : List Nat} {x : Str} {es : List Expr} {ks : List Keyword} {ms mk : SmA} {p pos : Pos} (hfl : cs.flds c = some fl) (M : MkC X.K (Γ.ca c) fI)
    (F1 : FnOk X.prog X.w X.K X.mg X.base (L2.CX X.prog X.w) 1 fI fd (self :: ps) (spI (Γ.ca c) ps.length fl)) (hl : fl.length = ps.length) (hl2 : fl.length ≤ 900) (hn9 : n ≤ 900)
    (hb : ∀ (s : Shared) (a : Addr) (us ws : List Value), X.K.In s.heap → us.length = n → ws.length = kn.length → BindsTo s fd ⟨.ref a :: us, kn.zip ws⟩ ((self :: ps).zip (.ref a :: perm pm (us ++ ws))))
    (hr : Room 2 X.A) (hg : Gl X x) (hm : X.mg x = some (.ref (Γ.ca c))) (ha : PA X es (tA Γ Wx ms)) (hkw : PK X ks (tA Γ Wx mk)) (hn : kwNames ks = some kn) (hnil : es = [] → ms = sNil) (hl1 : ∀ env st xs st', ms env st = .ok xs st' → xs.length = n) (hlk : ∀ env st xs st', mk env st = .ok xs st' → xs.length = kn.length)
    (hdb : (x == ("__debug__" : Str)) = false) (hs : es.any isStar = false) : PE X (.Call (.Name x p) es ks pos) (tE Γ Wx (sMkx cs c pm ms mk)) := by
  have he : ∀ e r, es = e :: r → starEach es X.env = (false, eval e X.env) :: starEach r X.env := fun e r z => by subst z; rw [List.any_cons, Bool.or_eq_false_iff] at hs; exact star_cons hs.1
  have hpl : (backTo pos (starEach es X.env)).any (·.1) = false := star_any hs
  obtain ⟨k1, k2, k3⟩ := kw_each (pos := pos) (env := X.env) hn
  refine ⟨fun pn s σ H Q I ⟨W, st, env, e, S, E, h⟩ => ?_⟩
  subst e
  refine wpAny_Call_Name_kw
                            (ld_glob I hg hm ?_ hdb)
  have fin : ∀ {W1 : Wd} {st1 : Store} {xs : List MV} {vs : List V} {us : List Value} {s1 : Shared}, Inv X pn σ W1.H s1 → SR Γ W1 st1 → ER Γ W1 env σ → VRs Γ W1 xs vs → Vals vs us → xs.length = n → Post Γ W1 (VR Γ) (wx Wx σ) ((mk env st1).bind fun ys st => mMkx cs c st (perm pm (xs ++ ys))) (fun v W => Q v W.H) →
      wpAny (model X.prog X.w) X.A (evalAll ((backToKw pos (keywordEach ks X.env)).map (·.2))) (fun ws s2 => X.K.In s2.heap ∧ wpAny (model X.prog X.w) X.A (call (.ref (Γ.ca c)) ([] ++ us) (((backToKw pos (keywordEach ks X.env)).filterMap (·.1)).zip ws)) (EP X pn σ Q) X.xe s2) X.xe s1 := fun {W1 st1 xs vs us s1} I1 S1 E1 rv r hxl p1 => by
    have hA : tA Γ Wx mk σ W1.H fun zs H2 => ∃ (W2 : Wd) (st2 : Store) (ys : List MV), W2.H = H2 ∧ ys.length = kn.length ∧ LeK Γ.K Γ.T W1 W2 ∧ SR Γ W2 st2 ∧ VRs Γ W2 ys zs ∧ Post Γ W2 (VR Γ) (wx Wx σ) (mMkx cs c st2 (perm pm (xs ++ ys))) (fun v W => Q v W.H) := by
      refine ⟨W1, st1, env, rfl, S1, E1, ?_⟩
      cases e : mk env st1 with
      | ok ys st2 => rw [e] at p1; exact fun W2 zs l S2 r2 => ⟨W2, st2, ys, rfl, hlk env st1 ys st2 e, l, S2, r2, Post.later p1 l⟩
      | exc c fs st2 => rw [e] at p1; exact p1
      | stk => rw [e] at p1; exact p1
    refine thn (hkw.run pos pn s1 σ W1.H _ I1 hA) fun ws s2 ⟨zs, H2, I2, rz, W2, st2, ys, e2, hy, l, S2, rw', p2⟩ => ⟨I2.kIn, ?_⟩
    subst e2
    rw [k2, List.nil_append]
    have hus : us.length = n := by rw [← r.length, ← rv.length]; exact hxl
    have hws : ws.length = kn.length := by rw [← rz.length, ← rw'.length]; exact hy
    have rp : VRs Γ W2 (perm pm (xs ++ ys)) (perm pm (vs ++ zs)) := ((rv.mono l).append rw').perm pm
    unfold mMkx at p2
    rw [hfl] at p2
    dsimp only at p2
    split at p2
    · rename_i hlen
      have hlv : (perm pm (vs ++ zs)).length = ps.length := by rw [← rp.length, hlen, hl]
      refine run_oxV M F1 hr pass0 I2 (by rw [hus, sizeLine_eq]; omega) (fun s a X' => hb s a us ws X' hus hws) (vals_perm (r.append rz) pm) fun a na => ?_
      refine ⟨a, perm pm (vs ++ zs), rfl, hlv, upd_same, fun z => ⟨rfl, ?_⟩, fun z dx h3 h4 => ⟨rfl, ?_⟩⟩
      · subst z
        have ex : perm pm (xs ++ ys) = [] := List.length_eq_zero_iff.mp hlen
        rw [ex] at p2
        exact p2 (W2.side a (exo a (Γ.ca c) none)) (.ref a) (le_side na) (S2.side na) (.exo0 upd_same)
      · have nd : W2.H dx = none := by rw [upd_ne h4] at h3; exact h3
        have l1 : Le Γ W2 (W2.side dx (exd dx (fl.zip (perm pm (vs ++ zs))).reverse)) := le_side nd
        have na2 : (W2.side dx (exd dx (fl.zip (perm pm (vs ++ zs))).reverse)).H a = none := by
          show upd W2.H dx _ a = none
          rw [upd_ne (Ne.symm h4)]
          exact na
        have l2 := le_side (Γ := Γ) (o := exo a (Γ.ca c) (some dx)) na2
        have eH : upd (upd (upd W2.H a (exo a (Γ.ca c) none)) dx (exd dx (fl.zip (perm pm (vs ++ zs))).reverse)) a (exo a (Γ.ca c) (some dx)) = ((W2.side dx (exd dx (fl.zip (perm pm (vs ++ zs))).reverse)).side a (exo a (Γ.ca c) (some dx))).H := by
          show _ = upd (upd W2.H dx _) a _
          funext b
          by_cases hb : b = a
          · simp [upd, hb]
          · by_cases hb2 : b = dx
            · simp [upd, hb, hb2, h4]
            · simp [upd, hb, hb2]
        rw [eH]
        refine p2 _ (.ref a) (l1.trans l2) ((S2.side nd).side na2) (.exo (vs := perm pm (vs ++ zs)) upd_same ?_ (by rw [hlv, hl]) (rp.mono (l1.trans l2)))
        show upd (upd W2.H dx _) a _ dx = _
        rw [upd_ne h4, upd_same]
    · exact p2.elim
  cases es with
  | nil =>
    have e0 := hnil rfl
    subst e0
    refine PySem.W.callWith_KW0 (h₀ := X.base) I.ok.mod.kin M.T.kC k1 ?_ (by rw [k3]; rfl)
    exact fin (us := []) (vs := []) (xs := []) I S E .nil .nil (hl1 env st [] st rfl) h
  | cons e r =>
    refine PySem.W.callWith_KW (h₀ := X.base) I.ok.mod.kin M.T.kC k1 ?_ (by rw [k3, Bool.or_false]; exact hpl) (he e r rfl)
    have hA : tA Γ Wx ms σ W.H fun vs H1 => ∃ (W1 : Wd) (st1 : Store) (xs : List MV), W1.H = H1 ∧ xs.length = n ∧ LeK Γ.K Γ.T W W1 ∧ SR Γ W1 st1 ∧ VRs Γ W1 xs vs ∧ Post Γ W1 (VR Γ) (wx Wx σ) ((mk env st1).bind fun ys st => mMkx cs c st (perm pm (xs ++ ys))) (fun v W => Q v W.H) := by
      refine ⟨W, st, env, rfl, S, E, ?_⟩
      unfold sMkx at h
      cases e : ms env st with
      | ok xs st1 => rw [e] at h; exact fun W1 vs l S1 rv => ⟨W1, st1, xs, rfl, hl1 env st xs st1 e, l, S1, rv, Post.later h l⟩
      | exc c fs st1 => rw [e] at h; exact h
      | stk => rw [e] at h; exact h
    refine thn (ha.run pos pn s σ W.H _ I hA) fun us s1 ⟨vs, H1, I1, r1, W1, st1, xs, e1, hx, l, S1, rv, p1⟩ => ?_
    subst e1
    exact fin I1 S1 (E.mono l) rv r1 hx p1
end Mn
/-! Mn23: a text's own exceptions are made. -/
namespace Mn
open PySem PySem.Spec
                      PyProof.Rows L2

def basesX : List (String × String × List Value) := [("ValueError.__new__", "ValueError.__init__", [.type "ValueError", .type "Exception", .type "BaseException", .type "object"]), ("LookupError.__new__", "LookupError.__init__", [.type "LookupError", .type "Exception", .type "BaseException", .type "object"]),
  ("ArithmeticError.__new__", "ArithmeticError.__init__", [.type "ArithmeticError", .type "Exception", .type "BaseException", .type "object"])]
theorem basesX_ok : ∀ p ∈ basesX, ∃ B initId, GX.Xb B p.1 initId p.2.2 := by
  intro p hp
  simp only [basesX, List.mem_cons, List.not_mem_nil, or_false] at hp
  rcases hp with rfl | rfl | rfl
  · exact ⟨_, _, GX.xbV⟩
  · exact ⟨_, _, GX.xbL⟩
  · exact ⟨_, _, GX.xbA⟩
/-- the class object of an own exception -/
def veObj (C : Addr) : Option Obj → Bool
  | some ⟨.type "type", _, .cls cd,
                                    sl⟩ => (match cd.mro, sl.toList with
    | .ref C' :: bm, [_, _, _, _, some (.builtin n), _] => C' == C && !cd.hasDel && cd.hasDict && basesX.any fun p => p.1 == n && PySem.W.excTail p.2.2 bm
    | _, _ => false)
  | _ => false
theorem veObj_ok {C : Addr} {r : Option Obj} (q : veObj C r = true) : ∃ (B newId initId : String) (bmB : List Value), GX.Xb B newId initId bmB ∧ ∃ nm q N bs bm sn sub ab col dd k0 k1 k2 k3 k5, r = some (excClassObj nm q C N bs bm true sn sub ab col dd k0 k1 k2 k3 k5 newId) ∧ PySem.W.excTail bmB bm = true := by
  unfold veObj at q
  split at q
  · rename_i dd cd sl
    split at q
    · rename_i C' bm k0
                        k1 k2 k3 n k5 hm hs
      simp only [Bool.and_eq_true, beq_iff_eq, Bool.not_eq_true', List.any_eq_true] at q
      obtain ⟨⟨⟨rfl, h1⟩, h2⟩, p, hp, rfl, h3⟩ := q
      obtain ⟨B, initId, Z⟩ := basesX_ok p hp
      obtain ⟨nm, bs, mro, ns, qn,
                                   hd, sn, sub, ab, col, del⟩ := cd
      dsimp only at hm h1 h2
      subst hm h1 h2
      obtain ⟨l⟩ := sl
      simp only at hs
      subst hs
      exact ⟨B, _, initId, _, Z, nm, qn, ns, bs, bm, sn, sub, ab, col, dd, k0, k1, k2, k3, k5, rfl, h3⟩
    · cases q
  · cases q
/-- a class's making, of the written part -/
def mkB (K : PySem.W.Frag) (c : Str) : Bool := veObj (He.ga K c) (K.lookup (He.ga K c)) && decide (PySem.W.findIn K (.ref (He.ga K c)) "__setattr__" = some (some (.builtin "object.__setattr__"))) && decide (PySem.W.subIn K (.ref (He.ga K c)) (.type "BaseException") = some true) &&
  decide (PySem.W.typeIn K (.ref (He.ga K c)) = some (.type "type")) && PySem.W.keepIn K (.ref (He.ga K c)) && decide (PySem.W.findIn K (.ref (He.ga K c)) "__init__" = some (some (.ref (He.fAd K (c, some "__init__"))))) && decide (PySem.W.typeIn K (.ref (He.fAd K (c, some "__init__"))) = some (.type "function"))
theorem mkB_ok {K : PySem.W.Frag} {c : Str} (h : mkB K c = true) : MkC K (He.ga K c) (He.fAd K (c, some "__init__")) := by
  unfold mkB at h
  simp only [Bool.and_eq_true,
                               decide_eq_true_eq] at h
  obtain ⟨⟨⟨⟨⟨⟨h1, h2⟩, h3⟩,
                             h4⟩, h5⟩, h6⟩, h7⟩ := h
  exact ⟨⟨veObj_ok h1, h2, h3, h4, h5⟩, h6, h7⟩
/-- a class's __init__ as the machine takes it -/
structure Ci where
  c : Nat
  self : Str
  ps : List Str
  d : He.DefD
  cls : Str
  fl : List Str
structure Ci.Ok (cl : List Cd) (c0 : Cd) (ck : List ((Str × Nat × List Str) × (Nat × List Nat))) (i : Ci) : Prop where
  fld : fldC cl i.c = some i.fl
  nm : (cget cl c0 i.c).name = i.cls
  at_ : i.d.at_ = (i.cls, some ("__init__" : Str))
  dfl : i.d.dfl = []
  sc : FnScope (i.self :: i.ps) (i.self :: i.ps) i.d.scope
  vis : ((i.self :: i.ps).all fun y => vis i.d.scope y) = true
  odd : odd i.self = false
  len : i.fl.length = i.ps.length
  len2 : i.fl.length ≤ 900
  ib : InitB i.self (i.self :: i.ps) i.d.body i.fl
  bind : ∀ (kV doc pm : Value) (an : Option Addr) (cdv ct : Value), BindAt (i.ps.length + 1) fun us => bindArgs (PySem.W.fnOf i.d.name i.d.qual i.d.params i.d.body i.d.scope .none kV doc pm an cdv ct) ⟨us, []⟩ = pure ((i.self :: i.ps).zip us)
  bk : ∀ p ∈ ck, p.2.1 = i.c → p.1.2.1 ≤ 900 ∧ ∀ (kV doc pm : Value) (an : Option Addr) (cdv ct : Value), BindAt p.1.2.1 fun us => BindAt p.1.2.2.length fun ws => ∀ a, bindArgs (PySem.W.fnOf i.d.name i.d.qual i.d.params i.d.body i.d.scope .none kV doc pm an cdv ct) ⟨a :: us, p.1.2.2.zip ws⟩ = pure ((i.self :: i.ps).zip (a :: perm p.2.2 (us ++ ws)))
section
variable {t : Txt} {inits : List Ci} {fn : List He.DefD} {ex : PySem.W.Frag → Bool} {tf : List He.Defn} {K : PySem.W.Frag} {h : Heap} {P : Program} {w : World} {mg : Str → Option Value} {base : Heap}
theorem init_facts (k0 : t.cl[0]? = some t.c0) {i : Ci} (O : i.Ok t.cl t.c0 t.T.ck) (hd : i.d ∈ fn) (s : SaysM fn ex tf K h) (hex : ex K = true → exB t.defs t.d0 t.cl t.c0 t.T K = true) (hmk : mkB K i.cls = true) :
    MkC K (He.ga K i.cls) (He.fAd K (i.cls, some "__init__")) ∧ ∃ fd, FnOk P w K mg base (L2.CX P w) 1 (He.fAd K (i.cls, some "__init__")) fd (i.self :: i.ps) (spI (He.ga K i.cls) i.ps.length i.fl) ∧ L2.Binds K fd (i.self :: i.ps) [] ∧
      ∀ p ∈ t.T.ck, p.2.1 = i.c → ∀ (s : Shared) (a : Addr) (us ws : List Value), K.In s.heap → us.length = p.1.2.1 → ws.length = p.1.2.2.length → BindsTo s fd ⟨.ref a :: us, p.1.2.2.zip ws⟩ ((i.self :: i.ps).zip (.ref a :: perm p.2.2 (us ++ ws))) := by
  have M := mkB_ok hmk
  obtain ⟨fd, F⟩ := s.defs _ hd
  have hcl := cl_of k0 (hex s.more) (fun _ _ _ => R.stk) fun _ _ _ => R.stk
  have hno := (hcl.xc i.c i.fl O.fld).2
  have eC : He.ga K (cget t.cl t.c0 i.c).name = He.ga K i.cls := by rw [O.nm]
  have hno' : ∀ g ∈ i.fl, PySem.W.findIn K (.ref (He.ga K i.cls)) g = some none := fun g hg => by
    have z : PySem.W.findIn K (.ref (He.ga K (cget t.cl t.c0 i.c).name)) g = some none := hno g hg
    rw [eC] at z
    exact z
  have e0 : i.d.dvs K = [] := by unfold He.DefD.dvs; rw [O.dfl]; rfl
  rw [e0, O.at_] at F
  obtain ⟨d1, d2, _⟩ := odd_of (by rw [O.odd]; exact Bool.false_ne_true)
  have F1 := init_ok (P := P) (w := w) (mg := mg) (base := base) F O.sc (fun y hy => vis_of (List.all_eq_true.mp O.vis y hy)) d1 d2 O.len O.len2 M.T hno' O.ib
  have B := FunD.bindsN (ps := i.self :: i.ps) F fun kV doc pm an cdv ct us hl => bindAt_of (O.bind kV doc pm an cdv ct) us hl
  refine ⟨M, fd, F1, B, fun p hp hc s' a us ws X' hu hw => ?_⟩
  obtain ⟨oc, od, dV, kV, doc, pm, an, cdv,
                                            ct, osl, rfl, lk, hcd, hD, hK⟩ := F.ex
  have hdV : dV = .none := by
    rcases hD with ⟨_, e⟩ | ⟨e, _⟩
    · exact e
    · exact absurd rfl e
  subst hdV
  exact .of_eq (bindAt_of (bindAt_of ((O.bk p hp hc).2 kV doc pm an cdv ct) us hu) ws hw (.ref a))
theorem mkOk_of (k0 : t.cl[0]? = some t.c0) (hin : ∀ c ∈ t.T.ec, ∃ i ∈ inits, i.c = c) (hi : ∀ i ∈ inits, i.Ok t.cl t.c0 t.T.ck ∧ i.d ∈ fn) (s : SaysM fn ex tf K h) (hex : ex K = true → exB t.defs t.d0 t.cl t.c0 t.T K = true)
    (hmk : ex K = true → (inits.all fun i => mkB K i.cls) = true) (n : Nat) : MkOk t.T.ec (t.gm K) (rtOf t.defs t.d0 t.cl t.c0 (fun _ _ _ => .stk) fun _ _ _ => .stk) (n + 3) P w mg base := by
  intro Y Wx c fl x e es ms p pos h1 h2 h3 h4 h5 hr tk hc hfl hne hg hm hdb ha hs
  obtain ⟨i, hi1, rfl⟩ := hin c hc
  obtain ⟨O, hd⟩ := hi i hi1
  have efl : i.fl = fl := by
    have z : fldC t.cl i.c = some fl := hfl
    rw [O.fld] at z
    exact Option.some.inj z
  subst efl
  obtain ⟨M, fd, F1, B, _⟩ := init_facts (P := Y.prog) (w := Y.w) (mg := Y.mg) (base := Y.base) k0 O hd s hex (List.all_eq_true.mp (hmk s.more) i hi1)
  have eC : He.ga K (cget t.cl t.c0 i.c).name = He.ga K i.cls := by rw [O.nm]
  have eK : Y.K = K := h3
  subst eK
  have hm' : Y.mg x = some (.ref (He.ga Y.K i.cls)) := by
    rw [h4, hm]
    show some (Value.ref (He.ga Y.K (cget t.cl t.c0 i.c).name)) = _
    rw [eC]
  have R := mk_of_init (p := p) (pos := pos) (Γ := t.gm Y.K) M hne O.len O.len2 F1 B ⟨hr.room.hd, by have := hr.room.dp; omega, by have := hr.room.un; omega⟩ hg hm' hdb ha hs
  show PMk Y _ (tMk (He.ga Y.K (cget t.cl t.c0 i.c).name) i.fl _)
  rw [eC]
  exact R
theorem mkV_of (k0 : t.cl[0]? = some t.c0) (hin : ∀ c ∈ t.T.vc, ∃ i ∈ inits, i.c = c) (hi : ∀ i ∈ inits, i.Ok t.cl t.c0 t.T.ck ∧ i.d ∈ fn) (s : SaysM fn ex tf K h) (hex : ex K = true → exB t.defs t.d0 t.cl t.c0 t.T K = true)
    (hmk : ex K = true → (inits.all fun i => mkB K i.cls) = true) (n : Nat) : MkV t.T.vc t.T.ck (t.gm K) (rtOf t.defs t.d0 t.cl t.c0 (fun _ _ _ => .stk) fun _ _ _ => .stk) (n + 3) P w mg base := by
  intro Y Wx c n' x es ks kn pm ms mk p pos h1 h2 h3 h4 h5 hr tk hc hpm hg hm hdb ha hkw hkn hnil hl1 hl2 hs
  obtain ⟨i, hi1, rfl⟩ := hin c hc
  obtain ⟨O, hd⟩ := hi i hi1
  obtain ⟨M, fd, F1, B, BK⟩ := init_facts (P := Y.prog) (w := Y.w) (mg := Y.mg) (base := Y.base) k0 O hd s hex (List.all_eq_true.mp (hmk s.more) i hi1)
  have eC : He.ga K i.cls = (t.gm K).ca i.c := by
    show _ = He.ga K (cget t.cl t.c0 i.c).name
    rw [O.nm]
  have eK : Y.K = K := h3
  subst eK
  rw [eC] at M F1
  have hr2 : Room 2 Y.A := ⟨hr.room.hd, by have := hr.room.dp; omega, by have := hr.room.un; omega⟩
  have hm' : Y.mg x = some (.ref ((t.gm Y.K).ca i.c)) := by rw [h4, hm]
  have fl_ : (rtOf t.defs t.d0 t.cl t.c0 (fun _ _ _ => R.stk) fun _ _ _ => R.stk).flds i.c = some i.fl := O.fld
  have hp : ((x, n', kn), (i.c, pm)) ∈ t.T.ck := by
    obtain ⟨l1, l2, el, _⟩ := List.lookup_eq_some_iff.mp hpm
    rw [el]
    exact List.mem_append.mpr (.inr List.mem_cons_self)
  exact e_mkx fl_ M F1 O.len O.len2 (O.bk _ hp rfl).1 (fun s' a us ws X' hu hw => BK _ hp rfl s' a us ws X' hu hw) hr2 hg hm' ha hkw hkn hnil hl1 hl2 hdb hs
end
end Mn
/-! Mn24: words for a text: classes' methods, lambdas by their path; for evaluating its defs. -/
namespace Mn
open PySem PySem.Spec
                      PyProof.Rows L2
def clsBody :
              Stmt → List Stmt
  | .ClassDef _ _ _ b _ _ _ _ _ _ _ => b
  | _ => []
def eKids : Expr → List Expr
  | .Call f es ks _ => f :: es ++ ks.map (·.value)
  | .List es _ => es
  | .Tuple es _ _ => es
  | .Attribute o _ _ => [o]
  | .BinOp a _ b _ => [a, b]
  | .Compare a _ bs _ => a :: bs
  | .UnaryOp _ a _ => [a]
  | .BoolOp _ vs _ => vs
  | .IfExp a b c _ => [a, b, c]
  | .Subscript a b _ => [a, b]
  | .ListComp e _ _ _ => [e]
  | _ => []
def sKids : Stmt → List Expr
  | .Assign _ e _ => [e]
  | .Expr e _ => [e]
  | .Return (some e) _ => [e]
  | .If c _ _ _ => [c]
  | _ => []
def ePath (e : Expr) : List Nat → Expr
  | [] => e
  | i :: r => ePath ((eKids e).getD i e) r
def lamAt (f : He.DefD) (i j : Nat) (r : List Nat) : LamD := match f.body[i]? with
  | some s => (match (sKids s)[j]? with
    | some e => (match ePath e r with
      | .Lambda p b sc _ => ⟨f.qual ++ ".<locals>." ++ "<lambda>", p, b, sc⟩
      | _ => ⟨f.qual, f.params, e, f.scope⟩)
    | none => ⟨f.qual, f.params, .Constant .none 0 ⟨0, 0, 0, 0⟩, f.scope⟩)
  | none => ⟨f.qual, f.params, .Constant .none 0 ⟨0, 0, 0, 0⟩, f.scope⟩
def ibB (self : Str) (N : List Str) : List Stmt → List (Str × Nat) → Bool
  | [], [] => true
  | .Assign [.Attribute (.Name s _) g _] (.Name p _) _ :: b, (f, i) :: l => s == self && g == f && decide (N[i]? = some p) && !(p == ("__debug__" : Str)) && !(p == ("__classdict__" : Str)) && ibB self N b l
  | _, _ => false
theorem ibB_of {self : Str} {N : List Str} : ∀ {b : List Stmt} {l : List (Str × Nat)}, ibB self N b l = true → IB self N b l := by
  intro b l
  induction b generalizing l with
  | nil =>
    intro h
    cases l with
    | nil => exact .nil
    | cons _ _ => cases h
  | cons s b ih =>
    intro h
    unfold ibB at h
    split at h
    · rename_i e1
      cases e1
    · rename_i e1
      cases e1
      simp only [Bool.and_eq_true, beq_iff_eq, decide_eq_true_eq, Bool.not_eq_true'] at h
      obtain ⟨⟨⟨⟨⟨rfl, rfl⟩, h1⟩, h2⟩, h3⟩, h4⟩ := h
      exact .cons h1 h2 h3 (ih h4)
    · cases h
def initBB (self : Str) (N : List Str) (b : List Stmt) (fl : List Str) : Bool := (!fl.isEmpty && ibB self N b (slots fl)) || (fl.isEmpty && nopB b)
theorem initBB_of {self : Str} {N : List Str} {b : List Stmt} {fl : List Str} (h : initBB self N b fl = true) : InitB self N b fl := by
  unfold initBB at h
  rw [Bool.or_eq_true, Bool.and_eq_true, Bool.and_eq_true] at h
  rcases h with ⟨h1,
                     h2⟩ | ⟨h1, h2⟩
  · exact .inl ⟨by simpa using h1, ibB_of h2⟩
  · exact .inr ⟨by simpa using h1, h2⟩
theorem lamr_succ (t : Txt) (n : Nat) (d : LamD) (e : E) (st : Store) (h : (lamOk d.params d.scope, trE { t.T with lm := none } [] TF d.scope d.body) = (true, some e)) : t.lamr (n + 1) d [] st = ev (t.rt n) e [] st := by
  show lamC t.T (t.rt n) d [] st = _
  unfold lamC
  obtain ⟨h1, h2⟩ := Prod.mk.inj h
  rw [h1, h2]
section
variable {st : Store} {k : Nat} {xs : List MV} {i : Int} {v : MV}
theorem ix_lst (h : st[k]? = some (.lst xs)) (hv : atI xs i = some v) : mIx st (.ref k) (.int i) = .ok v st := by
  simp only [mIx, seqA, seqL, h, hv]
theorem ix_tup (hv : atI xs i = some v) : mIx st (.tup xs) (.int i) = .ok v st := by
  simp only [mIx, seqA, seqL, seqT, hv]
theorem set_lst {j : Nat} (h : st[k]? = some (.lst xs)) (hi : ixN xs.length i = some j) : mSet st (.ref k) (.int i) v = .ok () (st.set k (.lst (xs.set j v))) := by
  simp only [mSet, h, hi]
theorem eqD_int (a b : Int) : eqD st (.int a) (.int b) = some (decide (a = b)) := by
  show some (PyData.eqv (.int a) (.int b)) = _
  simp [PyData.eqv]
  rfl
theorem len_lst (h : st[k]? = some (.lst xs)) : mB .len st [.ref k] = .ok (.int xs.length) st := by
  simp only [mB, seqA, seqL, h]
theorem append_lst (h : st[k]? = some (.lst xs)) (hl : xs.length < LN) : mM .append st (.ref k) [v] = .ok .non (st.set k (.lst (xs ++ [v]))) := by
  simp only [mM, h, hl, if_true]
/-- a def's run: its body from its parameters -/
theorem run_body (t : Txt) (n i : Nat) (ms : List MV) (st : Store) (h : ms.length = (fget t.defs t.d0 i).ps.length) :
    t.run (n + 1) i ms st = retOf (exs (t.rt n) (fget t.defs t.d0 i).m (startE (fget t.defs t.d0 i).N.length ms) st) := if_pos h
end
end Mn
/-! Mn25: evaluating: stores that grow, comprehensions, loops, lists put together. -/
namespace Mn
open PySem PySem.Spec
                      PyProof.Rows L2
/-! ### stores -/
theorem gx0 {α : Type} (st l : List α) (a : α) : (st ++ a :: l)[st.length]? = some a := by simp
theorem gxo {α : Type} {st : List α} (l : List α) {k : Nat} {o : α} (h : st[k]? = some o) : (st ++ l)[k]? = some o := by
  rw [List.getElem?_append_left (List.getElem?_eq_some_iff.mp h).1]
  exact h
theorem sx0 {α : Type} (st l : List α) (a b : α) : (st ++ a :: l).set st.length b = st ++ b :: l := by simp [List.set_append]
/-- the places of st but p are as they were -/
structure Kp (p : Nat) (st st' : Store) : Prop where
  len : st.length ≤ st'.length
  at_ : ∀ j, j < st.length → j ≠ p → st'[j]? = st[j]?
theorem Kp.rfl' {p : Nat} {st : Store} : Kp p st st := ⟨Nat.le_refl _, fun _ _ _ => rfl⟩
theorem Kp.trans {p : Nat} {a b c : Store} (h : Kp p a b) (k : Kp p b c) : Kp p a c := ⟨Nat.le_trans h.len k.len, fun j h1 h2 => (k.at_ j (Nat.lt_of_lt_of_le h1 h.len) h2).trans (h.at_ j h1 h2)⟩
theorem Kp.app {p : Nat} (st l : Store) : Kp p st (st ++ l) := ⟨by rw [List.length_append]; omega, fun j h _ => List.getElem?_append_left h⟩
theorem Kp.set {p : Nat} (st : Store) (o : MO) : Kp p st (st.set p o) := ⟨by rw [List.length_set]; exact Nat.le_refl _, fun j _ h => List.getElem?_set_ne (Ne.symm h)⟩
theorem Kp.get {p j : Nat} {st st' : Store} {o : MO} (k : Kp p st st') (h : st[j]? = some o) (n : j ≠ p) : st'[j]? = some o := (k.at_ j (List.getElem?_eq_some_iff.mp h).1 n).trans h
/-- where the place is beyond, the store has only grown -/
theorem Kp.grown {p : Nat} {st st' : Store} (k : Kp p st st') (h : st.length ≤ p) : ∃ l, st' = st ++ l := by
  refine ⟨st'.drop st.length, ?_⟩
  apply List.ext_getElem?
  intro j
  by_cases hj : j < st.length
  · rw [List.getElem?_append_left hj, k.at_ j hj (by omega)]
  · rw [List.getElem?_append_right (by omega), List.getElem?_drop]
    congr 1
    omega
/-! ### comprehensions -/
section
variable {nx : Store → Nat → Option (Option MV)} {g : SmG} {c : SmB} {e : Sm} {env : Env} {st : Store} {ys : List MV}
theorem lcGo_gen (hl : ys.length ≤ LN)
    (hstep : ∀ i (hi : i < ys.length) (acc : List MV) (l : Store), ∃ x y env1 l', ys[i]? = some y ∧ nx (st ++ .lst acc :: l) i = some (some x) ∧ g x env (st ++ .lst acc :: l) = .ok env1 (st ++ .lst acc :: l) ∧ c env1 (st ++ .lst acc :: l) = .ok true (st ++ .lst acc :: l) ∧ e env1 (st ++ .lst acc :: l) = .ok y (st ++ .lst acc :: (l ++ l')))
    (hend : ∀ l, nx (st ++ l) ys.length = some none) : ∀ m i l, i + m = ys.length → ∃ l', lcGo nx g c e st.length env (m + 1) i (st ++ .lst (ys.take i) :: l) = .ok (.ref st.length) (st ++ .lst ys :: l') := by
  intro m
  induction m with
  | zero =>
    intro i l hi
    have hi' : i = ys.length := by omega
    subst hi'
    refine ⟨l, ?_⟩
    unfold lcGo
    rw [hend, List.take_length]
  | succ m ih =>
    intro i l hi
    have hlt : i < ys.length := by omega
    obtain ⟨x, y, env1, l', hy, h1, h2, h3, h4⟩ := hstep i hlt (ys.take i) l
    obtain ⟨l2, h5⟩ := ih (i + 1) (l ++ l') (by omega)
    refine ⟨l2, ?_⟩
    rw [← h5]
    conv => lhs; unfold lcGo
    rw [h1]
    dsimp only
    rw [h2]
    dsimp only
    rw [h3]
    dsimp only
    rw [h4]
    dsimp only
    rw [gx0]
    dsimp only
    rw [if_pos (by rw [List.length_take]; omega), sx0, List.take_succ, hy]
    rfl
theorem sLc_gen {it : SmI} {own : List Nat} {s : Src} {st0 : Store} (hit : it env st0 = .ok s st) (hs : s.size st = ys.length) (hl : ys.length ≤ LN)
    (hstep : ∀ i (hi : i < ys.length) (acc : List MV) (l : Store), ∃ x y env1 l', ys[i]? = some y ∧ s.nx (st ++ .lst acc :: l) i = some (some x) ∧ g x (wipeE env own) (st ++ .lst acc :: l) = .ok env1 (st ++ .lst acc :: l) ∧ c env1 (st ++ .lst acc :: l) = .ok true (st ++ .lst acc :: l) ∧ e env1 (st ++ .lst acc :: l) = .ok y (st ++ .lst acc :: (l ++ l')))
    (hend : ∀ l, s.nx (st ++ l) ys.length = some none) : ∃ l', sLc it own g c e env st0 = .ok (.ref st.length) (st ++ .lst ys :: l') := by
  unfold sLc
  rw [hit]
  show ∃ l', lcGo s.nx g c e st.length (wipeE env own) (s.size st + 1) 0 (st ++ [.lst []]) = _
  rw [hs]
  exact lcGo_gen hl hstep hend ys.length 0 [] (by omega)
end
/-! ### loops -/
theorem forGo_gen {nx : Store → Nat → Option (Option MV)} {g : SmG} {b : SmS} {n : Nat} (P : Nat → Env → Store → Prop)
    (hstep : ∀ i env st, i < n → P i env st → ∃ x env1 env2 st2, nx st i = some (some x) ∧ g x env st = .ok env1 st ∧ b env1 st = .nx env2 st2 ∧ P (i + 1) env2 st2)
    (hend : ∀ env st, P n env st → nx st n = some none) : ∀ m i env st, i + m = n → P i env st → ∃ env2 st2, forGo nx g b (m + 1) i env st = .nx env2 st2 ∧ P n env2 st2 := by
  intro m
  induction m with
  | zero =>
    intro i env st hi hP
    have hi' : i = n := by omega
    subst hi'
    refine ⟨env, st, ?_, hP⟩
    unfold forGo
    rw [hend env st hP]
  | succ m ih =>
    intro i env st hi hP
    obtain ⟨x, env1, env2, st2, h1, h2, h3, h4⟩ := hstep i env st (by omega) hP
    obtain ⟨env3, st3, h5, h6⟩ := ih (i + 1) env2 st2 (by omega) h4
    refine ⟨env3, st3, ?_, h6⟩
    rw [← h5]
    conv => lhs; unfold forGo
    rw [h1]
    dsimp only
    rw [h2]
    dsimp only [RS.of]
    rw [h3]
/-! ### lists -/
section
variable {cs : Rt} {es : Es} {env : Env} {st : Store} {A B : List MV} {i j p : Nat}
theorem ev_lst (h : evs cs es env st = .ok B st) (hl : B.length ≤ LN) : ev cs (.lst es) env st = .ok (.ref st.length) (st ++ [.lst B]) := by
  show (evs cs es env st).bind _ = _
  rw [h]
  exact if_pos hl
theorem ev_cat (he : env[j]? = some (some (.ref p))) (hp : st[p]? = some (.lst A)) (h : evs cs es env st = .ok B st) (hl : A.length + B.length ≤ LN) :
    ev cs (.bin .Add (.v j) (.lst es)) env st = .ok (.ref (st.length + 1)) (st ++ [.lst B, .lst (A ++ B)]) := by
  show (sV j env st).bind _ = _
  unfold sV
  rw [he]
  show (ev cs (.lst es) env st).bind _ = _
  rw [ev_lst h (by omega)]
  show mAdd (st ++ [.lst B]) (.ref p) (.ref st.length) = _
  simp only [mAdd, gxo _ hp, gx0, hl, if_true, List.length_append, List.length_cons, List.length_nil, List.append_assoc, List.cons_append, List.nil_append]
theorem ex_lst (h : evs cs es env st = .ok B st) (hl : B.length ≤ LN) : ex cs (.set i (.lst es)) env st = .nx (env.set i (some (.ref st.length))) (st ++ [.lst B]) := by
  show RS.of (ev cs (.lst es) env st) env _ = _
  rw [ev_lst h hl]
  rfl
theorem ex_cat (he : env[j]? = some (some (.ref p))) (hp : st[p]? = some (.lst A)) (h : evs cs es env st = .ok B st) (hl : A.length + B.length ≤ LN) :
    ex cs (.set i (.bin .Add (.v j) (.lst es))) env st = .nx (env.set i (some (.ref (st.length + 1)))) (st ++ [.lst B, .lst (A ++ B)]) := by
  show RS.of (ev cs (.bin .Add (.v j) (.lst es)) env st) env _ = _
  rw [ev_cat he hp h hl]
  rfl
/-- the store has only grown -/
def Gr (st st' : Store) : Prop := ∃ l, st' = st ++ l
theorem Gr.refl {st : Store} : Gr st st := ⟨[], by simp⟩
theorem Gr.trans {a b c : Store} : Gr a b → Gr b c → Gr a c := fun ⟨l, h⟩ ⟨m, k⟩ => ⟨l ++ m, by rw [k, h, List.append_assoc]⟩
theorem Gr.get {a b : Store} {k : Nat} {o : MO} : Gr a b → a[k]? = some o → b[k]? = some o := fun ⟨l, h⟩ e => by rw [h]; exact gxo l e
theorem Gr.kp {a b : Store} (p : Nat) : Gr a b → Kp p a b := fun ⟨l, h⟩ => h ▸ Kp.app a l
theorem gr_ev_lst (h : evs cs es env st = .ok B st) (hl : B.length ≤ LN) : ∃ p st', ev cs (.lst es) env st = .ok (.ref p) st' ∧ Gr st st' ∧ st'[p]? = some (.lst B) := ⟨_, _, ev_lst h hl, ⟨_, rfl⟩, by simp⟩
theorem gr_ev_cat (he : env[j]? = some (some (.ref p))) (hp : st[p]? = some (.lst A)) (h : evs cs es env st = .ok B st) (hl : A.length + B.length ≤ LN) :
    ∃ p' st', ev cs (.bin .Add (.v j) (.lst es)) env st = .ok (.ref p') st' ∧ Gr st st' ∧ st'[p']? = some (.lst (A ++ B)) := ⟨_, _, ev_cat he hp h hl, ⟨_, rfl⟩, by simp⟩
theorem gr_lst (h : evs cs es env st = .ok B st) (hl : B.length ≤ LN) : ∃ p st', ex cs (.set i (.lst es)) env st = .nx (env.set i (some (.ref p))) st' ∧ Gr st st' ∧ st'[p]? = some (.lst B) := ⟨_, _, ex_lst h hl, ⟨_, rfl⟩, by simp⟩
theorem gr_cat (he : env[j]? = some (some (.ref p))) (hp : st[p]? = some (.lst A)) (h : evs cs es env st = .ok B st) (hl : A.length + B.length ≤ LN) :
    ∃ p' st', ex cs (.set i (.bin .Add (.v j) (.lst es))) env st = .nx (env.set i (some (.ref p'))) st' ∧ Gr st st' ∧ st'[p']? = some (.lst (A ++ B)) := ⟨_, _, ex_cat he hp h hl, ⟨_, rfl⟩, by simp⟩
theorem ex_ret (e : E) {v : MV} {st' : Store} (h : ev cs e env st = .ok v st') : ex cs (.ret e) env st = .rt v st' := by
  show RS.of (ev cs e env st) env _ = _
  rw [h]
  rfl
theorem exs_cons {s : S} {r : Ss} {env' : Env} {st' : Store} (h : ex cs s env st = .nx env' st') : exs cs (.cons s r) env st = exs cs r env' st' := by
  show qSeq (ex cs s) (exs cs r) env st = _
  unfold qSeq
  rw [h]
theorem exs_ret {s : S} {r : Ss} {v : MV} {st' : Store} (h : ex cs s env st = .rt v st') : exs cs (.cons s r) env st = .rt v st' := by
  show qSeq (ex cs s) (exs cs r) env st = _
  unfold qSeq
  rw [h]
end
/-! ### data that are shown -/
def Cps (x : Str) : Prop := ∀ c ∈ x.cps.toList, c < 0x110000
theorem Cps.app {x y : Str} (h : Cps x) (k : Cps y) : Cps (x ++ y) := by
  intro c hc
  rw [PySem.Str.cps_append,
                            Array.toList_append, List.mem_append] at hc
  rcases hc with hc | hc
  · exact h c hc
  · exact k c hc
theorem cps_dec {x : Str} (h : PyData.strOk x = true) : Cps x := by
  intro c hc
  have := (Array.all_eq_true_iff_forall_mem.mp h) c (Array.mem_toList_iff.mp hc)
  simpa using this
theorem Cps.ok {x : Str} (h : Cps x) : PyData.strOk x = true := by
  refine Array.all_eq_true_iff_forall_mem.mpr fun c hc => ?_
  have := h c (Array.mem_toList_iff.mpr hc)
  simpa using this
theorem cps_join {sep : Str} (hs : Cps sep) : ∀ {ts : List Str}, (∀ t ∈ ts, Cps t) → Cps (Str.join sep ts)
  | [], _ => cps_dec (x := Str.empty) (by decide +kernel)
  | [x], h => h x List.mem_cons_self
  | x :: y :: r, h => ((h x List.mem_cons_self).app hs).app (cps_join (ts := y :: r) hs fun t ht => h t (List.mem_cons_of_mem _ ht))
theorem cps_from : ∀ {ts : List Str} {k : Nat} {acc : Str}, Cps acc → (∀ t ∈ ts, Cps t) → Cps (textFrom k acc ts)
  | [], _, _, ha, _ => ha
  | t :: r, k, acc, ha, h => by
    refine cps_from (ts := r) (k := k + 1) ((ha.app ?_).app (h t List.mem_cons_self)) fun t ht => h t (List.mem_cons_of_mem _ ht)
    split
    · exact cps_dec (by decide +kernel)
    · exact cps_dec (by decide +kernel)
mutual
def okS : PyData → Bool
  | .none | .bool
                  _ | .int _ => true
  | .str x => PyData.strOk (PyData.str x).shown
  | .list xs | .tuple xs => okSs xs
  | .dict kvs => kvs.isEmpty
def okSs : List PyData → Bool
  | [] => true
  | x :: xs => okS x && okSs xs
end
mutual
theorem cps_shown : ∀ d : PyData, okS d = true → Cps d.shown
  | .none, _ => cps_dec (by decide +kernel)
  | .bool true, _ => cps_dec (by decide +kernel)
  | .bool false, _ => cps_dec (by decide +kernel)
  | .int i, _ => fun c hc => by
    by_cases h : c < 0x110000
    · exact h
    · exact absurd hc (shown_int_free' ⟨by omega, .inr (by omega)⟩ i)
  | .str x, h => cps_dec (by simpa only [okS] using h)
  | .list xs, h => by
    have h' := cps_showns xs (by simpa only [okS] using h)
    show Cps (listText (PyData.shownAll xs))
    exact (cps_from (cps_dec (by decide +kernel)) h').app (cps_dec (by decide +kernel))
  | .tuple xs, h => by
    have h' := cps_showns xs (by simpa only [okS] using h)
    show Cps (tupleText (PyData.shownAll xs))
    unfold tupleText
    refine (Cps.app (cps_dec (by decide +kernel)) (cps_join (cps_dec (by decide +kernel)) h')).app ?_
    split
    · exact cps_dec (by decide +kernel)
    · exact cps_dec (by decide +kernel)
  | .dict kvs, h => by
    have e : kvs = [] := by simpa only [okS, List.isEmpty_iff] using h
    subst e
    exact cps_dec (by decide +kernel)
theorem cps_showns : ∀ xs : List PyData, okSs xs = true → ∀ t ∈ PyData.shownAll xs, Cps t
  | [], _ => fun t ht => by cases ht
  | x :: xs, h => fun t ht => by
    have h' : okS x = true ∧ okSs xs = true := by simpa only [okSs, Bool.and_eq_true] using h
    have ht' : t ∈ x.shown :: PyData.shownAll xs := ht
    rcases List.mem_cons.mp ht' with rfl | ht'
    · exact cps_shown x h'.1
    · exact cps_showns xs h'.2 t ht'
end
def okD (d : PyData) : Bool := d.showable && d.leavesShort 30 && decide (d.weight ≤ 1000) && decide (d.depth ≤ 20) && okS d
theorem repr_ok {st : Store} {x : MV} {d : PyData} (h : dat st DF x = some d) (ok : okD d = true) : mB .repr st [x] = .ok (.str d.shown) st := by
  unfold okD at ok
  simp only [Bool.and_eq_true,
                               decide_eq_true_eq] at ok
  obtain ⟨⟨⟨⟨h1, h2⟩, h3⟩, h4⟩, _⟩ := ok
  have h5 := PyData.shown_le 30 (by decide) d h2
  simp only [mB, h]
  rw [if_pos ⟨h1, by show _ ≤ 16777216; omega, by show _ ≤ 40; omega⟩]
theorem eqv_str (a : Str) : PyData.eqv (.str a) (.str a) = true := by simp [PyData.eqv]
/-- what is shown is like itself -/
theorem eq_shown (st : Store) {d : PyData} (ok : okD d = true) : mCmp .Eq st (.str d.shown) (.str d.shown) = .ok (.bl true) st := by
  unfold okD at ok
  simp only
            [Bool.and_eq_true] at ok
  have h := (cps_shown d ok.2).ok
  have e : SeqAt.shaped (.str d.shown) = true := by
    show (PyData.canLay0 (.str d.shown) && decide ((PyData.str d.shown).depth ≤ 64)) = true
    have h1 : PyData.canLay0 (.str d.shown) = true := h
    rw [h1]
    rfl
  show bR st (if (SeqAt.shaped (.str d.shown) && SeqAt.shaped (.str d.shown)) = true then some (PyData.eqv (.str d.shown) (.str d.shown)) else none) = _
  rw [e, eqv_str]
  rfl
theorem eqD_refl {st : Store} {x y : MV} {d : PyData} (h1 : dat st DF x = some d) (h2 : dat st DF y = some d) (hs : SeqAt.shaped d = true) : eqD st x y = some true := by
  have hc : PyData.canLay0 d = true := by
    have : (PyData.canLay0 d && decide (d.depth ≤ 64)) = true := hs
    rw [Bool.and_eq_true] at this
    exact this.1
  simp only [eqD, h1, h2, hs, Bool.and_self, if_true, SeqAt.eqv_refl d hc]
theorem dat_bl (st : Store) (n : Nat) (b : Bool) : dat st n (.bl b) = some (.bool b) := by cases n <;> rfl
theorem dat_bls (st : Store) (n : Nat) : ∀ l : List Bool, mapO (dat st n) (l.map MV.bl) = some (l.map PyData.bool)
  | [] => rfl
  | b :: l => by
    simp only [List.map_cons, mapO, dat_bls st n l, dat_bl]
theorem dat_lst {st : Store} {p n : Nat} {xs : List MV} {ds : List PyData} (h : st[p]? = some (.lst xs)) (hd : mapO (dat st n) xs = some ds) : dat st (n + 1) (.ref p) = some (.list ds) := by
  simp only [dat, h, hd, Option.map_some]
theorem eqD_bls {st : Store} {p q : Nat} {l : List Bool} (h1 : st[p]? = some (.lst (l.map MV.bl))) (h2 : st[q]? = some (.lst (l.map MV.bl))) (hs : SeqAt.shaped (.list (l.map PyData.bool)) = true) : eqD st (.ref p) (.ref q) = some true :=
  eqD_refl (dat_lst (n := 39) h1 (dat_bls st 39 l)) (dat_lst (n := 39) h2 (dat_bls st 39 l)) hs
theorem mapO_rep (m : Nat) : mapO blO (List.replicate m (MV.bl true)) = some (List.replicate m true) := by
  induction m with
  | zero => rfl
  | succ m ih => simp only [List.replicate_succ, mapO, ih, blO]
/-- all([.. for .. in ..]), each of them true -/
theorem all_lc {cs : Rt} {it : Ie} {own : List Nat} {g : Tg} {e : E} {env : Env} {st0 st : Store} {s : Src} (m : Nat) (hit : evI cs it env st0 = .ok s st) (hs : s.size st = m) (hm : m ≤ LN)
    (hstep : ∀ i, i < m → ∀ S, Gr st S → ∃ x env1 S', s.nx S i = some (some x) ∧ evG cs g x (wipeE env own) S = .ok env1 S ∧ ev cs e env1 S = .ok (.bl true) S' ∧ Gr S S') (hend : ∀ S, Gr st S → s.nx S m = some none) :
    ∃ st', ev cs (.blt .all (.cons (.lc own g it .yes e) .nil)) env st0 = .ok (.bl true) st' ∧ Gr st st' := by
  obtain ⟨l, h⟩ := sLc_gen (g := evG cs g) (c := evT cs .yes) (e := ev cs e) (own := own) (ys := List.replicate m (MV.bl true)) hit (by rw [hs, List.length_replicate]) (by rw [List.length_replicate]; exact hm)
    (fun i hi acc l => by
      rw [List.length_replicate] at hi
      obtain ⟨x, env1, S', h1, h2, h3, l', h4⟩ := hstep i hi (st ++ .lst acc :: l) ⟨_, rfl⟩
      subst h4
      exact ⟨x, .bl true, env1, l', by rw [List.getElem?_replicate, if_pos hi], h1, h2, rfl, by rw [h3, List.append_assoc, List.cons_append]⟩) (fun l => by rw [List.length_replicate]; exact hend _ ⟨_, rfl⟩)
  refine ⟨st ++ .lst (List.replicate m (.bl true)) :: l, ?_, ⟨_, rfl⟩⟩
  · show ((sLc (evI cs it) own (evG cs g) (evT cs .yes) (ev cs e) env st0).bind fun x st => R.ok [x] st).bind _ = _
    rw [h]
    show mB .all (st ++ .lst (List.replicate m (.bl true)) :: l) [.ref st.length] = _
    have e1 : (seqL (st ++ .lst (List.replicate m (.bl true)) :: l) (.ref st.length)).bind (mapO blO) = some (List.replicate m true) := by
      simp only [seqL, gx0, Option.bind_some, mapO_rep]
    simp only [mB, e1]
    congr 2
    simp
theorem nx_lst {q i : Nat} {xs : List MV} {S : Store} (h : S[q]? = some (.lst xs)) : Src.nx (.lst q) S i = some xs[i]? := by
  show (match S[q]? with
    | some (.lst xs) => some xs[i]?
    | some (.frz xs) => some xs[i]?
    | _ => none) = _
  rw [h]
theorem size_lst {q : Nat} {xs : List MV} {S : Store} (h : S[q]? = some (.lst xs)) : Src.size (.lst q) S = xs.length := by
  show (match S[q]? with
    | some (.lst xs) => xs.length
    | some (.frz xs) => xs.length
    | _ => 0) = _
  rw [h]
/-- a slice that is walked -/
theorem walk_sl {cs : Rt} {j p : Nat} {lo hi : Oe} {lo' hi' : Option Int} {env : Env} {st : Store} {xs : List MV} (he : env[j]? = some (some (.ref p))) (hp : st[p]? = some (.lst xs)) (h1 : ∀ S, evO cs lo env S = .ok lo' S) (h2 : ∀ S, evO cs hi env S = .ok hi' S) :
    ∃ q st', evI cs (.seq (.sl (.v j) lo hi)) env st = .ok (.lst q) st' ∧ Gr st st' ∧ st'[q]? = some (.lst (cutM xs lo' hi')) := by
  refine ⟨st.length, st ++ [.lst (cutM xs lo' hi')], ?_, ⟨_, rfl⟩, gx0 _ _ _⟩
  have e1 : ev cs (.sl (.v j) lo hi) env st = .ok (.ref st.length) (st ++ [.lst (cutM xs lo' hi')]) := by
    show (sV j env st).bind _ = _
    unfold sV
    rw [he]
    show (evO cs lo env st).bind _ = _
    rw [h1]
    show (evO cs hi env st).bind _ = _
    rw [h2]
    show mSl st (.ref p) lo' hi' = _
    simp only [mSl, seqL, hp]
  show (ev cs (.sl (.v j) lo hi) env st).bind _ = _
  rw [e1]
  show (match seqL (st ++ [MO.lst (cutM xs lo' hi')]) (MV.ref st.length) with
    | some _ => R.ok (Src.lst st.length) (st ++ [MO.lst (cutM xs lo' hi')])
    | none => .stk) = _
  simp only [seqL, gx0]
/-- two reprs of what is alike -/
theorem eq_repr {cs : Rt} {a b : E} {x y : MV} {env : Env} {S S1 S2 : Store} {d : PyData} (ha : ev cs a env S = .ok x S1) (hb : ev cs b env S1 = .ok y S2) (dx : dat S1 DF x = some d) (dy : dat S2 DF y = some d) (ok : okD d = true) :
    ev cs (.cmp .Eq (.blt .repr (.cons a .nil)) (.blt .repr (.cons b .nil))) env S = .ok (.bl true) S2 := by
  show (((ev cs a env S).bind fun x st => R.ok [x] st).bind fun xs st => mB .repr st xs).bind _ = _
  rw [ha]
  show (mB .repr S1 [x]).bind _ = _
  rw [repr_ok dx ok]
  show (((ev cs b env S1).bind fun x st => R.ok [x] st).bind fun xs st => mB .repr st xs).bind _ = _
  rw [hb]
  show (mB .repr S2 [y]).bind _ = _
  rw [repr_ok dy ok]
  exact eq_shown S2 ok
/-- all([.. for .. in l[..:..]]), each of them true -/
theorem all_sl {cs : Rt} {j p v : Nat} {lo hi : Oe} {lo' hi' : Option Int} {e : E} {env : Env} {st : Store} {xs ys : List MV} (he : env[j]? = some (some (.ref p))) (hp : st[p]? = some (.lst xs)) (h1 : ∀ S, evO cs lo env S = .ok lo' S) (h2 : ∀ S, evO cs hi env S = .ok hi' S) (hy : cutM xs lo' hi' = ys) (hl : ys.length ≤ LN)
    (hstep : ∀ x ∈ ys, ∀ S, Gr st S → ∃ S', ev cs e ((wipeE env [v]).set v (some x)) S = .ok (.bl true) S' ∧ Gr S S') :
    ∃ st', ev cs (.blt .all (.cons (.lc [v] (.v v) (.seq (.sl (.v j) lo hi)) .yes e) .nil)) env st = .ok (.bl true) st' ∧ Gr st st' := by
  obtain ⟨q, s1, h3, g1, h4⟩ := walk_sl (cs := cs) he hp h1 h2
  rw [hy] at h4
  obtain ⟨s2, h5, g2⟩ := all_lc (own := [v]) (g := .v v) (e := e) ys.length h3 (size_lst h4) hl (fun i hi S g => by
    obtain ⟨S', h6, g6⟩ := hstep ys[i] (List.getElem_mem hi) S (g1.trans g)
    exact ⟨ys[i], _, S', by rw [nx_lst (g.get h4), List.getElem?_eq_getElem hi], rfl, h6, g6⟩) fun S g => by rw [nx_lst (g.get h4), List.getElem?_eq_none (Nat.le_refl _)]
  exact ⟨s2, h5, g1.trans g2⟩
/-- if not ..: .., where it is -/
theorem if_not {cs : Rt} {e : E} {a : Ss} {env : Env} {st st' : Store} (h : ev cs e env st = .ok (.bl true) st') : ex cs (.ite (.not (.e e)) a .nil) env st = .nx env st' := by
  show RS.of ((((ev cs e env st).bind fun x st => match tru st x with
    | some b => .ok b st
    | none => .stk)).bind fun b st => R.ok (!b) st) env _ = _
  rw [h]
  rfl
theorem ex_set {cs : Rt} {i : Nat} {e : E} {env : Env} {st st' : Store} {v : MV} (h : ev cs e env st = .ok v st') : ex cs (.set i e) env st = .nx (env.set i (some v)) st' := by
  show RS.of (ev cs e env st) env _ = _
  rw [h]
  rfl
theorem ex_expr {cs : Rt} {e : E} {env : Env} {st st' : Store} {v : MV} (h : ev cs e env st = .ok v st') : ex cs (.expr e) env st = .nx env st' := by
  show RS.of (ev cs e env st) env _ = _
  rw [h]
  rfl
theorem ex_par {cs : Rt} {i j : Nat} {a b : E} {env : Env} {st st1 st2 : Store} {v w : MV} (h1 : ev cs a env st = .ok v st1) (h2 : ev cs b env st1 = .ok w st2) : ex cs (.par i j a b) env st = .nx ((env.set i (some v)).set j (some w)) st2 := by
  show RS.of ((ev cs a env st).bind _) env _ = _
  rw [h1]
  show RS.of (((ev cs b env st1).bind _).bind _) env _ = _
  rw [h2]
  rfl
theorem ex_if {cs : Rt} {t : T} {a b : Ss} {env : Env} {st st' : Store} {k : Bool} (h : evT cs t env st = .ok k st') : ex cs (.ite t a b) env st = if k = true then exs cs a env st' else exs cs b env st' := by
  show RS.of (evT cs t env st) env _ = _
  rw [h]
  rfl
theorem evT_e {cs : Rt} {e : E} {env : Env} {st st' : Store} {b : Bool} (h : ev cs e env st = .ok (.bl b) st') : evT cs (.e e) env st = .ok b st' := by
  show (ev cs e env st).bind _ = _
  rw [h]
  rfl
theorem evT_not {cs : Rt} {t : T} {env : Env} {st st' : Store} {b : Bool} (h : evT cs t env st = .ok b st') : evT cs (.not t) env st = .ok (!b) st' := by
  show (evT cs t env st).bind _ = _
  rw [h]
  rfl
theorem evT_or {cs : Rt} {t u : T} {env : Env} {st st1 st2 : Store} {b : Bool} (h : evT cs t env st = .ok false st1) (h2 : evT cs u env st1 = .ok b st2) : evT cs (.or t u) env st = .ok b st2 := by
  show (evT cs t env st).bind _ = _
  rw [h]
  show (if false = true then R.ok true st1 else evT cs u env st1) = _
  rw [if_neg
             Bool.false_ne_true]
  exact h2
theorem ev_add {cs : Rt} {i j p q : Nat} {env : Env} {st : Store} {A B : List MV} (h1 : env[i]? = some (some (.ref p))) (h2 : env[j]? = some (some (.ref q))) (h3 : st[p]? = some (.lst A)) (h4 : st[q]? = some (.lst B)) (hl : A.length + B.length ≤ LN) :
    ev cs (.bin .Add (.v i) (.v j)) env st = .ok (.ref st.length) (st ++ [.lst (A ++ B)]) := by
  show (sV i env st).bind _ = _
  unfold sV
  rw [h1]
  show (sV j env st).bind _ = _
  unfold sV
  rw [h2]
  show mAdd st (.ref p) (.ref q) = _
  simp only [mAdd, h3, h4, hl, if_true]
end Mn
namespace K10
open PySem PySem.Spec PyProof.Rows L2 Mn
def top (i : Nat) : Stmt := (PySem.Challenge.pw_threeswaps_k10_errors_made).main.body.getD i (.Pass ⟨0, 0, 0, 0⟩)
def meth (i j : Nat) : Stmt := (clsBody (top i)).getD j (.Pass ⟨0, 0, 0, 0⟩)
abbrev kd0 : He.DefD := ⟨(("_law_pot" : Str), none), ("_law_pot" : Str), ("_law_pot" : Str), defArgs (top 23), defBody (top 23), defScope (top 23), [], []⟩
/-- _law_pot -/
abbrev km0 : Ss := (.cons (.set 2 (.bin .Add (.bin .Mult (.k (.int 29)) (.v 1)) (.k (.int 11))))
      (.cons (.ite (.e (.cmp .Lt (.v 1) (.blt .len (.cons (.v 0) .nil)))) (.cons (.set 2 (.blt .abs (.cons (.ix (.v 0) (.v 1)) .nil)))
      .nil) .nil)
      (.cons (.ret (.lst (.cons (.blt .max (.cons (.k (.int 0)) (.cons (.bin .Sub (.v 2) (.bin .Pow (.k (.int 10)) (.k (.int 18)))) .nil))) (.cons (.bin .Add (.bin .Mod (.blt .int (.cons (.bin .Add (.bin .Add (.bin .Mult (.bin .Mod (.blt .int (.cons (.v 2) .nil)) (.k (.int 2147483563))) (.k (.int 44017))) (.bin .Mult (.k (.int 7129)) (.v 1))) (.k (.int 53))) .nil)) (.k (.int 2147483629))) (.k (.int 1))) .nil))))
      .nil)))
abbrev kf0 : Fd := ⟨kd0, [("_law_script" : Str), ("_law_k" : Str), ("_law_cell" : Str)], [("_law_script" : Str), ("_law_k" : Str)], [("_law_script" : Str), ("_law_k" : Str), ("_law_cell" : Str)], km0, false, false⟩
abbrev kd1 : He.DefD := ⟨(("_law_draw" : Str), none), ("_law_draw" : Str), ("_law_draw" : Str), defArgs (top 24), defBody (top 24), defScope (top 24), [], []⟩
/-- _law_draw -/
abbrev km1 : Ss := (.cons (.ite (.e (.cmp .Gt (.ix (.v 0) (.k (.int 0))) (.k (.int 0)))) (.cons (.asg (.blt .divmod (.cons (.ix (.v 0) (.k (.int 0))) (.cons (.v 1) .nil))) (.tup 2 (.cons (.ix (.v 0) (.k (.int 0))) (.cons (.v 2) .nil))))
      (.cons (.ret (.v 2))
      .nil)) .nil)
      (.cons (.asg (.bin .Mod (.blt .int (.cons (.bin .Add (.bin .Mult (.ix (.v 0) (.k (.int 1))) (.k (.int 48271))) (.k (.int 20011))) .nil)) (.k (.int 2147483629))) (.ix (.v 0) (.k (.int 1))))
      (.cons (.ret (.bin .Mod (.blt .int (.cons (.bin .FloorDiv (.bin .Mod (.blt .int (.cons (.bin .Mult (.ix (.v 0) (.k (.int 1))) (.ix (.v 0) (.k (.int 1)))) .nil)) (.k (.int 2147483587))) (.k (.int 11))) .nil)) (.v 1)))
      .nil)))
abbrev kf1 : Fd := ⟨kd1, [("_law_pot_here" : Str), ("_law_size" : Str), ("_law_digit" : Str)], [("_law_pot_here" : Str), ("_law_size" : Str)], [("_law_pot_here" : Str), ("_law_size" : Str), ("_law_digit" : Str)], km1, false, false⟩
abbrev kd2 : He.DefD := ⟨(("_law_choice" : Str), none), ("_law_choice" : Str), ("_law_choice" : Str), defArgs (top 25), defBody (top 25), defScope (top 25), [], []⟩
/-- _law_choice -/
abbrev km2 : Ss := (.cons (.ret (.ix (.v 1) (.call 1 [] (.cons (.v 0) (.cons (.blt .len (.cons (.v 1) .nil)) .nil)))))
      .nil)
abbrev kf2 : Fd := ⟨kd2, [("_law_pot_here" : Str), ("_law_some" : Str)], [("_law_pot_here" : Str), ("_law_some" : Str)], [("_law_pot_here" : Str), ("_law_some" : Str)], km2, false, false⟩
abbrev kd3 : He.DefD := ⟨(("_law_parts" : Str), none), ("_law_parts" : Str), ("_law_parts" : Str), defArgs (top 26), defBody (top 26), defScope (top 26), [], []⟩
/-- _law_parts -/
abbrev km3 : Ss := (.cons (.set 1 (.call 2 [] (.cons (.v 0) (.cons (.lst (.cons (.k .non) (.cons (.k (.bl true)) (.cons (.k (.str ("" : Str))) (.cons (.k (.str ("1" : Str))) (.cons (.tup (.cons (.k (.int 2)) (.cons (.k (.int 4)) .nil))) (.cons (.lst .nil) (.cons .dct0 (.cons (.tup (.cons (.k (.str ("line" : Str))) (.cons (.k (.int 0)) (.cons (.k (.int 0)) .nil)))) (.cons (.neg (.k (.int 3))) (.cons (.k (.str ("A" : Str))) (.cons (.k (.str ("period  f" : Str))) .nil)))))))))))) .nil))))
      (.cons (.set 2 (.call 2 [] (.cons (.v 0) (.cons (.lst (.cons (.tup (.cons (.k (.str ("table" : Str))) (.cons (.k .non) (.cons (.k .non) .nil)))) (.cons (.tup (.cons (.k (.str ("integer" : Str))) (.cons (.call 1 [] (.cons (.v 0) (.cons (.k (.int 60)) .nil))) (.cons (.k .non) .nil)))) (.cons (.tup (.cons (.k (.str ("meeting" : Str))) (.cons (.k (.int 5)) (.cons (.k (.int 2)) .nil)))) .nil)))) .nil))))
      (.cons (.set 3 (.call 2 [] (.cons (.v 0) (.cons (.lst (.cons (.tup (.cons (.k (.int 1)) (.cons (.k (.int 1)) .nil))) (.cons (.tup (.cons (.neg (.k (.int 3))) (.cons (.k (.int 2)) .nil))) (.cons (.tup (.cons (.k (.int 0)) (.cons (.k (.int 1)) .nil))) (.cons (.tup (.cons (.bin .Pow (.k (.int 10)) (.k (.int 20))) (.cons (.k (.int 7)) .nil))) .nil))))) .nil))))
      (.cons (.par 4 5 (.bin .Add (.k (.int 1)) (.call 1 [] (.cons (.v 0) (.cons (.k (.int 5000)) .nil)))) (.bin .Sub (.call 1 [] (.cons (.v 0) (.cons (.k (.int 41)) .nil))) (.k (.int 20))))
      (.cons (.ret (.tup (.cons (.v 1) (.cons (.v 2) (.cons (.v 3) (.cons (.v 4) (.cons (.v 5) .nil)))))))
      .nil)))))
abbrev kf3 : Fd := ⟨kd3, [("_law_pot_here" : Str), ("_law_odd" : Str), ("_law_table" : Str), ("_law_speed" : Str), ("_law_size" : Str), ("_law_rank" : Str)], [("_law_pot_here" : Str)], [("_law_pot_here" : Str), ("_law_odd" : Str), ("_law_table" : Str), ("_law_speed" : Str), ("_law_size" : Str), ("_law_rank" : Str)], km3, false, false⟩
abbrev kd4 : He.DefD := ⟨(("_law_first" : Str), none), ("_law_first" : Str), ("_law_first" : Str), defArgs (top 27), defBody (top 27), defScope (top 27), [], []⟩
/-- _law_first -/
abbrev km4 : Ss := (.cons (.asg (.v 0) (.tup 5 (.cons (.v 1) (.cons (.v 2) (.cons (.v 3) (.cons (.v 4) (.cons (.v 5) .nil)))))))
      (.cons (.set 6 (.lst (.cons (.mkx 1 [0] (.cons (.v 1) .nil) .nil) (.cons (.mkx 1 [0] .nil (.cons (.v 1) .nil)) (.cons (.mkx 2 [0] (.cons (.v 1) .nil) .nil) (.cons (.mkx 2 [0] .nil (.cons (.v 1) .nil)) .nil))))))
      (.cons (.set 6 (.bin .Add (.v 6) (.lst (.cons (.mkx 5 [0] (.cons (.v 1) .nil) .nil) (.cons (.mkx 5 [0] .nil (.cons (.v 1) .nil)) (.cons (.mkx 8 [0] (.cons (.v 1) .nil) .nil) (.cons (.mkx 8 [0] .nil (.cons (.v 1) .nil)) .nil)))))))
      (.cons (.set 6 (.bin .Add (.v 6) (.lst (.cons (.mkx 9 [0] (.cons (.v 1) .nil) .nil) (.cons (.mkx 9 [0] .nil (.cons (.v 1) .nil)) (.cons (.mkx 10 [0] (.cons (.v 1) .nil) .nil) (.cons (.mkx 10 [0] .nil (.cons (.v 1) .nil)) .nil)))))))
      (.cons (.set 6 (.bin .Add (.v 6) (.lst (.cons (.mkx 3 [0, 1, 2] (.cons (.ix (.v 2) (.k (.int 0))) (.cons (.ix (.v 2) (.k (.int 1))) (.cons (.ix (.v 2) (.k (.int 2))) .nil))) .nil) .nil))))
      (.cons (.set 6 (.bin .Add (.v 6) (.lst (.cons (.mkx 3 [1, 2, 0] .nil (.cons (.ix (.v 2) (.k (.int 2))) (.cons (.ix (.v 2) (.k (.int 0))) (.cons (.ix (.v 2) (.k (.int 1))) .nil)))) .nil))))
      (.cons (.set 6 (.bin .Add (.v 6) (.lst (.cons (.mkx 4 [0] (.cons (.v 4) .nil) .nil) (.cons (.mkx 4 [0] .nil (.cons (.v 4) .nil)) (.cons (.mkx 7 [0] (.cons (.v 4) .nil) .nil) (.cons (.mkx 7 [0] .nil (.cons (.v 4) .nil)) .nil)))))))
      (.cons (.ret (.bin .Add (.v 6) (.lst (.cons (.mkx 6 [0] (.cons (.ix (.v 2) (.k (.int 0))) .nil) .nil) (.cons (.mkx 6 [0] .nil (.cons (.ix (.v 2) (.k (.int 0))) .nil)) .nil)))))
      .nil))))))))
abbrev kf4 : Fd := ⟨kd4, [("_law_parts_here" : Str), ("_law_odd" : Str), ("_law_table" : Str), ("_law_speed" : Str), ("_law_size" : Str), ("_law_rank" : Str), ("_law_made" : Str)], [("_law_parts_here" : Str)], [("_law_parts_here" : Str), ("_law_odd" : Str), ("_law_table" : Str), ("_law_speed" : Str), ("_law_size" : Str), ("_law_rank" : Str), ("_law_made" : Str)], km4, false, false⟩
abbrev kd5 : He.DefD := ⟨(("_law_second" : Str), none), ("_law_second" : Str), ("_law_second" : Str), defArgs (top 28), defBody (top 28), defScope (top 28), [], []⟩
/-- _law_second -/
abbrev km5 : Ss := (.cons (.asg (.v 0) (.tup 5 (.cons (.v 1) (.cons (.v 2) (.cons (.v 3) (.cons (.v 4) (.cons (.v 5) .nil)))))))
      (.cons (.set 6 (.lst (.cons (.mkx 12 [0, 1] (.cons (.v 3) (.cons (.v 5) .nil)) .nil) (.cons (.mkx 12 [1, 0] .nil (.cons (.v 5) (.cons (.v 3) .nil))) (.cons (.mkx 14 [0, 1] (.cons (.v 3) (.cons (.v 4) .nil)) .nil) (.cons (.mkx 14 [1, 0] .nil (.cons (.v 4) (.cons (.v 3) .nil))) .nil))))))
      (.cons (.set 6 (.bin .Add (.v 6) (.lst (.cons (.mkx 13 [0] (.cons (.tup (.cons (.k (.str ("speed" : Str))) (.cons (.v 3) (.cons (.v 4) (.cons (.k (.int 0)) .nil))))) .nil) .nil) (.cons (.mkx 13 [0] .nil (.cons (.tup (.cons (.k (.str ("speed" : Str))) (.cons (.v 3) (.cons (.v 4) (.cons (.k (.int 0)) .nil))))) .nil)) .nil)))))
      (.cons (.set 6 (.bin .Add (.v 6) (.lst (.cons (.mkx 15 [0] (.cons (.v 5) .nil) .nil) (.cons (.mkx 15 [0] .nil (.cons (.v 5) .nil)) (.cons (.mkx 16 [0] (.cons (.v 1) .nil) .nil) (.cons (.mkx 16 [0] .nil (.cons (.v 1) .nil)) (.cons (.mkx 17 [] .nil .nil) .nil))))))))
      (.cons (.ret (.bin .Add (.v 6) (.lst (.cons (.mkx 17 [] .nil .nil) (.cons (.mkx 19 [0] (.cons (.v 4) .nil) .nil) (.cons (.mkx 19 [0] .nil (.cons (.v 4) .nil)) (.cons (.mkx 20 [0] (.cons (.v 4) .nil) .nil) (.cons (.mkx 20 [0] .nil (.cons (.v 4) .nil)) .nil))))))))
      .nil)))))
abbrev kf5 : Fd := ⟨kd5, [("_law_parts_here" : Str), ("_law_odd" : Str), ("_law_table" : Str), ("_law_speed" : Str), ("_law_size" : Str), ("_law_rank" : Str), ("_law_made" : Str)], [("_law_parts_here" : Str)], [("_law_parts_here" : Str), ("_law_odd" : Str), ("_law_table" : Str), ("_law_speed" : Str), ("_law_size" : Str), ("_law_rank" : Str), ("_law_made" : Str)], km5, false, false⟩
abbrev kd6 : He.DefD := ⟨(("_law_marks" : Str), none), ("_law_marks" : Str), ("_law_marks" : Str), defArgs (top 29), defBody (top 29), defScope (top 29), [], []⟩
/-- _law_marks -/
abbrev km6 : Ss := (.cons (.set 1 (.lst (.cons (.isi (.cons (.v 0) (.cons (.k (.cls 1)) .nil))) (.cons (.isi (.cons (.v 0) (.cons (.k (.cls 2)) .nil))) (.cons (.isi (.cons (.v 0) (.cons (.k (.cls 5)) .nil))) .nil)))))
      (.cons (.set 1 (.bin .Add (.v 1) (.lst (.cons (.isi (.cons (.v 0) (.cons (.k (.cls 8)) .nil))) (.cons (.isi (.cons (.v 0) (.cons (.k (.cls 9)) .nil))) (.cons (.isi (.cons (.v 0) (.cons (.k (.cls 10)) .nil))) .nil))))))
      (.cons (.set 1 (.bin .Add (.v 1) (.lst (.cons (.isi (.cons (.v 0) (.cons (.k (.cls 3)) .nil))) (.cons (.isi (.cons (.v 0) (.cons (.k (.cls 4)) .nil))) (.cons (.isi (.cons (.v 0) (.cons (.k (.cls 7)) .nil))) .nil))))))
      (.cons (.set 1 (.bin .Add (.v 1) (.lst (.cons (.isi (.cons (.v 0) (.cons (.k (.cls 6)) .nil))) (.cons (.isi (.cons (.v 0) (.cons (.k (.cls 12)) .nil))) (.cons (.isi (.cons (.v 0) (.cons (.k (.cls 14)) .nil))) .nil))))))
      (.cons (.set 1 (.bin .Add (.v 1) (.lst (.cons (.isi (.cons (.v 0) (.cons (.k (.cls 13)) .nil))) (.cons (.isi (.cons (.v 0) (.cons (.k (.cls 15)) .nil))) (.cons (.isi (.cons (.v 0) (.cons (.k (.cls 16)) .nil))) .nil))))))
      (.cons (.ret (.bin .Add (.v 1) (.lst (.cons (.isi (.cons (.v 0) (.cons (.k (.cls 17)) .nil))) (.cons (.isi (.cons (.v 0) (.cons (.k (.cls 19)) .nil))) (.cons (.isi (.cons (.v 0) (.cons (.k (.cls 20)) .nil))) .nil))))))
      .nil))))))
abbrev kf6 : Fd := ⟨kd6, [("_law_made" : Str), ("_law_marks_here" : Str)], [("_law_made" : Str)], [("_law_made" : Str), ("_law_marks_here" : Str)], km6, false, false⟩
abbrev kd7 : He.DefD := ⟨(("_law_above_right" : Str), none), ("_law_above_right" : Str), ("_law_above_right" : Str), defArgs (top 30), defBody (top 30), defScope (top 30), [], []⟩
/-- _law_above_right -/
abbrev km7 : Ss := (.cons (.set 2 (.lst (.cons (.isi (.cons (.v 0) (.cons (.k (.cls 0)) .nil))) (.cons (.isi (.cons (.v 0) (.cons (.k (.cls 11)) .nil))) (.cons (.isi (.cons (.v 0) (.cons (.k (.cls 18)) .nil))) .nil)))))
      (.cons (.set 2 (.bin .Add (.v 2) (.lst (.cons (.isi (.cons (.v 0) (.cons (.k (.ty "ValueError")) .nil))) (.cons (.isi (.cons (.v 0) (.cons (.k (.ty "LookupError")) .nil))) (.cons (.isi (.cons (.v 0) (.cons (.k (.ty "ArithmeticError")) .nil))) .nil))))))
      (.cons (.set 3 (.bin .Add (.blt .int (.cons (.cmp .Gt (.v 1) (.k (.int 9))) .nil)) (.blt .int (.cons (.cmp .Gt (.v 1) (.k (.int 15))) .nil))))
      (.cons (.ret (.cmp .Eq (.v 2) (.lc [4] (.v 4) (.r1 (.k (.int 6))) .yes (.cmp .In (.v 4) (.tup (.cons (.v 3) (.cons (.bin .Add (.v 3) (.k (.int 3))) .nil)))))))
      .nil))))
abbrev kf7 : Fd := ⟨kd7, [("_law_made" : Str), ("_law_place" : Str), ("_law_above" : Str), ("_law_at" : Str), ("_law_k" : Str)], [("_law_made" : Str), ("_law_place" : Str)], [("_law_made" : Str), ("_law_place" : Str), ("_law_above" : Str), ("_law_at" : Str), ("_law_k" : Str)], km7, false, false⟩
abbrev kd8 : He.DefD := ⟨(("_law_first_right" : Str), none), ("_law_first_right" : Str), ("_law_first_right" : Str), defArgs (top 31), defBody (top 31), defScope (top 31), [], []⟩
/-- _law_first_right -/
abbrev km8 : Ss := (.cons (.asg (.v 1) (.tup 5 (.cons (.v 2) (.cons (.v 3) (.cons (.v 4) (.cons (.v 5) (.cons (.v 6) .nil)))))))
      (.cons (.ite (.not (.e (.blt .all (.cons (.lc [7] (.v 7) (.seq (.sl (.v 0) .no (.so (.k (.int 12))))) .yes (.cmp .Eq (.blt .repr (.cons (.fld (.v 7) ("value" : Str)) .nil)) (.blt .repr (.cons (.v 2) .nil)))) .nil)))) (.cons (.ret (.k (.bl false)))
      .nil) .nil)
      (.cons (.ite (.not (.e (.blt .all (.cons (.lc [7] (.v 7) (.seq (.sl (.v 0) (.so (.k (.int 12))) (.so (.k (.int 14))))) .yes (.cmp .Eq (.blt .repr (.cons (.lst (.cons (.fld (.v 7) ("problem" : Str)) (.cons (.fld (.v 7) ("position" : Str)) (.cons (.fld (.v 7) ("earlier" : Str)) .nil)))) .nil)) (.blt .repr (.cons (.blt .list (.cons (.v 3) .nil)) .nil)))) .nil)))) (.cons (.ret (.k (.bl false)))
      .nil) .nil)
      (.cons (.ite (.not (.e (.blt .all (.cons (.lc [7] (.v 7) (.seq (.sl (.v 0) (.so (.k (.int 14))) (.so (.k (.int 18))))) .yes (.cmp .Eq (.blt .repr (.cons (.fld (.v 7) ("position" : Str)) .nil)) (.blt .repr (.cons (.v 5) .nil)))) .nil)))) (.cons (.ret (.k (.bl false)))
      .nil) .nil)
      (.cons (.ret (.blt .all (.cons (.lc [7] (.v 7) (.seq (.sl (.v 0) (.so (.k (.int 18))) .no)) .yes (.cmp .Eq (.blt .repr (.cons (.fld (.v 7) ("problem" : Str)) .nil)) (.blt .repr (.cons (.ix (.v 3) (.k (.int 0))) .nil)))) .nil)))
      .nil)))))
abbrev kf8 : Fd := ⟨kd8, [("_law_made" : Str), ("_law_parts_here" : Str), ("_law_odd" : Str), ("_law_table" : Str), ("_law_speed" : Str), ("_law_size" : Str), ("_law_rank" : Str), ("_law_one" : Str)], [("_law_made" : Str), ("_law_parts_here" : Str)], [("_law_made" : Str), ("_law_parts_here" : Str), ("_law_odd" : Str), ("_law_table" : Str), ("_law_speed" : Str), ("_law_size" : Str), ("_law_rank" : Str), ("_law_one" : Str)], km8, false, false⟩
abbrev kd9 : He.DefD := ⟨(("_law_second_right" : Str), none), ("_law_second_right" : Str), ("_law_second_right" : Str), defArgs (top 32), defBody (top 32), defScope (top 32), [], []⟩
/-- _law_second_right -/
abbrev km9 : Ss := (.cons (.asg (.v 1) (.tup 5 (.cons (.v 2) (.cons (.v 3) (.cons (.v 4) (.cons (.v 5) (.cons (.v 6) .nil)))))))
      (.cons (.ite (.not (.e (.blt .all (.cons (.lc [7] (.v 7) (.seq (.sl (.v 0) .no (.so (.k (.int 2))))) .yes (.cmp .Eq (.blt .repr (.cons (.lst (.cons (.fld (.v 7) ("key" : Str)) (.cons (.fld (.v 7) ("number" : Str)) .nil))) .nil)) (.blt .repr (.cons (.lst (.cons (.v 4) (.cons (.v 6) .nil))) .nil)))) .nil)))) (.cons (.ret (.k (.bl false)))
      .nil) .nil)
      (.cons (.ite (.not (.e (.blt .all (.cons (.lc [7] (.v 7) (.seq (.sl (.v 0) (.so (.k (.int 2))) (.so (.k (.int 4))))) .yes (.cmp .Eq (.blt .repr (.cons (.lst (.cons (.fld (.v 7) ("key" : Str)) (.cons (.fld (.v 7) ("many" : Str)) .nil))) .nil)) (.blt .repr (.cons (.lst (.cons (.v 4) (.cons (.v 5) .nil))) .nil)))) .nil)))) (.cons (.ret (.k (.bl false)))
      .nil) .nil)
      (.cons (.ite (.not (.e (.blt .all (.cons (.lc [7] (.v 7) (.seq (.sl (.v 0) (.so (.k (.int 4))) (.so (.k (.int 6))))) .yes (.cmp .Eq (.blt .repr (.cons (.fld (.v 7) ("found" : Str)) .nil)) (.blt .repr (.cons (.tup (.cons (.k (.str ("speed" : Str))) (.cons (.v 4) (.cons (.v 5) (.cons (.k (.int 0)) .nil))))) .nil)))) .nil)))) (.cons (.ret (.k (.bl false)))
      .nil) .nil)
      (.cons (.ite (.not (.e (.blt .all (.cons (.lc [7] (.v 7) (.seq (.sl (.v 0) (.so (.k (.int 6))) (.so (.k (.int 8))))) .yes (.cmp .Eq (.blt .repr (.cons (.fld (.v 7) ("excess" : Str)) .nil)) (.blt .repr (.cons (.v 6) .nil)))) .nil)))) (.cons (.ret (.k (.bl false)))
      .nil) .nil)
      (.cons (.ite (.not (.e (.blt .all (.cons (.lc [7] (.v 7) (.seq (.sl (.v 0) (.so (.k (.int 8))) (.so (.k (.int 10))))) .yes (.cmp .Eq (.blt .repr (.cons (.fld (.v 7) ("name" : Str)) .nil)) (.blt .repr (.cons (.v 2) .nil)))) .nil)))) (.cons (.ret (.k (.bl false)))
      .nil) .nil)
      (.cons (.ite (.not (.e (.blt .all (.cons (.lc [7] (.v 7) (.seq (.sl (.v 0) (.so (.k (.int 12))) (.so (.k (.int 14))))) .yes (.cmp .Eq (.blt .repr (.cons (.fld (.v 7) ("multiple" : Str)) .nil)) (.blt .repr (.cons (.v 5) .nil)))) .nil)))) (.cons (.ret (.k (.bl false)))
      .nil) .nil)
      (.cons (.ret (.blt .all (.cons (.lc [7] (.v 7) (.seq (.sl (.v 0) (.so (.k (.int 14))) .no)) .yes (.cmp .Eq (.blt .repr (.cons (.fld (.v 7) ("many" : Str)) .nil)) (.blt .repr (.cons (.v 5) .nil)))) .nil)))
      .nil))))))))
abbrev kf9 : Fd := ⟨kd9, [("_law_made" : Str), ("_law_parts_here" : Str), ("_law_odd" : Str), ("_law_table" : Str), ("_law_speed" : Str), ("_law_size" : Str), ("_law_rank" : Str), ("_law_one" : Str)], [("_law_made" : Str), ("_law_parts_here" : Str)], [("_law_made" : Str), ("_law_parts_here" : Str), ("_law_odd" : Str), ("_law_table" : Str), ("_law_speed" : Str), ("_law_size" : Str), ("_law_rank" : Str), ("_law_one" : Str)], km9, false, false⟩
abbrev kd10 : He.DefD := ⟨(("_law_caught" : Str), none), ("_law_caught" : Str), ("_law_caught" : Str), defArgs (top 33), defBody (top 33), defScope (top 33), [], []⟩
/-- _law_caught -/
abbrev km10 : Ss := (.cons (.set 1 (.k (.str ("other" : Str))))
      (.cons (.try_ (.cons (.expr (.callv 0 .nil))
      .nil) (.cons (.own 0) none (.cons (.set 1 (.k (.str ("value" : Str))))
      .nil) (.cons (.own 11) none (.cons (.set 1 (.k (.str ("absent" : Str))))
      .nil) (.cons (.own 18) none (.cons (.set 1 (.k (.str ("limit" : Str))))
      .nil) .nil))))
      (.cons (.ret (.v 1))
      .nil)))
abbrev kf10 : Fd := ⟨kd10, [("_law_call" : Str), ("_law_told" : Str)], [("_law_call" : Str)], [("_law_call" : Str), ("_law_told" : Str)], km10, false, false⟩
abbrev kd11 : He.DefD := ⟨(("_law_raised" : Str), none), ("_law_raised" : Str), ("_law_raised" : Str), defArgs (top 34), defBody (top 34), defScope (top 34), [], []⟩
/-- _law_raised -/
abbrev km11 : Ss := (.cons (.ite (.e (.cmp .Eq (.v 0) (.k (.int 0)))) (.cons (.raise 3 (.cons (.k (.str ("meeting" : Str))) (.cons (.k (.int 1)) (.cons (.k (.int 0)) .nil))))
      .nil) .nil)
      (.cons (.ite (.e (.cmp .Eq (.v 0) (.k (.int 1)))) (.cons (.raise 12 (.cons (.tup (.cons (.k (.int 1)) (.cons (.k (.int 2)) .nil))) (.cons (.k (.int 0)) .nil)))
      .nil) .nil)
      (.cons (.raise 20 (.cons (.k (.int 5063)) .nil))
      .nil)))
abbrev kf11 : Fd := ⟨kd11, [("_law_at" : Str)], [("_law_at" : Str)], [("_law_at" : Str)], km11, false, false⟩
abbrev kd12 : He.DefD := ⟨(("_law_right" : Str), none), ("_law_right" : Str), ("_law_right" : Str), defArgs (top 35), defBody (top 35), defScope (top 35), [], []⟩
abbrev kl0 : LamD := lamAt kd12 6 0 [1, 1]
abbrev ke0 : E := (.call 11 [] (.cons (.k (.int 2)) .nil))
abbrev kl1 : LamD := lamAt kd12 5 0 [1, 1]
abbrev ke1 : E := (.call 11 [] (.cons (.k (.int 1)) .nil))
abbrev kl2 : LamD := lamAt kd12 4 0 [0, 1]
abbrev ke2 : E := (.call 11 [] (.cons (.k (.int 0)) .nil))
/-- _law_right -/
abbrev km12 : Ss := (.cons (.par 1 2 (.call 3 [] (.cons (.v 0) .nil)) (.call 3 [] (.cons (.v 0) .nil)))
      (.cons (.par 3 4 (.call 4 [] (.cons (.v 1) .nil)) (.call 5 [] (.cons (.v 1) .nil)))
      (.cons (.set 5 (.bin .Add (.call 4 [] (.cons (.v 2) .nil)) (.call 5 [] (.cons (.v 2) .nil))))
      (.cons (.for_ (.tup 2 (.cons (.v 6) (.cons (.v 7) .nil))) (.enm (.bin .Add (.v 3) (.v 4))) (.cons (.set 8 (.bin .FloorDiv (.v 6) (.k (.int 2))))
      (.cons (.ite (.or (.e (.cmp .NotEq (.call 6 [] (.cons (.v 7) .nil)) (.lc [9] (.v 9) (.r1 (.k (.int 18))) .yes (.cmp .Eq (.v 9) (.v 8))))) (.not (.e (.call 7 [] (.cons (.v 7) (.cons (.v 8) .nil)))))) (.cons (.ret (.k (.bl false)))
      .nil) .nil)
      .nil)))
      (.cons (.set 10 (.lst (.cons (.call 10 [] (.cons (.lam kl2) .nil)) .nil)))
      (.cons (.expr (.meth .append (.v 10) (.cons (.call 10 [] (.cons (.lam kl1) .nil)) .nil)))
      (.cons (.expr (.meth .append (.v 10) (.cons (.call 10 [] (.cons (.lam kl0) .nil)) .nil)))
      (.cons (.ite (.or (.e (.cmp .NotEq (.blt .len (.cons (.v 5) .nil)) (.blt .len (.cons (.bin .Add (.v 3) (.v 4)) .nil)))) (.e (.cmp .NotEq (.v 10) (.lst (.cons (.k (.str ("value" : Str))) (.cons (.k (.str ("absent" : Str))) (.cons (.k (.str ("limit" : Str))) .nil))))))) (.cons (.ret (.k (.bl false)))
      .nil) .nil)
      (.cons (.ret (.and (.call 8 [] (.cons (.v 3) (.cons (.v 1) .nil))) (.call 9 [] (.cons (.v 4) (.cons (.v 1) .nil)))))
      .nil)))))))))
abbrev kf12 : Fd := ⟨kd12, [("_law_pot_here" : Str), ("_law_parts_here" : Str), ("_law_more" : Str), ("_law_first_here" : Str), ("_law_second_here" : Str), ("_law_later" : Str), ("_law_at" : Str), ("_law_error" : Str), ("_law_place" : Str), ("_law_k" : Str), ("_law_caught_here" : Str)], [("_law_pot_here" : Str)], [("_law_pot_here" : Str), ("_law_parts_here" : Str), ("_law_more" : Str), ("_law_first_here" : Str), ("_law_second_here" : Str), ("_law_later" : Str), ("_law_at" : Str), ("_law_error" : Str), ("_law_place" : Str), ("_law_k" : Str), ("_law_caught_here" : Str)], km12, false, true⟩
abbrev kd13 : He.DefD := ⟨(("law" : Str), none), ("law" : Str), ("law" : Str), defArgs (top 36), defBody (top 36), defScope (top 36), [], []⟩
/-- law -/
abbrev km13 : Ss := (.cons (.ret (.blt .all (.cons (.lc [1] (.v 1) (.r1 (.blt .max (.cons (.k (.int 1)) (.cons (.blt .min (.cons (.k (.int 6)) (.cons (.blt .len (.cons (.v 0) .nil)) .nil))) .nil)))) .yes (.call 12 [] (.cons (.call 0 [] (.cons (.v 0) (.cons (.v 1) .nil))) .nil))) .nil)))
      .nil)
abbrev kf13 : Fd := ⟨kd13, [("_law_script" : Str), ("_law_k" : Str)], [("_law_script" : Str)], [("_law_script" : Str), ("_law_k" : Str)], km13, false, false⟩
abbrev cl : List Cd := [⟨("ThreeswapsError" : Str), some [], [0], ["ValueError", "Exception"]⟩,
  ⟨("InvalidInteger" : Str), some [("value" : Str)], [1, 0], ["ValueError", "Exception"]⟩,
  ⟨("InvalidRatio" : Str), some [("value" : Str)], [2, 0], ["ValueError", "Exception"]⟩,
  ⟨("InvalidTable" : Str), some [("problem" : Str), ("position" : Str), ("earlier" : Str)], [3, 0], ["ValueError", "Exception"]⟩,
  ⟨("InvalidPair" : Str), some [("position" : Str)], [4, 0], ["ValueError", "Exception"]⟩,
  ⟨("InvalidAddress" : Str), some [("value" : Str)], [5, 0], ["ValueError", "Exception"]⟩,
  ⟨("InvalidProfile" : Str), some [("problem" : Str)], [6, 0], ["ValueError", "Exception"]⟩,
  ⟨("InvalidFormula" : Str), some [("position" : Str)], [7, 0], ["ValueError", "Exception"]⟩,
  ⟨("InvalidValue" : Str), some [("value" : Str)], [8, 0], ["ValueError", "Exception"]⟩,
  ⟨("InvalidName" : Str), some [("value" : Str)], [9, 0], ["ValueError", "Exception"]⟩,
  ⟨("InvalidLine" : Str), some [("value" : Str)], [10, 0], ["ValueError", "Exception"]⟩,
  ⟨("AbsentError" : Str), some [], [11], ["LookupError", "Exception"]⟩,
  ⟨("NoTrack" : Str), some [("key" : Str), ("number" : Str)], [12, 11], ["LookupError", "Exception"]⟩,
  ⟨("NoRenaming" : Str), some [("found" : Str)], [13, 11], ["LookupError", "Exception"]⟩,
  ⟨("NoRoot" : Str), some [("key" : Str), ("many" : Str)], [14, 11], ["LookupError", "Exception"]⟩,
  ⟨("NoFactors" : Str), some [("excess" : Str)], [15, 11], ["LookupError", "Exception"]⟩,
  ⟨("UnknownName" : Str), some [("name" : Str)], [16, 11], ["LookupError", "Exception"]⟩,
  ⟨("NothingToUndo" : Str), some [], [17, 11], ["LookupError", "Exception"]⟩,
  ⟨("LimitError" : Str), some [], [18], ["ArithmeticError", "Exception"]⟩,
  ⟨("TooLong" : Str), some [("multiple" : Str)], [19, 18], ["ArithmeticError", "Exception"]⟩,
  ⟨("TooMany" : Str), some [("many" : Str)], [20, 18], ["ArithmeticError", "Exception"]⟩]
abbrev c0 : Cd := ⟨("ThreeswapsError" : Str), some [], [0], ["ValueError", "Exception"]⟩
abbrev T : Tab := ⟨[(("AbsentError" : Str), .cls 11),
  (("ArithmeticError" : Str), .bty "ArithmeticError"),
  (("InvalidAddress" : Str), .cls 5),
  (("InvalidFormula" : Str), .cls 7),
  (("InvalidInteger" : Str), .cls 1),
  (("InvalidLine" : Str), .cls 10),
  (("InvalidName" : Str), .cls 9),
  (("InvalidPair" : Str), .cls 4),
  (("InvalidProfile" : Str), .cls 6),
  (("InvalidRatio" : Str), .cls 2),
  (("InvalidTable" : Str), .cls 3),
  (("InvalidValue" : Str), .cls 8),
  (("LimitError" : Str), .cls 18),
  (("LookupError" : Str), .bty "LookupError"),
  (("NoFactors" : Str), .cls 15),
  (("NoRenaming" : Str), .cls 13),
  (("NoRoot" : Str), .cls 14),
  (("NoTrack" : Str), .cls 12),
  (("NothingToUndo" : Str), .cls 17),
  (("ThreeswapsError" : Str), .cls 0),
  (("TooLong" : Str), .cls 19),
  (("TooMany" : Str), .cls 20),
  (("UnknownName" : Str), .cls 16),
  (("ValueError" : Str), .bty "ValueError"),
  (("_law_above_right" : Str), .fn 7 2 []),
  (("_law_caught" : Str), .fn 10 1 []),
  (("_law_choice" : Str), .fn 2 2 []),
  (("_law_draw" : Str), .fn 1 2 []),
  (("_law_first" : Str), .fn 4 1 []),
  (("_law_first_right" : Str), .fn 8 2 []),
  (("_law_marks" : Str), .fn 6 1 []),
  (("_law_parts" : Str), .fn 3 1 []),
  (("_law_pot" : Str), .fn 0 2 []),
  (("_law_raised" : Str), .fn 11 1 []),
  (("_law_right" : Str), .fn 12 1 []),
  (("_law_second" : Str), .fn 5 1 []),
  (("_law_second_right" : Str), .fn 9 2 []),
  (("abs" : Str), .blt .abs),
  (("all" : Str), .blt .all),
  (("divmod" : Str), .blt .divmod),
  (("enumerate" : Str), .range),
  (("int" : Str), .blt .int),
  (("isinstance" : Str), .isi),
  (("law" : Str), .fn 13 1 []),
  (("len" : Str), .blt .len),
  (("list" : Str), .blt .list),
  (("max" : Str), .blt .max),
  (("min" : Str), .blt .min),
  (("range" : Str), .range),
  (("repr" : Str), .blt .repr)], true, none, [3, 12, 20], [], none, [1, 2, 3, 4, 5, 6, 7, 8, 9, 10, 12, 13, 14, 15, 16, 17, 19, 20], [((("InvalidAddress" : Str), 0, [("value" : Str)]), (5, [0])), ((("InvalidAddress" : Str), 1, []), (5, [0])), ((("InvalidFormula" : Str), 0, [("position" : Str)]), (7, [0])), ((("InvalidFormula" : Str), 1, []), (7, [0])), ((("InvalidInteger" : Str), 0, [("value" : Str)]), (1, [0])), ((("InvalidInteger" : Str), 1, []), (1, [0])), ((("InvalidLine" : Str), 0, [("value" : Str)]), (10, [0])), ((("InvalidLine" : Str), 1, []), (10, [0])), ((("InvalidName" : Str), 0, [("value" : Str)]), (9, [0])), ((("InvalidName" : Str), 1, []), (9, [0])), ((("InvalidPair" : Str), 0, [("position" : Str)]), (4, [0])), ((("InvalidPair" : Str), 1, []), (4, [0])), ((("InvalidProfile" : Str), 0, [("problem" : Str)]), (6, [0])), ((("InvalidProfile" : Str), 1, []), (6, [0])), ((("InvalidRatio" : Str), 0, [("value" : Str)]), (2, [0])), ((("InvalidRatio" : Str), 1, []), (2, [0])), ((("InvalidTable" : Str), 0, [("earlier" : Str), ("problem" : Str), ("position" : Str)]), (3, [1, 2, 0])), ((("InvalidTable" : Str), 3, []), (3, [0, 1, 2])), ((("InvalidValue" : Str), 0, [("value" : Str)]), (8, [0])), ((("InvalidValue" : Str), 1, []), (8, [0])), ((("NoFactors" : Str), 0, [("excess" : Str)]), (15, [0])), ((("NoFactors" : Str), 1, []), (15, [0])), ((("NoRenaming" : Str), 0, [("found" : Str)]), (13, [0])), ((("NoRenaming" : Str), 1, []), (13, [0])), ((("NoRoot" : Str), 0, [("many" : Str), ("key" : Str)]), (14, [1, 0])), ((("NoRoot" : Str), 2, []), (14, [0, 1])), ((("NoTrack" : Str), 0, [("number" : Str), ("key" : Str)]), (12, [1, 0])), ((("NoTrack" : Str), 2, []), (12, [0, 1])), ((("NothingToUndo" : Str), 0, []), (17, [])), ((("TooLong" : Str), 0, [("multiple" : Str)]), (19, [0])), ((("TooLong" : Str), 1, []), (19, [0])), ((("TooMany" : Str), 0, [("many" : Str)]), (20, [0])), ((("TooMany" : Str), 1, []), (20, [0])), ((("UnknownName" : Str), 0, [("name" : Str)]), (16, [0])), ((("UnknownName" : Str), 1, []), (16, [0]))]⟩
abbrev tx : Txt := ⟨[kf0, kf1, kf2, kf3, kf4, kf5, kf6, kf7, kf8, kf9, kf10, kf11, kf12, kf13], kf0, cl, c0, T, 13⟩
theorem ksc0 : FnScope kf0.N kf0.ps kf0.d.scope := ⟨rfl, rfl, rfl, by decide +kernel, rfl, by decide +kernel, by decide +kernel⟩
theorem ktr0 : trSs (kf0.tab T) kf0.N TF kf0.d.scope kf0.as kf0.d.body = some kf0.m := by kernel_rfl
theorem kb0 : BindOk kf0 := .inl ⟨rfl, rfl, fun _ _ _ _ _ _ => fun _ _ => rfl⟩
theorem ksc1 : FnScope kf1.N kf1.ps kf1.d.scope := ⟨rfl, rfl, rfl, by decide +kernel, rfl, by decide +kernel, by decide +kernel⟩
theorem ktr1 : trSs (kf1.tab T) kf1.N TF kf1.d.scope kf1.as kf1.d.body = some kf1.m := by kernel_rfl
theorem kb1 : BindOk kf1 := .inl ⟨rfl, rfl, fun _ _ _ _ _ _ => fun _ _ => rfl⟩
theorem ksc2 : FnScope kf2.N kf2.ps kf2.d.scope := ⟨rfl, rfl, rfl, by decide +kernel, rfl, by decide +kernel, by decide +kernel⟩
theorem ktr2 : trSs (kf2.tab T) kf2.N TF kf2.d.scope kf2.as kf2.d.body = some kf2.m := by kernel_rfl
theorem kb2 : BindOk kf2 := .inl ⟨rfl, rfl, fun _ _ _ _ _ _ => fun _ _ => rfl⟩
theorem ksc3 : FnScope kf3.N kf3.ps kf3.d.scope := ⟨rfl, rfl, rfl, by decide +kernel, rfl, by decide +kernel, by decide +kernel⟩
theorem ktr3 : trSs (kf3.tab T) kf3.N TF kf3.d.scope kf3.as kf3.d.body = some kf3.m := by kernel_rfl
theorem kb3 : BindOk kf3 := .inl ⟨rfl, rfl, fun _ _ _ _ _ _ => fun _ => rfl⟩
theorem ksc4 : FnScope kf4.N kf4.ps kf4.d.scope := ⟨rfl, rfl, rfl, by decide +kernel, rfl, by decide +kernel, by decide +kernel⟩
theorem ktr4 : trSs (kf4.tab T) kf4.N TF kf4.d.scope kf4.as kf4.d.body = some kf4.m := by kernel_rfl
theorem kb4 : BindOk kf4 := .inl ⟨rfl, rfl, fun _ _ _ _ _ _ => fun _ => rfl⟩
theorem ksc5 : FnScope kf5.N kf5.ps kf5.d.scope := ⟨rfl, rfl, rfl, by decide +kernel, rfl, by decide +kernel, by decide +kernel⟩
theorem ktr5 : trSs (kf5.tab T) kf5.N TF kf5.d.scope kf5.as kf5.d.body = some kf5.m := by kernel_rfl
theorem kb5 : BindOk kf5 := .inl ⟨rfl, rfl, fun _ _ _ _ _ _ => fun _ => rfl⟩
theorem ksc6 : FnScope kf6.N kf6.ps kf6.d.scope := ⟨rfl, rfl, rfl, by decide +kernel, rfl, by decide +kernel, by decide +kernel⟩
theorem ktr6 : trSs (kf6.tab T) kf6.N TF kf6.d.scope kf6.as kf6.d.body = some kf6.m := by kernel_rfl
theorem kb6 : BindOk kf6 := .inl ⟨rfl, rfl, fun _ _ _ _ _ _ => fun _ => rfl⟩
theorem ksc7 : FnScope kf7.N kf7.ps kf7.d.scope := ⟨rfl, rfl, rfl, by decide +kernel, rfl, by decide +kernel, by decide +kernel⟩
theorem ktr7 : trSs (kf7.tab T) kf7.N TF kf7.d.scope kf7.as kf7.d.body = some kf7.m := by kernel_rfl
theorem kb7 : BindOk kf7 := .inl ⟨rfl, rfl, fun _ _ _ _ _ _ => fun _ _ => rfl⟩
theorem ksc8 : FnScope kf8.N kf8.ps kf8.d.scope := ⟨rfl, rfl, rfl, by decide +kernel, rfl, by decide +kernel, by decide +kernel⟩
theorem ktr8 : trSs (kf8.tab T) kf8.N TF kf8.d.scope kf8.as kf8.d.body = some kf8.m := by kernel_rfl
theorem kb8 : BindOk kf8 := .inl ⟨rfl, rfl, fun _ _ _ _ _ _ => fun _ _ => rfl⟩
theorem ksc9 : FnScope kf9.N kf9.ps kf9.d.scope := ⟨rfl, rfl, rfl, by decide +kernel, rfl, by decide +kernel, by decide +kernel⟩
theorem ktr9 : trSs (kf9.tab T) kf9.N TF kf9.d.scope kf9.as kf9.d.body = some kf9.m := by kernel_rfl
theorem kb9 : BindOk kf9 := .inl ⟨rfl, rfl, fun _ _ _ _ _ _ => fun _ _ => rfl⟩
theorem ksc10 : FnScope kf10.N kf10.ps kf10.d.scope := ⟨rfl, rfl, rfl, by decide +kernel, rfl, by decide +kernel, by decide +kernel⟩
theorem ktr10 : trSs (kf10.tab T) kf10.N TF kf10.d.scope kf10.as kf10.d.body = some kf10.m := by kernel_rfl
theorem kb10 : BindOk kf10 := .inl ⟨rfl, rfl, fun _ _ _ _ _ _ => fun _ => rfl⟩
theorem ksc11 : FnScope kf11.N kf11.ps kf11.d.scope := ⟨rfl, rfl, rfl, by decide +kernel, rfl, by decide +kernel, by decide +kernel⟩
theorem ktr11 : trSs (kf11.tab T) kf11.N TF kf11.d.scope kf11.as kf11.d.body = some kf11.m := by kernel_rfl
theorem kb11 : BindOk kf11 := .inl ⟨rfl, rfl, fun _ _ _ _ _ _ => fun _ => rfl⟩
theorem ksc12 : FnScope kf12.N kf12.ps kf12.d.scope := ⟨rfl, rfl, rfl, by decide +kernel, rfl, by decide +kernel, by decide +kernel⟩
theorem ktr12 : trSs (kf12.tab T) kf12.N TF kf12.d.scope kf12.as kf12.d.body = some kf12.m := by kernel_rfl
theorem kb12 : BindOk kf12 := .inl ⟨rfl, rfl, fun _ _ _ _ _ _ => fun _ => rfl⟩
theorem ksc13 : FnScope kf13.N kf13.ps kf13.d.scope := ⟨rfl, rfl, rfl, by decide +kernel, rfl, by decide +kernel, by decide +kernel⟩
theorem ktr13 : trSs (kf13.tab T) kf13.N TF kf13.d.scope kf13.as kf13.d.body = some kf13.m := by kernel_rfl
theorem kb13 : BindOk kf13 := .inl ⟨rfl, rfl, fun _ _ _ _ _ _ => fun _ => rfl⟩
theorem klt0 : (lamOk kl0.params kl0.scope, trE { T with lm := none } [] TF kl0.scope kl0.body) = (true, some ke0) := by kernel_rfl
theorem klt1 : (lamOk kl1.params kl1.scope, trE { T with lm := none } [] TF kl1.scope kl1.body) = (true, some ke1) := by kernel_rfl
theorem klt2 : (lamOk kl2.params kl2.scope, trE { T with lm := none } [] TF kl2.scope kl2.body) = (true, some ke2) := by kernel_rfl
theorem ok : tx.Ok := ⟨rfl, rfl, rfl, rfl, by decide +kernel, kwOk_of True.intro, ecOk_of ⟨⟨_, rfl, by decide⟩, ⟨_, rfl, by decide⟩, ⟨_, rfl, by decide⟩, True.intro⟩, allF_of ⟨kb0, kb1, kb2, kb3, kb4, kb5, kb6, kb7, kb8, kb9, kb10, kb11, kb12, kb13, True.intro⟩, allF_of ⟨ksc0, ksc1, ksc2, ksc3, ksc4, ksc5, ksc6, ksc7, ksc8, ksc9, ksc10, ksc11, ksc12, ksc13, True.intro⟩, allF_of ⟨ktr0, ktr1, ktr2, ktr3, ktr4, ktr5, ktr6, ktr7, ktr8, ktr9, ktr10, ktr11, ktr12, ktr13, True.intro⟩⟩
abbrev ki1 : He.DefD := ⟨(("InvalidInteger" : Str), some ("__init__" : Str)), ("__init__" : Str), ("InvalidInteger.__init__" : Str), defArgs (meth 2 0), defBody (meth 2 0), defScope (meth 2 0), [], []⟩
abbrev kc1 : Ci := ⟨1, ("self" : Str), [("value" : Str)], ki1, ("InvalidInteger" : Str), [("value" : Str)]⟩
theorem kco1 : kc1.Ok cl c0 T.ck := ⟨rfl, rfl, rfl, rfl, ⟨rfl, rfl, rfl, by decide +kernel, rfl, by decide +kernel, by decide +kernel⟩, by decide +kernel, by decide +kernel, rfl, by decide, initBB_of (by decide +kernel), fun _ _ _ _ _ _ => fun _ _ => rfl,
  allP_mem (P := fun p : (Str × Nat × List Str) × (Nat × List Nat) => p.2.1 = kc1.c → p.1.2.1 ≤ 900 ∧ ∀ (kV doc pm : Value) (an : Option Addr) (cdv ct : Value), BindAt p.1.2.1 fun us => BindAt p.1.2.2.length fun ws => ∀ a, bindArgs (PySem.W.fnOf kc1.d.name kc1.d.qual kc1.d.params kc1.d.body kc1.d.scope .none kV doc pm an cdv ct) ⟨a :: us, p.1.2.2.zip ws⟩ = pure ((kc1.self :: kc1.ps).zip (a :: perm p.2.2 (us ++ ws)))) ⟨fun h => absurd h (by decide), fun h => absurd h (by decide), fun h => absurd h (by decide), fun h => absurd h (by decide), fun _ => ⟨by decide, fun _ _ _ _ _ _ => fun _ => fun _ => rfl⟩, fun _ => ⟨by decide, fun _ _ _ _ _ _ => fun _ => fun _ => rfl⟩, fun h => absurd h (by decide), fun h => absurd h (by decide), fun h => absurd h (by decide), fun h => absurd h (by decide), fun h => absurd h (by decide), fun h => absurd h (by decide), fun h => absurd h (by decide), fun h => absurd h (by decide), fun h => absurd h (by decide), fun h => absurd h (by decide), fun h => absurd h (by decide), fun h => absurd h (by decide), fun h => absurd h (by decide), fun h => absurd h (by decide), fun h => absurd h (by decide), fun h => absurd h (by decide), fun h => absurd h (by decide), fun h => absurd h (by decide), fun h => absurd h (by decide), fun h => absurd h (by decide), fun h => absurd h (by decide), fun h => absurd h (by decide), fun h => absurd h (by decide), fun h => absurd h (by decide), fun h => absurd h (by decide), fun h => absurd h (by decide), fun h => absurd h (by decide), fun h => absurd h (by decide), fun h => absurd h (by decide), True.intro⟩⟩
abbrev ki2 : He.DefD := ⟨(("InvalidRatio" : Str), some ("__init__" : Str)), ("__init__" : Str), ("InvalidRatio.__init__" : Str), defArgs (meth 3 0), defBody (meth 3 0), defScope (meth 3 0), [], []⟩
abbrev kc2 : Ci := ⟨2, ("self" : Str), [("value" : Str)], ki2, ("InvalidRatio" : Str), [("value" : Str)]⟩
theorem kco2 : kc2.Ok cl c0 T.ck := ⟨rfl, rfl, rfl, rfl, ⟨rfl, rfl, rfl, by decide +kernel, rfl, by decide +kernel, by decide +kernel⟩, by decide +kernel, by decide +kernel, rfl, by decide, initBB_of (by decide +kernel), fun _ _ _ _ _ _ => fun _ _ => rfl,
  allP_mem (P := fun p : (Str × Nat × List Str) × (Nat × List Nat) => p.2.1 = kc2.c → p.1.2.1 ≤ 900 ∧ ∀ (kV doc pm : Value) (an : Option Addr) (cdv ct : Value), BindAt p.1.2.1 fun us => BindAt p.1.2.2.length fun ws => ∀ a, bindArgs (PySem.W.fnOf kc2.d.name kc2.d.qual kc2.d.params kc2.d.body kc2.d.scope .none kV doc pm an cdv ct) ⟨a :: us, p.1.2.2.zip ws⟩ = pure ((kc2.self :: kc2.ps).zip (a :: perm p.2.2 (us ++ ws)))) ⟨fun h => absurd h (by decide), fun h => absurd h (by decide), fun h => absurd h (by decide), fun h => absurd h (by decide), fun h => absurd h (by decide), fun h => absurd h (by decide), fun h => absurd h (by decide), fun h => absurd h (by decide), fun h => absurd h (by decide), fun h => absurd h (by decide), fun h => absurd h (by decide), fun h => absurd h (by decide), fun h => absurd h (by decide), fun h => absurd h (by decide), fun _ => ⟨by decide, fun _ _ _ _ _ _ => fun _ => fun _ => rfl⟩, fun _ => ⟨by decide, fun _ _ _ _ _ _ => fun _ => fun _ => rfl⟩, fun h => absurd h (by decide), fun h => absurd h (by decide), fun h => absurd h (by decide), fun h => absurd h (by decide), fun h => absurd h (by decide), fun h => absurd h (by decide), fun h => absurd h (by decide), fun h => absurd h (by decide), fun h => absurd h (by decide), fun h => absurd h (by decide), fun h => absurd h (by decide), fun h => absurd h (by decide), fun h => absurd h (by decide), fun h => absurd h (by decide), fun h => absurd h (by decide), fun h => absurd h (by decide), fun h => absurd h (by decide), fun h => absurd h (by decide), fun h => absurd h (by decide), True.intro⟩⟩
abbrev ki3 : He.DefD := ⟨(("InvalidTable" : Str), some ("__init__" : Str)), ("__init__" : Str), ("InvalidTable.__init__" : Str), defArgs (meth 4 0), defBody (meth 4 0), defScope (meth 4 0), [], []⟩
abbrev kc3 : Ci := ⟨3, ("self" : Str), [("problem" : Str), ("position" : Str), ("earlier" : Str)], ki3, ("InvalidTable" : Str), [("problem" : Str), ("position" : Str), ("earlier" : Str)]⟩
theorem kco3 : kc3.Ok cl c0 T.ck := ⟨rfl, rfl, rfl, rfl, ⟨rfl, rfl, rfl, by decide +kernel, rfl, by decide +kernel, by decide +kernel⟩, by decide +kernel, by decide +kernel, rfl, by decide, initBB_of (by decide +kernel), fun _ _ _ _ _ _ => fun _ _ _ _ => rfl,
  allP_mem (P := fun p : (Str × Nat × List Str) × (Nat × List Nat) => p.2.1 = kc3.c → p.1.2.1 ≤ 900 ∧ ∀ (kV doc pm : Value) (an : Option Addr) (cdv ct : Value), BindAt p.1.2.1 fun us => BindAt p.1.2.2.length fun ws => ∀ a, bindArgs (PySem.W.fnOf kc3.d.name kc3.d.qual kc3.d.params kc3.d.body kc3.d.scope .none kV doc pm an cdv ct) ⟨a :: us, p.1.2.2.zip ws⟩ = pure ((kc3.self :: kc3.ps).zip (a :: perm p.2.2 (us ++ ws)))) ⟨fun h => absurd h (by decide), fun h => absurd h (by decide), fun h => absurd h (by decide), fun h => absurd h (by decide), fun h => absurd h (by decide), fun h => absurd h (by decide), fun h => absurd h (by decide), fun h => absurd h (by decide), fun h => absurd h (by decide), fun h => absurd h (by decide), fun h => absurd h (by decide), fun h => absurd h (by decide), fun h => absurd h (by decide), fun h => absurd h (by decide), fun h => absurd h (by decide), fun h => absurd h (by decide), fun _ => ⟨by decide, fun _ _ _ _ _ _ => fun _ _ _ => fun _ => rfl⟩, fun _ => ⟨by decide, fun _ _ _ _ _ _ => fun _ _ _ => fun _ => rfl⟩, fun h => absurd h (by decide), fun h => absurd h (by decide), fun h => absurd h (by decide), fun h => absurd h (by decide), fun h => absurd h (by decide), fun h => absurd h (by decide), fun h => absurd h (by decide), fun h => absurd h (by decide), fun h => absurd h (by decide), fun h => absurd h (by decide), fun h => absurd h (by decide), fun h => absurd h (by decide), fun h => absurd h (by decide), fun h => absurd h (by decide), fun h => absurd h (by decide), fun h => absurd h (by decide), fun h => absurd h (by decide), True.intro⟩⟩
abbrev ki4 : He.DefD := ⟨(("InvalidPair" : Str), some ("__init__" : Str)), ("__init__" : Str), ("InvalidPair.__init__" : Str), defArgs (meth 5 0), defBody (meth 5 0), defScope (meth 5 0), [], []⟩
abbrev kc4 : Ci := ⟨4, ("self" : Str), [("position" : Str)], ki4, ("InvalidPair" : Str), [("position" : Str)]⟩
theorem kco4 : kc4.Ok cl c0 T.ck := ⟨rfl, rfl, rfl, rfl, ⟨rfl, rfl, rfl, by decide +kernel, rfl, by decide +kernel, by decide +kernel⟩, by decide +kernel, by decide +kernel, rfl, by decide, initBB_of (by decide +kernel), fun _ _ _ _ _ _ => fun _ _ => rfl,
  allP_mem (P := fun p : (Str × Nat × List Str) × (Nat × List Nat) => p.2.1 = kc4.c → p.1.2.1 ≤ 900 ∧ ∀ (kV doc pm : Value) (an : Option Addr) (cdv ct : Value), BindAt p.1.2.1 fun us => BindAt p.1.2.2.length fun ws => ∀ a, bindArgs (PySem.W.fnOf kc4.d.name kc4.d.qual kc4.d.params kc4.d.body kc4.d.scope .none kV doc pm an cdv ct) ⟨a :: us, p.1.2.2.zip ws⟩ = pure ((kc4.self :: kc4.ps).zip (a :: perm p.2.2 (us ++ ws)))) ⟨fun h => absurd h (by decide), fun h => absurd h (by decide), fun h => absurd h (by decide), fun h => absurd h (by decide), fun h => absurd h (by decide), fun h => absurd h (by decide), fun h => absurd h (by decide), fun h => absurd h (by decide), fun h => absurd h (by decide), fun h => absurd h (by decide), fun _ => ⟨by decide, fun _ _ _ _ _ _ => fun _ => fun _ => rfl⟩, fun _ => ⟨by decide, fun _ _ _ _ _ _ => fun _ => fun _ => rfl⟩, fun h => absurd h (by decide), fun h => absurd h (by decide), fun h => absurd h (by decide), fun h => absurd h (by decide), fun h => absurd h (by decide), fun h => absurd h (by decide), fun h => absurd h (by decide), fun h => absurd h (by decide), fun h => absurd h (by decide), fun h => absurd h (by decide), fun h => absurd h (by decide), fun h => absurd h (by decide), fun h => absurd h (by decide), fun h => absurd h (by decide), fun h => absurd h (by decide), fun h => absurd h (by decide), fun h => absurd h (by decide), fun h => absurd h (by decide), fun h => absurd h (by decide), fun h => absurd h (by decide), fun h => absurd h (by decide), fun h => absurd h (by decide), fun h => absurd h (by decide), True.intro⟩⟩
abbrev ki5 : He.DefD := ⟨(("InvalidAddress" : Str), some ("__init__" : Str)), ("__init__" : Str), ("InvalidAddress.__init__" : Str), defArgs (meth 6 0), defBody (meth 6 0), defScope (meth 6 0), [], []⟩
abbrev kc5 : Ci := ⟨5, ("self" : Str), [("value" : Str)], ki5, ("InvalidAddress" : Str), [("value" : Str)]⟩
theorem kco5 : kc5.Ok cl c0 T.ck := ⟨rfl, rfl, rfl, rfl, ⟨rfl, rfl, rfl, by decide +kernel, rfl, by decide +kernel, by decide +kernel⟩, by decide +kernel, by decide +kernel, rfl, by decide, initBB_of (by decide +kernel), fun _ _ _ _ _ _ => fun _ _ => rfl,
  allP_mem (P := fun p : (Str × Nat × List Str) × (Nat × List Nat) => p.2.1 = kc5.c → p.1.2.1 ≤ 900 ∧ ∀ (kV doc pm : Value) (an : Option Addr) (cdv ct : Value), BindAt p.1.2.1 fun us => BindAt p.1.2.2.length fun ws => ∀ a, bindArgs (PySem.W.fnOf kc5.d.name kc5.d.qual kc5.d.params kc5.d.body kc5.d.scope .none kV doc pm an cdv ct) ⟨a :: us, p.1.2.2.zip ws⟩ = pure ((kc5.self :: kc5.ps).zip (a :: perm p.2.2 (us ++ ws)))) ⟨fun _ => ⟨by decide, fun _ _ _ _ _ _ => fun _ => fun _ => rfl⟩, fun _ => ⟨by decide, fun _ _ _ _ _ _ => fun _ => fun _ => rfl⟩, fun h => absurd h (by decide), fun h => absurd h (by decide), fun h => absurd h (by decide), fun h => absurd h (by decide), fun h => absurd h (by decide), fun h => absurd h (by decide), fun h => absurd h (by decide), fun h => absurd h (by decide), fun h => absurd h (by decide), fun h => absurd h (by decide), fun h => absurd h (by decide), fun h => absurd h (by decide), fun h => absurd h (by decide), fun h => absurd h (by decide), fun h => absurd h (by decide), fun h => absurd h (by decide), fun h => absurd h (by decide), fun h => absurd h (by decide), fun h => absurd h (by decide), fun h => absurd h (by decide), fun h => absurd h (by decide), fun h => absurd h (by decide), fun h => absurd h (by decide), fun h => absurd h (by decide), fun h => absurd h (by decide), fun h => absurd h (by decide), fun h => absurd h (by decide), fun h => absurd h (by decide), fun h => absurd h (by decide), fun h => absurd h (by decide), fun h => absurd h (by decide), fun h => absurd h (by decide), fun h => absurd h (by decide), True.intro⟩⟩
abbrev ki6 : He.DefD := ⟨(("InvalidProfile" : Str), some ("__init__" : Str)), ("__init__" : Str), ("InvalidProfile.__init__" : Str), defArgs (meth 7 0), defBody (meth 7 0), defScope (meth 7 0), [], []⟩
abbrev kc6 : Ci := ⟨6, ("self" : Str), [("problem" : Str)], ki6, ("InvalidProfile" : Str), [("problem" : Str)]⟩
theorem kco6 : kc6.Ok cl c0 T.ck := ⟨rfl, rfl, rfl, rfl, ⟨rfl, rfl, rfl, by decide +kernel, rfl, by decide +kernel, by decide +kernel⟩, by decide +kernel, by decide +kernel, rfl, by decide, initBB_of (by decide +kernel), fun _ _ _ _ _ _ => fun _ _ => rfl,
  allP_mem (P := fun p : (Str × Nat × List Str) × (Nat × List Nat) => p.2.1 = kc6.c → p.1.2.1 ≤ 900 ∧ ∀ (kV doc pm : Value) (an : Option Addr) (cdv ct : Value), BindAt p.1.2.1 fun us => BindAt p.1.2.2.length fun ws => ∀ a, bindArgs (PySem.W.fnOf kc6.d.name kc6.d.qual kc6.d.params kc6.d.body kc6.d.scope .none kV doc pm an cdv ct) ⟨a :: us, p.1.2.2.zip ws⟩ = pure ((kc6.self :: kc6.ps).zip (a :: perm p.2.2 (us ++ ws)))) ⟨fun h => absurd h (by decide), fun h => absurd h (by decide), fun h => absurd h (by decide), fun h => absurd h (by decide), fun h => absurd h (by decide), fun h => absurd h (by decide), fun h => absurd h (by decide), fun h => absurd h (by decide), fun h => absurd h (by decide), fun h => absurd h (by decide), fun h => absurd h (by decide), fun h => absurd h (by decide), fun _ => ⟨by decide, fun _ _ _ _ _ _ => fun _ => fun _ => rfl⟩, fun _ => ⟨by decide, fun _ _ _ _ _ _ => fun _ => fun _ => rfl⟩, fun h => absurd h (by decide), fun h => absurd h (by decide), fun h => absurd h (by decide), fun h => absurd h (by decide), fun h => absurd h (by decide), fun h => absurd h (by decide), fun h => absurd h (by decide), fun h => absurd h (by decide), fun h => absurd h (by decide), fun h => absurd h (by decide), fun h => absurd h (by decide), fun h => absurd h (by decide), fun h => absurd h (by decide), fun h => absurd h (by decide), fun h => absurd h (by decide), fun h => absurd h (by decide), fun h => absurd h (by decide), fun h => absurd h (by decide), fun h => absurd h (by decide), fun h => absurd h (by decide), fun h => absurd h (by decide), True.intro⟩⟩
abbrev ki7 : He.DefD := ⟨(("InvalidFormula" : Str), some ("__init__" : Str)), ("__init__" : Str), ("InvalidFormula.__init__" : Str), defArgs (meth 8 0), defBody (meth 8 0), defScope (meth 8 0), [], []⟩
abbrev kc7 : Ci := ⟨7, ("self" : Str), [("position" : Str)], ki7, ("InvalidFormula" : Str), [("position" : Str)]⟩
theorem kco7 : kc7.Ok cl c0 T.ck := ⟨rfl, rfl, rfl, rfl, ⟨rfl, rfl, rfl, by decide +kernel, rfl, by decide +kernel, by decide +kernel⟩, by decide +kernel, by decide +kernel, rfl, by decide, initBB_of (by decide +kernel), fun _ _ _ _ _ _ => fun _ _ => rfl,
  allP_mem (P := fun p : (Str × Nat × List Str) × (Nat × List Nat) => p.2.1 = kc7.c → p.1.2.1 ≤ 900 ∧ ∀ (kV doc pm : Value) (an : Option Addr) (cdv ct : Value), BindAt p.1.2.1 fun us => BindAt p.1.2.2.length fun ws => ∀ a, bindArgs (PySem.W.fnOf kc7.d.name kc7.d.qual kc7.d.params kc7.d.body kc7.d.scope .none kV doc pm an cdv ct) ⟨a :: us, p.1.2.2.zip ws⟩ = pure ((kc7.self :: kc7.ps).zip (a :: perm p.2.2 (us ++ ws)))) ⟨fun h => absurd h (by decide), fun h => absurd h (by decide), fun _ => ⟨by decide, fun _ _ _ _ _ _ => fun _ => fun _ => rfl⟩, fun _ => ⟨by decide, fun _ _ _ _ _ _ => fun _ => fun _ => rfl⟩, fun h => absurd h (by decide), fun h => absurd h (by decide), fun h => absurd h (by decide), fun h => absurd h (by decide), fun h => absurd h (by decide), fun h => absurd h (by decide), fun h => absurd h (by decide), fun h => absurd h (by decide), fun h => absurd h (by decide), fun h => absurd h (by decide), fun h => absurd h (by decide), fun h => absurd h (by decide), fun h => absurd h (by decide), fun h => absurd h (by decide), fun h => absurd h (by decide), fun h => absurd h (by decide), fun h => absurd h (by decide), fun h => absurd h (by decide), fun h => absurd h (by decide), fun h => absurd h (by decide), fun h => absurd h (by decide), fun h => absurd h (by decide), fun h => absurd h (by decide), fun h => absurd h (by decide), fun h => absurd h (by decide), fun h => absurd h (by decide), fun h => absurd h (by decide), fun h => absurd h (by decide), fun h => absurd h (by decide), fun h => absurd h (by decide), fun h => absurd h (by decide), True.intro⟩⟩
abbrev ki8 : He.DefD := ⟨(("InvalidValue" : Str), some ("__init__" : Str)), ("__init__" : Str), ("InvalidValue.__init__" : Str), defArgs (meth 9 0), defBody (meth 9 0), defScope (meth 9 0), [], []⟩
abbrev kc8 : Ci := ⟨8, ("self" : Str), [("value" : Str)], ki8, ("InvalidValue" : Str), [("value" : Str)]⟩
theorem kco8 : kc8.Ok cl c0 T.ck := ⟨rfl, rfl, rfl, rfl, ⟨rfl, rfl, rfl, by decide +kernel, rfl, by decide +kernel, by decide +kernel⟩, by decide +kernel, by decide +kernel, rfl, by decide, initBB_of (by decide +kernel), fun _ _ _ _ _ _ => fun _ _ => rfl,
  allP_mem (P := fun p : (Str × Nat × List Str) × (Nat × List Nat) => p.2.1 = kc8.c → p.1.2.1 ≤ 900 ∧ ∀ (kV doc pm : Value) (an : Option Addr) (cdv ct : Value), BindAt p.1.2.1 fun us => BindAt p.1.2.2.length fun ws => ∀ a, bindArgs (PySem.W.fnOf kc8.d.name kc8.d.qual kc8.d.params kc8.d.body kc8.d.scope .none kV doc pm an cdv ct) ⟨a :: us, p.1.2.2.zip ws⟩ = pure ((kc8.self :: kc8.ps).zip (a :: perm p.2.2 (us ++ ws)))) ⟨fun h => absurd h (by decide), fun h => absurd h (by decide), fun h => absurd h (by decide), fun h => absurd h (by decide), fun h => absurd h (by decide), fun h => absurd h (by decide), fun h => absurd h (by decide), fun h => absurd h (by decide), fun h => absurd h (by decide), fun h => absurd h (by decide), fun h => absurd h (by decide), fun h => absurd h (by decide), fun h => absurd h (by decide), fun h => absurd h (by decide), fun h => absurd h (by decide), fun h => absurd h (by decide), fun h => absurd h (by decide), fun h => absurd h (by decide), fun _ => ⟨by decide, fun _ _ _ _ _ _ => fun _ => fun _ => rfl⟩, fun _ => ⟨by decide, fun _ _ _ _ _ _ => fun _ => fun _ => rfl⟩, fun h => absurd h (by decide), fun h => absurd h (by decide), fun h => absurd h (by decide), fun h => absurd h (by decide), fun h => absurd h (by decide), fun h => absurd h (by decide), fun h => absurd h (by decide), fun h => absurd h (by decide), fun h => absurd h (by decide), fun h => absurd h (by decide), fun h => absurd h (by decide), fun h => absurd h (by decide), fun h => absurd h (by decide), fun h => absurd h (by decide), fun h => absurd h (by decide), True.intro⟩⟩
abbrev ki9 : He.DefD := ⟨(("InvalidName" : Str), some ("__init__" : Str)), ("__init__" : Str), ("InvalidName.__init__" : Str), defArgs (meth 10 0), defBody (meth 10 0), defScope (meth 10 0), [], []⟩
abbrev kc9 : Ci := ⟨9, ("self" : Str), [("value" : Str)], ki9, ("InvalidName" : Str), [("value" : Str)]⟩
theorem kco9 : kc9.Ok cl c0 T.ck := ⟨rfl, rfl, rfl, rfl, ⟨rfl, rfl, rfl, by decide +kernel, rfl, by decide +kernel, by decide +kernel⟩, by decide +kernel, by decide +kernel, rfl, by decide, initBB_of (by decide +kernel), fun _ _ _ _ _ _ => fun _ _ => rfl,
  allP_mem (P := fun p : (Str × Nat × List Str) × (Nat × List Nat) => p.2.1 = kc9.c → p.1.2.1 ≤ 900 ∧ ∀ (kV doc pm : Value) (an : Option Addr) (cdv ct : Value), BindAt p.1.2.1 fun us => BindAt p.1.2.2.length fun ws => ∀ a, bindArgs (PySem.W.fnOf kc9.d.name kc9.d.qual kc9.d.params kc9.d.body kc9.d.scope .none kV doc pm an cdv ct) ⟨a :: us, p.1.2.2.zip ws⟩ = pure ((kc9.self :: kc9.ps).zip (a :: perm p.2.2 (us ++ ws)))) ⟨fun h => absurd h (by decide), fun h => absurd h (by decide), fun h => absurd h (by decide), fun h => absurd h (by decide), fun h => absurd h (by decide), fun h => absurd h (by decide), fun h => absurd h (by decide), fun h => absurd h (by decide), fun _ => ⟨by decide, fun _ _ _ _ _ _ => fun _ => fun _ => rfl⟩, fun _ => ⟨by decide, fun _ _ _ _ _ _ => fun _ => fun _ => rfl⟩, fun h => absurd h (by decide), fun h => absurd h (by decide), fun h => absurd h (by decide), fun h => absurd h (by decide), fun h => absurd h (by decide), fun h => absurd h (by decide), fun h => absurd h (by decide), fun h => absurd h (by decide), fun h => absurd h (by decide), fun h => absurd h (by decide), fun h => absurd h (by decide), fun h => absurd h (by decide), fun h => absurd h (by decide), fun h => absurd h (by decide), fun h => absurd h (by decide), fun h => absurd h (by decide), fun h => absurd h (by decide), fun h => absurd h (by decide), fun h => absurd h (by decide), fun h => absurd h (by decide), fun h => absurd h (by decide), fun h => absurd h (by decide), fun h => absurd h (by decide), fun h => absurd h (by decide), fun h => absurd h (by decide), True.intro⟩⟩
abbrev ki10 : He.DefD := ⟨(("InvalidLine" : Str), some ("__init__" : Str)), ("__init__" : Str), ("InvalidLine.__init__" : Str), defArgs (meth 11 0), defBody (meth 11 0), defScope (meth 11 0), [], []⟩
abbrev kc10 : Ci := ⟨10, ("self" : Str), [("value" : Str)], ki10, ("InvalidLine" : Str), [("value" : Str)]⟩
theorem kco10 : kc10.Ok cl c0 T.ck := ⟨rfl, rfl, rfl, rfl, ⟨rfl, rfl, rfl, by decide +kernel, rfl, by decide +kernel, by decide +kernel⟩, by decide +kernel, by decide +kernel, rfl, by decide, initBB_of (by decide +kernel), fun _ _ _ _ _ _ => fun _ _ => rfl,
  allP_mem (P := fun p : (Str × Nat × List Str) × (Nat × List Nat) => p.2.1 = kc10.c → p.1.2.1 ≤ 900 ∧ ∀ (kV doc pm : Value) (an : Option Addr) (cdv ct : Value), BindAt p.1.2.1 fun us => BindAt p.1.2.2.length fun ws => ∀ a, bindArgs (PySem.W.fnOf kc10.d.name kc10.d.qual kc10.d.params kc10.d.body kc10.d.scope .none kV doc pm an cdv ct) ⟨a :: us, p.1.2.2.zip ws⟩ = pure ((kc10.self :: kc10.ps).zip (a :: perm p.2.2 (us ++ ws)))) ⟨fun h => absurd h (by decide), fun h => absurd h (by decide), fun h => absurd h (by decide), fun h => absurd h (by decide), fun h => absurd h (by decide), fun h => absurd h (by decide), fun _ => ⟨by decide, fun _ _ _ _ _ _ => fun _ => fun _ => rfl⟩, fun _ => ⟨by decide, fun _ _ _ _ _ _ => fun _ => fun _ => rfl⟩, fun h => absurd h (by decide), fun h => absurd h (by decide), fun h => absurd h (by decide), fun h => absurd h (by decide), fun h => absurd h (by decide), fun h => absurd h (by decide), fun h => absurd h (by decide), fun h => absurd h (by decide), fun h => absurd h (by decide), fun h => absurd h (by decide), fun h => absurd h (by decide), fun h => absurd h (by decide), fun h => absurd h (by decide), fun h => absurd h (by decide), fun h => absurd h (by decide), fun h => absurd h (by decide), fun h => absurd h (by decide), fun h => absurd h (by decide), fun h => absurd h (by decide), fun h => absurd h (by decide), fun h => absurd h (by decide), fun h => absurd h (by decide), fun h => absurd h (by decide), fun h => absurd h (by decide), fun h => absurd h (by decide), fun h => absurd h (by decide), fun h => absurd h (by decide), True.intro⟩⟩
abbrev ki12 : He.DefD := ⟨(("NoTrack" : Str), some ("__init__" : Str)), ("__init__" : Str), ("NoTrack.__init__" : Str), defArgs (meth 13 0), defBody (meth 13 0), defScope (meth 13 0), [], []⟩
abbrev kc12 : Ci := ⟨12, ("self" : Str), [("key" : Str), ("number" : Str)], ki12, ("NoTrack" : Str), [("key" : Str), ("number" : Str)]⟩
theorem kco12 : kc12.Ok cl c0 T.ck := ⟨rfl, rfl, rfl, rfl, ⟨rfl, rfl, rfl, by decide +kernel, rfl, by decide +kernel, by decide +kernel⟩, by decide +kernel, by decide +kernel, rfl, by decide, initBB_of (by decide +kernel), fun _ _ _ _ _ _ => fun _ _ _ => rfl,
  allP_mem (P := fun p : (Str × Nat × List Str) × (Nat × List Nat) => p.2.1 = kc12.c → p.1.2.1 ≤ 900 ∧ ∀ (kV doc pm : Value) (an : Option Addr) (cdv ct : Value), BindAt p.1.2.1 fun us => BindAt p.1.2.2.length fun ws => ∀ a, bindArgs (PySem.W.fnOf kc12.d.name kc12.d.qual kc12.d.params kc12.d.body kc12.d.scope .none kV doc pm an cdv ct) ⟨a :: us, p.1.2.2.zip ws⟩ = pure ((kc12.self :: kc12.ps).zip (a :: perm p.2.2 (us ++ ws)))) ⟨fun h => absurd h (by decide), fun h => absurd h (by decide), fun h => absurd h (by decide), fun h => absurd h (by decide), fun h => absurd h (by decide), fun h => absurd h (by decide), fun h => absurd h (by decide), fun h => absurd h (by decide), fun h => absurd h (by decide), fun h => absurd h (by decide), fun h => absurd h (by decide), fun h => absurd h (by decide), fun h => absurd h (by decide), fun h => absurd h (by decide), fun h => absurd h (by decide), fun h => absurd h (by decide), fun h => absurd h (by decide), fun h => absurd h (by decide), fun h => absurd h (by decide), fun h => absurd h (by decide), fun h => absurd h (by decide), fun h => absurd h (by decide), fun h => absurd h (by decide), fun h => absurd h (by decide), fun h => absurd h (by decide), fun h => absurd h (by decide), fun _ => ⟨by decide, fun _ _ _ _ _ _ => fun _ _ => fun _ => rfl⟩, fun _ => ⟨by decide, fun _ _ _ _ _ _ => fun _ _ => fun _ => rfl⟩, fun h => absurd h (by decide), fun h => absurd h (by decide), fun h => absurd h (by decide), fun h => absurd h (by decide), fun h => absurd h (by decide), fun h => absurd h (by decide), fun h => absurd h (by decide), True.intro⟩⟩
abbrev ki13 : He.DefD := ⟨(("NoRenaming" : Str), some ("__init__" : Str)), ("__init__" : Str), ("NoRenaming.__init__" : Str), defArgs (meth 14 0), defBody (meth 14 0), defScope (meth 14 0), [], []⟩
abbrev kc13 : Ci := ⟨13, ("self" : Str), [("found" : Str)], ki13, ("NoRenaming" : Str), [("found" : Str)]⟩
theorem kco13 : kc13.Ok cl c0 T.ck := ⟨rfl, rfl, rfl, rfl, ⟨rfl, rfl, rfl, by decide +kernel, rfl, by decide +kernel, by decide +kernel⟩, by decide +kernel, by decide +kernel, rfl, by decide, initBB_of (by decide +kernel), fun _ _ _ _ _ _ => fun _ _ => rfl,
  allP_mem (P := fun p : (Str × Nat × List Str) × (Nat × List Nat) => p.2.1 = kc13.c → p.1.2.1 ≤ 900 ∧ ∀ (kV doc pm : Value) (an : Option Addr) (cdv ct : Value), BindAt p.1.2.1 fun us => BindAt p.1.2.2.length fun ws => ∀ a, bindArgs (PySem.W.fnOf kc13.d.name kc13.d.qual kc13.d.params kc13.d.body kc13.d.scope .none kV doc pm an cdv ct) ⟨a :: us, p.1.2.2.zip ws⟩ = pure ((kc13.self :: kc13.ps).zip (a :: perm p.2.2 (us ++ ws)))) ⟨fun h => absurd h (by decide), fun h => absurd h (by decide), fun h => absurd h (by decide), fun h => absurd h (by decide), fun h => absurd h (by decide), fun h => absurd h (by decide), fun h => absurd h (by decide), fun h => absurd h (by decide), fun h => absurd h (by decide), fun h => absurd h (by decide), fun h => absurd h (by decide), fun h => absurd h (by decide), fun h => absurd h (by decide), fun h => absurd h (by decide), fun h => absurd h (by decide), fun h => absurd h (by decide), fun h => absurd h (by decide), fun h => absurd h (by decide), fun h => absurd h (by decide), fun h => absurd h (by decide), fun h => absurd h (by decide), fun h => absurd h (by decide), fun _ => ⟨by decide, fun _ _ _ _ _ _ => fun _ => fun _ => rfl⟩, fun _ => ⟨by decide, fun _ _ _ _ _ _ => fun _ => fun _ => rfl⟩, fun h => absurd h (by decide), fun h => absurd h (by decide), fun h => absurd h (by decide), fun h => absurd h (by decide), fun h => absurd h (by decide), fun h => absurd h (by decide), fun h => absurd h (by decide), fun h => absurd h (by decide), fun h => absurd h (by decide), fun h => absurd h (by decide), fun h => absurd h (by decide), True.intro⟩⟩
abbrev ki14 : He.DefD := ⟨(("NoRoot" : Str), some ("__init__" : Str)), ("__init__" : Str), ("NoRoot.__init__" : Str), defArgs (meth 15 0), defBody (meth 15 0), defScope (meth 15 0), [], []⟩
abbrev kc14 : Ci := ⟨14, ("self" : Str), [("key" : Str), ("many" : Str)], ki14, ("NoRoot" : Str), [("key" : Str), ("many" : Str)]⟩
theorem kco14 : kc14.Ok cl c0 T.ck := ⟨rfl, rfl, rfl, rfl, ⟨rfl, rfl, rfl, by decide +kernel, rfl, by decide +kernel, by decide +kernel⟩, by decide +kernel, by decide +kernel, rfl, by decide, initBB_of (by decide +kernel), fun _ _ _ _ _ _ => fun _ _ _ => rfl,
  allP_mem (P := fun p : (Str × Nat × List Str) × (Nat × List Nat) => p.2.1 = kc14.c → p.1.2.1 ≤ 900 ∧ ∀ (kV doc pm : Value) (an : Option Addr) (cdv ct : Value), BindAt p.1.2.1 fun us => BindAt p.1.2.2.length fun ws => ∀ a, bindArgs (PySem.W.fnOf kc14.d.name kc14.d.qual kc14.d.params kc14.d.body kc14.d.scope .none kV doc pm an cdv ct) ⟨a :: us, p.1.2.2.zip ws⟩ = pure ((kc14.self :: kc14.ps).zip (a :: perm p.2.2 (us ++ ws)))) ⟨fun h => absurd h (by decide), fun h => absurd h (by decide), fun h => absurd h (by decide), fun h => absurd h (by decide), fun h => absurd h (by decide), fun h => absurd h (by decide), fun h => absurd h (by decide), fun h => absurd h (by decide), fun h => absurd h (by decide), fun h => absurd h (by decide), fun h => absurd h (by decide), fun h => absurd h (by decide), fun h => absurd h (by decide), fun h => absurd h (by decide), fun h => absurd h (by decide), fun h => absurd h (by decide), fun h => absurd h (by decide), fun h => absurd h (by decide), fun h => absurd h (by decide), fun h => absurd h (by decide), fun h => absurd h (by decide), fun h => absurd h (by decide), fun h => absurd h (by decide), fun h => absurd h (by decide), fun _ => ⟨by decide, fun _ _ _ _ _ _ => fun _ _ => fun _ => rfl⟩, fun _ => ⟨by decide, fun _ _ _ _ _ _ => fun _ _ => fun _ => rfl⟩, fun h => absurd h (by decide), fun h => absurd h (by decide), fun h => absurd h (by decide), fun h => absurd h (by decide), fun h => absurd h (by decide), fun h => absurd h (by decide), fun h => absurd h (by decide), fun h => absurd h (by decide), fun h => absurd h (by decide), True.intro⟩⟩
abbrev ki15 : He.DefD := ⟨(("NoFactors" : Str), some ("__init__" : Str)), ("__init__" : Str), ("NoFactors.__init__" : Str), defArgs (meth 16 0), defBody (meth 16 0), defScope (meth 16 0), [], []⟩
abbrev kc15 : Ci := ⟨15, ("self" : Str), [("excess" : Str)], ki15, ("NoFactors" : Str), [("excess" : Str)]⟩
theorem kco15 : kc15.Ok cl c0 T.ck := ⟨rfl, rfl, rfl, rfl, ⟨rfl, rfl, rfl, by decide +kernel, rfl, by decide +kernel, by decide +kernel⟩, by decide +kernel, by decide +kernel, rfl, by decide, initBB_of (by decide +kernel), fun _ _ _ _ _ _ => fun _ _ => rfl,
  allP_mem (P := fun p : (Str × Nat × List Str) × (Nat × List Nat) => p.2.1 = kc15.c → p.1.2.1 ≤ 900 ∧ ∀ (kV doc pm : Value) (an : Option Addr) (cdv ct : Value), BindAt p.1.2.1 fun us => BindAt p.1.2.2.length fun ws => ∀ a, bindArgs (PySem.W.fnOf kc15.d.name kc15.d.qual kc15.d.params kc15.d.body kc15.d.scope .none kV doc pm an cdv ct) ⟨a :: us, p.1.2.2.zip ws⟩ = pure ((kc15.self :: kc15.ps).zip (a :: perm p.2.2 (us ++ ws)))) ⟨fun h => absurd h (by decide), fun h => absurd h (by decide), fun h => absurd h (by decide), fun h => absurd h (by decide), fun h => absurd h (by decide), fun h => absurd h (by decide), fun h => absurd h (by decide), fun h => absurd h (by decide), fun h => absurd h (by decide), fun h => absurd h (by decide), fun h => absurd h (by decide), fun h => absurd h (by decide), fun h => absurd h (by decide), fun h => absurd h (by decide), fun h => absurd h (by decide), fun h => absurd h (by decide), fun h => absurd h (by decide), fun h => absurd h (by decide), fun h => absurd h (by decide), fun h => absurd h (by decide), fun _ => ⟨by decide, fun _ _ _ _ _ _ => fun _ => fun _ => rfl⟩, fun _ => ⟨by decide, fun _ _ _ _ _ _ => fun _ => fun _ => rfl⟩, fun h => absurd h (by decide), fun h => absurd h (by decide), fun h => absurd h (by decide), fun h => absurd h (by decide), fun h => absurd h (by decide), fun h => absurd h (by decide), fun h => absurd h (by decide), fun h => absurd h (by decide), fun h => absurd h (by decide), fun h => absurd h (by decide), fun h => absurd h (by decide), fun h => absurd h (by decide), fun h => absurd h (by decide), True.intro⟩⟩
abbrev ki16 : He.DefD := ⟨(("UnknownName" : Str), some ("__init__" : Str)), ("__init__" : Str), ("UnknownName.__init__" : Str), defArgs (meth 17 0), defBody (meth 17 0), defScope (meth 17 0), [], []⟩
abbrev kc16 : Ci := ⟨16, ("self" : Str), [("name" : Str)], ki16, ("UnknownName" : Str), [("name" : Str)]⟩
theorem kco16 : kc16.Ok cl c0 T.ck := ⟨rfl, rfl, rfl, rfl, ⟨rfl, rfl, rfl, by decide +kernel, rfl, by decide +kernel, by decide +kernel⟩, by decide +kernel, by decide +kernel, rfl, by decide, initBB_of (by decide +kernel), fun _ _ _ _ _ _ => fun _ _ => rfl,
  allP_mem (P := fun p : (Str × Nat × List Str) × (Nat × List Nat) => p.2.1 = kc16.c → p.1.2.1 ≤ 900 ∧ ∀ (kV doc pm : Value) (an : Option Addr) (cdv ct : Value), BindAt p.1.2.1 fun us => BindAt p.1.2.2.length fun ws => ∀ a, bindArgs (PySem.W.fnOf kc16.d.name kc16.d.qual kc16.d.params kc16.d.body kc16.d.scope .none kV doc pm an cdv ct) ⟨a :: us, p.1.2.2.zip ws⟩ = pure ((kc16.self :: kc16.ps).zip (a :: perm p.2.2 (us ++ ws)))) ⟨fun h => absurd h (by decide), fun h => absurd h (by decide), fun h => absurd h (by decide), fun h => absurd h (by decide), fun h => absurd h (by decide), fun h => absurd h (by decide), fun h => absurd h (by decide), fun h => absurd h (by decide), fun h => absurd h (by decide), fun h => absurd h (by decide), fun h => absurd h (by decide), fun h => absurd h (by decide), fun h => absurd h (by decide), fun h => absurd h (by decide), fun h => absurd h (by decide), fun h => absurd h (by decide), fun h => absurd h (by decide), fun h => absurd h (by decide), fun h => absurd h (by decide), fun h => absurd h (by decide), fun h => absurd h (by decide), fun h => absurd h (by decide), fun h => absurd h (by decide), fun h => absurd h (by decide), fun h => absurd h (by decide), fun h => absurd h (by decide), fun h => absurd h (by decide), fun h => absurd h (by decide), fun h => absurd h (by decide), fun h => absurd h (by decide), fun h => absurd h (by decide), fun h => absurd h (by decide), fun h => absurd h (by decide), fun _ => ⟨by decide, fun _ _ _ _ _ _ => fun _ => fun _ => rfl⟩, fun _ => ⟨by decide, fun _ _ _ _ _ _ => fun _ => fun _ => rfl⟩, True.intro⟩⟩
abbrev ki17 : He.DefD := ⟨(("NothingToUndo" : Str), some ("__init__" : Str)), ("__init__" : Str), ("NothingToUndo.__init__" : Str), defArgs (meth 18 0), defBody (meth 18 0), defScope (meth 18 0), [], []⟩
abbrev kc17 : Ci := ⟨17, ("self" : Str), [], ki17, ("NothingToUndo" : Str), []⟩
theorem kco17 : kc17.Ok cl c0 T.ck := ⟨rfl, rfl, rfl, rfl, ⟨rfl, rfl, rfl, by decide +kernel, rfl, by decide +kernel, by decide +kernel⟩, by decide +kernel, by decide +kernel, rfl, by decide, initBB_of (by decide +kernel), fun _ _ _ _ _ _ => fun _ => rfl,
  allP_mem (P := fun p : (Str × Nat × List Str) × (Nat × List Nat) => p.2.1 = kc17.c → p.1.2.1 ≤ 900 ∧ ∀ (kV doc pm : Value) (an : Option Addr) (cdv ct : Value), BindAt p.1.2.1 fun us => BindAt p.1.2.2.length fun ws => ∀ a, bindArgs (PySem.W.fnOf kc17.d.name kc17.d.qual kc17.d.params kc17.d.body kc17.d.scope .none kV doc pm an cdv ct) ⟨a :: us, p.1.2.2.zip ws⟩ = pure ((kc17.self :: kc17.ps).zip (a :: perm p.2.2 (us ++ ws)))) ⟨fun h => absurd h (by decide), fun h => absurd h (by decide), fun h => absurd h (by decide), fun h => absurd h (by decide), fun h => absurd h (by decide), fun h => absurd h (by decide), fun h => absurd h (by decide), fun h => absurd h (by decide), fun h => absurd h (by decide), fun h => absurd h (by decide), fun h => absurd h (by decide), fun h => absurd h (by decide), fun h => absurd h (by decide), fun h => absurd h (by decide), fun h => absurd h (by decide), fun h => absurd h (by decide), fun h => absurd h (by decide), fun h => absurd h (by decide), fun h => absurd h (by decide), fun h => absurd h (by decide), fun h => absurd h (by decide), fun h => absurd h (by decide), fun h => absurd h (by decide), fun h => absurd h (by decide), fun h => absurd h (by decide), fun h => absurd h (by decide), fun h => absurd h (by decide), fun h => absurd h (by decide), fun _ => ⟨by decide, fun _ _ _ _ _ _ => fun _ => rfl⟩, fun h => absurd h (by decide), fun h => absurd h (by decide), fun h => absurd h (by decide), fun h => absurd h (by decide), fun h => absurd h (by decide), fun h => absurd h (by decide), True.intro⟩⟩
abbrev ki19 : He.DefD := ⟨(("TooLong" : Str), some ("__init__" : Str)), ("__init__" : Str), ("TooLong.__init__" : Str), defArgs (meth 20 0), defBody (meth 20 0), defScope (meth 20 0), [], []⟩
abbrev kc19 : Ci := ⟨19, ("self" : Str), [("multiple" : Str)], ki19, ("TooLong" : Str), [("multiple" : Str)]⟩
theorem kco19 : kc19.Ok cl c0 T.ck := ⟨rfl, rfl, rfl, rfl, ⟨rfl, rfl, rfl, by decide +kernel, rfl, by decide +kernel, by decide +kernel⟩, by decide +kernel, by decide +kernel, rfl, by decide, initBB_of (by decide +kernel), fun _ _ _ _ _ _ => fun _ _ => rfl,
  allP_mem (P := fun p : (Str × Nat × List Str) × (Nat × List Nat) => p.2.1 = kc19.c → p.1.2.1 ≤ 900 ∧ ∀ (kV doc pm : Value) (an : Option Addr) (cdv ct : Value), BindAt p.1.2.1 fun us => BindAt p.1.2.2.length fun ws => ∀ a, bindArgs (PySem.W.fnOf kc19.d.name kc19.d.qual kc19.d.params kc19.d.body kc19.d.scope .none kV doc pm an cdv ct) ⟨a :: us, p.1.2.2.zip ws⟩ = pure ((kc19.self :: kc19.ps).zip (a :: perm p.2.2 (us ++ ws)))) ⟨fun h => absurd h (by decide), fun h => absurd h (by decide), fun h => absurd h (by decide), fun h => absurd h (by decide), fun h => absurd h (by decide), fun h => absurd h (by decide), fun h => absurd h (by decide), fun h => absurd h (by decide), fun h => absurd h (by decide), fun h => absurd h (by decide), fun h => absurd h (by decide), fun h => absurd h (by decide), fun h => absurd h (by decide), fun h => absurd h (by decide), fun h => absurd h (by decide), fun h => absurd h (by decide), fun h => absurd h (by decide), fun h => absurd h (by decide), fun h => absurd h (by decide), fun h => absurd h (by decide), fun h => absurd h (by decide), fun h => absurd h (by decide), fun h => absurd h (by decide), fun h => absurd h (by decide), fun h => absurd h (by decide), fun h => absurd h (by decide), fun h => absurd h (by decide), fun h => absurd h (by decide), fun h => absurd h (by decide), fun _ => ⟨by decide, fun _ _ _ _ _ _ => fun _ => fun _ => rfl⟩, fun _ => ⟨by decide, fun _ _ _ _ _ _ => fun _ => fun _ => rfl⟩, fun h => absurd h (by decide), fun h => absurd h (by decide), fun h => absurd h (by decide), fun h => absurd h (by decide), True.intro⟩⟩
abbrev ki20 : He.DefD := ⟨(("TooMany" : Str), some ("__init__" : Str)), ("__init__" : Str), ("TooMany.__init__" : Str), defArgs (meth 21 0), defBody (meth 21 0), defScope (meth 21 0), [], []⟩
abbrev kc20 : Ci := ⟨20, ("self" : Str), [("many" : Str)], ki20, ("TooMany" : Str), [("many" : Str)]⟩
theorem kco20 : kc20.Ok cl c0 T.ck := ⟨rfl, rfl, rfl, rfl, ⟨rfl, rfl, rfl, by decide +kernel, rfl, by decide +kernel, by decide +kernel⟩, by decide +kernel, by decide +kernel, rfl, by decide, initBB_of (by decide +kernel), fun _ _ _ _ _ _ => fun _ _ => rfl,
  allP_mem (P := fun p : (Str × Nat × List Str) × (Nat × List Nat) => p.2.1 = kc20.c → p.1.2.1 ≤ 900 ∧ ∀ (kV doc pm : Value) (an : Option Addr) (cdv ct : Value), BindAt p.1.2.1 fun us => BindAt p.1.2.2.length fun ws => ∀ a, bindArgs (PySem.W.fnOf kc20.d.name kc20.d.qual kc20.d.params kc20.d.body kc20.d.scope .none kV doc pm an cdv ct) ⟨a :: us, p.1.2.2.zip ws⟩ = pure ((kc20.self :: kc20.ps).zip (a :: perm p.2.2 (us ++ ws)))) ⟨fun h => absurd h (by decide), fun h => absurd h (by decide), fun h => absurd h (by decide), fun h => absurd h (by decide), fun h => absurd h (by decide), fun h => absurd h (by decide), fun h => absurd h (by decide), fun h => absurd h (by decide), fun h => absurd h (by decide), fun h => absurd h (by decide), fun h => absurd h (by decide), fun h => absurd h (by decide), fun h => absurd h (by decide), fun h => absurd h (by decide), fun h => absurd h (by decide), fun h => absurd h (by decide), fun h => absurd h (by decide), fun h => absurd h (by decide), fun h => absurd h (by decide), fun h => absurd h (by decide), fun h => absurd h (by decide), fun h => absurd h (by decide), fun h => absurd h (by decide), fun h => absurd h (by decide), fun h => absurd h (by decide), fun h => absurd h (by decide), fun h => absurd h (by decide), fun h => absurd h (by decide), fun h => absurd h (by decide), fun h => absurd h (by decide), fun h => absurd h (by decide), fun _ => ⟨by decide, fun _ _ _ _ _ _ => fun _ => fun _ => rfl⟩, fun _ => ⟨by decide, fun _ _ _ _ _ _ => fun _ => fun _ => rfl⟩, fun h => absurd h (by decide), fun h => absurd h (by decide), True.intro⟩⟩
abbrev inits : List Ci := [kc1, kc2, kc3, kc4, kc5, kc6, kc7, kc8, kc9, kc10, kc12, kc13, kc14, kc15, kc16, kc17, kc19, kc20]
theorem inits_ok : ∀ i ∈ inits, i.Ok cl c0 T.ck := allP_mem ⟨kco1, kco2, kco3, kco4, kco5, kco6, kco7, kco8, kco9, kco10, kco12, kco13, kco14, kco15, kco16, kco17, kco19, kco20, True.intro⟩
abbrev fn : List He.DefD := [kd0, kd1, kd2, kd3, kd4, kd5, kd6, kd7, kd8, kd9, kd10, kd11, kd12, kd13, ki1, ki2, ki3, ki4, ki5, ki6, ki7, ki8, ki9, ki10, ki12, ki13, ki14, ki15, ki16, ki17, ki19, ki20]
abbrev ex : PySem.W.Frag → Bool := fun K => exB tx.defs tx.d0 tx.cl tx.c0 tx.T K && inits.all fun i => mkB K i.cls
abbrev hk : PySem.W.Hook := hookM 5 fn ex (tfOf tx.defs)
def ob (s : PySem.W.SharedT) : He.AlD := obsM 5 fn ex (tfOf tx.defs) (HandSHeadRun.getT s)
theorem ob_eq (s : PySem.W.SharedT) : ob s = hk.obs s.abs := obsM_eq (HandSHeadRun.getT_eq s)
abbrev R : PySem.W.OpenRow := PySem.W.OpenLaw.row PySem.Challenge.rw_threeswaps_k10_errors_made
abbrev loose : List PySem.Str := [("ThreeswapsError" : Str), ("InvalidInteger" : Str), ("InvalidRatio" : Str), ("InvalidTable" : Str), ("InvalidPair" : Str), ("InvalidAddress" : Str), ("InvalidProfile" : Str), ("InvalidFormula" : Str), ("InvalidValue" : Str), ("InvalidName" : Str), ("InvalidLine" : Str), ("AbsentError" : Str), ("NoTrack" : Str), ("NoRenaming" : Str), ("NoRoot" : Str), ("NoFactors" : Str), ("UnknownName" : Str), ("NothingToUndo" : Str), ("LimitError" : Str), ("TooLong" : Str), ("TooMany" : Str), ("_law_pot" : Str), ("_law_draw" : Str), ("_law_choice" : Str), ("_law_parts" : Str), ("_law_first" : Str), ("_law_second" : Str), ("_law_marks" : Str), ("_law_above_right" : Str), ("_law_first_right" : Str), ("_law_second_right" : Str), ("_law_caught" : Str), ("_law_raised" : Str), ("_law_right" : Str)]
abbrev qv : Program := PySem.W.view R.prog [36]
theorem run (w : World) : HandSHeadRun.RunEq R qv hk ob 14000 loose w := by
  intro os
  kernel_rfl
end K10
open PySem PySem.Spec PyProof.Rows L2 Mn
namespace K10
theorem raised0 (n : Nat) (st : Store) : tx.run (n + 1) 11 [.int 0] st = .exc 3 [("earlier", .int 0), ("position", .int 1), ("problem", .str "meeting")] st := by rfl
theorem raised1 (n : Nat) (st : Store) : tx.run (n + 1) 11 [.int 1] st = .exc 12 [("number", .int 0), ("key", .tup [.int 1, .int 2])] st := by rfl
theorem raised2 (n : Nat) (st : Store) : tx.run (n + 1) 11 [.int 2] st = .exc 20 [("many", .int 5063)] st := by rfl
end K10
open PySem PySem.Spec PyProof.Rows L2 Mn
namespace K10
theorem lam0 (n : Nat) (st : Store) : tx.lamr (n + 1) kl2 [] st = tx.run n 11 [.int 0] st := by rw [lamr_succ tx n kl2 ke2 st klt2]; rfl
theorem lam1 (n : Nat) (st : Store) : tx.lamr (n + 1) kl1 [] st = tx.run n 11 [.int 1] st := by rw [lamr_succ tx n kl1 ke1 st klt1]; rfl
theorem lam2 (n : Nat) (st : Store) : tx.lamr (n + 1) kl0 [] st = tx.run n 11 [.int 2] st := by rw [lamr_succ tx n kl0 ke0 st klt0]; rfl
theorem caught (n : Nat) (d : LamD) (st : Store) : tx.run (n + 1) 10 [.lam d] st = retOf (exs (tx.rt n) (.cons (.try_ (.cons (.expr (.callv 0 .nil)) .nil) (.cons (.own 0) none (.cons (.set 1 (.k (.str ("value" : Str)))) .nil) (.cons (.own 11) none (.cons (.set 1 (.k (.str ("absent" : Str)))) .nil) (.cons (.own 18) none (.cons (.set 1 (.k (.str ("limit" : Str)))) .nil) .nil)))) (.cons (.ret (.v 1)) .nil)) [some (.lam d), some (.str "other")] st) := rfl
theorem caught0 (n : Nat) (st : Store) : tx.run (n + 3) 10 [.lam kl2] st = .ok (.str "value") st := by
  rw [caught]
  have h : ev (tx.rt (n + 2)) (.callv 0 .nil) [some (.lam kl2), some (.str "other")] st = .exc 3 [("earlier", .int 0), ("position", .int 1), ("problem", .str "meeting")] st := by
    show tx.lamr (n + 2) kl2 [] st = _
    rw [lam0, raised0]
  simp only [exs, Mn.ex, qSeq, qTry, qExpr, h]
  rfl
theorem caught1 (n : Nat) (st : Store) : tx.run (n + 3) 10 [.lam kl1] st = .ok (.str "absent") st := by
  rw [caught]
  have h : ev (tx.rt (n + 2)) (.callv 0 .nil) [some (.lam kl1), some (.str "other")] st = .exc 12 [("number", .int 0), ("key", .tup [.int 1, .int 2])] st := by
    show tx.lamr (n + 2) kl1 [] st = _
    rw [lam1, raised1]
  simp only [exs, Mn.ex, qSeq, qTry, qExpr, h]
  rfl
theorem caught2 (n : Nat) (st : Store) : tx.run (n + 3) 10 [.lam kl0] st = .ok (.str "limit") st := by
  rw [caught]
  have h : ev (tx.rt (n + 2)) (.callv 0 .nil) [some (.lam kl0), some (.str "other")] st = .exc 20 [("many", .int 5063)] st := by
    show tx.lamr (n + 2) kl0 [] st = _
    rw [lam2, raised2]
  simp only [exs, Mn.ex, qSeq, qTry, qExpr, h]
  rfl
end K10
open PySem PySem.Spec PyProof.Rows L2 Mn
namespace K10
theorem isi_cls {n c i : Nat} {ns : List Str} {xs : List MV} {env : Mn.Env} {st : Store} (he : env[0]? = some (some (.exo c ns xs))) (h : (fldC cl c).isSome = true) : ev (tx.rt n) (.isi (.cons (.v 0) (.cons (.k (.cls i)) .nil))) env st = .ok (.bl (subC cl c0 c (.own i))) st := by
  have e : ev (tx.rt n) (.v 0) env st = .ok (.exo c ns xs) st := by
    show sV 0 env st = _
    unfold sV
    rw [he]
  show (((ev (tx.rt n) (.v 0) env st).bind fun x st => R.ok [x, .cls i] st).bind fun xs st => mIsx (tx.rt n) st xs) = _
  rw [e]
  show (if (fldC cl c).isSome = true then R.ok (MV.bl (subC cl c0 c (.own i) || false)) st else .stk) = _
  rw [if_pos h, Bool.or_false]
theorem isi_ty {n c : Nat} {t : String} (ht : etys.contains t = true) {ns : List Str} {xs : List MV} {env : Mn.Env} {st : Store} (he : env[0]? = some (some (.exo c ns xs))) (h : (fldC cl c).isSome = true) : ev (tx.rt n) (.isi (.cons (.v 0) (.cons (.k (.ty t)) .nil))) env st = .ok (.bl (subC cl c0 c (.ty t))) st := by
  have e : ev (tx.rt n) (.v 0) env st = .ok (.exo c ns xs) st := by
    show sV 0 env st = _
    unfold sV
    rw [he]
  show (((ev (tx.rt n) (.v 0) env st).bind fun x st => R.ok [x, .ty t] st).bind fun xs st => mIsx (tx.rt n) st xs) = _
  rw [e]
  have e2 : clsLX (.ty t) = some [.ty t] := by
    show (ctOfX (.ty t)).map _ = _
    show (if etys.contains t = true then some (CT.ty t) else none).map _ = _
    rw [if_pos ht]
    rfl
  show (if (fldC cl c).isSome = true then (match clsLX (.ty t) with
    | some l => R.ok (MV.bl (l.any (subC cl c0 c))) st
    | none => .stk) else .stk) = _
  rw [if_pos h, e2]
  show R.ok (MV.bl (subC cl c0 c (.ty t) || false)) st = _
  rw [Bool.or_false]
theorem evs3 {cs : Rt} {a b c : E} {x y z : MV} {env : Mn.Env} {st : Store} (h1 : ev cs a env st = .ok x st) (h2 : ev cs b env st = .ok y st) (h3 : ev cs c env st = .ok z st) : evs cs (.cons a (.cons b (.cons c .nil))) env st = .ok [x, y, z] st := by
  show (ev cs a env st).bind _ = _
  rw [h1]
  show ((ev cs b env st).bind _).bind _ = _
  rw [h2]
  show (((ev cs c env st).bind _).bind _).bind _ = _
  rw [h3]
  rfl
def order : List Nat := [1, 2, 5, 8, 9, 10, 3, 4, 7, 6, 12, 14, 13, 15, 16, 17, 19, 20]
def marksL (c : Nat) : List Bool := order.map fun i => subC cl c0 c (.own i)
theorem run_s (n i : Nat) (ms : List MV) (st : Store) (h : ms.length = (fget tx.defs tx.d0 i).ps.length) {v : MV} {st' : Store} (e : exs (tx.rt n) (fget tx.defs tx.d0 i).m (startE (fget tx.defs tx.d0 i).N.length ms) st = .rt v st') : tx.run (n + 1) i ms st = .ok v st' := by
  rw [run_body tx n i ms st h, e]
  rfl
theorem marks (n c : Nat) (ns : List Str) (xs : List MV) (st : Store) (h : (fldC cl c).isSome = true) : ∃ p st', tx.run (n + 1) 6 [.exo c ns xs] st = .ok (.ref p) st' ∧ Gr st st' ∧ st'[p]? = some (.lst ((marksL c).map MV.bl)) := by
  obtain ⟨p1, s1, e1, g1, h1⟩ := gr_lst (cs := tx.rt n) (i := 1) (env := [some (.exo c ns xs), none]) (st := st) (evs3 (isi_cls (i := 1) rfl h) (isi_cls (i := 2) rfl h) (isi_cls (i := 5) rfl h)) (Nat.le_of_ble_eq_true rfl)
  obtain ⟨p2, s2, e2, g2, h2⟩ := gr_cat (cs := tx.rt n) (i := 1) (j := 1) (env := [some (.exo c ns xs), some (.ref p1)]) rfl h1 (evs3 (isi_cls (i := 8) rfl h) (isi_cls (i := 9) rfl h) (isi_cls (i := 10) rfl h)) (Nat.le_of_ble_eq_true rfl)
  obtain ⟨p3, s3, e3, g3, h3⟩ := gr_cat (cs := tx.rt n) (i := 1) (j := 1) (env := [some (.exo c ns xs), some (.ref p2)]) rfl h2 (evs3 (isi_cls (i := 3) rfl h) (isi_cls (i := 4) rfl h) (isi_cls (i := 7) rfl h)) (Nat.le_of_ble_eq_true rfl)
  obtain ⟨p4, s4, e4, g4, h4⟩ := gr_cat (cs := tx.rt n) (i := 1) (j := 1) (env := [some (.exo c ns xs), some (.ref p3)]) rfl h3 (evs3 (isi_cls (i := 6) rfl h) (isi_cls (i := 12) rfl h) (isi_cls (i := 14) rfl h)) (Nat.le_of_ble_eq_true rfl)
  obtain ⟨p5, s5, e5, g5, h5⟩ := gr_cat (cs := tx.rt n) (i := 1) (j := 1) (env := [some (.exo c ns xs), some (.ref p4)]) rfl h4 (evs3 (isi_cls (i := 13) rfl h) (isi_cls (i := 15) rfl h) (isi_cls (i := 16) rfl h)) (Nat.le_of_ble_eq_true rfl)
  obtain ⟨p6, s6, e6, g6, h6⟩ := gr_ev_cat (cs := tx.rt n) (j := 1) (env := [some (.exo c ns xs), some (.ref p5)]) rfl h5 (evs3 (isi_cls (i := 17) rfl h) (isi_cls (i := 19) rfl h) (isi_cls (i := 20) rfl h)) (Nat.le_of_ble_eq_true rfl)
  refine ⟨p6, s6, run_s n 6 _ st rfl ?_, ((((g1.trans g2).trans g3).trans g4).trans g5).trans g6, h6⟩
  exact (exs_cons e1).trans ((exs_cons e2).trans ((exs_cons e3).trans ((exs_cons e4).trans ((exs_cons e5).trans (exs_ret (ex_ret _ e6))))))
end K10
open PySem PySem.Spec PyProof.Rows L2 Mn
namespace K10
theorem end_rng (n : Nat) (st : Store) : Src.nx (.rng 0 n) st n = some none := by
  show (if n < n then some (some (MV.int (0 + (n : Int)))) else some none) = _
  rw [if_neg (Nat.lt_irrefl n)]
theorem go_rng {n i : Nat} (st : Store) (h : i < n) : Src.nx (.rng 0 n) st i = some (some (.int i)) := by
  show (if i < n then some (some (MV.int (0 + (i : Int)))) else some none) = _
  rw [if_pos h, Int.zero_add]
def upList (c : Nat) : List Bool := [subC cl c0 c (.own 0), subC cl c0 c (.own 11), subC cl c0 c (.own 18), subC cl c0 c (.ty "ValueError"), subC cl c0 c (.ty "LookupError"), subC cl c0 c (.ty "ArithmeticError")]
def atP (p : Int) : Int := (if decide (9 < p) = true then 1 else 0) + (if decide (15 < p) = true then 1 else 0)
theorem above (n c : Nat) (p : Int) (ns : List Str) (xs : List MV) (st : Store) (h : (fldC cl c).isSome = true) (hL : upList c = (List.range 6).map fun k => inV (.int (k : Nat)) [.int (atP p), .int (atP p + 3)]) :
    ∃ st', tx.run (n + 1) 7 [.exo c ns xs, .int p] st = .ok (.bl true) st' ∧ Gr st st' := by
  obtain ⟨p1, s1, e1, g1, h1⟩ := gr_lst (cs := tx.rt n) (i := 2) (env := [some (.exo c ns xs), some (.int p), none, none, none]) (st := st) (evs3 (isi_cls (i := 0) rfl h) (isi_cls (i := 11) rfl h) (isi_cls (i := 18) rfl h)) (Nat.le_of_ble_eq_true rfl)
  obtain ⟨p2, s2, e2, g2, h2⟩ := gr_cat (cs := tx.rt n) (i := 2) (j := 2) (env := [some (.exo c ns xs), some (.int p), some (.ref p1), none, none]) rfl h1 (evs3 (isi_ty (t := "ValueError") (by decide +kernel) rfl h) (isi_ty (t := "LookupError") (by decide +kernel) rfl h) (isi_ty (t := "ArithmeticError") (by decide +kernel) rfl h)) (Nat.le_of_ble_eq_true rfl)
  have e3 : Mn.ex (tx.rt n) (.set 3 (.bin .Add (.blt .int (.cons (.cmp .Gt (.v 1) (.k (.int 9))) .nil)) (.blt .int (.cons (.cmp .Gt (.v 1) (.k (.int 15))) .nil)))) [some (.exo c ns xs), some (.int p), some (.ref p2), none, none] s2 = RS.nx [some (.exo c ns xs), some (.int p), some (.ref p2), some (.int (atP p)), none] s2 := rfl
  obtain ⟨l, e4⟩ := sLc_gen (it := evI (tx.rt n) (.r1 (.k (.int 6)))) (own := [4]) (g := evG (tx.rt n) (.v 4)) (c := evT (tx.rt n) .yes) (e := ev (tx.rt n) (.cmp .In (.v 4) (.tup (.cons (.v 3) (.cons (.bin .Add (.v 3) (.k (.int 3))) .nil)))))
    (env := [some (.exo c ns xs), some (.int p), some (.ref p2), some (.int (atP p)), none]) (st := s2) (s := .rng 0 6) (ys := (upList c).map MV.bl) rfl rfl (Nat.le_of_ble_eq_true rfl)
    (fun i hi acc l => ⟨.int i, .bl (inV (.int (i : Nat)) [.int (atP p), .int (atP p + 3)]), [some (.exo c ns xs), some (.int p), some (.ref p2), some (.int (atP p)), some (.int i)], [], by
      have hi' : i < 6 := hi
      rw [hL, List.getElem?_map, List.getElem?_map, List.getElem?_range hi']
      rfl, go_rng _ hi, rfl, rfl, by
      rw [List.append_nil]
      rfl⟩) (fun l => end_rng 6 _)
  have e5 : ev (tx.rt n) (.cmp .Eq (.v 2) (.lc [4] (.v 4) (.r1 (.k (.int 6))) .yes (.cmp .In (.v 4) (.tup (.cons (.v 3) (.cons (.bin .Add (.v 3) (.k (.int 3))) .nil)))))) [some (.exo c ns xs), some (.int p), some (.ref p2), some (.int (atP p)), none] s2 = .ok (.bl true) (s2 ++ .lst ((upList c).map MV.bl) :: l) := by
    show (sLc _ _ _ _ _ _ s2).bind _ = _
    rw [e4]
    show bR _ (eqD _ (.ref p2) (.ref s2.length)) = _
    rw [eqD_bls (l := upList c) (gxo _ h2) (gx0 _ _ _) (by
      rw [show SeqAt.shaped (.list ((upList c).map PyData.bool)) = true from rfl])]
    rfl
  refine ⟨s2 ++ .lst ((upList c).map MV.bl) :: l, run_s n 7 _ st rfl ?_, (g1.trans g2).trans ⟨_, rfl⟩⟩
  exact (exs_cons e1).trans ((exs_cons e2).trans ((exs_cons e3).trans (exs_ret (ex_ret _ e5))))
def chk (k : Nat) : Bool := (fldC cl (order.getD k 0)).isSome && decide (upList (order.getD k 0) = (List.range 6).map fun j => inV (.int (j : Nat)) [.int (atP k), .int (atP k + 3)]) && decide (marksL (order.getD k 0) = (List.range 18).map fun j => decide (j = k))
theorem chk_all : (List.range 18).all chk = true := by decide +kernel
end K10
open PySem PySem.Spec PyProof.Rows L2 Mn
namespace K10
def two (v : MV) : List MV := [v, v]
def A1 (o : MV) : List MV := [.exo 1 ["value"] [o], .exo 1 ["value"] [o], .exo 2 ["value"] [o], .exo 2 ["value"] [o]]
def A2 (o : MV) : List MV := [.exo 5 ["value"] [o], .exo 5 ["value"] [o], .exo 8 ["value"] [o], .exo 8 ["value"] [o]]
def A3 (o : MV) : List MV := [.exo 9 ["value"] [o], .exo 9 ["value"] [o], .exo 10 ["value"] [o], .exo 10 ["value"] [o]]
def A4 (x y z : MV) : List MV := [.exo 3 ["problem", "position", "earlier"] [x, y, z]]
def A5 (s : MV) : List MV := [.exo 4 ["position"] [s], .exo 4 ["position"] [s], .exo 7 ["position"] [s], .exo 7 ["position"] [s]]
def A6 (x : MV) : List MV := [.exo 6 ["problem"] [x], .exo 6 ["problem"] [x]]
def X1 (o x y z s : MV) : List MV := (((((A1 o ++ A2 o) ++ A3 o) ++ A4 x y z) ++ A4 x y z) ++ A5 s) ++ A6 x
theorem first (n : Nat) (o x y z v s r : MV) (st : Store) : ∃ p st', tx.run (n + 1) 4 [.tup [o, .tup [x, y, z], v, s, r]] st = .ok (.ref p) st' ∧ Gr st st' ∧ st'[p]? = some (.lst (X1 o x y z s)) := by
  let P : MV := .tup [o, .tup [x, y, z], v, s, r]
  have e0 : Mn.ex (tx.rt n) (.asg (.v 0) (.tup 5 (.cons (.v 1) (.cons (.v 2) (.cons (.v 3) (.cons (.v 4) (.cons (.v 5) .nil))))))) [some P, none, none, none, none, none, none] st = RS.nx [some P, some o, some (.tup [x, y, z]), some v, some s, some r, none] st := rfl
  obtain ⟨p1, s1, e1, g1, h1⟩ := gr_lst (cs := tx.rt n) (i := 6) (env := [some P, some o, some (.tup [x, y, z]), some v, some s, some r, none]) (st := st) (es := .cons (.mkx 1 [0] (.cons (.v 1) .nil) .nil) (.cons (.mkx 1 [0] .nil (.cons (.v 1) .nil)) (.cons (.mkx 2 [0] (.cons (.v 1) .nil) .nil) (.cons (.mkx 2 [0] .nil (.cons (.v 1) .nil)) .nil)))) (B := A1 o) rfl (Nat.le_of_ble_eq_true rfl)
  obtain ⟨p2, s2, e2, g2, h2⟩ := gr_cat (cs := tx.rt n) (i := 6) (j := 6) (env := [some P, some o, some (.tup [x, y, z]), some v, some s, some r, some (.ref p1)]) (es := .cons (.mkx 5 [0] (.cons (.v 1) .nil) .nil) (.cons (.mkx 5 [0] .nil (.cons (.v 1) .nil)) (.cons (.mkx 8 [0] (.cons (.v 1) .nil) .nil) (.cons (.mkx 8 [0] .nil (.cons (.v 1) .nil)) .nil)))) (B := A2 o) rfl h1 rfl (Nat.le_of_ble_eq_true rfl)
  obtain ⟨p3, s3, e3, g3, h3⟩ := gr_cat (cs := tx.rt n) (i := 6) (j := 6) (env := [some P, some o, some (.tup [x, y, z]), some v, some s, some r, some (.ref p2)]) (es := .cons (.mkx 9 [0] (.cons (.v 1) .nil) .nil) (.cons (.mkx 9 [0] .nil (.cons (.v 1) .nil)) (.cons (.mkx 10 [0] (.cons (.v 1) .nil) .nil) (.cons (.mkx 10 [0] .nil (.cons (.v 1) .nil)) .nil)))) (B := A3 o) rfl h2 rfl (Nat.le_of_ble_eq_true rfl)
  obtain ⟨p4, s4, e4, g4, h4⟩ := gr_cat (cs := tx.rt n) (i := 6) (j := 6) (env := [some P, some o, some (.tup [x, y, z]), some v, some s, some r, some (.ref p3)]) (es := .cons (.mkx 3 [0, 1, 2] (.cons (.ix (.v 2) (.k (.int 0))) (.cons (.ix (.v 2) (.k (.int 1))) (.cons (.ix (.v 2) (.k (.int 2))) .nil))) .nil) .nil) (B := A4 x y z) rfl h3 rfl (Nat.le_of_ble_eq_true rfl)
  obtain ⟨p5, s5, e5, g5, h5⟩ := gr_cat (cs := tx.rt n) (i := 6) (j := 6) (env := [some P, some o, some (.tup [x, y, z]), some v, some s, some r, some (.ref p4)]) (es := .cons (.mkx 3 [1, 2, 0] .nil (.cons (.ix (.v 2) (.k (.int 2))) (.cons (.ix (.v 2) (.k (.int 0))) (.cons (.ix (.v 2) (.k (.int 1))) .nil)))) .nil) (B := A4 x y z) rfl h4 rfl (Nat.le_of_ble_eq_true rfl)
  obtain ⟨p6, s6, e6, g6, h6⟩ := gr_cat (cs := tx.rt n) (i := 6) (j := 6) (env := [some P, some o, some (.tup [x, y, z]), some v, some s, some r, some (.ref p5)]) (es := .cons (.mkx 4 [0] (.cons (.v 4) .nil) .nil) (.cons (.mkx 4 [0] .nil (.cons (.v 4) .nil)) (.cons (.mkx 7 [0] (.cons (.v 4) .nil) .nil) (.cons (.mkx 7 [0] .nil (.cons (.v 4) .nil)) .nil)))) (B := A5 s) rfl h5 rfl (Nat.le_of_ble_eq_true rfl)
  obtain ⟨p7, s7, e7, g7, h7⟩ := gr_ev_cat (cs := tx.rt n) (j := 6) (env := [some P, some o, some (.tup [x, y, z]), some v, some s, some r, some (.ref p6)]) (es := .cons (.mkx 6 [0] (.cons (.ix (.v 2) (.k (.int 0))) .nil) .nil) (.cons (.mkx 6 [0] .nil (.cons (.ix (.v 2) (.k (.int 0))) .nil)) .nil)) (B := A6 x) rfl h6 rfl (Nat.le_of_ble_eq_true rfl)
  refine ⟨p7, s7, run_s n 4 _ st rfl ?_, (((((g1.trans g2).trans g3).trans g4).trans g5).trans g6).trans g7, h7⟩
  exact (exs_cons e0).trans ((exs_cons e1).trans ((exs_cons e2).trans ((exs_cons e3).trans ((exs_cons e4).trans ((exs_cons e5).trans ((exs_cons e6).trans (exs_ret (ex_ret _ e7))))))))
def B1 (v s r : MV) : List MV := [.exo 12 ["key", "number"] [v, r], .exo 12 ["key", "number"] [v, r], .exo 14 ["key", "many"] [v, s], .exo 14 ["key", "many"] [v, s]]
def B2 (v s : MV) : List MV := [.exo 13 ["found"] [.tup [.str "speed", v, s, .int 0]], .exo 13 ["found"] [.tup [.str "speed", v, s, .int 0]]]
def B3 (o r : MV) : List MV := [.exo 15 ["excess"] [r], .exo 15 ["excess"] [r], .exo 16 ["name"] [o], .exo 16 ["name"] [o], .exo 17 [] []]
def B4 (s : MV) : List MV := [.exo 17 [] [], .exo 19 ["multiple"] [s], .exo 19 ["multiple"] [s], .exo 20 ["many"] [s], .exo 20 ["many"] [s]]
def X2 (o v s r : MV) : List MV := ((B1 v s r ++ B2 v s) ++ B3 o r) ++ B4 s
theorem second (n : Nat) (o t v s r : MV) (st : Store) : ∃ p st', tx.run (n + 1) 5 [.tup [o, t, v, s, r]] st = .ok (.ref p) st' ∧ Gr st st' ∧ st'[p]? = some (.lst (X2 o v s r)) := by
  let P : MV := .tup [o, t, v, s, r]
  have e0 : Mn.ex (tx.rt n) (.asg (.v 0) (.tup 5 (.cons (.v 1) (.cons (.v 2) (.cons (.v 3) (.cons (.v 4) (.cons (.v 5) .nil))))))) [some P, none, none, none, none, none, none] st = RS.nx [some P, some o, some t, some v, some s, some r, none] st := rfl
  obtain ⟨p1, s1, e1, g1, h1⟩ := gr_lst (cs := tx.rt n) (i := 6) (env := [some P, some o, some t, some v, some s, some r, none]) (st := st) (es := .cons (.mkx 12 [0, 1] (.cons (.v 3) (.cons (.v 5) .nil)) .nil) (.cons (.mkx 12 [1, 0] .nil (.cons (.v 5) (.cons (.v 3) .nil))) (.cons (.mkx 14 [0, 1] (.cons (.v 3) (.cons (.v 4) .nil)) .nil) (.cons (.mkx 14 [1, 0] .nil (.cons (.v 4) (.cons (.v 3) .nil))) .nil)))) (B := B1 v s r) rfl (Nat.le_of_ble_eq_true rfl)
  obtain ⟨p2, s2, e2, g2, h2⟩ := gr_cat (cs := tx.rt n) (i := 6) (j := 6) (env := [some P, some o, some t, some v, some s, some r, some (.ref p1)]) (es := .cons (.mkx 13 [0] (.cons (.tup (.cons (.k (.str ("speed" : Str))) (.cons (.v 3) (.cons (.v 4) (.cons (.k (.int 0)) .nil))))) .nil) .nil) (.cons (.mkx 13 [0] .nil (.cons (.tup (.cons (.k (.str ("speed" : Str))) (.cons (.v 3) (.cons (.v 4) (.cons (.k (.int 0)) .nil))))) .nil)) .nil)) (B := B2 v s) rfl h1 rfl (Nat.le_of_ble_eq_true rfl)
  obtain ⟨p3, s3, e3, g3, h3⟩ := gr_cat (cs := tx.rt n) (i := 6) (j := 6) (env := [some P, some o, some t, some v, some s, some r, some (.ref p2)]) (es := .cons (.mkx 15 [0] (.cons (.v 5) .nil) .nil) (.cons (.mkx 15 [0] .nil (.cons (.v 5) .nil)) (.cons (.mkx 16 [0] (.cons (.v 1) .nil) .nil) (.cons (.mkx 16 [0] .nil (.cons (.v 1) .nil)) (.cons (.mkx 17 [] .nil .nil) .nil))))) (B := B3 o r) rfl h2 rfl (Nat.le_of_ble_eq_true rfl)
  obtain ⟨p4, s4, e4, g4, h4⟩ := gr_ev_cat (cs := tx.rt n) (j := 6) (env := [some P, some o, some t, some v, some s, some r, some (.ref p3)]) (es := .cons (.mkx 17 [] .nil .nil) (.cons (.mkx 19 [0] (.cons (.v 4) .nil) .nil) (.cons (.mkx 19 [0] .nil (.cons (.v 4) .nil)) (.cons (.mkx 20 [0] (.cons (.v 4) .nil) .nil) (.cons (.mkx 20 [0] .nil (.cons (.v 4) .nil)) .nil))))) (B := B4 s) rfl h3 rfl (Nat.le_of_ble_eq_true rfl)
  refine ⟨p4, s4, run_s n 5 _ st rfl ?_, ((g1.trans g2).trans g3).trans g4, h4⟩
  exact (exs_cons e0).trans ((exs_cons e1).trans ((exs_cons e2).trans ((exs_cons e3).trans (exs_ret (ex_ret _ e4)))))
end K10
open PySem PySem.Spec PyProof.Rows L2 Mn
namespace K10
/-- what x is as data, here and later -/
def Dt (st : Store) (x : MV) (d : PyData) : Prop := okD d = true ∧ ∀ S, Gr st S → dat S 39 x = some d ∧ dat S DF x = some d
theorem Dt.gr {st S : Store} {x : MV} {d : PyData} (h : Dt st x d) (g : Gr st S) : Dt S x d := ⟨h.1, fun S' g' => h.2 S' (g.trans g')⟩
theorem Dt.at_ {st S : Store} {x : MV} {d : PyData} (h : Dt st x d) (g : Gr st S) : dat S DF x = some d := (h.2 S g).2
theorem Dt.at9 {st S : Store} {x : MV} {d : PyData} (h : Dt st x d) (g : Gr st S) : dat S 39 x = some d := (h.2 S g).1
theorem dat3 {S : Store} {q : Nat} {x y z : MV} {dx dy dz : PyData} (h : S[q]? = some (.lst [x, y, z])) (hx : dat S 39 x = some dx) (hy : dat S 39 y = some dy) (hz : dat S 39 z = some dz) : dat S DF (.ref q) = some (.list [dx, dy, dz]) :=
  dat_lst (n := 39) h (by simp only [mapO, hx, hy, hz])
theorem first_right (n p : Nat) (o x y z v s r : MV) (st : Store) {dO dx dy dz ds : PyData} (hp : st[p]? = some (.lst (X1 o x y z s))) (ho : Dt st o dO) (hx : Dt st x dx) (hy : Dt st y dy) (hz : Dt st z dz) (hs : Dt st s ds) (ok3 : okD (.list [dx, dy, dz]) = true) :
    ∃ st', tx.run (n + 1) 8 [.ref p, .tup [o, .tup [x, y, z], v, s, r]] st = .ok (.bl true) st' ∧ Gr st st' := by
  let P : MV := .tup [o, .tup [x, y, z], v, s, r]
  let env : Mn.Env := [some (.ref p), some P, some o, some (.tup [x, y, z]), some v, some s, some r, none]
  have e0 : Mn.ex (tx.rt n) (.asg (.v 1) (.tup 5 (.cons (.v 2) (.cons (.v 3) (.cons (.v 4) (.cons (.v 5) (.cons (.v 6) .nil))))))) [some (.ref p), some P, none, none, none, none, none, none] st = RS.nx env st := rfl
  obtain ⟨s1, e1, g1⟩ := all_sl (cs := tx.rt n) (j := 0) (v := 7) (lo := .no) (hi := .so (.k (.int 12))) (lo' := none) (hi' := some 12) (e := .cmp .Eq (.blt .repr (.cons (.fld (.v 7) ("value" : Str)) .nil)) (.blt .repr (.cons (.v 2) .nil))) (env := env) (ys := (A1 o ++ A2 o) ++ A3 o) rfl hp (fun _ => rfl) (fun _ => rfl) rfl (Nat.le_of_ble_eq_true rfl) (fun w hw S g => by
    have h1 : ev (tx.rt n) (.fld (.v 7) ("value" : Str)) ((wipeE env [7]).set 7 (some w)) S = .ok o S := by
      simp only [A1, A2, A3, List.cons_append, List.nil_append, List.mem_cons, List.not_mem_nil, or_false] at hw
      rcases hw with rfl | rfl | rfl | rfl | rfl | rfl | rfl | rfl | rfl | rfl | rfl | rfl <;> rfl
    exact ⟨S, eq_repr h1 (b := .v 2) rfl (ho.at_ g) (ho.at_ g) ho.1, Gr.refl⟩)
  obtain ⟨s2, e2, g2⟩ := all_sl (cs := tx.rt n) (j := 0) (v := 7) (lo := .so (.k (.int 12))) (hi := .so (.k (.int 14))) (lo' := some 12) (hi' := some 14) (e := .cmp .Eq (.blt .repr (.cons (.lst (.cons (.fld (.v 7) ("problem" : Str)) (.cons (.fld (.v 7) ("position" : Str)) (.cons (.fld (.v 7) ("earlier" : Str)) .nil)))) .nil)) (.blt .repr (.cons (.blt .list (.cons (.v 3) .nil)) .nil)))
    (env := env) (ys := A4 x y z ++ A4 x y z) rfl (g1.get hp) (fun _ => rfl) (fun _ => rfl) rfl (Nat.le_of_ble_eq_true rfl) (fun w hw S g => by
    have g' := g1.trans g
    have h1 : evs (tx.rt n) (.cons (.fld (.v 7) ("problem" : Str)) (.cons (.fld (.v 7) ("position" : Str)) (.cons (.fld (.v 7) ("earlier" : Str)) .nil))) ((wipeE env [7]).set 7 (some w)) S = .ok [x, y, z] S := by
      simp only [A4, List.cons_append, List.nil_append, List.mem_cons, List.not_mem_nil, or_false] at hw
      rcases hw with rfl | rfl <;> rfl
    obtain ⟨q1, t1, h2, g3, h3⟩ := gr_ev_lst h1 (Nat.le_of_ble_eq_true rfl)
    have h4 : ev (tx.rt n) (.blt .list (.cons (.v 3) .nil)) ((wipeE env [7]).set 7 (some w)) t1 = .ok (.ref t1.length) (t1 ++ [.lst [x, y, z]]) := rfl
    have g4 : Gr t1 (t1 ++ [.lst [x, y, z]]) := ⟨_, rfl⟩
    have ga := g'.trans g3
    have gb := ga.trans g4
    exact ⟨_, eq_repr h2 h4 (dat3 h3 (hx.at9 ga) (hy.at9 ga) (hz.at9 ga)) (dat3 (gx0 _ _ _) (hx.at9 gb) (hy.at9 gb) (hz.at9 gb)) ok3, g3.trans g4⟩)
  have g12 := g1.trans g2
  obtain ⟨s3, e3, g3⟩ := all_sl (cs := tx.rt n) (j := 0) (v := 7) (lo := .so (.k (.int 14))) (hi := .so (.k (.int 18))) (lo' := some 14) (hi' := some 18) (e := .cmp .Eq (.blt .repr (.cons (.fld (.v 7) ("position" : Str)) .nil)) (.blt .repr (.cons (.v 5) .nil))) (env := env) (ys := A5 s) rfl (g12.get hp) (fun _ => rfl) (fun _ => rfl) rfl (Nat.le_of_ble_eq_true rfl) (fun w hw S g => by
    have h1 : ev (tx.rt n) (.fld (.v 7) ("position" : Str)) ((wipeE env [7]).set 7 (some w)) S = .ok s S := by
      simp only [A5, List.mem_cons, List.not_mem_nil, or_false] at hw
      rcases hw with rfl | rfl | rfl | rfl <;> rfl
    exact ⟨S, eq_repr h1 (b := .v 5) rfl (hs.at_ (g12.trans g)) (hs.at_ (g12.trans g)) hs.1, Gr.refl⟩)
  have g13 := g12.trans g3
  obtain ⟨s4, e4, g4⟩ := all_sl (cs := tx.rt n) (j := 0) (v := 7) (lo := .so (.k (.int 18))) (hi := .no) (lo' := some 18) (hi' := none) (e := .cmp .Eq (.blt .repr (.cons (.fld (.v 7) ("problem" : Str)) .nil)) (.blt .repr (.cons (.ix (.v 3) (.k (.int 0))) .nil))) (env := env) (ys := A6 x) rfl (g13.get hp) (fun _ => rfl) (fun _ => rfl) rfl (Nat.le_of_ble_eq_true rfl) (fun w hw S g => by
    have h1 : ev (tx.rt n) (.fld (.v 7) ("problem" : Str)) ((wipeE env [7]).set 7 (some w)) S = .ok x S := by
      simp only [A6, List.mem_cons, List.not_mem_nil, or_false] at hw
      rcases hw with rfl | rfl <;> rfl
    exact ⟨S, eq_repr h1 (b := .ix (.v 3) (.k (.int 0))) rfl (hx.at_ (g13.trans g)) (hx.at_ (g13.trans g)) hx.1, Gr.refl⟩)
  refine ⟨s4, run_s n 8 _ st rfl ?_, g13.trans g4⟩
  exact (exs_cons e0).trans ((exs_cons (if_not e1)).trans ((exs_cons (if_not e2)).trans ((exs_cons (if_not e3)).trans (exs_ret (ex_ret _ e4)))))
end K10
open PySem PySem.Spec PyProof.Rows L2 Mn
namespace K10
theorem dat2 {S : Store} {q : Nat} {x y : MV} {dx dy : PyData} (h : S[q]? = some (.lst [x, y])) (hx : dat S 39 x = some dx) (hy : dat S 39 y = some dy) : dat S DF (.ref q) = some (.list [dx, dy]) :=
  dat_lst (n := 39) h (by simp only [mapO, hx, hy])
theorem datT {S : Store} {v s : MV} {dv ds : PyData} (hv : dat S 39 v = some dv) (hs : dat S 39 s = some ds) : dat S DF (.tup [.str "speed", v, s, .int 0]) = some (.tuple [.str "speed", dv, ds, .int 0]) := by
  show (mapO (dat S 39) [.str "speed", v, s, .int 0]).map PyData.tuple = _
  have e1 : dat S 39 (.str "speed") = some (.str "speed") := rfl
  have e2 : dat S 39 (.int 0) = some (.int 0) := rfl
  simp only [mapO, hv, hs, e1, e2]
  rfl
theorem second_right (n p : Nat) (o t v s r : MV) (st : Store) {dO dv ds dr : PyData} (hp : st[p]? = some (.lst (X2 o v s r))) (ho : Dt st o dO) (hv : Dt st v dv) (hs : Dt st s ds) (hr : Dt st r dr) (ok1 : okD (.list [dv, dr]) = true) (ok2 : okD (.list [dv, ds]) = true) (ok3 : okD (.tuple [.str "speed", dv, ds, .int 0]) = true) :
    ∃ st', tx.run (n + 1) 9 [.ref p, .tup [o, t, v, s, r]] st = .ok (.bl true) st' ∧ Gr st st' := by
  let P : MV := .tup [o, t, v, s, r]
  let env : Mn.Env := [some (.ref p), some P, some o, some t, some v, some s, some r, none]
  have e0 : Mn.ex (tx.rt n) (.asg (.v 1) (.tup 5 (.cons (.v 2) (.cons (.v 3) (.cons (.v 4) (.cons (.v 5) (.cons (.v 6) .nil))))))) [some (.ref p), some P, none, none, none, none, none, none] st = RS.nx env st := rfl
  obtain ⟨s1, e1, g1⟩ := all_sl (cs := tx.rt n) (j := 0) (v := 7) (lo := .no) (hi := .so (.k (.int 2))) (lo' := none) (hi' := some 2) (e := .cmp .Eq (.blt .repr (.cons (.lst (.cons (.fld (.v 7) ("key" : Str)) (.cons (.fld (.v 7) ("number" : Str)) .nil))) .nil)) (.blt .repr (.cons (.lst (.cons (.v 4) (.cons (.v 6) .nil))) .nil)))
    (env := env) (ys := [.exo 12 ["key", "number"] [v, r], .exo 12 ["key", "number"] [v, r]]) rfl hp (fun _ => rfl) (fun _ => rfl) rfl (Nat.le_of_ble_eq_true rfl) (fun w hw S g => by
    have h1 : evs (tx.rt n) (.cons (.fld (.v 7) ("key" : Str)) (.cons (.fld (.v 7) ("number" : Str)) .nil)) ((wipeE env [7]).set 7 (some w)) S = .ok [v, r] S := by
      simp only [List.mem_cons, List.not_mem_nil, or_false] at hw
      rcases hw with rfl | rfl <;> rfl
    obtain ⟨q1, t1, h2, g3, h3⟩ := gr_ev_lst h1 (Nat.le_of_ble_eq_true rfl)
    obtain ⟨q2, t2, h4, g4, h5⟩ := gr_ev_lst (cs := tx.rt n) (es := .cons (.v 4) (.cons (.v 6) .nil)) (env := (wipeE env [7]).set 7 (some w)) (st := t1) (B := [v, r]) rfl (Nat.le_of_ble_eq_true rfl)
    have ga := g.trans g3
    have gb := ga.trans g4
    exact ⟨_, eq_repr h2 h4 (dat2 h3 (hv.at9 ga) (hr.at9 ga)) (dat2 h5 (hv.at9 gb) (hr.at9 gb)) ok1, g3.trans g4⟩)
  obtain ⟨s2, e2, g2⟩ := all_sl (cs := tx.rt n) (j := 0) (v := 7) (lo := .so (.k (.int 2))) (hi := .so (.k (.int 4))) (lo' := some 2) (hi' := some 4) (e := .cmp .Eq (.blt .repr (.cons (.lst (.cons (.fld (.v 7) ("key" : Str)) (.cons (.fld (.v 7) ("many" : Str)) .nil))) .nil)) (.blt .repr (.cons (.lst (.cons (.v 4) (.cons (.v 5) .nil))) .nil)))
    (env := env) (ys := [.exo 14 ["key", "many"] [v, s], .exo 14 ["key", "many"] [v, s]]) rfl (g1.get hp) (fun _ => rfl) (fun _ => rfl) rfl (Nat.le_of_ble_eq_true rfl) (fun w hw S g => by
    have g' := g1.trans g
    have h1 : evs (tx.rt n) (.cons (.fld (.v 7) ("key" : Str)) (.cons (.fld (.v 7) ("many" : Str)) .nil)) ((wipeE env [7]).set 7 (some w)) S = .ok [v, s] S := by
      simp only [List.mem_cons, List.not_mem_nil, or_false] at hw
      rcases hw with rfl | rfl <;> rfl
    obtain ⟨q1, t1, h2, g3, h3⟩ := gr_ev_lst h1 (Nat.le_of_ble_eq_true rfl)
    obtain ⟨q2, t2, h4, g4, h5⟩ := gr_ev_lst (cs := tx.rt n) (es := .cons (.v 4) (.cons (.v 5) .nil)) (env := (wipeE env [7]).set 7 (some w)) (st := t1) (B := [v, s]) rfl (Nat.le_of_ble_eq_true rfl)
    have ga := g'.trans g3
    have gb := ga.trans g4
    exact ⟨_, eq_repr h2 h4 (dat2 h3 (hv.at9 ga) (hs.at9 ga)) (dat2 h5 (hv.at9 gb) (hs.at9 gb)) ok2, g3.trans g4⟩)
  have g12 := g1.trans g2
  obtain ⟨s3, e3, g3⟩ := all_sl (cs := tx.rt n) (j := 0) (v := 7) (lo := .so (.k (.int 4))) (hi := .so (.k (.int 6))) (lo' := some 4) (hi' := some 6) (e := .cmp .Eq (.blt .repr (.cons (.fld (.v 7) ("found" : Str)) .nil)) (.blt .repr (.cons (.tup (.cons (.k (.str ("speed" : Str))) (.cons (.v 4) (.cons (.v 5) (.cons (.k (.int 0)) .nil))))) .nil)))
    (env := env) (ys := B2 v s) rfl (g12.get hp) (fun _ => rfl) (fun _ => rfl) rfl (Nat.le_of_ble_eq_true rfl) (fun w hw S g => by
    have h1 : ev (tx.rt n) (.fld (.v 7) ("found" : Str)) ((wipeE env [7]).set 7 (some w)) S = .ok (.tup [.str "speed", v, s, .int 0]) S := by
      simp only [B2, List.mem_cons, List.not_mem_nil, or_false] at hw
      rcases hw with rfl | rfl <;> rfl
    have ga := g12.trans g
    exact ⟨S, eq_repr h1 (b := .tup (.cons (.k (.str ("speed" : Str))) (.cons (.v 4) (.cons (.v 5) (.cons (.k (.int 0)) .nil))))) (y := .tup [.str "speed", v, s, .int 0]) rfl (datT (hv.at9 ga) (hs.at9 ga)) (datT (hv.at9 ga) (hs.at9 ga)) ok3, Gr.refl⟩)
  have g13 := g12.trans g3
  obtain ⟨s4, e4, g4⟩ := all_sl (cs := tx.rt n) (j := 0) (v := 7) (lo := .so (.k (.int 6))) (hi := .so (.k (.int 8))) (lo' := some 6) (hi' := some 8) (e := .cmp .Eq (.blt .repr (.cons (.fld (.v 7) ("excess" : Str)) .nil)) (.blt .repr (.cons (.v 6) .nil))) (env := env) (ys := [.exo 15 ["excess"] [r], .exo 15 ["excess"] [r]]) rfl (g13.get hp) (fun _ => rfl) (fun _ => rfl) rfl (Nat.le_of_ble_eq_true rfl) (fun w hw S g => by
    have h1 : ev (tx.rt n) (.fld (.v 7) ("excess" : Str)) ((wipeE env [7]).set 7 (some w)) S = .ok r S := by
      simp only [List.mem_cons, List.not_mem_nil, or_false] at hw
      rcases hw with rfl | rfl <;> rfl
    exact ⟨S, eq_repr h1 (b := .v 6) rfl (hr.at_ (g13.trans g)) (hr.at_ (g13.trans g)) hr.1, Gr.refl⟩)
  have g14 := g13.trans g4
  obtain ⟨s5, e5, g5⟩ := all_sl (cs := tx.rt n) (j := 0) (v := 7) (lo := .so (.k (.int 8))) (hi := .so (.k (.int 10))) (lo' := some 8) (hi' := some 10) (e := .cmp .Eq (.blt .repr (.cons (.fld (.v 7) ("name" : Str)) .nil)) (.blt .repr (.cons (.v 2) .nil))) (env := env) (ys := [.exo 16 ["name"] [o], .exo 16 ["name"] [o]]) rfl (g14.get hp) (fun _ => rfl) (fun _ => rfl) rfl (Nat.le_of_ble_eq_true rfl) (fun w hw S g => by
    have h1 : ev (tx.rt n) (.fld (.v 7) ("name" : Str)) ((wipeE env [7]).set 7 (some w)) S = .ok o S := by
      simp only [List.mem_cons, List.not_mem_nil, or_false] at hw
      rcases hw with rfl | rfl <;> rfl
    exact ⟨S, eq_repr h1 (b := .v 2) rfl (ho.at_ (g14.trans g)) (ho.at_ (g14.trans g)) ho.1, Gr.refl⟩)
  have g15 := g14.trans g5
  obtain ⟨s6, e6, g6⟩ := all_sl (cs := tx.rt n) (j := 0) (v := 7) (lo := .so (.k (.int 12))) (hi := .so (.k (.int 14))) (lo' := some 12) (hi' := some 14) (e := .cmp .Eq (.blt .repr (.cons (.fld (.v 7) ("multiple" : Str)) .nil)) (.blt .repr (.cons (.v 5) .nil))) (env := env) (ys := [.exo 19 ["multiple"] [s], .exo 19 ["multiple"] [s]]) rfl (g15.get hp) (fun _ => rfl) (fun _ => rfl) rfl (Nat.le_of_ble_eq_true rfl) (fun w hw S g => by
    have h1 : ev (tx.rt n) (.fld (.v 7) ("multiple" : Str)) ((wipeE env [7]).set 7 (some w)) S = .ok s S := by
      simp only [List.mem_cons, List.not_mem_nil, or_false] at hw
      rcases hw with rfl | rfl <;> rfl
    exact ⟨S, eq_repr h1 (b := .v 5) rfl (hs.at_ (g15.trans g)) (hs.at_ (g15.trans g)) hs.1, Gr.refl⟩)
  have g16 := g15.trans g6
  obtain ⟨s7, e7, g7⟩ := all_sl (cs := tx.rt n) (j := 0) (v := 7) (lo := .so (.k (.int 14))) (hi := .no) (lo' := some 14) (hi' := none) (e := .cmp .Eq (.blt .repr (.cons (.fld (.v 7) ("many" : Str)) .nil)) (.blt .repr (.cons (.v 5) .nil))) (env := env) (ys := [.exo 20 ["many"] [s], .exo 20 ["many"] [s]]) rfl (g16.get hp) (fun _ => rfl) (fun _ => rfl) rfl (Nat.le_of_ble_eq_true rfl) (fun w hw S g => by
    have h1 : ev (tx.rt n) (.fld (.v 7) ("many" : Str)) ((wipeE env [7]).set 7 (some w)) S = .ok s S := by
      simp only [List.mem_cons, List.not_mem_nil, or_false] at hw
      rcases hw with rfl | rfl <;> rfl
    exact ⟨S, eq_repr h1 (b := .v 5) rfl (hs.at_ (g16.trans g)) (hs.at_ (g16.trans g)) hs.1, Gr.refl⟩)
  refine ⟨s7, run_s n 9 _ st rfl ?_, g16.trans g7⟩
  exact (exs_cons e0).trans ((exs_cons (if_not e1)).trans ((exs_cons (if_not e2)).trans ((exs_cons (if_not e3)).trans ((exs_cons (if_not e4)).trans ((exs_cons (if_not e5)).trans ((exs_cons (if_not e6)).trans (exs_ret (ex_ret _ e7))))))))
end K10
open PySem PySem.Spec PyProof.Rows L2 Mn
namespace K10
theorem log2_lt {a : Int} (h0 : 0 ≤ a) (h : a < 2 ^ 40) : a.natAbs.log2 < 40 := by
  rcases Nat.eq_zero_or_pos a.natAbs with e | e
  · rw [e]; decide
  · exact (Nat.log2_lt (by omega)).mpr (by omega)
theorem draw (n k : Nat) (a b m : Int) (st : Store) (h : st[k]? = some (.lst [.int a, .int b])) (ha : 0 ≤ a) (hb : 0 ≤ b) (hb2 : b ≤ 2147483629) (hm : 0 < m) (hm2 : m ≤ 1000000) :
    ∃ d a' b' : Int, tx.run (n + 1) 1 [.ref k, .int m] st = .ok (.int d) (st.set k (.lst [.int a', .int b'])) ∧ 0 ≤ a' ∧ 0 ≤ b' ∧ b' ≤ 2147483629 ∧ 0 ≤ d ∧ d < m := by
  have hk : k < st.length := (List.getElem?_eq_some_iff.mp h).1
  have h0 : mIx st (.ref k) (.int 0) = .ok (.int a) st := ix_lst h rfl
  have h1 : mIx st (.ref k) (.int 1) = .ok (.int b) st := ix_lst h rfl
  have hl : m.natAbs.log2 < 9000 := Nat.lt_trans (log2_lt (by omega) (by omega)) (by omega)
  by_cases hp : 0 < a
  · refine ⟨a % m, a / m, b, ?_, Int.ediv_nonneg (by omega) (by omega), hb, hb2, Int.emod_nonneg _ (by omega), Int.emod_lt_of_pos _ hm⟩
    show bodyC 2 3 (exs (tx.rt n) km1) [.ref k, .int m] st = _
    have hs : mSet st (.ref k) (.int 0) (.int (a / m)) = .ok () (st.set k (.lst [.int (a / m), .int b])) := set_lst (j := 0) h rfl
    simp only [km1, bodyC, exs, Mn.ex, ev, evs, evT, evG, evGs, qSeq, qIf, qAsg, qRet, qNext, RS.of, R.bind, startE, sT, s2, sV, sK, sA, sCons, sNil, gT, gC, gN, gV, gI, retOf,
      List.length_cons, List.length_nil, List.map_cons, List.map_nil, List.cons_append, List.nil_append, List.replicate, List.getElem?_cons_zero, List.getElem?_cons_succ, if_true, h0, mCmp, mBin, hp, decide_true, tru, mB, hm, hl, and_self, seqT, hs, List.set]
  · have a0 : a = 0 := by omega
    subst a0
    let b' : Int := (b * 48271 + 20011) % 2147483629
    have hb' : 0 ≤ b' := Int.emod_nonneg _ (by omega)
    have hb2' : b' < 2147483629 := Int.emod_lt_of_pos _ (by omega)
    let st1 : Store := st.set k (.lst [.int 0, .int b'])
    have g1 : st1[k]? = some (.lst [.int 0, .int b']) := List.getElem?_set_self hk
    have h2 : mIx st1 (.ref k) (.int 1) = .ok (.int b') st1 := ix_lst g1 rfl
    have hs : mSet st (.ref k) (.int 1) (.int b') = .ok () st1 := set_lst (j := 1) h rfl
    refine ⟨(b' * b' % 2147483587 / 11) % m, 0, b', ?_, by omega, hb', by omega, Int.emod_nonneg _ (by omega), Int.emod_lt_of_pos _ hm⟩
    show bodyC 2 3 (exs (tx.rt n) km1) [.ref k, .int m] st = _
    have l1 := log2_lt hb (by omega)
    have l2 := log2_lt hb' (by omega)
    have l3 : (48271 : Int).natAbs.log2 = 15 := by decide +kernel
    have m1 : mMul st (.int b) (.int 48271) = .ok (.int (b * 48271)) st := if_pos (by omega)
    have m2 : mMod st (.int (b * 48271 + 20011)) (.int 2147483629) = .ok (.int b') st := rfl
    have m3 : mMul st1 (.int b') (.int b') = .ok (.int (b' * b')) st1 := if_pos (by omega)
    have m4 : mMod st1 (.int (b' * b')) (.int 2147483587) = .ok (.int (b' * b' % 2147483587)) st1 := rfl
    have m5 : mDiv st1 (.int (b' * b' % 2147483587)) (.int 11) = .ok (.int (b' * b' % 2147483587 / 11)) st1 := by
      show (if (11 : Int) ≠ 0 ∧ (11 : Int).natAbs.log2 < 9000 then R.ok (MV.int (pyDiv (b' * b' % 2147483587) 11)) st1 else .stk) = _
      rw [if_pos ⟨by decide, by decide +kernel⟩]
      rfl
    have m6 : mMod st1 (.int (b' * b' % 2147483587 / 11)) (.int m) = .ok (.int ((b' * b' % 2147483587 / 11) % m)) st1 := by
      show (if m ≠ 0 then R.ok (MV.int (pyMod (b' * b' % 2147483587 / 11) m)) st1 else .stk) = _
      rw [if_pos (by omega)]
      unfold pyMod
      rw [if_pos hm]
    have z : decide ((0 : Int) < 0) = false := rfl
    simp only [km1, bodyC, exs, Mn.ex, ev, evs, evT, evG, evGs, qSeq, qIf, qAsg, qRet, qNext, RS.of, R.bind, startE, sT, s2, sV, sK, sA, sCons, sNil, gT, gC, gN, gV, gI, retOf,
      List.length_cons, List.length_nil, List.map_cons, List.map_nil, List.cons_append, List.nil_append, List.replicate, List.getElem?_cons_zero, List.getElem?_cons_succ, if_true, h0, h1, h2, mCmp, mBin, z, tru, mB, m1, m2, m3, m4, m5, m6, mAdd, hs, Bool.false_eq_true, if_false]
    rfl
end K10
open PySem PySem.Spec PyProof.Rows L2 Mn
namespace K10
/-- the pot stands at k -/
def Pot (k : Nat) (st : Store) : Prop := ∃ a b : Int, st[k]? = some (.lst [.int a, .int b]) ∧ 0 ≤ a ∧ 0 ≤ b ∧ b ≤ 2147483629
theorem drawP {n k : Nat} {m : Int} {st : Store} (h : Pot k st) (hm : 0 < m) (hm2 : m ≤ 1000000) : ∃ (d : Int) (st' : Store), tx.run (n + 1) 1 [.ref k, .int m] st = .ok (.int d) st' ∧ Kp k st st' ∧ Pot k st' ∧ 0 ≤ d ∧ d < m := by
  obtain ⟨a, b, h1, h2, h3, h4⟩ := h
  obtain ⟨d, a', b', e, q1, q2, q3, q4, q5⟩ := draw n k a b m st h1 h2 h3 h4 hm hm2
  exact ⟨d, _, e, Kp.set _ _, ⟨a', b', List.getElem?_set_self (List.getElem?_eq_some_iff.mp h1).1, q1, q2, q3⟩, q4, q5⟩
theorem Pot.gr {k : Nat} {st st' : Store} (h : Pot k st) (g : Gr st st') : Pot k st' := by
  obtain ⟨a, b, h1, h2⟩ := h
  exact ⟨a, b, g.get h1, h2⟩
theorem atI_of {xs : List MV} {d : Int} (h0 : 0 ≤ d) (h : d < xs.length) : ∃ v, atI xs d = some v ∧ v ∈ xs := by
  have hd : d.toNat < xs.length := by omega
  refine ⟨xs[d.toNat], ?_, List.getElem_mem hd⟩
  simp [atI, ixN, h0, h, List.getElem?_eq_getElem hd]
theorem choice {n k j : Nat} {xs : List MV} {st : Store} (h : Pot k st) (hj : st[j]? = some (.lst xs)) (ne : j ≠ k) (hn : 0 < xs.length) (hl : xs.length ≤ 1000000) : ∃ (v : MV) (st' : Store), tx.run (n + 2) 2 [.ref k, .ref j] st = .ok v st' ∧ v ∈ xs ∧ Kp k st st' ∧ Pot k st' := by
  obtain ⟨d, st', e, g, hp, h1, h2⟩ := drawP (n := n) (m := xs.length) h (by omega) (by omega)
  obtain ⟨v, hv, hm⟩ := atI_of h1 h2
  refine ⟨v, st', run_s (n + 1) 2 _ st rfl (exs_ret (ex_ret _ ?_)), hm, g, hp⟩
  show (ev (tx.rt (n + 1)) (.call 1 [] (.cons (.v 0) (.cons (.blt .len (.cons (.v 1) .nil)) .nil))) [some (.ref k), some (.ref j)] st).bind (fun y st => mIx st (.ref j) y) = _
  have e1 : ev (tx.rt (n + 1)) (.blt .len (.cons (.v 1) .nil)) [some (.ref k), some (.ref j)] st = .ok (.int xs.length) st := len_lst hj
  have e2 : ev (tx.rt (n + 1)) (.call 1 [] (.cons (.v 0) (.cons (.blt .len (.cons (.v 1) .nil)) .nil))) [some (.ref k), some (.ref j)] st = tx.run (n + 1) 1 [.ref k, .int xs.length] st := by
    show (((ev (tx.rt (n + 1)) (.blt .len (.cons (.v 1) .nil)) [some (.ref k), some (.ref j)] st).bind fun x st => R.ok [x] st).bind fun xs st => R.ok (MV.ref k :: xs) st).bind (fun xs st => (tx.rt (n + 1)).call 1 (xs ++ []) st) = _
    rw [e1]
    rfl
  rw [e2, e]
  exact ix_lst (g.get hj ne) hv
end K10
open PySem PySem.Spec PyProof.Rows L2 Mn
namespace K10
def core (d : PyData) : Bool := d.showable && d.leavesShort 30 && okS d
theorem okD_of {d : PyData} (h : core d = true) (hw : d.weight ≤ 1000) (hd : d.depth ≤ 20) : okD d = true := by
  unfold core at h
  simp only
            [Bool.and_eq_true] at h
  obtain ⟨⟨h1, h2⟩, h3⟩ := h
  simp only [okD, Bool.and_eq_true, decide_eq_true_eq]
  exact ⟨⟨⟨⟨h1, h2⟩, hw⟩, hd⟩, h3⟩
theorem core_neg : ∀ n : Fin 101, (PyData.shown (.int (-((n : Nat) : Int)))).length ≤ 30 := by decide +kernel
theorem core_int {i : Int} (h1 : -100 ≤ i) (h2 : i < 10000) : core (.int i) = true := by
  have hl : i.natAbs.log2 < 1920 := by
    rcases Nat.eq_zero_or_pos i.natAbs with e | e
    · rw [e]; decide
    · exact Nat.lt_trans ((Nat.log2_lt (k := 40) (by omega)).mpr (by omega)) (by omega)
  have hs : (PyData.shown (.int i)).length ≤ 30 := by
    by_cases h0 : 0 ≤ i
    · have := toString_length_le (k := 10) h0 (by decide) (by omega)
      exact Nat.le_trans this (by omega)
    · have := core_neg ⟨i.natAbs, by omega⟩
      have e : (-((⟨i.natAbs, by omega⟩ : Fin 101) : Nat) : Int) = i := by
        show -((i.natAbs : Nat) : Int) = i
        omega
      rw [e] at this
      exact this
  simp only [core, PyData.showable, PyData.leavesShort, okS, hl, hs, decide_true, Bool.and_self]
theorem core_list2 {x y : PyData} (hx : core x = true) (hy : core y = true) : core (.list [x, y]) = true := by
  simp only [core, Bool.and_eq_true, PyData.showable, PyData.showableAll, PyData.leavesShort, PyData.leavesShortAll, okS, okSs, and_true] at *
  exact ⟨⟨⟨hx.1.1, hy.1.1⟩, hx.1.2, hy.1.2⟩, hx.2, hy.2⟩
theorem core_list3 {x y z : PyData} (hx : core x = true) (hy : core y = true) (hz : core z = true) : core (.list [x, y, z]) = true := by
  simp only [core, Bool.and_eq_true, PyData.showable, PyData.showableAll, PyData.leavesShort, PyData.leavesShortAll, okS, okSs, and_true] at *
  exact ⟨⟨⟨hx.1.1, hy.1.1, hz.1.1⟩, hx.1.2, hy.1.2, hz.1.2⟩, hx.2, hy.2, hz.2⟩
theorem core_tup4 {x y z w : PyData} (hx : core x = true) (hy : core y = true) (hz : core z = true) (hw : core w = true) : core (.tuple [x, y, z, w]) = true := by
  simp only [core, Bool.and_eq_true, PyData.showable, PyData.showableAll, PyData.leavesShort, PyData.leavesShortAll, okS, okSs, and_true] at *
  exact ⟨⟨⟨hx.1.1, hy.1.1, hz.1.1, hw.1.1⟩, hx.1.2, hy.1.2, hz.1.2, hw.1.2⟩, hx.2, hy.2, hz.2, hw.2⟩
/-- what x is as data, here and whatever becomes of the pot at k -/
def DtK (k : Nat) (st : Store) (x : MV) (d : PyData) : Prop := (core d = true ∧ d.weight ≤ 100 ∧ d.depth ≤ 5) ∧ ∀ S, Kp k st S → dat S 39 x = some d ∧ dat S DF x = some d
theorem DtK.kp {k : Nat} {st S : Store} {x : MV} {d : PyData} (h : DtK k st x d) (g : Kp k st S) : DtK k S x d := ⟨h.1, fun S' g' => h.2 S' (g.trans g')⟩
theorem DtK.dt {k : Nat} {st : Store} {x : MV} {d : PyData} (h : DtK k st x d) : Dt st x d := ⟨okD_of h.1.1 (by have := h.1.2.1; omega) (by have := h.1.2.2; omega), fun S g => h.2 S (g.kp k)⟩
theorem dtk_int {k : Nat} {st : Store} {i : Int} (h1 : -100 ≤ i) (h2 : i < 10000) : DtK k st (.int i) (.int i) := ⟨⟨core_int h1 h2, by
  have hl : i.natAbs.log2 < 40 := by
    rcases Nat.eq_zero_or_pos i.natAbs with e | e
    · rw [e]; decide
    · exact (Nat.log2_lt (k := 40) (by omega)).mpr (by omega)
  simp only [PyData.weight]
  split <;> omega, by simp [PyData.depth]⟩, fun S _ => ⟨rfl, rfl⟩⟩
end K10
open PySem PySem.Spec PyProof.Rows L2 Mn
namespace K10
theorem c1 (m : Nat) (a b : MV) (st : Store) : (tx.rt m).call 1 ([a, b] ++ []) st = tx.run m 1 [a, b] st := rfl
theorem c2 (m : Nat) (a b : MV) (st : Store) : (tx.rt m).call 2 ([a, b] ++ []) st = tx.run m 2 [a, b] st := rfl
theorem ex_call {cs : Rt} {i f : Nat} {es : Es} {env : Mn.Env} {st st1 st2 : Store} {B : List MV} {v : MV} (h : evs cs es env st = .ok B st1) (e : cs.call f (B ++ []) st1 = .ok v st2) : Mn.ex cs (.set i (.call f [] es)) env st = .nx (env.set i (some v)) st2 := by
  show RS.of ((evs cs es env st).bind fun xs st => cs.call f (xs ++ []) st) env _ = _
  rw [h]
  show RS.of (cs.call f (B ++ []) st1) env _ = _
  rw [e]
  rfl
theorem ev_call {cs : Rt} {f : Nat} {es : Es} {env : Mn.Env} {st st1 st2 : Store} {B : List MV} {v : MV} (h : evs cs es env st = .ok B st1) (e : cs.call f (B ++ []) st1 = .ok v st2) : ev cs (.call f [] es) env st = .ok v st2 := by
  show (evs cs es env st).bind (fun xs st => cs.call f (xs ++ []) st) = _
  rw [h]
  exact e
theorem ev_v {cs : Rt} {i : Nat} {env : Mn.Env} {st : Store} {v : MV} (h : env[i]? = some (some v)) : ev cs (.v i) env st = .ok v st := by
  show sV i env st = _
  unfold sV
  rw [h]
theorem evs_cons {cs : Rt} {e : E} {es : Es} {env : Mn.Env} {st st1 st2 : Store} {x : MV} {xs : List MV} (h1 : ev cs e env st = .ok x st1) (h2 : evs cs es env st1 = .ok xs st2) : evs cs (.cons e es) env st = .ok (x :: xs) st2 := by
  show (ev cs e env st).bind _ = _
  rw [h1]
  show (evs cs es env st1).bind _ = _
  rw [h2]
  rfl
theorem ev_tup {cs : Rt} {es : Es} {env : Mn.Env} {st st1 : Store} {B : List MV} (h : evs cs es env st = .ok B st1) (hl : B.length ≤ LN) : ev cs (.tup es) env st = .ok (.tup B) st1 := by
  show (evs cs es env st).bind _ = _
  rw [h]
  exact if_pos hl
theorem ev_lst' {cs : Rt} {es : Es} {env : Mn.Env} {st st1 : Store} {B : List MV} (h : evs cs es env st = .ok B st1) (hl : B.length ≤ LN) : ev cs (.lst es) env st = .ok (.ref st1.length) (st1 ++ [.lst B]) := by
  show (evs cs es env st).bind _ = _
  rw [h]
  exact if_pos hl
theorem Pot.lt {k : Nat} {st : Store} (h : Pot k st) : k < st.length := by
  obtain ⟨a, b, h, _⟩ := h
  exact (List.getElem?_eq_some_iff.mp
                                      h).1
theorem set_choice {n k i : Nat} {es : Es} {B : List MV} {env : Mn.Env} {st st1 : Store} (he : env[0]? = some (some (.ref k))) (h : evs (tx.rt (n + 2)) es env st = .ok B st1) (hp : Pot k st1) (hB : 0 < B.length) (hl : B.length ≤ 1000000) :
    ∃ v st', Mn.ex (tx.rt (n + 2)) (.set i (.call 2 [] (.cons (.v 0) (.cons (.lst es) .nil)))) env st = .nx (env.set i (some v)) st' ∧ v ∈ B ∧ Kp k st1 st' ∧ Pot k st' := by
  have hlt := hp.lt
  obtain ⟨v, st', e, hm, g, hp'⟩ := choice (n := n) (j := st1.length) (xs := B) (st := st1 ++ [.lst B]) (hp.gr ⟨_, rfl⟩) (gx0 _ _ _) (by omega) hB hl
  refine ⟨v, st', ?_, hm, (Kp.app _ _).trans g, hp'⟩
  have hl' : B.length ≤ LN := Nat.le_trans hl (by decide)
  exact ex_call (evs_cons (ev_v he) (evs_cons (ev_lst' h hl') rfl)) ((c2 (n + 2) (.ref k) (.ref st1.length) _).trans e)
theorem ev_draw {n k : Nat} {m : Int} {env : Mn.Env} {st : Store} (he : env[0]? = some (some (.ref k))) (h : Pot k st) (hm : 0 < m) (hm2 : m ≤ 1000000) :
    ∃ (d : Int) (st' : Store), ev (tx.rt (n + 1)) (.call 1 [] (.cons (.v 0) (.cons (.k (.int m)) .nil))) env st = .ok (.int d) st' ∧ Kp k st st' ∧ Pot k st' ∧ 0 ≤ d ∧ d < m := by
  obtain ⟨d, st', e, g, hp, h1, h2⟩ := drawP (n := n) h hm hm2
  refine ⟨d, st', ?_, g, hp, h1, h2⟩
  exact ev_call (evs_cons (ev_v he) rfl) ((c1 (n + 1) (.ref k) (.int m) _).trans e)
theorem dtk_const {k : Nat} {st : Store} {x : MV} {d : PyData} (h : (core d && decide (d.weight ≤ 100) && decide (d.depth ≤ 5)) = true) (hd : ∀ S, dat S 39 x = some d ∧ dat S DF x = some d) : DtK k st x d := by
  simp only [Bool.and_eq_true,
                               decide_eq_true_eq] at h
  exact ⟨⟨h.1.1, h.1.2, h.2⟩, fun S _ => hd S⟩
theorem dtk_nil {k q : Nat} {st : Store} (h : st[q]? = some (.lst [])) (ne : q ≠ k) : DtK k st (.ref q) (.list []) :=
  ⟨⟨by decide +kernel, by decide +kernel, by decide +kernel⟩, fun S g => ⟨dat_lst (n := 38) (g.get h ne) rfl, dat_lst (n := 39) (g.get h ne) rfl⟩⟩
theorem dtk_dct {k q : Nat} {st : Store} (h : st[q]? = some (.dct [])) (ne : q ≠ k) : DtK k st (.ref q) (.dict []) :=
  ⟨⟨by decide +kernel, by decide +kernel, by decide +kernel⟩, fun S g => ⟨by simp only [dat, g.get h ne], by simp only [dat, g.get h ne]⟩⟩
structure Prt (k : Nat) (st : Store) (o x y z v s r : MV) : Prop where
  o : ∃ d, DtK k st o d
  x : ∃ dx dy dz, DtK k st x dx ∧ DtK k st y dy ∧ DtK k st z dz
  v : ∃ dv ds dr, DtK k st v dv ∧ DtK k st s ds ∧ DtK k st r dr
theorem parts (n k : Nat) (st : Store) (h : Pot k st) : ∃ o x y z v s r st', tx.run (n + 3) 3 [.ref k] st = .ok (.tup [o, .tup [x, y, z], v, s, r]) st' ∧ Kp k st st' ∧ Pot k st' ∧ Prt k st' o x y z v s r := by
  have hlt := h.lt
  let st1 : Store := (st ++ [.lst []]) ++ [.dct []]
  have g1 : Gr st st1 := ⟨[.lst [], .dct []], by simp [st1]⟩
  have q1 : st1[st.length]? = some (.lst []) := by simp [st1]
  have q2 : st1[(st ++ [MO.lst []]).length]? = some (.dct []) := gx0 _ _ _
  obtain ⟨o, s2, e1, m1, k1, p1⟩ := set_choice (n := n) (i := 1) (k := k) (es := .cons (.k .non) (.cons (.k (.bl true)) (.cons (.k (.str ("" : Str))) (.cons (.k (.str ("1" : Str))) (.cons (.tup (.cons (.k (.int 2)) (.cons (.k (.int 4)) .nil))) (.cons (.lst .nil) (.cons .dct0 (.cons (.tup (.cons (.k (.str ("line" : Str))) (.cons (.k (.int 0)) (.cons (.k (.int 0)) .nil)))) (.cons (.neg (.k (.int 3))) (.cons (.k (.str ("A" : Str))) (.cons (.k (.str ("period  f" : Str))) .nil)))))))))))
    (B := [.non, .bl true, .str "", .str "1", .tup [.int 2, .int 4], .ref st.length, .ref (st ++ [MO.lst []]).length, .tup [.str "line", .int 0, .int 0], .int (-3), .str "A", .str "period  f"]) (env := [some (.ref k), none, none, none, none, none]) (st := st) (st1 := st1) rfl rfl (h.gr g1) (Nat.succ_pos _) (Nat.le_of_ble_eq_true rfl)
  have ho : ∃ d, DtK k s2 o d := by
    simp only [List.mem_cons, List.not_mem_nil, or_false] at m1
    rcases m1 with rfl | rfl | rfl | rfl | rfl | rfl | rfl | rfl | rfl | rfl | rfl
    · exact ⟨.none, dtk_const (by decide +kernel) fun S => ⟨rfl, rfl⟩⟩
    · exact ⟨.bool true, dtk_const (by decide +kernel) fun S => ⟨rfl, rfl⟩⟩
    · exact ⟨.str "", dtk_const (by decide +kernel) fun S => ⟨rfl, rfl⟩⟩
    · exact ⟨.str "1", dtk_const (by decide +kernel) fun S => ⟨rfl, rfl⟩⟩
    · exact ⟨.tuple [.int 2, .int 4], dtk_const (by decide +kernel) fun S => ⟨rfl, rfl⟩⟩
    · exact ⟨_, dtk_nil (k1.get q1 (by omega)) (by omega)⟩
    · exact ⟨_, dtk_dct (k1.get q2 (by rw [List.length_append]; omega)) (by rw [List.length_append]; omega)⟩
    · exact ⟨.tuple [.str "line", .int 0, .int 0], dtk_const (by decide +kernel) fun S => ⟨rfl, rfl⟩⟩
    · exact ⟨.int (-3), dtk_const (by decide +kernel) fun S => ⟨rfl, rfl⟩⟩
    · exact ⟨.str "A", dtk_const (by decide +kernel) fun S => ⟨rfl, rfl⟩⟩
    · exact ⟨.str "period  f", dtk_const (by decide +kernel) fun S => ⟨rfl, rfl⟩⟩
  obtain ⟨dO, ho⟩ := ho
  obtain ⟨d1, s3, e2, k2, p2, a1, a2⟩ := ev_draw (n := n + 1) (k := k) (m := 60) (env := [some (.ref k), some o, none, none, none, none]) rfl p1 (by omega) (by omega)
  obtain ⟨t, s4, e3, m3, k3, p3⟩ := set_choice (n := n) (i := 2) (k := k) (es := .cons (.tup (.cons (.k (.str ("table" : Str))) (.cons (.k .non) (.cons (.k .non) .nil)))) (.cons (.tup (.cons (.k (.str ("integer" : Str))) (.cons (.call 1 [] (.cons (.v 0) (.cons (.k (.int 60)) .nil))) (.cons (.k .non) .nil)))) (.cons (.tup (.cons (.k (.str ("meeting" : Str))) (.cons (.k (.int 5)) (.cons (.k (.int 2)) .nil)))) .nil)))
    (B := [.tup [.str "table", .non, .non], .tup [.str "integer", .int d1, .non], .tup [.str "meeting", .int 5, .int 2]]) (env := [some (.ref k), some o, none, none, none, none]) (st := s2) (st1 := s3) rfl (evs_cons rfl (evs_cons (ev_tup (evs_cons rfl (evs_cons e2 rfl)) (Nat.le_of_ble_eq_true rfl)) rfl)) p2 (Nat.succ_pos _) (Nat.le_of_ble_eq_true rfl)
  have ht : ∃ x y z, t = .tup [x, y, z] ∧ ∃ dx dy dz, DtK k s4 x dx ∧ DtK k s4 y dy ∧ DtK k s4 z dz := by
    simp only [List.mem_cons, List.not_mem_nil, or_false] at m3
    have hn : DtK k s4 .non .none := dtk_const (by decide +kernel) fun S => ⟨rfl, rfl⟩
    rcases m3 with rfl | rfl | rfl
    · exact ⟨_, _, _, rfl, .str "table", .none, .none, dtk_const (by decide +kernel) fun S => ⟨rfl, rfl⟩, hn, hn⟩
    · exact ⟨_, _, _, rfl, .str "integer", .int d1, .none, dtk_const (by decide +kernel) fun S => ⟨rfl, rfl⟩, dtk_int (by omega) (by omega), hn⟩
    · exact ⟨_, _, _, rfl, .str "meeting", .int 5, .int 2, dtk_const (by decide +kernel) fun S => ⟨rfl, rfl⟩, dtk_int (by omega) (by omega), dtk_int (by omega) (by omega)⟩
  obtain ⟨x, y, z, rfl, dx, dy, dz, hx, hy, hz⟩ := ht
  obtain ⟨v, s5, e4, m4, k4, p4⟩ := set_choice (n := n) (i := 3) (k := k) (es := .cons (.tup (.cons (.k (.int 1)) (.cons (.k (.int 1)) .nil))) (.cons (.tup (.cons (.neg (.k (.int 3))) (.cons (.k (.int 2)) .nil))) (.cons (.tup (.cons (.k (.int 0)) (.cons (.k (.int 1)) .nil))) (.cons (.tup (.cons (.bin .Pow (.k (.int 10)) (.k (.int 20))) (.cons (.k (.int 7)) .nil))) .nil))))
    (B := [.tup [.int 1, .int 1], .tup [.int (-3), .int 2], .tup [.int 0, .int 1], .tup [.int (10 ^ 20), .int 7]]) (env := [some (.ref k), some o, some (.tup [x, y, z]), none, none, none]) (st := s4) (st1 := s4) rfl rfl p3 (Nat.succ_pos _) (Nat.le_of_ble_eq_true rfl)
  have hv : ∃ d, DtK k s5 v d := by
    simp only [List.mem_cons, List.not_mem_nil, or_false] at m4
    rcases m4 with rfl | rfl | rfl | rfl
    · exact ⟨.tuple [.int 1, .int 1], dtk_const (by decide +kernel) fun S => ⟨rfl, rfl⟩⟩
    · exact ⟨.tuple [.int (-3), .int 2], dtk_const (by decide +kernel) fun S => ⟨rfl, rfl⟩⟩
    · exact ⟨.tuple [.int 0, .int 1], dtk_const (by decide +kernel) fun S => ⟨rfl, rfl⟩⟩
    · exact ⟨.tuple [.int (10 ^ 20), .int 7], dtk_const (by decide +kernel) fun S => ⟨rfl, rfl⟩⟩
  obtain ⟨dv, hv⟩ := hv
  obtain ⟨d2, s6, e5, k5, p5, b1, b2⟩ := ev_draw (n := n + 1) (k := k) (m := 5000) (env := [some (.ref k), some o, some (.tup [x, y, z]), some v, none, none]) rfl p4 (by omega) (by omega)
  obtain ⟨d3, s7, e6, k6, p6, c1, c2⟩ := ev_draw (n := n + 1) (k := k) (m := 41) (env := [some (.ref k), some o, some (.tup [x, y, z]), some v, none, none]) rfl p5 (by omega) (by omega)
  have e7 : Mn.ex (tx.rt (n + 2)) (.par 4 5 (.bin .Add (.k (.int 1)) (.call 1 [] (.cons (.v 0) (.cons (.k (.int 5000)) .nil)))) (.bin .Sub (.call 1 [] (.cons (.v 0) (.cons (.k (.int 41)) .nil))) (.k (.int 20)))) [some (.ref k), some o, some (.tup [x, y, z]), some v, none, none] s5
      = RS.nx [some (.ref k), some o, some (.tup [x, y, z]), some v, some (.int (1 + d2)), some (.int (d3 - 20))] s7 := by
    have f1 : ev (tx.rt (n + 2)) (.bin .Add (.k (.int 1)) (.call 1 [] (.cons (.v 0) (.cons (.k (.int 5000)) .nil)))) [some (.ref k), some o, some (.tup [x, y, z]), some v, none, none] s5 = .ok (.int (1 + d2)) s6 := by
      show (ev (tx.rt (n + 2)) (.call 1 [] (.cons (.v 0) (.cons (.k (.int 5000)) .nil))) _ s5).bind (fun y st => mAdd st (.int 1) y) = _
      rw [e5]
      rfl
    have f2 : ev (tx.rt (n + 2)) (.bin .Sub (.call 1 [] (.cons (.v 0) (.cons (.k (.int 41)) .nil))) (.k (.int 20))) [some (.ref k), some o, some (.tup [x, y, z]), some v, none, none] s6 = .ok (.int (d3 - 20)) s7 := by
      show (ev (tx.rt (n + 2)) (.call 1 [] (.cons (.v 0) (.cons (.k (.int 41)) .nil))) _ s6).bind (fun x st => mSub st x (.int 20)) = _
      rw [e6]
      rfl
    show RS.of (evs (tx.rt (n + 2)) (.cons _ (.cons _ .nil)) _ s5) _ _ = _
    rw [evs_cons f1 (evs_cons f2 rfl)]
    rfl
  refine ⟨o, x, y, z, v, .int (1 + d2), .int (d3 - 20), s7, run_s (n + 2) 3 _ st rfl ?_, ?_, p6, ?_⟩
  · exact (exs_cons e1).trans ((exs_cons e3).trans ((exs_cons e4).trans ((exs_cons e7).trans (exs_ret (ex_ret _ rfl)))))
  · exact (((((g1.kp k).trans k1).trans (k2.trans k3)).trans k4).trans k5).trans k6
  · have w1 := k5.trans k6
    have w2 := k4.trans w1
    exact ⟨⟨dO, ho.kp ((k2.trans k3).trans w2)⟩, ⟨dx, dy, dz, hx.kp w2, hy.kp w2, hz.kp w2⟩, ⟨dv, _, _, hv.kp w1, dtk_int (by omega) (by omega), dtk_int (by omega) (by omega)⟩⟩
end K10
open PySem PySem.Spec PyProof.Rows L2 Mn
namespace K10
def clsOf : MV → Option Nat
  | .exo c _ _ => some c
  | _ => none
theorem items (o x y z v s r : MV) {i : Nat} (hi : i < 36) : ∃ ns xs, (X1 o x y z s ++ X2 o v s r)[i]? = some (.exo (order.getD (i / 2) 0) ns xs) := by
  have e : (X1 o x y z s ++ X2 o v s r).map clsOf = (List.range 36).map fun i => some (order.getD (i / 2) 0) := rfl
  have e2 := congrArg (fun l => l[i]?) e
  simp only [List.getElem?_map, List.getElem?_range hi, Option.map_some] at e2
  cases h : (X1 o x y z s ++ X2 o v s r)[i]? with
  | none => rw [h] at e2; cases e2
  | some w =>
    rw [h] at e2
    cases w with
    | exo c ns xs =>
      have : some c = some (order.getD (i / 2) 0) := Option.some.inj e2
      cases this
      exact ⟨ns, xs, rfl⟩
    | _ => cases (Option.some.inj e2)
theorem len36 (o x y z v s r : MV) : (X1 o x y z s ++ X2 o v s r).length = 36 := rfl
theorem chk_at {k : Nat} (h : k < 18) : chk k = true := List.all_eq_true.mp chk_all k (List.mem_range.mpr h)
theorem c6 (m : Nat) (a : MV) (st : Store) : (tx.rt m).call 6 ([a] ++ []) st = tx.run m 6 [a] st := rfl
theorem c7 (m : Nat) (a b : MV) (st : Store) : (tx.rt m).call 7 ([a, b] ++ []) st = tx.run m 7 [a, b] st := rfl
theorem c3 (m : Nat) (a : MV) (st : Store) : (tx.rt m).call 3 ([a] ++ []) st = tx.run m 3 [a] st := rfl
theorem c4 (m : Nat) (a : MV) (st : Store) : (tx.rt m).call 4 ([a] ++ []) st = tx.run m 4 [a] st := rfl
theorem c5 (m : Nat) (a : MV) (st : Store) : (tx.rt m).call 5 ([a] ++ []) st = tx.run m 5 [a] st := rfl
theorem c8 (m : Nat) (a b : MV) (st : Store) : (tx.rt m).call 8 ([a, b] ++ []) st = tx.run m 8 [a, b] st := rfl
theorem c9 (m : Nat) (a b : MV) (st : Store) : (tx.rt m).call 9 ([a, b] ++ []) st = tx.run m 9 [a, b] st := rfl
theorem c10 (m : Nat) (a : MV) (st : Store) : (tx.rt m).call 10 ([a] ++ []) st = tx.run m 10 [a] st := rfl
abbrev bodyE : Ss := .cons (.set 8 (.bin .FloorDiv (.v 6) (.k (.int 2)))) (.cons (.ite (.or (.e (.cmp .NotEq (.call 6 [] (.cons (.v 7) .nil)) (.lc [9] (.v 9) (.r1 (.k (.int 18))) .yes (.cmp .Eq (.v 9) (.v 8))))) (.not (.e (.call 7 [] (.cons (.v 7) (.cons (.v 8) .nil)))))) (.cons (.ret (.k (.bl false))) .nil) .nil) .nil)
theorem body_ok (n i : Nat) (hi : i < 36) (ns : List Str) (xs : List MV) (e0 e1 e2 e3 e4 e5 e8 : Option MV) (st : Store) :
    ∃ st', exs (tx.rt (n + 1)) bodyE [e0, e1, e2, e3, e4, e5, some (.int i), some (.exo (order.getD (i / 2) 0) ns xs), e8, none, none] st = .nx [e0, e1, e2, e3, e4, e5, some (.int i), some (.exo (order.getD (i / 2) 0) ns xs), some (.int (i / 2 : Nat)), none, none] st' ∧ Gr st st' := by
  have hp : i / 2 < 18 := by omega
  have hc := chk_at hp
  simp only [chk, Bool.and_eq_true, decide_eq_true_eq] at hc
  obtain ⟨⟨h1, h2⟩, h3⟩ := hc
  let c := order.getD (i / 2) 0
  let env : Mn.Env := [e0, e1, e2, e3, e4, e5, some (.int i), some (.exo c ns xs), some (.int (i / 2 : Nat)), none, none]
  obtain ⟨p, s1, f1, g1, q1⟩ := marks n c ns xs st h1
  obtain ⟨l, f2⟩ := sLc_gen (it := evI (tx.rt (n + 1)) (.r1 (.k (.int 18)))) (own := [9]) (g := evG (tx.rt (n + 1)) (.v 9)) (c := evT (tx.rt (n + 1)) .yes) (e := ev (tx.rt (n + 1)) (.cmp .Eq (.v 9) (.v 8)))
    (env := env) (st0 := s1) (st := s1) (s := .rng 0 18) (ys := (marksL c).map MV.bl) rfl rfl (Nat.le_of_ble_eq_true rfl)
    (fun j hj acc l => ⟨.int j, .bl (decide (j = i / 2)), [e0, e1, e2, e3, e4, e5, some (.int i), some (.exo c ns xs), some (.int (i / 2 : Nat)), some (.int j), none], [], by
      have hj' : j < 18 := hj
      show ((marksL (order.getD (i / 2) 0)).map MV.bl)[j]? = _
      rw [h3, List.getElem?_map, List.getElem?_map, List.getElem?_range hj']
      rfl, go_rng _ hj, rfl, rfl, by
      show bR (s1 ++ MO.lst acc :: l) (eqD (s1 ++ MO.lst acc :: l) (.int (j : Nat)) (.int (i / 2 : Nat))) = _
      rw [eqD_int, List.append_nil]
      show R.ok (MV.bl _) _ = _
      congr 2
      by_cases z : j = i / 2
      · subst z; simp
      · rw [decide_eq_false z, decide_eq_false (by omega)]⟩) (fun l => end_rng 18 _)
  let s2 : Store := s1 ++ .lst ((marksL c).map MV.bl) :: l
  have g2 : Gr s1 s2 := ⟨_, rfl⟩
  have f3 : ev (tx.rt (n + 1)) (.cmp .NotEq (.call 6 [] (.cons (.v 7) .nil)) (.lc [9] (.v 9) (.r1 (.k (.int 18))) .yes (.cmp .Eq (.v 9) (.v 8)))) env st = .ok (.bl false) s2 := by
    show (ev (tx.rt (n + 1)) (.call 6 [] (.cons (.v 7) .nil)) env st).bind _ = _
    rw [ev_call (evs_cons (ev_v rfl) rfl) ((c6 (n + 1) (.exo c ns xs) st).trans f1)]
    show (sLc _ _ _ _ _ env s1).bind _ = _
    rw [f2]
    show bR s2 ((eqD s2 (.ref p) (.ref s1.length)).map (!·)) = _
    rw [eqD_bls (l := marksL c) (g2.get q1) (gx0 _ _ _) (by rw [show SeqAt.shaped (.list ((marksL c).map PyData.bool)) = true from rfl])]
    rfl
  obtain ⟨s3, f4, g3⟩ := above n c (i / 2 : Nat) ns xs s2 h1 h2
  have f5 : ev (tx.rt (n + 1)) (.call 7 [] (.cons (.v 7) (.cons (.v 8) .nil))) env s2 = .ok (.bl true) s3 := ev_call (evs_cons (ev_v rfl) (evs_cons (ev_v rfl) rfl)) ((c7 (n + 1) (.exo c ns xs) (.int (i / 2 : Nat)) s2).trans f4)
  refine ⟨s3, ?_, (g1.trans g2).trans g3⟩
  have f6 : Mn.ex (tx.rt (n + 1)) (.set 8 (.bin .FloorDiv (.v 6) (.k (.int 2)))) [e0, e1, e2, e3, e4, e5, some (.int i), some (.exo c ns xs), e8, none, none] st = RS.nx env st := by
    have t0 : mDiv st (.int i) (.int 2) = .ok (.int (i / 2 : Nat)) st := by
      show (if (2 : Int) ≠ 0 ∧ (2 : Int).natAbs.log2 < 9000 then R.ok (MV.int (pyDiv i 2)) st else .stk) = _
      rw [if_pos ⟨by decide, by decide +kernel⟩]
      unfold pyDiv
      rw [if_pos (by decide)]
      rfl
    have t1 : ev (tx.rt (n + 1)) (.bin .FloorDiv (.v 6) (.k (.int 2))) [e0, e1, e2, e3, e4, e5, some (.int i), some (.exo c ns xs), e8, none, none] st = .ok (.int (i / 2 : Nat)) st := t0
    exact ex_set t1
  refine (exs_cons f6).trans ?_
  have f7 : Mn.ex (tx.rt (n + 1)) (.ite (.or (.e (.cmp .NotEq (.call 6 [] (.cons (.v 7) .nil)) (.lc [9] (.v 9) (.r1 (.k (.int 18))) .yes (.cmp .Eq (.v 9) (.v 8))))) (.not (.e (.call 7 [] (.cons (.v 7) (.cons (.v 8) .nil)))))) (.cons (.ret (.k (.bl false))) .nil) .nil) env st = RS.nx env s3 := by
    rw [ex_if (evT_or (evT_e f3) (evT_not (evT_e f5)))]
    rfl
  exact (exs_cons f7).trans rfl
end K10
open PySem PySem.Spec PyProof.Rows L2 Mn
namespace K10
theorem w2 {a b : Nat} {x y : Int} : True := trivial
theorem str3 (S : Store) : dat S 39 (.str "value") = some (.str "value") ∧ dat S 39 (.str "absent") = some (.str "absent") ∧ dat S 39 (.str "limit") = some (.str "limit") := ⟨rfl, rfl, rfl⟩
theorem right (n k : Nat) (st : Store) (h : Pot k st) : ∃ st', tx.run (n + 4) 12 [.ref k] st = .ok (.bl true) st' ∧ Kp k st st' := by
  obtain ⟨o, x, y, z, v, s, r, s1, e1, k1, p1, P1⟩ := parts n k st h
  obtain ⟨o', x', y', z', v', s', r', s2, e2, k2, p2, P2⟩ := parts n k s1 p1
  let A : MV := .tup [o, .tup [x, y, z], v, s, r]
  let B : MV := .tup [o', .tup [x', y', z'], v', s', r']
  have f1 : Mn.ex (tx.rt (n + 3)) (.par 1 2 (.call 3 [] (.cons (.v 0) .nil)) (.call 3 [] (.cons (.v 0) .nil))) [some (.ref k), none, none, none, none, none, none, none, none, none, none] st = RS.nx [some (.ref k), some A, some B, none, none, none, none, none, none, none, none] s2 :=
    ex_par (ev_call (evs_cons (ev_v rfl) rfl) ((c3 (n + 3) (.ref k) st).trans e1)) (ev_call (evs_cons (ev_v rfl) rfl) ((c3 (n + 3) (.ref k) s1).trans e2))
  obtain ⟨q1, s3, e3, g3, h3⟩ := first (n + 2) o x y z v s r s2
  obtain ⟨q2, s4, e4, g4, h4⟩ := second (n + 2) o (.tup [x, y, z]) v s r s3
  have f2 : Mn.ex (tx.rt (n + 3)) (.par 3 4 (.call 4 [] (.cons (.v 1) .nil)) (.call 5 [] (.cons (.v 1) .nil))) [some (.ref k), some A, some B, none, none, none, none, none, none, none, none] s2 = RS.nx [some (.ref k), some A, some B, some (.ref q1), some (.ref q2), none, none, none, none, none, none] s4 :=
    ex_par (ev_call (evs_cons (ev_v rfl) rfl) ((c4 (n + 3) A s2).trans e3)) (ev_call (evs_cons (ev_v rfl) rfl) ((c5 (n + 3) A s3).trans e4))
  obtain ⟨r1, s5, e5, g5, h5⟩ := first (n + 2) o' x' y' z' v' s' r' s4
  obtain ⟨r2, s6, e6, g6, h6⟩ := second (n + 2) o' (.tup [x', y', z']) v' s' r' s5
  let s7 : Store := s6 ++ [.lst (X1 o' x' y' z' s' ++ X2 o' v' s' r')]
  have f3 : Mn.ex (tx.rt (n + 3)) (.set 5 (.bin .Add (.call 4 [] (.cons (.v 2) .nil)) (.call 5 [] (.cons (.v 2) .nil)))) [some (.ref k), some A, some B, some (.ref q1), some (.ref q2), none, none, none, none, none, none] s4 = RS.nx [some (.ref k), some A, some B, some (.ref q1), some (.ref q2), some (.ref s6.length), none, none, none, none, none] s7 := by
    refine ex_set ?_
    show (ev (tx.rt (n + 3)) (.call 4 [] (.cons (.v 2) .nil)) _ s4).bind _ = _
    rw [ev_call (evs_cons (ev_v rfl) rfl) ((c4 (n + 3) B s4).trans e5)]
    show (ev (tx.rt (n + 3)) (.call 5 [] (.cons (.v 2) .nil)) _ s5).bind _ = _
    rw [ev_call (evs_cons (ev_v rfl) rfl) ((c5 (n + 3) B s5).trans e6)]
    show mAdd s6 (.ref r1) (.ref r2) = _
    simp only [mAdd, g6.get h5, h6]
    exact if_pos (Nat.le_of_ble_eq_true rfl)
  have g7 : Gr s2 s7 := (((g3.trans g4).trans g5).trans g6).trans ⟨_, rfl⟩
  have h3' : s7[q1]? = some (.lst (X1 o x y z s)) := (((g4.trans g5).trans g6).trans ⟨_, rfl⟩ : Gr s3 s7).get h3
  have h4' : s7[q2]? = some (.lst (X2 o v s r)) := ((g5.trans g6).trans ⟨_, rfl⟩ : Gr s4 s7).get h4
  let L : List MV := X1 o x y z s ++ X2 o v s r
  let s8 : Store := s7 ++ [.lst L]
  have hq : s8[s7.length]? = some (.lst L) := gx0 _ _ _
  have f4a : evI (tx.rt (n + 3)) (.enm (.bin .Add (.v 3) (.v 4))) [some (.ref k), some A, some B, some (.ref q1), some (.ref q2), some (.ref s6.length), none, none, none, none, none] s7 = .ok (.enm s7.length) s8 := by
    show ((sCons (ev (tx.rt (n + 3)) (.bin .Add (.v 3) (.v 4))) sNil _ s7).bind _) = _
    have := evs_cons (es := .nil) (ev_add (cs := tx.rt (n + 3)) (i := 3) (j := 4) (env := [some (.ref k), some A, some B, some (.ref q1), some (.ref q2), some (.ref s6.length), none, none, none, none, none]) rfl rfl h3' h4' (Nat.le_of_ble_eq_true rfl)) rfl
    have t : sCons (ev (tx.rt (n + 3)) (.bin .Add (.v 3) (.v 4))) sNil [some (.ref k), some A, some B, some (.ref q1), some (.ref q2), some (.ref s6.length), none, none, none, none, none] s7 = .ok [.ref s7.length] s8 := this
    rw [t]
    show (match seqL s8 (.ref s7.length) with
      | some _ => R.ok (Src.enm s7.length) s8
      | none => .stk) = _
    simp only [seqL, hq]
  let nx : Store → Nat → Option (Option MV) := Src.nx (.enm s7.length)
  have nx_at : ∀ S, Gr s8 S → ∀ i, nx S i = some (L[i]?.map fun x => .tup [.int i, x]) := fun S g i => by
    show (match seqL S (.ref s7.length) with
      | some xs => some (xs[i]?.map fun x => MV.tup [.int i, x])
      | none => none) = _
    have : seqL S (.ref s7.length) = some L := by simp only [seqL, g.get hq]
    rw [this]
  let P : Nat → Mn.Env → Store → Prop := fun _ env S => Gr s8 S ∧ ∃ a b c, env = [some (.ref k), some A, some B, some (.ref q1), some (.ref q2), some (.ref s6.length), a, b, c, none, none]
  obtain ⟨env9, s9, f4b, g9, u9, v9, z9, he9⟩ := forGo_gen (nx := nx) (g := evG (tx.rt (n + 3)) (.tup 2 (.cons (.v 6) (.cons (.v 7) .nil)))) (b := exs (tx.rt (n + 3)) bodyE) (n := 36) P
    (fun i env S hi ⟨g, a, b, c, he⟩ => by
      subst he
      obtain ⟨ns, xs, hx⟩ := items o x y z v s r hi
      obtain ⟨S', hb, gb⟩ := body_ok (n + 2) i hi ns xs (some (.ref k)) (some A) (some B) (some (.ref q1)) (some (.ref q2)) (some (.ref s6.length)) c S
      refine ⟨.tup [.int i, .exo (order.getD (i / 2) 0) ns xs], _, _, S', ?_, rfl, hb, g.trans gb, _, _, _, rfl⟩
      rw [nx_at S g i]
      have : L[i]? = some (.exo (order.getD (i / 2) 0) ns xs) := hx
      rw [this]
      rfl) (fun env S ⟨g, _⟩ => by
      rw [nx_at S g 36]
      rfl) 36 0 _ s8 (by omega) ⟨Gr.refl, none, none, none, rfl⟩
  subst he9
  have f4 : Mn.ex (tx.rt (n + 3)) (.for_ (.tup 2 (.cons (.v 6) (.cons (.v 7) .nil))) (.enm (.bin .Add (.v 3) (.v 4))) bodyE) [some (.ref k), some A, some B, some (.ref q1), some (.ref q2), some (.ref s6.length), none, none, none, none, none] s7
      = RS.nx [some (.ref k), some A, some B, some (.ref q1), some (.ref q2), some (.ref s6.length), u9, v9, z9, none, none] s9 := by
    have : Src.size (.enm s7.length) s8 = 36 := by
      show (match seqL s8 (.ref s7.length) with
        | some xs => xs.length
        | none => 0) = _
      have : seqL s8 (.ref s7.length) = some L := by simp only [seqL, hq]
      rw [this]
      rfl
    rw [← f4b]
    show RS.of (evI (tx.rt (n + 3)) (.enm (.bin .Add (.v 3) (.v 4))) [some (.ref k), some A, some B, some (.ref q1), some (.ref q2), some (.ref s6.length), none, none, none, none, none] s7) [some (.ref k), some A, some B, some (.ref q1), some (.ref q2), some (.ref s6.length), none, none, none, none, none] (fun s st => forGo s.nx (evG (tx.rt (n + 3)) (.tup 2 (.cons (.v 6) (.cons (.v 7) .nil)))) (exs (tx.rt (n + 3)) bodyE) (s.size st + 1) 0 [some (.ref k), some A, some B, some (.ref q1), some (.ref q2), some (.ref s6.length), none, none, none, none, none] st) = _
    rw [f4a]
    show forGo (Src.nx (.enm s7.length)) _ _ (Src.size (.enm s7.length) s8 + 1) 0 _ s8 = _
    rw [this]
  let E9 (w : Option MV) : Mn.Env := [some (.ref k), some A, some B, some (.ref q1), some (.ref q2), some (.ref s6.length), u9, v9, z9, none, w]
  let w1 : Store := s9 ++ [.lst [.str "value"]]
  let w2 : Store := s9 ++ [.lst [.str "value", .str "absent"]]
  let w3 : Store := s9 ++ [.lst [.str "value", .str "absent", .str "limit"]]
  have f5 : Mn.ex (tx.rt (n + 3)) (.set 10 (.lst (.cons (.call 10 [] (.cons (.lam kl2) .nil)) .nil))) (E9 none) s9 = RS.nx (E9 (some (.ref s9.length))) w1 :=
    ex_set (ev_lst' (evs_cons (ev_call (evs_cons rfl rfl) ((c10 (n + 3) (.lam kl2) s9).trans (caught0 n s9))) rfl) (Nat.le_of_ble_eq_true rfl))
  have app : ∀ (d : LamD) (t : Str) (l : List MV), tx.run (n + 3) 10 [.lam d] (s9 ++ [.lst l]) = .ok (.str t) (s9 ++ [.lst l]) → l.length < LN → Mn.ex (tx.rt (n + 3)) (.expr (.meth .append (.v 10) (.cons (.call 10 [] (.cons (.lam d) .nil)) .nil))) (E9 (some (.ref s9.length))) (s9 ++ [.lst l]) = RS.nx (E9 (some (.ref s9.length))) (s9 ++ [.lst (l ++ [.str t])]) := fun d t l hr hl => by
    refine ex_expr (v := .non) ?_
    have ha : evs (tx.rt (n + 3)) (.cons (.call 10 [] (.cons (.lam d) .nil)) .nil) (E9 (some (.ref s9.length))) (s9 ++ [.lst l]) = .ok [.str t] (s9 ++ [.lst l]) := evs_cons (ev_call (evs_cons rfl rfl) ((c10 (n + 3) (.lam d) _).trans hr)) rfl
    show (if isLst (s9 ++ [.lst l]) (.ref s9.length) = true then (evs (tx.rt (n + 3)) (.cons (.call 10 [] (.cons (.lam d) .nil)) .nil) (E9 (some (.ref s9.length))) (s9 ++ [.lst l])).bind (fun xs st => mM .append st (.ref s9.length) xs) else .stk) = _
    rw [if_pos (by simp only [isLst, gx0]), ha]
    show mM .append (s9 ++ [.lst l]) (.ref s9.length) [.str t] = _
    rw [append_lst (gx0 _ _ _) hl, sx0]
  have f6 := app kl1 "absent" [.str "value"] (caught1 n _) (Nat.le_of_ble_eq_true rfl)
  have f7 := app kl0 "limit" [.str "value", .str "absent"] (caught2 n _) (Nat.le_of_ble_eq_true rfl)
  have gw : Gr s9 w3 := ⟨_, rfl⟩
  have g78 : Gr s7 s8 := ⟨[.lst L], rfl⟩
  have g83 : Gr s7 w3 := g78.trans (g9.trans gw)
  let w4 : Store := w3 ++ [.lst L]
  let w5 : Store := w4 ++ [.lst [.str "value", .str "absent", .str "limit"]]
  have g45 : Gr w3 w5 := ⟨[.lst L, .lst [.str "value", .str "absent", .str "limit"]], by simp [w5, w4]⟩
  have gE : Gr s7 w5 := g83.trans g45
  have f8a : ev (tx.rt (n + 3)) (.cmp .NotEq (.blt .len (.cons (.v 5) .nil)) (.blt .len (.cons (.bin .Add (.v 3) (.v 4)) .nil))) (E9 (some (.ref s9.length))) w3 = .ok (.bl false) w4 := by
    have t1 : ev (tx.rt (n + 3)) (.blt .len (.cons (.v 5) .nil)) (E9 (some (.ref s9.length))) w3 = .ok (.int 36) w3 := by
      show mB .len w3 [.ref s6.length] = _
      exact len_lst (xs := X1 o' x' y' z' s' ++ X2 o' v' s' r') (g83.get (gx0 _ _ _))
    have t2 : ev (tx.rt (n + 3)) (.blt .len (.cons (.bin .Add (.v 3) (.v 4)) .nil)) (E9 (some (.ref s9.length))) w3 = .ok (.int 36) w4 := by
      have := evs_cons (es := .nil) (ev_add (cs := tx.rt (n + 3)) (i := 3) (j := 4) (env := E9 (some (.ref s9.length))) rfl rfl (g83.get h3') (g83.get h4') (Nat.le_of_ble_eq_true rfl)) rfl
      show (evs (tx.rt (n + 3)) (.cons (.bin .Add (.v 3) (.v 4)) .nil) (E9 (some (.ref s9.length))) w3).bind _ = _
      rw [this]
      show mB .len w4 [.ref w3.length] = _
      exact len_lst (xs := L) (gx0 _ _ _)
    show (ev (tx.rt (n + 3)) (.blt .len (.cons (.v 5) .nil)) (E9 (some (.ref s9.length))) w3).bind _ = _
    rw [t1]
    show (ev (tx.rt (n + 3)) (.blt .len (.cons (.bin .Add (.v 3) (.v 4)) .nil)) (E9 (some (.ref s9.length))) w3).bind _ = _
    rw [t2]
    show bR w4 ((eqD w4 (.int 36) (.int 36)).map (!·)) = _
    rw [eqD_int]
    rfl
  have f8b : ev (tx.rt (n + 3)) (.cmp .NotEq (.v 10) (.lst (.cons (.k (.str ("value" : Str))) (.cons (.k (.str ("absent" : Str))) (.cons (.k (.str ("limit" : Str))) .nil))))) (E9 (some (.ref s9.length))) w4 = .ok (.bl false) w5 := by
    show (ev (tx.rt (n + 3)) (.lst (.cons (.k (.str ("value" : Str))) (.cons (.k (.str ("absent" : Str))) (.cons (.k (.str ("limit" : Str))) .nil)))) (E9 (some (.ref s9.length))) w4).bind (fun y st => bR st ((eqD st (.ref s9.length) y).map (!·))) = _
    rw [ev_lst' (B := [.str "value", .str "absent", .str "limit"]) (st1 := w4) rfl (Nat.le_of_ble_eq_true rfl)]
    show bR w5 ((eqD w5 (.ref s9.length) (.ref w4.length)).map (!·)) = _
    have d1 : ∀ q, w5[q]? = some (.lst [.str "value", .str "absent", .str "limit"]) → dat w5 DF (.ref q) = some (.list [.str "value", .str "absent", .str "limit"]) := fun q hq => dat3 hq rfl rfl rfl
    rw [eqD_refl (d1 _ (g45.get (gx0 _ _ _))) (d1 _ (gx0 _ _ _)) (by decide +kernel)]
    rfl
  have f8 : Mn.ex (tx.rt (n + 3)) (.ite (.or (.e (.cmp .NotEq (.blt .len (.cons (.v 5) .nil)) (.blt .len (.cons (.bin .Add (.v 3) (.v 4)) .nil)))) (.e (.cmp .NotEq (.v 10) (.lst (.cons (.k (.str ("value" : Str))) (.cons (.k (.str ("absent" : Str))) (.cons (.k (.str ("limit" : Str))) .nil))))))) (.cons (.ret (.k (.bl false))) .nil) .nil) (E9 (some (.ref s9.length))) w3 = RS.nx (E9 (some (.ref s9.length))) w5 := by
    rw [ex_if (evT_or (evT_e f8a) (evT_e f8b))]
    rfl
  obtain ⟨⟨dO, ho⟩, ⟨dx, dy, dz, hx, hy, hz⟩, ⟨dv, ds, dr, hv, hs, hr⟩⟩ := P1
  have G : Gr s2 w5 := g7.trans gE
  have lift : ∀ {u : MV} {d : PyData}, DtK k s1 u d → Dt w5 u d := fun hu => ((hu.kp k2).dt).gr G
  have ok3 : okD (.list [dx, dy, dz]) = true := okD_of (core_list3 hx.1.1 hy.1.1 hz.1.1) (by have := hx.1.2.1; have := hy.1.2.1; have := hz.1.2.1; simp only [PyData.weight, PyData.weightAll]; omega) (by have := hx.1.2.2; have := hy.1.2.2; have := hz.1.2.2; simp only [PyData.depth, PyData.depthAll]; omega)
  have okA : okD (.list [dv, dr]) = true := okD_of (core_list2 hv.1.1 hr.1.1) (by have := hv.1.2.1; have := hr.1.2.1; simp only [PyData.weight, PyData.weightAll]; omega) (by have := hv.1.2.2; have := hr.1.2.2; simp only [PyData.depth, PyData.depthAll]; omega)
  have okB : okD (.list [dv, ds]) = true := okD_of (core_list2 hv.1.1 hs.1.1) (by have := hv.1.2.1; have := hs.1.2.1; simp only [PyData.weight, PyData.weightAll]; omega) (by have := hv.1.2.2; have := hs.1.2.2; simp only [PyData.depth, PyData.depthAll]; omega)
  have okC : okD (.tuple [.str "speed", dv, ds, .int 0]) = true := by
    have w1 : (PyData.str "speed").weight ≤ 100 := by decide +kernel
    have w2 : (PyData.int 0).weight ≤ 100 := by decide +kernel
    have d1 : (PyData.str "speed").depth ≤ 5 := by decide +kernel
    have d2 : (PyData.int 0).depth ≤ 5 := by decide +kernel
    refine okD_of (core_tup4 (by decide +kernel) hv.1.1 hs.1.1 (by decide +kernel)) ?_ ?_
    · have := hv.1.2.1
      have := hs.1.2.1
      show (PyData.tuple [.str "speed", dv, ds, .int 0]).weight ≤ 1000
      rw [PyData.weight]
      simp only [PyData.weightAll]
      omega
    · have := hv.1.2.2
      have := hs.1.2.2
      rw [PyData.depth]
      simp only [PyData.depthAll]
      omega
  obtain ⟨t1, r1', gr1⟩ := first_right (n + 2) q1 o x y z v s r w5 (gE.get h3') (lift ho) (lift hx) (lift hy) (lift hz) (lift hs) ok3
  obtain ⟨t2, r2', gr2⟩ := second_right (n + 2) q2 o (.tup [x, y, z]) v s r t1 (gr1.get (gE.get h4')) ((lift ho).gr gr1) ((lift hv).gr gr1) ((lift hs).gr gr1) ((lift hr).gr gr1) okA okB okC
  have f9 : ev (tx.rt (n + 3)) (.and (.call 8 [] (.cons (.v 3) (.cons (.v 1) .nil))) (.call 9 [] (.cons (.v 4) (.cons (.v 1) .nil)))) (E9 (some (.ref s9.length))) w5 = .ok (.bl true) t2 := by
    show (ev (tx.rt (n + 3)) (.call 8 [] (.cons (.v 3) (.cons (.v 1) .nil))) (E9 (some (.ref s9.length))) w5).bind _ = _
    rw [ev_call (evs_cons (ev_v rfl) (evs_cons (ev_v rfl) rfl)) ((c8 (n + 3) (.ref q1) A w5).trans r1')]
    show ev (tx.rt (n + 3)) (.call 9 [] (.cons (.v 4) (.cons (.v 1) .nil))) (E9 (some (.ref s9.length))) t1 = _
    exact ev_call (evs_cons (ev_v rfl) (evs_cons (ev_v rfl) rfl)) ((c9 (n + 3) (.ref q2) A t1).trans r2')
  refine ⟨t2, run_s (n + 3) 12 _ st rfl ?_, (k1.trans k2).trans ((G.trans (gr1.trans gr2)).kp k)⟩
  exact (exs_cons f1).trans ((exs_cons f2).trans ((exs_cons f3).trans ((exs_cons f4).trans ((exs_cons f5).trans ((exs_cons f6).trans ((exs_cons f7).trans ((exs_cons f8).trans (exs_ret (ex_ret _ f9)))))))))
end K10
open PySem PySem.Spec PyProof.Rows L2 Mn
namespace K10
theorem ev_blt {cs : Rt} {f : BF} {es : Es} {env : Mn.Env} {st st1 : Store} {B : List MV} (h : evs cs es env st = .ok B st1) : ev cs (.blt f es) env st = mB f st1 B := by
  show (evs cs es env st).bind _ = _
  rw [h]
  rfl
theorem ev_r1 {cs : Rt} {a : E} {env : Mn.Env} {st st1 : Store} {j : Int} (h : ev cs a env st = .ok (.int j) st1) (g : -(2 ^ 62) ≤ j ∧ j < 2 ^ 62) : evI cs (.r1 a) env st = .ok (.rng 0 j.toNat) st1 := by
  have e : evs cs (.cons a .nil) env st = .ok [.int j] st1 := evs_cons h rfl
  show (evs cs (.cons a .nil) env st).bind _ = _
  rw [e]
  exact if_pos g
theorem c0_ (m : Nat) (a b : MV) (st : Store) : (tx.rt m).call 0 ([a, b] ++ []) st = tx.run m 0 [a, b] st := rfl
theorem c12 (m : Nat) (a : MV) (st : Store) : (tx.rt m).call 12 ([a] ++ []) st = tx.run m 12 [a] st := rfl
abbrev retE : E := .lst (.cons (.blt .max (.cons (.k (.int 0)) (.cons (.bin .Sub (.v 2) (.bin .Pow (.k (.int 10)) (.k (.int 18)))) .nil))) (.cons (.bin .Add (.bin .Mod (.blt .int (.cons (.bin .Add (.bin .Add (.bin .Mult (.bin .Mod (.blt .int (.cons (.v 2) .nil)) (.k (.int 2147483563))) (.k (.int 44017))) (.bin .Mult (.k (.int 7129)) (.v 1))) (.k (.int 53))) .nil)) (.k (.int 2147483629))) (.k (.int 1))) .nil))
theorem potE (m : Nat) (x : MV) (k c : Int) (st : Store) (hk : 0 ≤ k) (hk2 : k < 6) (hc : 0 ≤ c) : ∃ a b : Int, ev (tx.rt m) retE [some x, some (.int k), some (.int c)] st = .ok (.ref st.length) (st ++ [.lst [.int a, .int b]]) ∧ 0 ≤ a ∧ 0 ≤ b ∧ b ≤ 2147483629 := by
  let u : Int := c % 2147483563
  have hu : 0 ≤ u := Int.emod_nonneg _ (by omega)
  have hu2 : u < 2147483563 := Int.emod_lt_of_pos _ (by omega)
  let w : Int := u * 44017 + 7129 * k + 53
  refine ⟨if c - 10 ^ 18 > 0 then c - 10 ^ 18 else 0, w % 2147483629 + 1, ?_, ?_, ?_, ?_⟩
  · have l1 := log2_lt hu (by omega)
    have l2 := log2_lt hk (by omega)
    have l3 : (44017 : Int).natAbs.log2 = 15 := by decide +kernel
    have l4 : (7129 : Int).natAbs.log2 = 12 := by decide +kernel
    have m1 : mMod st (.int c) (.int 2147483563) = .ok (.int u) st := rfl
    have m2 : mMul st (.int u) (.int 44017) = .ok (.int (u * 44017)) st := if_pos (by omega)
    have m3 : mMul st (.int 7129) (.int k) = .ok (.int (7129 * k)) st := if_pos (by omega)
    have m4 : mMod st (.int (u * 44017 + 7129 * k + 53)) (.int 2147483629) = .ok (.int (w % 2147483629)) st := rfl
    have m5 : mPow st (.int 10) (.int 18) = .ok (.int (10 ^ 18)) st := rfl
    refine ev_lst' (evs_cons (st1 := st) ?_ (evs_cons (st1 := st) ?_ rfl)) (Nat.le_of_ble_eq_true rfl)
    · simp only [ev, evs, s2, sV, sK, sA, sCons, sNil, R.bind, List.getElem?_cons_zero, List.getElem?_cons_succ, mBin, mSub, m5, mB]
    · simp only [ev, evs, s2, sV, sK, sA, sCons, sNil, R.bind, List.getElem?_cons_zero, List.getElem?_cons_succ, mBin, mB, m1, m2, m3, m4, mAdd]
  · split
    · omega
    · omega
  · have := Int.emod_nonneg w (show (2147483629 : Int) ≠ 0 by omega)
    omega
  · have := Int.emod_lt_of_pos w (show (0 : Int) < 2147483629 by omega)
    omega
theorem pot (m : Nat) (k : Nat) (ns : List Int) (st : Store) (h : st[0]? = some (.frz (ns.map MV.int))) (hk : k < 6) : ∃ a b : Int, tx.run (m + 1) 0 [.ref 0, .int k] st = .ok (.ref st.length) (st ++ [.lst [.int a, .int b]]) ∧ 0 ≤ a ∧ 0 ≤ b ∧ b ≤ 2147483629 := by
  have hlen : ev (tx.rt m) (.blt .len (.cons (.v 0) .nil)) [some (.ref 0), some (.int k), some (.int (29 * k + 11))] st = .ok (.int ns.length) st := by
    show mB .len st [.ref 0] = _
    have : seqA st (.ref 0) = some (ns.map MV.int) := by simp only [seqA, seqL, h]
    simp only [mB, this, List.length_map]
  have f1 : Mn.ex (tx.rt m) (.set 2 (.bin .Add (.bin .Mult (.k (.int 29)) (.v 1)) (.k (.int 11)))) [some (.ref 0), some (.int k), none] st = RS.nx [some (.ref 0), some (.int k), some (.int (29 * k + 11))] st := by
    have l2 := log2_lt (a := (k : Int)) (by omega) (by omega)
    have l4 : (29 : Int).natAbs.log2 = 4 := by decide +kernel
    have m3 : mMul st (.int 29) (.int k) = .ok (.int (29 * k)) st := if_pos (by omega)
    refine ex_set ?_
    show ((mMul st (.int 29) (.int k)).bind fun x st => mAdd st x (.int 11)) = _
    rw [m3]
    rfl
  have fl : ev (tx.rt m) (.cmp .Lt (.v 1) (.blt .len (.cons (.v 0) .nil))) [some (.ref 0), some (.int k), some (.int (29 * k + 11))] st = .ok (.bl (decide ((k : Int) < ns.length))) st := by
    show (ev (tx.rt m) (.blt .len (.cons (.v 0) .nil)) [some (.ref 0), some (.int k), some (.int (29 * k + 11))] st).bind (fun y st => mCmp .Lt st (.int k) y) = _
    rw [hlen]
    rfl
  by_cases hl : k < ns.length
  · have f2 : Mn.ex (tx.rt m) (.ite (.e (.cmp .Lt (.v 1) (.blt .len (.cons (.v 0) .nil)))) (.cons (.set 2 (.blt .abs (.cons (.ix (.v 0) (.v 1)) .nil))) .nil) .nil) [some (.ref 0), some (.int k), some (.int (29 * k + 11))] st = RS.nx [some (.ref 0), some (.int k), some (.int (if ns[k] < 0 then -ns[k] else ns[k]))] st := by
      rw [ex_if (evT_e fl), decide_eq_true (by omega : (k : Int) < ns.length), if_pos rfl]
      have g1 : mIx st (.ref 0) (.int k) = .ok (.int ns[k]) st := by
        have e1 : seqA st (.ref 0) = some (ns.map MV.int) := by simp only [seqA, seqL, h]
        have e2 : atI (ns.map MV.int) (k : Int) = some (.int ns[k]) := by simp [atI, ixN, hl]
        simp only [mIx, e1, e2]
      have g2 : ev (tx.rt m) (.blt .abs (.cons (.ix (.v 0) (.v 1)) .nil)) [some (.ref 0), some (.int k), some (.int (29 * k + 11))] st = .ok (.int (if ns[k] < 0 then -ns[k] else ns[k])) st := by
        show ((((mIx st (.ref 0) (.int k)).bind fun x st => R.ok [x] st)).bind fun xs st => mB .abs st xs) = _
        rw [g1]
        rfl
      exact (exs_cons (ex_set g2)).trans rfl
    obtain ⟨a, b, e, q⟩ := potE m (.ref 0) k (if ns[k] < 0 then -ns[k] else ns[k]) st (by omega) (by omega) (by split <;> omega)
    exact ⟨a, b, run_s m 0 _ st rfl ((exs_cons f1).trans ((exs_cons f2).trans (exs_ret (ex_ret _ e)))), q⟩
  · have f2 : Mn.ex (tx.rt m) (.ite (.e (.cmp .Lt (.v 1) (.blt .len (.cons (.v 0) .nil)))) (.cons (.set 2 (.blt .abs (.cons (.ix (.v 0) (.v 1)) .nil))) .nil) .nil) [some (.ref 0), some (.int k), some (.int (29 * k + 11))] st = RS.nx [some (.ref 0), some (.int k), some (.int (29 * k + 11))] st := by
      rw [ex_if (evT_e fl), decide_eq_false (by omega : ¬ (k : Int) < ns.length), if_neg Bool.false_ne_true]
      rfl
    obtain ⟨a, b, e, q⟩ := potE m (.ref 0) k (29 * k + 11) st (by omega) (by omega) (by omega)
    exact ⟨a, b, run_s m 0 _ st rfl ((exs_cons f1).trans ((exs_cons f2).trans (exs_ret (ex_ret _ e)))), q⟩
theorem law_is (ns : List Int) : ∃ st, tx.run 5 13 [.ref 0] [.frz (ns.map MV.int)] = .ok (.bl true) st := by
  let st : Store := [.frz (ns.map MV.int)]
  let M : Nat := max 1 (min 6 ns.length)
  have hit : evI (tx.rt 4) (.r1 (.blt .max (.cons (.k (.int 1)) (.cons (.blt .min (.cons (.k (.int 6)) (.cons (.blt .len (.cons (.v 0) .nil)) .nil))) .nil)))) [some (.ref 0), none] st = .ok (.rng 0 M) st := by
    have e1 : ev (tx.rt 4) (.blt .max (.cons (.k (.int 1)) (.cons (.blt .min (.cons (.k (.int 6)) (.cons (.blt .len (.cons (.v 0) .nil)) .nil))) .nil))) [some (.ref 0), none] st = .ok (.int M) st := by
      have : ev (tx.rt 4) (.blt .len (.cons (.v 0) .nil)) [some (.ref 0), none] st = .ok (.int ns.length) st := by
        show mB .len st [.ref 0] = _
        have : seqA st (.ref 0) = some (ns.map MV.int) := rfl
        simp only [mB, this, List.length_map]
      have e2 : ev (tx.rt 4) (.blt .min (.cons (.k (.int 6)) (.cons (.blt .len (.cons (.v 0) .nil)) .nil))) [some (.ref 0), none] st = .ok (.int (if (ns.length : Int) < 6 then ns.length else 6)) st := by
        exact (ev_blt (evs_cons rfl (evs_cons this rfl))).trans rfl
      rw [ev_blt (evs_cons rfl (evs_cons e2 rfl))]
      show R.ok (MV.int (if (if (ns.length : Int) < 6 then (ns.length : Int) else 6) > 1 then (if (ns.length : Int) < 6 then (ns.length : Int) else 6) else 1)) st = _
      congr 2
      show _ = ((max 1 (min 6 ns.length) : Nat) : Int)
      split <;> split <;> omega
    have hM : M ≤ 6 := by show max 1 (min 6 ns.length) ≤ 6; omega
    exact (ev_r1 e1 (by omega)).trans rfl
  have hM : M ≤ 6 := by show max 1 (min 6 ns.length) ≤ 6; omega
  obtain ⟨st', e, _⟩ := all_lc (cs := tx.rt 4) (own := [1]) (g := .v 1) (e := .call 12 [] (.cons (.call 0 [] (.cons (.v 0) (.cons (.v 1) .nil))) .nil)) (env := [some (.ref 0), none]) M hit rfl (by show _ ≤ 16777216; omega)
    (fun i hi S g => by
      obtain ⟨a, b, f1, q1, q2, q3⟩ := pot 3 i ns S (g.get rfl) (by omega)
      have hP : Pot S.length (S ++ [.lst [.int a, .int b]]) := ⟨a, b, gx0 _ _ _, q1, q2, q3⟩
      obtain ⟨S2, f2, kp⟩ := right 0 S.length _ hP
      obtain ⟨l, hl⟩ := ((Kp.app S [MO.lst [.int a, .int b]]).trans kp).grown (Nat.le_refl _)
      refine ⟨.int i, [some (.ref 0), some (.int i)], S2, go_rng _ hi, rfl, ?_, ⟨l, hl⟩⟩
      exact ev_call (evs_cons (ev_call (evs_cons (ev_v rfl) (evs_cons (ev_v rfl) rfl)) ((c0_ 4 (.ref 0) (.int i) S).trans f1)) rfl) ((c12 4 (.ref S.length) _).trans f2)) (fun S g => end_rng M S)
  exact ⟨st', run_s 4 13 _ st rfl (exs_ret (ex_ret _ e))⟩
end K10
namespace K10
open PySem PySem.Spec PyProof.Rows L2 Mn
theorem fn_defs : ∀ f ∈ tx.defs, f.d ∈ fn := allP_mem (P := fun f : Fd => f.d ∈ fn) ⟨.head _, .tail _ (.head _), .tail _ (.tail _ (.head _)), .tail _ (.tail _ (.tail _ (.head _))), .tail _ (.tail _ (.tail _ (.tail _ (.head _)))), .tail _ (.tail _ (.tail _ (.tail _ (.tail _ (.head _))))), .tail _ (.tail _ (.tail _ (.tail _ (.tail _ (.tail _ (.head _)))))), .tail _ (.tail _ (.tail _ (.tail _ (.tail _ (.tail _ (.tail _ (.head _))))))), .tail _ (.tail _ (.tail _ (.tail _ (.tail _ (.tail _ (.tail _ (.tail _ (.head _)))))))), .tail _ (.tail _ (.tail _ (.tail _ (.tail _ (.tail _ (.tail _ (.tail _ (.tail _ (.head _))))))))), .tail _ (.tail _ (.tail _ (.tail _ (.tail _ (.tail _ (.tail _ (.tail _ (.tail _ (.tail _ (.head _)))))))))), .tail _ (.tail _ (.tail _ (.tail _ (.tail _ (.tail _ (.tail _ (.tail _ (.tail _ (.tail _ (.tail _ (.head _))))))))))), .tail _ (.tail _ (.tail _ (.tail _ (.tail _ (.tail _ (.tail _ (.tail _ (.tail _ (.tail _ (.tail _ (.tail _ (.head _)))))))))))), .tail _ (.tail _ (.tail _ (.tail _ (.tail _ (.tail _ (.tail _ (.tail _ (.tail _ (.tail _ (.tail _ (.tail _ (.tail _ (.head _))))))))))))), True.intro⟩
theorem fn_inits : ∀ i ∈ inits, i.d ∈ fn := allP_mem (P := fun i : Ci => i.d ∈ fn) ⟨.tail _ (.tail _ (.tail _ (.tail _ (.tail _ (.tail _ (.tail _ (.tail _ (.tail _ (.tail _ (.tail _ (.tail _ (.tail _ (.tail _ (.head _)))))))))))))), .tail _ (.tail _ (.tail _ (.tail _ (.tail _ (.tail _ (.tail _ (.tail _ (.tail _ (.tail _ (.tail _ (.tail _ (.tail _ (.tail _ (.tail _ (.head _))))))))))))))), .tail _ (.tail _ (.tail _ (.tail _ (.tail _ (.tail _ (.tail _ (.tail _ (.tail _ (.tail _ (.tail _ (.tail _ (.tail _ (.tail _ (.tail _ (.tail _ (.head _)))))))))))))))), .tail _ (.tail _ (.tail _ (.tail _ (.tail _ (.tail _ (.tail _ (.tail _ (.tail _ (.tail _ (.tail _ (.tail _ (.tail _ (.tail _ (.tail _ (.tail _ (.tail _ (.head _))))))))))))))))), .tail _ (.tail _ (.tail _ (.tail _ (.tail _ (.tail _ (.tail _ (.tail _ (.tail _ (.tail _ (.tail _ (.tail _ (.tail _ (.tail _ (.tail _ (.tail _ (.tail _ (.tail _ (.head _)))))))))))))))))), .tail _ (.tail _ (.tail _ (.tail _ (.tail _ (.tail _ (.tail _ (.tail _ (.tail _ (.tail _ (.tail _ (.tail _ (.tail _ (.tail _ (.tail _ (.tail _ (.tail _ (.tail _ (.tail _ (.head _))))))))))))))))))), .tail _ (.tail _ (.tail _ (.tail _ (.tail _ (.tail _ (.tail _ (.tail _ (.tail _ (.tail _ (.tail _ (.tail _ (.tail _ (.tail _ (.tail _ (.tail _ (.tail _ (.tail _ (.tail _ (.tail _ (.head _)))))))))))))))))))), .tail _ (.tail _ (.tail _ (.tail _ (.tail _ (.tail _ (.tail _ (.tail _ (.tail _ (.tail _ (.tail _ (.tail _ (.tail _ (.tail _ (.tail _ (.tail _ (.tail _ (.tail _ (.tail _ (.tail _ (.tail _ (.head _))))))))))))))))))))), .tail _ (.tail _ (.tail _ (.tail _ (.tail _ (.tail _ (.tail _ (.tail _ (.tail _ (.tail _ (.tail _ (.tail _ (.tail _ (.tail _ (.tail _ (.tail _ (.tail _ (.tail _ (.tail _ (.tail _ (.tail _ (.tail _ (.head _)))))))))))))))))))))), .tail _ (.tail _ (.tail _ (.tail _ (.tail _ (.tail _ (.tail _ (.tail _ (.tail _ (.tail _ (.tail _ (.tail _ (.tail _ (.tail _ (.tail _ (.tail _ (.tail _ (.tail _ (.tail _ (.tail _ (.tail _ (.tail _ (.tail _ (.head _))))))))))))))))))))))), .tail _ (.tail _ (.tail _ (.tail _ (.tail _ (.tail _ (.tail _ (.tail _ (.tail _ (.tail _ (.tail _ (.tail _ (.tail _ (.tail _ (.tail _ (.tail _ (.tail _ (.tail _ (.tail _ (.tail _ (.tail _ (.tail _ (.tail _ (.tail _ (.head _)))))))))))))))))))))))), .tail _ (.tail _ (.tail _ (.tail _ (.tail _ (.tail _ (.tail _ (.tail _ (.tail _ (.tail _ (.tail _ (.tail _ (.tail _ (.tail _ (.tail _ (.tail _ (.tail _ (.tail _ (.tail _ (.tail _ (.tail _ (.tail _ (.tail _ (.tail _ (.tail _ (.head _))))))))))))))))))))))))), .tail _ (.tail _ (.tail _ (.tail _ (.tail _ (.tail _ (.tail _ (.tail _ (.tail _ (.tail _ (.tail _ (.tail _ (.tail _ (.tail _ (.tail _ (.tail _ (.tail _ (.tail _ (.tail _ (.tail _ (.tail _ (.tail _ (.tail _ (.tail _ (.tail _ (.tail _ (.head _)))))))))))))))))))))))))), .tail _ (.tail _ (.tail _ (.tail _ (.tail _ (.tail _ (.tail _ (.tail _ (.tail _ (.tail _ (.tail _ (.tail _ (.tail _ (.tail _ (.tail _ (.tail _ (.tail _ (.tail _ (.tail _ (.tail _ (.tail _ (.tail _ (.tail _ (.tail _ (.tail _ (.tail _ (.tail _ (.head _))))))))))))))))))))))))))), .tail _ (.tail _ (.tail _ (.tail _ (.tail _ (.tail _ (.tail _ (.tail _ (.tail _ (.tail _ (.tail _ (.tail _ (.tail _ (.tail _ (.tail _ (.tail _ (.tail _ (.tail _ (.tail _ (.tail _ (.tail _ (.tail _ (.tail _ (.tail _ (.tail _ (.tail _ (.tail _ (.tail _ (.head _)))))))))))))))))))))))))))), .tail _ (.tail _ (.tail _ (.tail _ (.tail _ (.tail _ (.tail _ (.tail _ (.tail _ (.tail _ (.tail _ (.tail _ (.tail _ (.tail _ (.tail _ (.tail _ (.tail _ (.tail _ (.tail _ (.tail _ (.tail _ (.tail _ (.tail _ (.tail _ (.tail _ (.tail _ (.tail _ (.tail _ (.tail _ (.head _))))))))))))))))))))))))))))), .tail _ (.tail _ (.tail _ (.tail _ (.tail _ (.tail _ (.tail _ (.tail _ (.tail _ (.tail _ (.tail _ (.tail _ (.tail _ (.tail _ (.tail _ (.tail _ (.tail _ (.tail _ (.tail _ (.tail _ (.tail _ (.tail _ (.tail _ (.tail _ (.tail _ (.tail _ (.tail _ (.tail _ (.tail _ (.tail _ (.head _)))))))))))))))))))))))))))))), .tail _ (.tail _ (.tail _ (.tail _ (.tail _ (.tail _ (.tail _ (.tail _ (.tail _ (.tail _ (.tail _ (.tail _ (.tail _ (.tail _ (.tail _ (.tail _ (.tail _ (.tail _ (.tail _ (.tail _ (.tail _ (.tail _ (.tail _ (.tail _ (.tail _ (.tail _ (.tail _ (.tail _ (.tail _ (.tail _ (.tail _ (.head _))))))))))))))))))))))))))))))), True.intro⟩
theorem in_ec : ∀ c ∈ tx.T.ec, ∃ i ∈ inits, i.c = c := allP_mem (P := fun c : Nat => ∃ i ∈ inits, i.c = c) ⟨⟨kc3, .tail _ (.tail _ (.head _)), rfl⟩, ⟨kc12, .tail _ (.tail _ (.tail _ (.tail _ (.tail _ (.tail _ (.tail _ (.tail _ (.tail _ (.tail _ (.head _)))))))))), rfl⟩, ⟨kc20, .tail _ (.tail _ (.tail _ (.tail _ (.tail _ (.tail _ (.tail _ (.tail _ (.tail _ (.tail _ (.tail _ (.tail _ (.tail _ (.tail _ (.tail _ (.tail _ (.tail _ (.head _))))))))))))))))), rfl⟩, True.intro⟩
theorem in_vc : ∀ c ∈ tx.T.vc, ∃ i ∈ inits, i.c = c := allP_mem (P := fun c : Nat => ∃ i ∈ inits, i.c = c) ⟨⟨kc1, .head _, rfl⟩, ⟨kc2, .tail _ (.head _), rfl⟩, ⟨kc3, .tail _ (.tail _ (.head _)), rfl⟩, ⟨kc4, .tail _ (.tail _ (.tail _ (.head _))), rfl⟩, ⟨kc5, .tail _ (.tail _ (.tail _ (.tail _ (.head _)))), rfl⟩, ⟨kc6, .tail _ (.tail _ (.tail _ (.tail _ (.tail _ (.head _))))), rfl⟩, ⟨kc7, .tail _ (.tail _ (.tail _ (.tail _ (.tail _ (.tail _ (.head _)))))), rfl⟩, ⟨kc8, .tail _ (.tail _ (.tail _ (.tail _ (.tail _ (.tail _ (.tail _ (.head _))))))), rfl⟩, ⟨kc9, .tail _ (.tail _ (.tail _ (.tail _ (.tail _ (.tail _ (.tail _ (.tail _ (.head _)))))))), rfl⟩, ⟨kc10, .tail _ (.tail _ (.tail _ (.tail _ (.tail _ (.tail _ (.tail _ (.tail _ (.tail _ (.head _))))))))), rfl⟩, ⟨kc12, .tail _ (.tail _ (.tail _ (.tail _ (.tail _ (.tail _ (.tail _ (.tail _ (.tail _ (.tail _ (.head _)))))))))), rfl⟩, ⟨kc13, .tail _ (.tail _ (.tail _ (.tail _ (.tail _ (.tail _ (.tail _ (.tail _ (.tail _ (.tail _ (.tail _ (.head _))))))))))), rfl⟩, ⟨kc14, .tail _ (.tail _ (.tail _ (.tail _ (.tail _ (.tail _ (.tail _ (.tail _ (.tail _ (.tail _ (.tail _ (.tail _ (.head _)))))))))))), rfl⟩, ⟨kc15, .tail _ (.tail _ (.tail _ (.tail _ (.tail _ (.tail _ (.tail _ (.tail _ (.tail _ (.tail _ (.tail _ (.tail _ (.tail _ (.head _))))))))))))), rfl⟩, ⟨kc16, .tail _ (.tail _ (.tail _ (.tail _ (.tail _ (.tail _ (.tail _ (.tail _ (.tail _ (.tail _ (.tail _ (.tail _ (.tail _ (.tail _ (.head _)))))))))))))), rfl⟩, ⟨kc17, .tail _ (.tail _ (.tail _ (.tail _ (.tail _ (.tail _ (.tail _ (.tail _ (.tail _ (.tail _ (.tail _ (.tail _ (.tail _ (.tail _ (.tail _ (.head _))))))))))))))), rfl⟩, ⟨kc19, .tail _ (.tail _ (.tail _ (.tail _ (.tail _ (.tail _ (.tail _ (.tail _ (.tail _ (.tail _ (.tail _ (.tail _ (.tail _ (.tail _ (.tail _ (.tail _ (.head _)))))))))))))))), rfl⟩, ⟨kc20, .tail _ (.tail _ (.tail _ (.tail _ (.tail _ (.tail _ (.tail _ (.tail _ (.tail _ (.tail _ (.tail _ (.tail _ (.tail _ (.tail _ (.tail _ (.tail _ (.tail _ (.head _))))))))))))))))), rfl⟩, True.intro⟩
end K10

open PySem PySem.W
                   PySem.Calls PyProof.Rows
theorem PySem.Challenge.cw_threeswaps_k10_errors_made_holds : PySem.Challenge.rw_threeswaps_k10_errors_made.Holds := by
  w_on; o_law
  refine HandSHeadRun.head_any (r := OpenLaw.row PySem.Challenge.rw_threeswaps_k10_errors_made) (q := K10.qv) (H := K10.hk) (ob := K10.ob) (M := 14000) (loose := K10.loose) (d := HandSHeadRun.topDef (OpenLaw.row PySem.Challenge.rw_threeswaps_k10_errors_made).prog 36) (kwd := []) K10.ob_eq
    (by kernel_rfl) (fun s => by kernel_rfl) K10.run (by kernel_rfl) (by kernel_rfl) (by kernel_rfl) (by rfl) (by first | assumption | decide +kernel) (by decide +kernel) ⟨rfl, rfl, rfl, rfl, rfl, by decide +kernel⟩ ?hw ?hc
  case hw => w_witness2
  case hc =>
    refine Mn.walkM (l := PySem.Challenge.rw_threeswaps_k10_errors_made) (n := 63) (k := 8) (x := "_law_script") rfl (by decide) (by kernel_rfl) ⟨⟨rfl, by decide, by decide⟩, rfl⟩ ?F
    intro w mg fa h Y G hmg0
    obtain ⟨K, s⟩ := Y
    have hmg : mg ("law" : PySem.Str)
                                      = some (.ref fa) := by
      have e : (HandSHeadRun.topDef (OpenLaw.row PySem.Challenge.rw_threeswaps_k10_errors_made).prog 36).name = ("law" : PySem.Str) := by kernel_rfl
      rw [← e]
      exact hmg0
    exact Mn.law_F (n := 5) K10.ok (fn := K10.fn) K10.fn_defs s (fun z => (Bool.and_eq_true_iff.mp z).1) G hmg rfl rfl rfl rfl
      (fun base n hb hn => Mn.mkOk_of (inits := K10.inits) rfl K10.in_ec (fun i hi => ⟨K10.inits_ok i hi, K10.fn_inits i hi⟩) s (fun z => (Bool.and_eq_true_iff.mp z).1) (fun z => (Bool.and_eq_true_iff.mp z).2) n)
      (fun base n hb hn => Mn.mkV_of (inits := K10.inits) rfl K10.in_vc (fun i hi => ⟨K10.inits_ok i hi, K10.fn_inits i hi⟩) s (fun z => (Bool.and_eq_true_iff.mp z).1) (fun z => (Bool.and_eq_true_iff.mp z).2) n)
      fun ns _ _ => K10.law_is ns
