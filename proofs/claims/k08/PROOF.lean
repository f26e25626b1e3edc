import PyProof.Rows.All
import Wide.All
import OpenK.AllK
import Wide.FinOn
import HandS.ForMost
import HandS.ForExc
import HandS.ExcSuper
import HandS.ClsMeth
import KE.KExcIs
import HandS.ExcInit
import HandS.IsInst
import HandS.HotCalls
import HandS.Defaults
import HandS.Iter
import KE.GoesEnum
import HandS.Ends
import PyProof.ReprRoads
import PyProof.RowDictHeap
import HandS.Dict
import PyProof.Rows.RegStrFacts
import HandS.Style
import HandS.TupAny
import HandS.Wide
import HandS.Codes
import HandS.Walk
import HandS.Gcd
import HandS.Comp
import Flt.RightSqrt
import HandS.Zip
import PyProof.AutoSeq1
import HandS.Lambda
import HandS.Conv
import KE.SortKeyHeap
import HandS.ExcOwn
import HandS.ExcValue
import KE.KDictSum
import HandS.EndTab
import HandS.More
import PyProof.StrLawsRepr
import PySem.Challenge.RW_twiceslope_k08_any_value_as_a_quotient
set_option Elab.async false
set_option linter.all false
set_option maxRecDepth 100000
set_option maxHeartbeats 4000000
namespace PySem
namespace Sl
open PySem.W PySem.Calls PyProof.Rows PySem.HandSPX
open Builtin Builtin.ObjectAttr
/-- own classes, then Exception's line -/
abbrev xTail : List Value := [.type "Exception", .type "BaseException", .type "object"]
def refsX : List Value → Bool
  | .ref _ :: r => refsX r
  | l => l == xTail
theorem refsX_two (a b : Addr) : refsX (.ref a :: .ref b :: xTail) = true := by
  show (xTail == xTail) = true
  decide +kernel
/-- the class at C stands over SlopeError at S -/
structure SubCls (K : Frag) (C S : Addr) : Prop where
  cls : ∃ nm q N bs sn sub ab col dd k0 k1 k2 k3 k5, K.lookup C = some (excClassObj nm q C N bs (.ref S :: xTail) true sn sub ab col dd k0 k1 k2 k3 k5 "Exception.__new__")
theorem pass_sub (self : Value) (C S : Addr) : refuseLoop self "__setattr__" (.ref C :: .ref S :: xTail) = pure () := by
  rw [refuseLoop_ref, refuseLoop_ref]
  exact F.store_Exception.passes self
theorem has_sub (C S : Addr) (T : String) (hT : xTail.contains (.type T) = true) : (Value.ref C :: .ref S :: xTail).contains (.type T) = true := by
  rw [List.contains_cons, List.contains_cons, hT]
  simp
theorem tail_sub (S : Addr) (T : String) : (Value.ref S :: xTail).contains (.type T) = xTail.contains (.type T) := by
  rw [List.contains_cons]
  rfl
end Sl
end PySem
namespace PySem
namespace Sl
open PySem.W PySem.Calls PyProof.Rows PySem.HandSPX
open Builtin Builtin.ObjectAttr
section
variable {prog : Program} {w : World} {A : Around} {E : Value → Shared → Prop} {R : Result → Shared → Prop} {hp : Heap} {g : Array GenState} {d : Drawn} {t : Nat} {os : OsState}
/-- self.name = v on a fresh exception of such a class -/
theorem osa_sub {K : W.Frag} {name : Str} {tk : Tok} {v : Value} {x C S : Addr} {fv : Array Value} {cd : ClassData}
    (X : K.In hp) (hx : hp.get? x = some { cls := .ref C, data := .fields fv }) (hcd : W.clsIn K C = some cd) (hm : cd.mro = .ref C :: .ref S :: xTail) (hh : cd.hasDict = true) (ha : W.findIn K (.ref C) name = some none)
    (hq : ∀ h' tk' dx, (∀ b o, b ≠ x → hp.get? b = some o → h'.get? b = some o) → hp.objs.size ≤ dx → dx ≠ x →
      h'.get? x = some { cls := .ref C, dict := some dx, data := .fields fv } → h'.Ns1 dx (fun y => if y = name then some v else none) → R (.ok (.ret .none)) ⟨h', g, d, tk', os⟩) :
    codeAny (model prog w) A (.call (.builtin "object.__setattr__") ⟨[.ref x, .str name tk, v], []⟩) R ⟨hp, g, d, t, os⟩ := by
  have I : W.InstAt hp x { cls := .ref C, data := .fields fv } C none := ⟨hx, rfl, rfl, trivial⟩
  have far : x ≠ hp.objs.size := Nat.ne_of_lt (Heap.lt_size hx)
  have mo : W.mroIn K C (.type "object") = some true := by
    unfold W.mroIn
    rw [hcd, Option.bind_some, hm, if_neg (show ¬ (List.isEmpty (Value.ref C :: .ref S :: xTail) = true) from Bool.false_ne_true), has_sub C S "object" (by decide +kernel)]
  have lm : W.Looks (model prog w) hp (isInstance (.ref x) (.type "object")) true := I.type.andThen (W.looks_mroIn X mo)
  have lr : W.Looks (model prog w) hp (mroOf (.ref C)) cd.mro := (W.looks_clsIn X hcd).andThen .now
  have lt : W.Looks (model prog w) hp (storeTaker? none) none := .now
  have lc : W.Looks (model prog w) hp (classData C) cd := W.looks_clsIn X hcd
  have stops : refuseLoop (.ref x) "__setattr__" cd.mro = pure () := by rw [hm]; exact pass_sub _ C S
  refine codeAny_call_builtin F.store_object.slot.plain F.store_object.entry
    (@W.check_slot (model prog w) _ _ ⟨hp, g, d, t, os⟩ "object.__setattr__" "object" "__setattr__" (.ref x) [.str name tk, v] [] _ F.store_object.kind F.store_object.split lm (F.store_object.args (.ref x) (.str name tk) v) ?_)
  rw [W.osa_eq, refuse_eq]
  refine wpAny_bind (wpAny_bind (I.type.at (wpAny_bind (lr.at ?_)))); rw [stops]
  refine wpAny_pure (wpAny_bind (I.type.at (wpAny_bind ((W.looks_findIn X ha).at (wpAny_bind (lt.at ?_))))))
  show wpAny _ _ (storeInOwnDict (.ref x) (.ref C) (.str name tk) name v false) _ _ _
  obtain ⟨nm, bs, mro, ns, qn, hd, sn, sb, ab, col, del⟩ := cd
  dsimp only at hh; subst hh
  unfold storeInOwnDict ownDictForStores
  repeat (first
    | with_reducible refine HandSPX.store_in_new ?_ ?_
    | with_reducible refine wpAny_loadPart_at hx ?_
    | with_reducible refine lc.at ?_
    | wp_step)
  · exact ⟨_, #[], _, (Heap.get?_update_ne _ _ _ _ far.symm).trans (Heap.get?_push_at rfl rfl), rfl, fun e he => absurd he (by simp), fun _ => rfl⟩
  · intro h' tk' hn' hs
    have hx1 : (hp.push { cls := .type "dict", data := .dict #[] }).get? x = some { cls := .ref C, data := .fields fv } := Heap.get?_push_of_some _ hx
    refine hq h' tk' hp.objs.size (fun b o hb ho => ?_) (Nat.le_refl _) far.symm ?_ hn'
    · exact (hs.2 b (Nat.ne_of_lt (Heap.lt_size ho))).trans ((Heap.get?_update_ne _ _ _ _ hb).trans (Heap.get?_push_of_some _ ho))
    · exact (hs.2 x far).trans (Heap.get?_update_self _ hx1 rfl)
end
end Sl
end PySem

namespace PySem
namespace Sl
open PySem.W PySem.Calls PyProof.Rows PySem.HandSPX
open Builtin Builtin.ObjectAttr
section
variable {M : Model} {A : Around} {E : Value → Shared → Prop} {h : Heap} {g : Array GenState} {d : Drawn} {t : Nat} {os : OsState}
variable {nm q : Str} {C N : Addr} {bs bm : List Value} {hdct : Bool} {sn : List Str} {sub : List Value} {ab : Bool} {col : Option Bool} {dd : Option Addr} {k0 k1 k2 k3 k5 : Option Value}
abbrev xb := F.excBase_Exception
theorem check_kw (hT : ∀ T : String, bm.contains (.type T) = xTail.contains (.type T)) {rest : List Value} {kw : List (Str × Value)} {Q : Unit → Shared → Prop}
    (hC : h.get? C = some (excClassObj nm q C N bs bm hdct sn sub ab col dd k0 k1 k2 k3 k5 "Exception.__new__")) (hq : Q () ⟨h, g, d, t, os⟩) :
    wpAny M A (checkBuiltinCall "Exception.__new__" ⟨.ref C :: rest, kw⟩) Q E ⟨h, g, d, t, os⟩ := by
  have hcont : (Value.ref C :: bm).contains (.type "Exception") = true := by rw [List.contains_cons, hT, xb.hasB, Bool.or_true]
  have hstar := xb.noStar
  simp only [checkBuiltinCall, xb.newKind, xb.newSplit, xb.newRow]
  repeat (first
    | refine wpAny_loadPart_at hC ?_
    | (refine wpAny_isSubtype_exc hC ?_; rw [hcont])
    | refine wpAny_staticBase_exc hC ?_
    | refine wpAny_madeBy_exc hC ?_
    | simp only [bne_self_eq_false, Bool.false_eq_true, if_false]
    | wp_step)
  exact hq
end
section
variable {prog : Program} {w : World} {A : Around} {E : Value → Shared → Prop} {R : Result → Shared → Prop} {h : Heap} {g : Array GenState} {d : Drawn} {t : Nat} {os : OsState}
variable {nm q : Str} {C N : Addr} {bs bm : List Value} {hdct : Bool} {sn : List Str} {sub : List Value} {ab : Bool} {col : Option Bool} {dd : Option Addr} {k0 k1 k2 k3 k5 : Option Value}
theorem new_kw (hT : ∀ T : String, bm.contains (.type T) = xTail.contains (.type T)) {rest : List Value} {kw : List (Str × Value)}
    (hC : h.get? C = some (excClassObj nm q C N bs bm hdct sn sub ab col dd k0 k1 k2 k3 k5 "Exception.__new__"))
    (hq : R (.ok (.ret (.ref (h.objs.size + 1)))) ⟨(h.push (W.kdv_tup rest)).push (excO C h.objs.size), g, d, t, os⟩) (hrest : rest.length ≤ sizeLine) :
    codeAny (model prog w) A (.builtin "Exception.__new__" ⟨.ref C :: rest, kw⟩) R ⟨h, g, d, t, os⟩ := by
  have hends := xb.ends
  have hcB : (Value.ref C :: bm).contains (.type "Exception") = true := by rw [List.contains_cons, hT, xb.hasB, Bool.or_true]
  have hcA : (Value.ref C :: bm).contains (.type "AttributeError") = false := by rw [List.contains_cons, hT, xb.noAttr]; rfl
  have hcN : (Value.ref C :: bm).contains (.type "NameError") = false := by rw [List.contains_cons, hT, xb.noName]; rfl
  refine codeAny_builtinAt xb.entry ?_
  unfold Builtin.«BaseException.__new__»
  refine wpAt_bind ?_
  show wpAt _ _ _ (stack >>= _) _ _ _
  refine wpAt_bind (wpAt_stack fun p below => wpAt_of_wpAny ?_)
  wp_walk
  refine wpAt_of_wpAny ?_
  rw [xb.owner]
  repeat (first
    | with_reducible refine wpAny_madeHere_exc xb.canon hC ?_
    | with_reducible refine wpAny_loadPart_at hC ?_
    | (with_reducible refine wpAny_isSubtype_exc hC ?_; first | rw [hcB] | rw [hcA] | rw [hcN])
    | wp_step)
  show R _ _
  rw [Heap.size_push]
  exact hq
theorem call_kw (hT : ∀ T : String, bm.contains (.type T) = xTail.contains (.type T)) {rest : List Value} {kw : List (Str × Value)} {fI : Addr}
    (hC : h.get? C = some (excClassObj nm q C N bs bm hdct sn sub ab col dd k0 k1 k2 k3 k5 "Exception.__new__"))
    (hi : W.Looks (model prog w) h (typeLookup (.ref C) "__init__") (some (.ref fI))) (hb : ∀ self, W.Looks (model prog w) h (bindSpecial (.ref fI) self) (.ref fI, [self])) (hrest : rest.length ≤ sizeLine)
    (hq : codeAny (model prog w) (A.under (.builtin "type.__call__" ⟨.ref C :: rest, kw⟩)) (.call (.ref fI) ⟨.ref (h.objs.size + 1) :: rest, kw⟩) (W.InitBack (h.objs.size + 1) R)
      ⟨(h.push (W.kdv_tup rest)).push (excO C h.objs.size), g, d, t, os⟩) :
    codeAny (model prog w) A (.call (.ref C) ⟨rest, kw⟩) R ⟨h, g, d, t, os⟩ := by
  have f1 := tc_lookup
  have f2 := tc_bind (.ref C)
  have f3 := tc_sub
  have hTy : (⟨h, g, d, t, os⟩ : Shared).TypeIs (.ref C) "type" := ⟨_, hC, rfl⟩
  refine codeAny_of_tree ?_
  show wpAny _ _ (callAny (.ref C) _) _ _ _
  repeat (any_goals (first | assumption | with_reducible refine wpAny_loadPart_at hC ?_ | wp_step))
  refine ⟨rfl, ?_⟩
  refine codeAny_call_builtin_at (Code.quiet_builtin _ (by decide +kernel)) entry_typeCall ?_
  have after : wpAny (model prog w) (A.under (.builtin "type.__call__" ⟨.ref C :: rest, kw⟩)) (Builtin.«type.__call__» ⟨.ref C :: rest, kw⟩)
      (fun fin s' => match fin with | .done f => R (.ok f) s' | .again c' => c'.quiet = true ∧ codeAny (model prog w) A c' R s') (fun e s' => R (.error e) s') ⟨h, g, d, t, os⟩ := by
    repeat (first | with_reducible refine wpAny_loadPart_at hC ?_ | with_reducible refine wpAny_madeBy_exc hC ?_ | wp_step)
    refine codeAny_call_builtin_code (Code.quiet_builtin _ xb.quiet) (check_kw hT hC ?_)
    refine new_kw hT hC ?_ hrest
    show wpAny _ _ _ _ _ _
    have k : ∀ b o, h.get? b = some o → ((h.push (W.kdv_tup rest)).push (excO C h.objs.size)).get? b = some o := fun b o e => Heap.get?_push_of_some _ (Heap.get?_push_of_some _ e)
    have hC1 := k _ _ hC
    have hget : ((h.push (W.kdv_tup rest)).push (excO C h.objs.size)).get? (h.objs.size + 1) = some (excO C h.objs.size) := by heap_get
    have hcC : (Value.ref C :: bm).contains (.ref C) = true := by simp
    have i1 := hi.keeps k
    have b1 := (hb (.ref (h.objs.size + 1))).keeps k
    unfold isInstance
    repeat (first
      | with_reducible refine wpAny_loadPart_at hget ?_
      | (with_reducible refine wpAny_isSubtype_exc hC1 ?_; rw [hcC])
      | wp_step)
    show wpAny _ _ (typeLookup (.ref C) _) _ _ _
    refine i1.at ?_
    refine wpAny_holding (wpAny_bind (b1.at ?_))
    refine wpAny_bind (wpAny_call (codeAny_mono hq fun r s' z => ?_))
    rcases r with e | (v | _ | _ | _) <;> first | exact z | exact z.elim | skip
    obtain ⟨rfl, z⟩ := z
    first
      | exact wpAny_pure (wpAny_pure z)
      | (wp_walk; exact z)
  simp only [checkBuiltinCall, tc_kind, tc_split]
  repeat (any_goals (first | exact after | assumption | with_reducible refine wpAny_loadPart_at hC ?_ | with_reducible refine wpAny_onRaise ?_ | with_reducible refine wpAny_map ?_ | wp_step))
end
end Sl
end PySem

namespace L2
open PySem PySem.Spec PyProof.Rows
/-- what the written part says of an error's class at C, over SlopeError at S -/
structure SlC (K : PySem.W.Frag) (C S : Addr) : Prop where
  cls : PySem.Sl.SubCls K C S
  sa : PySem.W.findIn K (.ref C) "__setattr__" = some (some (.builtin "object.__setattr__"))
  exC : PySem.W.subIn K (.ref C) (.type "BaseException") = some true
  tyC : PySem.W.typeIn K (.ref C) = some (.type "type")
  kC : PySem.W.keepIn K (.ref C) = true
  ga : PySem.W.findIn K (.ref C) "__getattribute__" = some (some (.builtin "BaseException.__getattribute__"))
  gg : PySem.W.findIn K (.ref C) "__getattr__" = some none
  noT : PySem.W.findIn K (.ref C) "thing" = some none
  hd : PySem.W.hasDictIn K C = true
  hc : PySem.W.findIn K (.ref C) "__class__" = some (some (.builtin "object.__class__"))
  hn : PySem.W.specialIn K (.builtin "object.__class__") "__get__" = some (some (.builtin "getset_descriptor.__get__"))
  ht : PySem.W.takesIn K (.builtin "object.__class__") = some true
  hm : PySem.W.mroIn K C (.type "object") = some true
theorem SlC.clsIn {K : PySem.W.Frag} {C S : Addr} (T : SlC K C S) : ∃ cd : ClassData, PySem.W.clsIn K C = some cd ∧ cd.mro = .ref C :: .ref S :: PySem.Sl.xTail ∧ cd.hasDict = true := by
  obtain ⟨nm, q, N, bs, sn, sub, ab, col, dd, k0, k1, k2, k3, k5, hC⟩ := T.cls
  refine ⟨{ name := nm, bases := bs, mro := .ref C :: .ref S :: PySem.Sl.xTail, ns := N, qualname := q, hasDict := true, slotNames := sn, subclasses := sub, abstract := ab, collection := col, hasDel := false }, ?_, rfl, rfl⟩
  unfold PySem.W.clsIn
  rw [hC]
section
variable {X : Cx} {pins : List (Addr × Obj)} {σ : St} {H : Hp} {s : Shared} {a C S dx : Addr} {y : V} {u : Value} {A : Around} {E : Value → Shared → Prop}
/-- self.thing = y, self a fresh error -/
theorem sl_store {Q : Unit → Shared → Prop} (T : SlC X.K C S) (I : Inv X pins σ H s) (e : H a = some (exo a C none)) (ry : RelV y u)
    (h : ∀ dx s', H dx = none → dx ≠ a → Inv X pins σ (upd (upd H dx (exd dx [("thing", y)])) a (exo a C (some dx))) s' → Q () s') :
    wpAny (model X.prog X.w) A (setAttr (.ref a) "thing" u) Q E s := by
  obtain ⟨cd, hcl, hmr, hdi⟩ := T.clsIn
  obtain ⟨t1, ho⟩ := exo_at I.hok e
  obtain ⟨hp, g, d, t, os⟩ := s
  refine PySem.W.set_plain I.kIn (ox := { cls := .ref C, dict := none, data := .fields #[.ref t1, .none, .none, .none, .bool false, .none] }) (od := none) ⟨ho, rfl, rfl, trivial⟩ T.sa ?_
  refine PySem.Sl.osa_sub I.kIn ho hcl hmr hdi T.noT (fun h' tk' dx k dn dne hx hn => ?_)
  have hnd : H dx = none := I.hok.fresh dn
  have nd : ∀ {b : Addr} {o : Obj}, hp.get? b = some o → b ≠ dx := fun {b o} q => Nat.ne_of_lt (Nat.lt_of_lt_of_le (Heap.lt_size q) dn)
  have na : ∀ {b : Addr}, H b = none → b ≠ a := fun {b} n z => by rw [z, e] at n; cases n
  have U : Un X.fs [] H (upd (upd H dx (exd dx [("thing", y)])) a (exo a C (some dx))) hp h' := {
    keep := fun b o q n _ _ => k b o (na n) q
    slot := fun b o q n _ _ => ⟨o.slots, k b o (na n) q⟩
    free := fun b o q n _ => by rw [upd_ne (na n), upd_ne (nd q)]; exact n
    there := fun b o q _ => by
      by_cases hb : b = a
      · rw [hb]; exact ⟨_, hx⟩
      · exact ⟨o, k b o hb q⟩
    tups := fun b xs q => by rw [upd_ne (at_ne e q exo_tup), upd_ne (ne_of_none q hnd)]; exact q
    frzs := fun b o v q => by rw [upd_ne (at_ne e q exo_frz), upd_ne (ne_of_none q hnd)]; exact q
    tbls := fun b ps q => ⟨#[], by rw [upd_ne (at_ne e q exo_tbl), upd_ne (ne_of_none q hnd), q]; simp⟩ }
  refine h dx _ hnd dne (I.un (t' := tk') U fun b o q => ?_)
  by_cases hb : b = a
  · subst hb
    rw [upd_same] at q; cases q
    exact exo_ok hx
  · rw [upd_ne hb] at q
    by_cases hd : b = dx
    · subst hd
      rw [upd_same] at q; cases q
      exact exd_ok hn (relO_put (fs := []) ry fun g => True.intro)
    · rw [upd_ne hd] at q
      refine (I.hok b o q).stay (fun c v hc z => k c v ?_ z) (fun c hc => ?_) (fun c xs hc => ?_)
      · rcases hc with hc | hc
        · rw [hc]; exact hb
        · exact at_ne e hc exo_own
      · rw [upd_ne (at_ne e hc exo_own), upd_ne (ne_of_none hc hnd)]; exact hc
      · rw [upd_ne (at_ne e hc exo_tup), upd_ne (ne_of_none hc hnd)]; exact hc
/-- the reading of self.thing = e -/
def tSto (K : PySem.W.Frag) (to te : TE) : TS := fun D σ H => te σ H fun y H1 => to σ H1 fun x H2 => ∃ a C S : Addr, x = .ref a ∧ SlC K C S ∧ H2 a = some (exo a C none) ∧
  ∀ dx, H2 dx = none → dx ≠ a → D.nx σ (upd (upd H2 dx (exd dx [("thing", y)])) a (exo a C (some dx)))
theorem ps_sto {o e : Expr} {to te : TE} {p' pos : Pos} (ho : PE X o to) (he : PE X e te) (hs : swapsWith e (some (.Attribute o "thing" p')) pos.line X.env = pure false := by rfl) :
    PS X (.Assign [.Attribute o "thing" p'] e pos) (tSto X.K to te) := by
  refine ⟨fun pins s σ H D I h => ?_⟩
  refine plainObj_wpAny_Assign_Attribute (thn (he.run pins s σ H _ I h) fun v s1 ⟨y, H1, I1, r1, q1⟩ => thn (ho.run pins s1 σ H1 _ I1 q1) fun u s2 ⟨x, H2, I2, r2, a, C, S, ex, T, ea, q⟩ => ?_) hs
  subst ex
  obtain rfl : u = Value.ref a := r2
  exact sl_store T I2 ea r1 fun dx s' n ne J => ⟨σ, _, J, q dx n ne⟩
end
/-- the promise of both __init__: the error at a, fresh, gets its dict with the thing -/
def spSet (K : PySem.W.Frag) : Sp := fun vs H Q _ => ∃ (a C S : Addr) (y : V), vs = [.ref a, y] ∧ SlC K C S ∧ H a = some (exo a C none) ∧
  ∀ dx, H dx = none → dx ≠ a → Q .non (upd (upd H dx (exd dx [("thing", y)])) a (exo a C (some dx)))
/-- SlopeError's class at S, its __init__ at fS -/
structure SlB (K : PySem.W.Frag) (mg : Str → Option Value) (S fS : Addr) : Prop where
  mgS : mg "SlopeError" = some (.ref S)
  rd : PySem.W.readsIn K S (.type "type") = true
  ga : PySem.W.specialIn K (.ref S) "__getattribute__" = some (some (.builtin "type.__getattribute__"))
  at_ : PySem.W.findCls K (.ref S) (.type "type") "__init__" = some (.val (.ref fS))
  kf : PySem.W.keepIn K (.ref fS) = true
section
variable {X : Cx} {S fS : Addr} {k : Nat} {fd : FuncData} {sp : Sp} {E : XK} {CX : CXT} {e : Expr} {es : List Expr} {ta : TA} {p1 p2 pos : Pos} {ps : List Str}
/-- SlopeError.__init__(e, ..) -/
theorem pe_slInit {pl : Sem Bool} (B : SlB X.K X.mg S fS) (F : FnOk X.prog X.w X.K X.mg X.base CX k fS fd ps sp) (hr : Room k X.A) (hb : Binds X.K fd ps []) (hx : Passes CX X E) (hg : Gl X "SlopeError") (ha : PA X (e :: es) ta)
    (hc : eval (.Call (.Attribute (.Name "SlopeError" p1) "__init__" p2) (e :: es) [] pos) X.env = (do
      let ov ← eval (.Name "SlopeError" p1) X.env
      standAt p2.atName
      let (f, first) ← holding [ov] (getMethod ov "__init__" pl)
      callWith pos f first (backTo pos (starEach (e :: es) X.env)) (backToKw pos (keywordEach [] X.env))) := by rfl)
    (he : starEach (e :: es) X.env = (false, eval e X.env) :: starEach es X.env := by rfl) (hpl : (backTo pos (starEach es X.env)).any (·.1) = false := by rfl) :
    PE X (.Call (.Attribute (.Name "SlopeError" p1) "__init__" p2) (e :: es) [] pos) (fun σ H Q => ta σ H fun vs H1 => sp vs H1 Q E) := by
  refine ⟨fun pins s σ H Q I h => ?_⟩
  refine PySem.W.methodCall_KW (pl := pl) (ld_glob I hg B.mgS ?_ (by decide)) hc
  refine PySem.W.method_cls I.kIn B.ga (PySem.W.cls_value I.kIn B.rd B.at_ (by rfl) ?_)
  show wpAny _ _ (callWith pos (Value.ref fS) [] (backTo pos (starEach (e :: es) X.env)) []) _ _ _
  refine PySem.W.callWith_K (h₀ := X.base) I.ok.mod.kin B.kf (thn (ha.run pos pins _ σ H _ (I.tok _) h) fun us s1 ⟨vs, H1, I1, r, q⟩ => ⟨I1.kIn, ?_⟩) he hpl
  exact run_fn F hr hb .nil hx I1 r (by rw [List.append_nil]; exact q)
end
end L2

namespace L2
open PySem PySem.Spec PyProof.Rows
/-- the heap with a new error at a, its dict at dx -/
def slH (H : Hp) (a C dx : Addr) (y : V) : Hp := upd (upd H dx (exd dx [("thing", y)])) a (exo a C (some dx))
theorem slH_new {H : Hp} {a C dx : Addr} {y : V} {o : HO} : upd (upd (upd H a o) dx (exd dx [("thing", y)])) a (exo a C (some dx)) = slH H a C dx y := by
  funext b
  unfold slH
  by_cases h : b = a
  · rw [h, upd_same, upd_same]
  · rw [upd_ne h, upd_ne h]
    by_cases hd : b = dx
    · rw [hd, upd_same, upd_same]
    · rw [upd_ne hd, upd_ne hd, upd_ne h]
theorem slH_a {H : Hp} {a C dx : Addr} {y : V} : slH H a C dx y a = some (exo a C (some dx)) := upd_same
theorem slH_d {H : Hp} {a C dx : Addr} {y : V} (h : dx ≠ a) : slH H a C dx y dx = some (exd dx [("thing", y)]) := (upd_ne h).trans upd_same
theorem slH_ne {H : Hp} {a C dx b : Addr} {y : V} (h1 : b ≠ a) (h2 : b ≠ dx) : slH H a C dx y b = H b := (upd_ne h1).trans (upd_ne h2)
/-- an error's class at C: its own __init__ -/
structure SlM (K : PySem.W.Frag) (C S fI : Addr) : Prop where
  T : SlC K C S
  iC : PySem.W.findIn K (.ref C) "__init__" = some (some (.ref fI))
  tI : PySem.W.typeIn K (.ref fI) = some (.type "function")
/-- how the call of the class binds in __init__ -/
def SlBnd (K : PySem.W.Frag) (fd : FuncData) (us : List Value) (kw : List (Str × Value)) (u : Value) : Prop :=
  ∀ (s : Shared) (x : Value), K.In s.heap → BindsTo s fd ⟨x :: us, kw⟩ ((["self", "thing"] : List Str).zip [x, u])
section
variable {X : Cx} {pins : List (Addr × Obj)} {σ : St} {H : Hp} {s : Shared} {C S fI : Addr} {y : V} {u : Value} {k : Nat} {fd : FuncData} {CX : CXT} {us : List Value} {kw : List (Str × Value)}
/-- what is known behind the call of the class -/
structure SlGot (X : Cx) (pins : List (Addr × Obj)) (σ : St) (H : Hp) (s : Shared) (C a dx : Addr) (y : V) (s' : Shared) : Prop where
  new : s.heap.objs.size ≤ a
  na : H a = none
  nd : H dx = none
  ne : dx ≠ a
  mid : ∃ h1 : Heap, (∀ b o, s.heap.get? b = some o → h1.get? b = some o) ∧ Un (frs X.stack) [] (upd H a (exo a C none)) (slH H a C dx y) h1 s'.heap
  hok : HOk X.prog X.w (slH H a C dx y) s'.heap
  os : s'.os = s.os
  bare : AllBare s'.gens
  inv : Inv X pins σ (slH H a C dx y) s'
theorem sl_run {Q : Value → Shared → Prop} (M : SlM X.K C S fI) (F : FnOk X.prog X.w X.K X.mg X.base CX k fI fd ["self", "thing"] (spSet X.K)) (hr : Room (k + 1) X.A) (hx : Passes CX X E0)
    (hb : SlBnd X.K fd us kw u) (hl : us.length ≤ sizeLine) (I : Inv X pins σ H s) (ry : RelV y u) (h : ∀ a dx s', SlGot X pins σ H s C a dx y s' → Q (.ref a) s') :
    wpAny (model X.prog X.w) X.A (call (.ref C) us kw) Q X.xe s := by
  obtain ⟨nm, q, N, bs, sn, sub, ab, col, dd, k0, k1, k2, k3, k5, hC⟩ := M.T.cls
  obtain ⟨hp, g, dr, tk, os⟩ := s
  have hsz : hp.objs.size ≤ hp.objs.size + 1 := Nat.le_succ _
  have hn : H (hp.objs.size + 1) = none := I.hok.fresh hsz
  have kk : ∀ b o, hp.get? b = some o → ((hp.push (PySem.W.kdv_tup us)).push (PySem.HandSPX.excO C hp.objs.size)).get? b = some o := fun b o e => Heap.get?_push_of_some _ (Heap.get?_push_of_some _ e)
  have hget : ((hp.push (PySem.W.kdv_tup us)).push (PySem.HandSPX.excO C hp.objs.size)).get? (hp.objs.size + 1) = some (PySem.HandSPX.excO C hp.objs.size) := by heap_get
  have I2 : Inv X pins σ (upd H (hp.objs.size + 1) (exo (hp.objs.size + 1) C none)) ⟨(hp.push (PySem.W.kdv_tup us)).push (PySem.HandSPX.excO C hp.objs.size), g, dr, tk, os⟩ :=
    I.laid (t' := tk) (a := hp.objs.size + 1) (o := exo (hp.objs.size + 1) C none) (h' := (hp.push (PySem.W.kdv_tup us)).push (PySem.HandSPX.excO C hp.objs.size)) kk hsz (exo_ok hget)
  have r2 : Vals [V.ref (hp.objs.size + 1), y] [Value.ref (hp.objs.size + 1), u] := .cons rfl (.cons ry .nil)
  have room : Room k (X.A.under (.builtin "type.__call__" ⟨.ref C :: us, kw⟩)) := hr.make C us kw
  have e0 := I2.env0.make C us kw
  refine wpAny_call (PySem.Sl.call_kw (fun T => PySem.Sl.tail_sub S T) (I.kIn _ _ hC) (PySem.W.looks_findIn I.kIn M.iC) (fun self => PySem.W.bind_fn I.kIn self M.tI) hl
    (codeAny_mono (F.run _ X.stack _ _ ⟨Value.ref (hp.objs.size + 1) :: us, kw⟩ [Value.ref (hp.objs.size + 1), u] [V.ref (hp.objs.size + 1), y]
      (fun v H2 => v = .non ∧ ∃ dx, H dx = none ∧ dx ≠ hp.objs.size + 1 ∧ H2 = slH H (hp.objs.size + 1) C dx y) E0 room e0 (hb _ _ I2.kIn) r2
      ⟨hp.objs.size + 1, C, S, y, rfl, M.T, upd_same, fun dx n ne => ⟨rfl, dx, by rw [upd_ne ne] at n; exact n, ne, slH_new⟩⟩) fun r s' hq => ?_))
  cases r with
  | error er => exact hx pins σ _ _ er s' I2 hq
  | ok fl =>
    cases fl with
    | ret v0 =>
      obtain ⟨v, H2, os2, bare2, un2, hok2, rv, ev, dx, nd, ne, rfl⟩ := hq
      subst ev
      refine ⟨rv, h _ dx s' ⟨hsz, hn, nd, ne, ⟨_, kk, un2⟩, hok2, os2, bare2, ?_⟩⟩
      exact I2.call' (ch := []) os2 un2 hok2 bare2 (fun b z => absurd z (by simp))
    | next => exact False.elim hq
    | brk => exact False.elim hq
    | cont => exact False.elim hq
/-- such an error, made to be raised -/
theorem SlGot.raised {Q : XK} {a dx : Addr} {s' : Shared} (M : SlM X.K C S fI) (I : Inv X pins σ H s) (G : SlGot X pins σ H s C a dx y s')
    (q : ∀ H', H' dx = some (.xd [("thing", y)]) → H' a = none → (∀ b, b ≠ a → b ≠ dx → H' b = H b) → Q (.ref C) (some dx) H') : MkP X pins σ Q (.ref a) s' := by
  obtain ⟨h1, kk, un⟩ := G.mid
  obtain ⟨hp, g, dr, tk, os⟩ := s
  obtain ⟨h2, g2, d2, t2, os'⟩ := s'
  obtain ⟨t0, GG, J, kG, ge, hoe, na⟩ := mk_end0 (d2 := d2) (t2 := t2) (d := dx) (fs := [("thing", y)]) I G.new kk un G.hok G.os G.bare slH_a (slH_d G.ne) G.nd
  exact ⟨a, _, _, ⟨GG, g2, d2, t2, os'⟩, _, .ref C, some dx, rfl, J, kG, ge, hoe, ⟨rfl, rfl⟩, rfl, rfl, na, rfl, G.bare, raises_own M.T.exC M.T.tyC,
    q _ upd_same na fun b h1 h2 => by rw [upd_ne h2, del_ne h1, slH_ne h1 h2]⟩
end
end L2

namespace L2
open PySem PySem.Spec PyProof.Rows
/-! ### C(e), C(thing=e): the error as a value, and as what is raised -/
def rNew (C : Addr) (te : TE) : TE := fun σ H Q => te σ H fun y H1 => ∀ a dx, H1 a = none → H1 dx = none → dx ≠ a → Q (.ref a) (slH H1 a C dx y)
def rAir (C : Addr) (te : TE) : St → Hp → XK → Prop := fun σ H Q => te σ H fun y H1 => ∀ a dx H', H1 a = none → H1 dx = none → dx ≠ a →
  H' dx = some (.xd [("thing", y)]) → H' a = none → (∀ b, b ≠ a → b ≠ dx → H' b = H1 b) → Q (.ref C) (some dx) H'
section
variable {X : Cx} {C S fI : Addr} {k : Nat} {fd : FuncData} {CX : CXT} {x : Str} {e : Expr} {te : TE} {p pos kp : Pos}
theorem sl_name {Q : Value → Shared → Prop} (M : SlM X.K C S fI) (F : FnOk X.prog X.w X.K X.mg X.base CX k fI fd ["self", "thing"] (spSet X.K)) (hr : Room (k + 1) X.A) (hx : Passes CX X E0)
    (hb : ∀ u, SlBnd X.K fd [u] [] u) (hg : Gl X x) (hm : X.mg x = some (.ref C)) (he : PE X e te) {pins : List (Addr × Obj)} {σ : St} {H : Hp} {s : Shared} (I : Inv X pins σ H s) {R : V → Hp → Prop} (h : te σ H R)
    (hq : ∀ y H1 a dx s1 s', Inv X pins σ H1 s1 → R y H1 → SlGot X pins σ H1 s1 C a dx y s' → Q (.ref a) s') (hdb : (x == ("__debug__" : Str)) = false := by decide)
    (hs : starEach [e] X.env = (false, eval e X.env) :: starEach [] X.env := by rfl) : wpAny (model X.prog X.w) X.A (eval (.Call (.Name x p) [e] [] pos) X.env) Q X.xe s := by
  refine wpAny_Call_Name_kw (ld_glob I hg hm ?_ hdb)
  refine PySem.W.callWith_K (h₀ := X.base) I.ok.mod.kin M.T.kC ?_ hs (by rfl)
  rw [hs]
  show wpAny _ _ (spliced ((false, eval e X.env) :: backTo pos (starEach [] X.env))) _ _ s
  refine Calls.spliced_cons (thn (he.run pins s σ H _ I h) fun u s1 ⟨y, H1, I1, r1, q1⟩ => ?_)
  refine Calls.spliced_nil ⟨I1.kIn, ?_⟩
  show wpAny _ _ (call (.ref C) [u]) _ _ _
  exact sl_run M F hr hx (hb u) (by show 1 ≤ sizeLine; rw [sizeLine_eq]; omega) I1 r1 fun a dx s' G => hq y H1 a dx s1 s' I1 q1 G
theorem sl_kw {Q : Value → Shared → Prop} (M : SlM X.K C S fI) (F : FnOk X.prog X.w X.K X.mg X.base CX k fI fd ["self", "thing"] (spSet X.K)) (hr : Room (k + 1) X.A) (hx : Passes CX X E0)
    (hb : ∀ u, SlBnd X.K fd [] [("thing", u)] u) (hg : Gl X x) (hm : X.mg x = some (.ref C)) (he : PE X e te) {pins : List (Addr × Obj)} {σ : St} {H : Hp} {s : Shared} (I : Inv X pins σ H s) {R : V → Hp → Prop} (h : te σ H R)
    (hq : ∀ y H1 a dx s1 s', Inv X pins σ H1 s1 → R y H1 → SlGot X pins σ H1 s1 C a dx y s' → Q (.ref a) s') (hdb : (x == ("__debug__" : Str)) = false := by decide)
    (hall : (backToKw pos (keywordEach [⟨some "thing", e, kp⟩] X.env)).all (·.1.isSome) = true := by rfl) (hks : (backToKw pos (keywordEach [⟨some "thing", e, kp⟩] X.env)).filterMap (·.1) = [("thing" : Str)] := by rfl)
    (hpl : ((backTo pos (starEach [] X.env)).any (·.1) || (backToKw pos (keywordEach [⟨some "thing", e, kp⟩] X.env)).any (·.1.isNone)) = false := by rfl) :
    wpAny (model X.prog X.w) X.A (eval (.Call (.Name x p) [] [⟨some "thing", e, kp⟩] pos) X.env) Q X.xe s := by
  refine wpAny_Call_Name_kw (ld_glob I hg hm ?_ hdb)
  refine PySem.W.callWith_KW0 (h₀ := X.base) I.ok.mod.kin M.T.kC hall ?_ hpl
  have hk : PK X [⟨some "thing", e, kp⟩] (tCons te tNil) := pk_cons he pk_nil
  refine thn (hk.run pos pins s σ H (fun vs H1 => match vs with | [y] => R y H1 | _ => False) I h) fun ws s1 ⟨vs, H1, I1, rz, q1⟩ => ⟨I1.kIn, ?_⟩
  match vs, rz, q1 with
  | [y], rz, q1 =>
    obtain ⟨u, rfl, ry⟩ := vals1 rz
    rw [hks]
    show wpAny _ _ (call (.ref C) [] [("thing", u)]) _ _ _
    exact sl_run M F hr hx (hb u) (Nat.zero_le _) I1 ry fun a dx s' G => hq y H1 a dx s1 s' I1 q1 G
end
end L2
namespace L2
open PySem PySem.Spec PyProof.Rows
section
variable {X : Cx} {C S fI : Addr} {k : Nat} {fd : FuncData} {CX : CXT} {x : Str} {e : Expr} {te : TE} {p pos kp : Pos}
theorem pe_sl (M : SlM X.K C S fI) (F : FnOk X.prog X.w X.K X.mg X.base CX k fI fd ["self", "thing"] (spSet X.K)) (hr : Room (k + 1) X.A) (hx : Passes CX X E0)
    (hb : ∀ u, SlBnd X.K fd [u] [] u) (hm : X.mg x = some (.ref C)) (he : PE X e te) (hg : Gl X x := by rfl) (hdb : (x == ("__debug__" : Str)) = false := by decide)
    (hs : starEach [e] X.env = (false, eval e X.env) :: starEach [] X.env := by rfl) : PE X (.Call (.Name x p) [e] [] pos) (rNew C te) :=
  ⟨fun pins s σ H Q I h => sl_name M F hr hx hb hg hm he I h (fun y H1 a dx s1 s' I1 q G => ⟨.ref a, _, G.inv, rfl, q a dx G.na G.nd G.ne⟩) hdb hs⟩
theorem pe_slK (M : SlM X.K C S fI) (F : FnOk X.prog X.w X.K X.mg X.base CX k fI fd ["self", "thing"] (spSet X.K)) (hr : Room (k + 1) X.A) (hx : Passes CX X E0)
    (hb : ∀ u, SlBnd X.K fd [] [("thing", u)] u) (hm : X.mg x = some (.ref C)) (he : PE X e te) (hg : Gl X x := by rfl) (hdb : (x == ("__debug__" : Str)) = false := by decide)
    (hall : (backToKw pos (keywordEach [⟨some "thing", e, kp⟩] X.env)).all (·.1.isSome) = true := by rfl) (hks : (backToKw pos (keywordEach [⟨some "thing", e, kp⟩] X.env)).filterMap (·.1) = [("thing" : Str)] := by rfl)
    (hpl : ((backTo pos (starEach [] X.env)).any (·.1) || (backToKw pos (keywordEach [⟨some "thing", e, kp⟩] X.env)).any (·.1.isNone)) = false := by rfl) : PE X (.Call (.Name x p) [] [⟨some "thing", e, kp⟩] pos) (rNew C te) :=
  ⟨fun pins s σ H Q I h => sl_kw M F hr hx hb hg hm he I h (fun y H1 a dx s1 s' I1 q G => ⟨.ref a, _, G.inv, rfl, q a dx G.na G.nd G.ne⟩) hdb hall hks hpl⟩
theorem pmk_sl (M : SlM X.K C S fI) (F : FnOk X.prog X.w X.K X.mg X.base CX k fI fd ["self", "thing"] (spSet X.K)) (hr : Room (k + 1) X.A) (hx : Passes CX X E0)
    (hb : ∀ u, SlBnd X.K fd [u] [] u) (hm : X.mg x = some (.ref C)) (he : PE X e te) (hg : Gl X x := by rfl) (hdb : (x == ("__debug__" : Str)) = false := by decide)
    (hs : starEach [e] X.env = (false, eval e X.env) :: starEach [] X.env := by rfl) : PMk X (.Call (.Name x p) [e] [] pos) (rAir C te) :=
  fun pins s σ H Q I h => sl_name M F hr hx hb hg hm he I h (fun y H1 a dx s1 s' I1 q G => G.raised M I1 fun H' => q a dx H' G.na G.nd G.ne) hdb hs
theorem pmk_slK (M : SlM X.K C S fI) (F : FnOk X.prog X.w X.K X.mg X.base CX k fI fd ["self", "thing"] (spSet X.K)) (hr : Room (k + 1) X.A) (hx : Passes CX X E0)
    (hb : ∀ u, SlBnd X.K fd [] [("thing", u)] u) (hm : X.mg x = some (.ref C)) (he : PE X e te) (hg : Gl X x := by rfl) (hdb : (x == ("__debug__" : Str)) = false := by decide)
    (hall : (backToKw pos (keywordEach [⟨some "thing", e, kp⟩] X.env)).all (·.1.isSome) = true := by rfl) (hks : (backToKw pos (keywordEach [⟨some "thing", e, kp⟩] X.env)).filterMap (·.1) = [("thing" : Str)] := by rfl)
    (hpl : ((backTo pos (starEach [] X.env)).any (·.1) || (backToKw pos (keywordEach [⟨some "thing", e, kp⟩] X.env)).any (·.1.isNone)) = false := by rfl) : PMk X (.Call (.Name x p) [] [⟨some "thing", e, kp⟩] pos) (rAir C te) :=
  fun pins s σ H Q I h => sl_kw M F hr hx hb hg hm he I h (fun y H1 a dx s1 s' I1 q G => G.raised M I1 fun H' => q a dx H' G.na G.nd G.ne) hdb hall hks hpl
end
/-! ### an error that stands: tracked, or pinned with its dict tracked -/
/-- at a an error of the class at C is to be read, its thing v -/
def ErrIs (X : Cx) (H : Hp) (a C : Addr) (v : V) : Prop := ∀ (pins : List (Addr × Obj)) (σ : St) (s : Shared), Inv X pins σ H s →
  ∃ (oe od : Obj) (u : Value), PySem.W.InstAt s.heap a oe C (some od) ∧ PySem.W.lookIn "thing" od = some (some u) ∧ RelV v u
theorem thing_at {h : Heap} {dx : Addr} {v : V} {mA : Str → Option Value} (hns : h.Ns1 dx mA) (r : ∀ f, RelO (List.lookup f [(("thing" : Str), v)]) (mA f)) :
    ∃ (od : Obj) (u : Value), h.get? dx = some od ∧ PySem.W.lookIn "thing" od = some (some u) ∧ RelV v u := by
  obtain ⟨od, ho, hl⟩ := lookIn_ns hns
  have l : List.lookup ("thing" : Str) [(("thing" : Str), v)] = some v := by simp [List.lookup]
  obtain ⟨u, hu, ru⟩ := RelO.some_of (v := v) (o := mA "thing") (by rw [← l]; exact r "thing")
  exact ⟨od, u, ho, by rw [hl, hu], ru⟩
theorem ErrIs.tracked {X : Cx} {H : Hp} {a C dx : Addr} {v : V} (ha : H a = some (exo a C (some dx))) (hd : H dx = some (exd dx [("thing", v)])) : ErrIs X H a C v := fun pins σ s I => by
  obtain ⟨t1, ho⟩ := exo_at I.hok ha
  obtain ⟨mA, hns, r⟩ := exd_at I.hok hd
  obtain ⟨od, u, h1, h2, h3⟩ := thing_at hns r
  exact ⟨_, od, u, ⟨ho, rfl, rfl, h1⟩, h2, h3⟩
theorem ErrIs.pinned {X : Cx} {H : Hp} {a C dx : Addr} {v : V} {oe : Obj} (hp : (a, oe) ∈ X.pn) (hz : Zc (.ref C) (some dx) oe) (hf : ∃ vs, oe.data = .fields vs) (hd : H dx = some (.xd [("thing", v)])) : ErrIs X H a C v := fun pins σ s I => by
  obtain ⟨ho, _⟩ := I.pin (a, oe) (List.mem_append_left _ hp)
  obtain ⟨mA, hns, r⟩ := (show ObjOk X.prog X.w H s.heap dx (.xd [("thing", v)]) from I.hok dx _ hd)
  obtain ⟨od, u, h1, h2, h3⟩ := thing_at hns r
  obtain ⟨vs, hv⟩ := hf
  exact ⟨oe, od, u, ⟨ho, hz.1, by unfold PySem.W.notCls; rw [hv], by rw [hz.2]; exact h1⟩, h2, h3⟩
section
variable {X : Cx} {e : Expr} {te : TE} {pos : Pos}
theorem pe_thing (he : PE X e te) (hb : attributeBase e "thing" X.env (eval e X.env) = eval e X.env := by rfl) :
    PE X (.Attribute e "thing" pos) (fun σ H Q => te σ H fun x H1 => ∃ (a C S : Addr) (v : V), x = .ref a ∧ SlC X.K C S ∧ ErrIs X H1 a C v ∧ Q v H1) := by
  refine ⟨fun pins s σ H Q I h => ?_⟩
  refine attr_of hb (thn (he.run pins s σ H _ I h) fun u s1 ⟨x, H1, I1, rx, a, C, S, v, ex, T, er, q⟩ => ?_)
  subst ex
  obtain rfl : u = Value.ref a := rx
  obtain ⟨oe, od, u, J, hl, ru⟩ := er pins σ s1 I1
  exact HandSPX.exc_get I1.kIn J T.ga T.gg T.exC (PySem.W.findObj_own T.hd T.noT rfl hl) (handed_of ru) ⟨v, H1, I1.tok _, ru, q⟩
theorem sl_kit {a C S : Addr} {v : V} {H : Hp} {pins : List (Addr × Obj)} {σ : St} {s : Shared} (T : SlC X.K C S) (er : ErrIs X H a C v) (I : Inv X pins σ H s) :
    ∃ P : Heap → Prop, PySem.W.KitX X.K (.ref a) (.ref C) P ∧ P s.heap := by
  obtain ⟨oe, od, u, J, _, _⟩ := er pins σ s I
  obtain ⟨cd, hcl, _⟩ := T.clsIn
  exact ⟨_, PySem.W.kitx_exc (by rw [hcl]; rfl) T.ga T.gg T.exC T.hc T.hn T.ht T.hm, J⟩
/-- isinstance(error, T); isinstance(error, (T1, T2, ..)) -/
theorem call_isE1 : CallR X (.builtin "isinstance") (fun xs H Q => ∃ (a C S : Addr) (v c : V) (u : Value) (b : Bool), xs = [.ref a, c] ∧ ClsV c u ∧ SlC X.K C S ∧ ErrIs X H a C v ∧ PySem.W.kitOne X.K (.ref C) u = some b ∧ Q (.bl b) H) := by
  intro pins s σ H xs us Q I r h
  obtain ⟨a, C, S, v, c, u, b, rfl, k, T, er, e, q⟩ := h
  obtain ⟨u1, u2, rfl, r1, r2⟩ := vals2 r
  have e2 := k.eq r2
  subst e2
  cases (show u1 = Value.ref a from r1)
  obtain ⟨P, Z, p⟩ := sl_kit T er I
  exact PySem.W.kia_one Z I.kIn p e (fun z => nomatch z) fun tk => ⟨.bl b, H, I.tok tk, rfl, q⟩
theorem call_isET : CallR X (.builtin "isinstance") (fun xs H Q => ∃ (a C S tp : Addr) (v : V) (cs : List V) (us : List Value) (b : Bool), xs = [.ref a, .ref tp] ∧ H tp = some (.tup cs) ∧ Paired ClsV cs us ∧ SlC X.K C S ∧ ErrIs X H a C v ∧ PySem.W.kitAny X.K (.ref C) us = some b ∧ Q (.bl b) H) := by
  intro pins s σ H xs us Q I r h
  obtain ⟨a, C, S, tp, v, cs, ws, b, rfl, hT, k, T, er, e, q⟩ := h
  obtain ⟨u1, u2, rfl, r1, r2⟩ := vals2 r
  cases (show u1 = Value.ref a from r1)
  cases (show u2 = Value.ref tp from r2)
  obtain ⟨P, Z, p⟩ := sl_kit T er I
  obtain ⟨_, its, rv, o, h1, h2, n, h3⟩ := (show ObjOk X.prog X.w H s.heap tp (.tup cs) from I.hok tp _ hT)
  have e3 := ClsV.all k rv
  subst e3
  obtain ⟨oc, od, dt, sl⟩ := o
  simp only at h2 h3
  subst h2 h3
  exact PySem.W.kia_tup Z I.kIn p h1 e (fun z => nomatch z) fun tk => ⟨.bl b, H, I.tok tk, rfl, q⟩
end
end L2

namespace L2
open PySem PySem.Spec PyProof.Rows
/-! ### the two __init__ -/
def scpS : Scope := { kind := .function, names := [(PySem.Str.ofString "self", .local), (PySem.Str.ofString "thing", .local)], isGenerator := false, isCoroutine := false, more := [] }
def scpC : Scope := { kind := .function, names := [(PySem.Str.ofString "self", .local), (PySem.Str.ofString "thing", .local), (PySem.Str.ofString "SlopeError", .globalImplicit)], isGenerator := false, isCoroutine := false, more := [] }
def argsS (p1 p2 : Pos) (ds : List Expr) : Arguments := { posonlyargs := [], args := [{ arg := "self", annotation := none, pos := p1 }, { arg := "thing", annotation := none, pos := p2 }], vararg := none, kwonlyargs := [], kw_defaults := [], kwarg := none, defaults := ds }
def bodyS (q1 q2 q3 q4 : Pos) : List Stmt := [.Assign [.Attribute (.Name "self" q1) "thing" q2] (.Name "thing" q3) q4]
def bodyC (q1 q2 q3 q4 q5 q6 : Pos) : List Stmt := [.Expr (.Call (.Attribute (.Name "SlopeError" q1) "__init__" q2) [.Name "self" q3, .Name "thing" q4] [] q5) q6]
theorem fsS : FnScope ["self", "thing"] ["self", "thing"] scpS := ⟨rfl, rfl, rfl, by decide +kernel, rfl, by decide +kernel, by decide +kernel⟩
theorem fsC : FnScope ["self", "thing"] ["self", "thing"] scpC := ⟨rfl, rfl, rfl, by decide +kernel, rfl, by decide +kernel, by decide +kernel⟩
section
variable {P : Program} {w : World} {K : PySem.W.Frag} {mg : Str → Option Value} {base : Heap} {qual : Str} {f fS S : Addr} {fd fdS : FuncData} {p1 p2 q1 q2 q3 q4 q5 q6 : Pos} {ds : List Expr}
theorem ok_slS (F : FunD K "__init__" qual (argsS p1 p2 ds) (bodyS q1 q2 q3 q4) scpS [.non] [] f fd) : FnOk P w K mg base CX0 1 f fd ["self", "thing"] (spSet K) := by
  refine F.ok fsS (fun vs H Q E h => ?_) (fun cdv A outer s H vs Q E hr h => ?_)
  · obtain ⟨a, C, S, y, rfl, _⟩ := h
    rfl
  · obtain ⟨a, C, S, y, rfl, T, ha, k⟩ := h
    exact ⟨_, pss_one (ps_sto (pv 0) (pv 1)), _, rfl, _, rfl, a, C, S, rfl, T, ha, fun dx n ne => k dx n ne⟩
theorem bnd_slS (F : FunD K "__init__" qual (argsS p1 p2 ds) (bodyS q1 q2 q3 q4) scpS [.non] [] f fd) : Binds K fd ["self", "thing"] [] := by
  obtain ⟨es, r, b⟩ := F.binds1 (ps := ["self", "thing"]) 2 1 (by simp) rfl (fun T kV doc pm an cdv ct us its h1 h2 => by
    match us, its, h1, h2 with
    | [u, v], [d], _, _ => exact ⟨_, rfl, by rfl⟩)
  have e : es = [] := by cases r; rfl
  rw [e] at b
  exact b
theorem arm_slC {env : Env} (h : (q2.endLine == q5.line) = true) :
    eval (.Call (.Attribute (.Name "SlopeError" q1) "__init__" q2) [.Name "self" q3, .Name "thing" q4] [] q5) env = (do
      let ov ← eval (.Name "SlopeError" q1) env
      standAt q2.atName
      let (f, first) ← holding [ov] (getMethod ov "__init__" (do return (← importBound (.Name "SlopeError" q1) env).getD true))
      callWith q5 f first (backTo q5 (starEach [.Name "self" q3, .Name "thing" q4] env)) (backToKw q5 (keywordEach [] env))) := by
  show (do
    let ov ← eval (.Name "SlopeError" q1) env
    standAt q2.atName
    methodCall (.Name "SlopeError" q1) "__init__" q2 q5 env ov 2 (backTo q5 (starEach [.Name "self" q3, .Name "thing" q4] env)) (backToKw q5 (keywordEach [] env))) = _
  unfold methodCall methodCallPos
  rw [h]
  rfl
theorem ok_slC (hl : (q2.endLine == q5.line) = true) (F : FunD K "__init__" qual (argsS p1 p2 []) (bodyC q1 q2 q3 q4 q5 q6) scpC [] [] f fd) (B : SlB K mg S fS) (FS : FnOk P w K mg base CX0 1 fS fdS ["self", "thing"] (spSet K)) (bS : Binds K fdS ["self", "thing"] []) :
    FnOk P w K mg base CX0 2 f fd ["self", "thing"] (spSet K) := by
  refine F.ok fsC (fun vs H Q E h => ?_) (fun cdv A outer s H vs Q E hr h => ?_)
  · obtain ⟨a, C, S, y, rfl, _⟩ := h
    rfl
  · obtain ⟨a, C, S', y, rfl, T, ha, k⟩ := h
    refine ⟨_, pss_one (ps_expr (pe_slInit (E := E0) B FS hr bS pass0 rfl (pa_cons (pv 0) (pa_cons (pv 1) pa_nil)) (arm_slC hl))), ?_⟩
    exact ⟨_, rfl, _, rfl, a, C, S', y, rfl, T, ha, fun dx n ne => k dx n ne⟩
theorem bnd_sl1 (F : FunD K "__init__" qual (argsS p1 p2 []) (bodyC q1 q2 q3 q4 q5 q6) scpC [] [] f fd) (u : Value) : SlBnd K fd [u] [] u := by
  obtain ⟨oc, od, dV, kV, doc, pm, an, cdv, ct, osl, rfl, lk, hcd, hD, hK⟩ := F.ex
  rcases hD with ⟨_, rfl⟩ | ⟨e, _⟩
  · exact fun s x X => .of_eq (by rfl)
  · exact absurd rfl e
theorem bnd_slK (F : FunD K "__init__" qual (argsS p1 p2 []) (bodyC q1 q2 q3 q4 q5 q6) scpC [] [] f fd) (u : Value) : SlBnd K fd [] [("thing", u)] u := by
  obtain ⟨oc, od, dV, kV, doc, pm, an, cdv, ct, osl, rfl, lk, hcd, hD, hK⟩ := F.ex
  rcases hD with ⟨_, rfl⟩ | ⟨e, _⟩
  · exact fun s x X => .of_eq (by first | rfl | with_unfolding_all rfl | kernel_rfl)
  · exact absurd rfl e
end
end L2

namespace L2
open PySem PySem.Spec PyProof.Rows
/-! ### try: body, except A as n: .., except B as n: .. (one name for all clauses) -/
abbrev Suite := Addr → Value → Option Addr → TS
def endsAs (i : Nat) (D : Ends) : Ends := { nx := fun σ' H' => D.nx (σ'.set i none) H', rt := D.rt, bk := fun σ' H' => D.bk (σ'.set i none) H', ct := fun σ' H' => D.ct (σ'.set i none) H' }
def wSeq (K : PySem.W.Frag) (i : Nat) (Wout : WX) (D : Ends) : List (Value × Suite) → WX
  | [] => Wout
  | (c, ts) :: r => fun cls d σ H => ∃ b, PySem.W.exmOne K cls c = some b ∧ (b = true → ∀ a, H a = none → ts a cls d (endsAs i D) (σ.set i (some (.ref a))) H) ∧ (b = false → wSeq K i Wout D r cls d σ H)
inductive SeqOk (X : Cx) (n : Str) : List ExceptHandler → List (Value × Suite) → Prop
  | nil : SeqOk X n [] []
  | cons {x : Str} {c : Value} {ts : Suite} {b0 : Stmt} {suite : List Stmt} {np hp : Pos} {hds : List ExceptHandler} {l : List (Value × Suite)} (named : Names X x c)
      (does : ∀ (a : Addr) (oe : Obj) (cls : Value) (d : Option Addr) (pn : List (Addr × Obj)), Zc cls d oe → (∃ vs, oe.data = .fields vs) → PSs (X.suite a ((a, oe) :: pn)) (b0 :: suite) (ts a cls d)) (r : SeqOk X n hds l) :
      SeqOk X n (.ExceptHandler (some (.Name x np)) (some n) (b0 :: suite) hp :: hds) ((c, ts) :: l)
section
variable {X : Cx} {n : Str} {i : Nat} {body : List Stmt} {h0 : ExceptHandler} {hds : List ExceptHandler} {l : List (Value × Suite)} {pos : Pos} {tb : WX → TS} {Wout : WX}
theorem ps_try_seq (sta : X.stack = X.env :: X.outer) (own : X.env.frame = some X.env.locals) (nod : X.N.Nodup) (slot : X.N[i]? = some n) (loc : X.env.kindOf n = some .local) (tk : Takes X Wout)
    (hb : ∀ (W : WX) (pn : List (Addr × Obj)) (xe : Value → Shared → Prop), Takes (X.tr pn xe) W → PassesOwn (model X.prog X.w) X.A X.env xe → PSs (X.tr pn xe) body (tb W))
    (hh : SeqOk X n (h0 :: hds) l) : PS X (.Try body (h0 :: hds) [] [] pos) (fun D σ H => tb (wSeq X.K i Wout D l) D σ H) := by
  refine ⟨fun pins s σ H D I h => ?_⟩
  have fine := I.ok
  have frs0 : X.A.frames = some (X.env :: X.outer) := by rw [fine.frames, sta]
  refine wpAny_Try_except ?_
  refine wpAny_mono ((hb (wSeq X.K i Wout D l) (X.pn ++ pins) (fun e t1 => wpAny (model X.prog X.w) X.A (noteFrame e X.env) (fun _ t2 => wpAny (model X.prog X.w) X.A (setFlight e none)
    (fun _ t3 => wpAny (model X.prog X.w) X.A (handleBy e X.env (h0 :: hds)) (SP X pins D) X.xe t3) X.xe t2) X.xe t1) (fun u s' air => ?_) PassesOwn.looking).run [] s σ H D (I.toTry _) h) (fun f s1 got => ?_) (fun e s1 he => he)
  · obtain ⟨a, B, sI, pins', σ', H', cls, d, rfl, J', nb, up, sky, na, os, ag, wish⟩ := air
    have J : Inv X pins σ' H' sI := J'.ofTry fine
    have sky1 : Sky B (X.env :: X.outer) a (Zc cls d) X.env.locals s'.heap := by rw [← sta]; exact sky
    show wpAny (model X.prog X.w) X.A (noteFrame (.ref a) X.env) _ _ _
    refine Sky.land Zc.steady frs0 own sky1 fun k3 fl3 up3 => ?_
    have J3 : Inv X pins σ' H' { s' with heap := k3 } := J.landed nb fl3.1 (up.trans up3) os ag
    obtain ⟨oe3, vs3, he3, hz3, hd3⟩ := fl3.there
    have off : a ∉ frs (X.env :: X.outer) := fun hm => by
      obtain ⟨_, o', e', nof⟩ := fl3.2.2.1.mem hm
      rw [he3] at e'; cases e'
      exact nof _ hd3
    have offL : a ≠ X.env.locals := fun z => off (List.mem_filterMap.mpr ⟨X.env, List.mem_cons_self, by rw [own, z]⟩)
    have offF : a ∉ X.fs := fun hm => by
      obtain ⟨v, hv, q⟩ := List.mem_filterMap.mp hm
      exact off (List.mem_filterMap.mpr ⟨v, List.mem_cons_of_mem _ hv, q⟩)
    have S3 := J3.suite he3 hd3 na offL offF
    have walk : ∀ {hds' : List ExceptHandler} {l' : List (Value × Suite)}, SeqOk X n hds' l' → wSeq X.K i Wout D l' cls d σ' H' →
        wpAny (model X.prog X.w) X.A (handleBy (.ref a) X.env hds') (SP X pins D) X.xe { s' with heap := k3 } := by
      intro hds' l' hk
      induction hk with
      | nil =>
        intro wi
        refine wpAny_handleBy_nil ?_
        obtain ⟨z1, z2, z3, oe, vs, T, oT, ts', he, hz, hd, h1, hr⟩ := id fl3
        unfold PySem.passOn
        refine wpAny_bind (wpAny_field he hd h1 ?_); rw [if_neg (show ¬ ((Value.ref T == Value.none) = true) from by simp)]
        have fin : wpAny (model X.prog X.w) X.A (setFlight (.ref a) X.env.frame) (fun _ s4 => wpAny (model X.prog X.w) X.A (throw (.ref a) : Sem Flow) (SP X pins D) X.xe s4) X.xe { s' with heap := k3 } := by
          rw [own]
          refine HandSPX.setFlight_upZ fl3 fun k4 hk4 up4 => wpAny_throw (tk _ _ ?_)
          exact ⟨a, B, sI, pins, σ', H', cls, d, rfl, J, nb, (up.trans up3).trans up4, .inr (.inr (by rw [sta]; exact hk4)), na, os, ag, wi⟩
        first | exact wpAny_bind (wpAny_pure (wpAny_bind fin)) | exact wpAny_bind fin
      | @cons x c ts b0 suite np hp hds2 l2 named does r ih =>
        intro wi
        obtain ⟨b, eb, yes, no⟩ := wi
        refine wpAny_handleBy_cons (codeAny_handlers_test ?_) (by intro q; cases q)
        have lt : PySem.W.Looks (model X.prog X.w) k3 (typeOf (.ref a)) cls := fun A Q E s k q => wpAny_typeOf_ref (k _ _ he3) (by rw [hz3.1]; exact q)
        have lm := PySem.W.exm_one (M := model X.prog X.w) (J3.kIn) lt eb
        have names : ∀ {Q : Value → Shared → Prop} {E : Value → Shared → Prop}, Q c { s' with heap := k3 } → wpAny (model X.prog X.w) (X.A.mark (some (.ref a))) (eval (.Name x np) X.env) Q E { s' with heap := k3 } := fun {Q E} q => by
          obtain ⟨hg, nd, hm | ⟨hm, hv, hnn⟩⟩ := named
          · exact ld_glob (X := X.suite a ((a, oe3) :: (X.pn ++ pins))) S3 hg hm q nd
          · exact ld_blt (X := X.suite a ((a, oe3) :: (X.pn ++ pins))) S3 hg hm hv q hnn nd
        refine names (lm.here ?_)
        cases b with
        | true =>
          refine codeAny_handlers_suite_as ?_
          refine HandSPX.lands_againZ fl3 fun k4 fl4 up4 => ?_
          have J4 : Inv X pins σ' H' { s' with heap := k4 } := J.landed nb fl4.1 ((up.trans up3).trans up4) os ag
          obtain ⟨oe4, vs4, he4, hz4, hd4⟩ := fl4.there
          have S4 := J4.suite he4 hd4 na offL offF
          refine store_ok (X := X.suite a ((a, oe4) :: (X.pn ++ pins))) (v := .ref a) S4 nod slot (.inl loc) rfl (fun s5 S5 => ?_) (.inr loc)
          refine wpAny_mono ((does a oe4 cls d (X.pn ++ pins) hz4 ⟨_, hd4⟩).run [] s5 _ H' _ S5 (yes rfl a na)) (fun f s6 got => ?_) (fun _ _ z => False.elim z)
          have close : ∀ {σ6 : St} {H6 : Hp} {Q : Shared → Prop}, Inv (X.suite a ((a, oe4) :: (X.pn ++ pins))) [] σ6 H6 s6 → (∀ s7, Inv X pins (σ6.set i none) H6 s7 → Q s7) →
              wpAny (model X.prog X.w) X.A (do bindName X.env n .none; unbindBehindTheSuite X.env n hp) (fun _ s7 => Q s7) X.xe s6 := fun {σ6 H6 Q} S6 hq => gone_ok (S6.unsuite fine) nod slot loc hq
          cases f with
          | next => obtain ⟨σ6, H6, S6, q6⟩ := got; exact close S6 fun s7 J7 => ⟨_, _, J7, q6⟩
          | brk => obtain ⟨σ6, H6, S6, q6⟩ := got; exact close S6 fun s7 J7 => ⟨_, _, J7, q6⟩
          | cont => obtain ⟨σ6, H6, S6, q6⟩ := got; exact close S6 fun s7 J7 => ⟨_, _, J7, q6⟩
          | ret u => obtain ⟨v6, σ6, H6, S6, r6, q6⟩ := got; exact close S6 fun s7 J7 => ⟨_, _, _, J7, r6, q6⟩
        | false =>
          show wpAny _ X.A (handleBy (.ref a) X.env hds2) _ _ _
          exact ih (no rfl)
    exact walk hh wish
  · cases f with
    | next => obtain ⟨σ', H', J', q⟩ := got; exact wpAny_execs_nil ⟨σ', H', J'.ofTry fine, q⟩
    | brk => obtain ⟨σ', H', J', q⟩ := got; exact ⟨σ', H', J'.ofTry fine, q⟩
    | cont => obtain ⟨σ', H', J', q⟩ := got; exact ⟨σ', H', J'.ofTry fine, q⟩
    | ret u => obtain ⟨v, σ', H', J', r, q⟩ := got; exact ⟨v, σ', H', J'.ofTry fine, r, q⟩
end
/-! ### a def called within an except suite (nothing is raised there) -/
structure FnW (P : Program) (w : World) (K : PySem.W.Frag) (mg : Str → Option Value) (base : Heap) (k : Nat) (f : Addr) (fd : FuncData) (ps : List Str) (p : Addr × Obj) (sp : Sp) : Prop where
  len : ∀ vs H Q E, sp vs H Q E → vs.length = ps.length
  run : ∀ (A : Around) (outer : List Env) (s : Shared) (H : Hp) (args : Args) (us : List Value) (vs : List V) (Q : VK), L2H.RoomH k A → L2H.PinOk outer H s p → Env0 P w K mg base A outer s H → BindsTo s fd args (ps.zip us) → Vals vs us → sp vs H Q E0 →
    codeAny (model P w) A (.call (.ref f) args) (CR CX0 outer P w H s Q E0) s
theorem fn_warm {P : Program} {w : World} {K : PySem.W.Frag} {mg : Str → Option Value} {base : Heap} {k : Nat} {f : Addr} {name qual : Str} {st : Stmt} {fd : FuncData} {N ps : List Str} {p : Addr × Obj} {sp : Sp} (F : Fun K name qual st f fd) (S : FnScope N ps (defScope st))
    (len : ∀ vs H Q E, sp vs H Q E → vs.length = ps.length)
    (hbody : ∀ (cdv : Value) (A : Around) (outer : List Env) (s : Shared) (H : Hp) (vs : List V) (Q : VK), L2H.RoomH k (A.deeper (envOfC qual (defScope st) s.heap.objs.size f cdv)) → sp vs H Q E0 →
      ∃ t, PSs (L2H.cxH CX0 P w K mg base N qual (defScope st) f cdv A outer s H E0 p) (defBody st) t ∧ t { nx := fun _ H' => Q .non H', rt := Q } (L2.start N vs) H) :
    FnW P w K mg base (k + 1) f fd ps p sp := by
  obtain ⟨oc, od, kV, doc, pm, an, cdv, ct, osl, rfl, lk, hcd⟩ := F.ex
  refine ⟨len, fun A outer s H args us vs Q hr hpin e0 hb r hsp => ?_⟩
  have kin : K.In s.heap := e0.mod.kin.keeps fun b o e => (e0.bs b o e).1
  have lim : s.heap.NoLimit := e0.mod.nolimit.keeps fun b o e => (e0.bs b o e).1
  have kinds : ∀ y ∈ ps.zip us, (defScope st).names.lookup y.1 = some .local ∨ ((defScope st).names.lookup y.1 = some .cell ∧ ((cellsFrom (s.heap.objs.size + 1) (defScope st).names []).lookup y.1).isSome = true) := fun ⟨m, v⟩ hy =>
    (S.par m (List.of_mem_zip hy).1).elim .inl fun q => .inr ⟨q, PySem.W.cellsFrom_some _ _ _ (.inl q)⟩
  refine codeAny_call_function hr.depth (kin _ _ lk) rfl S.co S.gen rfl (PySem.W.codeRec_of kin hcd) (hb _ _ _ _ ?_)
  refine wpAny_newFunctionEnv_cells S.kind kinds fun env he s1 x => ?_
  subst he
  refine ⟨lim.keeps x.toInCall.keep, codeAny_func ?_⟩
  obtain ⟨t, ht, hq⟩ := hbody cdv A outer s H vs Q (hr.deeper _) hsp
  have I : Inv (L2H.cxH CX0 P w K mg base N qual (defScope st) f cdv A outer s H E0 p) [] (L2.start N vs) H s1 := L2H.inv_startH S hpin e0 (len _ _ _ _ hsp) r x
  refine wpAny_mono (ht.run [] s1 (L2.start N vs) H _ I hq) (fun fl s' got => ?_) fun e s' z => z
  cases fl with
  | ret u => obtain ⟨v, σ', H', J, rv, q⟩ := got; exact ⟨v, H', J.os, J.bare, J.base, J.hok, rv, q⟩
  | next => obtain ⟨σ', H', J, q⟩ := got; exact ⟨V.non, H', J.os, J.bare, J.base, J.hok, (rfl : Value.none = Value.none), q⟩
  | brk => obtain ⟨_, _, _, q⟩ := got; exact False.elim q
  | cont => obtain ⟨_, _, _, q⟩ := got; exact False.elim q
section
variable {X : Cx} {k : Nat} {f : Addr} {fd : FuncData} {ps : List Str} {sp : Sp} {x : Str} {q pos : Pos} {e : Expr} {es : List Expr} {t : TA} {p : Addr × Obj}
theorem pe_warm (F : FnW X.prog X.w X.K X.mg X.base k f fd ps p sp) (hr : L2H.RoomH k X.A) (hp : p ∈ X.pn) (hm : X.mg x = some (.ref f)) (hk : PySem.W.keepIn X.K (.ref f) = true) (hb : Binds X.K fd ps []) (ha : PA X (e :: es) t) (hg : Gl X x := by rfl)
    (hdb : (x == ("__debug__" : Str)) = false := by decide) (he : starEach (e :: es) X.env = (false, eval e X.env) :: starEach es X.env := by rfl) (hpl : (backTo pos (starEach es X.env)).any (·.1) = false := by rfl) :
    PE X (.Call (.Name x q) (e :: es) [] pos) (fun σ H Q => t σ H fun vs H1 => sp vs H1 Q E0) := by
  refine ⟨fun pins s σ H Q I h => ?_⟩
  refine wpAny_Call_Name_kw (ld_glob I hg hm ?_ hdb)
  refine PySem.W.callWith_K (h₀ := X.base) I.ok.mod.kin hk (thn (ha.run pos pins s σ H _ I h) fun us s1 ⟨vs, H1, I1, r, qq⟩ => ⟨I1.kIn, ?_⟩) he hpl
  have hl : us.length = ps.length := by rw [← r.length]; exact F.len _ _ _ _ qq
  have bb := hb s1 us I1.kIn (by rw [List.append_nil]; exact hl)
  rw [List.append_nil] at bb
  have pin := I1.pin p (List.mem_append_left _ hp)
  have pok : L2H.PinOk X.stack H1 s1 p := ⟨pin.1, pin.2.1, fun hm => (List.mem_cons.mp (I1.stkSub p.1 hm)).elim pin.2.2.1 pin.2.2.2.1, pin.2.2.2.2⟩
  refine wpAny_call (codeAny_mono (F.run X.A X.stack s1 H1 ⟨us, []⟩ us vs Q hr pok I1.env0 bb r qq) fun r s' hq => ?_)
  cases r with
  | error e => exact False.elim hq
  | ok fl =>
    cases fl with
    | ret u => exact I1.after hq
    | next => exact False.elim hq
    | brk => exact False.elim hq
    | cont => exact False.elim hq
end
end L2

namespace PySem
open Sem (wp)
/-! enumerate(v) with one argument, v by how its iterator begins -/
theorem meets_enum_one {v : Value} {o : Obj} {H : Heap → Prop} (B : Begins v o H) :
    Meets (Builtin.«enumerate.__new__» ⟨[.type "enumerate", v], []⟩) (fun _ R s => H s.heap ∧
      R (.ok (.ret (.ref (s.heap.push o).objs.size))) { s with heap := (s.heap.push o).push { cls := .type "enumerate", data := .fields #[.none, .bool false, .ref s.heap.objs.size, rawInt 0, .none, .none] } }) :=
  .of_wp fun prog w A R s h => by
    obtain ⟨hp, g, d, tk, os⟩ := s
    obtain ⟨h1, h⟩ := h
    have sub1 := sub_enumerate
    have its : ∀ {A' : Around} {E : Value → Shared → Prop} {Q : Value → Shared → Prop}, Q (.ref hp.objs.size) ⟨hp.push o, g, d, tk, os⟩ → wpAny (model prog w) A' (pyIter v) Q E ⟨hp, g, d, tk, os⟩ :=
      fun q => B.iter prog w _ _ ⟨hp, g, d, tk, os⟩ _ h1 q
    wp_walk using its
    refine wpAny_stack_any fun st => wpAny_pure ?_
    split
    · rename_i c _ _ _ _ _
      cases (c == Value.type "enumerate") <;> (wp_walk using its; exact ⟨_, rfl, h⟩)
    · wp_walk using its
      exact ⟨_, rfl, h⟩
theorem call_enum_one {prog : Program} {w : World} {A : Around} {E : Value → Shared → Prop} {s : Shared} {v : Value} {o : Obj} {H : Heap → Prop} {Q : Value → Shared → Prop} (B : Begins v o H) (h1 : H s.heap)
    (h : ∀ h', IsEnum h' (s.heap.objs.size + 1) s.heap.objs.size 0 .none → h'.get? s.heap.objs.size = some o → (∀ b u, s.heap.get? b = some u → h'.get? b = some u) → Q (.ref (s.heap.objs.size + 1)) { s with heap := h' }) :
    wpAny (model prog w) A (call (.type "enumerate") [v]) Q E s := by
  refine callType_new F.called_enumerate (by decide) (F.typeCall_enumerate_1 _) (F.newCall_enumerate_1 _) (fun obj => F.args_object_init_2 obj _) F.entry_enumerate_new (meets_enum_one B) ⟨h1, ?_⟩
  have hz : (s.heap.push o).objs.size = s.heap.objs.size + 1 := Heap.size_push ..
  show _ ∧ _
  rw [hz]
  have he : IsEnum ((s.heap.push o).push { cls := .type "enumerate", data := .fields #[.none, .bool false, .ref s.heap.objs.size, rawInt 0, .none, .none] }) (s.heap.objs.size + 1) s.heap.objs.size 0 .none := by
    have z := Heap.get?_push_size (s.heap.push o) (o := { cls := .type "enumerate", data := .fields #[.none, .bool false, .ref s.heap.objs.size, rawInt 0, .none, .none] }) rfl
    rw [hz] at z; exact z
  exact ⟨⟨_, he, rfl⟩, h _ he (Heap.get?_push_of_some _ (Heap.get?_push_size _ B.free)) fun b u x => Heap.get?_push_of_some _ (Heap.get?_push_of_some _ x)⟩
end PySem
namespace L2
open PySem PySem.Spec PyProof.Rows
/-- the tuple at a, each item in a new pair with its place -/
def ItT (K : PySem.W.Frag) (a : Addr) : It :=
  ⟨fun i H => ∃ (xs : List V) (x : V), SqT K H a xs ∧ xs[i]? = some x, fun i H v H' => ∃ T x, v = .ref T ∧ H T = none ∧ H' = upd H T (.tup [.int (i : Nat), x]) ∧ ∀ xs, SqT K H a xs → xs[i]? = some x, fun i H => ∃ xs : List V, SqT K H a xs ∧ xs.length = i⟩
theorem turn_pairs {P : Program} {w : World} {K : PySem.W.Frag} {elts : List Expr} {kk : Nat} {tpos : Pos} (a e it : Addr) (hea : e ≠ a) (hia : a ≠ it) :
    Turn P w K (.Tuple elts kk tpos) (ItT K a) [e, it] e (fun i h => (∃ old, IsEnum h e it ((i : Nat) : Int) old) ∧ h.IsTupleIter it a i ∧ e ≠ it) where
  mem := by simp
  obj := fun i h st b hb => by
    obtain ⟨⟨old, he⟩, ⟨o, ho, hc, hd⟩, _⟩ := st
    have eb : b = e ∨ b = it := by simpa using hb
    rcases eb with z | z
    · rw [z]; exact ⟨_, he, fun v q => nomatch q⟩
    · rw [z]; exact ⟨o, ho, fun v q => by rw [hd] at q; cases q⟩
  keep := fun i h h' st k => let ⟨⟨old, he⟩, ⟨o, ho, hc, hd⟩, hne⟩ := st; ⟨⟨old, k e (by simp) _ he⟩, ⟨o, k it (by simp) _ ho, hc, hd⟩, hne⟩
  item := by
    intro X hP hw hK hc i pins s σ H E I hf st hg
    subst hP hw hK
    obtain ⟨⟨old, he⟩, hit, hne⟩ := st
    obtain ⟨xs, x, hq, hx⟩ := hg
    obtain ⟨its, rv, p, hz⟩ := I.tuple hq
    obtain ⟨u, hu, ru⟩ := rv.get hx
    have hel : e < s.heap.objs.size := Heap.lt_size he
    have hil : it < s.heap.objs.size := by obtain ⟨_, q, _⟩ := hit; exact Heap.lt_size q
    have D := Draws.tuple (prog := X.prog) (w := X.w) (A := X.A.in1) (I.ok.hd hc) it a hia its.toArray
    have hlt : i < its.toArray.size := by
      have := (List.getElem?_eq_some_iff.mp hu).1
      simpa using this
    refine wpAny_pyNext_enum_itemD D he ⟨hit, p⟩ hlt hne (by simp [hne, hea]) fun x1 h' tk hx1 ho hit' hT hsz hk => ?_
    have ex : x1 = u := by
      have q : its.toArray[i]? = some x1 := hx1
      have q2 : its.toArray[i]? = some u := by simpa using hu
      rw [q] at q2
      exact Option.some.inj q2
    subst ex
    refine ⟨_, rfl, wpAny_letOwnedTupleGo_enum (s := { s with heap := h', toks := tk + 1 }) ho fun h'' he' sb => ?_⟩
    have hT2 : h''.get? s.heap.objs.size = some { cls := .type "tuple", data := .seq #[.int i tk, x1] } := (sb.2 _ (Nat.ne_of_gt hel)).trans hT
    have fresh : ObjOk X.prog X.w (upd H s.heap.objs.size (.tup [.int (i : Nat), x])) h'' s.heap.objs.size (.tup [.int (i : Nat), x]) :=
      ⟨by show 2 ≤ sizeLine; decide, [.int i tk, x1], .cons ⟨_, rfl⟩ (.cons ru .nil), ⟨_, hT2, rfl, _, rfl⟩⟩
    have I1 : Inv X pins σ (upd H s.heap.objs.size (.tup [.int (i : Nat), x])) { s with heap := h'', toks := tk + 1 } :=
      I.turnedNew (ch := [e, it]) (fun b ob hb q => (sb.2 b (fun z => hb (by simp [z]))).trans (hk b ob (fun z => hb (by simp [z])) (fun z => hb (by simp [z])) q)) hf (Nat.le_refl _) fresh
    refine ⟨.ref s.heap.objs.size, _, I1, rfl, ⟨_, x, rfl, I.hok.fresh (Nat.le_refl _), rfl, fun ys hy => by rw [I.tuple_inj hy hq]; exact hx⟩, ⟨⟨x1, ?_⟩, ?_, hne⟩, fun b hb => ?_⟩
    · have e1 : ((i + 1 : Nat) : Int) = (i : Int) + 1 := by omega
      rw [e1]; exact he'
    · obtain ⟨⟨o, ho2, hc2, hd2⟩, _⟩ := hit'
      exact ⟨o, (sb.2 it (Ne.symm hne)).trans ho2, hc2, hd2⟩
    · have hb' : b < s.heap.objs.size := by
        have eb : b = e ∨ b = it := by simpa using hb
        rcases eb with z | z
        · rw [z]; exact hel
        · rw [z]; exact hil
      rw [upd_ne (Nat.ne_of_lt hb')]
      exact (hf b hb).1
  done := by
    intro X hP hw hK hc i pins s σ H E I hf st hg
    subst hP hw hK
    obtain ⟨⟨old, he⟩, hit, hne⟩ := st
    obtain ⟨xs, hq, hx⟩ := hg
    obtain ⟨its, rv, p, hz⟩ := I.tuple hq
    obtain ⟨f0, f1, f2, f3, f4, f5⟩ := hf it (by simp)
    have D := Draws.tuple (prog := X.prog) (w := X.w) (A := X.A.in1) (I.ok.hd hc) it a hia its.toArray
    have hn : i = its.toArray.size := by
      have := rv.length
      simp only [List.size_toArray]
      omega
    subst hn
    exact wpAny_pyNext_enum_endD D he ⟨hit, p⟩ fun h' eb => ⟨rfl, I.turned (t' := s.toks) (fun b o hb q => eb b o hb q) f0 f1 f3 f4 f5⟩
  self := fun A i s Q E st h => let ⟨⟨_, he⟩, _⟩ := st; wpAny_pyIter_enum he h
/-- enumerate(e), e a list or a tuple -/
def iEnumA (K : PySem.W.Frag) (ta : TA) : TI := fun σ H R => ta σ H fun vs H1 => ∃ a xs, vs = [.ref a] ∧ ((SqL K H1 a xs ∧ R (Ite K a) H1) ∨ (SqT K H1 a xs ∧ R (ItT K a) H1))
theorem pi_enumA {X : Cx} {e : Expr} {ta : TA} {p pos tpos : Pos} {elts : List Expr} {kk : Nat} (hg : Gl X "enumerate") (hm : X.mg "enumerate" = none) (ha : PA X [e] ta) (hs : starEach [e] X.env = [(false, eval e X.env)] := by rfl) :
    PI X (.Tuple elts kk tpos) (.Call (.Name "enumerate" p) [e] [] pos) (iEnumA X.K ta) := by
  refine ⟨fun pins s σ H R I h => ?_⟩
  refine Call_ (ld_blt I hg hm boot_enumerate (PyProof.Rows.callWith_type1 (thn (ha.run pos pins s σ H _ I h) fun us s1 ⟨vs, H1, I1, r1, q1⟩ => ?_) hs rfl))
  obtain ⟨a, xs, ex, q⟩ := q1
  subst ex
  obtain ⟨u, rfl, ru⟩ := vals1 r1
  cases (show u = Value.ref a from ru)
  have place : ∀ b ∈ [s1.heap.objs.size + 1, s1.heap.objs.size], FpOk X pins H1 b → True := fun _ _ _ => trivial
  rcases q with ⟨hq, q⟩ | ⟨hq, q⟩
  · obtain ⟨its, rv, p', hz⟩ := I1.list hq
    refine call_enumerate_list p'.isList fun h' he hit hsz hk => wpAny_pyIter_enum he ?_
    have I2 : Inv X pins σ H1 { s1 with heap := h' } := I1.kept (t' := s1.toks) hk
    refine ⟨s1.heap.objs.size + 1, [s1.heap.objs.size + 1, s1.heap.objs.size], _, _, H1, rfl, I2, turn_enum a (s1.heap.objs.size + 1) s1.heap.objs.size, ⟨⟨.none, he⟩, hit, Nat.succ_ne_self _⟩, fun b hb => ?_, q⟩
    have eb : b = s1.heap.objs.size + 1 ∨ b = s1.heap.objs.size := by simpa using hb
    have hle : s1.heap.objs.size ≤ b := eb.elim (fun z => z ▸ Nat.le_add_right _ _) (fun z => z ▸ Nat.le_refl _)
    exact I1.fpOk hle (I1.hok.fresh hle)
  · obtain ⟨its, rv, p', hz⟩ := I1.tuple hq
    have hlt : a < s1.heap.objs.size := p'.lt
    refine call_enum_one (begins_tuple a its.toArray) p' fun h' he hit hk => wpAny_pyIter_enum he ?_
    have I2 : Inv X pins σ H1 { s1 with heap := h' } := I1.kept (t' := s1.toks) hk
    refine ⟨s1.heap.objs.size + 1, [s1.heap.objs.size + 1, s1.heap.objs.size], _, _, H1, rfl, I2, turn_pairs a (s1.heap.objs.size + 1) s1.heap.objs.size (Nat.ne_of_gt (Nat.lt_succ_of_lt hlt)) (Nat.ne_of_lt hlt), ⟨⟨.none, he⟩, ⟨_, hit, rfl, rfl⟩, Nat.succ_ne_self _⟩, fun b hb => ?_, q⟩
    have eb : b = s1.heap.objs.size + 1 ∨ b = s1.heap.objs.size := by simpa using hb
    have hle : s1.heap.objs.size ≤ b := eb.elim (fun z => z ▸ Nat.le_add_right _ _) (fun z => z ▸ Nat.le_refl _)
    exact I1.fpOk hle (I1.hok.fresh hle)
end L2

namespace L2
open PySem PySem.Spec PyProof.Rows
/-! ### defs that may show data: called where no text is being made (guards) -/
abbrev Idle (A : Around) : Prop := A.guards = some []
theorem Idle.deeper {A : Around} (g : Idle A) (env : Env) : Idle (A.deeper env) := by
  show A.guards = some []
  exact g
structure FnG (P : Program) (w : World) (K : PySem.W.Frag) (mg : Str → Option Value) (base : Heap) (k : Nat) (f : Addr) (fd : FuncData) (ps : List Str) (sp : Sp) : Prop where
  len : ∀ vs H Q E, sp vs H Q E → vs.length = ps.length
  run : ∀ (A : Around) (outer : List Env) (s : Shared) (H : Hp) (args : Args) (us : List Value) (vs : List V) (Q : VK), Room k A → Idle A → Env0 P w K mg base A outer s H → BindsTo s fd args (ps.zip us) → Vals vs us → sp vs H Q E0 →
    codeAny (model P w) A (.call (.ref f) args) (CR CX0 outer P w H s Q E0) s
theorem fn_idle {P : Program} {w : World} {K : PySem.W.Frag} {mg : Str → Option Value} {base : Heap} {k : Nat} {f : Addr} {name qual : Str} {st : Stmt} {fd : FuncData} {N ps : List Str} {sp : Sp} (F : Fun K name qual st f fd) (S : FnScope N ps (defScope st))
    (len : ∀ vs H Q E, sp vs H Q E → vs.length = ps.length)
    (hbody : ∀ (cdv : Value) (A : Around) (outer : List Env) (s : Shared) (H : Hp) (vs : List V) (Q : VK), Room k (A.deeper (envOfC qual (defScope st) s.heap.objs.size f cdv)) → Idle (A.deeper (envOfC qual (defScope st) s.heap.objs.size f cdv)) → sp vs H Q E0 →
      ∃ t, PSs (cxOf CX0 P w K mg base N qual (defScope st) f cdv A outer s H E0).nox (defBody st) t ∧ t { nx := fun _ H' => Q .non H', rt := Q } (L2.start N vs) H) :
    FnG P w K mg base (k + 1) f fd ps sp := by
  obtain ⟨oc, od, kV, doc, pm, an, cdv, ct, osl, rfl, lk, hcd⟩ := F.ex
  refine ⟨len, fun A outer s H args us vs Q hr hgd e0 hb r hsp => ?_⟩
  have kin : K.In s.heap := e0.mod.kin.keeps fun b o e => (e0.bs b o e).1
  have lim : s.heap.NoLimit := e0.mod.nolimit.keeps fun b o e => (e0.bs b o e).1
  have kinds : ∀ y ∈ ps.zip us, (defScope st).names.lookup y.1 = some .local ∨ ((defScope st).names.lookup y.1 = some .cell ∧ ((cellsFrom (s.heap.objs.size + 1) (defScope st).names []).lookup y.1).isSome = true) := fun ⟨m, v⟩ hy =>
    (S.par m (List.of_mem_zip hy).1).elim .inl fun q => .inr ⟨q, PySem.W.cellsFrom_some _ _ _ (.inl q)⟩
  refine codeAny_call_function hr.depth (kin _ _ lk) rfl S.co S.gen rfl (PySem.W.codeRec_of kin hcd) (hb _ _ _ _ ?_)
  refine wpAny_newFunctionEnv_cells S.kind kinds fun env he s1 x => ?_
  subst he
  refine ⟨lim.keeps x.toInCall.keep, codeAny_func ?_⟩
  obtain ⟨t, ht, hq⟩ := hbody cdv A outer s H vs Q (hr.deeper _) (hgd.deeper _) hsp
  have I : Inv (cxOf CX0 P w K mg base N qual (defScope st) f cdv A outer s H E0) [] (L2.start N vs) H s1 := inv_start S hr.hd e0 (len _ _ _ _ hsp) r x
  refine wpAny_mono (ht.nox.run [] s1 (L2.start N vs) H _ I hq) (fun fl s' got => ?_) fun e s' z => z
  cases fl with
  | ret u => obtain ⟨v, σ', H', J, rv, q⟩ := got; exact ⟨v, H', J.os, J.bare, J.base, J.hok, rv, q⟩
  | next => obtain ⟨σ', H', J, q⟩ := got; exact ⟨V.non, H', J.os, J.bare, J.base, J.hok, (rfl : Value.none = Value.none), q⟩
  | brk => obtain ⟨_, _, _, q⟩ := got; exact False.elim q
  | cont => obtain ⟨_, _, _, q⟩ := got; exact False.elim q
section
variable {X : Cx} {k : Nat} {f : Addr} {fd : FuncData} {ps : List Str} {sp : Sp} {x : Str} {q pos : Pos} {e : Expr} {es : List Expr} {t : TA}
theorem pe_idle (F : FnG X.prog X.w X.K X.mg X.base k f fd ps sp) (hr : Room k X.A) (hi : Idle X.A) (hm : X.mg x = some (.ref f)) (hk : PySem.W.keepIn X.K (.ref f) = true) (hb : Binds X.K fd ps []) (ha : PA X (e :: es) t) (hg : Gl X x := by rfl)
    (hdb : (x == ("__debug__" : Str)) = false := by decide) (he : starEach (e :: es) X.env = (false, eval e X.env) :: starEach es X.env := by rfl) (hpl : (backTo pos (starEach es X.env)).any (·.1) = false := by rfl) :
    PE X (.Call (.Name x q) (e :: es) [] pos) (fun σ H Q => t σ H fun vs H1 => sp vs H1 Q E0) := by
  refine ⟨fun pins s σ H Q I h => ?_⟩
  refine wpAny_Call_Name_kw (ld_glob I hg hm ?_ hdb)
  refine PySem.W.callWith_K (h₀ := X.base) I.ok.mod.kin hk (thn (ha.run pos pins s σ H _ I h) fun us s1 ⟨vs, H1, I1, r, qq⟩ => ⟨I1.kIn, ?_⟩) he hpl
  have hl : us.length = ps.length := by rw [← r.length]; exact F.len _ _ _ _ qq
  have bb := hb s1 us I1.kIn (by rw [List.append_nil]; exact hl)
  rw [List.append_nil] at bb
  refine wpAny_call (codeAny_mono (F.run X.A X.stack s1 H1 ⟨us, []⟩ us vs Q hr hi I1.env0 bb r qq) fun r s' hq => ?_)
  cases r with
  | error e => exact False.elim hq
  | ok fl =>
    cases fl with
    | ret u => exact I1.after hq
    | next => exact False.elim hq
    | brk => exact False.elim hq
    | cont => exact False.elim hq
end
/-! ### the law's own head for such a def -/
/-- the base has the object of all modules (so nothing tracked stands there) -/
def Sy (base : Heap) : Prop := ∃ o, base.get? sysModules = some o
theorem idle_law {P : Program} {w : World} {K : PySem.W.Frag} {mg mb : Str → Option Value} {k : Nat} {fa a : Addr} {fd : FuncData} {x : Str} {sp : Sp} {s1 : Shared} {vs : List Value} {ns : List Int}
    (inK : K.In s1.heap) (hn : s1.heap.Ns mainGlobals mg) (hb : s1.heap.Ns builtinsNs mb) (hm : ∀ y : Str, y ≠ "__name__" → mb y = bootBuiltins y) (lim : s1.heap.NoLimit) (hg : s1.gens = #[])
    (sc : s1.heap.get? a = some { cls := .type "list", data := .seq vs.toArray }) (hi : IntsAre vs ns) (small : ns.length ≤ sizeLine) (room : Room k callerA)
    (mods : ∃ mm, s1.heap.Ns sysModules mm)
    (F : ∀ base : Heap, K.In base → base.Ns mainGlobals mg → Sy base → FnG P w K mg base k fa fd [x] sp) (bnd : ∀ (s : Shared) (u : Value), BindsTo s fd ⟨[u], []⟩ [(x, u)])
    (prom : ∀ H : Hp, Only H → SqL K H a (ns.map V.int) → sp [.ref a] H (fun v _ => v = .bl true) E0) :
    codeAny (model P w) callerA (.call (.ref fa) ⟨[.ref a], []⟩) (fun r s' => r = .ok (.ret (.bool true)) ∧ OldK s1.heap s'.heap ∧ s'.os = s1.os ∧ AllBare s'.gens) s1 := by
  have rv := vals_ints hi
  have lv := hi.length
  have main : ∀ H : Hp, Only H → SqL K H a (ns.map V.int) → HOk P w H s1.heap → (∀ b, H b ≠ none → b = a) → (H a ≠ none → K.lookup a = none) →
      codeAny (model P w) callerA (.call (.ref fa) ⟨[.ref a], []⟩) (fun r s' => r = .ok (.ret (.bool true)) ∧ OldK s1.heap s'.heap ∧ s'.os = s1.os ∧ AllBare s'.gens) s1 := by
    intro H only sq hok just none_a
    have ns_of : ∀ {b : Addr} {m : Str → Option Value}, s1.heap.Ns b m → (hidT s1.heap H).Ns b m := by
      rintro b m ⟨o, es, ep, e, d, r⟩
      refine ⟨o, es, ep, hidT_get e ?_, d, r⟩
      cases q : H b with
      | none => rfl
      | some u =>
        obtain rfl := just b (by rw [q]; simp)
        rw [sc] at e
        cases e
        exact absurd d (by intro z; cases z)
    have k_of : K.In (hidT s1.heap H) := by
      intro b o e
      refine hidT_get (inK b o e) ?_
      cases q : H b with
      | none => rfl
      | some u =>
        obtain rfl := just b (by rw [q]; simp)
        rw [none_a (by rw [q]; simp)] at e
        cases e
    have md : Mod K mg (hidT s1.heap H) := by
      obtain ⟨mc, l1, l2⟩ := lim
      exact ⟨k_of, ns_of hn, ⟨mb, ns_of hb, hm⟩, ⟨mc, ns_of l1, l2⟩⟩
    have e0 : Env0 P w K mg (hidT s1.heap H) callerA [] s1 H :=
      { frames := rfl, mod := md, bs := fun b o e => of_hidT e, bsz := Nat.le_of_eq (hidT_size _ _), funs := trivial, frf := fun b hb => (List.not_mem_nil (show b ∈ ([] : List Addr) from hb)).elim, hok := hok, bare := .of_eq hg }
    have sy : Sy (hidT s1.heap H) := by
      obtain ⟨mm, hm⟩ := mods
      obtain ⟨o, es, ep, e, _⟩ := ns_of hm
      exact ⟨o, e⟩
    have go := (F _ k_of (ns_of hn) sy).run callerA [] s1 H ⟨[.ref a], []⟩ [.ref a] [.ref a] _ room rfl e0 (bnd s1 (.ref a)) (.cons rfl .nil) (prom H only sq)
    refine codeAny_mono go fun r s' out => ?_
    cases r with
    | error e => exact False.elim out
    | ok fl =>
      cases fl with
      | next => exact False.elim out
      | brk => exact False.elim out
      | cont => exact False.elim out
      | ret u =>
        obtain ⟨v, H', os, bare, un, hok', rel, ev⟩ := out
        cases (show v = .bl true from ev)
        cases (show u = Value.bool true from rel)
        refine ⟨rfl, OldK.of_keep fun b o e => ?_, os, bare⟩
        cases q : H b with
        | none => exact un.keep b o e q (fun z => List.not_mem_nil (show b ∈ ([] : List Addr) from z)) (by simp)
        | some u =>
          rcases only b with z | ⟨ob, xs, z⟩
          · rw [q] at z; cases z
          · obtain ⟨e1, _⟩ := hok b _ z
            obtain ⟨e2, _⟩ := hok' b _ (un.frzs b ob _ z)
            rw [e] at e1; cases e1
            exact e2
  cases hk : K.lookup a with
  | some o =>
    have e := inK a o hk
    rw [sc] at e
    cases e
    exact main (fun _ => none) (fun _ => .inl rfl) (.inr ⟨_, vs.toArray, _, hk, rfl, rfl, rfl, by rw [List.size_toArray, lv]; exact small, by simpa using rv⟩) (fun b u z => nomatch (show (none : Option HO) = some u from z)) (fun b z => (z rfl).elim) (fun z => (z rfl).elim)
  | none =>
    obtain ⟨G, hG⟩ : ∃ G : Hp, G = fun b => if b = a then some (.frz { cls := .type "list", data := .seq vs.toArray } (.lst (ns.map V.int))) else none := ⟨_, rfl⟩
    have at_a : G a = some (.frz { cls := .type "list", data := .seq vs.toArray } (.lst (ns.map V.int))) := by rw [hG]; exact if_pos rfl
    have off : ∀ b, b ≠ a → G b = none := fun b hb => by rw [hG]; exact if_neg hb
    refine main G (fun b => ?_) (.inl (.inr ⟨_, at_a⟩)) (fun b u z => ?_) (fun b z => ?_) (fun _ => hk)
    · by_cases hb : b = a
      · subst hb; exact .inr ⟨_, _, at_a⟩
      · exact .inl (off b hb)
    · by_cases hb : b = a
      · subst hb
        rw [at_a] at z
        cases z
        exact ⟨sc, by rw [List.length_map]; exact small, vs, _, rv, sc⟩
      · rw [off b hb] at z; cases z
    · by_cases hb : b = a
      · exact hb
      · exact absurd (off b hb) z
theorem walk_idle {l : PySem.W.OpenLaw} {n k : Nat} {q : Program} {loose : List Str} {XP : (Str → Option Value) → Heap → Prop} {YP : World → Heap → Prop} {d : DefRec} {K : Params → PySem.W.Frag} {sp : World → Sp} {x : Str}
    (hn : l.most = some n) (small : n ≤ sizeLine) (hd : d.params.defaults = []) (hq : importsNone q = true) (room : Room k callerA) (hY : ∀ (w : World) (h : Heap), YP w h → (K w.params).In h)
    (F : ∀ (w : World) (mg : Str → Option Value) (fa : Addr) (h : Heap), (K w.params).In h → h.Ns mainGlobals mg → mg d.name = some (.ref fa) →
      ∃ fd : FuncData, (∀ (s : Shared) (u : Value), BindsTo s fd ⟨[u], []⟩ [(x, u)]) ∧ ∀ base : Heap, (K w.params).In base → base.Ns mainGlobals mg → Sy base → FnG l.prog w (K w.params) mg base k fa fd [x] (sp w))
    (prom : ∀ (w : World) (H : Hp) (a : Addr) (ns : List Int), ns.length ≤ n → Only H → SqL (K w.params) H a (ns.map V.int) → sp w [.ref a] H (fun v _ => v = .bl true) E0) :
    PySem.W.WalkO q loose XP YP l.row.toRowW d [] (fun f vs => PySem.call f vs) := by
  refine Att.attach_call hn hd fun w s0 s1 mg mb fa o pm cd doc a vs ns G Y ho hd hcd hmg hobj hints hlen hg => ?_
  have inK := hY w _ Y
  obtain ⟨fd, hb, hF⟩ := F w mg fa _ inK G.T.g hmg
  exact idle_law inK G.T.g G.T.b G.T.builtins G.T.nolimit hg hobj hints (Nat.le_trans hlen small) room (let ⟨mm, h1, _⟩ := (G.T.seer hq).mods; ⟨mm, h1⟩) hF hb (fun H hO hS => prom w H a ns hlen hO hS)
end L2

namespace L2
open PySem PySem.Spec PyProof.Rows
/-! ### data: None, bools, ints, texts; lists, tuples, dicts (keys ints and texts) of such -/
def encK : Key → PyData
  | .inl i => .int i
  | .inr x => .str x
mutual
inductive Dn (H : Hp) : V → PyData → Prop
  | non : Dn H .non .none
  | bl (b : Bool) : Dn H (.bl b) (.bool b)
  | int (i : Int) : Dn H (.int i) (.int i)
  | str (x : Str) : Dn H (.str x) (.str x)
  | lst {a : Addr} {xs : List V} {ds : List PyData} : H a = some (.lst xs) → DnAll H xs ds → Dn H (.ref a) (.list ds)
  | tup {a : Addr} {xs : List V} {ds : List PyData} : H a = some (.tup xs) → DnAll H xs ds → Dn H (.ref a) (.tuple ds)
  | dct {a : Addr} {kvs : List (Key × V)} {ds : List (PyData × PyData)} : H a = some (.dK kvs) → DnKv H kvs ds → Dn H (.ref a) (.dict ds)
inductive DnAll (H : Hp) : List V → List PyData → Prop
  | nil : DnAll H [] []
  | cons {v : V} {vs : List V} {d : PyData} {ds : List PyData} : Dn H v d → DnAll H vs ds → DnAll H (v :: vs) (d :: ds)
inductive DnKv (H : Hp) : List (Key × V) → List (PyData × PyData) → Prop
  | nil : DnKv H [] []
  | cons {k : Key} {v : V} {r : List (Key × V)} {d : PyData} {ds : List (PyData × PyData)} : Dn H v d → DnKv H r ds → DnKv H ((k, v) :: r) ((encK k, d) :: ds)
end
section
variable {H H' : Hp}
mutual
theorem Dn.mono (h : Same H H') : ∀ (d : PyData) (v : V), Dn H v d → Dn H' v d
  | .none, _, q => by cases q; exact .non
  | .bool b, _, q => by cases q; exact .bl b
  | .int i, _, q => by cases q; exact .int i
  | .str x, _, q => by cases q; exact .str x
  | .list ds, _, q => by
    cases q with
    | lst e r => exact .lst (h _ _ e) (DnAll.mono h ds _ r)
  | .tuple ds, _, q => by
    cases q with
    | tup e r => exact .tup (h _ _ e) (DnAll.mono h ds _ r)
  | .dict ds, _, q => by
    cases q with
    | dct e r => exact .dct (h _ _ e) (DnKv.mono h ds _ r)
theorem DnAll.mono (h : Same H H') : ∀ (ds : List PyData) (vs : List V), DnAll H vs ds → DnAll H' vs ds
  | [], _, q => by cases q; exact .nil
  | d :: ds, _, q => by
    cases q with
    | cons a b => exact .cons (Dn.mono h d _ a) (DnAll.mono h ds _ b)
theorem DnKv.mono (h : Same H H') : ∀ (ds : List (PyData × PyData)) (vs : List (Key × V)), DnKv H vs ds → DnKv H' vs ds
  | [], _, q => by cases q; exact .nil
  | (_, d) :: ds, _, q => by
    cases q with
    | cons a b => exact .cons (Dn.mono h d _ a) (DnKv.mono h ds _ b)
end
end
theorem sys_new {X : Cx} {pins : List (Addr × Obj)} {σ : St} {H : Hp} {s : Shared} (sy : Sy X.base) (I : Inv X pins σ H s) {a : Addr} {o : HO} (e : H a = some o) : a ≠ sysModules := by
  rintro rfl
  obtain ⟨o', eo⟩ := sy
  rw [(I.env0.bs _ _ eo).2] at e
  cases e
theorem enc_reads {P : Program} {w : World} {h : Heap} (k : Key) (key : Value) (e : (mixKind P w).is k key = true) : Reads h key (encK k) [] := by
  rcases keyIs_shape (show keyIs k key = true from e) with ⟨i, t, rfl, rfl⟩ | ⟨x, t, rfl, rfl⟩
  · exact Reads.int i t
  · exact Reads.str x t
section
variable {X : Cx} {pins : List (Addr × Obj)} {σ : St} {H : Hp} {s : Shared}
mutual
theorem Dn.reads (sy : Sy X.base) (I : Inv X pins σ H s) : ∀ (d : PyData) (v : V) (u : Value), Dn H v d → RelV v u → ∃ as, Reads s.heap u d as ∧ sysModules ∉ as
  | .none, _, _, h, r => by
    cases h
    cases r
    exact ⟨_, Reads.none, by simp⟩
  | .bool b, _, _, h, r => by
    cases h
    cases r
    exact ⟨_, Reads.bool b, by simp⟩
  | .int i, _, _, h, r => by
    cases h
    obtain ⟨t, rfl⟩ := r
    exact ⟨_, Reads.int i t, by simp⟩
  | .str x, _, _, h, r => by
    cases h
    obtain ⟨t, rfl⟩ := r
    exact ⟨_, Reads.str x t, by simp⟩
  | .list ds, _, _, h, r => by
    cases h with
    | lst hs ha =>
      cases r
      obtain ⟨its, rv, ⟨o, n, ho, hc, _, hd⟩, _⟩ := I.list (SqL.of (K := X.K) hs)
      obtain ⟨as, hr, nm⟩ := DnAll.reads sy I ds _ its ha rv
      refine ⟨_, Reads.list ho hc hd hr, fun z => ?_⟩
      exact (List.mem_cons.mp z).elim (fun e => sys_new sy I hs e.symm) nm
  | .tuple ds, _, _, h, r => by
    cases h with
    | tup hs ha =>
      cases r
      obtain ⟨its, rv, ⟨o, ho, hc, n, hd⟩, _⟩ := I.tuple (SqT.of (K := X.K) hs)
      obtain ⟨as, hr, nm⟩ := DnAll.reads sy I ds _ its ha rv
      exact ⟨_, Reads.tuple ho hc hd hr, nm⟩
  | .dict ds, _, _, h, r => by
    cases h with
    | dct hs ha =>
      cases r
      obtain ⟨_, _, vs, rv, hd⟩ := dk_of I.hok hs
      obtain ⟨bs, hr, nm⟩ := DnKv.reads sy I ds _ vs ha rv
      refine ⟨_, PyProof.V.reads_dictOf (fun k key e => enc_reads k key e) hd hr, fun z => ?_⟩
      exact (List.mem_cons.mp z).elim (fun e => sys_new sy I hs e.symm) nm
theorem DnAll.reads (sy : Sy X.base) (I : Inv X pins σ H s) : ∀ (ds : List PyData) (vs : List V) (us : List Value), DnAll H vs ds → Vals vs us → ∃ as, ReadsAll s.heap us ds as ∧ sysModules ∉ as
  | [], _, _, h, r => by
    cases h
    cases r
    exact ⟨_, ReadsAll.nil, by simp⟩
  | d :: ds, _, _, h, r => by
    cases h with
    | cons h1 h2 =>
      cases r with
      | cons r1 r2 =>
        obtain ⟨as, q1, n1⟩ := Dn.reads sy I d _ _ h1 r1
        obtain ⟨bs, q2, n2⟩ := DnAll.reads sy I ds _ _ h2 r2
        exact ⟨_, ReadsAll.cons q1 q2, fun z => (List.mem_append.mp z).elim n1 n2⟩
theorem DnKv.reads (sy : Sy X.base) (I : Inv X pins σ H s) : ∀ (ds : List (PyData × PyData)) (kvs : List (Key × V)) (us : List (Key × Value)), DnKv H kvs ds → KV kvs us → ∃ as, PyProof.V.PairsRead s.heap encK us ds as ∧ sysModules ∉ as
  | [], _, _, h, r => by
    cases h
    cases r
    exact ⟨_, .nil, by simp⟩
  | (_, d) :: ds, _, _, h, r => by
    cases h with
    | cons h1 h2 =>
      cases r with
      | @cons _ y _ ys r1 r2 =>
        obtain ⟨k', u⟩ := y
        obtain ⟨e1, r1'⟩ := r1
        obtain ⟨as, q1, n1⟩ := Dn.reads sy I d _ _ h1 r1'
        obtain ⟨bs, q2, n2⟩ := DnKv.reads sy I ds _ _ h2 r2
        cases e1
        exact ⟨_, .cons q1 q2, fun z => (List.mem_append.mp z).elim n1 n2⟩
end
/-- repr(x), x such data: its text -/
theorem call_repr (sy : Sy X.base) (hi : Idle X.A) (hu : X.A.units + 70 < cLine) : CallR X (.builtin "repr") (fun xs H Q => ∃ (x : V) (d : PyData), xs = [x] ∧ Dn H x d ∧ d.showable = true ∧ d.depth ≤ 64 ∧ d.shown.length ≤ sizeLine ∧ Q (.str d.shown) H) := by
  intro pins s σ H xs us Q I r h
  obtain ⟨x, d, rfl, hx, hs, hd, hz, q⟩ := h
  obtain ⟨u, rfl, ru⟩ := vals1 r
  cases hx with
  | non => cases ru; exact PySem.P.repr_of_none ⟨.str _, H, I.tok _, ⟨_, rfl⟩, by simpa only [PyData.shown] using q⟩
  | bl b => cases ru; exact PySem.P.repr_of_bool ⟨.str _, H, I.tok _, ⟨_, rfl⟩, by simpa only [PyData.shown] using q⟩
  | int i =>
    obtain ⟨t, rfl⟩ := ru
    exact PySem.P.repr_of_int (by simpa [PyData.showable] using hs) ⟨.str _, H, I.tok _, ⟨_, rfl⟩, by simpa only [PyData.shown] using q⟩
  | str y =>
    obtain ⟨t, rfl⟩ := ru
    exact PySem.P.repr_of_str ⟨.str _, H, I.tok _, ⟨_, rfl⟩, by simpa only [PyData.shown] using q⟩ (by simpa only [PyData.shown] using hz)
  | lst e ha =>
    cases ru
    obtain ⟨as, rd, nm⟩ := Dn.reads sy I _ _ _ (.lst e ha) rfl
    exact PySem.repr_of_reads' rd hs (fun _ => nm) hi (by omega) (fun _ _ z => z) (fun h' t tk k => ⟨.str _, H, I.kept (t' := tk) k, ⟨_, rfl⟩, q⟩) hz
  | tup e ha =>
    cases ru
    obtain ⟨as, rd, nm⟩ := Dn.reads sy I _ _ _ (.tup e ha) rfl
    exact PySem.repr_of_reads' rd hs (fun _ => nm) hi (by omega) (fun _ _ z => z) (fun h' t tk k => ⟨.str _, H, I.kept (t' := tk) k, ⟨_, rfl⟩, q⟩) hz
  | dct e ha =>
    cases ru
    obtain ⟨as, rd, nm⟩ := Dn.reads sy I _ _ _ (.dct e ha) rfl
    exact PySem.repr_of_reads' rd hs (fun _ => nm) hi (by omega) (fun _ _ z => z) (fun h' t tk k => ⟨.str _, H, I.kept (t' := tk) k, ⟨_, rfl⟩, q⟩) hz
end
end L2

namespace L2
open PySem PySem.Spec PyProof.Rows
/-- data with a text of at most m signs, at most n deep -/
structure Okd (m n : Nat) (d : PyData) : Prop where
  sh : d.showable = true
  dp : d.depth ≤ n
  ln : d.shown.length ≤ m
theorem Okd.mono {m n m' n' : Nat} {d : PyData} (h : Okd m n d) (hm : m ≤ m') (hn : n ≤ n') : Okd m' n' d := ⟨h.sh, Nat.le_trans h.dp hn, Nat.le_trans h.ln hm⟩
theorem ok_all {m n : Nat} : ∀ {ds : List PyData}, (∀ d ∈ ds, Okd m n d) → PyData.showableAll ds = true ∧ PyData.depthAll ds ≤ n ∧ piled (PyData.shownAll ds) ≤ ds.length * (m + 2) ∧ (PyData.shownAll ds).length = ds.length
  | [], _ => by simp [PyData.showableAll, PyData.depthAll, PyData.shownAll, piled]
  | d :: ds, h => by
    obtain ⟨a, b, c, e⟩ := ok_all (ds := ds) fun x hx => h x (List.mem_cons_of_mem _ hx)
    have q := h d List.mem_cons_self
    have q1 := q.sh
    have q2 := q.dp
    have q3 := q.ln
    refine ⟨by simp [PyData.showableAll, q1, a], by simp only [PyData.depthAll]; omega, ?_, by simp [PyData.shownAll, e]⟩
    simp only [PyData.shownAll, piled_cons, List.length_cons]
    rw [Nat.succ_mul]
    omega
theorem text_up : ∀ (ts : List Str) (k : Nat) (acc : Str), (textFrom k acc ts).length ≤ acc.length + piled ts
  | [], k, acc => by simp [textFrom, piled]
  | t :: r, k, acc => by
    have h := text_up r (k + 1) (acc ++ (if k > 0 then ", " else "" : String) ++ t)
    have e : (acc ++ (if k > 0 then ", " else "" : String) ++ t).length = acc.length + (if k > 0 then 2 else 0) + t.length := by
      rw [strLen_append, strLen_append]
      by_cases c : k > 0
      · rw [if_pos c, if_pos c]; rfl
      · rw [if_neg c, if_neg c]; rfl
    rw [e] at h
    rw [piled_cons]
    show (textFrom (k + 1) _ r).length ≤ _
    have e4 : (if k > 0 then 2 else 0) ≤ 2 := by split <;> omega
    omega
theorem join_up (ts : List Str) : (Str.join ", " ts).length ≤ piled ts := by
  by_cases h : ts = []
  · subst h; simp [piled, Str.join]; decide
  · have := join_length_add ts h; omega
theorem okd_non : Okd 4 0 .none := ⟨rfl, by simp [PyData.depth], by simp only [PyData.shown]; decide⟩
theorem okd_bl (b : Bool) : Okd 5 0 (.bool b) := ⟨rfl, by simp [PyData.depth], by cases b <;> simp only [PyData.shown] <;> decide⟩
theorem okd_int {i : Int} (h : i.natAbs.log2 < 1920) : Okd 1921 0 (.int i) := ⟨by simpa [PyData.showable] using h, by simp [PyData.depth], by simp only [PyData.shown]; exact int_text_len_1921 h⟩
theorem okd_str {x : Str} {m : Nat} (h : (reprText x).length ≤ m) : Okd m 0 (.str x) := ⟨rfl, by simp [PyData.depth], by simpa only [PyData.shown] using h⟩
theorem okd_list {m n : Nat} {ds : List PyData} (h : ∀ d ∈ ds, Okd m n d) : Okd (ds.length * (m + 2) + 2) (n + 1) (.list ds) := by
  obtain ⟨a, b, c, e⟩ := ok_all h
  refine ⟨by simpa [PyData.showable] using a, by simp only [PyData.depth]; omega, ?_⟩
  simp only [PyData.shown, listText]
  rw [strLen_append]
  have := text_up (PyData.shownAll ds) 0 "["
  have e1 : (("[" : String) : Str).length = 1 := rfl
  have e2 : (("]" : String) : Str).length = 1 := rfl
  omega
theorem okd_tup {m n : Nat} {ds : List PyData} (h : ∀ d ∈ ds, Okd m n d) : Okd (ds.length * (m + 2) + 3) (n + 1) (.tuple ds) := by
  obtain ⟨a, b, c, e⟩ := ok_all h
  refine ⟨by simpa [PyData.showable] using a, by simp only [PyData.depth]; omega, ?_⟩
  simp only [PyData.shown, tupleText]
  rw [strLen_append, strLen_append]
  have := join_up (PyData.shownAll ds)
  have e1 : (("(" : String) : Str).length = 1 := rfl
  have e2 : (((if (PyData.shownAll ds).length == 1 then ",)" else ")" : String) : String) : Str).length ≤ 2 := by
    by_cases z : ((PyData.shownAll ds).length == 1) = true
    · rw [if_pos z]; decide
    · rw [if_neg z]; decide
  omega
theorem okd_dict2 {m1 m2 m3 m4 n : Nat} {a b c d : PyData} (h1 : Okd m1 n a) (h2 : Okd m2 n b) (h3 : Okd m3 n c) (h4 : Okd m4 n d) : Okd (m1 + m2 + m3 + m4 + 12) (n + 1) (.dict [(a, b), (c, d)]) := by
  have s1 := h1.sh
  have s2 := h2.sh
  have s3 := h3.sh
  have s4 := h4.sh
  have d1 := h1.dp
  have d2 := h2.dp
  have d3 := h3.dp
  have d4 := h4.dp
  have l1 := h1.ln
  have l2 := h2.ln
  have l3 := h3.ln
  have l4 := h4.ln
  refine ⟨by simp [PyData.showable, PyData.showableKv, s1, s2, s3, s4], by simp only [PyData.depth, PyData.depthKv]; omega, ?_⟩
  simp only [PyData.shown, PyData.shownKv, dictText]
  rw [strLen_append, strLen_append]
  have := join_up [a.shown ++ ": " ++ b.shown, c.shown ++ ": " ++ d.shown]
  simp only [piled_cons, piled_nil, strLen_append] at this
  have e1 : (("{" : String) : Str).length = 1 := rfl
  have e2 : (("}" : String) : Str).length = 1 := rfl
  have e3 : ((": " : String) : Str).length = 2 := rfl
  omega
theorem piled_two (ts : List Str) : 2 * ts.length ≤ piled ts := by
  induction ts with
  | nil => simp [piled]
  | cons t r ih => rw [piled_cons, List.length_cons]; omega
theorem okd_short {m n : Nat} {ds : List PyData} (h : Okd m n (.tuple ds)) : 2 * ds.length ≤ m + 1 := by
  have hl := h.ln
  simp only [PyData.shown, tupleText] at hl
  rw [strLen_append, strLen_append] at hl
  have e1 : (("(" : String) : Str).length = 1 := rfl
  have len : (PyData.shownAll ds).length = ds.length := by
    clear hl h
    induction ds with
    | nil => simp [PyData.shownAll]
    | cons d r ih => simp [PyData.shownAll, ih]
  by_cases z : PyData.shownAll ds = []
  · rw [z] at len; simp at len; rw [← len]; simp
  · have h1 := join_length_add _ z
    have h2 := piled_two (PyData.shownAll ds)
    omega
/-- nice data at v -/
def NiceD (H : Hp) (m n : Nat) (v : V) : Prop := ∃ d, Dn H v d ∧ Okd m n d
theorem NiceD.mono {H H' : Hp} {m n m' n' : Nat} {v : V} (h : NiceD H m n v) (s : Same H H') (hm : m ≤ m') (hn : n ≤ n') : NiceD H' m' n' v :=
  let ⟨d, a, b⟩ := h; ⟨d, Dn.mono s d v a, b.mono hm hn⟩
theorem dn_of : ∀ {H : Hp} {m n : Nat} {vs : List V}, (∀ v ∈ vs, NiceD H m n v) → ∃ ds, DnAll H vs ds ∧ (∀ d ∈ ds, Okd m n d) ∧ ds.length = vs.length
  | _, _, _, [], _ => ⟨[], .nil, by simp, rfl⟩
  | H, m, n, v :: vs, h => by
    obtain ⟨d, a, b⟩ := h v List.mem_cons_self
    obtain ⟨ds, x, y, z⟩ := dn_of (vs := vs) fun u hu => h u (List.mem_cons_of_mem _ hu)
    exact ⟨d :: ds, .cons a x, fun e he => (List.mem_cons.mp he).elim (fun q => q ▸ b) (y e), by rw [List.length_cons, List.length_cons, z]⟩
theorem nd_list {H : Hp} {m n : Nat} {a : Addr} {vs : List V} (e : H a = some (.lst vs)) (h : ∀ v ∈ vs, NiceD H m n v) : NiceD H (vs.length * (m + 2) + 2) (n + 1) (.ref a) := by
  obtain ⟨ds, x, y, z⟩ := dn_of h
  exact ⟨.list ds, .lst e x, by rw [← z]; exact okd_list y⟩
theorem nd_tup {H : Hp} {m n : Nat} {a : Addr} {vs : List V} (e : H a = some (.tup vs)) (h : ∀ v ∈ vs, NiceD H m n v) : NiceD H (vs.length * (m + 2) + 3) (n + 1) (.ref a) := by
  obtain ⟨ds, x, y, z⟩ := dn_of h
  exact ⟨.tuple ds, .tup e x, by rw [← z]; exact okd_tup y⟩
theorem nd_int {H : Hp} {i : Int} (h : i.natAbs.log2 < 1920) : NiceD H 1921 0 (.int i) := ⟨_, .int i, okd_int h⟩
theorem nd_bl (H : Hp) (b : Bool) : NiceD H 5 0 (.bl b) := ⟨_, .bl b, okd_bl b⟩
theorem nd_non (H : Hp) : NiceD H 4 0 .non := ⟨_, .non, okd_non⟩
theorem nd_str {H : Hp} {x : Str} {m : Nat} (h : (reprText x).length ≤ m) : NiceD H m 0 (.str x) := ⟨_, .str x, okd_str h⟩
theorem nd_dict2 {H : Hp} {m1 m2 m3 m4 n : Nat} {a : Addr} {k1 k2 : Key} {x y : V} (e : H a = some (.dK [(k1, x), (k2, y)])) (h1 : Okd m1 n (encK k1)) (hx : NiceD H m2 n x) (h2 : Okd m3 n (encK k2)) (hy : NiceD H m4 n y) : NiceD H (m1 + m2 + m3 + m4 + 12) (n + 1) (.ref a) := by
  obtain ⟨d1, p1, q1⟩ := hx
  obtain ⟨d2, p2, q2⟩ := hy
  exact ⟨.dict [(encK k1, d1), (encK k2, d2)], .dct e (.cons p1 (.cons p2 .nil)), okd_dict2 h1 q1 h2 q2⟩
theorem DnAll.length {H : Hp} : ∀ {xs : List V} {ds : List PyData}, DnAll H xs ds → xs.length = ds.length
  | _, _, .nil => rfl
  | _, _, .cons _ r => by rw [List.length_cons, List.length_cons, DnAll.length r]
theorem DnAll.at_ {H : Hp} : ∀ {xs : List V} {ds : List PyData} {i : Nat} {x : V}, DnAll H xs ds → xs[i]? = some x → ∃ d, ds[i]? = some d ∧ Dn H x d
  | _, _, _, _, .nil, e => by simp at e
  | _, _, 0, _, .cons a r, e => by cases (show some _ = some _ from e); exact ⟨_, rfl, a⟩
  | _, _, i + 1, x, .cons _ r, e => DnAll.at_ (i := i) r e
end L2

namespace N2
/-- no square above 1 divides n -/
def SqF (n : Nat) : Prop := ∀ q, 2 ≤ q → ¬ q * q ∣ n
theorem sqf_one : SqF 1 := fun q h d => by
  have := Nat.le_of_dvd (by decide) d
  have : 2 * 2 ≤ q * q := Nat.mul_le_mul h h
  omega
/-- no number from 2 to p - 1 divides s -/
def Low (p s : Nat) : Prop := ∀ q, 2 ≤ q → q < p → ¬ q ∣ s
theorem low_two (s : Nat) : Low 2 s := fun q h1 h2 => by omega
theorem Low.dvd {p s t : Nat} (h : Low p s) (d : t ∣ s) : Low p t := fun q h1 h2 e => h q h1 h2 (Nat.dvd_trans e d)
theorem Low.succ {p s : Nat} (h : Low p s) (d : ¬ p ∣ s) : Low (p + 1) s := fun q h1 h2 e => by
  by_cases c : q = p
  · exact d (c ▸ e)
  · exact h q h1 (by omega) e
/-- s = p t, p not in t, nothing below p in s: a square in s is one in t -/
theorem sqf_step {p s t : Nat} (hp : 2 ≤ p) (hl : Low p s) (e : s = p * t) (ht : ¬ p ∣ t) (h : SqF t) : SqF s := by
  intro q hq d
  have g1 : Nat.gcd p q ∣ p := Nat.gcd_dvd_left p q
  have pos : 0 < p := by omega
  have gp : 0 < Nat.gcd p q := Nat.gcd_pos_of_pos_left q pos
  by_cases c1 : Nat.gcd p q = 1
  · have co : Nat.Coprime q p := by
      show Nat.gcd q p = 1
      rw [Nat.gcd_comm]; exact c1
    have co2 : Nat.Coprime (q * q) p := Nat.Coprime.mul_left co co
    rw [e] at d
    exact h q hq (co2.dvd_of_dvd_mul_left d)
  · have g2 : Nat.gcd p q = p := by
      have le := Nat.le_of_dvd pos g1
      by_cases c2 : Nat.gcd p q < p
      · exact absurd (Nat.dvd_trans g1 ⟨t, e⟩) (hl _ (by omega) c2)
      · omega
    have pq : p ∣ q := by
      have := Nat.gcd_dvd_right p q
      rw [g2] at this; exact this
    have pp : p * p ∣ p * t := by
      rw [← e]
      exact Nat.dvd_trans (Nat.mul_dvd_mul pq pq) d
    exact ht ((Nat.mul_dvd_mul_iff_left pos).mp pp)
/-- behind the loop: s below the third power, nothing below p in it -/
theorem sqf_end {p s : Nat} (hl : Low p s) (hs : 1 ≤ s) (h3 : s < p * p * p) (sq : ∀ r, r * r = s → r = 1) : SqF s := by
  intro q hq d
  obtain ⟨t, e⟩ := d
  have tpos : 1 ≤ t := by
    rcases Nat.eq_zero_or_pos t with z | z
    · rw [z] at e; omega
    · exact z
  have qs : q ∣ s := ⟨q * t, by rw [e, Nat.mul_assoc]⟩
  have qp : p ≤ q := by
    by_cases c : q < p
    · exact absurd qs (hl q hq c)
    · omega
  by_cases c : t = 1
  · rw [c, Nat.mul_one] at e
    have := sq q e.symm
    omega
  · have ts : t ∣ s := ⟨q * q, by rw [e, Nat.mul_comm]⟩
    have tp : p ≤ t := by
      by_cases c2 : t < p
      · exact absurd ts (hl t (by omega) c2)
      · omega
    have : p * p * p ≤ q * q * t := Nat.mul_le_mul (Nat.mul_le_mul qp qp) tp
    omega
/-- the state of the splitting: n the first size, s what is left, r the root so far, p the factor -/
structure Spl (n s r p : Nat) : Prop where
  s1 : 1 ≤ s
  r1 : 1 ≤ r
  p2 : 2 ≤ p
  dv : s * (r * r) ∣ n
  low : Low p s
  up : r = 1 → SqF s → SqF n
theorem spl_0 {n : Nat} (h : 1 ≤ n) : Spl n n 1 2 := ⟨h, Nat.le_refl _, Nat.le_refl _, ⟨1, by simp⟩, low_two n, fun _ q => q⟩
theorem Spl.le {n s r p : Nat} (S : Spl n s r p) (hn : 1 ≤ n) : s ≤ n := by
  have h1 := Nat.le_of_dvd hn S.dv
  have h2 : s * 1 ≤ s * (r * r) := Nat.mul_le_mul_left s (Nat.mul_le_mul S.r1 S.r1)
  omega
/-- s is divided by the square -/
theorem Spl.sq {n s r p : Nat} (S : Spl n s r p) (d : s % (p * p) = 0) : Spl n (s / (p * p)) (r * p) p ∧ s / (p * p) < s := by
  have pp : 0 < p * p := Nat.mul_pos (by have := S.p2; omega) (by have := S.p2; omega)
  obtain ⟨t, e⟩ := Nat.dvd_of_mod_eq_zero d
  have et : s / (p * p) = t := by rw [e, Nat.mul_div_cancel_left _ pp]
  have t1 : 1 ≤ t := by
    rcases Nat.eq_zero_or_pos t with z | z
    · rw [z] at e; have := S.s1; omega
    · exact z
  have h2 := S.p2
  have rp : 2 ≤ r * p := by
    have : 1 * 2 ≤ r * p := Nat.mul_le_mul S.r1 h2
    omega
  refine ⟨?_, Nat.div_lt_self (by have := S.s1; omega) (by have : 2 * 2 ≤ p * p := Nat.mul_le_mul h2 h2; omega)⟩
  rw [et]
  refine ⟨t1, by omega, h2, ?_, S.low.dvd ⟨p * p, by rw [e, Nat.mul_comm]⟩, fun z => by omega⟩
  have := S.dv
  rw [e] at this
  have q : t * (r * p * (r * p)) = p * p * t * (r * r) := by
    simp only [Nat.mul_comm, Nat.mul_left_comm, Nat.mul_assoc]
  rw [q]; exact this
/-- s is divided by the factor once -/
theorem Spl.one {n s r p : Nat} (S : Spl n s r p) (d2 : ¬ s % (p * p) = 0) (d : s % p = 0) : Spl n (s / p) r (p + 1) := by
  have h2 := S.p2
  have pos : 0 < p := by omega
  obtain ⟨t, e⟩ := Nat.dvd_of_mod_eq_zero d
  have et : s / p = t := by rw [e, Nat.mul_div_cancel_left _ pos]
  have t1 : 1 ≤ t := by
    rcases Nat.eq_zero_or_pos t with z | z
    · rw [z] at e; have := S.s1; omega
    · exact z
  have nt : ¬ p ∣ t := fun ⟨u, eu⟩ => d2 (Nat.mod_eq_zero_of_dvd ⟨u, by rw [e, eu, Nat.mul_assoc]⟩)
  have ts : t ∣ s := ⟨p, by rw [e, Nat.mul_comm]⟩
  rw [et]
  exact ⟨t1, S.r1, by omega, Nat.dvd_trans (Nat.mul_dvd_mul_right ts _) S.dv, (S.low.dvd ts).succ nt, fun r1 q => S.up r1 (sqf_step h2 S.low e nt q)⟩
theorem Spl.no {n s r p : Nat} (S : Spl n s r p) (d : ¬ s % p = 0) : Spl n s r (p + 1) :=
  ⟨S.s1, S.r1, by have := S.p2; omega, S.dv, S.low.succ (fun z => d (Nat.mod_eq_zero_of_dvd z)), S.up⟩
/-- the end: the root is 1 exactly if no square divides -/
theorem Spl.fin_sq {n s r p k : Nat} (S : Spl n s r p) (hk : k * k = s) : r * k = 1 ↔ SqF n := by
  constructor
  · intro h
    have r1 : r = 1 := Nat.eq_one_of_mul_eq_one_right h
    have k1 : k = 1 := Nat.eq_one_of_mul_eq_one_left h
    refine S.up r1 ?_
    rw [← hk, k1]; exact sqf_one
  · intro h
    by_cases c : r * k = 1
    · exact c
    · have s1 := S.s1
      have r1 := S.r1
      have k1 : 1 ≤ k := by
        rcases Nat.eq_zero_or_pos k with z | z
        · rw [z] at hk; omega
        · exact z
      have two : 2 ≤ r * k := by
        have : 1 * 1 ≤ r * k := Nat.mul_le_mul r1 k1
        omega
      refine absurd ?_ (h _ two)
      have q : r * k * (r * k) = s * (r * r) := by
        rw [← hk]; simp only [Nat.mul_comm, Nat.mul_left_comm, Nat.mul_assoc]
      rw [q]; exact S.dv
theorem Spl.fin_no {n s r p : Nat} (S : Spl n s r p) (h3 : s < p * p * p) (sq : ∀ k, k * k ≠ s) : r = 1 ↔ SqF n := by
  constructor
  · intro r1
    exact S.up r1 (sqf_end S.low S.s1 h3 fun k e => absurd e (sq k))
  · intro h
    by_cases c : r = 1
    · exact c
    · have r1 := S.r1
      refine absurd ?_ (h r (by omega))
      exact Nat.dvd_trans ⟨s, by rw [Nat.mul_comm]⟩ S.dv
end N2

namespace N2
/-- the splitting with the free part: n = s f r r -/
structure Spf (n s f r p : Nat) : Prop where
  s1 : 1 ≤ s
  f1 : 1 ≤ f
  r1 : 1 ≤ r
  p2 : 2 ≤ p
  eq : s * f * (r * r) = n
  low : Low p s
  up : ∀ t, t ∣ s → SqF t → SqF (f * t)
theorem spf_0 {n : Nat} (h : 1 ≤ n) : Spf n n 1 1 2 := ⟨h, Nat.le_refl _, Nat.le_refl _, Nat.le_refl _, by simp, low_two n, fun t _ q => by rw [Nat.one_mul]; exact q⟩
theorem Spf.le {n s f r p : Nat} (S : Spf n s f r p) : s ≤ n := by
  have h1 : s * 1 * 1 ≤ s * f * (r * r) := Nat.mul_le_mul (Nat.mul_le_mul_left s S.f1) (Nat.mul_le_mul S.r1 S.r1)
  rw [S.eq] at h1
  omega
theorem Spf.sq {n s f r p : Nat} (S : Spf n s f r p) (d : s % (p * p) = 0) : Spf n (s / (p * p)) f (r * p) p ∧ s / (p * p) < s := by
  have h2 := S.p2
  have pp : 4 ≤ p * p := Nat.mul_le_mul h2 h2
  obtain ⟨t, e⟩ := Nat.dvd_of_mod_eq_zero d
  have et : s / (p * p) = t := by rw [e, Nat.mul_div_cancel_left _ (by omega)]
  have t1 : 1 ≤ t := by
    rcases Nat.eq_zero_or_pos t with z | z
    · rw [z] at e; have := S.s1; omega
    · exact z
  have ts : t ∣ s := ⟨p * p, by rw [e, Nat.mul_comm]⟩
  refine ⟨?_, Nat.div_lt_self (by have := S.s1; omega) (by omega)⟩
  rw [et]
  have rp : 1 * 1 ≤ r * p := Nat.mul_le_mul S.r1 (by omega)
  refine ⟨t1, S.f1, by omega, h2, ?_, S.low.dvd ts, fun u hu => S.up u (Nat.dvd_trans hu ts)⟩
  rw [← S.eq, e]
  simp only [Nat.mul_comm, Nat.mul_left_comm, Nat.mul_assoc]
theorem Spf.one {n s f r p : Nat} (S : Spf n s f r p) (d2 : ¬ s % (p * p) = 0) (d : s % p = 0) : Spf n (s / p) (f * p) r (p + 1) := by
  have h2 := S.p2
  have pos : 0 < p := by omega
  obtain ⟨t, e⟩ := Nat.dvd_of_mod_eq_zero d
  have et : s / p = t := by rw [e, Nat.mul_div_cancel_left _ pos]
  have t1 : 1 ≤ t := by
    rcases Nat.eq_zero_or_pos t with z | z
    · rw [z] at e; have := S.s1; omega
    · exact z
  have nt : ¬ p ∣ t := fun ⟨u, eu⟩ => d2 (Nat.mod_eq_zero_of_dvd ⟨u, by rw [e, eu, Nat.mul_assoc]⟩)
  have ts : t ∣ s := ⟨p, by rw [e, Nat.mul_comm]⟩
  have fp : 1 * 1 ≤ f * p := Nat.mul_le_mul S.f1 (by omega)
  rw [et]
  refine ⟨t1, by omega, S.r1, by omega, ?_, (S.low.dvd ts).succ nt, fun u hu q => ?_⟩
  · rw [← S.eq, e]
    simp only [Nat.mul_comm, Nat.mul_left_comm, Nat.mul_assoc]
  · have pu : p * u ∣ s := by rw [e]; exact Nat.mul_dvd_mul_left p hu
    rw [Nat.mul_assoc]
    refine S.up (p * u) pu (sqf_step h2 (S.low.dvd pu) rfl (fun z => nt (Nat.dvd_trans z hu)) q)
theorem Spf.no {n s f r p : Nat} (S : Spf n s f r p) (d : ¬ s % p = 0) : Spf n s f r (p + 1) :=
  ⟨S.s1, S.f1, S.r1, by have := S.p2; omega, S.eq, S.low.succ (fun z => d (Nat.mod_eq_zero_of_dvd z)), S.up⟩
/-- n is f times the square of r, f without squares -/
def Split (n f r : Nat) : Prop := n = f * (r * r) ∧ SqF f ∧ 1 ≤ f ∧ 1 ≤ r
theorem Spf.fin_sq {n s f r p k : Nat} (S : Spf n s f r p) (hk : k * k = s) : Split n f (r * k) := by
  have s1 := S.s1
  have k1 : 1 ≤ k := by
    rcases Nat.eq_zero_or_pos k with z | z
    · rw [z] at hk; omega
    · exact z
  have rk : 1 * 1 ≤ r * k := Nat.mul_le_mul S.r1 k1
  refine ⟨?_, ?_, S.f1, by omega⟩
  · rw [← S.eq, ← hk]
    simp only [Nat.mul_comm, Nat.mul_left_comm, Nat.mul_assoc]
  · have := S.up 1 (Nat.one_dvd s) sqf_one
    rw [Nat.mul_one] at this; exact this
theorem Spf.fin_no {n s f r p : Nat} (S : Spf n s f r p) (h3 : s < p * p * p) (sq : ∀ k, k * k ≠ s) : Split n (f * s) r := by
  have fs : 1 * 1 ≤ f * s := Nat.mul_le_mul S.f1 S.s1
  refine ⟨?_, S.up s (Nat.dvd_refl s) (sqf_end S.low S.s1 h3 fun k e => absurd e (sq k)), by omega, S.r1⟩
  rw [← S.eq, Nat.mul_comm f s]
theorem Split.one {n f r : Nat} (h : Split n f r) : r = 1 ↔ SqF n := by
  obtain ⟨e, q, f1, r1⟩ := h
  constructor
  · intro z
    rw [e, z]; simpa using q
  · intro z
    by_cases c : r = 1
    · exact c
    · exact absurd ⟨f, by rw [e, Nat.mul_comm]⟩ (z r (by omega))
/-- there is one free part only: f r r = g s s -/
theorem sqf_uniq {f g r s : Nat} (hf : SqF f) (hg : SqF g) (r1 : 1 ≤ r) (s1 : 1 ≤ s) (e : f * (r * r) = g * (s * s)) : f = g ∧ r = s := by
  have cp : 0 < Nat.gcd r s := Nat.gcd_pos_of_pos_left _ r1
  obtain ⟨c, ec⟩ : ∃ c, Nat.gcd r s = c := ⟨_, rfl⟩
  obtain ⟨a, ea⟩ : c ∣ r := ec ▸ Nat.gcd_dvd_left r s
  obtain ⟨b, eb⟩ : c ∣ s := ec ▸ Nat.gcd_dvd_right r s
  rw [ec] at cp
  have co : Nat.Coprime a b := by
    have : Nat.gcd (c * a) (c * b) = c := by rw [← ea, ← eb]; exact ec
    rw [Nat.gcd_mul_left] at this
    exact Nat.eq_of_mul_eq_mul_left cp (by rw [this, Nat.mul_one])
  have e2 : f * (a * a) = g * (b * b) := by
    have h : (c * c) * (f * (a * a)) = (c * c) * (g * (b * b)) := by
      have h1 : (c * c) * (f * (a * a)) = f * (r * r) := by rw [ea]; simp only [Nat.mul_comm, Nat.mul_left_comm, Nat.mul_assoc]
      have h2 : (c * c) * (g * (b * b)) = g * (s * s) := by rw [eb]; simp only [Nat.mul_comm, Nat.mul_left_comm, Nat.mul_assoc]
      rw [h1, h2, e]
    exact Nat.eq_of_mul_eq_mul_left (Nat.mul_pos cp cp) h
  have ab : Nat.Coprime (a * a) (b * b) := (co.mul_left co).mul_right (co.mul_left co)
  have a1 : a = 1 := by
    have d : a * a ∣ g := ab.dvd_of_dvd_mul_right ⟨f, by rw [← e2, Nat.mul_comm]⟩
    by_cases z : 2 ≤ a
    · exact absurd d (hg a z)
    · rcases Nat.eq_zero_or_pos a with y | y
      · rw [y] at ea; omega
      · omega
  have b1 : b = 1 := by
    have d : b * b ∣ f := ab.symm.dvd_of_dvd_mul_right ⟨g, by rw [e2, Nat.mul_comm]⟩
    by_cases z : 2 ≤ b
    · exact absurd d (hf b z)
    · rcases Nat.eq_zero_or_pos b with y | y
      · rw [y] at eb; omega
      · omega
  rw [a1, b1] at e2
  exact ⟨by omega, by rw [ea, eb, a1, b1]⟩
/-- the product of two free numbers without a common divisor -/
theorem sqf_mul {f g : Nat} (hf : SqF f) (hg : SqF g) (co : Nat.Coprime f g) : SqF (f * g) := by
  intro q hq d
  -- q q in f g: gcd(q, f) and gcd(q, g)
  have q1 : q ∣ f * g := Nat.dvd_trans ⟨q, rfl⟩ d
  obtain ⟨a, ea⟩ : ∃ a, Nat.gcd q f = a := ⟨_, rfl⟩
  obtain ⟨b, eb⟩ : ∃ b, Nat.gcd q g = b := ⟨_, rfl⟩
  have af : a ∣ f := ea ▸ Nat.gcd_dvd_right q f
  have bg : b ∣ g := eb ▸ Nat.gcd_dvd_right q g
  have eq : q = a * b := by
    have := Nat.Coprime.gcd_mul q co
    rw [Nat.gcd_eq_left q1, ea, eb] at this; exact this
  have ca : Nat.Coprime a g := Nat.Coprime.coprime_dvd_left af co
  have cb : Nat.Coprime b f := (Nat.Coprime.coprime_dvd_left bg co.symm)
  have da : a * a ∣ f := by
    have : a * a ∣ f * g := Nat.dvd_trans ⟨b * b, by rw [eq]; simp only [Nat.mul_comm, Nat.mul_left_comm, Nat.mul_assoc]⟩ d
    exact (ca.mul_left ca).dvd_of_dvd_mul_right this
  have db : b * b ∣ g := by
    have : b * b ∣ f * g := Nat.dvd_trans ⟨a * a, by rw [eq]; simp only [Nat.mul_comm, Nat.mul_left_comm, Nat.mul_assoc]⟩ d
    exact (cb.mul_left cb).dvd_of_dvd_mul_left this
  by_cases z : 2 ≤ a
  · exact hf a z da
  · by_cases y : 2 ≤ b
    · exact hg b y db
    · have : a * b ≤ 1 * 1 := Nat.mul_le_mul (by omega) (by omega)
      omega
end N2

namespace L2
open PySem PySem.Spec PyProof.Rows
/-- what the top has written of a class of errors: its name n, its own __init__ at f -/
structure ClsF (K : PySem.W.Frag) (mg : Str → Option Value) (S : Addr) (n : Str) (C f : Addr) (fd : FuncData) : Prop where
  M : SlM K C S f
  at_ : ∃ q N bs sn sub ab col dd k0 k1 k2 k3 k5, K.lookup C = some (excClassObj n q C N bs (.ref S :: PySem.Sl.xTail) true sn sub ab col dd k0 k1 k2 k3 k5 "Exception.__new__")
  gC : mg n = some (.ref C)
  F : ∃ (qual : Str) (p1 p2 q1 q2 q3 q4 q5 q6 : Pos), (q2.endLine == q5.line) = true ∧ FunD K "__init__" qual (argsS p1 p2 []) (bodyC q1 q2 q3 q4 q5 q6) scpC [] [] f fd
/-- the class of an error's data -/
def nmOf (o : Obj) : Str := match o.data with | .cls cd => cd.name | _ => ""
theorem one_name {K : PySem.W.Frag} {mg : Str → Option Value} {S : Addr} {n n' : Str} {C C' f f' : Addr} {fd fd' : FuncData} (A : ClsF K mg S n C f fd) (B : ClsF K mg S n' C' f' fd') (e : C = C') : n = n' := by
  subst e
  obtain ⟨q, N, bs, sn, sub, ab, col, dd, k0, k1, k2, k3, k5, h⟩ := A.at_
  obtain ⟨q', N', bs', sn', sub', ab', col', dd', k0', k1', k2', k3', k5', h'⟩ := B.at_
  have z := congrArg nmOf (Option.some.inj (h.symm.trans h'))
  exact z
section
variable {K : PySem.W.Frag} {mg : Str → Option Value} {S : Addr} {n : Str} {C f : Addr} {fd : FuncData}
theorem ClsF.cd (A : ClsF K mg S n C f fd) : ∃ cd : ClassData, PySem.W.clsIn K C = some cd ∧ cd.mro = .ref C :: .ref S :: PySem.Sl.xTail := by
  obtain ⟨q, N, bs, sn, sub, ab, col, dd, k0, k1, k2, k3, k5, h⟩ := A.at_
  refine ⟨{ name := n, bases := bs, mro := .ref C :: .ref S :: PySem.Sl.xTail, ns := N, qualname := q, hasDict := true, slotNames := sn, subclasses := sub, abstract := ab, collection := col, hasDel := false }, ?_, rfl⟩
  unfold PySem.W.clsIn
  rw [h]
theorem ClsF.sub (A : ClsF K mg S n C f fd) (c : Value) : PySem.W.subIn K (.ref C) c = some ((Value.ref C :: .ref S :: PySem.Sl.xTail).contains c) := by
  obtain ⟨cd, h1, h2⟩ := A.cd
  show PySem.W.mroIn K C c = _
  unfold PySem.W.mroIn
  rw [h1, Option.bind_some, h2]
  rfl
theorem ClsF.cls (A : ClsF K mg S n C f fd) : ((PySem.W.clsIn K C).isSome && PySem.W.typeIn K (.ref C) == some (.type "type")) = true := by
  obtain ⟨cd, h1, _⟩ := A.cd
  rw [h1, A.M.T.tyC]
  rfl
theorem ClsF.kit (A : ClsF K mg S n C f fd) {n' : Str} {C' f' : Addr} {fd' : FuncData} (B : ClsF K mg S n' C' f' fd') (hS : C' ≠ S) : PySem.W.kitOne K (.ref C) (.ref C') = some (decide (C = C')) ∧ PySem.W.exmOne K (.ref C) (.ref C') = some (decide (C = C')) := by
  have e1 : (Value.ref C :: .ref S :: PySem.Sl.xTail).contains (.ref C') = decide (C = C') := by
    rw [List.contains_cons, List.contains_cons]
    have a1 : (Value.ref C' == Value.ref S) = false := by
      rw [beq_eq_false_iff_ne]
      exact fun z => hS (Value.ref.inj z)
    have a2 : (PySem.Sl.xTail.contains (Value.ref C')) = false := rfl
    have a3 : (Value.ref C' == Value.ref C) = decide (C = C') := by
      by_cases h : C = C'
      · rw [h, decide_eq_true rfl]; exact beq_self_eq_true _
      · rw [decide_eq_false h, beq_eq_false_iff_ne]
        exact fun z => h (Value.ref.inj z).symm
    rw [a1, a2, a3]
    simp
  have e2 : PySem.W.kitCls K (.ref C) (.ref C') = some (decide (C = C')) := by
    show (if ((PySem.W.clsIn K C').isSome && PySem.W.typeIn K (.ref C') == some (.type "type")) = true then PySem.W.subIn K (.ref C) (.ref C') else none) = _
    rw [if_pos B.cls, A.sub, e1]
  constructor
  · unfold PySem.W.kitOne
    by_cases h : C = C'
    · rw [h, if_pos (beq_self_eq_true _), decide_eq_true rfl]
    · rw [if_neg (fun z => h (Value.ref.inj (eq_of_beq z))), e2]
  · unfold PySem.W.exmOne
    rw [if_pos (by rw [B.M.T.exC]; rfl), e2]
theorem ClsF.up (A : ClsF K mg S n C f fd) (hcS : (PySem.W.clsIn K S).isSome = true) (htS : PySem.W.typeIn K (.ref S) = some (.type "type")) (hbS : PySem.W.subIn K (.ref S) (.type "BaseException") = some true) :
    PySem.W.kitOne K (.ref C) (.ref S) = some true ∧ PySem.W.exmOne K (.ref C) (.ref S) = some true := by
  have e1 : (Value.ref C :: .ref S :: PySem.Sl.xTail).contains (.ref S) = true := by
    rw [List.contains_cons, List.contains_cons, beq_self_eq_true, Bool.true_or, Bool.or_true]
  have e2 : PySem.W.kitCls K (.ref C) (.ref S) = some true := by
    show (if ((PySem.W.clsIn K S).isSome && PySem.W.typeIn K (.ref S) == some (.type "type")) = true then PySem.W.subIn K (.ref C) (.ref S) else none) = _
    rw [if_pos (by rw [hcS, htS]; rfl), A.sub, e1]
  constructor
  · unfold PySem.W.kitOne
    by_cases h : C = S
    · rw [h, if_pos (beq_self_eq_true _)]
    · rw [if_neg (fun z => h (Value.ref.inj (eq_of_beq z))), e2]
  · unfold PySem.W.exmOne
    rw [if_pos (by rw [hbS]; rfl), e2]
theorem ClsF.ty (A : ClsF K mg S n C f fd) {T : String} {b : Bool} (hm : PySem.W.kitMeta T = true) (hb : PySem.Sl.xTail.contains (.type T) = b) : PySem.W.kitOne K (.ref C) (.type T) = some b := by
  have e1 : (Value.ref C :: .ref S :: PySem.Sl.xTail).contains (.type T) = b := by
    rw [List.contains_cons, List.contains_cons, hb]
    rfl
  show (if (Value.ref C == Value.type T) = true then some true else if PySem.W.kitMeta T = true then PySem.W.subIn K (.ref C) (.type T) else none) = _
  rw [if_neg (show ¬ ((Value.ref C == Value.type T) = true) from fun z => nomatch (eq_of_beq z)), if_pos hm, A.sub, e1]
end
theorem cls_mk {K : PySem.W.Frag} {h : Heap} {mg : Str → Option Value} {S C f : Addr} {n q qual : Str} (X : K.In h) (G : h.Ns mainGlobals mg) {N : Addr} {bs : List Value} {sn : List Str} {sub : List Value} {ab : Bool} {col : Option Bool} {dd : Option Addr} {m0 m1 m2 m3 m5 : Option Value}
    {od an : Option Addr} {sl : Array (Option Value)} {oc dc pm cd ct : Value} {p1 p2 q1 q2 q3 q4 q5 q6 : Pos}
    (aC : PySem.W.nsIn K mainGlobals n = some (some (.ref C)))
    (xL : K.lookup C = some (excClassObj n q C N bs (.ref S :: PySem.Sl.xTail) true sn sub ab col dd m0 m1 m2 m3 m5 "Exception.__new__"))
    (sa : PySem.W.findIn K (.ref C) "__setattr__" = some (some (.builtin "object.__setattr__"))) (ga : PySem.W.findIn K (.ref C) "__getattribute__" = some (some (.builtin "BaseException.__getattribute__"))) (gg : PySem.W.findIn K (.ref C) "__getattr__" = some none) (nb : PySem.W.findIn K (.ref C) "thing" = some none)
    (hc : PySem.W.findIn K (.ref C) "__class__" = some (some (.builtin "object.__class__")))
    (a1 : PySem.W.findIn K (.ref C) "__init__" = some (some (.ref f))) (t1 : PySem.W.typeIn K (.ref f) = some (.type "function"))
    (l1 : K.lookup f = some ⟨oc, od, .func (PySem.W.fnOf "__init__" qual (argsS p1 p2 []) (bodyC q1 q2 q3 q4 q5 q6) scpC .none .none dc pm an cd ct), sl⟩) (c1 : PySem.W.codeIn K cd qual = true) (kf : PySem.W.keepIn K (.ref f) = true)
    (kC : PySem.W.keepIn K (.ref C) = true) (tC : PySem.W.typeIn K (.ref C) = some (.type "type"))
    (hn : PySem.W.specialIn K (.builtin "object.__class__") "__get__" = some (some (.builtin "getset_descriptor.__get__"))) (ht : PySem.W.takesIn K (.builtin "object.__class__") = some true)
    (hl : (q2.endLine == q5.line) = true) : ClsF K mg S n C f (PySem.W.fnOf "__init__" qual (argsS p1 p2 []) (bodyC q1 q2 q3 q4 q5 q6) scpC .none .none dc pm an cd ct) := by
  have cl : PySem.W.clsIn K C = some { name := n, bases := bs, mro := .ref C :: .ref S :: PySem.Sl.xTail, ns := N, qualname := q, hasDict := true, slotNames := sn, subclasses := sub, abstract := ab, collection := col, hasDel := false } := by
    unfold PySem.W.clsIn; rw [xL]
  have sb : ∀ T : String, PySem.Sl.xTail.contains (.type T) = true → PySem.W.mroIn K C (.type T) = some true := fun T e => by
    unfold PySem.W.mroIn
    rw [cl, Option.bind_some]
    show some ((Value.ref C :: .ref S :: PySem.Sl.xTail).contains (.type T)) = _
    rw [PySem.Sl.has_sub C S T e]
  exact
    { M := ⟨{ cls := ⟨n, q, N, bs, sn, sub, ab, col, dd, m0, m1, m2, m3, m5, xL⟩, sa := sa, exC := sb _ (by decide +kernel), tyC := tC, kC := kC, ga := ga, gg := gg, noT := nb, hd := by unfold PySem.W.hasDictIn; rw [cl]; rfl, hc := hc, hn := hn, ht := ht, hm := sb _ (by decide +kernel) }, a1, t1⟩
      at_ := ⟨q, N, bs, sn, sub, ab, col, dd, m0, m1, m2, m3, m5, xL⟩
      gC := PySem.W.mg_of X G aC
      F := ⟨qual, p1, p2, q1, q2, q3, q4, q5, q6, hl, ⟨oc, od, .none, .none, dc, pm, an, cd, ct, sl, rfl, l1, c1, .inl ⟨rfl, rfl⟩, .inl rfl⟩, kf⟩ }
end L2

namespace HT
open PySem PySem.Spec PyProof.Rows
section
variable {prog : Program} {w : World} {A : Around} {E : Value → Shared → Prop} {s : Shared}
theorem back_places (n : Nat) : Builtin.Slice.slicePlaces ((n : Int) - 1) (-1) (-1) = n := by
  unfold Builtin.Slice.slicePlaces
  rw [if_neg (by decide)]
  by_cases h : (n : Int) - 1 > -1
  · rw [if_pos h, show -(-1 : Int) = 1 by decide, Int.ediv_one]; omega
  · rw [if_neg h]; omega
theorem back_pick (xs : Array Value) : ((List.range xs.size).filterMap fun (m : Nat) => xs[(((xs.size : Int) - 1) + (m : Int) * (-1)).toNat]?).toArray = xs.toList.reverse.toArray := by
  congr 1
  have e : ∀ l : List Nat, (∀ m ∈ l, m < xs.size) → (l.filterMap fun (m : Nat) => xs[(((xs.size : Int) - 1) + (m : Int) * (-1)).toNat]?) = l.filterMap fun m => xs.toList.reverse[m]? := by
    intro l hl
    induction l with
    | nil => rfl
    | cons m r ih =>
      have hm := hl m List.mem_cons_self
      have q : xs[(((xs.size : Int) - 1) + (m : Int) * (-1)).toNat]? = xs.toList.reverse[m]? := by
        rw [List.getElem?_reverse (by rw [Array.length_toList]; exact hm), Array.length_toList, Array.getElem?_toList]
        congr 1
        omega
      rw [List.filterMap_cons, List.filterMap_cons, q, ih fun x hx => hl x (List.mem_cons_of_mem _ hx)]
  rw [e _ fun m hm => List.mem_range.mp hm]
  have g : ∀ zs : List Value, (List.range zs.length).filterMap (fun m => zs[m]?) = zs := by
    intro zs
    have p := pick_gen zs.toArray 0 zs.length
    have e2 : (fun (m : Nat) => zs.toArray[(((0 : Nat) : Int) + (m : Int) * 1).toNat]?) = fun m => zs[m]? := by
      funext m
      rw [List.getElem?_toArray]
      congr 1
      omega
    rw [e2] at p
    have q := congrArg Array.toList p
    simpa using q
  have := g xs.toList.reverse
  rw [List.length_reverse, Array.length_toList] at this
  exact this
theorem back_applied {sl : Addr} {vl vu vs : Value} {n : Nat} {Q : Int × Int × Nat → Shared → Prop} (isl : s.heap.IsSliceOf sl vl vu vs) (p1 : IsPart vl none) (p2 : IsPart vu none) (p3 : IsPart vs (some (-1)))
    (goal : Q ((n : Int) - 1, -1, n) s) : wpAny (model prog w) A (Builtin.Slice.sliceApplied (.ref sl) (pure (n : Int))) Q E s := by
  obtain ⟨ob, hob, _, dob⟩ := id isl
  unfold Builtin.Slice.sliceApplied Builtin.Slice.sliceFields
  refine wpAny_bind (wpAny_bind (wpAny_field hob dob (x := vl) rfl (wpAny_bind (wpAny_field hob dob (x := vu) rfl (wpAny_bind (wpAny_field hob dob (x := vs) rfl (wpAny_pure ?_)))))))
  refine wpAny_bind (slicePart_ p3 ?_)
  show wpAny _ _ (if ((-1 : Int) == 0) = true then _ else _) _ _ s
  rw [if_neg (show ¬ (((-1 : Int) == 0) = true) by decide)]
  refine wpAny_bind (slicePart_ p1 (wpAny_bind (slicePart_ p2 (wpAny_bind (wpAny_pure ?_)))))
  have adj : Builtin.Slice.sliceAdjust none none (-1) (n : Int) = ((n : Int) - 1, -1) := by
    unfold Builtin.Slice.sliceAdjust
    rfl
  show wpAny _ _ (match Builtin.Slice.sliceAdjust none none (-1) (n : Int) with | (lo, hi) => pure (lo, (-1 : Int), Builtin.Slice.slicePlaces lo hi (-1))) _ _ s
  rw [adj]
  show wpAny _ _ (pure ((n : Int) - 1, (-1 : Int), Builtin.Slice.slicePlaces ((n : Int) - 1) (-1) (-1))) _ _ s
  rw [back_places]
  exact wpAny_pure goal
theorem getItem_tuple_back {t sl : Addr} {items : Array Value} {vl vu vs : Value} {Q : Value → Shared → Prop} (tup : IsTup s.heap t items) (isl : s.heap.IsSliceOf sl vl vu vs) (p1 : IsPart vl none) (p2 : IsPart vu none) (p3 : IsPart vs (some (-1)))
    (goal : Q (.ref s.heap.objs.size) { s with heap := s.heap.push { cls := .type "tuple", data := .seq items.toList.reverse.toArray } }) (small : items.size ≤ sizeLine) : wpAny (model prog w) A (getItem (.ref t) (.ref sl)) Q E s := by
  obtain ⟨ob, hob, cob, _⟩ := id isl
  have isT : s.TypeIs (.ref sl) "slice" := ⟨ob, hob, cob⟩
  have sz : sizeOk (.seq items.toList.reverse.toArray) := by
    show items.toList.reverse.toArray.size ≤ sizeLine
    rw [List.size_toArray, List.length_reverse, Array.length_toList]; exact small
  unfold getItem
  try with_reducible refine wpAny_holding ?_
  first | refine wpAny_bind (wpAny_pure ?_) | skip
  refine wpAny_bind (wpAny_sequenceKey tup.typeIs (by decide) ?_)
  refine wpAny_bind (wpAny_callSpecial?_slot (name := Str.ofString "__getitem__") tup.typeIs PyProof.Rows.slot_tuple_getitem (wpAny_call_entry PyProof.Rows.slot_tuple_getitem tup.typeIs entry_tuple_getitem ?_ (args_tuple_getitem _ _)))
  show wpAny _ _ (Builtin.Tuple.tupleItemsOf (.ref t) >>= _) _ _ s
  refine wpAny_bind (tupleItemsOf_ tup ?_)
  refine wpAny_bind (wpAny_typeOf isT ?_)
  rw [if_pos (show (Value.type "slice" == Value.type "slice") = true by decide)]
  refine wpAny_bind (back_applied isl p1 p2 p3 ?_)
  have nn : ¬ ((((items.size : Int) - 1) == 0 && (-1 : Int) == 1 && items.size == items.size) = true) := by
    intro q
    rw [Bool.and_eq_true, Bool.and_eq_true] at q
    exact absurd q.1.2 (by decide)
  show wpAny _ _ (if (((items.size : Int) - 1) == 0 && (-1 : Int) == 1 && items.size == items.size) = true then _ else _) _ _ s
  rw [if_neg nn, back_pick]
  first
    | exact wpAny_bind (m := Builtin.Tuple.tupleExact _) (wpAny_newObj_type (wpAny_pure ⟨_, rfl, wpAny_pure goal⟩) sz)
    | exact wpAny_bind (m := Builtin.Tuple.tupleExact _) (wpAny_newObj_type (wpAny_bind (wpAny_pure (wpAny_pure ⟨_, rfl, wpAny_pure goal⟩))) sz)
    | exact wpAny_bind (wpAny_bind (m := Builtin.Tuple.tupleExact _) (wpAny_newObj_type (wpAny_pure (wpAny_pure ⟨_, rfl, wpAny_pure goal⟩)) sz))
    | exact wpAny_bind (wpAny_bind (m := Builtin.Tuple.tupleExact _) (wpAny_newObj_type (wpAny_pure ⟨_, rfl, wpAny_pure goal⟩) sz))
end
end HT
namespace L2
open PySem PySem.Spec PyProof.Rows
/-- t[::-1], t a tuple -/
def tBack (K : PySem.W.Frag) (te : TE) : TE := fun σ H Q => te σ H fun x H1 => ∃ a xs, x = .ref a ∧ SqT K H1 a xs ∧ ∀ p, H1 p = none → Q (.ref p) (upd H1 p (.tup xs.reverse))
theorem pe_back {X : Cx} {e : Expr} {te : TE} {k : Nat} {p1 p2 p3 pos : Pos} (he : PE X e te) : PE X (.Subscript e (.Slice none none (some (.UnaryOp .USub (.Constant (.int 1) k p1) p2)) p3) pos) (tBack X.K te) := by
  refine ⟨fun pins s σ H Q I h => ?_⟩
  refine Subscript_ (thn (he.run pins s σ H _ I h) fun v s1 ⟨x, H1, I1, r1, a, xs, ex, hx, q⟩ => ?_)
  subst ex
  cases r1
  have step : PO X (some (.UnaryOp .USub (.Constant (.int 1) k p1) p2)) (tPart (tUn (rU fun i => .int (-i)) (tC (.int 1)))) := po_some (pe_un un_neg pe_int)
  refine wpAny_Slice (thn (po_none.run pins s1 σ H1 (fun o G => o = none ∧ G = H1) I1 ⟨rfl, rfl⟩) fun vl s2 ⟨l, H2, I2, pl, el, e2⟩ => ?_)
  subst el e2
  refine thn (po_none.run pins s2 σ H2 (fun o G => o = none ∧ G = H2) I2 ⟨rfl, rfl⟩) fun vu s3 ⟨u, H3, I3, pu, eu, e3⟩ => ?_
  subst eu e3
  refine thn (step.run pins s3 σ H3 (fun o G => o = some (-1) ∧ G = H3) I3 ⟨1, rfl, -1, rfl, rfl, rfl⟩) fun vs s4 ⟨o, H4, I4, ps, eo, e4⟩ => ?_
  subst eo e4
  have J : Inv X pins σ H4 { s4 with heap := s4.heap.push { cls := .type "slice", data := .fields #[vl, vu, vs] } } := I4.kept (t' := s4.toks) fun _ _ q => Heap.get?_push_of_some _ q
  obtain ⟨its, r, ht, hz⟩ := J.tuple hx
  have len := r.length
  show wpAny (model X.prog X.w) X.A (subscriptTail e (.Slice none none (some (.UnaryOp .USub (.Constant (.int 1) k p1) p2)) p3) (.ref a) (.ref s4.heap.objs.size)) _ _ _
  refine tail_any (ops := [.ref a, .ref s4.heap.objs.size]) ht.typeIs (PyProof.Rows.slot_tuple_getitem.lookup) ?_ (by with_unfolding_all rfl)
  refine HT.getItem_tuple_back ht (Heap.IsSliceOf.new _ vl vu vs) pl pu ps ?_ (by rw [List.size_toArray]; omega)
  refine ⟨.ref _, _, J.laid (t' := s4.toks) (o := .tup xs.reverse) (fun _ _ q => Heap.get?_push_of_some _ q) (Nat.le_refl _) ?_, rfl, q _ (J.hok.fresh (Nat.le_refl _))⟩
  exact ⟨by rw [List.length_reverse]; exact hz, _, r.reverse, _, Heap.get?_push_size _ rfl, rfl, _, rfl⟩
end L2

namespace N3
open PySem PySem.Spec PyProof.Rows L2 N2
def top (i : Nat) : Stmt := PySem.Challenge.pw_twiceslope_k08_any_value_as_a_quotient.main.body.getD i (.Pass ⟨0, 0, 0, 0⟩)
abbrev sInt : Stmt := top 2
abbrev sTupOf : Stmt := top 3
abbrev sAllInt : Stmt := top 4
abbrev sLowest : Stmt := top 5
abbrev sSplit : Stmt := top 8
abbrev sFree : Stmt := top 9
abbrev sFits : Stmt := top 12
abbrev sTriple : Stmt := top 13
abbrev sNumber : Stmt := top 14
abbrev sFraction : Stmt := top 15
/-- a def as callers know it -/
structure Kn (P : Program) (w : World) (K : PySem.W.Frag) (mg : Str → Option Value) (base : Heap) (k : Nat) (x : Str) (ps : List Str) (sp : Sp) (f : Addr) (fd : FuncData) : Prop where
  ok : FnOk P w K mg base CX0 k f fd ps sp
  mg : mg x = some (.ref f)
  kp : PySem.W.keepIn K (.ref f) = true
  bd : Binds K fd ps []
/-- the names of built-in things that stay so -/
structure Bt (mg : Str → Option Value) : Prop where
  int : mg "int" = none
  bool : mg "bool" = none
  tuple : mg "tuple" = none
  list : mg "list" = none
  isi : mg "isinstance" = none
  len : mg "len" = none
  all : mg "all" = none
  range : mg "range" = none
  abs : mg "abs" = none
  repr : mg "repr" = none
  zip : mg "zip" = none
  max : mg "max" = none
  sorted : mg "sorted" = none
  str : mg "str" = none
  gcd : mg "gcd" = some (.builtin "math.gcd")
  isq : mg "isqrt" = some (.builtin "math.isqrt")
def tn : PyData → String
  | .none => "NoneType" | .bool _ => "bool" | .int _ => "int" | .str _ => "str" | .list _ => "list" | .tuple _ => "tuple" | .dict _ => "dict"
def isI : PyData → Bool
  | .int _ => true
  | _ => false
def isB : PyData → Bool
  | .bool _ => true
  | _ => false
def isTp : PyData → Bool
  | .tuple _ => true
  | _ => false
theorem dn_ty {K : PySem.W.Frag} {H : Hp} {v : V} {d : PyData} (h : Dn H v d) : TyX K H v (.type (tn d)) := by
  cases h with
  | non => exact .base .non
  | bl b => exact .base (.bl b)
  | int i => exact .base (.int i)
  | str x => exact .base (.str x)
  | lst e _ => exact .base (.lst e)
  | tup e _ => exact .base (.tup e)
  | dct e _ => exact .base (.dK e)
theorem kit_i : ∀ d : PyData, kitB (tn d) "int" = some (isI d || isB d)
  | .none => by decide +kernel
  | .bool _ => by show kitB "bool" "int" = some true; decide +kernel
  | .int _ => by show kitB "int" "int" = some true; decide +kernel
  | .str _ => by show kitB "str" "int" = some false; decide +kernel
  | .list _ => by show kitB "list" "int" = some false; decide +kernel
  | .tuple _ => by show kitB "tuple" "int" = some false; decide +kernel
  | .dict _ => by show kitB "dict" "int" = some false; decide +kernel
theorem kit_b : ∀ d : PyData, kitB (tn d) "bool" = some (isB d)
  | .none => by decide +kernel
  | .bool _ => by show kitB "bool" "bool" = some true; decide +kernel
  | .int _ => by show kitB "int" "bool" = some false; decide +kernel
  | .str _ => by show kitB "str" "bool" = some false; decide +kernel
  | .list _ => by show kitB "list" "bool" = some false; decide +kernel
  | .tuple _ => by show kitB "tuple" "bool" = some false; decide +kernel
  | .dict _ => by show kitB "dict" "bool" = some false; decide +kernel
theorem kit_t : ∀ d : PyData, kitB (tn d) "tuple" = some (isTp d)
  | .none => by decide +kernel
  | .bool _ => by show kitB "bool" "tuple" = some false; decide +kernel
  | .int _ => by show kitB "int" "tuple" = some false; decide +kernel
  | .str _ => by show kitB "str" "tuple" = some false; decide +kernel
  | .list _ => by show kitB "list" "tuple" = some false; decide +kernel
  | .tuple _ => by show kitB "tuple" "tuple" = some true; decide +kernel
  | .dict _ => by show kitB "dict" "tuple" = some false; decide +kernel
theorem dn_tup {H : Hp} {v : V} {d : PyData} (h : Dn H v d) (e : isTp d = true) : ∃ (a : Addr) (xs : List V) (ds : List PyData), v = .ref a ∧ d = .tuple ds ∧ H a = some (.tup xs) ∧ DnAll H xs ds := by
  cases h with
  | tup e1 r => exact ⟨_, _, _, rfl, rfl, e1, r⟩
  | _ => cases e
theorem dn_int {H : Hp} {v : V} {d : PyData} (h : Dn H v d) (e : isI d = true) : ∃ i, v = .int i ∧ d = .int i := by
  cases h with
  | int i => exact ⟨i, rfl, rfl⟩
  | _ => cases e
theorem snew {H : Hp} {p : Addr} {o : HO} (h : H p = none) : Same H (upd H p o) := fun b u e => by rw [upd_ne (ne_of_none e h)]; exact e
theorem ite_b {c : Bool} {A B : Prop} (h1 : c = true → A) (h2 : c = false → B) : if c = true then A else B := by
  cases c with
  | true => exact iteT (h1 rfl)
  | false => exact iteF (h2 rfl)
def spInt : Sp := fun vs H Q _ => ∃ (v : V) (d : PyData), vs = [v] ∧ Dn H v d ∧ Q (.bl (isI d)) H
/-- a tuple of n items -/
def tupN (n : Nat) : PyData → Bool
  | .tuple ds => decide (ds.length = n)
  | _ => false
def spTupOf : Sp := fun vs H Q _ => ∃ (v : V) (d : PyData) (n : Nat), vs = [v, .int (n : Int)] ∧ Dn H v d ∧ Q (.bl (tupN n d)) H
def spAllInt : Sp := fun vs H Q _ => ∃ (a : Addr) (xs : List V) (ds : List PyData), vs = [.ref a] ∧ H a = some (.tup xs) ∧ DnAll H xs ds ∧ ds.length ≤ 1000 ∧ ∀ H', Same H H' → Q (.bl (ds.all isI)) H'
section
variable {P : Program} {w : World} {K : PySem.W.Frag} {mg : Str → Option Value} {base : Heap}
theorem scInt : FnScope ["thing"] ["thing"] (defScope sInt) := ⟨rfl, rfl, rfl, by decide +kernel, rfl, by decide +kernel, by decide +kernel⟩
theorem ok_int {f : Addr} {fd : FuncData} (F : Fun K "is_integer" "is_integer" sInt f fd) (T : Bt mg) : FnOk P w K mg base CX0 1 f fd ["thing"] spInt := by
  refine F.ok scInt (fun vs H Q E h => ?_) (fun cdv A outer s H vs Q E hr h => ?_)
  · obtain ⟨v, d, rfl, _⟩ := h
    rfl
  · obtain ⟨v, d, rfl, hd, k⟩ := h
    refine ⟨_, pss_one (ps_ret (pe_and (pe_callB call_isi (by rfl) T.isi (by decide +kernel) (pa_cons (pv 0) (pa_cons (pe_bltn (v := .ty "int") (by rfl) T.int (by decide +kernel) rfl) pa_nil)))
      (pe_one (pe_not (pe_callB call_isi (by rfl) T.isi (by decide +kernel) (pa_cons (pv 0) (pa_cons (pe_bltn (v := .ty "bool") (by rfl) T.bool (by decide +kernel) rfl) pa_nil))))))), ?_⟩
    refine ⟨_, rfl, v, .ty "int", _, _, _, rfl, .ty _, dn_ty hd, kit_ty (kit_i d), _, rfl, ite_b (fun e => ?_) (fun e => ?_)⟩
    · refine ⟨_, rfl, v, .ty "bool", _, _, _, rfl, .ty _, dn_ty hd, kit_ty (kit_b d), _, rfl, ?_⟩
      have : (!isB d) = isI d := by cases d <;> first | rfl | cases e
      rw [this]; exact k
    · have : isI d = false := by cases d <;> first | rfl | cases e
      rw [this] at k; exact k
theorem scTupOf : FnScope ["thing", "many"] ["thing", "many"] (defScope sTupOf) := ⟨rfl, rfl, rfl, by decide +kernel, rfl, by decide +kernel, by decide +kernel⟩
theorem ok_tupOf {f : Addr} {fd : FuncData} (F : Fun K "is_tuple_of" "is_tuple_of" sTupOf f fd) (T : Bt mg) : FnOk P w K mg base CX0 1 f fd ["thing", "many"] spTupOf := by
  refine F.ok scTupOf (fun vs H Q E h => ?_) (fun cdv A outer s H vs Q E hr h => ?_)
  · obtain ⟨v, d, n, rfl, _⟩ := h
    rfl
  · obtain ⟨v, d, n, rfl, hd, k⟩ := h
    refine ⟨_, pss_one (ps_ret (pe_and (pe_callB call_isi (by rfl) T.isi (by decide +kernel) (pa_cons (pv 0) (pa_cons (pe_bltn (v := .ty "tuple") (by rfl) T.tuple (by decide +kernel) rfl) pa_nil)))
      (pe_one (pe_cmpR op_eq (pe_callB call_len (by rfl) T.len PySem.boot_len (pa_cons (pv 0) pa_nil)) (pv 1) (nomark _))))), ?_⟩
    refine ⟨_, rfl, v, .ty "tuple", _, _, _, rfl, .ty _, dn_ty hd, kit_ty (kit_t d), _, rfl, ite_b (fun e => ?_) (fun e => ?_)⟩
    · obtain ⟨a, xs, ds, rfl, rfl, e1, r⟩ := dn_tup hd e
      refine ⟨_, rfl, .ref a, xs.length, rfl, .inr ⟨xs, SqT.of e1, rfl⟩, _, rfl, rfl, ?_⟩
      have : decide (V.int (xs.length : Int) = V.int (n : Int)) = tupN n (.tuple ds) := by
        show _ = decide (ds.length = n)
        rw [r.length]
        exact decide_eq_decide.mpr ⟨fun h => by have := V.int.inj h; omega, fun h => by rw [h]⟩
      rw [this]; exact k
    · have : tupN n d = false := by cases d <;> first | rfl | cases e
      rw [this] at k; exact k
theorem scAllInt : FnScope ["things", "thing"] ["things"] (defScope sAllInt) := ⟨rfl, rfl, rfl, by decide +kernel, rfl, by decide +kernel, by decide +kernel⟩
theorem take_succ_all {α : Type} (p : α → Bool) {l : List α} {i : Nat} {x : α} (h : l[i]? = some x) : l.take (i + 1) = l.take i ++ [x] := by
  rw [List.take_add_one, h]; rfl
theorem ok_allInt {f fI : Addr} {fd fdI : FuncData} (F : Fun K "all_integers" "all_integers" sAllInt f fd) (T : Bt mg) (I : Kn P w K mg base 1 "is_integer" ["thing"] spInt fI fdI) : FnOk P w K mg base CX0 2 f fd ["things"] spAllInt := by
  refine F.ok scAllInt (fun vs H Q E h => ?_) (fun cdv A outer s H vs Q E hr h => ?_)
  · obtain ⟨a, xs, ds, rfl, _⟩ := h
    rfl
  · obtain ⟨a, xs, ds, rfl, ha, r, hl, k⟩ := h
    refine ⟨_, pss_one (ps_ret (pe_callB (cr_all rfl) (by rfl) T.all (by decide +kernel) (pa_cons (pe_lc (own := [("thing", 1)]) (g := gName 1) (tt := tYes) rfl scAllInt.nd (pi_tup (pv 0))
      (blkOk_by (own := [("thing", 1)]) (N := ["things", "thing"]) (sc := defScope sAllInt) (by decide +kernel)) (fun _ _ _ _ _ => pg_name (i := 1) scAllInt.nd rfl (Or.inl rfl)) (fun _ _ _ _ _ => pts_nil)
      (fun _ _ _ _ _ => pe_call I.ok hr rfl I.mg I.kp I.bd .nil pass0 (pa_cons (pv 1) pa_nil))) pa_nil))), ?_⟩
    refine ⟨_, rfl, a, rfl, ⟨_, SqT.of ha⟩, fun D hD => lc_tup (K := K) (a := a) (xs := xs) (fun i H' => H' D = some (.lst ((ds.take i).map fun d => V.bl (isI d))) ∧ Same H H') ⟨upd_same, snew hD⟩ (fun i H' _ s' => SqT.of (s'.2 _ _ ha)) ?_ ?_⟩
    · rintro i x H' hx ⟨e1, e2⟩
      obtain ⟨d, ed, dn⟩ := r.at_ hx
      have il : i < ds.length := (List.getElem?_eq_some_iff.mp ed).1
      refine ⟨rfl, ?_⟩
      refine ⟨_, rfl, x, d, rfl, Dn.mono e2 d x dn, _, e1, ?_, ?_, fun b o e => ?_⟩
      · rw [List.length_map, List.length_take]; exact small1000 (by omega)
      · rw [take_succ_all isI ed, List.map_append, upd_same]; rfl
      · rw [upd_ne (ne_of_none e hD)]; exact e2 _ _ e
    · rintro H' ⟨e1, e2⟩
      rw [r.length, List.take_length] at e1
      refine ⟨D, ds.map isI, rfl, SqL.of (by rw [List.map_map]; exact e1), ?_⟩
      rw [show (ds.map isI).all id = ds.all isI by rw [List.all_map]; rfl]
      exact k _ e2
end
end N3

namespace N3
open PySem PySem.Spec PyProof.Rows L2
section
variable {P : Program} {w : World} {K : PySem.W.Frag} {mg : Str → Option Value} {base : Heap}
/-- a def behind the top -/
structure Df (K : PySem.W.Frag) (mg : Str → Option Value) (x : Str) (st : Stmt) (ps : List Str) (f : Addr) (fd : FuncData) : Prop where
  F : Fun K x x st f fd
  m : mg x = some (.ref f)
  b : Binds K fd ps []
/-- how a def binds what is handed by position -/
def Bds (x : Str) (st : Stmt) (ps : List Str) : Prop := ∀ (kV doc pm : Value) (an : Option Addr) (cdv ct : Value) (us : List Value), us.length = ps.length → bindArgs (PySem.W.fnOf x x (defArgs st) (defBody st) (defScope st) .none kV doc pm an cdv ct) ⟨us, []⟩ = pure (ps.zip us)
theorem df_mk {h : Heap} (X : K.In h) (G : h.Ns mainGlobals mg) {x : Str} {st : Stmt} {ps : List Str} {f : Addr} {oc : Value} {od an : Option Addr} {osl : Array (Option Value)} {kV doc pm cdv ct : Value}
    (a : PySem.W.nsIn K mainGlobals x = some (some (.ref f))) (l : K.lookup f = some ⟨oc, od, .func (PySem.W.fnOf x x (defArgs st) (defBody st) (defScope st) .none kV doc pm an cdv ct), osl⟩) (c : PySem.W.codeIn K cdv x = true) (k : PySem.W.keepIn K (.ref f) = true)
    (b : Bds x st ps) : ∃ f fd, Df K mg x st ps f fd := ⟨f, _, fun_mk (st := st) l c k, PySem.W.mg_of X G a, (fun_mk (st := st) l c k).binds b⟩
theorem Df.kn {x : Str} {st : Stmt} {ps : List Str} {f : Addr} {fd : FuncData} {k : Nat} {sp : Sp} (D : Df K mg x st ps f fd) (ok : FnOk P w K mg base CX0 k f fd ps sp) : Kn P w K mg base k x ps sp f fd := ⟨ok, D.m, D.F.kp, D.b⟩
end
end N3

namespace N3
open PySem PySem.Spec PyProof.Rows L2 N2
theorem call_isqrt {X : Cx} : CallR X (.builtin "math.isqrt") (fun vs H Q => ∃ n : Nat, vs = [.int (n : Int)] ∧ n < 2 ^ 64 ∧ ∀ k : Nat, k * k ≤ n → n < (k + 1) * (k + 1) → Q (.int (k : Int)) H) := by
  intro pins s σ H vs us Q I r h
  obtain ⟨n, rfl, hn, q⟩ := h
  obtain ⟨u, rfl, t, rfl⟩ := vals1 r
  obtain ⟨h1, h2⟩ := Float64.isqrt_spec n
  exact PySem.W.mg_isqrt (by omega) (by omega) ⟨.int _, H, I.tok _, ⟨_, rfl⟩, q _ (by simpa using h1) (by simpa using h2)⟩
def lowT (b c : Int) : Bool := decide (1 ≤ c) && decide (Nat.gcd b.natAbs c.natAbs = 1)
def spLow : Sp := fun vs H Q _ => ∃ b c : Int, vs = [.int b, .int c] ∧ Q (.bl (lowT b c)) H
def spSplit : Sp := fun vs H Q _ => ∃ n : Nat, vs = [.int (n : Int)] ∧ 1 ≤ n ∧ n < 10 ^ 15 ∧ ∀ (f r : Nat) (a : Addr) (H' : Hp), Split n f r → H' a = some (.tup [.int (f : Int), .int (r : Int)]) → Same H H' → Q (.ref a) H'
def spFree : Sp := fun vs H Q _ => ∃ n : Nat, vs = [.int (n : Int)] ∧ 1 ≤ n ∧ n < 10 ^ 15 ∧ ∀ (b : Bool) (H' : Hp), (b = true ↔ SqF n) → Same H H' → Q (.bl b) H'
/-- a number that may stand as d -/
def Fit (a : Int) : Prop := a ≠ 0 ∧ a.natAbs < 10 ^ 15 ∧ SqF a.natAbs
def spFits : Sp := fun vs H Q _ => ∃ a : Int, vs = [.int a] ∧ ∀ (b : Bool) (H' : Hp), (b = true ↔ Fit a) → Same H H' → Q (.bl b) H'
theorem le_cube {p s : Nat} (hp : 1 ≤ p) (h : p * p * p ≤ s) : p ≤ s ∧ p * p ≤ s := by
  have h1 : p * p * 1 ≤ p * p * p := Nat.mul_le_mul_left (p * p) hp
  have h2 : p * 1 ≤ p * p := Nat.mul_le_mul_left p hp
  omega
theorem small_log {n : Nat} (h : n < 2 ^ 64) : n.log2 < 9000 := by
  rcases Nat.eq_zero_or_pos n with z | z
  · rw [z]; decide
  · have := (Nat.log2_lt (by omega : n ≠ 0)).mpr h; omega
section
variable {P : Program} {w : World} {K : PySem.W.Frag} {mg : Str → Option Value} {base : Heap}
theorem scLow : FnScope ["top", "bottom"] ["top", "bottom"] (defScope sLowest) := ⟨rfl, rfl, rfl, by decide +kernel, rfl, by decide +kernel, by decide +kernel⟩
theorem ok_low {f : Addr} {fd : FuncData} (F : Fun K "in_lowest_terms" "in_lowest_terms" sLowest f fd) (T : Bt mg) : FnOk P w K mg base CX0 1 f fd ["top", "bottom"] spLow := by
  refine F.ok scLow (fun vs H Q E h => ?_) (fun cdv A outer s H vs Q E hr h => ?_)
  · obtain ⟨b, c, rfl, _⟩ := h
    rfl
  · obtain ⟨b, c, rfl, k⟩ := h
    refine ⟨_, pss_one (ps_ret (pe_and (pe_cmpR op_ge (pv 1) pe_int (nomark _)) (pe_one (pe_cmpR op_eq (pe_callBfun cr_gcd (by rfl) T.gcd (pa_cons (pv 0) (pa_cons (pv 1) pa_nil))) pe_int (nomark _))))), ?_⟩
    refine ⟨_, rfl, _, _, rfl, rfl, _, rfl, ite_b (fun e => ?_) (fun e => ?_)⟩
    · refine ⟨_, rfl, _, rfl, _, _, rfl, rfl, ?_⟩
      have q : decide (V.int ((Nat.gcd b.natAbs c.natAbs : Nat) : Int) = V.int 1) = lowT b c := by
        unfold lowT
        rw [e, Bool.true_and]
        exact decide_eq_decide.mpr ⟨fun h => by have := V.int.inj h; omega, fun h => by rw [h]; rfl⟩
      rw [q]; exact k
    · have q : lowT b c = false := by
        unfold lowT
        rw [e, Bool.false_and]
      rw [q] at k; exact k
theorem scSplit : FnScope ["size", "free", "root", "factor", "rest"] ["size"] (defScope sSplit) := ⟨rfl, rfl, rfl, by decide +kernel, rfl, by decide +kernel, by decide +kernel⟩
theorem ok_split {f : Addr} {fd : FuncData} (F : Fun K "square_split" "square_split" sSplit f fd) (T : Bt mg) : FnOk P w K mg base CX0 1 f fd ["size"] spSplit := by
  refine F.ok scSplit (fun vs H Q E h => ?_) (fun cdv A outer s H vs Q E hr h => ?_)
  · obtain ⟨n, rfl, _⟩ := h
    rfl
  · obtain ⟨n, rfl, n1, n2, k⟩ := h
    refine ⟨_, pss_cons (ps_asg (pe_tup (pa_cons pe_int (pa_cons pe_int (pa_cons pe_int pa_nil)))) (pg_tup rfl (pgs_cons (pg_name (i := 1) scSplit.nd rfl (Or.inl rfl)) (pgs_cons (pg_name (i := 2) scSplit.nd rfl (Or.inl rfl)) (pgs_cons (pg_name (i := 3) scSplit.nd rfl (Or.inl rfl)) pgs_nil)))))
      (pss_cons (ps_while PassesOwn.never (pt_cmpR op_le (pe_op op_mul (pe_op op_mul (pv 3) (pv 3)) (pv 3)) (pv 0) (nomark _))
        (pss_cons (ps_while PassesOwn.never (pt_cmpR op_eq (pe_op op_mod (pv 0) (pe_op op_mul (pv 3) (pv 3))) pe_int (nomark _))
          (pss_cons (ps_set (i := 0) scSplit.nd rfl (Or.inl rfl) (pe_op op_fdivW (pv 0) (pe_op op_mul (pv 3) (pv 3)))) (pss_one (ps_set (i := 2) scSplit.nd rfl (Or.inl rfl) (pe_op op_mul (pv 2) (pv 3))))))
        (pss_cons (ps_if (pt_cmpR op_eq (pe_op op_mod (pv 0) (pv 3)) pe_int (nomark _))
          (pss_cons (ps_set (i := 0) scSplit.nd rfl (Or.inl rfl) (pe_op op_fdivW (pv 0) (pv 3))) (pss_one (ps_set (i := 1) scSplit.nd rfl (Or.inl rfl) (pe_op op_mul (pv 1) (pv 3))))) pss_nil)
        (pss_one (ps_aug (i := 3) scSplit.nd rfl (.inl rfl) pe_int ip_add)))))
      (pss_cons (ps_set (i := 4) scSplit.nd rfl (Or.inl rfl) (pe_callBfun call_isqrt (by rfl) T.isq (pa_cons (pv 0) pa_nil)))
      (pss_cons (ps_if (pt_cmpR op_eq (pe_op op_mul (pv 4) (pv 4)) (pv 0) (nomark _)) (pss_one (ps_ret (pe_tup (pa_cons (pv 1) (pa_cons (pe_op op_mul (pv 2) (pv 4)) pa_nil))))) pss_nil)
      (pss_one (ps_ret (pe_tup (pa_cons (pe_op op_mul (pv 1) (pv 0)) (pa_cons (pv 2) pa_nil)))))))), ?_⟩
    have p64 : (10 : Nat) ^ 15 + 1 < 2 ^ 64 := by decide
    refine ⟨by show 3 ≤ sizeLine; rw [sizeLine_eq]; decide, fun p0 hp0 => ?_⟩
    refine ⟨p0, _, rfl, SqT.of upd_same, rfl, _, _, rfl, _, _, rfl, _, _, rfl, rfl, ?_⟩
    refine ⟨fun m σ H' => ∃ (s f r p : Nat), σ = [some (.int (s : Int)), some (.int (f : Int)), some (.int (r : Int)), some (.int (p : Int)), none] ∧ Same H H' ∧ Spf n s f r p ∧ p ≤ n + 1 ∧ m = n + 2 - p, ⟨_, n, 1, 1, 2, rfl, snew hp0, spf_0 n1, by omega, rfl⟩, ?_⟩
    rintro m σ H1 ⟨s, f, r, p, rfl, s1, S, pn, rfl⟩
    have p2 := S.p2
    have sn := S.le
    have cm : ∀ x : Int, CMul x (p : Int) := fun x => .inr ⟨by omega, by omega⟩
    refine ⟨_, rfl, _, rfl, _, _, rfl, rfl, cm _, _, rfl, _, _, rfl, rfl, cm _, _, rfl, _, _, rfl, rfl, _, rfl, ite_b (fun c => ?_) (fun c => ?_)⟩
    · have c' : p * p * p ≤ s := by have := of_decide_eq_true c; exact_mod_cast this
      obtain ⟨ps, pps⟩ := le_cube (by omega) c'
      have pos : (0 : Int) < (p : Int) * (p : Int) := by
        have : 0 < p * p := Nat.mul_pos (by omega) (by omega)
        exact_mod_cast this
      refine ⟨fun σ' H' => ∃ (s' r' f' : Nat), σ' = [some (.int (s' : Int)), some (.int (f' : Int)), some (.int (r' : Int)), some (.int ((p + 1 : Nat) : Int)), none] ∧ Same H H' ∧ Spf n s' f' r' (p + 1),
        fun σ' H' ⟨s', r', f', e1, e2, e3⟩ => ⟨n + 2 - (p + 1), by omega, s', f', r', p + 1, e1, e2, e3, by omega, rfl⟩, ?_⟩
      refine ⟨fun m σ H' => ∃ s' r' : Nat, σ = [some (.int (s' : Int)), some (.int (f : Int)), some (.int (r' : Int)), some (.int (p : Int)), none] ∧ Same H H' ∧ Spf n s' f r' p ∧ m = s', ⟨_, s, r, rfl, s1, S, rfl⟩, ?_⟩
      rintro m σ H2 ⟨s', r', rfl, s2, S', rfl⟩
      have sn' := S'.le
      refine ⟨_, rfl, _, rfl, _, rfl, _, _, rfl, rfl, cm _, _, _, rfl, rfl, pos, rfl, _, rfl, ite_b (fun c2 => ?_) (fun c2 => ?_)⟩
      · have c2' : m % (p * p) = 0 := by have := V.int.inj (of_decide_eq_true c2); exact_mod_cast this
        obtain ⟨S2, lt⟩ := S'.sq c2'
        refine ⟨fun σ' H' => σ' = [some (.int ((m / (p * p) : Nat) : Int)), some (.int (f : Int)), some (.int ((r' * p : Nat) : Int)), some (.int (p : Int)), none] ∧ Same H H', fun σ' H' ⟨e1, e2⟩ => ⟨_, lt, _, _, e1, e2, S2, rfl⟩, ?_⟩
        refine ⟨_, rfl, _, rfl, _, rfl, _, _, rfl, rfl, cm _, _, _, rfl, rfl, ⟨pos, ?_⟩, ?_⟩
        · have : ((p : Int) * (p : Int)).natAbs = p * p := by rw [← Int.natCast_mul]; rfl
          rw [this]
          exact small_log (by omega)
        · exact ⟨_, rfl, _, rfl, _, _, rfl, rfl, cm _, by push_cast; rfl, s2⟩
      · have c2' : ¬ m % (p * p) = 0 := fun z => of_decide_eq_false c2 (congrArg V.int (by exact_mod_cast z))
        have pp : (0 : Int) < (p : Int) := by omega
        refine ⟨_, rfl, _, rfl, _, _, rfl, rfl, pp, rfl, _, rfl, ite_b (fun c3 => ?_) (fun c3 => ?_)⟩
        · have c3' : m % p = 0 := by have := V.int.inj (of_decide_eq_true c3); exact_mod_cast this
          refine ⟨_, rfl, _, rfl, _, _, rfl, rfl, ⟨pp, ?_⟩, ?_⟩
          · show p.log2 < 9000
            exact small_log (by omega)
          · refine ⟨_, rfl, _, rfl, _, _, rfl, rfl, cm _, _, rfl, _, _, rfl, rfl, ?_⟩
            exact ⟨m / p, r', f * p, by push_cast; rfl, s2, S'.one c2' c3'⟩
        · have c3' : ¬ m % p = 0 := fun z => of_decide_eq_false c3 (congrArg V.int (by exact_mod_cast z))
          refine ⟨_, rfl, _, _, rfl, rfl, ?_⟩
          exact ⟨m, r', f, by push_cast; rfl, s2, S'.no c3'⟩
    · have c' : s < p * p * p := by
        have h1 := of_decide_eq_false c
        have h2 : ¬ (p * p * p ≤ s) := fun z => h1 (by exact_mod_cast z)
        omega
      refine ⟨_, rfl, s, rfl, by omega, fun j j1 j2 => ?_⟩
      have jj : j ≤ s := Nat.le_trans (Nat.le_mul_self j) j1
      have cj : ∀ x : Int, CMul x (j : Int) := fun x => .inr ⟨by omega, by omega⟩
      refine ⟨_, rfl, _, rfl, _, _, rfl, rfl, cj _, _, rfl, rfl, _, rfl, ite_b (fun c4 => ?_) (fun c4 => ?_)⟩
      · have c4' : j * j = s := by have := V.int.inj (of_decide_eq_true c4); exact_mod_cast this
        refine ⟨_, rfl, _, rfl, _, rfl, _, _, rfl, rfl, cj _, by show 2 ≤ sizeLine; rw [sizeLine_eq]; decide, fun a ha => ?_⟩
        exact k f (r * j) a _ (S.fin_sq c4') upd_same (s1.trans (snew ha))
      · have c4' : ∀ i, i * i ≠ s := fun i e => by
          have h1 : i ≤ j := by
            have : i * i < (j + 1) * (j + 1) := by omega
            have := Nat.mul_self_lt_mul_self_iff.mp this
            omega
          have h2 : j ≤ i := Nat.mul_self_le_mul_self_iff.mp (by omega)
          have : i = j := by omega
          subst this
          exact of_decide_eq_false c4 (congrArg V.int (by exact_mod_cast e))
        refine ⟨_, rfl, _, rfl, _, _, rfl, rfl, .inr ⟨by omega, by omega⟩, _, rfl, by show 2 ≤ sizeLine; rw [sizeLine_eq]; decide, fun a ha => ?_⟩
        exact k (f * s) r a _ (S.fin_no c' c4') (by rw [Int.natCast_mul]; exact upd_same) (s1.trans (snew ha))
end
end N3

namespace N3
open PySem PySem.Spec PyProof.Rows L2 N2
/-- the program's triples -/
def TP (d : PyData) : Prop := ∃ a b c : Int, d = .tuple [.int a, .int b, .int c] ∧ b ≠ 0 ∧ lowT b c = true ∧ Fit a
def spTriple : Sp := fun vs H Q _ => ∃ (v : V) (d : PyData), vs = [v] ∧ Dn H v d ∧ ∀ (b : Bool) (H' : Hp), (b = true ↔ TP d) → Same H H' → Q (.bl b) H'
def hdI : PyData → Int
  | .tuple (.int a :: _) => a
  | _ => 0
def Asc (ds : List PyData) : Prop := ∀ (i : Nat) (x y : PyData), ds[i]? = some x → ds[i + 1]? = some y → hdI x < hdI y
def NP (d : PyData) : Prop := ∃ ds, d = .tuple ds ∧ (∀ x ∈ ds, TP x) ∧ Asc ds
def Short (d : PyData) : Prop := ∀ ds, d = .tuple ds → ds.length ≤ 1000000
def spNumber : Sp := fun vs H Q _ => ∃ (v : V) (d : PyData), vs = [v] ∧ Dn H v d ∧ Short d ∧ ∀ (b : Bool) (H' : Hp), (b = true ↔ NP d) → Same H H' → Q (.bl b) H'
theorem three_ints {ds : List PyData} (h1 : ds.length = 3) (h2 : ds.all isI = true) : ∃ a b c : Int, ds = [.int a, .int b, .int c] := by
  match ds, h1 with
  | [x, y, z], _ =>
    simp only [List.all_cons, List.all_nil, Bool.and_true, Bool.and_eq_true] at h2
    obtain ⟨e1, e2, e3⟩ := h2
    have g : ∀ u : PyData, isI u = true → ∃ i, u = .int i := fun u e => by
      cases u <;> first | exact ⟨_, rfl⟩ | cases e
    obtain ⟨a, rfl⟩ := g x e1
    obtain ⟨b, rfl⟩ := g y e2
    obtain ⟨c, rfl⟩ := g z e3
    exact ⟨a, b, c, rfl⟩
theorem dn3 {H : Hp} {xs : List V} {a b c : Int} (h : DnAll H xs [.int a, .int b, .int c]) : xs = [.int a, .int b, .int c] := by
  cases h with
  | cons h1 r =>
    cases r with
    | cons h2 r =>
      cases r with
      | cons h3 r =>
        cases r
        cases h1
        cases h2
        cases h3
        rfl
theorem all_step {bs : List Bool} {b : Bool} {i : Nat} {p : Nat → Prop} (h : bs.all id = true ↔ ∀ j, j < i → p j) (hb : b = true ↔ p i) : (bs ++ [b]).all id = true ↔ ∀ j, j < i + 1 → p j := by
  rw [List.all_append, Bool.and_eq_true, h]
  simp only [List.all_cons, List.all_nil, Bool.and_true, id]
  rw [hb]
  constructor
  · rintro ⟨h1, h2⟩ j hj
    by_cases c : j = i
    · rw [c]; exact h2
    · exact h1 j (by omega)
  · intro h1
    exact ⟨fun j hj => h1 j (by omega), h1 i (by omega)⟩
section
variable {P : Program} {w : World} {K : PySem.W.Frag} {mg : Str → Option Value} {base : Heap}
theorem scFree : FnScope ["size"] ["size"] (defScope sFree) := ⟨rfl, rfl, rfl, by decide +kernel, rfl, by decide +kernel, by decide +kernel⟩
theorem ok_free {f fS : Addr} {fd fdS : FuncData} (F : Fun K "free_of_squares" "free_of_squares" sFree f fd) (S : Kn P w K mg base 1 "square_split" ["size"] spSplit fS fdS) : FnOk P w K mg base CX0 2 f fd ["size"] spFree := by
  refine F.ok scFree (fun vs H Q E h => ?_) (fun cdv A outer s H vs Q E hr h => ?_)
  · obtain ⟨n, rfl, _⟩ := h
    rfl
  · obtain ⟨n, rfl, n1, n2, k⟩ := h
    refine ⟨_, pss_one (ps_ret (pe_cmpR op_eq (pe_ix (r := rIx K) ix_seq (pe_call S.ok hr rfl S.mg S.kp S.bd .nil pass0 (pa_cons (pv 0) pa_nil)) pe_int (fun _ _ => rfl)) pe_int (nomark _))), ?_⟩
    refine ⟨_, rfl, n, rfl, n1, n2, fun f r a H' hsp e s1 => ?_⟩
    have hq := hsp.one
    refine .inr (.inl ⟨a, _, _, _, rfl, rfl, SqT.of e, rfl, rfl, ?_⟩)
    refine k _ H' ?_ s1
    rw [decide_eq_true_iff]
    exact ⟨fun h => hq.mp (by have := V.int.inj h; omega), fun h => congrArg V.int (by rw [hq.mpr h]; rfl)⟩
theorem scFits : FnScope ["d"] ["d"] (defScope sFits) := ⟨rfl, rfl, rfl, by decide +kernel, rfl, by decide +kernel, by decide +kernel⟩
theorem ok_fits {f fS : Addr} {fd fdS : FuncData} {t : Tok} (F : Fun K "fits_as_d" "fits_as_d" sFits f fd) (T : Bt mg) (L : mg "TOO_LARGE" = some (.int 1000000000000000 t)) (S : Kn P w K mg base 2 "free_of_squares" ["size"] spFree fS fdS) : FnOk P w K mg base CX0 3 f fd ["d"] spFits := by
  refine F.ok scFits (fun vs H Q E h => ?_) (fun cdv A outer s H vs Q E hr h => ?_)
  · obtain ⟨a, rfl, _⟩ := h
    rfl
  · obtain ⟨a, rfl, k⟩ := h
    refine ⟨_, pss_one (ps_ret (pe_and (pe_cmpR op_ne (pv 0) pe_int (nomark _)) (pe_and (pe_cmpR op_lt (pe_callB call_abs (by rfl) T.abs (by decide +kernel) (pa_cons (pv 0) pa_nil)) (pe_glob (v := .int 1000000000000000) rfl L ⟨_, rfl⟩) (nomark _))
      (pe_one (pe_call S.ok hr rfl S.mg S.kp S.bd .nil pass0 (pa_cons (pe_callB call_abs (by rfl) T.abs (by decide +kernel) (pa_cons (pv 0) pa_nil)) pa_nil)))))), ?_⟩
    have ab : (if a < 0 then -a else a) = (a.natAbs : Int) := by split <;> omega
    refine ⟨_, rfl, rfl, _, rfl, ite_b (fun e => ?_) (fun e => ?_)⟩
    · have e' : a ≠ 0 := fun z => by rw [z] at e; exact absurd e (by decide)
      refine ⟨_, rfl, a, rfl, _, _, rfl, rfl, _, rfl, ite_b (fun e2 => ?_) (fun e2 => ?_)⟩
      · rw [ab] at e2
        have e2' : a.natAbs < 10 ^ 15 := by have := of_decide_eq_true e2; omega
        refine ⟨_, rfl, a, rfl, a.natAbs, by rw [ab]; rfl, by omega, e2', fun b H' hb s1 => k b H' ?_ s1⟩
        rw [hb]
        exact ⟨fun h => ⟨e', e2', h⟩, fun h => h.2.2⟩
      · rw [ab] at e2
        exact k false H ⟨fun z => (by cases z), fun h => absurd h.2.1 (by have := of_decide_eq_false e2; omega)⟩ (Same.refl _)
    · exact k false H ⟨fun z => (by cases z), fun h => absurd (show (!decide (V.int a = V.int 0)) = true by rw [decide_eq_false (fun z => h.1 (V.int.inj z))]; rfl) (by rw [e]; decide)⟩ (Same.refl _)
theorem scTriple : FnScope ["thing", "d", "top", "bottom"] ["thing"] (defScope sTriple) := ⟨rfl, rfl, rfl, by decide +kernel, rfl, by decide +kernel, by decide +kernel⟩
theorem ok_triple {f f1 f2 f3 f4 : Addr} {fd d1 d2 d3 d4 : FuncData} (F : Fun K "is_triple" "is_triple" sTriple f fd) (A1 : Kn P w K mg base 1 "is_tuple_of" ["thing", "many"] spTupOf f1 d1) (A2 : Kn P w K mg base 2 "all_integers" ["things"] spAllInt f2 d2)
    (A3 : Kn P w K mg base 1 "in_lowest_terms" ["top", "bottom"] spLow f3 d3) (A4 : Kn P w K mg base 3 "fits_as_d" ["d"] spFits f4 d4) : FnOk P w K mg base CX0 4 f fd ["thing"] spTriple := by
  refine F.ok scTriple (fun vs H Q E h => ?_) (fun cdv A outer s H vs Q E hr h => ?_)
  · obtain ⟨v, d, rfl, _⟩ := h
    rfl
  · obtain ⟨v, d, rfl, hd, k⟩ := h
    have r1 : Room 1 _ := hr.mono (by decide)
    have r2 : Room 2 _ := hr.mono (by decide)
    refine ⟨_, pss_cons (ps_if (pt_not (PW.pt (pw_and (pt_val (pe_call A1.ok r1 rfl A1.mg A1.kp A1.bd .nil pass0 (pa_cons (pv 0) (pa_cons pe_int pa_nil)))) (pw_and1 (pt_val (pe_call A2.ok r2 rfl A2.mg A2.kp A2.bd .nil pass0 (pa_cons (pv 0) pa_nil))))))) (pss_one (ps_ret pe_bl)) pss_nil)
      (pss_cons (ps_asg (pv 0) (pg_tup rfl (pgs_cons (pg_name (i := 1) scTriple.nd rfl (Or.inl rfl)) (pgs_cons (pg_name (i := 2) scTriple.nd rfl (Or.inl rfl)) (pgs_cons (pg_name (i := 3) scTriple.nd rfl (Or.inl rfl)) pgs_nil)))))
      (pss_one (ps_ret (pe_and (pe_cmpR op_ne (pv 2) pe_int (nomark _)) (pe_and (pe_call A3.ok r1 rfl A3.mg A3.kp A3.bd .nil pass0 (pa_cons (pv 2) (pa_cons (pv 3) pa_nil))) (pe_one (pe_call A4.ok hr rfl A4.mg A4.kp A4.bd .nil pass0 (pa_cons (pv 1) pa_nil)))))))), ?_⟩
    have no : tupN 3 d = false → ¬ TP d := fun e ⟨a, b, c, e1, _⟩ => by rw [e1] at e; cases e
    refine ⟨_, rfl, v, d, 3, rfl, hd, _, rfl, ite_b (fun e => ?_) (fun e => ?_)⟩
    · have et : isTp d = true := by cases d <;> first | rfl | cases e
      obtain ⟨a, xs, ds, rfl, rfl, ea, ra⟩ := dn_tup hd et
      have l3 : ds.length = 3 := of_decide_eq_true e
      refine ⟨_, rfl, a, xs, ds, rfl, ea, ra, by omega, fun H1 s1 => ⟨_, rfl, ?_⟩⟩
      cases e2 : ds.all isI with
      | false =>
        refine iteT ?_
        refine k false H1 ⟨fun z => (by cases z), fun ⟨a', b', c', e1, _⟩ => ?_⟩ s1
        cases e1
        cases e2
      | true =>
        refine iteF ?_
        obtain ⟨a', b', c', rfl⟩ := three_ints l3 e2
        obtain rfl := dn3 ra
        refine ⟨_, rfl, a, _, rfl, SqT.of (s1 _ _ ea), rfl, _, _, rfl, _, _, rfl, _, _, rfl, rfl, ?_⟩
        refine ⟨_, rfl, rfl, _, rfl, ite_b (fun e3 => ?_) (fun e3 => ?_)⟩
        · have e3' : b' ≠ 0 := fun z => by rw [z] at e3; exact absurd e3 (by decide)
          refine ⟨_, rfl, _, rfl, b', c', rfl, _, rfl, ite_b (fun e4 => ?_) (fun e4 => ?_)⟩
          · refine ⟨_, rfl, a', rfl, fun b H2 hb s2 => k b H2 ?_ (s1.trans s2)⟩
            rw [hb]
            exact ⟨fun h => ⟨a', b', c', rfl, e3', e4, h⟩, fun ⟨a2, b2, c2, e1, _, _, h⟩ => by cases e1; exact h⟩
          · exact k false H1 ⟨fun z => (by cases z), fun ⟨a2, b2, c2, e1, _, h, _⟩ => by cases e1; rw [e4] at h; cases h⟩ s1
        · refine k false H1 ⟨fun z => (by cases z), fun ⟨a2, b2, c2, e1, h, _, _⟩ => ?_⟩ s1
          cases e1
          rw [decide_eq_false (fun z => h (V.int.inj z))] at e3
          cases e3
    · refine iteT ?_
      exact k false H ⟨fun z => (by cases z), fun h => absurd h (no e)⟩ (Same.refl _)
end
end N3

namespace N3
open PySem PySem.Spec PyProof.Rows L2
theorem small_m {n : Nat} (h : n ≤ 1000000) : n < sizeLine := by rw [sizeLine_eq]; omega
theorem tp_shape {H : Hp} {v : V} {d : PyData} (h : Dn H v d) (t : TP d) : ∃ (p : Addr) (a b c : Int), v = .ref p ∧ d = .tuple [.int a, .int b, .int c] ∧ H p = some (.tup [.int a, .int b, .int c]) := by
  obtain ⟨a, b, c, rfl, _⟩ := t
  cases h with
  | tup e r => exact ⟨_, a, b, c, rfl, rfl, by rw [e, dn3 r]⟩
theorem dn_at {H : Hp} {xs : List V} {ds : List PyData} : ∀ {i : Nat} {d : PyData}, DnAll H xs ds → ds[i]? = some d → ∃ x, xs[i]? = some x ∧ Dn H x d := by
  intro i d r e
  have hi := (List.getElem?_eq_some_iff.mp e).1
  have hx : i < xs.length := by rw [r.length]; exact hi
  obtain ⟨d', e1, dn⟩ := r.at_ (List.getElem?_eq_getElem hx)
  rw [e] at e1
  cases e1
  exact ⟨_, List.getElem?_eq_getElem hx, dn⟩
section
variable {P : Program} {w : World} {K : PySem.W.Frag} {mg : Str → Option Value} {base : Heap}
theorem scNumber : FnScope ["thing", "triple", "k"] ["thing"] (defScope sNumber) := ⟨rfl, rfl, rfl, by decide +kernel, rfl, by decide +kernel, by decide +kernel⟩
theorem ok_number {f f1 : Addr} {fd d1 : FuncData} (F : Fun K "is_number" "is_number" sNumber f fd) (T : Bt mg) (A1 : Kn P w K mg base 4 "is_triple" ["thing"] spTriple f1 d1) : FnOk P w K mg base CX0 5 f fd ["thing"] spNumber := by
  refine F.ok scNumber (fun vs H Q E h => ?_) (fun cdv A outer s H vs Q E hr h => ?_)
  · obtain ⟨v, d, rfl, _⟩ := h
    rfl
  · obtain ⟨v, d, rfl, hd, sh, k⟩ := h
    refine ⟨_, pss_cons (ps_if (pt_not (pt_val (pe_callB call_isi (by rfl) T.isi (by decide +kernel) (pa_cons (pv 0) (pa_cons (pe_bltn (v := .ty "tuple") (by rfl) T.tuple (by decide +kernel) rfl) pa_nil))))) (pss_one (ps_ret pe_bl)) pss_nil)
      (pss_cons (ps_if (pt_not (pt_val (pe_callB (cr_all rfl) (by rfl) T.all (by decide +kernel) (pa_cons (pe_lc (own := [("triple", 1)]) (g := gName 1) (tt := tYes) rfl scNumber.nd (pi_tup (pv 0))
          (blkOk_by (own := [("triple", 1)]) (N := ["thing", "triple", "k"]) (sc := defScope sNumber) (by decide +kernel)) (fun _ _ _ _ _ => pg_name (i := 1) scNumber.nd rfl (Or.inl rfl)) (fun _ _ _ _ _ => pts_nil)
          (fun _ _ _ _ _ => pe_call A1.ok hr rfl A1.mg A1.kp A1.bd .nil pass0 (pa_cons (pv 1) pa_nil))) pa_nil)))) (pss_one (ps_ret pe_bl)) pss_nil)
      (pss_one (ps_ret (pe_callB (cr_all rfl) (by rfl) T.all (by decide +kernel) (pa_cons (pe_lc (own := [("k", 2)]) (g := gName 2) (tt := tYes) rfl scNumber.nd (pi_range1 rfl T.range (pa_cons (pe_op op_sub (pe_callB call_len (by rfl) T.len PySem.boot_len (pa_cons (pv 0) pa_nil)) pe_int) pa_nil))
          (blkOk_by (own := [("k", 2)]) (N := ["thing", "triple", "k"]) (sc := defScope sNumber) (by decide +kernel)) (fun _ _ _ _ _ => pg_name (i := 2) scNumber.nd rfl (Or.inl rfl)) (fun _ _ _ _ _ => pts_nil)
          (fun _ _ _ _ _ => pe_cmpR op_lt (pe_ix (r := rIx K) ix_seq (pe_ix (r := rIx K) ix_seq (pv 0) (pv 2) (fun _ _ => rfl)) pe_int (fun _ _ => rfl))
            (pe_ix (r := rIx K) ix_seq (pe_ix (r := rIx K) ix_seq (pv 0) (pe_op op_add (pv 2) pe_int) (fun _ _ => rfl)) pe_int (fun _ _ => rfl)) (nomark _))) pa_nil))))), ?_⟩
    refine ⟨_, rfl, v, .ty "tuple", _, _, _, rfl, .ty _, dn_ty hd, kit_ty (kit_t d), _, rfl, ?_⟩
    cases et : isTp d with
    | false =>
      refine iteT ?_
      refine k false H ⟨fun z => (by cases z), fun ⟨ds, e, _⟩ => ?_⟩ (Same.refl _)
      rw [e] at et; cases et
    | true =>
      refine iteF ?_
      obtain ⟨a, xs, ds, rfl, rfl, ea, ra⟩ := dn_tup hd et
      have hl := sh ds rfl
      refine ⟨_, rfl, a, rfl, ⟨_, SqT.of ea⟩, fun D hD => lc_tup (K := K) (a := a) (xs := xs) (fun i H' => ∃ bs : List Bool, H' D = some (.lst (bs.map V.bl)) ∧ bs.length = i ∧ (bs.all id = true ↔ ∀ j, j < i → ∀ d, ds[j]? = some d → TP d) ∧ Same H H')
        ⟨[], upd_same, rfl, by simp, snew hD⟩ (fun i H' _ ⟨_, _, _, _, s'⟩ => SqT.of (s' _ _ ea)) ?_ ?_⟩
      · rintro i x H' hx ⟨bs, e1, e2, e3, s'⟩
        obtain ⟨d, ed, dn⟩ := ra.at_ hx
        have il : i < ds.length := (List.getElem?_eq_some_iff.mp ed).1
        refine ⟨rfl, ?_⟩
        refine ⟨_, rfl, x, d, rfl, Dn.mono s' d x dn, fun b H2 hb s2 => ?_⟩
        refine ⟨_, s2 _ _ e1, by rw [List.length_map]; exact small_m (by omega), bs ++ [b], by rw [List.map_append, upd_same]; rfl, by rw [List.length_append, e2]; rfl, ?_, fun c o e => ?_⟩
        · refine all_step (p := fun j => ∀ d, ds[j]? = some d → TP d) e3 ?_
          rw [hb]
          exact ⟨fun h d' e' => by rw [ed] at e'; cases e'; exact h, fun h => h d ed⟩
        · rw [upd_ne (ne_of_none e hD)]
          exact s2 _ _ (s' _ _ e)
      · rintro H1 ⟨bs, e1, e2, e3, s1⟩
        refine ⟨D, bs, rfl, SqL.of e1, _, rfl, ?_⟩
        rw [ra.length] at e3
        have e3' : bs.all id = true ↔ ∀ x ∈ ds, TP x := e3.trans ⟨fun h x hx => by
          obtain ⟨j, hj, ej⟩ := List.mem_iff_getElem.mp hx
          exact h j hj x (by rw [List.getElem?_eq_getElem hj, ej]), fun h j _ d ed => h d (List.mem_of_getElem? ed)⟩
        cases eb : bs.all id with
        | false =>
          refine iteT ?_
          refine k false H1 ⟨fun z => (by cases z), fun ⟨ds', e, h, _⟩ => ?_⟩ s1
          cases e
          rw [e3'.mpr h] at eb; cases eb
        | true =>
          refine iteF ?_
          have tp := e3'.mp eb
          refine ⟨_, rfl, .ref a, xs.length, rfl, .inr ⟨xs, SqT.of (s1 _ _ ea), rfl⟩, _, _, rfl, rfl, _, rfl, by rw [ra.length]; omega, by rw [ra.length]; omega, fun D2 hD2 => ?_⟩
          have en : ((xs.length : Int) - 1).toNat = ds.length - 1 := by rw [ra.length]; omega
          rw [en]
          refine lc_range (lo := 0) (n := ds.length - 1) (fun i H' => ∃ cs : List Bool, H' D2 = some (.lst (cs.map V.bl)) ∧ cs.length = i ∧ (cs.all id = true ↔ ∀ j, j < i → ∀ x y, ds[j]? = some x → ds[j + 1]? = some y → hdI x < hdI y) ∧ Same H1 H')
            ⟨[], upd_same, rfl, by simp, snew hD2⟩ ?_ ?_
          · rintro i H' hi ⟨cs, c1, c2, c3, s'⟩
            have i1 : i < ds.length := by omega
            have i2 : i + 1 < ds.length := by omega
            obtain ⟨x1, ex1, dn1⟩ := dn_at ra (List.getElem?_eq_getElem i1)
            obtain ⟨x2, ex2, dn2⟩ := dn_at ra (List.getElem?_eq_getElem i2)
            obtain ⟨q1, a1, b1, c1', rfl, ed1, h1⟩ := tp_shape dn1 (tp _ (List.getElem_mem i1))
            obtain ⟨q2, a2, b2, c2', rfl, ed2, h2⟩ := tp_shape dn2 (tp _ (List.getElem_mem i2))
            have s0 := s1.trans s'
            refine ⟨rfl, ?_⟩
            refine ⟨_, rfl, _, rfl, .inr (.inl ⟨a, xs, _, _, rfl, rfl, SqT.of (s0 _ _ ea), by rw [Int.zero_add]; exact atI_nat ex1, ?_⟩)⟩
            refine .inr (.inl ⟨q1, _, _, _, rfl, rfl, SqT.of (s0 _ _ h1), rfl, ?_⟩)
            refine ⟨_, rfl, _, rfl, _, _, rfl, rfl, .inr (.inl ⟨a, xs, _, _, rfl, rfl, SqT.of (s0 _ _ ea), by rw [Int.zero_add, show ((i : Int) + 1) = ((i + 1 : Nat) : Int) by omega]; exact atI_nat ex2, ?_⟩)⟩
            refine .inr (.inl ⟨q2, _, _, _, rfl, rfl, SqT.of (s0 _ _ h2), rfl, _, _, rfl, rfl, ?_⟩)
            refine ⟨_, c1, by rw [List.length_map]; exact small_m (by omega), cs ++ [decide (a1 < a2)], by rw [List.map_append, upd_same]; rfl, by rw [List.length_append, c2]; rfl, ?_, fun c o e => ?_⟩
            · refine all_step (p := fun j => ∀ x y, ds[j]? = some x → ds[j + 1]? = some y → hdI x < hdI y) c3 ?_
              rw [decide_eq_true_iff, List.getElem?_eq_getElem i1, List.getElem?_eq_getElem i2, ed1, ed2]
              exact ⟨fun h x y e e' => by cases e; cases e'; exact h, fun h => h _ _ rfl rfl⟩
            · rw [upd_ne (ne_of_none e hD2)]
              exact s' _ _ e
          · rintro H2 ⟨cs, c1, c2, c3, s2⟩
            refine ⟨D2, cs, rfl, SqL.of c1, ?_⟩
            refine k _ H2 ?_ (s1.trans s2)
            rw [c3]
            constructor
            · intro h
              refine ⟨ds, rfl, tp, fun i x y ex ey => h i ?_ x y ex ey⟩
              have := (List.getElem?_eq_some_iff.mp ey).1
              omega
            · rintro ⟨ds', e, _, h⟩ j _ x y ex ey
              cases e
              exact h j x y ex ey
end
end N3

namespace N3
open PySem PySem.Spec PyProof.Rows L2
def FP (d : PyData) : Prop := NP d ∧ ∃ ds, d = .tuple ds ∧ (ds.length = 0 ∨ (ds.length = 1 ∧ ∀ x, ds[0]? = some x → hdI x = 1))
def spFraction : Sp := fun vs H Q _ => ∃ (v : V) (d : PyData), vs = [v] ∧ Dn H v d ∧ Short d ∧ ∀ (b : Bool) (H' : Hp), (b = true ↔ FP d) → Same H H' → Q (.bl b) H'
/-- the error's class BadNumber, its __init__ -/
structure BnC (P : Program) (w : World) (K : PySem.W.Frag) (mg : Str → Option Value) (base : Heap) (x : Str) (S C fI : Addr) (fd : FuncData) : Prop where
  M : SlM K C S fI
  ok : FnOk P w K mg base CX0 2 fI fd ["self", "thing"] (spSet K)
  nm : mg x = some (.ref C)
  b1 : ∀ u, SlBnd K fd [u] [] u
abbrev Bn (P : Program) (w : World) (K : PySem.W.Frag) (mg : Str → Option Value) (base : Heap) (S C fI : Addr) (fd : FuncData) : Prop := BnC P w K mg base "BadNumber" S C fI fd
def Air (H : Hp) (E : XK) (C : Addr) (v : V) : Prop := ∀ (dx : Addr) (H' : Hp), H dx = none → H' dx = some (.xd [("thing", v)]) → Same H H' → E (.ref C) (some dx) H'
theorem Air.later {H H1 : Hp} {E : XK} {C : Addr} {v : V} (a : Air H E C v) (s : Same H H1) : Air H1 E C v := fun dx H' h1 h2 h3 => a dx H' (s.free h1) h2 (s.trans h3)
def spCheck (C : Addr) : Sp := fun vs H Q E => ∃ (v : V) (d : PyData), vs = [v] ∧ Dn H v d ∧ Short d ∧ (NP d → ∀ H', Same H H' → Q .non H') ∧ (¬ NP d → Air H E C v)
def intOf : List PyData → PyData
  | [] => .int 0
  | [.tuple [.int a, .int b, .int c]] => if a = 1 ∧ c = 1 then .int b else .none
  | _ => .none
def spIntOf (C : Addr) : Sp := fun vs H Q E => ∃ (v : V) (d : PyData), vs = [v] ∧ Dn H v d ∧ Short d ∧ (∀ ds, d = .tuple ds → NP d → ∀ r H', Dn H' r (intOf ds) → Same H H' → Q r H') ∧ (¬ NP d → Air H E C v)
theorem np_dp {K : PySem.W.Frag} {H : Hp} : ∀ {xs : List V} {ds : List PyData}, DnAll H xs ds → (∀ x ∈ ds, TP x) → DpAll K H xs ds
  | _, _, .nil, _ => .nil
  | _, _, .cons (v := v) (d := d) h r, t => by
    obtain ⟨p, a, b, c, e1, e2, e3⟩ := tp_shape h (t _ List.mem_cons_self)
    rw [e1, e2]
    exact .cons (.tup (SqT.of e3) (.cons (.int a) (.cons (.int b) (.cons (.int c) .nil)))) (np_dp r fun x hx => t x (List.mem_cons_of_mem _ hx))
theorem np_lay : ∀ {ds : List PyData}, (∀ x ∈ ds, TP x) → PyData.canLayAll0 ds = true ∧ PyData.depthAll ds ≤ 1
  | [], _ => by simp [PyData.canLayAll0, PyData.depthAll]
  | d :: ds, t => by
    obtain ⟨a, b, c, e, _⟩ := t d List.mem_cons_self
    obtain ⟨h1, h2⟩ := np_lay (ds := ds) fun x hx => t x (List.mem_cons_of_mem _ hx)
    subst e
    refine ⟨by simp [PyData.canLayAll0, PyData.canLay0, h1], ?_⟩
    simp only [PyData.depthAll, PyData.depth]
    omega
theorem np_shaped {ds : List PyData} (t : ∀ x ∈ ds, TP x) : SeqAt.shaped (.tuple ds) = true := by
  obtain ⟨h1, h2⟩ := np_lay t
  show (PyData.canLay0 (.tuple ds) && decide (PyData.depth (.tuple ds) ≤ 64)) = true
  rw [Bool.and_eq_true]
  exact ⟨by simp only [PyData.canLay0]; exact h1, decide_eq_true (by simp only [PyData.depth]; omega)⟩
theorem eqv_nil_t (ds : List PyData) : PyData.eqv (.tuple ds) (.tuple []) = ds.isEmpty := by
  cases ds <;> simp [PyData.eqv, PyData.eqvAll]
section
variable {P : Program} {w : World} {K : PySem.W.Frag} {mg : Str → Option Value} {base : Heap}
theorem scFraction : FnScope ["thing"] ["thing"] (defScope sFraction) := ⟨rfl, rfl, rfl, by decide +kernel, rfl, by decide +kernel, by decide +kernel⟩
theorem dec_len {n : Nat} {k : Nat} : decide (V.int (n : Int) = V.int (k : Int)) = decide (n = k) := decide_eq_decide.mpr ⟨fun h => by have := V.int.inj h; omega, fun h => by rw [h]⟩
theorem ok_fraction {f f1 : Addr} {fd d1 : FuncData} (F : Fun K "is_fraction" "is_fraction" sFraction f fd) (T : Bt mg) (A1 : Kn P w K mg base 5 "is_number" ["thing"] spNumber f1 d1) : FnOk P w K mg base CX0 6 f fd ["thing"] spFraction := by
  refine F.ok scFraction (fun vs H Q E h => ?_) (fun cdv A outer s H vs Q E hr h => ?_)
  · obtain ⟨v, d, rfl, _⟩ := h
    rfl
  · obtain ⟨v, d, rfl, hd, sh, k⟩ := h
    refine ⟨_, pss_one (ps_ret (pe_and (pe_call A1.ok hr rfl A1.mg A1.kp A1.bd .nil pass0 (pa_cons (pv 0) pa_nil)) (pe_one (pe_or (pe_cmpR op_eq (pe_callB call_len (by rfl) T.len PySem.boot_len (pa_cons (pv 0) pa_nil)) pe_int (nomark _))
      (pe_one (pe_and (pe_cmpR op_eq (pe_callB call_len (by rfl) T.len PySem.boot_len (pa_cons (pv 0) pa_nil)) pe_int (nomark _)) (pe_one (pe_cmpR op_eq (pe_ix (r := rIx K) ix_seq (pe_ix (r := rIx K) ix_seq (pv 0) pe_int (fun _ _ => rfl)) pe_int (fun _ _ => rfl)) pe_int (nomark _))))))))), ?_⟩
    refine ⟨_, rfl, v, d, rfl, hd, sh, fun b H1 hb s1 => ⟨_, rfl, ite_b (fun e => ?_) (fun e => ?_)⟩⟩
    · obtain ⟨ds, rfl, tp, asc⟩ := hb.mp e
      have np := hb.mp e
      obtain ⟨a, xs, ds', rfl, e2, ea, ra⟩ := dn_tup hd rfl
      cases e2
      have ll : ∀ j : Nat, decide (V.int (xs.length : Int) = V.int (j : Int)) = decide (ds.length = j) := fun j => by rw [dec_len, ra.length]
      refine ⟨_, rfl, .ref a, xs.length, rfl, .inr ⟨xs, SqT.of (s1 _ _ ea), rfl⟩, rfl, _, rfl, ite_b (fun e3 => ?_) (fun e3 => ?_)⟩
      · have z : ds.length = 0 := of_decide_eq_true ((ll 0).symm.trans e3)
        exact k true H1 ⟨fun _ => ⟨np, ds, rfl, .inl z⟩, fun _ => rfl⟩ s1
      · have z : ds.length ≠ 0 := of_decide_eq_false ((ll 0).symm.trans e3)
        refine ⟨_, rfl, .ref a, xs.length, rfl, .inr ⟨xs, SqT.of (s1 _ _ ea), rfl⟩, rfl, _, rfl, ite_b (fun e4 => ?_) (fun e4 => ?_)⟩
        · have z1 : ds.length = 1 := of_decide_eq_true ((ll 1).symm.trans e4)
          obtain ⟨x1, ex1, dn1⟩ := dn_at ra (List.getElem?_eq_getElem (show 0 < ds.length by omega))
          obtain ⟨q1, a1, b1, c1, rfl, ed1, h1⟩ := tp_shape dn1 (tp _ (List.getElem_mem (by omega)))
          refine ⟨_, rfl, .inr (.inl ⟨a, xs, _, _, rfl, rfl, SqT.of (s1 _ _ ea), atI_nat ex1, ?_⟩)⟩
          refine .inr (.inl ⟨q1, _, _, _, rfl, rfl, SqT.of (s1 _ _ h1), rfl, rfl, ?_⟩)
          refine k _ H1 ?_ s1
          rw [decide_eq_true_iff]
          constructor
          · intro h
            refine ⟨np, ds, rfl, .inr ⟨z1, fun x hx => ?_⟩⟩
            rw [List.getElem?_eq_getElem (by omega), ed1] at hx
            cases hx
            exact V.int.inj h
          · rintro ⟨_, ds2, e5, h⟩
            cases e5
            rcases h with h | ⟨_, h⟩
            · exact absurd h z
            · have := h _ (by rw [List.getElem?_eq_getElem (by omega), ed1])
              exact congrArg V.int this
        · have z1 : ds.length ≠ 1 := of_decide_eq_false ((ll 1).symm.trans e4)
          refine k false H1 ⟨fun y => (by cases y), fun ⟨_, ds2, e5, h⟩ => ?_⟩ s1
          cases e5
          exact h.elim (fun q => absurd q z) (fun q => absurd q.1 z1)
    · refine k false H1 ⟨fun y => (by cases y), fun h => ?_⟩ s1
      rw [hb.mpr h.1] at e; cases e
/-- the program's whole_number of a number -/
def spWhole : Sp := fun vs H Q _ => ∃ (v : V) (d : PyData), vs = [v] ∧ Dn H v d ∧ NP d ∧ ∀ ds, d = .tuple ds → ∀ r H', Dn H' r (intOf ds) → Same H H' → Q r H'
end
end N3

namespace N3
open PySem PySem.Spec PyProof.Rows L2
abbrev sDeck : Stmt := top 25
abbrev sDraw : Stmt := top 26
abbrev sGreat : Stmt := top 27
abbrev sPick : Stmt := top 28
abbrev sNear : Stmt := top 29
abbrev sCommon : Stmt := top 30
abbrev sLInt : Stmt := top 31
abbrev sNum : Stmt := top 35
abbrev sAny : Stmt := top 38
abbrev sIsLean : Stmt := top 32
abbrev sLTriple : Stmt := top 33
abbrev sLNumber : Stmt := top 34
abbrev sInstead : Stmt := top 39
abbrev sBent : Stmt := top 40
abbrev sThing : Stmt := top 53
abbrev sLaw : Stmt := top 55
def dkv (x y z : V) : List (Key × V) := [(Sum.inr "left", x), (Sum.inr "mixed", y), (Sum.inr "draws", z)]
/-- a deck stands at dk, its list at l -/
def Deck (H : Hp) (dk l : Addr) : Prop := ∃ (ns : List Int) (m j : Int), H dk = some (.dK (dkv (.ref l) (.int m) (.int j))) ∧ H l = some (.lst (ns.map V.int)) ∧ ns.length ≤ 63
def Keep (dk l : Addr) (H H' : Hp) : Prop := ∀ b o, H b = some o → b ≠ dk → b ≠ l → H' b = some o
theorem Keep.of {dk l : Addr} {H H' : Hp} (h : Same H H') : Keep dk l H H' := fun b o e _ _ => h b o e
theorem Keep.trans {dk l : Addr} {H H1 H2 : Hp} (h : Keep dk l H H1) (k : Keep dk l H1 H2) : Keep dk l H H2 := fun b o e h1 h2 => k b o (h b o e h1 h2) h1 h2
theorem Deck.same {H H' : Hp} {dk l : Addr} (D : Deck H dk l) (h : Same H H') : Deck H' dk l := by
  obtain ⟨ns, m, j, h1, h2, h3⟩ := D
  exact ⟨ns, m, j, h _ _ h1, h _ _ h2, h3⟩
theorem Deck.ne {H : Hp} {dk l : Addr} (D : Deck H dk l) : dk ≠ l := by
  obtain ⟨ns, m, j, h1, h2, h3⟩ := D
  exact ne_of h1 h2 (by intro z; cases z)
theorem map_get {ns : List Int} {i : Nat} {y : V} (h : (ns.map V.int)[i]? = some y) : ∃ z : Int, ns[i]? = some z ∧ y = .int z := by
  rw [List.getElem?_map] at h
  cases e : ns[i]? with
  | none => rw [e] at h; cases h
  | some z => rw [e] at h; exact ⟨z, rfl, (Option.some.inj h).symm⟩
theorem cut_ints (ns : List Int) (lo hi : Option Int) : ∃ ms : List Int, cutV (ns.map V.int) lo hi = ms.map V.int ∧ ms.length ≤ ns.length := by
  unfold cutV
  refine ⟨(ns.drop (HT.sIx (ns.map V.int).length 0 lo)).take (HT.sIx (ns.map V.int).length (ns.map V.int).length hi - HT.sIx (ns.map V.int).length 0 lo), ?_, ?_⟩
  · rw [List.map_take, List.map_drop]
  · rw [List.length_take, List.length_drop]; omega
theorem kLM : ¬ (("left" : Str) = "mixed") := by decide +kernel
theorem kLD : ¬ (("left" : Str) = "draws") := by decide +kernel
theorem kMD : ¬ (("mixed" : Str) = "draws") := by decide +kernel
theorem deck3 (x y z : V) : mergeK [] (dkv x y z) = dkv x y z := by
  have h1 := kLM
  have h2 := kLD
  have h3 := kMD
  simp [mergeK, putK, dkv, h1, h2, h3]
def spDeck (K : PySem.W.Frag) : Sp := fun vs H Q _ => ∃ (a : Addr) (ns : List Int) (seed : Int), vs = [.ref a, .int seed] ∧ SqL K H a (ns.map V.int) ∧ ns.length ≤ 63 ∧
  ∀ (H' : Hp) (dk l : Addr), Deck H' dk l → Same H H' → H dk = none → H l = none → Q (.ref dk) H'
section
variable {P : Program} {w : World} {K : PySem.W.Frag} {mg : Str → Option Value} {base : Heap}
theorem scDeck : FnScope ["script", "seed", "mixed", "cell"] ["script", "seed"] (defScope sDeck) := ⟨rfl, rfl, rfl, by decide +kernel, rfl, by decide +kernel, by decide +kernel⟩
theorem ok_deck {f : Addr} {fd : FuncData} (F : Fun K "_law_deck" "_law_deck" sDeck f fd) (T : Bt mg) : FnOk P w K mg base CX0 1 f fd ["script", "seed"] (spDeck K) := by
  refine F.ok scDeck (fun vs H Q E h => ?_) (fun cdv A outer s H vs Q E hr h => ?_)
  · obtain ⟨a, ns, seed, rfl, _⟩ := h
    rfl
  · obtain ⟨a, ns, seed, rfl, hS, hl, k⟩ := h
    refine ⟨_, pss_cons (ps_set (i := 2) scDeck.nd rfl (Or.inl rfl) (pv 1))
      (pss_cons (ps_for PassesOwn.never rfl (pi_list (pe_slice sl_list (pv 0) po_none (po_some pe_int))) (pg_name (i := 3) scDeck.nd rfl (Or.inl rfl))
        (pss_one (ps_set (i := 2) scDeck.nd rfl (Or.inl rfl) (pe_op op_mod (pe_callTy call_int1 (by rfl) T.int (by decide +kernel) (pa_cons
          (pe_op op_add (pe_op op_add (pe_op op_mul (pv 2) pe_int) (pe_op op_mod (pe_callTy call_int1 (by rfl) T.int (by decide +kernel) (pa_cons (pv 3) pa_nil)) pe_int)) pe_int) pa_nil)) pe_int))))
      (pss_one (ps_ret (pe_disp (pps_cons pe_str (pe_revL (pe_callTy call_list_of (by rfl) T.list (by decide +kernel) (pa_cons (pe_slice sl_list (pv 0) po_none (po_some pe_int)) pa_nil)))
        (pps_cons pe_str (pv 2) (pps_cons pe_str pe_int pps_nil))) (by rfl) (by rfl) (fun z => by cases z) (by decide))))), ?_⟩
    obtain ⟨ms, em, hm⟩ := cut_ints ns none (some 63)
    refine ⟨_, rfl, _, rfl, _, rfl, a, _, rfl, hS, fun p hp => ⟨p, rfl, ⟨_, SqL.of upd_same⟩, ?_⟩⟩
    rw [em]
    refine for_list (K := K) (a := p) (xs := ms.map V.int) (fun i σ H' => ∃ (m : Int) (v : Option V), σ = [some (.ref a), some (.int seed), some (.int m), v] ∧ H' = upd H p (.lst (ms.map V.int)))
      ⟨seed, none, rfl, rfl⟩ (fun i σ H' _ ⟨_, _, _, e⟩ => by rw [e]; exact SqL.of upd_same) ?_ ?_
    · rintro i y σ H' hi ⟨m, v, rfl, rfl⟩
      obtain ⟨z, hz, rfl⟩ := map_get hi
      refine ⟨_, rfl, _, _, rfl, rfl, .inr ⟨by decide, by decide⟩, ?_⟩
      refine ⟨_, rfl, .inl ⟨_, rfl, ?_⟩⟩
      refine ⟨_, _, rfl, rfl, (by show (0 : Int) < 2147483647; decide), ?_⟩
      refine ⟨_, _, rfl, rfl, _, _, rfl, rfl, .inl ⟨_, rfl, ?_⟩⟩
      exact ⟨_, _, rfl, rfl, (by show (0 : Int) < 2147483563; decide), _, _, rfl, rfl⟩
    · rintro σ H' ⟨m, v, rfl, rfl⟩
      have s1 : Same H (upd H p (.lst (ms.map V.int))) := snew hp
      intro d hd
      refine ⟨_, rfl, _, rfl, a, ns.map V.int, rfl, (s1.trans (snew hd)).seq hS, fun p2 hp2 => ?_⟩
      refine ⟨p2, _, rfl, .inl (SqL.of upd_same), fun p3 hp3 => ?_⟩
      refine ⟨p3, _, rfl, SqL.of upd_same, fun p4 hp4 => ?_⟩
      have f3 := (snew hp3).free hp4
      have f2 := (snew hp2).free f3
      have s4 : Same (upd (upd H p (.lst (ms.map V.int))) d (.dK [])) _ := ((snew hp2).trans (snew hp3)).trans (snew (o := .lst (cutV (ns.map V.int) none (some 63)).reverse) hp4)
      rw [em] at s4 ⊢
      have nd4 : d ≠ p4 := ne_of_none upd_same f2
      refine ⟨_, rfl, s4 _ _ upd_same, dkv (.ref p4) (.int m) (.int 0), rfl, (by show 3 ≤ 15; decide), ?_⟩
      have e4 := deck3 (.ref p4) (.int m) (.int 0)
      refine k _ d p4 ⟨ms.reverse, m, 0, ?_, ?_, ?_⟩ ?_ (s1.free hd) (s1.free ((snew hd).free f2))
      · exact upd_same.trans (congrArg (fun l => some (HO.dK l)) e4)
      · rw [upd_ne nd4.symm, List.map_reverse]; exact upd_same
      · rw [List.length_reverse]; omega
      · intro b o e
        have e1 := s1 b o e
        rw [upd_ne (ne_of_none e1 hd)]
        exact s4 _ _ (snew hd _ _ e1)
end
theorem val_left (x y z : V) : valV (dkv x y z) (Sum.inr "left" : Key) = some x := valV_pos rfl
theorem val_mixed (x y z : V) : valV (dkv x y z) (Sum.inr "mixed" : Key) = some y := by
  unfold dkv
  rw [valV_neg (by show ¬ (Sum.inr ("left" : Str) : Key) = Sum.inr ("mixed" : Str); exact fun e => kLM (Sum.inr.inj e)), valV_pos rfl]
theorem val_draws (x y z : V) : valV (dkv x y z) (Sum.inr "draws" : Key) = some z := by
  unfold dkv
  rw [valV_neg (by show ¬ (Sum.inr ("left" : Str) : Key) = Sum.inr ("draws" : Str); exact fun e => kLD (Sum.inr.inj e)),
    valV_neg (by show ¬ (Sum.inr ("mixed" : Str) : Key) = Sum.inr ("draws" : Str); exact fun e => kMD (Sum.inr.inj e)), valV_pos rfl]
theorem put_draws (x y z v : V) : putK (dkv x y z) (Sum.inr "draws" : Key) v = dkv x y v := by
  have h1 := kLD
  have h2 := kMD
  simp [putK, dkv, h1, h2]
theorem put_mixed (x y z v : V) : putK (dkv x y z) (Sum.inr "mixed" : Key) v = dkv x v z := by
  have h1 := kLM
  have h2 : ¬ (("draws" : Str) = "mixed") := fun e => kMD e.symm
  simp [putK, dkv, h1, h2]
theorem dk_get {H : Hp} {d : Addr} {x y z : V} {k : Str} {v : V} (h : H d = some (.dK (dkv x y z))) (e : valV (dkv x y z) (Sum.inr k : Key) = some v) : DGet H d (.str k) (some v) := by
  rw [← e]
  exact DGet.k (k := Sum.inr k) h
theorem dk_put {H : Hp} {d : Addr} {x y z : V} {k : Str} {v : V} {l : List (Key × V)} (h : H d = some (.dK (dkv x y z))) (e : putK (dkv x y z) (Sum.inr k : Key) v = l) : DPut H d (.str k) v (upd H d (.dK l)) := by
  rw [← e]
  exact DPut.k (k := Sum.inr k) h (by show 3 < sizeLine; rw [sizeLine_eq]; decide)
theorem ints_lay : ∀ ns : List Int, PyData.canLayAll0 (ns.map PyData.int) = true
  | [] => by simp [PyData.canLayAll0]
  | z :: zs => by simp [PyData.canLayAll0, PyData.canLay0, ints_lay zs]
theorem ints_deep : ∀ ns : List Int, PyData.depthAll (ns.map PyData.int) = 0
  | [] => by simp [PyData.depthAll]
  | z :: zs => by simp [PyData.depthAll, PyData.depth, ints_deep zs]
theorem ints_shaped (ns : List Int) : SeqAt.shaped (.list (ns.map PyData.int)) = true := by
  have h1 := ints_deep ns
  show (PyData.canLay0 (.list (ns.map PyData.int)) && decide (PyData.depth (.list (ns.map PyData.int)) ≤ 64)) = true
  rw [Bool.and_eq_true]
  exact ⟨by simp only [PyData.canLay0]; exact ints_lay ns, decide_eq_true (by simp only [PyData.depth]; omega)⟩
theorem nil_shaped : SeqAt.shaped (.list []) = true := ints_shaped []
theorem eqv_nil (ds : List PyData) : PyData.eqv (.list ds) (.list []) = ds.isEmpty := by
  cases ds <;> simp [PyData.eqv, PyData.eqvAll]
theorem ints_dp {K : PySem.W.Frag} {H : Hp} : ∀ ns : List Int, DpAll K H (ns.map V.int) (ns.map PyData.int)
  | [] => .nil
  | z :: zs => .cons (.int z) (ints_dp zs)
/-- a draw: some number below many; the deck alone changes -/
def spDraw : Sp := fun vs H Q _ => ∃ (dk l : Addr) (many : Int), vs = [.ref dk, .int many] ∧ Deck H dk l ∧ 0 < many ∧ many < 1073741824 ∧
  ∀ (r : Int) (H' : Hp), 0 ≤ r → r < many → Deck H' dk l → Keep dk l H H' → Q (.int r) H'
section
variable {P : Program} {w : World} {K : PySem.W.Frag} {mg : Str → Option Value} {base : Heap}
theorem scDraw : FnScope ["deck", "many", "cell", "figure"] ["deck", "many"] (defScope sDraw) := ⟨rfl, rfl, rfl, by decide +kernel, rfl, by decide +kernel, by decide +kernel⟩
theorem ok_draw {f : Addr} {fd : FuncData} (F : Fun K "_law_draw" "_law_draw" sDraw f fd) (T : Bt mg) : FnOk P w K mg base CX0 1 f fd ["deck", "many"] spDraw := by
  refine F.ok scDraw (fun vs H Q E h => ?_) (fun cdv A outer s H vs Q E hr h => ?_)
  · obtain ⟨dk, l, many, rfl, _⟩ := h
    rfl
  · obtain ⟨dk, l, many, rfl, D, m0, m1, k⟩ := h
    have hu := hu_of hr
    refine ⟨_, pss_cons (ps_dput hu (pv 0) pe_str (pe_op op_add (pe_dget hu (pv 0) pe_str (fun _ _ => rfl)) pe_int) rfl)
      (C8.pss_cut (ps_if (pt_cmpR (op_neD hr.units) (pe_dget hu (pv 0) pe_str (fun _ _ => rfl)) (pe_lst pa_nil) (nomark _))
        (pss_cons (ps_set (i := 2) scDraw.nd rfl (Or.inl rfl) (pe_bm0 PySem.F.plainAttrs_list PySem.F.slot_list_pop PySem.F.type_list_pop mt_pop (pe_dget hu (pv 0) pe_str (fun _ _ => rfl))))
        (pss_cons (ps_if (pt_cmpR op_ge (pv 2) (pe_op op_pow pe_int pe_int) (nomark _))
          (pss_cons (ps_expr (pe_bm PySem.F.plainAttrs_list PySem.F.slot_list_append PySem.F.type_list_append mt_append (pe_dget hu (pv 0) pe_str (fun _ _ => rfl))
            (pa_cons (pe_op op_fdiv (pv 2) (pe_callB (call_max2 rfl) (by rfl) T.max (by decide +kernel) (pa_cons pe_int (pa_cons (pv 1) pa_nil)))) pa_nil)))
          (pss_one (ps_ret (pe_op op_mod (pe_callTy call_int1 (by rfl) T.int (by decide +kernel) (pa_cons (pv 2) pa_nil)) (pv 1))))) pss_nil)
        (pss_one (ps_dput hu (pv 0) pe_str (pe_op op_mod (pe_callTy call_int1 (by rfl) T.int (by decide +kernel) (pa_cons
          (pe_op op_add (pe_op op_add (pe_op op_mul (pe_dget hu (pv 0) pe_str (fun _ _ => rfl)) pe_int) (pe_op op_mod (pe_callTy call_int1 (by rfl) T.int (by decide +kernel) (pa_cons (pv 2) pa_nil)) pe_int)) pe_int) pa_nil)) pe_int) rfl)))) pss_nil)
      (pss_cons (ps_set (i := 3) scDraw.nd rfl (Or.inl rfl) (pe_op op_mod (pe_callTy call_int1 (by rfl) T.int (by decide +kernel) (pa_cons
        (pe_op op_add (pe_dget hu (pv 0) pe_str (fun _ _ => rfl)) (pe_op op_mul pe_int (pe_dget hu (pv 0) pe_str (fun _ _ => rfl)))) pa_nil)) pe_int))
      (pss_cons (ps_set (i := 3) scDraw.nd rfl (Or.inl rfl) (pe_op op_mod (pe_callTy call_int1 (by rfl) T.int (by decide +kernel) (pa_cons
        (pe_op op_add (pe_op op_add (pe_op op_mul (pv 3) (pv 3)) (pe_op op_mul pe_int (pe_dget hu (pv 0) pe_str (fun _ _ => rfl)))) pe_int) pa_nil)) pe_int))
      (pss_cons (ps_set (i := 3) scDraw.nd rfl (Or.inl rfl) (pe_op op_mod (pe_callTy call_int1 (by rfl) T.int (by decide +kernel) (pa_cons
        (pe_op op_add (pe_op op_mul (pv 3) pe_int) pe_int) pa_nil)) pe_int))
      (pss_one (ps_ret (pe_op op_mod (pe_callTy call_int1 (by rfl) T.int (by decide +kernel) (pa_cons (pe_op op_fdiv (pv 3) pe_int) pa_nil)) (pv 1)))))))), ?_⟩
    obtain ⟨ns, m, j, h1, h2, h3⟩ := id D
    have ne := D.ne
    refine ⟨_, rfl, dk, _, rfl, dk_get h1 (val_draws _ _ _), _, _, rfl, rfl, _, rfl, dk, _, rfl, dk_put h1 (put_draws _ _ _ _), ?_⟩
    have g1 : (upd H dk (.dK (dkv (.ref l) (.int m) (.int (j + 1))))) dk = some (.dK (dkv (.ref l) (.int m) (.int (j + 1)))) := upd_same
    have g2 : (upd H dk (.dK (dkv (.ref l) (.int m) (.int (j + 1))))) l = some (.lst (ns.map V.int)) := by rw [upd_ne ne.symm]; exact h2
    have kp : Keep dk l H (upd H dk (.dK (dkv (.ref l) (.int m) (.int (j + 1))))) := fun b o e hb _ => by rw [upd_ne hb]; exact e
    refine ⟨fun σ' H' => ∃ c : Option V, σ' = [some (.ref dk), some (.int many), c, none] ∧ Deck H' dk l ∧ Keep dk l H H', ?_, ?_⟩
    · refine ⟨_, rfl, dk, _, rfl, dk_get g1 (val_left _ _ _), ?_⟩
      refine ⟨(by show 0 ≤ sizeLine; exact Nat.zero_le _), fun p hp => ⟨.list (ns.map PyData.int), .list [], .lst (SqL.of ((snew hp) _ _ g2)) (ints_dp ns), .lst (SqL.of upd_same) .nil, ints_shaped ns, nil_shaped, _, rfl, ?_⟩⟩
      rw [eqv_nil]
      have sp := snew (o := .lst []) hp
      have q1 := sp _ _ g1
      have q2 := sp _ _ g2
      have kp1 := kp.trans (Keep.of sp)
      cases ns with
      | nil =>
        refine iteF ?_
        exact ⟨none, rfl, ⟨[], m, j + 1, q1, q2, h3⟩, kp1⟩
      | cons z zs =>
        refine iteT ?_
        obtain ⟨H1, eH1⟩ : ∃ H1, upd (upd H dk (.dK (dkv (.ref l) (.int m) (.int (j + 1))))) p (.lst []) = H1 := ⟨_, rfl⟩
        rw [eH1] at q1 q2 kp1
        show (tSeq _ _) _ _ (upd (upd H dk (.dK (dkv (.ref l) (.int m) (.int (j + 1))))) p (.lst []))
        rw [eH1]
        obtain ⟨y, hy⟩ : ∃ y : Int, ((z :: zs).map V.int)[((z :: zs).map V.int).length - 1]? = some (.int y) := by
          rw [List.length_map, List.getElem?_map]
          have hlt : (z :: zs).length - 1 < (z :: zs).length := by show zs.length < zs.length + 1; omega
          exact ⟨(z :: zs)[(z :: zs).length - 1], by rw [List.getElem?_eq_getElem hlt]; rfl⟩
        have hdl : ((z :: zs).map V.int).dropLast = ((z :: zs).dropLast).map V.int := by rw [List.map_dropLast]
        have hlen : ((z :: zs).dropLast).length ≤ 62 := by rw [List.length_dropLast]; omega
        refine ⟨_, rfl, dk, _, rfl, dk_get q1 (val_left _ _ _), .inl ⟨rfl, _, .inl (.inl q2)⟩, l, _, _, rfl, rfl, q2, hy, ?_⟩
        rw [hdl]
        have n1 : (upd H1 l (.lst (((z :: zs).dropLast).map V.int))) dk = some (.dK (dkv (.ref l) (.int m) (.int (j + 1)))) := by rw [upd_ne ne]; exact q1
        have kp2 : Keep dk l H (upd H1 l (.lst (((z :: zs).dropLast).map V.int))) := fun b o e hb hl => by rw [upd_ne hl]; exact kp1 b o e hb hl
        refine ⟨_, rfl, _, _, rfl, rfl, ⟨by decide, by decide, by decide⟩, _, _, rfl, rfl, _, rfl, ite2 (fun _ => ?_) (fun _ => ?_)⟩
        · refine ⟨_, rfl, dk, _, rfl, dk_get n1 (val_left _ _ _), .inl ⟨rfl, _, .inl (.inl upd_same)⟩, ?_⟩
          refine ⟨_, rfl, _, rfl, _, _, rfl, ?_⟩
          have cd : CDiv y (if many > 2 then many else 2) := by
            by_cases c : many > 2
            · rw [if_pos c]; exact ⟨m0, m1⟩
            · rw [if_neg c]; exact ⟨by decide, by decide⟩
          obtain ⟨by_, eby⟩ : ∃ b, (if many > 2 then many else 2) = b := ⟨_, rfl⟩
          rw [eby] at cd
          refine ⟨y, by_, rfl, (by rw [← eby]), cd, l, _, _, rfl, rfl, upd_same, small1000 (by rw [List.length_map]; omega), ?_⟩
          refine ⟨_, rfl, .inl ⟨_, rfl, _, rfl, _, _, rfl, rfl, m0, ?_⟩⟩
          refine k _ _ (Int.emod_nonneg _ (by omega)) (Int.emod_lt_of_pos _ m0) ⟨(z :: zs).dropLast ++ [y / by_], m, j + 1, ?_, ?_, ?_⟩ fun b o e hb hl => ?_
          · rw [upd_ne ne]; exact n1
          · rw [upd_same, List.map_append]; rfl
          · rw [List.length_append]; show _ + 1 ≤ 63; omega
          · rw [upd_ne hl]; exact kp2 b o e hb hl
        · refine ⟨_, rfl, dk, _, rfl, dk_get n1 (val_mixed _ _ _), _, _, rfl, rfl, .inr ⟨by decide, by decide⟩, ?_⟩
          refine ⟨_, rfl, .inl ⟨_, rfl, _, _, rfl, rfl, (by show (0 : Int) < 2147483629; decide), _, _, rfl, rfl, _, _, rfl, rfl, .inl ⟨_, rfl, _, _, rfl, rfl, (by show (0 : Int) < 2147483587; decide), ?_⟩⟩⟩
          refine ⟨_, rfl, dk, _, rfl, dk_put n1 (put_mixed _ _ _ _), some (.int y), rfl, ⟨(z :: zs).dropLast, _, j + 1, upd_same, ?_, by omega⟩, fun b o e hb hl => ?_⟩
          · rw [upd_ne ne.symm]; exact upd_same
          · rw [upd_ne hb]; exact kp2 b o e hb hl
    · rintro σ' H' ⟨c, rfl, ⟨ns', m', j', e1, e2, e3⟩, kp'⟩
      refine ⟨_, rfl, dk, _, rfl, dk_get e1 (val_mixed _ _ _), _, rfl, dk, _, rfl, dk_get e1 (val_draws _ _ _), _, _, rfl, rfl, .inl ⟨by decide, by decide⟩, ?_⟩
      refine ⟨_, _, rfl, rfl, .inl ⟨_, rfl, _, _, rfl, rfl, (by show (0 : Int) < 2147483647; decide), ?_⟩⟩
      have b1 := Int.emod_nonneg (m' + 31337 * j') (show (2147483647 : Int) ≠ 0 by decide)
      have b2 := Int.emod_lt_of_pos (m' + 31337 * j') (show (0 : Int) < 2147483647 by decide)
      refine ⟨_, rfl, _, rfl, _, _, rfl, rfl, .inl ⟨by omega, by omega⟩, ?_⟩
      refine ⟨_, rfl, dk, _, rfl, dk_get e1 (val_draws _ _ _), _, _, rfl, rfl, .inl ⟨by decide, by decide⟩, _, _, rfl, rfl, _, _, rfl, rfl, .inl ⟨_, rfl, _, _, rfl, rfl, (by show (0 : Int) < 2147483629; decide), ?_⟩⟩
      refine ⟨_, rfl, _, _, rfl, rfl, .inr ⟨by decide, by decide⟩, _, _, rfl, rfl, .inl ⟨_, rfl, _, _, rfl, rfl, (by show (0 : Int) < 2147483563; decide), ?_⟩⟩
      refine ⟨_, rfl, _, _, rfl, rfl, ⟨by decide, by decide⟩, .inl ⟨_, rfl, _, rfl, _, _, rfl, rfl, m0, ?_⟩⟩
      exact k _ _ (Int.emod_nonneg _ (by omega)) (Int.emod_lt_of_pos _ m0) ⟨ns', m', j', e1, e2, e3⟩ kp'
end
theorem keepL {K : PySem.W.Frag} {dk l p : Addr} {H H' : Hp} {xs : List V} (k : Keep dk l H H') (h1 : p ≠ dk) (h2 : p ≠ l) (h : SqL K H p xs) : SqL K H' p xs := by
  rcases h with (h | ⟨o, h⟩) | h
  · exact .inl (.inl (k _ _ h h1 h2))
  · exact .inl (.inr ⟨o, k _ _ h h1 h2⟩)
  · exact .inr h
/-- one item of a list, any -/
def spPick (K : PySem.W.Frag) : Sp := fun vs H Q _ => ∃ (dk l p : Addr) (xs : List V), vs = [.ref dk, .ref p] ∧ Deck H dk l ∧ SqL K H p xs ∧ p ≠ dk ∧ p ≠ l ∧ xs ≠ [] ∧ xs.length < 1073741824 ∧
  ∀ (x : V) (H' : Hp), x ∈ xs → Deck H' dk l → Keep dk l H H' → Q x H'
section
variable {P : Program} {w : World} {K : PySem.W.Frag} {mg : Str → Option Value} {base : Heap}
theorem scPick : FnScope ["deck", "some"] ["deck", "some"] (defScope sPick) := ⟨rfl, rfl, rfl, by decide +kernel, rfl, by decide +kernel, by decide +kernel⟩
theorem ok_pick {f fD : Addr} {fd fdD : FuncData} (F : Fun K "_law_pick" "_law_pick" sPick f fd) (T : Bt mg) (D : Kn P w K mg base 1 "_law_draw" ["deck", "many"] spDraw fD fdD) : FnOk P w K mg base CX0 2 f fd ["deck", "some"] (spPick K) := by
  refine F.ok scPick (fun vs H Q E h => ?_) (fun cdv A outer s H vs Q E hr h => ?_)
  · obtain ⟨dk, l, p, xs, rfl, _⟩ := h
    rfl
  · obtain ⟨dk, l, p, xs, rfl, De, hS, n1, n2, ne, hl, k⟩ := h
    refine ⟨_, pss_one (ps_ret (pe_ix ix_list (pv 1) (pe_call D.ok hr rfl D.mg D.kp D.bd .nil pass0 (pa_cons (pv 0) (pa_cons (pe_callB call_len_seq (by rfl) T.len PySem.boot_len (pa_cons (pv 1) pa_nil)) pa_nil))) (fun _ _ => rfl))), ?_⟩
    have hpos : 0 < xs.length := List.length_pos_iff.mpr ne
    refine ⟨_, rfl, _, rfl, _, rfl, p, _, rfl, .inl hS, dk, l, (xs.length : Int), rfl, De, by omega, by omega, fun r H' r0 r1 De' kp => ?_⟩
    obtain ⟨j, rfl⟩ : ∃ j : Nat, r = (j : Int) := ⟨r.toNat, by omega⟩
    have hj : j < xs.length := by omega
    exact ⟨p, xs, _, _, rfl, rfl, keepL kp n1 n2 hS, atI_nat (List.getElem?_eq_getElem hj), k _ H' (List.getElem_mem hj) De' kp⟩
end
/-- what is new since -/
def new (H H' : Hp) : Hp := fun b => if H b = none then H' b else none
theorem new_at {H H' : Hp} {b : Addr} {o : HO} (h : H b = none) (e : H' b = some o) : new H H' b = some o := by
  unfold new
  rw [if_pos h]; exact e
theorem of_new {H H' : Hp} {b : Addr} {o : HO} (e : new H H' b = some o) : H b = none ∧ H' b = some o := by
  unfold new at e
  by_cases c : H b = none
  · rw [if_pos c] at e; exact ⟨c, e⟩
  · rw [if_neg c] at e; cases e
/-- what was there is there -/
def There (H H' : Hp) : Prop := ∀ b, H' b = none → H b = none
theorem Same.there {H H' : Hp} (h : Same H H') : There H H' := fun b e => h.free e
theorem There.trans {H H1 H2 : Hp} (h : There H H1) (k : There H1 H2) : There H H2 := fun b e => h b (k b e)
theorem Keep.there {dk l : Addr} {H H' : Hp} (k : Keep dk l H H') (D' : Deck H' dk l) : There H H' := fun b e => by
  cases q : H b with
  | none => rfl
  | some o =>
    obtain ⟨ns, m, j, h1, h2, _⟩ := D'
    by_cases c1 : b = dk
    · rw [c1, h1] at e; cases e
    · by_cases c2 : b = l
      · rw [c2, h2] at e; cases e
      · rw [k b o q c1 c2] at e; cases e
theorem new_back {H0 H H' : Hp} (t : There H0 H) : Same (new H H') (new H0 H') := fun b o e => new_at (t b (of_new e).1) (of_new e).2
theorem new_on {dk l : Addr} {H0 H H' : Hp} (k : Keep dk l H H') (h1 : H0 dk ≠ none) (h2 : H0 l ≠ none) : Same (new H0 H) (new H0 H') := fun b o e => by
  obtain ⟨e1, e2⟩ := of_new e
  exact new_at e1 (k b o e2 (fun z => h1 (z ▸ e1)) (fun z => h2 (z ▸ e1)))
theorem new_upd {H0 H : Hp} {d : Addr} {o : HO} (h : H0 d ≠ none) : Same (new H0 H) (new H0 (upd H d o)) := fun b u e => by
  obtain ⟨e1, e2⟩ := of_new e
  exact new_at e1 (by rw [upd_ne (fun z => h (by rw [← z]; exact e1))]; exact e2)
theorem new_same {H0 H H' : Hp} (h : Same H H') : Same (new H0 H) (new H0 H') := fun b o e => new_at (of_new e).1 (h _ _ (of_new e).2)
theorem Deck.some1 {H : Hp} {dk l : Addr} (D : Deck H dk l) : H dk ≠ none ∧ H l ≠ none := by
  obtain ⟨ns, m, j, h1, h2, _⟩ := D
  exact ⟨(by rw [h1]; exact fun z => nomatch z), by rw [h2]; exact fun z => nomatch z⟩
end N3

namespace N3
open PySem PySem.Spec PyProof.Rows L2
theorem walk_zipT {K : PySem.W.Frag} {a b : Addr} {xs ys : List V} {n : Nat} (hn : n = min xs.length ys.length) : Walk (RZ.ItzT K a b) n (fun H => SqT K H a xs ∧ SqT K H b ys) (YPair (fun i => xs[i]?) (fun i => ys[i]?)) where
  goes := fun i H hi q => by
    have h1 : i < xs.length := by omega
    have h2 : i < ys.length := by omega
    exact ⟨xs, ys, xs[i], ys[i], q.1, q.2, List.getElem?_eq_getElem h1, List.getElem?_eq_getElem h2⟩
  stops := fun H q => ⟨xs, ys, q.1, q.2, by omega⟩
  yields := fun i H v H' hi q y => by
    obtain ⟨T, x, z, e, n1, h, f1, f2⟩ := y
    exact ⟨T, x, z, e, n1, h, f1 xs q.1, f2 ys q.2⟩
def spGreat : Sp := fun vs H Q _ => ∃ (dk l : Addr) (many : Int), vs = [.ref dk, .int many] ∧ Deck H dk l ∧ 0 < many ∧ ∀ (r : Int) (H' : Hp), 0 ≤ r → r < many → Deck H' dk l → Keep dk l H H' → Q (.int r) H'
def spNear : Sp := fun vs H Q _ => ∃ (dk l : Addr) (far : Int), vs = [.ref dk, .int far] ∧ Deck H dk l ∧ 0 ≤ far ∧ far < 1000 ∧ ∀ (r : Int) (H' : Hp), -far ≤ r → r ≤ far → Deck H' dk l → Keep dk l H H' → Q (.int r) H'
def spCommon : Sp := fun vs H Q _ => ∃ a b : Int, vs = [.int a, .int b] ∧ Q (.int ((Nat.gcd a.natAbs b.natAbs : Nat) : Int)) H
def spLean : Sp := fun vs H Q _ => ∃ n : Nat, vs = [.int (n : Int)] ∧ 1 ≤ n ∧ n ≤ 1000000 ∧ ∀ r : Nat, 1 ≤ r → r ≤ n → Q (.int (r : Int)) H
def Lean_ (a : Int) : Prop := a ≠ 0 ∧ ∀ p, 2 ≤ p → p ≤ 1000 → ¬ p * p ∣ a.natAbs
def spIsLean : Sp := fun vs H Q _ => ∃ a : Int, vs = [.int a] ∧ ∀ b : Bool, (b = true ↔ Lean_ a) → Q (.bl b) H
section
variable {P : Program} {w : World} {K : PySem.W.Frag} {mg : Str → Option Value} {base : Heap}
theorem scGreat : FnScope ["deck", "many", "found", "left"] ["deck", "many"] (defScope sGreat) := ⟨rfl, rfl, rfl, by decide +kernel, rfl, by decide +kernel, by decide +kernel⟩
theorem p6 : (10 : Int) ^ (6 : Int).toNat = 1000000 := by decide
theorem ok_great {f fD : Addr} {fd fdD : FuncData} (F : Fun K "_law_great" "_law_great" sGreat f fd) (T : Bt mg) (D : Kn P w K mg base 1 "_law_draw" ["deck", "many"] spDraw fD fdD) : FnOk P w K mg base CX0 2 f fd ["deck", "many"] spGreat := by
  refine F.ok scGreat (fun vs H Q E h => ?_) (fun cdv A outer s H vs Q E hr h => ?_)
  · obtain ⟨dk, l, many, rfl, _⟩ := h
    rfl
  · obtain ⟨dk, l, many, rfl, De, m0, k⟩ := h
    refine ⟨_, pss_cons (ps_par (i := 2) (j := 3) rfl scGreat.nd rfl rfl (by decide) rfl rfl (pa_cons pe_int (pa_cons (pv 1) pa_nil)) (by rfl))
      (pss_cons (ps_while PassesOwn.never (pt_cmpR op_gt (pv 3) pe_int (nomark _)) (pss_one (ps_par (i := 2) (j := 3) rfl scGreat.nd rfl rfl (by decide) rfl rfl
        (pa_cons (pe_op op_add (pe_op op_mul (pv 2) (pe_op op_pow pe_int pe_int)) (pe_call D.ok hr rfl D.mg D.kp D.bd .nil pass0 (pa_cons (pv 0) (pa_cons (pe_op op_pow pe_int pe_int) pa_nil)))) (pa_cons (pe_op op_fdiv (pv 3) (pe_op op_pow pe_int pe_int)) pa_nil)) (by rfl))))
      (pss_one (ps_ret (pe_op op_mod (pe_callTy call_int1 (by rfl) T.int (by decide +kernel) (pa_cons (pv 2) pa_nil)) (pv 1))))), ?_⟩
    have cp : CPow 10 6 := ⟨by decide, by decide, by decide⟩
    refine ⟨_, rfl, _, _, rfl, ?_⟩
    refine ⟨fun m σ H' => ∃ fo le : Int, σ = [some (.ref dk), some (.int many), some (.int fo), some (.int le)] ∧ Deck H' dk l ∧ Keep dk l H H' ∧ m = le.toNat, ⟨_, 0, many, rfl, De, fun b o e _ _ => e, rfl⟩, ?_⟩
    rintro m σ H1 ⟨fo, le, rfl, D1, k1, rfl⟩
    refine ⟨_, rfl, _, _, rfl, rfl, _, rfl, ite_b (fun c => ?_) (fun c => ?_)⟩
    · have c' : 0 < le := of_decide_eq_true c
      refine ⟨fun σ' H' => ∃ fo' : Int, σ' = [some (.ref dk), some (.int many), some (.int fo'), some (.int (le / 1000000))] ∧ Deck H' dk l ∧ Keep dk l H H', fun σ' H' ⟨fo', e1, e2, e3⟩ => ⟨(le / 1000000).toNat, by omega, fo', _, e1, e2, e3, rfl⟩, ?_⟩
      refine ⟨_, rfl, _, _, rfl, rfl, cp, _, _, rfl, rfl, .inr ⟨by decide, by decide⟩, ?_⟩
      refine ⟨_, rfl, _, _, rfl, rfl, cp, dk, l, 1000000, by rw [← p6]; rfl, D1, by decide, by decide, fun r H2 r0 r1 D2 k2 => ?_⟩
      refine ⟨_, _, rfl, rfl, _, rfl, _, _, rfl, rfl, cp, _, _, rfl, rfl, ⟨by decide, by decide⟩, _, _, rfl, ?_⟩
      exact ⟨_, by rw [p6]; rfl, D2, k1.trans k2⟩
    · refine ⟨_, rfl, .inl ⟨_, rfl, _, rfl, _, _, rfl, rfl, m0, ?_⟩⟩
      exact k _ H1 (Int.emod_nonneg _ (by omega)) (Int.emod_lt_of_pos _ m0) D1 k1
theorem scNear : FnScope ["deck", "far"] ["deck", "far"] (defScope sNear) := ⟨rfl, rfl, rfl, by decide +kernel, rfl, by decide +kernel, by decide +kernel⟩
theorem ok_near {f fD : Addr} {fd fdD : FuncData} (F : Fun K "_law_near" "_law_near" sNear f fd) (D : Kn P w K mg base 1 "_law_draw" ["deck", "many"] spDraw fD fdD) : FnOk P w K mg base CX0 2 f fd ["deck", "far"] spNear := by
  refine F.ok scNear (fun vs H Q E h => ?_) (fun cdv A outer s H vs Q E hr h => ?_)
  · obtain ⟨dk, l, far, rfl, _⟩ := h
    rfl
  · obtain ⟨dk, l, far, rfl, De, m0, m1, k⟩ := h
    refine ⟨_, pss_one (ps_ret (pe_op op_sub (pe_call D.ok hr rfl D.mg D.kp D.bd .nil pass0 (pa_cons (pv 0) (pa_cons (pe_op op_add (pe_op op_mul pe_int (pv 1)) pe_int) pa_nil))) (pv 1))), ?_⟩
    refine ⟨_, rfl, _, rfl, _, _, rfl, rfl, .inl ⟨by decide, by decide⟩, _, _, rfl, rfl, dk, l, _, rfl, De, by omega, by omega, fun r H1 r0 r1 D1 k1 => ?_⟩
    exact ⟨_, rfl, _, _, rfl, rfl, k _ H1 (by omega) (by omega) D1 k1⟩
theorem scCommon : FnScope ["one", "other"] ["one", "other"] (defScope sCommon) := ⟨rfl, rfl, rfl, by decide +kernel, rfl, by decide +kernel, by decide +kernel⟩
theorem abs_nat (a : Int) : (if a < 0 then -a else a) = (a.natAbs : Int) := by split <;> omega
theorem ok_common {f : Addr} {fd : FuncData} (F : Fun K "_law_common" "_law_common" sCommon f fd) (T : Bt mg) : FnOk P w K mg base CX0 1 f fd ["one", "other"] spCommon := by
  refine F.ok scCommon (fun vs H Q E h => ?_) (fun cdv A outer s H vs Q E hr h => ?_)
  · obtain ⟨a, b, rfl, _⟩ := h
    rfl
  · obtain ⟨a, b, rfl, k⟩ := h
    refine ⟨_, pss_cons (ps_par (i := 0) (j := 1) rfl scCommon.nd rfl rfl (by decide) rfl rfl (pa_cons (pe_callB call_abs (by rfl) T.abs (by decide +kernel) (pa_cons (pv 0) pa_nil)) (pa_cons (pe_callB call_abs (by rfl) T.abs (by decide +kernel) (pa_cons (pv 1) pa_nil)) pa_nil)) (by rfl))
      (pss_cons (ps_while PassesOwn.never (pt_cmpR op_gt (pv 1) pe_int (nomark _)) (pss_one (ps_par (i := 0) (j := 1) rfl scCommon.nd rfl rfl (by decide) rfl rfl
        (pa_cons (pv 1) (pa_cons (pe_op op_mod (pe_callTy call_int1 (by rfl) T.int (by decide +kernel) (pa_cons (pv 0) pa_nil)) (pv 1)) pa_nil)) (by rfl))))
      (pss_one (ps_ret (pv 0)))), ?_⟩
    refine ⟨_, rfl, a, rfl, _, rfl, b, rfl, _, _, rfl, ?_⟩
    refine ⟨fun m σ H' => ∃ x y : Nat, σ = [some (.int (x : Int)), some (.int (y : Int))] ∧ H' = H ∧ Nat.gcd x y = Nat.gcd a.natAbs b.natAbs ∧ m = y, ⟨_, a.natAbs, b.natAbs, by rw [← abs_nat, ← abs_nat]; rfl, rfl, rfl, rfl⟩, ?_⟩
    rintro m σ H1 ⟨x, y, rfl, rfl, g, rfl⟩
    refine ⟨_, rfl, _, _, rfl, rfl, _, rfl, ite_b (fun c => ?_) (fun c => ?_)⟩
    · have c' : 0 < m := by have := of_decide_eq_true c; omega
      refine ⟨fun σ' H' => σ' = [some (.int (m : Int)), some (.int ((x % m : Nat) : Int))] ∧ H' = H1, fun σ' H' ⟨e1, e2⟩ => ⟨x % m, Nat.mod_lt _ c', m, x % m, e1, e2, ?_, rfl⟩, ?_⟩
      · rw [← g, Nat.gcd_comm x m, Nat.gcd_rec m x, Nat.gcd_comm]
      · refine ⟨_, rfl, _, rfl, .inl ⟨_, rfl, _, rfl, _, _, rfl, rfl, by omega, _, _, rfl, ?_⟩⟩
        exact ⟨by rw [Int.natCast_emod]; rfl, rfl⟩
    · have c' : m = 0 := by have := of_decide_eq_false c; omega
      subst c'
      rw [Nat.gcd_zero_right] at g
      exact ⟨_, rfl, by rw [g]; exact k⟩
theorem scLInt : FnScope ["thing"] ["thing"] (defScope sLInt) := ⟨rfl, rfl, rfl, by decide +kernel, rfl, by decide +kernel, by decide +kernel⟩
theorem ok_lint {f : Addr} {fd : FuncData} (F : Fun K "_law_is_integer" "_law_is_integer" sLInt f fd) (T : Bt mg) : FnOk P w K mg base CX0 1 f fd ["thing"] spInt := by
  refine F.ok scLInt (fun vs H Q E h => ?_) (fun cdv A outer s H vs Q E hr h => ?_)
  · obtain ⟨v, d, rfl, _⟩ := h
    rfl
  · obtain ⟨v, d, rfl, hd, k⟩ := h
    refine ⟨_, pss_one (ps_ret (pe_and (pe_callB call_isi (by rfl) T.isi (by decide +kernel) (pa_cons (pv 0) (pa_cons (pe_bltn (v := .ty "int") (by rfl) T.int (by decide +kernel) rfl) pa_nil)))
      (pe_one (pe_not (pe_callB call_isi (by rfl) T.isi (by decide +kernel) (pa_cons (pv 0) (pa_cons (pe_bltn (v := .ty "bool") (by rfl) T.bool (by decide +kernel) rfl) pa_nil))))))), ?_⟩
    refine ⟨_, rfl, v, .ty "int", _, _, _, rfl, .ty _, dn_ty hd, kit_ty (kit_i d), _, rfl, ite_b (fun e => ?_) (fun e => ?_)⟩
    · refine ⟨_, rfl, v, .ty "bool", _, _, _, rfl, .ty _, dn_ty hd, kit_ty (kit_b d), _, rfl, ?_⟩
      have : (!isB d) = isI d := by cases d <;> first | rfl | cases e
      rw [this]; exact k
    · have : isI d = false := by cases d <;> first | rfl | cases e
      rw [this] at k; exact k
theorem scIsLean : FnScope ["number", "p"] ["number"] (defScope sIsLean) := ⟨rfl, rfl, rfl, by decide +kernel, rfl, by decide +kernel, by decide +kernel⟩
theorem ok_isLean {f : Addr} {fd : FuncData} (F : Fun K "_law_is_lean" "_law_is_lean" sIsLean f fd) (T : Bt mg) : FnOk P w K mg base CX0 1 f fd ["number"] spIsLean := by
  refine F.ok scIsLean (fun vs H Q E h => ?_) (fun cdv A outer s H vs Q E hr h => ?_)
  · obtain ⟨a, rfl, _⟩ := h
    rfl
  · obtain ⟨a, rfl, k⟩ := h
    refine ⟨_, pss_cons (ps_set (i := 1) scIsLean.nd rfl (Or.inl rfl) pe_int)
      (pss_cons (ps_while PassesOwn.never (PW.pt (pw_and (pt_cmpR op_le (pe_op op_mul (pv 1) (pv 1)) (pe_callB call_abs (by rfl) T.abs (by decide +kernel) (pa_cons (pv 0) pa_nil)) (nomark _)) (pw_and1 (pt_cmpR op_lt (pv 1) pe_int (nomark _)))))
        (pss_cons (ps_if (pt_cmpR op_eq (pe_op op_mod (pe_callTy call_int1 (by rfl) T.int (by decide +kernel) (pa_cons (pv 0) pa_nil)) (pe_op op_mul (pv 1) (pv 1))) pe_int (nomark _)) (pss_one (ps_ret pe_bl)) pss_nil)
        (pss_one (ps_set (i := 1) scIsLean.nd rfl (Or.inl rfl) (pe_op op_add (pv 1) pe_int)))))
      (pss_one (ps_ret (pe_cmpR op_ne (pv 0) pe_int (nomark _))))), ?_⟩
    refine ⟨fun m σ H' => ∃ p : Nat, σ = [some (.int a), some (.int (p : Int))] ∧ H' = H ∧ 2 ≤ p ∧ p ≤ 1001 ∧ (∀ q, 2 ≤ q → q < p → ¬ q * q ∣ a.natAbs) ∧ m = 1001 - p, ⟨_, 2, rfl, rfl, by decide, by decide, fun q h1 h2 => by omega, rfl⟩, ?_⟩
    rintro m σ H1 ⟨p, rfl, rfl, p2, pn, no, rfl⟩
    have cm : ∀ x : Int, CMul x (p : Int) := fun x => .inr ⟨by omega, by omega⟩
    have out : a ≠ 0 → (¬ p * p ≤ a.natAbs ∨ p = 1001) → Lean_ a := fun a0 h => ⟨a0, fun q h1 h2 d => by
      by_cases c : q < p
      · exact no q h1 c d
      · rcases h with h | h
        · have := Nat.le_of_dvd (by omega) d
          have : p * p ≤ q * q := Nat.mul_le_mul (by omega) (by omega)
          omega
        · omega⟩
    have last : (¬ p * p ≤ a.natAbs ∨ p = 1001) → Q (.bl (!decide (V.int a = V.int 0))) H1 := fun h => by
      refine k _ ?_
      by_cases c : a = 0
      · rw [c]
        exact ⟨fun z => absurd z (by decide), fun z => absurd rfl z.1⟩
      · rw [decide_eq_false (fun z => c (V.int.inj z))]
        exact ⟨fun _ => out c h, fun _ => rfl⟩
    refine ⟨_, rfl, _, rfl, _, _, rfl, rfl, cm _, _, rfl, _, rfl, _, _, rfl, rfl, _, rfl, ite_b (fun c => ?_) (fun c => ?_)⟩
    · rw [abs_nat] at c
      have c' : p * p ≤ a.natAbs := by have := of_decide_eq_true c; exact_mod_cast this
      refine ⟨_, rfl, _, _, rfl, rfl, _, rfl, ite_b (fun c2 => ?_) (fun c2 => ?_)⟩
      · have c2' : p < 1001 := by have := of_decide_eq_true c2; omega
        refine ⟨fun σ' H' => σ' = [some (.int a), some (.int ((p + 1 : Nat) : Int))] ∧ H' = H1 ∧ ¬ p * p ∣ a.natAbs, fun σ' H' ⟨e1, e2, e3⟩ => ⟨1001 - (p + 1), by omega, p + 1, e1, e2, by omega, by omega, fun q h1 h2 d => ?_, rfl⟩, ?_⟩
        · by_cases cq : q = p
          · exact e3 (cq ▸ d)
          · exact no q h1 (by omega) d
        have pos : (0 : Int) < (p : Int) * (p : Int) := by
          have : 0 < p * p := Nat.mul_pos (by omega) (by omega)
          exact_mod_cast this
        have dv : (a % ((p : Int) * (p : Int)) = 0) ↔ p * p ∣ a.natAbs := by
          rw [← Int.natCast_mul]
          exact ⟨fun h => Int.ofNat_dvd_left.mp (Int.dvd_of_emod_eq_zero h), fun h => Int.emod_eq_zero_of_dvd (Int.ofNat_dvd_left.mpr h)⟩
        refine ⟨_, rfl, .inl ⟨_, rfl, _, rfl, _, rfl, _, _, rfl, rfl, cm _, _, _, rfl, rfl, pos, rfl, _, rfl, ite_b (fun c3 => ?_) (fun c3 => ?_)⟩⟩
        · have c3' := dv.mp (V.int.inj (of_decide_eq_true c3))
          exact k false ⟨fun z => (by cases z), fun h => absurd c3' (h.2 p p2 (by omega))⟩
        · have c3' : ¬ p * p ∣ a.natAbs := fun z => of_decide_eq_false c3 (congrArg V.int (dv.mpr z))
          refine ⟨_, rfl, _, _, rfl, rfl, ?_⟩
          exact ⟨by push_cast; rfl, rfl, c3'⟩
      · have c2' : p = 1001 := by have := of_decide_eq_false c2; omega
        exact ⟨_, rfl, rfl, last (.inr c2')⟩
    · rw [abs_nat] at c
      have c' : ¬ p * p ≤ a.natAbs := fun z => of_decide_eq_false c (by exact_mod_cast z)
      exact ⟨_, rfl, rfl, last (.inl c')⟩
end
end N3

namespace N3
open PySem PySem.Spec PyProof.Rows L2
/-- what is there but for the deck -/
def off (dk l : Addr) (H : Hp) : Hp := fun b => if b = dk ∨ b = l then none else H b
theorem off_at {dk l b : Addr} {H : Hp} {o : HO} (h1 : b ≠ dk) (h2 : b ≠ l) (e : H b = some o) : off dk l H b = some o := by
  unfold off
  rw [if_neg (fun z => z.elim h1 h2)]; exact e
theorem of_off {dk l b : Addr} {H : Hp} {o : HO} (e : off dk l H b = some o) : b ≠ dk ∧ b ≠ l ∧ H b = some o := by
  unfold off at e
  by_cases c : b = dk ∨ b = l
  · rw [if_pos c] at e; cases e
  · rw [if_neg c] at e
    exact ⟨fun z => c (.inl z), fun z => c (.inr z), e⟩
theorem off_in {dk l : Addr} {H : Hp} : Same (off dk l H) H := fun _ _ e => (of_off e).2.2
theorem off_keep {dk l : Addr} {H H' : Hp} (k : Keep dk l H H') : Same (off dk l H) (off dk l H') := fun b o e => by
  obtain ⟨h1, h2, e⟩ := of_off e
  exact off_at h1 h2 (k b o e h1 h2)
theorem off_same {dk l : Addr} {H H' : Hp} (s : Same H H') : Same (off dk l H) (off dk l H') := off_keep (Keep.of s)
theorem off_new {dk l : Addr} {H H' : Hp} (D : Deck H dk l) : Same (new H H') (off dk l H') := fun b o e => by
  obtain ⟨h, e⟩ := of_new e
  exact off_at (fun z => D.some1.1 (z ▸ h)) (fun z => D.some1.2 (z ▸ h)) e
theorem off_free {dk l b : Addr} {H H' : Hp} {o : HO} (D : Deck H dk l) (h : H b = none) (e : H' b = some o) : off dk l H' b = some o :=
  off_at (fun z => D.some1.1 (z ▸ h)) (fun z => D.some1.2 (z ▸ h)) e
theorem Dn.off {dk l : Addr} {H : Hp} {v : V} {d : PyData} (h : Dn (off dk l H) v d) : Dn H v d := Dn.mono off_in d v h
/-- a def that may show data, as callers know it -/
structure KnG (P : Program) (w : World) (K : PySem.W.Frag) (mg : Str → Option Value) (base : Heap) (k : Nat) (x : Str) (ps : List Str) (sp : Sp) (f : Addr) (fd : FuncData) : Prop where
  ok : FnG P w K mg base k f fd ps sp
  mg : mg x = some (.ref f)
  kp : PySem.W.keepIn K (.ref f) = true
  bd : Binds K fd ps []
end N3

namespace N3
open PySem PySem.Spec PyProof.Rows L2 N2
/-- the law's triples and numbers -/
def TL (d : PyData) : Prop := ∃ a b c : Int, d = .tuple [.int a, .int b, .int c] ∧ b ≠ 0 ∧ 0 < c ∧ Nat.gcd b.natAbs c.natAbs = 1 ∧ Lean_ a
def NL (d : PyData) : Prop := ∃ ds, d = .tuple ds ∧ (∀ x ∈ ds, TL x) ∧ Asc ds
def spLTriple : Sp := fun vs H Q _ => ∃ (v : V) (d : PyData), vs = [v] ∧ Dn H v d ∧ ∀ (b : Bool) (H' : Hp), (b = true ↔ TL d) → Same H H' → Q (.bl b) H'
def spLNumber : Sp := fun vs H Q _ => ∃ (v : V) (d : PyData), vs = [v] ∧ Dn H v d ∧ Short d ∧ ∀ (b : Bool) (H' : Hp), (b = true ↔ NL d) → Same H H' → Q (.bl b) H'
def ones (k : Nat) : List Int := List.replicate k 1
theorem ones_succ (k : Nat) : (ones k).map V.int ++ [V.int 1] = (ones (k + 1)).map V.int := by
  unfold ones
  rw [List.replicate_succ', List.map_append]; rfl
theorem ones_len (k : Nat) : ((ones k).map V.int).length = k := by simp [ones]
theorem ones_nil (k : Nat) : ((ones k).map PyData.int).isEmpty = decide (k = 0) := by
  cases k <;> simp [ones]
/-- one more turn of a filter that keeps what is wrong -/
theorem none_step {k k' i : Nat} {p : Nat → Prop} (h : k = 0 ↔ ∀ j, j < i → p j) (hk : k' = 0 ↔ k = 0 ∧ p i) : k' = 0 ↔ ∀ j, j < i + 1 → p j := by
  rw [hk, h]
  constructor
  · rintro ⟨h1, h2⟩ j hj
    by_cases c : j = i
    · rw [c]; exact h2
    · exact h1 j (by omega)
  · intro h1
    exact ⟨fun j hj => h1 j (by omega), h1 i (by omega)⟩
theorem tl_shape {H : Hp} {v : V} {d : PyData} (h : Dn H v d) (t : TL d) : ∃ (p : Addr) (a b c : Int), v = .ref p ∧ d = .tuple [.int a, .int b, .int c] ∧ H p = some (.tup [.int a, .int b, .int c]) := by
  obtain ⟨a, b, c, rfl, _⟩ := t
  cases h with
  | tup e r => exact ⟨_, a, b, c, rfl, rfl, by rw [e, dn3 r]⟩
section
variable {P : Program} {w : World} {K : PySem.W.Frag} {mg : Str → Option Value} {base : Heap}
theorem scLTriple : FnScope ["thing", "x"] ["thing"] (defScope sLTriple) := ⟨rfl, rfl, rfl, by decide +kernel, rfl, by decide +kernel, by decide +kernel⟩
theorem ok_ltriple {f f1 f2 f3 : Addr} {fd d1 d2 d3 : FuncData} (F : Fun K "_law_is_triple" "_law_is_triple" sLTriple f fd) (T : Bt mg) (A1 : Kn P w K mg base 1 "_law_is_integer" ["thing"] spInt f1 d1) (A2 : Kn P w K mg base 1 "_law_common" ["one", "other"] spCommon f2 d2)
    (A3 : Kn P w K mg base 1 "_law_is_lean" ["number"] spIsLean f3 d3) : FnOk P w K mg base CX0 2 f fd ["thing"] spLTriple := by
  refine F.ok scLTriple (fun vs H Q E h => ?_) (fun cdv A outer s H vs Q E hr h => ?_)
  · obtain ⟨v, d, rfl, _⟩ := h
    rfl
  · obtain ⟨v, d, rfl, hd, k⟩ := h
    refine ⟨_, pss_cons (ps_if (PW.pt (pw_or (pt_not (pt_val (pe_callB call_isi (by rfl) T.isi (by decide +kernel) (pa_cons (pv 0) (pa_cons (pe_bltn (v := .ty "tuple") (by rfl) T.tuple (by decide +kernel) rfl) pa_nil)))))
        (pw_or (pt_cmpR op_ne (pe_callB call_len (by rfl) T.len PySem.boot_len (pa_cons (pv 0) pa_nil)) pe_int (nomark _))
        (pw_or1 (pt_cmpR (op_neD hr.units) (pe_lc (own := [("x", 1)]) (g := gName 1) (tt := _) rfl scLTriple.nd (pi_tup (pv 0)) (blkOk_by (own := [("x", 1)]) (N := ["thing", "x"]) (sc := defScope sLTriple) (by decide +kernel)) (fun _ _ _ _ _ => pg_name (i := 1) scLTriple.nd rfl (Or.inl rfl))
          (fun _ _ _ _ _ => pts_one (pt_not (pt_val (pe_call A1.ok hr rfl A1.mg A1.kp A1.bd .nil pass0 (pa_cons (pv 1) pa_nil))))) (fun _ _ _ _ _ => pe_int)) (pe_lst pa_nil) (nomark _)))))) (pss_one (ps_ret pe_bl)) pss_nil)
      (pss_one (ps_ret (pe_and (pe_cmpR op_ne (pe_ix (r := rIx K) ix_seq (pv 0) pe_int (fun _ _ => rfl)) pe_int (nomark _)) (pe_and (pe_cmpR op_gt (pe_ix (r := rIx K) ix_seq (pv 0) pe_int (fun _ _ => rfl)) pe_int (nomark _))
        (pe_and (pe_cmpR op_eq (pe_call A2.ok hr rfl A2.mg A2.kp A2.bd .nil pass0 (pa_cons (pe_ix (r := rIx K) ix_seq (pv 0) pe_int (fun _ _ => rfl)) (pa_cons (pe_ix (r := rIx K) ix_seq (pv 0) pe_int (fun _ _ => rfl)) pa_nil))) pe_int (nomark _))
        (pe_one (pe_call A3.ok hr rfl A3.mg A3.kp A3.bd .nil pass0 (pa_cons (pe_ix (r := rIx K) ix_seq (pv 0) pe_int (fun _ _ => rfl)) pa_nil)))))))), ?_⟩
    refine ⟨_, rfl, v, .ty "tuple", _, _, _, rfl, .ty _, dn_ty hd, kit_ty (kit_t d), _, rfl, ?_⟩
    cases et : isTp d with
    | false =>
      refine iteT ?_
      refine iteT ?_
      exact k false H ⟨fun z => (by cases z), fun ⟨a, b, c, e, _⟩ => by rw [e] at et; cases et⟩ (Same.refl _)
    | true =>
      refine iteF ?_
      obtain ⟨a, xs, ds, rfl, rfl, ea, ra⟩ := dn_tup hd et
      refine ⟨_, rfl, .ref a, xs.length, rfl, .inr ⟨xs, SqT.of ea, rfl⟩, rfl, _, rfl, ?_⟩
      have ll : decide (V.int (xs.length : Int) = V.int 3) = decide (ds.length = 3) := by
        rw [← ra.length]
        exact decide_eq_decide.mpr ⟨fun h => by have := V.int.inj h; omega, fun h => by rw [h]; rfl⟩
      rw [ll]
      cases e3 : decide (ds.length = 3) with
      | false =>
        refine iteT ?_
        refine iteT ?_
        exact k false H ⟨fun z => (by cases z), fun ⟨a, b, c, e, _⟩ => by cases e; cases e3⟩ (Same.refl _)
      | true =>
        refine iteF ?_
        have l3 : ds.length = 3 := of_decide_eq_true e3
        refine ⟨_, rfl, a, rfl, ⟨_, SqT.of ea⟩, fun D hD => lc_tup (K := K) (a := a) (xs := xs) (fun i H' => ∃ k, H' D = some (.lst ((ones k).map V.int)) ∧ k ≤ i ∧ (k = 0 ↔ ∀ j, j < i → ∀ d, ds[j]? = some d → isI d = true) ∧ Same H H')
          ⟨0, upd_same, Nat.le_refl _, by simp, snew hD⟩ (fun i H' _ ⟨_, _, _, _, s'⟩ => SqT.of (s' _ _ ea)) ?_ ?_⟩
        · rintro i x H' hx ⟨n, e1, e2, e3, s'⟩
          obtain ⟨d, ed, dn⟩ := ra.at_ hx
          have il : i < ds.length := (List.getElem?_eq_some_iff.mp ed).1
          refine ⟨rfl, ?_⟩
          refine ⟨_, rfl, x, d, rfl, Dn.mono s' d x dn, _, rfl, ?_⟩
          cases ei : isI d with
          | true =>
            refine iteF ?_
            refine ⟨n, e1, by omega, none_step (p := fun j => ∀ d, ds[j]? = some d → isI d = true) e3 ⟨fun z => ⟨z, fun d' e' => by rw [ed] at e'; cases e'; exact ei⟩, fun z => z.1⟩, s'⟩
          | false =>
            refine iteT ?_
            refine ⟨_, e1, by rw [ones_len]; exact small1000 (by omega), n + 1, by rw [ones_succ, upd_same], by omega, none_step (p := fun j => ∀ d, ds[j]? = some d → isI d = true) e3 ⟨fun z => by omega, fun z => ?_⟩, fun c o e => ?_⟩
            · have := z.2 d ed; rw [ei] at this; cases this
            · rw [upd_ne (ne_of_none e hD)]; exact s' _ _ e
        · rintro H1 ⟨n, e1, e2, e4, s1⟩
          refine ⟨Nat.zero_le _, fun p hp => ⟨.list ((ones n).map PyData.int), .list [], .lst (SqL.of (snew hp _ _ e1)) (ints_dp _), .lst (SqL.of upd_same) .nil, ints_shaped _, nil_shaped, _, rfl, ?_⟩⟩
          rw [eqv_nil, ones_nil]
          have s2 := s1.trans (snew (o := .lst []) hp)
          rw [ra.length] at e4
          cases en : decide (n = 0) with
          | false =>
            refine iteT ?_
            refine k false _ ⟨fun z => (by cases z), fun ⟨a', b', c', e, _⟩ => ?_⟩ s2
            cases e
            refine absurd (e4.mpr fun j _ d ed => ?_) (of_decide_eq_false en)
            have := List.mem_of_getElem? ed
            simp only [List.mem_cons, List.not_mem_nil, or_false] at this
            rcases this with rfl | rfl | rfl <;> rfl
          | true =>
            refine iteF ?_
            have al : ds.all isI = true := List.all_eq_true.mpr fun x hx => by
              obtain ⟨j, hj, ej⟩ := List.mem_iff_getElem.mp hx
              exact e4.mp (of_decide_eq_true en) j hj x (by rw [List.getElem?_eq_getElem hj, ej])
            obtain ⟨a', b', c', rfl⟩ := three_ints l3 al
            obtain rfl := dn3 ra
            have ea2 := s2 _ _ ea
            obtain ⟨H2, eH⟩ : ∃ H2, upd H1 p (.lst []) = H2 := ⟨_, rfl⟩
            rw [eH] at ea2 s2
            show tNext _ _ (upd H1 p (.lst []))
            rw [eH]
            refine ⟨_, rfl, .inr (.inl ⟨a, _, _, _, rfl, rfl, SqT.of ea2, rfl, rfl, _, rfl, ite_b (fun q1 => ?_) (fun q1 => ?_)⟩)⟩
            · have q1' : b' ≠ 0 := fun z => by rw [z] at q1; exact absurd q1 (by decide)
              refine ⟨_, rfl, .inr (.inl ⟨a, _, _, _, rfl, rfl, SqT.of ea2, rfl, _, _, rfl, rfl, _, rfl, ite_b (fun q2 => ?_) (fun q2 => ?_)⟩)⟩
              · have q2' : 0 < c' := of_decide_eq_true q2
                refine ⟨_, rfl, .inr (.inl ⟨a, _, _, _, rfl, rfl, SqT.of ea2, rfl, _, rfl, .inr (.inl ⟨a, _, _, _, rfl, rfl, SqT.of ea2, rfl, b', c', rfl, rfl, _, rfl, ite_b (fun q3 => ?_) (fun q3 => ?_)⟩)⟩)⟩
                · have q3' : Nat.gcd b'.natAbs c'.natAbs = 1 := by have := V.int.inj (of_decide_eq_true q3); omega
                  refine ⟨_, rfl, .inr (.inl ⟨a, _, _, _, rfl, rfl, SqT.of ea2, rfl, a', rfl, fun b hb => k b H2 ?_ s2⟩)⟩
                  rw [hb]
                  exact ⟨fun h => ⟨a', b', c', rfl, q1', q2', q3', h⟩, fun ⟨a2, b2, c2, e, _, _, _, h⟩ => by cases e; exact h⟩
                · refine k false H2 ⟨fun z => (by cases z), fun ⟨a2, b2, c2, e, _, _, h, _⟩ => ?_⟩ s2
                  cases e
                  exact (of_decide_eq_false q3 (congrArg V.int (by rw [h]; rfl))).elim
              · refine k false H2 ⟨fun z => (by cases z), fun ⟨a2, b2, c2, e, _, h, _⟩ => ?_⟩ s2
                cases e
                exact (of_decide_eq_false q2 h).elim
            · refine k false H2 ⟨fun z => (by cases z), fun ⟨a2, b2, c2, e, h, _⟩ => ?_⟩ s2
              cases e
              rw [decide_eq_false (fun z => h (V.int.inj z))] at q1
              cases q1
end
end N3

namespace N3
open PySem PySem.Spec PyProof.Rows L2 N2
theorem cut1 (xs : List V) (h : xs ≠ []) : cutV xs (some 1) none = xs.drop 1 := by
  unfold cutV
  have hl : 1 ≤ xs.length := List.length_pos_iff.mpr h
  have e1 : HT.sIx xs.length 0 (some 1) = 1 := (HT.sIx_nat xs.length 0 1).trans (by omega)
  have e2 : HT.sIx xs.length xs.length none = xs.length := rfl
  rw [e1, e2, List.take_of_length_le]
  rw [List.length_drop]
  omega
theorem seqT_same {K : PySem.W.Frag} {H H' : Hp} {a : Addr} {xs : List V} (s : Same H H') (h : SqT K H a xs) : SqT K H' a xs := by
  rcases h with (h | ⟨o, h⟩) | h
  · exact .inl (.inl (s _ _ h))
  · exact .inl (.inr ⟨o, s _ _ h⟩)
  · exact .inr h
section
variable {P : Program} {w : World} {K : PySem.W.Frag} {mg : Str → Option Value} {base : Heap}
theorem scLNumber : FnScope ["thing", "it", "near", "far"] ["thing"] (defScope sLNumber) := ⟨rfl, rfl, rfl, by decide +kernel, rfl, by decide +kernel, by decide +kernel⟩
theorem ok_lnumber {f f1 : Addr} {fd d1 : FuncData} (F : Fun K "_law_is_number" "_law_is_number" sLNumber f fd) (T : Bt mg) (A1 : Kn P w K mg base 2 "_law_is_triple" ["thing"] spLTriple f1 d1) : FnOk P w K mg base CX0 3 f fd ["thing"] spLNumber := by
  refine F.ok scLNumber (fun vs H Q E h => ?_) (fun cdv A outer s H vs Q E hr h => ?_)
  · obtain ⟨v, d, rfl, _⟩ := h
    rfl
  · obtain ⟨v, d, rfl, hd, sh, k⟩ := h
    refine ⟨_, pss_cons (ps_if (PW.pt (pw_or (pt_not (pt_val (pe_callB call_isi (by rfl) T.isi (by decide +kernel) (pa_cons (pv 0) (pa_cons (pe_bltn (v := .ty "tuple") (by rfl) T.tuple (by decide +kernel) rfl) pa_nil)))))
        (pw_or1 (pt_cmpR (op_neD hr.units) (pe_lc (own := [("it", 1)]) (g := gName 1) (tt := _) rfl scLNumber.nd (pi_tup (pv 0)) (blkOk_by (own := [("it", 1)]) (N := ["thing", "it", "near", "far"]) (sc := defScope sLNumber) (by decide +kernel)) (fun _ _ _ _ _ => pg_name (i := 1) scLNumber.nd rfl (Or.inl rfl))
          (fun _ _ _ _ _ => pts_one (pt_not (pt_val (pe_call A1.ok hr rfl A1.mg A1.kp A1.bd .nil pass0 (pa_cons (pv 1) pa_nil))))) (fun _ _ _ _ _ => pe_int)) (pe_lst pa_nil) (nomark _))))) (pss_one (ps_ret pe_bl)) pss_nil)
      (pss_one (ps_ret (pe_cmpR (op_eqD hr.units) (pe_lc (own := [("near", 2), ("far", 3)]) (g := gTup K 2 (gCons (gName 2) (gCons (gName 3) gNil))) (tt := _) rfl scLNumber.nd (RZ.pi_zipA (by rfl) T.zip (pa_cons (pv 0) (pa_cons (pe_slice sl_tupA (pv 0) (po_some pe_int) po_none) pa_nil)))
          (blkOk_by (own := [("near", 2), ("far", 3)]) (N := ["thing", "it", "near", "far"]) (sc := defScope sLNumber) (by decide +kernel)) (fun _ _ _ _ _ => pg_tup rfl (pgs_cons (pg_name (i := 2) scLNumber.nd rfl (Or.inl rfl)) (pgs_cons (pg_name (i := 3) scLNumber.nd rfl (Or.inl rfl)) pgs_nil)))
          (fun _ _ _ _ _ => pts_one (pt_cmpR op_ge (pe_ix (r := rIx K) ix_seq (pv 2) pe_int (fun _ _ => rfl)) (pe_ix (r := rIx K) ix_seq (pv 3) pe_int (fun _ _ => rfl)) (nomark _))) (fun _ _ _ _ _ => pe_int)) (pe_lst pa_nil) (nomark _)))), ?_⟩
    refine ⟨_, rfl, v, .ty "tuple", _, _, _, rfl, .ty _, dn_ty hd, kit_ty (kit_t d), _, rfl, ?_⟩
    cases et : isTp d with
    | false =>
      refine iteT ?_
      refine iteT ?_
      exact k false H ⟨fun z => (by cases z), fun ⟨ds, e, _⟩ => by rw [e] at et; cases et⟩ (Same.refl _)
    | true =>
      refine iteF ?_
      obtain ⟨a, xs, ds, rfl, rfl, ea, ra⟩ := dn_tup hd et
      have hl := sh ds rfl
      refine ⟨_, rfl, a, rfl, ⟨_, SqT.of ea⟩, fun D hD => lc_tup (K := K) (a := a) (xs := xs) (fun i H' => ∃ k, H' D = some (.lst ((ones k).map V.int)) ∧ k ≤ i ∧ (k = 0 ↔ ∀ j, j < i → ∀ d, ds[j]? = some d → TL d) ∧ Same H H')
        ⟨0, upd_same, Nat.le_refl _, by simp, snew hD⟩ (fun i H' _ ⟨_, _, _, _, s'⟩ => SqT.of (s' _ _ ea)) ?_ ?_⟩
      · rintro i x H' hx ⟨n, e1, e2, e3, s'⟩
        obtain ⟨d, ed, dn⟩ := ra.at_ hx
        have il : i < ds.length := (List.getElem?_eq_some_iff.mp ed).1
        refine ⟨rfl, ?_⟩
        refine ⟨_, rfl, x, d, rfl, Dn.mono s' d x dn, fun b H2 hb s2 => ⟨_, rfl, ?_⟩⟩
        cases b with
        | true =>
          refine iteF ?_
          exact ⟨n, s2 _ _ e1, by omega, none_step (p := fun j => ∀ d, ds[j]? = some d → TL d) e3 ⟨fun z => ⟨z, fun d' e' => by rw [ed] at e'; cases e'; exact hb.mp rfl⟩, fun z => z.1⟩, s'.trans s2⟩
        | false =>
          refine iteT ?_
          refine ⟨_, s2 _ _ e1, by rw [ones_len]; exact small_m (by omega), n + 1, by rw [ones_succ, upd_same], by omega, none_step (p := fun j => ∀ d, ds[j]? = some d → TL d) e3 ⟨fun z => by omega, fun z => ?_⟩, fun c o e => ?_⟩
          · have := hb.mpr (z.2 d ed); cases this
          · rw [upd_ne (ne_of_none e hD)]; exact s2 _ _ (s' _ _ e)
      · rintro H1 ⟨n, e1, e2, e4, s1⟩
        refine ⟨Nat.zero_le _, fun p hp => ⟨.list ((ones n).map PyData.int), .list [], .lst (SqL.of (snew hp _ _ e1)) (ints_dp _), .lst (SqL.of upd_same) .nil, ints_shaped _, nil_shaped, _, rfl, ?_⟩⟩
        rw [eqv_nil, ones_nil]
        have s2 := s1.trans (snew (o := .lst []) hp)
        rw [ra.length] at e4
        have e4' : n = 0 ↔ ∀ x ∈ ds, TL x := e4.trans ⟨fun h x hx => by
          obtain ⟨j, hj, ej⟩ := List.mem_iff_getElem.mp hx
          exact h j hj x (by rw [List.getElem?_eq_getElem hj, ej]), fun h j _ d ed => h d (List.mem_of_getElem? ed)⟩
        cases en : decide (n = 0) with
        | false =>
          refine iteT ?_
          refine k false _ ⟨fun z => (by cases z), fun ⟨ds', e, h, _⟩ => ?_⟩ s2
          cases e
          exact absurd (e4'.mpr h) (of_decide_eq_false en)
        | true =>
          refine iteF ?_
          have tl := e4'.mp (of_decide_eq_true en)
          have ea2 := s2 _ _ ea
          obtain ⟨H2, eH⟩ : ∃ H2, upd H1 p (.lst []) = H2 := ⟨_, rfl⟩
          rw [eH] at ea2 s2
          show tNext _ _ (upd H1 p (.lst []))
          rw [eH]
          refine ⟨_, rfl, _, rfl, _, rfl, a, xs, rfl, SqT.of ea2, fun hw => ?_, fun hw q hq0 => ?_⟩
          · have x0 : xs = [] := by
              have h1 := hw.1
              rw [show HT.sIx xs.length 0 (some 1) = min 1 xs.length from HT.sIx_nat xs.length 0 1] at h1
              exact List.length_eq_zero_iff.mp (by omega)
            obtain ⟨H3, e3⟩ : ∃ H3, H3 = H2 := ⟨_, rfl⟩
            have eaa : H2 a = some (.tup xs) := ea2
            have hq : SqT K H2 a (xs.drop 1) := by rw [x0]; rw [x0] at eaa; exact SqT.of eaa
            have s3 : Same H H3 := by rw [e3]; exact s2
            rw [← e3] at eaa hq
            rw [← e3]
            refine ⟨a, a, xs, xs.drop 1, rfl, .inr ⟨SqT.of eaa, hq, fun D2 hD2 => lc_it (walk_zipT (xs := xs) (ys := xs.drop 1) rfl) (fun i H' => ∃ k, H' D2 = some (.lst ((ones k).map V.int)) ∧ k ≤ i ∧ (k = 0 ↔ ∀ j, j < i → ∀ x y, ds[j]? = some x → ds[j + 1]? = some y → hdI x < hdI y) ∧ Same H3 H')
              ⟨0, upd_same, Nat.le_refl _, by simp, snew hD2⟩ (fun i H' _ ⟨_, _, _, _, s'⟩ => ⟨SqT.of (s' _ _ eaa), seqT_same s' hq⟩) ?_ ?_⟩⟩
            · rintro i x H' H'' hi ⟨n, f1, f2, f3, s'⟩ ⟨T', y1, y2, rfl, hT, rfl, g1, g2⟩
              have g1' : xs[i]? = some y1 := g1
              have g2' : xs[i + 1]? = some y2 := by
                have z : (xs.drop 1)[i]? = some y2 := g2
                rw [List.getElem?_drop, Nat.add_comm] at z; exact z
              obtain ⟨d1', ed1, dn1⟩ := ra.at_ g1'
              obtain ⟨d2', ed2, dn2⟩ := ra.at_ g2'
              obtain ⟨p1, a1, b1, c1, rfl, rfl, m1⟩ := tl_shape dn1 (tl _ (List.mem_of_getElem? ed1))
              obtain ⟨p2, a2, b2, c2, rfl, rfl, m2⟩ := tl_shape dn2 (tl _ (List.mem_of_getElem? ed2))
              have st := (s3.trans s').trans (snew (o := .tup [.ref p1, .ref p2]) hT)
              have il : i + 1 < ds.length := (List.getElem?_eq_some_iff.mp ed2).1
              refine ⟨T', _, rfl, SqT.of upd_same, rfl, _, _, rfl, _, _, rfl, rfl, rfl, ?_⟩
              refine ⟨_, rfl, .inr (.inl ⟨p1, _, _, _, rfl, rfl, SqT.of (st _ _ m1), rfl, _, rfl, .inr (.inl ⟨p2, _, _, _, rfl, rfl, SqT.of (st _ _ m2), rfl, _, _, rfl, rfl, _, rfl, ?_⟩)⟩)⟩
              have f1' := snew (o := .tup [.ref p1, .ref p2]) hT _ _ f1
              cases ec : decide (a2 ≤ a1) with
              | false =>
                refine iteF ?_
                have lt : a1 < a2 := by have := of_decide_eq_false ec; omega
                exact ⟨n, f1', by omega, none_step (p := fun j => ∀ x y, ds[j]? = some x → ds[j + 1]? = some y → hdI x < hdI y) f3 ⟨fun z => ⟨z, fun x y ex ey => by rw [ed1] at ex; rw [ed2] at ey; cases ex; cases ey; exact lt⟩, fun z => z.1⟩, s'.trans (snew hT)⟩
              | true =>
                refine iteT ?_
                refine ⟨_, f1', by rw [ones_len]; exact small_m (by omega), n + 1, by rw [ones_succ, upd_same], by omega, none_step (p := fun j => ∀ x y, ds[j]? = some x → ds[j + 1]? = some y → hdI x < hdI y) f3 ⟨fun z => by omega, fun z => ?_⟩, fun c o e => ?_⟩
                · have z2 : a1 < a2 := z.2 _ _ ed1 ed2
                  have := of_decide_eq_true ec
                  omega
                · rw [upd_ne (ne_of_none e hD2)]; exact snew hT _ _ (s' _ _ e)
            · rintro H4 ⟨n, f1, f2, f3, s4⟩
              refine ⟨Nat.zero_le _, fun p4 hp4 => ⟨.list ((ones n).map PyData.int), .list [], .lst (SqL.of (snew hp4 _ _ f1)) (ints_dp _), .lst (SqL.of upd_same) .nil, ints_shaped _, nil_shaped, ?_⟩⟩
              rw [eqv_nil, ones_nil]
              refine k _ _ ?_ ((s3.trans s4).trans (snew hp4))
              rw [decide_eq_true_iff, f3]
              have en2 : min xs.length (xs.drop 1).length = ds.length - 1 := by rw [List.length_drop, ra.length]; omega
              rw [en2]
              constructor
              · intro h
                refine ⟨ds, rfl, tl, fun i x y ex ey => h i ?_ x y ex ey⟩
                have := (List.getElem?_eq_some_iff.mp ey).1
                omega
              · rintro ⟨ds', e, _, h⟩ j _ x y ex ey
                cases e
                exact h j x y ex ey
          · have x0 : xs ≠ [] := fun z => hw (by rw [z]; exact ⟨rfl, rfl⟩)
            rw [cut1 xs x0]
            obtain ⟨H3, e3⟩ : ∃ H3, H3 = upd H2 q (.tup (xs.drop 1)) := ⟨_, rfl⟩
            have eaa : H3 a = some (.tup xs) := by rw [e3]; exact snew hq0 _ _ ea2
            have hq : SqT K H3 q (xs.drop 1) := by rw [e3]; exact SqT.of upd_same
            have s3 : Same H H3 := by rw [e3]; exact s2.trans (snew hq0)
            rw [← e3]
            refine ⟨a, q, xs, xs.drop 1, rfl, .inr ⟨SqT.of eaa, hq, fun D2 hD2 => lc_it (walk_zipT (xs := xs) (ys := xs.drop 1) rfl) (fun i H' => ∃ k, H' D2 = some (.lst ((ones k).map V.int)) ∧ k ≤ i ∧ (k = 0 ↔ ∀ j, j < i → ∀ x y, ds[j]? = some x → ds[j + 1]? = some y → hdI x < hdI y) ∧ Same H3 H')
              ⟨0, upd_same, Nat.le_refl _, by simp, snew hD2⟩ (fun i H' _ ⟨_, _, _, _, s'⟩ => ⟨SqT.of (s' _ _ eaa), seqT_same s' hq⟩) ?_ ?_⟩⟩
            · rintro i x H' H'' hi ⟨n, f1, f2, f3, s'⟩ ⟨T', y1, y2, rfl, hT, rfl, g1, g2⟩
              have g1' : xs[i]? = some y1 := g1
              have g2' : xs[i + 1]? = some y2 := by
                have z : (xs.drop 1)[i]? = some y2 := g2
                rw [List.getElem?_drop, Nat.add_comm] at z; exact z
              obtain ⟨d1', ed1, dn1⟩ := ra.at_ g1'
              obtain ⟨d2', ed2, dn2⟩ := ra.at_ g2'
              obtain ⟨p1, a1, b1, c1, rfl, rfl, m1⟩ := tl_shape dn1 (tl _ (List.mem_of_getElem? ed1))
              obtain ⟨p2, a2, b2, c2, rfl, rfl, m2⟩ := tl_shape dn2 (tl _ (List.mem_of_getElem? ed2))
              have st := (s3.trans s').trans (snew (o := .tup [.ref p1, .ref p2]) hT)
              have il : i + 1 < ds.length := (List.getElem?_eq_some_iff.mp ed2).1
              refine ⟨T', _, rfl, SqT.of upd_same, rfl, _, _, rfl, _, _, rfl, rfl, rfl, ?_⟩
              refine ⟨_, rfl, .inr (.inl ⟨p1, _, _, _, rfl, rfl, SqT.of (st _ _ m1), rfl, _, rfl, .inr (.inl ⟨p2, _, _, _, rfl, rfl, SqT.of (st _ _ m2), rfl, _, _, rfl, rfl, _, rfl, ?_⟩)⟩)⟩
              have f1' := snew (o := .tup [.ref p1, .ref p2]) hT _ _ f1
              cases ec : decide (a2 ≤ a1) with
              | false =>
                refine iteF ?_
                have lt : a1 < a2 := by have := of_decide_eq_false ec; omega
                exact ⟨n, f1', by omega, none_step (p := fun j => ∀ x y, ds[j]? = some x → ds[j + 1]? = some y → hdI x < hdI y) f3 ⟨fun z => ⟨z, fun x y ex ey => by rw [ed1] at ex; rw [ed2] at ey; cases ex; cases ey; exact lt⟩, fun z => z.1⟩, s'.trans (snew hT)⟩
              | true =>
                refine iteT ?_
                refine ⟨_, f1', by rw [ones_len]; exact small_m (by omega), n + 1, by rw [ones_succ, upd_same], by omega, none_step (p := fun j => ∀ x y, ds[j]? = some x → ds[j + 1]? = some y → hdI x < hdI y) f3 ⟨fun z => by omega, fun z => ?_⟩, fun c o e => ?_⟩
                · have z2 : a1 < a2 := z.2 _ _ ed1 ed2
                  have := of_decide_eq_true ec
                  omega
                · rw [upd_ne (ne_of_none e hD2)]; exact snew hT _ _ (s' _ _ e)
            · rintro H4 ⟨n, f1, f2, f3, s4⟩
              refine ⟨Nat.zero_le _, fun p4 hp4 => ⟨.list ((ones n).map PyData.int), .list [], .lst (SqL.of (snew hp4 _ _ f1)) (ints_dp _), .lst (SqL.of upd_same) .nil, ints_shaped _, nil_shaped, ?_⟩⟩
              rw [eqv_nil, ones_nil]
              refine k _ _ ?_ ((s3.trans s4).trans (snew hp4))
              rw [decide_eq_true_iff, f3]
              have en2 : min xs.length (xs.drop 1).length = ds.length - 1 := by rw [List.length_drop, ra.length]; omega
              rw [en2]
              constructor
              · intro h
                refine ⟨ds, rfl, tl, fun i x y ex ey => h i ?_ x y ex ey⟩
                have := (List.getElem?_eq_some_iff.mp ey).1
                omega
              · rintro ⟨ds', e, _, h⟩ j _ x y ex ey
                cases e
                exact h j x y ex ey
end
end N3

namespace N3
open PySem PySem.Spec PyProof.Rows L2 N2
/-! ### looks through all items of a tuple -/
theorem wipe1 {i : Nat} {x : Option V} {σ : L2.St} : wipe ((wipe σ [i]).set i x) [i] = wipe σ [i] := by
  show ((σ.set i none).set i x).set i none = σ.set i none
  rw [List.set_set, List.set_set]
theorem mem_idx {α : Type} {l : List α} {p : α → Prop} : (∀ j, j < l.length → ∀ d, l[j]? = some d → p d) ↔ ∀ x ∈ l, p x :=
  ⟨fun h x hx => by
    obtain ⟨j, hj, ej⟩ := List.mem_iff_getElem.mp hx
    exact h j hj x (by rw [List.getElem?_eq_getElem hj, ej]), fun h j _ d ed => h d (List.mem_of_getElem? ed)⟩
section
variable {K : PySem.W.Frag} {a D : Addr} {xs : List V} {ds : List PyData} {i : Nat} {te : TE} {tt : TT} {σ : L2.St} {H : Hp} {Qd : Hp → Prop}
/-- all([p(x) for x in t]) -/
theorem lc_all (p : PyData → Prop) (ea : H a = some (.tup xs)) (ra : DnAll H xs ds) (hl : ds.length ≤ 1000000) (hD : H D = none)
    (step : ∀ (j : Nat) (x : V) (d : PyData) (H' : Hp) (Q' : V → Hp → Prop), ds[j]? = some d → Dn H' x d → Same H H' → (∀ (b : Bool) (H2 : Hp), (b = true ↔ p d) → Same H' H2 → Q' (.bl b) H2) → te ((wipe σ [i]).set i (some x)) H' Q')
    (fin : ∀ (bs : List Bool) (H' : Hp), H' D = some (.lst (bs.map V.bl)) → (bs.all id = true ↔ ∀ x ∈ ds, p x) → Same H H' → Qd H') :
    ∃ W : Nat → Nat → Hp → Prop, (∃ m, W 0 m (upd H D (.lst []))) ∧ ∀ i_1 m H, W i_1 m H →
      ((Itt K a).stop i_1 H ∧ Qd H) ∨ ((Itt K a).go i_1 H ∧ ∃ Nx : Hp → Prop, (∀ H', Nx H' → ∃ m', m' < m ∧ W (i_1 + 1) m' H') ∧ ∀ x H', (Itt K a).yld i_1 H x H' → gName i x (wipe σ [i]) H' fun σ2 H2 => wipe σ2 [i] = wipe σ [i] ∧ tYes σ2 H2 fun b H3 =>
        if b = true then te σ2 H3 fun y H4 => ∃ acc, H4 D = some (.lst acc) ∧ acc.length < sizeLine ∧ Nx (upd H4 D (.lst (acc ++ [y]))) else Nx H3) := by
  refine lc_tup (K := K) (a := a) (xs := xs) (fun i H' => ∃ bs : List Bool, H' D = some (.lst (bs.map V.bl)) ∧ bs.length = i ∧ (bs.all id = true ↔ ∀ j, j < i → ∀ d, ds[j]? = some d → p d) ∧ Same H H')
    ⟨[], upd_same, rfl, by simp, snew hD⟩ (fun i H' _ ⟨_, _, _, _, s'⟩ => SqT.of (s' _ _ ea)) ?_ ?_
  · rintro j x H' hx ⟨bs, e1, e2, e3, s'⟩
    obtain ⟨d, ed, dn⟩ := ra.at_ hx
    have il : j < ds.length := (List.getElem?_eq_some_iff.mp ed).1
    refine ⟨wipe1, ?_⟩
    refine step j x d H' _ ed (Dn.mono s' d x dn) s' fun b H2 hb s2 => ?_
    refine ⟨_, s2 _ _ e1, by rw [List.length_map]; exact small_m (by omega), bs ++ [b], by rw [List.map_append, upd_same]; rfl, by rw [List.length_append, e2]; rfl, ?_, fun c o e => ?_⟩
    · refine all_step (p := fun j => ∀ d, ds[j]? = some d → p d) e3 ?_
      rw [hb]
      exact ⟨fun h d' e' => by rw [ed] at e'; cases e'; exact h, fun h => h d ed⟩
    · rw [upd_ne (ne_of_none e hD)]
      exact s2 _ _ (s' _ _ e)
  · rintro H1 ⟨bs, e1, e2, e3, s1⟩
    rw [ra.length] at e3
    exact fin bs H1 e1 (e3.trans mem_idx) s1
/-- [1 for x in t if not p(x)] -/
theorem lc_bad (p : PyData → Prop) (ea : H a = some (.tup xs)) (ra : DnAll H xs ds) (hl : ds.length ≤ 1000000) (hD : H D = none)
    (step : ∀ (j : Nat) (x : V) (d : PyData) (H' : Hp) (Q' : Bool → Hp → Prop), ds[j]? = some d → Dn H' x d → Same H H' → (∀ (b : Bool) (H2 : Hp), (b = true ↔ ¬ p d) → Same H' H2 → Q' b H2) → tt ((wipe σ [i]).set i (some x)) H' Q')
    (fin : ∀ (n : Nat) (H' : Hp), H' D = some (.lst ((ones n).map V.int)) → (n = 0 ↔ ∀ x ∈ ds, p x) → Same H H' → Qd H') :
    ∃ W : Nat → Nat → Hp → Prop, (∃ m, W 0 m (upd H D (.lst []))) ∧ ∀ i_1 m H, W i_1 m H →
      ((Itt K a).stop i_1 H ∧ Qd H) ∨ ((Itt K a).go i_1 H ∧ ∃ Nx : Hp → Prop, (∀ H', Nx H' → ∃ m', m' < m ∧ W (i_1 + 1) m' H') ∧ ∀ x H', (Itt K a).yld i_1 H x H' → gName i x (wipe σ [i]) H' fun σ2 H2 => wipe σ2 [i] = wipe σ [i] ∧ tt σ2 H2 fun b H3 =>
        if b = true then tC (.int 1) σ2 H3 fun y H4 => ∃ acc, H4 D = some (.lst acc) ∧ acc.length < sizeLine ∧ Nx (upd H4 D (.lst (acc ++ [y]))) else Nx H3) := by
  refine lc_tup (K := K) (a := a) (xs := xs) (fun i H' => ∃ n : Nat, H' D = some (.lst ((ones n).map V.int)) ∧ n ≤ i ∧ (n = 0 ↔ ∀ j, j < i → ∀ d, ds[j]? = some d → p d) ∧ Same H H')
    ⟨0, upd_same, Nat.le_refl _, by simp, snew hD⟩ (fun i H' _ ⟨_, _, _, _, s'⟩ => SqT.of (s' _ _ ea)) ?_ ?_
  · rintro j x H' hx ⟨n, e1, e2, e3, s'⟩
    obtain ⟨d, ed, dn⟩ := ra.at_ hx
    have il : j < ds.length := (List.getElem?_eq_some_iff.mp ed).1
    refine ⟨wipe1, ?_⟩
    refine step j x d H' _ ed (Dn.mono s' d x dn) s' fun b H2 hb s2 => ?_
    refine ite_b (fun c => ?_) (fun c => ?_)
    · refine ⟨_, s2 _ _ e1, by rw [ones_len]; exact small_m (by omega), n + 1, by rw [ones_succ, upd_same], by omega, ?_, fun c o e => ?_⟩
      · refine none_step (p := fun j => ∀ d, ds[j]? = some d → p d) e3 ⟨fun z => by omega, fun z => absurd (z.2 d ed) (hb.mp c)⟩
      · rw [upd_ne (ne_of_none e hD)]
        exact s2 _ _ (s' _ _ e)
    · refine ⟨n, s2 _ _ e1, by omega, ?_, s'.trans s2⟩
      have pd : p d := by
        by_cases h : p d
        · exact h
        · have := hb.mpr h
          rw [c] at this
          cases this
      exact none_step (p := fun j => ∀ d, ds[j]? = some d → p d) e3 ⟨fun z => ⟨z, fun d' e' => by rw [ed] at e'; cases e'; exact pd⟩, fun z => z.1⟩
  · rintro H1 ⟨n, e1, e2, e3, s1⟩
    rw [ra.length] at e3
    exact fin n H1 e1 (e3.trans mem_idx) s1
/-- all([r(t[k], t[k + 1]) for k in range(len(t) - 1)]) -/
theorem lc_adj (r : PyData → PyData → Prop) (hl : ds.length ≤ 1000000) (hD : H D = none)
    (step : ∀ (k : Nat) (x y : PyData) (H' : Hp) (Q' : V → Hp → Prop), ds[k]? = some x → ds[k + 1]? = some y → Same H H' → (∀ (b : Bool) (H2 : Hp), (b = true ↔ r x y) → Same H' H2 → Q' (.bl b) H2) → te ((wipe σ [i]).set i (some (.int (0 + k)))) H' Q')
    (fin : ∀ (bs : List Bool) (H' : Hp), H' D = some (.lst (bs.map V.bl)) → (bs.all id = true ↔ ∀ (k : Nat) (x y : PyData), ds[k]? = some x → ds[k + 1]? = some y → r x y) → Same H H' → Qd H') :
    ∃ W : Nat → Nat → Hp → Prop, (∃ m, W 0 m (upd H D (.lst []))) ∧ ∀ i_1 m H, W i_1 m H →
      ((Itr 0 (ds.length - 1)).stop i_1 H ∧ Qd H) ∨ ((Itr 0 (ds.length - 1)).go i_1 H ∧ ∃ Nx : Hp → Prop, (∀ H', Nx H' → ∃ m', m' < m ∧ W (i_1 + 1) m' H') ∧ ∀ x H', (Itr 0 (ds.length - 1)).yld i_1 H x H' → gName i x (wipe σ [i]) H' fun σ2 H2 => wipe σ2 [i] = wipe σ [i] ∧ tYes σ2 H2 fun b H3 =>
        if b = true then te σ2 H3 fun y H4 => ∃ acc, H4 D = some (.lst acc) ∧ acc.length < sizeLine ∧ Nx (upd H4 D (.lst (acc ++ [y]))) else Nx H3) := by
  refine lc_range (lo := 0) (n := ds.length - 1) (fun i H' => ∃ cs : List Bool, H' D = some (.lst (cs.map V.bl)) ∧ cs.length = i ∧ (cs.all id = true ↔ ∀ j, j < i → ∀ x y, ds[j]? = some x → ds[j + 1]? = some y → r x y) ∧ Same H H')
    ⟨[], upd_same, rfl, by simp, snew hD⟩ ?_ ?_
  · rintro k H' hi ⟨cs, c1, c2, c3, s'⟩
    have i1 : k < ds.length := by omega
    have i2 : k + 1 < ds.length := by omega
    refine ⟨wipe1, ?_⟩
    refine step k ds[k] ds[k + 1] H' _ (List.getElem?_eq_getElem i1) (List.getElem?_eq_getElem i2) s' fun b H2 hb s2 => ?_
    refine ⟨_, s2 _ _ c1, by rw [List.length_map]; exact small_m (by omega), cs ++ [b], by rw [List.map_append, upd_same]; rfl, by rw [List.length_append, c2]; rfl, ?_, fun c o e => ?_⟩
    · refine all_step (p := fun j => ∀ x y, ds[j]? = some x → ds[j + 1]? = some y → r x y) c3 ?_
      rw [hb, List.getElem?_eq_getElem i1, List.getElem?_eq_getElem i2]
      exact ⟨fun h x y e e' => by cases e; cases e'; exact h, fun h => h _ _ rfl rfl⟩
    · rw [upd_ne (ne_of_none e hD)]
      exact s2 _ _ (s' _ _ e)
  · rintro H2 ⟨cs, c1, c2, c3, s2⟩
    refine fin cs H2 c1 ?_ s2
    rw [c3]
    exact ⟨fun h k x y ex ey => h k (by have := (List.getElem?_eq_some_iff.mp ey).1; omega) x y ex ey, fun h k _ x y ex ey => h k x y ex ey⟩
end
/-- the outer walk, over a list, of a comprehension with two -/
theorem out_list {K : PySem.W.Frag} {a D : Addr} {xs : List V} {g : TG} {tt : TT} {R : L2.St → Hp → (Hp → Prop) → Prop} {vs : List Nat} {σ : L2.St} {H1 : Hp} {Qd : Hp → Prop} (Pv : Nat → Hp → Prop) (h0 : Pv 0 (upd H1 D (.lst []))) (hl : ∀ i H, i ≤ xs.length → Pv i H → SqL K H a xs)
    (hs : ∀ i x H, xs[i]? = some x → Pv i H → g x (wipe σ vs) H fun σ2 H2 => wipe σ2 vs = wipe σ vs ∧ tt σ2 H2 fun b H3 => if b = true then R σ2 H3 (Pv (i + 1)) else Pv (i + 1) H3) (hd : ∀ H, Pv xs.length H → Qd H) :
    ∃ W : Nat → Nat → Hp → Prop, (∃ m, W 0 m (upd H1 D (.lst []))) ∧ ∀ i m H, W i m H →
      ((Itl K a).stop i H ∧ Qd H) ∨ ((Itl K a).go i H ∧ ∃ Nx : Hp → Prop, (∀ H', Nx H' → ∃ m', m' < m ∧ W (i + 1) m' H') ∧ ∀ x H', (Itl K a).yld i H x H' → g x (wipe σ vs) H' fun σ2 H2 => wipe σ2 vs = wipe σ vs ∧ tt σ2 H2 fun b H3 =>
        if b = true then R σ2 H3 Nx else Nx H3) := by
  refine ⟨fun i m H => m = xs.length - i ∧ i ≤ xs.length ∧ Pv i H, ⟨xs.length, by simp, Nat.zero_le _, h0⟩, ?_⟩
  rintro i m H ⟨rfl, hi, p⟩
  have q := hl i H hi p
  by_cases hlt : i < xs.length
  · refine .inr ⟨⟨xs, xs[i], q, by simp [hlt]⟩, Pv (i + 1), fun H' p' => ⟨xs.length - (i + 1), by omega, rfl, hlt, p'⟩, fun x H' y => ?_⟩
    obtain ⟨e, y⟩ := y
    subst e
    exact hs i x _ (y xs q) p
  · have e : i = xs.length := by omega
    subst e
    exact .inl ⟨⟨xs, q, Nat.le_refl _⟩, hd H p⟩
/-- the inner walk, over a tuple -/
theorem in_tup {K : PySem.W.Frag} {a : Addr} {xs : List V} {g : TG} {tt : TT} {S : L2.St → Hp → (Hp → Prop) → Prop} {vs : List Nat} {σ : L2.St} {H1 : Hp} {Nx : Hp → Prop} (Pv : Nat → Hp → Prop) (h0 : Pv 0 H1) (hl : ∀ i H, i ≤ xs.length → Pv i H → SqT K H a xs)
    (hs : ∀ i x H, xs[i]? = some x → Pv i H → g x (wipe σ vs) H fun σ2 H2 => wipe σ2 vs = wipe σ vs ∧ tt σ2 H2 fun b H3 => if b = true then S σ2 H3 (Pv (i + 1)) else Pv (i + 1) H3) (hd : ∀ H, Pv xs.length H → Nx H) :
    ∃ W : Nat → Nat → Hp → Prop, (∃ m, W 0 m H1) ∧ ∀ i m H, W i m H →
      ((Itt K a).stop i H ∧ Nx H) ∨ ((Itt K a).go i H ∧ ∃ Nx1 : Hp → Prop, (∀ H', Nx1 H' → ∃ m', m' < m ∧ W (i + 1) m' H') ∧ ∀ x H', (Itt K a).yld i H x H' → g x (wipe σ vs) H' fun σ2 H2 => wipe σ2 vs = wipe σ vs ∧ tt σ2 H2 fun b H3 =>
        if b = true then S σ2 H3 Nx1 else Nx1 H3) := by
  refine ⟨fun i m H => m = xs.length - i ∧ i ≤ xs.length ∧ Pv i H, ⟨xs.length, by simp, Nat.zero_le _, h0⟩, ?_⟩
  rintro i m H ⟨rfl, hi, p⟩
  have q := hl i H hi p
  by_cases hlt : i < xs.length
  · refine .inr ⟨⟨xs, xs[i], q, by simp [hlt]⟩, Pv (i + 1), fun H' p' => ⟨xs.length - (i + 1), by omega, rfl, hlt, p'⟩, fun x H' y => ?_⟩
    obtain ⟨e, y⟩ := y
    subst e
    exact hs i x _ (y xs q) p
  · have e : i = xs.length := by omega
    subst e
    exact .inl ⟨⟨xs, q, Nat.le_refl _⟩, hd H p⟩
end N3

namespace N3
open PySem PySem.Spec PyProof.Rows L2 N2
/-! ### numbers, rows and quotients as plain values, and their data -/
abbrev Tr := Int × Int × Int
abbrev Nm := List Tr
abbrev Pl := Int × Int
abbrev Tl := Pl × List Nm
abbrev Qt := List Nm × List Tl
def encT (x : Tr) : PyData := .tuple [.int x.1, .int x.2.1, .int x.2.2]
def encN (n : Nm) : PyData := .tuple (n.map encT)
def encR (r : List Nm) : PyData := .tuple (r.map encN)
def encPl (p : Pl) : PyData := .tuple [.int p.1, .int p.2]
def encTl (t : Tl) : PyData := .tuple [encPl t.1, encR t.2]
def encQ (q : Qt) : PyData := .tuple [encR q.1, .tuple (q.2.map encTl)]
/-- neighbours are so -/
def Nb {α : Type} (r : α → α → Prop) (l : List α) : Prop := ∀ (i : Nat) (x y : α), l[i]? = some x → l[i + 1]? = some y → r x y
def CT (ok : Int → Prop) (x : Tr) : Prop := ok x.1 ∧ x.2.1 ≠ 0 ∧ lowT x.2.1 x.2.2 = true
def CN (ok : Int → Prop) (n : Nm) : Prop := (∀ x ∈ n, CT ok x) ∧ Nb (fun x y : Tr => x.1 < y.1) n
def CR (ok : Int → Prop) (r : List Nm) : Prop := (∀ n ∈ r, CN ok n) ∧ r.getLast? ≠ some []
def CPl (p : Pl) : Prop := lowT p.1 p.2 = true
def CTl (ok : Int → Prop) (t : Tl) : Prop := CPl t.1 ∧ CR ok t.2 ∧ t.2 ≠ []
abbrev before (p q : Pl) : Prop := p.1 * q.2 < q.1 * p.2
def CTs (ok : Int → Prop) (ts : List Tl) : Prop := (∀ t ∈ ts, CTl ok t) ∧ Nb (fun s t : Tl => before s.1 t.1) ts
def CQ (ok : Int → Prop) (q : Qt) : Prop := CR ok q.1 ∧ CTs ok q.2
/-- the numbers are fractions -/
def FrN (n : Nm) : Prop := n = [] ∨ ∃ t b, n = [(1, t, b)]
def Plain (q : Qt) : Prop := (∀ n ∈ q.1, FrN n) ∧ ∀ t ∈ q.2, ∀ n ∈ t.2, FrN n
/-! what data are so -/
def DN (ok : Int → Prop) (d : PyData) : Prop := ∃ n, d = encN n ∧ CN ok n
def DR (ok : Int → Prop) (d : PyData) : Prop := ∃ r, d = encR r ∧ CR ok r
def DPl (d : PyData) : Prop := ∃ p, d = encPl p ∧ CPl p
def DTl (ok : Int → Prop) (d : PyData) : Prop := ∃ t, d = encTl t ∧ CTl ok t
def DTs (ok : Int → Prop) (d : PyData) : Prop := ∃ ts : List Tl, d = .tuple (ts.map encTl) ∧ CTs ok ts
def DQ (ok : Int → Prop) (d : PyData) : Prop := ∃ q, d = encQ q ∧ CQ ok q
/-! ### from data to values -/
theorem map_of {α : Type} {enc : α → PyData} {p : α → Prop} : ∀ {ds : List PyData}, (∀ d ∈ ds, ∃ x, d = enc x ∧ p x) → ∃ l : List α, ds = l.map enc ∧ ∀ x ∈ l, p x
  | [], _ => ⟨[], rfl, by simp⟩
  | d :: ds, h => by
    obtain ⟨x, rfl, px⟩ := h d List.mem_cons_self
    obtain ⟨l, rfl, pl⟩ := map_of (ds := ds) fun y hy => h y (List.mem_cons_of_mem _ hy)
    exact ⟨x :: l, rfl, fun y hy => (List.mem_cons.mp hy).elim (fun e => e ▸ px) (pl y)⟩
theorem inj_map {α : Type} {enc : α → PyData} (h : ∀ x y, enc x = enc y → x = y) : ∀ {l k : List α}, l.map enc = k.map enc → l = k
  | [], [], _ => rfl
  | [], _ :: _, e => by simp at e
  | _ :: _, [], e => by simp at e
  | x :: l, y :: k, e => by
    rw [List.map_cons, List.map_cons] at e
    injection e with e1 e2
    rw [h _ _ e1, inj_map h e2]
theorem encT_inj {x y : Tr} (h : encT x = encT y) : x = y := by
  obtain ⟨a, b, c⟩ := x
  obtain ⟨a', b', c'⟩ := y
  injection h with h
  injection h with h1 h
  injection h with h2 h
  injection h with h3 h
  injection h1 with h1
  injection h2 with h2
  injection h3 with h3
  exact Prod.ext h1 (Prod.ext h2 h3)
theorem encN_inj {x y : Nm} (h : encN x = encN y) : x = y := by
  injection h with h
  exact inj_map (fun _ _ => encT_inj) h
theorem encR_inj {x y : List Nm} (h : encR x = encR y) : x = y := by
  injection h with h
  exact inj_map (fun _ _ => encN_inj) h
theorem encPl_inj {x y : Pl} (h : encPl x = encPl y) : x = y := by
  obtain ⟨a, b⟩ := x
  obtain ⟨a', b'⟩ := y
  injection h with h
  injection h with h1 h
  injection h with h2 h
  injection h1 with h1
  injection h2 with h2
  exact Prod.ext h1 h2
theorem encTl_inj {x y : Tl} (h : encTl x = encTl y) : x = y := by
  obtain ⟨a, b⟩ := x
  obtain ⟨a', b'⟩ := y
  injection h with h
  injection h with h1 h
  injection h with h2 h
  exact Prod.ext (encPl_inj h1) (encR_inj h2)
theorem encTs_inj {x y : List Tl} (h : PyData.tuple (x.map encTl) = .tuple (y.map encTl)) : x = y := by
  injection h with h
  exact inj_map (fun _ _ => encTl_inj) h
theorem encQ_inj {x y : Qt} (h : encQ x = encQ y) : x = y := by
  obtain ⟨a, b⟩ := x
  obtain ⟨a', b'⟩ := y
  injection h with h
  injection h with h1 h
  injection h with h2 h
  exact Prod.ext (encR_inj h1) (encTs_inj h2)
/-! ### the looks of before are these -/
theorem tp_ct {d : PyData} : TP d ↔ ∃ x, d = encT x ∧ CT Fit x :=
  ⟨fun ⟨a, b, c, e, h1, h2, h3⟩ => ⟨(a, b, c), e, h3, h1, h2⟩, fun ⟨x, e, h1, h2, h3⟩ => ⟨x.1, x.2.1, x.2.2, e, h2, h3, h1⟩⟩
theorem tl_ct {d : PyData} : TL d ↔ ∃ x, d = encT x ∧ CT Lean_ x := by
  have key : ∀ b c : Int, (0 < c ∧ Nat.gcd b.natAbs c.natAbs = 1) ↔ lowT b c = true := fun b c => by
    unfold lowT
    rw [Bool.and_eq_true, decide_eq_true_iff, decide_eq_true_iff]
    exact ⟨fun h => ⟨by omega, h.2⟩, fun h => ⟨by omega, h.2⟩⟩
  exact ⟨fun ⟨a, b, c, e, h1, h2, h3, h4⟩ => ⟨(a, b, c), e, h4, h1, (key _ _).mp ⟨h2, h3⟩⟩, fun ⟨x, e, h1, h2, h3⟩ => ⟨x.1, x.2.1, x.2.2, e, h2, ((key _ _).mpr h3).1, ((key _ _).mpr h3).2, h1⟩⟩
theorem asc_nb {n : Nm} : Asc (n.map encT) ↔ Nb (fun x y : Tr => x.1 < y.1) n := by
  constructor
  · intro h i x y ex ey
    exact h i (encT x) (encT y) (by rw [List.getElem?_map, ex]; rfl) (by rw [List.getElem?_map, ey]; rfl)
  · intro h i x y ex ey
    rw [List.getElem?_map] at ex ey
    cases e1 : n[i]? with
    | none => rw [e1] at ex; cases ex
    | some u =>
      cases e2 : n[i + 1]? with
      | none => rw [e2] at ey; cases ey
      | some v =>
        rw [e1] at ex
        rw [e2] at ey
        cases ex
        cases ey
        exact h i u v e1 e2
theorem np_dn {d : PyData} : NP d ↔ DN Fit d := by
  constructor
  · rintro ⟨ds, rfl, t, a⟩
    obtain ⟨n, rfl, h⟩ := map_of fun x hx => tp_ct.mp (t x hx)
    exact ⟨n, rfl, h, asc_nb.mp a⟩
  · rintro ⟨n, rfl, h, a⟩
    exact ⟨_, rfl, fun x hx => by
      obtain ⟨y, hy, rfl⟩ := List.mem_map.mp hx
      exact tp_ct.mpr ⟨y, rfl, h y hy⟩, asc_nb.mpr a⟩
theorem nl_dn {d : PyData} : NL d ↔ DN Lean_ d := by
  constructor
  · rintro ⟨ds, rfl, t, a⟩
    obtain ⟨n, rfl, h⟩ := map_of fun x hx => tl_ct.mp (t x hx)
    exact ⟨n, rfl, h, asc_nb.mp a⟩
  · rintro ⟨n, rfl, h, a⟩
    exact ⟨_, rfl, fun x hx => by
      obtain ⟨y, hy, rfl⟩ := List.mem_map.mp hx
      exact tl_ct.mpr ⟨y, rfl, h y hy⟩, asc_nb.mpr a⟩
theorem fp_fr {n : Nm} (h : CN Fit n) : FP (encN n) ↔ FrN n := by
  constructor
  · rintro ⟨_, ds, e, h2⟩
    injection e with e
    subst e
    rcases h2 with h2 | ⟨h2, h3⟩
    · rw [List.length_map] at h2
      exact .inl (List.length_eq_zero_iff.mp h2)
    · rw [List.length_map] at h2
      match n, h2 with
      | [x], _ =>
        obtain ⟨a, b, c⟩ := x
        have : a = 1 := h3 _ rfl
        exact .inr ⟨b, c, by rw [this]⟩
  · rintro (rfl | ⟨t, b, rfl⟩)
    · exact ⟨np_dn.mpr ⟨[], rfl, h⟩, _, rfl, .inl rfl⟩
    · exact ⟨np_dn.mpr ⟨_, rfl, h⟩, _, rfl, .inr ⟨rfl, fun x hx => by cases (show some _ = some x from hx); rfl⟩⟩
/-! ### the weight of data: bounds the length of their text and of all that is within -/
mutual
def wt : PyData → Nat
  | .list ds => wtA ds + 2
  | .tuple ds => wtA ds + 3
  | .dict ks => wtK ks + 2
  | d => d.shown.length
def wtA : List PyData → Nat
  | [] => 0
  | d :: ds => wt d + 2 + wtA ds
def wtK : List (PyData × PyData) → Nat
  | [] => 0
  | (k, d) :: r => k.shown.length + wt d + 4 + wtK r
end
mutual
theorem wt_shown : ∀ d : PyData, d.shown.length ≤ wt d
  | .none => Nat.le_refl _
  | .bool _ => Nat.le_refl _
  | .int _ => Nat.le_refl _
  | .str _ => Nat.le_refl _
  | .list ds => by
    have h := wtA_shown ds
    simp only [PyData.shown, listText, wt]
    rw [strLen_append]
    have := text_up (PyData.shownAll ds) 0 "["
    have e1 : (("[" : String) : Str).length = 1 := rfl
    have e2 : (("]" : String) : Str).length = 1 := rfl
    omega
  | .tuple ds => by
    have h := wtA_shown ds
    simp only [PyData.shown, tupleText, wt]
    rw [strLen_append, strLen_append]
    have := join_up (PyData.shownAll ds)
    have e1 : (("(" : String) : Str).length = 1 := rfl
    have e2 : (((if (PyData.shownAll ds).length == 1 then ",)" else ")" : String) : String) : Str).length ≤ 2 := by
      by_cases z : ((PyData.shownAll ds).length == 1) = true
      · rw [if_pos z]; decide
      · rw [if_neg z]; decide
    omega
  | .dict ks => by
    have h := wtK_shown ks
    simp only [PyData.shown, dictText, wt]
    rw [strLen_append, strLen_append]
    have := join_up (PyData.shownKv ks)
    have e1 : (("{" : String) : Str).length = 1 := rfl
    have e2 : (("}" : String) : Str).length = 1 := rfl
    omega
theorem wtA_shown : ∀ ds : List PyData, piled (PyData.shownAll ds) ≤ wtA ds
  | [] => by simp [PyData.shownAll, wtA, piled]
  | d :: ds => by
    have h1 := wt_shown d
    have h2 := wtA_shown ds
    simp only [PyData.shownAll, piled_cons, wtA]
    omega
theorem wtK_shown : ∀ ks : List (PyData × PyData), piled (PyData.shownKv ks) ≤ wtK ks
  | [] => by simp [PyData.shownKv, wtK, piled]
  | (k, d) :: r => by
    have h1 := wt_shown d
    have h2 := wtK_shown r
    have e3 : ((": " : String) : Str).length = 2 := rfl
    simp only [PyData.shownKv, piled_cons, wtK, strLen_append]
    omega
end
/-- data with a text, of the weight m at most, at most n deep -/
structure Wd (m n : Nat) (d : PyData) : Prop where
  sh : d.showable = true
  dp : d.depth ≤ n
  wt : wt d ≤ m
theorem Wd.mono {m n m' n' : Nat} {d : PyData} (h : Wd m n d) (hm : m ≤ m') (hn : n ≤ n') : Wd m' n' d := ⟨h.sh, Nat.le_trans h.dp hn, Nat.le_trans h.wt hm⟩
theorem Wd.okd {m n : Nat} {d : PyData} (h : Wd m n d) : Okd m n d := ⟨h.sh, h.dp, Nat.le_trans (wt_shown d) h.wt⟩
theorem wtA_len : ∀ ds : List PyData, 2 * ds.length ≤ wtA ds
  | [] => Nat.zero_le _
  | d :: ds => by
    have := wtA_len ds
    rw [List.length_cons, wtA]
    omega
theorem wtA_mem : ∀ {ds : List PyData} {d : PyData}, d ∈ ds → wt d + 2 ≤ wtA ds
  | x :: ds, d, h => by
    rw [wtA]
    rcases List.mem_cons.mp h with rfl | h
    · omega
    · have := wtA_mem h
      omega
theorem sh_mem : ∀ {ds : List PyData} {d : PyData}, PyData.showableAll ds = true → d ∈ ds → d.showable = true
  | x :: ds, d, hs, h => by
    rw [PyData.showableAll, Bool.and_eq_true] at hs
    rcases List.mem_cons.mp h with rfl | h
    · exact hs.1
    · exact sh_mem hs.2 h
theorem dp_mem : ∀ {ds : List PyData} {d : PyData}, d ∈ ds → d.depth ≤ PyData.depthAll ds
  | x :: ds, d, h => by
    rw [PyData.depthAll]
    rcases List.mem_cons.mp h with rfl | h
    · omega
    · have := dp_mem h
      omega
theorem Wd.item {m n : Nat} {ds : List PyData} {d : PyData} (h : Wd m n (.tuple ds)) (hd : d ∈ ds) : Wd m n d := by
  have h1 := h.sh
  have h2 := h.dp
  have h3 := h.wt
  simp only [PyData.showable] at h1
  simp only [PyData.depth] at h2
  simp only [N3.wt] at h3
  have := dp_mem hd
  have := wtA_mem hd
  exact ⟨sh_mem h1 hd, by omega, by omega⟩
theorem Wd.len {m n : Nat} {ds : List PyData} (h : Wd m n (.tuple ds)) : 2 * ds.length ≤ m := by
  have h3 := h.wt
  simp only [N3.wt] at h3
  have := wtA_len ds
  omega
theorem Wd.int {m n : Nat} {i : Int} (h : Wd m n (.int i)) : i.natAbs.log2 < 1920 := by
  have := h.sh
  simpa [PyData.showable] using this
/-- any value within reason -/
def Gd (d : PyData) : Prop := Wd 2000000 60 d
theorem Gd.short {d : PyData} (h : Gd d) : Short d := fun ds e => by
  subst e
  have := Wd.len h
  omega
theorem Gd.item {ds : List PyData} {d : PyData} (h : Gd (.tuple ds)) (hd : d ∈ ds) : Gd d := Wd.item h hd
end N3

namespace N3
open PySem PySem.Spec PyProof.Rows L2 N2
/-! ### the program's checks of poles, rows, tails and quotients -/
def spPole : Sp := fun vs H Q _ => ∃ (v : V) (d : PyData), vs = [v] ∧ Dn H v d ∧ ∀ (b : Bool) (H' : Hp), (b = true ↔ DPl d) → Same H H' → Q (.bl b) H'
/-- a check of any value -/
def spCk (p : PyData → Prop) : Sp := fun vs H Q _ => ∃ (v : V) (d : PyData), vs = [v] ∧ Dn H v d ∧ Gd d ∧ ∀ (b : Bool) (H' : Hp), (b = true ↔ p d) → Same H H' → Q (.bl b) H'
def spBefore : Sp := fun vs H Q _ => ∃ (a b : Addr) (p q : Pl), vs = [.ref a, .ref b] ∧ H a = some (.tup [.int p.1, .int p.2]) ∧ H b = some (.tup [.int q.1, .int q.2]) ∧ p.1.natAbs.log2 < 1920 ∧ p.2.natAbs.log2 < 1920 ∧ q.1.natAbs.log2 < 1920 ∧ q.2.natAbs.log2 < 1920 ∧ Q (.bl (decide (before p q))) H
theorem two_ints {ds : List PyData} (h1 : ds.length = 2) (h2 : ds.all isI = true) : ∃ a b : Int, ds = [.int a, .int b] := by
  match ds, h1 with
  | [x, y], _ =>
    simp only [List.all_cons, List.all_nil, Bool.and_true, Bool.and_eq_true] at h2
    obtain ⟨e1, e2⟩ := h2
    have g : ∀ u : PyData, isI u = true → ∃ i, u = .int i := fun u e => by
      cases u <;> first | exact ⟨_, rfl⟩ | cases e
    obtain ⟨a, rfl⟩ := g x e1
    obtain ⟨b, rfl⟩ := g y e2
    exact ⟨a, b, rfl⟩
theorem dn2 {H : Hp} {xs : List V} {a b : Int} (h : DnAll H xs [.int a, .int b]) : xs = [.int a, .int b] := by
  cases h with
  | cons h1 r =>
    cases r with
    | cons h2 r =>
      cases r
      cases h1
      cases h2
      rfl
theorem dnI {H : Hp} {v : V} {i : Int} (h : Dn H v (.int i)) : v = .int i := by
  cases h
  rfl
theorem dn_pl {H : Hp} {v : V} {p : Pl} (h : Dn H v (encPl p)) : ∃ a, v = .ref a ∧ H a = some (.tup [.int p.1, .int p.2]) := by
  cases h with
  | tup e r => exact ⟨_, rfl, by rw [e, dn2 r]⟩
/-- a tuple's address and items -/
theorem dn_t {H : Hp} {v : V} {ds : List PyData} (h : Dn H v (.tuple ds)) : ∃ a xs, v = .ref a ∧ H a = some (.tup xs) ∧ DnAll H xs ds := by
  cases h with
  | tup e r => exact ⟨_, _, rfl, e, r⟩
theorem dn_pair {H : Hp} {v : V} {d e : PyData} (h : Dn H v (.tuple [d, e])) : ∃ a x y, v = .ref a ∧ H a = some (.tup [x, y]) ∧ Dn H x d ∧ Dn H y e := by
  obtain ⟨a, xs, rfl, ea, r⟩ := dn_t h
  cases r with
  | cons h1 r =>
    cases r with
    | cons h2 r =>
      cases r
      exact ⟨a, _, _, rfl, ea, h1, h2⟩
theorem tup_two {d : PyData} (h : tupN 2 d = true) : ∃ x y, d = .tuple [x, y] := by
  cases d with
  | tuple ds =>
    have : ds.length = 2 := of_decide_eq_true h
    match ds, this with
    | [x, y], _ => exact ⟨x, y, rfl⟩
  | _ => cases h
theorem encT_shape (x : Tr) : PyData.canLay0 (encT x) = true ∧ (encT x).depth = 1 := by
  constructor <;> simp [encT, PyData.canLay0, PyData.canLayAll0, PyData.depth, PyData.depthAll]
theorem lay_map {α : Type} {enc : α → PyData} {k : Nat} (h : ∀ x, PyData.canLay0 (enc x) = true ∧ (enc x).depth ≤ k) : ∀ l : List α, PyData.canLayAll0 (l.map enc) = true ∧ PyData.depthAll (l.map enc) ≤ k
  | [] => by simp [PyData.canLayAll0, PyData.depthAll]
  | x :: l => by
    obtain ⟨h1, h2⟩ := lay_map h l
    obtain ⟨h3, h4⟩ := h x
    constructor
    · simp only [List.map_cons, PyData.canLayAll0, h1, h3, Bool.and_self]
    · simp only [List.map_cons, PyData.depthAll]; omega
theorem encN_shape (n : Nm) : PyData.canLay0 (encN n) = true ∧ (encN n).depth ≤ 2 := by
  obtain ⟨h1, h2⟩ := lay_map (k := 1) (fun x => ⟨(encT_shape x).1, Nat.le_of_eq (encT_shape x).2⟩) n
  constructor
  · simp only [encN, PyData.canLay0]; exact h1
  · simp only [encN, PyData.depth]; omega
theorem encR_shape (r : List Nm) : PyData.canLay0 (encR r) = true ∧ (encR r).depth ≤ 3 := by
  obtain ⟨h1, h2⟩ := lay_map (k := 2) encN_shape r
  constructor
  · simp only [encR, PyData.canLay0]; exact h1
  · simp only [encR, PyData.depth]; omega
theorem shaped_of {d : PyData} (h : PyData.canLay0 d = true) (k : d.depth ≤ 64) : SeqAt.shaped d = true := by
  show (PyData.canLay0 d && decide (PyData.depth d ≤ 64)) = true
  rw [Bool.and_eq_true]
  exact ⟨h, decide_eq_true k⟩
theorem encN_shaped (n : Nm) : SeqAt.shaped (encN n) = true := shaped_of (encN_shape n).1 (by have := (encN_shape n).2; omega)
theorem encR_shaped (r : List Nm) : SeqAt.shaped (encR r) = true := shaped_of (encR_shape r).1 (by have := (encR_shape r).2; omega)
/-- plain data: no dicts, no bools or texts within -/
inductive Tn : PyData → Prop
  | int (i : Int) : Tn (.int i)
  | tup {ds : List PyData} : (∀ d ∈ ds, Tn d) → Tn (.tuple ds)
mutual
theorem tn_dp {K : PySem.W.Frag} {H : Hp} : ∀ (d : PyData) (v : V), Tn d → Dn H v d → Dp K H v d
  | .int i, _, _, h => by
    cases h
    exact .int i
  | .tuple ds, _, t, h => by
    obtain ⟨a, xs, rfl, ea, r⟩ := dn_t h
    cases t with
    | tup t => exact .tup (SqT.of ea) (tn_dpA ds xs t r)
  | .none, _, t, _ => by cases t
  | .bool _, _, t, _ => by cases t
  | .str _, _, t, _ => by cases t
  | .list _, _, t, _ => by cases t
  | .dict _, _, t, _ => by cases t
theorem tn_dpA {K : PySem.W.Frag} {H : Hp} : ∀ (ds : List PyData) (xs : List V), (∀ d ∈ ds, Tn d) → DnAll H xs ds → DpAll K H xs ds
  | [], _, _, h => by
    cases h
    exact .nil
  | d :: ds, _, t, h => by
    cases h with
    | cons h1 h2 => exact .cons (tn_dp d _ (t d List.mem_cons_self) h1) (tn_dpA ds _ (fun x hx => t x (List.mem_cons_of_mem _ hx)) h2)
end
theorem tn_map {α : Type} {enc : α → PyData} (h : ∀ x, Tn (enc x)) (l : List α) : Tn (.tuple (l.map enc)) := .tup fun d hd => by
  obtain ⟨x, _, rfl⟩ := List.mem_map.mp hd
  exact h x
theorem encT_tn (x : Tr) : Tn (encT x) := .tup fun d hd => by
  simp only [List.mem_cons, List.not_mem_nil, or_false] at hd
  rcases hd with rfl | rfl | rfl <;> exact .int _
theorem encN_tn (n : Nm) : Tn (encN n) := tn_map encT_tn n
theorem encR_tn (r : List Nm) : Tn (encR r) := tn_map encN_tn r
theorem encPl_tn (p : Pl) : Tn (encPl p) := .tup fun d hd => by
  simp only [List.mem_cons, List.not_mem_nil, or_false] at hd
  rcases hd with rfl | rfl <;> exact .int _
theorem encTl_tn (t : Tl) : Tn (encTl t) := .tup fun d hd => by
  simp only [List.mem_cons, List.not_mem_nil, or_false] at hd
  rcases hd with rfl | rfl
  · exact encPl_tn _
  · exact encR_tn _
theorem encQ_tn (q : Qt) : Tn (encQ q) := .tup fun d hd => by
  simp only [List.mem_cons, List.not_mem_nil, or_false] at hd
  rcases hd with rfl | rfl
  · exact encR_tn _
  · exact tn_map encTl_tn _
def isNil : PyData → Bool
  | .tuple [] => true
  | _ => false
theorem eqv_nil_d {d : PyData} (h : Tn d) : PyData.eqv d (.tuple []) = isNil d := by
  cases h with
  | int i => simp [PyData.eqv, isNil]
  | @tup ds _ =>
    rw [eqv_nil_t]
    cases ds <;> rfl
theorem nil_encN {n : Nm} : isNil (encN n) = true ↔ n = [] := by
  cases n with
  | nil => exact ⟨fun _ => rfl, fun _ => rfl⟩
  | cons x n => exact ⟨fun h => (by cases h), fun h => (by cases h)⟩
theorem nil_encR {r : List Nm} : isNil (encR r) = true ↔ r = [] := by
  cases r with
  | nil => exact ⟨fun _ => rfl, fun _ => rfl⟩
  | cons x n => exact ⟨fun h => (by cases h), fun h => (by cases h)⟩
theorem snoc_of {α : Type} : ∀ {l : List α}, l ≠ [] → ∃ k x, l = k ++ [x]
  | [], h => absurd rfl h
  | [x], _ => ⟨[], x, rfl⟩
  | x :: y :: l, _ => by
    obtain ⟨k, z, e⟩ := snoc_of (l := y :: l) (by simp)
    exact ⟨x :: k, z, by rw [e]; rfl⟩
theorem dn_snoc {H : Hp} : ∀ {ds : List PyData} {d : PyData} {xs : List V}, DnAll H xs (ds ++ [d]) → ∃ ys x, xs = ys ++ [x] ∧ DnAll H ys ds ∧ Dn H x d
  | [], d, xs, h => by
    cases h with
    | cons h1 r =>
      cases r
      exact ⟨[], _, rfl, .nil, h1⟩
  | e :: ds, d, xs, h => by
    cases h with
    | cons h1 r =>
      obtain ⟨ys, x, rfl, r', dx⟩ := dn_snoc r
      exact ⟨_ :: ys, x, rfl, .cons h1 r', dx⟩
theorem mulW {i j : Int} (h : i.natAbs.log2 < 1920) (k : j.natAbs.log2 < 1920) : CMulW i j := by
  unfold CMulW
  omega
section
variable {P : Program} {w : World} {K : PySem.W.Frag} {mg : Str → Option Value} {base : Heap}
abbrev s_is_pole : Stmt := top 6
theorem sc_is_pole : FnScope ["thing"] ["thing"] (defScope s_is_pole) := ⟨rfl, rfl, rfl, by decide +kernel, rfl, by decide +kernel, by decide +kernel⟩
theorem ok_is_pole {f f_is_tuple_of f_all_integers f_in_lowest_terms : Addr} {fd d_is_tuple_of d_all_integers d_in_lowest_terms : FuncData}  (F : Fun K "is_pole" "is_pole" s_is_pole f fd) (T : Bt mg) (p_is_tuple_of : Kn P w K mg base 1 "is_tuple_of" ["thing", "many"] spTupOf f_is_tuple_of d_is_tuple_of) (p_all_integers : Kn P w K mg base 2 "all_integers" ["things"] spAllInt f_all_integers d_all_integers) (p_in_lowest_terms : Kn P w K mg base 1 "in_lowest_terms" ["top", "bottom"] spLow f_in_lowest_terms d_in_lowest_terms) : FnOk P w K mg base CX0 3 f fd ["thing"] spPole := by
  refine F.ok sc_is_pole (fun vs H Q E h => ?_) (fun cdv A outer s H vs Q E hr h => ?_)
  · obtain ⟨v, d, rfl, _⟩ := h
    rfl
  · obtain ⟨v, d, rfl, hd, k⟩ := h
    refine ⟨_, pss_one (ps_ret (pe_and (pe_call p_is_tuple_of.ok (hr.mono (by decide)) rfl p_is_tuple_of.mg p_is_tuple_of.kp p_is_tuple_of.bd .nil pass0 (pa_cons (pv 0) (pa_cons pe_int pa_nil))) (pe_and (pe_call p_all_integers.ok (hr.mono (by decide)) rfl p_all_integers.mg p_all_integers.kp p_all_integers.bd .nil pass0 (pa_cons (pv 0) pa_nil)) (pe_one (pe_call p_in_lowest_terms.ok (hr.mono (by decide)) rfl p_in_lowest_terms.mg p_in_lowest_terms.kp p_in_lowest_terms.bd .nil pass0 (pa_cons (pe_ix (r := rIx K) ix_seq (pv 0) pe_int (fun _ _ => rfl)) (pa_cons (pe_ix (r := rIx K) ix_seq (pv 0) pe_int (fun _ _ => rfl)) pa_nil))))))), ?_⟩
    refine ⟨_, rfl, v, d, 2, rfl, hd, _, rfl, ite_b (fun e => ?_) (fun e => ?_)⟩
    · obtain ⟨x, y, rfl⟩ := tup_two e
      obtain ⟨a, xs, rfl, ea, ra⟩ := dn_t hd
      refine ⟨_, rfl, a, xs, _, rfl, ea, ra, by show 2 ≤ 1000; decide, fun H1 s1 => ⟨_, rfl, ite_b (fun e2 => ?_) (fun e2 => ?_)⟩⟩
      · obtain ⟨p, q, epq⟩ := two_ints rfl e2
        cases epq
        obtain rfl := dn2 ra
        refine ⟨_, rfl, .inr (.inl ⟨a, _, _, _, rfl, rfl, SqT.of (s1 _ _ ea), rfl, _, rfl, .inr (.inl ⟨a, _, _, _, rfl, rfl, SqT.of (s1 _ _ ea), rfl, p, q, rfl, ?_⟩)⟩)⟩
        refine k _ H1 ⟨fun h => ⟨(p, q), rfl, h⟩, fun ⟨u, e, h⟩ => ?_⟩ s1
        obtain rfl : (p, q) = u := encPl_inj (show encPl (p, q) = encPl u from e)
        exact h
      · refine k false H1 ⟨fun z => (by cases z), fun ⟨u, e, _⟩ => ?_⟩ s1
        rw [show ([x, y] : List PyData) = [.int u.1, .int u.2] from by injection e] at e2
        cases e2
    · refine k false H ⟨fun z => (by cases z), fun ⟨u, e', _⟩ => ?_⟩ (Same.refl _)
      rw [e'] at e
      cases e
abbrev s_comes_before : Stmt := top 17
theorem sc_comes_before : FnScope ["one", "other"] ["one", "other"] (defScope s_comes_before) := ⟨rfl, rfl, rfl, by decide +kernel, rfl, by decide +kernel, by decide +kernel⟩
theorem ok_comes_before {f  : Addr} {fd  : FuncData}  (F : Fun K "comes_before" "comes_before" s_comes_before f fd) (T : Bt mg)  : FnOk P w K mg base CX0 1 f fd ["one", "other"] spBefore := by
  refine F.ok sc_comes_before (fun vs H Q E h => ?_) (fun cdv A outer s H vs Q E hr h => ?_)
  · obtain ⟨a, b, p, q, rfl, _⟩ := h
    rfl
  · obtain ⟨a, b, p, q, rfl, ha, hb, l1, l2, l3, l4, k⟩ := h
    refine ⟨_, pss_one (ps_ret (pe_cmpR op_lt (pe_op op_mulW (pe_ix (r := rIx K) ix_seq (pv 0) pe_int (fun _ _ => rfl)) (pe_ix (r := rIx K) ix_seq (pv 1) pe_int (fun _ _ => rfl))) (pe_op op_mulW (pe_ix (r := rIx K) ix_seq (pv 1) pe_int (fun _ _ => rfl)) (pe_ix (r := rIx K) ix_seq (pv 0) pe_int (fun _ _ => rfl))) (nomark _))), ?_⟩
    refine ⟨_, rfl, .inr (.inl ⟨a, _, _, _, rfl, rfl, SqT.of ha, rfl, _, rfl, .inr (.inl ⟨b, _, _, _, rfl, rfl, SqT.of hb, rfl, _, _, rfl, rfl, mulW l1 l4, ?_⟩)⟩)⟩
    exact ⟨_, rfl, .inr (.inl ⟨b, _, _, _, rfl, rfl, SqT.of hb, rfl, _, rfl, .inr (.inl ⟨a, _, _, _, rfl, rfl, SqT.of ha, rfl, _, _, rfl, rfl, mulW l3 l2, _, _, rfl, rfl, k⟩)⟩)⟩
abbrev s_is_polynomial : Stmt := top 19
theorem sc_is_polynomial : FnScope ["thing", "number"] ["thing"] (defScope s_is_polynomial) := ⟨rfl, rfl, rfl, by decide +kernel, rfl, by decide +kernel, by decide +kernel⟩
theorem ok_is_polynomial {f f_is_number : Addr} {fd d_is_number : FuncData}  (F : Fun K "is_polynomial" "is_polynomial" s_is_polynomial f fd) (T : Bt mg) (p_is_number : Kn P w K mg base 5 "is_number" ["thing"] spNumber f_is_number d_is_number) : FnOk P w K mg base CX0 6 f fd ["thing"] (spCk (DR Fit)) := by
  refine F.ok sc_is_polynomial (fun vs H Q E h => ?_) (fun cdv A outer s H vs Q E hr h => ?_)
  · obtain ⟨v, d, rfl, _⟩ := h
    rfl
  · obtain ⟨v, d, rfl, hd, gd, k⟩ := h
    refine ⟨_, pss_cons (ps_if (pt_not (pt_val (pe_callB call_isi (by rfl) T.isi (by decide +kernel) (pa_cons (pv 0) (pa_cons (pe_bltn (v := .ty "tuple") (by rfl) T.tuple (by decide +kernel) rfl) pa_nil)))))
        (pss_one (ps_ret pe_bl))
        pss_nil)
      (pss_cons (ps_if (pt_not (pt_val (pe_callB (cr_all rfl) (by rfl) T.all (by decide +kernel) (pa_cons (pe_lc (own := [("number", 1)]) (g := (gName 1)) (tt := tYes) rfl sc_is_polynomial.nd (pi_tup (pv 0)) (blkOk_by (own := [("number", 1)]) (N := ["thing", "number"]) (sc := defScope s_is_polynomial) (by decide +kernel)) (fun _ _ _ _ _ => pg_name (i := 1) sc_is_polynomial.nd rfl (Or.inl rfl)) (fun _ _ _ _ _ => pts_nil) (fun _ _ _ _ _ => (pe_call p_is_number.ok (hr.mono (by decide)) rfl p_is_number.mg p_is_number.kp p_is_number.bd .nil pass0 (pa_cons (pv 1) pa_nil)))) pa_nil))))
        (pss_one (ps_ret pe_bl))
        pss_nil)
      (pss_one (ps_ret (pe_or (pe_cmpR op_eq (pe_callB call_len (by rfl) T.len PySem.boot_len (pa_cons (pv 0) pa_nil)) pe_int (nomark _)) (pe_one (pe_cmpR (op_neD hr.units) (pe_ix (r := rIx K) ix_seq (pv 0) (pe_un un_neg pe_int) (fun _ _ => rfl)) (pe_tup pa_nil) (nomark _))))))), ?_⟩
    refine ⟨_, rfl, v, .ty "tuple", _, _, _, rfl, .ty _, dn_ty hd, kit_ty (kit_t d), _, rfl, ?_⟩
    cases et : isTp d with
    | false =>
      refine iteT ?_
      refine k false H ⟨fun z => (by cases z), fun ⟨r, e, _⟩ => ?_⟩ (Same.refl _)
      rw [e] at et; cases et
    | true =>
      refine iteF ?_
      obtain ⟨a, xs, ds, rfl, rfl, ea, ra⟩ := dn_tup hd et
      refine ⟨_, rfl, a, rfl, ⟨_, SqT.of ea⟩, fun D hD => lc_all (NP) ea ra (gd.short _ rfl) hD (fun j x d H' Q' ed dn s' kk => ⟨_, rfl, x, d, rfl, dn, (gd.item (List.mem_of_getElem? ed)).short, kk⟩) fun bs H1 e1 e3 s1 => ?_⟩
      refine ⟨D, bs, rfl, SqL.of e1, _, rfl, ?_⟩
      cases eb : bs.all id with
      | false =>
        refine iteT ?_
        refine k false H1 ⟨fun z => (by cases z), fun ⟨r, e, h, _⟩ => ?_⟩ s1
        injection e with e
        subst e
        rw [e3.mpr fun x hx => by
          obtain ⟨n, hn, rfl⟩ := List.mem_map.mp hx
          exact np_dn.mpr ⟨n, rfl, h n hn⟩] at eb
        cases eb
      | true =>
        refine iteF ?_
        obtain ⟨r, rfl, hr'⟩ := map_of fun x hx => np_dn.mp (e3.mp eb x hx)
        refine ⟨_, rfl, .ref a, xs.length, rfl, .inr ⟨xs, SqT.of (s1 _ _ ea), rfl⟩, rfl, _, rfl, ?_⟩
        have ll : decide (V.int (xs.length : Int) = V.int ((0 : Nat) : Int)) = decide (r = []) := by
          rw [dec_len, ra.length, List.length_map]
          exact decide_eq_decide.mpr List.length_eq_zero_iff
        show if decide (V.int (xs.length : Int) = V.int ((0 : Nat) : Int)) = true then _ else _
        rw [ll]
        refine ite_b (fun e4 => ?_) (fun e4 => ?_)
        · obtain rfl := of_decide_eq_true e4
          exact k true H1 ⟨fun _ => ⟨[], rfl, hr', by simp⟩, fun _ => rfl⟩ s1
        · have r0 : r ≠ [] := of_decide_eq_false e4
          obtain ⟨r1, n, rfl⟩ := snoc_of r0
          rw [List.map_append] at ra
          obtain ⟨xs1, x, rfl, _, dx⟩ := dn_snoc ra
          refine ⟨_, rfl, _, rfl, .inr (.inl ⟨a, xs1 ++ [x], _, _, rfl, rfl, SqT.of (s1 _ _ ea), atI_last _ _, ?_⟩)⟩
          refine ⟨Nat.zero_le _, fun p hp => ⟨encN n, .tuple [], tn_dp _ _ (encN_tn n) (Dn.mono (s1.trans (snew hp)) _ _ dx), .tup (SqT.of upd_same) .nil, encN_shaped n, rfl, ?_⟩⟩
          rw [eqv_nil_d (encN_tn n)]
          refine k _ _ ?_ (s1.trans (snew hp))
          rw [Bool.not_eq_true', ← Bool.not_eq_true, nil_encN]
          constructor
          · intro h
            exact ⟨r1 ++ [n], rfl, hr', by rw [List.getLast?_append]; simpa using h⟩
          · rintro ⟨r', e, _, h⟩ z
            injection e with e
            obtain rfl := inj_map (fun _ _ => encN_inj) e
            rw [z, List.getLast?_append] at h
            exact h rfl
end
end N3

namespace N3
open PySem PySem.Spec PyProof.Rows L2 N2
theorem gd_len {ds : List PyData} (h : Gd (.tuple ds)) : ds.length ≤ 1000000 := h.short _ rfl
theorem mem0 {d e : PyData} : d ∈ [d, e] := List.mem_cons_self
theorem mem1 {d e : PyData} : e ∈ [d, e] := List.mem_cons_of_mem _ List.mem_cons_self
theorem nb_of {α : Type} {enc : α → PyData} {q : α → α → Prop} {l : List α} {r : PyData → PyData → Prop} (h : ∀ x y, r (enc x) (enc y) ↔ q x y) : (∀ (k : Nat) (x y : PyData), (l.map enc)[k]? = some x → (l.map enc)[k + 1]? = some y → r x y) ↔ Nb q l := by
  constructor
  · intro hr i x y ex ey
    exact (h x y).mp (hr i _ _ (by rw [List.getElem?_map, ex]; rfl) (by rw [List.getElem?_map, ey]; rfl))
  · intro hq i x y ex ey
    rw [List.getElem?_map] at ex ey
    cases e1 : l[i]? with
    | none => rw [e1] at ex; cases ex
    | some u =>
      cases e2 : l[i + 1]? with
      | none => rw [e2] at ey; cases ey
      | some v =>
        rw [e1] at ex
        rw [e2] at ey
        cases ex
        cases ey
        exact (h u v).mpr (hq i u v e1 e2)
section
variable {P : Program} {w : World} {K : PySem.W.Frag} {mg : Str → Option Value} {base : Heap}
abbrev s_is_tail : Stmt := top 20
theorem sc_is_tail : FnScope ["thing"] ["thing"] (defScope s_is_tail) := ⟨rfl, rfl, rfl, by decide +kernel, rfl, by decide +kernel, by decide +kernel⟩
theorem ok_is_tail {f f_is_tuple_of f_is_pole f_is_polynomial : Addr} {fd d_is_tuple_of d_is_pole d_is_polynomial : FuncData}  (F : Fun K "is_tail" "is_tail" s_is_tail f fd) (T : Bt mg) (p_is_tuple_of : Kn P w K mg base 1 "is_tuple_of" ["thing", "many"] spTupOf f_is_tuple_of d_is_tuple_of) (p_is_pole : Kn P w K mg base 3 "is_pole" ["thing"] spPole f_is_pole d_is_pole) (p_is_polynomial : Kn P w K mg base 6 "is_polynomial" ["thing"] (spCk (DR Fit)) f_is_polynomial d_is_polynomial) : FnOk P w K mg base CX0 7 f fd ["thing"] (spCk (DTl Fit)) := by
  refine F.ok sc_is_tail (fun vs H Q E h => ?_) (fun cdv A outer s H vs Q E hr h => ?_)
  · obtain ⟨v, d, rfl, _⟩ := h
    rfl
  · obtain ⟨v, d, rfl, hd, gd, k⟩ := h
    refine ⟨_, pss_one (ps_ret (pe_and (pe_call p_is_tuple_of.ok (hr.mono (by decide)) rfl p_is_tuple_of.mg p_is_tuple_of.kp p_is_tuple_of.bd .nil pass0 (pa_cons (pv 0) (pa_cons pe_int pa_nil))) (pe_and (pe_call p_is_pole.ok (hr.mono (by decide)) rfl p_is_pole.mg p_is_pole.kp p_is_pole.bd .nil pass0 (pa_cons (pe_ix (r := rIx K) ix_seq (pv 0) pe_int (fun _ _ => rfl)) pa_nil)) (pe_and (pe_call p_is_polynomial.ok (hr.mono (by decide)) rfl p_is_polynomial.mg p_is_polynomial.kp p_is_polynomial.bd .nil pass0 (pa_cons (pe_ix (r := rIx K) ix_seq (pv 0) pe_int (fun _ _ => rfl)) pa_nil)) (pe_one (pe_cmpR (op_neD hr.units) (pe_ix (r := rIx K) ix_seq (pv 0) pe_int (fun _ _ => rfl)) (pe_tup pa_nil) (nomark _))))))), ?_⟩
    refine ⟨_, rfl, v, d, 2, rfl, hd, _, rfl, ite_b (fun e => ?_) (fun e => ?_)⟩
    · obtain ⟨x, y, rfl⟩ := tup_two e
      obtain ⟨a, xv, yv, rfl, ea, dx, dy⟩ := dn_pair hd
      refine ⟨_, rfl, .inr (.inl ⟨a, _, _, _, rfl, rfl, SqT.of ea, rfl, xv, x, rfl, dx, fun b H1 hb s1 => ⟨_, rfl, ite_b (fun e2 => ?_) (fun e2 => ?_)⟩⟩)⟩
      · refine ⟨_, rfl, .inr (.inl ⟨a, _, _, _, rfl, rfl, SqT.of (s1 _ _ ea), rfl, yv, y, rfl, Dn.mono s1 _ _ dy, gd.item mem1, fun b2 H2 hb2 s2 => ⟨_, rfl, ite_b (fun e3 => ?_) (fun e3 => ?_)⟩⟩)⟩
        · obtain ⟨pl, rfl, cp⟩ := hb.mp e2
          obtain ⟨r, rfl, cr⟩ := hb2.mp e3
          have s12 := s1.trans s2
          refine ⟨_, rfl, .inr (.inl ⟨a, _, _, _, rfl, rfl, SqT.of (s12 _ _ ea), rfl, ?_⟩)⟩
          refine ⟨Nat.zero_le _, fun p hp => ⟨encR r, .tuple [], tn_dp _ _ (encR_tn r) (Dn.mono (s12.trans (snew hp)) _ _ dy), .tup (SqT.of upd_same) .nil, encR_shaped r, rfl, ?_⟩⟩
          rw [eqv_nil_d (encR_tn r)]
          refine k _ _ ?_ (s12.trans (snew hp))
          rw [Bool.not_eq_true', ← Bool.not_eq_true, nil_encR]
          constructor
          · intro h
            exact ⟨(pl, r), rfl, cp, cr, h⟩
          · rintro ⟨t, e', _, _, h⟩
            obtain rfl : (pl, r) = t := encTl_inj (show encTl (pl, r) = encTl t from e')
            exact h
        · refine k false H2 ⟨fun z => (by cases z), fun ⟨t, e', _, h, _⟩ => ?_⟩ (s1.trans s2)
          rw [hb2.mpr ⟨t.2, (show y = encR t.2 by injection e' with e'; injection e' with _ e'; injection e' with e' _), h⟩] at e3
          cases e3
      · refine k false H1 ⟨fun z => (by cases z), fun ⟨t, e', h, _, _⟩ => ?_⟩ s1
        rw [hb.mpr ⟨t.1, (show x = encPl t.1 by injection e' with e'; injection e' with e' _), h⟩] at e2
        cases e2
    · refine k false H ⟨fun z => (by cases z), fun ⟨t, e', _⟩ => ?_⟩ (Same.refl _)
      rw [e'] at e
      cases e
abbrev s_are_tails : Stmt := top 21
theorem sc_are_tails : FnScope ["thing", "tail", "k"] ["thing"] (defScope s_are_tails) := ⟨rfl, rfl, rfl, by decide +kernel, rfl, by decide +kernel, by decide +kernel⟩
theorem ok_are_tails {f f_is_tail f_comes_before : Addr} {fd d_is_tail d_comes_before : FuncData}  (F : Fun K "are_tails" "are_tails" s_are_tails f fd) (T : Bt mg) (p_is_tail : Kn P w K mg base 7 "is_tail" ["thing"] (spCk (DTl Fit)) f_is_tail d_is_tail) (p_comes_before : Kn P w K mg base 1 "comes_before" ["one", "other"] spBefore f_comes_before d_comes_before) : FnOk P w K mg base CX0 8 f fd ["thing"] (spCk (DTs Fit)) := by
  refine F.ok sc_are_tails (fun vs H Q E h => ?_) (fun cdv A outer s H vs Q E hr h => ?_)
  · obtain ⟨v, d, rfl, _⟩ := h
    rfl
  · obtain ⟨v, d, rfl, hd, gd, k⟩ := h
    refine ⟨_, pss_cons (ps_if (pt_not (pt_val (pe_callB call_isi (by rfl) T.isi (by decide +kernel) (pa_cons (pv 0) (pa_cons (pe_bltn (v := .ty "tuple") (by rfl) T.tuple (by decide +kernel) rfl) pa_nil)))))
        (pss_one (ps_ret pe_bl))
        pss_nil)
      (pss_cons (ps_if (pt_not (pt_val (pe_callB (cr_all rfl) (by rfl) T.all (by decide +kernel) (pa_cons (pe_lc (own := [("tail", 1)]) (g := (gName 1)) (tt := tYes) rfl sc_are_tails.nd (pi_tup (pv 0)) (blkOk_by (own := [("tail", 1)]) (N := ["thing", "tail", "k"]) (sc := defScope s_are_tails) (by decide +kernel)) (fun _ _ _ _ _ => pg_name (i := 1) sc_are_tails.nd rfl (Or.inl rfl)) (fun _ _ _ _ _ => pts_nil) (fun _ _ _ _ _ => (pe_call p_is_tail.ok (hr.mono (by decide)) rfl p_is_tail.mg p_is_tail.kp p_is_tail.bd .nil pass0 (pa_cons (pv 1) pa_nil)))) pa_nil))))
        (pss_one (ps_ret pe_bl))
        pss_nil)
      (pss_one (ps_ret (pe_callB (cr_all rfl) (by rfl) T.all (by decide +kernel) (pa_cons (pe_lc (own := [("k", 2)]) (g := (gName 2)) (tt := tYes) rfl sc_are_tails.nd (pi_range1 rfl T.range (pa_cons (pe_op op_sub (pe_callB call_len (by rfl) T.len PySem.boot_len (pa_cons (pv 0) pa_nil)) pe_int) pa_nil)) (blkOk_by (own := [("k", 2)]) (N := ["thing", "tail", "k"]) (sc := defScope s_are_tails) (by decide +kernel)) (fun _ _ _ _ _ => pg_name (i := 2) sc_are_tails.nd rfl (Or.inl rfl)) (fun _ _ _ _ _ => pts_nil) (fun _ _ _ _ _ => (pe_call p_comes_before.ok (hr.mono (by decide)) rfl p_comes_before.mg p_comes_before.kp p_comes_before.bd .nil pass0 (pa_cons (pe_ix (r := rIx K) ix_seq (pe_ix (r := rIx K) ix_seq (pv 0) (pv 2) (fun _ _ => rfl)) pe_int (fun _ _ => rfl)) (pa_cons (pe_ix (r := rIx K) ix_seq (pe_ix (r := rIx K) ix_seq (pv 0) (pe_op op_add (pv 2) pe_int) (fun _ _ => rfl)) pe_int (fun _ _ => rfl)) pa_nil))))) pa_nil))))), ?_⟩
    refine ⟨_, rfl, v, .ty "tuple", _, _, _, rfl, .ty _, dn_ty hd, kit_ty (kit_t d), _, rfl, ?_⟩
    cases et : isTp d with
    | false =>
      refine iteT ?_
      refine k false H ⟨fun z => (by cases z), fun ⟨r, e, _⟩ => ?_⟩ (Same.refl _)
      rw [e] at et; cases et
    | true =>
      refine iteF ?_
      obtain ⟨a, xs, ds, rfl, rfl, ea, ra⟩ := dn_tup hd et
      refine ⟨_, rfl, a, rfl, ⟨_, SqT.of ea⟩, fun D hD => lc_all (DTl Fit) ea ra (gd_len gd) hD (fun j x d H' Q' ed dn s' kk => ⟨_, rfl, x, d, rfl, dn, gd.item (List.mem_of_getElem? ed), kk⟩) fun bs H1 e1 e3 s1 => ?_⟩
      refine ⟨D, bs, rfl, SqL.of e1, _, rfl, ?_⟩
      cases eb : bs.all id with
      | false =>
        refine iteT ?_
        refine k false H1 ⟨fun z => (by cases z), fun ⟨ts, e, h, _⟩ => ?_⟩ s1
        injection e with e
        subst e
        rw [e3.mpr fun x hx => by
          obtain ⟨n, hn, rfl⟩ := List.mem_map.mp hx
          exact ⟨n, rfl, h n hn⟩] at eb
        cases eb
      | true =>
        refine iteF ?_
        obtain ⟨ts, rfl, ht⟩ := map_of fun x hx => e3.mp eb x hx
        refine ⟨_, rfl, .ref a, xs.length, rfl, .inr ⟨xs, SqT.of (s1 _ _ ea), rfl⟩, _, _, rfl, rfl, _, rfl, by rw [ra.length]; have := gd_len gd; omega, by rw [ra.length]; have := gd_len gd; omega, fun D2 hD2 => ?_⟩
        have en : ((xs.length : Int) - 1).toNat = (ts.map encTl).length - 1 := by rw [ra.length]; omega
        rw [en]
        refine lc_adj (fun x y => ∃ s t, x = encTl s ∧ y = encTl t ∧ before s.1 t.1) (gd_len gd) hD2 (fun j x y H' Q' ex ey s' kk => ?_) fun bs2 H2 e4 e5 s2 => ?_
        · have s0 := s1.trans s'
          obtain ⟨xv, exv, dx⟩ := dn_at ra ex
          obtain ⟨yv, eyv, dy⟩ := dn_at ra ey
          rw [List.getElem?_map] at ex ey
          obtain ⟨t1, et1, rfl⟩ := Option.map_eq_some_iff.mp ex
          obtain ⟨t2, et2, rfl⟩ := Option.map_eq_some_iff.mp ey
          obtain ⟨ax, x1, x2, rfl, hx, dx1, _⟩ := dn_pair dx
          obtain ⟨ay, y1, y2, rfl, hy, dy1, _⟩ := dn_pair dy
          obtain ⟨px, rfl, hpx⟩ := dn_pl dx1
          obtain ⟨py, rfl, hpy⟩ := dn_pl dy1
          have m1 := gd.item (List.mem_map.mpr ⟨t1, List.mem_of_getElem? et1, rfl⟩)
          have m2 := gd.item (List.mem_map.mpr ⟨t2, List.mem_of_getElem? et2, rfl⟩)
          have g1 := Gd.item (ds := [encPl t1.1, encR t1.2]) m1 mem0
          have g2 := Gd.item (ds := [encPl t2.1, encR t2.2]) m2 mem0
          refine ⟨_, rfl, _, rfl, .inr (.inl ⟨a, xs, _, _, rfl, rfl, SqT.of (s0 _ _ ea), by rw [Int.zero_add]; exact atI_nat exv, ?_⟩)⟩
          refine .inr (.inl ⟨ax, _, _, _, rfl, rfl, SqT.of (s0 _ _ hx), rfl, ?_⟩)
          refine ⟨_, rfl, _, rfl, _, _, rfl, rfl, .inr (.inl ⟨a, xs, _, _, rfl, rfl, SqT.of (s0 _ _ ea), by rw [Int.zero_add, show ((j : Int) + 1) = ((j + 1 : Nat) : Int) by omega]; exact atI_nat eyv, ?_⟩)⟩
          refine .inr (.inl ⟨ay, _, _, _, rfl, rfl, SqT.of (s0 _ _ hy), rfl, ?_⟩)
          refine ⟨px, py, t1.1, t2.1, rfl, s0 _ _ hpx, s0 _ _ hpy, Wd.int (Wd.item (ds := [.int t1.1.1, .int t1.1.2]) g1 mem0), Wd.int (Wd.item (ds := [.int t1.1.1, .int t1.1.2]) g1 mem1), Wd.int (Wd.item (ds := [.int t2.1.1, .int t2.1.2]) g2 mem0), Wd.int (Wd.item (ds := [.int t2.1.1, .int t2.1.2]) g2 mem1), kk _ H' ?_ (Same.refl _)⟩
          rw [decide_eq_true_iff]
          exact ⟨fun h => ⟨t1, t2, rfl, rfl, h⟩, fun ⟨s, t, e1, e2, h⟩ => by rw [encTl_inj e1, encTl_inj e2]; exact h⟩
        · refine ⟨D2, bs2, rfl, SqL.of e4, k _ H2 ?_ (s1.trans s2)⟩
          rw [e5, nb_of (q := fun s t : Tl => before s.1 t.1) fun x y => ⟨fun ⟨s, t, e1, e2, h⟩ => by rw [encTl_inj e1, encTl_inj e2]; exact h, fun h => ⟨x, y, rfl, rfl, h⟩⟩]
          exact ⟨fun h => ⟨ts, rfl, ht, h⟩, fun ⟨ts', e, h⟩ => by rw [encTs_inj e]; exact h.2⟩
abbrev s_is_quotient : Stmt := top 22
theorem sc_is_quotient : FnScope ["thing"] ["thing"] (defScope s_is_quotient) := ⟨rfl, rfl, rfl, by decide +kernel, rfl, by decide +kernel, by decide +kernel⟩
theorem ok_is_quotient {f f_is_tuple_of f_is_polynomial f_are_tails : Addr} {fd d_is_tuple_of d_is_polynomial d_are_tails : FuncData}  (F : Fun K "is_quotient" "is_quotient" s_is_quotient f fd) (T : Bt mg) (p_is_tuple_of : Kn P w K mg base 1 "is_tuple_of" ["thing", "many"] spTupOf f_is_tuple_of d_is_tuple_of) (p_is_polynomial : Kn P w K mg base 6 "is_polynomial" ["thing"] (spCk (DR Fit)) f_is_polynomial d_is_polynomial) (p_are_tails : Kn P w K mg base 8 "are_tails" ["thing"] (spCk (DTs Fit)) f_are_tails d_are_tails) : FnOk P w K mg base CX0 9 f fd ["thing"] (spCk (DQ Fit)) := by
  refine F.ok sc_is_quotient (fun vs H Q E h => ?_) (fun cdv A outer s H vs Q E hr h => ?_)
  · obtain ⟨v, d, rfl, _⟩ := h
    rfl
  · obtain ⟨v, d, rfl, hd, gd, k⟩ := h
    refine ⟨_, pss_one (ps_ret (pe_and (pe_call p_is_tuple_of.ok (hr.mono (by decide)) rfl p_is_tuple_of.mg p_is_tuple_of.kp p_is_tuple_of.bd .nil pass0 (pa_cons (pv 0) (pa_cons pe_int pa_nil))) (pe_and (pe_call p_is_polynomial.ok (hr.mono (by decide)) rfl p_is_polynomial.mg p_is_polynomial.kp p_is_polynomial.bd .nil pass0 (pa_cons (pe_ix (r := rIx K) ix_seq (pv 0) pe_int (fun _ _ => rfl)) pa_nil)) (pe_one (pe_call p_are_tails.ok (hr.mono (by decide)) rfl p_are_tails.mg p_are_tails.kp p_are_tails.bd .nil pass0 (pa_cons (pe_ix (r := rIx K) ix_seq (pv 0) pe_int (fun _ _ => rfl)) pa_nil)))))), ?_⟩
    refine ⟨_, rfl, v, d, 2, rfl, hd, _, rfl, ite_b (fun e => ?_) (fun e => ?_)⟩
    · obtain ⟨x, y, rfl⟩ := tup_two e
      obtain ⟨a, xv, yv, rfl, ea, dx, dy⟩ := dn_pair hd
      refine ⟨_, rfl, .inr (.inl ⟨a, _, _, _, rfl, rfl, SqT.of ea, rfl, xv, x, rfl, dx, gd.item mem0, fun b H1 hb s1 => ⟨_, rfl, ite_b (fun e2 => ?_) (fun e2 => ?_)⟩⟩)⟩
      · refine ⟨_, rfl, .inr (.inl ⟨a, _, _, _, rfl, rfl, SqT.of (s1 _ _ ea), rfl, yv, y, rfl, Dn.mono s1 _ _ dy, gd.item mem1, fun b2 H2 hb2 s2 => k b2 H2 ?_ (s1.trans s2)⟩)⟩
        obtain ⟨r, rfl, cr⟩ := hb.mp e2
        rw [hb2]
        constructor
        · rintro ⟨ts, rfl, h⟩
          exact ⟨(r, ts), rfl, cr, h⟩
        · rintro ⟨q, e', _, h⟩
          exact ⟨q.2, (by injection e' with e'; injection e' with _ e'; injection e' with e' _), h⟩
      · refine k false H1 ⟨fun z => (by cases z), fun ⟨q, e', h, _⟩ => ?_⟩ s1
        rw [hb.mpr ⟨q.1, (show x = encR q.1 by injection e' with e'; injection e' with e' _), h⟩] at e2
        cases e2
    · refine k false H ⟨fun z => (by cases z), fun ⟨t, e', _⟩ => ?_⟩ (Same.refl _)
      rw [e'] at e
      cases e
end
end N3

namespace N3
open PySem PySem.Spec PyProof.Rows L2 N2
def rowsOf (q : Qt) : List (List Nm) := q.1 :: q.2.map (·.2)
theorem plain_rows {q : Qt} : Plain q ↔ ∀ r ∈ rowsOf q, ∀ n ∈ r, FrN n := by
  constructor
  · rintro ⟨h1, h2⟩ r hr
    rcases List.mem_cons.mp hr with rfl | hr
    · exact h1
    · obtain ⟨t, ht, rfl⟩ := List.mem_map.mp hr
      exact h2 t ht
  · intro h
    exact ⟨h _ List.mem_cons_self, fun t ht => h _ (List.mem_cons_of_mem _ (List.mem_map.mpr ⟨t, ht, rfl⟩))⟩
theorem wtR (r : List Nm) : 2 * r.length ≤ wt (encR r) := by
  have h := wtA_len (r.map encN)
  rw [List.length_map] at h
  show 2 * r.length ≤ wtA (r.map encN) + 3
  omega
theorem wtTs : ∀ ts : List Tl, 2 * ((ts.map (·.2)).flatten.length) ≤ wtA (ts.map encTl)
  | [] => Nat.zero_le _
  | t :: ts => by
    have h1 := wtTs ts
    have h2 := wtR t.2
    rw [List.map_cons, List.flatten_cons, List.length_append, List.map_cons]
    show 2 * (t.2.length + ((ts.map (·.2)).flatten.length)) ≤ (wtA [encPl t.1, encR t.2] + 3) + 2 + wtA (ts.map encTl)
    simp only [wtA]
    omega
theorem gd_flat {q : Qt} (h : Gd (encQ q)) : (rowsOf q).flatten.length ≤ 1000000 := by
  have hw := h.wt
  have h1 := wtR q.1
  have h2 := wtTs q.2
  have e : wt (encQ q) = wtA [encR q.1, .tuple (q.2.map encTl)] + 3 := rfl
  have e2 : wtA [encR q.1, .tuple (q.2.map encTl)] = wt (encR q.1) + 2 + (wtA (q.2.map encTl) + 3 + 2 + 0) := rfl
  rw [rowsOf, List.flatten_cons, List.length_append]
  omega
theorem flat_take {R : List (List Nm)} {i : Nat} {r : List Nm} (h : R[i]? = some r) : (R.take (i + 1)).flatten.length = (R.take i).flatten.length + r.length := by
  rw [List.take_add_one, h]
  simp
theorem flat_le (R : List (List Nm)) (i : Nat) : (R.take i).flatten.length ≤ R.flatten.length := by
  have h : R.flatten.length = (R.take i).flatten.length + (R.drop i).flatten.length := by
    rw [← List.length_append, ← List.flatten_append, List.take_append_drop]
  omega
theorem dn_rows {H : Hp} : ∀ {xs : List V} {ts : List Tl}, DnAll H xs (ts.map encTl) → ∀ (i : Nat) (x : V), xs[i]? = some x → ∃ t a p r, ts[i]? = some t ∧ x = .ref a ∧ H a = some (.tup [p, r]) ∧ Dn H r (encR t.2) ∧ Dn H p (encPl t.1) := by
  intro xs ts ra i x hx
  obtain ⟨d, ed, dn⟩ := ra.at_ hx
  rw [List.getElem?_map] at ed
  obtain ⟨t, et, rfl⟩ := Option.map_eq_some_iff.mp ed
  obtain ⟨a, p, r, rfl, ha, dp, dr⟩ := dn_pair dn
  exact ⟨t, a, p, r, et, rfl, ha, dr, dp⟩
theorem DnAll.snoc {H : Hp} : ∀ {xs : List V} {ds : List PyData} {x : V} {d : PyData}, DnAll H xs ds → Dn H x d → DnAll H (xs ++ [x]) (ds ++ [d])
  | _, _, _, _, .nil, h => .cons h .nil
  | _, _, _, _, .cons a r, h => .cons a (DnAll.snoc r h)
section
variable {P : Program} {w : World} {K : PySem.W.Frag} {mg : Str → Option Value} {base : Heap}
abbrev s_is_equation : Stmt := top 23
abbrev nsEq : List Str := ["thing", "rows", "_", "row", "number"]
theorem sc_is_equation : FnScope nsEq ["thing"] (defScope s_is_equation) := ⟨rfl, rfl, rfl, by decide +kernel, rfl, by decide +kernel, by decide +kernel⟩
theorem ok_is_equation {f f_is_quotient f_is_fraction : Addr} {fd d_is_quotient d_is_fraction : FuncData}  (F : Fun K "is_equation" "is_equation" s_is_equation f fd) (T : Bt mg) (p_is_quotient : Kn P w K mg base 9 "is_quotient" ["thing"] (spCk (DQ Fit)) f_is_quotient d_is_quotient) (p_is_fraction : Kn P w K mg base 6 "is_fraction" ["thing"] spFraction f_is_fraction d_is_fraction) : FnOk P w K mg base CX0 10 f fd ["thing"] (spCk (fun d => ∃ q, d = encQ q ∧ CQ Fit q ∧ Plain q)) := by
  refine F.ok sc_is_equation (fun vs H Q E h => ?_) (fun cdv A outer s H vs Q E hr h => ?_)
  · obtain ⟨v, d, rfl, _⟩ := h
    rfl
  · obtain ⟨v, d, rfl, hd, gd, k⟩ := h
    refine ⟨_, pss_cons (ps_if (pt_not (pt_val (pe_call p_is_quotient.ok (hr.mono (by decide)) rfl p_is_quotient.mg p_is_quotient.kp p_is_quotient.bd .nil pass0 (pa_cons (pv 0) pa_nil))))
        (pss_one (ps_ret pe_bl))
        pss_nil)
      (pss_cons (ps_set (i := 1) sc_is_equation.nd rfl (Or.inl rfl) (pe_op op_cat (pe_lst (pa_cons (pe_ix (r := rIx K) ix_seq (pv 0) pe_int (fun _ _ => rfl)) pa_nil)) (pe_lc (own := [("_", 2), ("row", 3)]) (g := (gTup K 2 (gCons (gName 2) (gCons (gName 3) gNil)))) (tt := tYes) rfl sc_is_equation.nd (pi_tup (pe_ix (r := rIx K) ix_seq (pv 0) pe_int (fun _ _ => rfl))) (blkOk_by (own := [("_", 2), ("row", 3)]) (N := nsEq) (sc := defScope s_is_equation) (by decide +kernel)) (fun _ _ _ _ _ => pg_tup rfl (pgs_cons (pg_name (i := 2) sc_is_equation.nd rfl (Or.inl rfl)) (pgs_cons (pg_name (i := 3) sc_is_equation.nd rfl (Or.inl rfl)) pgs_nil))) (fun _ _ _ _ _ => pts_nil) (fun _ _ _ _ _ => (pv 3)))))
      (pss_one (ps_ret (pe_callB (cr_all rfl) (by rfl) T.all (by decide +kernel) (pa_cons (pe_lc2 (own := [("row", 3), ("number", 4)]) (vs1 := [4]) (g := (gName 3)) (tt := tYes) (g1 := (gName 4)) (tt1 := tYes) (wi1 := iTup K (tVar 3)) rfl sc_is_equation.nd (pi_list (pv 1)) (blkOk_by (own := [("row", 3), ("number", 4)]) (N := nsEq) (sc := defScope s_is_equation) (by decide +kernel)) (by decide) (fun _ _ _ _ _ => pg_name (i := 3) sc_is_equation.nd rfl (Or.inl rfl)) (fun _ _ _ _ _ => pts_nil) (fun _ _ _ _ _ => (pi_tup (pv 3))) (fun _ _ _ _ _ => pg_name (i := 4) sc_is_equation.nd rfl (Or.inl rfl)) (fun _ _ _ _ _ => pts_nil) (fun _ _ _ _ _ => (pe_call p_is_fraction.ok (hr.mono (by decide)) rfl p_is_fraction.mg p_is_fraction.kp p_is_fraction.bd .nil pass0 (pa_cons (pv 4) pa_nil)))) pa_nil))))), ?_⟩
    have sl1 : 1 ≤ sizeLine := by rw [sizeLine_eq]; decide
    refine ⟨_, rfl, v, d, rfl, hd, gd, fun b H1 hb s1 => ⟨_, rfl, ?_⟩⟩
    cases b with
    | false =>
      refine iteT ?_
      exact k false H1 ⟨fun z => (by cases z), fun ⟨q, e, h, _⟩ => by have := hb.mpr ⟨q, e, h⟩; cases this⟩ s1
    | true =>
      refine iteF ?_
      obtain ⟨q, rfl, cq⟩ := hb.mp rfl
      obtain ⟨a, v1, v2, rfl, ea, d1, d2⟩ := dn_pair hd
      obtain ⟨b2, xs, rfl, eb, rb⟩ := dn_t d2
      have lts : q.2.length ≤ 1000000 := by have := gd_len (gd.item mem1); rw [List.length_map] at this; exact this
      refine ⟨_, rfl, .inr (.inl ⟨a, _, _, _, rfl, rfl, SqT.of (s1 _ _ ea), rfl, sl1, fun p1 hp1 => ?_⟩)⟩
      have s2 := s1.trans (snew (o := .lst [v1]) hp1)
      refine ⟨_, rfl, .inr (.inl ⟨a, _, _, _, rfl, rfl, SqT.of (s2 _ _ ea), rfl, ?_⟩)⟩
      refine ⟨b2, rfl, ⟨_, SqT.of (s2 _ _ eb)⟩, fun D hD => lc_tup (K := K) (a := b2) (xs := xs) (fun i H' => ∃ acc, H' D = some (.lst acc) ∧ DnAll H acc ((q.2.take i).map fun t => encR t.2) ∧ H' p1 = some (.lst [v1]) ∧ Same H H')
        ⟨[], upd_same, .nil, by rw [upd_ne (ne_of_none upd_same hD)]; exact upd_same, s2.trans (snew hD)⟩ (fun i H' _ ⟨_, _, _, _, s'⟩ => SqT.of (s' _ _ eb)) ?_ ?_⟩
      · rintro i x H' hx ⟨acc, e1, e2, e3, s'⟩
        obtain ⟨t, ax, pv_, rv, et, rfl, hax, dr, _⟩ := dn_rows rb i x hx
        have lacc : acc.length = (q.2.take i).length := by rw [e2.length, List.length_map]
        have il := (List.getElem?_eq_some_iff.mp et).1
        refine ⟨ax, _, rfl, SqT.of (s' _ _ hax), rfl, _, _, rfl, _, _, rfl, rfl, rfl, ?_⟩
        refine ⟨_, rfl, acc, e1, small_m (by rw [lacc, List.length_take]; omega), acc ++ [rv], upd_same, ?_, ?_, fun c o eo => ?_⟩
        · rw [List.take_add_one, et]
          show DnAll H (acc ++ [rv]) ((q.2.take i ++ [t]).map fun t => encR t.2)
          rw [List.map_append]
          exact DnAll.snoc e2 dr
        · rw [upd_ne (ne_of_none upd_same (show upd H1 p1 (.lst [v1]) D = none from hD))]; exact e3
        · rw [upd_ne (ne_of_none (s2 _ _ eo) hD)]; exact s' _ _ eo
      · rintro H2 ⟨acc, e1, e2, e3, s3⟩
        have lx : xs.length = q.2.length := by rw [rb.length, List.length_map]
        rw [lx, List.take_length] at e2
        have lacc : acc.length = q.2.length := by rw [e2.length, List.length_map]
        have slA : acc.length + 1 ≤ sizeLine := by have := small_m (n := acc.length) (by omega); omega
        refine ⟨_, _, _, _, rfl, rfl, e3, e1, by show 1 + acc.length ≤ sizeLine; omega, fun l hl => ?_⟩
        have s4 := s3.trans (snew (o := .lst ([v1] ++ acc)) hl)
        have dR : DnAll H (v1 :: acc) ((rowsOf q).map encR) := by
          show DnAll H (v1 :: acc) (encR q.1 :: (q.2.map (·.2)).map encR)
          rw [List.map_map]
          exact .cons d1 e2
        have fl := gd_flat gd
        obtain ⟨H3, eH3⟩ : ∃ H3, upd H2 l (.lst ([v1] ++ acc)) = H3 := ⟨_, rfl⟩
        have hl3 : H3 l = some (.lst (v1 :: acc)) := by rw [← eH3]; exact upd_same
        rw [eH3] at s4 ⊢
        refine ⟨_, rfl, l, rfl, ⟨_, SqL.of hl3⟩, fun D2 hD2 => out_list (K := K) (a := l) (xs := v1 :: acc) (fun i H' => ∃ bs : List Bool, H' D2 = some (.lst (bs.map V.bl)) ∧ bs.length ≤ ((rowsOf q).take i).flatten.length ∧ (bs.all id = true ↔ ∀ j, j < i → ∀ r, (rowsOf q)[j]? = some r → ∀ n ∈ r, FrN n) ∧ Same H3 H')
          ⟨[], upd_same, Nat.zero_le _, by simp, snew hD2⟩ (fun i H' _ ⟨_, _, _, _, s'⟩ => SqL.of (s' _ _ hl3)) ?_ ?_⟩
        · rintro i x H' hx ⟨bs, b1, b2', b3, s'⟩
          obtain ⟨d, ed, dn⟩ := dR.at_ hx
          rw [List.getElem?_map] at ed
          obtain ⟨r, er, rfl⟩ := Option.map_eq_some_iff.mp ed
          obtain ⟨ar, ys, rfl, har, rr⟩ := dn_t dn
          have cr : ∀ n ∈ r, CN Fit n := by
            have := List.mem_of_getElem? er
            rcases List.mem_cons.mp this with rfl | h
            · exact cq.1.1
            · obtain ⟨t, ht, rfl⟩ := List.mem_map.mp h
              exact (cq.2.1 t ht).2.1.1
          have gR : Gd (encR r) := by
            have := List.mem_of_getElem? er
            rcases List.mem_cons.mp this with rfl | h
            · exact gd.item mem0
            · obtain ⟨t, ht, rfl⟩ := List.mem_map.mp h
              exact Gd.item (ds := [encPl t.1, encR t.2]) (Gd.item (gd.item mem1) (List.mem_map.mpr ⟨t, ht, rfl⟩)) mem1
          have ft := flat_take er
          have fle := flat_le (rowsOf q) (i + 1)
          have sH := s4.trans s'
          refine ⟨rfl, ?_⟩
          refine ⟨_, rfl, ar, rfl, ⟨_, SqT.of (sH _ _ har)⟩, in_tup (K := K) (a := ar) (xs := ys) (fun j H'' => ∃ bs : List Bool, H'' D2 = some (.lst (bs.map V.bl)) ∧ bs.length ≤ ((rowsOf q).take i).flatten.length + j ∧ (bs.all id = true ↔ (∀ j, j < i → ∀ r, (rowsOf q)[j]? = some r → ∀ n ∈ r, FrN n) ∧ ∀ m, m < j → ∀ n, r[m]? = some n → FrN n) ∧ Same H3 H'')
            ⟨bs, b1, b2', by rw [b3]; simp, s'⟩ (fun j H'' _ ⟨_, _, _, _, s''⟩ => SqT.of (s'' _ _ (s4 _ _ har))) ?_ ?_⟩
          · rintro j y H'' hy ⟨cs, c1, c2, c3, s''⟩
            obtain ⟨d', ed', dn'⟩ := rr.at_ hy
            rw [List.getElem?_map] at ed'
            obtain ⟨n, en, rfl⟩ := Option.map_eq_some_iff.mp ed'
            have jl := (List.getElem?_eq_some_iff.mp en).1
            have hn := List.mem_of_getElem? en
            refine ⟨rfl, ?_⟩
            refine ⟨_, rfl, y, encN n, rfl, Dn.mono (s4.trans s'') _ _ dn', (Gd.item gR (List.mem_map.mpr ⟨n, hn, rfl⟩)).short, fun b H4 hb4 s5 => ?_⟩
            have hfr : b = true ↔ FrN n := hb4.trans (fp_fr (cr n hn))
            refine ⟨_, s5 _ _ c1, by rw [List.length_map]; exact small_m (by omega), cs ++ [b], by rw [List.map_append, upd_same]; rfl, by rw [List.length_append]; show cs.length + 1 ≤ _; omega, ?_, fun c o eo => ?_⟩
            · rw [List.all_append, Bool.and_eq_true, c3]
              simp only [List.all_cons, List.all_nil, Bool.and_true, id]
              rw [hfr]
              constructor
              · rintro ⟨⟨h1, h2⟩, h3⟩
                refine ⟨h1, fun m hm n' en' => ?_⟩
                by_cases c : m = j
                · subst c; rw [en] at en'; cases en'; exact h3
                · exact h2 m (by omega) n' en'
              · rintro ⟨h1, h2⟩
                exact ⟨⟨h1, fun m hm => h2 m (by omega)⟩, h2 j (by omega) n en⟩
            · rw [upd_ne (ne_of_none eo hD2)]
              exact s5 _ _ (s'' _ _ eo)
          · rintro H'' ⟨cs, c1, c2, c3, s''⟩
            have ly : ys.length = r.length := by rw [rr.length, List.length_map]
            rw [ly] at c2 c3
            refine ⟨cs, c1, by rw [ft]; exact c2, ?_, s''⟩
            rw [c3]
            constructor
            · rintro ⟨h1, h2⟩ j hj r' er' n hn
              by_cases c : j = i
              · subst c
                rw [er] at er'
                cases er'
                obtain ⟨m, hm, em⟩ := List.mem_iff_getElem.mp hn
                exact h2 m hm n (by rw [List.getElem?_eq_getElem hm, em])
              · exact h1 j (by omega) r' er' n hn
            · intro h
              exact ⟨fun j hj => h j (by omega), fun m hm n en => h i (by omega) r er n (List.mem_of_getElem? en)⟩
        · rintro H5 ⟨bs, b1, b2', b3, s5⟩
          refine ⟨D2, bs, rfl, SqL.of b1, k _ H5 ?_ (s4.trans s5)⟩
          have ll : (v1 :: acc).length = (rowsOf q).length := by rw [dR.length, List.length_map]
          rw [ll] at b3
          rw [b3]
          have e9 : (∀ j, j < (rowsOf q).length → ∀ r, (rowsOf q)[j]? = some r → ∀ n ∈ r, FrN n) ↔ Plain q := (mem_idx (l := rowsOf q) (p := fun r => ∀ n ∈ r, FrN n)).trans plain_rows.symm
          rw [e9]
          exact ⟨fun h => ⟨q, rfl, cq, h⟩, fun ⟨q', e, _, h⟩ => by rw [encQ_inj e]; exact h⟩
end
end N3

namespace N3
open PySem PySem.Spec PyProof.Rows L2 N2
/-! ### the law's own looks at rows, poles and quotients -/
theorem lowT_iff (b c : Int) : (0 < c ∧ Nat.gcd b.natAbs c.natAbs = 1) ↔ lowT b c = true := by
  unfold lowT
  rw [Bool.and_eq_true, decide_eq_true_iff, decide_eq_true_iff]
  exact ⟨fun h => ⟨by omega, h.2⟩, fun h => ⟨by omega, h.2⟩⟩
section
variable {P : Program} {w : World} {K : PySem.W.Frag} {mg : Str → Option Value} {base : Heap}
abbrev s__law_is_polynomial : Stmt := top 41
theorem sc__law_is_polynomial : FnScope ["thing", "it"] ["thing"] (defScope s__law_is_polynomial) := ⟨rfl, rfl, rfl, by decide +kernel, rfl, by decide +kernel, by decide +kernel⟩
theorem ok__law_is_polynomial {f f__law_is_number : Addr} {fd d__law_is_number : FuncData}  (F : Fun K "_law_is_polynomial" "_law_is_polynomial" s__law_is_polynomial f fd) (T : Bt mg) (l_is_number : Kn P w K mg base 3 "_law_is_number" ["thing"] spLNumber f__law_is_number d__law_is_number) : FnOk P w K mg base CX0 4 f fd ["thing"] (spCk (DR Lean_)) := by
  refine F.ok sc__law_is_polynomial (fun vs H Q E h => ?_) (fun cdv A outer s H vs Q E hr h => ?_)
  · obtain ⟨v, d, rfl, _⟩ := h
    rfl
  · obtain ⟨v, d, rfl, hd, gd, k⟩ := h
    refine ⟨_, pss_cons (ps_if (PW.pt (pw_or (pt_not (pt_val (pe_callB call_isi (by rfl) T.isi (by decide +kernel) (pa_cons (pv 0) (pa_cons (pe_bltn (v := .ty "tuple") (by rfl) T.tuple (by decide +kernel) rfl) pa_nil))))) (pw_or1 (pt_cmpR (op_neD hr.units) (pe_lc (own := [("it", 1)]) (g := (gName 1)) (tt := _) rfl sc__law_is_polynomial.nd (pi_tup (pv 0)) (blkOk_by (own := [("it", 1)]) (N := ["thing", "it"]) (sc := defScope s__law_is_polynomial) (by decide +kernel)) (fun _ _ _ _ _ => pg_name (i := 1) sc__law_is_polynomial.nd rfl (Or.inl rfl)) (fun _ _ _ _ _ => pts_one (pt_not (pt_val (pe_call l_is_number.ok (hr.mono (by decide)) rfl l_is_number.mg l_is_number.kp l_is_number.bd .nil pass0 (pa_cons (pv 1) pa_nil))))) (fun _ _ _ _ _ => pe_int)) (pe_lst pa_nil) (nomark _)))))
        (pss_one (ps_ret pe_bl))
        pss_nil)
      (pss_one (ps_ret (pe_or (pe_cmpR (op_eqD hr.units) (pv 0) (pe_tup pa_nil) (nomark _)) (pe_one (pe_cmpR (op_neD hr.units) (pe_ix (r := rIx K) ix_seq (pv 0) (pe_un un_neg pe_int) (fun _ _ => rfl)) (pe_tup pa_nil) (nomark _)))))), ?_⟩
    refine ⟨_, rfl, v, .ty "tuple", _, _, _, rfl, .ty _, dn_ty hd, kit_ty (kit_t d), _, rfl, ?_⟩
    cases et : isTp d with
    | false =>
      refine iteT ?_
      refine iteT ?_
      refine k false H ⟨fun z => (by cases z), fun ⟨r, e, _⟩ => ?_⟩ (Same.refl _)
      rw [e] at et; cases et
    | true =>
      refine iteF ?_
      obtain ⟨a, xs, ds, rfl, rfl, ea, ra⟩ := dn_tup hd et
      refine ⟨_, rfl, a, rfl, ⟨_, SqT.of ea⟩, fun D hD => lc_bad NL ea ra (gd.short _ rfl) hD (fun j x d H' Q' ed dn s' kk => ⟨_, rfl, x, d, rfl, dn, (gd.item (List.mem_of_getElem? ed)).short, fun b H2 hb s2 => ⟨_, rfl, kk _ H2 (by rw [← hb]; cases b <;> simp) s2⟩⟩) fun n H1 e1 e3 s1 => ?_⟩
      refine ⟨Nat.zero_le _, fun p hp => ⟨.list ((ones n).map PyData.int), .list [], .lst (SqL.of (snew hp _ _ e1)) (ints_dp _), .lst (SqL.of upd_same) .nil, ints_shaped _, nil_shaped, _, rfl, ?_⟩⟩
      rw [eqv_nil, ones_nil]
      have s2 := s1.trans (snew (o := .lst []) hp)
      cases en : decide (n = 0) with
      | false =>
        refine iteT ?_
        refine k false _ ⟨fun z => (by cases z), fun ⟨r, e, h, _⟩ => ?_⟩ s2
        injection e with e
        subst e
        refine absurd (e3.mpr fun x hx => ?_) (of_decide_eq_false en)
        obtain ⟨m, hm, rfl⟩ := List.mem_map.mp hx
        exact nl_dn.mpr ⟨m, rfl, h m hm⟩
      | true =>
        refine iteF ?_
        obtain ⟨H2, eH⟩ : ∃ H2, upd H1 p (.lst []) = H2 := ⟨_, rfl⟩
        rw [eH] at s2
        show tNext _ _ (upd H1 p (.lst []))
        rw [eH]
        obtain ⟨r, rfl, hr'⟩ := map_of fun x hx => nl_dn.mp (e3.mp (of_decide_eq_true en) x hx)
        refine ⟨_, rfl, Nat.zero_le _, fun p2 hp2 => ⟨encR r, .tuple [], tn_dp _ _ (encR_tn r) (Dn.mono (s2.trans (snew hp2)) _ _ hd), .tup (SqT.of upd_same) .nil, encR_shaped r, rfl, ?_⟩⟩
        rw [eqv_nil_d (encR_tn r)]
        have s3 := s2.trans (snew (o := .tup []) hp2)
        refine ⟨_, rfl, ite_b (fun e4 => ?_) (fun e4 => ?_)⟩
        · obtain rfl := nil_encR.mp e4
          exact k _ _ ⟨fun _ => ⟨[], rfl, hr', by simp⟩, fun _ => rfl⟩ s3
        · have r0 : r ≠ [] := fun z => by rw [nil_encR.mpr z] at e4; cases e4
          obtain ⟨r1, n1, rfl⟩ := snoc_of r0
          rw [List.map_append] at ra
          obtain ⟨xs1, x, rfl, _, dx⟩ := dn_snoc ra
          refine ⟨_, rfl, _, rfl, .inr (.inl ⟨a, xs1 ++ [x], _, _, rfl, rfl, SqT.of (s3 _ _ ea), atI_last _ _, ?_⟩)⟩
          refine ⟨Nat.zero_le _, fun p3 hp3 => ⟨encN n1, .tuple [], tn_dp _ _ (encN_tn n1) (Dn.mono (s3.trans (snew hp3)) _ _ dx), .tup (SqT.of upd_same) .nil, encN_shaped n1, rfl, ?_⟩⟩
          rw [eqv_nil_d (encN_tn n1)]
          refine k _ _ ?_ (s3.trans (snew hp3))
          rw [Bool.not_eq_true', ← Bool.not_eq_true, nil_encN]
          constructor
          · intro h
            exact ⟨r1 ++ [n1], rfl, hr', by rw [List.getLast?_append]; simpa using h⟩
          · rintro ⟨r', e, _, h⟩ z
            injection e with e
            obtain rfl := inj_map (fun _ _ => encN_inj) e
            rw [z, List.getLast?_append] at h
            exact h rfl
abbrev s__law_is_pole : Stmt := top 42
theorem sc__law_is_pole : FnScope ["thing", "x"] ["thing"] (defScope s__law_is_pole) := ⟨rfl, rfl, rfl, by decide +kernel, rfl, by decide +kernel, by decide +kernel⟩
theorem ok__law_is_pole {f f__law_is_integer f__law_common : Addr} {fd d__law_is_integer d__law_common : FuncData}  (F : Fun K "_law_is_pole" "_law_is_pole" s__law_is_pole f fd) (T : Bt mg) (l_is_integer : Kn P w K mg base 1 "_law_is_integer" ["thing"] spInt f__law_is_integer d__law_is_integer) (l_common : Kn P w K mg base 1 "_law_common" ["one", "other"] spCommon f__law_common d__law_common) : FnOk P w K mg base CX0 2 f fd ["thing"] spPole := by
  refine F.ok sc__law_is_pole (fun vs H Q E h => ?_) (fun cdv A outer s H vs Q E hr h => ?_)
  · obtain ⟨v, d, rfl, _⟩ := h
    rfl
  · obtain ⟨v, d, rfl, hd, k⟩ := h
    refine ⟨_, pss_cons (ps_if (PW.pt (pw_or (pt_not (pt_val (pe_callB call_isi (by rfl) T.isi (by decide +kernel) (pa_cons (pv 0) (pa_cons (pe_bltn (v := .ty "tuple") (by rfl) T.tuple (by decide +kernel) rfl) pa_nil))))) (pw_or (pt_cmpR op_ne (pe_callB call_len (by rfl) T.len PySem.boot_len (pa_cons (pv 0) pa_nil)) pe_int (nomark _)) (pw_or1 (pt_cmpR (op_neD hr.units) (pe_lc (own := [("x", 1)]) (g := (gName 1)) (tt := _) rfl sc__law_is_pole.nd (pi_tup (pv 0)) (blkOk_by (own := [("x", 1)]) (N := ["thing", "x"]) (sc := defScope s__law_is_pole) (by decide +kernel)) (fun _ _ _ _ _ => pg_name (i := 1) sc__law_is_pole.nd rfl (Or.inl rfl)) (fun _ _ _ _ _ => pts_one (pt_not (pt_val (pe_call l_is_integer.ok (hr.mono (by decide)) rfl l_is_integer.mg l_is_integer.kp l_is_integer.bd .nil pass0 (pa_cons (pv 1) pa_nil))))) (fun _ _ _ _ _ => pe_int)) (pe_lst pa_nil) (nomark _))))))
        (pss_one (ps_ret pe_bl))
        pss_nil)
      (pss_one (ps_ret (pe_and (pe_cmpR op_gt (pe_ix (r := rIx K) ix_seq (pv 0) pe_int (fun _ _ => rfl)) pe_int (nomark _)) (pe_one (pe_cmpR op_eq (pe_call l_common.ok (hr.mono (by decide)) rfl l_common.mg l_common.kp l_common.bd .nil pass0 (pa_cons (pe_ix (r := rIx K) ix_seq (pv 0) pe_int (fun _ _ => rfl)) (pa_cons (pe_ix (r := rIx K) ix_seq (pv 0) pe_int (fun _ _ => rfl)) pa_nil))) pe_int (nomark _)))))), ?_⟩
    refine ⟨_, rfl, v, .ty "tuple", _, _, _, rfl, .ty _, dn_ty hd, kit_ty (kit_t d), _, rfl, ?_⟩
    cases et : isTp d with
    | false =>
      refine iteT ?_
      refine iteT ?_
      refine k false H ⟨fun z => (by cases z), fun ⟨r, e, _⟩ => ?_⟩ (Same.refl _)
      rw [e] at et; cases et
    | true =>
      refine iteF ?_
      obtain ⟨a, xs, ds, rfl, rfl, ea, ra⟩ := dn_tup hd et
      refine ⟨_, rfl, .ref a, xs.length, rfl, .inr ⟨xs, SqT.of ea, rfl⟩, rfl, _, rfl, ?_⟩
      have ll : decide (V.int (xs.length : Int) = V.int 2) = decide (ds.length = 2) := by
        rw [← ra.length]
        exact decide_eq_decide.mpr ⟨fun h => by have := V.int.inj h; omega, fun h => by rw [h]; rfl⟩
      rw [ll]
      cases e3 : decide (ds.length = 2) with
      | false =>
        refine iteT ?_
        refine iteT ?_
        refine k false H ⟨fun z => (by cases z), fun ⟨p, e, _⟩ => ?_⟩ (Same.refl _)
        cases e; cases e3
      | true =>
        refine iteF ?_
        have l3 : ds.length = 2 := of_decide_eq_true e3
        refine ⟨_, rfl, a, rfl, ⟨_, SqT.of ea⟩, fun D hD => lc_bad (fun d => isI d = true) ea ra (by omega) hD (fun j x d H' Q' ed dn s' kk => ⟨_, rfl, x, d, rfl, dn, _, rfl, kk _ H' (by cases isI d <;> simp) (Same.refl _)⟩) fun n H1 e1 e3 s1 => ?_⟩
        refine ⟨Nat.zero_le _, fun p hp => ⟨.list ((ones n).map PyData.int), .list [], .lst (SqL.of (snew hp _ _ e1)) (ints_dp _), .lst (SqL.of upd_same) .nil, ints_shaped _, nil_shaped, _, rfl, ?_⟩⟩
        rw [eqv_nil, ones_nil]
        have s2 := s1.trans (snew (o := .lst []) hp)
        cases en : decide (n = 0) with
        | false =>
          refine iteT ?_
          refine k false _ ⟨fun z => (by cases z), fun ⟨q, e, _⟩ => ?_⟩ s2
          cases e
          refine absurd (e3.mpr fun x hx => ?_) (of_decide_eq_false en)
          simp only [List.mem_cons, List.not_mem_nil, or_false] at hx
          rcases hx with rfl | rfl <;> rfl
        | true =>
          refine iteF ?_
          obtain ⟨H2, eH⟩ : ∃ H2, upd H1 p (.lst []) = H2 := ⟨_, rfl⟩
          rw [eH] at s2
          show tNext _ _ (upd H1 p (.lst []))
          rw [eH]
          obtain ⟨b', c', rfl⟩ := two_ints l3 (List.all_eq_true.mpr (e3.mp (of_decide_eq_true en)))
          obtain rfl := dn2 ra
          have ea2 := s2 _ _ ea
          refine ⟨_, rfl, .inr (.inl ⟨a, _, _, _, rfl, rfl, SqT.of ea2, rfl, _, _, rfl, rfl, _, rfl, ite_b (fun q2 => ?_) (fun q2 => ?_)⟩)⟩
          · have q2' : 0 < c' := of_decide_eq_true q2
            refine ⟨_, rfl, .inr (.inl ⟨a, _, _, _, rfl, rfl, SqT.of ea2, rfl, _, rfl, .inr (.inl ⟨a, _, _, _, rfl, rfl, SqT.of ea2, rfl, b', c', rfl, rfl, ?_⟩)⟩)⟩
            refine k _ H2 ?_ s2
            rw [decide_eq_true_iff]
            constructor
            · intro h
              have h' := V.int.inj h
              exact ⟨(b', c'), rfl, (lowT_iff b' c').mp ⟨q2', by omega⟩⟩
            · rintro ⟨u, e, h⟩
              obtain rfl : (b', c') = u := encPl_inj (show encPl (b', c') = encPl u from e)
              exact congrArg V.int (by rw [((lowT_iff _ _).mpr h).2]; rfl)
          · refine k false H2 ⟨fun z => (by cases z), fun ⟨u, e, h⟩ => ?_⟩ s2
            obtain rfl : (b', c') = u := encPl_inj (show encPl (b', c') = encPl u from e)
            exact (of_decide_eq_false q2 ((lowT_iff _ _).mpr h).1).elim
end
end N3

namespace N3
open PySem PySem.Spec PyProof.Rows L2 N2
theorem cut1' (xs : List V) : cutV xs (some 1) none = xs.drop 1 := by
  by_cases h : xs = []
  · subst h
    rfl
  · exact cut1 xs h
/-- items that are pairs of a pole and a row -/
theorem dn_poles {H : Hp} : ∀ {xs : List V} {ts : List Tl}, DnAll H xs (ts.map fun t => encPl t.1) → ∀ (i : Nat) (x : V), xs[i]? = some x → ∃ t p, ts[i]? = some t ∧ x = .ref p ∧ H p = some (.tup [.int t.1.1, .int t.1.2]) := by
  intro xs ts ra i x hx
  obtain ⟨d, ed, dn⟩ := ra.at_ hx
  rw [List.getElem?_map] at ed
  obtain ⟨t, et, rfl⟩ := Option.map_eq_some_iff.mp ed
  obtain ⟨p, rfl, hp⟩ := dn_pl dn
  exact ⟨t, p, et, rfl, hp⟩
theorem tl_gd {ts : List Tl} {t : Tl} (g : Gd (.tuple (ts.map encTl))) (h : t ∈ ts) : t.1.1.natAbs.log2 < 1920 ∧ t.1.2.natAbs.log2 < 1920 := by
  have g1 := Gd.item (ds := [encPl t.1, encR t.2]) (g.item (List.mem_map.mpr ⟨t, h, rfl⟩)) mem0
  exact ⟨Wd.int (Wd.item (ds := [.int t.1.1, .int t.1.2]) g1 mem0), Wd.int (Wd.item (ds := [.int t.1.1, .int t.1.2]) g1 mem1)⟩
section
variable {P : Program} {w : World} {K : PySem.W.Frag} {mg : Str → Option Value} {base : Heap}
abbrev s__law_is_quotient : Stmt := top 43
abbrev nsLQ : List Str := ["thing", "tail", "poles", "near", "far"]
theorem sc__law_is_quotient : FnScope nsLQ ["thing"] (defScope s__law_is_quotient) := ⟨rfl, rfl, rfl, by decide +kernel, rfl, by decide +kernel, by decide +kernel⟩
theorem ok__law_is_quotient {f f__law_is_polynomial f__law_is_pole : Addr} {fd d__law_is_polynomial d__law_is_pole : FuncData}  (F : Fun K "_law_is_quotient" "_law_is_quotient" s__law_is_quotient f fd) (T : Bt mg) (l_is_polynomial : Kn P w K mg base 4 "_law_is_polynomial" ["thing"] (spCk (DR Lean_)) f__law_is_polynomial d__law_is_polynomial) (l_is_pole : Kn P w K mg base 2 "_law_is_pole" ["thing"] spPole f__law_is_pole d__law_is_pole) : FnOk P w K mg base CX0 5 f fd ["thing"] (spCk (DQ Lean_)) := by
  refine F.ok sc__law_is_quotient (fun vs H Q E h => ?_) (fun cdv A outer s H vs Q E hr h => ?_)
  · obtain ⟨v, d, rfl, _⟩ := h
    rfl
  · obtain ⟨v, d, rfl, hd, gd, k⟩ := h
    refine ⟨_, pss_cons (ps_if (PW.pt (pw_or (pt_not (pt_val (pe_callB call_isi (by rfl) T.isi (by decide +kernel) (pa_cons (pv 0) (pa_cons (pe_bltn (v := .ty "tuple") (by rfl) T.tuple (by decide +kernel) rfl) pa_nil))))) (pw_or (pt_cmpR op_ne (pe_callB call_len (by rfl) T.len PySem.boot_len (pa_cons (pv 0) pa_nil)) pe_int (nomark _)) (pw_or (pt_not (pt_val (pe_call l_is_polynomial.ok (hr.mono (by decide)) rfl l_is_polynomial.mg l_is_polynomial.kp l_is_polynomial.bd .nil pass0 (pa_cons (pe_ix (r := rIx K) ix_seq (pv 0) pe_int (fun _ _ => rfl)) pa_nil)))) (pw_or1 (pt_not (pt_val (pe_callB call_isi (by rfl) T.isi (by decide +kernel) (pa_cons (pe_ix (r := rIx K) ix_seq (pv 0) pe_int (fun _ _ => rfl)) (pa_cons (pe_bltn (v := .ty "tuple") (by rfl) T.tuple (by decide +kernel) rfl) pa_nil))))))))))
        (pss_one (ps_ret pe_bl))
        pss_nil)
      (pss_cons (ps_for PassesOwn.never rfl (pi_tup (pe_ix (r := rIx K) ix_seq (pv 0) pe_int (fun _ _ => rfl))) (pg_name (i := 1) sc__law_is_quotient.nd rfl (Or.inl rfl))
        (pss_cons (ps_if (PW.pt (pw_or (pt_not (pt_val (pe_callB call_isi (by rfl) T.isi (by decide +kernel) (pa_cons (pv 1) (pa_cons (pe_bltn (v := .ty "tuple") (by rfl) T.tuple (by decide +kernel) rfl) pa_nil))))) (pw_or (pt_cmpR op_ne (pe_callB call_len (by rfl) T.len PySem.boot_len (pa_cons (pv 1) pa_nil)) pe_int (nomark _)) (pw_or1 (pt_not (pt_val (pe_call l_is_pole.ok (hr.mono (by decide)) rfl l_is_pole.mg l_is_pole.kp l_is_pole.bd .nil pass0 (pa_cons (pe_ix (r := rIx K) ix_seq (pv 1) pe_int (fun _ _ => rfl)) pa_nil))))))))
          (pss_one (ps_ret pe_bl))
          pss_nil)
        (pss_one (ps_if (PW.pt (pw_or (pt_not (pt_val (pe_call l_is_polynomial.ok (hr.mono (by decide)) rfl l_is_polynomial.mg l_is_polynomial.kp l_is_polynomial.bd .nil pass0 (pa_cons (pe_ix (r := rIx K) ix_seq (pv 1) pe_int (fun _ _ => rfl)) pa_nil)))) (pw_or1 (pt_cmpR (op_eqD hr.units) (pe_ix (r := rIx K) ix_seq (pv 1) pe_int (fun _ _ => rfl)) (pe_tup pa_nil) (nomark _)))))
          (pss_one (ps_ret pe_bl))
          pss_nil))))
      (pss_cons (ps_setLc (i := 2) (own := [("tail", 1)]) (g := (gName 1)) (tt := tYes) rfl sc__law_is_quotient.nd rfl rfl (sw_true rfl rfl (by rfl) (by rfl)) (pi_tup (pe_ix (r := rIx K) ix_seq (pv 0) pe_int (fun _ _ => rfl))) (blkOk_by (own := [("tail", 1)]) (N := nsLQ) (sc := defScope s__law_is_quotient) (by decide +kernel)) (fun _ _ _ _ _ => pg_name (i := 1) sc__law_is_quotient.nd rfl (Or.inl rfl)) (fun _ _ _ _ _ => pts_nil) (fun _ _ _ _ _ => (pe_ix (r := rIx K) ix_seq (pv 1) pe_int (fun _ _ => rfl))))
      (pss_one (ps_ret (pe_cmpR (op_eqD hr.units) (pe_lc (own := [("near", 3), ("far", 4)]) (g := (gTup K 2 (gCons (gName 3) (gCons (gName 4) gNil)))) (tt := _) rfl sc__law_is_quotient.nd (pi_zip (by rfl) T.zip (pa_cons (pv 2) (pa_cons (pe_slice sl_list (pv 2) (po_some pe_int) po_none) pa_nil))) (blkOk_by (own := [("near", 3), ("far", 4)]) (N := nsLQ) (sc := defScope s__law_is_quotient) (by decide +kernel)) (fun _ _ _ _ _ => pg_tup rfl (pgs_cons (pg_name (i := 3) sc__law_is_quotient.nd rfl (Or.inl rfl)) (pgs_cons (pg_name (i := 4) sc__law_is_quotient.nd rfl (Or.inl rfl)) pgs_nil))) (fun _ _ _ _ _ => pts_one (pt_cmpR op_ge (pe_op op_mulW (pe_ix (r := rIx K) ix_seq (pv 3) pe_int (fun _ _ => rfl)) (pe_ix (r := rIx K) ix_seq (pv 4) pe_int (fun _ _ => rfl))) (pe_op op_mulW (pe_ix (r := rIx K) ix_seq (pv 4) pe_int (fun _ _ => rfl)) (pe_ix (r := rIx K) ix_seq (pv 3) pe_int (fun _ _ => rfl))) (nomark _))) (fun _ _ _ _ _ => pe_int)) (pe_lst pa_nil) (nomark _)))))), ?_⟩
    refine ⟨_, rfl, v, .ty "tuple", _, _, _, rfl, .ty _, dn_ty hd, kit_ty (kit_t d), _, rfl, ?_⟩
    cases et : isTp d with
    | false =>
      refine iteT ?_
      refine iteT ?_
      refine k false H ⟨fun z => (by cases z), fun ⟨r, e, _⟩ => ?_⟩ (Same.refl _)
      rw [e] at et; cases et
    | true =>
    refine iteF ?_
    obtain ⟨a, xs, ds, rfl, rfl, ea, ra⟩ := dn_tup hd et
    refine ⟨_, rfl, .ref a, xs.length, rfl, .inr ⟨xs, SqT.of ea, rfl⟩, rfl, _, rfl, ?_⟩
    have ll : decide (V.int (xs.length : Int) = V.int 2) = decide (ds.length = 2) := by
      rw [← ra.length]
      exact decide_eq_decide.mpr ⟨fun h => by have := V.int.inj h; omega, fun h => by rw [h]; rfl⟩
    rw [ll]
    cases e2 : decide (ds.length = 2) with
    | false =>
      refine iteT ?_
      refine iteT ?_
      refine k false H ⟨fun z => (by cases z), fun ⟨p, e, _⟩ => ?_⟩ (Same.refl _)
      cases e; cases e2
    | true =>
    refine iteF ?_
    obtain ⟨x, y, rfl⟩ : ∃ x y, ds = [x, y] := by
      match ds, of_decide_eq_true e2 with
      | [x, y], _ => exact ⟨x, y, rfl⟩
    obtain ⟨a', xv, yv, ea', hA, dx, dy⟩ := dn_pair hd
    cases ea'
    rw [ea] at hA
    cases hA
    refine ⟨_, rfl, .inr (.inl ⟨a, _, _, _, rfl, rfl, SqT.of ea, rfl, xv, x, rfl, dx, gd.item mem0, fun b H1 hb s1 => ⟨_, rfl, ?_⟩⟩)⟩
    cases b with
    | false =>
      refine iteT ?_
      refine iteT ?_
      refine k false H1 ⟨fun z => (by cases z), fun ⟨q, e', h, _⟩ => ?_⟩ s1
      have := hb.mpr ⟨q.1, (show x = encR q.1 by injection e' with e'; injection e' with e'), h⟩
      cases this
    | true =>
    refine iteF ?_
    obtain ⟨r, rfl, cr⟩ := hb.mp rfl
    refine ⟨_, rfl, .inr (.inl ⟨a, _, _, _, rfl, rfl, SqT.of (s1 _ _ ea), rfl, yv, .ty "tuple", _, _, _, rfl, .ty _, dn_ty (Dn.mono s1 _ _ dy), kit_ty (kit_t y), _, rfl, ?_⟩)⟩
    cases ety : isTp y with
    | false =>
      refine iteT ?_
      refine k false H1 ⟨fun z => (by cases z), fun ⟨q, e', _⟩ => ?_⟩ s1
      have e3 : y = .tuple (q.2.map encTl) := by injection e' with e'; injection e' with _ e'; injection e' with e' _
      rw [e3] at ety; cases ety
    | true =>
    refine iteF ?_
    obtain ⟨b2, ys, es, rfl, rfl, eb, rb⟩ := dn_tup dy ety
    have gy : Gd (.tuple es) := gd.item mem1
    have ley := gd_len gy
    -- the tails
    refine ⟨_, rfl, .inr (.inl ⟨a, _, _, _, rfl, rfl, SqT.of (s1 _ _ ea), rfl, b2, rfl, ⟨_, SqT.of (s1 _ _ eb)⟩, for_tup (K := K) (a := b2) (xs := ys) (fun i σ H' => (∃ x1, σ = [some (.ref a), x1, none, none, none]) ∧ (∀ j, j < i → ∀ d, es[j]? = some d → DTl Lean_ d) ∧ Same H H')
      ⟨⟨none, rfl⟩, fun j hj => by omega, s1⟩ (fun i σ H' _ p => SqT.of (p.2.2 _ _ eb)) ?_ ?_⟩)⟩
    · rintro i tv σ H' htv ⟨⟨x1, rfl⟩, hall, s'⟩
      obtain ⟨t, et', dt⟩ := rb.at_ htv
      have dt' := Dn.mono s' _ _ dt
      have gt := gy.item (List.mem_of_getElem? et')
      have no : ∀ H2, Same H' H2 → ¬ DTl Lean_ t → Q (.bl false) H2 := fun H2 s2 hn => by
        refine k false H2 ⟨fun z => (by cases z), fun ⟨q, e', _, h⟩ => ?_⟩ (s'.trans s2)
        have e3 : es = q.2.map encTl := by injection e' with e'; injection e' with _ e'; injection e' with e' _; injection e'
        refine absurd ?_ hn
        have hm := List.mem_of_getElem? et'
        rw [e3] at hm
        obtain ⟨t0, ht0, rfl⟩ := List.mem_map.mp hm
        exact ⟨t0, rfl, h.1 t0 ht0⟩
      refine ⟨_, rfl, tv, .ty "tuple", _, _, _, rfl, .ty _, dn_ty dt', kit_ty (kit_t t), _, rfl, ?_⟩
      cases ett : isTp t with
      | false =>
        refine iteT ?_
        refine iteT ?_
        refine no H' (Same.refl _) fun ⟨t0, e, _⟩ => ?_
        rw [e] at ett; cases ett
      | true =>
      refine iteF ?_
      obtain ⟨c, us, fs, rfl, rfl, ec, rc⟩ := dn_tup dt' ett
      refine ⟨_, rfl, .ref c, us.length, rfl, .inr ⟨us, SqT.of ec, rfl⟩, rfl, _, rfl, ?_⟩
      have ll : decide (V.int (us.length : Int) = V.int 2) = decide (fs.length = 2) := by
        rw [← rc.length]
        exact decide_eq_decide.mpr ⟨fun h => by have := V.int.inj h; omega, fun h => by rw [h]; rfl⟩
      rw [ll]
      cases e4 : decide (fs.length = 2) with
      | false =>
        refine iteT ?_
        refine iteT ?_
        refine no H' (Same.refl _) fun ⟨t0, e, _⟩ => ?_
        cases e; cases e4
      | true =>
      refine iteF ?_
      obtain ⟨g1, g2, rfl⟩ : ∃ x y, fs = [x, y] := by
        match fs, of_decide_eq_true e4 with
        | [x, y], _ => exact ⟨x, y, rfl⟩
      obtain ⟨c', pv1, rv1, ec', hC, dp1, dr1⟩ := dn_pair dt'
      cases ec'
      rw [ec] at hC
      cases hC
      refine ⟨_, rfl, .inr (.inl ⟨c, _, _, _, rfl, rfl, SqT.of ec, rfl, pv1, g1, rfl, dp1, fun b3 H3 hb3 s3 => ⟨_, rfl, ?_⟩⟩)⟩
      cases b3 with
      | false =>
        refine iteT ?_
        refine no H3 s3 fun ⟨t0, e, h, _⟩ => ?_
        have := hb3.mpr ⟨t0.1, (by injection e with e; injection e with e _), h⟩
        cases this
      | true =>
      refine iteF ?_
      obtain ⟨pl, rfl, cp⟩ := hb3.mp rfl
      refine ⟨_, rfl, .inr (.inl ⟨c, _, _, _, rfl, rfl, SqT.of (s3 _ _ ec), rfl, rv1, g2, rfl, Dn.mono s3 _ _ dr1, gt.item mem1, fun b5 H5 hb5 s5 => ⟨_, rfl, ?_⟩⟩)⟩
      cases b5 with
      | false =>
        refine iteT ?_
        refine iteT ?_
        refine no H5 (s3.trans s5) fun ⟨t0, e, _, h, _⟩ => ?_
        have := hb5.mpr ⟨t0.2, (by injection e with e; injection e with _ e; injection e with e _), h⟩
        cases this
      | true =>
      refine iteF ?_
      obtain ⟨r2, rfl, cr2⟩ := hb5.mp rfl
      have s35 := s3.trans s5
      refine ⟨_, rfl, .inr (.inl ⟨c, _, _, _, rfl, rfl, SqT.of (s35 _ _ ec), rfl, ?_⟩)⟩
      refine ⟨Nat.zero_le _, fun p5 hp5 => ⟨encR r2, .tuple [], tn_dp _ _ (encR_tn r2) (Dn.mono (s35.trans (snew hp5)) _ _ dr1), .tup (SqT.of upd_same) .nil, encR_shaped r2, rfl, _, rfl, ?_⟩⟩
      rw [eqv_nil_d (encR_tn r2)]
      have s6 := s35.trans (snew (o := .tup []) hp5)
      cases e6 : isNil (encR r2) with
      | true =>
        refine iteT ?_
        refine no _ s6 fun ⟨t0, e, _, _, h⟩ => ?_
        obtain rfl : (pl, r2) = t0 := encTl_inj (show encTl (pl, r2) = encTl t0 from e)
        exact h (nil_encR.mp e6)
      | false =>
      refine iteF ?_
      refine ⟨⟨_, rfl⟩, fun j hj d ed => ?_, s'.trans s6⟩
      by_cases cj : j = i
      · subst cj
        rw [et'] at ed
        cases ed
        exact ⟨(pl, r2), rfl, cp, cr2, fun z => by rw [nil_encR.mpr z] at e6; cases e6⟩
      · exact hall j (by omega) d ed
    · rintro σ H' ⟨⟨x1, rfl⟩, hall, s'⟩
      have hts : ∀ d ∈ es, ∃ t, d = encTl t ∧ CTl Lean_ t := fun d hd => by
        obtain ⟨j, hj, ej⟩ := List.mem_iff_getElem.mp hd
        exact hall j (by rw [rb.length]; exact hj) d (by rw [List.getElem?_eq_getElem hj, ej])
      obtain ⟨ts, rfl, ht⟩ := map_of hts
      rw [List.length_map] at ley
      have lys : ys.length = ts.length := by rw [rb.length, List.length_map]
      -- the poles
      refine ⟨_, rfl, .inr (.inl ⟨a, _, _, _, rfl, rfl, SqT.of (s' _ _ ea), rfl, b2, rfl, ⟨_, SqT.of (s' _ _ eb)⟩, fun D hD => lc_tup (K := K) (a := b2) (xs := ys) (fun i H2 => ∃ acc, H2 D = some (.lst acc) ∧ DnAll H acc ((ts.take i).map fun t => encPl t.1) ∧ Same H' H2)
        ⟨[], upd_same, .nil, snew hD⟩ (fun i H2 _ ⟨_, _, _, s2⟩ => SqT.of (s2 _ _ (s' _ _ eb))) ?_ ?_⟩)⟩
      · rintro i tv H2 htv ⟨acc, e1, e2', s2⟩
        obtain ⟨t, ax, p1, rv1, et', rfl, hax, _, dp1⟩ := dn_rows rb i tv htv
        have lacc : acc.length = (ts.take i).length := by rw [e2'.length, List.length_map]
        have il := (List.getElem?_eq_some_iff.mp et').1
        refine ⟨rfl, _, rfl, .inr (.inl ⟨ax, _, _, _, rfl, rfl, SqT.of (s2 _ _ (s' _ _ hax)), rfl, acc, e1, small_m (by rw [lacc, List.length_take]; omega), acc ++ [p1], upd_same, ?_, fun c o eo => ?_⟩)⟩
        · rw [List.take_add_one, et']
          show DnAll H (acc ++ [p1]) ((ts.take i ++ [t]).map fun t => encPl t.1)
          rw [List.map_append]
          exact DnAll.snoc e2' dp1
        · rw [upd_ne (ne_of_none eo hD)]; exact s2 _ _ eo
      · rintro H2 ⟨acc, e1, e2', s2⟩
        rw [lys, List.take_length] at e2'
        have lacc : acc.length = ts.length := by rw [e2'.length, List.length_map]
        have sH2 := s'.trans s2
        -- neighbours
        refine ⟨_, rfl, _, rfl, _, rfl, D, acc, rfl, SqL.of e1, fun p hp => ?_⟩
        rw [cut1']
        obtain ⟨H3, e3⟩ : ∃ H3, H3 = upd H2 p (.lst (acc.drop 1)) := ⟨_, rfl⟩
        have hD3 : H3 D = some (.lst acc) := by rw [e3]; exact snew hp _ _ e1
        have hp3 : H3 p = some (.lst (acc.drop 1)) := by rw [e3]; exact upd_same
        have s3 : Same H H3 := by rw [e3]; exact sH2.trans (snew hp)
        rw [← e3]
        refine ⟨D, p, acc, acc.drop 1, rfl, SqL.of hD3, SqL.of hp3, fun D2 hD2 => lc_it (walk_zip (xs := acc) (ys := acc.drop 1) rfl) (fun i H' => ∃ k, H' D2 = some (.lst ((ones k).map V.int)) ∧ k ≤ i ∧ (k = 0 ↔ ∀ j, j < i → ∀ s t, ts[j]? = some s → ts[j + 1]? = some t → before s.1 t.1) ∧ Same H3 H')
          ⟨0, upd_same, Nat.le_refl _, by simp, snew hD2⟩ (fun i H' _ ⟨_, _, _, _, s'⟩ => ⟨SqL.of (s' _ _ hD3), SqL.of (s' _ _ hp3)⟩) ?_ ?_⟩
        · rintro i x H' H'' hi ⟨n, f1, f2, f3, s''⟩ ⟨T', y1, y2, rfl, hT, rfl, q1, q2⟩
          have q2' : acc[i + 1]? = some y2 := by
            have z : (acc.drop 1)[i]? = some y2 := q2
            rw [List.getElem?_drop, Nat.add_comm] at z; exact z
          obtain ⟨t1, a1, et1, rfl, m1⟩ := dn_poles e2' i y1 q1
          obtain ⟨t2, a2, et2, rfl, m2⟩ := dn_poles e2' (i + 1) y2 q2'
          obtain ⟨w1, w2⟩ := tl_gd gy (List.mem_of_getElem? et1)
          obtain ⟨w3, w4⟩ := tl_gd gy (List.mem_of_getElem? et2)
          have st := (s3.trans s'').trans (snew (o := .tup [.ref a1, .ref a2]) hT)
          have il : i + 1 < ts.length := (List.getElem?_eq_some_iff.mp et2).1
          refine ⟨T', _, rfl, SqT.of upd_same, rfl, _, _, rfl, _, _, rfl, rfl, rfl, ?_⟩
          refine ⟨_, rfl, .inr (.inl ⟨a1, _, _, _, rfl, rfl, SqT.of (st _ _ m1), rfl, _, rfl, .inr (.inl ⟨a2, _, _, _, rfl, rfl, SqT.of (st _ _ m2), rfl, _, _, rfl, rfl, mulW w1 w4, ?_⟩)⟩)⟩
          refine ⟨_, rfl, .inr (.inl ⟨a2, _, _, _, rfl, rfl, SqT.of (st _ _ m2), rfl, _, rfl, .inr (.inl ⟨a1, _, _, _, rfl, rfl, SqT.of (st _ _ m1), rfl, _, _, rfl, rfl, mulW w3 w2, _, _, rfl, rfl, _, rfl, ?_⟩)⟩)⟩
          have f1' := snew (o := .tup [.ref a1, .ref a2]) hT _ _ f1
          refine ite_b (fun ec => ?_) (fun ec => ?_)
          · have ec' := of_decide_eq_true ec
            refine ⟨_, f1', by rw [ones_len]; exact small_m (by omega), n + 1, by rw [ones_succ, upd_same], by omega, none_step (p := fun j => ∀ s t, ts[j]? = some s → ts[j + 1]? = some t → before s.1 t.1) f3 ⟨fun z => by omega, fun z => ?_⟩, fun c o e => ?_⟩
            · have z2 : t1.1.1 * t2.1.2 < t2.1.1 * t1.1.2 := z.2 _ _ et1 et2
              omega
            · rw [upd_ne (ne_of_none e hD2)]; exact snew hT _ _ (s'' _ _ e)
          · have ec' := of_decide_eq_false ec
            refine ⟨n, f1', by omega, none_step (p := fun j => ∀ s t, ts[j]? = some s → ts[j + 1]? = some t → before s.1 t.1) f3 ⟨fun z => ⟨z, fun x y ex ey => by rw [et1] at ex; rw [et2] at ey; cases ex; cases ey; show t1.1.1 * t2.1.2 < t2.1.1 * t1.1.2; omega⟩, fun z => z.1⟩, s''.trans (snew hT)⟩
        · rintro H4 ⟨n, f1, f2, f3, s4⟩
          refine ⟨Nat.zero_le _, fun p4 hp4 => ⟨.list ((ones n).map PyData.int), .list [], .lst (SqL.of (snew hp4 _ _ f1)) (ints_dp _), .lst (SqL.of upd_same) .nil, ints_shaped _, nil_shaped, ?_⟩⟩
          rw [eqv_nil, ones_nil]
          refine k _ _ ?_ ((s3.trans s4).trans (snew hp4))
          rw [decide_eq_true_iff, f3]
          have en2 : min acc.length (acc.drop 1).length = ts.length - 1 := by rw [List.length_drop, lacc]; omega
          rw [en2]
          constructor
          · intro h
            refine ⟨(r, ts), rfl, cr, ht, fun i x y ex ey => h i ?_ x y ex ey⟩
            have : i + 1 < ts.length := (List.getElem?_eq_some_iff.mp ey).1
            omega
          · rintro ⟨q, e, _, h⟩ j _ x y ex ey
            obtain rfl : (r, ts) = q := encQ_inj (show encQ (r, ts) = encQ q from e)
            exact h.2 j x y ex ey
end
end N3

namespace PySem
namespace XtT
open Builtin PySem.AutoSeq1
theorem list_extend_tup (l : Addr) (items : Array Value) (n : Nat) (b : Addr) (items2 : Array Value) (n2 : Nat) (dd : Option Addr) (sl : Array (Option Value)) (hs0 : ¬(!items.isEmpty && Builtin.List.listTooLong (items.size + items2.size)) = true) (hs1 : items.size ≤ sizeLine) (hs2 : items.size + items2.size ≤ sizeLine + 1) :
    Meets (Builtin.«list.extend» ⟨[.ref l, .ref b], []⟩) (fun _ R s => s.heap.get? l = some { cls := .type "list", dict := none, data := .seq items n, slots := #[] } ∧ s.heap.get? b = some { cls := .type "tuple", dict := dd, data := .seq items2 n2, slots := sl } ∧ R (.ok (.ret Value.none)) { s with heap := s.heap.update l (Obj.mapSeq fun x => x ++ items2), toks := s.toks }) :=
  .of_wp fun prog w A R s h => by
    obtain ⟨hp, g, d, tk, os⟩ := s; obtain ⟨hl, hb, h⟩ := h; have f1 := idx_int; have f2 := sub_tuple_tuple; have f3 := sub_list_list; have f4 := sub_tuple_list; have f5 := sub_list_tuple;
    have hz' : (items ++ items2).size ≤ sizeLine + 1 := by rw [Array.size_append]; exact hs2
    wp_walk using (wpAny_updateSeq hl rfl (hz := hs1) (_hz' := hz')), wpAny_loadPart' hl, wpAny_loadPart' hb; exact ⟨_, rfl, h⟩
end XtT
end PySem
namespace L2
open PySem PySem.Spec PyProof.Rows
def rExtendT (K : PySem.W.Frag) : V → List V → Hp → VK → Prop := fun x vs H Q => ∃ l b xs zs, x = .ref l ∧ vs = [.ref b] ∧ H l = some (.lst xs) ∧ SqT K H b zs ∧ xs.length + zs.length ≤ sizeLine ∧ Q .non (upd H l (.lst (xs ++ zs)))
theorem mt_extendT {X : Cx} : MtM X "list.extend" (rExtendT X.K) := by
  intro pins s σ H x vs v us Q I rx rv h
  obtain ⟨l, b, xs, zs, rfl, rfl, hH, hB, hz, q⟩ := h
  cases rx
  obtain ⟨u, rfl, ru⟩ := rv.one
  cases ru
  obtain ⟨z, its, n, r, hl, e⟩ := I.lstM hH
  obtain ⟨its2, r2, ⟨⟨c2, dd, dt, sl⟩, e2, hc, n2, hd⟩, z2⟩ := I.tuple hB
  dsimp only at hc hd
  subst hc hd
  have hl2 := r2.length
  have hsz : its.toArray.size + its2.toArray.size ≤ sizeLine := by rw [List.size_toArray, List.size_toArray]; omega
  have hlong : ¬ (!its.toArray.isEmpty && Builtin.List.listTooLong (its.toArray.size + its2.toArray.size)) = true := by
    rw [notLongL hsz, Bool.and_false]
    exact Bool.false_ne_true
  refine call_meets F.slot_list_extend ⟨_, e, rfl⟩ F.entry_list_extend (F.args_list_extend_2 _ _)
    (PySem.XtT.list_extend_tup l its.toArray n b its2.toArray n2 dd sl hlong (by rw [List.size_toArray]; omega) (by omega)) ⟨e, e2, ?_⟩
  refine ⟨.non, _, I.lset (its' := its ++ its2) hH e (by simp) (r.append r2) ?_, rfl, q⟩
  rw [List.length_append]
  omega
end L2

namespace PySem
namespace Lm
open PySem.W PySem.Calls PyProof.Rows
section
variable {prog : Program} {w : World} {A : Around} {E : Value → Shared → Prop} {s : Shared}
/-- t[0] * n // t[1] for a local name t -/
abbrev keyB (x : Str) (n : Int) (k1 k2 k3 : Nat) (p1 p2 p3 p4 p5 p6 p7 p8 p9 : Pos) : Expr :=
  .BinOp (.BinOp (.Subscript (.Name x p1) (.Constant (.int 0) k1 p2) p3) .Mult (.Constant (.int n) k2 p4) p5) .FloorDiv (.Subscript (.Name x p6) (.Constant (.int 1) k3 p7) p8) p9
theorem key_eval {env : Env} {m : Str → Option Value} {t : Addr} {i j n : Int} {ti tj : Tok} {x : Str} {k1 k2 k3 : Nat} {p1 p2 p3 p4 p5 p6 p7 p8 p9 : Pos} {Q : Value → Shared → Prop} (hk : env.scope.kind = .function) (hl : env.kindOf x = some .local) (hd : (x == ("__debug__" : Str)) = false)
    (hn : s.heap.Ns env.locals m) (hm : m x = some (.ref t)) (ht : PyProof.Rows.IsTup s.heap t #[.int i ti, .int j tj]) (hmul : IntMulOk i n) (hj : j ≠ 0) (hdiv : Builtin.divisionGoesByPylong (i * n) j = false) (h : ∀ tk tok, Q (.int ((i * n).fdiv j) tok) { s with toks := tk }) :
    wpAny (model prog w) A (eval (keyB x n k1 k2 k3 p1 p2 p3 p4 p5 p6 p7 p8 p9) env) Q E s := by
  refine wpAny_BinOp (wpAny_BinOp (Subscript_ (wpAny_Name (wpAny_loadName_local hk hl hn hm (wpAny_Constant_int ?_)) hd)))
  refine subscriptTail_builtinR (T := "tuple") (x := .int i ti) (PyProof.Rows.IsTup.typeIs ht) slot_tuple_getitem.lookup (PyProof.Rows.getItem_tuple (j := 0) ht (by decide) (by decide) (by rfl) (by rfl) ⟨rfl, ?_⟩) (by with_unfolding_all rfl)
  refine wpAny_Constant_int ?_
  refine mul_int ?_ hmul
  refine Subscript_ (wpAny_Name (wpAny_loadName_local hk hl hn hm (wpAny_Constant_int ?_)) hd)
  refine subscriptTail_builtinR (T := "tuple") (x := .int j tj) (PyProof.Rows.IsTup.typeIs ht) slot_tuple_getitem.lookup (PyProof.Rows.getItem_tuple (j := 1) ht (by decide) (by decide) (by rfl) (by rfl) ⟨rfl, ?_⟩) (by with_unfolding_all rfl)
  exact floordiv_int hj (h _ _) (.inl hdiv)
/-- such a lambda is called: what was there stays, the int is told -/
theorem lam_call {f c' t : Addr} {q : Str} {params : Arguments} {scope : Scope} {pm ctv : Value} {i j n : Int} {ti tj : Tok} {x : Str} {k1 k2 k3 : Nat} {p1 p2 p3 p4 p5 p6 p7 p8 p9 : Pos} (hroom : A.depth < recursionLimit)
    (hf : s.heap.get? f = some (kla_obj "<lambda>" q params (keyB x n k1 k2 k3 p1 p2 p3 p4 p5 p6 p7 p8 p9) scope [] pm c' ctv)) (hc : s.heap.CodeRec (.ref c') q) (lim : s.heap.NoLimit) (kd : scope.kind = .function) (co : scope.isCoroutine = false) (gn : scope.isGenerator = false)
    (hl : scope.names.lookup x = some .local) (hd : (x == ("__debug__" : Str)) = false) (hb : bindArgs (kla_fn "<lambda>" q params (keyB x n k1 k2 k3 p1 p2 p3 p4 p5 p6 p7 p8 p9) scope [] pm (.ref c') ctv) ⟨[.ref t], []⟩ = pure [(x, .ref t)])
    (ht : PyProof.Rows.IsTup s.heap t #[.int i ti, .int j tj]) (hmul : IntMulOk i n) (hj : j ≠ 0) (hdiv : Builtin.divisionGoesByPylong (i * n) j = false) :
    wpAny (model prog w) A (call (.ref f) [.ref t]) (KeyPure (.int ((i * n).fdiv j)) s) (fun _ _ => False) s := by
  have go : codeAny (model prog w) A (.call (.ref f) ⟨[.ref t], []⟩) (fun r s' => ∃ u, r = .ok (.ret u) ∧ KeyPure (.int ((i * n).fdiv j)) s u s') s := by
    refine kla_callFunE hroom hf rfl co gn rfl hc ?_
    rw [hb]
    refine wpAny_pure (wpAny_newFunctionEnv_cells kd (fun y hy => ?_) fun env he s1 z => ?_)
    · rw [List.mem_singleton.mp hy]
      exact .inl hl
    · subst he
      refine ⟨lim.keeps z.toInCall.keep, ?_⟩
      obtain ⟨h1, tk, rfl, hk⟩ := z.done
      refine kla_codeExpr ?_
      have hm : bindL (newEnv scope s.heap.objs.size mainGlobals (cellsFrom (s.heap.objs.size + 1) scope.names []) (q ++ ".<locals>.") (some f) (.ref c') none builtinsNs).kindOf [(x, Value.ref t)] (fun _ => none) x = some (.ref t) :=
        L2.bindL_get (P := [x]) (vs := [.ref t]) (i := 0) (by simp) rfl rfl hl
      refine key_eval kd hl hd z.toInCall.ns hm (PyProof.Rows.IsTup.keeps ht hk) hmul hj hdiv fun tk2 tok => ?_
      exact ⟨_, rfl, h1, tk2, rfl, hk, Reads.int _ _⟩
  refine wpAny_call (codeAny_mono go fun r s' hq => ?_)
  obtain ⟨u, rfl, kp⟩ := hq
  exact kp
end
end Lm
end PySem

/-! sorted(d, key=lambda t: t[0] * n // t[1]) for a dict d with pairs of ints as keys -/
namespace LamX
open PySem PySem.Spec PyProof.Rows L2 PySem.W
/-- the key of an entry -/
def keyQ (n : Int) (g : List L2.Key → Int × Int) (k : List L2.Key) : Int := ((g k).1 * n).fdiv (g k).2
def KeyFit (n : Int) (g : List L2.Key → Int × Int) (k : List L2.Key) : Prop := k = [.inl (g k).1, .inl (g k).2] ∧ IntMulOk (g k).1 n ∧ (g k).2 ≠ 0 ∧ Builtin.divisionGoesByPylong ((g k).1 * n) (g k).2 = false
def tSorted (T : List (Addr × Str)) (i : Nat) (n : Int) : TE := fun σ H Q => ∃ (d : Addr) (kvs : List (List L2.Key × V)) (g : List L2.Key → Int × Int), σ[i]? = some (some (.ref d)) ∧ H d = some (.dT kvs) ∧ Tabs T H ∧ (∀ p ∈ kvs, KeyFit n g p.1) ∧
  ∀ (H1 : Hp) (l : Addr) (zs : List ((List L2.Key × V) × Addr)), ExtN H H1 → Tabs T H1 → H1 l = none → (zs.map (·.1)).Perm kvs → zs.Pairwise (fun x y => keyQ n g x.1.1 ≤ keyQ n g y.1.1) →
    (∀ z ∈ zs, H1 z.2 = some (.tup (z.1.1.map kV))) → Q (.ref l) (upd H1 l (.lst (zs.map fun z => V.ref z.2)))
theorem eachIs_get {α β : Type} {R : α → β → Prop} : ∀ {xs : List α} {ys : List β}, xs.length = ys.length → (∀ (j : Nat) (x : α) (y : β), xs[j]? = some x → ys[j]? = some y → R x y) → EachIs R xs ys
  | [], [], _, _ => .nil
  | [], _ :: _, h, _ => by simp at h
  | _ :: _, [], h, _ => by simp at h
  | x :: xs, y :: ys, h, g => .cons (g 0 x y rfl rfl) (eachIs_get (by simpa using h) fun j a b h1 h2 => g (j + 1) a b (by simpa using h1) (by simpa using h2))
theorem vals_each {ω : Type} (f : ω → Addr) : ∀ {vs : List Value} {zs : List ω}, EachIs (fun v z => v = Value.ref (f z)) vs zs → Vals (zs.map fun z => V.ref (f z)) vs
  | _, _, .nil => .nil
  | _, _, .cons h t => by
    subst h
    exact .cons rfl (vals_each f t)
theorem pget0 {α β : Type} {F : α → β → Prop} : ∀ {l₁ : List α} {l₂ : List β} {j : Nat} {x : β}, Paired F l₁ l₂ → l₂[j]? = some x → ∃ y, l₁[j]? = some y ∧ F y x
  | _, _, j, x, Paired.nil, h => by simp at h
  | _, _, 0, x, Paired.cons (a := y) f _, h => by
    simp only [List.getElem?_cons_zero] at h
    cases h
    exact ⟨y, rfl, f⟩
  | _, _, j + 1, x, Paired.cons _ t, h => by
    rw [List.getElem?_cons_succ] at h
    obtain ⟨y, h1, h2⟩ := pget0 (j := j) t h
    exact ⟨y, by rw [List.getElem?_cons_succ]; exact h1, h2⟩
section
variable {X : Cx}
theorem pe_sortedKT {T : List (Addr × Str)} {k i : Nat} {c P : Addr} {params : Arguments} {scope : Scope} {x y : Str} {n : Int} {k1 k2 k3 : Nat} {p1 p2 p3 p4 p5 p6 p7 p8 p9 p q kp lpos pos : Pos} (hr : Room k X.A) (hg : Gl X "sorted") (hm : X.mg "sorted" = none)
    (hN : X.N[i]? = some x) (hv : Vis X.env.scope x) (TB : TabB X.base X.mg c P) (hcode : X.env.code = .ref c) (hmT : (P, X.env.qual ++ "<lambda>") ∈ T) (hu : ∀ p ∈ T, p.1 = P → p.2 = X.env.qual ++ "<lambda>") (hdef : defaultsOf params X.env = ([], []))
    (hfree : ∀ y ∈ scope.names, y.2 ≠ .free) (kd : scope.kind = .function) (co : scope.isCoroutine = false) (gn : scope.isGenerator = false) (hl : scope.names.lookup y = some .local) (hclo : cloFrom X.env.cells scope.names [] = [])
    (hbind : ∀ (q : Str) (pm cv ctv : Value) (t : Addr), bindArgs (PySem.W.kla_fn "<lambda>" q params (PySem.Lm.keyB y n k1 k2 k3 p1 p2 p3 p4 p5 p6 p7 p8 p9) scope [] pm cv ctv) ⟨[.ref t], []⟩ = pure [(y, .ref t)])
    (hd : (x == ("__debug__" : Str)) = false := by decide) (hcd : (x == ("__classdict__" : Str)) = false := by decide) (hdy : (y == ("__debug__" : Str)) = false := by decide) :
    PE X (.Call (.Name "sorted" p) [.Name x q] [⟨some "key", .Lambda params (PySem.Lm.keyB y n k1 k2 k3 p1 p2 p3 p4 p5 p6 p7 p8 p9) scope lpos, kp⟩] pos) (tSorted T i n) := by
  refine ⟨fun pins s σ H Q I h => ?_⟩
  obtain ⟨d, kvs, g, hs, hdd, hT, hfit, hq⟩ := h
  refine wpAny_Call_Name_kw (ld_blt I hg hm rfl ?_)
  refine callWith_kw (e := .Name x q) (rest := []) (kws := [⟨some "key", .Lambda params (PySem.Lm.keyB y n k1 k2 k3 p1 p2 p3 p4 p5 p6 p7 p8 p9) scope lpos, kp⟩]) ?_
  show wpAny _ _ (spliced ((false, eval (.Name x q) X.env) :: backTo pos (starEach [] X.env))) _ _ s
  refine Calls.spliced_cons (thn ((pe_var (pos := q) (i := i) hN hv hd hcd).run pins s σ H (fun v H1 => v = .ref d ∧ H1 = H) I ⟨.ref d, hs, rfl, rfl⟩) fun u s1 ⟨v, H1, I1, r1, e1, e2⟩ => ?_)
  subst e1
  rw [e2] at I1
  obtain rfl : u = Value.ref d := r1
  refine Calls.spliced_nil ?_
  refine kws_cons (lam_make2 I1 TB hcode hmT hu hT hdef (fun y hy e => absurd e (hfree y hy)) fun f c' pm ctv H2 s2 I2 eN T2 hf hfn hfr hco => kws_nil ?_)
  show wpAny (model X.prog X.w) X.A (call (.builtin "sorted") [.ref d] [(Str.ofString "key", .ref f)]) _ _ s2
  have hd2 : H2 d = some (.dT kvs) := eN d _ hdd (fun ps z => nomatch z)
  obtain ⟨z, hsm, ks, pr, o, es, ep, ho, hx, hdt, he, hn⟩ := (show ObjOk X.prog X.w H2 s2.heap d (.dT kvs) from I2.hok d _ hd2)
  have l1 : es.size = ks.length := size_of_entries he
  have l2 : kvs.length = ks.length := Paired.length pr
  have hh : X.A.handled = none := hr.hd
  refine call_function_entry_kw kind_sorted plain_sorted entry_sorted (ksk_s1 _ _) ?_
  unfold Builtin.«sorted»
  refine wpAny_bind (m := checkCount "sorted" 1 1 _) (wpAny_pure ?_)
  refine wpAny_bind (kdu_collect (A := X.A.in1) (kdl_raw hsm hx hdt) hh ho (by omega) fun h' tk acc kp' it => ?_)
  have ea : acc.toList = ks.map fun x => Value.ref x.2.1 := by
    have hl : acc.toList.length = ks.length := by rw [Array.length_toList, it.1]; exact l1
    apply List.ext_getElem?
    intro j
    rw [List.getElem?_map]
    cases hj : acc.toList[j]? with
    | none =>
      have h1 := List.getElem?_eq_none_iff.mp hj
      rw [List.getElem?_eq_none (by omega)]
      all_goals rfl
    | some v =>
      obtain ⟨en, hen, hv⟩ := it.2 j v (by rw [← Array.getElem?_toList]; exact hj)
      have qe := entry_at he j
      rw [hen] at qe
      cases hb : ks[j]? with
      | none =>
        rw [hb] at qe
        exact nomatch (show some en = none from qe)
      | some b =>
        rw [hb] at qe
        have e2 : en = entryOfKey (tupleKind (mixKind X.prog X.w)) b := Option.some.inj qe
        rw [hv, e2]
        all_goals rfl
  have la : acc.toList.length = kvs.length := by rw [ea, List.length_map]; exact l2.symm
  refine wpAny_bind (wpAny_newList ?_ (by rw [la]; omega))
  refine wpAny_bind (wpAny_holding ?_)
  have hob : (h'.push { cls := .type "list", data := .seq acc.toList.toArray }).get? h'.objs.size = some (seqObj "list" acc.toList.toArray 0) := Heap.get?_push_size _ rfl
  have kb : ∀ b o, s2.heap.get? b = some o → (h'.push { cls := .type "list", data := .seq acc.toList.toArray }).get? b = some o := fun b o e => Heap.get?_push_of_some _ (kp' b o e)
  have old : s2.heap.get? h'.objs.size = none := by
    cases e : s2.heap.get? h'.objs.size with
    | none => rfl
    | some o => exact absurd (Heap.lt_size (kp' _ _ e)) (Nat.lt_irrefl _)
  have hn0 : H2 h'.objs.size = none := I2.hok.gone old
  have nsz : ∀ b o, s2.heap.get? b = some o → b ≠ h'.objs.size := fun b o e q => by rw [q, old] at e; cases e
  generalize hh2 : h'.push { cls := .type "list", data := .seq acc.toList.toArray } = h2 at hob kb ⊢
  have pget : ∀ (j : Nat) (v : Value) (e : (List L2.Key × V) × Addr), acc.toList[j]? = some v → (kvs.zip (ks.map fun x => x.2.1))[j]? = some e → v = .ref e.2 ∧ e.1 ∈ kvs ∧ H2 e.2 = some (.tup (e.1.1.map kV)) := by
    intro j v e hv he'
    obtain ⟨h1, h3⟩ := List.getElem?_zip_eq_some.mp he'
    rw [List.getElem?_map] at h3
    cases hb : ks[j]? with
    | none => rw [hb] at h3; exact nomatch (show (none : Option Addr) = some e.2 from h3)
    | some b =>
      rw [hb] at h3
      have e3 : b.2.1 = e.2 := Option.some.inj h3
      rw [ea, List.getElem?_map, hb] at hv
      have e4 : Value.ref b.2.1 = v := Option.some.inj hv
      obtain ⟨p0, hp0, r1, r2, r3⟩ := pget0 pr hb
      rw [h1] at hp0
      cases hp0
      exact ⟨by rw [← e4, e3], List.mem_of_getElem? h1, by rw [← e3]; exact r2⟩
  have lz : (kvs.zip (ks.map fun x => x.2.1)).length = kvs.length := by rw [List.length_zip, List.length_map, ← l2, Nat.min_self]
  have each : EachIs (fun (v : Value) (e : (List L2.Key × V) × Addr) => v = .ref e.2 ∧ e.1 ∈ kvs ∧ H2 e.2 = some (.tup (e.1.1.map kV))) acc.toList (kvs.zip (ks.map fun x => x.2.1)) := eachIs_get (by rw [la, lz]) pget
  have hdpth : X.A.in1.in1.depth < recursionLimit := by
    have := hr.dp
    show X.A.depth < _
    omega
  have hun := hr.un
  refine list_sort_key_data (A := X.A.in1) (s := { s2 with heap := h2, toks := tk }) (a := h'.objs.size) (n := 0) (f := .ref f) (b := false) (fun e : (List L2.Key × V) × Addr => PyData.int (keyQ n g e.1.1)) hob each
    (AllAlike.of fun _ _ => rfl) (Sortable.others fun _ => ⟨by simp, by simp⟩) (by rw [lz]; omega) (fun e he => ?_) (ksk_l1 _ _) (ksk_t1 _ _) (fun v e hR hmem h3 tk3 kp3 => ?_) (fun out cc h3 tk3 kp3 hD hlen hE => ?_)
  · show X.A.units + 1 + 1 + 0 < cLine
    omega
  · obtain ⟨rfl, hk, ht⟩ := hR
    obtain ⟨f1, f2, f3, f4⟩ := hfit e.1 hk
    have kk : ∀ b o, s2.heap.get? b = some o → h3.get? b = some o := fun b o e => kp3 b o (nsz b o e) (kb b o e)
    obtain ⟨⟨oc, vs, t, hoc, hdc, hvc⟩, _, _⟩ := I2.hok c' _ hco
    obtain ⟨_, its, rv, ot, hot, hct, nt, hdt'⟩ := (show ObjOk X.prog X.w H2 s2.heap e.2 (.tup (e.1.1.map kV)) from I2.hok _ _ ht)
    rw [f1] at rv
    cases rv with
    | cons ra rb =>
      cases rb with
      | cons rc rd =>
        cases rd
        obtain ⟨t1, rfl⟩ := ra
        obtain ⟨t2, rfl⟩ := rc
        refine PySem.Lm.lam_call (s := { s2 with heap := h3, toks := tk3 }) (c' := c') (q := X.env.qual ++ "<lambda>") hdpth (by rw [← hclo]; exact kk _ _ hf) ⟨c', oc, vs, t, rfl, kk _ _ hoc, hdc, hvc⟩ (I2.nolimit.keeps kk) kd co gn hl hdy (hbind _ _ _ _ _) ⟨ot, kk _ _ hot, hct, nt, hdt'⟩ f2 f3 f4
  · refine wpAny_pure ⟨_, rfl, ?_⟩
    rw [dataLe_int (fun e : (List L2.Key × V) × Addr => keyQ n g e.1.1)] at hE
    generalize hzs : (kvs.zip (ks.map fun x => x.2.1)).mergeSort (fun a b => decide (keyQ n g a.1.1 ≤ keyQ n g b.1.1)) = zs at hE
    have hperm : zs.Perm (kvs.zip (ks.map fun x => x.2.1)) := by rw [← hzs]; exact List.mergeSort_perm _ _
    have hsort : zs.Pairwise (fun a b => keyQ n g a.1.1 ≤ keyQ n g b.1.1) := by
      have q := List.pairwise_mergeSort (le := fun a b : (List L2.Key × V) × Addr => decide (keyQ n g a.1.1 ≤ keyQ n g b.1.1)) (fun a b c h1 h2 => by simp only [decide_eq_true_eq] at *; omega) (fun a b => by simp only [Bool.or_eq_true, decide_eq_true_eq]; omega) (kvs.zip (ks.map fun x => x.2.1))
      rw [hzs] at q
      exact q.imp fun h => of_decide_eq_true h
    have m1 : (kvs.zip (ks.map fun x => x.2.1)).map (·.1) = kvs := List.map_fst_zip (by rw [List.length_map]; omega)
    have kk : ∀ b o, s2.heap.get? b = some o → h3.get? b = some o := fun b o e => kp3 b o (nsz b o e) (kb b o e)
    have rv : Vals (zs.map fun z => V.ref z.2) out := vals_each (·.2) (hE.mono fun v z q => q.1)
    refine ⟨.ref h'.objs.size, _, I2.laidN (t' := tk3) (o := .lst (zs.map fun z => V.ref z.2)) kk old hn0 ?_, rfl, hq H2 h'.objs.size zs eN T2 hn0 ?_ hsort fun z hz => ?_⟩
    · have hz : (zs.map fun z => V.ref z.2).length ≤ sizeLine := by rw [List.length_map, hperm.length_eq, lz]; omega
      exact ⟨hz, out, cc, rv, hD⟩
    · have q := hperm.map (·.1)
      rw [m1] at q
      exact q
    · obtain ⟨j, hj⟩ := List.mem_iff_getElem?.mp (hperm.mem_iff.mp hz)
      have hj' := (List.getElem?_eq_some_iff.mp hj).1
      have hlt : j < acc.toList.length := by rw [la]; rw [lz] at hj'; exact hj'
      exact (pget j _ z (List.getElem?_eq_getElem hlt) hj).2.2
end
end LamX

/-! the head of a law whose def nm makes a lambda: the table of nm's code object is tracked, empty at first -/
namespace L2
open PySem PySem.Spec PyProof.Rows LamX
theorem idle_lawT {P : Program} {w : World} {K : PySem.W.Frag} {mg mb : Str → Option Value} {k : Nat} {fa a c T : Addr} {fd : FuncData} {x : Str} {sp : Sp} {s1 : Shared} {vs : List Value} {ns : List Int}
    (inK : K.In s1.heap) (hn : s1.heap.Ns mainGlobals mg) (hb : s1.heap.Ns builtinsNs mb) (hm : ∀ y : Str, y ≠ "__name__" → mb y = bootBuiltins y) (lim : s1.heap.NoLimit) (hg : s1.gens = #[])
    (hT : s1.heap.get? T = some { cls := .none, data := .fields #[] }) (nT : K.lookup T = none) (C : PySem.W.CodeHd s1.heap c T)
    (hbm : ∃ (bm : Addr) (ob : Obj), mg "__builtins__" = some (.ref bm) ∧ bm ≠ builtinsNs ∧ s1.heap.get? bm = some ob ∧ ob.cls = .type "module" ∧ ob.dict = some builtinsNs ∧ ob.data = .plain)
    (sc : s1.heap.get? a = some { cls := .type "list", data := .seq vs.toArray }) (hi : IntsAre vs ns) (small : ns.length ≤ sizeLine) (room : Room k callerA)
    (mods : ∃ mm, s1.heap.Ns sysModules mm)
    (F : ∀ base : Heap, K.In base → base.Ns mainGlobals mg → Sy base → TabB base mg c T → FnG P w K mg base k fa fd [x] sp) (bnd : ∀ (s : Shared) (u : Value), BindsTo s fd ⟨[u], []⟩ [(x, u)])
    (prom : ∀ H : Hp, H T = some (.tbl #[]) → SqL K H a (ns.map V.int) → sp [.ref a] H (fun v _ => v = .bl true) E0) :
    codeAny (model P w) callerA (.call (.ref fa) ⟨[.ref a], []⟩) (fun r s' => r = .ok (.ret (.bool true)) ∧ OldK s1.heap s'.heap ∧ s'.os = s1.os ∧ AllBare s'.gens) s1 := by
  have rv := vals_ints hi
  have lv := hi.length
  have aT : a ≠ T := fun z => by
    rw [z, hT] at sc
    have z' : Data.fields #[] = Data.seq vs.toArray _ := congrArg Obj.data (Option.some.inj sc)
    cases z'
  have main : ∀ H : Hp, H T = some (.tbl #[]) → (∀ b, H b = none ∨ b = T ∨ ∃ o xs, H b = some (.frz o (.lst xs))) → SqL K H a (ns.map V.int) → HOk P w H s1.heap → (∀ b, H b ≠ none → b = a ∨ b = T) → (H a ≠ none → K.lookup a = none) →
      codeAny (model P w) callerA (.call (.ref fa) ⟨[.ref a], []⟩) (fun r s' => r = .ok (.ret (.bool true)) ∧ OldK s1.heap s'.heap ∧ s'.os = s1.os ∧ AllBare s'.gens) s1 := by
    intro H hH only sq hok just none_a
    have noD : ∀ {b : Addr} {o : Obj}, s1.heap.get? b = some o → (∀ vs n, o.data ≠ .seq vs n) → o.data ≠ .fields #[] → H b = none := fun {b o} e h1 h2 => by
      cases q : H b with
      | none => rfl
      | some u =>
        rcases just b (by rw [q]; simp) with e' | e'
        · rw [e', sc] at e
          cases e
          exact (h1 _ _ rfl).elim
        · rw [e', hT] at e
          cases e
          exact (h2 rfl).elim
    have noA : ∀ {b : Addr} {o : Obj} {es : Array DictEntry} {ep : Nat}, s1.heap.get? b = some o → o.data = .dict es ep → H b = none := fun {b o es ep} e d => by
      refine noD e (fun vs n z => ?_) fun z => ?_
      · rw [d] at z
        cases z
      · rw [d] at z
        cases z
    have ns_of : ∀ {b : Addr} {m : Str → Option Value}, s1.heap.Ns b m → (hidT s1.heap H).Ns b m := fun {b m} ⟨o, es, ep, e, d, r⟩ => ⟨o, es, ep, hidT_get e (noA e d), d, r⟩
    have k_of : K.In (hidT s1.heap H) := by
      intro b o e
      refine hidT_get (inK b o e) ?_
      cases q : H b with
      | none => rfl
      | some u =>
        rcases just b (by rw [q]; simp) with e' | e'
        · subst e'
          rw [none_a (by rw [q]; simp)] at e
          cases e
        · rw [e', nT] at e
          cases e
    have md : Mod K mg (hidT s1.heap H) := by
      obtain ⟨mc, l1, l2⟩ := lim
      exact ⟨k_of, ns_of hn, ⟨mb, ns_of hb, hm⟩, ⟨mc, ns_of l1, l2⟩⟩
    have TB : TabB (hidT s1.heap H) mg c T := by
      refine ⟨?_, ?_, fun z => ?_⟩
      · obtain ⟨o, us, file, tf, flags, tg, inF, text, tt, e1, r1, r2, r3, r4, r5, r6, r7, r8, hne⟩ := C
        refine ⟨o, us, file, tf, flags, tg, inF, text, tt, hidT_get e1 (noD e1 (fun vs n z => ?_) fun z => ?_), r1, r2, r3, r4, r5, r6, r7, r8, hne⟩
        · rw [r2] at z
          cases z
        · rw [r2] at z
          cases z
          simp at r3
      · obtain ⟨bm, ob, b1, b2, b3, b4, b5, b6⟩ := hbm
        have nG : bm ≠ mainGlobals := fun q => by
          obtain ⟨o, es, ep, e, hd, _⟩ := hn
          rw [q, e] at b3
          cases b3
          rw [hd] at b6
          cases b6
        have nP : bm ≠ T := fun q => by
          rw [q, hT] at b3
          cases b3
          cases b6
        refine ⟨bm, ob, b1, b2, nG, nP, hidT_get b3 (noD b3 (fun vs n z => ?_) fun z => ?_), b4, b5, b6⟩
        · rw [b6] at z
          cases z
        · rw [b6] at z
          cases z
      · obtain ⟨o, es, ep, e, hd, _⟩ := hn
        rw [z, hT] at e
        cases e
        cases hd
    have e0 : Env0 P w K mg (hidT s1.heap H) callerA [] s1 H :=
      { frames := rfl, mod := md, bs := fun b o e => of_hidT e, bsz := Nat.le_of_eq (hidT_size _ _), funs := trivial, frf := fun b hb => (List.not_mem_nil (show b ∈ ([] : List Addr) from hb)).elim, hok := hok, bare := .of_eq hg }
    have sy : Sy (hidT s1.heap H) := by
      obtain ⟨mm, hm⟩ := mods
      obtain ⟨o, es, ep, e, _⟩ := ns_of hm
      exact ⟨o, e⟩
    have go := (F _ k_of (ns_of hn) sy TB).run callerA [] s1 H ⟨[.ref a], []⟩ [.ref a] [.ref a] _ room rfl e0 (bnd s1 (.ref a)) (.cons rfl .nil) (prom H hH sq)
    refine codeAny_mono go fun r s' out => ?_
    cases r with
    | error e => exact False.elim out
    | ok fl =>
      cases fl with
      | next => exact False.elim out
      | brk => exact False.elim out
      | cont => exact False.elim out
      | ret u =>
        obtain ⟨v, H', os, bare, un, hok', rel, ev⟩ := out
        cases (show v = .bl true from ev)
        cases (show u = Value.bool true from rel)
        have key : ∀ b o, b ≠ T → s1.heap.get? b = some o → s'.heap.get? b = some o := fun b o nb e => by
          cases q : H b with
          | none => exact un.keep b o e q (fun z => List.not_mem_nil (show b ∈ ([] : List Addr) from z)) (by simp)
          | some u =>
            rcases only b with z | z | ⟨ob, xs, z⟩
            · rw [q] at z; cases z
            · exact absurd z nb
            · obtain ⟨e1, _⟩ := hok b _ z
              obtain ⟨e2, _⟩ := hok' b _ (un.frzs b ob _ z)
              rw [e] at e1; cases e1
              exact e2
        obtain ⟨more, hmore⟩ : ∃ more : Array Value, s'.heap.get? T = some { cls := .none, data := .fields more } := by
          obtain ⟨more, z⟩ := un.tbls T #[] hH
          exact ⟨_, hok' T _ z⟩
        refine ⟨rfl, ⟨fun b o e => ?_, fun b o e => ?_⟩, os, bare⟩
        · by_cases hb : b = T
          · rw [hb] at e ⊢
            rw [hT] at e
            cases e
            exact .inr (.inl ⟨(C.tab hT).isCodeTable, rfl, #[], more, rfl, by rw [Array.empty_append]; exact hmore⟩)
          · exact .inl (key b o hb e)
        · by_cases hb : b = T
          · rw [hb]
            exact ⟨_, hmore⟩
          · exact ⟨o, key b o hb e⟩
  cases hk : K.lookup a with
  | some o =>
    have e := inK a o hk
    rw [sc] at e
    cases e
    refine main (fun b => if b = T then some (.tbl #[]) else none) (if_pos rfl) (fun b => ?_) (.inr ⟨_, vs.toArray, _, hk, rfl, rfl, rfl, by rw [List.size_toArray, lv]; exact small, by simpa using rv⟩) (fun b u z => ?_) (fun b z => ?_) fun z => absurd (show (if a = T then some (HO.tbl #[]) else none) = none from if_neg aT) z
    · by_cases hb : b = T
      · exact .inr (.inl hb)
      · exact .inl (if_neg hb)
    · by_cases hb : b = T
      · have z' := (if_pos hb).symm.trans z
        cases z'
        rw [hb]
        exact hT
      · have z' := (if_neg hb).symm.trans z
        cases z'
    · by_cases hb : b = T
      · exact .inr hb
      · exact absurd (if_neg hb) z
  | none =>
    refine main (fun b => if b = a then some (.frz { cls := .type "list", data := .seq vs.toArray } (.lst (ns.map V.int))) else if b = T then some (.tbl #[]) else none) ((if_neg (Ne.symm aT)).trans (if_pos rfl)) (fun b => ?_)
      (.inl (.inr ⟨{ cls := .type "list", data := .seq vs.toArray }, if_pos rfl⟩)) (fun b u z => ?_) (fun b z => ?_) fun _ => hk
    · by_cases hb : b = a
      · exact .inr (.inr ⟨_, _, if_pos hb⟩)
      · by_cases hb2 : b = T
        · exact .inr (.inl hb2)
        · exact .inl ((if_neg hb).trans (if_neg hb2))
    · by_cases hb : b = a
      · have z' := (if_pos hb).symm.trans z
        cases z'
        rw [hb]
        exact ⟨sc, by rw [List.length_map]; exact small, vs, _, rv, sc⟩
      · have z1 := (if_neg hb).symm.trans z
        by_cases hb2 : b = T
        · have z' := (if_pos hb2).symm.trans z1
          cases z'
          rw [hb2]
          exact hT
        · have z' := (if_neg hb2).symm.trans z1
          cases z'
    · by_cases hb : b = a
      · exact .inl hb
      · by_cases hb2 : b = T
        · exact .inr hb2
        · exact absurd ((if_neg hb).trans (if_neg hb2)) z
/-- the table of the code object of the def nm -/
def tabOf (K : PySem.W.Frag) (nm : Str) : Addr := ((PySem.W.tabIn K nm).getD (0, 0)).2
theorem walk_idleT {l : PySem.W.OpenLaw} {n k : Nat} {q : Program} {loose : List Str} {XP : (Str → Option Value) → Heap → Prop} {YP : World → Heap → Prop} {d : DefRec} {K : Params → PySem.W.Frag} {sp : World → Sp} {x : Str} (nm : Str)
    (hn : l.most = some n) (small : n ≤ sizeLine) (hd : d.params.defaults = []) (hq : importsNone q = true) (room : Room k callerA) (hY : ∀ (w : World) (h : Heap), YP w h → (K w.params).In h)
    (hrec : ((recsOf q).find? (fun e => e.name == nm)).isSome = true)
    (F : ∀ (w : World) (mg : Str → Option Value) (fa : Addr) (h : Heap), (K w.params).In h → h.Ns mainGlobals mg → mg d.name = some (.ref fa) →
      ∃ (fd : FuncData) (c : Addr), (PySem.W.tabIn (K w.params) nm = some (c, tabOf (K w.params) nm) ∧ (K w.params).lookup (tabOf (K w.params) nm) = none) ∧ (∀ (s : Shared) (u : Value), BindsTo s fd ⟨[u], []⟩ [(x, u)]) ∧
        ∀ base : Heap, (K w.params).In base → base.Ns mainGlobals mg → Sy base → TabB base mg c (tabOf (K w.params) nm) → FnG l.prog w (K w.params) mg base k fa fd [x] (sp w))
    (prom : ∀ (w : World) (H : Hp) (a : Addr) (ns : List Int), ns.length ≤ n → H (tabOf (K w.params) nm) = some (.tbl #[]) → SqL (K w.params) H a (ns.map V.int) → sp w [.ref a] H (fun v _ => v = .bl true) E0) :
    PySem.W.WalkO q loose XP YP l.row.toRowW d [] (fun f vs => PySem.call f vs) := by
  refine Att.attach_call hn hd fun w s0 s1 mg mb fa o pm cd doc a vs ns G Y ho hd hcd hmg hobj hints hlen hg => ?_
  have inK := hY w _ Y
  obtain ⟨fd, c, ⟨ht, nT⟩, hb, hF⟩ := F w mg fa _ inK G.T.g hmg
  obtain ⟨d', hr⟩ := Option.isSome_iff_exists.mp hrec
  obtain ⟨C, hT⟩ := PySem.W.tab_of G.T inK hr ht
  exact idle_lawT inK G.T.g G.T.b G.T.builtins G.T.nolimit hg hT nT C G.T.bmain hobj hints (Nat.le_trans hlen small) room (let ⟨mm, h1, _⟩ := (G.T.seer hq).mods; ⟨mm, h1⟩) hF hb (fun H hH hS => prom w H a ns hlen hH hS)
end L2

namespace N3
open PySem PySem.Spec PyProof.Rows L2 N2
/-- all numbers of a quotient -/
def allN (q : Qt) : List Nm := (rowsOf q).flatten
def spNumbers : Sp := fun vs H Q _ => ∃ (v : V) (q : Qt), vs = [v] ∧ Dn H v (encQ q) ∧ (allN q).length ≤ 1000000 ∧ ∀ (l : Addr) (acc : List V) (H' : Hp), H' l = some (.lst acc) → DnAll H' acc ((allN q).map encN) → Same H H' → Q (.ref l) H'
def spPlain : Sp := fun vs H Q _ => ∃ (v : V) (q : Qt), vs = [v] ∧ Dn H v (encQ q) ∧ (allN q).length ≤ 1000000 ∧ ∀ (b : Bool) (H' : Hp), (b = true ↔ Plain q) → Same H H' → Q (.bl b) H'
/-- all d are small -/
def LowD (q : Qt) : Prop := ∀ n ∈ allN q, ∀ x ∈ n, x.1.natAbs ≤ 1000000
def spWithin : Sp := fun vs H Q _ => ∃ (v : V) (q : Qt), vs = [v] ∧ Dn H v (encQ q) ∧ (allN q).length ≤ 1000000 ∧ ∀ (b : Bool) (H' : Hp), (b = true → LowD q) → Same H H' → Q (.bl b) H'
theorem op_neDK {X : Cx} {K : PySem.W.Frag} (hK : X.K = K) (hu : X.A.units + 64 < cLine) : OpR X (compareOp .NotEq) (rNeD K) := by
  subst hK
  exact op_neD hu
theorem call_lenK {X : Cx} {K : PySem.W.Frag} (hK : X.K = K) : CallR X (.builtin "len") (fun xs H Q => ∃ x n, xs = [x] ∧ LenV K x H n ∧ Q (V.int ↑n) H) := by
  subst hK
  exact call_len
theorem DnAll.app {H : Hp} : ∀ {xs ys : List V} {ds es : List PyData}, DnAll H xs ds → DnAll H ys es → DnAll H (xs ++ ys) (ds ++ es)
  | _, _, _, _, .nil, h => h
  | _, _, _, _, .cons a r, h => .cons a (DnAll.app r h)
section
variable {K : PySem.W.Frag} {a D : Addr} {xs : List V} {ds : List PyData} {i : Nat} {te : TE} {tt : TT} {σ : L2.St} {H : Hp} {Qd : Hp → Prop}
/-- [1 for x in xs if not p(x)] -/
theorem lc_badL (p : PyData → Prop) (ea : H a = some (.lst xs)) (ra : DnAll H xs ds) (hl : ds.length ≤ 1000000) (hD : H D = none)
    (step : ∀ (j : Nat) (x : V) (d : PyData) (H' : Hp) (Q' : Bool → Hp → Prop), ds[j]? = some d → Dn H' x d → Same H H' → (∀ (b : Bool) (H2 : Hp), (b = true ↔ ¬ p d) → Same H' H2 → Q' b H2) → tt ((wipe σ [i]).set i (some x)) H' Q')
    (fin : ∀ (n : Nat) (H' : Hp), H' D = some (.lst ((ones n).map V.int)) → (n = 0 ↔ ∀ x ∈ ds, p x) → Same H H' → Qd H') :
    ∃ W : Nat → Nat → Hp → Prop, (∃ m, W 0 m (upd H D (.lst []))) ∧ ∀ i_1 m H, W i_1 m H →
      ((Itl K a).stop i_1 H ∧ Qd H) ∨ ((Itl K a).go i_1 H ∧ ∃ Nx : Hp → Prop, (∀ H', Nx H' → ∃ m', m' < m ∧ W (i_1 + 1) m' H') ∧ ∀ x H', (Itl K a).yld i_1 H x H' → gName i x (wipe σ [i]) H' fun σ2 H2 => wipe σ2 [i] = wipe σ [i] ∧ tt σ2 H2 fun b H3 =>
        if b = true then tC (.int 1) σ2 H3 fun y H4 => ∃ acc, H4 D = some (.lst acc) ∧ acc.length < sizeLine ∧ Nx (upd H4 D (.lst (acc ++ [y]))) else Nx H3) := by
  refine lc_list (K := K) (a := a) (xs := xs) (fun i H' => ∃ n : Nat, H' D = some (.lst ((ones n).map V.int)) ∧ n ≤ i ∧ (n = 0 ↔ ∀ j, j < i → ∀ d, ds[j]? = some d → p d) ∧ Same H H')
    ⟨0, upd_same, Nat.le_refl _, by simp, snew hD⟩ (fun i H' _ ⟨_, _, _, _, s'⟩ => SqL.of (s' _ _ ea)) ?_ ?_
  · rintro j x H' hx ⟨n, e1, e2, e3, s'⟩
    obtain ⟨d, ed, dn⟩ := ra.at_ hx
    have il : j < ds.length := (List.getElem?_eq_some_iff.mp ed).1
    refine ⟨wipe1, ?_⟩
    refine step j x d H' _ ed (Dn.mono s' d x dn) s' fun b H2 hb s2 => ?_
    refine ite_b (fun c => ?_) (fun c => ?_)
    · refine ⟨_, s2 _ _ e1, by rw [ones_len]; exact small_m (by omega), n + 1, by rw [ones_succ, upd_same], by omega, ?_, fun c o e => ?_⟩
      · refine none_step (p := fun j => ∀ d, ds[j]? = some d → p d) e3 ⟨fun z => by omega, fun z => absurd (z.2 d ed) (hb.mp c)⟩
      · rw [upd_ne (ne_of_none e hD)]
        exact s2 _ _ (s' _ _ e)
    · refine ⟨n, s2 _ _ e1, by omega, ?_, s'.trans s2⟩
      have pd : p d := by
        by_cases h : p d
        · exact h
        · have := hb.mpr h
          rw [c] at this
          cases this
      exact none_step (p := fun j => ∀ d, ds[j]? = some d → p d) e3 ⟨fun z => ⟨z, fun d' e' => by rw [ed] at e'; cases e'; exact pd⟩, fun z => z.1⟩
  · rintro H1 ⟨n, e1, e2, e3, s1⟩
    rw [ra.length] at e3
    exact fin n H1 e1 (e3.trans mem_idx) s1
end
section
variable {P : Program} {w : World} {K : PySem.W.Frag} {mg : Str → Option Value} {base : Heap}
abbrev s__law_numbers : Stmt := top 44
abbrev nsNums : List Str := ["quotient", "found", "pole", "row"]
theorem sc__law_numbers : FnScope nsNums ["quotient"] (defScope s__law_numbers) := ⟨rfl, rfl, rfl, by decide +kernel, rfl, by decide +kernel, by decide +kernel⟩
theorem ok__law_numbers {f  : Addr} {fd  : FuncData}  (F : Fun K "_law_numbers" "_law_numbers" s__law_numbers f fd) (T : Bt mg)  : FnOk P w K mg base CX0 1 f fd ["quotient"] spNumbers := by
  refine F.ok sc__law_numbers (fun vs H Q E h => ?_) (fun cdv A outer s H vs Q E hr h => ?_)
  · obtain ⟨v, q, rfl, _⟩ := h
    rfl
  · obtain ⟨v, q, rfl, hd, hl, k⟩ := h
    refine ⟨_, pss_cons (ps_set (i := 1) sc__law_numbers.nd rfl (Or.inl rfl) (pe_callTy call_list_of (by rfl) T.list (by decide +kernel) (pa_cons (pe_ix (r := rIx K) ix_seq (pv 0) pe_int (fun _ _ => rfl)) pa_nil)))
      (pss_cons (ps_for PassesOwn.never rfl (pi_tup (pe_ix (r := rIx K) ix_seq (pv 0) pe_int (fun _ _ => rfl))) (pg_tup rfl (pgs_cons (pg_name (i := 2) sc__law_numbers.nd rfl (Or.inl rfl)) (pgs_cons (pg_name (i := 3) sc__law_numbers.nd rfl (Or.inl rfl)) pgs_nil)))
        (pss_one (ps_expr (pe_bm PySem.F.plainAttrs_list PySem.F.slot_list_extend PySem.F.type_list_extend mt_extendT (pv 1) (pa_cons (pv 3) pa_nil)))))
      (pss_one (ps_ret (pv 1)))), ?_⟩
    obtain ⟨a, v1, v2, rfl, ea, d1, d2⟩ := dn_pair hd
    obtain ⟨a1, xs1, rfl, e1, r1⟩ := dn_t d1
    obtain ⟨a2, xs2, rfl, e2, r2⟩ := dn_t d2
    refine ⟨_, rfl, .inr (.inl ⟨a, _, _, _, rfl, rfl, SqT.of ea, rfl, a1, xs1, rfl, .inr (SqT.of e1), fun l hl0 => ?_⟩)⟩
    have s1 : Same H (upd H l (.lst xs1)) := snew hl0
    refine ⟨_, rfl, .inr (.inl ⟨a, _, _, _, rfl, rfl, SqT.of (s1 _ _ ea), rfl, a2, rfl, ⟨_, SqT.of (s1 _ _ e2)⟩, for_tup (K := K) (a := a2) (xs := xs2) (fun i σ H' => ∃ x2 x3 acc, σ = [some (.ref a), some (.ref l), x2, x3] ∧ H' l = some (.lst acc) ∧ DnAll H acc ((q.1 ++ ((q.2.take i).map (·.2)).flatten).map encN) ∧ Same H H')
      ⟨none, none, xs1, rfl, upd_same, by simpa using r1, s1⟩ (fun i σ H' _ ⟨_, _, _, _, _, _, s'⟩ => SqT.of (s' _ _ e2)) ?_ ?_⟩)⟩
    · rintro i x σ H' hx ⟨x2, x3, acc, rfl, h1, h2, s'⟩
      obtain ⟨t, ax, p1, rv, et, rfl, hax, dr, dp⟩ := dn_rows r2 i x hx
      obtain ⟨ar, ys, rfl, har, rr⟩ := dn_t dr
      have hh := hl
      refine ⟨ax, _, rfl, SqT.of (s' _ _ hax), rfl, _, _, rfl, _, _, rfl, rfl, ?_⟩
      have lacc : acc.length = (q.1 ++ ((q.2.take i).map (·.2)).flatten).length := by rw [h2.length, List.length_map]
      have lys : ys.length = t.2.length := by rw [rr.length, List.length_map]
      have ft : ((q.2.take (i + 1)).map (·.2)).flatten = ((q.2.take i).map (·.2)).flatten ++ t.2 := by rw [List.take_add_one, et]; simp
      have fl : (q.1 ++ ((q.2.take (i + 1)).map (·.2)).flatten).length ≤ (allN q).length := by
        show _ ≤ (q.1 ++ (q.2.map (·.2)).flatten).length
        have e : (q.2.map (·.2)).flatten = ((q.2.take (i + 1)).map (·.2)).flatten ++ ((q.2.drop (i + 1)).map (·.2)).flatten := by rw [← List.flatten_append, ← List.map_append, List.take_append_drop]
        rw [e, List.length_append, List.length_append, List.length_append]; omega
      rw [ft, List.length_append, List.length_append] at fl
      rw [List.length_append] at lacc
      refine ⟨_, rfl, .inl ⟨rfl, _, SqL.of h1⟩, _, rfl, l, ar, acc, ys, rfl, rfl, h1, SqT.of (s' _ _ har), by have := small_m (n := acc.length + ys.length) (by omega); omega, ?_⟩
      refine ⟨_, _, _, rfl, upd_same, ?_, fun c o eo => ?_⟩
      · rw [ft, ← List.append_assoc, List.map_append]
        exact DnAll.app h2 rr
      · rw [upd_ne (ne_of_none eo hl0)]; exact s' _ _ eo
    · rintro σ H' ⟨x2, x3, acc, rfl, h1, h2, s'⟩
      have lx : xs2.length = q.2.length := by rw [r2.length, List.length_map]
      rw [lx, List.take_length] at h2
      exact ⟨_, rfl, k l acc H' h1 (DnAll.mono s' _ _ h2) s'⟩
abbrev s__law_is_plain : Stmt := top 45
abbrev nsPln : List Str := ["quotient", "number"]
theorem sc__law_is_plain : FnScope nsPln ["quotient"] (defScope s__law_is_plain) := ⟨rfl, rfl, rfl, by decide +kernel, rfl, by decide +kernel, by decide +kernel⟩
theorem ok__law_is_plain {f f__law_numbers : Addr} {fd d__law_numbers : FuncData}  (F : Fun K "_law_is_plain" "_law_is_plain" s__law_is_plain f fd) (T : Bt mg) (l_numbers : Kn P w K mg base 1 "_law_numbers" ["quotient"] spNumbers f__law_numbers d__law_numbers) : FnOk P w K mg base CX0 2 f fd ["quotient"] spPlain := by
  refine F.ok sc__law_is_plain (fun vs H Q E h => ?_) (fun cdv A outer s H vs Q E hr h => ?_)
  · obtain ⟨v, q, rfl, _⟩ := h
    rfl
  · obtain ⟨v, q, rfl, hd, hl, k⟩ := h
    refine ⟨_, pss_one (ps_ret (pe_cmpR (op_eqD hr.units) (pe_lc (own := [("number", 1)]) (g := (gName 1)) (tt := _) rfl sc__law_is_plain.nd (pi_list (pe_call l_numbers.ok (hr.mono (by decide)) rfl l_numbers.mg l_numbers.kp l_numbers.bd .nil pass0 (pa_cons (pv 0) pa_nil))) (blkOk_by (own := [("number", 1)]) (N := nsPln) (sc := defScope s__law_is_plain) (by decide +kernel)) (fun _ _ _ _ _ => pg_name (i := 1) sc__law_is_plain.nd rfl (Or.inl rfl)) (fun _ _ _ _ _ => pts_one (PW.pt (pw_and (pt_cmpR (op_neDK (K := K) rfl hr.units) (pv 1) (pe_tup pa_nil) (nomark _)) (pw_and1 (PW.pt (pw_or (pt_cmpR op_gt (pe_callB (call_lenK (K := K) rfl) (by rfl) T.len PySem.boot_len (pa_cons (pv 1) pa_nil)) pe_int (nomark _)) (pw_or1 (pt_cmpR op_ne (pe_ix (r := rIx K) ix_seq (pe_ix (r := rIx K) ix_seq (pv 1) pe_int (fun _ _ => rfl)) pe_int (fun _ _ => rfl)) pe_int (nomark _))))))))) (fun _ _ _ _ _ => pe_int)) (pe_lst pa_nil) (nomark _))), ?_⟩
    obtain ⟨a, v1, v2, rfl, ea, _, _⟩ := dn_pair hd
    refine ⟨_, rfl, .ref a, q, rfl, hd, hl, fun l acc H1 e1 r1 s1 => ⟨l, rfl, ⟨_, SqL.of e1⟩, fun D hD => lc_badL (fun d => ∃ n, d = encN n ∧ FrN n) e1 r1 (by rw [List.length_map]; exact hl) hD (fun j x d H' Q' ed dn s' kk => ?_) fun n H2 e2 e3 s2 => ?_⟩⟩
    · rw [List.getElem?_map] at ed
      obtain ⟨n, en, rfl⟩ := Option.map_eq_some_iff.mp ed
      have key : ∀ (b : Bool) (H2 : Hp), (b = true ↔ ¬ FrN n) → Same H' H2 → Q' b H2 := fun b H2 hb s2 => kk b H2 (hb.trans ⟨fun h ⟨m, em, hm⟩ => h (by rw [encN_inj em]; exact hm), fun h z => h ⟨n, rfl, z⟩⟩) s2
      obtain ⟨b, ys, rfl, eb, rb⟩ := dn_t dn
      refine ⟨_, rfl, Nat.zero_le _, fun p hp => ⟨encN n, .tuple [], tn_dp _ _ (encN_tn n) (Dn.mono (snew hp) _ _ dn), .tup (SqT.of upd_same) .nil, encN_shaped n, rfl, _, rfl, ?_⟩⟩
      rw [eqv_nil_d (encN_tn n)]
      have sp := snew (o := .tup []) hp
      cases n with
      | nil => 
        refine iteF ?_
        exact key false _ ⟨fun z => (by cases z), fun z => absurd (.inl rfl) z⟩ sp
      | cons t n =>
        refine iteT ?_
        have ly : ys.length = n.length + 1 := by rw [rb.length, List.length_map]; rfl
        refine ⟨_, rfl, .ref b, ys.length, rfl, .inr ⟨ys, SqT.of (sp _ _ eb), rfl⟩, _, _, rfl, rfl, _, rfl, ?_⟩
        refine ite_b (fun c => ?_) (fun c => ?_)
        · refine key true _ ⟨fun _ z => ?_, fun _ => rfl⟩ sp
          have c' := of_decide_eq_true c
          rcases z with z | ⟨t', b', z⟩
          · cases z
          · have : n.length = 0 := by injection z with _ z; rw [z]; rfl
            omega
        · have c' := of_decide_eq_false c
          have n0 : n = [] := List.length_eq_zero_iff.mp (by omega)
          subst n0
          cases rb with
          | cons h1 r2 =>
            cases r2
            obtain ⟨bt, zs, rfl, ebt, rbt⟩ := dn_t (ds := [.int t.1, .int t.2.1, .int t.2.2]) h1
            obtain rfl := dn3 rbt
            refine ⟨_, rfl, .inr (.inl ⟨b, _, _, _, rfl, rfl, SqT.of (sp _ _ eb), rfl, .inr (.inl ⟨bt, _, _, _, rfl, rfl, SqT.of (sp _ _ ebt), rfl, rfl, _, rfl, ?_⟩)⟩)⟩
            refine key _ _ ?_ sp
            rw [Bool.not_eq_true', decide_eq_false_iff_not]
            refine not_congr ⟨fun h => ?_, fun h => ?_⟩
            · have h1 : t.1 = 1 := V.int.inj h
              exact .inr ⟨t.2.1, t.2.2, by rw [← h1]⟩
            · rcases h with h | ⟨t', b', h⟩
              · cases h
              · injection h with h _
                rw [h]
    · refine ⟨Nat.zero_le _, fun p4 hp4 => ⟨.list ((ones n).map PyData.int), .list [], .lst (SqL.of (snew hp4 _ _ e2)) (ints_dp _), .lst (SqL.of upd_same) .nil, ints_shaped _, nil_shaped, ?_⟩⟩
      rw [eqv_nil, ones_nil]
      refine k _ _ ?_ ((s1.trans s2).trans (snew hp4))
      rw [decide_eq_true_iff, e3, plain_rows]
      constructor
      · intro h r hr m hm
        obtain ⟨m', e, h'⟩ := h (encN m) (List.mem_map.mpr ⟨m, List.mem_flatten.mpr ⟨r, hr, hm⟩, rfl⟩)
        rw [encN_inj e]
        exact h'
      · intro h d hd'
        obtain ⟨m, hm, rfl⟩ := List.mem_map.mp hd'
        obtain ⟨r, hr, hm⟩ := List.mem_flatten.mp hm
        exact ⟨m, rfl, h r hr m hm⟩
abbrev s__law_is_within : Stmt := top 46
abbrev nsWit : List Str := ["quotient", "pole", "row", "number", "d", "top", "bottom"]
theorem sc__law_is_within : FnScope nsWit ["quotient"] (defScope s__law_is_within) := ⟨rfl, rfl, rfl, by decide +kernel, rfl, by decide +kernel, by decide +kernel⟩
theorem ok__law_is_within {f f__law_numbers : Addr} {fd d__law_numbers : FuncData}  (F : Fun K "_law_is_within" "_law_is_within" s__law_is_within f fd) (T : Bt mg) (l_numbers : Kn P w K mg base 1 "_law_numbers" ["quotient"] spNumbers f__law_numbers d__law_numbers) : FnOk P w K mg base CX0 2 f fd ["quotient"] spWithin := by
  refine F.ok sc__law_is_within (fun vs H Q E h => ?_) (fun cdv A outer s H vs Q E hr h => ?_)
  · obtain ⟨v, q, rfl, _⟩ := h
    rfl
  · obtain ⟨v, q, rfl, hd, hl, k⟩ := h
    refine ⟨_, pss_cons (ps_if (PW.pt (pw_or (pt_cmpR op_gt (pe_callB call_len (by rfl) T.len PySem.boot_len (pa_cons (pe_ix (r := rIx K) ix_seq (pv 0) pe_int (fun _ _ => rfl)) pa_nil)) pe_int (nomark _)) (pw_or1 (pt_cmpR op_gt (pe_callB call_len (by rfl) T.len PySem.boot_len (pa_cons (pe_ix (r := rIx K) ix_seq (pv 0) pe_int (fun _ _ => rfl)) pa_nil)) pe_int (nomark _)))))
        (pss_one (ps_ret pe_bl))
        pss_nil)
      (pss_cons (ps_for PassesOwn.never rfl (pi_tup (pe_ix (r := rIx K) ix_seq (pv 0) pe_int (fun _ _ => rfl))) (pg_tup rfl (pgs_cons (pg_name (i := 1) sc__law_is_within.nd rfl (Or.inl rfl)) (pgs_cons (pg_name (i := 2) sc__law_is_within.nd rfl (Or.inl rfl)) pgs_nil)))
        (pss_one (ps_if (PW.pt (pw_or (pt_cmpR op_gt (pe_callB call_len (by rfl) T.len PySem.boot_len (pa_cons (pv 2) pa_nil)) pe_int (nomark _)) (pw_or1 (pt_cmpR op_gt (pe_callB (call_max2 rfl) (by rfl) T.max (by decide +kernel) (pa_cons (pe_callB call_abs (by rfl) T.abs (by decide +kernel) (pa_cons (pe_ix (r := rIx K) ix_seq (pv 1) pe_int (fun _ _ => rfl)) pa_nil)) (pa_cons (pe_ix (r := rIx K) ix_seq (pv 1) pe_int (fun _ _ => rfl)) pa_nil))) pe_int (nomark _)))))
          (pss_one (ps_ret pe_bl))
          pss_nil)))
      (pss_cons (ps_for PassesOwn.never rfl (pi_list (pe_call l_numbers.ok (hr.mono (by decide)) rfl l_numbers.mg l_numbers.kp l_numbers.bd .nil pass0 (pa_cons (pv 0) pa_nil))) (pg_name (i := 3) sc__law_is_within.nd rfl (Or.inl rfl))
        (pss_one (ps_if (PW.pt (pw_or (pt_cmpR op_gt (pe_callB call_len (by rfl) T.len PySem.boot_len (pa_cons (pv 3) pa_nil)) pe_int (nomark _)) (pw_or1 (pt_cmpR (op_neD hr.units) (pe_lc (own := [("d", 4), ("top", 5), ("bottom", 6)]) (g := (gTup K 3 (gCons (gName 4) (gCons (gName 5) (gCons (gName 6) gNil))))) (tt := _) rfl sc__law_is_within.nd (pi_tup (pv 3)) (blkOk_by (own := [("d", 4), ("top", 5), ("bottom", 6)]) (N := nsWit) (sc := defScope s__law_is_within) (by decide +kernel)) (fun _ _ _ _ _ => pg_tup rfl (pgs_cons (pg_name (i := 4) sc__law_is_within.nd rfl (Or.inl rfl)) (pgs_cons (pg_name (i := 5) sc__law_is_within.nd rfl (Or.inl rfl)) (pgs_cons (pg_name (i := 6) sc__law_is_within.nd rfl (Or.inl rfl)) pgs_nil)))) (fun _ _ _ _ _ => pts_one (PW.pt (pw_or (pt_cmpR op_ge (pe_callB (call_max2 rfl) (by rfl) T.max (by decide +kernel) (pa_cons (pe_callB call_abs (by rfl) T.abs (by decide +kernel) (pa_cons (pv 5) pa_nil)) (pa_cons (pv 6) pa_nil))) (pe_op op_pow pe_int pe_int) (nomark _)) (pw_or1 (pt_cmpR op_gt (pe_callB call_abs (by rfl) T.abs (by decide +kernel) (pa_cons (pv 4) pa_nil)) (pe_op op_pow pe_int pe_int) (nomark _)))))) (fun _ _ _ _ _ => pe_int)) (pe_lst pa_nil) (nomark _)))))
          (pss_one (ps_ret pe_bl))
          pss_nil)))
      (pss_one (ps_ret pe_bl)))), ?_⟩
    obtain ⟨a, v1, v2, rfl, ea, d1, d2⟩ := dn_pair hd
    obtain ⟨a1, xs1, rfl, e1, r1⟩ := dn_t d1
    obtain ⟨a2, xs2, rfl, e2, r2⟩ := dn_t d2
    have no : ∀ H', Same H H' → Q (.bl false) H' := fun H' s' => k false H' (fun z => by cases z) s'
    refine ⟨_, rfl, .inr (.inl ⟨a, _, _, _, rfl, rfl, SqT.of ea, rfl, _, xs2.length, rfl, .inr ⟨xs2, SqT.of e2, rfl⟩, _, _, rfl, rfl, _, rfl, ?_⟩)⟩
    refine ite_b (fun c => ?_) (fun c => ?_)
    · refine iteT ?_
      exact no _ (Same.refl _)
    refine ⟨_, rfl, .inr (.inl ⟨a, _, _, _, rfl, rfl, SqT.of ea, rfl, _, xs1.length, rfl, .inr ⟨xs1, SqT.of e1, rfl⟩, _, _, rfl, rfl, _, rfl, ?_⟩)⟩
    refine ite_b (fun c => ?_) (fun c => ?_)
    · exact no _ (Same.refl _)
    refine ⟨_, rfl, .inr (.inl ⟨a, _, _, _, rfl, rfl, SqT.of ea, rfl, a2, rfl, ⟨_, SqT.of e2⟩, for_tup (K := K) (a := a2) (xs := xs2) (fun i σ H' => (∃ x1 x2, σ = [some (.ref a), x1, x2, none, none, none, none]) ∧ Same H H')
      ⟨⟨none, none, rfl⟩, Same.refl _⟩ (fun i σ H' _ p => SqT.of (p.2 _ _ e2)) ?_ ?_⟩)⟩
    · rintro i x σ H' hx ⟨⟨x1, x2, rfl⟩, s'⟩
      obtain ⟨t, ax, p1, rv, et, rfl, hax, dr, dp⟩ := dn_rows r2 i x hx
      obtain ⟨ar, ys, rfl, har, rr⟩ := dn_t dr
      obtain ⟨ap, rfl, hap⟩ := dn_pl dp
      refine ⟨ax, _, rfl, SqT.of (s' _ _ hax), rfl, _, _, rfl, _, _, rfl, rfl, ?_⟩
      refine ⟨_, rfl, _, ys.length, rfl, .inr ⟨ys, SqT.of (s' _ _ har), rfl⟩, _, _, rfl, rfl, _, rfl, ?_⟩
      refine ite_b (fun c => ?_) (fun c => ?_)
      · refine iteT ?_
        exact no _ s'
      refine ⟨_, rfl, .inr (.inl ⟨ap, _, _, _, rfl, rfl, SqT.of (s' _ _ hap), rfl, _, rfl, _, rfl, .inr (.inl ⟨ap, _, _, _, rfl, rfl, SqT.of (s' _ _ hap), rfl, _, _, rfl, _, _, rfl, rfl, _, rfl, ?_⟩)⟩)⟩
      refine ite_b (fun c => ?_) (fun c => ?_)
      · exact no _ s'
      · exact ⟨⟨_, _, rfl⟩, s'⟩
    · rintro σ H' ⟨⟨x1, x2, rfl⟩, s'⟩
      refine ⟨_, rfl, .ref a, q, rfl, Dn.mono s' _ _ hd, hl, fun l acc H1 h1 q1 s1 => ⟨l, rfl, ⟨_, SqL.of h1⟩, for_list (K := K) (a := l) (xs := acc) (fun i σ H'' => (∃ x1 x2 x3, σ = [some (.ref a), x1, x2, x3, none, none, none]) ∧ (∀ j, j < i → ∀ n, (allN q)[j]? = some n → ∀ x ∈ n, x.1.natAbs ≤ 1000000) ∧ Same H1 H'')
        ⟨⟨_, _, _, rfl⟩, fun j hj => by omega, Same.refl _⟩ (fun i σ H'' _ p => SqL.of (p.2.2 _ _ h1)) ?_ ?_⟩⟩
      · rintro i x σ H'' hx ⟨⟨x1, x2, x3, rfl⟩, hall, s''⟩
        obtain ⟨d, ed, dn⟩ := q1.at_ hx
        rw [List.getElem?_map] at ed
        obtain ⟨n, en, rfl⟩ := Option.map_eq_some_iff.mp ed
        have sA := (s'.trans s1).trans s''
        obtain ⟨b, ys, rfl, eb, rb⟩ := dn_t (Dn.mono s'' _ _ dn)
        refine ⟨_, rfl, _, ys.length, rfl, .inr ⟨ys, SqT.of eb, rfl⟩, _, _, rfl, rfl, _, rfl, ?_⟩
        refine ite_b (fun c => ?_) (fun c => ?_)
        · refine iteT ?_
          exact no _ sA
        have c' := of_decide_eq_false c
        refine ⟨_, rfl, b, rfl, ⟨_, SqT.of eb⟩, fun D hD => lc_tup (K := K) (a := b) (xs := ys) (fun i H3 => ∃ m, H3 D = some (.lst ((ones m).map V.int)) ∧ m ≤ i ∧ (m = 0 → ∀ j, j < i → ∀ x, n[j]? = some x → x.1.natAbs ≤ 1000000) ∧ Same H'' H3)
          ⟨0, upd_same, Nat.le_refl _, fun _ j hj => by omega, snew hD⟩ (fun i H3 _ ⟨_, _, _, _, s3⟩ => SqT.of (s3 _ _ eb)) ?_ ?_⟩
        · rintro j y H3 hy ⟨m, f1, f2, f3, s3⟩
          obtain ⟨d', ed', dn'⟩ := rb.at_ hy
          rw [List.getElem?_map] at ed'
          obtain ⟨t, et, rfl⟩ := Option.map_eq_some_iff.mp ed'
          obtain ⟨bt, zs, rfl, ebt, rbt⟩ := dn_t (ds := [.int t.1, .int t.2.1, .int t.2.2]) dn'
          obtain rfl := dn3 rbt
          refine ⟨bt, _, rfl, SqT.of (s3 _ _ ebt), rfl, _, _, rfl, _, _, rfl, _, _, rfl, rfl, ?_⟩
          have bad : ∃ acc, H3 D = some (.lst acc) ∧ acc.length < sizeLine ∧ ∃ m, upd H3 D (.lst (acc ++ [.int 1])) D = some (.lst ((ones m).map V.int)) ∧ m ≤ j + 1 ∧ (m = 0 → ∀ i, i < j + 1 → ∀ x, n[i]? = some x → x.1.natAbs ≤ 1000000) ∧ Same H'' (upd H3 D (.lst (acc ++ [.int 1]))) := by
            have jl := (List.getElem?_eq_some_iff.mp et).1
            refine ⟨_, f1, by rw [ones_len]; exact small_m (by rw [rb.length, List.length_map] at c'; omega), m + 1, by rw [ones_succ, upd_same], by omega, fun z => by omega, fun c o e => ?_⟩
            rw [upd_ne (ne_of_none e hD)]; exact s3 _ _ e
          refine ⟨rfl, _, rfl, _, rfl, _, rfl, _, _, rfl, _, _, rfl, rfl, ⟨by decide, by decide, by decide⟩, _, _, rfl, rfl, _, rfl, ?_⟩
          refine ite_b (fun q => ?_) (fun q => ?_)
          · refine iteT ?_
            exact bad
          refine ⟨_, rfl, _, rfl, _, _, rfl, rfl, ⟨by decide, by decide, by decide⟩, _, _, rfl, rfl, _, rfl, ?_⟩
          refine ite_b (fun q2 => ?_) (fun q2 => ?_)
          · exact bad
          · refine ⟨m, f1, by omega, fun z i hi x ex => ?_, s3⟩
            by_cases c : i = j
            · subst c
              rw [et] at ex
              cases ex
              have q3 := of_decide_eq_false q2
              have q4 : ((10 : Int) ^ (6 : Int).toNat) = 1000000 := by decide
              rw [q4] at q3
              have q5 : (if t.1 < 0 then -t.1 else t.1) = (t.1.natAbs : Int) := by split <;> omega
              rw [q5] at q3
              omega
            · exact f3 z i (by omega) x ex
        · rintro H3 ⟨m, f1, f2, f3, s3⟩
          refine ⟨Nat.zero_le _, fun p4 hp4 => ⟨.list ((ones m).map PyData.int), .list [], .lst (SqL.of (snew hp4 _ _ f1)) (ints_dp _), .lst (SqL.of upd_same) .nil, ints_shaped _, nil_shaped, _, rfl, ?_⟩⟩
          rw [eqv_nil, ones_nil]
          have s4 := s3.trans (snew (o := .lst []) hp4)
          cases em : decide (m = 0) with
          | false =>
            refine iteT ?_
            exact no _ (sA.trans s4)
          | true =>
            refine iteF ?_
            have m0 := of_decide_eq_true em
            refine ⟨⟨_, _, _, rfl⟩, fun j hj n' en' x hx => ?_, s''.trans s4⟩
            by_cases c : j = i
            · subst c
              rw [en] at en'
              cases en'
              obtain ⟨u, hu, eu⟩ := List.mem_iff_getElem.mp hx
              exact f3 m0 u (by rw [rb.length, List.length_map]; exact hu) x (by rw [List.getElem?_eq_getElem hu, eu])
            · exact hall j (by omega) n' en' x hx
      · rintro σ H'' ⟨⟨x1, x2, x3, rfl⟩, hall, s''⟩
        refine k true H'' (fun _ n hn x hx => ?_) ((s'.trans s1).trans s'')
        obtain ⟨j, hj, ej⟩ := List.mem_iff_getElem.mp hn
        exact hall j (by rw [q1.length, List.length_map]; exact hj) n (by rw [List.getElem?_eq_getElem hj, ej]) x hx
end
end N3

namespace N3
open PySem PySem.Spec PyProof.Rows L2 N2
/-- what is right by the law's look has only small d -/
def Tame (d : PyData) : Prop := (∀ q, d = encQ q → CQ Lean_ q → LowD q) ∧ ((¬ ∃ q, d = encQ q ∧ CQ Lean_ q) → ∀ r, d = encR r → CR Lean_ r → LowD (r, []))
def spBeyond : Sp := fun vs H Q _ => ∃ (v : V) (d : PyData), vs = [v] ∧ Dn H v d ∧ Gd d ∧ ∀ (b : Bool) (H' : Hp), (b = false → Tame d) → Same H H' → Q (.bl b) H'
section
variable {P : Program} {w : World} {K : PySem.W.Frag} {mg : Str → Option Value} {base : Heap}
abbrev s__law_is_beyond : Stmt := top 54
theorem sc__law_is_beyond : FnScope ["thing"] ["thing"] (defScope s__law_is_beyond) := ⟨rfl, rfl, rfl, by decide +kernel, rfl, by decide +kernel, by decide +kernel⟩
theorem ok__law_is_beyond {f f__law_is_quotient f__law_is_within f__law_is_polynomial : Addr} {fd d__law_is_quotient d__law_is_within d__law_is_polynomial : FuncData}  (F : Fun K "_law_is_beyond" "_law_is_beyond" s__law_is_beyond f fd) (T : Bt mg) (l_is_quotient : Kn P w K mg base 5 "_law_is_quotient" ["thing"] (spCk (DQ Lean_)) f__law_is_quotient d__law_is_quotient) (l_is_within : Kn P w K mg base 2 "_law_is_within" ["quotient"] spWithin f__law_is_within d__law_is_within) (l_is_polynomial : Kn P w K mg base 4 "_law_is_polynomial" ["thing"] (spCk (DR Lean_)) f__law_is_polynomial d__law_is_polynomial) : FnOk P w K mg base CX0 6 f fd ["thing"] spBeyond := by
  refine F.ok sc__law_is_beyond (fun vs H Q E h => ?_) (fun cdv A outer s H vs Q E hr h => ?_)
  · obtain ⟨v, d, rfl, _⟩ := h
    rfl
  · obtain ⟨v, d, rfl, hd, gd, k⟩ := h
    refine ⟨_, pss_cons (ps_if (pt_val (pe_call l_is_quotient.ok (hr.mono (by decide)) rfl l_is_quotient.mg l_is_quotient.kp l_is_quotient.bd .nil pass0 (pa_cons (pv 0) pa_nil)))
        (pss_one (ps_ret (pe_not (pe_call l_is_within.ok (hr.mono (by decide)) rfl l_is_within.mg l_is_within.kp l_is_within.bd .nil pass0 (pa_cons (pv 0) pa_nil)))))
        pss_nil)
      (pss_one (ps_ret (pe_and (pe_call l_is_polynomial.ok (hr.mono (by decide)) rfl l_is_polynomial.mg l_is_polynomial.kp l_is_polynomial.bd .nil pass0 (pa_cons (pv 0) pa_nil)) (pe_one (pe_not (pe_call l_is_within.ok (hr.mono (by decide)) rfl l_is_within.mg l_is_within.kp l_is_within.bd .nil pass0 (pa_cons (pe_tup (pa_cons (pv 0) (pa_cons (pe_tup pa_nil) pa_nil))) pa_nil))))))), ?_⟩
    have sl2 : 2 ≤ sizeLine := by rw [sizeLine_eq]; decide
    refine ⟨_, rfl, v, d, rfl, hd, gd, fun b H1 hb s1 => ⟨_, rfl, ?_⟩⟩
    cases b with
    | true =>
      refine iteT ?_
      obtain ⟨q, rfl, cq⟩ := hb.mp rfl
      refine ⟨_, rfl, v, q, rfl, Dn.mono s1 _ _ hd, gd_flat gd, fun b H2 hb2 s2 => ?_⟩
      refine ⟨_, rfl, k _ H2 (fun z => ⟨fun q' e _ => ?_, fun h => absurd ⟨q, rfl, cq⟩ h⟩) (s1.trans s2)⟩
      rw [← encQ_inj e]
      exact hb2 (by cases b <;> first | rfl | cases z)
    | false =>
      refine iteF ?_
      have nq : ¬ ∃ q, d = encQ q ∧ CQ Lean_ q := fun z => by have := hb.mpr z; cases this
      refine ⟨_, rfl, v, d, rfl, Dn.mono s1 _ _ hd, gd, fun b H2 hb2 s2 => ?_⟩
      refine ⟨_, rfl, ?_⟩
      cases b with
      | false =>
        refine iteF ?_
        exact k false H2 (fun _ => ⟨fun q e c => absurd ⟨q, e, c⟩ nq, fun _ r e c => by have := hb2.mpr ⟨r, e, c⟩; cases this⟩) (s1.trans s2)
      | true =>
        refine iteT ?_
        obtain ⟨r, rfl, cr⟩ := hb2.mp rfl
        refine ⟨v, rfl, Nat.zero_le _, fun p1 hp1 => ⟨sl2, fun p2 hp2 => ?_⟩⟩
        have s3 := (s1.trans s2).trans ((snew (o := .tup []) hp1).trans (snew (o := .tup [v, .ref p1]) hp2))
        have hv := Dn.mono s3 _ _ hd
        have e1 : upd (upd H2 p1 (.tup [])) p2 (.tup [v, .ref p1]) p1 = some (.tup []) := by rw [upd_ne (ne_of_none upd_same hp2)]; exact upd_same
        have d2 : Dn (upd (upd H2 p1 (.tup [])) p2 (.tup [v, .ref p1])) (.ref p2) (encQ (r, [])) := .tup upd_same (.cons hv (.cons (.tup e1 .nil) .nil))
        refine ⟨_, (r, []), rfl, d2, ?_, fun b H3 hb3 s4 => ⟨_, rfl, k _ H3 (fun z => ⟨fun q e c => absurd ⟨q, e, c⟩ nq, fun _ r' e _ => ?_⟩) (s3.trans s4)⟩⟩
        · have := gd_len gd
          rw [List.length_map] at this
          show ([r] : List (List Nm)).flatten.length ≤ _
          simpa using this
        · rw [← encR_inj e]
          exact hb3 (by cases b <;> first | rfl | cases z)
end
end N3

namespace N3
open PySem PySem.Spec PyProof.Rows L2
def akv (x y : V) : List (Key × V) := [(Sum.inr "key", x), (Sum.inl 1, y)]
theorem akv_merge (x y : V) : mergeK [] (akv x y) = akv x y := by simp [mergeK, putK, akv]
theorem akv_nd (x y : V) : ((akv x y).map (·.1)).Nodup := by simp [akv]
def big : Nat → Nat
  | 0 => 4000
  | n + 1 => 3 * big n + 4008
def lo : Nat → Nat
  | 0 => 0
  | n + 1 => big n
theorem lo_big (n : Nat) : 3 * lo n + 4000 ≤ big n := by
  cases n with
  | zero => show 3 * 0 + 4000 ≤ 4000; omega
  | succ n => show 3 * big n + 4000 ≤ 3 * big n + 4008; omega
def spAny (n : Nat) : Sp := fun vs H Q _ => ∃ (dk l : Addr), vs = [.ref dk, .int (n : Int)] ∧ Deck H dk l ∧
  ∀ (v : V) (H' : Hp), NiceD (new H H') (big n) (2 * n + 2) v → Deck H' dk l → Keep dk l H H' → Q v H'
def spPrev : Nat → Sp
  | 0 => fun _ _ _ _ => False
  | n + 1 => spAny n
theorem fn_false {P : Program} {w : World} {K : PySem.W.Frag} {mg : Str → Option Value} {base : Heap} {CX : CXT} {k : Nat} {f : Addr} {fd : FuncData} {ps : List Str} : FnOk P w K mg base CX k f fd ps (fun _ _ _ _ => False) :=
  ⟨fun _ _ _ _ h => h.elim, fun _ _ _ _ _ _ _ _ _ _ _ _ _ h => h.elim⟩
theorem big_4 (n : Nat) : 4000 ≤ big n := by
  cases n with
  | zero => exact Nat.le_refl _
  | succ n => show 4000 ≤ 3 * big n + 4008; omega
theorem nice_ints (H : Hp) (n : Nat) : ∀ x ∈ ([.int 0, .int 1, .int (-1), .int 7, .int (4 * 10 ^ (38 : Int).toNat), .int (-10 ^ (20 : Int).toNat), .int 2, .int 63] : List V), NiceD H (big n) (2 * n + 2) x := by
  intro x hx
  have b4 := big_4 n
  have g : ∀ i : Int, i.natAbs.log2 < 1920 → NiceD H (big n) (2 * n + 2) (.int i) := fun i h => (nd_int h).mono (Same.refl _) (by omega) (by omega)
  simp only [List.mem_cons, List.not_mem_nil, or_false] at hx
  rcases hx with rfl | rfl | rfl | rfl | rfl | rfl | rfl | rfl <;> exact g _ (by decide +kernel)
theorem nice_strs (H : Hp) (n : Nat) : ∀ x ∈ ([.str "", .str "a", .str "(0, 1)", .str "1/2", .str "x\ny", .str "~"] : List V), NiceD H (big n) (2 * n + 2) x := by
  intro x hx
  have b4 := big_4 n
  have g : ∀ s : Str, (reprText s).length ≤ 40 → NiceD H (big n) (2 * n + 2) (.str s) := fun s h => (nd_str h).mono (Same.refl _) (by omega) (by omega)
  simp only [List.mem_cons, List.not_mem_nil, or_false] at hx
  rcases hx with rfl | rfl | rfl | rfl | rfl | rfl <;> exact g _ (by decide +kernel)
theorem nice_flags (H : Hp) (n : Nat) : ∀ x ∈ ([.bl true, .bl false, .non] : List V), NiceD H (big n) (2 * n + 2) x := by
  intro x hx
  have b4 := big_4 n
  simp only [List.mem_cons, List.not_mem_nil, or_false] at hx
  rcases hx with rfl | rfl | rfl
  · exact (nd_bl H true).mono (Same.refl _) (by omega) (by omega)
  · exact (nd_bl H false).mono (Same.refl _) (by omega) (by omega)
  · exact (nd_non H).mono (Same.refl _) (by omega) (by omega)
/-- a pick out of a list that was just written -/
theorem pick_new {K : PySem.W.Frag} {dk l p : Addr} {H1 : Hp} {xs : List V} {Q : VK} {E : XK} (D : Deck H1 dk l) (hp : H1 p = none) (ne : xs ≠ []) (hl : xs.length < 1073741824)
    (k : ∀ (x : V) (H' : Hp), x ∈ xs → Deck H' dk l → Keep dk l H1 H' → Q x H') : spPick K [.ref dk, .ref p] (upd H1 p (.lst xs)) Q E :=
  ⟨dk, l, p, xs, rfl, D.same (snew hp), SqL.of upd_same, (fun z => D.some1.1 (z ▸ hp)), (fun z => D.some1.2 (z ▸ hp)), ne, hl, fun x H' hx D' kp => k x H' hx D' ((Keep.of (snew hp)).trans kp)⟩
section
variable {P : Program} {w : World} {K : PySem.W.Frag} {mg : Str → Option Value} {base : Heap}
theorem scAny : FnScope ["deck", "deep", "way", "some", "turn"] ["deck", "deep"] (defScope sAny) := ⟨rfl, rfl, rfl, by decide +kernel, rfl, by decide +kernel, by decide +kernel⟩
theorem ok_any {n : Nat} {f fD fP : Addr} {fd fdD fdP : FuncData} (F : Fun K "_law_any" "_law_any" sAny f fd) (T : Bt mg) (D : Kn P w K mg base 1 "_law_draw" ["deck", "many"] spDraw fD fdD) (Pk : Kn P w K mg base 2 "_law_pick" ["deck", "some"] (spPick K) fP fdP)
    (R : Kn P w K mg base (n + 2) "_law_any" ["deck", "deep"] (spPrev n) f fd) : FnOk P w K mg base CX0 (n + 3) f fd ["deck", "deep"] (spAny n) := by
  refine F.ok scAny (fun vs H Q E h => ?_) (fun cdv A outer s H vs Q E hr h => ?_)
  · obtain ⟨dk, l, rfl, _⟩ := h
    rfl
  · obtain ⟨dk, l, rfl, De, k⟩ := h
    have hu := hu_of hr
    have hr1 : Room 1 _ := hr.mono (by omega)
    have hr2 : Room 2 _ := hr.mono (by omega)
    refine ⟨_, pss_cons (ps_set (i := 2) scAny.nd rfl (Or.inl rfl) (pe_call D.ok hr1 rfl D.mg D.kp D.bd .nil pass0 (pa_cons (pv 0) (pa_cons pe_int pa_nil))))
      (pss_cons (ps_if (pt_cmpR op_lt (pv 2) pe_int (nomark _)) (pss_one (ps_ret (pe_call Pk.ok hr2 rfl Pk.mg Pk.kp Pk.bd .nil pass0 (pa_cons (pv 0) (pa_cons
        (pe_lst (pa_cons pe_int (pa_cons pe_int (pa_cons (pe_un un_neg pe_int) (pa_cons pe_int (pa_cons (pe_op op_mul pe_int (pe_op op_pow pe_int pe_int)) (pa_cons (pe_un un_neg (pe_op op_pow pe_int pe_int)) (pa_cons pe_int (pa_cons pe_int pa_nil))))))))) pa_nil))))) pss_nil)
      (pss_cons (ps_if (pt_cmpR op_lt (pv 2) pe_int (nomark _)) (pss_one (ps_ret (pe_call Pk.ok hr2 rfl Pk.mg Pk.kp Pk.bd .nil pass0 (pa_cons (pv 0) (pa_cons
        (pe_lst (pa_cons pe_str (pa_cons pe_str (pa_cons pe_str (pa_cons pe_str (pa_cons pe_str (pa_cons pe_str pa_nil))))))) pa_nil))))) pss_nil)
      (pss_cons (ps_if (pt_cmpR op_eq (pv 2) pe_int (nomark _)) (pss_one (ps_ret (pe_call Pk.ok hr2 rfl Pk.mg Pk.kp Pk.bd .nil pass0 (pa_cons (pv 0) (pa_cons
        (pe_lst (pa_cons pe_bl (pa_cons pe_bl (pa_cons pe_non pa_nil)))) pa_nil))))) pss_nil)
      (C8.pss_cut (ps_set (i := 3) scAny.nd rfl (Or.inl rfl) (pe_ifExp (pt_cmpR op_gt (pv 1) pe_int (nomark _))
        (pe_lc (own := [("turn", 4)]) (g := gName 4) (tt := tYes) rfl scAny.nd (pi_range1 rfl T.range (pa_cons (pe_call D.ok hr1 rfl D.mg D.kp D.bd .nil pass0 (pa_cons (pv 0) (pa_cons pe_int pa_nil))) pa_nil))
          (blkOk_by (own := [("turn", 4)]) (N := ["deck", "deep", "way", "some", "turn"]) (sc := defScope sAny) (by decide +kernel)) (fun _ _ _ _ _ => pg_name (i := 4) scAny.nd rfl (Or.inl rfl)) (fun _ _ _ _ _ => pts_nil)
          (fun _ _ _ _ _ => pe_call R.ok hr rfl R.mg R.kp R.bd .nil pass0 (pa_cons (pv 0) (pa_cons (pe_op op_sub (pv 1) pe_int) pa_nil)))) (pe_lst pa_nil)))
      (pss_cons (ps_if (pt_cmpR op_eq (pv 2) pe_int (nomark _)) (pss_one (ps_ret (pv 3))) pss_nil)
      (pss_one (ps_ret (pe_ifExp (pt_cmpR op_eq (pv 2) pe_int (nomark _)) (pe_disp (pps_cons pe_str (pv 3) (pps_cons pe_int (pe_callB call_len_seq (by rfl) T.len PySem.boot_len (pa_cons (pv 3) pa_nil)) pps_nil)) (by rfl) (by rfl) (fun z => by cases z) (by decide))
        (pe_callTy call_tuple_of (by rfl) T.tuple (by decide +kernel) (pa_cons (pv 3) pa_nil)))))))))), ?_⟩
    refine ⟨_, rfl, dk, l, 10, rfl, De, by decide, by decide, fun way H1 w0 w1 D1 kp1 => ?_⟩
    refine ⟨_, rfl, _, _, rfl, rfl, _, rfl, ite2 (fun _ => ?_) (fun _ => ?_)⟩
    · refine ⟨_, rfl, _, rfl, _, _, rfl, rfl, ⟨by decide, by decide, by decide⟩, _, _, rfl, rfl, .inl ⟨by decide, by decide⟩, _, _, rfl, rfl, ⟨by decide, by decide, by decide⟩, _, rfl, (by show 8 ≤ sizeLine; rw [sizeLine_eq]; decide), fun p hp => ?_⟩
      exact pick_new (E := E0) D1 hp (by simp) (by show 8 < _; decide) fun x H' hx D' kp => k x H' (nice_ints _ _ x hx) D' (kp1.trans kp)
    refine ⟨_, rfl, _, _, rfl, rfl, _, rfl, ite2 (fun _ => ?_) (fun _ => ?_)⟩
    · refine ⟨_, rfl, (by show 6 ≤ sizeLine; rw [sizeLine_eq]; decide), fun p hp => ?_⟩
      exact pick_new (E := E0) D1 hp (by simp) (by show 6 < _; decide) fun x H' hx D' kp => k x H' (nice_strs _ _ x hx) D' (kp1.trans kp)
    refine ⟨_, rfl, rfl, _, rfl, ite2 (fun _ => ?_) (fun _ => ?_)⟩
    · refine ⟨_, rfl, (by show 3 ≤ sizeLine; rw [sizeLine_eq]; decide), fun p hp => ?_⟩
      exact pick_new (E := E0) D1 hp (by simp) (by show 3 < _; decide) fun x H' hx D' kp => k x H' (nice_flags _ _ x hx) D' (kp1.trans kp)
    have t0 : There H H1 := kp1.there D1
    refine ⟨fun σ' H' => ∃ (p : Addr) (ys : List V), σ' = [some (.ref dk), some (.int (n : Int)), some (.int way), some (.ref p), none] ∧ H' p = some (.lst ys) ∧ H p = none ∧ (∀ v ∈ ys, NiceD (new H H') (lo n) (2 * n) v) ∧ ys.length ≤ 3 ∧ Deck H' dk l ∧ Keep dk l H H', ?_, ?_⟩
    · refine ⟨_, rfl, _, _, rfl, rfl, _, rfl, ite2 (fun c => ?_) (fun _ => ?_)⟩
      · have c' : (0 : Int) < (n : Int) := of_decide_eq_true c
        obtain ⟨m, rfl⟩ : ∃ m, n = m + 1 := ⟨n - 1, by omega⟩
        refine ⟨_, rfl, dk, l, 4, rfl, D1, by decide, by decide, fun r H2 r0 r1 D2 kp2 => ?_⟩
        refine ⟨r, rfl, by omega, by omega, fun dd hd => ?_⟩
        have g0 : (upd H2 dd (.lst [])) dd = some (.lst []) := upd_same
        have Db : Deck (upd H2 dd (.lst [])) dk l := D2.same (snew hd)
        have tb : There H2 (upd H2 dd (.lst [])) := N3.Same.there (snew hd)
        refine lc_range (lo := 0) (n := r.toNat) (fun i H3 => ∃ acc : List V, H3 dd = some (.lst acc) ∧ acc.length = i ∧ (∀ v ∈ acc, NiceD (new (upd H2 dd (.lst [])) H3) (big m) (2 * (m + 1)) v) ∧ Deck H3 dk l ∧ Keep dk l H2 H3 ∧ There (upd H2 dd (.lst [])) H3)
          ⟨[], upd_same, rfl, fun v hv => absurd hv (by simp), Db, Keep.of (snew hd), fun b e => e⟩ ?_ ?_
        · rintro i H3 hi ⟨acc, ea, la, na, D3, kp3, t3⟩
          refine ⟨rfl, ?_⟩
          refine ⟨_, rfl, _, rfl, _, _, rfl, rfl, dk, l, ?_, D3, fun v H4 nv D4 kp4 => ?_⟩
          · show [V.ref dk, V.int (((m + 1 : Nat) : Int) - 1)] = [V.ref dk, V.int (m : Int)]
            rw [show ((m + 1 : Nat) : Int) - 1 = (m : Int) by omega]
          · have n1 : dd ≠ dk := fun z => D2.some1.1 (z ▸ hd)
            have n2 : dd ≠ l := fun z => D2.some1.2 (z ▸ hd)
            have e4 := kp4 _ _ ea n1 n2
            have s4 : (upd H2 dd (.lst [])) dd ≠ none := by rw [g0]; exact fun z => nomatch z
            refine ⟨acc, e4, small1000 (by omega), acc ++ [v], upd_same, by rw [List.length_append, la]; rfl, fun u hu => ?_, ?_, fun b o e h1 h2 => ?_, fun b e => ?_⟩
            · rcases List.mem_append.mp hu with hu | hu
              · exact (na u hu).mono ((new_on kp4 Db.some1.1 Db.some1.2).trans (new_upd s4)) (Nat.le_refl _) (Nat.le_refl _)
              · rw [List.mem_singleton.mp hu]
                exact nv.mono ((new_back t3).trans (new_upd s4)) (Nat.le_refl _) (by omega)
            · obtain ⟨ns', m', j', x1, x2, x3⟩ := D4
              exact ⟨ns', m', j', by rw [upd_ne n1.symm]; exact x1, by rw [upd_ne n2.symm]; exact x2, x3⟩
            · rw [upd_ne (ne_of_none e hd)]
              exact kp4 _ _ (kp3 _ _ e h1 h2) h1 h2
            · by_cases c : b = dd
              · rw [c, upd_same] at e; cases e
              · rw [upd_ne c] at e
                exact t3 b (kp4.there D4 b e)
        · rintro H3 ⟨acc, ea, la, na, D3, kp3, t3⟩
          have th : There H (upd H2 dd (.lst [])) := t0.trans ((kp2.there D2).trans tb)
          exact ⟨dd, acc, rfl, ea, t0 _ (kp2.there D2 _ hd), fun v hv => (na v hv).mono (new_back th) (Nat.le_refl _) (Nat.le_refl _), by omega, D3, (kp1.trans kp2).trans kp3⟩
      · refine ⟨(by show 0 ≤ sizeLine; exact Nat.zero_le _), fun p hp => ⟨p, [], rfl, upd_same, t0 p hp, fun v hv => absurd hv (by simp), by decide, D1.same (snew hp), kp1.trans (Keep.of (snew hp))⟩⟩
    · rintro σ' H' ⟨p, ys, rfl, e, hp0, hys, hl, D', kp'⟩
      have td : There H H' := kp'.there D'
      have hb := lo_big n
      have np : NiceD (new H H') (3 * lo n + 8) (2 * n + 1) (.ref p) := (nd_list (new_at hp0 e) hys).mono (Same.refl _) (by
        have : ys.length * (lo n + 2) ≤ 3 * (lo n + 2) := Nat.mul_le_mul_right _ hl
        omega) (Nat.le_refl _)
      refine ⟨_, rfl, rfl, _, rfl, ite2 (fun _ => ?_) (fun _ => ?_)⟩
      · exact ⟨_, rfl, k _ H' (np.mono (Same.refl _) (by omega) (by omega)) D' kp'⟩
      refine ⟨_, rfl, rfl, _, rfl, ite2 (fun _ => ?_) (fun _ => ?_)⟩
      · intro q hq
        have sq := snew (o := .dK []) hq
        refine ⟨_, rfl, _, rfl, p, ys, rfl, .inl (SqL.of (sq _ _ e)), ?_⟩
        refine ⟨upd_same, akv (.ref p) (.int (ys.length : Int)), rfl, (by show 2 ≤ 15; decide), ?_⟩
        rw [akv_merge, upd_upd]
        have sq2 := snew (o := .dK (akv (.ref p) (.int (ys.length : Int)))) hq
        have li : ((ys.length : Int)).natAbs.log2 < 1920 := by
          have h3 : ys.length = 0 ∨ ys.length = 1 ∨ ys.length = 2 ∨ ys.length = 3 := by omega
          rcases h3 with h | h | h | h <;> rw [h] <;> decide
        have nd := nd_dict2 (H := new H (upd H' q (.dK (akv (.ref p) (.int (ys.length : Int)))))) (k1 := Sum.inr "key") (k2 := Sum.inl 1) (new_at (td q hq) upd_same) ((okd_str (m := 40) (by decide +kernel)).mono (Nat.le_refl _) (Nat.zero_le _)) (np.mono (new_same sq2) (Nat.le_refl _) (Nat.le_refl _)) ((okd_int (by decide)).mono (Nat.le_refl _) (Nat.zero_le _)) ((nd_int li).mono (Same.refl _) (Nat.le_refl _) (Nat.zero_le _))
        exact k _ _ (nd.mono (Same.refl _) (by omega) (by omega)) (D'.same sq2) (kp'.trans (Keep.of sq2))
      · refine ⟨_, rfl, p, ys, rfl, .inl ⟨SqL.of e, fun q hq => ?_⟩⟩
        have nt := nd_tup (H := new H (upd H' q (.tup ys))) (new_at (td q hq) upd_same) (fun v hv => (hys v hv).mono (new_same (snew hq)) (Nat.le_refl _) (Nat.le_refl _))
        refine k _ _ (nt.mono (Same.refl _) ?_ (by omega)) (D'.same (snew hq)) (kp'.trans (Keep.of (snew hq)))
        have : ys.length * (lo n + 2) ≤ 3 * (lo n + 2) := Nat.mul_le_mul_right _ hl
        omega
end
end N3

namespace N3
open PySem PySem.Spec PyProof.Rows L2
def Bd (i : Int) : Prop := i.natAbs < 10 ^ 31
def Tri (H : Hp) (x : V) : Prop := ∃ (p : Addr) (d t b : Int), x = .ref p ∧ H p = some (.tup [.int d, .int t, .int b]) ∧ Bd d ∧ Bd t ∧ Bd b
def Num (H : Hp) (r : Addr) (xs : List V) : Prop := H r = some (.tup xs) ∧ xs.length ≤ 4 ∧ ∀ x ∈ xs, Tri H x
theorem Tri.same {H H' : Hp} {x : V} (s : Same H H') (t : Tri H x) : Tri H' x := let ⟨p, d, t, b, e, h, q⟩ := t; ⟨p, d, t, b, e, s _ _ h, q⟩
theorem Tri.upd {H : Hp} {x : V} {f : Addr} {l l' : List V} (hf : H f = some (.lst l)) (t : Tri H x) : Tri (upd H f (.lst l')) x := by
  obtain ⟨p, d, t, b, e, h, q⟩ := t
  exact ⟨p, d, t, b, e, by rw [upd_ne (ne_of h hf (by intro z; cases z))]; exact h, q⟩
/-- the sums of a number: d with top and bottom -/
def Sm (H : Hp) (kvs : List (Key × V)) : Prop := ∀ p ∈ kvs, ∃ (d : Int) (q : Addr) (t b : Int), p = (Sum.inl d, .ref q) ∧ H q = some (.tup [.int t, .int b]) ∧ Bd d ∧ Bd t ∧ Bd b ∧ 1 ≤ b
theorem val_mem : ∀ {kvs : List (Key × V)} {k : Key}, k ∈ kvs.map (·.1) → ∃ v, valV kvs k = some v ∧ (k, v) ∈ kvs
  | [], k, h => by simp at h
  | p :: r, k, h => by
    by_cases c : p.1 = k
    · exact ⟨p.2, by cases p; cases c; exact valV_pos rfl, by rw [← c]; exact List.mem_cons_self⟩
    · obtain ⟨v, e, m⟩ := val_mem (kvs := r) ((List.mem_cons.mp h).elim (fun z => absurd z.symm c) id)
      exact ⟨v, by rw [valV_neg c]; exact e, List.mem_cons_of_mem _ m⟩
def spNum : Sp := fun vs H Q _ => ∃ (a : Addr) (kvs : List (Key × V)), vs = [.ref a] ∧ H a = some (.dK kvs) ∧ Sm H kvs ∧ kvs.length ≤ 4 ∧ ∀ (r : Addr) (xs : List V) (H' : Hp), Num H' r xs → Same H H' → Q (.ref r) H'
section
variable {P : Program} {w : World} {K : PySem.W.Frag} {mg : Str → Option Value} {base : Heap}
theorem scNum : FnScope ["sums", "found", "d", "top", "bottom", "part"] ["sums"] (defScope sNum) := ⟨rfl, rfl, rfl, by decide +kernel, rfl, by decide +kernel, by decide +kernel⟩
theorem ok_num {f f1 : Addr} {fd d1 : FuncData} (F : Fun K "_law_number" "_law_number" sNum f fd) (T : Bt mg) (A1 : Kn P w K mg base 1 "_law_common" ["one", "other"] spCommon f1 d1) : FnOk P w K mg base CX0 2 f fd ["sums"] spNum := by
  refine F.ok scNum (fun vs H Q E h => ?_) (fun cdv A outer s H vs Q E hr h => ?_)
  · obtain ⟨a, kvs, rfl, _⟩ := h
    rfl
  · obtain ⟨a, kvs, rfl, ha, sm, hl, k⟩ := h
    have hu := hu_of hr
    refine ⟨_, pss_cons (ps_set (i := 1) scNum.nd rfl (Or.inl rfl) (pe_lst pa_nil))
      (pss_cons (ps_for PassesOwn.never rfl (pi_list (pe_callB (call_sortedDI rfl) (by rfl) T.sorted (by decide +kernel) (pa_cons (pv 0) pa_nil))) (pg_name (i := 2) scNum.nd rfl (Or.inl rfl))
        (pss_cons (ps_asg (pe_dget hu (pv 0) (pv 2) (fun _ _ => rfl)) (pg_tup rfl (pgs_cons (pg_name (i := 3) scNum.nd rfl (Or.inl rfl)) (pgs_cons (pg_name (i := 4) scNum.nd rfl (Or.inl rfl)) pgs_nil))))
        (pss_one (ps_if (pt_cmpR op_ne (pv 3) pe_int (nomark _))
          (pss_cons (ps_set (i := 5) scNum.nd rfl (Or.inl rfl) (pe_op op_mul (pe_call A1.ok hr rfl A1.mg A1.kp A1.bd .nil pass0 (pa_cons (pv 3) (pa_cons (pv 4) pa_nil))) (pe_ifExp (pt_cmpR op_gt (pv 4) pe_int (nomark _)) pe_int (pe_un un_neg pe_int))))
          (pss_one (ps_expr (pe_bm PySem.F.plainAttrs_list PySem.F.slot_list_append PySem.F.type_list_append mt_append (pv 1) (pa_cons (pe_tup (pa_cons (pv 2) (pa_cons (pe_op op_fdivW (pv 3) (pv 5)) (pa_cons (pe_op op_fdivW (pv 4) (pv 5)) pa_nil)))) pa_nil))))) pss_nil))))
      (pss_one (ps_ret (pe_callTy call_tuple_of (by rfl) T.tuple (by decide +kernel) (pa_cons (pv 1) pa_nil))))), ?_⟩
    refine ⟨Nat.zero_le _, fun fl hf => ?_⟩
    have s0 := snew (o := .lst []) hf
    have ks : ∃ ks : List Int, kvs.map (·.1) = ks.map Sum.inl := by
      clear ha hl
      induction kvs with
      | nil => exact ⟨[], rfl⟩
      | cons p r ih =>
        obtain ⟨d, q, t, b, e, _⟩ := sm p List.mem_cons_self
        obtain ⟨ks, eks⟩ := ih fun x hx => sm x (List.mem_cons_of_mem _ hx)
        exact ⟨d :: ks, by rw [List.map_cons, List.map_cons, eks, e]⟩
    obtain ⟨ks, eks⟩ := ks
    have lk : ks.length = kvs.length := by
      have := congrArg List.length eks
      rw [List.length_map, List.length_map] at this; exact this.symm
    refine ⟨_, rfl, a, kvs, ks, rfl, .inl (s0 _ _ ha), eks, by omega, fun ys q perm _ hq => ⟨q, rfl, ⟨_, SqL.of upd_same⟩, ?_⟩⟩
    have fq : fl ≠ q := ne_of_none upd_same hq
    refine for_list (K := K) (a := q) (xs := ys.map V.int) (fun i σ H' => ∃ (acc : List V) (x2 x3 x4 x5 : Option V), σ = [some (.ref a), some (.ref fl), x2, x3, x4, x5] ∧ H' fl = some (.lst acc) ∧ acc.length ≤ i ∧ (∀ x ∈ acc, Tri H' x) ∧ Same H H' ∧ H' q = some (.lst (ys.map V.int)))
      ⟨[], _, _, _, _, rfl, by rw [upd_ne fq]; exact upd_same, Nat.le_refl _, by simp, s0.trans (snew hq), upd_same⟩ (fun i σ H' _ ⟨_, _, _, _, _, _, _, _, _, _, e⟩ => SqL.of e) ?_ ?_
    · rintro i y σ H' hy ⟨acc, x2, x3, x4, x5, rfl, e1, la, tri, s1, e2⟩
      obtain ⟨d, ed, rfl⟩ := map_get hy
      have hi : i < ys.length := (List.getElem?_eq_some_iff.mp ed).1
      have ly : ys.length = ks.length := perm.length_eq
      have dm : Sum.inl d ∈ kvs.map (·.1) := by
        rw [eks]
        exact List.mem_map.mpr ⟨d, perm.mem_iff.mp (List.mem_of_getElem? ed), rfl⟩
      obtain ⟨v, ev, mv⟩ := val_mem dm
      obtain ⟨d', p, t, b, ep, hp, bd, bt, bb, b1⟩ := sm _ mv
      cases ep
      refine ⟨_, rfl, _, rfl, a, .ref p, rfl, ?_, p, _, rfl, SqT.of (s1 _ _ hp), rfl, _, _, rfl, _, _, rfl, rfl, ?_⟩
      · have := DGet.k (H := H') (k := Sum.inl d) (s1 _ _ ha)
        rw [ev] at this; exact this
      refine ⟨_, rfl, rfl, _, rfl, ite2 (fun c => ?_) (fun c => ?_)⟩
      · have g1 : 1 ≤ Nat.gcd t.natAbs b.natAbs := Nat.gcd_pos_of_pos_right _ (by omega)
        have g2 : Nat.gcd t.natAbs b.natAbs ≤ b.natAbs := Nat.le_of_dvd (by omega) (Nat.gcd_dvd_right _ _)
        obtain ⟨g, eg⟩ : ∃ g, Nat.gcd t.natAbs b.natAbs = g := ⟨_, rfl⟩
        rw [eg] at g1 g2
        refine ⟨_, rfl, _, rfl, t, b, rfl, ?_⟩
        rw [eg]
        refine ⟨_, rfl, _, _, rfl, rfl, _, rfl, ?_⟩
        have cb : decide ((0 : Int) < b) = true := decide_eq_true (by omega)
        rw [cb]
        refine iteT ?_
        refine ⟨_, _, rfl, rfl, .inr ⟨by decide, by decide⟩, ?_⟩
        have lg : ((g : Int) * 1).natAbs.log2 < 9000 := by
          rw [Int.mul_one]
          rcases Nat.eq_zero_or_pos g with z | z
          · omega
          · have : g < 2 ^ 110 := by
              have h1 : b.natAbs < 10 ^ 31 := bb
              have h2 : (10 : Nat) ^ 31 < 2 ^ 110 := by decide
              omega
            have := (Nat.log2_lt (by omega : g ≠ 0)).mpr this
            show g.log2 < 9000
            omega
        have gp : (0 : Int) < (g : Int) * 1 := by omega
        refine ⟨_, rfl, .inl ⟨rfl, _, .inl (.inl e1)⟩, _, rfl, _, rfl, _, rfl, _, _, rfl, rfl, ⟨gp, lg⟩, _, rfl, _, rfl, _, _, rfl, rfl, ⟨gp, lg⟩, by show 3 ≤ sizeLine; rw [sizeLine_eq]; decide, fun n hn => ?_⟩
        have sn := snew (o := .tup [.int d, .int (t / ((g : Int) * 1)), .int (b / ((g : Int) * 1))]) hn
        refine ⟨fl, acc, _, rfl, rfl, sn _ _ e1, small1000 (by omega), ?_⟩
        refine ⟨acc ++ [.ref n], _, _, _, _, rfl, upd_same, by rw [List.length_append]; show _ + 1 ≤ _; omega, fun x hx => ?_, fun c o e => ?_, ?_⟩
        · rcases List.mem_append.mp hx with hx | hx
          · exact ((tri x hx).same sn).upd (sn _ _ e1)
          · rw [List.mem_singleton.mp hx]
            have nf : n ≠ fl := (ne_of_none e1 hn).symm
            refine ⟨n, d, _, _, rfl, by rw [upd_ne nf]; exact upd_same, bd, ?_, ?_⟩
            · exact Nat.lt_of_le_of_lt (Int.natAbs_ediv_le_natAbs _ _) bt
            · exact Nat.lt_of_le_of_lt (Int.natAbs_ediv_le_natAbs _ _) bb
        · rw [upd_ne (ne_of_none e hf)]
          exact sn _ _ (s1 _ _ e)
        · rw [upd_ne fq.symm]; exact sn _ _ e2
      · exact ⟨acc, _, _, _, _, rfl, e1, by omega, tri, s1, e2⟩
    · rintro σ H' ⟨acc, x2, x3, x4, x5, rfl, e1, la, tri, s1, e2⟩
      have ly : ys.length = ks.length := perm.length_eq
      rw [List.length_map] at la
      refine ⟨_, rfl, fl, acc, rfl, .inl ⟨SqL.of e1, fun r hr' => ?_⟩⟩
      exact k r acc _ ⟨upd_same, by omega, fun x hx => (tri x hx).same (snew hr')⟩ (s1.trans (snew hr'))
end
end N3

namespace N3
open PySem PySem.Spec PyProof.Rows L2 N2
def spWide : Sp := fun vs H Q _ => ∃ (dk l : Addr), vs = [.ref dk] ∧ Deck H dk l ∧ ∀ (r : Addr) (xs : List V) (H' : Hp), Num (off dk l H') r xs → Deck H' dk l → Keep dk l H H' → Q (.ref r) H'
theorem put_sm {H : Hp} {kvs : List (Key × V)} {d t b : Int} {q : Addr} (sm : Sm H kvs) (hq : H q = some (.tup [.int t, .int b])) (bd : Bd d) (bt : Bd t) (bb : Bd b) (b1 : 1 ≤ b) : Sm H (putK kvs (Sum.inl d) (.ref q)) := by
  intro p hp
  unfold putK at hp
  split at hp
  · obtain ⟨u, hu, e⟩ := List.mem_map.mp hp
    by_cases c : u.1 = Sum.inl d
    · rw [if_pos c] at e
      exact ⟨d, q, t, b, by rw [← e, c], hq, bd, bt, bb, b1⟩
    · rw [if_neg c] at e
      rw [← e]; exact sm u hu
  · rcases List.mem_append.mp hp with hp | hp
    · exact sm p hp
    · rw [List.mem_singleton.mp hp]
      exact ⟨d, q, t, b, rfl, hq, bd, bt, bb, b1⟩
theorem put_len {kvs : List (Key × V)} {k : Key} {v : V} : (putK kvs k v).length ≤ kvs.length + 1 := by
  unfold putK
  split
  · rw [List.length_map]; omega
  · rw [List.length_append]; show _ + 1 ≤ _; omega
theorem Sm.same {H H' : Hp} {kvs : List (Key × V)} (sm : Sm H kvs) (s : Same H H') : Sm H' kvs := fun p hp => let ⟨d, q, t, b, e, h, r⟩ := sm p hp; ⟨d, q, t, b, e, s _ _ h, r⟩
theorem Num.same {H H' : Hp} {r : Addr} {xs : List V} (n : Num H r xs) (s : Same H H') : Num H' r xs := ⟨s _ _ n.1, n.2.1, fun x hx => (n.2.2 x hx).same s⟩
theorem num_up {H H' : Hp} {dk l : Addr} {r : Addr} {xs : List V} (n : Num H r xs) (h : Same H (off dk l H')) : Num (off dk l H') r xs := n.same h
theorem deck_tup {H : Hp} {dk l b : Addr} {xs : List V} (D : Deck H dk l) (e : H b = some (.tup xs)) : off dk l H b = some (.tup xs) := by
  obtain ⟨ns, m, j, h1, h2, _⟩ := D
  exact off_at (ne_of e h1 (by intro z; cases z)) (ne_of e h2 (by intro z; cases z)) e
theorem num_off {H : Hp} {dk l r : Addr} {xs : List V} (D : Deck H dk l) (n : Num H r xs) : Num (off dk l H) r xs :=
  ⟨deck_tup D n.1, n.2.1, fun x hx => let ⟨p, d, t, b, e, h, q⟩ := n.2.2 x hx; ⟨p, d, t, b, e, deck_tup D h, q⟩⟩
section
variable {P : Program} {w : World} {K : PySem.W.Frag} {mg : Str → Option Value} {base : Heap}
theorem p14 : (10 : Int) ^ (14 : Int).toNat = 100000000000000 := by decide
theorem p29 : (10 : Int) ^ (29 : Int).toNat = 100000000000000000000000000000 := by decide
end
end N3

namespace N3
open PySem PySem.Spec PyProof.Rows L2 N2
/-! ### the law's draws of numbers and rows -/
def spShed (K : PySem.W.Frag) : Sp := fun vs H Q _ => ∃ (a : Addr) (acc : List V) (r : List Nm), vs = [.ref a] ∧ SqL K H a acc ∧ DnAll H acc (r.map encN) ∧ r.length ≤ 1000 ∧
  ∀ (q k : Nat) (H' : Hp), k ≤ r.length → Dn H' (.ref q) (encR (r.take k)) → (r.take k).getLast? ≠ some [] → Same H H' → Q (.ref q) H'
theorem sqL_same {K : PySem.W.Frag} {H H' : Hp} {a : Addr} {xs : List V} (s : Same H H') (h : SqL K H a xs) : SqL K H' a xs := by
  rcases h with (h | ⟨o, h⟩) | h
  · exact .inl (.inl (s _ _ h))
  · exact .inl (.inr ⟨o, s _ _ h⟩)
  · exact .inr h
theorem cutTo (xs : List V) (m : Nat) (h : m ≤ xs.length) : cutV xs none (some (m : Int)) = xs.take m := by
  unfold cutV
  have e1 : HT.sIx xs.length 0 none = 0 := rfl
  have e2 : HT.sIx xs.length xs.length (some (m : Int)) = min m xs.length := HT.sIx_nat xs.length xs.length m
  rw [e1, e2, Nat.min_eq_left h]
  rfl
theorem dnAll_take {H : Hp} : ∀ {xs : List V} {ds : List PyData}, DnAll H xs ds → ∀ k, DnAll H (xs.take k) (ds.take k)
  | _, _, _, 0 => .nil
  | _, _, .nil, _ + 1 => .nil
  | _, _, .cons a r, k + 1 => .cons a (dnAll_take r k)
section
variable {P : Program} {w : World} {K : PySem.W.Frag} {mg : Str → Option Value} {base : Heap}
abbrev s__law_shed : Stmt := top 47
theorem sc__law_shed : FnScope ["row", "many"] ["row"] (defScope s__law_shed) := ⟨rfl, rfl, rfl, by decide +kernel, rfl, by decide +kernel, by decide +kernel⟩
theorem ok__law_shed {f  : Addr} {fd  : FuncData}  (F : Fun K "_law_shed" "_law_shed" s__law_shed f fd) (T : Bt mg)  : FnOk P w K mg base CX0 1 f fd ["row"] (spShed K) := by
  refine F.ok sc__law_shed (fun vs H Q E h => ?_) (fun cdv A outer s H vs Q E hr h => ?_)
  · obtain ⟨a, acc, r, rfl, _⟩ := h
    rfl
  · obtain ⟨a, acc, r, rfl, ha, ra, hl, k⟩ := h
    refine ⟨_, pss_cons (ps_set (i := 1) sc__law_shed.nd rfl (Or.inl rfl) (pe_callB call_len (by rfl) T.len PySem.boot_len (pa_cons (pv 0) pa_nil)))
      (pss_cons (ps_while PassesOwn.never (PW.pt (pw_and (pt_cmpR op_gt (pv 1) pe_int (nomark _)) (pw_and1 (pt_cmpR (op_eqD hr.units) (pe_ix (r := rIx K) ix_seq (pv 0) (pe_op op_sub (pv 1) pe_int) (fun _ _ => rfl)) (pe_tup pa_nil) (nomark _)))))
        (pss_one (ps_set (i := 1) sc__law_shed.nd rfl (Or.inl rfl) (pe_op op_sub (pv 1) pe_int))))
      (pss_one (ps_ret (pe_callTy call_tuple_of (by rfl) T.tuple (by decide +kernel) (pa_cons (pe_slice sl_list (pv 0) po_none (po_some (pv 1))) pa_nil))))), ?_⟩
    have lr : acc.length = r.length := by rw [ra.length, List.length_map]
    refine ⟨_, rfl, .ref a, acc.length, rfl, .inl ⟨acc, ha, rfl⟩, ?_⟩
    refine ⟨fun m σ H' => ∃ j : Nat, σ = [some (.ref a), some (.int (j : Int))] ∧ j ≤ r.length ∧ Same H H' ∧ m = j, ⟨_, acc.length, rfl, by omega, Same.refl _, rfl⟩, ?_⟩
    rintro m σ H1 ⟨j, rfl, jl, s1, rfl⟩
    have fin : ∀ H2, Same H H2 → (r.take m).getLast? ≠ some [] → tRet (tCB (fun xs H Q => ∃ p ys, xs = [V.ref p] ∧ ((SqL K H p ys ∧ ∀ l, H l = none → Q (.ref l) (upd H l (.tup ys))) ∨ SqT K H p ys ∧ Q (.ref p) H)) (tCons (tSl (rSlL K) (tVar 0) tNoPart (tPart (tVar 1))) tNil)) { nx := fun x H' => Q V.non H', rt := Q } [some (.ref a), some (.int (m : Int))] H2 := fun H2 s2 hm => by
      refine ⟨_, rfl, ?_⟩
      dsimp only [tNoPart]
      have e : cutV acc none (some (m : Int)) = acc.take m := cutTo acc m (by omega)
      refine ⟨_, rfl, _, rfl, a, acc, rfl, sqL_same s2 ha, ?_⟩
      rw [e]
      intro p hp
      refine ⟨p, _, rfl, .inl ⟨SqL.of upd_same, fun q hq => ?_⟩⟩
      refine k q m _ jl (.tup upd_same ?_) hm (s2.trans ((snew hp).trans (snew hq)))
      rw [List.map_take]
      exact DnAll.mono (s2.trans ((snew hp).trans (snew hq))) _ _ (dnAll_take ra m)
    refine ⟨_, rfl, _, _, rfl, rfl, _, rfl, ite_b (fun c => ?_) (fun c => ?_)⟩
    · have c' : 0 < m := by have := of_decide_eq_true c; omega
      obtain ⟨n, en⟩ : ∃ n, r[m - 1]? = some n := ⟨_, List.getElem?_eq_getElem (by omega)⟩
      obtain ⟨x, ex, dx⟩ := dn_at ra (show (r.map encN)[m - 1]? = some (encN n) by rw [List.getElem?_map, en]; rfl)
      have ei : ((m : Int) - 1) = ((m - 1 : Nat) : Int) := by omega
      refine ⟨_, rfl, _, rfl, _, _, rfl, rfl, .inl ⟨a, acc, _, _, rfl, rfl, sqL_same s1 ha, by rw [ei]; exact atI_nat ex, ?_⟩⟩
      refine ⟨Nat.zero_le _, fun p hp => ⟨encN n, .tuple [], tn_dp _ _ (encN_tn n) (Dn.mono (s1.trans (snew hp)) _ _ dx), .tup (SqT.of upd_same) .nil, encN_shaped n, rfl, _, rfl, ?_⟩⟩
      rw [eqv_nil_d (encN_tn n)]
      have sp := s1.trans (snew (o := .tup []) hp)
      refine ite_b (fun c2 => ?_) (fun c2 => ?_)
      · refine ⟨fun σ H' => σ = [some (.ref a), some (.int ((m : Int) - 1))] ∧ Same H H', fun σ' H' ⟨e1, e2⟩ => ⟨m - 1, by omega, m - 1, by rw [e1, ei], by omega, e2, rfl⟩, ?_⟩
        exact ⟨_, rfl, _, _, rfl, rfl, rfl, sp⟩
      · refine fin _ sp fun z => ?_
        rw [List.getLast?_take, if_neg (by omega), en] at z
        have z' : n = [] := by simpa using z
        rw [z'] at c2
        cases c2
    · refine iteF ?_
      have m0 : m = 0 := by have := of_decide_eq_false c; omega
      subst m0
      exact fin _ s1 (by simp)
end
end N3

namespace N3
open PySem PySem.Spec PyProof.Rows L2 N2
/-- a tuple of three small ints -/
def P3 (c : Nat) (H : Hp) (x : V) : Prop := ∃ (p : Addr) (a b d : Int), x = .ref p ∧ H p = some (.tup [.int a, .int b, .int d]) ∧ a.natAbs ≤ c ∧ b.natAbs ≤ c ∧ d.natAbs ≤ c
theorem p3_add {c : Nat} {H : Hp} {L : List V} {p : Addr} {a b d : Int} (h : ∀ x ∈ L, P3 c H x) (hp : H p = none) (h1 : a.natAbs ≤ c) (h2 : b.natAbs ≤ c) (h3 : d.natAbs ≤ c) : ∀ x ∈ L ++ [.ref p], P3 c (upd H p (.tup [.int a, .int b, .int d])) x := by
  intro x hx
  rcases List.mem_append.mp hx with hx | hx
  · obtain ⟨q, a', b', d', e, hq, r⟩ := h x hx
    exact ⟨q, a', b', d', e, snew hp _ _ hq, r⟩
  · rw [List.mem_singleton.mp hx]
    exact ⟨p, a, b, d, rfl, upd_same, h1, h2, h3⟩
theorem deck_upd {H : Hp} {dk l f : Addr} {o : HO} (D : Deck H dk l) (h1 : f ≠ dk) (h2 : f ≠ l) : Deck (upd H f o) dk l := by
  obtain ⟨ns, m, j, z1, z2, z3⟩ := D
  exact ⟨ns, m, j, by rw [upd_ne (Ne.symm h1)]; exact z1, by rw [upd_ne (Ne.symm h2)]; exact z2, z3⟩
/-- an int for sums and products of few -/
def spRoots : Sp := fun vs H Q _ => ∃ (dk l : Addr), vs = [.ref dk] ∧ Deck H dk l ∧ ∀ (p : Addr) (ms : List Int) (H' : Hp), H' p = some (.lst (ms.map V.int)) → p ≠ dk → p ≠ l → ms ≠ [] → ms.length ≤ 8 → (∀ m ∈ ms, m.natAbs ≤ 8000000) → Deck H' dk l → Keep dk l H H' → Q (.ref p) H'
section
variable {P : Program} {w : World} {K : PySem.W.Frag} {mg : Str → Option Value} {base : Heap}
abbrev s__law_roots : Stmt := top 36
abbrev nsRts : List Str := ["deck", "parts", "found", "part", "d"]
theorem sc__law_roots : FnScope nsRts ["deck"] (defScope s__law_roots) := ⟨rfl, rfl, rfl, by decide +kernel, rfl, by decide +kernel, by decide +kernel⟩
theorem ok__law_roots {f f__law_pick : Addr} {fd d__law_pick : FuncData}  (F : Fun K "_law_roots" "_law_roots" s__law_roots f fd) (T : Bt mg) (l_pick : Kn P w K mg base 2 "_law_pick" ["deck", "some"] (spPick K) f__law_pick d__law_pick) : FnOk P w K mg base CX0 3 f fd ["deck"] spRoots := by
  refine F.ok sc__law_roots (fun vs H Q E h => ?_) (fun cdv A outer s H vs Q E hr h => ?_)
  · obtain ⟨dk, l, rfl, _⟩ := h
    rfl
  · obtain ⟨dk, l, rfl, De, k⟩ := h
    refine ⟨_, pss_cons (ps_set (i := 1) sc__law_roots.nd rfl (Or.inl rfl) (pe_call l_pick.ok (hr.mono (by decide)) rfl l_pick.mg l_pick.kp l_pick.bd .nil pass0 (pa_cons (pv 0) (pa_cons (pe_lst (pa_cons (pe_tup (pa_cons (pe_un un_neg pe_int) (pa_cons pe_int (pa_cons pe_int pa_nil)))) (pa_cons (pe_tup (pa_cons pe_int (pa_cons pe_int (pa_cons pe_int pa_nil)))) (pa_cons (pe_tup (pa_cons (pe_un un_neg pe_int) (pa_cons pe_int (pa_cons pe_int pa_nil)))) (pa_cons (pe_tup (pa_cons (pe_un un_neg pe_int) (pa_cons pe_int (pa_cons pe_int pa_nil)))) (pa_cons (pe_tup (pa_cons pe_int (pa_cons (pe_un un_neg pe_int) (pa_cons pe_int pa_nil)))) (pa_cons (pe_tup (pa_cons (pe_un un_neg pe_int) (pa_cons pe_int (pa_cons pe_int pa_nil)))) (pa_cons (pe_tup (pa_cons (pe_un un_neg pe_int) (pa_cons pe_int (pa_cons pe_int pa_nil)))) (pa_cons (pe_tup (pa_cons pe_int (pa_cons pe_int (pa_cons pe_int pa_nil)))) pa_nil))))))))) pa_nil))))
      (pss_cons (ps_set (i := 2) sc__law_roots.nd rfl (Or.inl rfl) (pe_lst (pa_cons pe_int pa_nil)))
      (pss_cons (ps_for PassesOwn.never rfl (pi_tup (pv 1)) (pg_name (i := 3) sc__law_roots.nd rfl (Or.inr rfl))
        (pss_one (ps_expr (pe_bm PySem.F.plainAttrs_list PySem.F.slot_list_extend PySem.F.type_list_extend mt_extend (pv 2) (pa_cons (pe_lc (own := [("d", 4)]) (g := (gName 4)) (tt := tYes) rfl sc__law_roots.nd (pi_list (pv 2)) (blkOk_by (own := [("d", 4)]) (N := nsRts) (sc := defScope s__law_roots) (by decide +kernel)) (fun _ _ _ _ _ => pg_name (i := 4) sc__law_roots.nd rfl (Or.inl rfl)) (fun _ _ _ _ _ => pts_nil) (fun _ _ _ _ _ => (pe_op op_mul (pv 4) (pv 3)))) pa_nil)))))
      (pss_one (ps_ret (pv 2))))), ?_⟩
    have s3 : 3 ≤ sizeLine := by rw [sizeLine_eq]; decide
    have s8 : 8 ≤ sizeLine := by rw [sizeLine_eq]; decide
    have b : ∀ x : Int, x.natAbs ≤ 200 → x.natAbs ≤ 200 := fun _ h => h
    refine ⟨_, rfl, _, rfl, s3, fun p1 hp1 => ⟨s3, fun p2 hp2 => ⟨_, rfl, s3, fun p3 hp3 => ⟨_, rfl, s3, fun p4 hp4 => ⟨_, rfl, s3, fun p5 hp5 => ⟨_, rfl, s3, fun p6 hp6 => ⟨_, rfl, s3, fun p7 hp7 => ⟨s3, fun p8 hp8 => ⟨s8, fun p hp => ?_⟩⟩⟩⟩⟩⟩⟩⟩⟩
    have A := p3_add (c := 200) (p3_add (p3_add (p3_add (p3_add (p3_add (p3_add (p3_add (L := []) (fun x hx => absurd hx (by simp)) hp1 (a := -1) (b := 2) (d := 3) (by decide) (by decide) (by decide)) hp2 (a := 2) (b := 3) (d := 5) (by decide) (by decide) (by decide)) hp3 (a := -1) (b := 5) (d := 7) (by decide) (by decide) (by decide)) hp4 (a := -2) (b := 3) (d := 11) (by decide) (by decide) (by decide))
      hp5 (a := 2) (b := -7) (d := 13) (by decide) (by decide) (by decide)) hp6 (a := -3) (b := 2) (d := 101) (by decide) (by decide) (by decide)) hp7 (a := -1) (b := 97) (d := 103) (by decide) (by decide) (by decide)) hp8 (a := 6) (b := 35) (d := 143) (by decide) (by decide) (by decide)
    generalize eH8 : upd _ p8 (HO.tup [.int 6, .int 35, .int 143]) = H8 at A hp
    have k8 : Same H H8 := by
      rw [← eH8]
      exact ((((((((snew hp1).trans (snew hp2)).trans (snew hp3)).trans (snew hp4)).trans (snew hp5)).trans (snew hp6)).trans (snew hp7)).trans (snew hp8))
    have D8 := De.same k8
    refine pick_new (E := E0) D8 hp (by simp) (by show 8 < _; decide) fun x H1 hx D1 k1 => ?_
    obtain ⟨q, a', b', d', rfl, hq, ba, bb, bd⟩ := A x hx
    have hq1 : H1 q = some (.tup [.int a', .int b', .int d']) := by
      have := deck_tup D8 hq
      exact k1 _ _ hq (of_off this).1 (of_off this).2.1
    have sl1 : 1 ≤ sizeLine := by rw [sizeLine_eq]; decide
    refine ⟨sl1, fun f hf => ?_⟩
    have nf : f ≠ dk ∧ f ≠ l := ⟨fun z => D1.some1.1 (z ▸ hf), fun z => D1.some1.2 (z ▸ hf)⟩
    have sf := snew (o := .lst [.int 1]) hf
    have nb : ∀ b o, H b = some o → b ≠ dk → b ≠ l → b ≠ f := fun b o e h1 h2 => ne_of_none (k1 _ _ (k8 _ _ e) h1 h2) hf
    refine ⟨_, rfl, q, rfl, ⟨_, SqT.of (sf _ _ hq1)⟩, for_tup (K := K) (a := q) (xs := [.int a', .int b', .int d']) (fun i σ H' => (∃ x3, σ = [some (.ref dk), some (.ref q), some (.ref f), x3, none]) ∧ ∃ ms : List Int, H' f = some (.lst (ms.map V.int)) ∧ ms.length = 2 ^ i ∧ (∀ m ∈ ms, m.natAbs ≤ 200 ^ i) ∧ Deck H' dk l ∧ Keep dk l H H' ∧ H' q = some (.tup [.int a', .int b', .int d']))
      ⟨⟨none, rfl⟩, [1], upd_same, rfl, by simp, D1.same sf, ((Keep.of k8).trans k1).trans (Keep.of sf), sf _ _ hq1⟩ (fun i σ H' _ ⟨_, _, _, _, _, _, _, e⟩ => SqT.of e) ?_ ?_⟩
    · rintro i y σ H' hy ⟨⟨x3, rfl⟩, ms, e1, e2, e3, D2, k2, e4⟩
      obtain ⟨c, rfl, bc⟩ : ∃ c : Int, y = .int c ∧ c.natAbs ≤ 200 := by
        match i, hy with
        | 0, hy => exact ⟨a', by simpa using hy.symm, ba⟩
        | 1, hy => exact ⟨b', by simpa using hy.symm, bb⟩
        | 2, hy => exact ⟨d', by simpa using hy.symm, bd⟩
        | _ + 3, hy => simp at hy
      have il : i < 3 := (List.getElem?_eq_some_iff.mp hy).1
      have p8' : 2 ^ i ≤ 4 := by
        have : i = 0 ∨ i = 1 ∨ i = 2 := by omega
        rcases this with h | h | h <;> rw [h] <;> decide
      refine ⟨_, rfl, .inl ⟨rfl, _, SqL.of e1⟩, _, rfl, f, rfl, ⟨_, SqL.of e1⟩, fun D hD => lc_list (K := K) (a := f) (xs := ms.map V.int) (fun j H2 => H2 D = some (.lst ((ms.take j).map fun m => V.int (m * c))) ∧ Same H' H2)
        ⟨upd_same, snew hD⟩ (fun j H2 _ p => SqL.of (p.2 _ _ e1)) ?_ ?_⟩
      · rintro j z H2 hz ⟨f1, s2⟩
        rw [List.getElem?_map] at hz
        obtain ⟨m, em, rfl⟩ := Option.map_eq_some_iff.mp hz
        have jl := (List.getElem?_eq_some_iff.mp em).1
        refine ⟨rfl, _, rfl, _, rfl, _, _, rfl, rfl, .inr ⟨by omega, by omega⟩, _, f1, by rw [List.length_map, List.length_take]; exact small1000 (by omega), ?_, fun x o e => ?_⟩
        · rw [upd_same, List.take_add_one, em]
          simp
        · rw [upd_ne (ne_of_none e hD)]; exact s2 _ _ e
      · rintro H2 ⟨f1, s2⟩
        have f1' : H2 D = some (.lst (ms.map fun m => V.int (m * c))) := by rw [f1, List.length_map, List.take_length]
        have lz : (ms.map V.int).length + (ms.map fun m => V.int (m * c)).length ≤ sizeLine := by
          rw [List.length_map, List.length_map]
          have := small1000 (n := ms.length + ms.length) (by omega)
          omega
        refine ⟨f, D, _, _, rfl, rfl, s2 _ _ e1, f1', lz, ⟨⟨_, rfl⟩, ms ++ ms.map fun m => m * c, ?_, ?_, ?_, deck_upd (D2.same s2) nf.1 nf.2, fun b o e h1 h2 => ?_, ?_⟩⟩
        · rw [upd_same, List.map_append, List.map_map]
          rfl
        · rw [List.length_append, List.length_map, e2, Nat.pow_succ]; omega
        · intro m hm
          have pp : 0 < 200 ^ i := Nat.pow_pos (by decide)
          rcases List.mem_append.mp hm with hm | hm
          · have := e3 m hm
            rw [Nat.pow_succ]; omega
          · obtain ⟨m', hm', rfl⟩ := List.mem_map.mp hm
            rw [Int.natAbs_mul, Nat.pow_succ]
            exact Nat.mul_le_mul (e3 m' hm') bc
        · rw [upd_ne (nb b o e h1 h2)]
          exact s2 _ _ (k2 b o e h1 h2)
        · rw [upd_ne (ne_of_none hq1 hf)]
          exact s2 _ _ e4
    · rintro σ H' ⟨⟨x3, rfl⟩, ms, e1, e2, e3, D2, k2, e4⟩
      refine ⟨_, rfl, k f ms H' e1 nf.1 nf.2 (fun z => ?_) (by rw [e2]; show 2 ^ 3 ≤ 8; decide) (fun m hm => Nat.le_trans (e3 m hm) (by show 200 ^ 3 ≤ 8000000; decide)) D2 k2⟩
      rw [z] at e2
      cases e2
end
end N3

namespace N3
open PySem PySem.Spec PyProof.Rows L2 N2
/-- a number of few triples with parts that are not too great -/
def Sn (n : Nm) : Prop := n.length ≤ 4 ∧ ∀ x ∈ n, Bd x.1 ∧ Bd x.2.1 ∧ Bd x.2.2
theorem num_dn {H : Hp} {r : Addr} {xs : List V} (h : Num H r xs) : ∃ n, Dn H (.ref r) (encN n) ∧ Sn n := by
  obtain ⟨e, hl, ht⟩ := h
  have : ∃ n : Nm, DnAll H xs (n.map encT) ∧ n.length = xs.length ∧ ∀ x ∈ n, Bd x.1 ∧ Bd x.2.1 ∧ Bd x.2.2 := by
    clear e hl
    induction xs with
    | nil => exact ⟨[], .nil, rfl, by simp⟩
    | cons x r ih =>
      obtain ⟨n, h1, h2, h3⟩ := ih fun y hy => ht y (List.mem_cons_of_mem _ hy)
      obtain ⟨p, d, t, b, rfl, hp, b1, b2, b3⟩ := ht x List.mem_cons_self
      refine ⟨(d, t, b) :: n, .cons (.tup hp (.cons (.int _) (.cons (.int _) (.cons (.int _) .nil)))) h1, by simp [h2], fun y hy => ?_⟩
      rcases List.mem_cons.mp hy with rfl | hy
      · exact ⟨b1, b2, b3⟩
      · exact h3 y hy
  obtain ⟨n, h1, h2, h3⟩ := this
  exact ⟨n, .tup e h1, by omega, h3⟩
theorem sqL_keep {K : PySem.W.Frag} {H H' : Hp} {dk l a : Addr} {xs : List V} (s : Keep dk l H H') (h1 : a ≠ dk) (h2 : a ≠ l) (h : SqL K H a xs) : SqL K H' a xs := by
  rcases h with (h | ⟨o, h⟩) | h
  · exact .inl (.inl (s _ _ h h1 h2))
  · exact .inl (.inr ⟨o, s _ _ h h1 h2⟩)
  · exact .inr h
def spDrawn (K : PySem.W.Frag) : Sp := fun vs H Q _ => ∃ (dk l p : Addr) (ms : List Int) (many size : Int), vs = [.ref dk, .ref p, .int many, .int size] ∧ Deck H dk l ∧ SqL K H p (ms.map V.int) ∧ p ≠ dk ∧ p ≠ l ∧ ms ≠ [] ∧ ms.length ≤ 8 ∧ (∀ m ∈ ms, m.natAbs ≤ 8000000) ∧ 0 ≤ many ∧ many ≤ 3 ∧ 0 < size ∧ size ≤ 100000000000000000000000000000 ∧
  ∀ (r : Addr) (n : Nm) (H' : Hp), Dn (off dk l H') (.ref r) (encN n) → Sn n → Deck H' dk l → Keep dk l H H' → Q (.ref r) H'
section
variable {P : Program} {w : World} {K : PySem.W.Frag} {mg : Str → Option Value} {base : Heap}
abbrev s__law_drawn : Stmt := top 37
abbrev nsDrn : List Str := ["deck", "menu", "many", "size", "sums", "turn", "top", "bottom"]
theorem sc__law_drawn : FnScope nsDrn ["deck", "menu", "many", "size"] (defScope s__law_drawn) := ⟨rfl, rfl, rfl, by decide +kernel, rfl, by decide +kernel, by decide +kernel⟩
theorem ok__law_drawn {f f__law_draw f__law_great f__law_pick f__law_number : Addr} {fd d__law_draw d__law_great d__law_pick d__law_number : FuncData}  (F : Fun K "_law_drawn" "_law_drawn" s__law_drawn f fd) (T : Bt mg) (l_draw : Kn P w K mg base 1 "_law_draw" ["deck", "many"] spDraw f__law_draw d__law_draw) (l_great : Kn P w K mg base 2 "_law_great" ["deck", "many"] spGreat f__law_great d__law_great) (l_pick : Kn P w K mg base 2 "_law_pick" ["deck", "some"] (spPick K) f__law_pick d__law_pick) (l_number : Kn P w K mg base 2 "_law_number" ["sums"] spNum f__law_number d__law_number) : FnOk P w K mg base CX0 3 f fd ["deck", "menu", "many", "size"] (spDrawn K) := by
  refine F.ok sc__law_drawn (fun vs H Q E h => ?_) (fun cdv A outer s H vs Q E hr h => ?_)
  · obtain ⟨dk, l, p, ms, many, size, rfl, _⟩ := h
    rfl
  · obtain ⟨dk, l, p, ms, many, size, rfl, De, hp, np1, np2, mne, mlen, mbd, m0, m3, z0, z1, k⟩ := h
    have hu := hu_of hr
    refine ⟨_, pss_cons (ps_set (i := 4) sc__law_drawn.nd rfl (Or.inl rfl) pe_dnewK)
      (pss_cons (ps_for PassesOwn.never rfl (pi_range1 rfl T.range (pa_cons (pe_call l_draw.ok (hr.mono (by decide)) rfl l_draw.mg l_draw.kp l_draw.bd .nil pass0 (pa_cons (pv 0) (pa_cons (pe_op op_add (pv 2) pe_int) pa_nil))) pa_nil)) (pg_name (i := 5) sc__law_drawn.nd rfl (Or.inl rfl))
        (pss_cons (ps_par (i := 6) (j := 7) rfl sc__law_drawn.nd rfl rfl (by decide) rfl rfl (pa_cons (pe_op op_add pe_int (pe_call l_great.ok (hr.mono (by decide)) rfl l_great.mg l_great.kp l_great.bd .nil pass0 (pa_cons (pv 0) (pa_cons (pv 3) pa_nil)))) (pa_cons (pe_op op_add pe_int (pe_call l_great.ok (hr.mono (by decide)) rfl l_great.mg l_great.kp l_great.bd .nil pass0 (pa_cons (pv 0) (pa_cons (pe_call l_pick.ok (hr.mono (by decide)) rfl l_pick.mg l_pick.kp l_pick.bd .nil pass0 (pa_cons (pv 0) (pa_cons (pe_lst (pa_cons pe_int (pa_cons pe_int (pa_cons pe_int (pa_cons pe_int (pa_cons (pv 3) pa_nil)))))) pa_nil))) pa_nil)))) pa_nil)) (by rfl))
        (pss_one (ps_dput hu (pv 4) (pe_call l_pick.ok (hr.mono (by decide)) rfl l_pick.mg l_pick.kp l_pick.bd .nil pass0 (pa_cons (pv 0) (pa_cons (pv 1) pa_nil))) (pe_tup (pa_cons (pe_op op_mul (pv 6) (pe_call l_pick.ok (hr.mono (by decide)) rfl l_pick.mg l_pick.kp l_pick.bd .nil pass0 (pa_cons (pv 0) (pa_cons (pe_lst (pa_cons pe_int (pa_cons (pe_un un_neg pe_int) pa_nil))) pa_nil)))) (pa_cons (pv 7) pa_nil))) rfl))))
      (pss_one (ps_ret (pe_call l_number.ok (hr.mono (by decide)) rfl l_number.mg l_number.kp l_number.bd .nil pass0 (pa_cons (pv 4) pa_nil))))), ?_⟩
    intro sd hsd
    have s0 := snew (o := .dK []) hsd
    have D0 := De.same s0
    refine ⟨_, rfl, _, rfl, _, _, rfl, rfl, dk, l, _, rfl, D0, by omega, by omega, fun r H1 r0 r5 D1 k1 => ?_⟩
    have nd : sd ≠ dk := fun z => De.some1.1 (z ▸ hsd)
    have nl : sd ≠ l := fun z => De.some1.2 (z ▸ hsd)
    refine ⟨r, rfl, by omega, by omega, ?_⟩
    refine for_range (lo := 0) (n := r.toNat) (fun i σ H' => ∃ (kvs : List (Key × V)) (x5 x6 x7 : Option V), σ = [some (.ref dk), some (.ref p), some (.int many), some (.int size), some (.ref sd), x5, x6, x7] ∧ H' sd = some (.dK kvs) ∧ kvs.length ≤ i ∧ Sm (off dk l H') kvs ∧ Deck H' dk l ∧ Keep dk l H H')
      ⟨[], _, _, _, rfl, k1 _ _ upd_same nd nl, Nat.le_refl _, fun p hp => absurd hp (by simp), D1, fun b o e h1 h2 => k1 _ _ (s0 _ _ e) h1 h2⟩ ?_ ?_
    · rintro i σ H' hi ⟨kvs, x5, x6, x7, rfl, e1, lk, sm, D2, old⟩
      refine ⟨_, rfl, _, rfl, dk, l, size, rfl, D2, z0, fun tp He t0 t1 De' ke => ?_⟩
      refine ⟨_, _, rfl, rfl, ?_⟩
      refine ⟨_, rfl, _, rfl, _, rfl, by show 5 ≤ sizeLine; rw [sizeLine_eq]; decide, fun p4 hp4 => ?_⟩
      refine pick_new (E := E0) De' hp4 (by simp) (by show 5 < _; decide) fun x4' Hf hx4 Df kf => ?_
      obtain ⟨bz, rfl, bz0, bz1⟩ : ∃ m : Int, x4' = .int m ∧ 0 < m ∧ m ≤ 100000000000000000000000000000 := by
        simp only [List.mem_cons, List.not_mem_nil, or_false] at hx4
        rcases hx4 with rfl | rfl | rfl | rfl | rfl
        · exact ⟨_, rfl, by decide, by decide⟩
        · exact ⟨_, rfl, by decide, by decide⟩
        · exact ⟨_, rfl, by decide, by decide⟩
        · exact ⟨_, rfl, by decide, by decide⟩
        · exact ⟨_, rfl, z0, z1⟩
      refine ⟨dk, l, bz, rfl, Df, bz0, fun bt Hg b0 b1 Dg kg => ?_⟩
      refine ⟨_, _, rfl, rfl, _, _, rfl, ?_⟩
      refine ⟨_, rfl, _, rfl, _, rfl, by show 2 ≤ sizeLine; rw [sizeLine_eq]; decide, fun p5 hp5 => ?_⟩
      refine pick_new (E := E0) Dg hp5 (by simp) (by show 2 < _; decide) fun x5' Hh hx5 Dh kh => ?_
      obtain ⟨s5, rfl, s51⟩ : ∃ m : Int, x5' = .int m ∧ (m = 1 ∨ m = -1) := by
        simp only [List.mem_cons, List.not_mem_nil, or_false] at hx5
        rcases hx5 with rfl | rfl
        · exact ⟨_, rfl, .inl rfl⟩
        · exact ⟨_, rfl, .inr rfl⟩
      refine ⟨_, _, rfl, rfl, .inr ⟨by omega, by omega⟩, _, rfl, by show 2 ≤ sizeLine; rw [sizeLine_eq]; decide, fun q hq => ?_⟩
      have kall : Keep dk l H' Hh := ((ke.trans kf).trans kg).trans kh
      have esd : Hh sd = some (.dK kvs) := kall _ _ e1 nd nl
      have sq := snew (o := .tup [.int ((1 + tp) * s5), .int (1 + bt)]) hq
      have Dq := Dh.same sq
      have qd : q ≠ dk := fun z => Dh.some1.1 (z ▸ hq)
      have ql : q ≠ l := fun z => Dh.some1.2 (z ▸ hq)
      have kq : Keep dk l H' (upd Hh q (.tup [.int ((1 + tp) * s5), .int (1 + bt)])) := kall.trans (Keep.of sq)
      refine ⟨_, rfl, _, rfl, _, rfl, dk, l, p, ms.map V.int, rfl, Dq, sqL_keep (old.trans kq) np1 np2 hp, np1, np2, (fun z => mne (List.map_eq_nil_iff.mp z)), by rw [List.length_map]; omega, fun x Hk hx Dk kk => ?_⟩
      obtain ⟨u, hu', rfl⟩ := List.mem_map.mp hx
      have ub := mbd u hu'
      have esk : Hk sd = some (.dK kvs) := kk _ _ (sq _ _ esd) nd nl
      have eqk : Hk q = some (.tup [.int ((1 + tp) * s5), .int (1 + bt)]) := kk _ _ upd_same qd ql
      refine ⟨sd, _, rfl, DPut.k (k := Sum.inl u) esk (by show kvs.length < sizeLine; exact small1000 (by omega)), ?_⟩
      have nq : q ≠ sd := (ne_of_none esd hq).symm
      refine ⟨_, _, _, _, rfl, upd_same, ?_, ?_, deck_upd Dk nd nl, fun b o e h1 h2 => ?_⟩
      · have := put_len (kvs := kvs) (k := Sum.inl u) (v := .ref q); omega
      · have smq : Sm (off dk l Hk) kvs := sm.same (off_keep (kq.trans kk))
        have hqo : off dk l Hk q = some (.tup [.int ((1 + tp) * s5), .int (1 + bt)]) := off_at qd ql eqk
        have big31 : (10 : Nat) ^ 31 = 10000000000000000000000000000000 := by decide
        have bnd : ∀ z : Int, -1000000000000000000000000000000 ≤ z → z ≤ 1000000000000000000000000000000 → Bd z := fun z h1 h2 => by show z.natAbs < 10 ^ 31; rw [big31]; omega
        have g := put_sm (d := u) smq hqo (bnd _ (by omega) (by omega)) (by rcases s51 with h | h <;> rw [h] <;> exact bnd _ (by omega) (by omega)) (bnd _ (by omega) (by omega)) (by omega)
        intro p hp
        obtain ⟨d', q', t', b', z1, z2, z3⟩ := g p hp
        refine ⟨d', q', t', b', z1, ?_, z3⟩
        obtain ⟨c1, c2, c3⟩ := of_off z2
        refine off_at c1 c2 ?_
        rw [upd_ne (ne_of c3 esk (by intro z; cases z))]
        exact c3
      · have e' := (old.trans (kq.trans kk)) b o e h1 h2
        rw [upd_ne (ne_of_none e hsd)]
        exact e'
    · rintro σ H' ⟨kvs, x5, x6, x7, rfl, e1, lk, sm, D2, old⟩
      refine ⟨_, rfl, sd, kvs, rfl, e1, sm.same off_in, by omega, fun rr xs H2 nm s2 => ?_⟩
      obtain ⟨n, dn, sn⟩ := num_dn (num_off (D2.same s2) nm)
      exact k rr n H2 dn sn (D2.same s2) fun b o e h1 h2 => s2 _ _ (old b o e h1 h2)
end
end N3

namespace N3
open PySem PySem.Spec PyProof.Rows L2 N2
/-- a drawn pole -/
def SPl (pl : Pl) : Prop := pl.1.natAbs ≤ 20 ∧ 1 ≤ pl.2 ∧ pl.2 ≤ 20
def PlAt (H : Hp) (x : V) : Prop := ∃ (p : Addr) (pl : Pl), x = .ref p ∧ H p = some (.tup [.int pl.1, .int pl.2]) ∧ SPl pl
theorem PlAt.same {H H' : Hp} {x : V} (s : Same H H') (h : PlAt H x) : PlAt H' x := let ⟨p, pl, e, h, q⟩ := h; ⟨p, pl, e, s _ _ h, q⟩
/-- the key of a pole -/
def kyP (pl : Pl) : List L2.Key := [.inl pl.1, .inl pl.2]
theorem put_lenT {kvs : List (List L2.Key × V)} {k : List L2.Key} {v : V} : (putK kvs k v).length ≤ kvs.length + 1 := by
  unfold putK
  split
  · rw [List.length_map]; omega
  · rw [List.length_append]; show _ + 1 ≤ _; omega
theorem put_memT {kvs : List (List L2.Key × V)} {k : List L2.Key} {v : V} {q : List L2.Key × V} (h : q ∈ putK kvs k v) : q ∈ kvs ∨ (q.1 = k ∨ ∃ q' ∈ kvs, q = q') := by
  unfold putK at h
  split at h
  · obtain ⟨u, hu, e⟩ := List.mem_map.mp h
    by_cases c : u.1 = k
    · rw [if_pos c] at e
      exact .inr (.inl (by rw [← e]; exact c))
    · rw [if_neg c] at e
      exact .inl (e ▸ hu)
  · rcases List.mem_append.mp h with h | h
    · exact .inl h
    · rw [List.mem_singleton.mp h]
      exact .inr (.inl rfl)
theorem pl_add {H : Hp} {L : List V} {p : Addr} (a b : Int) (h : ∀ x ∈ L, PlAt H x) (hp : H p = none) (hs : SPl (a, b)) : ∀ x ∈ L ++ [.ref p], PlAt (upd H p (.tup [.int a, .int b])) x := by
  intro x hx
  rcases List.mem_append.mp hx with hx | hx
  · exact (h x hx).same (snew hp)
  · rw [List.mem_singleton.mp hx]
    exact ⟨p, (a, b), rfl, upd_same, hs⟩
theorem plAt_keep {H H' : Hp} {dk l : Addr} {x : V} (D : Deck H dk l) (k : Keep dk l H H') (h : PlAt H x) : PlAt H' x := by
  obtain ⟨p, pl, e, h, q⟩ := h
  have := of_off (deck_tup D h)
  exact ⟨p, pl, e, k _ _ h this.1 this.2.1, q⟩
def spPoleD : Sp := fun vs H Q _ => ∃ (dk l : Addr), vs = [.ref dk] ∧ Deck H dk l ∧ ∀ (x : V) (H' : Hp), PlAt H' x → Deck H' dk l → Keep dk l H H' → Q x H'
def spPoles : Sp := fun vs H Q _ => ∃ (dk l : Addr) (most : Int), vs = [.ref dk, .int most] ∧ Deck H dk l ∧ 0 ≤ most ∧ most ≤ 100 ∧
  ∀ (p : Addr) (xs : List V) (H' : Hp), H' p = some (.lst xs) → p ≠ dk → p ≠ l → (xs.length : Int) ≤ most → (∀ x ∈ xs, PlAt H' x) → Deck H' dk l → Keep dk l H H' → Q (.ref p) H'
section
variable {P : Program} {w : World} {K : PySem.W.Frag} {mg : Str → Option Value} {base : Heap}
abbrev s__law_pole : Stmt := top 49
theorem sc__law_pole : FnScope ["deck", "top", "bottom", "part"] ["deck"] (defScope s__law_pole) := ⟨rfl, rfl, rfl, by decide +kernel, rfl, by decide +kernel, by decide +kernel⟩
theorem ok__law_pole {f f__law_draw f__law_pick f__law_near f__law_common : Addr} {fd d__law_draw d__law_pick d__law_near d__law_common : FuncData}  (F : Fun K "_law_pole" "_law_pole" s__law_pole f fd) (T : Bt mg) (l_draw : Kn P w K mg base 1 "_law_draw" ["deck", "many"] spDraw f__law_draw d__law_draw) (l_pick : Kn P w K mg base 2 "_law_pick" ["deck", "some"] (spPick K) f__law_pick d__law_pick) (l_near : Kn P w K mg base 2 "_law_near" ["deck", "far"] spNear f__law_near d__law_near) (l_common : Kn P w K mg base 1 "_law_common" ["one", "other"] spCommon f__law_common d__law_common) : FnOk P w K mg base CX0 3 f fd ["deck"] spPoleD := by
  refine F.ok sc__law_pole (fun vs H Q E h => ?_) (fun cdv A outer s H vs Q E hr h => ?_)
  · obtain ⟨dk, l, rfl, _⟩ := h
    rfl
  · obtain ⟨dk, l, rfl, De, k⟩ := h
    refine ⟨_, pss_cons (ps_if (pt_cmpR op_gt (pe_call l_draw.ok (hr.mono (by decide)) rfl l_draw.mg l_draw.kp l_draw.bd .nil pass0 (pa_cons (pv 0) (pa_cons pe_int pa_nil))) pe_int (nomark _))
        (pss_one (ps_ret (pe_call l_pick.ok (hr.mono (by decide)) rfl l_pick.mg l_pick.kp l_pick.bd .nil pass0 (pa_cons (pv 0) (pa_cons (pe_lst (pa_cons (pe_tup (pa_cons pe_int (pa_cons pe_int pa_nil))) (pa_cons (pe_tup (pa_cons pe_int (pa_cons pe_int pa_nil))) (pa_cons (pe_tup (pa_cons (pe_un un_neg pe_int) (pa_cons pe_int pa_nil))) (pa_cons (pe_tup (pa_cons pe_int (pa_cons pe_int pa_nil))) (pa_cons (pe_tup (pa_cons pe_int (pa_cons pe_int pa_nil))) (pa_cons (pe_tup (pa_cons (pe_un un_neg pe_int) (pa_cons pe_int pa_nil))) (pa_cons (pe_tup (pa_cons pe_int (pa_cons pe_int pa_nil))) (pa_cons (pe_tup (pa_cons (pe_un un_neg pe_int) (pa_cons pe_int pa_nil))) (pa_cons (pe_tup (pa_cons (pe_un un_neg pe_int) (pa_cons pe_int pa_nil))) pa_nil)))))))))) pa_nil)))))
        pss_nil)
      (pss_cons (ps_par (i := 1) (j := 2) rfl sc__law_pole.nd rfl rfl (by decide) rfl rfl (pa_cons (pe_call l_near.ok (hr.mono (by decide)) rfl l_near.mg l_near.kp l_near.bd .nil pass0 (pa_cons (pv 0) (pa_cons pe_int pa_nil))) (pa_cons (pe_op op_add pe_int (pe_call l_draw.ok (hr.mono (by decide)) rfl l_draw.mg l_draw.kp l_draw.bd .nil pass0 (pa_cons (pv 0) (pa_cons pe_int pa_nil)))) pa_nil)) (by rfl))
      (pss_cons (ps_set (i := 3) sc__law_pole.nd rfl (Or.inl rfl) (pe_call l_common.ok (hr.mono (by decide)) rfl l_common.mg l_common.kp l_common.bd .nil pass0 (pa_cons (pv 1) (pa_cons (pv 2) pa_nil))))
      (pss_one (ps_ret (pe_tup (pa_cons (pe_op op_fdivW (pv 1) (pv 3)) (pa_cons (pe_op op_fdivW (pv 2) (pv 3)) pa_nil))))))), ?_⟩
    have s2 : 2 ≤ sizeLine := by rw [sizeLine_eq]; decide
    have s9 : 9 ≤ sizeLine := by rw [sizeLine_eq]; decide
    refine ⟨_, rfl, dk, l, 3, rfl, De, by decide, by decide, fun r H1 r0 r3 D1 k1 => ?_⟩
    refine ⟨_, _, rfl, rfl, _, rfl, ite_b (fun c => ?_) (fun c => ?_)⟩
    · refine ⟨_, rfl, s2, fun p1 hp1 => ⟨s2, fun p2 hp2 => ⟨_, rfl, s2, fun p3 hp3 => ⟨s2, fun p4 hp4 => ⟨s2, fun p5 hp5 => ⟨_, rfl, s2, fun p6 hp6 => ⟨s2, fun p7 hp7 => ⟨_, rfl, s2, fun p8 hp8 => ⟨_, rfl, s2, fun p9 hp9 => ⟨s9, fun p hp => ?_⟩⟩⟩⟩⟩⟩⟩⟩⟩⟩
      have A := pl_add (-2) 1 (pl_add (-3) 2 (pl_add 3 1 (pl_add (-1) 2 (pl_add 1 2 (pl_add 2 1 (pl_add (-1) 1 (pl_add 1 1 (pl_add (L := []) 0 1 (fun x hx => absurd hx (by simp)) hp1 ⟨by decide, by decide, by decide⟩) hp2 ⟨by decide, by decide, by decide⟩) hp3 ⟨by decide, by decide, by decide⟩) hp4 ⟨by decide, by decide, by decide⟩) hp5 ⟨by decide, by decide, by decide⟩)
        hp6 ⟨by decide, by decide, by decide⟩) hp7 ⟨by decide, by decide, by decide⟩) hp8 ⟨by decide, by decide, by decide⟩) hp9 ⟨by decide, by decide, by decide⟩
      generalize eH9 : upd _ p9 (HO.tup [.int (-2), .int 1]) = H9 at A hp
      have k9 : Same H1 H9 := by
        rw [← eH9]
        exact ((((((((snew hp1).trans (snew hp2)).trans (snew hp3)).trans (snew hp4)).trans (snew hp5)).trans (snew hp6)).trans (snew hp7)).trans (snew hp8)).trans (snew hp9)
      have D9 := D1.same k9
      refine pick_new (E := E0) D9 hp (by simp) (by show 9 < _; decide) fun x H2 hx D2 k2 => ?_
      exact k x H2 (plAt_keep D9 k2 (A x hx)) D2 ((k1.trans (Keep.of k9)).trans k2)
    · refine ⟨_, rfl, dk, l, 20, rfl, D1, by decide, by decide, fun tp H2 t0 t1 D2 k2 => ?_⟩
      refine ⟨_, rfl, dk, l, 20, rfl, D2, by decide, by decide, fun bt H3 b0 b1 D3 k3 => ?_⟩
      refine ⟨_, _, rfl, rfl, _, _, rfl, ?_⟩
      refine ⟨_, rfl, _, rfl, _, _, rfl, ?_⟩
      have g1 : 1 ≤ Nat.gcd tp.natAbs (1 + bt).natAbs := Nat.gcd_pos_of_pos_right _ (by omega)
      have g2 : Nat.gcd tp.natAbs (1 + bt).natAbs ≤ (1 + bt).natAbs := Nat.le_of_dvd (by omega) (Nat.gcd_dvd_right _ _)
      have g3 : Nat.gcd tp.natAbs (1 + bt).natAbs ∣ (1 + bt).natAbs := Nat.gcd_dvd_right _ _
      generalize Nat.gcd tp.natAbs (1 + bt).natAbs = g at g1 g2 g3 ⊢
      have lg : (g : Int).natAbs.log2 < 9000 := by
        have h1 : (g : Int).natAbs = g := rfl
        have h2 : g < 2 ^ 5 := by omega
        have := (Nat.log2_lt (by omega : g ≠ 0)).mpr h2
        rw [h1]
        omega
      have gp : (0 : Int) < (g : Int) := by omega
      refine ⟨_, rfl, _, rfl, _, _, rfl, rfl, ⟨gp, lg⟩, _, rfl, _, rfl, _, _, rfl, rfl, ⟨gp, lg⟩, s2, fun p hp => ?_⟩
      refine k _ _ ⟨p, (tp / (g : Int), (1 + bt) / (g : Int)), rfl, upd_same, ?_, ?_, ?_⟩ (D3.same (snew hp)) (((k1.trans k2).trans k3).trans (Keep.of (snew hp)))
      · have : (tp / (g : Int)).natAbs ≤ tp.natAbs := Int.natAbs_ediv_le_natAbs _ _
        show (tp / (g : Int)).natAbs ≤ 20
        omega
      · have : (g : Int) ≤ 1 + bt := by omega
        exact (Int.le_ediv_iff_mul_le gp).mpr (by omega)
      · have : ((1 + bt) / (g : Int)).natAbs ≤ (1 + bt).natAbs := Int.natAbs_ediv_le_natAbs _ _
        show (1 + bt) / (g : Int) ≤ 20
        omega
abbrev s__law_poles : Stmt := top 51
theorem sc__law_poles : FnScope ["deck", "most", "found", "turn"] ["deck", "most"] (defScope s__law_poles) := ⟨rfl, rfl, rfl, by decide +kernel, rfl, by decide +kernel, by decide +kernel⟩
theorem ok__law_poles {f f__law_draw f__law_pole : Addr} {fd d__law_draw d__law_pole : FuncData}  (F : Fun K "_law_poles" "_law_poles" s__law_poles f fd) (T : Bt mg) (l_draw : Kn P w K mg base 1 "_law_draw" ["deck", "many"] spDraw f__law_draw d__law_draw) (l_pole : Kn P w K mg base 3 "_law_pole" ["deck"] spPoleD f__law_pole d__law_pole) : FnOk P w K mg base CX0 4 f fd ["deck", "most"] spPoles := by
  refine F.ok sc__law_poles (fun vs H Q E h => ?_) (fun cdv A outer s H vs Q E hr h => ?_)
  · obtain ⟨dk, l, most, rfl, _⟩ := h
    rfl
  · obtain ⟨dk, l, most, rfl, De, m0, m1, k⟩ := h
    have hu := hu_of hr
    refine ⟨_, pss_cons (ps_set (i := 2) sc__law_poles.nd rfl (Or.inl rfl) pe_dnewT)
      (pss_cons (ps_for PassesOwn.never rfl (pi_range1 rfl T.range (pa_cons (pe_call l_draw.ok (hr.mono (by decide)) rfl l_draw.mg l_draw.kp l_draw.bd .nil pass0 (pa_cons (pv 0) (pa_cons (pe_op op_add (pv 1) pe_int) pa_nil))) pa_nil)) (pg_name (i := 3) sc__law_poles.nd rfl (Or.inl rfl))
        (pss_one (ps_dput hu (pv 2) (pe_call l_pole.ok (hr.mono (by decide)) rfl l_pole.mg l_pole.kp l_pole.bd .nil pass0 (pa_cons (pv 0) pa_nil)) pe_bl rfl)))
      (pss_one (ps_ret (pe_callTy (call_list_dT rfl) (by rfl) T.list (by decide +kernel) (pa_cons (pv 2) pa_nil))))), ?_⟩
    intro fo hfo
    have nd : fo ≠ dk := fun z => De.some1.1 (z ▸ hfo)
    have nl : fo ≠ l := fun z => De.some1.2 (z ▸ hfo)
    have s0 := snew (o := .dT []) hfo
    refine ⟨_, rfl, _, rfl, _, _, rfl, rfl, dk, l, _, rfl, De.same s0, by omega, by omega, fun r H1 r0 r1 D1 k1 => ⟨r, rfl, by omega, by omega, ?_⟩⟩
    refine for_range (lo := 0) (n := r.toNat) (fun i σ H' => ∃ (x3 : Option V) (kvs : List (List L2.Key × V)), σ = [some (.ref dk), some (.int most), some (.ref fo), x3] ∧ H' fo = some (.dT kvs) ∧ kvs.length ≤ i ∧ (∀ p ∈ kvs, ∃ pl, p.1 = kyP pl ∧ SPl pl) ∧ Deck H' dk l ∧ Keep dk l H H')
      ⟨none, [], rfl, k1 _ _ upd_same nd nl, Nat.le_refl _, fun p hp => absurd hp (by simp), D1, (Keep.of s0).trans k1⟩ ?_ ?_
    · rintro i σ H' hi ⟨x3, kvs, rfl, e1, lk, hk, D2, k2⟩
      refine ⟨_, rfl, _, rfl, dk, l, rfl, D2, fun x H2 hx D3 k3 => ?_⟩
      obtain ⟨p, pl, rfl, hp, hs⟩ := hx
      have e2 := k3 _ _ e1 nd nl
      refine ⟨fo, _, rfl, DPut.t (k := kyP pl) e2 hp (small1000 (by omega)), ?_⟩
      refine ⟨_, _, rfl, upd_same, ?_, fun q hq => ?_, deck_upd D3 nd nl, fun b o e h1 h2 => ?_⟩
      · have := put_lenT (kvs := kvs) (k := kyP pl) (v := .bl true)
        omega
      · rcases put_memT hq with h | h
        · exact hk _ h
        · exact h.elim (fun e => ⟨pl, e, hs⟩) (fun ⟨q', h', e⟩ => by rw [e]; exact hk _ h')
      · rw [upd_ne (ne_of_none e hfo)]
        exact k3 _ _ (k2 _ _ e h1 h2) h1 h2
    · rintro σ H' ⟨x3, kvs, rfl, e1, lk, hk, D2, k2⟩
      refine ⟨_, rfl, fo, kvs, rfl, .inl e1, fun p bs hp ks => ?_⟩
      have sp := snew (o := .lst (bs.map V.ref)) hp
      have lb := Paired.length ks
      refine k p _ _ upd_same (fun z => D2.some1.1 (z ▸ hp)) (fun z => D2.some1.2 (z ▸ hp)) (by rw [List.length_map]; omega) (fun x hx => ?_) (D2.same sp) (k2.trans (Keep.of sp))
      obtain ⟨b, hb, rfl⟩ := List.mem_map.mp hx
      obtain ⟨j, hj⟩ := List.mem_iff_getElem?.mp hb
      obtain ⟨q, hq, hbk⟩ := LamX.pget0 ks hj
      obtain ⟨pl, epl, hs⟩ := hk q (List.mem_of_getElem? hq)
      rw [epl] at hbk
      exact ⟨b, pl, rfl, sp _ _ hbk, hs⟩
end
end N3

namespace LamX
open PySem PySem.Spec PyProof.Rows L2 PySem.W
theorem pe_sortL {X : Cx} {k : Nat} {c P : Addr} {params : Arguments} {scope : Scope} {x y : Str} {n : Int} {k1 k2 k3 : Nat} {p1 p2 p3 p4 p5 p6 p7 p8 p9 p q kp lpos pos : Pos} (hr : Room k X.A) (hm : X.mg "sorted" = none) (TB : TabB X.base X.mg c P) (hcode : X.env.code = .ref c)
    (i : Nat) (hN : X.N[i]? = some x := by rfl) (hv : Vis X.env.scope x := by exact Or.inl rfl) (hg : Gl X "sorted" := by rfl) (hdef : defaultsOf params X.env = ([], []) := by rfl)
    (hfree : ∀ y ∈ scope.names, y.2 ≠ .free := by decide) (kd : scope.kind = .function := by rfl) (co : scope.isCoroutine = false := by rfl) (gn : scope.isGenerator = false := by rfl) (hl : scope.names.lookup y = some .local := by rfl) (hclo : cloFrom X.env.cells scope.names [] = [] := by rfl)
    (hbind : ∀ (q : Str) (pm cv ctv : Value) (t : Addr), bindArgs (PySem.W.kla_fn "<lambda>" q params (PySem.Lm.keyB y n k1 k2 k3 p1 p2 p3 p4 p5 p6 p7 p8 p9) scope [] pm cv ctv) ⟨[.ref t], []⟩ = pure [(y, .ref t)] := by intro _ _ _ _ _; rfl)
    (hd : (x == ("__debug__" : Str)) = false := by decide) (hcd : (x == ("__classdict__" : Str)) = false := by decide) (hdy : (y == ("__debug__" : Str)) = false := by decide) :
    PE X (.Call (.Name "sorted" p) [.Name x q] [⟨some "key", .Lambda params (PySem.Lm.keyB y n k1 k2 k3 p1 p2 p3 p4 p5 p6 p7 p8 p9) scope lpos, kp⟩] pos) (tSorted [(P, X.env.qual ++ "<lambda>")] i n) :=
  pe_sortedKT hr hg hm hN hv TB hcode (List.mem_singleton.mpr rfl) (fun p hp _ => by rw [List.mem_singleton.mp hp]) hdef hfree kd co gn hl hclo hbind hd hcd hdy
end LamX
namespace L2
open PySem PySem.Spec PyProof.Rows
/-- Fun.ok, the code object known -/
theorem Fun.okC {P : Program} {w : World} {K : PySem.W.Frag} {mg : Str → Option Value} {base : Heap} {x qual : Str} {st : Stmt} {f c : Addr} {fd : FuncData} {N ps : List Str} {k : Nat} {sp : Sp} (F : Fun K x qual st f fd) (hc : fd.code = .ref c) (S : FnScope N ps (defScope st)) (len : ∀ vs H Q E, sp vs H Q E → vs.length = ps.length)
    (hbody : ∀ (A : Around) (outer : List Env) (s : Shared) (H : Hp) (vs : List V) (Q : VK) (E : XK), Room k (A.deeper (envOfC qual (defScope st) s.heap.objs.size f (.ref c))) → sp vs H Q E →
      ∃ t, PSs (cxOf CX0 P w K mg base N qual (defScope st) f (.ref c) A outer s H E).nox (defBody st) t ∧ t { nx := fun _ H' => Q .non H', rt := Q } (start N vs) H) : FnOk P w K mg base CX0 (k + 1) f fd ps sp := by
  obtain ⟨oc, od, kV, doc, pm, an, cdv, ct, osl, rfl, lk, hcd⟩ := F.ex
  have e : cdv = .ref c := hc
  subst e
  refine fn_of lk hcd S len fun A outer s H vs Q E hr hsp => ?_
  obtain ⟨t, h, q⟩ := hbody A outer s H vs Q E hr hsp
  exact ⟨t, h.nox, q⟩
end L2
namespace N3
open PySem PySem.Spec PyProof.Rows L2 N2 LamX
abbrev tabL (c : Addr) : List (Addr × Str) := [(c, "_law_told.<locals>.<lambda>")]
mutual
theorem dn_ext {H H' : Hp} (e : ExtN H H') : ∀ (d : PyData) (v : V), Dn H v d → Dn H' v d
  | .none, _, h => by cases h; exact .non
  | .bool _, _, h => by cases h; exact .bl _
  | .int _, _, h => by cases h; exact .int _
  | .str _, _, h => by cases h; exact .str _
  | .list ds, _, h => by
    cases h with
    | lst e1 r => exact .lst (e _ _ e1 (fun _ z => nomatch z)) (dnA_ext e ds _ r)
  | .tuple ds, _, h => by
    cases h with
    | tup e1 r => exact .tup (e _ _ e1 (fun _ z => nomatch z)) (dnA_ext e ds _ r)
  | .dict ks, _, h => by
    cases h with
    | dct e1 r => exact .dct (e _ _ e1 (fun _ z => nomatch z)) (dnK_ext e ks _ r)
theorem dnA_ext {H H' : Hp} (e : ExtN H H') : ∀ (ds : List PyData) (xs : List V), DnAll H xs ds → DnAll H' xs ds
  | [], _, h => by cases h; exact .nil
  | d :: ds, _, h => by
    cases h with
    | cons h1 h2 => exact .cons (dn_ext e d _ h1) (dnA_ext e ds _ h2)
theorem dnK_ext {H H' : Hp} (e : ExtN H H') : ∀ (ds : List (PyData × PyData)) (vs : List (Key × V)), DnKv H vs ds → DnKv H' vs ds
  | [], _, q => by cases q; exact .nil
  | (_, d) :: ds, _, q => by
    cases q with
    | cons a b => exact .cons (dn_ext e d _ a) (dnK_ext e ds _ b)
end
/-- tuples stay -/
def TupS (H H' : Hp) : Prop := ∀ b xs, H b = some (.tup xs) → H' b = some (.tup xs)
theorem TupS.trans {H H1 H2 : Hp} (a : TupS H H1) (b : TupS H1 H2) : TupS H H2 := fun c xs e => b c xs (a c xs e)
theorem Same.tups {H H' : Hp} (s : Same H H') : TupS H H' := fun b xs e => s b _ e
theorem ext_tups {H H' : Hp} (s : ExtN H H') : TupS H H' := fun b xs e => s b _ e (fun _ z => nomatch z)
theorem keep_tups {H H' : Hp} {dk l : Addr} (D : Deck H dk l) (k : Keep dk l H H') : TupS H H' := fun b xs e => k b _ e (of_off (deck_tup D e)).1 (of_off (deck_tup D e)).2.1
theorem lst_tups {H : Hp} {a : Addr} {xs : List V} {o : HO} (e : H a = some (.lst xs)) : TupS H (upd H a o) := fun b ys h => by
  rw [upd_ne (ne_of h e (by intro z; cases z))]; exact h
mutual
theorem tn_tups {H H' : Hp} (e : TupS H H') : ∀ (d : PyData) (v : V), Tn d → Dn H v d → Dn H' v d
  | .int _, _, _, h => by cases h; exact .int _
  | .tuple ds, _, t, h => by
    cases t with
    | tup t =>
      cases h with
      | tup e1 r => exact .tup (e _ _ e1) (tnA_tups e ds _ t r)
  | .none, _, t, _ => by cases t
  | .bool _, _, t, _ => by cases t
  | .str _, _, t, _ => by cases t
  | .list _, _, t, _ => by cases t
  | .dict _, _, t, _ => by cases t
theorem tnA_tups {H H' : Hp} (e : TupS H H') : ∀ (ds : List PyData) (xs : List V), (∀ d ∈ ds, Tn d) → DnAll H xs ds → DnAll H' xs ds
  | [], _, _, h => by cases h; exact .nil
  | d :: ds, _, t, h => by
    cases h with
    | cons h1 h2 => exact .cons (tn_tups e d _ (t d List.mem_cons_self) h1) (tnA_tups e ds _ (fun x hx => t x (List.mem_cons_of_mem _ hx)) h2)
end
theorem tn_maps {α : Type} {enc : α → PyData} (h : ∀ x, Tn (enc x)) (l : List α) : ∀ d ∈ l.map enc, Tn d := fun d hd => by
  obtain ⟨x, _, rfl⟩ := List.mem_map.mp hd
  exact h x
/-- neither a table nor a code object -/
def NC (o : HO) : Prop := (∀ ps, o ≠ .tbl ps) ∧ ∀ φ, o ≠ .ext φ
theorem tabs_keep {T : List (Addr × Str)} {H H' : Hp} {dk l : Addr} (k : Keep dk l H H') (h1 : ∀ o, H dk = some o → NC o) (h2 : ∀ o, H l = some o → NC o) (t : Tabs T H) : Tabs T H' := fun p hp => by
  obtain ⟨ps, a1, a2, a3⟩ := t p hp
  have nt : ∀ b o, H b = some o → (∃ ps, o = .tbl ps) ∨ (∃ φ, o = .ext φ) → H' b = some o := fun b o e z => k b o e
    (fun q => by rw [q] at e; rcases z with ⟨ps, z⟩ | ⟨φ, z⟩; exact (h1 o e).1 ps z; exact (h1 o e).2 φ z)
    (fun q => by rw [q] at e; rcases z with ⟨ps, z⟩ | ⟨φ, z⟩; exact (h2 o e).1 ps z; exact (h2 o e).2 φ z)
  refine ⟨ps, nt _ _ a1 (.inl ⟨ps, rfl⟩), a2, fun pos cv hc => ?_⟩
  obtain ⟨c0, e1, e2⟩ := a3 pos cv hc
  exact ⟨c0, e1, nt _ _ e2 (.inr ⟨_, rfl⟩)⟩
theorem nc_lst (xs : List V) : NC (.lst xs) := ⟨fun _ z => (by cases z), fun _ z => (by cases z)⟩
theorem nc_dk (xs : List (Key × V)) : NC (.dK xs) := ⟨fun _ z => (by cases z), fun _ z => (by cases z)⟩
theorem nc_dt (xs : List (List Key × V)) : NC (.dT xs) := ⟨fun _ z => (by cases z), fun _ z => (by cases z)⟩
theorem tabs_deck {T : List (Addr × Str)} {H H' : Hp} {dk l : Addr} (D : Deck H dk l) (k : Keep dk l H H') (t : Tabs T H) : Tabs T H' := by
  obtain ⟨ns, m, j, z1, z2, _⟩ := D
  exact tabs_keep k (fun o e => by rw [z1] at e; cases e; exact nc_dk _) (fun o e => by rw [z2] at e; cases e; exact nc_lst _) t
theorem sqL_ext {K : PySem.W.Frag} {H H' : Hp} {a : Addr} {xs : List V} (s : ExtN H H') (h : SqL K H a xs) : SqL K H' a xs := by
  rcases h with (h | ⟨o, h⟩) | h
  · exact .inl (.inl (s _ _ h (fun _ z => nomatch z)))
  · exact .inl (.inr ⟨o, s _ _ h (fun _ z => nomatch z)⟩)
  · exact .inr h
theorem val_memT : ∀ {kvs : List (List L2.Key × V)} {k : List L2.Key}, k ∈ kvs.map (·.1) → ∃ v, valV kvs k = some v ∧ (k, v) ∈ kvs
  | [], k, h => by simp at h
  | p :: r, k, h => by
    by_cases c : p.1 = k
    · exact ⟨p.2, by cases p; cases c; exact valV_pos rfl, by rw [← c]; exact List.mem_cons_self⟩
    · obtain ⟨v, e, m⟩ := val_memT (kvs := r) ((List.mem_cons.mp h).elim (fun z => absurd z.symm c) id)
      exact ⟨v, by rw [valV_neg c]; exact e, List.mem_cons_of_mem _ m⟩
theorem kyP_inj {p q : Pl} (h : kyP p = kyP q) : p = q := by
  obtain ⟨a, b⟩ := p
  obtain ⟨a', b'⟩ := q
  injection h with h1 h
  injection h with h2 _
  injection h1 with h1
  injection h2 with h2
  exact Prod.ext h1 h2
theorem Same.extN {H H' : Hp} (s : Same H H') : ExtN H H' := ExtN.of s
theorem tabs_same {T : List (Addr × Str)} {H H' : Hp} (t : Tabs T H) (s : Same H H') : Tabs T H' := t.ext s
/-- a drawn quotient's size -/
def SzQ (q : Qt) : Prop := q.1.length ≤ 20 ∧ q.2.length ≤ 4 ∧ (∀ n ∈ q.1, Sn n) ∧ ∀ t ∈ q.2, SPl t.1 ∧ t.2.length ≤ 6 ∧ ∀ n ∈ t.2, Sn n
/-- a row in a dict of rows -/
def RowAt (H : Hp) (p : List L2.Key × V) : Prop := ∃ (pl : Pl) (b : Addr) (acc : List V) (r : List Nm), p = (kyP pl, .ref b) ∧ SPl pl ∧ H b = some (.lst acc) ∧ DnAll H acc (r.map encN) ∧ r.length ≤ 6 ∧ ∀ n ∈ r, Sn n
def spTold (K : PySem.W.Frag) (c : Addr) : Sp := fun vs H Q _ => ∃ (aw d : Addr) (accW : List V) (r0 : List Nm) (kvs : List (List L2.Key × V)), vs = [.ref aw, .ref d] ∧ SqL K H aw accW ∧ DnAll H accW (r0.map encN) ∧ r0.length ≤ 20 ∧ (∀ n ∈ r0, Sn n) ∧
  H d = some (.dT kvs) ∧ kvs.length ≤ 4 ∧ (∀ p ∈ kvs, RowAt H p) ∧ Tabs (tabL c) H ∧ ∀ (q : Qt) (v : V) (H' : Hp), Dn H' v (encQ q) → SzQ q → ExtN H H' → Tabs (tabL c) H' → Q v H'
def gK : List L2.Key → Int × Int
  | [.inl a, .inl b] => (a, b)
  | _ => (0, 0)
theorem fit_pl {pl : Pl} (h : SPl pl) : KeyFit 232792560 gK (kyP pl) := by
  obtain ⟨h1, h2, h3⟩ := h
  refine ⟨rfl, CMul.ok (.inl ⟨by show -(2 ^ 64) < pl.1; omega, by show pl.1 < 2 ^ 64; omega⟩), by show pl.2 ≠ 0; omega, PyProof.noPylong_small (by show pl.2.natAbs < 1073741824; omega)⟩
section
variable {P : Program} {w : World} {K : PySem.W.Frag} {mg : Str → Option Value} {base : Heap}
abbrev s__law_told : Stmt := top 48
abbrev nsTld : List Str := ["whole", "rows", "tails", "pole", "row"]
theorem sc__law_told : FnScope nsTld ["whole", "rows"] (defScope s__law_told) := ⟨rfl, rfl, rfl, by decide +kernel, rfl, by decide +kernel, by decide +kernel⟩
theorem ok__law_told {f f__law_shed : Addr} {fd d__law_shed : FuncData} {c pT : Addr} (hcd : fd.code = .ref c) (TB : LamX.TabB base mg c pT) (F : Fun K "_law_told" "_law_told" s__law_told f fd) (T : Bt mg) (l_shed : Kn P w K mg base 1 "_law_shed" ["row"] (spShed K) f__law_shed d__law_shed) : FnOk P w K mg base CX0 2 f fd ["whole", "rows"] (spTold K pT) := by
  refine Fun.okC F hcd sc__law_told (fun vs H Q E h => ?_) (fun A outer s H vs Q E hr h => ?_)
  · obtain ⟨aw, d, accW, r0, kvs, rfl, _⟩ := h
    rfl
  · obtain ⟨aw, d, accW, r0, kvs, rfl, hW, dW, lW, nW, hd, lk, hrows, hT, k⟩ := h
    have hu := hu_of hr
    refine ⟨_, pss_cons (ps_set (i := 2) sc__law_told.nd rfl (Or.inl rfl) (pe_lst pa_nil))
      (pss_cons (ps_for PassesOwn.never rfl (pi_list (pe_sortL hr T.sorted TB rfl 1)) (pg_name (i := 3) sc__law_told.nd rfl (Or.inl rfl))
        (pss_cons (ps_set (i := 4) sc__law_told.nd rfl (Or.inl rfl) (pe_call l_shed.ok (hr.mono (by decide)) rfl l_shed.mg l_shed.kp l_shed.bd .nil pass0 (pa_cons (pe_dget hu (pv 1) (pv 3) (fun _ _ => rfl)) pa_nil)))
        (pss_one (ps_if (pt_cmpR (op_neD hr.units) (pv 4) (pe_tup pa_nil) (nomark _))
          (pss_one (ps_expr (pe_bm PySem.F.plainAttrs_list PySem.F.slot_list_append PySem.F.type_list_append mt_append (pv 2) (pa_cons (pe_tup (pa_cons (pv 3) (pa_cons (pv 4) pa_nil))) pa_nil))))
          pss_nil))))
      (pss_one (ps_ret (pe_tup (pa_cons (pe_call l_shed.ok (hr.mono (by decide)) rfl l_shed.mg l_shed.kp l_shed.bd .nil pass0 (pa_cons (pv 0) pa_nil)) (pa_cons (pe_callTy call_tuple_of (by rfl) T.tuple (by decide +kernel) (pa_cons (pv 2) pa_nil)) pa_nil)))))), ?_⟩
    have s2z : 2 ≤ sizeLine := by rw [sizeLine_eq]; decide
    refine ⟨Nat.zero_le _, fun tl htl => ?_⟩
    have s0 := snew (o := .lst []) htl
    refine ⟨d, kvs, gK, rfl, s0 _ _ hd, tabs_same hT s0, fun p hp => ?_, fun H1 lz zs e1 T1 hlz perm srt tups => ?_⟩
    · obtain ⟨pl, b, acc, r, rfl, hs, _⟩ := hrows p hp
      exact fit_pl hs
    have htl1 : H1 tl = some (.lst []) := e1 _ _ upd_same (fun _ z => nomatch z)
    have nlz : lz ≠ tl := (ne_of_none htl1 hlz).symm
    have sz := snew (o := .lst (zs.map fun z => V.ref z.2)) hlz
    obtain ⟨H2, eH2⟩ : ∃ H2, H2 = upd H1 lz (.lst (zs.map fun z => V.ref z.2)) := ⟨_, rfl⟩
    rw [← eH2] at sz ⊢
    have hlz2 : H2 lz = some (.lst (zs.map fun z => V.ref z.2)) := by rw [eH2]; exact upd_same
    have htl2 : H2 tl = some (.lst []) := sz _ _ htl1
    have e02 : ExtN H H2 := ((Same.extN s0).trans e1).trans (Same.extN sz)
    have T2 := tabs_same T1 sz
    have lzs : zs.length = kvs.length := by
      have := perm.length_eq
      rw [List.length_map] at this
      exact this
    have nH : ∀ b o, H b = some o → b ≠ tl := fun b o e => ne_of_none e htl
    have ext : ∀ H', Keep tl tl H2 H' → ExtN H H' := fun H' kk b o e n => kk b o (e02 b o e n) (nH b o e) (nH b o e)
    have tup2 : ∀ H', Keep tl tl H2 H' → TupS H2 H' := fun H' kk b xs e => kk b _ e (ne_of e htl2 (by intro z; cases z)) (ne_of e htl2 (by intro z; cases z))
    refine ⟨lz, rfl, ⟨_, SqL.of hlz2⟩, for_list (K := K) (a := lz) (xs := zs.map fun z => V.ref z.2) (fun i σ H' => ∃ (x3 x4 : Option V) (acc : List V) (ts : List Tl), σ = [some (.ref aw), some (.ref d), some (.ref tl), x3, x4] ∧ H' tl = some (.lst acc) ∧ DnAll H' acc (ts.map encTl) ∧ ts.length ≤ i ∧ (∀ t ∈ ts, SPl t.1 ∧ t.2.length ≤ 6 ∧ ∀ n ∈ t.2, Sn n) ∧ Keep tl tl H2 H')
      ⟨none, none, [], [], rfl, htl2, .nil, Nat.le_refl _, by simp, fun b o e _ _ => e⟩ (fun i σ H' _ ⟨_, _, _, _, _, _, _, _, _, kk⟩ => SqL.of (kk _ _ hlz2 nlz nlz)) ?_ ?_⟩
    · rintro i x σ H' hx ⟨x3, x4, acc, ts, rfl, h1, h2, h3, h4, kk⟩
      rw [List.getElem?_map] at hx
      obtain ⟨z, ez, rfl⟩ := Option.map_eq_some_iff.mp hx
      have hz := List.mem_of_getElem? ez
      have il := (List.getElem?_eq_some_iff.mp ez).1
      have hk : z.1 ∈ kvs := perm.mem_iff.mp (List.mem_map.mpr ⟨z, hz, rfl⟩)
      obtain ⟨v, ev, mv⟩ := val_memT (List.mem_map.mpr ⟨z.1, hk, rfl⟩)
      obtain ⟨pl, b, accR, r, epl, hs, hb, dr, lr, nr⟩ := hrows _ mv
      obtain ⟨ek, rfl⟩ := Prod.mk.inj epl
      have hz2 := tups z hz
      rw [ek] at hz2 ev
      have eH' := ext H' kk
      have hz' : H' z.2 = some (.tup [.int pl.1, .int pl.2]) := tup2 H' kk _ _ (sz _ _ hz2)
      refine ⟨_, rfl, _, rfl, d, .ref b, rfl, ?_, b, accR, r, rfl, SqL.of (eH' _ _ hb (fun _ z => nomatch z)), tnA_tups (ext_tups eH') _ _ (tn_maps encN_tn r) dr, by omega, fun q kx H3 hkx dq hl s3 => ?_⟩
      · have := DGet.t (H := H') (k := kyP pl) (eH' _ _ hd (fun _ z => nomatch z)) hz'
        rw [ev] at this
        exact this
      have lt3 : ∀ n ∈ r.take kx, Sn n := fun n hn => nr n (List.mem_of_mem_take hn)
      have ll3 : (r.take kx).length ≤ 6 := by rw [List.length_take]; omega
      refine ⟨_, rfl, Nat.zero_le _, fun p hp => ⟨encR (r.take kx), .tuple [], tn_dp _ _ (encR_tn _) (Dn.mono (snew hp) _ _ dq), .tup (SqT.of upd_same) .nil, encR_shaped _, rfl, _, rfl, ?_⟩⟩
      rw [eqv_nil_d (encR_tn _)]
      have s4 := s3.trans (snew (o := .tup []) hp)
      refine ite_b (fun c => ?_) (fun c => ?_)
      · refine ⟨_, rfl, .inl ⟨rfl, _, SqL.of (s4 _ _ h1)⟩, _, rfl, _, rfl, s2z, fun p2 hp2 => ?_⟩
        have s5 := s4.trans (snew (o := .tup [.ref z.2, .ref q]) hp2)
        have ht5 := s5 _ _ h1
        have up := lst_tups (o := .lst (acc ++ [.ref p2])) ht5
        have lacc : acc.length = ts.length := by rw [h2.length, List.length_map]
        refine ⟨tl, acc, _, rfl, rfl, ht5, small1000 (by omega), ?_⟩
        refine ⟨_, _, acc ++ [.ref p2], ts ++ [(pl, r.take kx)], rfl, upd_same, ?_, by rw [List.length_append]; show ts.length + 1 ≤ _; omega, fun t ht => ?_, fun b o e n1 n2 => ?_⟩
        · rw [List.map_append]
          refine DnAll.app (tnA_tups ((Same.tups s5).trans up) _ _ (tn_maps encTl_tn ts) h2) (.cons ?_ .nil)
          refine .tup (up _ _ upd_same) (.cons (.tup (up _ _ (s5 _ _ hz')) (.cons (.int _) (.cons (.int _) .nil))) (.cons ?_ .nil))
          exact tn_tups up _ _ (encR_tn _) (Dn.mono ((snew hp).trans (snew hp2)) _ _ dq)
        · rcases List.mem_append.mp ht with ht | ht
          · exact h4 t ht
          · rw [List.mem_singleton.mp ht]
            exact ⟨hs, ll3, lt3⟩
        · rw [upd_ne n1]
          exact s5 _ _ (kk b o e n1 n2)
      · exact ⟨_, _, acc, ts, rfl, s4 _ _ h1, tnA_tups (Same.tups s4) _ _ (tn_maps encTl_tn ts) h2, by omega, h4, fun b o e n1 n2 => s4 _ _ (kk b o e n1 n2)⟩
    · rintro σ H' ⟨x3, x4, acc, ts, rfl, h1, h2, h3, h4, kk⟩
      rw [List.length_map] at h3
      have eH' := ext H' kk
      refine ⟨_, rfl, aw, accW, r0, rfl, sqL_ext eH' hW, tnA_tups (ext_tups eH') _ _ (tn_maps encN_tn r0) dW, by omega, fun q kx H3 hkx dq hl s3 => ?_⟩
      refine ⟨_, rfl, tl, acc, rfl, .inl ⟨SqL.of (s3 _ _ h1), fun l2 hl2 => ⟨s2z, fun p hp => ?_⟩⟩⟩
      have s4 := (snew (o := .tup acc) hl2).trans (snew (o := .tup [.ref q, .ref l2]) hp)
      have T' : Tabs (tabL pT) H' := tabs_keep kk (fun o e => by rw [htl2] at e; cases e; exact nc_lst _) (fun o e => by rw [htl2] at e; cases e; exact nc_lst _) T2
      refine k (r0.take kx, ts) _ _ (.tup upd_same (.cons (Dn.mono s4 _ _ dq) (.cons (.tup ?_ (tnA_tups (Same.tups (s3.trans s4)) _ _ (tn_maps encTl_tn ts) h2)) .nil))) ⟨?_, by show ts.length ≤ 4; omega, fun n hn => nW n (List.mem_of_mem_take hn), h4⟩ (eH'.trans (Same.extN (s3.trans s4))) (tabs_same T' (s3.trans s4))
      · rw [upd_ne (ne_of_none upd_same hp)]; exact upd_same
      · show (r0.take kx).length ≤ 20
        rw [List.length_take]; omega
end
end N3

namespace N3
open PySem PySem.Spec PyProof.Rows L2 N2 LamX
/-- all stays but the deck and the tables -/
def KeepX (dk l : Addr) (H H' : Hp) : Prop := ∀ b o, H b = some o → b ≠ dk → b ≠ l → (∀ ps, o ≠ .tbl ps) → H' b = some o
theorem KeepX.of {dk l : Addr} {H H' : Hp} (k : Keep dk l H H') : KeepX dk l H H' := fun b o e h1 h2 _ => k b o e h1 h2
theorem KeepX.ext {dk l : Addr} {H H' : Hp} (k : ExtN H H') : KeepX dk l H H' := fun b o e _ _ n => k b o e n
theorem KeepX.trans {dk l : Addr} {H H1 H2 : Hp} (h : KeepX dk l H H1) (k : KeepX dk l H1 H2) : KeepX dk l H H2 := fun b o e h1 h2 n => k b o (h b o e h1 h2 n) h1 h2 n
theorem keepX_tups {H H' : Hp} {dk l : Addr} (D : Deck H dk l) (k : KeepX dk l H H') : TupS H H' := fun b xs e => k b _ e (of_off (deck_tup D e)).1 (of_off (deck_tup D e)).2.1 (fun _ z => nomatch z)
theorem deck_ext {H H' : Hp} {dk l : Addr} (D : Deck H dk l) (k : ExtN H H') : Deck H' dk l := by
  obtain ⟨ns, m, j, h1, h2, h3⟩ := D
  exact ⟨ns, m, j, k _ _ h1 (fun _ z => nomatch z), k _ _ h2 (fun _ z => nomatch z), h3⟩
/-- a comprehension of drawn numbers -/
theorem lc_nums {dk l D : Addr} {i n : Nat} {lo : Int} {te : TE} {σ : L2.St} {H1 : Hp} {Qd : Hp → Prop} (De : Deck H1 dk l) (hD : H1 D = none) (hn : n ≤ 1000)
    (step : ∀ (j : Nat) (H' : Hp) (Q' : V → Hp → Prop), j < n → Deck H' dk l → Keep dk l H1 H' → (∀ (r : Addr) (m : Nm) (H2 : Hp), Dn H2 (.ref r) (encN m) → Sn m → Deck H2 dk l → Keep dk l H' H2 → Q' (.ref r) H2) → te ((wipe σ [i]).set i (some (.int (lo + j)))) H' Q')
    (fin : ∀ (acc : List V) (ns : List Nm) (H' : Hp), H' D = some (.lst acc) → DnAll H' acc (ns.map encN) → ns.length = n → (∀ m ∈ ns, Sn m) → Deck H' dk l → Keep dk l H1 H' → Qd H') :
    ∃ W : Nat → Nat → Hp → Prop, (∃ m, W 0 m (upd H1 D (.lst []))) ∧ ∀ i_1 m H, W i_1 m H →
      ((Itr lo n).stop i_1 H ∧ Qd H) ∨ ((Itr lo n).go i_1 H ∧ ∃ Nx : Hp → Prop, (∀ H', Nx H' → ∃ m', m' < m ∧ W (i_1 + 1) m' H') ∧ ∀ x H', (Itr lo n).yld i_1 H x H' → gName i x (wipe σ [i]) H' fun σ2 H2 => wipe σ2 [i] = wipe σ [i] ∧ tYes σ2 H2 fun b H3 =>
        if b = true then te σ2 H3 fun y H4 => ∃ acc, H4 D = some (.lst acc) ∧ acc.length < sizeLine ∧ Nx (upd H4 D (.lst (acc ++ [y]))) else Nx H3) := by
  have nd : D ≠ dk := fun z => De.some1.1 (z ▸ hD)
  have nl : D ≠ l := fun z => De.some1.2 (z ▸ hD)
  refine lc_range (lo := lo) (n := n) (fun j H' => ∃ (acc : List V) (ns : List Nm), H' D = some (.lst acc) ∧ DnAll H' acc (ns.map encN) ∧ ns.length = j ∧ (∀ m ∈ ns, Sn m) ∧ Deck H' dk l ∧ Keep dk l H1 H')
    ⟨[], [], upd_same, .nil, rfl, by simp, De.same (snew hD), Keep.of (snew hD)⟩ ?_ ?_
  · rintro j H' hj ⟨acc, ns, e1, e2, e3, e4, D', k'⟩
    refine ⟨wipe1, ?_⟩
    refine step j H' _ hj D' k' fun r m H2 dm sm D2 k2 => ?_
    have e5 := k2 _ _ e1 nd nl
    have lacc : acc.length = ns.length := by rw [e2.length, List.length_map]
    have up := lst_tups (o := .lst (acc ++ [.ref r])) e5
    refine ⟨_, e5, small1000 (by omega), acc ++ [.ref r], ns ++ [m], upd_same, ?_, by rw [List.length_append, e3]; rfl, fun x hx => ?_, deck_upd D2 nd nl, fun b o e h1 h2 => ?_⟩
    · rw [List.map_append]
      exact DnAll.app (tnA_tups ((keep_tups D' k2).trans up) _ _ (tn_maps encN_tn ns) e2) (.cons (tn_tups up _ _ (encN_tn m) dm) .nil)
    · rcases List.mem_append.mp hx with hx | hx
      · exact e4 x hx
      · rw [List.mem_singleton.mp hx]; exact sm
    · rw [upd_ne (ne_of_none e hD)]
      exact k2 _ _ (k' _ _ e h1 h2) h1 h2
  · rintro H' ⟨acc, ns, e1, e2, e3, e4, D', k'⟩
    exact fin acc ns H' e1 e2 e3 e4 D' k'
/-- a row in a dict of rows, apart from the deck -/
def RowN (dk l : Addr) (H : Hp) (p : List L2.Key × V) : Prop := ∃ (pl : Pl) (b : Addr) (acc : List V) (r : List Nm), p = (kyP pl, .ref b) ∧ SPl pl ∧ H b = some (.lst acc) ∧ b ≠ dk ∧ b ≠ l ∧ DnAll H acc (r.map encN) ∧ r.length ≤ 6 ∧ ∀ n ∈ r, Sn n
theorem RowN.at {dk l : Addr} {H : Hp} {p : List L2.Key × V} (h : RowN dk l H p) : RowAt H p := let ⟨pl, b, acc, r, e, hs, hb, _, _, hd, hl, hn⟩ := h; ⟨pl, b, acc, r, e, hs, hb, hd, hl, hn⟩
theorem RowN.keep {dk l : Addr} {H H' : Hp} {p : List L2.Key × V} (D : Deck H dk l) (k : Keep dk l H H') (h : RowN dk l H p) : RowN dk l H' p :=
  let ⟨pl, b, acc, r, e, hs, hb, n1, n2, hd, hl, hn⟩ := h; ⟨pl, b, acc, r, e, hs, k _ _ hb n1 n2, n1, n2, tnA_tups (keep_tups D k) _ _ (tn_maps encN_tn r) hd, hl, hn⟩
theorem dt_tups {H : Hp} {a : Addr} {xs : List (List L2.Key × V)} {o : HO} (e : H a = some (.dT xs)) : TupS H (upd H a o) := fun b ys h => by
  rw [upd_ne (ne_of h e (by intro z; cases z))]; exact h
theorem put_all {kvs : List (List L2.Key × V)} {k : List L2.Key} {v : V} {φ : List L2.Key × V → Prop} {q : List L2.Key × V} (h : q ∈ putK kvs k v) (old : ∀ q ∈ kvs, φ q) (new : φ (k, v)) : φ q := by
  unfold putK at h
  split at h
  · obtain ⟨u, hu, e⟩ := List.mem_map.mp h
    by_cases c : u.1 = k
    · rw [if_pos c] at e
      rw [← e, c]; exact new
    · rw [if_neg c] at e
      exact e ▸ old u hu
  · rcases List.mem_append.mp h with h | h
    · exact old q h
    · rw [List.mem_singleton.mp h]; exact new
theorem RowN.upd {dk l a : Addr} {H : Hp} {xs : List (List L2.Key × V)} {o : HO} {p : List L2.Key × V} (e : H a = some (.dT xs)) (h : RowN dk l H p) : RowN dk l (upd H a o) p :=
  let ⟨pl, b, acc, r, e', hs, hb, n1, n2, hd, hl, hn⟩ := h; ⟨pl, b, acc, r, e', hs, by rw [upd_ne (ne_of hb e (by intro z; cases z))]; exact hb, n1, n2, tnA_tups (dt_tups e) _ _ (tn_maps encN_tn r) hd, hl, hn⟩
def spQuot (K : PySem.W.Frag) (c : Addr) : Sp := fun vs H Q _ => ∃ (dk l pm pp : Addr) (ms : List Int) (xs : List V) (order degree size : Int), vs = [.ref dk, .ref pm, .ref pp, .int order, .int degree, .int size] ∧ Deck H dk l ∧ H pm = some (.lst (ms.map V.int)) ∧ pm ≠ dk ∧ pm ≠ l ∧ ms ≠ [] ∧ ms.length ≤ 8 ∧ (∀ m ∈ ms, m.natAbs ≤ 8000000) ∧
  H pp = some (.lst xs) ∧ pp ≠ dk ∧ pp ≠ l ∧ xs.length ≤ 4 ∧ (∀ x ∈ xs, PlAt H x) ∧ 0 ≤ order ∧ order ≤ 6 ∧ 0 ≤ degree ∧ degree ≤ 18 ∧ 0 < size ∧ size ≤ 100000000000000000000000000000 ∧ Tabs (tabL c) H ∧
  ∀ (q : Qt) (v : V) (H' : Hp), Dn H' v (encQ q) → SzQ q → Deck H' dk l → KeepX dk l H H' → Tabs (tabL c) H' → Q v H'
section
variable {P : Program} {w : World} {K : PySem.W.Frag} {mg : Str → Option Value} {base : Heap}
abbrev s__law_quotient : Stmt := top 50
abbrev nsQot : List Str := ["deck", "menu", "poles", "order", "degree", "size", "rows", "kinds", "some", "whole", "pole", "many", "k"]
theorem sc__law_quotient : FnScope nsQot ["deck", "menu", "poles", "order", "degree", "size"] (defScope s__law_quotient) := ⟨rfl, rfl, rfl, by decide +kernel, rfl, by decide +kernel, by decide +kernel⟩
theorem ok__law_quotient {f f__law_draw f__law_pick f__law_drawn f__law_told : Addr} {fd d__law_draw d__law_pick d__law_drawn d__law_told : FuncData} {pT : Addr} (F : Fun K "_law_quotient" "_law_quotient" s__law_quotient f fd) (T : Bt mg) (l_draw : Kn P w K mg base 1 "_law_draw" ["deck", "many"] spDraw f__law_draw d__law_draw) (l_pick : Kn P w K mg base 2 "_law_pick" ["deck", "some"] (spPick K) f__law_pick d__law_pick) (l_drawn : Kn P w K mg base 3 "_law_drawn" ["deck", "menu", "many", "size"] (spDrawn K) f__law_drawn d__law_drawn) (l_told : Kn P w K mg base 2 "_law_told" ["whole", "rows"] (spTold K pT) f__law_told d__law_told) : FnOk P w K mg base CX0 4 f fd ["deck", "menu", "poles", "order", "degree", "size"] (spQuot K pT) := by
  refine F.ok sc__law_quotient (fun vs H Q E h => ?_) (fun cdv A outer s H vs Q E hr h => ?_)
  · obtain ⟨dk, l, pm, pp, ms, xs, order, degree, size, rfl, _⟩ := h
    rfl
  · obtain ⟨dk, l, pm, pp, ms, xs, order, degree, size, rfl, De, hpm, m1, m2, m3, m4, m5, hpp, p1, p2, p3, p4, o1, o2, d1, d2, z1, z2, hT, k⟩ := h
    have hu := hu_of hr
    refine ⟨_, pss_cons (ps_par (i := 6) (j := 7) rfl sc__law_quotient.nd rfl rfl (by decide) rfl rfl (pa_cons pe_dnewT (pa_cons (pe_lst (pa_cons (pe_lst (pa_cons pe_int pa_nil)) (pa_cons (pe_lst (pa_cons pe_int pa_nil)) (pa_cons (pv 1) pa_nil)))) pa_nil)) (by rfl))
      (pss_cons (ps_set (i := 8) sc__law_quotient.nd rfl (Or.inr rfl) (pe_call l_pick.ok (hr.mono (by decide)) rfl l_pick.mg l_pick.kp l_pick.bd .nil pass0 (pa_cons (pv 0) (pa_cons (pv 7) pa_nil))))
      (pss_cons (ps_setLc (i := 9) (own := [("k", 12)]) (g := (gName 12)) (tt := tYes) rfl sc__law_quotient.nd rfl rfl (sw_true rfl rfl (by rfl) (by rfl)) (pi_range1 rfl T.range (pa_cons (pe_call l_draw.ok (hr.mono (by decide)) rfl l_draw.mg l_draw.kp l_draw.bd .nil pass0 (pa_cons (pv 0) (pa_cons (pe_op op_add (pv 4) pe_int) pa_nil))) pa_nil)) (blkOk_by (own := [("k", 12)]) (N := nsQot) (sc := defScope s__law_quotient) (by decide +kernel)) (fun _ _ _ _ _ => pg_name (i := 12) sc__law_quotient.nd rfl (Or.inl rfl)) (fun _ _ _ _ _ => pts_nil) (fun _ _ _ _ _ => (pe_call l_drawn.ok (hr.mono (by decide)) rfl l_drawn.mg l_drawn.kp l_drawn.bd .nil pass0 (pa_cons (pv 0) (pa_cons (pv 8) (pa_cons (pe_call l_pick.ok (hr.mono (by decide)) rfl l_pick.mg l_pick.kp l_pick.bd .nil pass0 (pa_cons (pv 0) (pa_cons (pe_lst (pa_cons pe_int (pa_cons pe_int (pa_cons pe_int pa_nil)))) pa_nil))) (pa_cons (pv 5) pa_nil)))))))
      (pss_cons (ps_for PassesOwn.never rfl (pi_list (pv 2)) (pg_name (i := 10) sc__law_quotient.nd rfl (Or.inl rfl))
        (pss_cons (ps_set (i := 11) sc__law_quotient.nd rfl (Or.inl rfl) (pe_call l_draw.ok (hr.mono (by decide)) rfl l_draw.mg l_draw.kp l_draw.bd .nil pass0 (pa_cons (pv 0) (pa_cons (pe_op op_add (pv 3) pe_int) pa_nil))))
        (pss_one (ps_if (pt_cmpR op_le (pv 11) (pv 3) (nomark _))
          (pss_one (ps_dput hu (pv 6) (pv 10) (pe_lc (own := [("k", 12)]) (g := (gName 12)) (tt := tYes) rfl sc__law_quotient.nd (pi_range1 rfl T.range (pa_cons (pv 11) pa_nil)) (blkOk_by (own := [("k", 12)]) (N := nsQot) (sc := defScope s__law_quotient) (by decide +kernel)) (fun _ _ _ _ _ => pg_name (i := 12) sc__law_quotient.nd rfl (Or.inl rfl)) (fun _ _ _ _ _ => pts_nil) (fun _ _ _ _ _ => (pe_call l_drawn.ok (hr.mono (by decide)) rfl l_drawn.mg l_drawn.kp l_drawn.bd .nil pass0 (pa_cons (pv 0) (pa_cons (pv 8) (pa_cons (pe_call l_pick.ok (hr.mono (by decide)) rfl l_pick.mg l_pick.kp l_pick.bd .nil pass0 (pa_cons (pv 0) (pa_cons (pe_lst (pa_cons pe_int (pa_cons pe_int (pa_cons pe_int pa_nil)))) pa_nil))) (pa_cons (pv 5) pa_nil))))))) rfl))
          pss_nil))))
      (pss_one (ps_ret (pe_call l_told.ok (hr.mono (by decide)) rfl l_told.mg l_told.kp l_told.bd .nil pass0 (pa_cons (pv 9) (pa_cons (pv 6) pa_nil)))))))), ?_⟩
    have sl1 : 1 ≤ sizeLine := by rw [sizeLine_eq]; decide
    have sl3 : 3 ≤ sizeLine := by rw [sizeLine_eq]; decide
    intro rw_ hrw
    have na : ∀ {H' : Hp} {b : Addr}, Deck H' dk l → H' b = none → b ≠ dk ∧ b ≠ l := fun D h => ⟨fun z => D.some1.1 (z ▸ h), fun z => D.some1.2 (z ▸ h)⟩
    obtain ⟨nr1, nr2⟩ := na De hrw
    have s0 := snew (o := .dT []) hrw
    refine ⟨sl1, fun q1 hq1 => ⟨sl1, fun q2 hq2 => ⟨_, rfl, sl3, fun kd hkd => ⟨_, _, rfl, _, rfl, _, rfl, ?_⟩⟩⟩⟩
    have sa1 := snew (o := .lst [.int 1]) hq1
    have sa2 := snew (o := .lst [.int 1]) hq2
    have Da1 := De.same s0
    have Da2 := Da1.same sa1
    obtain ⟨nq1, nq1'⟩ := na Da1 hq1
    obtain ⟨nq2, nq2'⟩ := na Da2 hq2
    have e1a := sa2 _ _ (upd_same (H := upd H rw_ (.dT [])) (a := q1) (o := .lst [.int 1]))
    have sA := (s0.trans sa1).trans sa2
    obtain ⟨HA, eHA⟩ : ∃ HA, HA = upd (upd (upd H rw_ (.dT [])) q1 (.lst [.int 1])) q2 (.lst [.int 1]) := ⟨_, rfl⟩
    have e2a : HA q2 = some (.lst [.int 1]) := by rw [eHA]; exact upd_same
    have erA : HA rw_ = some (.dT []) := by rw [eHA]; exact sa2 _ _ (sa1 _ _ upd_same)
    rw [← eHA] at hkd e1a sA ⊢
    have DA := De.same sA
    refine pick_new (E := E0) DA hkd (by simp) (by show 3 < _; decide) fun x H1 hx D1 k1 => ?_
    obtain ⟨sm, ms', rfl, hsm, ns1, ns2, ms1, ms2, ms3⟩ : ∃ (sm : Addr) (ms' : List Int), x = .ref sm ∧ H1 sm = some (.lst (ms'.map V.int)) ∧ sm ≠ dk ∧ sm ≠ l ∧ ms' ≠ [] ∧ ms'.length ≤ 8 ∧ ∀ m ∈ ms', m.natAbs ≤ 8000000 := by
      simp only [List.mem_cons, List.not_mem_nil, or_false] at hx
      rcases hx with rfl | rfl | rfl
      · exact ⟨q1, [1], rfl, k1 _ _ e1a nq1 nq1', nq1, nq1', by simp, by decide, by simp⟩
      · exact ⟨q2, [1], rfl, k1 _ _ e2a nq2 nq2', nq2, nq2', by simp, by decide, by simp⟩
      · exact ⟨pm, ms, rfl, k1 _ _ (sA _ _ hpm) m1 m2, m1, m2, m3, m4, m5⟩
    have stp : ∀ (σ : L2.St) (H' : Hp) (Q' : V → Hp → Prop), σ[0]? = some (some (.ref dk)) → σ[8]? = some (some (.ref sm)) → σ[5]? = some (some (.int size)) → Deck H' dk l → H' sm = some (.lst (ms'.map V.int)) → (∀ (r : Addr) (m : Nm) (H2 : Hp), Dn H2 (.ref r) (encN m) → Sn m → Deck H2 dk l → Keep dk l H' H2 → Q' (.ref r) H2) →
        tCall (spDrawn K) [] E0 (tCons (tVar 0) (tCons (tVar 8) (tCons (tCall (spPick K) [] E0 (tCons (tVar 0) (tCons (tLst (tCons (tC (.int 1)) (tCons (tC (.int 1)) (tCons (tC (.int 2)) tNil)))) tNil))) (tCons (tVar 5) tNil)))) σ H' Q' := fun σ H' Q' h0 h8 h5 D' hs kk => by
      refine ⟨_, h0, _, h8, _, h0, sl3, fun p hp => pick_new (E := E0) D' hp (by simp) (by show 3 < _; decide) fun x H2 hx D2 k2 => ?_⟩
      obtain ⟨m, rfl, b0, b1⟩ : ∃ m : Int, x = .int m ∧ 0 ≤ m ∧ m ≤ 3 := by
        simp only [List.mem_cons, List.not_mem_nil, or_false] at hx
        rcases hx with rfl | rfl | rfl <;> exact ⟨_, rfl, by decide, by decide⟩
      exact ⟨_, h5, dk, l, sm, ms', m, size, rfl, D2, SqL.of (k2 _ _ hs ns1 ns2), ns1, ns2, ms1, ms2, ms3, b0, b1, z1, z2, fun r n H3 dn sn D3 k3 => kk r n H3 (Dn.off dn) sn D3 (k2.trans k3)⟩
    have er1 : H1 rw_ = some (.dT []) := k1 _ _ erA nr1 nr2
    have kH1 : Keep dk l H H1 := (Keep.of sA).trans k1
    -- whole
    refine ⟨_, rfl, _, rfl, _, _, rfl, rfl, dk, l, _, rfl, D1, by omega, by omega, fun r H2 r0 r1 D2 k2 => ⟨r, rfl, by omega, by omega, fun WD hWD => lc_nums (lo := 0) (n := r.toNat) D2 hWD (by omega) (fun j H' Q' _ D' k' kk => stp _ H' Q' rfl rfl rfl D' (k' _ _ (k2 _ _ hsm ns1 ns2) ns1 ns2) kk) fun accW nW H3 w1 w2 w3 w4 D3 k3 => ?_⟩⟩
    obtain ⟨nw1, nw2⟩ := na D2 hWD
    have k13 : Keep dk l H1 H3 := k2.trans k3
    have kH3 : Keep dk l H H3 := kH1.trans k13
    have er3 : H3 rw_ = some (.dT []) := k13 _ _ er1 nr1 nr2
    have T3 : Tabs (tabL pT) H3 := tabs_deck D1 k13 (tabs_deck DA k1 (tabs_same hT sA))
    have hsm3 := k13 _ _ hsm ns1 ns2
    have hpp3 := kH3 _ _ hpp p1 p2
    -- rows
    refine ⟨_, rfl, pp, rfl, ⟨_, SqL.of hpp3⟩, for_list (K := K) (a := pp) (xs := xs) (fun i σ H' => ∃ (x10 x11 : Option V) (kvs : List (List L2.Key × V)), σ = [some (.ref dk), some (.ref pm), some (.ref pp), some (.int order), some (.int degree), some (.int size), some (.ref rw_), some (.ref kd), some (.ref sm), some (.ref WD), x10, x11, none] ∧ H' rw_ = some (.dT kvs) ∧ kvs.length ≤ i ∧ (∀ p ∈ kvs, RowN dk l H' p) ∧ Deck H' dk l ∧ Tabs (tabL pT) H' ∧ TupS H H' ∧
        ∀ b o, H3 b = some o → b ≠ dk → b ≠ l → b ≠ rw_ → H' b = some o)
      ⟨none, none, [], rfl, er3, Nat.le_refl _, fun p hp => absurd hp (by simp), D3, T3, keep_tups De kH3, fun b o e _ _ _ => e⟩ (fun i σ H' _ ⟨_, _, _, _, _, _, _, _, _, _, kk⟩ => SqL.of (kk _ _ hpp3 p1 p2 (ne_of hpp3 er3 (by intro z; cases z)))) ?_ ?_⟩
    · rintro i x σ H' hx ⟨x10, x11, kvs, rfl, e1, lk, hk, D', T', tu, kk⟩
      obtain ⟨ap, pl, rfl, hap, hs⟩ := p4 x (List.mem_of_getElem? hx)
      have il := (List.getElem?_eq_some_iff.mp hx).1
      refine ⟨_, rfl, _, rfl, _, _, rfl, rfl, dk, l, _, rfl, D', by omega, by omega, fun mny H4 b0 b1 D4 k4 => ?_⟩
      have e4 := k4 _ _ e1 nr1 nr2
      have T4 := tabs_deck D' k4 T'
      have tu4 := tu.trans (keep_tups D' k4)
      refine ⟨_, rfl, _, rfl, _, _, rfl, rfl, _, rfl, ite_b (fun c => ?_) (fun c => ?_)⟩
      · have c' : mny ≤ order := of_decide_eq_true c
        refine ⟨_, rfl, mny, rfl, by omega, by omega, fun RD hRD => lc_nums (lo := 0) (n := mny.toNat) D4 hRD (by omega) (fun j H6 Q' _ D6 k6 kk' => stp _ H6 Q' rfl rfl rfl D6 (k6 _ _ (k4 _ _ (kk _ _ hsm3 ns1 ns2 (ne_of hsm3 er3 (by intro z; cases z))) ns1 ns2) ns1 ns2) kk') fun accR nR H5 v1 v2 v3 v4 D5 k5 => ?_⟩
        obtain ⟨nd1, nd2⟩ := na D4 hRD
        have e5 := k5 _ _ e4 nr1 nr2
        have tu5 := tu4.trans (keep_tups D4 k5)
        refine ⟨_, rfl, _, rfl, rw_, _, rfl, DPut.t (k := kyP pl) e5 (tu5 _ _ hap) (small1000 (by omega)), ?_⟩
        have T5 := tabs_deck D4 k5 T4
        refine ⟨_, _, _, rfl, upd_same, ?_, fun q hq => ?_, deck_upd D5 nr1 nr2, ?_, tu5.trans (dt_tups e5), fun b o e n1 n2 n3 => ?_⟩
        · have := put_lenT (kvs := kvs) (k := kyP pl) (v := .ref RD)
          omega
        · refine RowN.upd e5 ?_
          have old : ∀ q ∈ kvs, RowN dk l H5 q := fun q hq => ((hk q hq).keep D' k4).keep D4 k5
          have new : RowN dk l H5 (kyP pl, .ref RD) := ⟨pl, RD, accR, nR, rfl, hs, v1, nd1, nd2, v2, by omega, v4⟩
          exact put_all hq old new
        · exact tabs_keep (dk := rw_) (l := rw_) (fun b o e n1 _ => by rw [upd_ne n1]; exact e) (fun o e => by rw [e5] at e; cases e; exact nc_dt _) (fun o e => by rw [e5] at e; cases e; exact nc_dt _) T5
        · rw [upd_ne n3]
          exact k5 _ _ (k4 _ _ (kk b o e n1 n2 n3) n1 n2) n1 n2
      · exact ⟨_, _, kvs, rfl, e4, by omega, fun q hq => (hk q hq).keep D' k4, D4, T4, tu4, fun b o e n1 n2 n3 => k4 _ _ (kk b o e n1 n2 n3) n1 n2⟩
    · rintro σ H' ⟨x10, x11, kvs, rfl, e1, lk, hk, D', T', tu, kk⟩
      have w1' := kk _ _ w1 nw1 nw2 (ne_of w1 er3 (by intro z; cases z))
      have t3 : TupS H3 H' := fun b ys e => kk b _ e (of_off (deck_tup D3 e)).1 (of_off (deck_tup D3 e)).2.1 (ne_of e er3 (by intro z; cases z))
      refine ⟨_, rfl, _, rfl, WD, rw_, accW, nW, kvs, rfl, SqL.of w1', tnA_tups t3 _ _ (tn_maps encN_tn nW) w2, by omega, w4, e1, by omega, fun p hp => (hk p hp).at, T', fun q v H5 dv sq e5 T5 => k q v H5 dv sq (deck_ext D' e5) (fun b o e n1 n2 nt => ?_) T5⟩
      exact e5 _ _ (kk b o (kH3 _ _ e n1 n2) n1 n2 (ne_of_none e hrw)) nt
end
end N3

namespace N3
open PySem PySem.Spec PyProof.Rows L2 N2
theorem cut_hi (xs : List V) (k : Nat) (h : k ≤ xs.length) : cutV xs none (some (k : Int)) = xs.take k := by
  unfold cutV
  rw [HT.sIx_nat, show HT.sIx xs.length 0 none = 0 from rfl, Nat.min_eq_left h]
  simp
theorem cut_lo (xs : List V) (k : Nat) (h : k ≤ xs.length) : cutV xs (some (k : Int)) none = xs.drop k := by
  unfold cutV
  rw [HT.sIx_nat, show HT.sIx xs.length xs.length none = xs.length from rfl, Nat.min_eq_left h, List.take_of_length_le]
  rw [List.length_drop]
  omega
/-- a slice of a tuple, any -/
theorem sl_any {K : PySem.W.Frag} {H : Hp} {a : Addr} {xs : List V} {lo hi : Option Int} {Q : VK} (ha : H a = some (.tup xs)) (q : ∀ p H', H' p = some (.tup (cutV xs lo hi)) → Same H H' → Q (.ref p) H') : rSlA K (.ref a) lo hi H Q := by
  refine ⟨a, xs, rfl, SqT.of ha, fun w => q a H ?_ (Same.refl _), fun _ p hp => q p _ upd_same (snew hp)⟩
  have : cutV xs lo hi = xs := by
    unfold cutV
    rw [w.1, w.2]
    simp
  rw [this]; exact ha
/-- a sum of tuples, any -/
theorem cat_any {K : PySem.W.Frag} {H : Hp} {a b : Addr} {xs ys : List V} {Q : VK} (ha : H a = some (.tup xs)) (hb : H b = some (.tup ys)) (hl : xs.length + ys.length ≤ 1000) (q : ∀ p H', H' p = some (.tup (xs ++ ys)) → Same H H' → Q (.ref p) H') : rCatA K (.ref a) (.ref b) H Q := by
  refine ⟨a, b, xs, ys, rfl, rfl, SqT.of ha, SqT.of hb, Nat.le_of_lt (small1000 hl), fun z => q b H ?_ (Same.refl _), fun _ z => q a H ?_ (Same.refl _), fun _ _ p hp => q p _ upd_same (snew hp)⟩
  · rw [z]; exact hb
  · rw [z, List.append_nil]; exact ha
def spInstead : Sp := fun vs H Q _ => ∃ (a : Addr) (xs : List V) (i : Nat) (x : V), vs = [.ref a, .int (i : Int), x] ∧ H a = some (.tup xs) ∧ i < xs.length ∧ xs.length ≤ 900 ∧ ∀ r H', H' r = some (.tup (xs.take i ++ [x] ++ xs.drop (i + 1))) → Same H H' → Q (.ref r) H'
/-- ints, tuples of ints, tuples of these -/
def Sh (H : Hp) : Nat → V → Prop
  | 0, .int i => Bd i
  | n + 1, .ref a => ∃ xs, H a = some (.tup xs) ∧ xs.length ≤ 4 ∧ ∀ x ∈ xs, Sh H n x
  | _, _ => False
theorem bd_log {i : Int} (h : Bd i) : i.natAbs.log2 < 1900 := by
  rcases Nat.eq_zero_or_pos i.natAbs with z | z
  · rw [z]; decide
  · have h1 : i.natAbs < 10 ^ 31 := h
    have h2 : (10 : Nat) ^ 31 < 2 ^ 110 := by decide
    have := (Nat.log2_lt (by omega : i.natAbs ≠ 0)).mpr (Nat.lt_trans h1 h2)
    omega
theorem Sh.same {H H' : Hp} (s : Same H H') : ∀ {n : Nat} {v : V}, Sh H n v → Sh H' n v
  | 0, .int _, h => h
  | n + 1, .ref _, h => let ⟨xs, e, l, q⟩ := h; ⟨xs, s _ _ e, l, fun x hx => Sh.same s (q x hx)⟩
  | 0, .ref _, h => h.elim
  | 0, .non, h => h.elim
  | 0, .bl _, h => h.elim
  | 0, .str _, h => h.elim
  | n + 1, .int _, h => h.elim
  | n + 1, .non, h => h.elim
  | n + 1, .bl _, h => h.elim
  | n + 1, .str _, h => h.elim
  | 0, .ty _, h => h.elim
  | n + 1, .ty _, h => h.elim
def szS : Nat → Nat
  | 0 => 1921
  | n + 1 => 4 * (szS n + 2) + 3
theorem sh_nice {H : Hp} : ∀ {n : Nat} {v : V}, Sh H n v → NiceD H (szS n) n v := by
  intro n
  induction n with
  | zero =>
    intro v h
    cases v with
    | int i => exact nd_int (Nat.lt_trans (bd_log h) (by decide))
    | _ => exact h.elim
  | succ n ih =>
    intro v h
    cases v with
    | ref a =>
      obtain ⟨xs, e, l, q⟩ := h
      refine (nd_tup e fun x hx => ih (q x hx)).mono (Same.refl _) ?_ (Nat.le_refl _)
      have : xs.length * (szS n + 2) ≤ 4 * (szS n + 2) := Nat.mul_le_mul_right _ l
      show _ ≤ 4 * (szS n + 2) + 3
      omega
    | _ => exact h.elim
/-- as data that == takes -/
theorem sh_dp {K : PySem.W.Frag} {H : Hp} : ∀ {n : Nat} {v : V}, Sh H n v → ∃ d, Dp K H v d ∧ Dn H v d ∧ PyData.canLay0 d = true ∧ PyData.depth d ≤ n ∧ isTp d = decide (1 ≤ n) := by
  intro n
  induction n with
  | zero =>
    intro v h
    cases v with
    | int i => exact ⟨.int i, .int i, .int i, by simp [PyData.canLay0], by simp [PyData.depth], rfl⟩
    | _ => exact h.elim
  | succ n ih =>
    intro v h
    cases v with
    | ref a =>
      obtain ⟨xs, e, l, q⟩ := h
      have : ∃ ds, DpAll K H xs ds ∧ DnAll H xs ds ∧ PyData.canLayAll0 ds = true ∧ PyData.depthAll ds ≤ n := by
        clear e l
        induction xs with
        | nil => exact ⟨[], .nil, .nil, by simp [PyData.canLayAll0], by simp [PyData.depthAll]⟩
        | cons x r ihr =>
          obtain ⟨d, a1, a2, a3, a4, _⟩ := ih (q x List.mem_cons_self)
          obtain ⟨ds, b1, b2, b3, b4⟩ := ihr fun y hy => q y (List.mem_cons_of_mem _ hy)
          exact ⟨d :: ds, .cons a1 b1, .cons a2 b2, by simp [PyData.canLayAll0, a3, b3], by simp only [PyData.depthAll]; omega⟩
      obtain ⟨ds, b1, b2, b3, b4⟩ := this
      exact ⟨.tuple ds, .tup (SqT.of e) b1, .tup e b2, by simp only [PyData.canLay0]; exact b3, by simp only [PyData.depth]; omega, by rw [decide_eq_true (by omega : 1 ≤ n + 1)]; rfl⟩
    | _ => exact h.elim
def mB : Nat → Nat
  | 0 => 60000
  | n + 1 => 5 * (mB n + 2) + 60000
def spBent (n : Nat) : Sp := fun vs H Q _ => ∃ (dk l : Addr) (v : V) (deep : Int), vs = [.ref dk, v, .int deep] ∧ Deck H dk l ∧ Sh (off dk l H) n v ∧ ∀ r H', NiceD (off dk l H') (mB n) (n + 8) r → Deck H' dk l → Keep dk l H H' → Q r H'
def spBentP : Nat → Sp
  | 0 => fun _ _ _ _ => False
  | n + 1 => spBent n
section
variable {P : Program} {w : World} {K : PySem.W.Frag} {mg : Str → Option Value} {base : Heap}
theorem scInstead : FnScope ["row", "at", "item"] ["row", "at", "item"] (defScope sInstead) := ⟨rfl, rfl, rfl, by decide +kernel, rfl, by decide +kernel, by decide +kernel⟩
theorem ok_instead {f : Addr} {fd : FuncData} (F : Fun K "_law_instead" "_law_instead" sInstead f fd) : FnOk P w K mg base CX0 1 f fd ["row", "at", "item"] spInstead := by
  refine F.ok scInstead (fun vs H Q E h => ?_) (fun cdv A outer s H vs Q E hr h => ?_)
  · obtain ⟨a, xs, i, x, rfl, _⟩ := h
    rfl
  · obtain ⟨a, xs, i, x, rfl, ha, hi, hl, k⟩ := h
    refine ⟨_, pss_one (ps_ret (pe_op op_catA (pe_op op_catA (pe_slice sl_tupA (pv 0) po_none (po_some (pv 1))) (pe_tup (pa_cons (pv 2) pa_nil))) (pe_slice sl_tupA (pv 0) (po_some (pe_op op_add (pv 1) pe_int)) po_none))), ?_⟩
    refine ⟨_, rfl, _, rfl, _, rfl, sl_any ha fun p1 H1 e1 s1 => ?_⟩
    rw [cut_hi xs i (by omega)] at e1
    refine ⟨_, rfl, by show 1 ≤ sizeLine; rw [sizeLine_eq]; decide, fun p2 hp2 => ?_⟩
    refine cat_any (snew hp2 _ _ e1) upd_same (by rw [List.length_take]; show _ + 1 ≤ _; omega) fun p3 H3 e3 s3 => ?_
    have s2 := (s1.trans (snew hp2)).trans s3
    refine ⟨_, rfl, _, rfl, _, _, rfl, rfl, _, rfl, ?_⟩
    dsimp only [tNoPart]
    refine sl_any (s2 _ _ ha) fun p4 H4 e4 s4 => ?_
    rw [show ((i : Int) + 1) = ((i + 1 : Nat) : Int) by omega, cut_lo xs (i + 1) (by omega)] at e4
    refine cat_any (s4 _ _ e3) e4 (by rw [List.length_append, List.length_take, List.length_drop]; show _ + 1 + _ ≤ _; omega) fun p5 H5 e5 s5 => ?_
    exact k p5 H5 e5 ((s2.trans s4).trans s5)
end
end N3

namespace N3
open PySem PySem.Spec PyProof.Rows L2 N2 LamX
/-! ### plain data of bounded weight -/
structure GW (m n : Nat) (d : PyData) : Prop where
  tn : Tn d
  wd : Wd m n d
theorem GW.mono {m n m' n' : Nat} {d : PyData} (h : GW m n d) (hm : m ≤ m') (hn : n ≤ n') : GW m' n' d := ⟨h.tn, h.wd.mono hm hn⟩
theorem bd_103 {i : Int} (h : Bd i) : i.natAbs.log2 < 103 := by
  rcases Nat.eq_zero_or_pos i.natAbs with z | z
  · rw [z]; decide
  · have h1 : i.natAbs < 10 ^ 31 := h
    have h2 : (10 : Nat) ^ 31 < 2 ^ 103 := by decide
    exact (Nat.log2_lt (by omega : i.natAbs ≠ 0)).mpr (Nat.lt_trans h1 h2)
theorem gw_int {i : Int} (h : Bd i) : GW 104 0 (.int i) := by
  have h1 := bd_103 h
  refine ⟨.int i, by simp only [PyData.showable]; exact decide_eq_true (by omega), by simp [PyData.depth], ?_⟩
  have h2 : (PySem.Str.ofString (toString i)).length ≤ 104 := by rw [PySem.ofString_length]; exact PySem.int_text_length_le (k := 103) (by decide) h1
  simp only [wt, PyData.shown]
  exact h2
theorem wtA_le {m : Nat} : ∀ {ds : List PyData}, (∀ d ∈ ds, wt d ≤ m) → wtA ds ≤ ds.length * (m + 2)
  | [], _ => by simp [wtA]
  | d :: ds, h => by
    have h1 := h d List.mem_cons_self
    have h2 := wtA_le (ds := ds) fun x hx => h x (List.mem_cons_of_mem _ hx)
    rw [wtA, List.length_cons, Nat.succ_mul]; omega
theorem sh_all : ∀ {ds : List PyData}, (∀ d ∈ ds, d.showable = true) → PyData.showableAll ds = true
  | [], _ => by simp [PyData.showableAll]
  | d :: ds, h => by rw [PyData.showableAll, h d List.mem_cons_self, sh_all fun x hx => h x (List.mem_cons_of_mem _ hx)]; rfl
theorem dp_all {n : Nat} : ∀ {ds : List PyData}, (∀ d ∈ ds, d.depth ≤ n) → PyData.depthAll ds ≤ n
  | [], _ => by simp [PyData.depthAll]
  | d :: ds, h => by
    have h1 := h d List.mem_cons_self
    have h2 := dp_all (ds := ds) fun x hx => h x (List.mem_cons_of_mem _ hx)
    rw [PyData.depthAll]; omega
theorem gw_tup {m n : Nat} {ds : List PyData} (h : ∀ d ∈ ds, GW m n d) : GW (ds.length * (m + 2) + 3) (n + 1) (.tuple ds) := by
  refine ⟨.tup fun d hd => (h d hd).tn, by simp only [PyData.showable]; exact sh_all fun d hd => (h d hd).wd.sh, ?_, ?_⟩
  · have := dp_all fun d hd => (h d hd).wd.dp
    simp only [PyData.depth]; omega
  · have := wtA_le fun d hd => (h d hd).wd.wt
    simp only [wt]; omega
theorem gw_map {α : Type} {enc : α → PyData} {l : List α} {m n k : Nat} (h : ∀ x ∈ l, GW m n (enc x)) (hl : l.length ≤ k) : GW (k * (m + 2) + 3) (n + 1) (.tuple (l.map enc)) := by
  refine (gw_tup (m := m) (n := n) fun d hd => ?_).mono ?_ (Nat.le_refl _)
  · obtain ⟨x, hx, rfl⟩ := List.mem_map.mp hd
    exact h x hx
  · rw [List.length_map]
    have := Nat.mul_le_mul_right (m + 2) hl
    omega
theorem gw_two {m n : Nat} {d e : PyData} (h1 : GW m n d) (h2 : GW m n e) : GW (2 * (m + 2) + 3) (n + 1) (.tuple [d, e]) := gw_tup (ds := [d, e]) fun x hx => by
  simp only [List.mem_cons, List.not_mem_nil, or_false] at hx
  rcases hx with rfl | rfl
  · exact h1
  · exact h2
theorem gw_three {m n : Nat} {d e f : PyData} (h1 : GW m n d) (h2 : GW m n e) (h3 : GW m n f) : GW (3 * (m + 2) + 3) (n + 1) (.tuple [d, e, f]) := gw_tup (ds := [d, e, f]) fun x hx => by
  simp only [List.mem_cons, List.not_mem_nil, or_false] at hx
  rcases hx with rfl | rfl | rfl
  · exact h1
  · exact h2
  · exact h3
theorem bd_small {i : Int} (h : i.natAbs ≤ 1000000) : Bd i := by
  show i.natAbs < 10 ^ 31
  have : 1000000 < (10 : Nat) ^ 31 := by decide
  omega
theorem gw_nm {n : Nm} (h : Sn n) : GW 1295 2 (encN n) :=
  (gw_map (enc := encT) (m := 321) (n := 1) (k := 4) (fun x hx => (gw_three (gw_int (h.2 x hx).1) (gw_int (h.2 x hx).2.1) (gw_int (h.2 x hx).2.2))) h.1).mono (by decide) (by decide)
theorem gw_row {r : List Nm} {k : Nat} (h : ∀ n ∈ r, Sn n) (hl : r.length ≤ k) : GW (k * 1297 + 3) 3 (encR r) := gw_map (fun x hx => gw_nm (h x hx)) hl
theorem gw_pl {p : Pl} (h : SPl p) : GW 215 1 (encPl p) := gw_two (gw_int (bd_small (by have := h.1; omega))) (gw_int (bd_small (by have := h.2; omega)))
theorem gw_tl {t : Tl} (h : SPl t.1 ∧ t.2.length ≤ 6 ∧ ∀ n ∈ t.2, Sn n) : GW 15577 5 (encTl t) :=
  (gw_two (m := 7785) (n := 3) ((gw_pl h.1).mono (by decide) (by decide)) ((gw_row h.2.2 h.2.1).mono (by decide) (by decide))).mono (by decide) (by decide)
theorem gw_q {q : Qt} (h : SzQ q) : GW 130000 7 (encQ q) := by
  obtain ⟨h1, h2, h3, h4⟩ := h
  refine (gw_two (m := 62319) (n := 6) ((gw_row h3 h1).mono (by decide) (by decide)) ((gw_map (enc := encTl) (m := 15577) (n := 5) (k := 4) (fun t ht => gw_tl (h4 t ht)) h2).mono (by decide) (by decide))).mono (by decide) (by decide)
/-- what stands at a turn of the putting in -/
structure Fx (dk l tl : Addr) (H : Hp) (c2 : Nat) (H' : Hp) (ar : Addr) (rxs : List V) (dr : List PyData) (acc : List V) (es : List PyData) : Prop where
  ra : H' ar = some (.tup rxs)
  rd : DnAll H' rxs dr
  rl : dr.length ≤ c2
  rg : ∀ d ∈ dr, GW 1000 2 d
  ta : H' tl = some (.lst acc)
  td : DnAll H' acc es
  tl_ : es.length ≤ 4
  tg : ∀ e ∈ es, GW 15577 5 e
  de : Deck H' dk l
  ke : Keep dk l H H'
theorem Fx.same {dk l tl : Addr} {H H' H'' : Hp} {c2 : Nat} {ar : Addr} {rxs acc : List V} {dr es : List PyData} (f : Fx dk l tl H c2 H' ar rxs dr acc es) (s : Same H' H'') : Fx dk l tl H c2 H'' ar rxs dr acc es :=
  ⟨s _ _ f.ra, DnAll.mono s _ _ f.rd, f.rl, f.rg, s _ _ f.ta, DnAll.mono s _ _ f.td, f.tl_, f.tg, f.de.same s, f.ke.trans (Keep.of s)⟩
theorem Fx.keep {dk l tl : Addr} {H H' H'' : Hp} {c2 : Nat} {ar : Addr} {rxs acc : List V} {dr es : List PyData} (n1 : tl ≠ dk) (n2 : tl ≠ l) (f : Fx dk l tl H c2 H' ar rxs dr acc es) (D : Deck H'' dk l) (k : Keep dk l H' H'') : Fx dk l tl H c2 H'' ar rxs dr acc es :=
  have t := keep_tups f.de k
  ⟨t _ _ f.ra, tnA_tups t _ _ (fun d hd => (f.rg d hd).tn) f.rd, f.rl, f.rg, k _ _ f.ta n1 n2, tnA_tups t _ _ (fun d hd => (f.tg d hd).tn) f.td, f.tl_, f.tg, D, f.ke.trans k⟩
def Md (dk l av tl : Addr) (H : Hp) (c c2 : Nat) : L2.St → Hp → Prop := fun σ H' => ∃ (way : Int) (ap : Addr) (a b : Int) (ar : Addr) (rxs : List V) (dr : List PyData) (acc : List V) (es : List PyData),
  σ = [some (.ref dk), some (.ref av), some (.ref ap), some (.ref tl), some (.int way), some (.ref ar), none] ∧ H' ap = some (.tup [.int a, .int b]) ∧ a.natAbs ≤ c ∧ b.natAbs ≤ c ∧ Fx dk l tl H c2 H' ar rxs dr acc es
theorem gw_nil : GW 3 1 (.tuple []) := ⟨.tup (by simp), by decide, by decide, by decide⟩
theorem dn_app {H : Hp} {xs ys : List V} {ds es : List PyData} (h : DnAll H xs ds) (k : DnAll H ys es) : DnAll H (xs ++ ys) (ds ++ es) := DnAll.app h k
theorem dnAll_drop {H : Hp} : ∀ {xs : List V} {ds : List PyData}, DnAll H xs ds → ∀ k, DnAll H (xs.drop k) (ds.drop k)
  | _, _, h, 0 => h
  | _, _, .nil, _ + 1 => .nil
  | _, _, .cons a r, k + 1 => dnAll_drop r k
theorem dnAll_erase {H : Hp} : ∀ {xs : List V} {ds : List PyData}, DnAll H xs ds → ∀ k, DnAll H (xs.eraseIdx k) (ds.eraseIdx k)
  | _, _, .nil, _ => by simpa using DnAll.nil
  | _, _, .cons a r, 0 => by simpa using r
  | _, _, .cons a r, k + 1 => by
    rw [List.eraseIdx_cons_succ, List.eraseIdx_cons_succ]
    exact .cons a (dnAll_erase r k)
def spWithPole : Sp := fun vs H Q _ => ∃ (dk l : Addr) (v : V) (q : Qt), vs = [.ref dk, v] ∧ Deck H dk l ∧ Dn H v (encQ q) ∧ SzQ q ∧ ∀ (r : V) (d : PyData) (H' : Hp), Dn H' r d → GW 200000 8 d → Deck H' dk l → Keep dk l H H' → Q r H'
section
variable {P : Program} {w : World} {K : PySem.W.Frag} {mg : Str → Option Value} {base : Heap}
abbrev s__law_with_pole : Stmt := top 52
abbrev nsWp : List Str := ["deck", "quotient", "pole", "tails", "way", "row", "at"]
theorem sc__law_with_pole : FnScope nsWp ["deck", "quotient"] (defScope s__law_with_pole) := ⟨rfl, rfl, rfl, by decide +kernel, rfl, by decide +kernel, by decide +kernel⟩
theorem ok__law_with_pole {f f__law_draw f__law_pick f__law_pole : Addr} {fd d__law_draw d__law_pick d__law_pole : FuncData}  (F : Fun K "_law_with_pole" "_law_with_pole" s__law_with_pole f fd) (T : Bt mg) (l_draw : Kn P w K mg base 1 "_law_draw" ["deck", "many"] spDraw f__law_draw d__law_draw) (l_pick : Kn P w K mg base 2 "_law_pick" ["deck", "some"] (spPick K) f__law_pick d__law_pick) (l_pole : Kn P w K mg base 3 "_law_pole" ["deck"] spPoleD f__law_pole d__law_pole) : FnOk P w K mg base CX0 4 f fd ["deck", "quotient"] spWithPole := by
  refine F.ok sc__law_with_pole (fun vs H Q E h => ?_) (fun cdv A outer s H vs Q E hr h => ?_)
  · obtain ⟨dk, l, v, q, rfl, _⟩ := h
    rfl
  · obtain ⟨dk, l, v, q, rfl, De, hv, sq, k⟩ := h
    refine ⟨_, pss_cons (ps_par (i := 2) (j := 3) rfl sc__law_with_pole.nd rfl rfl (by decide) rfl rfl (pa_cons (pe_call l_pole.ok (hr.mono (by decide)) rfl l_pole.mg l_pole.kp l_pole.bd .nil pass0 (pa_cons (pv 0) pa_nil)) (pa_cons (pe_callTy call_list_of (by rfl) T.list (by decide +kernel) (pa_cons (pe_ix (r := rIx K) ix_seq (pv 1) pe_int (fun _ _ => rfl)) pa_nil)) pa_nil)) (by rfl))
      (pss_cons (ps_par (i := 4) (j := 5) rfl sc__law_with_pole.nd rfl rfl (by decide) rfl rfl (pa_cons (pe_call l_draw.ok (hr.mono (by decide)) rfl l_draw.mg l_draw.kp l_draw.bd .nil pass0 (pa_cons (pv 0) (pa_cons pe_int pa_nil))) (pa_cons (pe_tup (pa_cons (pe_tup (pa_cons (pe_tup (pa_cons pe_int (pa_cons (pe_op op_add pe_int (pe_call l_draw.ok (hr.mono (by decide)) rfl l_draw.mg l_draw.kp l_draw.bd .nil pass0 (pa_cons (pv 0) (pa_cons pe_int pa_nil)))) (pa_cons pe_int pa_nil)))) pa_nil)) pa_nil)) pa_nil)) (by rfl))
      (C8.pss_cut (ps_if (pt_cmpR op_eq (pv 4) pe_int (nomark _))
        (pss_one (ps_set (i := 2) sc__law_with_pole.nd rfl (Or.inl rfl) (pe_tup (pa_cons (pe_op op_mul pe_int (pe_ix (r := rIx K) ix_seq (pv 2) pe_int (fun _ _ => rfl))) (pa_cons (pe_op op_mul pe_int (pe_ix (r := rIx K) ix_seq (pv 2) pe_int (fun _ _ => rfl))) pa_nil)))))
        pss_nil)
      (C8.pss_cut (ps_if (pt_cmpR op_eq (pv 4) pe_int (nomark _))
        (pss_one (ps_set (i := 2) sc__law_with_pole.nd rfl (Or.inl rfl) (pe_tup (pa_cons (pe_un un_neg (pe_ix (r := rIx K) ix_seq (pv 2) pe_int (fun _ _ => rfl))) (pa_cons (pe_un un_neg (pe_ix (r := rIx K) ix_seq (pv 2) pe_int (fun _ _ => rfl))) pa_nil)))))
        pss_nil)
      (C8.pss_cut (ps_if (pt_cmpR op_eq (pv 4) pe_int (nomark _))
        (pss_one (ps_set (i := 5) sc__law_with_pole.nd rfl (Or.inl rfl) (pe_call l_pick.ok (hr.mono (by decide)) rfl l_pick.mg l_pick.kp l_pick.bd .nil pass0 (pa_cons (pv 0) (pa_cons (pe_lst (pa_cons (pe_tup pa_nil) (pa_cons (pe_tup (pa_cons (pe_tup pa_nil) pa_nil)) (pa_cons (pe_op op_catA (pv 5) (pe_tup (pa_cons (pe_tup pa_nil) pa_nil))) (pa_cons (pe_op op_catA (pe_tup (pa_cons (pe_tup pa_nil) pa_nil)) (pv 5)) pa_nil))))) pa_nil)))))
        pss_nil)
      (C8.pss_cut (ps_if (pt_cmpR op_gt (pe_callB call_len (by rfl) T.len PySem.boot_len (pa_cons (pv 3) pa_nil)) pe_int (nomark _))
        (pss_one (ps_expr (pe_bm PySem.F.plainAttrs_list PySem.F.slot_list_pop PySem.F.type_list_pop mt_popAt (pv 3) (pa_cons (pe_call l_draw.ok (hr.mono (by decide)) rfl l_draw.mg l_draw.kp l_draw.bd .nil pass0 (pa_cons (pv 0) (pa_cons pe_int pa_nil))) pa_nil))))
        pss_nil)
      (pss_cons (ps_set (i := 6) sc__law_with_pole.nd rfl (Or.inl rfl) (pe_call l_draw.ok (hr.mono (by decide)) rfl l_draw.mg l_draw.kp l_draw.bd .nil pass0 (pa_cons (pv 0) (pa_cons (pe_op op_add (pe_callB call_len (by rfl) T.len PySem.boot_len (pa_cons (pv 3) pa_nil)) pe_int) pa_nil))))
      (pss_one (ps_ret (pe_tup (pa_cons (pe_ix (r := rIx K) ix_seq (pv 1) pe_int (fun _ _ => rfl)) (pa_cons (pe_callTy call_tuple_of (by rfl) T.tuple (by decide +kernel) (pa_cons (pe_op op_cat (pe_op op_cat (pe_slice sl_list (pv 3) po_none (po_some (pv 6))) (pe_lst (pa_cons (pe_tup (pa_cons (pv 2) (pa_cons (pv 5) pa_nil))) pa_nil))) (pe_slice sl_list (pv 3) (po_some (pv 6)) po_none)) pa_nil)) pa_nil))))))))))), ?_⟩
    have sl1 : 1 ≤ sizeLine := by rw [sizeLine_eq]; decide
    have sl2 : 2 ≤ sizeLine := by rw [sizeLine_eq]; decide
    have sl3 : 3 ≤ sizeLine := by rw [sizeLine_eq]; decide
    have sl4 : 4 ≤ sizeLine := by rw [sizeLine_eq]; decide
    obtain ⟨av, v1, v2, rfl, ea, dd1, dd2⟩ := dn_pair hv
    obtain ⟨a2, xs2, rfl, ea2, r2⟩ := dn_t dd2
    refine ⟨_, rfl, dk, l, rfl, De, fun x H1 hx D1 k1 => ?_⟩
    have t1 := keep_tups De k1
    obtain ⟨ap, pl, rfl, hap, hpl⟩ := hx
    refine ⟨_, rfl, .inr (.inl ⟨av, _, _, _, rfl, rfl, SqT.of (t1 _ _ ea), rfl, a2, xs2, rfl, .inr (SqT.of (t1 _ _ ea2)), fun tl htl => ⟨_, _, rfl, ?_⟩⟩)⟩
    have n1 : tl ≠ dk := fun z => D1.some1.1 (z ▸ htl)
    have n2 : tl ≠ l := fun z => D1.some1.2 (z ▸ htl)
    have s1 := snew (o := .lst xs2) htl
    refine ⟨_, rfl, dk, l, 6, rfl, D1.same s1, by decide, by decide, fun way H2 w0 w1 D2 k2 => ?_⟩
    have t2 := keep_tups (D1.same s1) k2
    refine ⟨_, rfl, dk, l, 9, rfl, D2, by decide, by decide, fun r H3 r0 r1 D3 k3 => ⟨_, _, rfl, rfl, sl3, fun p1 hp1 => ⟨sl1, fun p2 hp2 => ⟨sl1, fun p3 hp3 => ⟨_, _, rfl, ?_⟩⟩⟩⟩⟩
    have t3 := keep_tups D2 k3
    have sq1 := snew (o := .tup [.int 1, .int (1 + r), .int 1]) hp1
    have sq2 := snew (o := .tup [.ref p1]) hp2
    have sq3 := snew (o := .tup [.ref p2]) hp3
    have tA : TupS H (upd (upd (upd H3 p1 (.tup [.int 1, .int (1 + r), .int 1])) p2 (.tup [.ref p1])) p3 (.tup [.ref p2])) := (((t1.trans (Same.tups s1)).trans t2).trans t3).trans (Same.tups ((sq1.trans sq2).trans sq3))
    have F0 : Fx dk l tl H 1 (upd (upd (upd H3 p1 (.tup [.int 1, .int (1 + r), .int 1])) p2 (.tup [.ref p1])) p3 (.tup [.ref p2])) p3 [.ref p2] [encN [(1, 1 + r, 1)]] xs2 (q.2.map encTl) := by
      refine ⟨upd_same, .cons (.tup (sq3 _ _ upd_same) (.cons (.tup (sq3 _ _ (sq2 _ _ upd_same)) (.cons (.int _) (.cons (.int _) (.cons (.int _) .nil)))) .nil)) .nil, by simp, fun d hd => ?_, ?_, tnA_tups tA _ _ (tn_maps encTl_tn q.2) r2, by rw [List.length_map]; exact sq.2.1, fun e he => ?_, D3.same ((sq1.trans sq2).trans sq3), ?_⟩
      · rw [List.mem_singleton.mp hd]
        refine (gw_map (enc := encT) (m := 321) (n := 1) (k := 1) (fun x hx => ?_) (by simp)).mono (by decide) (by decide)
        rw [List.mem_singleton.mp hx]
        exact gw_three (gw_int (bd_small (by show (1 : Int).natAbs ≤ _; decide))) (gw_int (bd_small (by show (1 + r).natAbs ≤ _; omega))) (gw_int (bd_small (by show (1 : Int).natAbs ≤ _; decide)))
      · exact ((sq1.trans sq2).trans sq3) _ _ (k3 _ _ (k2 _ _ upd_same n1 n2) n1 n2)
      · obtain ⟨t, ht, rfl⟩ := List.mem_map.mp he
        exact gw_tl (sq.2.2.2 t ht)
      · exact (((k1.trans (Keep.of s1)).trans k2).trans k3).trans (Keep.of ((sq1.trans sq2).trans sq3))
    have hapA : (upd (upd (upd H3 p1 (.tup [.int 1, .int (1 + r), .int 1])) p2 (.tup [.ref p1])) p3 (.tup [.ref p2])) ap = some (.tup [.int pl.1, .int pl.2]) :=
      ((((Same.tups s1).trans t2).trans t3).trans (Same.tups ((sq1.trans sq2).trans sq3))) _ _ hap
    obtain ⟨HA, eHA⟩ : ∃ HA, HA = upd (upd (upd H3 p1 (.tup [.int 1, .int (1 + r), .int 1])) p2 (.tup [.ref p1])) p3 (.tup [.ref p2]) := ⟨_, rfl⟩
    rw [← eHA] at F0 hapA ⊢
    clear eHA tA sq3 hp3 sq2 hp2 sq1 hp1 t3 k3 D3 t2
    -- way == 0
    refine ⟨Md dk l av tl H 40 1, ?_, ?_⟩
    · refine ⟨_, rfl, rfl, _, rfl, ite2 (fun _ => ?_) (fun _ => ?_)⟩
      · refine ⟨_, rfl, .inr (.inl ⟨ap, _, _, _, rfl, rfl, SqT.of hapA, rfl, _, _, rfl, rfl, .inl ⟨by decide, by decide⟩, ?_⟩)⟩
        refine ⟨_, rfl, .inr (.inl ⟨ap, _, _, _, rfl, rfl, SqT.of hapA, rfl, _, _, rfl, rfl, .inl ⟨by decide, by decide⟩, sl2, fun p hp => ?_⟩)⟩
        exact ⟨_, p, _, _, _, _, _, _, _, rfl, upd_same, by have := hpl.1; omega, by have := hpl.2; omega, F0.same (snew hp)⟩
      · exact ⟨_, ap, _, _, _, _, _, _, _, rfl, hapA, by have := hpl.1; omega, by have := hpl.2; omega, F0⟩
    -- way == 1
    rintro σ H' ⟨way, ap, a, b, ar, rxs, dr, acc, es, rfl, hap, ba, bb, F⟩
    refine ⟨Md dk l av tl H 40 1, ?_, ?_⟩
    · refine ⟨_, rfl, rfl, _, rfl, ite2 (fun _ => ?_) (fun _ => ?_)⟩
      · refine ⟨_, rfl, .inr (.inl ⟨ap, _, _, _, rfl, rfl, SqT.of hap, rfl, _, rfl, ?_⟩)⟩
        refine ⟨_, rfl, .inr (.inl ⟨ap, _, _, _, rfl, rfl, SqT.of hap, rfl, _, rfl, sl2, fun p hp => ?_⟩)⟩
        exact ⟨_, p, _, _, _, _, _, _, _, rfl, upd_same, by omega, by omega, F.same (snew hp)⟩
      · exact ⟨_, ap, _, _, _, _, _, _, _, rfl, hap, ba, bb, F⟩
    -- way == 2
    rintro σ H' ⟨way, ap, a, b, ar, rxs, dr, acc, es, rfl, hap, ba, bb, F⟩
    refine ⟨Md dk l av tl H 40 2, ?_, ?_⟩
    · refine ⟨_, rfl, rfl, _, rfl, ite2 (fun _ => ?_) (fun _ => ?_)⟩
      · have lr : rxs.length ≤ 1 := by rw [F.rd.length]; exact F.rl
        refine ⟨_, rfl, Nat.zero_le _, fun e1 he1 => ⟨Nat.zero_le _, fun e2 he2 => ⟨sl1, fun e3 he3 => ⟨_, rfl, Nat.zero_le _, fun e4 he4 => ⟨sl1, fun e5 he5 => ?_⟩⟩⟩⟩⟩
        have c1 := snew (o := .tup []) he1
        have c2 := snew (o := .tup []) he2
        have c3 := snew (o := .tup [.ref e2]) he3
        have c4 := snew (o := .tup []) he4
        have c5 := snew (o := .tup [.ref e4]) he5
        have cA := (((c1.trans c2).trans c3).trans c4).trans c5
        refine cat_any (cA _ _ F.ra) upd_same (by show rxs.length + 1 ≤ 1000; omega) fun e6 H6 he6 c6 => ?_
        refine ⟨Nat.zero_le _, fun e7 he7 => ⟨sl1, fun e8 he8 => ⟨_, rfl, ?_⟩⟩⟩
        have c7 := snew (o := .tup []) he7
        have c8 := snew (o := .tup [.ref e7]) he8
        have c68 := (c6.trans c7).trans c8
        refine cat_any upd_same ((cA.trans c68) _ _ F.ra) (by show 1 + rxs.length ≤ 1000; omega) fun e9 H9 he9 c9 => ?_
        refine ⟨sl4, fun pp hpp => ?_⟩
        have cB := (cA.trans c68).trans c9
        have F9 := F.same cB
        have g3 : GW 1000 2 (.tuple []) := gw_nil.mono (by decide) (by decide)
        have nn : ∀ {e H''}, H'' e = some (.tup []) → Dn H'' (.ref e) (.tuple []) := fun h => .tup h .nil
        have e2' : (H9 e2 = some (.tup [])) := c9 _ _ (c68 _ _ (c5 _ _ (c4 _ _ (c3 _ _ upd_same))))
        have e4' : (H9 e4 = some (.tup [])) := c9 _ _ (c68 _ _ (c5 _ _ upd_same))
        have e7' : (H9 e7 = some (.tup [])) := c9 _ _ (c8 _ _ upd_same)
        refine pick_new (E := E0) F9.de hpp (by simp) (by show 4 < _; decide) fun x Hk hx Dk kk => ?_
        have R : ∃ (ar' : Addr) (rxs' : List V) (dr' : List PyData), x = .ref ar' ∧ Fx dk l tl H 2 H9 ar' rxs' dr' acc es := by
          simp only [List.mem_cons, List.not_mem_nil, or_false] at hx
          rcases hx with rfl | rfl | rfl | rfl
          · exact ⟨e1, [], [], rfl, { F9 with ra := c9 _ _ (c68 _ _ (c5 _ _ (c4 _ _ (c3 _ _ (c2 _ _ upd_same))))), rd := .nil, rl := by simp, rg := by simp }⟩
          · exact ⟨e3, [.ref e2], [.tuple []], rfl, { F9 with ra := c9 _ _ (c68 _ _ (c5 _ _ (c4 _ _ upd_same))), rd := .cons (nn e2') .nil, rl := by simp, rg := fun d hd => by rw [List.mem_singleton.mp hd]; exact g3 }⟩
          · refine ⟨e6, rxs ++ [.ref e4], dr ++ [.tuple []], rfl, { F9 with ra := c9 _ _ (c8 _ _ (c7 _ _ he6)), rd := dn_app F9.rd (.cons (nn e4') .nil), rl := by rw [List.length_append]; have := F.rl; show dr.length + 1 ≤ 2; omega, rg := fun d hd => ?_ }⟩
            rcases List.mem_append.mp hd with hd | hd
            · exact F.rg d hd
            · rw [List.mem_singleton.mp hd]; exact g3
          · refine ⟨e9, [.ref e7] ++ rxs, [.tuple []] ++ dr, rfl, { F9 with ra := he9, rd := dn_app (.cons (nn e7') .nil) F9.rd, rl := by rw [List.length_append]; have := F.rl; show 1 + dr.length ≤ 2; omega, rg := fun d hd => ?_ }⟩
            rcases List.mem_append.mp hd with hd | hd
            · rw [List.mem_singleton.mp hd]; exact g3
            · exact F.rg d hd
        obtain ⟨ar', rxs', dr', rfl, F'⟩ := R
        exact ⟨_, ap, _, _, ar', _, _, _, _, rfl, keep_tups F9.de kk _ _ (cB _ _ hap), ba, bb, F'.keep n1 n2 Dk kk⟩
      · exact ⟨_, ap, _, _, _, _, _, _, _, rfl, hap, ba, bb, { F with rl := Nat.le_trans F.rl (by decide) }⟩
    -- the tails
    rintro σ H' ⟨way, ap, a, b, ar, rxs, dr, acc, es, rfl, hap, ba, bb, F⟩
    refine ⟨Md dk l av tl H 40 2, ?_, ?_⟩
    · have lac : acc.length = es.length := F.td.length
      refine ⟨_, rfl, _, acc.length, rfl, .inl ⟨acc, SqL.of F.ta, rfl⟩, _, _, rfl, rfl, _, rfl, ite_b (fun c => ?_) (fun c => ?_)⟩
      · have c' := of_decide_eq_true c
        have l4 : acc.length = 4 := by have := F.tl_; omega
        refine ⟨_, rfl, .inl ⟨rfl, _, SqL.of F.ta⟩, _, rfl, dk, l, 4, rfl, F.de, by decide, by decide, fun r H4 r0 r1 D4 k4 => ?_⟩
        have F4 := F.keep n1 n2 D4 k4
        obtain ⟨j, rfl⟩ : ∃ j : Nat, r = (j : Int) := ⟨r.toNat, by omega⟩
        have hj : j < acc.length := by omega
        refine ⟨tl, acc, _, j, acc[j], rfl, rfl, F4.ta, by omega, by omega, ?_, List.getElem?_eq_getElem hj, ?_⟩
        · rw [l4]
          unfold seqIndex?
          have : j = 0 ∨ j = 1 ∨ j = 2 ∨ j = 3 := by omega
          rcases this with h | h | h | h <;> subst h <;> decide
        · have up := lst_tups (o := .lst (acc.eraseIdx j)) F4.ta
          refine ⟨_, ap, _, _, ar, rxs, dr, acc.eraseIdx j, es.eraseIdx j, rfl, up _ _ (keep_tups F.de k4 _ _ hap), ba, bb, up _ _ F4.ra, tnA_tups up _ _ (fun d hd => (F4.rg d hd).tn) F4.rd, F4.rl, F4.rg, upd_same, dnAll_erase (tnA_tups up _ _ (fun d hd => (F4.tg d hd).tn) F4.td) j, Nat.le_trans (List.length_eraseIdx_le _ _) F4.tl_, fun e he => F4.tg e (List.mem_of_mem_eraseIdx he), deck_upd D4 n1 n2, fun b o e h1 h2 => ?_⟩
          have e3 : H b = some o → b ≠ tl := fun e z => by
            have := k1 _ _ e h1 h2
            rw [z, htl] at this
            cases this
          rw [upd_ne (e3 e)]
          exact F4.ke b o e h1 h2
      · exact ⟨_, ap, _, _, _, _, _, _, _, rfl, hap, ba, bb, F⟩
    rintro σ H' ⟨way, ap, a, b, ar, rxs, dr, acc, es, rfl, hap, ba, bb, F⟩
    have lac : acc.length = es.length := F.td.length
    have le4 := F.tl_
    refine ⟨_, rfl, _, rfl, _, acc.length, rfl, .inl ⟨acc, SqL.of F.ta, rfl⟩, _, _, rfl, rfl, dk, l, _, rfl, F.de, by omega, by omega, fun r H4 r0 r1 D4 k4 => ?_⟩
    have F4 := F.keep n1 n2 D4 k4
    have tF := keep_tups F.de k4
    obtain ⟨j, rfl⟩ : ∃ j : Nat, r = (j : Int) := ⟨r.toNat, by omega⟩
    have tall : TupS H H4 := keep_tups De F4.ke
    refine ⟨_, rfl, .inr (.inl ⟨av, _, _, _, rfl, rfl, SqT.of (tall _ _ ea), rfl, ?_⟩)⟩
    refine ⟨_, rfl, ?_⟩
    dsimp only [tNoPart]
    refine ⟨_, rfl, _, rfl, tl, acc, rfl, SqL.of F4.ta, ?_⟩
    rw [cut_hi acc j (by omega)]
    intro q1 hq1
    have c1 := snew (o := .lst (acc.take j)) hq1
    refine ⟨_, rfl, _, rfl, sl2, fun p hp => ⟨sl1, fun q2 hq2 => ?_⟩⟩
    have c2 := snew (o := .tup [.ref ap, .ref ar]) hp
    have c3 := snew (o := .lst [.ref p]) hq2
    have lt : (acc.take j).length ≤ 4 := by rw [List.length_take]; omega
    have ld : (acc.drop j).length ≤ 4 := by rw [List.length_drop]; omega
    have sz : 100 ≤ sizeLine := by rw [sizeLine_eq]; decide
    refine ⟨q1, q2, acc.take j, [.ref p], rfl, rfl, c3 _ _ (c2 _ _ upd_same), upd_same, by show (acc.take j).length + 1 ≤ sizeLine; omega, fun q3 hq3 => ?_⟩
    have c4 := snew (o := .lst (acc.take j ++ [.ref p])) hq3
    have s14 := ((c1.trans c2).trans c3).trans c4
    refine ⟨_, rfl, _, rfl, _, rfl, ?_⟩
    dsimp only [tNoPart]
    refine ⟨tl, acc, rfl, SqL.of (s14 _ _ F4.ta), ?_⟩
    rw [cut_lo acc j (by omega)]
    intro q4 hq4
    have c5 := snew (o := .lst (acc.drop j)) hq4
    refine ⟨q3, q4, _, _, rfl, rfl, c5 _ _ upd_same, upd_same, by rw [List.length_append]; show (acc.take j).length + 1 + (acc.drop j).length ≤ sizeLine; omega, fun q5 hq5 => ?_⟩
    have c6 := snew (o := .lst (acc.take j ++ [.ref p] ++ acc.drop j)) hq5
    refine ⟨q5, _, rfl, .inl ⟨SqL.of upd_same, fun q6 hq6 => ⟨sl2, fun q7 hq7 => ?_⟩⟩⟩
    have c7 := snew (o := .tup (acc.take j ++ [.ref p] ++ acc.drop j)) hq6
    have c8 := snew (o := .tup [v1, .ref q6]) hq7
    have s48 := ((c5.trans c6).trans c7).trans c8
    have sall := s14.trans s48
    have F8 := F4.same sall
    have hp8 := s48 _ _ (c4 _ _ (c3 _ _ (upd_same (H := upd H4 q1 (.lst (acc.take j))) (a := p) (o := .tup [.ref ap, .ref ar]))))
    have dpr : Dn _ (.ref p) (.tuple [encPl (a, b), .tuple dr]) := .tup hp8 (.cons (.tup (sall _ _ (tF _ _ hap)) (.cons (.int _) (.cons (.int _) .nil))) (.cons (.tup F8.ra F8.rd) .nil))
    have gpr : GW 15577 5 (.tuple [encPl (a, b), .tuple dr]) := (gw_two (m := 3009) (n := 3) ((gw_two (gw_int (bd_small (by show a.natAbs ≤ _; omega))) (gw_int (bd_small (by show b.natAbs ≤ _; omega)))).mono (by decide) (by decide)) ((gw_tup (m := 1000) (n := 2) F.rg).mono (by have := F.rl; omega) (by decide))).mono (by decide) (by decide)
    refine k _ (.tuple [encR q.1, .tuple (es.take j ++ [.tuple [encPl (a, b), .tuple dr]] ++ es.drop j)]) _ (.tup upd_same (.cons (tn_tups (tall.trans (Same.tups sall)) _ _ (encR_tn q.1) dd1) (.cons (.tup (c8 _ _ upd_same) (dn_app (dn_app (dnAll_take F8.td j) (.cons dpr .nil)) (dnAll_drop F8.td j))) .nil))) ?_ F8.de F8.ke
    refine (gw_two (m := 77898) (n := 6) ((gw_row sq.2.2.1 sq.1).mono (by decide) (by decide)) ((gw_tup (m := 15577) (n := 5) fun e he => ?_).mono ?_ (by decide))).mono (by decide) (by decide)
    · rcases List.mem_append.mp he with he | he
      · rcases List.mem_append.mp he with he | he
        · exact F.tg e (List.mem_of_mem_take he)
        · rw [List.mem_singleton.mp he]; exact gpr
      · exact F.tg e (List.mem_of_mem_drop he)
    · have : (es.take j ++ [PyData.tuple [encPl (a, b), .tuple dr]] ++ es.drop j).length ≤ 5 := by
        rw [List.length_append, List.length_append, List.length_take, List.length_drop]
        show min j es.length + 1 + (es.length - j) ≤ 5
        omega
      have := Nat.mul_le_mul_right (15577 + 2) this
      omega
end
end N3

namespace N3
open PySem PySem.Spec PyProof.Rows L2 N2 LamX
/-! ### the weight by the text -/
theorem text_eq : ∀ (ts : List Str) (k : Nat) (acc : Str), (textFrom (k + 1) acc ts).length = acc.length + piled ts
  | [], k, acc => by simp [textFrom, piled]
  | t :: r, k, acc => by
    have h := text_eq r (k + 1) (acc ++ (if k + 1 > 0 then ", " else "" : String) ++ t)
    rw [if_pos (by omega : k + 1 > 0), strLen_append, strLen_append] at h
    have e2 : ((", " : String) : Str).length = 2 := rfl
    rw [piled_cons]
    show (textFrom (k + 1 + 1) (acc ++ (if k + 1 > 0 then ", " else "" : String) ++ t) r).length = _
    rw [if_pos (by omega : k + 1 > 0), h]
    omega
theorem text_eq0 (t : Str) (r : List Str) (acc : Str) : (textFrom 0 acc (t :: r)).length + 2 = acc.length + piled (t :: r) := by
  have h := text_eq r 0 (acc ++ (if 0 > 0 then ", " else "" : String) ++ t)
  show (textFrom 1 (acc ++ (if 0 > 0 then ", " else "" : String) ++ t) r).length + 2 = _
  rw [h, if_neg (by omega : ¬ 0 > 0), strLen_append, strLen_append, piled_cons]
  have e2 : (("" : String) : Str).length = 0 := rfl
  omega
theorem shAll_len : ∀ ds : List PyData, (PyData.shownAll ds).length = ds.length
  | [] => by simp [PyData.shownAll]
  | d :: ds => by simp [PyData.shownAll, shAll_len ds]
theorem shKv_len : ∀ ds : List (PyData × PyData), (PyData.shownKv ds).length = ds.length
  | [] => by simp [PyData.shownKv]
  | (_, _) :: ds => by simp [PyData.shownKv, shKv_len ds]
mutual
theorem wt_low : ∀ d : PyData, wt d ≤ 2 * d.shown.length
  | .none => by simp only [wt]; omega
  | .bool _ => by simp only [wt]; omega
  | .int _ => by simp only [wt]; omega
  | .str _ => by simp only [wt]; omega
  | .list [] => by
    simp only [wt, wtA, PyData.shown, PyData.shownAll, listText]
    decide
  | .list (d :: ds) => by
    have h := wtA_low (d :: ds)
    have e := shAll_len (d :: ds)
    simp only [wt, PyData.shown, listText]
    rw [strLen_append]
    simp only [PyData.shownAll] at h ⊢
    have t := text_eq0 d.shown (PyData.shownAll ds) "["
    have e1 : (("[" : String) : Str).length = 1 := rfl
    have e2 : (("]" : String) : Str).length = 1 := rfl
    rw [List.length_cons] at h
    omega
  | .tuple [] => by
    simp only [wt, wtA, PyData.shown, PyData.shownAll, tupleText]
    decide
  | .tuple (d :: ds) => by
    have h := wtA_low (d :: ds)
    have e := shAll_len (d :: ds)
    simp only [wt, PyData.shown, tupleText]
    rw [strLen_append, strLen_append, e]
    have t := join_length_add (PyData.shownAll (d :: ds)) (by simp [PyData.shownAll])
    have e1 : (("(" : String) : Str).length = 1 := rfl
    rw [List.length_cons] at h ⊢
    by_cases z : ds.length = 0
    · rw [if_pos (by rw [z]; rfl)]
      have e3 : ((",)" : String) : Str).length = 2 := rfl
      omega
    · rw [if_neg (by simpa using z)]
      have e3 : ((")" : String) : Str).length = 1 := rfl
      omega
  | .dict [] => by
    simp only [wt, wtK, PyData.shown, PyData.shownKv, dictText]
    decide
  | .dict (d :: ds) => by
    have h := wtK_low (d :: ds)
    simp only [wt, PyData.shown, dictText]
    rw [strLen_append, strLen_append]
    have t := join_length_add (PyData.shownKv (d :: ds)) (by obtain ⟨a, b⟩ := d; simp [PyData.shownKv])
    have e1 : (("{" : String) : Str).length = 1 := rfl
    have e2 : (("}" : String) : Str).length = 1 := rfl
    rw [List.length_cons] at h
    omega
theorem wtA_low : ∀ ds : List PyData, wtA ds + 2 * ds.length ≤ 2 * piled (PyData.shownAll ds)
  | [] => by simp [wtA]
  | d :: ds => by
    have h1 := wt_low d
    have h2 := wtA_low ds
    simp only [PyData.shownAll, piled_cons, wtA, List.length_cons]
    omega
theorem wtK_low : ∀ ks : List (PyData × PyData), wtK ks + 4 * ks.length ≤ 2 * piled (PyData.shownKv ks)
  | [] => by simp [wtK]
  | (k, d) :: r => by
    have h1 := wt_low d
    have h2 := wtK_low r
    have e3 : ((": " : String) : Str).length = 2 := rfl
    simp only [PyData.shownKv, piled_cons, wtK, strLen_append, List.length_cons]
    omega
end
theorem Okd.wd {m n : Nat} {d : PyData} (h : Okd m n d) : Wd (2 * m) n d := ⟨h.sh, h.dp, by have := wt_low d; have := h.ln; omega⟩
/-- plain data with ints that are not too great -/
inductive Tb : PyData → Prop
  | int {i : Int} : Bd i → Tb (.int i)
  | tup {ds : List PyData} : ds.length ≤ 100 → (∀ d ∈ ds, Tb d) → Tb (.tuple ds)
theorem Tb.tn : ∀ {d : PyData}, Tb d → Tn d := fun h => by
  induction h with
  | int _ => exact .int _
  | tup _ _ ih => exact .tup ih
theorem tb_map {α : Type} {enc : α → PyData} {l : List α} (hl : l.length ≤ 100) (h : ∀ x ∈ l, Tb (enc x)) : Tb (.tuple (l.map enc)) := .tup (by rw [List.length_map]; exact hl) fun d hd => by
  obtain ⟨x, hx, rfl⟩ := List.mem_map.mp hd
  exact h x hx
theorem tb_two {d e : PyData} (h : Tb d) (k : Tb e) : Tb (.tuple [d, e]) := .tup (by simp) fun x hx => by
  simp only [List.mem_cons, List.not_mem_nil, or_false] at hx
  rcases hx with rfl | rfl
  · exact h
  · exact k
theorem tb_nm {n : Nm} (h : Sn n) : Tb (encN n) := tb_map (enc := encT) (by have := h.1; omega) fun x hx => .tup (by simp) fun d hd => by
  obtain ⟨b1, b2, b3⟩ := h.2 x hx
  simp only [List.mem_cons, List.not_mem_nil, or_false] at hd
  rcases hd with rfl | rfl | rfl
  · exact .int b1
  · exact .int b2
  · exact .int b3
theorem tb_row {r : List Nm} (hl : r.length ≤ 100) (h : ∀ n ∈ r, Sn n) : Tb (encR r) := tb_map hl fun n hn => tb_nm (h n hn)
theorem tb_q {q : Qt} (h : SzQ q) : Tb (encQ q) := by
  refine tb_two (tb_row (by have := h.1; omega) h.2.2.1) (tb_map (enc := encTl) (by have := h.2.1; omega) fun t ht => ?_)
  obtain ⟨h1, h2, h3⟩ := h.2.2.2 t ht
  exact tb_two (tb_two (.int (bd_small (by have := h1.1; omega))) (.int (bd_small (by have := h1.2; omega)))) (tb_row (by omega) h3)
end N3

namespace N3
open PySem PySem.Spec PyProof.Rows L2 N2 LamX
theorem ofs_small (s : String) : ∀ c ∈ (Str.ofString s).cps.toList, c < 16 ^ 8 := by
  intro c hc
  rw [Str.ofString_eq_toList] at hc
  have hc : c ∈ s.toList.map Char.toNat := by simpa using hc
  obtain ⟨x, _, rfl⟩ := List.mem_map.mp hc
  have h := x.valid
  have : x.val.toNat < 1114112 := by
    rcases h with h | h
    · have : x.val.toNat < 55296 := h
      omega
    · exact h.2
  show x.val.toNat < 16 ^ 8
  omega
theorem txt_int {i : Int} (h : i.natAbs.log2 < 1920) : (reprText (toString i : String)).length ≤ 19212 := by
  have h1 := StrLaws.reprText_len (Str.ofString (toString i)) (ofs_small _)
  have h2 := int_text_len_1921 h
  omega
theorem bd_more {i j : Int} (h : Bd i) (hj : j.natAbs ≤ 4 * i.natAbs + 1) : j.natAbs.log2 < 1920 := by
  rcases Nat.eq_zero_or_pos j.natAbs with z | z
  · rw [z]; decide
  · have h1 : i.natAbs < 10 ^ 31 := h
    have h2 : 4 * (10 : Nat) ^ 31 + 1 < 2 ^ 110 := by decide
    have h3 : j.natAbs < 2 ^ 110 := by omega
    have := (Nat.log2_lt (by omega : j.natAbs ≠ 0)).mpr h3
    omega
theorem lay_all : ∀ {ds : List PyData}, (∀ d ∈ ds, PyData.canLay0 d = true) → PyData.canLayAll0 ds = true
  | [], _ => by simp [PyData.canLayAll0]
  | d :: ds, h => by
    rw [PyData.canLayAll0, h d List.mem_cons_self, lay_all fun x hx => h x (List.mem_cons_of_mem _ hx)]
    rfl
theorem tn_lay : ∀ {d : PyData}, Tn d → PyData.canLay0 d = true := fun h => by
  induction h with
  | int i => simp [PyData.canLay0]
  | @tup ds _ ih =>
    simp only [PyData.canLay0]
    exact lay_all ih
theorem wtA_app : ∀ a b : List PyData, wtA (a ++ b) = wtA a + wtA b
  | [], b => by simp [wtA]
  | d :: a, b => by rw [List.cons_append, wtA, wtA, wtA_app a b]; omega
theorem wtA_rev (a : List PyData) : wtA a.reverse = wtA a := by
  induction a with
  | nil => rfl
  | cons d a ih => rw [List.reverse_cons, wtA_app, ih]; simp only [wtA]; omega
theorem wtA_take (a : List PyData) (k : Nat) : wtA (a.take k) ≤ wtA a := by
  have := wtA_app (a.take k) (a.drop k)
  rw [List.take_append_drop] at this; omega
theorem wtA_drop (a : List PyData) (k : Nat) : wtA (a.drop k) ≤ wtA a := by
  have := wtA_app (a.take k) (a.drop k)
  rw [List.take_append_drop] at this; omega
theorem cut_one (xs : List V) : cutV xs none (some 1) = xs.take 1 := by
  by_cases z : xs = []
  · subst z; rfl
  · exact cut_hi xs 1 (List.length_pos_iff.mpr z)
theorem dn_rev {H : Hp} : ∀ {xs : List V} {ds : List PyData}, DnAll H xs ds → DnAll H xs.reverse ds.reverse
  | _, _, .nil => .nil
  | _, _, .cons a r => by
    rw [List.reverse_cons, List.reverse_cons]
    exact dn_app (dn_rev r) (.cons a .nil)
/-- what comes of bending a value of the weight w, n deep -/
def Rz (n w : Nat) (d : PyData) : Prop := d.showable = true ∧ d.depth ≤ n + 8 ∧ wt d ≤ 2 * w + 110000
theorem rz_t {m w : Nat} {es : List PyData} (h : ∀ e ∈ es, e.showable = true ∧ e.depth ≤ m + 8) (hw : wtA es + 3 ≤ 2 * w + 110000) : Rz (m + 1) w (.tuple es) := by
  refine ⟨by simp only [PyData.showable]; exact sh_all fun e he => (h e he).1, ?_, by simp only [wt]; exact hw⟩
  have := dp_all fun e he => (h e he).2
  simp only [PyData.depth]; omega
theorem rz_l {m w : Nat} {es : List PyData} (h : ∀ e ∈ es, e.showable = true ∧ e.depth ≤ m + 8) (hw : wtA es + 2 ≤ 2 * w + 110000) : Rz (m + 1) w (.list es) := by
  refine ⟨by simp only [PyData.showable]; exact sh_all fun e he => (h e he).1, ?_, by simp only [wt]; exact hw⟩
  have := dp_all fun e he => (h e he).2
  simp only [PyData.depth]; omega
def sp8Bent (n : Nat) : Sp := fun vs H Q _ => ∃ (dk l : Addr) (v : V) (deep : Int) (d : PyData), vs = [.ref dk, v, .int deep] ∧ Deck H dk l ∧ Dn H v d ∧ Tb d ∧ d.showable = true ∧ d.depth ≤ n ∧ n ≤ 20 ∧ ∀ (r : V) (d' : PyData) (H' : Hp), Dn H' r d' → Rz n (wt d) d' → Deck H' dk l → Keep dk l H H' → Q r H'
def sp8BentP : Nat → Sp
  | 0 => fun _ _ _ _ => False
  | n + 1 => sp8Bent n
section
variable {P : Program} {w : World} {K : PySem.W.Frag} {mg : Str → Option Value} {base : Heap}
abbrev s__law_bent : Stmt := top 40
theorem sc8Bent : FnScope ["deck", "thing", "deep", "way", "is_great", "at", "x"] ["deck", "thing", "deep"] (defScope s__law_bent) := ⟨rfl, rfl, rfl, by decide +kernel, rfl, by decide +kernel, by decide +kernel⟩
theorem ok8_bent {n : Nat} {f f1 f2 f3 f4 f5 : Addr} {fd d1 d2 d3 d4 d5 : FuncData} (F : Fun K "_law_bent" "_law_bent" s__law_bent f fd) (T : Bt mg) (Dr : Kn P w K mg base 1 "_law_draw" ["deck", "many"] spDraw f1 d1) (Pk : Kn P w K mg base 2 "_law_pick" ["deck", "some"] (spPick K) f2 d2)
    (Li : Kn P w K mg base 1 "_law_is_integer" ["thing"] spInt f3 d3) (An : Kn P w K mg base 5 "_law_any" ["deck", "deep"] (spAny 2) f4 d4) (In : Kn P w K mg base 1 "_law_instead" ["row", "at", "item"] spInstead f5 d5)
    (R : Kn P w K mg base (n + 6) "_law_bent" ["deck", "thing", "deep"] (sp8BentP n) f fd) : FnOk P w K mg base CX0 (n + 7) f fd ["deck", "thing", "deep"] (sp8Bent n) := by
  refine F.ok sc8Bent (fun vs H Q E h => ?_) (fun cdv A outer s H vs Q E hr h => ?_)
  · obtain ⟨dk, l, v, deep, d, rfl, _⟩ := h
    rfl
  · obtain ⟨dk, l, v, deep, d, rfl, De, hv, tb0, sd, dd, n20, k⟩ := h
    have r1 : Room 1 _ := hr.mono (by omega)
    have r2 : Room 2 _ := hr.mono (by omega)
    have r5 : Room 5 _ := hr.mono (by omega)
    refine ⟨_, pss_cons (ps_if (PW.pt (pw_or (pt_not (pt_val (pe_callB call_isi (by rfl) T.isi (by decide +kernel) (pa_cons (pv 1) (pa_cons (pe_bltn (v := .ty "tuple") (by rfl) T.tuple (by decide +kernel) rfl) pa_nil)))))
        (pw_or (pt_cmpR (op_eqD hr.units) (pv 1) (pe_tup pa_nil) (nomark _)) (pw_or (pt_cmpR op_eq (pv 2) pe_int (nomark _)) (pw_or1 (pt_cmpR op_eq (pe_call Dr.ok r1 rfl Dr.mg Dr.kp Dr.bd .nil pass0 (pa_cons (pv 0) (pa_cons pe_int pa_nil))) pe_int (nomark _)))))))
        (pss_cons (ps_set (i := 3) sc8Bent.nd rfl (Or.inl rfl) (pe_call Dr.ok r1 rfl Dr.mg Dr.kp Dr.bd .nil pass0 (pa_cons (pv 0) (pa_cons pe_int pa_nil))))
        (pss_cons (ps_if (pt_val (pe_call Li.ok r1 rfl Li.mg Li.kp Li.bd .nil pass0 (pa_cons (pv 1) pa_nil))) (pss_one (ps_ret (pe_call Pk.ok r2 rfl Pk.mg Pk.kp Pk.bd .nil pass0 (pa_cons (pv 0) (pa_cons (pe_lst
          (pa_cons pe_int (pa_cons (pe_un un_neg (pv 1)) (pa_cons (pe_op op_mul pe_int (pv 1)) (pa_cons (pe_op op_add (pv 1) pe_int) (pa_cons (pe_callTy call_bool1 (by rfl) T.bool (by decide +kernel) (pa_cons (pv 1) pa_nil))
          (pa_cons (pe_callTy call_str_int (by rfl) T.str (by decide +kernel) (pa_cons (pv 1) pa_nil)) (pa_cons (pe_tup (pa_cons (pv 1) pa_nil)) (pa_cons (pe_lst (pa_cons (pv 1) pa_nil)) (pa_cons pe_non (pa_cons (pe_op op_mul pe_int (pv 1)) pa_nil))))))))))) pa_nil))))) pss_nil)
        (pss_cons (ps_if (PW.pt (pw_or (pt_cmpR op_eq (pv 3) pe_int (nomark _)) (pw_or1 (pt_not (pt_val (pe_callB call_isi (by rfl) T.isi (by decide +kernel) (pa_cons (pv 1) (pa_cons (pe_bltn (v := .ty "tuple") (by rfl) T.tuple (by decide +kernel) rfl) pa_nil)))))))) (pss_one (ps_ret (pe_call An.ok r5 rfl An.mg An.kp An.bd .nil pass0 (pa_cons (pv 0) (pa_cons pe_int pa_nil))))) pss_nil)
        (pss_cons (ps_if (pt_cmpR op_lt (pv 3) pe_int (nomark _)) (pss_one (ps_ret (pe_callTy call_list_of (by rfl) T.list (by decide +kernel) (pa_cons (pv 1) pa_nil)))) pss_nil)
        (pss_cons (ps_if (pt_cmpR op_lt (pv 3) pe_int (nomark _)) (pss_one (ps_ret (pe_op op_catA (pv 1) (pe_tup (pa_cons (pe_call Pk.ok r2 rfl Pk.mg Pk.kp Pk.bd .nil pass0 (pa_cons (pv 0) (pa_cons (pe_lst
          (pa_cons (pe_tup pa_nil) (pa_cons pe_int (pa_cons (pe_tup (pa_cons pe_int (pa_cons pe_int (pa_cons pe_int pa_nil)))) (pa_cons (pe_tup (pa_cons (pe_tup (pa_cons pe_int (pa_cons pe_int (pa_cons pe_int pa_nil)))) pa_nil)) (pa_cons pe_non (pa_cons pe_bl pa_nil))))))) pa_nil))) pa_nil))))) pss_nil)
        (pss_cons (ps_if (pt_cmpR op_lt (pv 3) pe_int (nomark _))
          (pss_cons (ps_set (i := 4) sc8Bent.nd rfl (Or.inl rfl) (pe_cmpR (op_neD hr.units) (pe_lc (own := [("x", 6)]) (g := gName 6) (tt := _) rfl sc8Bent.nd (pi_tup (pv 1)) (blkOk_by (own := [("x", 6)]) (N := ["deck", "thing", "deep", "way", "is_great", "at", "x"]) (sc := defScope s__law_bent) (by decide +kernel)) (fun _ _ _ _ _ => pg_name (i := 6) sc8Bent.nd rfl (Or.inl rfl))
              (fun _ _ _ _ _ => pts_one (PW.pt (pw_and (pt_val (pe_call Li.ok r1 rfl Li.mg Li.kp Li.bd .nil pass0 (pa_cons (pv 6) pa_nil))) (pw_and1 (pt_cmpR op_gt (pe_callB call_abs (by rfl) T.abs (by decide +kernel) (pa_cons (pv 6) pa_nil)) (pe_op op_pow pe_int pe_int) (nomark _)))))) (fun _ _ _ _ _ => pe_int)) (pe_lst pa_nil) (nomark _)))
          (pss_one (ps_ret (pe_ifExp (pt_val (pv 4)) (pe_callTy call_list_of (by rfl) T.list (by decide +kernel) (pa_cons (pv 1) pa_nil)) (pe_back (pv 1)))))) pss_nil)
        (pss_cons (ps_if (pt_cmpR op_lt (pv 3) pe_int (nomark _)) (pss_one (ps_ret (pe_op op_catA (pv 1) (pe_slice sl_tupA (pv 1) po_none (po_some pe_int))))) pss_nil)
        (pss_one (ps_ret (pe_ifExp (pt_cmpR op_lt (pv 3) pe_int (nomark _)) (pe_slice sl_tupA (pv 1) (po_some pe_int) po_none) (pe_tup (pa_cons (pv 1) pa_nil)))))))))))) pss_nil)
      (pss_cons (ps_set (i := 5) sc8Bent.nd rfl (Or.inl rfl) (pe_call Dr.ok r1 rfl Dr.mg Dr.kp Dr.bd .nil pass0 (pa_cons (pv 0) (pa_cons (pe_callB call_len (by rfl) T.len PySem.boot_len (pa_cons (pv 1) pa_nil)) pa_nil))))
      (pss_one (ps_ret (pe_call In.ok r1 rfl In.mg In.kp In.bd .nil pass0 (pa_cons (pv 1) (pa_cons (pv 5) (pa_cons (pe_call R.ok hr rfl R.mg R.kp R.bd .nil pass0 (pa_cons (pv 0) (pa_cons (pe_ix (r := rIx K) ix_seq (pv 1) (pv 5) (fun _ _ => rfl)) (pa_cons (pe_op op_sub (pv 2) pe_int) pa_nil)))) pa_nil))))))), ?_⟩
    cases tb0 with
    | @int i bi =>
      obtain rfl := dnI hv
      have bm := bd_log bi
      refine ⟨_, rfl, .int i, .ty "tuple", _, _, _, rfl, .ty _, dn_ty (.int i), kit_ty (kit_t (.int i)), _, rfl, iteT (iteT ?_)⟩
      refine ⟨_, rfl, dk, l, 14, rfl, De, by decide, by decide, fun way H1 w0 w1 D1 k1 => ?_⟩
      refine ⟨_, rfl, .int i, .int i, rfl, .int i, _, rfl, iteT ?_⟩
      have cm : ∀ j : Int, (j = 2 ∨ j = 4) → CMul j i := fun j hj => .inl ⟨by rcases hj with h | h <;> rw [h] <;> decide, by rcases hj with h | h <;> rw [h] <;> decide⟩
      refine ⟨_, rfl, _, rfl, _, rfl, _, rfl, _, _, rfl, rfl, cm 2 (.inl rfl), _, rfl, _, _, rfl, rfl, _, rfl, .inl ⟨i, rfl, _, rfl, i, rfl, Nat.lt_trans bm (by decide), _, rfl, by show 1 ≤ sizeLine; rw [sizeLine_eq]; decide, fun p1 hp1 => ?_⟩⟩
      refine ⟨_, rfl, by show 1 ≤ sizeLine; rw [sizeLine_eq]; decide, fun p2 hp2 => ?_⟩
      refine ⟨_, rfl, _, _, rfl, rfl, cm 4 (.inr rfl), by show 10 ≤ sizeLine; rw [sizeLine_eq]; decide, fun p3 hp3 => ?_⟩
      have s1 := snew (o := .tup [.int i]) hp1
      have sb := snew (o := .lst [.int i]) hp2
      have s2 := s1.trans sb
      have D2' := D1.same s2
      have na : ∀ {H' : Hp} {b : Addr}, Deck H' dk l → H' b = none → b ≠ dk ∧ b ≠ l := fun D h => ⟨fun z => D.some1.1 (z ▸ h), fun z => D.some1.2 (z ▸ h)⟩
      refine pick_new (E := E0) D2' hp3 (by simp) (by show 10 < _; decide) fun x H2 hx D2 k2 => ?_
      have fin : ∀ (d' : PyData) (m : Nat), Okd m 1 d' → m ≤ 50000 → Dn H2 x d' → Q x H2 := fun d' m ok hm dn => k x d' H2 dn ⟨ok.sh, by have := ok.dp; omega, by have := (Okd.wd ok).wt; omega⟩ D2 ((k1.trans (Keep.of s2)).trans k2)
      have g : ∀ j : Int, x = .int j → j.natAbs ≤ 4 * i.natAbs + 1 → Q x H2 := fun j e hj => fin (.int j) 1921 ((okd_int (bd_more bi hj)).mono (Nat.le_refl _) (by omega)) (by omega) (e ▸ .int j)
      simp only [List.mem_cons, List.not_mem_nil, or_false] at hx
      rcases hx with rfl | rfl | rfl | rfl | rfl | rfl | rfl | rfl | rfl | rfl
      · exact g _ rfl (by omega)
      · exact g _ rfl (by omega)
      · exact g _ rfl (by omega)
      · exact g _ rfl (by omega)
      · exact fin (.bool _) 5 ((okd_bl _).mono (Nat.le_refl _) (by omega)) (by omega) (.bl _)
      · exact fin (.str _) 19212 ((okd_str (txt_int (Nat.lt_trans bm (by decide)))).mono (Nat.le_refl _) (by omega)) (by omega) (.str _)
      · exact fin (.tuple [.int i]) (1 * (1921 + 2) + 3) (okd_tup (m := 1921) (n := 0) (ds := [.int i]) fun d hd => by rw [List.mem_singleton.mp hd]; exact okd_int (Nat.lt_trans bm (by decide))) (by decide) (.tup (k2 _ _ (sb _ _ upd_same) (na D1 hp1).1 (na D1 hp1).2) (.cons (.int _) .nil))
      · exact fin (.list [.int i]) (1 * (1921 + 2) + 2) (okd_list (m := 1921) (n := 0) (ds := [.int i]) fun d hd => by rw [List.mem_singleton.mp hd]; exact okd_int (Nat.lt_trans bm (by decide))) (by decide) (.lst (k2 _ _ upd_same (na (D1.same s1) hp2).1 (na (D1.same s1) hp2).2) (.cons (.int _) .nil))
      · exact fin .none 4 ((okd_non).mono (Nat.le_refl _) (by omega)) (by omega) .non
      · exact g _ rfl (by omega)
    | @tup ds lds tb =>
      obtain ⟨a, xs, rfl, ea, ra⟩ := dn_t hv
      obtain ⟨m, rfl⟩ : ∃ m, n = m + 1 := ⟨n - 1, by simp only [PyData.depth] at dd; omega⟩
      have ddA : PyData.depthAll ds ≤ m := by simp only [PyData.depth] at dd; omega
      have sdA : PyData.showableAll ds = true := by simpa only [PyData.showable] using sd
      have hx0 : ∀ e ∈ ds, e.showable = true ∧ e.depth ≤ m := fun e he => ⟨sh_mem sdA he, Nat.le_trans (dp_mem he) ddA⟩
      have hx : ∀ e ∈ ds, e.showable = true ∧ e.depth ≤ m + 8 := fun e he => ⟨(hx0 e he).1, by have := (hx0 e he).2; omega⟩
      have ew : wt (.tuple ds) = wtA ds + 3 := by simp only [wt]
      have lxs : xs.length = ds.length := ra.length
      have tn0 : Tn (.tuple ds) := .tup fun d hd => (tb d hd).tn
      rw [ew] at k
      refine ⟨_, rfl, .ref a, .ty "tuple", _, _, _, rfl, .ty _, dn_ty hv, kit_ty (kit_t (.tuple ds)), _, rfl, iteF ?_⟩
      refine ⟨_, rfl, Nat.zero_le _, fun p0 hp0 => ⟨.tuple ds, .tuple [], tn_dp _ _ tn0 (Dn.mono (snew hp0) _ _ hv), .tup (SqT.of upd_same) .nil, shaped_of (tn_lay tn0) (by omega), rfl, _, rfl, ?_⟩⟩
      rw [eqv_nil_t]
      have D0 := De.same (snew (o := .tup []) hp0)
      have kp0 : Keep dk l H (upd H p0 (.tup [])) := Keep.of (snew hp0)
      refine ite_b (fun c1 => iteT ?_) (fun c1 => ?_)
      · obtain ⟨Hx, ex⟩ : ∃ Hx, upd H p0 (.tup []) = Hx := ⟨_, rfl⟩
        have Dx : Deck Hx dk l := by rw [← ex]; exact D0
        have kx : Keep dk l H Hx := by rw [← ex]; exact kp0
        rw [ex]
        refine ⟨_, rfl, dk, l, 14, rfl, Dx, by decide, by decide, fun way H1 w0 w1 D1 k1 => ?_⟩
        have kk := kx.trans k1
        have tk := keep_tups De kk
        have ea1 := tk _ _ ea
        have ra1 := tnA_tups tk _ _ (fun d hd => (tb d hd).tn) ra
        have dnH : Dn H1 (.ref a) (.tuple ds) := .tup ea1 ra1
        refine ⟨_, rfl, .ref a, .tuple ds, rfl, dnH, _, rfl, iteF ?_⟩
        refine ⟨_, rfl, rfl, _, rfl, ite_b (fun _ => iteT ?_) (fun _ => ?_)⟩
        · refine ⟨_, rfl, dk, l, rfl, D1, fun r H2 nr D2 k2 => ?_⟩
          obtain ⟨d', dn', ok'⟩ := nr
          have b2 : big 2 = 52032 := rfl
          exact k r d' H2 (Dn.mono (fun b o e => (of_new e).2) _ _ dn') ⟨ok'.sh, by have := ok'.dp; omega, by have := (Okd.wd ok').wt; omega⟩ D2 (kk.trans k2)
        refine ⟨_, rfl, .ref a, .ty "tuple", _, _, _, rfl, .ty _, dn_ty dnH, kit_ty (kit_t (.tuple ds)), _, rfl, iteF ?_⟩
        refine ⟨_, rfl, _, _, rfl, rfl, _, rfl, ite_b (fun _ => ?_) (fun _ => ?_)⟩
        · refine ⟨_, rfl, a, xs, rfl, .inr (SqT.of ea1), fun p hp => ?_⟩
          exact k _ (.list ds) _ (.lst upd_same (DnAll.mono (snew hp) _ _ ra1)) (rz_l hx (by omega)) (D1.same (snew hp)) (kk.trans (Keep.of (snew hp)))
        refine ⟨_, rfl, _, _, rfl, rfl, _, rfl, ite_b (fun _ => ?_) (fun _ => ?_)⟩
        · refine ⟨_, rfl, _, rfl, Nat.zero_le _, fun p0 hp0 => ?_⟩
          refine ⟨by show 3 ≤ sizeLine; rw [sizeLine_eq]; decide, fun p1 hp1 => ?_⟩
          refine ⟨by show 3 ≤ sizeLine; rw [sizeLine_eq]; decide, fun p2 hp2 => ?_⟩
          refine ⟨by show 1 ≤ sizeLine; rw [sizeLine_eq]; decide, fun p3 hp3 => ?_⟩
          refine ⟨by show 6 ≤ sizeLine; rw [sizeLine_eq]; decide, fun p4 hp4 => ?_⟩
          have s0 := snew (o := .tup []) hp0
          have sa1 := snew (o := .tup [.int 1, .int 1, .int 1]) hp1
          have sa2 := snew (o := .tup [.int 1, .int 1, .int 1]) hp2
          have sa3 := snew (o := .tup [.ref p2]) hp3
          have s3 := ((s0.trans sa1).trans sa2).trans sa3
          have Dg := D1.same s3
          refine pick_new (E := E0) Dg hp4 (by simp) (by show 6 < _; decide) fun x H2 hx2 D2 k2 => ?_
          have tg := keep_tups Dg k2
          have one : ∀ {G : Hp} {p : Addr}, G p = some (.tup [.int 1, .int 1, .int 1]) → Dn G (.ref p) (encT (1, 1, 1)) := fun e => .tup e (.cons (.int _) (.cons (.int _) (.cons (.int _) .nil)))
          have gi : GW 104 0 (.int 1) := gw_int (bd_small (by decide))
          have g1 : GW 321 1 (encT (1, 1, 1)) := gw_three gi gi gi
          have nx : ∃ d', Dn H2 x d' ∧ d'.showable = true ∧ d'.depth ≤ 2 ∧ wt d' ≤ 2000 := by
            simp only [List.mem_cons, List.not_mem_nil, or_false] at hx2
            rcases hx2 with rfl | rfl | rfl | rfl | rfl | rfl
            · exact ⟨.tuple [], .tup (tg _ _ (sa3 _ _ (sa2 _ _ (sa1 _ _ upd_same)))) .nil, by decide, by decide, by decide⟩
            · exact ⟨.int 0, .int 0, by decide, by decide, by decide⟩
            · exact ⟨encT (1, 1, 1), one (tg _ _ (sa3 _ _ (sa2 _ _ upd_same))), g1.wd.sh, by have := g1.wd.dp; omega, by have := g1.wd.wt; omega⟩
            · have g2 := gw_tup (m := 321) (n := 1) (ds := [encT (1, 1, 1)]) (fun d hd => by rw [List.mem_singleton.mp hd]; exact g1)
              exact ⟨.tuple [encT (1, 1, 1)], .tup (tg _ _ upd_same) (.cons (one (tg _ _ (sa3 _ _ upd_same))) .nil), g2.wd.sh, g2.wd.dp, by have : wt (.tuple [encT (1, 1, 1)]) ≤ 1 * (321 + 2) + 3 := g2.wd.wt; omega⟩
            · exact ⟨.none, .non, by decide, by decide, by decide⟩
            · exact ⟨.bool true, .bl true, by decide, by decide, by decide⟩
          obtain ⟨d', dx, sx, ex, wx⟩ := nx
          refine ⟨by show 1 ≤ sizeLine; rw [sizeLine_eq]; decide, fun p5 hp5 => ?_⟩
          have ea2 := tg _ _ (s3 _ _ ea1)
          have ra2 := tnA_tups ((Same.tups s3).trans tg) _ _ (fun d hd => (tb d hd).tn) ra1
          refine cat_any (snew hp5 _ _ ea2) upd_same (by show xs.length + 1 ≤ 1000; omega) fun p6 H6 e6 s6 => ?_
          have so := (snew (o := .tup [x]) hp5).trans s6
          refine k _ (.tuple (ds ++ [d'])) H6 (.tup e6 (dn_app (DnAll.mono so _ _ ra2) (.cons (Dn.mono so _ _ dx) .nil))) (rz_t (fun e he => ?_) (by rw [wtA_app]; simp only [wtA]; omega)) (D2.same so) (((kk.trans (Keep.of s3)).trans k2).trans (Keep.of so))
          rcases List.mem_append.mp he with he | he
          · exact hx e he
          · rw [List.mem_singleton.mp he]; exact ⟨sx, by omega⟩
        refine ⟨_, rfl, _, _, rfl, rfl, _, rfl, ite_b (fun _ => ?_) (fun _ => ?_)⟩
        · refine ⟨_, rfl, a, rfl, ⟨_, SqT.of ea1⟩, fun D hD => lc_tup (K := K) (a := a) (xs := xs) (fun i H' => ∃ k, H' D = some (.lst ((ones k).map V.int)) ∧ k ≤ i ∧ Same H1 H')
            ⟨0, upd_same, Nat.le_refl _, snew hD⟩ (fun i H' _ ⟨_, _, _, s'⟩ => SqT.of (s' _ _ ea1)) ?_ ?_⟩
          · rintro i x H' hx2 ⟨n', e1, e2, s'⟩
            have il := (List.getElem?_eq_some_iff.mp hx2).1
            obtain ⟨d', _, dn'⟩ := ra1.at_ hx2
            have dn2 : Dn H' x d' := Dn.mono s' d' x dn'
            refine ⟨rfl, ?_⟩
            refine ⟨_, rfl, x, d', rfl, dn2, _, rfl, ite_b (fun e => ?_) (fun _ => ?_)⟩
            · obtain ⟨z, rfl, _⟩ := dn_int dn2 e
              refine ⟨_, rfl, z, rfl, _, _, rfl, rfl, ⟨by decide, by decide, by decide⟩, _, _, rfl, rfl, _, rfl, ite_b (fun _ => ?_) (fun _ => ?_)⟩
              · refine ⟨_, e1, by rw [ones_len]; exact small1000 (by omega), n' + 1, by rw [ones_succ, upd_same], by omega, fun c o e => ?_⟩
                rw [upd_ne (ne_of_none e hD)]; exact s' _ _ e
              · exact ⟨n', e1, by omega, s'⟩
            · refine iteF ?_
              exact ⟨n', e1, by omega, s'⟩
          · rintro H2 ⟨n', e1, e2, s2⟩
            refine ⟨Nat.zero_le _, fun p hp => ⟨.list ((ones n').map PyData.int), .list [], .lst (SqL.of (snew hp _ _ e1)) (ints_dp _), .lst (SqL.of upd_same) .nil, ints_shaped _, nil_shaped, ?_⟩⟩
            have s3 := s2.trans (snew (o := .lst []) hp)
            have D3 := D1.same s3
            refine ⟨_, rfl, _, rfl, ite_b (fun _ => ?_) (fun _ => ?_)⟩
            · refine ⟨_, rfl, a, xs, rfl, .inr (SqT.of (s3 _ _ ea1)), fun p2 hp2 => ?_⟩
              exact k _ (.list ds) _ (.lst upd_same (DnAll.mono (s3.trans (snew hp2)) _ _ ra1)) (rz_l hx (by omega)) (D3.same (snew hp2)) ((kk.trans (Keep.of s3)).trans (Keep.of (snew hp2)))
            · refine ⟨_, rfl, a, xs, rfl, SqT.of (s3 _ _ ea1), fun p2 hp2 => ?_⟩
              exact k _ (.tuple ds.reverse) _ (.tup upd_same (dn_rev (DnAll.mono (s3.trans (snew hp2)) _ _ ra1))) (rz_t (fun e he => hx e (List.mem_reverse.mp he)) (by rw [wtA_rev]; omega)) (D3.same (snew hp2)) ((kk.trans (Keep.of s3)).trans (Keep.of (snew hp2)))
        refine ⟨_, rfl, _, _, rfl, rfl, _, rfl, ite_b (fun _ => ?_) (fun _ => ?_)⟩
        · refine ⟨_, rfl, _, rfl, _, rfl, sl_any ea1 fun p2 H2 e2 s2 => ?_⟩
          rw [cut_one xs] at e2
          refine cat_any (s2 _ _ ea1) e2 (by rw [List.length_take]; omega) fun p3 H3 e3 s3 => ?_
          have so := s2.trans s3
          refine k _ (.tuple (ds ++ ds.take 1)) H3 (.tup e3 (dn_app (DnAll.mono so _ _ ra1) (DnAll.mono so _ _ (dnAll_take ra1 1)))) (rz_t (fun e he => ?_) (by rw [wtA_app]; have := wtA_take ds 1; omega)) (D1.same so) (kk.trans (Keep.of so))
          exact hx e ((List.mem_append.mp he).elim id List.mem_of_mem_take)
        refine ⟨_, rfl, _, _, rfl, rfl, _, rfl, ite_b (fun _ => ?_) (fun _ => ?_)⟩
        · refine ⟨_, rfl, _, rfl, ?_⟩
          dsimp only [tNoPart]
          refine sl_any ea1 fun p2 H2 e2 s2 => ?_
          rw [cut1'] at e2
          exact k _ (.tuple (ds.drop 1)) H2 (.tup e2 (DnAll.mono s2 _ _ (dnAll_drop ra1 1))) (rz_t (fun e he => hx e (List.mem_of_mem_drop he)) (by have := wtA_drop ds 1; omega)) (D1.same s2) (kk.trans (Keep.of s2))
        · refine ⟨_, rfl, by show 1 ≤ sizeLine; rw [sizeLine_eq]; decide, fun p2 hp2 => ?_⟩
          have s2 := snew (o := .tup [.ref a]) hp2
          exact k _ (.tuple [.tuple ds]) _ (.tup upd_same (.cons (Dn.mono s2 _ _ dnH) .nil)) (rz_t (fun e he => by rw [List.mem_singleton.mp he]; exact ⟨sd, by omega⟩) (by simp only [wtA, wt]; omega)) (D1.same s2) (kk.trans (Keep.of s2))
      refine ⟨_, rfl, rfl, _, rfl, ite_b (fun c2 => iteT ?_) (fun c2 => ?_)⟩
      · obtain ⟨Hx, ex⟩ : ∃ Hx, upd H p0 (.tup []) = Hx := ⟨_, rfl⟩
        have Dx : Deck Hx dk l := by rw [← ex]; exact D0
        have kx : Keep dk l H Hx := by rw [← ex]; exact kp0
        rw [ex]
        refine ⟨_, rfl, dk, l, 14, rfl, Dx, by decide, by decide, fun way H1 w0 w1 D1 k1 => ?_⟩
        have kk := kx.trans k1
        have tk := keep_tups De kk
        have ea1 := tk _ _ ea
        have ra1 := tnA_tups tk _ _ (fun d hd => (tb d hd).tn) ra
        have dnH : Dn H1 (.ref a) (.tuple ds) := .tup ea1 ra1
        refine ⟨_, rfl, .ref a, .tuple ds, rfl, dnH, _, rfl, iteF ?_⟩
        refine ⟨_, rfl, rfl, _, rfl, ite_b (fun _ => iteT ?_) (fun _ => ?_)⟩
        · refine ⟨_, rfl, dk, l, rfl, D1, fun r H2 nr D2 k2 => ?_⟩
          obtain ⟨d', dn', ok'⟩ := nr
          have b2 : big 2 = 52032 := rfl
          exact k r d' H2 (Dn.mono (fun b o e => (of_new e).2) _ _ dn') ⟨ok'.sh, by have := ok'.dp; omega, by have := (Okd.wd ok').wt; omega⟩ D2 (kk.trans k2)
        refine ⟨_, rfl, .ref a, .ty "tuple", _, _, _, rfl, .ty _, dn_ty dnH, kit_ty (kit_t (.tuple ds)), _, rfl, iteF ?_⟩
        refine ⟨_, rfl, _, _, rfl, rfl, _, rfl, ite_b (fun _ => ?_) (fun _ => ?_)⟩
        · refine ⟨_, rfl, a, xs, rfl, .inr (SqT.of ea1), fun p hp => ?_⟩
          exact k _ (.list ds) _ (.lst upd_same (DnAll.mono (snew hp) _ _ ra1)) (rz_l hx (by omega)) (D1.same (snew hp)) (kk.trans (Keep.of (snew hp)))
        refine ⟨_, rfl, _, _, rfl, rfl, _, rfl, ite_b (fun _ => ?_) (fun _ => ?_)⟩
        · refine ⟨_, rfl, _, rfl, Nat.zero_le _, fun p0 hp0 => ?_⟩
          refine ⟨by show 3 ≤ sizeLine; rw [sizeLine_eq]; decide, fun p1 hp1 => ?_⟩
          refine ⟨by show 3 ≤ sizeLine; rw [sizeLine_eq]; decide, fun p2 hp2 => ?_⟩
          refine ⟨by show 1 ≤ sizeLine; rw [sizeLine_eq]; decide, fun p3 hp3 => ?_⟩
          refine ⟨by show 6 ≤ sizeLine; rw [sizeLine_eq]; decide, fun p4 hp4 => ?_⟩
          have s0 := snew (o := .tup []) hp0
          have sa1 := snew (o := .tup [.int 1, .int 1, .int 1]) hp1
          have sa2 := snew (o := .tup [.int 1, .int 1, .int 1]) hp2
          have sa3 := snew (o := .tup [.ref p2]) hp3
          have s3 := ((s0.trans sa1).trans sa2).trans sa3
          have Dg := D1.same s3
          refine pick_new (E := E0) Dg hp4 (by simp) (by show 6 < _; decide) fun x H2 hx2 D2 k2 => ?_
          have tg := keep_tups Dg k2
          have one : ∀ {G : Hp} {p : Addr}, G p = some (.tup [.int 1, .int 1, .int 1]) → Dn G (.ref p) (encT (1, 1, 1)) := fun e => .tup e (.cons (.int _) (.cons (.int _) (.cons (.int _) .nil)))
          have gi : GW 104 0 (.int 1) := gw_int (bd_small (by decide))
          have g1 : GW 321 1 (encT (1, 1, 1)) := gw_three gi gi gi
          have nx : ∃ d', Dn H2 x d' ∧ d'.showable = true ∧ d'.depth ≤ 2 ∧ wt d' ≤ 2000 := by
            simp only [List.mem_cons, List.not_mem_nil, or_false] at hx2
            rcases hx2 with rfl | rfl | rfl | rfl | rfl | rfl
            · exact ⟨.tuple [], .tup (tg _ _ (sa3 _ _ (sa2 _ _ (sa1 _ _ upd_same)))) .nil, by decide, by decide, by decide⟩
            · exact ⟨.int 0, .int 0, by decide, by decide, by decide⟩
            · exact ⟨encT (1, 1, 1), one (tg _ _ (sa3 _ _ (sa2 _ _ upd_same))), g1.wd.sh, by have := g1.wd.dp; omega, by have := g1.wd.wt; omega⟩
            · have g2 := gw_tup (m := 321) (n := 1) (ds := [encT (1, 1, 1)]) (fun d hd => by rw [List.mem_singleton.mp hd]; exact g1)
              exact ⟨.tuple [encT (1, 1, 1)], .tup (tg _ _ upd_same) (.cons (one (tg _ _ (sa3 _ _ upd_same))) .nil), g2.wd.sh, g2.wd.dp, by have : wt (.tuple [encT (1, 1, 1)]) ≤ 1 * (321 + 2) + 3 := g2.wd.wt; omega⟩
            · exact ⟨.none, .non, by decide, by decide, by decide⟩
            · exact ⟨.bool true, .bl true, by decide, by decide, by decide⟩
          obtain ⟨d', dx, sx, ex, wx⟩ := nx
          refine ⟨by show 1 ≤ sizeLine; rw [sizeLine_eq]; decide, fun p5 hp5 => ?_⟩
          have ea2 := tg _ _ (s3 _ _ ea1)
          have ra2 := tnA_tups ((Same.tups s3).trans tg) _ _ (fun d hd => (tb d hd).tn) ra1
          refine cat_any (snew hp5 _ _ ea2) upd_same (by show xs.length + 1 ≤ 1000; omega) fun p6 H6 e6 s6 => ?_
          have so := (snew (o := .tup [x]) hp5).trans s6
          refine k _ (.tuple (ds ++ [d'])) H6 (.tup e6 (dn_app (DnAll.mono so _ _ ra2) (.cons (Dn.mono so _ _ dx) .nil))) (rz_t (fun e he => ?_) (by rw [wtA_app]; simp only [wtA]; omega)) (D2.same so) (((kk.trans (Keep.of s3)).trans k2).trans (Keep.of so))
          rcases List.mem_append.mp he with he | he
          · exact hx e he
          · rw [List.mem_singleton.mp he]; exact ⟨sx, by omega⟩
        refine ⟨_, rfl, _, _, rfl, rfl, _, rfl, ite_b (fun _ => ?_) (fun _ => ?_)⟩
        · refine ⟨_, rfl, a, rfl, ⟨_, SqT.of ea1⟩, fun D hD => lc_tup (K := K) (a := a) (xs := xs) (fun i H' => ∃ k, H' D = some (.lst ((ones k).map V.int)) ∧ k ≤ i ∧ Same H1 H')
            ⟨0, upd_same, Nat.le_refl _, snew hD⟩ (fun i H' _ ⟨_, _, _, s'⟩ => SqT.of (s' _ _ ea1)) ?_ ?_⟩
          · rintro i x H' hx2 ⟨n', e1, e2, s'⟩
            have il := (List.getElem?_eq_some_iff.mp hx2).1
            obtain ⟨d', _, dn'⟩ := ra1.at_ hx2
            have dn2 : Dn H' x d' := Dn.mono s' d' x dn'
            refine ⟨rfl, ?_⟩
            refine ⟨_, rfl, x, d', rfl, dn2, _, rfl, ite_b (fun e => ?_) (fun _ => ?_)⟩
            · obtain ⟨z, rfl, _⟩ := dn_int dn2 e
              refine ⟨_, rfl, z, rfl, _, _, rfl, rfl, ⟨by decide, by decide, by decide⟩, _, _, rfl, rfl, _, rfl, ite_b (fun _ => ?_) (fun _ => ?_)⟩
              · refine ⟨_, e1, by rw [ones_len]; exact small1000 (by omega), n' + 1, by rw [ones_succ, upd_same], by omega, fun c o e => ?_⟩
                rw [upd_ne (ne_of_none e hD)]; exact s' _ _ e
              · exact ⟨n', e1, by omega, s'⟩
            · refine iteF ?_
              exact ⟨n', e1, by omega, s'⟩
          · rintro H2 ⟨n', e1, e2, s2⟩
            refine ⟨Nat.zero_le _, fun p hp => ⟨.list ((ones n').map PyData.int), .list [], .lst (SqL.of (snew hp _ _ e1)) (ints_dp _), .lst (SqL.of upd_same) .nil, ints_shaped _, nil_shaped, ?_⟩⟩
            have s3 := s2.trans (snew (o := .lst []) hp)
            have D3 := D1.same s3
            refine ⟨_, rfl, _, rfl, ite_b (fun _ => ?_) (fun _ => ?_)⟩
            · refine ⟨_, rfl, a, xs, rfl, .inr (SqT.of (s3 _ _ ea1)), fun p2 hp2 => ?_⟩
              exact k _ (.list ds) _ (.lst upd_same (DnAll.mono (s3.trans (snew hp2)) _ _ ra1)) (rz_l hx (by omega)) (D3.same (snew hp2)) ((kk.trans (Keep.of s3)).trans (Keep.of (snew hp2)))
            · refine ⟨_, rfl, a, xs, rfl, SqT.of (s3 _ _ ea1), fun p2 hp2 => ?_⟩
              exact k _ (.tuple ds.reverse) _ (.tup upd_same (dn_rev (DnAll.mono (s3.trans (snew hp2)) _ _ ra1))) (rz_t (fun e he => hx e (List.mem_reverse.mp he)) (by rw [wtA_rev]; omega)) (D3.same (snew hp2)) ((kk.trans (Keep.of s3)).trans (Keep.of (snew hp2)))
        refine ⟨_, rfl, _, _, rfl, rfl, _, rfl, ite_b (fun _ => ?_) (fun _ => ?_)⟩
        · refine ⟨_, rfl, _, rfl, _, rfl, sl_any ea1 fun p2 H2 e2 s2 => ?_⟩
          rw [cut_one xs] at e2
          refine cat_any (s2 _ _ ea1) e2 (by rw [List.length_take]; omega) fun p3 H3 e3 s3 => ?_
          have so := s2.trans s3
          refine k _ (.tuple (ds ++ ds.take 1)) H3 (.tup e3 (dn_app (DnAll.mono so _ _ ra1) (DnAll.mono so _ _ (dnAll_take ra1 1)))) (rz_t (fun e he => ?_) (by rw [wtA_app]; have := wtA_take ds 1; omega)) (D1.same so) (kk.trans (Keep.of so))
          exact hx e ((List.mem_append.mp he).elim id List.mem_of_mem_take)
        refine ⟨_, rfl, _, _, rfl, rfl, _, rfl, ite_b (fun _ => ?_) (fun _ => ?_)⟩
        · refine ⟨_, rfl, _, rfl, ?_⟩
          dsimp only [tNoPart]
          refine sl_any ea1 fun p2 H2 e2 s2 => ?_
          rw [cut1'] at e2
          exact k _ (.tuple (ds.drop 1)) H2 (.tup e2 (DnAll.mono s2 _ _ (dnAll_drop ra1 1))) (rz_t (fun e he => hx e (List.mem_of_mem_drop he)) (by have := wtA_drop ds 1; omega)) (D1.same s2) (kk.trans (Keep.of s2))
        · refine ⟨_, rfl, by show 1 ≤ sizeLine; rw [sizeLine_eq]; decide, fun p2 hp2 => ?_⟩
          have s2 := snew (o := .tup [.ref a]) hp2
          exact k _ (.tuple [.tuple ds]) _ (.tup upd_same (.cons (Dn.mono s2 _ _ dnH) .nil)) (rz_t (fun e he => by rw [List.mem_singleton.mp he]; exact ⟨sd, by omega⟩) (by simp only [wtA, wt]; omega)) (D1.same s2) (kk.trans (Keep.of s2))
      obtain ⟨H9, e9⟩ : ∃ H9, upd H p0 (.tup []) = H9 := ⟨_, rfl⟩
      have D9 : Deck H9 dk l := by rw [← e9]; exact D0
      have k9 : Keep dk l H H9 := by rw [← e9]; exact kp0
      rw [e9]
      refine ⟨_, rfl, dk, l, 5, rfl, D9, by decide, by decide, fun r Hx r0 r5' Dx k1' => ?_⟩
      have kx := k9.trans k1'
      refine ⟨rfl, _, rfl, ite_b (fun c3 => ?_) (fun c3 => ?_)⟩
      · skip
        refine ⟨_, rfl, dk, l, 14, rfl, Dx, by decide, by decide, fun way H1 w0 w1 D1 k1 => ?_⟩
        have kk := kx.trans k1
        have tk := keep_tups De kk
        have ea1 := tk _ _ ea
        have ra1 := tnA_tups tk _ _ (fun d hd => (tb d hd).tn) ra
        have dnH : Dn H1 (.ref a) (.tuple ds) := .tup ea1 ra1
        refine ⟨_, rfl, .ref a, .tuple ds, rfl, dnH, _, rfl, iteF ?_⟩
        refine ⟨_, rfl, rfl, _, rfl, ite_b (fun _ => iteT ?_) (fun _ => ?_)⟩
        · refine ⟨_, rfl, dk, l, rfl, D1, fun r H2 nr D2 k2 => ?_⟩
          obtain ⟨d', dn', ok'⟩ := nr
          have b2 : big 2 = 52032 := rfl
          exact k r d' H2 (Dn.mono (fun b o e => (of_new e).2) _ _ dn') ⟨ok'.sh, by have := ok'.dp; omega, by have := (Okd.wd ok').wt; omega⟩ D2 (kk.trans k2)
        refine ⟨_, rfl, .ref a, .ty "tuple", _, _, _, rfl, .ty _, dn_ty dnH, kit_ty (kit_t (.tuple ds)), _, rfl, iteF ?_⟩
        refine ⟨_, rfl, _, _, rfl, rfl, _, rfl, ite_b (fun _ => ?_) (fun _ => ?_)⟩
        · refine ⟨_, rfl, a, xs, rfl, .inr (SqT.of ea1), fun p hp => ?_⟩
          exact k _ (.list ds) _ (.lst upd_same (DnAll.mono (snew hp) _ _ ra1)) (rz_l hx (by omega)) (D1.same (snew hp)) (kk.trans (Keep.of (snew hp)))
        refine ⟨_, rfl, _, _, rfl, rfl, _, rfl, ite_b (fun _ => ?_) (fun _ => ?_)⟩
        · refine ⟨_, rfl, _, rfl, Nat.zero_le _, fun p0 hp0 => ?_⟩
          refine ⟨by show 3 ≤ sizeLine; rw [sizeLine_eq]; decide, fun p1 hp1 => ?_⟩
          refine ⟨by show 3 ≤ sizeLine; rw [sizeLine_eq]; decide, fun p2 hp2 => ?_⟩
          refine ⟨by show 1 ≤ sizeLine; rw [sizeLine_eq]; decide, fun p3 hp3 => ?_⟩
          refine ⟨by show 6 ≤ sizeLine; rw [sizeLine_eq]; decide, fun p4 hp4 => ?_⟩
          have s0 := snew (o := .tup []) hp0
          have sa1 := snew (o := .tup [.int 1, .int 1, .int 1]) hp1
          have sa2 := snew (o := .tup [.int 1, .int 1, .int 1]) hp2
          have sa3 := snew (o := .tup [.ref p2]) hp3
          have s3 := ((s0.trans sa1).trans sa2).trans sa3
          have Dg := D1.same s3
          refine pick_new (E := E0) Dg hp4 (by simp) (by show 6 < _; decide) fun x H2 hx2 D2 k2 => ?_
          have tg := keep_tups Dg k2
          have one : ∀ {G : Hp} {p : Addr}, G p = some (.tup [.int 1, .int 1, .int 1]) → Dn G (.ref p) (encT (1, 1, 1)) := fun e => .tup e (.cons (.int _) (.cons (.int _) (.cons (.int _) .nil)))
          have gi : GW 104 0 (.int 1) := gw_int (bd_small (by decide))
          have g1 : GW 321 1 (encT (1, 1, 1)) := gw_three gi gi gi
          have nx : ∃ d', Dn H2 x d' ∧ d'.showable = true ∧ d'.depth ≤ 2 ∧ wt d' ≤ 2000 := by
            simp only [List.mem_cons, List.not_mem_nil, or_false] at hx2
            rcases hx2 with rfl | rfl | rfl | rfl | rfl | rfl
            · exact ⟨.tuple [], .tup (tg _ _ (sa3 _ _ (sa2 _ _ (sa1 _ _ upd_same)))) .nil, by decide, by decide, by decide⟩
            · exact ⟨.int 0, .int 0, by decide, by decide, by decide⟩
            · exact ⟨encT (1, 1, 1), one (tg _ _ (sa3 _ _ (sa2 _ _ upd_same))), g1.wd.sh, by have := g1.wd.dp; omega, by have := g1.wd.wt; omega⟩
            · have g2 := gw_tup (m := 321) (n := 1) (ds := [encT (1, 1, 1)]) (fun d hd => by rw [List.mem_singleton.mp hd]; exact g1)
              exact ⟨.tuple [encT (1, 1, 1)], .tup (tg _ _ upd_same) (.cons (one (tg _ _ (sa3 _ _ upd_same))) .nil), g2.wd.sh, g2.wd.dp, by have : wt (.tuple [encT (1, 1, 1)]) ≤ 1 * (321 + 2) + 3 := g2.wd.wt; omega⟩
            · exact ⟨.none, .non, by decide, by decide, by decide⟩
            · exact ⟨.bool true, .bl true, by decide, by decide, by decide⟩
          obtain ⟨d', dx, sx, ex, wx⟩ := nx
          refine ⟨by show 1 ≤ sizeLine; rw [sizeLine_eq]; decide, fun p5 hp5 => ?_⟩
          have ea2 := tg _ _ (s3 _ _ ea1)
          have ra2 := tnA_tups ((Same.tups s3).trans tg) _ _ (fun d hd => (tb d hd).tn) ra1
          refine cat_any (snew hp5 _ _ ea2) upd_same (by show xs.length + 1 ≤ 1000; omega) fun p6 H6 e6 s6 => ?_
          have so := (snew (o := .tup [x]) hp5).trans s6
          refine k _ (.tuple (ds ++ [d'])) H6 (.tup e6 (dn_app (DnAll.mono so _ _ ra2) (.cons (Dn.mono so _ _ dx) .nil))) (rz_t (fun e he => ?_) (by rw [wtA_app]; simp only [wtA]; omega)) (D2.same so) (((kk.trans (Keep.of s3)).trans k2).trans (Keep.of so))
          rcases List.mem_append.mp he with he | he
          · exact hx e he
          · rw [List.mem_singleton.mp he]; exact ⟨sx, by omega⟩
        refine ⟨_, rfl, _, _, rfl, rfl, _, rfl, ite_b (fun _ => ?_) (fun _ => ?_)⟩
        · refine ⟨_, rfl, a, rfl, ⟨_, SqT.of ea1⟩, fun D hD => lc_tup (K := K) (a := a) (xs := xs) (fun i H' => ∃ k, H' D = some (.lst ((ones k).map V.int)) ∧ k ≤ i ∧ Same H1 H')
            ⟨0, upd_same, Nat.le_refl _, snew hD⟩ (fun i H' _ ⟨_, _, _, s'⟩ => SqT.of (s' _ _ ea1)) ?_ ?_⟩
          · rintro i x H' hx2 ⟨n', e1, e2, s'⟩
            have il := (List.getElem?_eq_some_iff.mp hx2).1
            obtain ⟨d', _, dn'⟩ := ra1.at_ hx2
            have dn2 : Dn H' x d' := Dn.mono s' d' x dn'
            refine ⟨rfl, ?_⟩
            refine ⟨_, rfl, x, d', rfl, dn2, _, rfl, ite_b (fun e => ?_) (fun _ => ?_)⟩
            · obtain ⟨z, rfl, _⟩ := dn_int dn2 e
              refine ⟨_, rfl, z, rfl, _, _, rfl, rfl, ⟨by decide, by decide, by decide⟩, _, _, rfl, rfl, _, rfl, ite_b (fun _ => ?_) (fun _ => ?_)⟩
              · refine ⟨_, e1, by rw [ones_len]; exact small1000 (by omega), n' + 1, by rw [ones_succ, upd_same], by omega, fun c o e => ?_⟩
                rw [upd_ne (ne_of_none e hD)]; exact s' _ _ e
              · exact ⟨n', e1, by omega, s'⟩
            · refine iteF ?_
              exact ⟨n', e1, by omega, s'⟩
          · rintro H2 ⟨n', e1, e2, s2⟩
            refine ⟨Nat.zero_le _, fun p hp => ⟨.list ((ones n').map PyData.int), .list [], .lst (SqL.of (snew hp _ _ e1)) (ints_dp _), .lst (SqL.of upd_same) .nil, ints_shaped _, nil_shaped, ?_⟩⟩
            have s3 := s2.trans (snew (o := .lst []) hp)
            have D3 := D1.same s3
            refine ⟨_, rfl, _, rfl, ite_b (fun _ => ?_) (fun _ => ?_)⟩
            · refine ⟨_, rfl, a, xs, rfl, .inr (SqT.of (s3 _ _ ea1)), fun p2 hp2 => ?_⟩
              exact k _ (.list ds) _ (.lst upd_same (DnAll.mono (s3.trans (snew hp2)) _ _ ra1)) (rz_l hx (by omega)) (D3.same (snew hp2)) ((kk.trans (Keep.of s3)).trans (Keep.of (snew hp2)))
            · refine ⟨_, rfl, a, xs, rfl, SqT.of (s3 _ _ ea1), fun p2 hp2 => ?_⟩
              exact k _ (.tuple ds.reverse) _ (.tup upd_same (dn_rev (DnAll.mono (s3.trans (snew hp2)) _ _ ra1))) (rz_t (fun e he => hx e (List.mem_reverse.mp he)) (by rw [wtA_rev]; omega)) (D3.same (snew hp2)) ((kk.trans (Keep.of s3)).trans (Keep.of (snew hp2)))
        refine ⟨_, rfl, _, _, rfl, rfl, _, rfl, ite_b (fun _ => ?_) (fun _ => ?_)⟩
        · refine ⟨_, rfl, _, rfl, _, rfl, sl_any ea1 fun p2 H2 e2 s2 => ?_⟩
          rw [cut_one xs] at e2
          refine cat_any (s2 _ _ ea1) e2 (by rw [List.length_take]; omega) fun p3 H3 e3 s3 => ?_
          have so := s2.trans s3
          refine k _ (.tuple (ds ++ ds.take 1)) H3 (.tup e3 (dn_app (DnAll.mono so _ _ ra1) (DnAll.mono so _ _ (dnAll_take ra1 1)))) (rz_t (fun e he => ?_) (by rw [wtA_app]; have := wtA_take ds 1; omega)) (D1.same so) (kk.trans (Keep.of so))
          exact hx e ((List.mem_append.mp he).elim id List.mem_of_mem_take)
        refine ⟨_, rfl, _, _, rfl, rfl, _, rfl, ite_b (fun _ => ?_) (fun _ => ?_)⟩
        · refine ⟨_, rfl, _, rfl, ?_⟩
          dsimp only [tNoPart]
          refine sl_any ea1 fun p2 H2 e2 s2 => ?_
          rw [cut1'] at e2
          exact k _ (.tuple (ds.drop 1)) H2 (.tup e2 (DnAll.mono s2 _ _ (dnAll_drop ra1 1))) (rz_t (fun e he => hx e (List.mem_of_mem_drop he)) (by have := wtA_drop ds 1; omega)) (D1.same s2) (kk.trans (Keep.of s2))
        · refine ⟨_, rfl, by show 1 ≤ sizeLine; rw [sizeLine_eq]; decide, fun p2 hp2 => ?_⟩
          have s2 := snew (o := .tup [.ref a]) hp2
          exact k _ (.tuple [.tuple ds]) _ (.tup upd_same (.cons (Dn.mono s2 _ _ dnH) .nil)) (rz_t (fun e he => by rw [List.mem_singleton.mp he]; exact ⟨sd, by omega⟩) (by simp only [wtA, wt]; omega)) (D1.same s2) (kk.trans (Keep.of s2))
      · have tk := keep_tups De kx
        have ea1 := tk _ _ ea
        have ra1 := tnA_tups tk _ _ (fun d hd => (tb d hd).tn) ra
        have ne : ds ≠ [] := fun z => by rw [z] at c1; cases c1
        have l1 : 1 ≤ ds.length := List.length_pos_iff.mpr ne
        refine ⟨_, rfl, _, rfl, .ref a, xs.length, rfl, .inr ⟨xs, SqT.of ea1, rfl⟩, dk, l, _, rfl, Dx, by omega, by omega, fun r H2 r0 r2' D2 k2 => ?_⟩
        obtain ⟨j, rfl⟩ : ∃ j : Nat, r = (j : Int) := ⟨r.toNat, by omega⟩
        have hj : j < xs.length := by omega
        have hjd : j < ds.length := by omega
        have t2 := keep_tups Dx k2
        have ea2 := t2 _ _ ea1
        have ra2 := tnA_tups t2 _ _ (fun d hd => (tb d hd).tn) ra1
        obtain ⟨dj, edj, dnj⟩ := ra2.at_ (List.getElem?_eq_getElem hj)
        have mj := List.mem_of_getElem? edj
        refine ⟨_, rfl, _, rfl, _, rfl, _, rfl, _, rfl, .inr (.inl ⟨a, xs, _, _, rfl, rfl, SqT.of ea2, atI_nat (List.getElem?_eq_getElem hj), _, rfl, _, _, rfl, rfl, dk, l, xs[j], deep - 1, dj, rfl, D2, dnj, tb _ mj, (hx0 _ mj).1, (hx0 _ mj).2, by omega, fun r' d' H3 dn' rz D3 k3 => ?_⟩)⟩
        have t3 := keep_tups D2 k3
        have ea3 := t3 _ _ ea2
        have ra3 := tnA_tups t3 _ _ (fun d hd => (tb d hd).tn) ra2
        refine ⟨a, xs, j, r', rfl, ea3, hj, by omega, fun rr H4 e4 s4 => ?_⟩
        obtain ⟨z1, z2, z3⟩ := rz
        have wj : wtA ds = wtA (ds.take j) + (wt dj + 2 + wtA (ds.drop (j + 1))) := by
          have e := wtA_app (ds.take j) (ds.drop j)
          rw [List.take_append_drop, List.drop_eq_getElem_cons hjd] at e
          have ej : ds[j] = dj := by
            have := List.getElem?_eq_getElem hjd
            rw [this] at edj
            exact Option.some.inj edj
          rw [ej, wtA] at e
          exact e
        refine k _ (.tuple (ds.take j ++ [d'] ++ ds.drop (j + 1))) H4 (.tup e4 (dn_app (dn_app (DnAll.mono s4 _ _ (dnAll_take ra3 j)) (.cons (Dn.mono s4 _ _ dn') .nil)) (DnAll.mono s4 _ _ (dnAll_drop ra3 (j + 1))))) (rz_t (fun e he => ?_) ?_) (D3.same s4) (((kx.trans k2).trans k3).trans (Keep.of s4))
        · rcases List.mem_append.mp he with he | he
          · rcases List.mem_append.mp he with he | he
            · exact hx e (List.mem_of_mem_take he)
            · rw [List.mem_singleton.mp he]; exact ⟨z1, z2⟩
          · exact hx e (List.mem_of_mem_drop he)
        · rw [wtA_app, wtA_app]
          simp only [wtA]
          omega
end
end N3

namespace N3
open PySem PySem.Spec PyProof.Rows L2 N2 LamX
theorem bent_kn {P : Program} {w : World} {K : PySem.W.Frag} {mg : Str → Option Value} {base : Heap} {f f1 f2 f3 f4 f5 : Addr} {fd d1 d2 d3 d4 d5 : FuncData} (F : Fun K "_law_bent" "_law_bent" s__law_bent f fd) (T : Bt mg) (Dr : Kn P w K mg base 1 "_law_draw" ["deck", "many"] spDraw f1 d1) (Pk : Kn P w K mg base 2 "_law_pick" ["deck", "some"] (spPick K) f2 d2)
    (Li : Kn P w K mg base 1 "_law_is_integer" ["thing"] spInt f3 d3) (An : Kn P w K mg base 5 "_law_any" ["deck", "deep"] (spAny 2) f4 d4) (In : Kn P w K mg base 1 "_law_instead" ["row", "at", "item"] spInstead f5 d5)
    (hm : mg "_law_bent" = some (.ref f)) (hb : Binds K fd ["deck", "thing", "deep"] []) : ∀ n, Kn P w K mg base (n + 6) "_law_bent" ["deck", "thing", "deep"] (sp8BentP n) f fd
  | 0 => ⟨fn_false, hm, F.kp, hb⟩
  | n + 1 => ⟨ok8_bent F T Dr Pk Li An In (bent_kn F T Dr Pk Li An In hm hb n), hm, F.kp, hb⟩
/-- a short row to be put behind another one -/
def RowP (H : Hp) (x : V) : Prop := ∃ (b : Addr) (ys : List V) (es : List PyData), x = .ref b ∧ H b = some (.tup ys) ∧ DnAll H ys es ∧ es.length ≤ 2 ∧ ∀ e ∈ es, GW 1295 2 e
theorem RowP.tups {H H' : Hp} {x : V} (t : TupS H H') (h : RowP H x) : RowP H' x := let ⟨b, ys, es, e, hb, hd, hl, hg⟩ := h; ⟨b, ys, es, e, t _ _ hb, tnA_tups t _ _ (fun d hd => (hg d hd).tn) hd, hl, hg⟩
theorem gw_tr {a b c : Int} (h1 : Bd a) (h2 : Bd b) (h3 : Bd c) : GW 1295 2 (encN [(a, b, c)]) :=
  (gw_map (enc := encT) (m := 321) (n := 1) (k := 1) (fun x hx => by rw [List.mem_singleton.mp hx]; exact gw_three (gw_int h1) (gw_int h2) (gw_int h3)) (by simp)).mono (by decide) (by decide)
theorem dn_tr {H : Hp} {p q : Addr} {a b c : Int} (h1 : H p = some (.tup [.int a, .int b, .int c])) (h2 : H q = some (.tup [.ref p])) : Dn H (.ref q) (encN [(a, b, c)]) :=
  .tup h2 (.cons (.tup h1 (.cons (.int _) (.cons (.int _) (.cons (.int _) .nil)))) .nil)
theorem gw_n2 : GW 1295 2 (.tuple []) := gw_nil.mono (by decide) (by decide)
theorem bds {i : Int} (h : i.natAbs ≤ 10) : Bd i := bd_small (by omega)
def sp8Thing (c : Addr) : Sp := fun vs H Q _ => ∃ (dk l pm : Addr) (ms : List Int), vs = [.ref dk, .ref pm] ∧ Deck H dk l ∧ H pm = some (.lst (ms.map V.int)) ∧ pm ≠ dk ∧ pm ≠ l ∧ ms ≠ [] ∧ ms.length ≤ 8 ∧ (∀ m ∈ ms, m.natAbs ≤ 8000000) ∧ Tabs (tabL c) H ∧
  ∀ (r : V) (d : PyData) (H' : Hp), Dn H' r d → Gd d → Deck H' dk l → KeepX dk l H H' → Tabs (tabL c) H' → Q r H'
section
variable {P : Program} {w : World} {K : PySem.W.Frag} {mg : Str → Option Value} {base : Heap}
abbrev s__law_thing : Stmt := top 53
abbrev nsThg : List Str := ["deck", "menu", "quotient", "way"]
theorem sc__law_thing : FnScope nsThg ["deck", "menu"] (defScope s__law_thing) := ⟨rfl, rfl, rfl, by decide +kernel, rfl, by decide +kernel, by decide +kernel⟩
theorem ok__law_thing {f f__law_draw f__law_pick f__law_poles f__law_quotient f__law_with_pole f__law_bent : Addr} {fd d__law_draw d__law_pick d__law_poles d__law_quotient d__law_with_pole d__law_bent : FuncData} {pT fA : Addr} {dA : FuncData} (An3 : Kn P w K mg base 6 "_law_any" ["deck", "deep"] (spAny 3) fA dA) (F : Fun K "_law_thing" "_law_thing" s__law_thing f fd) (T : Bt mg) (l_draw : Kn P w K mg base 1 "_law_draw" ["deck", "many"] spDraw f__law_draw d__law_draw) (l_pick : Kn P w K mg base 2 "_law_pick" ["deck", "some"] (spPick K) f__law_pick d__law_pick) (l_poles : Kn P w K mg base 4 "_law_poles" ["deck", "most"] spPoles f__law_poles d__law_poles) (l_quotient : Kn P w K mg base 4 "_law_quotient" ["deck", "menu", "poles", "order", "degree", "size"] (spQuot K pT) f__law_quotient d__law_quotient) (l_with_pole : Kn P w K mg base 4 "_law_with_pole" ["deck", "quotient"] spWithPole f__law_with_pole d__law_with_pole) (l_bent : Kn P w K mg base 14 "_law_bent" ["deck", "thing", "deep"] (sp8Bent 7) f__law_bent d__law_bent) : FnOk P w K mg base CX0 15 f fd ["deck", "menu"] (sp8Thing pT) := by
  refine F.ok sc__law_thing (fun vs H Q E h => ?_) (fun cdv A outer s H vs Q E hr h => ?_)
  · obtain ⟨dk, l, pm, ms, rfl, _⟩ := h
    rfl
  · obtain ⟨dk, l, pm, ms, rfl, De, hpm, m1, m2, m3, m4, m5, hT, k⟩ := h
    have rm6 : Room 6 _ := hr.mono (by decide)
    refine ⟨_, pss_cons (ps_par (i := 2) (j := 3) rfl sc__law_thing.nd rfl rfl (by decide) rfl rfl (pa_cons (pe_call l_quotient.ok (hr.mono (by decide)) rfl l_quotient.mg l_quotient.kp l_quotient.bd .nil pass0 (pa_cons (pv 0) (pa_cons (pv 1) (pa_cons (pe_call l_poles.ok (hr.mono (by decide)) rfl l_poles.mg l_poles.kp l_poles.bd .nil pass0 (pa_cons (pv 0) (pa_cons pe_int pa_nil))) (pa_cons pe_int (pa_cons pe_int (pa_cons (pe_call l_pick.ok (hr.mono (by decide)) rfl l_pick.mg l_pick.kp l_pick.bd .nil pass0 (pa_cons (pv 0) (pa_cons (pe_lst (pa_cons pe_int (pa_cons (pe_op op_sub (pe_op op_pow pe_int pe_int) pe_int) pa_nil))) pa_nil))) pa_nil))))))) (pa_cons (pe_call l_draw.ok (hr.mono (by decide)) rfl l_draw.mg l_draw.kp l_draw.bd .nil pass0 (pa_cons (pv 0) (pa_cons pe_int pa_nil))) pa_nil)) (by rfl))
      (pss_cons (ps_if (pt_cmpR op_eq (pv 3) pe_int (nomark _))
        (pss_one (ps_ret (pv 2)))
        pss_nil)
      (pss_cons (ps_if (pt_cmpR op_lt (pv 3) pe_int (nomark _))
        (pss_one (ps_ret (pe_call l_with_pole.ok (hr.mono (by decide)) rfl l_with_pole.mg l_with_pole.kp l_with_pole.bd .nil pass0 (pa_cons (pv 0) (pa_cons (pv 2) pa_nil)))))
        pss_nil)
      (pss_cons (ps_if (pt_cmpR op_eq (pv 3) pe_int (nomark _))
        (pss_one (ps_ret (pe_op op_catA (pe_ix (r := rIx K) ix_seq (pv 2) pe_int (fun _ _ => rfl)) (pe_call l_pick.ok (hr.mono (by decide)) rfl l_pick.mg l_pick.kp l_pick.bd .nil pass0 (pa_cons (pv 0) (pa_cons (pe_lst (pa_cons (pe_tup pa_nil) (pa_cons (pe_tup (pa_cons (pe_tup pa_nil) pa_nil)) (pa_cons (pe_tup (pa_cons (pe_tup (pa_cons (pe_tup (pa_cons pe_int (pa_cons pe_int (pa_cons pe_int pa_nil)))) pa_nil)) pa_nil)) (pa_cons (pe_tup (pa_cons (pe_tup pa_nil) (pa_cons (pe_tup (pa_cons (pe_tup (pa_cons pe_int (pa_cons pe_int (pa_cons pe_int pa_nil)))) pa_nil)) pa_nil))) pa_nil))))) pa_nil))))))
        pss_nil)
      (pss_cons (ps_if (pt_cmpR op_eq (pv 3) pe_int (nomark _))
        (pss_one (ps_ret (pe_call An3.ok rm6 rfl An3.mg An3.kp An3.bd .nil pass0 (pa_cons (pv 0) (pa_cons pe_int pa_nil)))))
        pss_nil)
      (pss_cons (ps_if (pt_cmpR op_eq (pv 3) pe_int (nomark _))
        (pss_one (ps_ret (pe_tup (pa_cons (pe_op op_catA (pe_ix (r := rIx K) ix_seq (pv 2) pe_int (fun _ _ => rfl)) (pe_call l_pick.ok (hr.mono (by decide)) rfl l_pick.mg l_pick.kp l_pick.bd .nil pass0 (pa_cons (pv 0) (pa_cons (pe_lst (pa_cons (pe_tup (pa_cons (pe_tup pa_nil) pa_nil)) (pa_cons (pe_tup (pa_cons (pe_tup (pa_cons (pe_tup (pa_cons pe_int (pa_cons pe_int (pa_cons pe_int pa_nil)))) pa_nil)) pa_nil)) (pa_cons (pe_tup (pa_cons (pe_tup pa_nil) (pa_cons (pe_tup (pa_cons (pe_tup (pa_cons pe_int (pa_cons pe_int (pa_cons pe_int pa_nil)))) pa_nil)) pa_nil))) pa_nil)))) pa_nil)))) (pa_cons (pe_ix (r := rIx K) ix_seq (pv 2) pe_int (fun _ _ => rfl)) pa_nil)))))
        pss_nil)
      (pss_one (ps_ret (pe_call l_bent.ok (hr.mono (by decide)) rfl l_bent.mg l_bent.kp l_bent.bd .nil pass0 (pa_cons (pv 0) (pa_cons (pv 2) (pa_cons (pe_op op_add pe_int (pe_call l_draw.ok (hr.mono (by decide)) rfl l_draw.mg l_draw.kp l_draw.bd .nil pass0 (pa_cons (pv 0) (pa_cons pe_int pa_nil)))) pa_nil))))))))))), ?_⟩
    have sl2 : 2 ≤ sizeLine := by rw [sizeLine_eq]; decide
    refine ⟨_, rfl, _, rfl, _, rfl, dk, l, 4, rfl, De, by decide, by decide, fun pp xs H1 hpp np1 np2 lx pls D1 k1 => ?_⟩
    refine ⟨_, rfl, _, _, rfl, rfl, ⟨by decide, by decide, by decide⟩, _, _, rfl, rfl, sl2, fun p hp => ?_⟩
    refine pick_new (E := E0) D1 hp (by simp) (by show 2 < _; decide) fun x H2 hx D2 k2 => ?_
    obtain ⟨size, rfl, z1, z2⟩ : ∃ m : Int, x = .int m ∧ 0 < m ∧ m ≤ 100000000000000000000000000000 := by
      simp only [List.mem_cons, List.not_mem_nil, or_false] at hx
      rcases hx with rfl | rfl <;> exact ⟨_, rfl, by decide, by decide⟩
    have k12 := k1.trans k2
    refine ⟨dk, l, pm, pp, ms, xs, 6, 8, size, rfl, D2, k12 _ _ hpm m1 m2, m1, m2, m3, m4, m5, k2 _ _ hpp np1 np2, np1, np2, by omega, fun x hx => plAt_keep D1 k2 (pls x hx), by decide, by decide, by decide, by decide, z1, z2, tabs_deck De k12 hT, fun q v H3 dq sq D3 k3 T3 => ?_⟩
    have kx := (KeepX.of k12).trans k3
    refine ⟨_, rfl, dk, l, 9, rfl, D3, by decide, by decide, fun way H4 w0 w1 D4 k4 => ?_⟩
    have dq4 := tn_tups (keep_tups D3 k4) _ _ (encQ_tn q) dq
    have gq := gw_q sq
    have T4 := tabs_deck D3 k4 T3
    have kx4 := kx.trans (KeepX.of k4)
    have fin : ∀ (r : V) (d : PyData) (m n : Nat) (H' : Hp), Dn H' r d → Wd m n d → m ≤ 2000000 → n ≤ 60 → Deck H' dk l → Keep dk l H4 H' → Q r H' := fun r d m n H' dn wd hm hn D' k' => k r d H' dn (wd.mono hm hn) D' (kx4.trans (KeepX.of k')) (tabs_deck D4 k' T4)
    refine ⟨_, _, rfl, ?_⟩
    obtain ⟨av, v1, v2, rfl, ea, dd1, dd2⟩ := dn_pair dq4
    obtain ⟨a1, xs1, rfl, ea1, r1⟩ := dn_t dd1
    have sl1 : 1 ≤ sizeLine := by rw [sizeLine_eq]; decide
    have sl3 : 3 ≤ sizeLine := by rw [sizeLine_eq]; decide
    have sl4 : 4 ≤ sizeLine := by rw [sizeLine_eq]; decide
    have lx1 : xs1.length ≤ 20 := by rw [r1.length, List.length_map]; exact sq.1
    have cat : ∀ {x : V} {H5 : Hp} {Q' : V → Hp → Prop}, RowP H5 x → Deck H5 dk l → Keep dk l H4 H5 → (∀ (r : Addr) (d : PyData) (H6 : Hp), Dn H6 (.ref r) d → GW 28537 3 d → Same H5 H6 → Q' (.ref r) H6) → rCatA K (.ref a1) x H5 Q' := fun {x H5 Q'} hx D5 k5 kk => by
      obtain ⟨b, ys, es, rfl, hb, hd, hl, hg⟩ := hx
      have t5 := keep_tups D4 k5
      refine cat_any (t5 _ _ ea1) hb (by rw [hd.length]; omega) fun p H6 e6 s6 => ?_
      refine kk p (.tuple (q.1.map encN ++ es)) H6 (.tup e6 (dn_app (DnAll.mono s6 _ _ (tnA_tups t5 _ _ (tn_maps encN_tn q.1) r1)) (DnAll.mono s6 _ _ hd))) ((gw_tup (m := 1295) (n := 2) fun e he => ?_).mono ?_ (by decide)) s6
      · rcases List.mem_append.mp he with he | he
        · obtain ⟨n, hn, rfl⟩ := List.mem_map.mp he
          exact gw_nm (sq.2.2.1 n hn)
        · exact hg e he
      · have : (q.1.map encN ++ es).length ≤ 22 := by rw [List.length_append, List.length_map]; have := sq.1; omega
        have := Nat.mul_le_mul_right (1295 + 2) this
        omega
    refine ⟨_, rfl, rfl, _, rfl, ite2 (fun _ => ?_) (fun _ => ?_)⟩
    · exact ⟨_, rfl, fin _ _ _ _ H4 dq4 gq.wd (by decide) (by decide) D4 fun b o e _ _ => e⟩
    refine ⟨_, rfl, _, _, rfl, rfl, _, rfl, ite_b (fun _ => ?_) (fun _ => ?_)⟩
    · exact ⟨_, rfl, _, rfl, dk, l, _, q, rfl, D4, dq4, sq, fun r d H5 dn g D5 k5 => fin r d _ _ H5 dn g.wd (by decide) (by decide) D5 k5⟩
    refine ⟨_, rfl, rfl, _, rfl, ite2 (fun _ => ?_) (fun _ => ?_)⟩
    · refine ⟨_, rfl, .inr (.inl ⟨av, _, _, _, rfl, rfl, SqT.of ea, rfl, _, rfl, Nat.zero_le _, fun e1 h1 => ⟨Nat.zero_le _, fun e2 h2 => ⟨sl1, fun e3 h3 => ⟨sl3, fun e4 h4 => ⟨sl1, fun e5 h5 => ⟨sl1, fun e6 h6 => ⟨Nat.zero_le _, fun e7 h7 => ⟨sl3, fun e8 h8 => ⟨sl1, fun e9 h9 => ⟨sl2, fun e10 h10 => ⟨sl4, fun p hp => ?_⟩⟩⟩⟩⟩⟩⟩⟩⟩⟩⟩)⟩
      have c1 := snew (o := .tup []) h1
      have c2 := snew (o := .tup []) h2
      have c3 := snew (o := .tup [.ref e2]) h3
      have c4 := snew (o := .tup [.int 1, .int 1, .int 2]) h4
      have c5 := snew (o := .tup [.ref e4]) h5
      have c6 := snew (o := .tup [.ref e5]) h6
      have c7 := snew (o := .tup []) h7
      have c8 := snew (o := .tup [.int 1, .int 3, .int 1]) h8
      have c9 := snew (o := .tup [.ref e8]) h9
      have c10 := snew (o := .tup [.ref e7, .ref e9]) h10
      have c710 := ((c7.trans c8).trans c9).trans c10
      have cA := (((((c1.trans c2).trans c3).trans c4).trans c5).trans c6).trans c710
      have DA := D4.same cA
      refine pick_new (E := E0) DA hp (by simp) (by show 4 < _; decide) fun x H5 hx D5 k5 => ?_
      have R : ∀ G, TupS _ G → RowP G x := fun G tG => RowP.tups tG (by
        simp only [List.mem_cons, List.not_mem_nil, or_false] at hx
        rcases hx with rfl | rfl | rfl | rfl
        · exact ⟨e1, [], [], rfl, c710 _ _ (c6 _ _ (c5 _ _ (c4 _ _ (c3 _ _ (c2 _ _ upd_same))))), .nil, by simp, by simp⟩
        · exact ⟨e3, [.ref e2], [.tuple []], rfl, c710 _ _ (c6 _ _ (c5 _ _ (c4 _ _ upd_same))), .cons (.tup (c710 _ _ (c6 _ _ (c5 _ _ (c4 _ _ (c3 _ _ upd_same))))) .nil) .nil, by simp, fun e he => by rw [List.mem_singleton.mp he]; exact gw_n2⟩
        · exact ⟨e6, [.ref e5], [encN [(1, 1, 2)]], rfl, c710 _ _ upd_same, .cons (dn_tr (c710 _ _ (c6 _ _ (c5 _ _ upd_same))) (c710 _ _ (c6 _ _ upd_same))) .nil, by simp, fun e he => by rw [List.mem_singleton.mp he]; exact gw_tr (bds (by decide)) (bds (by decide)) (bds (by decide))⟩
        · refine ⟨e10, [.ref e7, .ref e9], [.tuple [], encN [(1, 3, 1)]], rfl, upd_same, .cons (.tup (c10 _ _ (c9 _ _ (c8 _ _ upd_same))) .nil) (.cons (dn_tr (c10 _ _ (c9 _ _ upd_same)) (c10 _ _ upd_same)) .nil), by simp, fun e he => ?_⟩
          simp only [List.mem_cons, List.not_mem_nil, or_false] at he
          rcases he with rfl | rfl
          · exact gw_n2
          · exact gw_tr (bds (by decide)) (bds (by decide)) (bds (by decide)))
      have kk := (Keep.of cA).trans k5
      exact cat (R _ (keep_tups DA k5)) D5 kk fun r d H6 dn g s6 => fin _ d _ _ H6 dn g.wd (by decide) (by decide) (D5.same s6) (kk.trans (Keep.of s6))
    refine ⟨_, rfl, rfl, _, rfl, ite2 (fun _ => ?_) (fun _ => ?_)⟩
    · refine ⟨_, rfl, dk, l, rfl, D4, fun r H5 nr D5 k5 => ?_⟩
      obtain ⟨d', dn', ok'⟩ := nr
      have b3 : big 3 = 160104 := rfl
      exact fin r d' _ _ H5 (Dn.mono (fun b o e => (of_new e).2) _ _ dn') (Okd.wd ok') (by omega) (by omega) D5 k5
    refine ⟨_, rfl, rfl, _, rfl, ite2 (fun _ => ?_) (fun _ => ?_)⟩
    · refine ⟨_, rfl, .inr (.inl ⟨av, _, _, _, rfl, rfl, SqT.of ea, rfl, _, rfl, Nat.zero_le _, fun e2 h2 => ⟨sl1, fun e3 h3 => ⟨sl3, fun e4 h4 => ⟨sl1, fun e5 h5 => ⟨sl1, fun e6 h6 => ⟨Nat.zero_le _, fun e7 h7 => ⟨sl3, fun e8 h8 => ⟨sl1, fun e9 h9 => ⟨sl2, fun e10 h10 => ⟨sl3, fun p hp => ?_⟩⟩⟩⟩⟩⟩⟩⟩⟩⟩)⟩
      have c2 := snew (o := .tup []) h2
      have c3 := snew (o := .tup [.ref e2]) h3
      have c4 := snew (o := .tup [.int 2, .int 1, .int 1]) h4
      have c5 := snew (o := .tup [.ref e4]) h5
      have c6 := snew (o := .tup [.ref e5]) h6
      have c7 := snew (o := .tup []) h7
      have c8 := snew (o := .tup [.int 1, .int 3, .int 1]) h8
      have c9 := snew (o := .tup [.ref e8]) h9
      have c10 := snew (o := .tup [.ref e7, .ref e9]) h10
      have c710 := ((c7.trans c8).trans c9).trans c10
      have cA := ((((c2.trans c3).trans c4).trans c5).trans c6).trans c710
      have DA := D4.same cA
      refine pick_new (E := E0) DA hp (by simp) (by show 3 < _; decide) fun x H5 hx D5 k5 => ?_
      have R : ∀ G, TupS _ G → RowP G x := fun G tG => RowP.tups tG (by
        simp only [List.mem_cons, List.not_mem_nil, or_false] at hx
        rcases hx with rfl | rfl | rfl
        · exact ⟨e3, [.ref e2], [.tuple []], rfl, c710 _ _ (c6 _ _ (c5 _ _ (c4 _ _ upd_same))), .cons (.tup (c710 _ _ (c6 _ _ (c5 _ _ (c4 _ _ (c3 _ _ upd_same))))) .nil) .nil, by simp, fun e he => by rw [List.mem_singleton.mp he]; exact gw_n2⟩
        · exact ⟨e6, [.ref e5], [encN [(2, 1, 1)]], rfl, c710 _ _ upd_same, .cons (dn_tr (c710 _ _ (c6 _ _ (c5 _ _ upd_same))) (c710 _ _ (c6 _ _ upd_same))) .nil, by simp, fun e he => by rw [List.mem_singleton.mp he]; exact gw_tr (bds (by decide)) (bds (by decide)) (bds (by decide))⟩
        · refine ⟨e10, [.ref e7, .ref e9], [.tuple [], encN [(1, 3, 1)]], rfl, upd_same, .cons (.tup (c10 _ _ (c9 _ _ (c8 _ _ upd_same))) .nil) (.cons (dn_tr (c10 _ _ (c9 _ _ upd_same)) (c10 _ _ upd_same)) .nil), by simp, fun e he => ?_⟩
          simp only [List.mem_cons, List.not_mem_nil, or_false] at he
          rcases he with rfl | rfl
          · exact gw_n2
          · exact gw_tr (bds (by decide)) (bds (by decide)) (bds (by decide)))
      have kk := (Keep.of cA).trans k5
      refine cat (R _ (keep_tups DA k5)) D5 kk fun r d H6 dn g s6 => ?_
      have t6 := (keep_tups D4 kk).trans (Same.tups s6)
      refine ⟨_, rfl, .inr (.inl ⟨av, _, _, _, rfl, rfl, SqT.of (t6 _ _ ea), rfl, sl2, fun p2 hp2 => ?_⟩)⟩
      have s7 := snew (o := .tup [.ref r, v2]) hp2
      have gts : GW 62319 6 (.tuple (q.2.map encTl)) := (gw_map (enc := encTl) (m := 15577) (n := 5) (k := 4) (fun t ht => gw_tl (sq.2.2.2 t ht)) sq.2.1).mono (by decide) (by decide)
      exact fin _ (.tuple [d, .tuple (q.2.map encTl)]) _ _ _ (.tup upd_same (.cons (Dn.mono s7 _ _ dn) (.cons (tn_tups (t6.trans (Same.tups s7)) _ _ gts.tn dd2) .nil))) (gw_two (m := 62319) (n := 6) (g.mono (by decide) (by decide)) gts).wd (by decide) (by decide) ((D5.same s6).same s7) ((kk.trans (Keep.of s6)).trans (Keep.of s7))
    · refine ⟨_, rfl, _, rfl, _, rfl, dk, l, 6, rfl, D4, by decide, by decide, fun r H5 r0 r1' D5 k5 => ⟨_, _, rfl, rfl, dk, l, .ref av, 1 + r, encQ q, rfl, D5, tn_tups (keep_tups D4 k5) _ _ (encQ_tn q) dq4, tb_q sq, gq.wd.sh, gq.wd.dp, by decide, fun r d' H6 dn rz D6 k6 => ?_⟩⟩
      exact fin r d' 400000 15 H6 dn ⟨rz.1, rz.2.1, by have := rz.2.2; have := gq.wd.wt; omega⟩ (by decide) (by decide) D6 (k5.trans k6)
end
end N3

namespace L2
open PySem PySem.Spec PyProof.Rows
/-- how a def of one parameter binds it by name -/
def Bk (K : PySem.W.Frag) (fd : FuncData) (y : Str) : Prop := ∀ (s : Shared) (u : Value), K.In s.heap → BindsTo s fd ⟨[], [(y, u)]⟩ [(y, u)]
section
variable {X : Cx} {CX : CXT} {k : Nat} {f : Addr} {fd : FuncData} {y x : Str} {sp : Sp} {E : St → XK} {p pos kp : Pos} {e : Expr} {te : TE}
/-- f(y=e) -/
theorem pe_by (F : FnOk X.prog X.w X.K X.mg X.base CX k f fd [y] sp) (hr : Room k X.A) (hm : X.mg x = some (.ref f)) (hk : PySem.W.keepIn X.K (.ref f) = true) (hb : Bk X.K fd y) (hx : ∀ σ, PassesAt CX X σ (E σ)) (he : PE X e te) (hg : Gl X x := by rfl)
    (hdb : (x == ("__debug__" : Str)) = false := by decide) (hall : (backToKw pos (keywordEach [⟨some y, e, kp⟩] X.env)).all (·.1.isSome) = true := by rfl) (hks : (backToKw pos (keywordEach [⟨some y, e, kp⟩] X.env)).filterMap (·.1) = [y] := by rfl)
    (hpl : ((backTo pos (starEach [] X.env)).any (·.1) || (backToKw pos (keywordEach [⟨some y, e, kp⟩] X.env)).any (·.1.isNone)) = false := by rfl) :
    PE X (.Call (.Name x p) [] [⟨some y, e, kp⟩] pos) (fun σ H Q => te σ H fun v H1 => sp [v] H1 Q (E σ)) := by
  refine ⟨fun pins s σ H Q I h => ?_⟩
  refine wpAny_Call_Name_kw (ld_glob I hg hm ?_ hdb)
  refine PySem.W.callWith_KW0 (h₀ := X.base) I.ok.mod.kin hk hall ?_ hpl
  have kk : PK X [⟨some y, e, kp⟩] (tCons te tNil) := pk_cons he pk_nil
  refine thn (kk.run pos pins s σ H (fun vs H1 => sp vs H1 Q (E σ)) I h) fun ws s1 ⟨vs, H1, I1, rz, q1⟩ => ⟨I1.kIn, ?_⟩
  have len := F.len _ _ _ _ q1
  match vs, len, rz, q1 with
  | [v], _, rz, q1 =>
    obtain ⟨u, rfl, ru⟩ := vals1 rz
    rw [hks]
    show wpAny _ _ (call (.ref f) [] [(y, u)]) _ _ _
    refine wpAny_call (codeAny_mono (F.run X.A X.stack s1 H1 ⟨[], [(y, u)]⟩ [u] [v] Q (E σ) hr I1.env0 (hb s1 u I1.kIn) (.cons ru .nil) q1) fun r s' hq => ?_)
    cases r with
    | error er => exact hx σ pins H1 s1 er s' I1 hq
    | ok fl =>
      cases fl with
      | ret w => exact I1.after hq
      | next => exact False.elim hq
      | brk => exact False.elim hq
      | cont => exact False.elim hq
end
end L2
namespace N3
open PySem PySem.Spec PyProof.Rows L2 N2 LamX
theorem lean_fit {a : Int} (h : Lean_ a) (hs : a.natAbs ≤ 1000000) : Fit a := by
  refine ⟨h.1, by omega, fun q hq d => ?_⟩
  have h0 := h.1
  have le := Nat.le_of_dvd (by omega) d
  have : q ≤ 1000 := by
    by_cases c : q ≤ 1000
    · exact c
    · have : 1001 * 1001 ≤ q * q := Nat.mul_le_mul (by omega) (by omega)
      omega
  exact h.2 q hq this d
theorem fit_lean {a : Int} (h : Fit a) : Lean_ a := ⟨h.1, fun p p2 _ d => h.2.2 p p2 d⟩
theorem bool_of {a b : Bool} {p : Prop} (h1 : a = true ↔ p) (h2 : b = true ↔ p) : a = b := by
  cases a <;> cases b <;> simp_all
/-! ### the law's look and the program's agree on what is tame -/
theorem ct_fit {x : Tr} (h : CT Lean_ x) (hs : x.1.natAbs ≤ 1000000) : CT Fit x := ⟨lean_fit h.1 hs, h.2⟩
theorem ct_lean {x : Tr} (h : CT Fit x) : CT Lean_ x := ⟨fit_lean h.1, h.2⟩
theorem cn_fit {n : Nm} (h : CN Lean_ n) (hs : ∀ x ∈ n, x.1.natAbs ≤ 1000000) : CN Fit n := ⟨fun x hx => ct_fit (h.1 x hx) (hs x hx), h.2⟩
theorem cn_lean {n : Nm} (h : CN Fit n) : CN Lean_ n := ⟨fun x hx => ct_lean (h.1 x hx), h.2⟩
theorem cr_fit {r : List Nm} (h : CR Lean_ r) (hs : ∀ n ∈ r, ∀ x ∈ n, x.1.natAbs ≤ 1000000) : CR Fit r := ⟨fun n hn => cn_fit (h.1 n hn) (hs n hn), h.2⟩
theorem cr_lean {r : List Nm} (h : CR Fit r) : CR Lean_ r := ⟨fun n hn => cn_lean (h.1 n hn), h.2⟩
theorem cq_fit {q : Qt} (h : CQ Lean_ q) (hs : LowD q) : CQ Fit q := by
  have all : ∀ r ∈ rowsOf q, ∀ n ∈ r, ∀ x ∈ n, x.1.natAbs ≤ 1000000 := fun r hr n hn => hs n (List.mem_flatten.mpr ⟨r, hr, hn⟩)
  refine ⟨cr_fit h.1 (all _ List.mem_cons_self), fun t ht => ?_, h.2.2⟩
  obtain ⟨a, b, c⟩ := h.2.1 t ht
  exact ⟨a, cr_fit b (all _ (List.mem_cons_of_mem _ (List.mem_map.mpr ⟨t, ht, rfl⟩))), c⟩
theorem cq_lean {q : Qt} (h : CQ Fit q) : CQ Lean_ q := ⟨cr_lean h.1, fun t ht => let ⟨a, b, c⟩ := h.2.1 t ht; ⟨a, cr_lean b, c⟩, h.2.2⟩
/-- a quotient is no row -/
theorem q_not_r {ok : Int → Prop} {q : Qt} {r : List Nm} (e : encQ q = encR r) (h : r.getLast? ≠ some []) : False := by
  match r, e, h with
  | [], e, _ => cases e
  | [_], e, _ =>
    injection e with e
    injection e with _ e
    cases e
  | [a, b], e, h =>
    injection e with e
    injection e with _ e
    injection e with e _
    have e' : q.2.map encTl = b.map encT := by injection e
    match h1 : q.2, b, e', h with
    | [], [], _, h => exact h rfl
    | [], _ :: _, e', _ => cases e'
    | _ :: _, [], e', _ => cases e'
    | t :: ts, x :: xs, e', _ =>
      injection e' with e1 _
      injection e1 with e1
      injection e1 with _ e1
      injection e1 with _ e1
      cases e1
  | _ :: _ :: _ :: _, e, _ =>
    injection e with e
    injection e with _ e
    injection e with _ e
    cases e
theorem tame_q {d : PyData} (t : Tame d) : DQ Lean_ d ↔ DQ Fit d := ⟨fun ⟨q, e, h⟩ => ⟨q, e, cq_fit h (t.1 q e h)⟩, fun ⟨q, e, h⟩ => ⟨q, e, cq_lean h⟩⟩
theorem tame_e {d : PyData} (t : Tame d) : (∃ q, d = encQ q ∧ CQ Lean_ q ∧ Plain q) ↔ ∃ q, d = encQ q ∧ CQ Fit q ∧ Plain q :=
  ⟨fun ⟨q, e, h, p⟩ => ⟨q, e, cq_fit h (t.1 q e h), p⟩, fun ⟨q, e, h, p⟩ => ⟨q, e, cq_lean h, p⟩⟩
theorem tame_r {d : PyData} (t : Tame d) : DR Lean_ d ↔ DR Fit d := by
  constructor
  · rintro ⟨r, e, h⟩
    have nq : ¬ ∃ q, d = encQ q ∧ CQ Lean_ q := fun ⟨q, e2, _⟩ => q_not_r (ok := Lean_) (e2.symm.trans e) h.2
    have hs := t.2 nq r e h
    exact ⟨r, e, cr_fit h fun n hn => hs n (by show n ∈ ([r] : List (List Nm)).flatten; simpa using hn)⟩
  · rintro ⟨r, e, h⟩
    exact ⟨r, e, cr_lean h⟩
def spLaw (K : PySem.W.Frag) : Sp := fun vs H Q _ => ∃ (a : Addr) (ns : List Int), vs = [.ref a] ∧ H (tabOf K "_law_told") = some (.tbl #[]) ∧ SqL K H a (ns.map V.int) ∧ ns.length ≤ 63 ∧ ∀ H', Q (.bl true) H'
theorem bools_shown {a b c a' b' c' : Bool} (h1 : a = a') (h2 : b = b') (h3 : c = c') : (PyData.tuple [.bool a, .bool b, .bool c]).shown = (PyData.tuple [.bool a', .bool b', .bool c']).shown := by rw [h1, h2, h3]
theorem bools_ok (a b c : Bool) : (PyData.tuple [.bool a, .bool b, .bool c]).showable = true ∧ (PyData.tuple [.bool a, .bool b, .bool c]).depth ≤ 64 ∧ (PyData.tuple [.bool a, .bool b, .bool c]).shown.length ≤ sizeLine := by
  have h := okd_tup (m := 5) (n := 0) (ds := [.bool a, .bool b, .bool c]) fun y hy => by
    simp only [List.mem_cons, List.not_mem_nil, or_false] at hy
    rcases hy with rfl | rfl | rfl <;> exact okd_bl _
  have sz : 100 ≤ sizeLine := by rw [sizeLine_eq]; decide
  refine ⟨h.sh, by have := h.dp; omega, ?_⟩
  have : (PyData.tuple [.bool a, .bool b, .bool c]).shown.length ≤ 3 * (5 + 2) + 3 := h.ln
  omega
section
variable {P : Program} {w : World} {K : PySem.W.Frag} {mg : Str → Option Value} {base : Heap}
abbrev s_law : Stmt := top 55
abbrev nsLw : List Str := ["script", "deck", "menu", "turn", "thing", "due", "told"]
theorem sc_law : FnScope nsLw ["script"] (defScope s_law) := ⟨rfl, rfl, rfl, by decide +kernel, rfl, by decide +kernel, by decide +kernel⟩
theorem ok_law {f f__law_deck f__law_roots f__law_thing f__law_is_beyond f__law_is_polynomial f__law_is_quotient f__law_is_plain f_is_polynomial f_is_quotient f_is_equation : Addr} {fd d__law_deck d__law_roots d__law_thing d__law_is_beyond d__law_is_polynomial d__law_is_quotient d__law_is_plain d_is_polynomial d_is_quotient d_is_equation : FuncData} {pT : Addr} (hpT : pT = tabOf K "_law_told") (sy : Sy base) (nk_is_polynomial : Bk K d_is_polynomial "thing") (nk_is_quotient : Bk K d_is_quotient "thing") (nk_is_equation : Bk K d_is_equation "thing") (F : Fun K "law" "law" s_law f fd) (T : Bt mg) (l_deck : Kn P w K mg base 1 "_law_deck" ["script", "seed"] (spDeck K) f__law_deck d__law_deck) (l_roots : Kn P w K mg base 3 "_law_roots" ["deck"] spRoots f__law_roots d__law_roots) (l_thing : Kn P w K mg base 15 "_law_thing" ["deck", "menu"] (sp8Thing pT) f__law_thing d__law_thing) (l_is_beyond : Kn P w K mg base 6 "_law_is_beyond" ["thing"] spBeyond f__law_is_beyond d__law_is_beyond) (l_is_polynomial : Kn P w K mg base 4 "_law_is_polynomial" ["thing"] (spCk (DR Lean_)) f__law_is_polynomial d__law_is_polynomial) (l_is_quotient : Kn P w K mg base 5 "_law_is_quotient" ["thing"] (spCk (DQ Lean_)) f__law_is_quotient d__law_is_quotient) (l_is_plain : Kn P w K mg base 2 "_law_is_plain" ["quotient"] spPlain f__law_is_plain d__law_is_plain) (p_is_polynomial : Kn P w K mg base 6 "is_polynomial" ["thing"] (spCk (DR Fit)) f_is_polynomial d_is_polynomial) (p_is_quotient : Kn P w K mg base 9 "is_quotient" ["thing"] (spCk (DQ Fit)) f_is_quotient d_is_quotient) (p_is_equation : Kn P w K mg base 10 "is_equation" ["thing"] (spCk (fun d => ∃ q, d = encQ q ∧ CQ Fit q ∧ Plain q)) f_is_equation d_is_equation) : FnG P w K mg base 16 f fd ["script"] (spLaw K) := by
  refine fn_idle F sc_law (fun vs H Q E h => ?_) (fun cdv A outer s H vs Q hr hi h => ?_)
  · obtain ⟨a, ns, rfl, _⟩ := h
    rfl
  · obtain ⟨a, ns, rfl, hT, hS, hl, k⟩ := h
    subst hpT
    have hu : (A.deeper (envOfC "law" (defScope s_law) s.heap.objs.size f cdv)).units + 70 < cLine := by have := hr.un; omega
    have at0 : ∀ {X : Cx} (σ : L2.St), PassesAt CX0 X σ E0 := fun σ pins H s e s' I c => pass0 pins σ H s e s' I c
    refine ⟨_, pss_cons (ps_set (i := 1) sc_law.nd rfl (Or.inl rfl) (pe_call l_deck.ok (hr.mono (by decide)) rfl l_deck.mg l_deck.kp l_deck.bd .nil pass0 (pa_cons (pv 0) (pa_cons pe_int pa_nil))))
      (pss_cons (ps_set (i := 2) sc_law.nd rfl (Or.inl rfl) (pe_call l_roots.ok (hr.mono (by decide)) rfl l_roots.mg l_roots.kp l_roots.bd .nil pass0 (pa_cons (pv 1) pa_nil)))
      (pss_cons (ps_for PassesOwn.never rfl (pi_range1 rfl T.range (pa_cons pe_int pa_nil)) (pg_name (i := 3) sc_law.nd rfl (Or.inl rfl))
        (pss_cons (ps_set (i := 4) sc_law.nd rfl (Or.inl rfl) (pe_call l_thing.ok (hr.mono (by decide)) rfl l_thing.mg l_thing.kp l_thing.bd .nil pass0 (pa_cons (pv 1) (pa_cons (pv 2) pa_nil))))
        (pss_cons (ps_if (pt_val (pe_call l_is_beyond.ok (hr.mono (by decide)) rfl l_is_beyond.mg l_is_beyond.kp l_is_beyond.bd .nil pass0 (pa_cons (pv 4) pa_nil)))
          (pss_one ps_continue)
          pss_nil)
        (C8.pss_cut (ps_set (i := 5) sc_law.nd rfl (Or.inl rfl) (pe_tup (pa_cons (pe_call l_is_polynomial.ok (hr.mono (by decide)) rfl l_is_polynomial.mg l_is_polynomial.kp l_is_polynomial.bd .nil pass0 (pa_cons (pv 4) pa_nil)) (pa_cons (pe_call l_is_quotient.ok (hr.mono (by decide)) rfl l_is_quotient.mg l_is_quotient.kp l_is_quotient.bd .nil pass0 (pa_cons (pv 4) pa_nil)) pa_nil))))
        (C8.pss_cut (ps_set (i := 5) sc_law.nd rfl (Or.inl rfl) (pe_op op_catA (pv 5) (pe_tup (pa_cons (pe_and (pe_ix (r := rIx K) ix_seq (pv 5) pe_int (fun _ _ => rfl)) (pe_one (pe_call l_is_plain.ok (hr.mono (by decide)) rfl l_is_plain.mg l_is_plain.kp l_is_plain.bd .nil pass0 (pa_cons (pv 4) pa_nil)))) pa_nil))))
        (pss_cons (ps_set (i := 6) sc_law.nd rfl (Or.inl rfl) (pe_tup (pa_cons (pe_call p_is_polynomial.ok (hr.mono (by decide)) rfl p_is_polynomial.mg p_is_polynomial.kp p_is_polynomial.bd .nil pass0 (pa_cons (pv 4) pa_nil)) (pa_cons (pe_call p_is_quotient.ok (hr.mono (by decide)) rfl p_is_quotient.mg p_is_quotient.kp p_is_quotient.bd .nil pass0 (pa_cons (pv 4) pa_nil)) (pa_cons (pe_call p_is_equation.ok (hr.mono (by decide)) rfl p_is_equation.mg p_is_equation.kp p_is_equation.bd .nil pass0 (pa_cons (pv 4) pa_nil)) pa_nil)))))
        (pss_cons (ps_if (pt_cmpR op_ne (pe_callB (call_repr sy hi hu) (by rfl) T.repr (by decide +kernel) (pa_cons (pv 6) pa_nil)) (pe_callB (call_repr sy hi hu) (by rfl) T.repr (by decide +kernel) (pa_cons (pv 5) pa_nil)) (nomark _))
          (pss_one (ps_ret pe_bl))
          pss_nil)
        (pss_one (ps_if (pt_cmpR op_ne (pe_callB (call_repr sy hi hu) (by rfl) T.repr (by decide +kernel) (pa_cons (pe_tup (pa_cons (pe_by p_is_polynomial.ok (hr.mono (by decide)) p_is_polynomial.mg p_is_polynomial.kp nk_is_polynomial at0 (pv 4)) (pa_cons (pe_by p_is_quotient.ok (hr.mono (by decide)) p_is_quotient.mg p_is_quotient.kp nk_is_quotient at0 (pv 4)) (pa_cons (pe_by p_is_equation.ok (hr.mono (by decide)) p_is_equation.mg p_is_equation.kp nk_is_equation at0 (pv 4)) pa_nil)))) pa_nil)) (pe_callB (call_repr sy hi hu) (by rfl) T.repr (by decide +kernel) (pa_cons (pv 5) pa_nil)) (nomark _))
          (pss_one (ps_ret pe_bl))
          pss_nil)))))))))
      (pss_one (ps_ret pe_bl)))), ?_⟩
    have T0 : Tabs (tabL (tabOf K "_law_told")) H := fun p hp => by
      rw [List.mem_singleton.mp hp]
      exact TabS.nil hT
    refine ⟨_, rfl, a, ns, 13730008, rfl, hS, hl, fun H1 dk l D1 s1 _ _ => ?_⟩
    refine ⟨_, rfl, dk, l, rfl, D1, fun pm ms H2 hpm m1 m2 m3 m4 m5 D2 k2 => ?_⟩
    have T2 := tabs_deck D1 k2 (tabs_same T0 s1)
    refine ⟨8, rfl, by decide, by decide, for_range (lo := 0) (n := 8) (fun i σ H' => (∃ x3 x4 x5 x6 : Option V, σ = [some (.ref a), some (.ref dk), some (.ref pm), x3, x4, x5, x6]) ∧ Deck H' dk l ∧ H' pm = some (.lst (ms.map V.int)) ∧ Tabs (tabL (tabOf K "_law_told")) H')
      ⟨⟨_, _, _, _, rfl⟩, D2, hpm, T2⟩ ?_ ?_⟩
    · rintro i σ H' hi' ⟨⟨x3, x4, x5, x6, rfl⟩, D', hpm', T'⟩
      refine ⟨_, rfl, _, rfl, dk, l, pm, ms, rfl, D', hpm', m1, m2, m3, m4, m5, T', fun v d H3 dn gd D3 k3 T3 => ?_⟩
      have hpm3 := k3 _ _ hpm' m1 m2 (fun _ z => nomatch z)
      refine ⟨_, rfl, v, d, rfl, dn, gd, fun b H4 hb s4 => ⟨_, rfl, ?_⟩⟩
      cases b with
      | true =>
        refine iteT ?_
        exact ⟨⟨_, _, _, _, rfl⟩, D3.same s4, s4 _ _ hpm3, tabs_same T3 s4⟩
      | false =>
      refine iteF ?_
      have tm := hb rfl
      have sl2 : 2 ≤ sizeLine := by rw [sizeLine_eq]; decide
      have sl3 : 3 ≤ sizeLine := by rw [sizeLine_eq]; decide
      have sl1 : 1 ≤ sizeLine := by rw [sizeLine_eq]; decide
      have scalS : ∀ x y : Str, scal (V.str x) (V.str y) = true := fun _ _ => rfl
      have dn4 := Dn.mono s4 _ _ dn
      -- due
      refine ⟨fun σ' H' => ∃ (p1 : Addr) (b1 b2 : Bool) (y3 y6 : Option V), σ' = [some (.ref a), some (.ref dk), some (.ref pm), y3, some v, some (.ref p1), y6] ∧ H' p1 = some (.tup [.bl b1, .bl b2]) ∧ (b1 = true ↔ DR Lean_ d) ∧ (b2 = true ↔ DQ Lean_ d) ∧ Same H4 H', ?_, ?_⟩
      · refine ⟨_, rfl, v, d, rfl, dn4, gd, fun b1 H5 h1 s5 => ⟨_, rfl, v, d, rfl, Dn.mono s5 _ _ dn4, gd, fun b2 H6 h2 s6 => ⟨sl2, fun p1 hp1 => ?_⟩⟩⟩
        exact ⟨p1, b1, b2, _, _, rfl, upd_same, h1, h2, (s5.trans s6).trans (snew hp1)⟩
      rintro σ H5 ⟨p1, b1, b2, y3, y6, rfl, hp1, h1, h2, s5⟩
      refine ⟨fun σ' H' => ∃ (p2 : Addr) (b3 : Bool) (z3 z6 : Option V), σ' = [some (.ref a), some (.ref dk), some (.ref pm), z3, some v, some (.ref p2), z6] ∧ H' p2 = some (.tup [.bl b1, .bl b2, .bl b3]) ∧ (b3 = true ↔ ∃ q, d = encQ q ∧ CQ Lean_ q ∧ Plain q) ∧ Same H4 H', ?_, ?_⟩
      · have put : ∀ (b3 : Bool) (H6 : Hp), (b3 = true ↔ ∃ q, d = encQ q ∧ CQ Lean_ q ∧ Plain q) → Same H5 H6 → 1 ≤ sizeLine ∧ ∀ p, H6 p = none → rCatA K (.ref p1) (.ref p) (upd H6 p (.tup [.bl b3])) fun x H1 => gName 5 x [some (.ref a), some (.ref dk), some (.ref pm), y3, some v, some (.ref p1), y6] H1 fun σ' H' => ∃ (p2 : Addr) (b3 : Bool) (z3 z6 : Option V), σ' = [some (.ref a), some (.ref dk), some (.ref pm), z3, some v, some (.ref p2), z6] ∧ H' p2 = some (.tup [.bl b1, .bl b2, .bl b3]) ∧ (b3 = true ↔ ∃ q, d = encQ q ∧ CQ Lean_ q ∧ Plain q) ∧ Same H4 H' := fun b3 H6 h3 s6 => by
          refine ⟨sl1, fun p hp => cat_any ((s6.trans (snew hp)) _ _ hp1) upd_same (by show 2 + 1 ≤ 1000; decide) fun p2 H7 e7 s7 => ?_⟩
          exact ⟨p2, b3, _, _, rfl, e7, h3, (s5.trans s6).trans ((snew hp).trans s7)⟩
        refine ⟨_, rfl, _, rfl, .inr (.inl ⟨p1, _, _, _, rfl, rfl, SqT.of hp1, rfl, _, rfl, ite_b (fun e => ?_) (fun e => ?_)⟩)⟩
        · obtain ⟨q, rfl, cq⟩ := h2.mp e
          refine ⟨_, rfl, v, q, rfl, Dn.mono s5 _ _ dn4, gd_flat gd, fun b3 H6 h3 s6 => ?_⟩
          refine put b3 H6 (h3.trans ⟨fun p => ⟨q, rfl, cq, p⟩, fun ⟨q', e', _, p⟩ => by rw [encQ_inj e']; exact p⟩) s6
        · refine put false H5 ⟨fun z => (by cases z), fun ⟨q, e', c, _⟩ => (by rw [h2.mpr ⟨q, e', c⟩] at e; cases e)⟩ (Same.refl _)
      rintro σ H6 ⟨p2, b3, z3, z6, rfl, hp2, h3, s6⟩
      have dn6 := Dn.mono s6 _ _ dn4
      -- told
      have eqs : ∀ {c1 c2 c3 : Bool}, (c1 = true ↔ DR Fit d) → (c2 = true ↔ DQ Fit d) → (c3 = true ↔ ∃ q, d = encQ q ∧ CQ Fit q ∧ Plain q) → c1 = b1 ∧ c2 = b2 ∧ c3 = b3 := fun g1 g2 g3 => ⟨bool_of g1 (h1.trans (tame_r tm)), bool_of g2 (h2.trans (tame_q tm)), bool_of g3 (h3.trans (tame_e tm))⟩
      have db : ∀ {G : Hp} {p : Addr} {x y z : Bool}, G p = some (.tup [.bl x, .bl y, .bl z]) → Dn G (.ref p) (.tuple [.bool x, .bool y, .bool z]) := fun e => .tup e (.cons (.bl _) (.cons (.bl _) (.cons (.bl _) .nil)))
      obtain ⟨o1, o2, o3⟩ := bools_ok b1 b2 b3
      refine ⟨_, rfl, v, d, rfl, dn6, gd, fun c1 H7 g1 s7 => ⟨_, rfl, v, d, rfl, Dn.mono s7 _ _ dn6, gd, fun c2 H8 g2 s8 => ⟨_, rfl, v, d, rfl, Dn.mono (s7.trans s8) _ _ dn6, gd, fun c3 H9 g3 s9 => ⟨sl3, fun p3 hp3 => ?_⟩⟩⟩⟩
      obtain ⟨rfl, rfl, rfl⟩ := eqs g1 g2 g3
      have s79 := ((s7.trans s8).trans s9).trans (snew (o := .tup [.bl c1, .bl c2, .bl c3]) hp3)
      refine ⟨_, rfl, .ref p3, _, rfl, db upd_same, o1, o2, o3, _, rfl, .ref p2, _, rfl, db (s79 _ _ hp2), o1, o2, o3, ?_⟩
      generalize (PyData.tuple [.bool c1, .bool c2, .bool c3]).shown = S
      refine ⟨scalS _ _, _, rfl, ?_⟩
      rw [decide_eq_true (rfl : V.str S = V.str S)]
      refine iteF ?_
      refine ⟨_, rfl, v, d, rfl, Dn.mono s79 _ _ dn6, gd, fun c1' Ha g1' sa => ⟨_, rfl, v, d, rfl, Dn.mono (s79.trans sa) _ _ dn6, gd, fun c2' Hb g2' sb => ⟨_, rfl, v, d, rfl, Dn.mono ((s79.trans sa).trans sb) _ _ dn6, gd, fun c3' Hc g3' sc => ⟨sl3, fun p4 hp4 => ?_⟩⟩⟩⟩
      obtain ⟨rfl, rfl, rfl⟩ := eqs g1' g2' g3'
      have sall := s79.trans (((sa.trans sb).trans sc).trans (snew (o := .tup [.bl c1', .bl c2', .bl c3']) hp4))
      refine ⟨.ref p4, _, rfl, db upd_same, o1, o2, o3, _, rfl, .ref p2, _, rfl, db (sall _ _ hp2), o1, o2, o3, ?_⟩
      generalize (PyData.tuple [.bool c1', .bool c2', .bool c3']).shown = S'
      refine ⟨scalS _ _, _, rfl, ?_⟩
      rw [decide_eq_true (rfl : V.str S' = V.str S')]
      refine iteF ?_
      have s0a := (s4.trans s6).trans sall
      exact ⟨⟨_, _, _, _, rfl⟩, D3.same s0a, s0a _ _ hpm3, tabs_same T3 s0a⟩
    · rintro σ H' ⟨⟨x3, x4, x5, x6, rfl⟩, D', hpm', T'⟩
      exact k H'
end
end N3

namespace N3
open PySem PySem.Spec PyProof.Rows L2
theorem any_kn {P : Program} {w : World} {K : PySem.W.Frag} {mg : Str → Option Value} {base : Heap} {f fD fP : Addr} {fd fdD fdP : FuncData} (F : Fun K "_law_any" "_law_any" sAny f fd) (T : Bt mg) (D : Kn P w K mg base 1 "_law_draw" ["deck", "many"] spDraw fD fdD) (Pk : Kn P w K mg base 2 "_law_pick" ["deck", "some"] (spPick K) fP fdP)
    (hm : mg "_law_any" = some (.ref f)) (hb : Binds K fd ["deck", "deep"] []) : ∀ n, Kn P w K mg base (n + 2) "_law_any" ["deck", "deep"] (spPrev n) f fd
  | 0 => ⟨fn_false, hm, F.kp, hb⟩
  | n + 1 => ⟨ok_any F T D Pk (any_kn F T D Pk hm hb n), hm, F.kp, hb⟩
end N3

namespace N3
open PySem PySem.Spec PyProof.Rows L2
section
variable {K : PySem.W.Frag} {mg : Str → Option Value}
theorem df_mkT {h : Heap} (X : K.In h) (G : h.Ns mainGlobals mg) {x : Str} {st : Stmt} {ps : List Str} {f c : Addr} {oc : Value} {od an : Option Addr} {osl : Array (Option Value)} {kV doc pm cdv ct : Value}
    (a : PySem.W.nsIn K mainGlobals x = some (some (.ref f))) (l : K.lookup f = some ⟨oc, od, .func (PySem.W.fnOf x x (defArgs st) (defBody st) (defScope st) .none kV doc pm an cdv ct), osl⟩) (c0 : PySem.W.codeIn K cdv x = true) (k : PySem.W.keepIn K (.ref f) = true)
    (b : Bds x st ps) (hc : cdv = .ref c) : ∃ f fd, Df K mg x st ps f fd ∧ fd.code = .ref c := by
  refine ⟨f, _, ⟨fun_mk (st := st) l c0 k, PySem.W.mg_of X G a, (fun_mk (st := st) l c0 k).binds b⟩, hc⟩
/-- the def's code object and its table, from facts of the frame -/
theorem tab_mk {x : Str} {f c P : Addr} {oc cc : Value} {od cd : Option Addr} {osl csl : Array (Option Value)} {fd : FuncData} {vs : Array Value} (a : PySem.W.nsIn K mainGlobals x = some (some (.ref f))) (l : K.lookup f = some ⟨oc, od, .func fd, osl⟩) (hc : fd.code = .ref c)
    (lc : K.lookup c = some ⟨cc, cd, .fields vs, csl⟩) (hv : vs[11]? = some (.ref P)) : PySem.W.tabIn K x = some (c, P) := by
  unfold PySem.W.tabIn
  rw [a]
  dsimp only
  rw [l]
  dsimp only
  rw [hc]
  dsimp only
  rw [lc]
  dsimp only
  rw [hv]
theorem bk_one {x : Str} {st : Stmt} {y : Str} {f : Addr} {fd : FuncData} (F : Fun K x x st f fd) (h : ∀ (kV doc pm : Value) (an : Option Addr) (cdv ct : Value) (u : Value), bindArgs (PySem.W.fnOf x x (defArgs st) (defBody st) (defScope st) .none kV doc pm an cdv ct) ⟨[], [(y, u)]⟩ = pure [(y, u)]) : Bk K fd y := by
  obtain ⟨oc, od, kV, doc, pm, an, cdv, ct, osl, rfl, lk, hcd⟩ := F.ex
  exact fun s u X => .of_eq (h _ _ _ _ _ _ _)
theorem bk_is_polynomial {f : Addr} {fd : FuncData} (F : Fun K "is_polynomial" "is_polynomial" s_is_polynomial f fd) : Bk K fd "thing" := bk_one F fun _ _ _ _ _ _ _ => by first | rfl | with_unfolding_all rfl | kernel_rfl
theorem bk_is_quotient {f : Addr} {fd : FuncData} (F : Fun K "is_quotient" "is_quotient" s_is_quotient f fd) : Bk K fd "thing" := bk_one F fun _ _ _ _ _ _ _ => by first | rfl | with_unfolding_all rfl | kernel_rfl
theorem bk_is_equation {f : Addr} {fd : FuncData} (F : Fun K "is_equation" "is_equation" s_is_equation f fd) : Bk K fd "thing" := bk_one F fun _ _ _ _ _ _ _ => by first | rfl | with_unfolding_all rfl | kernel_rfl
end
end N3

namespace N3
open PySem PySem.Spec PyProof.Rows L2 N2
section
variable {P : Program} {w : World} {K : PySem.W.Frag} {mg : Str → Option Value} {base : Heap}
theorem bd0 : Bds "is_integer" sInt ["thing"] := fun _ _ _ _ _ _ us hl => match us, hl with | [_], _ => rfl
theorem bd1 : Bds "is_tuple_of" sTupOf ["thing", "many"] := fun _ _ _ _ _ _ us hl => match us, hl with | [_, _], _ => rfl
theorem bd2 : Bds "all_integers" sAllInt ["things"] := fun _ _ _ _ _ _ us hl => match us, hl with | [_], _ => rfl
theorem bd3 : Bds "in_lowest_terms" sLowest ["top", "bottom"] := fun _ _ _ _ _ _ us hl => match us, hl with | [_, _], _ => rfl
theorem bd4 : Bds "square_split" sSplit ["size"] := fun _ _ _ _ _ _ us hl => match us, hl with | [_], _ => rfl
theorem bd5 : Bds "free_of_squares" sFree ["size"] := fun _ _ _ _ _ _ us hl => match us, hl with | [_], _ => rfl
theorem bd6 : Bds "fits_as_d" sFits ["d"] := fun _ _ _ _ _ _ us hl => match us, hl with | [_], _ => rfl
theorem bd7 : Bds "is_triple" sTriple ["thing"] := fun _ _ _ _ _ _ us hl => match us, hl with | [_], _ => rfl
theorem bd8 : Bds "is_number" sNumber ["thing"] := fun _ _ _ _ _ _ us hl => match us, hl with | [_], _ => rfl
theorem bd9 : Bds "is_fraction" sFraction ["thing"] := fun _ _ _ _ _ _ us hl => match us, hl with | [_], _ => rfl
theorem bd10 : Bds "is_pole" s_is_pole ["thing"] := fun _ _ _ _ _ _ us hl => match us, hl with | [_], _ => rfl
theorem bd11 : Bds "comes_before" s_comes_before ["one", "other"] := fun _ _ _ _ _ _ us hl => match us, hl with | [_, _], _ => rfl
theorem bd12 : Bds "is_polynomial" s_is_polynomial ["thing"] := fun _ _ _ _ _ _ us hl => match us, hl with | [_], _ => rfl
theorem bd13 : Bds "is_tail" s_is_tail ["thing"] := fun _ _ _ _ _ _ us hl => match us, hl with | [_], _ => rfl
theorem bd14 : Bds "are_tails" s_are_tails ["thing"] := fun _ _ _ _ _ _ us hl => match us, hl with | [_], _ => rfl
theorem bd15 : Bds "is_quotient" s_is_quotient ["thing"] := fun _ _ _ _ _ _ us hl => match us, hl with | [_], _ => rfl
theorem bd16 : Bds "is_equation" s_is_equation ["thing"] := fun _ _ _ _ _ _ us hl => match us, hl with | [_], _ => rfl
theorem bd17 : Bds "_law_deck" sDeck ["script", "seed"] := fun _ _ _ _ _ _ us hl => match us, hl with | [_, _], _ => rfl
theorem bd18 : Bds "_law_draw" sDraw ["deck", "many"] := fun _ _ _ _ _ _ us hl => match us, hl with | [_, _], _ => rfl
theorem bd19 : Bds "_law_great" sGreat ["deck", "many"] := fun _ _ _ _ _ _ us hl => match us, hl with | [_, _], _ => rfl
theorem bd20 : Bds "_law_pick" sPick ["deck", "some"] := fun _ _ _ _ _ _ us hl => match us, hl with | [_, _], _ => rfl
theorem bd21 : Bds "_law_near" sNear ["deck", "far"] := fun _ _ _ _ _ _ us hl => match us, hl with | [_, _], _ => rfl
theorem bd22 : Bds "_law_common" sCommon ["one", "other"] := fun _ _ _ _ _ _ us hl => match us, hl with | [_, _], _ => rfl
theorem bd23 : Bds "_law_is_integer" sLInt ["thing"] := fun _ _ _ _ _ _ us hl => match us, hl with | [_], _ => rfl
theorem bd24 : Bds "_law_is_lean" sIsLean ["number"] := fun _ _ _ _ _ _ us hl => match us, hl with | [_], _ => rfl
theorem bd25 : Bds "_law_is_triple" sLTriple ["thing"] := fun _ _ _ _ _ _ us hl => match us, hl with | [_], _ => rfl
theorem bd26 : Bds "_law_is_number" sLNumber ["thing"] := fun _ _ _ _ _ _ us hl => match us, hl with | [_], _ => rfl
theorem bd27 : Bds "_law_number" sNum ["sums"] := fun _ _ _ _ _ _ us hl => match us, hl with | [_], _ => rfl
theorem bd28 : Bds "_law_any" sAny ["deck", "deep"] := fun _ _ _ _ _ _ us hl => match us, hl with | [_, _], _ => rfl
theorem bd29 : Bds "_law_instead" sInstead ["row", "at", "item"] := fun _ _ _ _ _ _ us hl => match us, hl with | [_, _, _], _ => rfl
theorem bd30 : Bds "_law_bent" s__law_bent ["deck", "thing", "deep"] := fun _ _ _ _ _ _ us hl => match us, hl with | [_, _, _], _ => rfl
theorem bd31 : Bds "_law_is_polynomial" s__law_is_polynomial ["thing"] := fun _ _ _ _ _ _ us hl => match us, hl with | [_], _ => rfl
theorem bd32 : Bds "_law_is_pole" s__law_is_pole ["thing"] := fun _ _ _ _ _ _ us hl => match us, hl with | [_], _ => rfl
theorem bd33 : Bds "_law_is_quotient" s__law_is_quotient ["thing"] := fun _ _ _ _ _ _ us hl => match us, hl with | [_], _ => rfl
theorem bd34 : Bds "_law_numbers" s__law_numbers ["quotient"] := fun _ _ _ _ _ _ us hl => match us, hl with | [_], _ => rfl
theorem bd35 : Bds "_law_is_plain" s__law_is_plain ["quotient"] := fun _ _ _ _ _ _ us hl => match us, hl with | [_], _ => rfl
theorem bd36 : Bds "_law_is_within" s__law_is_within ["quotient"] := fun _ _ _ _ _ _ us hl => match us, hl with | [_], _ => rfl
theorem bd37 : Bds "_law_is_beyond" s__law_is_beyond ["thing"] := fun _ _ _ _ _ _ us hl => match us, hl with | [_], _ => rfl
theorem bd38 : Bds "_law_roots" s__law_roots ["deck"] := fun _ _ _ _ _ _ us hl => match us, hl with | [_], _ => rfl
theorem bd39 : Bds "_law_drawn" s__law_drawn ["deck", "menu", "many", "size"] := fun _ _ _ _ _ _ us hl => match us, hl with | [_, _, _, _], _ => rfl
theorem bd40 : Bds "_law_shed" s__law_shed ["row"] := fun _ _ _ _ _ _ us hl => match us, hl with | [_], _ => rfl
theorem bd41 : Bds "_law_told" s__law_told ["whole", "rows"] := fun _ _ _ _ _ _ us hl => match us, hl with | [_, _], _ => rfl
theorem bd42 : Bds "_law_pole" s__law_pole ["deck"] := fun _ _ _ _ _ _ us hl => match us, hl with | [_], _ => rfl
theorem bd43 : Bds "_law_poles" s__law_poles ["deck", "most"] := fun _ _ _ _ _ _ us hl => match us, hl with | [_, _], _ => rfl
theorem bd44 : Bds "_law_quotient" s__law_quotient ["deck", "menu", "poles", "order", "degree", "size"] := fun _ _ _ _ _ _ us hl => match us, hl with | [_, _, _, _, _, _], _ => rfl
theorem bd45 : Bds "_law_with_pole" s__law_with_pole ["deck", "quotient"] := fun _ _ _ _ _ _ us hl => match us, hl with | [_, _], _ => rfl
theorem bd46 : Bds "_law_thing" s__law_thing ["deck", "menu"] := fun _ _ _ _ _ _ us hl => match us, hl with | [_, _], _ => rfl
theorem all_ok { fL : Addr} { fdL : FuncData} {t_TOO_LARGE : Tok} (sy : Sy base) (T : Bt mg)
    {cT pT : Addr} (hpT : pT = L2.tabOf K "_law_told") (TB : LamX.TabB base mg cT pT)
    (i_TOO_LARGE : mg "TOO_LARGE" = some (.int 1000000000000000 t_TOO_LARGE))
    (h0 : ∃ f fd, Df K mg "is_integer" sInt ["thing"] f fd)
    (h1 : ∃ f fd, Df K mg "is_tuple_of" sTupOf ["thing", "many"] f fd)
    (h2 : ∃ f fd, Df K mg "all_integers" sAllInt ["things"] f fd)
    (h3 : ∃ f fd, Df K mg "in_lowest_terms" sLowest ["top", "bottom"] f fd)
    (h4 : ∃ f fd, Df K mg "square_split" sSplit ["size"] f fd)
    (h5 : ∃ f fd, Df K mg "free_of_squares" sFree ["size"] f fd)
    (h6 : ∃ f fd, Df K mg "fits_as_d" sFits ["d"] f fd)
    (h7 : ∃ f fd, Df K mg "is_triple" sTriple ["thing"] f fd)
    (h8 : ∃ f fd, Df K mg "is_number" sNumber ["thing"] f fd)
    (h9 : ∃ f fd, Df K mg "is_fraction" sFraction ["thing"] f fd)
    (h10 : ∃ f fd, Df K mg "is_pole" s_is_pole ["thing"] f fd)
    (h11 : ∃ f fd, Df K mg "comes_before" s_comes_before ["one", "other"] f fd)
    (h12 : ∃ f fd, Df K mg "is_polynomial" s_is_polynomial ["thing"] f fd)
    (h13 : ∃ f fd, Df K mg "is_tail" s_is_tail ["thing"] f fd)
    (h14 : ∃ f fd, Df K mg "are_tails" s_are_tails ["thing"] f fd)
    (h15 : ∃ f fd, Df K mg "is_quotient" s_is_quotient ["thing"] f fd)
    (h16 : ∃ f fd, Df K mg "is_equation" s_is_equation ["thing"] f fd)
    (h17 : ∃ f fd, Df K mg "_law_deck" sDeck ["script", "seed"] f fd)
    (h18 : ∃ f fd, Df K mg "_law_draw" sDraw ["deck", "many"] f fd)
    (h19 : ∃ f fd, Df K mg "_law_great" sGreat ["deck", "many"] f fd)
    (h20 : ∃ f fd, Df K mg "_law_pick" sPick ["deck", "some"] f fd)
    (h21 : ∃ f fd, Df K mg "_law_near" sNear ["deck", "far"] f fd)
    (h22 : ∃ f fd, Df K mg "_law_common" sCommon ["one", "other"] f fd)
    (h23 : ∃ f fd, Df K mg "_law_is_integer" sLInt ["thing"] f fd)
    (h24 : ∃ f fd, Df K mg "_law_is_lean" sIsLean ["number"] f fd)
    (h25 : ∃ f fd, Df K mg "_law_is_triple" sLTriple ["thing"] f fd)
    (h26 : ∃ f fd, Df K mg "_law_is_number" sLNumber ["thing"] f fd)
    (h27 : ∃ f fd, Df K mg "_law_number" sNum ["sums"] f fd)
    (h28 : ∃ f fd, Df K mg "_law_any" sAny ["deck", "deep"] f fd)
    (h29 : ∃ f fd, Df K mg "_law_instead" sInstead ["row", "at", "item"] f fd)
    (h30 : ∃ f fd, Df K mg "_law_bent" s__law_bent ["deck", "thing", "deep"] f fd)
    (h31 : ∃ f fd, Df K mg "_law_is_polynomial" s__law_is_polynomial ["thing"] f fd)
    (h32 : ∃ f fd, Df K mg "_law_is_pole" s__law_is_pole ["thing"] f fd)
    (h33 : ∃ f fd, Df K mg "_law_is_quotient" s__law_is_quotient ["thing"] f fd)
    (h34 : ∃ f fd, Df K mg "_law_numbers" s__law_numbers ["quotient"] f fd)
    (h35 : ∃ f fd, Df K mg "_law_is_plain" s__law_is_plain ["quotient"] f fd)
    (h36 : ∃ f fd, Df K mg "_law_is_within" s__law_is_within ["quotient"] f fd)
    (h37 : ∃ f fd, Df K mg "_law_is_beyond" s__law_is_beyond ["thing"] f fd)
    (h38 : ∃ f fd, Df K mg "_law_roots" s__law_roots ["deck"] f fd)
    (h39 : ∃ f fd, Df K mg "_law_drawn" s__law_drawn ["deck", "menu", "many", "size"] f fd)
    (h40 : ∃ f fd, Df K mg "_law_shed" s__law_shed ["row"] f fd)
    (h41 : ∃ f fd, Df K mg "_law_told" s__law_told ["whole", "rows"] f fd ∧ fd.code = .ref cT)
    (h42 : ∃ f fd, Df K mg "_law_pole" s__law_pole ["deck"] f fd)
    (h43 : ∃ f fd, Df K mg "_law_poles" s__law_poles ["deck", "most"] f fd)
    (h44 : ∃ f fd, Df K mg "_law_quotient" s__law_quotient ["deck", "menu", "poles", "order", "degree", "size"] f fd)
    (h45 : ∃ f fd, Df K mg "_law_with_pole" s__law_with_pole ["deck", "quotient"] f fd)
    (h46 : ∃ f fd, Df K mg "_law_thing" s__law_thing ["deck", "menu"] f fd)
    (FL : Fun K "law" "law" s_law fL fdL) : FnG P w K mg base 16 fL fdL ["script"] (spLaw K) := by
  obtain ⟨f_is_integer, d_is_integer, D_is_integer⟩ := h0
  obtain ⟨f_is_tuple_of, d_is_tuple_of, D_is_tuple_of⟩ := h1
  obtain ⟨f_all_integers, d_all_integers, D_all_integers⟩ := h2
  obtain ⟨f_in_lowest_terms, d_in_lowest_terms, D_in_lowest_terms⟩ := h3
  obtain ⟨f_square_split, d_square_split, D_square_split⟩ := h4
  obtain ⟨f_free_of_squares, d_free_of_squares, D_free_of_squares⟩ := h5
  obtain ⟨f_fits_as_d, d_fits_as_d, D_fits_as_d⟩ := h6
  obtain ⟨f_is_triple, d_is_triple, D_is_triple⟩ := h7
  obtain ⟨f_is_number, d_is_number, D_is_number⟩ := h8
  obtain ⟨f_is_fraction, d_is_fraction, D_is_fraction⟩ := h9
  obtain ⟨f_is_pole, d_is_pole, D_is_pole⟩ := h10
  obtain ⟨f_comes_before, d_comes_before, D_comes_before⟩ := h11
  obtain ⟨f_is_polynomial, d_is_polynomial, D_is_polynomial⟩ := h12
  obtain ⟨f_is_tail, d_is_tail, D_is_tail⟩ := h13
  obtain ⟨f_are_tails, d_are_tails, D_are_tails⟩ := h14
  obtain ⟨f_is_quotient, d_is_quotient, D_is_quotient⟩ := h15
  obtain ⟨f_is_equation, d_is_equation, D_is_equation⟩ := h16
  obtain ⟨f__law_deck, d__law_deck, D__law_deck⟩ := h17
  obtain ⟨f__law_draw, d__law_draw, D__law_draw⟩ := h18
  obtain ⟨f__law_great, d__law_great, D__law_great⟩ := h19
  obtain ⟨f__law_pick, d__law_pick, D__law_pick⟩ := h20
  obtain ⟨f__law_near, d__law_near, D__law_near⟩ := h21
  obtain ⟨f__law_common, d__law_common, D__law_common⟩ := h22
  obtain ⟨f__law_is_integer, d__law_is_integer, D__law_is_integer⟩ := h23
  obtain ⟨f__law_is_lean, d__law_is_lean, D__law_is_lean⟩ := h24
  obtain ⟨f__law_is_triple, d__law_is_triple, D__law_is_triple⟩ := h25
  obtain ⟨f__law_is_number, d__law_is_number, D__law_is_number⟩ := h26
  obtain ⟨f__law_number, d__law_number, D__law_number⟩ := h27
  obtain ⟨f__law_any, d__law_any, D__law_any⟩ := h28
  obtain ⟨f__law_instead, d__law_instead, D__law_instead⟩ := h29
  obtain ⟨f__law_bent, d__law_bent, D__law_bent⟩ := h30
  obtain ⟨f__law_is_polynomial, d__law_is_polynomial, D__law_is_polynomial⟩ := h31
  obtain ⟨f__law_is_pole, d__law_is_pole, D__law_is_pole⟩ := h32
  obtain ⟨f__law_is_quotient, d__law_is_quotient, D__law_is_quotient⟩ := h33
  obtain ⟨f__law_numbers, d__law_numbers, D__law_numbers⟩ := h34
  obtain ⟨f__law_is_plain, d__law_is_plain, D__law_is_plain⟩ := h35
  obtain ⟨f__law_is_within, d__law_is_within, D__law_is_within⟩ := h36
  obtain ⟨f__law_is_beyond, d__law_is_beyond, D__law_is_beyond⟩ := h37
  obtain ⟨f__law_roots, d__law_roots, D__law_roots⟩ := h38
  obtain ⟨f__law_drawn, d__law_drawn, D__law_drawn⟩ := h39
  obtain ⟨f__law_shed, d__law_shed, D__law_shed⟩ := h40
  obtain ⟨f__law_told, d__law_told, D__law_told, hcd⟩ := h41
  obtain ⟨f__law_pole, d__law_pole, D__law_pole⟩ := h42
  obtain ⟨f__law_poles, d__law_poles, D__law_poles⟩ := h43
  obtain ⟨f__law_quotient, d__law_quotient, D__law_quotient⟩ := h44
  obtain ⟨f__law_with_pole, d__law_with_pole, D__law_with_pole⟩ := h45
  obtain ⟨f__law_thing, d__law_thing, D__law_thing⟩ := h46
  have p_is_integer := D_is_integer.kn (P := P) (w := w) (base := base) (ok_int D_is_integer.F T)
  have p_is_tuple_of := D_is_tuple_of.kn (P := P) (w := w) (base := base) (ok_tupOf D_is_tuple_of.F T)
  have p_all_integers := D_all_integers.kn (ok_allInt D_all_integers.F T p_is_integer)
  have p_in_lowest_terms := D_in_lowest_terms.kn (P := P) (w := w) (base := base) (ok_low D_in_lowest_terms.F T)
  have iS := D_square_split.kn (P := P) (w := w) (base := base) (ok_split D_square_split.F T)
  have iF := D_free_of_squares.kn (ok_free D_free_of_squares.F iS)
  have iX := D_fits_as_d.kn (ok_fits D_fits_as_d.F T i_TOO_LARGE iF)
  have iR := D_is_triple.kn (ok_triple D_is_triple.F p_is_tuple_of p_all_integers p_in_lowest_terms iX)
  have p_is_number := D_is_number.kn (ok_number D_is_number.F T iR)
  have p_is_fraction := D_is_fraction.kn (ok_fraction D_is_fraction.F T p_is_number)
  have p_is_pole := D_is_pole.kn (P := P) (w := w) (base := base) (ok_is_pole  D_is_pole.F T p_is_tuple_of p_all_integers p_in_lowest_terms)
  have p_comes_before := D_comes_before.kn (P := P) (w := w) (base := base) (ok_comes_before  D_comes_before.F T )
  have p_is_polynomial := D_is_polynomial.kn (P := P) (w := w) (base := base) (ok_is_polynomial  D_is_polynomial.F T p_is_number)
  have p_is_tail := D_is_tail.kn (P := P) (w := w) (base := base) (ok_is_tail  D_is_tail.F T p_is_tuple_of p_is_pole p_is_polynomial)
  have p_are_tails := D_are_tails.kn (P := P) (w := w) (base := base) (ok_are_tails  D_are_tails.F T p_is_tail p_comes_before)
  have p_is_quotient := D_is_quotient.kn (P := P) (w := w) (base := base) (ok_is_quotient  D_is_quotient.F T p_is_tuple_of p_is_polynomial p_are_tails)
  have p_is_equation := D_is_equation.kn (P := P) (w := w) (base := base) (ok_is_equation  D_is_equation.F T p_is_quotient p_is_fraction)
  have l_deck := D__law_deck.kn (P := P) (w := w) (base := base) (ok_deck D__law_deck.F T)
  have l_draw := D__law_draw.kn (P := P) (w := w) (base := base) (ok_draw D__law_draw.F T)
  have l_great := D__law_great.kn (ok_great D__law_great.F T l_draw)
  have l_pick := D__law_pick.kn (ok_pick D__law_pick.F T l_draw)
  have l_near := D__law_near.kn (ok_near D__law_near.F l_draw)
  have l_common := D__law_common.kn (P := P) (w := w) (base := base) (ok_common D__law_common.F T)
  have l_is_integer := D__law_is_integer.kn (P := P) (w := w) (base := base) (ok_lint D__law_is_integer.F T)
  have l_is_lean := D__law_is_lean.kn (P := P) (w := w) (base := base) (ok_isLean D__law_is_lean.F T)
  have l_is_triple := D__law_is_triple.kn (ok_ltriple D__law_is_triple.F T l_is_integer l_common l_is_lean)
  have l_is_number := D__law_is_number.kn (ok_lnumber D__law_is_number.F T l_is_triple)
  have l_number := D__law_number.kn (ok_num D__law_number.F T l_common)
  have An := any_kn D__law_any.F T l_draw l_pick D__law_any.m D__law_any.b
  have An3 := An 4
  have l_instead := D__law_instead.kn (P := P) (w := w) (base := base) (ok_instead D__law_instead.F)
  have l_bent := bent_kn D__law_bent.F T l_draw l_pick l_is_integer (An 3) l_instead D__law_bent.m D__law_bent.b 8
  have l_is_polynomial := D__law_is_polynomial.kn (P := P) (w := w) (base := base) (ok__law_is_polynomial  D__law_is_polynomial.F T l_is_number)
  have l_is_pole := D__law_is_pole.kn (P := P) (w := w) (base := base) (ok__law_is_pole  D__law_is_pole.F T l_is_integer l_common)
  have l_is_quotient := D__law_is_quotient.kn (P := P) (w := w) (base := base) (ok__law_is_quotient  D__law_is_quotient.F T l_is_polynomial l_is_pole)
  have l_numbers := D__law_numbers.kn (P := P) (w := w) (base := base) (ok__law_numbers  D__law_numbers.F T )
  have l_is_plain := D__law_is_plain.kn (P := P) (w := w) (base := base) (ok__law_is_plain  D__law_is_plain.F T l_numbers)
  have l_is_within := D__law_is_within.kn (P := P) (w := w) (base := base) (ok__law_is_within  D__law_is_within.F T l_numbers)
  have l_is_beyond := D__law_is_beyond.kn (P := P) (w := w) (base := base) (ok__law_is_beyond  D__law_is_beyond.F T l_is_quotient l_is_within l_is_polynomial)
  have l_roots := D__law_roots.kn (P := P) (w := w) (base := base) (ok__law_roots  D__law_roots.F T l_pick)
  have l_drawn := D__law_drawn.kn (P := P) (w := w) (base := base) (ok__law_drawn  D__law_drawn.F T l_draw l_great l_pick l_number)
  have l_shed := D__law_shed.kn (P := P) (w := w) (base := base) (ok__law_shed  D__law_shed.F T )
  have l_told := D__law_told.kn (P := P) (w := w) (base := base) (ok__law_told hcd TB D__law_told.F T l_shed)
  have l_pole := D__law_pole.kn (P := P) (w := w) (base := base) (ok__law_pole  D__law_pole.F T l_draw l_pick l_near l_common)
  have l_poles := D__law_poles.kn (P := P) (w := w) (base := base) (ok__law_poles  D__law_poles.F T l_draw l_pole)
  have l_quotient := D__law_quotient.kn (P := P) (w := w) (base := base) (ok__law_quotient  D__law_quotient.F T l_draw l_pick l_drawn l_told)
  have l_with_pole := D__law_with_pole.kn (P := P) (w := w) (base := base) (ok__law_with_pole  D__law_with_pole.F T l_draw l_pick l_pole)
  have l_thing := D__law_thing.kn (P := P) (w := w) (base := base) (ok__law_thing An3 D__law_thing.F T l_draw l_pick l_poles l_quotient l_with_pole l_bent)
  exact ok_law hpT sy (bk_is_polynomial D_is_polynomial.F) (bk_is_quotient D_is_quotient.F) (bk_is_equation D_is_equation.F) FL T l_deck l_roots l_thing l_is_beyond l_is_polynomial l_is_quotient l_is_plain p_is_polynomial p_is_quotient p_is_equation

end
theorem all_mk {l : PySem.W.OpenLaw} {w : World} {K : PySem.W.Frag} {h : Heap} {mg : Str → Option Value} {fa fL : Addr} (X : K.In h) (G : h.Ns mainGlobals mg) (hfa : mg "law" = some (.ref fa))
    {odL anL : Option Addr} {slL : Array (Option Value)} {ocL kVL dcL pmL cdL ctL : Value} {t_TOO_LARGE : Tok}
    {fT cT pT : Addr} {ocT kVT dcT pmT ctT ccT : Value} {odT anT cdT : Option Addr} {slT csT : Array (Option Value)} {vsT : Array Value} (aT : PySem.W.nsIn K mainGlobals "_law_told" = some (some (.ref fT)))
    (lT : K.lookup fT = some ⟨ocT, odT, .func (PySem.W.fnOf "_law_told" "_law_told" (defArgs s__law_told) (defBody s__law_told) (defScope s__law_told) .none kVT dcT pmT anT (.ref cT) ctT), slT⟩) (qT : PySem.W.codeIn K (.ref cT) "_law_told" = true) (kT : PySem.W.keepIn K (.ref fT) = true)
    (lcT : K.lookup cT = some ⟨ccT, cdT, .fields vsT, csT⟩) (hvT : vsT[11]? = some (.ref pT)) (tn : K.lookup pT = none)
    (n0 : PySem.W.nsIn K mainGlobals "TOO_LARGE" = some (some (.int 1000000000000000 t_TOO_LARGE)))
    (h0 : ∃ f fd, Df K mg "is_integer" sInt ["thing"] f fd)
    (h1 : ∃ f fd, Df K mg "is_tuple_of" sTupOf ["thing", "many"] f fd)
    (h2 : ∃ f fd, Df K mg "all_integers" sAllInt ["things"] f fd)
    (h3 : ∃ f fd, Df K mg "in_lowest_terms" sLowest ["top", "bottom"] f fd)
    (h4 : ∃ f fd, Df K mg "square_split" sSplit ["size"] f fd)
    (h5 : ∃ f fd, Df K mg "free_of_squares" sFree ["size"] f fd)
    (h6 : ∃ f fd, Df K mg "fits_as_d" sFits ["d"] f fd)
    (h7 : ∃ f fd, Df K mg "is_triple" sTriple ["thing"] f fd)
    (h8 : ∃ f fd, Df K mg "is_number" sNumber ["thing"] f fd)
    (h9 : ∃ f fd, Df K mg "is_fraction" sFraction ["thing"] f fd)
    (h10 : ∃ f fd, Df K mg "is_pole" s_is_pole ["thing"] f fd)
    (h11 : ∃ f fd, Df K mg "comes_before" s_comes_before ["one", "other"] f fd)
    (h12 : ∃ f fd, Df K mg "is_polynomial" s_is_polynomial ["thing"] f fd)
    (h13 : ∃ f fd, Df K mg "is_tail" s_is_tail ["thing"] f fd)
    (h14 : ∃ f fd, Df K mg "are_tails" s_are_tails ["thing"] f fd)
    (h15 : ∃ f fd, Df K mg "is_quotient" s_is_quotient ["thing"] f fd)
    (h16 : ∃ f fd, Df K mg "is_equation" s_is_equation ["thing"] f fd)
    (h17 : ∃ f fd, Df K mg "_law_deck" sDeck ["script", "seed"] f fd)
    (h18 : ∃ f fd, Df K mg "_law_draw" sDraw ["deck", "many"] f fd)
    (h19 : ∃ f fd, Df K mg "_law_great" sGreat ["deck", "many"] f fd)
    (h20 : ∃ f fd, Df K mg "_law_pick" sPick ["deck", "some"] f fd)
    (h21 : ∃ f fd, Df K mg "_law_near" sNear ["deck", "far"] f fd)
    (h22 : ∃ f fd, Df K mg "_law_common" sCommon ["one", "other"] f fd)
    (h23 : ∃ f fd, Df K mg "_law_is_integer" sLInt ["thing"] f fd)
    (h24 : ∃ f fd, Df K mg "_law_is_lean" sIsLean ["number"] f fd)
    (h25 : ∃ f fd, Df K mg "_law_is_triple" sLTriple ["thing"] f fd)
    (h26 : ∃ f fd, Df K mg "_law_is_number" sLNumber ["thing"] f fd)
    (h27 : ∃ f fd, Df K mg "_law_number" sNum ["sums"] f fd)
    (h28 : ∃ f fd, Df K mg "_law_any" sAny ["deck", "deep"] f fd)
    (h29 : ∃ f fd, Df K mg "_law_instead" sInstead ["row", "at", "item"] f fd)
    (h30 : ∃ f fd, Df K mg "_law_bent" s__law_bent ["deck", "thing", "deep"] f fd)
    (h31 : ∃ f fd, Df K mg "_law_is_polynomial" s__law_is_polynomial ["thing"] f fd)
    (h32 : ∃ f fd, Df K mg "_law_is_pole" s__law_is_pole ["thing"] f fd)
    (h33 : ∃ f fd, Df K mg "_law_is_quotient" s__law_is_quotient ["thing"] f fd)
    (h34 : ∃ f fd, Df K mg "_law_numbers" s__law_numbers ["quotient"] f fd)
    (h35 : ∃ f fd, Df K mg "_law_is_plain" s__law_is_plain ["quotient"] f fd)
    (h36 : ∃ f fd, Df K mg "_law_is_within" s__law_is_within ["quotient"] f fd)
    (h37 : ∃ f fd, Df K mg "_law_is_beyond" s__law_is_beyond ["thing"] f fd)
    (h38 : ∃ f fd, Df K mg "_law_roots" s__law_roots ["deck"] f fd)
    (h39 : ∃ f fd, Df K mg "_law_drawn" s__law_drawn ["deck", "menu", "many", "size"] f fd)
    (h40 : ∃ f fd, Df K mg "_law_shed" s__law_shed ["row"] f fd)
    (h42 : ∃ f fd, Df K mg "_law_pole" s__law_pole ["deck"] f fd)
    (h43 : ∃ f fd, Df K mg "_law_poles" s__law_poles ["deck", "most"] f fd)
    (h44 : ∃ f fd, Df K mg "_law_quotient" s__law_quotient ["deck", "menu", "poles", "order", "degree", "size"] f fd)
    (h45 : ∃ f fd, Df K mg "_law_with_pole" s__law_with_pole ["deck", "quotient"] f fd)
    (h46 : ∃ f fd, Df K mg "_law_thing" s__law_thing ["deck", "menu"] f fd)
    (z0 : PySem.W.nsIn K mainGlobals "int" = some none)
    (z1 : PySem.W.nsIn K mainGlobals "bool" = some none)
    (z2 : PySem.W.nsIn K mainGlobals "tuple" = some none)
    (z3 : PySem.W.nsIn K mainGlobals "list" = some none)
    (z4 : PySem.W.nsIn K mainGlobals "isinstance" = some none)
    (z5 : PySem.W.nsIn K mainGlobals "len" = some none)
    (z6 : PySem.W.nsIn K mainGlobals "all" = some none)
    (z7 : PySem.W.nsIn K mainGlobals "range" = some none)
    (z8 : PySem.W.nsIn K mainGlobals "abs" = some none)
    (z9 : PySem.W.nsIn K mainGlobals "repr" = some none)
    (z10 : PySem.W.nsIn K mainGlobals "zip" = some none)
    (z11 : PySem.W.nsIn K mainGlobals "max" = some none)
    (z12 : PySem.W.nsIn K mainGlobals "sorted" = some none)
    (z13 : PySem.W.nsIn K mainGlobals "str" = some none)
    (z14 : PySem.W.nsIn K mainGlobals "gcd" = some (some (.builtin "math.gcd")))
    (z15 : PySem.W.nsIn K mainGlobals "isqrt" = some (some (.builtin "math.isqrt")))
    (aL : PySem.W.nsIn K mainGlobals "law" = some (some (.ref fL))) (lL : K.lookup fL = some ⟨ocL, odL, .func (PySem.W.fnOf "law" "law" (defArgs s_law) (defBody s_law) (defScope s_law) .none kVL dcL pmL anL cdL ctL), slL⟩) (cL : PySem.W.codeIn K cdL "law" = true) (kL : PySem.W.keepIn K (.ref fL) = true) :
    ∃ (fd : FuncData) (c : Addr), (PySem.W.tabIn K "_law_told" = some (c, L2.tabOf K "_law_told") ∧ K.lookup (L2.tabOf K "_law_told") = none) ∧ (∀ (s : Shared) (v : Value), BindsTo s fd ⟨[v], []⟩ [("script", v)]) ∧ ∀ base : Heap, K.In base → base.Ns mainGlobals mg → Sy base → LamX.TabB base mg c (L2.tabOf K "_law_told") → FnG l.prog w K mg base 16 fa fd ["script"] (spLaw K) := by
  have tt : PySem.W.tabIn K "_law_told" = some (cT, pT) := tab_mk aT lT rfl lcT hvT
  have h41 := df_mkT (st := s__law_told) X G aT lT qT kT bd41 rfl
  have tO : L2.tabOf K "_law_told" = pT := by unfold L2.tabOf; rw [tt]; rfl
  have e := hfa.symm.trans (PySem.W.mg_of X G aL)
  cases e
  have no : ∀ {x : Str}, PySem.W.nsIn K mainGlobals x = some none → mg x = none := fun z => PySem.W.mg_none_of X G z
  have T : Bt mg := ⟨no z0, no z1, no z2, no z3, no z4, no z5, no z6, no z7, no z8, no z9, no z10, no z11, no z12, no z13, PySem.W.mg_of X G z14, PySem.W.mg_of X G z15⟩
  rw [tO]
  exact ⟨_, cT, ⟨tt, tn⟩, fun s v => .of_eq rfl, fun base _ _ sy TB => all_ok sy T tO.symm TB (PySem.W.mg_of X G n0) h0 h1 h2 h3 h4 h5 h6 h7 h8 h9 h10 h11 h12 h13 h14 h15 h16 h17 h18 h19 h20 h21 h22 h23 h24 h25 h26 h27 h28 h29 h30 h31 h32 h33 h34 h35 h36 h37 h38 h39 h40 h41 h42 h43 h44 h45 h46 (fun_mk (st := s_law) lL cL kL)⟩
end N3

open PySem PySem.W PyProof.Rows
set_option maxHeartbeats 0 in
theorem PySem.Challenge.cw_twiceslope_k08_any_value_as_a_quotient_holds : PySem.Challenge.rw_twiceslope_k08_any_value_as_a_quotient.Holds := by
  w_on; o_law; k_head; (case hw => w_witness2)
  k_fill
  refine L2.walk_idleT (l := PySem.Challenge.rw_twiceslope_k08_any_value_as_a_quotient) (n := 63) (k := 16) (x := "script") (sp := fun w => N3.spLaw _) "_law_told" rfl (by decide) rfl (by decide +kernel) ⟨rfl, by decide, by decide⟩ (fun w h Y => PySem.W.km_in_of Y) (by decide +kernel) ?F (fun _ _ a ns hl hT hS => ⟨a, ns, rfl, hT, hS, hl, fun _ => rfl⟩)
  case F =>
    intro w mg fa h KX G hmg
    refine' N3.all_mk KX G hmg ?aT ?lT ?qT ?kT ?lcT ?hvT ?tn ?n0 ?d0 ?d1 ?d2 ?d3 ?d4 ?d5 ?d6 ?d7 ?d8 ?d9 ?d10 ?d11 ?d12 ?d13 ?d14 ?d15 ?d16 ?d17 ?d18 ?d19 ?d20 ?d21 ?d22 ?d23 ?d24 ?d25 ?d26 ?d27 ?d28 ?d29 ?d30 ?d31 ?d32 ?d33 ?d34 ?d35 ?d36 ?d37 ?d38 ?d39 ?d40 ?d42 ?d43 ?d44 ?d45 ?d46 ?z0 ?z1 ?z2 ?z3 ?z4 ?z5 ?z6 ?z7 ?z8 ?z9 ?z10 ?z11 ?z12 ?z13 ?z14 ?z15 ?aL ?lL ?cL ?kL
    (case aT => k_is)
    (case lT => k_is)
    (case qT => k_is)
    (case kT => k_is)
    (case lcT => k_is)
    (case hvT => first | rfl | kernel_rfl | with_unfolding_all rfl | decide)
    (case tn => first | rfl | kernel_rfl | with_unfolding_all rfl | decide)
    (case n0 => k_is)
    case d0 => (refine' N3.df_mk (st := N3.sInt) KX G ?v_a ?v_l ?v_c ?v_k N3.bd0; (case v_a => k_is); (case v_l => k_is); (case v_c => k_is); (case v_k => k_is))
    case d1 => (refine' N3.df_mk (st := N3.sTupOf) KX G ?v_a ?v_l ?v_c ?v_k N3.bd1; (case v_a => k_is); (case v_l => k_is); (case v_c => k_is); (case v_k => k_is))
    case d2 => (refine' N3.df_mk (st := N3.sAllInt) KX G ?v_a ?v_l ?v_c ?v_k N3.bd2; (case v_a => k_is); (case v_l => k_is); (case v_c => k_is); (case v_k => k_is))
    case d3 => (refine' N3.df_mk (st := N3.sLowest) KX G ?v_a ?v_l ?v_c ?v_k N3.bd3; (case v_a => k_is); (case v_l => k_is); (case v_c => k_is); (case v_k => k_is))
    case d4 => (refine' N3.df_mk (st := N3.sSplit) KX G ?v_a ?v_l ?v_c ?v_k N3.bd4; (case v_a => k_is); (case v_l => k_is); (case v_c => k_is); (case v_k => k_is))
    case d5 => (refine' N3.df_mk (st := N3.sFree) KX G ?v_a ?v_l ?v_c ?v_k N3.bd5; (case v_a => k_is); (case v_l => k_is); (case v_c => k_is); (case v_k => k_is))
    case d6 => (refine' N3.df_mk (st := N3.sFits) KX G ?v_a ?v_l ?v_c ?v_k N3.bd6; (case v_a => k_is); (case v_l => k_is); (case v_c => k_is); (case v_k => k_is))
    case d7 => (refine' N3.df_mk (st := N3.sTriple) KX G ?v_a ?v_l ?v_c ?v_k N3.bd7; (case v_a => k_is); (case v_l => k_is); (case v_c => k_is); (case v_k => k_is))
    case d8 => (refine' N3.df_mk (st := N3.sNumber) KX G ?v_a ?v_l ?v_c ?v_k N3.bd8; (case v_a => k_is); (case v_l => k_is); (case v_c => k_is); (case v_k => k_is))
    case d9 => (refine' N3.df_mk (st := N3.sFraction) KX G ?v_a ?v_l ?v_c ?v_k N3.bd9; (case v_a => k_is); (case v_l => k_is); (case v_c => k_is); (case v_k => k_is))
    case d10 => (refine' N3.df_mk (st := N3.s_is_pole) KX G ?v_a ?v_l ?v_c ?v_k N3.bd10; (case v_a => k_is); (case v_l => k_is); (case v_c => k_is); (case v_k => k_is))
    case d11 => (refine' N3.df_mk (st := N3.s_comes_before) KX G ?v_a ?v_l ?v_c ?v_k N3.bd11; (case v_a => k_is); (case v_l => k_is); (case v_c => k_is); (case v_k => k_is))
    case d12 => (refine' N3.df_mk (st := N3.s_is_polynomial) KX G ?v_a ?v_l ?v_c ?v_k N3.bd12; (case v_a => k_is); (case v_l => k_is); (case v_c => k_is); (case v_k => k_is))
    case d13 => (refine' N3.df_mk (st := N3.s_is_tail) KX G ?v_a ?v_l ?v_c ?v_k N3.bd13; (case v_a => k_is); (case v_l => k_is); (case v_c => k_is); (case v_k => k_is))
    case d14 => (refine' N3.df_mk (st := N3.s_are_tails) KX G ?v_a ?v_l ?v_c ?v_k N3.bd14; (case v_a => k_is); (case v_l => k_is); (case v_c => k_is); (case v_k => k_is))
    case d15 => (refine' N3.df_mk (st := N3.s_is_quotient) KX G ?v_a ?v_l ?v_c ?v_k N3.bd15; (case v_a => k_is); (case v_l => k_is); (case v_c => k_is); (case v_k => k_is))
    case d16 => (refine' N3.df_mk (st := N3.s_is_equation) KX G ?v_a ?v_l ?v_c ?v_k N3.bd16; (case v_a => k_is); (case v_l => k_is); (case v_c => k_is); (case v_k => k_is))
    case d17 => (refine' N3.df_mk (st := N3.sDeck) KX G ?v_a ?v_l ?v_c ?v_k N3.bd17; (case v_a => k_is); (case v_l => k_is); (case v_c => k_is); (case v_k => k_is))
    case d18 => (refine' N3.df_mk (st := N3.sDraw) KX G ?v_a ?v_l ?v_c ?v_k N3.bd18; (case v_a => k_is); (case v_l => k_is); (case v_c => k_is); (case v_k => k_is))
    case d19 => (refine' N3.df_mk (st := N3.sGreat) KX G ?v_a ?v_l ?v_c ?v_k N3.bd19; (case v_a => k_is); (case v_l => k_is); (case v_c => k_is); (case v_k => k_is))
    case d20 => (refine' N3.df_mk (st := N3.sPick) KX G ?v_a ?v_l ?v_c ?v_k N3.bd20; (case v_a => k_is); (case v_l => k_is); (case v_c => k_is); (case v_k => k_is))
    case d21 => (refine' N3.df_mk (st := N3.sNear) KX G ?v_a ?v_l ?v_c ?v_k N3.bd21; (case v_a => k_is); (case v_l => k_is); (case v_c => k_is); (case v_k => k_is))
    case d22 => (refine' N3.df_mk (st := N3.sCommon) KX G ?v_a ?v_l ?v_c ?v_k N3.bd22; (case v_a => k_is); (case v_l => k_is); (case v_c => k_is); (case v_k => k_is))
    case d23 => (refine' N3.df_mk (st := N3.sLInt) KX G ?v_a ?v_l ?v_c ?v_k N3.bd23; (case v_a => k_is); (case v_l => k_is); (case v_c => k_is); (case v_k => k_is))
    case d24 => (refine' N3.df_mk (st := N3.sIsLean) KX G ?v_a ?v_l ?v_c ?v_k N3.bd24; (case v_a => k_is); (case v_l => k_is); (case v_c => k_is); (case v_k => k_is))
    case d25 => (refine' N3.df_mk (st := N3.sLTriple) KX G ?v_a ?v_l ?v_c ?v_k N3.bd25; (case v_a => k_is); (case v_l => k_is); (case v_c => k_is); (case v_k => k_is))
    case d26 => (refine' N3.df_mk (st := N3.sLNumber) KX G ?v_a ?v_l ?v_c ?v_k N3.bd26; (case v_a => k_is); (case v_l => k_is); (case v_c => k_is); (case v_k => k_is))
    case d27 => (refine' N3.df_mk (st := N3.sNum) KX G ?v_a ?v_l ?v_c ?v_k N3.bd27; (case v_a => k_is); (case v_l => k_is); (case v_c => k_is); (case v_k => k_is))
    case d28 => (refine' N3.df_mk (st := N3.sAny) KX G ?v_a ?v_l ?v_c ?v_k N3.bd28; (case v_a => k_is); (case v_l => k_is); (case v_c => k_is); (case v_k => k_is))
    case d29 => (refine' N3.df_mk (st := N3.sInstead) KX G ?v_a ?v_l ?v_c ?v_k N3.bd29; (case v_a => k_is); (case v_l => k_is); (case v_c => k_is); (case v_k => k_is))
    case d30 => (refine' N3.df_mk (st := N3.s__law_bent) KX G ?v_a ?v_l ?v_c ?v_k N3.bd30; (case v_a => k_is); (case v_l => k_is); (case v_c => k_is); (case v_k => k_is))
    case d31 => (refine' N3.df_mk (st := N3.s__law_is_polynomial) KX G ?v_a ?v_l ?v_c ?v_k N3.bd31; (case v_a => k_is); (case v_l => k_is); (case v_c => k_is); (case v_k => k_is))
    case d32 => (refine' N3.df_mk (st := N3.s__law_is_pole) KX G ?v_a ?v_l ?v_c ?v_k N3.bd32; (case v_a => k_is); (case v_l => k_is); (case v_c => k_is); (case v_k => k_is))
    case d33 => (refine' N3.df_mk (st := N3.s__law_is_quotient) KX G ?v_a ?v_l ?v_c ?v_k N3.bd33; (case v_a => k_is); (case v_l => k_is); (case v_c => k_is); (case v_k => k_is))
    case d34 => (refine' N3.df_mk (st := N3.s__law_numbers) KX G ?v_a ?v_l ?v_c ?v_k N3.bd34; (case v_a => k_is); (case v_l => k_is); (case v_c => k_is); (case v_k => k_is))
    case d35 => (refine' N3.df_mk (st := N3.s__law_is_plain) KX G ?v_a ?v_l ?v_c ?v_k N3.bd35; (case v_a => k_is); (case v_l => k_is); (case v_c => k_is); (case v_k => k_is))
    case d36 => (refine' N3.df_mk (st := N3.s__law_is_within) KX G ?v_a ?v_l ?v_c ?v_k N3.bd36; (case v_a => k_is); (case v_l => k_is); (case v_c => k_is); (case v_k => k_is))
    case d37 => (refine' N3.df_mk (st := N3.s__law_is_beyond) KX G ?v_a ?v_l ?v_c ?v_k N3.bd37; (case v_a => k_is); (case v_l => k_is); (case v_c => k_is); (case v_k => k_is))
    case d38 => (refine' N3.df_mk (st := N3.s__law_roots) KX G ?v_a ?v_l ?v_c ?v_k N3.bd38; (case v_a => k_is); (case v_l => k_is); (case v_c => k_is); (case v_k => k_is))
    case d39 => (refine' N3.df_mk (st := N3.s__law_drawn) KX G ?v_a ?v_l ?v_c ?v_k N3.bd39; (case v_a => k_is); (case v_l => k_is); (case v_c => k_is); (case v_k => k_is))
    case d40 => (refine' N3.df_mk (st := N3.s__law_shed) KX G ?v_a ?v_l ?v_c ?v_k N3.bd40; (case v_a => k_is); (case v_l => k_is); (case v_c => k_is); (case v_k => k_is))
    case d42 => (refine' N3.df_mk (st := N3.s__law_pole) KX G ?v_a ?v_l ?v_c ?v_k N3.bd42; (case v_a => k_is); (case v_l => k_is); (case v_c => k_is); (case v_k => k_is))
    case d43 => (refine' N3.df_mk (st := N3.s__law_poles) KX G ?v_a ?v_l ?v_c ?v_k N3.bd43; (case v_a => k_is); (case v_l => k_is); (case v_c => k_is); (case v_k => k_is))
    case d44 => (refine' N3.df_mk (st := N3.s__law_quotient) KX G ?v_a ?v_l ?v_c ?v_k N3.bd44; (case v_a => k_is); (case v_l => k_is); (case v_c => k_is); (case v_k => k_is))
    case d45 => (refine' N3.df_mk (st := N3.s__law_with_pole) KX G ?v_a ?v_l ?v_c ?v_k N3.bd45; (case v_a => k_is); (case v_l => k_is); (case v_c => k_is); (case v_k => k_is))
    case d46 => (refine' N3.df_mk (st := N3.s__law_thing) KX G ?v_a ?v_l ?v_c ?v_k N3.bd46; (case v_a => k_is); (case v_l => k_is); (case v_c => k_is); (case v_k => k_is))
    (case z0 => k_is)
    (case z1 => k_is)
    (case z2 => k_is)
    (case z3 => k_is)
    (case z4 => k_is)
    (case z5 => k_is)
    (case z6 => k_is)
    (case z7 => k_is)
    (case z8 => k_is)
    (case z9 => k_is)
    (case z10 => k_is)
    (case z11 => k_is)
    (case z12 => k_is)
    (case z13 => k_is)
    (case z14 => k_is)
    (case z15 => k_is)
    (case aL => k_is)
    (case lL => k_is)
    (case cL => k_is)
    (case kL => k_is)
