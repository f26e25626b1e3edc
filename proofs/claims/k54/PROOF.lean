import PyProof.Rows.All
import Wide.All
import OpenK.AllK
import Wide.FinOn
import HandS.ForMost
import HandS.ForExc
import HandS.ExcSuper
import HandS.ClsMeth
import KE.KExcIs
import HandS.ExcInit
import HandS.IsInst
import HandS.HotCalls
import HandS.Defaults
import HandS.Iter
import KE.GoesEnum
import HandS.Ends
import PyProof.ReprRoads
import PyProof.RowDictHeap
import HandS.Dict
import PyProof.Rows.RegStrFacts
import HandS.Style
import HandS.TupAny
import HandS.Wide
import HandS.Codes
import HandS.Walk
import HandS.Gcd
import HandS.Comp
import Flt.RightSqrt
import HandS.Zip
import PyProof.AutoSeq1
import HandS.Lambda
import HandS.Conv
import KE.SortKeyHeap
import HandS.ExcOwn
import HandS.ExcValue
import KE.KDictSum
import HandS.SortKw
import HandS.TupMul
import HandS.EndTab
import HandS.NoneIn
import HandS.Deep
import PySem.Challenge.RW_twiceslope_k54_writings_of_any_quotient
set_option Elab.async false
set_option linter.all false
set_option maxRecDepth 100000
set_option maxHeartbeats 4000000
namespace PySem
namespace Sl
open PySem.W PySem.Calls PyProof.Rows PySem.HandSPX
open Builtin Builtin.ObjectAttr
/-- own classes, then Exception's line -/
abbrev xTail : List Value := [.type "Exception", .type "BaseException", .type "object"]
def refsX : List Value → Bool
  | .ref _ :: r => refsX r
  | l => l == xTail
theorem refsX_two (a b : Addr) : refsX (.ref a :: .ref b :: xTail) = true := by
  show (xTail == xTail) = true
  decide +kernel
/-- the class at C stands over SlopeError at S -/
structure SubCls (K : Frag) (C S : Addr) : Prop where
  cls : ∃ nm q N bs sn sub ab col dd k0 k1 k2 k3 k5, K.lookup C = some (excClassObj nm q C N bs (.ref S :: xTail) true sn sub ab col dd k0 k1 k2 k3 k5 "Exception.__new__")
theorem pass_sub (self : Value) (C S : Addr) : refuseLoop self "__setattr__" (.ref C :: .ref S :: xTail) = pure () := by
  rw [refuseLoop_ref, refuseLoop_ref]
  exact F.store_Exception.passes self
theorem has_sub (C S : Addr) (T : String) (hT : xTail.contains (.type T) = true) : (Value.ref C :: .ref S :: xTail).contains (.type T) = true := by
  rw [List.contains_cons, List.contains_cons, hT]
  simp
theorem tail_sub (S : Addr) (T : String) : (Value.ref S :: xTail).contains (.type T) = xTail.contains (.type T) := by
  rw [List.contains_cons]
  rfl
end Sl
end PySem
namespace PySem
namespace Sl
open PySem.W PySem.Calls PyProof.Rows PySem.HandSPX
open Builtin Builtin.ObjectAttr
section
variable {prog : Program} {w : World} {A : Around} {E : Value → Shared → Prop} {R : Result → Shared → Prop} {hp : Heap} {g : Array GenState} {d : Drawn} {t : Nat} {os : OsState}
/-- self.name = v on a fresh exception of such a class -/
theorem osa_sub {K : W.Frag} {name : Str} {tk : Tok} {v : Value} {x C S : Addr} {fv : Array Value} {cd : ClassData}
    (X : K.In hp) (hx : hp.get? x = some { cls := .ref C, data := .fields fv }) (hcd : W.clsIn K C = some cd) (hm : cd.mro = .ref C :: .ref S :: xTail) (hh : cd.hasDict = true) (ha : W.findIn K (.ref C) name = some none)
    (hq : ∀ h' tk' dx, (∀ b o, b ≠ x → hp.get? b = some o → h'.get? b = some o) → hp.objs.size ≤ dx → dx ≠ x →
      h'.get? x = some { cls := .ref C, dict := some dx, data := .fields fv } → h'.Ns1 dx (fun y => if y = name then some v else none) → R (.ok (.ret .none)) ⟨h', g, d, tk', os⟩) :
    codeAny (model prog w) A (.call (.builtin "object.__setattr__") ⟨[.ref x, .str name tk, v], []⟩) R ⟨hp, g, d, t, os⟩ := by
  have I : W.InstAt hp x { cls := .ref C, data := .fields fv } C none := ⟨hx, rfl, rfl, trivial⟩
  have far : x ≠ hp.objs.size := Nat.ne_of_lt (Heap.lt_size hx)
  have mo : W.mroIn K C (.type "object") = some true := by
    unfold W.mroIn
    rw [hcd, Option.bind_some, hm, if_neg (show ¬ (List.isEmpty (Value.ref C :: .ref S :: xTail) = true) from Bool.false_ne_true), has_sub C S "object" (by decide +kernel)]
  have lm : W.Looks (model prog w) hp (isInstance (.ref x) (.type "object")) true := I.type.andThen (W.looks_mroIn X mo)
  have lr : W.Looks (model prog w) hp (mroOf (.ref C)) cd.mro := (W.looks_clsIn X hcd).andThen .now
  have lt : W.Looks (model prog w) hp (storeTaker? none) none := .now
  have lc : W.Looks (model prog w) hp (classData C) cd := W.looks_clsIn X hcd
  have stops : refuseLoop (.ref x) "__setattr__" cd.mro = pure () := by rw [hm]; exact pass_sub _ C S
  refine codeAny_call_builtin F.store_object.slot.plain F.store_object.entry
    (@W.check_slot (model prog w) _ _ ⟨hp, g, d, t, os⟩ "object.__setattr__" "object" "__setattr__" (.ref x) [.str name tk, v] [] _ F.store_object.kind F.store_object.split lm (F.store_object.args (.ref x) (.str name tk) v) ?_)
  rw [W.osa_eq, refuse_eq]
  refine wpAny_bind (wpAny_bind (I.type.at (wpAny_bind (lr.at ?_)))); rw [stops]
  refine wpAny_pure (wpAny_bind (I.type.at (wpAny_bind ((W.looks_findIn X ha).at (wpAny_bind (lt.at ?_))))))
  show wpAny _ _ (storeInOwnDict (.ref x) (.ref C) (.str name tk) name v false) _ _ _
  obtain ⟨nm, bs, mro, ns, qn, hd, sn, sb, ab, col, del⟩ := cd
  dsimp only at hh; subst hh
  unfold storeInOwnDict ownDictForStores
  repeat (first
    | with_reducible refine HandSPX.store_in_new ?_ ?_
    | with_reducible refine wpAny_loadPart_at hx ?_
    | with_reducible refine lc.at ?_
    | wp_step)
  · exact ⟨_, #[], _, (Heap.get?_update_ne _ _ _ _ far.symm).trans (Heap.get?_push_at rfl rfl), rfl, fun e he => absurd he (by simp), fun _ => rfl⟩
  · intro h' tk' hn' hs
    have hx1 : (hp.push { cls := .type "dict", data := .dict #[] }).get? x = some { cls := .ref C, data := .fields fv } := Heap.get?_push_of_some _ hx
    refine hq h' tk' hp.objs.size (fun b o hb ho => ?_) (Nat.le_refl _) far.symm ?_ hn'
    · exact (hs.2 b (Nat.ne_of_lt (Heap.lt_size ho))).trans ((Heap.get?_update_ne _ _ _ _ hb).trans (Heap.get?_push_of_some _ ho))
    · exact (hs.2 x far).trans (Heap.get?_update_self _ hx1 rfl)
end
end Sl
end PySem

namespace PySem
namespace Sl
open PySem.W PySem.Calls PyProof.Rows PySem.HandSPX
open Builtin Builtin.ObjectAttr
section
variable {M : Model} {A : Around} {E : Value → Shared → Prop} {h : Heap} {g : Array GenState} {d : Drawn} {t : Nat} {os : OsState}
variable {nm q : Str} {C N : Addr} {bs bm : List Value} {hdct : Bool} {sn : List Str} {sub : List Value} {ab : Bool} {col : Option Bool} {dd : Option Addr} {k0 k1 k2 k3 k5 : Option Value}
abbrev xb := F.excBase_Exception
theorem check_kw (hT : ∀ T : String, bm.contains (.type T) = xTail.contains (.type T)) {rest : List Value} {kw : List (Str × Value)} {Q : Unit → Shared → Prop}
    (hC : h.get? C = some (excClassObj nm q C N bs bm hdct sn sub ab col dd k0 k1 k2 k3 k5 "Exception.__new__")) (hq : Q () ⟨h, g, d, t, os⟩) :
    wpAny M A (checkBuiltinCall "Exception.__new__" ⟨.ref C :: rest, kw⟩) Q E ⟨h, g, d, t, os⟩ := by
  have hcont : (Value.ref C :: bm).contains (.type "Exception") = true := by rw [List.contains_cons, hT, xb.hasB, Bool.or_true]
  have hstar := xb.noStar
  simp only [checkBuiltinCall, xb.newKind, xb.newSplit, xb.newRow]
  repeat (first
    | refine wpAny_loadPart_at hC ?_
    | (refine wpAny_isSubtype_exc hC ?_; rw [hcont])
    | refine wpAny_staticBase_exc hC ?_
    | refine wpAny_madeBy_exc hC ?_
    | simp only [bne_self_eq_false, Bool.false_eq_true, if_false]
    | wp_step)
  exact hq
end
section
variable {prog : Program} {w : World} {A : Around} {E : Value → Shared → Prop} {R : Result → Shared → Prop} {h : Heap} {g : Array GenState} {d : Drawn} {t : Nat} {os : OsState}
variable {nm q : Str} {C N : Addr} {bs bm : List Value} {hdct : Bool} {sn : List Str} {sub : List Value} {ab : Bool} {col : Option Bool} {dd : Option Addr} {k0 k1 k2 k3 k5 : Option Value}
theorem new_kw (hT : ∀ T : String, bm.contains (.type T) = xTail.contains (.type T)) {rest : List Value} {kw : List (Str × Value)}
    (hC : h.get? C = some (excClassObj nm q C N bs bm hdct sn sub ab col dd k0 k1 k2 k3 k5 "Exception.__new__"))
    (hq : R (.ok (.ret (.ref (h.objs.size + 1)))) ⟨(h.push (W.kdv_tup rest)).push (excO C h.objs.size), g, d, t, os⟩) (hrest : rest.length ≤ sizeLine) :
    codeAny (model prog w) A (.builtin "Exception.__new__" ⟨.ref C :: rest, kw⟩) R ⟨h, g, d, t, os⟩ := by
  have hends := xb.ends
  have hcB : (Value.ref C :: bm).contains (.type "Exception") = true := by rw [List.contains_cons, hT, xb.hasB, Bool.or_true]
  have hcA : (Value.ref C :: bm).contains (.type "AttributeError") = false := by rw [List.contains_cons, hT, xb.noAttr]; rfl
  have hcN : (Value.ref C :: bm).contains (.type "NameError") = false := by rw [List.contains_cons, hT, xb.noName]; rfl
  refine codeAny_builtinAt xb.entry ?_
  unfold Builtin.«BaseException.__new__»
  refine wpAt_bind ?_
  show wpAt _ _ _ (stack >>= _) _ _ _
  refine wpAt_bind (wpAt_stack fun p below => wpAt_of_wpAny ?_)
  wp_walk
  refine wpAt_of_wpAny ?_
  rw [xb.owner]
  repeat (first
    | with_reducible refine wpAny_madeHere_exc xb.canon hC ?_
    | with_reducible refine wpAny_loadPart_at hC ?_
    | (with_reducible refine wpAny_isSubtype_exc hC ?_; first | rw [hcB] | rw [hcA] | rw [hcN])
    | wp_step)
  show R _ _
  rw [Heap.size_push]
  exact hq
theorem call_kw (hT : ∀ T : String, bm.contains (.type T) = xTail.contains (.type T)) {rest : List Value} {kw : List (Str × Value)} {fI : Addr}
    (hC : h.get? C = some (excClassObj nm q C N bs bm hdct sn sub ab col dd k0 k1 k2 k3 k5 "Exception.__new__"))
    (hi : W.Looks (model prog w) h (typeLookup (.ref C) "__init__") (some (.ref fI))) (hb : ∀ self, W.Looks (model prog w) h (bindSpecial (.ref fI) self) (.ref fI, [self])) (hrest : rest.length ≤ sizeLine)
    (hq : codeAny (model prog w) (A.under (.builtin "type.__call__" ⟨.ref C :: rest, kw⟩)) (.call (.ref fI) ⟨.ref (h.objs.size + 1) :: rest, kw⟩) (W.InitBack (h.objs.size + 1) R)
      ⟨(h.push (W.kdv_tup rest)).push (excO C h.objs.size), g, d, t, os⟩) :
    codeAny (model prog w) A (.call (.ref C) ⟨rest, kw⟩) R ⟨h, g, d, t, os⟩ := by
  have f1 := tc_lookup
  have f2 := tc_bind (.ref C)
  have f3 := tc_sub
  have hTy : (⟨h, g, d, t, os⟩ : Shared).TypeIs (.ref C) "type" := ⟨_, hC, rfl⟩
  refine codeAny_of_tree ?_
  show wpAny _ _ (callAny (.ref C) _) _ _ _
  repeat (any_goals (first | assumption | with_reducible refine wpAny_loadPart_at hC ?_ | wp_step))
  refine ⟨rfl, ?_⟩
  refine codeAny_call_builtin_at (Code.quiet_builtin _ (by decide +kernel)) entry_typeCall ?_
  have after : wpAny (model prog w) (A.under (.builtin "type.__call__" ⟨.ref C :: rest, kw⟩)) (Builtin.«type.__call__» ⟨.ref C :: rest, kw⟩)
      (fun fin s' => match fin with | .done f => R (.ok f) s' | .again c' => c'.quiet = true ∧ codeAny (model prog w) A c' R s') (fun e s' => R (.error e) s') ⟨h, g, d, t, os⟩ := by
    repeat (first | with_reducible refine wpAny_loadPart_at hC ?_ | with_reducible refine wpAny_madeBy_exc hC ?_ | wp_step)
    refine codeAny_call_builtin_code (Code.quiet_builtin _ xb.quiet) (check_kw hT hC ?_)
    refine new_kw hT hC ?_ hrest
    show wpAny _ _ _ _ _ _
    have k : ∀ b o, h.get? b = some o → ((h.push (W.kdv_tup rest)).push (excO C h.objs.size)).get? b = some o := fun b o e => Heap.get?_push_of_some _ (Heap.get?_push_of_some _ e)
    have hC1 := k _ _ hC
    have hget : ((h.push (W.kdv_tup rest)).push (excO C h.objs.size)).get? (h.objs.size + 1) = some (excO C h.objs.size) := by heap_get
    have hcC : (Value.ref C :: bm).contains (.ref C) = true := by simp
    have i1 := hi.keeps k
    have b1 := (hb (.ref (h.objs.size + 1))).keeps k
    unfold isInstance
    repeat (first
      | with_reducible refine wpAny_loadPart_at hget ?_
      | (with_reducible refine wpAny_isSubtype_exc hC1 ?_; rw [hcC])
      | wp_step)
    show wpAny _ _ (typeLookup (.ref C) _) _ _ _
    refine i1.at ?_
    refine wpAny_holding (wpAny_bind (b1.at ?_))
    refine wpAny_bind (wpAny_call (codeAny_mono hq fun r s' z => ?_))
    rcases r with e | (v | _ | _ | _) <;> first | exact z | exact z.elim | skip
    obtain ⟨rfl, z⟩ := z
    first
      | exact wpAny_pure (wpAny_pure z)
      | (wp_walk; exact z)
  simp only [checkBuiltinCall, tc_kind, tc_split]
  repeat (any_goals (first | exact after | assumption | with_reducible refine wpAny_loadPart_at hC ?_ | with_reducible refine wpAny_onRaise ?_ | with_reducible refine wpAny_map ?_ | wp_step))
end
end Sl
end PySem

namespace L2
open PySem PySem.Spec PyProof.Rows
/-- what the written part says of an error's class at C, over SlopeError at S -/
structure SlC (K : PySem.W.Frag) (C S : Addr) : Prop where
  cls : PySem.Sl.SubCls K C S
  sa : PySem.W.findIn K (.ref C) "__setattr__" = some (some (.builtin "object.__setattr__"))
  exC : PySem.W.subIn K (.ref C) (.type "BaseException") = some true
  tyC : PySem.W.typeIn K (.ref C) = some (.type "type")
  kC : PySem.W.keepIn K (.ref C) = true
  ga : PySem.W.findIn K (.ref C) "__getattribute__" = some (some (.builtin "BaseException.__getattribute__"))
  gg : PySem.W.findIn K (.ref C) "__getattr__" = some none
  noT : PySem.W.findIn K (.ref C) "thing" = some none
  hd : PySem.W.hasDictIn K C = true
  hc : PySem.W.findIn K (.ref C) "__class__" = some (some (.builtin "object.__class__"))
  hn : PySem.W.specialIn K (.builtin "object.__class__") "__get__" = some (some (.builtin "getset_descriptor.__get__"))
  ht : PySem.W.takesIn K (.builtin "object.__class__") = some true
  hm : PySem.W.mroIn K C (.type "object") = some true
theorem SlC.clsIn {K : PySem.W.Frag} {C S : Addr} (T : SlC K C S) : ∃ cd : ClassData, PySem.W.clsIn K C = some cd ∧ cd.mro = .ref C :: .ref S :: PySem.Sl.xTail ∧ cd.hasDict = true := by
  obtain ⟨nm, q, N, bs, sn, sub, ab, col, dd, k0, k1, k2, k3, k5, hC⟩ := T.cls
  refine ⟨{ name := nm, bases := bs, mro := .ref C :: .ref S :: PySem.Sl.xTail, ns := N, qualname := q, hasDict := true, slotNames := sn, subclasses := sub, abstract := ab, collection := col, hasDel := false }, ?_, rfl, rfl⟩
  unfold PySem.W.clsIn
  rw [hC]
section
variable {X : Cx} {pins : List (Addr × Obj)} {σ : St} {H : Hp} {s : Shared} {a C S dx : Addr} {y : V} {u : Value} {A : Around} {E : Value → Shared → Prop}
/-- self.thing = y, self a fresh error -/
theorem sl_store {Q : Unit → Shared → Prop} (T : SlC X.K C S) (I : Inv X pins σ H s) (e : H a = some (exo a C none)) (ry : RelV y u)
    (h : ∀ dx s', H dx = none → dx ≠ a → Inv X pins σ (upd (upd H dx (exd dx [("thing", y)])) a (exo a C (some dx))) s' → Q () s') :
    wpAny (model X.prog X.w) A (setAttr (.ref a) "thing" u) Q E s := by
  obtain ⟨cd, hcl, hmr, hdi⟩ := T.clsIn
  obtain ⟨t1, ho⟩ := exo_at I.hok e
  obtain ⟨hp, g, d, t, os⟩ := s
  refine PySem.W.set_plain I.kIn (ox := { cls := .ref C, dict := none, data := .fields #[.ref t1, .none, .none, .none, .bool false, .none] }) (od := none) ⟨ho, rfl, rfl, trivial⟩ T.sa ?_
  refine PySem.Sl.osa_sub I.kIn ho hcl hmr hdi T.noT (fun h' tk' dx k dn dne hx hn => ?_)
  have hnd : H dx = none := I.hok.fresh dn
  have nd : ∀ {b : Addr} {o : Obj}, hp.get? b = some o → b ≠ dx := fun {b o} q => Nat.ne_of_lt (Nat.lt_of_lt_of_le (Heap.lt_size q) dn)
  have na : ∀ {b : Addr}, H b = none → b ≠ a := fun {b} n z => by rw [z, e] at n; cases n
  have U : Un X.fs [] H (upd (upd H dx (exd dx [("thing", y)])) a (exo a C (some dx))) hp h' := {
    keep := fun b o q n _ _ => k b o (na n) q
    slot := fun b o q n _ _ => ⟨o.slots, k b o (na n) q⟩
    free := fun b o q n _ => by rw [upd_ne (na n), upd_ne (nd q)]; exact n
    there := fun b o q _ => by
      by_cases hb : b = a
      · rw [hb]; exact ⟨_, hx⟩
      · exact ⟨o, k b o hb q⟩
    tups := fun b xs q => by rw [upd_ne (at_ne e q exo_tup), upd_ne (ne_of_none q hnd)]; exact q
    frzs := fun b o v q => by rw [upd_ne (at_ne e q exo_frz), upd_ne (ne_of_none q hnd)]; exact q
    tbls := fun b ps q => ⟨#[], by rw [upd_ne (at_ne e q exo_tbl), upd_ne (ne_of_none q hnd), q]; simp⟩ }
  refine h dx _ hnd dne (I.un (t' := tk') U fun b o q => ?_)
  by_cases hb : b = a
  · subst hb
    rw [upd_same] at q; cases q
    exact exo_ok hx
  · rw [upd_ne hb] at q
    by_cases hd : b = dx
    · subst hd
      rw [upd_same] at q; cases q
      exact exd_ok hn (relO_put (fs := []) ry fun g => True.intro)
    · rw [upd_ne hd] at q
      refine (I.hok b o q).stay (fun c v hc z => k c v ?_ z) (fun c hc => ?_) (fun c xs hc => ?_)
      · rcases hc with hc | hc
        · rw [hc]; exact hb
        · exact at_ne e hc exo_own
      · rw [upd_ne (at_ne e hc exo_own), upd_ne (ne_of_none hc hnd)]; exact hc
      · rw [upd_ne (at_ne e hc exo_tup), upd_ne (ne_of_none hc hnd)]; exact hc
/-- the reading of self.thing = e -/
def tSto (K : PySem.W.Frag) (to te : TE) : TS := fun D σ H => te σ H fun y H1 => to σ H1 fun x H2 => ∃ a C S : Addr, x = .ref a ∧ SlC K C S ∧ H2 a = some (exo a C none) ∧
  ∀ dx, H2 dx = none → dx ≠ a → D.nx σ (upd (upd H2 dx (exd dx [("thing", y)])) a (exo a C (some dx)))
theorem ps_sto {o e : Expr} {to te : TE} {p' pos : Pos} (ho : PE X o to) (he : PE X e te) (hs : swapsWith e (some (.Attribute o "thing" p')) pos.line X.env = pure false := by rfl) :
    PS X (.Assign [.Attribute o "thing" p'] e pos) (tSto X.K to te) := by
  refine ⟨fun pins s σ H D I h => ?_⟩
  refine plainObj_wpAny_Assign_Attribute (thn (he.run pins s σ H _ I h) fun v s1 ⟨y, H1, I1, r1, q1⟩ => thn (ho.run pins s1 σ H1 _ I1 q1) fun u s2 ⟨x, H2, I2, r2, a, C, S, ex, T, ea, q⟩ => ?_) hs
  subst ex
  obtain rfl : u = Value.ref a := r2
  exact sl_store T I2 ea r1 fun dx s' n ne J => ⟨σ, _, J, q dx n ne⟩
end
/-- the promise of both __init__: the error at a, fresh, gets its dict with the thing -/
def spSet (K : PySem.W.Frag) : Sp := fun vs H Q _ => ∃ (a C S : Addr) (y : V), vs = [.ref a, y] ∧ SlC K C S ∧ H a = some (exo a C none) ∧
  ∀ dx, H dx = none → dx ≠ a → Q .non (upd (upd H dx (exd dx [("thing", y)])) a (exo a C (some dx)))
/-- SlopeError's class at S, its __init__ at fS -/
structure SlB (K : PySem.W.Frag) (mg : Str → Option Value) (S fS : Addr) : Prop where
  mgS : mg "SlopeError" = some (.ref S)
  rd : PySem.W.readsIn K S (.type "type") = true
  ga : PySem.W.specialIn K (.ref S) "__getattribute__" = some (some (.builtin "type.__getattribute__"))
  at_ : PySem.W.findCls K (.ref S) (.type "type") "__init__" = some (.val (.ref fS))
  kf : PySem.W.keepIn K (.ref fS) = true
section
variable {X : Cx} {S fS : Addr} {k : Nat} {fd : FuncData} {sp : Sp} {E : XK} {CX : CXT} {e : Expr} {es : List Expr} {ta : TA} {p1 p2 pos : Pos} {ps : List Str}
/-- SlopeError.__init__(e, ..) -/
theorem pe_slInit {pl : Sem Bool} (B : SlB X.K X.mg S fS) (F : FnOk X.prog X.w X.K X.mg X.base CX k fS fd ps sp) (hr : Room k X.A) (hb : Binds X.K fd ps []) (hx : Passes CX X E) (hg : Gl X "SlopeError") (ha : PA X (e :: es) ta)
    (hc : eval (.Call (.Attribute (.Name "SlopeError" p1) "__init__" p2) (e :: es) [] pos) X.env = (do
      let ov ← eval (.Name "SlopeError" p1) X.env
      standAt p2.atName
      let (f, first) ← holding [ov] (getMethod ov "__init__" pl)
      callWith pos f first (backTo pos (starEach (e :: es) X.env)) (backToKw pos (keywordEach [] X.env))) := by rfl)
    (he : starEach (e :: es) X.env = (false, eval e X.env) :: starEach es X.env := by rfl) (hpl : (backTo pos (starEach es X.env)).any (·.1) = false := by rfl) :
    PE X (.Call (.Attribute (.Name "SlopeError" p1) "__init__" p2) (e :: es) [] pos) (fun σ H Q => ta σ H fun vs H1 => sp vs H1 Q E) := by
  refine ⟨fun pins s σ H Q I h => ?_⟩
  refine PySem.W.methodCall_KW (pl := pl) (ld_glob I hg B.mgS ?_ (by decide)) hc
  refine PySem.W.method_cls I.kIn B.ga (PySem.W.cls_value I.kIn B.rd B.at_ (by rfl) ?_)
  show wpAny _ _ (callWith pos (Value.ref fS) [] (backTo pos (starEach (e :: es) X.env)) []) _ _ _
  refine PySem.W.callWith_K (h₀ := X.base) I.ok.mod.kin B.kf (thn (ha.run pos pins _ σ H _ (I.tok _) h) fun us s1 ⟨vs, H1, I1, r, q⟩ => ⟨I1.kIn, ?_⟩) he hpl
  exact run_fn F hr hb .nil hx I1 r (by rw [List.append_nil]; exact q)
end
end L2

namespace L2
open PySem PySem.Spec PyProof.Rows
/-- the heap with a new error at a, its dict at dx -/
def slH (H : Hp) (a C dx : Addr) (y : V) : Hp := upd (upd H dx (exd dx [("thing", y)])) a (exo a C (some dx))
theorem slH_new {H : Hp} {a C dx : Addr} {y : V} {o : HO} : upd (upd (upd H a o) dx (exd dx [("thing", y)])) a (exo a C (some dx)) = slH H a C dx y := by
  funext b
  unfold slH
  by_cases h : b = a
  · rw [h, upd_same, upd_same]
  · rw [upd_ne h, upd_ne h]
    by_cases hd : b = dx
    · rw [hd, upd_same, upd_same]
    · rw [upd_ne hd, upd_ne hd, upd_ne h]
theorem slH_a {H : Hp} {a C dx : Addr} {y : V} : slH H a C dx y a = some (exo a C (some dx)) := upd_same
theorem slH_d {H : Hp} {a C dx : Addr} {y : V} (h : dx ≠ a) : slH H a C dx y dx = some (exd dx [("thing", y)]) := (upd_ne h).trans upd_same
theorem slH_ne {H : Hp} {a C dx b : Addr} {y : V} (h1 : b ≠ a) (h2 : b ≠ dx) : slH H a C dx y b = H b := (upd_ne h1).trans (upd_ne h2)
/-- an error's class at C: its own __init__ -/
structure SlM (K : PySem.W.Frag) (C S fI : Addr) : Prop where
  T : SlC K C S
  iC : PySem.W.findIn K (.ref C) "__init__" = some (some (.ref fI))
  tI : PySem.W.typeIn K (.ref fI) = some (.type "function")
/-- how the call of the class binds in __init__ -/
def SlBnd (K : PySem.W.Frag) (fd : FuncData) (us : List Value) (kw : List (Str × Value)) (u : Value) : Prop :=
  ∀ (s : Shared) (x : Value), K.In s.heap → BindsTo s fd ⟨x :: us, kw⟩ ((["self", "thing"] : List Str).zip [x, u])
section
variable {X : Cx} {pins : List (Addr × Obj)} {σ : St} {H : Hp} {s : Shared} {C S fI : Addr} {y : V} {u : Value} {k : Nat} {fd : FuncData} {CX : CXT} {us : List Value} {kw : List (Str × Value)}
/-- what is known behind the call of the class -/
structure SlGot (X : Cx) (pins : List (Addr × Obj)) (σ : St) (H : Hp) (s : Shared) (C a dx : Addr) (y : V) (s' : Shared) : Prop where
  new : s.heap.objs.size ≤ a
  na : H a = none
  nd : H dx = none
  ne : dx ≠ a
  mid : ∃ h1 : Heap, (∀ b o, s.heap.get? b = some o → h1.get? b = some o) ∧ Un (frs X.stack) [] (upd H a (exo a C none)) (slH H a C dx y) h1 s'.heap
  hok : HOk X.prog X.w (slH H a C dx y) s'.heap
  os : s'.os = s.os
  bare : AllBare s'.gens
  inv : Inv X pins σ (slH H a C dx y) s'
theorem sl_run {Q : Value → Shared → Prop} (M : SlM X.K C S fI) (F : FnOk X.prog X.w X.K X.mg X.base CX k fI fd ["self", "thing"] (spSet X.K)) (hr : Room (k + 1) X.A) (hx : Passes CX X E0)
    (hb : SlBnd X.K fd us kw u) (hl : us.length ≤ sizeLine) (I : Inv X pins σ H s) (ry : RelV y u) (h : ∀ a dx s', SlGot X pins σ H s C a dx y s' → Q (.ref a) s') :
    wpAny (model X.prog X.w) X.A (call (.ref C) us kw) Q X.xe s := by
  obtain ⟨nm, q, N, bs, sn, sub, ab, col, dd, k0, k1, k2, k3, k5, hC⟩ := M.T.cls
  obtain ⟨hp, g, dr, tk, os⟩ := s
  have hsz : hp.objs.size ≤ hp.objs.size + 1 := Nat.le_succ _
  have hn : H (hp.objs.size + 1) = none := I.hok.fresh hsz
  have kk : ∀ b o, hp.get? b = some o → ((hp.push (PySem.W.kdv_tup us)).push (PySem.HandSPX.excO C hp.objs.size)).get? b = some o := fun b o e => Heap.get?_push_of_some _ (Heap.get?_push_of_some _ e)
  have hget : ((hp.push (PySem.W.kdv_tup us)).push (PySem.HandSPX.excO C hp.objs.size)).get? (hp.objs.size + 1) = some (PySem.HandSPX.excO C hp.objs.size) := by heap_get
  have I2 : Inv X pins σ (upd H (hp.objs.size + 1) (exo (hp.objs.size + 1) C none)) ⟨(hp.push (PySem.W.kdv_tup us)).push (PySem.HandSPX.excO C hp.objs.size), g, dr, tk, os⟩ :=
    I.laid (t' := tk) (a := hp.objs.size + 1) (o := exo (hp.objs.size + 1) C none) (h' := (hp.push (PySem.W.kdv_tup us)).push (PySem.HandSPX.excO C hp.objs.size)) kk hsz (exo_ok hget)
  have r2 : Vals [V.ref (hp.objs.size + 1), y] [Value.ref (hp.objs.size + 1), u] := .cons rfl (.cons ry .nil)
  have room : Room k (X.A.under (.builtin "type.__call__" ⟨.ref C :: us, kw⟩)) := hr.make C us kw
  have e0 := I2.env0.make C us kw
  refine wpAny_call (PySem.Sl.call_kw (fun T => PySem.Sl.tail_sub S T) (I.kIn _ _ hC) (PySem.W.looks_findIn I.kIn M.iC) (fun self => PySem.W.bind_fn I.kIn self M.tI) hl
    (codeAny_mono (F.run _ X.stack _ _ ⟨Value.ref (hp.objs.size + 1) :: us, kw⟩ [Value.ref (hp.objs.size + 1), u] [V.ref (hp.objs.size + 1), y]
      (fun v H2 => v = .non ∧ ∃ dx, H dx = none ∧ dx ≠ hp.objs.size + 1 ∧ H2 = slH H (hp.objs.size + 1) C dx y) E0 room e0 (hb _ _ I2.kIn) r2
      ⟨hp.objs.size + 1, C, S, y, rfl, M.T, upd_same, fun dx n ne => ⟨rfl, dx, by rw [upd_ne ne] at n; exact n, ne, slH_new⟩⟩) fun r s' hq => ?_))
  cases r with
  | error er => exact hx pins σ _ _ er s' I2 hq
  | ok fl =>
    cases fl with
    | ret v0 =>
      obtain ⟨v, H2, os2, bare2, un2, hok2, rv, ev, dx, nd, ne, rfl⟩ := hq
      subst ev
      refine ⟨rv, h _ dx s' ⟨hsz, hn, nd, ne, ⟨_, kk, un2⟩, hok2, os2, bare2, ?_⟩⟩
      exact I2.call' (ch := []) os2 un2 hok2 bare2 (fun b z => absurd z (by simp))
    | next => exact False.elim hq
    | brk => exact False.elim hq
    | cont => exact False.elim hq
/-- such an error, made to be raised -/
theorem SlGot.raised {Q : XK} {a dx : Addr} {s' : Shared} (M : SlM X.K C S fI) (I : Inv X pins σ H s) (G : SlGot X pins σ H s C a dx y s')
    (q : ∀ H', H' dx = some (.xd [("thing", y)]) → H' a = none → (∀ b, b ≠ a → b ≠ dx → H' b = H b) → Q (.ref C) (some dx) H') : MkP X pins σ Q (.ref a) s' := by
  obtain ⟨h1, kk, un⟩ := G.mid
  obtain ⟨hp, g, dr, tk, os⟩ := s
  obtain ⟨h2, g2, d2, t2, os'⟩ := s'
  obtain ⟨t0, GG, J, kG, ge, hoe, na⟩ := mk_end0 (d2 := d2) (t2 := t2) (d := dx) (fs := [("thing", y)]) I G.new kk un G.hok G.os G.bare slH_a (slH_d G.ne) G.nd
  exact ⟨a, _, _, ⟨GG, g2, d2, t2, os'⟩, _, .ref C, some dx, rfl, J, kG, ge, hoe, ⟨rfl, rfl⟩, rfl, rfl, na, rfl, G.bare, raises_own M.T.exC M.T.tyC,
    q _ upd_same na fun b h1 h2 => by rw [upd_ne h2, del_ne h1, slH_ne h1 h2]⟩
end
end L2

namespace L2
open PySem PySem.Spec PyProof.Rows
/-! ### C(e), C(thing=e): the error as a value, and as what is raised -/
def rNew (C : Addr) (te : TE) : TE := fun σ H Q => te σ H fun y H1 => ∀ a dx, H1 a = none → H1 dx = none → dx ≠ a → Q (.ref a) (slH H1 a C dx y)
def rAir (C : Addr) (te : TE) : St → Hp → XK → Prop := fun σ H Q => te σ H fun y H1 => ∀ a dx H', H1 a = none → H1 dx = none → dx ≠ a →
  H' dx = some (.xd [("thing", y)]) → H' a = none → (∀ b, b ≠ a → b ≠ dx → H' b = H1 b) → Q (.ref C) (some dx) H'
section
variable {X : Cx} {C S fI : Addr} {k : Nat} {fd : FuncData} {CX : CXT} {x : Str} {e : Expr} {te : TE} {p pos kp : Pos}
theorem sl_name {Q : Value → Shared → Prop} (M : SlM X.K C S fI) (F : FnOk X.prog X.w X.K X.mg X.base CX k fI fd ["self", "thing"] (spSet X.K)) (hr : Room (k + 1) X.A) (hx : Passes CX X E0)
    (hb : ∀ u, SlBnd X.K fd [u] [] u) (hg : Gl X x) (hm : X.mg x = some (.ref C)) (he : PE X e te) {pins : List (Addr × Obj)} {σ : St} {H : Hp} {s : Shared} (I : Inv X pins σ H s) {R : V → Hp → Prop} (h : te σ H R)
    (hq : ∀ y H1 a dx s1 s', Inv X pins σ H1 s1 → R y H1 → SlGot X pins σ H1 s1 C a dx y s' → Q (.ref a) s') (hdb : (x == ("__debug__" : Str)) = false := by decide)
    (hs : starEach [e] X.env = (false, eval e X.env) :: starEach [] X.env := by rfl) : wpAny (model X.prog X.w) X.A (eval (.Call (.Name x p) [e] [] pos) X.env) Q X.xe s := by
  refine wpAny_Call_Name_kw (ld_glob I hg hm ?_ hdb)
  refine PySem.W.callWith_K (h₀ := X.base) I.ok.mod.kin M.T.kC ?_ hs (by rfl)
  rw [hs]
  show wpAny _ _ (spliced ((false, eval e X.env) :: backTo pos (starEach [] X.env))) _ _ s
  refine Calls.spliced_cons (thn (he.run pins s σ H _ I h) fun u s1 ⟨y, H1, I1, r1, q1⟩ => ?_)
  refine Calls.spliced_nil ⟨I1.kIn, ?_⟩
  show wpAny _ _ (call (.ref C) [u]) _ _ _
  exact sl_run M F hr hx (hb u) (by show 1 ≤ sizeLine; rw [sizeLine_eq]; omega) I1 r1 fun a dx s' G => hq y H1 a dx s1 s' I1 q1 G
theorem sl_kw {Q : Value → Shared → Prop} (M : SlM X.K C S fI) (F : FnOk X.prog X.w X.K X.mg X.base CX k fI fd ["self", "thing"] (spSet X.K)) (hr : Room (k + 1) X.A) (hx : Passes CX X E0)
    (hb : ∀ u, SlBnd X.K fd [] [("thing", u)] u) (hg : Gl X x) (hm : X.mg x = some (.ref C)) (he : PE X e te) {pins : List (Addr × Obj)} {σ : St} {H : Hp} {s : Shared} (I : Inv X pins σ H s) {R : V → Hp → Prop} (h : te σ H R)
    (hq : ∀ y H1 a dx s1 s', Inv X pins σ H1 s1 → R y H1 → SlGot X pins σ H1 s1 C a dx y s' → Q (.ref a) s') (hdb : (x == ("__debug__" : Str)) = false := by decide)
    (hall : (backToKw pos (keywordEach [⟨some "thing", e, kp⟩] X.env)).all (·.1.isSome) = true := by rfl) (hks : (backToKw pos (keywordEach [⟨some "thing", e, kp⟩] X.env)).filterMap (·.1) = [("thing" : Str)] := by rfl)
    (hpl : ((backTo pos (starEach [] X.env)).any (·.1) || (backToKw pos (keywordEach [⟨some "thing", e, kp⟩] X.env)).any (·.1.isNone)) = false := by rfl) :
    wpAny (model X.prog X.w) X.A (eval (.Call (.Name x p) [] [⟨some "thing", e, kp⟩] pos) X.env) Q X.xe s := by
  refine wpAny_Call_Name_kw (ld_glob I hg hm ?_ hdb)
  refine PySem.W.callWith_KW0 (h₀ := X.base) I.ok.mod.kin M.T.kC hall ?_ hpl
  have hk : PK X [⟨some "thing", e, kp⟩] (tCons te tNil) := pk_cons he pk_nil
  refine thn (hk.run pos pins s σ H (fun vs H1 => match vs with | [y] => R y H1 | _ => False) I h) fun ws s1 ⟨vs, H1, I1, rz, q1⟩ => ⟨I1.kIn, ?_⟩
  match vs, rz, q1 with
  | [y], rz, q1 =>
    obtain ⟨u, rfl, ry⟩ := vals1 rz
    rw [hks]
    show wpAny _ _ (call (.ref C) [] [("thing", u)]) _ _ _
    exact sl_run M F hr hx (hb u) (Nat.zero_le _) I1 ry fun a dx s' G => hq y H1 a dx s1 s' I1 q1 G
end
end L2
namespace L2
open PySem PySem.Spec PyProof.Rows
section
variable {X : Cx} {C S fI : Addr} {k : Nat} {fd : FuncData} {CX : CXT} {x : Str} {e : Expr} {te : TE} {p pos kp : Pos}
theorem pe_sl (M : SlM X.K C S fI) (F : FnOk X.prog X.w X.K X.mg X.base CX k fI fd ["self", "thing"] (spSet X.K)) (hr : Room (k + 1) X.A) (hx : Passes CX X E0)
    (hb : ∀ u, SlBnd X.K fd [u] [] u) (hm : X.mg x = some (.ref C)) (he : PE X e te) (hg : Gl X x := by rfl) (hdb : (x == ("__debug__" : Str)) = false := by decide)
    (hs : starEach [e] X.env = (false, eval e X.env) :: starEach [] X.env := by rfl) : PE X (.Call (.Name x p) [e] [] pos) (rNew C te) :=
  ⟨fun pins s σ H Q I h => sl_name M F hr hx hb hg hm he I h (fun y H1 a dx s1 s' I1 q G => ⟨.ref a, _, G.inv, rfl, q a dx G.na G.nd G.ne⟩) hdb hs⟩
theorem pe_slK (M : SlM X.K C S fI) (F : FnOk X.prog X.w X.K X.mg X.base CX k fI fd ["self", "thing"] (spSet X.K)) (hr : Room (k + 1) X.A) (hx : Passes CX X E0)
    (hb : ∀ u, SlBnd X.K fd [] [("thing", u)] u) (hm : X.mg x = some (.ref C)) (he : PE X e te) (hg : Gl X x := by rfl) (hdb : (x == ("__debug__" : Str)) = false := by decide)
    (hall : (backToKw pos (keywordEach [⟨some "thing", e, kp⟩] X.env)).all (·.1.isSome) = true := by rfl) (hks : (backToKw pos (keywordEach [⟨some "thing", e, kp⟩] X.env)).filterMap (·.1) = [("thing" : Str)] := by rfl)
    (hpl : ((backTo pos (starEach [] X.env)).any (·.1) || (backToKw pos (keywordEach [⟨some "thing", e, kp⟩] X.env)).any (·.1.isNone)) = false := by rfl) : PE X (.Call (.Name x p) [] [⟨some "thing", e, kp⟩] pos) (rNew C te) :=
  ⟨fun pins s σ H Q I h => sl_kw M F hr hx hb hg hm he I h (fun y H1 a dx s1 s' I1 q G => ⟨.ref a, _, G.inv, rfl, q a dx G.na G.nd G.ne⟩) hdb hall hks hpl⟩
theorem pmk_sl (M : SlM X.K C S fI) (F : FnOk X.prog X.w X.K X.mg X.base CX k fI fd ["self", "thing"] (spSet X.K)) (hr : Room (k + 1) X.A) (hx : Passes CX X E0)
    (hb : ∀ u, SlBnd X.K fd [u] [] u) (hm : X.mg x = some (.ref C)) (he : PE X e te) (hg : Gl X x := by rfl) (hdb : (x == ("__debug__" : Str)) = false := by decide)
    (hs : starEach [e] X.env = (false, eval e X.env) :: starEach [] X.env := by rfl) : PMk X (.Call (.Name x p) [e] [] pos) (rAir C te) :=
  fun pins s σ H Q I h => sl_name M F hr hx hb hg hm he I h (fun y H1 a dx s1 s' I1 q G => G.raised M I1 fun H' => q a dx H' G.na G.nd G.ne) hdb hs
theorem pmk_slK (M : SlM X.K C S fI) (F : FnOk X.prog X.w X.K X.mg X.base CX k fI fd ["self", "thing"] (spSet X.K)) (hr : Room (k + 1) X.A) (hx : Passes CX X E0)
    (hb : ∀ u, SlBnd X.K fd [] [("thing", u)] u) (hm : X.mg x = some (.ref C)) (he : PE X e te) (hg : Gl X x := by rfl) (hdb : (x == ("__debug__" : Str)) = false := by decide)
    (hall : (backToKw pos (keywordEach [⟨some "thing", e, kp⟩] X.env)).all (·.1.isSome) = true := by rfl) (hks : (backToKw pos (keywordEach [⟨some "thing", e, kp⟩] X.env)).filterMap (·.1) = [("thing" : Str)] := by rfl)
    (hpl : ((backTo pos (starEach [] X.env)).any (·.1) || (backToKw pos (keywordEach [⟨some "thing", e, kp⟩] X.env)).any (·.1.isNone)) = false := by rfl) : PMk X (.Call (.Name x p) [] [⟨some "thing", e, kp⟩] pos) (rAir C te) :=
  fun pins s σ H Q I h => sl_kw M F hr hx hb hg hm he I h (fun y H1 a dx s1 s' I1 q G => G.raised M I1 fun H' => q a dx H' G.na G.nd G.ne) hdb hall hks hpl
end
/-! ### an error that stands: tracked, or pinned with its dict tracked -/
/-- at a an error of the class at C is to be read, its thing v -/
def ErrIs (X : Cx) (H : Hp) (a C : Addr) (v : V) : Prop := ∀ (pins : List (Addr × Obj)) (σ : St) (s : Shared), Inv X pins σ H s →
  ∃ (oe od : Obj) (u : Value), PySem.W.InstAt s.heap a oe C (some od) ∧ PySem.W.lookIn "thing" od = some (some u) ∧ RelV v u
theorem thing_at {h : Heap} {dx : Addr} {v : V} {mA : Str → Option Value} (hns : h.Ns1 dx mA) (r : ∀ f, RelO (List.lookup f [(("thing" : Str), v)]) (mA f)) :
    ∃ (od : Obj) (u : Value), h.get? dx = some od ∧ PySem.W.lookIn "thing" od = some (some u) ∧ RelV v u := by
  obtain ⟨od, ho, hl⟩ := lookIn_ns hns
  have l : List.lookup ("thing" : Str) [(("thing" : Str), v)] = some v := by simp [List.lookup]
  obtain ⟨u, hu, ru⟩ := RelO.some_of (v := v) (o := mA "thing") (by rw [← l]; exact r "thing")
  exact ⟨od, u, ho, by rw [hl, hu], ru⟩
theorem ErrIs.tracked {X : Cx} {H : Hp} {a C dx : Addr} {v : V} (ha : H a = some (exo a C (some dx))) (hd : H dx = some (exd dx [("thing", v)])) : ErrIs X H a C v := fun pins σ s I => by
  obtain ⟨t1, ho⟩ := exo_at I.hok ha
  obtain ⟨mA, hns, r⟩ := exd_at I.hok hd
  obtain ⟨od, u, h1, h2, h3⟩ := thing_at hns r
  exact ⟨_, od, u, ⟨ho, rfl, rfl, h1⟩, h2, h3⟩
theorem ErrIs.pinned {X : Cx} {H : Hp} {a C dx : Addr} {v : V} {oe : Obj} (hp : (a, oe) ∈ X.pn) (hz : Zc (.ref C) (some dx) oe) (hf : ∃ vs, oe.data = .fields vs) (hd : H dx = some (.xd [("thing", v)])) : ErrIs X H a C v := fun pins σ s I => by
  obtain ⟨ho, _⟩ := I.pin (a, oe) (List.mem_append_left _ hp)
  obtain ⟨mA, hns, r⟩ := (show ObjOk X.prog X.w H s.heap dx (.xd [("thing", v)]) from I.hok dx _ hd)
  obtain ⟨od, u, h1, h2, h3⟩ := thing_at hns r
  obtain ⟨vs, hv⟩ := hf
  exact ⟨oe, od, u, ⟨ho, hz.1, by unfold PySem.W.notCls; rw [hv], by rw [hz.2]; exact h1⟩, h2, h3⟩
section
variable {X : Cx} {e : Expr} {te : TE} {pos : Pos}
theorem pe_thing (he : PE X e te) (hb : attributeBase e "thing" X.env (eval e X.env) = eval e X.env := by rfl) :
    PE X (.Attribute e "thing" pos) (fun σ H Q => te σ H fun x H1 => ∃ (a C S : Addr) (v : V), x = .ref a ∧ SlC X.K C S ∧ ErrIs X H1 a C v ∧ Q v H1) := by
  refine ⟨fun pins s σ H Q I h => ?_⟩
  refine attr_of hb (thn (he.run pins s σ H _ I h) fun u s1 ⟨x, H1, I1, rx, a, C, S, v, ex, T, er, q⟩ => ?_)
  subst ex
  obtain rfl : u = Value.ref a := rx
  obtain ⟨oe, od, u, J, hl, ru⟩ := er pins σ s1 I1
  exact HandSPX.exc_get I1.kIn J T.ga T.gg T.exC (PySem.W.findObj_own T.hd T.noT rfl hl) (handed_of ru) ⟨v, H1, I1.tok _, ru, q⟩
theorem sl_kit {a C S : Addr} {v : V} {H : Hp} {pins : List (Addr × Obj)} {σ : St} {s : Shared} (T : SlC X.K C S) (er : ErrIs X H a C v) (I : Inv X pins σ H s) :
    ∃ P : Heap → Prop, PySem.W.KitX X.K (.ref a) (.ref C) P ∧ P s.heap := by
  obtain ⟨oe, od, u, J, _, _⟩ := er pins σ s I
  obtain ⟨cd, hcl, _⟩ := T.clsIn
  exact ⟨_, PySem.W.kitx_exc (by rw [hcl]; rfl) T.ga T.gg T.exC T.hc T.hn T.ht T.hm, J⟩
/-- isinstance(error, T); isinstance(error, (T1, T2, ..)) -/
theorem call_isE1 : CallR X (.builtin "isinstance") (fun xs H Q => ∃ (a C S : Addr) (v c : V) (u : Value) (b : Bool), xs = [.ref a, c] ∧ ClsV c u ∧ SlC X.K C S ∧ ErrIs X H a C v ∧ PySem.W.kitOne X.K (.ref C) u = some b ∧ Q (.bl b) H) := by
  intro pins s σ H xs us Q I r h
  obtain ⟨a, C, S, v, c, u, b, rfl, k, T, er, e, q⟩ := h
  obtain ⟨u1, u2, rfl, r1, r2⟩ := vals2 r
  have e2 := k.eq r2
  subst e2
  cases (show u1 = Value.ref a from r1)
  obtain ⟨P, Z, p⟩ := sl_kit T er I
  exact PySem.W.kia_one Z I.kIn p e (fun z => nomatch z) fun tk => ⟨.bl b, H, I.tok tk, rfl, q⟩
theorem call_isET : CallR X (.builtin "isinstance") (fun xs H Q => ∃ (a C S tp : Addr) (v : V) (cs : List V) (us : List Value) (b : Bool), xs = [.ref a, .ref tp] ∧ H tp = some (.tup cs) ∧ Paired ClsV cs us ∧ SlC X.K C S ∧ ErrIs X H a C v ∧ PySem.W.kitAny X.K (.ref C) us = some b ∧ Q (.bl b) H) := by
  intro pins s σ H xs us Q I r h
  obtain ⟨a, C, S, tp, v, cs, ws, b, rfl, hT, k, T, er, e, q⟩ := h
  obtain ⟨u1, u2, rfl, r1, r2⟩ := vals2 r
  cases (show u1 = Value.ref a from r1)
  cases (show u2 = Value.ref tp from r2)
  obtain ⟨P, Z, p⟩ := sl_kit T er I
  obtain ⟨_, its, rv, o, h1, h2, n, h3⟩ := (show ObjOk X.prog X.w H s.heap tp (.tup cs) from I.hok tp _ hT)
  have e3 := ClsV.all k rv
  subst e3
  obtain ⟨oc, od, dt, sl⟩ := o
  simp only at h2 h3
  subst h2 h3
  exact PySem.W.kia_tup Z I.kIn p h1 e (fun z => nomatch z) fun tk => ⟨.bl b, H, I.tok tk, rfl, q⟩
end
end L2

namespace L2
open PySem PySem.Spec PyProof.Rows
/-! ### the two __init__ -/
def scpS : Scope := { kind := .function, names := [(PySem.Str.ofString "self", .local), (PySem.Str.ofString "thing", .local)], isGenerator := false, isCoroutine := false, more := [] }
def scpC : Scope := { kind := .function, names := [(PySem.Str.ofString "self", .local), (PySem.Str.ofString "thing", .local), (PySem.Str.ofString "SlopeError", .globalImplicit)], isGenerator := false, isCoroutine := false, more := [] }
def argsS (p1 p2 : Pos) (ds : List Expr) : Arguments := { posonlyargs := [], args := [{ arg := "self", annotation := none, pos := p1 }, { arg := "thing", annotation := none, pos := p2 }], vararg := none, kwonlyargs := [], kw_defaults := [], kwarg := none, defaults := ds }
def bodyS (q1 q2 q3 q4 : Pos) : List Stmt := [.Assign [.Attribute (.Name "self" q1) "thing" q2] (.Name "thing" q3) q4]
def bodyC (q1 q2 q3 q4 q5 q6 : Pos) : List Stmt := [.Expr (.Call (.Attribute (.Name "SlopeError" q1) "__init__" q2) [.Name "self" q3, .Name "thing" q4] [] q5) q6]
theorem fsS : FnScope ["self", "thing"] ["self", "thing"] scpS := ⟨rfl, rfl, rfl, by decide +kernel, rfl, by decide +kernel, by decide +kernel⟩
theorem fsC : FnScope ["self", "thing"] ["self", "thing"] scpC := ⟨rfl, rfl, rfl, by decide +kernel, rfl, by decide +kernel, by decide +kernel⟩
section
variable {P : Program} {w : World} {K : PySem.W.Frag} {mg : Str → Option Value} {base : Heap} {qual : Str} {f fS S : Addr} {fd fdS : FuncData} {p1 p2 q1 q2 q3 q4 q5 q6 : Pos} {ds : List Expr}
theorem ok_slS (F : FunD K "__init__" qual (argsS p1 p2 ds) (bodyS q1 q2 q3 q4) scpS [.non] [] f fd) : FnOk P w K mg base CX0 1 f fd ["self", "thing"] (spSet K) := by
  refine F.ok fsS (fun vs H Q E h => ?_) (fun cdv A outer s H vs Q E hr h => ?_)
  · obtain ⟨a, C, S, y, rfl, _⟩ := h
    rfl
  · obtain ⟨a, C, S, y, rfl, T, ha, k⟩ := h
    exact ⟨_, pss_one (ps_sto (pv 0) (pv 1)), _, rfl, _, rfl, a, C, S, rfl, T, ha, fun dx n ne => k dx n ne⟩
theorem bnd_slS (F : FunD K "__init__" qual (argsS p1 p2 ds) (bodyS q1 q2 q3 q4) scpS [.non] [] f fd) : Binds K fd ["self", "thing"] [] := by
  obtain ⟨es, r, b⟩ := F.binds1 (ps := ["self", "thing"]) 2 1 (by simp) rfl (fun T kV doc pm an cdv ct us its h1 h2 => by
    match us, its, h1, h2 with
    | [u, v], [d], _, _ => exact ⟨_, rfl, by rfl⟩)
  have e : es = [] := by cases r; rfl
  rw [e] at b
  exact b
theorem arm_slC {env : Env} (h : (q2.endLine == q5.line) = true) :
    eval (.Call (.Attribute (.Name "SlopeError" q1) "__init__" q2) [.Name "self" q3, .Name "thing" q4] [] q5) env = (do
      let ov ← eval (.Name "SlopeError" q1) env
      standAt q2.atName
      let (f, first) ← holding [ov] (getMethod ov "__init__" (do return (← importBound (.Name "SlopeError" q1) env).getD true))
      callWith q5 f first (backTo q5 (starEach [.Name "self" q3, .Name "thing" q4] env)) (backToKw q5 (keywordEach [] env))) := by
  show (do
    let ov ← eval (.Name "SlopeError" q1) env
    standAt q2.atName
    methodCall (.Name "SlopeError" q1) "__init__" q2 q5 env ov 2 (backTo q5 (starEach [.Name "self" q3, .Name "thing" q4] env)) (backToKw q5 (keywordEach [] env))) = _
  unfold methodCall methodCallPos
  rw [h]
  rfl
theorem ok_slC (hl : (q2.endLine == q5.line) = true) (F : FunD K "__init__" qual (argsS p1 p2 []) (bodyC q1 q2 q3 q4 q5 q6) scpC [] [] f fd) (B : SlB K mg S fS) (FS : FnOk P w K mg base CX0 1 fS fdS ["self", "thing"] (spSet K)) (bS : Binds K fdS ["self", "thing"] []) :
    FnOk P w K mg base CX0 2 f fd ["self", "thing"] (spSet K) := by
  refine F.ok fsC (fun vs H Q E h => ?_) (fun cdv A outer s H vs Q E hr h => ?_)
  · obtain ⟨a, C, S, y, rfl, _⟩ := h
    rfl
  · obtain ⟨a, C, S', y, rfl, T, ha, k⟩ := h
    refine ⟨_, pss_one (ps_expr (pe_slInit (E := E0) B FS hr bS pass0 rfl (pa_cons (pv 0) (pa_cons (pv 1) pa_nil)) (arm_slC hl))), ?_⟩
    exact ⟨_, rfl, _, rfl, a, C, S', y, rfl, T, ha, fun dx n ne => k dx n ne⟩
theorem bnd_sl1 (F : FunD K "__init__" qual (argsS p1 p2 []) (bodyC q1 q2 q3 q4 q5 q6) scpC [] [] f fd) (u : Value) : SlBnd K fd [u] [] u := by
  obtain ⟨oc, od, dV, kV, doc, pm, an, cdv, ct, osl, rfl, lk, hcd, hD, hK⟩ := F.ex
  rcases hD with ⟨_, rfl⟩ | ⟨e, _⟩
  · exact fun s x X => .of_eq (by rfl)
  · exact absurd rfl e
theorem bnd_slK (F : FunD K "__init__" qual (argsS p1 p2 []) (bodyC q1 q2 q3 q4 q5 q6) scpC [] [] f fd) (u : Value) : SlBnd K fd [] [("thing", u)] u := by
  obtain ⟨oc, od, dV, kV, doc, pm, an, cdv, ct, osl, rfl, lk, hcd, hD, hK⟩ := F.ex
  rcases hD with ⟨_, rfl⟩ | ⟨e, _⟩
  · exact fun s x X => .of_eq (by first | rfl | with_unfolding_all rfl | kernel_rfl)
  · exact absurd rfl e
end
end L2

namespace L2
open PySem PySem.Spec PyProof.Rows
/-! ### try: body, except A as n: .., except B as n: .. (one name for all clauses) -/
abbrev Suite := Addr → Value → Option Addr → TS
def endsAs (i : Nat) (D : Ends) : Ends := { nx := fun σ' H' => D.nx (σ'.set i none) H', rt := D.rt, bk := fun σ' H' => D.bk (σ'.set i none) H', ct := fun σ' H' => D.ct (σ'.set i none) H' }
def wSeq (K : PySem.W.Frag) (i : Nat) (Wout : WX) (D : Ends) : List (Value × Suite) → WX
  | [] => Wout
  | (c, ts) :: r => fun cls d σ H => ∃ b, PySem.W.exmOne K cls c = some b ∧ (b = true → ∀ a, H a = none → ts a cls d (endsAs i D) (σ.set i (some (.ref a))) H) ∧ (b = false → wSeq K i Wout D r cls d σ H)
inductive SeqOk (X : Cx) (n : Str) : List ExceptHandler → List (Value × Suite) → Prop
  | nil : SeqOk X n [] []
  | cons {x : Str} {c : Value} {ts : Suite} {b0 : Stmt} {suite : List Stmt} {np hp : Pos} {hds : List ExceptHandler} {l : List (Value × Suite)} (named : Names X x c)
      (does : ∀ (a : Addr) (oe : Obj) (cls : Value) (d : Option Addr) (pn : List (Addr × Obj)), Zc cls d oe → (∃ vs, oe.data = .fields vs) → PSs (X.suite a ((a, oe) :: pn)) (b0 :: suite) (ts a cls d)) (r : SeqOk X n hds l) :
      SeqOk X n (.ExceptHandler (some (.Name x np)) (some n) (b0 :: suite) hp :: hds) ((c, ts) :: l)
section
variable {X : Cx} {n : Str} {i : Nat} {body : List Stmt} {h0 : ExceptHandler} {hds : List ExceptHandler} {l : List (Value × Suite)} {pos : Pos} {tb : WX → TS} {Wout : WX}
theorem ps_try_seq (sta : X.stack = X.env :: X.outer) (own : X.env.frame = some X.env.locals) (nod : X.N.Nodup) (slot : X.N[i]? = some n) (loc : X.env.kindOf n = some .local) (tk : Takes X Wout)
    (hb : ∀ (W : WX) (pn : List (Addr × Obj)) (xe : Value → Shared → Prop), Takes (X.tr pn xe) W → PassesOwn (model X.prog X.w) X.A X.env xe → PSs (X.tr pn xe) body (tb W))
    (hh : SeqOk X n (h0 :: hds) l) : PS X (.Try body (h0 :: hds) [] [] pos) (fun D σ H => tb (wSeq X.K i Wout D l) D σ H) := by
  refine ⟨fun pins s σ H D I h => ?_⟩
  have fine := I.ok
  have frs0 : X.A.frames = some (X.env :: X.outer) := by rw [fine.frames, sta]
  refine wpAny_Try_except ?_
  refine wpAny_mono ((hb (wSeq X.K i Wout D l) (X.pn ++ pins) (fun e t1 => wpAny (model X.prog X.w) X.A (noteFrame e X.env) (fun _ t2 => wpAny (model X.prog X.w) X.A (setFlight e none)
    (fun _ t3 => wpAny (model X.prog X.w) X.A (handleBy e X.env (h0 :: hds)) (SP X pins D) X.xe t3) X.xe t2) X.xe t1) (fun u s' air => ?_) PassesOwn.looking).run [] s σ H D (I.toTry _) h) (fun f s1 got => ?_) (fun e s1 he => he)
  · obtain ⟨a, B, sI, pins', σ', H', cls, d, rfl, J', nb, up, sky, na, os, ag, wish⟩ := air
    have J : Inv X pins σ' H' sI := J'.ofTry fine
    have sky1 : Sky B (X.env :: X.outer) a (Zc cls d) X.env.locals s'.heap := by rw [← sta]; exact sky
    show wpAny (model X.prog X.w) X.A (noteFrame (.ref a) X.env) _ _ _
    refine Sky.land Zc.steady frs0 own sky1 fun k3 fl3 up3 => ?_
    have J3 : Inv X pins σ' H' { s' with heap := k3 } := J.landed nb fl3.1 (up.trans up3) os ag
    obtain ⟨oe3, vs3, he3, hz3, hd3⟩ := fl3.there
    have off : a ∉ frs (X.env :: X.outer) := fun hm => by
      obtain ⟨_, o', e', nof⟩ := fl3.2.2.1.mem hm
      rw [he3] at e'; cases e'
      exact nof _ hd3
    have offL : a ≠ X.env.locals := fun z => off (List.mem_filterMap.mpr ⟨X.env, List.mem_cons_self, by rw [own, z]⟩)
    have offF : a ∉ X.fs := fun hm => by
      obtain ⟨v, hv, q⟩ := List.mem_filterMap.mp hm
      exact off (List.mem_filterMap.mpr ⟨v, List.mem_cons_of_mem _ hv, q⟩)
    have S3 := J3.suite he3 hd3 na offL offF
    have walk : ∀ {hds' : List ExceptHandler} {l' : List (Value × Suite)}, SeqOk X n hds' l' → wSeq X.K i Wout D l' cls d σ' H' →
        wpAny (model X.prog X.w) X.A (handleBy (.ref a) X.env hds') (SP X pins D) X.xe { s' with heap := k3 } := by
      intro hds' l' hk
      induction hk with
      | nil =>
        intro wi
        refine wpAny_handleBy_nil ?_
        obtain ⟨z1, z2, z3, oe, vs, T, oT, ts', he, hz, hd, h1, hr⟩ := id fl3
        unfold PySem.passOn
        refine wpAny_bind (wpAny_field he hd h1 ?_); rw [if_neg (show ¬ ((Value.ref T == Value.none) = true) from by simp)]
        have fin : wpAny (model X.prog X.w) X.A (setFlight (.ref a) X.env.frame) (fun _ s4 => wpAny (model X.prog X.w) X.A (throw (.ref a) : Sem Flow) (SP X pins D) X.xe s4) X.xe { s' with heap := k3 } := by
          rw [own]
          refine HandSPX.setFlight_upZ fl3 fun k4 hk4 up4 => wpAny_throw (tk _ _ ?_)
          exact ⟨a, B, sI, pins, σ', H', cls, d, rfl, J, nb, (up.trans up3).trans up4, .inr (.inr (by rw [sta]; exact hk4)), na, os, ag, wi⟩
        first | exact wpAny_bind (wpAny_pure (wpAny_bind fin)) | exact wpAny_bind fin
      | @cons x c ts b0 suite np hp hds2 l2 named does r ih =>
        intro wi
        obtain ⟨b, eb, yes, no⟩ := wi
        refine wpAny_handleBy_cons (codeAny_handlers_test ?_) (by intro q; cases q)
        have lt : PySem.W.Looks (model X.prog X.w) k3 (typeOf (.ref a)) cls := fun A Q E s k q => wpAny_typeOf_ref (k _ _ he3) (by rw [hz3.1]; exact q)
        have lm := PySem.W.exm_one (M := model X.prog X.w) (J3.kIn) lt eb
        have names : ∀ {Q : Value → Shared → Prop} {E : Value → Shared → Prop}, Q c { s' with heap := k3 } → wpAny (model X.prog X.w) (X.A.mark (some (.ref a))) (eval (.Name x np) X.env) Q E { s' with heap := k3 } := fun {Q E} q => by
          obtain ⟨hg, nd, hm | ⟨hm, hv, hnn⟩⟩ := named
          · exact ld_glob (X := X.suite a ((a, oe3) :: (X.pn ++ pins))) S3 hg hm q nd
          · exact ld_blt (X := X.suite a ((a, oe3) :: (X.pn ++ pins))) S3 hg hm hv q hnn nd
        refine names (lm.here ?_)
        cases b with
        | true =>
          refine codeAny_handlers_suite_as ?_
          refine HandSPX.lands_againZ fl3 fun k4 fl4 up4 => ?_
          have J4 : Inv X pins σ' H' { s' with heap := k4 } := J.landed nb fl4.1 ((up.trans up3).trans up4) os ag
          obtain ⟨oe4, vs4, he4, hz4, hd4⟩ := fl4.there
          have S4 := J4.suite he4 hd4 na offL offF
          refine store_ok (X := X.suite a ((a, oe4) :: (X.pn ++ pins))) (v := .ref a) S4 nod slot (.inl loc) rfl (fun s5 S5 => ?_) (.inr loc)
          refine wpAny_mono ((does a oe4 cls d (X.pn ++ pins) hz4 ⟨_, hd4⟩).run [] s5 _ H' _ S5 (yes rfl a na)) (fun f s6 got => ?_) (fun _ _ z => False.elim z)
          have close : ∀ {σ6 : St} {H6 : Hp} {Q : Shared → Prop}, Inv (X.suite a ((a, oe4) :: (X.pn ++ pins))) [] σ6 H6 s6 → (∀ s7, Inv X pins (σ6.set i none) H6 s7 → Q s7) →
              wpAny (model X.prog X.w) X.A (do bindName X.env n .none; unbindBehindTheSuite X.env n hp) (fun _ s7 => Q s7) X.xe s6 := fun {σ6 H6 Q} S6 hq => gone_ok (S6.unsuite fine) nod slot loc hq
          cases f with
          | next => obtain ⟨σ6, H6, S6, q6⟩ := got; exact close S6 fun s7 J7 => ⟨_, _, J7, q6⟩
          | brk => obtain ⟨σ6, H6, S6, q6⟩ := got; exact close S6 fun s7 J7 => ⟨_, _, J7, q6⟩
          | cont => obtain ⟨σ6, H6, S6, q6⟩ := got; exact close S6 fun s7 J7 => ⟨_, _, J7, q6⟩
          | ret u => obtain ⟨v6, σ6, H6, S6, r6, q6⟩ := got; exact close S6 fun s7 J7 => ⟨_, _, _, J7, r6, q6⟩
        | false =>
          show wpAny _ X.A (handleBy (.ref a) X.env hds2) _ _ _
          exact ih (no rfl)
    exact walk hh wish
  · cases f with
    | next => obtain ⟨σ', H', J', q⟩ := got; exact wpAny_execs_nil ⟨σ', H', J'.ofTry fine, q⟩
    | brk => obtain ⟨σ', H', J', q⟩ := got; exact ⟨σ', H', J'.ofTry fine, q⟩
    | cont => obtain ⟨σ', H', J', q⟩ := got; exact ⟨σ', H', J'.ofTry fine, q⟩
    | ret u => obtain ⟨v, σ', H', J', r, q⟩ := got; exact ⟨v, σ', H', J'.ofTry fine, r, q⟩
end
/-! ### a def called within an except suite (nothing is raised there) -/
structure FnW (P : Program) (w : World) (K : PySem.W.Frag) (mg : Str → Option Value) (base : Heap) (k : Nat) (f : Addr) (fd : FuncData) (ps : List Str) (p : Addr × Obj) (sp : Sp) : Prop where
  len : ∀ vs H Q E, sp vs H Q E → vs.length = ps.length
  run : ∀ (A : Around) (outer : List Env) (s : Shared) (H : Hp) (args : Args) (us : List Value) (vs : List V) (Q : VK), L2H.RoomH k A → L2H.PinOk outer H s p → Env0 P w K mg base A outer s H → BindsTo s fd args (ps.zip us) → Vals vs us → sp vs H Q E0 →
    codeAny (model P w) A (.call (.ref f) args) (CR CX0 outer P w H s Q E0) s
theorem fn_warm {P : Program} {w : World} {K : PySem.W.Frag} {mg : Str → Option Value} {base : Heap} {k : Nat} {f : Addr} {name qual : Str} {st : Stmt} {fd : FuncData} {N ps : List Str} {p : Addr × Obj} {sp : Sp} (F : Fun K name qual st f fd) (S : FnScope N ps (defScope st))
    (len : ∀ vs H Q E, sp vs H Q E → vs.length = ps.length)
    (hbody : ∀ (cdv : Value) (A : Around) (outer : List Env) (s : Shared) (H : Hp) (vs : List V) (Q : VK), L2H.RoomH k (A.deeper (envOfC qual (defScope st) s.heap.objs.size f cdv)) → sp vs H Q E0 →
      ∃ t, PSs (L2H.cxH CX0 P w K mg base N qual (defScope st) f cdv A outer s H E0 p) (defBody st) t ∧ t { nx := fun _ H' => Q .non H', rt := Q } (L2.start N vs) H) :
    FnW P w K mg base (k + 1) f fd ps p sp := by
  obtain ⟨oc, od, kV, doc, pm, an, cdv, ct, osl, rfl, lk, hcd⟩ := F.ex
  refine ⟨len, fun A outer s H args us vs Q hr hpin e0 hb r hsp => ?_⟩
  have kin : K.In s.heap := e0.mod.kin.keeps fun b o e => (e0.bs b o e).1
  have lim : s.heap.NoLimit := e0.mod.nolimit.keeps fun b o e => (e0.bs b o e).1
  have kinds : ∀ y ∈ ps.zip us, (defScope st).names.lookup y.1 = some .local ∨ ((defScope st).names.lookup y.1 = some .cell ∧ ((cellsFrom (s.heap.objs.size + 1) (defScope st).names []).lookup y.1).isSome = true) := fun ⟨m, v⟩ hy =>
    (S.par m (List.of_mem_zip hy).1).elim .inl fun q => .inr ⟨q, PySem.W.cellsFrom_some _ _ _ (.inl q)⟩
  refine codeAny_call_function hr.depth (kin _ _ lk) rfl S.co S.gen rfl (PySem.W.codeRec_of kin hcd) (hb _ _ _ _ ?_)
  refine wpAny_newFunctionEnv_cells S.kind kinds fun env he s1 x => ?_
  subst he
  refine ⟨lim.keeps x.toInCall.keep, codeAny_func ?_⟩
  obtain ⟨t, ht, hq⟩ := hbody cdv A outer s H vs Q (hr.deeper _) hsp
  have I : Inv (L2H.cxH CX0 P w K mg base N qual (defScope st) f cdv A outer s H E0 p) [] (L2.start N vs) H s1 := L2H.inv_startH S hpin e0 (len _ _ _ _ hsp) r x
  refine wpAny_mono (ht.run [] s1 (L2.start N vs) H _ I hq) (fun fl s' got => ?_) fun e s' z => z
  cases fl with
  | ret u => obtain ⟨v, σ', H', J, rv, q⟩ := got; exact ⟨v, H', J.os, J.bare, J.base, J.hok, rv, q⟩
  | next => obtain ⟨σ', H', J, q⟩ := got; exact ⟨V.non, H', J.os, J.bare, J.base, J.hok, (rfl : Value.none = Value.none), q⟩
  | brk => obtain ⟨_, _, _, q⟩ := got; exact False.elim q
  | cont => obtain ⟨_, _, _, q⟩ := got; exact False.elim q
section
variable {X : Cx} {k : Nat} {f : Addr} {fd : FuncData} {ps : List Str} {sp : Sp} {x : Str} {q pos : Pos} {e : Expr} {es : List Expr} {t : TA} {p : Addr × Obj}
theorem pe_warm (F : FnW X.prog X.w X.K X.mg X.base k f fd ps p sp) (hr : L2H.RoomH k X.A) (hp : p ∈ X.pn) (hm : X.mg x = some (.ref f)) (hk : PySem.W.keepIn X.K (.ref f) = true) (hb : Binds X.K fd ps []) (ha : PA X (e :: es) t) (hg : Gl X x := by rfl)
    (hdb : (x == ("__debug__" : Str)) = false := by decide) (he : starEach (e :: es) X.env = (false, eval e X.env) :: starEach es X.env := by rfl) (hpl : (backTo pos (starEach es X.env)).any (·.1) = false := by rfl) :
    PE X (.Call (.Name x q) (e :: es) [] pos) (fun σ H Q => t σ H fun vs H1 => sp vs H1 Q E0) := by
  refine ⟨fun pins s σ H Q I h => ?_⟩
  refine wpAny_Call_Name_kw (ld_glob I hg hm ?_ hdb)
  refine PySem.W.callWith_K (h₀ := X.base) I.ok.mod.kin hk (thn (ha.run pos pins s σ H _ I h) fun us s1 ⟨vs, H1, I1, r, qq⟩ => ⟨I1.kIn, ?_⟩) he hpl
  have hl : us.length = ps.length := by rw [← r.length]; exact F.len _ _ _ _ qq
  have bb := hb s1 us I1.kIn (by rw [List.append_nil]; exact hl)
  rw [List.append_nil] at bb
  have pin := I1.pin p (List.mem_append_left _ hp)
  have pok : L2H.PinOk X.stack H1 s1 p := ⟨pin.1, pin.2.1, fun hm => (List.mem_cons.mp (I1.stkSub p.1 hm)).elim pin.2.2.1 pin.2.2.2.1, pin.2.2.2.2⟩
  refine wpAny_call (codeAny_mono (F.run X.A X.stack s1 H1 ⟨us, []⟩ us vs Q hr pok I1.env0 bb r qq) fun r s' hq => ?_)
  cases r with
  | error e => exact False.elim hq
  | ok fl =>
    cases fl with
    | ret u => exact I1.after hq
    | next => exact False.elim hq
    | brk => exact False.elim hq
    | cont => exact False.elim hq
end
end L2

namespace PySem
open Sem (wp)
/-! enumerate(v) with one argument, v by how its iterator begins -/
theorem meets_enum_one {v : Value} {o : Obj} {H : Heap → Prop} (B : Begins v o H) :
    Meets (Builtin.«enumerate.__new__» ⟨[.type "enumerate", v], []⟩) (fun _ R s => H s.heap ∧
      R (.ok (.ret (.ref (s.heap.push o).objs.size))) { s with heap := (s.heap.push o).push { cls := .type "enumerate", data := .fields #[.none, .bool false, .ref s.heap.objs.size, rawInt 0, .none, .none] } }) :=
  .of_wp fun prog w A R s h => by
    obtain ⟨hp, g, d, tk, os⟩ := s
    obtain ⟨h1, h⟩ := h
    have sub1 := sub_enumerate
    have its : ∀ {A' : Around} {E : Value → Shared → Prop} {Q : Value → Shared → Prop}, Q (.ref hp.objs.size) ⟨hp.push o, g, d, tk, os⟩ → wpAny (model prog w) A' (pyIter v) Q E ⟨hp, g, d, tk, os⟩ :=
      fun q => B.iter prog w _ _ ⟨hp, g, d, tk, os⟩ _ h1 q
    wp_walk using its
    refine wpAny_stack_any fun st => wpAny_pure ?_
    split
    · rename_i c _ _ _ _ _
      cases (c == Value.type "enumerate") <;> (wp_walk using its; exact ⟨_, rfl, h⟩)
    · wp_walk using its
      exact ⟨_, rfl, h⟩
theorem call_enum_one {prog : Program} {w : World} {A : Around} {E : Value → Shared → Prop} {s : Shared} {v : Value} {o : Obj} {H : Heap → Prop} {Q : Value → Shared → Prop} (B : Begins v o H) (h1 : H s.heap)
    (h : ∀ h', IsEnum h' (s.heap.objs.size + 1) s.heap.objs.size 0 .none → h'.get? s.heap.objs.size = some o → (∀ b u, s.heap.get? b = some u → h'.get? b = some u) → Q (.ref (s.heap.objs.size + 1)) { s with heap := h' }) :
    wpAny (model prog w) A (call (.type "enumerate") [v]) Q E s := by
  refine callType_new F.called_enumerate (by decide) (F.typeCall_enumerate_1 _) (F.newCall_enumerate_1 _) (fun obj => F.args_object_init_2 obj _) F.entry_enumerate_new (meets_enum_one B) ⟨h1, ?_⟩
  have hz : (s.heap.push o).objs.size = s.heap.objs.size + 1 := Heap.size_push ..
  show _ ∧ _
  rw [hz]
  have he : IsEnum ((s.heap.push o).push { cls := .type "enumerate", data := .fields #[.none, .bool false, .ref s.heap.objs.size, rawInt 0, .none, .none] }) (s.heap.objs.size + 1) s.heap.objs.size 0 .none := by
    have z := Heap.get?_push_size (s.heap.push o) (o := { cls := .type "enumerate", data := .fields #[.none, .bool false, .ref s.heap.objs.size, rawInt 0, .none, .none] }) rfl
    rw [hz] at z; exact z
  exact ⟨⟨_, he, rfl⟩, h _ he (Heap.get?_push_of_some _ (Heap.get?_push_size _ B.free)) fun b u x => Heap.get?_push_of_some _ (Heap.get?_push_of_some _ x)⟩
end PySem
namespace L2
open PySem PySem.Spec PyProof.Rows
/-- the tuple at a, each item in a new pair with its place -/
def ItT (K : PySem.W.Frag) (a : Addr) : It :=
  ⟨fun i H => ∃ (xs : List V) (x : V), SqT K H a xs ∧ xs[i]? = some x, fun i H v H' => ∃ T x, v = .ref T ∧ H T = none ∧ H' = upd H T (.tup [.int (i : Nat), x]) ∧ ∀ xs, SqT K H a xs → xs[i]? = some x, fun i H => ∃ xs : List V, SqT K H a xs ∧ xs.length = i⟩
theorem turn_pairs {P : Program} {w : World} {K : PySem.W.Frag} {elts : List Expr} {kk : Nat} {tpos : Pos} (a e it : Addr) (hea : e ≠ a) (hia : a ≠ it) :
    Turn P w K (.Tuple elts kk tpos) (ItT K a) [e, it] e (fun i h => (∃ old, IsEnum h e it ((i : Nat) : Int) old) ∧ h.IsTupleIter it a i ∧ e ≠ it) where
  mem := by simp
  obj := fun i h st b hb => by
    obtain ⟨⟨old, he⟩, ⟨o, ho, hc, hd⟩, _⟩ := st
    have eb : b = e ∨ b = it := by simpa using hb
    rcases eb with z | z
    · rw [z]; exact ⟨_, he, fun v q => nomatch q⟩
    · rw [z]; exact ⟨o, ho, fun v q => by rw [hd] at q; cases q⟩
  keep := fun i h h' st k => let ⟨⟨old, he⟩, ⟨o, ho, hc, hd⟩, hne⟩ := st; ⟨⟨old, k e (by simp) _ he⟩, ⟨o, k it (by simp) _ ho, hc, hd⟩, hne⟩
  item := by
    intro X hP hw hK hc i pins s σ H E I hf st hg
    subst hP hw hK
    obtain ⟨⟨old, he⟩, hit, hne⟩ := st
    obtain ⟨xs, x, hq, hx⟩ := hg
    obtain ⟨its, rv, p, hz⟩ := I.tuple hq
    obtain ⟨u, hu, ru⟩ := rv.get hx
    have hel : e < s.heap.objs.size := Heap.lt_size he
    have hil : it < s.heap.objs.size := by obtain ⟨_, q, _⟩ := hit; exact Heap.lt_size q
    have D := Draws.tuple (prog := X.prog) (w := X.w) (A := X.A.in1) (I.ok.hd hc) it a hia its.toArray
    have hlt : i < its.toArray.size := by
      have := (List.getElem?_eq_some_iff.mp hu).1
      simpa using this
    refine wpAny_pyNext_enum_itemD D he ⟨hit, p⟩ hlt hne (by simp [hne, hea]) fun x1 h' tk hx1 ho hit' hT hsz hk => ?_
    have ex : x1 = u := by
      have q : its.toArray[i]? = some x1 := hx1
      have q2 : its.toArray[i]? = some u := by simpa using hu
      rw [q] at q2
      exact Option.some.inj q2
    subst ex
    refine ⟨_, rfl, wpAny_letOwnedTupleGo_enum (s := { s with heap := h', toks := tk + 1 }) ho fun h'' he' sb => ?_⟩
    have hT2 : h''.get? s.heap.objs.size = some { cls := .type "tuple", data := .seq #[.int i tk, x1] } := (sb.2 _ (Nat.ne_of_gt hel)).trans hT
    have fresh : ObjOk X.prog X.w (upd H s.heap.objs.size (.tup [.int (i : Nat), x])) h'' s.heap.objs.size (.tup [.int (i : Nat), x]) :=
      ⟨by show 2 ≤ sizeLine; decide, [.int i tk, x1], .cons ⟨_, rfl⟩ (.cons ru .nil), ⟨_, hT2, rfl, _, rfl⟩⟩
    have I1 : Inv X pins σ (upd H s.heap.objs.size (.tup [.int (i : Nat), x])) { s with heap := h'', toks := tk + 1 } :=
      I.turnedNew (ch := [e, it]) (fun b ob hb q => (sb.2 b (fun z => hb (by simp [z]))).trans (hk b ob (fun z => hb (by simp [z])) (fun z => hb (by simp [z])) q)) hf (Nat.le_refl _) fresh
    refine ⟨.ref s.heap.objs.size, _, I1, rfl, ⟨_, x, rfl, I.hok.fresh (Nat.le_refl _), rfl, fun ys hy => by rw [I.tuple_inj hy hq]; exact hx⟩, ⟨⟨x1, ?_⟩, ?_, hne⟩, fun b hb => ?_⟩
    · have e1 : ((i + 1 : Nat) : Int) = (i : Int) + 1 := by omega
      rw [e1]; exact he'
    · obtain ⟨⟨o, ho2, hc2, hd2⟩, _⟩ := hit'
      exact ⟨o, (sb.2 it (Ne.symm hne)).trans ho2, hc2, hd2⟩
    · have hb' : b < s.heap.objs.size := by
        have eb : b = e ∨ b = it := by simpa using hb
        rcases eb with z | z
        · rw [z]; exact hel
        · rw [z]; exact hil
      rw [upd_ne (Nat.ne_of_lt hb')]
      exact (hf b hb).1
  done := by
    intro X hP hw hK hc i pins s σ H E I hf st hg
    subst hP hw hK
    obtain ⟨⟨old, he⟩, hit, hne⟩ := st
    obtain ⟨xs, hq, hx⟩ := hg
    obtain ⟨its, rv, p, hz⟩ := I.tuple hq
    obtain ⟨f0, f1, f2, f3, f4, f5⟩ := hf it (by simp)
    have D := Draws.tuple (prog := X.prog) (w := X.w) (A := X.A.in1) (I.ok.hd hc) it a hia its.toArray
    have hn : i = its.toArray.size := by
      have := rv.length
      simp only [List.size_toArray]
      omega
    subst hn
    exact wpAny_pyNext_enum_endD D he ⟨hit, p⟩ fun h' eb => ⟨rfl, I.turned (t' := s.toks) (fun b o hb q => eb b o hb q) f0 f1 f3 f4 f5⟩
  self := fun A i s Q E st h => let ⟨⟨_, he⟩, _⟩ := st; wpAny_pyIter_enum he h
/-- enumerate(e), e a list or a tuple -/
def iEnumA (K : PySem.W.Frag) (ta : TA) : TI := fun σ H R => ta σ H fun vs H1 => ∃ a xs, vs = [.ref a] ∧ ((SqL K H1 a xs ∧ R (Ite K a) H1) ∨ (SqT K H1 a xs ∧ R (ItT K a) H1))
theorem pi_enumA {X : Cx} {e : Expr} {ta : TA} {p pos tpos : Pos} {elts : List Expr} {kk : Nat} (hg : Gl X "enumerate") (hm : X.mg "enumerate" = none) (ha : PA X [e] ta) (hs : starEach [e] X.env = [(false, eval e X.env)] := by rfl) :
    PI X (.Tuple elts kk tpos) (.Call (.Name "enumerate" p) [e] [] pos) (iEnumA X.K ta) := by
  refine ⟨fun pins s σ H R I h => ?_⟩
  refine Call_ (ld_blt I hg hm boot_enumerate (PyProof.Rows.callWith_type1 (thn (ha.run pos pins s σ H _ I h) fun us s1 ⟨vs, H1, I1, r1, q1⟩ => ?_) hs rfl))
  obtain ⟨a, xs, ex, q⟩ := q1
  subst ex
  obtain ⟨u, rfl, ru⟩ := vals1 r1
  cases (show u = Value.ref a from ru)
  have place : ∀ b ∈ [s1.heap.objs.size + 1, s1.heap.objs.size], FpOk X pins H1 b → True := fun _ _ _ => trivial
  rcases q with ⟨hq, q⟩ | ⟨hq, q⟩
  · obtain ⟨its, rv, p', hz⟩ := I1.list hq
    refine call_enumerate_list p'.isList fun h' he hit hsz hk => wpAny_pyIter_enum he ?_
    have I2 : Inv X pins σ H1 { s1 with heap := h' } := I1.kept (t' := s1.toks) hk
    refine ⟨s1.heap.objs.size + 1, [s1.heap.objs.size + 1, s1.heap.objs.size], _, _, H1, rfl, I2, turn_enum a (s1.heap.objs.size + 1) s1.heap.objs.size, ⟨⟨.none, he⟩, hit, Nat.succ_ne_self _⟩, fun b hb => ?_, q⟩
    have eb : b = s1.heap.objs.size + 1 ∨ b = s1.heap.objs.size := by simpa using hb
    have hle : s1.heap.objs.size ≤ b := eb.elim (fun z => z ▸ Nat.le_add_right _ _) (fun z => z ▸ Nat.le_refl _)
    exact I1.fpOk hle (I1.hok.fresh hle)
  · obtain ⟨its, rv, p', hz⟩ := I1.tuple hq
    have hlt : a < s1.heap.objs.size := p'.lt
    refine call_enum_one (begins_tuple a its.toArray) p' fun h' he hit hk => wpAny_pyIter_enum he ?_
    have I2 : Inv X pins σ H1 { s1 with heap := h' } := I1.kept (t' := s1.toks) hk
    refine ⟨s1.heap.objs.size + 1, [s1.heap.objs.size + 1, s1.heap.objs.size], _, _, H1, rfl, I2, turn_pairs a (s1.heap.objs.size + 1) s1.heap.objs.size (Nat.ne_of_gt (Nat.lt_succ_of_lt hlt)) (Nat.ne_of_lt hlt), ⟨⟨.none, he⟩, ⟨_, hit, rfl, rfl⟩, Nat.succ_ne_self _⟩, fun b hb => ?_, q⟩
    have eb : b = s1.heap.objs.size + 1 ∨ b = s1.heap.objs.size := by simpa using hb
    have hle : s1.heap.objs.size ≤ b := eb.elim (fun z => z ▸ Nat.le_add_right _ _) (fun z => z ▸ Nat.le_refl _)
    exact I1.fpOk hle (I1.hok.fresh hle)
end L2

namespace L2
open PySem PySem.Spec PyProof.Rows
/-! ### defs that may show data: called where no text is being made (guards) -/
abbrev Idle (A : Around) : Prop := A.guards = some []
theorem Idle.deeper {A : Around} (g : Idle A) (env : Env) : Idle (A.deeper env) := by
  show A.guards = some []
  exact g
structure FnG (P : Program) (w : World) (K : PySem.W.Frag) (mg : Str → Option Value) (base : Heap) (k : Nat) (f : Addr) (fd : FuncData) (ps : List Str) (sp : Sp) : Prop where
  len : ∀ vs H Q E, sp vs H Q E → vs.length = ps.length
  run : ∀ (A : Around) (outer : List Env) (s : Shared) (H : Hp) (args : Args) (us : List Value) (vs : List V) (Q : VK), Room k A → Idle A → Env0 P w K mg base A outer s H → BindsTo s fd args (ps.zip us) → Vals vs us → sp vs H Q E0 →
    codeAny (model P w) A (.call (.ref f) args) (CR CX0 outer P w H s Q E0) s
theorem fn_idle {P : Program} {w : World} {K : PySem.W.Frag} {mg : Str → Option Value} {base : Heap} {k : Nat} {f : Addr} {name qual : Str} {st : Stmt} {fd : FuncData} {N ps : List Str} {sp : Sp} (F : Fun K name qual st f fd) (S : FnScope N ps (defScope st))
    (len : ∀ vs H Q E, sp vs H Q E → vs.length = ps.length)
    (hbody : ∀ (cdv : Value) (A : Around) (outer : List Env) (s : Shared) (H : Hp) (vs : List V) (Q : VK), Room k (A.deeper (envOfC qual (defScope st) s.heap.objs.size f cdv)) → Idle (A.deeper (envOfC qual (defScope st) s.heap.objs.size f cdv)) → sp vs H Q E0 →
      ∃ t, PSs (cxOf CX0 P w K mg base N qual (defScope st) f cdv A outer s H E0).nox (defBody st) t ∧ t { nx := fun _ H' => Q .non H', rt := Q } (L2.start N vs) H) :
    FnG P w K mg base (k + 1) f fd ps sp := by
  obtain ⟨oc, od, kV, doc, pm, an, cdv, ct, osl, rfl, lk, hcd⟩ := F.ex
  refine ⟨len, fun A outer s H args us vs Q hr hgd e0 hb r hsp => ?_⟩
  have kin : K.In s.heap := e0.mod.kin.keeps fun b o e => (e0.bs b o e).1
  have lim : s.heap.NoLimit := e0.mod.nolimit.keeps fun b o e => (e0.bs b o e).1
  have kinds : ∀ y ∈ ps.zip us, (defScope st).names.lookup y.1 = some .local ∨ ((defScope st).names.lookup y.1 = some .cell ∧ ((cellsFrom (s.heap.objs.size + 1) (defScope st).names []).lookup y.1).isSome = true) := fun ⟨m, v⟩ hy =>
    (S.par m (List.of_mem_zip hy).1).elim .inl fun q => .inr ⟨q, PySem.W.cellsFrom_some _ _ _ (.inl q)⟩
  refine codeAny_call_function hr.depth (kin _ _ lk) rfl S.co S.gen rfl (PySem.W.codeRec_of kin hcd) (hb _ _ _ _ ?_)
  refine wpAny_newFunctionEnv_cells S.kind kinds fun env he s1 x => ?_
  subst he
  refine ⟨lim.keeps x.toInCall.keep, codeAny_func ?_⟩
  obtain ⟨t, ht, hq⟩ := hbody cdv A outer s H vs Q (hr.deeper _) (hgd.deeper _) hsp
  have I : Inv (cxOf CX0 P w K mg base N qual (defScope st) f cdv A outer s H E0) [] (L2.start N vs) H s1 := inv_start S hr.hd e0 (len _ _ _ _ hsp) r x
  refine wpAny_mono (ht.nox.run [] s1 (L2.start N vs) H _ I hq) (fun fl s' got => ?_) fun e s' z => z
  cases fl with
  | ret u => obtain ⟨v, σ', H', J, rv, q⟩ := got; exact ⟨v, H', J.os, J.bare, J.base, J.hok, rv, q⟩
  | next => obtain ⟨σ', H', J, q⟩ := got; exact ⟨V.non, H', J.os, J.bare, J.base, J.hok, (rfl : Value.none = Value.none), q⟩
  | brk => obtain ⟨_, _, _, q⟩ := got; exact False.elim q
  | cont => obtain ⟨_, _, _, q⟩ := got; exact False.elim q
section
variable {X : Cx} {k : Nat} {f : Addr} {fd : FuncData} {ps : List Str} {sp : Sp} {x : Str} {q pos : Pos} {e : Expr} {es : List Expr} {t : TA}
theorem pe_idle (F : FnG X.prog X.w X.K X.mg X.base k f fd ps sp) (hr : Room k X.A) (hi : Idle X.A) (hm : X.mg x = some (.ref f)) (hk : PySem.W.keepIn X.K (.ref f) = true) (hb : Binds X.K fd ps []) (ha : PA X (e :: es) t) (hg : Gl X x := by rfl)
    (hdb : (x == ("__debug__" : Str)) = false := by decide) (he : starEach (e :: es) X.env = (false, eval e X.env) :: starEach es X.env := by rfl) (hpl : (backTo pos (starEach es X.env)).any (·.1) = false := by rfl) :
    PE X (.Call (.Name x q) (e :: es) [] pos) (fun σ H Q => t σ H fun vs H1 => sp vs H1 Q E0) := by
  refine ⟨fun pins s σ H Q I h => ?_⟩
  refine wpAny_Call_Name_kw (ld_glob I hg hm ?_ hdb)
  refine PySem.W.callWith_K (h₀ := X.base) I.ok.mod.kin hk (thn (ha.run pos pins s σ H _ I h) fun us s1 ⟨vs, H1, I1, r, qq⟩ => ⟨I1.kIn, ?_⟩) he hpl
  have hl : us.length = ps.length := by rw [← r.length]; exact F.len _ _ _ _ qq
  have bb := hb s1 us I1.kIn (by rw [List.append_nil]; exact hl)
  rw [List.append_nil] at bb
  refine wpAny_call (codeAny_mono (F.run X.A X.stack s1 H1 ⟨us, []⟩ us vs Q hr hi I1.env0 bb r qq) fun r s' hq => ?_)
  cases r with
  | error e => exact False.elim hq
  | ok fl =>
    cases fl with
    | ret u => exact I1.after hq
    | next => exact False.elim hq
    | brk => exact False.elim hq
    | cont => exact False.elim hq
end
/-! ### the law's own head for such a def -/
/-- the base has the object of all modules (so nothing tracked stands there) -/
def Sy (base : Heap) : Prop := ∃ o, base.get? sysModules = some o
theorem idle_law {P : Program} {w : World} {K : PySem.W.Frag} {mg mb : Str → Option Value} {k : Nat} {fa a : Addr} {fd : FuncData} {x : Str} {sp : Sp} {s1 : Shared} {vs : List Value} {ns : List Int}
    (inK : K.In s1.heap) (hn : s1.heap.Ns mainGlobals mg) (hb : s1.heap.Ns builtinsNs mb) (hm : ∀ y : Str, y ≠ "__name__" → mb y = bootBuiltins y) (lim : s1.heap.NoLimit) (hg : s1.gens = #[])
    (sc : s1.heap.get? a = some { cls := .type "list", data := .seq vs.toArray }) (hi : IntsAre vs ns) (small : ns.length ≤ sizeLine) (room : Room k callerA)
    (mods : ∃ mm, s1.heap.Ns sysModules mm)
    (F : ∀ base : Heap, K.In base → base.Ns mainGlobals mg → Sy base → FnG P w K mg base k fa fd [x] sp) (bnd : ∀ (s : Shared) (u : Value), BindsTo s fd ⟨[u], []⟩ [(x, u)])
    (prom : ∀ H : Hp, Only H → SqL K H a (ns.map V.int) → sp [.ref a] H (fun v _ => v = .bl true) E0) :
    codeAny (model P w) callerA (.call (.ref fa) ⟨[.ref a], []⟩) (fun r s' => r = .ok (.ret (.bool true)) ∧ OldK s1.heap s'.heap ∧ s'.os = s1.os ∧ AllBare s'.gens) s1 := by
  have rv := vals_ints hi
  have lv := hi.length
  have main : ∀ H : Hp, Only H → SqL K H a (ns.map V.int) → HOk P w H s1.heap → (∀ b, H b ≠ none → b = a) → (H a ≠ none → K.lookup a = none) →
      codeAny (model P w) callerA (.call (.ref fa) ⟨[.ref a], []⟩) (fun r s' => r = .ok (.ret (.bool true)) ∧ OldK s1.heap s'.heap ∧ s'.os = s1.os ∧ AllBare s'.gens) s1 := by
    intro H only sq hok just none_a
    have ns_of : ∀ {b : Addr} {m : Str → Option Value}, s1.heap.Ns b m → (hidT s1.heap H).Ns b m := by
      rintro b m ⟨o, es, ep, e, d, r⟩
      refine ⟨o, es, ep, hidT_get e ?_, d, r⟩
      cases q : H b with
      | none => rfl
      | some u =>
        obtain rfl := just b (by rw [q]; simp)
        rw [sc] at e
        cases e
        exact absurd d (by intro z; cases z)
    have k_of : K.In (hidT s1.heap H) := by
      intro b o e
      refine hidT_get (inK b o e) ?_
      cases q : H b with
      | none => rfl
      | some u =>
        obtain rfl := just b (by rw [q]; simp)
        rw [none_a (by rw [q]; simp)] at e
        cases e
    have md : Mod K mg (hidT s1.heap H) := by
      obtain ⟨mc, l1, l2⟩ := lim
      exact ⟨k_of, ns_of hn, ⟨mb, ns_of hb, hm⟩, ⟨mc, ns_of l1, l2⟩⟩
    have e0 : Env0 P w K mg (hidT s1.heap H) callerA [] s1 H :=
      { frames := rfl, mod := md, bs := fun b o e => of_hidT e, bsz := Nat.le_of_eq (hidT_size _ _), funs := trivial, frf := fun b hb => (List.not_mem_nil (show b ∈ ([] : List Addr) from hb)).elim, hok := hok, bare := .of_eq hg }
    have sy : Sy (hidT s1.heap H) := by
      obtain ⟨mm, hm⟩ := mods
      obtain ⟨o, es, ep, e, _⟩ := ns_of hm
      exact ⟨o, e⟩
    have go := (F _ k_of (ns_of hn) sy).run callerA [] s1 H ⟨[.ref a], []⟩ [.ref a] [.ref a] _ room rfl e0 (bnd s1 (.ref a)) (.cons rfl .nil) (prom H only sq)
    refine codeAny_mono go fun r s' out => ?_
    cases r with
    | error e => exact False.elim out
    | ok fl =>
      cases fl with
      | next => exact False.elim out
      | brk => exact False.elim out
      | cont => exact False.elim out
      | ret u =>
        obtain ⟨v, H', os, bare, un, hok', rel, ev⟩ := out
        cases (show v = .bl true from ev)
        cases (show u = Value.bool true from rel)
        refine ⟨rfl, OldK.of_keep fun b o e => ?_, os, bare⟩
        cases q : H b with
        | none => exact un.keep b o e q (fun z => List.not_mem_nil (show b ∈ ([] : List Addr) from z)) (by simp)
        | some u =>
          rcases only b with z | ⟨ob, xs, z⟩
          · rw [q] at z; cases z
          · obtain ⟨e1, _⟩ := hok b _ z
            obtain ⟨e2, _⟩ := hok' b _ (un.frzs b ob _ z)
            rw [e] at e1; cases e1
            exact e2
  cases hk : K.lookup a with
  | some o =>
    have e := inK a o hk
    rw [sc] at e
    cases e
    exact main (fun _ => none) (fun _ => .inl rfl) (.inr ⟨_, vs.toArray, _, hk, rfl, rfl, rfl, by rw [List.size_toArray, lv]; exact small, by simpa using rv⟩) (fun b u z => nomatch (show (none : Option HO) = some u from z)) (fun b z => (z rfl).elim) (fun z => (z rfl).elim)
  | none =>
    obtain ⟨G, hG⟩ : ∃ G : Hp, G = fun b => if b = a then some (.frz { cls := .type "list", data := .seq vs.toArray } (.lst (ns.map V.int))) else none := ⟨_, rfl⟩
    have at_a : G a = some (.frz { cls := .type "list", data := .seq vs.toArray } (.lst (ns.map V.int))) := by rw [hG]; exact if_pos rfl
    have off : ∀ b, b ≠ a → G b = none := fun b hb => by rw [hG]; exact if_neg hb
    refine main G (fun b => ?_) (.inl (.inr ⟨_, at_a⟩)) (fun b u z => ?_) (fun b z => ?_) (fun _ => hk)
    · by_cases hb : b = a
      · subst hb; exact .inr ⟨_, _, at_a⟩
      · exact .inl (off b hb)
    · by_cases hb : b = a
      · subst hb
        rw [at_a] at z
        cases z
        exact ⟨sc, by rw [List.length_map]; exact small, vs, _, rv, sc⟩
      · rw [off b hb] at z; cases z
    · by_cases hb : b = a
      · exact hb
      · exact absurd (off b hb) z
theorem walk_idle {l : PySem.W.OpenLaw} {n k : Nat} {q : Program} {loose : List Str} {XP : (Str → Option Value) → Heap → Prop} {YP : World → Heap → Prop} {d : DefRec} {K : Params → PySem.W.Frag} {sp : World → Sp} {x : Str}
    (hn : l.most = some n) (small : n ≤ sizeLine) (hd : d.params.defaults = []) (hq : importsNone q = true) (room : Room k callerA) (hY : ∀ (w : World) (h : Heap), YP w h → (K w.params).In h)
    (F : ∀ (w : World) (mg : Str → Option Value) (fa : Addr) (h : Heap), (K w.params).In h → h.Ns mainGlobals mg → mg d.name = some (.ref fa) →
      ∃ fd : FuncData, (∀ (s : Shared) (u : Value), BindsTo s fd ⟨[u], []⟩ [(x, u)]) ∧ ∀ base : Heap, (K w.params).In base → base.Ns mainGlobals mg → Sy base → FnG l.prog w (K w.params) mg base k fa fd [x] (sp w))
    (prom : ∀ (w : World) (H : Hp) (a : Addr) (ns : List Int), ns.length ≤ n → Only H → SqL (K w.params) H a (ns.map V.int) → sp w [.ref a] H (fun v _ => v = .bl true) E0) :
    PySem.W.WalkO q loose XP YP l.row.toRowW d [] (fun f vs => PySem.call f vs) := by
  refine Att.attach_call hn hd fun w s0 s1 mg mb fa o pm cd doc a vs ns G Y ho hd hcd hmg hobj hints hlen hg => ?_
  have inK := hY w _ Y
  obtain ⟨fd, hb, hF⟩ := F w mg fa _ inK G.T.g hmg
  exact idle_law inK G.T.g G.T.b G.T.builtins G.T.nolimit hg hobj hints (Nat.le_trans hlen small) room (let ⟨mm, h1, _⟩ := (G.T.seer hq).mods; ⟨mm, h1⟩) hF hb (fun H hO hS => prom w H a ns hlen hO hS)
end L2

namespace L2
open PySem PySem.Spec PyProof.Rows
/-! ### data: None, bools, ints, texts; lists, tuples, dicts (keys ints and texts) of such -/
def encK : Key → PyData
  | .inl i => .int i
  | .inr x => .str x
mutual
inductive Dn (H : Hp) : V → PyData → Prop
  | non : Dn H .non .none
  | bl (b : Bool) : Dn H (.bl b) (.bool b)
  | int (i : Int) : Dn H (.int i) (.int i)
  | str (x : Str) : Dn H (.str x) (.str x)
  | lst {a : Addr} {xs : List V} {ds : List PyData} : H a = some (.lst xs) → DnAll H xs ds → Dn H (.ref a) (.list ds)
  | tup {a : Addr} {xs : List V} {ds : List PyData} : H a = some (.tup xs) → DnAll H xs ds → Dn H (.ref a) (.tuple ds)
  | dct {a : Addr} {kvs : List (Key × V)} {ds : List (PyData × PyData)} : H a = some (.dK kvs) → DnKv H kvs ds → Dn H (.ref a) (.dict ds)
inductive DnAll (H : Hp) : List V → List PyData → Prop
  | nil : DnAll H [] []
  | cons {v : V} {vs : List V} {d : PyData} {ds : List PyData} : Dn H v d → DnAll H vs ds → DnAll H (v :: vs) (d :: ds)
inductive DnKv (H : Hp) : List (Key × V) → List (PyData × PyData) → Prop
  | nil : DnKv H [] []
  | cons {k : Key} {v : V} {r : List (Key × V)} {d : PyData} {ds : List (PyData × PyData)} : Dn H v d → DnKv H r ds → DnKv H ((k, v) :: r) ((encK k, d) :: ds)
end
section
variable {H H' : Hp}
mutual
theorem Dn.mono (h : Same H H') : ∀ (d : PyData) (v : V), Dn H v d → Dn H' v d
  | .none, _, q => by cases q; exact .non
  | .bool b, _, q => by cases q; exact .bl b
  | .int i, _, q => by cases q; exact .int i
  | .str x, _, q => by cases q; exact .str x
  | .list ds, _, q => by
    cases q with
    | lst e r => exact .lst (h _ _ e) (DnAll.mono h ds _ r)
  | .tuple ds, _, q => by
    cases q with
    | tup e r => exact .tup (h _ _ e) (DnAll.mono h ds _ r)
  | .dict ds, _, q => by
    cases q with
    | dct e r => exact .dct (h _ _ e) (DnKv.mono h ds _ r)
theorem DnAll.mono (h : Same H H') : ∀ (ds : List PyData) (vs : List V), DnAll H vs ds → DnAll H' vs ds
  | [], _, q => by cases q; exact .nil
  | d :: ds, _, q => by
    cases q with
    | cons a b => exact .cons (Dn.mono h d _ a) (DnAll.mono h ds _ b)
theorem DnKv.mono (h : Same H H') : ∀ (ds : List (PyData × PyData)) (vs : List (Key × V)), DnKv H vs ds → DnKv H' vs ds
  | [], _, q => by cases q; exact .nil
  | (_, d) :: ds, _, q => by
    cases q with
    | cons a b => exact .cons (Dn.mono h d _ a) (DnKv.mono h ds _ b)
end
end
theorem sys_new {X : Cx} {pins : List (Addr × Obj)} {σ : St} {H : Hp} {s : Shared} (sy : Sy X.base) (I : Inv X pins σ H s) {a : Addr} {o : HO} (e : H a = some o) : a ≠ sysModules := by
  rintro rfl
  obtain ⟨o', eo⟩ := sy
  rw [(I.env0.bs _ _ eo).2] at e
  cases e
theorem enc_reads {P : Program} {w : World} {h : Heap} (k : Key) (key : Value) (e : (mixKind P w).is k key = true) : Reads h key (encK k) [] := by
  rcases keyIs_shape (show keyIs k key = true from e) with ⟨i, t, rfl, rfl⟩ | ⟨x, t, rfl, rfl⟩
  · exact Reads.int i t
  · exact Reads.str x t
section
variable {X : Cx} {pins : List (Addr × Obj)} {σ : St} {H : Hp} {s : Shared}
mutual
theorem Dn.reads (sy : Sy X.base) (I : Inv X pins σ H s) : ∀ (d : PyData) (v : V) (u : Value), Dn H v d → RelV v u → ∃ as, Reads s.heap u d as ∧ sysModules ∉ as
  | .none, _, _, h, r => by
    cases h
    cases r
    exact ⟨_, Reads.none, by simp⟩
  | .bool b, _, _, h, r => by
    cases h
    cases r
    exact ⟨_, Reads.bool b, by simp⟩
  | .int i, _, _, h, r => by
    cases h
    obtain ⟨t, rfl⟩ := r
    exact ⟨_, Reads.int i t, by simp⟩
  | .str x, _, _, h, r => by
    cases h
    obtain ⟨t, rfl⟩ := r
    exact ⟨_, Reads.str x t, by simp⟩
  | .list ds, _, _, h, r => by
    cases h with
    | lst hs ha =>
      cases r
      obtain ⟨its, rv, ⟨o, n, ho, hc, _, hd⟩, _⟩ := I.list (SqL.of (K := X.K) hs)
      obtain ⟨as, hr, nm⟩ := DnAll.reads sy I ds _ its ha rv
      refine ⟨_, Reads.list ho hc hd hr, fun z => ?_⟩
      exact (List.mem_cons.mp z).elim (fun e => sys_new sy I hs e.symm) nm
  | .tuple ds, _, _, h, r => by
    cases h with
    | tup hs ha =>
      cases r
      obtain ⟨its, rv, ⟨o, ho, hc, n, hd⟩, _⟩ := I.tuple (SqT.of (K := X.K) hs)
      obtain ⟨as, hr, nm⟩ := DnAll.reads sy I ds _ its ha rv
      exact ⟨_, Reads.tuple ho hc hd hr, nm⟩
  | .dict ds, _, _, h, r => by
    cases h with
    | dct hs ha =>
      cases r
      obtain ⟨_, _, vs, rv, hd⟩ := dk_of I.hok hs
      obtain ⟨bs, hr, nm⟩ := DnKv.reads sy I ds _ vs ha rv
      refine ⟨_, PyProof.V.reads_dictOf (fun k key e => enc_reads k key e) hd hr, fun z => ?_⟩
      exact (List.mem_cons.mp z).elim (fun e => sys_new sy I hs e.symm) nm
theorem DnAll.reads (sy : Sy X.base) (I : Inv X pins σ H s) : ∀ (ds : List PyData) (vs : List V) (us : List Value), DnAll H vs ds → Vals vs us → ∃ as, ReadsAll s.heap us ds as ∧ sysModules ∉ as
  | [], _, _, h, r => by
    cases h
    cases r
    exact ⟨_, ReadsAll.nil, by simp⟩
  | d :: ds, _, _, h, r => by
    cases h with
    | cons h1 h2 =>
      cases r with
      | cons r1 r2 =>
        obtain ⟨as, q1, n1⟩ := Dn.reads sy I d _ _ h1 r1
        obtain ⟨bs, q2, n2⟩ := DnAll.reads sy I ds _ _ h2 r2
        exact ⟨_, ReadsAll.cons q1 q2, fun z => (List.mem_append.mp z).elim n1 n2⟩
theorem DnKv.reads (sy : Sy X.base) (I : Inv X pins σ H s) : ∀ (ds : List (PyData × PyData)) (kvs : List (Key × V)) (us : List (Key × Value)), DnKv H kvs ds → KV kvs us → ∃ as, PyProof.V.PairsRead s.heap encK us ds as ∧ sysModules ∉ as
  | [], _, _, h, r => by
    cases h
    cases r
    exact ⟨_, .nil, by simp⟩
  | (_, d) :: ds, _, _, h, r => by
    cases h with
    | cons h1 h2 =>
      cases r with
      | @cons _ y _ ys r1 r2 =>
        obtain ⟨k', u⟩ := y
        obtain ⟨e1, r1'⟩ := r1
        obtain ⟨as, q1, n1⟩ := Dn.reads sy I d _ _ h1 r1'
        obtain ⟨bs, q2, n2⟩ := DnKv.reads sy I ds _ _ h2 r2
        cases e1
        exact ⟨_, .cons q1 q2, fun z => (List.mem_append.mp z).elim n1 n2⟩
end
/-- repr(x), x such data: its text -/
theorem call_repr (sy : Sy X.base) (hi : Idle X.A) (hu : X.A.units + 70 < cLine) : CallR X (.builtin "repr") (fun xs H Q => ∃ (x : V) (d : PyData), xs = [x] ∧ Dn H x d ∧ d.showable = true ∧ d.depth ≤ 64 ∧ d.shown.length ≤ sizeLine ∧ Q (.str d.shown) H) := by
  intro pins s σ H xs us Q I r h
  obtain ⟨x, d, rfl, hx, hs, hd, hz, q⟩ := h
  obtain ⟨u, rfl, ru⟩ := vals1 r
  cases hx with
  | non => cases ru; exact PySem.P.repr_of_none ⟨.str _, H, I.tok _, ⟨_, rfl⟩, by simpa only [PyData.shown] using q⟩
  | bl b => cases ru; exact PySem.P.repr_of_bool ⟨.str _, H, I.tok _, ⟨_, rfl⟩, by simpa only [PyData.shown] using q⟩
  | int i =>
    obtain ⟨t, rfl⟩ := ru
    exact PySem.P.repr_of_int (by simpa [PyData.showable] using hs) ⟨.str _, H, I.tok _, ⟨_, rfl⟩, by simpa only [PyData.shown] using q⟩
  | str y =>
    obtain ⟨t, rfl⟩ := ru
    exact PySem.P.repr_of_str ⟨.str _, H, I.tok _, ⟨_, rfl⟩, by simpa only [PyData.shown] using q⟩ (by simpa only [PyData.shown] using hz)
  | lst e ha =>
    cases ru
    obtain ⟨as, rd, nm⟩ := Dn.reads sy I _ _ _ (.lst e ha) rfl
    exact PySem.repr_of_reads' rd hs (fun _ => nm) hi (by omega) (fun _ _ z => z) (fun h' t tk k => ⟨.str _, H, I.kept (t' := tk) k, ⟨_, rfl⟩, q⟩) hz
  | tup e ha =>
    cases ru
    obtain ⟨as, rd, nm⟩ := Dn.reads sy I _ _ _ (.tup e ha) rfl
    exact PySem.repr_of_reads' rd hs (fun _ => nm) hi (by omega) (fun _ _ z => z) (fun h' t tk k => ⟨.str _, H, I.kept (t' := tk) k, ⟨_, rfl⟩, q⟩) hz
  | dct e ha =>
    cases ru
    obtain ⟨as, rd, nm⟩ := Dn.reads sy I _ _ _ (.dct e ha) rfl
    exact PySem.repr_of_reads' rd hs (fun _ => nm) hi (by omega) (fun _ _ z => z) (fun h' t tk k => ⟨.str _, H, I.kept (t' := tk) k, ⟨_, rfl⟩, q⟩) hz
end
end L2

namespace L2
open PySem PySem.Spec PyProof.Rows
/-- data with a text of at most m signs, at most n deep -/
structure Okd (m n : Nat) (d : PyData) : Prop where
  sh : d.showable = true
  dp : d.depth ≤ n
  ln : d.shown.length ≤ m
theorem Okd.mono {m n m' n' : Nat} {d : PyData} (h : Okd m n d) (hm : m ≤ m') (hn : n ≤ n') : Okd m' n' d := ⟨h.sh, Nat.le_trans h.dp hn, Nat.le_trans h.ln hm⟩
theorem ok_all {m n : Nat} : ∀ {ds : List PyData}, (∀ d ∈ ds, Okd m n d) → PyData.showableAll ds = true ∧ PyData.depthAll ds ≤ n ∧ piled (PyData.shownAll ds) ≤ ds.length * (m + 2) ∧ (PyData.shownAll ds).length = ds.length
  | [], _ => by simp [PyData.showableAll, PyData.depthAll, PyData.shownAll, piled]
  | d :: ds, h => by
    obtain ⟨a, b, c, e⟩ := ok_all (ds := ds) fun x hx => h x (List.mem_cons_of_mem _ hx)
    have q := h d List.mem_cons_self
    have q1 := q.sh
    have q2 := q.dp
    have q3 := q.ln
    refine ⟨by simp [PyData.showableAll, q1, a], by simp only [PyData.depthAll]; omega, ?_, by simp [PyData.shownAll, e]⟩
    simp only [PyData.shownAll, piled_cons, List.length_cons]
    rw [Nat.succ_mul]
    omega
theorem text_up : ∀ (ts : List Str) (k : Nat) (acc : Str), (textFrom k acc ts).length ≤ acc.length + piled ts
  | [], k, acc => by simp [textFrom, piled]
  | t :: r, k, acc => by
    have h := text_up r (k + 1) (acc ++ (if k > 0 then ", " else "" : String) ++ t)
    have e : (acc ++ (if k > 0 then ", " else "" : String) ++ t).length = acc.length + (if k > 0 then 2 else 0) + t.length := by
      rw [strLen_append, strLen_append]
      by_cases c : k > 0
      · rw [if_pos c, if_pos c]; rfl
      · rw [if_neg c, if_neg c]; rfl
    rw [e] at h
    rw [piled_cons]
    show (textFrom (k + 1) _ r).length ≤ _
    have e4 : (if k > 0 then 2 else 0) ≤ 2 := by split <;> omega
    omega
theorem join_up (ts : List Str) : (Str.join ", " ts).length ≤ piled ts := by
  by_cases h : ts = []
  · subst h; simp [piled, Str.join]; decide
  · have := join_length_add ts h; omega
theorem okd_non : Okd 4 0 .none := ⟨rfl, by simp [PyData.depth], by simp only [PyData.shown]; decide⟩
theorem okd_bl (b : Bool) : Okd 5 0 (.bool b) := ⟨rfl, by simp [PyData.depth], by cases b <;> simp only [PyData.shown] <;> decide⟩
theorem okd_int {i : Int} (h : i.natAbs.log2 < 1920) : Okd 1921 0 (.int i) := ⟨by simpa [PyData.showable] using h, by simp [PyData.depth], by simp only [PyData.shown]; exact int_text_len_1921 h⟩
theorem okd_str {x : Str} {m : Nat} (h : (reprText x).length ≤ m) : Okd m 0 (.str x) := ⟨rfl, by simp [PyData.depth], by simpa only [PyData.shown] using h⟩
theorem okd_list {m n : Nat} {ds : List PyData} (h : ∀ d ∈ ds, Okd m n d) : Okd (ds.length * (m + 2) + 2) (n + 1) (.list ds) := by
  obtain ⟨a, b, c, e⟩ := ok_all h
  refine ⟨by simpa [PyData.showable] using a, by simp only [PyData.depth]; omega, ?_⟩
  simp only [PyData.shown, listText]
  rw [strLen_append]
  have := text_up (PyData.shownAll ds) 0 "["
  have e1 : (("[" : String) : Str).length = 1 := rfl
  have e2 : (("]" : String) : Str).length = 1 := rfl
  omega
theorem okd_tup {m n : Nat} {ds : List PyData} (h : ∀ d ∈ ds, Okd m n d) : Okd (ds.length * (m + 2) + 3) (n + 1) (.tuple ds) := by
  obtain ⟨a, b, c, e⟩ := ok_all h
  refine ⟨by simpa [PyData.showable] using a, by simp only [PyData.depth]; omega, ?_⟩
  simp only [PyData.shown, tupleText]
  rw [strLen_append, strLen_append]
  have := join_up (PyData.shownAll ds)
  have e1 : (("(" : String) : Str).length = 1 := rfl
  have e2 : (((if (PyData.shownAll ds).length == 1 then ",)" else ")" : String) : String) : Str).length ≤ 2 := by
    by_cases z : ((PyData.shownAll ds).length == 1) = true
    · rw [if_pos z]; decide
    · rw [if_neg z]; decide
  omega
theorem okd_dict2 {m1 m2 m3 m4 n : Nat} {a b c d : PyData} (h1 : Okd m1 n a) (h2 : Okd m2 n b) (h3 : Okd m3 n c) (h4 : Okd m4 n d) : Okd (m1 + m2 + m3 + m4 + 12) (n + 1) (.dict [(a, b), (c, d)]) := by
  have s1 := h1.sh
  have s2 := h2.sh
  have s3 := h3.sh
  have s4 := h4.sh
  have d1 := h1.dp
  have d2 := h2.dp
  have d3 := h3.dp
  have d4 := h4.dp
  have l1 := h1.ln
  have l2 := h2.ln
  have l3 := h3.ln
  have l4 := h4.ln
  refine ⟨by simp [PyData.showable, PyData.showableKv, s1, s2, s3, s4], by simp only [PyData.depth, PyData.depthKv]; omega, ?_⟩
  simp only [PyData.shown, PyData.shownKv, dictText]
  rw [strLen_append, strLen_append]
  have := join_up [a.shown ++ ": " ++ b.shown, c.shown ++ ": " ++ d.shown]
  simp only [piled_cons, piled_nil, strLen_append] at this
  have e1 : (("{" : String) : Str).length = 1 := rfl
  have e2 : (("}" : String) : Str).length = 1 := rfl
  have e3 : ((": " : String) : Str).length = 2 := rfl
  omega
theorem piled_two (ts : List Str) : 2 * ts.length ≤ piled ts := by
  induction ts with
  | nil => simp [piled]
  | cons t r ih => rw [piled_cons, List.length_cons]; omega
theorem okd_short {m n : Nat} {ds : List PyData} (h : Okd m n (.tuple ds)) : 2 * ds.length ≤ m + 1 := by
  have hl := h.ln
  simp only [PyData.shown, tupleText] at hl
  rw [strLen_append, strLen_append] at hl
  have e1 : (("(" : String) : Str).length = 1 := rfl
  have len : (PyData.shownAll ds).length = ds.length := by
    clear hl h
    induction ds with
    | nil => simp [PyData.shownAll]
    | cons d r ih => simp [PyData.shownAll, ih]
  by_cases z : PyData.shownAll ds = []
  · rw [z] at len; simp at len; rw [← len]; simp
  · have h1 := join_length_add _ z
    have h2 := piled_two (PyData.shownAll ds)
    omega
/-- nice data at v -/
def NiceD (H : Hp) (m n : Nat) (v : V) : Prop := ∃ d, Dn H v d ∧ Okd m n d
theorem NiceD.mono {H H' : Hp} {m n m' n' : Nat} {v : V} (h : NiceD H m n v) (s : Same H H') (hm : m ≤ m') (hn : n ≤ n') : NiceD H' m' n' v :=
  let ⟨d, a, b⟩ := h; ⟨d, Dn.mono s d v a, b.mono hm hn⟩
theorem dn_of : ∀ {H : Hp} {m n : Nat} {vs : List V}, (∀ v ∈ vs, NiceD H m n v) → ∃ ds, DnAll H vs ds ∧ (∀ d ∈ ds, Okd m n d) ∧ ds.length = vs.length
  | _, _, _, [], _ => ⟨[], .nil, by simp, rfl⟩
  | H, m, n, v :: vs, h => by
    obtain ⟨d, a, b⟩ := h v List.mem_cons_self
    obtain ⟨ds, x, y, z⟩ := dn_of (vs := vs) fun u hu => h u (List.mem_cons_of_mem _ hu)
    exact ⟨d :: ds, .cons a x, fun e he => (List.mem_cons.mp he).elim (fun q => q ▸ b) (y e), by rw [List.length_cons, List.length_cons, z]⟩
theorem nd_list {H : Hp} {m n : Nat} {a : Addr} {vs : List V} (e : H a = some (.lst vs)) (h : ∀ v ∈ vs, NiceD H m n v) : NiceD H (vs.length * (m + 2) + 2) (n + 1) (.ref a) := by
  obtain ⟨ds, x, y, z⟩ := dn_of h
  exact ⟨.list ds, .lst e x, by rw [← z]; exact okd_list y⟩
theorem nd_tup {H : Hp} {m n : Nat} {a : Addr} {vs : List V} (e : H a = some (.tup vs)) (h : ∀ v ∈ vs, NiceD H m n v) : NiceD H (vs.length * (m + 2) + 3) (n + 1) (.ref a) := by
  obtain ⟨ds, x, y, z⟩ := dn_of h
  exact ⟨.tuple ds, .tup e x, by rw [← z]; exact okd_tup y⟩
theorem nd_int {H : Hp} {i : Int} (h : i.natAbs.log2 < 1920) : NiceD H 1921 0 (.int i) := ⟨_, .int i, okd_int h⟩
theorem nd_bl (H : Hp) (b : Bool) : NiceD H 5 0 (.bl b) := ⟨_, .bl b, okd_bl b⟩
theorem nd_non (H : Hp) : NiceD H 4 0 .non := ⟨_, .non, okd_non⟩
theorem nd_str {H : Hp} {x : Str} {m : Nat} (h : (reprText x).length ≤ m) : NiceD H m 0 (.str x) := ⟨_, .str x, okd_str h⟩
theorem nd_dict2 {H : Hp} {m1 m2 m3 m4 n : Nat} {a : Addr} {k1 k2 : Key} {x y : V} (e : H a = some (.dK [(k1, x), (k2, y)])) (h1 : Okd m1 n (encK k1)) (hx : NiceD H m2 n x) (h2 : Okd m3 n (encK k2)) (hy : NiceD H m4 n y) : NiceD H (m1 + m2 + m3 + m4 + 12) (n + 1) (.ref a) := by
  obtain ⟨d1, p1, q1⟩ := hx
  obtain ⟨d2, p2, q2⟩ := hy
  exact ⟨.dict [(encK k1, d1), (encK k2, d2)], .dct e (.cons p1 (.cons p2 .nil)), okd_dict2 h1 q1 h2 q2⟩
theorem DnAll.length {H : Hp} : ∀ {xs : List V} {ds : List PyData}, DnAll H xs ds → xs.length = ds.length
  | _, _, .nil => rfl
  | _, _, .cons _ r => by rw [List.length_cons, List.length_cons, DnAll.length r]
theorem DnAll.at_ {H : Hp} : ∀ {xs : List V} {ds : List PyData} {i : Nat} {x : V}, DnAll H xs ds → xs[i]? = some x → ∃ d, ds[i]? = some d ∧ Dn H x d
  | _, _, _, _, .nil, e => by simp at e
  | _, _, 0, _, .cons a r, e => by cases (show some _ = some _ from e); exact ⟨_, rfl, a⟩
  | _, _, i + 1, x, .cons _ r, e => DnAll.at_ (i := i) r e
end L2

namespace N2
/-- no square above 1 divides n -/
def SqF (n : Nat) : Prop := ∀ q, 2 ≤ q → ¬ q * q ∣ n
theorem sqf_one : SqF 1 := fun q h d => by
  have := Nat.le_of_dvd (by decide) d
  have : 2 * 2 ≤ q * q := Nat.mul_le_mul h h
  omega
/-- no number from 2 to p - 1 divides s -/
def Low (p s : Nat) : Prop := ∀ q, 2 ≤ q → q < p → ¬ q ∣ s
theorem low_two (s : Nat) : Low 2 s := fun q h1 h2 => by omega
theorem Low.dvd {p s t : Nat} (h : Low p s) (d : t ∣ s) : Low p t := fun q h1 h2 e => h q h1 h2 (Nat.dvd_trans e d)
theorem Low.succ {p s : Nat} (h : Low p s) (d : ¬ p ∣ s) : Low (p + 1) s := fun q h1 h2 e => by
  by_cases c : q = p
  · exact d (c ▸ e)
  · exact h q h1 (by omega) e
/-- s = p t, p not in t, nothing below p in s: a square in s is one in t -/
theorem sqf_step {p s t : Nat} (hp : 2 ≤ p) (hl : Low p s) (e : s = p * t) (ht : ¬ p ∣ t) (h : SqF t) : SqF s := by
  intro q hq d
  have g1 : Nat.gcd p q ∣ p := Nat.gcd_dvd_left p q
  have pos : 0 < p := by omega
  have gp : 0 < Nat.gcd p q := Nat.gcd_pos_of_pos_left q pos
  by_cases c1 : Nat.gcd p q = 1
  · have co : Nat.Coprime q p := by
      show Nat.gcd q p = 1
      rw [Nat.gcd_comm]; exact c1
    have co2 : Nat.Coprime (q * q) p := Nat.Coprime.mul_left co co
    rw [e] at d
    exact h q hq (co2.dvd_of_dvd_mul_left d)
  · have g2 : Nat.gcd p q = p := by
      have le := Nat.le_of_dvd pos g1
      by_cases c2 : Nat.gcd p q < p
      · exact absurd (Nat.dvd_trans g1 ⟨t, e⟩) (hl _ (by omega) c2)
      · omega
    have pq : p ∣ q := by
      have := Nat.gcd_dvd_right p q
      rw [g2] at this; exact this
    have pp : p * p ∣ p * t := by
      rw [← e]
      exact Nat.dvd_trans (Nat.mul_dvd_mul pq pq) d
    exact ht ((Nat.mul_dvd_mul_iff_left pos).mp pp)
/-- behind the loop: s below the third power, nothing below p in it -/
theorem sqf_end {p s : Nat} (hl : Low p s) (hs : 1 ≤ s) (h3 : s < p * p * p) (sq : ∀ r, r * r = s → r = 1) : SqF s := by
  intro q hq d
  obtain ⟨t, e⟩ := d
  have tpos : 1 ≤ t := by
    rcases Nat.eq_zero_or_pos t with z | z
    · rw [z] at e; omega
    · exact z
  have qs : q ∣ s := ⟨q * t, by rw [e, Nat.mul_assoc]⟩
  have qp : p ≤ q := by
    by_cases c : q < p
    · exact absurd qs (hl q hq c)
    · omega
  by_cases c : t = 1
  · rw [c, Nat.mul_one] at e
    have := sq q e.symm
    omega
  · have ts : t ∣ s := ⟨q * q, by rw [e, Nat.mul_comm]⟩
    have tp : p ≤ t := by
      by_cases c2 : t < p
      · exact absurd ts (hl t (by omega) c2)
      · omega
    have : p * p * p ≤ q * q * t := Nat.mul_le_mul (Nat.mul_le_mul qp qp) tp
    omega
/-- the state of the splitting: n the first size, s what is left, r the root so far, p the factor -/
structure Spl (n s r p : Nat) : Prop where
  s1 : 1 ≤ s
  r1 : 1 ≤ r
  p2 : 2 ≤ p
  dv : s * (r * r) ∣ n
  low : Low p s
  up : r = 1 → SqF s → SqF n
theorem spl_0 {n : Nat} (h : 1 ≤ n) : Spl n n 1 2 := ⟨h, Nat.le_refl _, Nat.le_refl _, ⟨1, by simp⟩, low_two n, fun _ q => q⟩
theorem Spl.le {n s r p : Nat} (S : Spl n s r p) (hn : 1 ≤ n) : s ≤ n := by
  have h1 := Nat.le_of_dvd hn S.dv
  have h2 : s * 1 ≤ s * (r * r) := Nat.mul_le_mul_left s (Nat.mul_le_mul S.r1 S.r1)
  omega
/-- s is divided by the square -/
theorem Spl.sq {n s r p : Nat} (S : Spl n s r p) (d : s % (p * p) = 0) : Spl n (s / (p * p)) (r * p) p ∧ s / (p * p) < s := by
  have pp : 0 < p * p := Nat.mul_pos (by have := S.p2; omega) (by have := S.p2; omega)
  obtain ⟨t, e⟩ := Nat.dvd_of_mod_eq_zero d
  have et : s / (p * p) = t := by rw [e, Nat.mul_div_cancel_left _ pp]
  have t1 : 1 ≤ t := by
    rcases Nat.eq_zero_or_pos t with z | z
    · rw [z] at e; have := S.s1; omega
    · exact z
  have h2 := S.p2
  have rp : 2 ≤ r * p := by
    have : 1 * 2 ≤ r * p := Nat.mul_le_mul S.r1 h2
    omega
  refine ⟨?_, Nat.div_lt_self (by have := S.s1; omega) (by have : 2 * 2 ≤ p * p := Nat.mul_le_mul h2 h2; omega)⟩
  rw [et]
  refine ⟨t1, by omega, h2, ?_, S.low.dvd ⟨p * p, by rw [e, Nat.mul_comm]⟩, fun z => by omega⟩
  have := S.dv
  rw [e] at this
  have q : t * (r * p * (r * p)) = p * p * t * (r * r) := by
    simp only [Nat.mul_comm, Nat.mul_left_comm, Nat.mul_assoc]
  rw [q]; exact this
/-- s is divided by the factor once -/
theorem Spl.one {n s r p : Nat} (S : Spl n s r p) (d2 : ¬ s % (p * p) = 0) (d : s % p = 0) : Spl n (s / p) r (p + 1) := by
  have h2 := S.p2
  have pos : 0 < p := by omega
  obtain ⟨t, e⟩ := Nat.dvd_of_mod_eq_zero d
  have et : s / p = t := by rw [e, Nat.mul_div_cancel_left _ pos]
  have t1 : 1 ≤ t := by
    rcases Nat.eq_zero_or_pos t with z | z
    · rw [z] at e; have := S.s1; omega
    · exact z
  have nt : ¬ p ∣ t := fun ⟨u, eu⟩ => d2 (Nat.mod_eq_zero_of_dvd ⟨u, by rw [e, eu, Nat.mul_assoc]⟩)
  have ts : t ∣ s := ⟨p, by rw [e, Nat.mul_comm]⟩
  rw [et]
  exact ⟨t1, S.r1, by omega, Nat.dvd_trans (Nat.mul_dvd_mul_right ts _) S.dv, (S.low.dvd ts).succ nt, fun r1 q => S.up r1 (sqf_step h2 S.low e nt q)⟩
theorem Spl.no {n s r p : Nat} (S : Spl n s r p) (d : ¬ s % p = 0) : Spl n s r (p + 1) :=
  ⟨S.s1, S.r1, by have := S.p2; omega, S.dv, S.low.succ (fun z => d (Nat.mod_eq_zero_of_dvd z)), S.up⟩
/-- the end: the root is 1 exactly if no square divides -/
theorem Spl.fin_sq {n s r p k : Nat} (S : Spl n s r p) (hk : k * k = s) : r * k = 1 ↔ SqF n := by
  constructor
  · intro h
    have r1 : r = 1 := Nat.eq_one_of_mul_eq_one_right h
    have k1 : k = 1 := Nat.eq_one_of_mul_eq_one_left h
    refine S.up r1 ?_
    rw [← hk, k1]; exact sqf_one
  · intro h
    by_cases c : r * k = 1
    · exact c
    · have s1 := S.s1
      have r1 := S.r1
      have k1 : 1 ≤ k := by
        rcases Nat.eq_zero_or_pos k with z | z
        · rw [z] at hk; omega
        · exact z
      have two : 2 ≤ r * k := by
        have : 1 * 1 ≤ r * k := Nat.mul_le_mul r1 k1
        omega
      refine absurd ?_ (h _ two)
      have q : r * k * (r * k) = s * (r * r) := by
        rw [← hk]; simp only [Nat.mul_comm, Nat.mul_left_comm, Nat.mul_assoc]
      rw [q]; exact S.dv
theorem Spl.fin_no {n s r p : Nat} (S : Spl n s r p) (h3 : s < p * p * p) (sq : ∀ k, k * k ≠ s) : r = 1 ↔ SqF n := by
  constructor
  · intro r1
    exact S.up r1 (sqf_end S.low S.s1 h3 fun k e => absurd e (sq k))
  · intro h
    by_cases c : r = 1
    · exact c
    · have r1 := S.r1
      refine absurd ?_ (h r (by omega))
      exact Nat.dvd_trans ⟨s, by rw [Nat.mul_comm]⟩ S.dv
end N2

namespace N2
/-- the splitting with the free part: n = s f r r -/
structure Spf (n s f r p : Nat) : Prop where
  s1 : 1 ≤ s
  f1 : 1 ≤ f
  r1 : 1 ≤ r
  p2 : 2 ≤ p
  eq : s * f * (r * r) = n
  low : Low p s
  up : ∀ t, t ∣ s → SqF t → SqF (f * t)
theorem spf_0 {n : Nat} (h : 1 ≤ n) : Spf n n 1 1 2 := ⟨h, Nat.le_refl _, Nat.le_refl _, Nat.le_refl _, by simp, low_two n, fun t _ q => by rw [Nat.one_mul]; exact q⟩
theorem Spf.le {n s f r p : Nat} (S : Spf n s f r p) : s ≤ n := by
  have h1 : s * 1 * 1 ≤ s * f * (r * r) := Nat.mul_le_mul (Nat.mul_le_mul_left s S.f1) (Nat.mul_le_mul S.r1 S.r1)
  rw [S.eq] at h1
  omega
theorem Spf.sq {n s f r p : Nat} (S : Spf n s f r p) (d : s % (p * p) = 0) : Spf n (s / (p * p)) f (r * p) p ∧ s / (p * p) < s := by
  have h2 := S.p2
  have pp : 4 ≤ p * p := Nat.mul_le_mul h2 h2
  obtain ⟨t, e⟩ := Nat.dvd_of_mod_eq_zero d
  have et : s / (p * p) = t := by rw [e, Nat.mul_div_cancel_left _ (by omega)]
  have t1 : 1 ≤ t := by
    rcases Nat.eq_zero_or_pos t with z | z
    · rw [z] at e; have := S.s1; omega
    · exact z
  have ts : t ∣ s := ⟨p * p, by rw [e, Nat.mul_comm]⟩
  refine ⟨?_, Nat.div_lt_self (by have := S.s1; omega) (by omega)⟩
  rw [et]
  have rp : 1 * 1 ≤ r * p := Nat.mul_le_mul S.r1 (by omega)
  refine ⟨t1, S.f1, by omega, h2, ?_, S.low.dvd ts, fun u hu => S.up u (Nat.dvd_trans hu ts)⟩
  rw [← S.eq, e]
  simp only [Nat.mul_comm, Nat.mul_left_comm, Nat.mul_assoc]
theorem Spf.one {n s f r p : Nat} (S : Spf n s f r p) (d2 : ¬ s % (p * p) = 0) (d : s % p = 0) : Spf n (s / p) (f * p) r (p + 1) := by
  have h2 := S.p2
  have pos : 0 < p := by omega
  obtain ⟨t, e⟩ := Nat.dvd_of_mod_eq_zero d
  have et : s / p = t := by rw [e, Nat.mul_div_cancel_left _ pos]
  have t1 : 1 ≤ t := by
    rcases Nat.eq_zero_or_pos t with z | z
    · rw [z] at e; have := S.s1; omega
    · exact z
  have nt : ¬ p ∣ t := fun ⟨u, eu⟩ => d2 (Nat.mod_eq_zero_of_dvd ⟨u, by rw [e, eu, Nat.mul_assoc]⟩)
  have ts : t ∣ s := ⟨p, by rw [e, Nat.mul_comm]⟩
  have fp : 1 * 1 ≤ f * p := Nat.mul_le_mul S.f1 (by omega)
  rw [et]
  refine ⟨t1, by omega, S.r1, by omega, ?_, (S.low.dvd ts).succ nt, fun u hu q => ?_⟩
  · rw [← S.eq, e]
    simp only [Nat.mul_comm, Nat.mul_left_comm, Nat.mul_assoc]
  · have pu : p * u ∣ s := by rw [e]; exact Nat.mul_dvd_mul_left p hu
    rw [Nat.mul_assoc]
    refine S.up (p * u) pu (sqf_step h2 (S.low.dvd pu) rfl (fun z => nt (Nat.dvd_trans z hu)) q)
theorem Spf.no {n s f r p : Nat} (S : Spf n s f r p) (d : ¬ s % p = 0) : Spf n s f r (p + 1) :=
  ⟨S.s1, S.f1, S.r1, by have := S.p2; omega, S.eq, S.low.succ (fun z => d (Nat.mod_eq_zero_of_dvd z)), S.up⟩
/-- n is f times the square of r, f without squares -/
def Split (n f r : Nat) : Prop := n = f * (r * r) ∧ SqF f ∧ 1 ≤ f ∧ 1 ≤ r
theorem Spf.fin_sq {n s f r p k : Nat} (S : Spf n s f r p) (hk : k * k = s) : Split n f (r * k) := by
  have s1 := S.s1
  have k1 : 1 ≤ k := by
    rcases Nat.eq_zero_or_pos k with z | z
    · rw [z] at hk; omega
    · exact z
  have rk : 1 * 1 ≤ r * k := Nat.mul_le_mul S.r1 k1
  refine ⟨?_, ?_, S.f1, by omega⟩
  · rw [← S.eq, ← hk]
    simp only [Nat.mul_comm, Nat.mul_left_comm, Nat.mul_assoc]
  · have := S.up 1 (Nat.one_dvd s) sqf_one
    rw [Nat.mul_one] at this; exact this
theorem Spf.fin_no {n s f r p : Nat} (S : Spf n s f r p) (h3 : s < p * p * p) (sq : ∀ k, k * k ≠ s) : Split n (f * s) r := by
  have fs : 1 * 1 ≤ f * s := Nat.mul_le_mul S.f1 S.s1
  refine ⟨?_, S.up s (Nat.dvd_refl s) (sqf_end S.low S.s1 h3 fun k e => absurd e (sq k)), by omega, S.r1⟩
  rw [← S.eq, Nat.mul_comm f s]
theorem Split.one {n f r : Nat} (h : Split n f r) : r = 1 ↔ SqF n := by
  obtain ⟨e, q, f1, r1⟩ := h
  constructor
  · intro z
    rw [e, z]; simpa using q
  · intro z
    by_cases c : r = 1
    · exact c
    · exact absurd ⟨f, by rw [e, Nat.mul_comm]⟩ (z r (by omega))
/-- there is one free part only: f r r = g s s -/
theorem sqf_uniq {f g r s : Nat} (hf : SqF f) (hg : SqF g) (r1 : 1 ≤ r) (s1 : 1 ≤ s) (e : f * (r * r) = g * (s * s)) : f = g ∧ r = s := by
  have cp : 0 < Nat.gcd r s := Nat.gcd_pos_of_pos_left _ r1
  obtain ⟨c, ec⟩ : ∃ c, Nat.gcd r s = c := ⟨_, rfl⟩
  obtain ⟨a, ea⟩ : c ∣ r := ec ▸ Nat.gcd_dvd_left r s
  obtain ⟨b, eb⟩ : c ∣ s := ec ▸ Nat.gcd_dvd_right r s
  rw [ec] at cp
  have co : Nat.Coprime a b := by
    have : Nat.gcd (c * a) (c * b) = c := by rw [← ea, ← eb]; exact ec
    rw [Nat.gcd_mul_left] at this
    exact Nat.eq_of_mul_eq_mul_left cp (by rw [this, Nat.mul_one])
  have e2 : f * (a * a) = g * (b * b) := by
    have h : (c * c) * (f * (a * a)) = (c * c) * (g * (b * b)) := by
      have h1 : (c * c) * (f * (a * a)) = f * (r * r) := by rw [ea]; simp only [Nat.mul_comm, Nat.mul_left_comm, Nat.mul_assoc]
      have h2 : (c * c) * (g * (b * b)) = g * (s * s) := by rw [eb]; simp only [Nat.mul_comm, Nat.mul_left_comm, Nat.mul_assoc]
      rw [h1, h2, e]
    exact Nat.eq_of_mul_eq_mul_left (Nat.mul_pos cp cp) h
  have ab : Nat.Coprime (a * a) (b * b) := (co.mul_left co).mul_right (co.mul_left co)
  have a1 : a = 1 := by
    have d : a * a ∣ g := ab.dvd_of_dvd_mul_right ⟨f, by rw [← e2, Nat.mul_comm]⟩
    by_cases z : 2 ≤ a
    · exact absurd d (hg a z)
    · rcases Nat.eq_zero_or_pos a with y | y
      · rw [y] at ea; omega
      · omega
  have b1 : b = 1 := by
    have d : b * b ∣ f := ab.symm.dvd_of_dvd_mul_right ⟨g, by rw [e2, Nat.mul_comm]⟩
    by_cases z : 2 ≤ b
    · exact absurd d (hf b z)
    · rcases Nat.eq_zero_or_pos b with y | y
      · rw [y] at eb; omega
      · omega
  rw [a1, b1] at e2
  exact ⟨by omega, by rw [ea, eb, a1, b1]⟩
/-- the product of two free numbers without a common divisor -/
theorem sqf_mul {f g : Nat} (hf : SqF f) (hg : SqF g) (co : Nat.Coprime f g) : SqF (f * g) := by
  intro q hq d
  -- q q in f g: gcd(q, f) and gcd(q, g)
  have q1 : q ∣ f * g := Nat.dvd_trans ⟨q, rfl⟩ d
  obtain ⟨a, ea⟩ : ∃ a, Nat.gcd q f = a := ⟨_, rfl⟩
  obtain ⟨b, eb⟩ : ∃ b, Nat.gcd q g = b := ⟨_, rfl⟩
  have af : a ∣ f := ea ▸ Nat.gcd_dvd_right q f
  have bg : b ∣ g := eb ▸ Nat.gcd_dvd_right q g
  have eq : q = a * b := by
    have := Nat.Coprime.gcd_mul q co
    rw [Nat.gcd_eq_left q1, ea, eb] at this; exact this
  have ca : Nat.Coprime a g := Nat.Coprime.coprime_dvd_left af co
  have cb : Nat.Coprime b f := (Nat.Coprime.coprime_dvd_left bg co.symm)
  have da : a * a ∣ f := by
    have : a * a ∣ f * g := Nat.dvd_trans ⟨b * b, by rw [eq]; simp only [Nat.mul_comm, Nat.mul_left_comm, Nat.mul_assoc]⟩ d
    exact (ca.mul_left ca).dvd_of_dvd_mul_right this
  have db : b * b ∣ g := by
    have : b * b ∣ f * g := Nat.dvd_trans ⟨a * a, by rw [eq]; simp only [Nat.mul_comm, Nat.mul_left_comm, Nat.mul_assoc]⟩ d
    exact (cb.mul_left cb).dvd_of_dvd_mul_left this
  by_cases z : 2 ≤ a
  · exact hf a z da
  · by_cases y : 2 ≤ b
    · exact hg b y db
    · have : a * b ≤ 1 * 1 := Nat.mul_le_mul (by omega) (by omega)
      omega
end N2

namespace L2
open PySem PySem.Spec PyProof.Rows
/-- what the top has written of a class of errors: its name n, its own __init__ at f -/
structure ClsF (K : PySem.W.Frag) (mg : Str → Option Value) (S : Addr) (n : Str) (C f : Addr) (fd : FuncData) : Prop where
  M : SlM K C S f
  at_ : ∃ q N bs sn sub ab col dd k0 k1 k2 k3 k5, K.lookup C = some (excClassObj n q C N bs (.ref S :: PySem.Sl.xTail) true sn sub ab col dd k0 k1 k2 k3 k5 "Exception.__new__")
  gC : mg n = some (.ref C)
  F : ∃ (qual : Str) (p1 p2 q1 q2 q3 q4 q5 q6 : Pos), (q2.endLine == q5.line) = true ∧ FunD K "__init__" qual (argsS p1 p2 []) (bodyC q1 q2 q3 q4 q5 q6) scpC [] [] f fd
/-- the class of an error's data -/
def nmOf (o : Obj) : Str := match o.data with | .cls cd => cd.name | _ => ""
theorem one_name {K : PySem.W.Frag} {mg : Str → Option Value} {S : Addr} {n n' : Str} {C C' f f' : Addr} {fd fd' : FuncData} (A : ClsF K mg S n C f fd) (B : ClsF K mg S n' C' f' fd') (e : C = C') : n = n' := by
  subst e
  obtain ⟨q, N, bs, sn, sub, ab, col, dd, k0, k1, k2, k3, k5, h⟩ := A.at_
  obtain ⟨q', N', bs', sn', sub', ab', col', dd', k0', k1', k2', k3', k5', h'⟩ := B.at_
  have z := congrArg nmOf (Option.some.inj (h.symm.trans h'))
  exact z
section
variable {K : PySem.W.Frag} {mg : Str → Option Value} {S : Addr} {n : Str} {C f : Addr} {fd : FuncData}
theorem ClsF.cd (A : ClsF K mg S n C f fd) : ∃ cd : ClassData, PySem.W.clsIn K C = some cd ∧ cd.mro = .ref C :: .ref S :: PySem.Sl.xTail := by
  obtain ⟨q, N, bs, sn, sub, ab, col, dd, k0, k1, k2, k3, k5, h⟩ := A.at_
  refine ⟨{ name := n, bases := bs, mro := .ref C :: .ref S :: PySem.Sl.xTail, ns := N, qualname := q, hasDict := true, slotNames := sn, subclasses := sub, abstract := ab, collection := col, hasDel := false }, ?_, rfl⟩
  unfold PySem.W.clsIn
  rw [h]
theorem ClsF.sub (A : ClsF K mg S n C f fd) (c : Value) : PySem.W.subIn K (.ref C) c = some ((Value.ref C :: .ref S :: PySem.Sl.xTail).contains c) := by
  obtain ⟨cd, h1, h2⟩ := A.cd
  show PySem.W.mroIn K C c = _
  unfold PySem.W.mroIn
  rw [h1, Option.bind_some, h2]
  rfl
theorem ClsF.cls (A : ClsF K mg S n C f fd) : ((PySem.W.clsIn K C).isSome && PySem.W.typeIn K (.ref C) == some (.type "type")) = true := by
  obtain ⟨cd, h1, _⟩ := A.cd
  rw [h1, A.M.T.tyC]
  rfl
theorem ClsF.kit (A : ClsF K mg S n C f fd) {n' : Str} {C' f' : Addr} {fd' : FuncData} (B : ClsF K mg S n' C' f' fd') (hS : C' ≠ S) : PySem.W.kitOne K (.ref C) (.ref C') = some (decide (C = C')) ∧ PySem.W.exmOne K (.ref C) (.ref C') = some (decide (C = C')) := by
  have e1 : (Value.ref C :: .ref S :: PySem.Sl.xTail).contains (.ref C') = decide (C = C') := by
    rw [List.contains_cons, List.contains_cons]
    have a1 : (Value.ref C' == Value.ref S) = false := by
      rw [beq_eq_false_iff_ne]
      exact fun z => hS (Value.ref.inj z)
    have a2 : (PySem.Sl.xTail.contains (Value.ref C')) = false := rfl
    have a3 : (Value.ref C' == Value.ref C) = decide (C = C') := by
      by_cases h : C = C'
      · rw [h, decide_eq_true rfl]; exact beq_self_eq_true _
      · rw [decide_eq_false h, beq_eq_false_iff_ne]
        exact fun z => h (Value.ref.inj z).symm
    rw [a1, a2, a3]
    simp
  have e2 : PySem.W.kitCls K (.ref C) (.ref C') = some (decide (C = C')) := by
    show (if ((PySem.W.clsIn K C').isSome && PySem.W.typeIn K (.ref C') == some (.type "type")) = true then PySem.W.subIn K (.ref C) (.ref C') else none) = _
    rw [if_pos B.cls, A.sub, e1]
  constructor
  · unfold PySem.W.kitOne
    by_cases h : C = C'
    · rw [h, if_pos (beq_self_eq_true _), decide_eq_true rfl]
    · rw [if_neg (fun z => h (Value.ref.inj (eq_of_beq z))), e2]
  · unfold PySem.W.exmOne
    rw [if_pos (by rw [B.M.T.exC]; rfl), e2]
theorem ClsF.up (A : ClsF K mg S n C f fd) (hcS : (PySem.W.clsIn K S).isSome = true) (htS : PySem.W.typeIn K (.ref S) = some (.type "type")) (hbS : PySem.W.subIn K (.ref S) (.type "BaseException") = some true) :
    PySem.W.kitOne K (.ref C) (.ref S) = some true ∧ PySem.W.exmOne K (.ref C) (.ref S) = some true := by
  have e1 : (Value.ref C :: .ref S :: PySem.Sl.xTail).contains (.ref S) = true := by
    rw [List.contains_cons, List.contains_cons, beq_self_eq_true, Bool.true_or, Bool.or_true]
  have e2 : PySem.W.kitCls K (.ref C) (.ref S) = some true := by
    show (if ((PySem.W.clsIn K S).isSome && PySem.W.typeIn K (.ref S) == some (.type "type")) = true then PySem.W.subIn K (.ref C) (.ref S) else none) = _
    rw [if_pos (by rw [hcS, htS]; rfl), A.sub, e1]
  constructor
  · unfold PySem.W.kitOne
    by_cases h : C = S
    · rw [h, if_pos (beq_self_eq_true _)]
    · rw [if_neg (fun z => h (Value.ref.inj (eq_of_beq z))), e2]
  · unfold PySem.W.exmOne
    rw [if_pos (by rw [hbS]; rfl), e2]
theorem ClsF.ty (A : ClsF K mg S n C f fd) {T : String} {b : Bool} (hm : PySem.W.kitMeta T = true) (hb : PySem.Sl.xTail.contains (.type T) = b) : PySem.W.kitOne K (.ref C) (.type T) = some b := by
  have e1 : (Value.ref C :: .ref S :: PySem.Sl.xTail).contains (.type T) = b := by
    rw [List.contains_cons, List.contains_cons, hb]
    rfl
  show (if (Value.ref C == Value.type T) = true then some true else if PySem.W.kitMeta T = true then PySem.W.subIn K (.ref C) (.type T) else none) = _
  rw [if_neg (show ¬ ((Value.ref C == Value.type T) = true) from fun z => nomatch (eq_of_beq z)), if_pos hm, A.sub, e1]
end
theorem cls_mk {K : PySem.W.Frag} {h : Heap} {mg : Str → Option Value} {S C f : Addr} {n q qual : Str} (X : K.In h) (G : h.Ns mainGlobals mg) {N : Addr} {bs : List Value} {sn : List Str} {sub : List Value} {ab : Bool} {col : Option Bool} {dd : Option Addr} {m0 m1 m2 m3 m5 : Option Value}
    {od an : Option Addr} {sl : Array (Option Value)} {oc dc pm cd ct : Value} {p1 p2 q1 q2 q3 q4 q5 q6 : Pos}
    (aC : PySem.W.nsIn K mainGlobals n = some (some (.ref C)))
    (xL : K.lookup C = some (excClassObj n q C N bs (.ref S :: PySem.Sl.xTail) true sn sub ab col dd m0 m1 m2 m3 m5 "Exception.__new__"))
    (sa : PySem.W.findIn K (.ref C) "__setattr__" = some (some (.builtin "object.__setattr__"))) (ga : PySem.W.findIn K (.ref C) "__getattribute__" = some (some (.builtin "BaseException.__getattribute__"))) (gg : PySem.W.findIn K (.ref C) "__getattr__" = some none) (nb : PySem.W.findIn K (.ref C) "thing" = some none)
    (hc : PySem.W.findIn K (.ref C) "__class__" = some (some (.builtin "object.__class__")))
    (a1 : PySem.W.findIn K (.ref C) "__init__" = some (some (.ref f))) (t1 : PySem.W.typeIn K (.ref f) = some (.type "function"))
    (l1 : K.lookup f = some ⟨oc, od, .func (PySem.W.fnOf "__init__" qual (argsS p1 p2 []) (bodyC q1 q2 q3 q4 q5 q6) scpC .none .none dc pm an cd ct), sl⟩) (c1 : PySem.W.codeIn K cd qual = true) (kf : PySem.W.keepIn K (.ref f) = true)
    (kC : PySem.W.keepIn K (.ref C) = true) (tC : PySem.W.typeIn K (.ref C) = some (.type "type"))
    (hn : PySem.W.specialIn K (.builtin "object.__class__") "__get__" = some (some (.builtin "getset_descriptor.__get__"))) (ht : PySem.W.takesIn K (.builtin "object.__class__") = some true)
    (hl : (q2.endLine == q5.line) = true) : ClsF K mg S n C f (PySem.W.fnOf "__init__" qual (argsS p1 p2 []) (bodyC q1 q2 q3 q4 q5 q6) scpC .none .none dc pm an cd ct) := by
  have cl : PySem.W.clsIn K C = some { name := n, bases := bs, mro := .ref C :: .ref S :: PySem.Sl.xTail, ns := N, qualname := q, hasDict := true, slotNames := sn, subclasses := sub, abstract := ab, collection := col, hasDel := false } := by
    unfold PySem.W.clsIn; rw [xL]
  have sb : ∀ T : String, PySem.Sl.xTail.contains (.type T) = true → PySem.W.mroIn K C (.type T) = some true := fun T e => by
    unfold PySem.W.mroIn
    rw [cl, Option.bind_some]
    show some ((Value.ref C :: .ref S :: PySem.Sl.xTail).contains (.type T)) = _
    rw [PySem.Sl.has_sub C S T e]
  exact
    { M := ⟨{ cls := ⟨n, q, N, bs, sn, sub, ab, col, dd, m0, m1, m2, m3, m5, xL⟩, sa := sa, exC := sb _ (by decide +kernel), tyC := tC, kC := kC, ga := ga, gg := gg, noT := nb, hd := by unfold PySem.W.hasDictIn; rw [cl]; rfl, hc := hc, hn := hn, ht := ht, hm := sb _ (by decide +kernel) }, a1, t1⟩
      at_ := ⟨q, N, bs, sn, sub, ab, col, dd, m0, m1, m2, m3, m5, xL⟩
      gC := PySem.W.mg_of X G aC
      F := ⟨qual, p1, p2, q1, q2, q3, q4, q5, q6, hl, ⟨oc, od, .none, .none, dc, pm, an, cd, ct, sl, rfl, l1, c1, .inl ⟨rfl, rfl⟩, .inl rfl⟩, kf⟩ }
end L2

namespace HT
open PySem PySem.Spec PyProof.Rows
section
variable {prog : Program} {w : World} {A : Around} {E : Value → Shared → Prop} {s : Shared}
theorem back_places (n : Nat) : Builtin.Slice.slicePlaces ((n : Int) - 1) (-1) (-1) = n := by
  unfold Builtin.Slice.slicePlaces
  rw [if_neg (by decide)]
  by_cases h : (n : Int) - 1 > -1
  · rw [if_pos h, show -(-1 : Int) = 1 by decide, Int.ediv_one]; omega
  · rw [if_neg h]; omega
theorem back_pick (xs : Array Value) : ((List.range xs.size).filterMap fun (m : Nat) => xs[(((xs.size : Int) - 1) + (m : Int) * (-1)).toNat]?).toArray = xs.toList.reverse.toArray := by
  congr 1
  have e : ∀ l : List Nat, (∀ m ∈ l, m < xs.size) → (l.filterMap fun (m : Nat) => xs[(((xs.size : Int) - 1) + (m : Int) * (-1)).toNat]?) = l.filterMap fun m => xs.toList.reverse[m]? := by
    intro l hl
    induction l with
    | nil => rfl
    | cons m r ih =>
      have hm := hl m List.mem_cons_self
      have q : xs[(((xs.size : Int) - 1) + (m : Int) * (-1)).toNat]? = xs.toList.reverse[m]? := by
        rw [List.getElem?_reverse (by rw [Array.length_toList]; exact hm), Array.length_toList, Array.getElem?_toList]
        congr 1
        omega
      rw [List.filterMap_cons, List.filterMap_cons, q, ih fun x hx => hl x (List.mem_cons_of_mem _ hx)]
  rw [e _ fun m hm => List.mem_range.mp hm]
  have g : ∀ zs : List Value, (List.range zs.length).filterMap (fun m => zs[m]?) = zs := by
    intro zs
    have p := pick_gen zs.toArray 0 zs.length
    have e2 : (fun (m : Nat) => zs.toArray[(((0 : Nat) : Int) + (m : Int) * 1).toNat]?) = fun m => zs[m]? := by
      funext m
      rw [List.getElem?_toArray]
      congr 1
      omega
    rw [e2] at p
    have q := congrArg Array.toList p
    simpa using q
  have := g xs.toList.reverse
  rw [List.length_reverse, Array.length_toList] at this
  exact this
theorem back_applied {sl : Addr} {vl vu vs : Value} {n : Nat} {Q : Int × Int × Nat → Shared → Prop} (isl : s.heap.IsSliceOf sl vl vu vs) (p1 : IsPart vl none) (p2 : IsPart vu none) (p3 : IsPart vs (some (-1)))
    (goal : Q ((n : Int) - 1, -1, n) s) : wpAny (model prog w) A (Builtin.Slice.sliceApplied (.ref sl) (pure (n : Int))) Q E s := by
  obtain ⟨ob, hob, _, dob⟩ := id isl
  unfold Builtin.Slice.sliceApplied Builtin.Slice.sliceFields
  refine wpAny_bind (wpAny_bind (wpAny_field hob dob (x := vl) rfl (wpAny_bind (wpAny_field hob dob (x := vu) rfl (wpAny_bind (wpAny_field hob dob (x := vs) rfl (wpAny_pure ?_)))))))
  refine wpAny_bind (slicePart_ p3 ?_)
  show wpAny _ _ (if ((-1 : Int) == 0) = true then _ else _) _ _ s
  rw [if_neg (show ¬ (((-1 : Int) == 0) = true) by decide)]
  refine wpAny_bind (slicePart_ p1 (wpAny_bind (slicePart_ p2 (wpAny_bind (wpAny_pure ?_)))))
  have adj : Builtin.Slice.sliceAdjust none none (-1) (n : Int) = ((n : Int) - 1, -1) := by
    unfold Builtin.Slice.sliceAdjust
    rfl
  show wpAny _ _ (match Builtin.Slice.sliceAdjust none none (-1) (n : Int) with | (lo, hi) => pure (lo, (-1 : Int), Builtin.Slice.slicePlaces lo hi (-1))) _ _ s
  rw [adj]
  show wpAny _ _ (pure ((n : Int) - 1, (-1 : Int), Builtin.Slice.slicePlaces ((n : Int) - 1) (-1) (-1))) _ _ s
  rw [back_places]
  exact wpAny_pure goal
theorem getItem_tuple_back {t sl : Addr} {items : Array Value} {vl vu vs : Value} {Q : Value → Shared → Prop} (tup : IsTup s.heap t items) (isl : s.heap.IsSliceOf sl vl vu vs) (p1 : IsPart vl none) (p2 : IsPart vu none) (p3 : IsPart vs (some (-1)))
    (goal : Q (.ref s.heap.objs.size) { s with heap := s.heap.push { cls := .type "tuple", data := .seq items.toList.reverse.toArray } }) (small : items.size ≤ sizeLine) : wpAny (model prog w) A (getItem (.ref t) (.ref sl)) Q E s := by
  obtain ⟨ob, hob, cob, _⟩ := id isl
  have isT : s.TypeIs (.ref sl) "slice" := ⟨ob, hob, cob⟩
  have sz : sizeOk (.seq items.toList.reverse.toArray) := by
    show items.toList.reverse.toArray.size ≤ sizeLine
    rw [List.size_toArray, List.length_reverse, Array.length_toList]; exact small
  unfold getItem
  try with_reducible refine wpAny_holding ?_
  first | refine wpAny_bind (wpAny_pure ?_) | skip
  refine wpAny_bind (wpAny_sequenceKey tup.typeIs (by decide) ?_)
  refine wpAny_bind (wpAny_callSpecial?_slot (name := Str.ofString "__getitem__") tup.typeIs PyProof.Rows.slot_tuple_getitem (wpAny_call_entry PyProof.Rows.slot_tuple_getitem tup.typeIs entry_tuple_getitem ?_ (args_tuple_getitem _ _)))
  show wpAny _ _ (Builtin.Tuple.tupleItemsOf (.ref t) >>= _) _ _ s
  refine wpAny_bind (tupleItemsOf_ tup ?_)
  refine wpAny_bind (wpAny_typeOf isT ?_)
  rw [if_pos (show (Value.type "slice" == Value.type "slice") = true by decide)]
  refine wpAny_bind (back_applied isl p1 p2 p3 ?_)
  have nn : ¬ ((((items.size : Int) - 1) == 0 && (-1 : Int) == 1 && items.size == items.size) = true) := by
    intro q
    rw [Bool.and_eq_true, Bool.and_eq_true] at q
    exact absurd q.1.2 (by decide)
  show wpAny _ _ (if (((items.size : Int) - 1) == 0 && (-1 : Int) == 1 && items.size == items.size) = true then _ else _) _ _ s
  rw [if_neg nn, back_pick]
  first
    | exact wpAny_bind (m := Builtin.Tuple.tupleExact _) (wpAny_newObj_type (wpAny_pure ⟨_, rfl, wpAny_pure goal⟩) sz)
    | exact wpAny_bind (m := Builtin.Tuple.tupleExact _) (wpAny_newObj_type (wpAny_bind (wpAny_pure (wpAny_pure ⟨_, rfl, wpAny_pure goal⟩))) sz)
    | exact wpAny_bind (wpAny_bind (m := Builtin.Tuple.tupleExact _) (wpAny_newObj_type (wpAny_pure (wpAny_pure ⟨_, rfl, wpAny_pure goal⟩)) sz))
    | exact wpAny_bind (wpAny_bind (m := Builtin.Tuple.tupleExact _) (wpAny_newObj_type (wpAny_pure ⟨_, rfl, wpAny_pure goal⟩) sz))
end
end HT
namespace L2
open PySem PySem.Spec PyProof.Rows
/-- t[::-1], t a tuple -/
def tBack (K : PySem.W.Frag) (te : TE) : TE := fun σ H Q => te σ H fun x H1 => ∃ a xs, x = .ref a ∧ SqT K H1 a xs ∧ ∀ p, H1 p = none → Q (.ref p) (upd H1 p (.tup xs.reverse))
theorem pe_back {X : Cx} {e : Expr} {te : TE} {k : Nat} {p1 p2 p3 pos : Pos} (he : PE X e te) : PE X (.Subscript e (.Slice none none (some (.UnaryOp .USub (.Constant (.int 1) k p1) p2)) p3) pos) (tBack X.K te) := by
  refine ⟨fun pins s σ H Q I h => ?_⟩
  refine Subscript_ (thn (he.run pins s σ H _ I h) fun v s1 ⟨x, H1, I1, r1, a, xs, ex, hx, q⟩ => ?_)
  subst ex
  cases r1
  have step : PO X (some (.UnaryOp .USub (.Constant (.int 1) k p1) p2)) (tPart (tUn (rU fun i => .int (-i)) (tC (.int 1)))) := po_some (pe_un un_neg pe_int)
  refine wpAny_Slice (thn (po_none.run pins s1 σ H1 (fun o G => o = none ∧ G = H1) I1 ⟨rfl, rfl⟩) fun vl s2 ⟨l, H2, I2, pl, el, e2⟩ => ?_)
  subst el e2
  refine thn (po_none.run pins s2 σ H2 (fun o G => o = none ∧ G = H2) I2 ⟨rfl, rfl⟩) fun vu s3 ⟨u, H3, I3, pu, eu, e3⟩ => ?_
  subst eu e3
  refine thn (step.run pins s3 σ H3 (fun o G => o = some (-1) ∧ G = H3) I3 ⟨1, rfl, -1, rfl, rfl, rfl⟩) fun vs s4 ⟨o, H4, I4, ps, eo, e4⟩ => ?_
  subst eo e4
  have J : Inv X pins σ H4 { s4 with heap := s4.heap.push { cls := .type "slice", data := .fields #[vl, vu, vs] } } := I4.kept (t' := s4.toks) fun _ _ q => Heap.get?_push_of_some _ q
  obtain ⟨its, r, ht, hz⟩ := J.tuple hx
  have len := r.length
  show wpAny (model X.prog X.w) X.A (subscriptTail e (.Slice none none (some (.UnaryOp .USub (.Constant (.int 1) k p1) p2)) p3) (.ref a) (.ref s4.heap.objs.size)) _ _ _
  refine tail_any (ops := [.ref a, .ref s4.heap.objs.size]) ht.typeIs (PyProof.Rows.slot_tuple_getitem.lookup) ?_ (by with_unfolding_all rfl)
  refine HT.getItem_tuple_back ht (Heap.IsSliceOf.new _ vl vu vs) pl pu ps ?_ (by rw [List.size_toArray]; omega)
  refine ⟨.ref _, _, J.laid (t' := s4.toks) (o := .tup xs.reverse) (fun _ _ q => Heap.get?_push_of_some _ q) (Nat.le_refl _) ?_, rfl, q _ (J.hok.fresh (Nat.le_refl _))⟩
  exact ⟨by rw [List.length_reverse]; exact hz, _, r.reverse, _, Heap.get?_push_size _ rfl, rfl, _, rfl⟩
end L2

namespace N3
open PySem PySem.Spec PyProof.Rows L2 N2
def top (i : Nat) : Stmt := PySem.Challenge.pw_twiceslope_k54_writings_of_any_quotient.main.body.getD i (.Pass ⟨0, 0, 0, 0⟩)
abbrev sInt : Stmt := top 2
abbrev sTupOf : Stmt := top 3
abbrev sAllInt : Stmt := top 4
abbrev sLowest : Stmt := top 5
abbrev sSplit : Stmt := top 12
abbrev sFree : Stmt := top 13
abbrev sFits : Stmt := top 35
abbrev sTriple : Stmt := top 36
abbrev sNumber : Stmt := top 37
/-- a def as callers know it -/
structure Kn (P : Program) (w : World) (K : PySem.W.Frag) (mg : Str → Option Value) (base : Heap) (k : Nat) (x : Str) (ps : List Str) (sp : Sp) (f : Addr) (fd : FuncData) : Prop where
  ok : FnOk P w K mg base CX0 k f fd ps sp
  mg : mg x = some (.ref f)
  kp : PySem.W.keepIn K (.ref f) = true
  bd : Binds K fd ps []
/-- the names of built-in things that stay so -/
structure Bt (mg : Str → Option Value) : Prop where
  int : mg "int" = none
  bool : mg "bool" = none
  tuple : mg "tuple" = none
  list : mg "list" = none
  isi : mg "isinstance" = none
  len : mg "len" = none
  all : mg "all" = none
  range : mg "range" = none
  abs : mg "abs" = none
  repr : mg "repr" = none
  zip : mg "zip" = none
  max : mg "max" = none
  sorted : mg "sorted" = none
  str : mg "str" = none
  gcd : mg "gcd" = some (.builtin "math.gcd")
  enum : mg "enumerate" = none
  isq : mg "isqrt" = some (.builtin "math.isqrt")
def tn : PyData → String
  | .none => "NoneType" | .bool _ => "bool" | .int _ => "int" | .str _ => "str" | .list _ => "list" | .tuple _ => "tuple" | .dict _ => "dict"
def isI : PyData → Bool
  | .int _ => true
  | _ => false
def isB : PyData → Bool
  | .bool _ => true
  | _ => false
def isTp : PyData → Bool
  | .tuple _ => true
  | _ => false
theorem dn_ty {K : PySem.W.Frag} {H : Hp} {v : V} {d : PyData} (h : Dn H v d) : TyX K H v (.type (tn d)) := by
  cases h with
  | non => exact .base .non
  | bl b => exact .base (.bl b)
  | int i => exact .base (.int i)
  | str x => exact .base (.str x)
  | lst e _ => exact .base (.lst e)
  | tup e _ => exact .base (.tup e)
  | dct e _ => exact .base (.dK e)
theorem kit_i : ∀ d : PyData, kitB (tn d) "int" = some (isI d || isB d)
  | .none => by decide +kernel
  | .bool _ => by show kitB "bool" "int" = some true; decide +kernel
  | .int _ => by show kitB "int" "int" = some true; decide +kernel
  | .str _ => by show kitB "str" "int" = some false; decide +kernel
  | .list _ => by show kitB "list" "int" = some false; decide +kernel
  | .tuple _ => by show kitB "tuple" "int" = some false; decide +kernel
  | .dict _ => by show kitB "dict" "int" = some false; decide +kernel
theorem kit_b : ∀ d : PyData, kitB (tn d) "bool" = some (isB d)
  | .none => by decide +kernel
  | .bool _ => by show kitB "bool" "bool" = some true; decide +kernel
  | .int _ => by show kitB "int" "bool" = some false; decide +kernel
  | .str _ => by show kitB "str" "bool" = some false; decide +kernel
  | .list _ => by show kitB "list" "bool" = some false; decide +kernel
  | .tuple _ => by show kitB "tuple" "bool" = some false; decide +kernel
  | .dict _ => by show kitB "dict" "bool" = some false; decide +kernel
theorem kit_t : ∀ d : PyData, kitB (tn d) "tuple" = some (isTp d)
  | .none => by decide +kernel
  | .bool _ => by show kitB "bool" "tuple" = some false; decide +kernel
  | .int _ => by show kitB "int" "tuple" = some false; decide +kernel
  | .str _ => by show kitB "str" "tuple" = some false; decide +kernel
  | .list _ => by show kitB "list" "tuple" = some false; decide +kernel
  | .tuple _ => by show kitB "tuple" "tuple" = some true; decide +kernel
  | .dict _ => by show kitB "dict" "tuple" = some false; decide +kernel
theorem dn_tup {H : Hp} {v : V} {d : PyData} (h : Dn H v d) (e : isTp d = true) : ∃ (a : Addr) (xs : List V) (ds : List PyData), v = .ref a ∧ d = .tuple ds ∧ H a = some (.tup xs) ∧ DnAll H xs ds := by
  cases h with
  | tup e1 r => exact ⟨_, _, _, rfl, rfl, e1, r⟩
  | _ => cases e
theorem dn_int {H : Hp} {v : V} {d : PyData} (h : Dn H v d) (e : isI d = true) : ∃ i, v = .int i ∧ d = .int i := by
  cases h with
  | int i => exact ⟨i, rfl, rfl⟩
  | _ => cases e
theorem snew {H : Hp} {p : Addr} {o : HO} (h : H p = none) : Same H (upd H p o) := fun b u e => by rw [upd_ne (ne_of_none e h)]; exact e
theorem ite_b {c : Bool} {A B : Prop} (h1 : c = true → A) (h2 : c = false → B) : if c = true then A else B := by
  cases c with
  | true => exact iteT (h1 rfl)
  | false => exact iteF (h2 rfl)
def spInt : Sp := fun vs H Q _ => ∃ (v : V) (d : PyData), vs = [v] ∧ Dn H v d ∧ Q (.bl (isI d)) H
/-- a tuple of n items -/
def tupN (n : Nat) : PyData → Bool
  | .tuple ds => decide (ds.length = n)
  | _ => false
def spTupOf : Sp := fun vs H Q _ => ∃ (v : V) (d : PyData) (n : Nat), vs = [v, .int (n : Int)] ∧ Dn H v d ∧ Q (.bl (tupN n d)) H
def spAllInt : Sp := fun vs H Q _ => ∃ (a : Addr) (xs : List V) (ds : List PyData), vs = [.ref a] ∧ H a = some (.tup xs) ∧ DnAll H xs ds ∧ ds.length ≤ 1000 ∧ ∀ H', Same H H' → Q (.bl (ds.all isI)) H'
section
variable {P : Program} {w : World} {K : PySem.W.Frag} {mg : Str → Option Value} {base : Heap}
theorem scInt : FnScope ["thing"] ["thing"] (defScope sInt) := ⟨rfl, rfl, rfl, by decide +kernel, rfl, by decide +kernel, by decide +kernel⟩
theorem ok_int {f : Addr} {fd : FuncData} (F : Fun K "is_integer" "is_integer" sInt f fd) (T : Bt mg) : FnOk P w K mg base CX0 1 f fd ["thing"] spInt := by
  refine F.ok scInt (fun vs H Q E h => ?_) (fun cdv A outer s H vs Q E hr h => ?_)
  · obtain ⟨v, d, rfl, _⟩ := h
    rfl
  · obtain ⟨v, d, rfl, hd, k⟩ := h
    refine ⟨_, pss_one (ps_ret (pe_and (pe_callB call_isi (by rfl) T.isi (by decide +kernel) (pa_cons (pv 0) (pa_cons (pe_bltn (v := .ty "int") (by rfl) T.int (by decide +kernel) rfl) pa_nil)))
      (pe_one (pe_not (pe_callB call_isi (by rfl) T.isi (by decide +kernel) (pa_cons (pv 0) (pa_cons (pe_bltn (v := .ty "bool") (by rfl) T.bool (by decide +kernel) rfl) pa_nil))))))), ?_⟩
    refine ⟨_, rfl, v, .ty "int", _, _, _, rfl, .ty _, dn_ty hd, kit_ty (kit_i d), _, rfl, ite_b (fun e => ?_) (fun e => ?_)⟩
    · refine ⟨_, rfl, v, .ty "bool", _, _, _, rfl, .ty _, dn_ty hd, kit_ty (kit_b d), _, rfl, ?_⟩
      have : (!isB d) = isI d := by cases d <;> first | rfl | cases e
      rw [this]; exact k
    · have : isI d = false := by cases d <;> first | rfl | cases e
      rw [this] at k; exact k
theorem scTupOf : FnScope ["thing", "many"] ["thing", "many"] (defScope sTupOf) := ⟨rfl, rfl, rfl, by decide +kernel, rfl, by decide +kernel, by decide +kernel⟩
theorem ok_tupOf {f : Addr} {fd : FuncData} (F : Fun K "is_tuple_of" "is_tuple_of" sTupOf f fd) (T : Bt mg) : FnOk P w K mg base CX0 1 f fd ["thing", "many"] spTupOf := by
  refine F.ok scTupOf (fun vs H Q E h => ?_) (fun cdv A outer s H vs Q E hr h => ?_)
  · obtain ⟨v, d, n, rfl, _⟩ := h
    rfl
  · obtain ⟨v, d, n, rfl, hd, k⟩ := h
    refine ⟨_, pss_one (ps_ret (pe_and (pe_callB call_isi (by rfl) T.isi (by decide +kernel) (pa_cons (pv 0) (pa_cons (pe_bltn (v := .ty "tuple") (by rfl) T.tuple (by decide +kernel) rfl) pa_nil)))
      (pe_one (pe_cmpR op_eq (pe_callB call_len (by rfl) T.len PySem.boot_len (pa_cons (pv 0) pa_nil)) (pv 1) (nomark _))))), ?_⟩
    refine ⟨_, rfl, v, .ty "tuple", _, _, _, rfl, .ty _, dn_ty hd, kit_ty (kit_t d), _, rfl, ite_b (fun e => ?_) (fun e => ?_)⟩
    · obtain ⟨a, xs, ds, rfl, rfl, e1, r⟩ := dn_tup hd e
      refine ⟨_, rfl, .ref a, xs.length, rfl, .inr ⟨xs, SqT.of e1, rfl⟩, _, rfl, rfl, ?_⟩
      have : decide (V.int (xs.length : Int) = V.int (n : Int)) = tupN n (.tuple ds) := by
        show _ = decide (ds.length = n)
        rw [r.length]
        exact decide_eq_decide.mpr ⟨fun h => by have := V.int.inj h; omega, fun h => by rw [h]⟩
      rw [this]; exact k
    · have : tupN n d = false := by cases d <;> first | rfl | cases e
      rw [this] at k; exact k
theorem scAllInt : FnScope ["things", "thing"] ["things"] (defScope sAllInt) := ⟨rfl, rfl, rfl, by decide +kernel, rfl, by decide +kernel, by decide +kernel⟩
theorem take_succ_all {α : Type} (p : α → Bool) {l : List α} {i : Nat} {x : α} (h : l[i]? = some x) : l.take (i + 1) = l.take i ++ [x] := by
  rw [List.take_add_one, h]; rfl
theorem ok_allInt {f fI : Addr} {fd fdI : FuncData} (F : Fun K "all_integers" "all_integers" sAllInt f fd) (T : Bt mg) (I : Kn P w K mg base 1 "is_integer" ["thing"] spInt fI fdI) : FnOk P w K mg base CX0 2 f fd ["things"] spAllInt := by
  refine F.ok scAllInt (fun vs H Q E h => ?_) (fun cdv A outer s H vs Q E hr h => ?_)
  · obtain ⟨a, xs, ds, rfl, _⟩ := h
    rfl
  · obtain ⟨a, xs, ds, rfl, ha, r, hl, k⟩ := h
    refine ⟨_, pss_one (ps_ret (pe_callB (cr_all rfl) (by rfl) T.all (by decide +kernel) (pa_cons (pe_lc (own := [("thing", 1)]) (g := gName 1) (tt := tYes) rfl scAllInt.nd (pi_tup (pv 0))
      (blkOk_by (own := [("thing", 1)]) (N := ["things", "thing"]) (sc := defScope sAllInt) (by decide +kernel)) (fun _ _ _ _ _ => pg_name (i := 1) scAllInt.nd rfl (Or.inl rfl)) (fun _ _ _ _ _ => pts_nil)
      (fun _ _ _ _ _ => pe_call I.ok hr rfl I.mg I.kp I.bd .nil pass0 (pa_cons (pv 1) pa_nil))) pa_nil))), ?_⟩
    refine ⟨_, rfl, a, rfl, ⟨_, SqT.of ha⟩, fun D hD => lc_tup (K := K) (a := a) (xs := xs) (fun i H' => H' D = some (.lst ((ds.take i).map fun d => V.bl (isI d))) ∧ Same H H') ⟨upd_same, snew hD⟩ (fun i H' _ s' => SqT.of (s'.2 _ _ ha)) ?_ ?_⟩
    · rintro i x H' hx ⟨e1, e2⟩
      obtain ⟨d, ed, dn⟩ := r.at_ hx
      have il : i < ds.length := (List.getElem?_eq_some_iff.mp ed).1
      refine ⟨rfl, ?_⟩
      refine ⟨_, rfl, x, d, rfl, Dn.mono e2 d x dn, _, e1, ?_, ?_, fun b o e => ?_⟩
      · rw [List.length_map, List.length_take]; exact small1000 (by omega)
      · rw [take_succ_all isI ed, List.map_append, upd_same]; rfl
      · rw [upd_ne (ne_of_none e hD)]; exact e2 _ _ e
    · rintro H' ⟨e1, e2⟩
      rw [r.length, List.take_length] at e1
      refine ⟨D, ds.map isI, rfl, SqL.of (by rw [List.map_map]; exact e1), ?_⟩
      rw [show (ds.map isI).all id = ds.all isI by rw [List.all_map]; rfl]
      exact k _ e2
end
end N3

namespace N3
open PySem PySem.Spec PyProof.Rows L2
section
variable {P : Program} {w : World} {K : PySem.W.Frag} {mg : Str → Option Value} {base : Heap}
/-- a def behind the top -/
structure Df (K : PySem.W.Frag) (mg : Str → Option Value) (x : Str) (st : Stmt) (ps : List Str) (f : Addr) (fd : FuncData) : Prop where
  F : Fun K x x st f fd
  m : mg x = some (.ref f)
  b : Binds K fd ps []
/-- how a def binds what is handed by position -/
def Bds (x : Str) (st : Stmt) (ps : List Str) : Prop := ∀ (kV doc pm : Value) (an : Option Addr) (cdv ct : Value) (us : List Value), us.length = ps.length → bindArgs (PySem.W.fnOf x x (defArgs st) (defBody st) (defScope st) .none kV doc pm an cdv ct) ⟨us, []⟩ = pure (ps.zip us)
theorem df_mk {h : Heap} (X : K.In h) (G : h.Ns mainGlobals mg) {x : Str} {st : Stmt} {ps : List Str} {f : Addr} {oc : Value} {od an : Option Addr} {osl : Array (Option Value)} {kV doc pm cdv ct : Value}
    (a : PySem.W.nsIn K mainGlobals x = some (some (.ref f))) (l : K.lookup f = some ⟨oc, od, .func (PySem.W.fnOf x x (defArgs st) (defBody st) (defScope st) .none kV doc pm an cdv ct), osl⟩) (c : PySem.W.codeIn K cdv x = true) (k : PySem.W.keepIn K (.ref f) = true)
    (b : Bds x st ps) : ∃ f fd, Df K mg x st ps f fd := ⟨f, _, fun_mk (st := st) l c k, PySem.W.mg_of X G a, (fun_mk (st := st) l c k).binds b⟩
theorem Df.kn {x : Str} {st : Stmt} {ps : List Str} {f : Addr} {fd : FuncData} {k : Nat} {sp : Sp} (D : Df K mg x st ps f fd) (ok : FnOk P w K mg base CX0 k f fd ps sp) : Kn P w K mg base k x ps sp f fd := ⟨ok, D.m, D.F.kp, D.b⟩
end
end N3

namespace N3
open PySem PySem.Spec PyProof.Rows L2 N2
theorem call_isqrt {X : Cx} : CallR X (.builtin "math.isqrt") (fun vs H Q => ∃ n : Nat, vs = [.int (n : Int)] ∧ n < 2 ^ 64 ∧ ∀ k : Nat, k * k ≤ n → n < (k + 1) * (k + 1) → Q (.int (k : Int)) H) := by
  intro pins s σ H vs us Q I r h
  obtain ⟨n, rfl, hn, q⟩ := h
  obtain ⟨u, rfl, t, rfl⟩ := vals1 r
  obtain ⟨h1, h2⟩ := Float64.isqrt_spec n
  exact PySem.W.mg_isqrt (by omega) (by omega) ⟨.int _, H, I.tok _, ⟨_, rfl⟩, q _ (by simpa using h1) (by simpa using h2)⟩
def lowT (b c : Int) : Bool := decide (1 ≤ c) && decide (Nat.gcd b.natAbs c.natAbs = 1)
def spLow : Sp := fun vs H Q _ => ∃ b c : Int, vs = [.int b, .int c] ∧ Q (.bl (lowT b c)) H
def spSplit : Sp := fun vs H Q _ => ∃ n : Nat, vs = [.int (n : Int)] ∧ 1 ≤ n ∧ n < 10 ^ 15 ∧ ∀ (f r : Nat) (a : Addr) (H' : Hp), Split n f r → H' a = some (.tup [.int (f : Int), .int (r : Int)]) → Same H H' → Q (.ref a) H'
def spFree : Sp := fun vs H Q _ => ∃ n : Nat, vs = [.int (n : Int)] ∧ 1 ≤ n ∧ n < 10 ^ 15 ∧ ∀ (b : Bool) (H' : Hp), (b = true ↔ SqF n) → Same H H' → Q (.bl b) H'
/-- a number that may stand as d -/
def Fit (a : Int) : Prop := a ≠ 0 ∧ a.natAbs < 10 ^ 15 ∧ SqF a.natAbs
def spFits : Sp := fun vs H Q _ => ∃ a : Int, vs = [.int a] ∧ ∀ (b : Bool) (H' : Hp), (b = true ↔ Fit a) → Same H H' → Q (.bl b) H'
theorem le_cube {p s : Nat} (hp : 1 ≤ p) (h : p * p * p ≤ s) : p ≤ s ∧ p * p ≤ s := by
  have h1 : p * p * 1 ≤ p * p * p := Nat.mul_le_mul_left (p * p) hp
  have h2 : p * 1 ≤ p * p := Nat.mul_le_mul_left p hp
  omega
theorem small_log {n : Nat} (h : n < 2 ^ 64) : n.log2 < 9000 := by
  rcases Nat.eq_zero_or_pos n with z | z
  · rw [z]; decide
  · have := (Nat.log2_lt (by omega : n ≠ 0)).mpr h; omega
section
variable {P : Program} {w : World} {K : PySem.W.Frag} {mg : Str → Option Value} {base : Heap}
theorem scLow : FnScope ["top", "bottom"] ["top", "bottom"] (defScope sLowest) := ⟨rfl, rfl, rfl, by decide +kernel, rfl, by decide +kernel, by decide +kernel⟩
theorem ok_low {f : Addr} {fd : FuncData} (F : Fun K "in_lowest_terms" "in_lowest_terms" sLowest f fd) (T : Bt mg) : FnOk P w K mg base CX0 1 f fd ["top", "bottom"] spLow := by
  refine F.ok scLow (fun vs H Q E h => ?_) (fun cdv A outer s H vs Q E hr h => ?_)
  · obtain ⟨b, c, rfl, _⟩ := h
    rfl
  · obtain ⟨b, c, rfl, k⟩ := h
    refine ⟨_, pss_one (ps_ret (pe_and (pe_cmpR op_ge (pv 1) pe_int (nomark _)) (pe_one (pe_cmpR op_eq (pe_callBfun cr_gcd (by rfl) T.gcd (pa_cons (pv 0) (pa_cons (pv 1) pa_nil))) pe_int (nomark _))))), ?_⟩
    refine ⟨_, rfl, _, _, rfl, rfl, _, rfl, ite_b (fun e => ?_) (fun e => ?_)⟩
    · refine ⟨_, rfl, _, rfl, _, _, rfl, rfl, ?_⟩
      have q : decide (V.int ((Nat.gcd b.natAbs c.natAbs : Nat) : Int) = V.int 1) = lowT b c := by
        unfold lowT
        rw [e, Bool.true_and]
        exact decide_eq_decide.mpr ⟨fun h => by have := V.int.inj h; omega, fun h => by rw [h]; rfl⟩
      rw [q]; exact k
    · have q : lowT b c = false := by
        unfold lowT
        rw [e, Bool.false_and]
      rw [q] at k; exact k
theorem scSplit : FnScope ["size", "free", "root", "factor", "rest"] ["size"] (defScope sSplit) := ⟨rfl, rfl, rfl, by decide +kernel, rfl, by decide +kernel, by decide +kernel⟩
theorem ok_split {f : Addr} {fd : FuncData} (F : Fun K "square_split" "square_split" sSplit f fd) (T : Bt mg) : FnOk P w K mg base CX0 1 f fd ["size"] spSplit := by
  refine F.ok scSplit (fun vs H Q E h => ?_) (fun cdv A outer s H vs Q E hr h => ?_)
  · obtain ⟨n, rfl, _⟩ := h
    rfl
  · obtain ⟨n, rfl, n1, n2, k⟩ := h
    refine ⟨_, pss_cons (ps_asg (pe_tup (pa_cons pe_int (pa_cons pe_int (pa_cons pe_int pa_nil)))) (pg_tup rfl (pgs_cons (pg_name (i := 1) scSplit.nd rfl (Or.inl rfl)) (pgs_cons (pg_name (i := 2) scSplit.nd rfl (Or.inl rfl)) (pgs_cons (pg_name (i := 3) scSplit.nd rfl (Or.inl rfl)) pgs_nil)))))
      (pss_cons (ps_while PassesOwn.never (pt_cmpR op_le (pe_op op_mul (pe_op op_mul (pv 3) (pv 3)) (pv 3)) (pv 0) (nomark _))
        (pss_cons (ps_while PassesOwn.never (pt_cmpR op_eq (pe_op op_mod (pv 0) (pe_op op_mul (pv 3) (pv 3))) pe_int (nomark _))
          (pss_cons (ps_set (i := 0) scSplit.nd rfl (Or.inl rfl) (pe_op op_fdivW (pv 0) (pe_op op_mul (pv 3) (pv 3)))) (pss_one (ps_set (i := 2) scSplit.nd rfl (Or.inl rfl) (pe_op op_mul (pv 2) (pv 3))))))
        (pss_cons (ps_if (pt_cmpR op_eq (pe_op op_mod (pv 0) (pv 3)) pe_int (nomark _))
          (pss_cons (ps_set (i := 0) scSplit.nd rfl (Or.inl rfl) (pe_op op_fdivW (pv 0) (pv 3))) (pss_one (ps_set (i := 1) scSplit.nd rfl (Or.inl rfl) (pe_op op_mul (pv 1) (pv 3))))) pss_nil)
        (pss_one (ps_aug (i := 3) scSplit.nd rfl (.inl rfl) pe_int ip_add)))))
      (pss_cons (ps_set (i := 4) scSplit.nd rfl (Or.inl rfl) (pe_callBfun call_isqrt (by rfl) T.isq (pa_cons (pv 0) pa_nil)))
      (pss_cons (ps_if (pt_cmpR op_eq (pe_op op_mul (pv 4) (pv 4)) (pv 0) (nomark _)) (pss_one (ps_ret (pe_tup (pa_cons (pv 1) (pa_cons (pe_op op_mul (pv 2) (pv 4)) pa_nil))))) pss_nil)
      (pss_one (ps_ret (pe_tup (pa_cons (pe_op op_mul (pv 1) (pv 0)) (pa_cons (pv 2) pa_nil)))))))), ?_⟩
    have p64 : (10 : Nat) ^ 15 + 1 < 2 ^ 64 := by decide
    refine ⟨by show 3 ≤ sizeLine; rw [sizeLine_eq]; decide, fun p0 hp0 => ?_⟩
    refine ⟨p0, _, rfl, SqT.of upd_same, rfl, _, _, rfl, _, _, rfl, _, _, rfl, rfl, ?_⟩
    refine ⟨fun m σ H' => ∃ (s f r p : Nat), σ = [some (.int (s : Int)), some (.int (f : Int)), some (.int (r : Int)), some (.int (p : Int)), none] ∧ Same H H' ∧ Spf n s f r p ∧ p ≤ n + 1 ∧ m = n + 2 - p, ⟨_, n, 1, 1, 2, rfl, snew hp0, spf_0 n1, by omega, rfl⟩, ?_⟩
    rintro m σ H1 ⟨s, f, r, p, rfl, s1, S, pn, rfl⟩
    have p2 := S.p2
    have sn := S.le
    have cm : ∀ x : Int, CMul x (p : Int) := fun x => .inr ⟨by omega, by omega⟩
    refine ⟨_, rfl, _, rfl, _, _, rfl, rfl, cm _, _, rfl, _, _, rfl, rfl, cm _, _, rfl, _, _, rfl, rfl, _, rfl, ite_b (fun c => ?_) (fun c => ?_)⟩
    · have c' : p * p * p ≤ s := by have := of_decide_eq_true c; exact_mod_cast this
      obtain ⟨ps, pps⟩ := le_cube (by omega) c'
      have pos : (0 : Int) < (p : Int) * (p : Int) := by
        have : 0 < p * p := Nat.mul_pos (by omega) (by omega)
        exact_mod_cast this
      refine ⟨fun σ' H' => ∃ (s' r' f' : Nat), σ' = [some (.int (s' : Int)), some (.int (f' : Int)), some (.int (r' : Int)), some (.int ((p + 1 : Nat) : Int)), none] ∧ Same H H' ∧ Spf n s' f' r' (p + 1),
        fun σ' H' ⟨s', r', f', e1, e2, e3⟩ => ⟨n + 2 - (p + 1), by omega, s', f', r', p + 1, e1, e2, e3, by omega, rfl⟩, ?_⟩
      refine ⟨fun m σ H' => ∃ s' r' : Nat, σ = [some (.int (s' : Int)), some (.int (f : Int)), some (.int (r' : Int)), some (.int (p : Int)), none] ∧ Same H H' ∧ Spf n s' f r' p ∧ m = s', ⟨_, s, r, rfl, s1, S, rfl⟩, ?_⟩
      rintro m σ H2 ⟨s', r', rfl, s2, S', rfl⟩
      have sn' := S'.le
      refine ⟨_, rfl, _, rfl, _, rfl, _, _, rfl, rfl, cm _, _, _, rfl, rfl, pos, rfl, _, rfl, ite_b (fun c2 => ?_) (fun c2 => ?_)⟩
      · have c2' : m % (p * p) = 0 := by have := V.int.inj (of_decide_eq_true c2); exact_mod_cast this
        obtain ⟨S2, lt⟩ := S'.sq c2'
        refine ⟨fun σ' H' => σ' = [some (.int ((m / (p * p) : Nat) : Int)), some (.int (f : Int)), some (.int ((r' * p : Nat) : Int)), some (.int (p : Int)), none] ∧ Same H H', fun σ' H' ⟨e1, e2⟩ => ⟨_, lt, _, _, e1, e2, S2, rfl⟩, ?_⟩
        refine ⟨_, rfl, _, rfl, _, rfl, _, _, rfl, rfl, cm _, _, _, rfl, rfl, ⟨pos, ?_⟩, ?_⟩
        · have : ((p : Int) * (p : Int)).natAbs = p * p := by rw [← Int.natCast_mul]; rfl
          rw [this]
          exact small_log (by omega)
        · exact ⟨_, rfl, _, rfl, _, _, rfl, rfl, cm _, by push_cast; rfl, s2⟩
      · have c2' : ¬ m % (p * p) = 0 := fun z => of_decide_eq_false c2 (congrArg V.int (by exact_mod_cast z))
        have pp : (0 : Int) < (p : Int) := by omega
        refine ⟨_, rfl, _, rfl, _, _, rfl, rfl, pp, rfl, _, rfl, ite_b (fun c3 => ?_) (fun c3 => ?_)⟩
        · have c3' : m % p = 0 := by have := V.int.inj (of_decide_eq_true c3); exact_mod_cast this
          refine ⟨_, rfl, _, rfl, _, _, rfl, rfl, ⟨pp, ?_⟩, ?_⟩
          · show p.log2 < 9000
            exact small_log (by omega)
          · refine ⟨_, rfl, _, rfl, _, _, rfl, rfl, cm _, _, rfl, _, _, rfl, rfl, ?_⟩
            exact ⟨m / p, r', f * p, by push_cast; rfl, s2, S'.one c2' c3'⟩
        · have c3' : ¬ m % p = 0 := fun z => of_decide_eq_false c3 (congrArg V.int (by exact_mod_cast z))
          refine ⟨_, rfl, _, _, rfl, rfl, ?_⟩
          exact ⟨m, r', f, by push_cast; rfl, s2, S'.no c3'⟩
    · have c' : s < p * p * p := by
        have h1 := of_decide_eq_false c
        have h2 : ¬ (p * p * p ≤ s) := fun z => h1 (by exact_mod_cast z)
        omega
      refine ⟨_, rfl, s, rfl, by omega, fun j j1 j2 => ?_⟩
      have jj : j ≤ s := Nat.le_trans (Nat.le_mul_self j) j1
      have cj : ∀ x : Int, CMul x (j : Int) := fun x => .inr ⟨by omega, by omega⟩
      refine ⟨_, rfl, _, rfl, _, _, rfl, rfl, cj _, _, rfl, rfl, _, rfl, ite_b (fun c4 => ?_) (fun c4 => ?_)⟩
      · have c4' : j * j = s := by have := V.int.inj (of_decide_eq_true c4); exact_mod_cast this
        refine ⟨_, rfl, _, rfl, _, rfl, _, _, rfl, rfl, cj _, by show 2 ≤ sizeLine; rw [sizeLine_eq]; decide, fun a ha => ?_⟩
        exact k f (r * j) a _ (S.fin_sq c4') upd_same (s1.trans (snew ha))
      · have c4' : ∀ i, i * i ≠ s := fun i e => by
          have h1 : i ≤ j := by
            have : i * i < (j + 1) * (j + 1) := by omega
            have := Nat.mul_self_lt_mul_self_iff.mp this
            omega
          have h2 : j ≤ i := Nat.mul_self_le_mul_self_iff.mp (by omega)
          have : i = j := by omega
          subst this
          exact of_decide_eq_false c4 (congrArg V.int (by exact_mod_cast e))
        refine ⟨_, rfl, _, rfl, _, _, rfl, rfl, .inr ⟨by omega, by omega⟩, _, rfl, by show 2 ≤ sizeLine; rw [sizeLine_eq]; decide, fun a ha => ?_⟩
        exact k (f * s) r a _ (S.fin_no c' c4') (by rw [Int.natCast_mul]; exact upd_same) (s1.trans (snew ha))
end
end N3

namespace N3
open PySem PySem.Spec PyProof.Rows L2 N2
/-- the program's triples -/
def TP (d : PyData) : Prop := ∃ a b c : Int, d = .tuple [.int a, .int b, .int c] ∧ b ≠ 0 ∧ lowT b c = true ∧ Fit a
def spTriple : Sp := fun vs H Q _ => ∃ (v : V) (d : PyData), vs = [v] ∧ Dn H v d ∧ ∀ (b : Bool) (H' : Hp), (b = true ↔ TP d) → Same H H' → Q (.bl b) H'
def hdI : PyData → Int
  | .tuple (.int a :: _) => a
  | _ => 0
def Asc (ds : List PyData) : Prop := ∀ (i : Nat) (x y : PyData), ds[i]? = some x → ds[i + 1]? = some y → hdI x < hdI y
def NP (d : PyData) : Prop := ∃ ds, d = .tuple ds ∧ (∀ x ∈ ds, TP x) ∧ Asc ds
def Short (d : PyData) : Prop := ∀ ds, d = .tuple ds → ds.length ≤ 1000000
def spNumber : Sp := fun vs H Q _ => ∃ (v : V) (d : PyData), vs = [v] ∧ Dn H v d ∧ Short d ∧ ∀ (b : Bool) (H' : Hp), (b = true ↔ NP d) → Same H H' → Q (.bl b) H'
theorem three_ints {ds : List PyData} (h1 : ds.length = 3) (h2 : ds.all isI = true) : ∃ a b c : Int, ds = [.int a, .int b, .int c] := by
  match ds, h1 with
  | [x, y, z], _ =>
    simp only [List.all_cons, List.all_nil, Bool.and_true, Bool.and_eq_true] at h2
    obtain ⟨e1, e2, e3⟩ := h2
    have g : ∀ u : PyData, isI u = true → ∃ i, u = .int i := fun u e => by
      cases u <;> first | exact ⟨_, rfl⟩ | cases e
    obtain ⟨a, rfl⟩ := g x e1
    obtain ⟨b, rfl⟩ := g y e2
    obtain ⟨c, rfl⟩ := g z e3
    exact ⟨a, b, c, rfl⟩
theorem dn3 {H : Hp} {xs : List V} {a b c : Int} (h : DnAll H xs [.int a, .int b, .int c]) : xs = [.int a, .int b, .int c] := by
  cases h with
  | cons h1 r =>
    cases r with
    | cons h2 r =>
      cases r with
      | cons h3 r =>
        cases r
        cases h1
        cases h2
        cases h3
        rfl
theorem all_step {bs : List Bool} {b : Bool} {i : Nat} {p : Nat → Prop} (h : bs.all id = true ↔ ∀ j, j < i → p j) (hb : b = true ↔ p i) : (bs ++ [b]).all id = true ↔ ∀ j, j < i + 1 → p j := by
  rw [List.all_append, Bool.and_eq_true, h]
  simp only [List.all_cons, List.all_nil, Bool.and_true, id]
  rw [hb]
  constructor
  · rintro ⟨h1, h2⟩ j hj
    by_cases c : j = i
    · rw [c]; exact h2
    · exact h1 j (by omega)
  · intro h1
    exact ⟨fun j hj => h1 j (by omega), h1 i (by omega)⟩
section
variable {P : Program} {w : World} {K : PySem.W.Frag} {mg : Str → Option Value} {base : Heap}
theorem scFree : FnScope ["size"] ["size"] (defScope sFree) := ⟨rfl, rfl, rfl, by decide +kernel, rfl, by decide +kernel, by decide +kernel⟩
theorem ok_free {f fS : Addr} {fd fdS : FuncData} (F : Fun K "free_of_squares" "free_of_squares" sFree f fd) (S : Kn P w K mg base 1 "square_split" ["size"] spSplit fS fdS) : FnOk P w K mg base CX0 2 f fd ["size"] spFree := by
  refine F.ok scFree (fun vs H Q E h => ?_) (fun cdv A outer s H vs Q E hr h => ?_)
  · obtain ⟨n, rfl, _⟩ := h
    rfl
  · obtain ⟨n, rfl, n1, n2, k⟩ := h
    refine ⟨_, pss_one (ps_ret (pe_cmpR op_eq (pe_ix (r := rIx K) ix_seq (pe_call S.ok hr rfl S.mg S.kp S.bd .nil pass0 (pa_cons (pv 0) pa_nil)) pe_int (fun _ _ => rfl)) pe_int (nomark _))), ?_⟩
    refine ⟨_, rfl, n, rfl, n1, n2, fun f r a H' hsp e s1 => ?_⟩
    have hq := hsp.one
    refine .inr (.inl ⟨a, _, _, _, rfl, rfl, SqT.of e, rfl, rfl, ?_⟩)
    refine k _ H' ?_ s1
    rw [decide_eq_true_iff]
    exact ⟨fun h => hq.mp (by have := V.int.inj h; omega), fun h => congrArg V.int (by rw [hq.mpr h]; rfl)⟩
theorem scFits : FnScope ["d"] ["d"] (defScope sFits) := ⟨rfl, rfl, rfl, by decide +kernel, rfl, by decide +kernel, by decide +kernel⟩
theorem ok_fits {f fS : Addr} {fd fdS : FuncData} {t : Tok} (F : Fun K "fits_as_d" "fits_as_d" sFits f fd) (T : Bt mg) (L : mg "TOO_LARGE" = some (.int 1000000000000000 t)) (S : Kn P w K mg base 2 "free_of_squares" ["size"] spFree fS fdS) : FnOk P w K mg base CX0 3 f fd ["d"] spFits := by
  refine F.ok scFits (fun vs H Q E h => ?_) (fun cdv A outer s H vs Q E hr h => ?_)
  · obtain ⟨a, rfl, _⟩ := h
    rfl
  · obtain ⟨a, rfl, k⟩ := h
    refine ⟨_, pss_one (ps_ret (pe_and (pe_cmpR op_ne (pv 0) pe_int (nomark _)) (pe_and (pe_cmpR op_lt (pe_callB call_abs (by rfl) T.abs (by decide +kernel) (pa_cons (pv 0) pa_nil)) (pe_glob (v := .int 1000000000000000) rfl L ⟨_, rfl⟩) (nomark _))
      (pe_one (pe_call S.ok hr rfl S.mg S.kp S.bd .nil pass0 (pa_cons (pe_callB call_abs (by rfl) T.abs (by decide +kernel) (pa_cons (pv 0) pa_nil)) pa_nil)))))), ?_⟩
    have ab : (if a < 0 then -a else a) = (a.natAbs : Int) := by split <;> omega
    refine ⟨_, rfl, rfl, _, rfl, ite_b (fun e => ?_) (fun e => ?_)⟩
    · have e' : a ≠ 0 := fun z => by rw [z] at e; exact absurd e (by decide)
      refine ⟨_, rfl, a, rfl, _, _, rfl, rfl, _, rfl, ite_b (fun e2 => ?_) (fun e2 => ?_)⟩
      · rw [ab] at e2
        have e2' : a.natAbs < 10 ^ 15 := by have := of_decide_eq_true e2; omega
        refine ⟨_, rfl, a, rfl, a.natAbs, by rw [ab]; rfl, by omega, e2', fun b H' hb s1 => k b H' ?_ s1⟩
        rw [hb]
        exact ⟨fun h => ⟨e', e2', h⟩, fun h => h.2.2⟩
      · rw [ab] at e2
        exact k false H ⟨fun z => (by cases z), fun h => absurd h.2.1 (by have := of_decide_eq_false e2; omega)⟩ (Same.refl _)
    · exact k false H ⟨fun z => (by cases z), fun h => absurd (show (!decide (V.int a = V.int 0)) = true by rw [decide_eq_false (fun z => h.1 (V.int.inj z))]; rfl) (by rw [e]; decide)⟩ (Same.refl _)
theorem scTriple : FnScope ["thing", "d", "top", "bottom"] ["thing"] (defScope sTriple) := ⟨rfl, rfl, rfl, by decide +kernel, rfl, by decide +kernel, by decide +kernel⟩
theorem ok_triple {f f1 f2 f3 f4 : Addr} {fd d1 d2 d3 d4 : FuncData} (F : Fun K "is_triple" "is_triple" sTriple f fd) (A1 : Kn P w K mg base 1 "is_tuple_of" ["thing", "many"] spTupOf f1 d1) (A2 : Kn P w K mg base 2 "all_integers" ["things"] spAllInt f2 d2)
    (A3 : Kn P w K mg base 1 "in_lowest_terms" ["top", "bottom"] spLow f3 d3) (A4 : Kn P w K mg base 3 "fits_as_d" ["d"] spFits f4 d4) : FnOk P w K mg base CX0 4 f fd ["thing"] spTriple := by
  refine F.ok scTriple (fun vs H Q E h => ?_) (fun cdv A outer s H vs Q E hr h => ?_)
  · obtain ⟨v, d, rfl, _⟩ := h
    rfl
  · obtain ⟨v, d, rfl, hd, k⟩ := h
    have r1 : Room 1 _ := hr.mono (by decide)
    have r2 : Room 2 _ := hr.mono (by decide)
    refine ⟨_, pss_cons (ps_if (pt_not (PW.pt (pw_and (pt_val (pe_call A1.ok r1 rfl A1.mg A1.kp A1.bd .nil pass0 (pa_cons (pv 0) (pa_cons pe_int pa_nil)))) (pw_and1 (pt_val (pe_call A2.ok r2 rfl A2.mg A2.kp A2.bd .nil pass0 (pa_cons (pv 0) pa_nil))))))) (pss_one (ps_ret pe_bl)) pss_nil)
      (pss_cons (ps_asg (pv 0) (pg_tup rfl (pgs_cons (pg_name (i := 1) scTriple.nd rfl (Or.inl rfl)) (pgs_cons (pg_name (i := 2) scTriple.nd rfl (Or.inl rfl)) (pgs_cons (pg_name (i := 3) scTriple.nd rfl (Or.inl rfl)) pgs_nil)))))
      (pss_one (ps_ret (pe_and (pe_cmpR op_ne (pv 2) pe_int (nomark _)) (pe_and (pe_call A3.ok r1 rfl A3.mg A3.kp A3.bd .nil pass0 (pa_cons (pv 2) (pa_cons (pv 3) pa_nil))) (pe_one (pe_call A4.ok hr rfl A4.mg A4.kp A4.bd .nil pass0 (pa_cons (pv 1) pa_nil)))))))), ?_⟩
    have no : tupN 3 d = false → ¬ TP d := fun e ⟨a, b, c, e1, _⟩ => by rw [e1] at e; cases e
    refine ⟨_, rfl, v, d, 3, rfl, hd, _, rfl, ite_b (fun e => ?_) (fun e => ?_)⟩
    · have et : isTp d = true := by cases d <;> first | rfl | cases e
      obtain ⟨a, xs, ds, rfl, rfl, ea, ra⟩ := dn_tup hd et
      have l3 : ds.length = 3 := of_decide_eq_true e
      refine ⟨_, rfl, a, xs, ds, rfl, ea, ra, by omega, fun H1 s1 => ⟨_, rfl, ?_⟩⟩
      cases e2 : ds.all isI with
      | false =>
        refine iteT ?_
        refine k false H1 ⟨fun z => (by cases z), fun ⟨a', b', c', e1, _⟩ => ?_⟩ s1
        cases e1
        cases e2
      | true =>
        refine iteF ?_
        obtain ⟨a', b', c', rfl⟩ := three_ints l3 e2
        obtain rfl := dn3 ra
        refine ⟨_, rfl, a, _, rfl, SqT.of (s1 _ _ ea), rfl, _, _, rfl, _, _, rfl, _, _, rfl, rfl, ?_⟩
        refine ⟨_, rfl, rfl, _, rfl, ite_b (fun e3 => ?_) (fun e3 => ?_)⟩
        · have e3' : b' ≠ 0 := fun z => by rw [z] at e3; exact absurd e3 (by decide)
          refine ⟨_, rfl, _, rfl, b', c', rfl, _, rfl, ite_b (fun e4 => ?_) (fun e4 => ?_)⟩
          · refine ⟨_, rfl, a', rfl, fun b H2 hb s2 => k b H2 ?_ (s1.trans s2)⟩
            rw [hb]
            exact ⟨fun h => ⟨a', b', c', rfl, e3', e4, h⟩, fun ⟨a2, b2, c2, e1, _, _, h⟩ => by cases e1; exact h⟩
          · exact k false H1 ⟨fun z => (by cases z), fun ⟨a2, b2, c2, e1, _, h, _⟩ => by cases e1; rw [e4] at h; cases h⟩ s1
        · refine k false H1 ⟨fun z => (by cases z), fun ⟨a2, b2, c2, e1, h, _, _⟩ => ?_⟩ s1
          cases e1
          rw [decide_eq_false (fun z => h (V.int.inj z))] at e3
          cases e3
    · refine iteT ?_
      exact k false H ⟨fun z => (by cases z), fun h => absurd h (no e)⟩ (Same.refl _)
end
end N3

namespace N3
open PySem PySem.Spec PyProof.Rows L2
theorem small_m {n : Nat} (h : n ≤ 1000000) : n < sizeLine := by rw [sizeLine_eq]; omega
theorem tp_shape {H : Hp} {v : V} {d : PyData} (h : Dn H v d) (t : TP d) : ∃ (p : Addr) (a b c : Int), v = .ref p ∧ d = .tuple [.int a, .int b, .int c] ∧ H p = some (.tup [.int a, .int b, .int c]) := by
  obtain ⟨a, b, c, rfl, _⟩ := t
  cases h with
  | tup e r => exact ⟨_, a, b, c, rfl, rfl, by rw [e, dn3 r]⟩
theorem dn_at {H : Hp} {xs : List V} {ds : List PyData} : ∀ {i : Nat} {d : PyData}, DnAll H xs ds → ds[i]? = some d → ∃ x, xs[i]? = some x ∧ Dn H x d := by
  intro i d r e
  have hi := (List.getElem?_eq_some_iff.mp e).1
  have hx : i < xs.length := by rw [r.length]; exact hi
  obtain ⟨d', e1, dn⟩ := r.at_ (List.getElem?_eq_getElem hx)
  rw [e] at e1
  cases e1
  exact ⟨_, List.getElem?_eq_getElem hx, dn⟩
section
variable {P : Program} {w : World} {K : PySem.W.Frag} {mg : Str → Option Value} {base : Heap}
theorem scNumber : FnScope ["thing", "triple", "k"] ["thing"] (defScope sNumber) := ⟨rfl, rfl, rfl, by decide +kernel, rfl, by decide +kernel, by decide +kernel⟩
theorem ok_number {f f1 : Addr} {fd d1 : FuncData} (F : Fun K "is_number" "is_number" sNumber f fd) (T : Bt mg) (A1 : Kn P w K mg base 4 "is_triple" ["thing"] spTriple f1 d1) : FnOk P w K mg base CX0 5 f fd ["thing"] spNumber := by
  refine F.ok scNumber (fun vs H Q E h => ?_) (fun cdv A outer s H vs Q E hr h => ?_)
  · obtain ⟨v, d, rfl, _⟩ := h
    rfl
  · obtain ⟨v, d, rfl, hd, sh, k⟩ := h
    refine ⟨_, pss_cons (ps_if (pt_not (pt_val (pe_callB call_isi (by rfl) T.isi (by decide +kernel) (pa_cons (pv 0) (pa_cons (pe_bltn (v := .ty "tuple") (by rfl) T.tuple (by decide +kernel) rfl) pa_nil))))) (pss_one (ps_ret pe_bl)) pss_nil)
      (pss_cons (ps_if (pt_not (pt_val (pe_callB (cr_all rfl) (by rfl) T.all (by decide +kernel) (pa_cons (pe_lc (own := [("triple", 1)]) (g := gName 1) (tt := tYes) rfl scNumber.nd (pi_tup (pv 0))
          (blkOk_by (own := [("triple", 1)]) (N := ["thing", "triple", "k"]) (sc := defScope sNumber) (by decide +kernel)) (fun _ _ _ _ _ => pg_name (i := 1) scNumber.nd rfl (Or.inl rfl)) (fun _ _ _ _ _ => pts_nil)
          (fun _ _ _ _ _ => pe_call A1.ok hr rfl A1.mg A1.kp A1.bd .nil pass0 (pa_cons (pv 1) pa_nil))) pa_nil)))) (pss_one (ps_ret pe_bl)) pss_nil)
      (pss_one (ps_ret (pe_callB (cr_all rfl) (by rfl) T.all (by decide +kernel) (pa_cons (pe_lc (own := [("k", 2)]) (g := gName 2) (tt := tYes) rfl scNumber.nd (pi_range1 rfl T.range (pa_cons (pe_op op_sub (pe_callB call_len (by rfl) T.len PySem.boot_len (pa_cons (pv 0) pa_nil)) pe_int) pa_nil))
          (blkOk_by (own := [("k", 2)]) (N := ["thing", "triple", "k"]) (sc := defScope sNumber) (by decide +kernel)) (fun _ _ _ _ _ => pg_name (i := 2) scNumber.nd rfl (Or.inl rfl)) (fun _ _ _ _ _ => pts_nil)
          (fun _ _ _ _ _ => pe_cmpR op_lt (pe_ix (r := rIx K) ix_seq (pe_ix (r := rIx K) ix_seq (pv 0) (pv 2) (fun _ _ => rfl)) pe_int (fun _ _ => rfl))
            (pe_ix (r := rIx K) ix_seq (pe_ix (r := rIx K) ix_seq (pv 0) (pe_op op_add (pv 2) pe_int) (fun _ _ => rfl)) pe_int (fun _ _ => rfl)) (nomark _))) pa_nil))))), ?_⟩
    refine ⟨_, rfl, v, .ty "tuple", _, _, _, rfl, .ty _, dn_ty hd, kit_ty (kit_t d), _, rfl, ?_⟩
    cases et : isTp d with
    | false =>
      refine iteT ?_
      refine k false H ⟨fun z => (by cases z), fun ⟨ds, e, _⟩ => ?_⟩ (Same.refl _)
      rw [e] at et; cases et
    | true =>
      refine iteF ?_
      obtain ⟨a, xs, ds, rfl, rfl, ea, ra⟩ := dn_tup hd et
      have hl := sh ds rfl
      refine ⟨_, rfl, a, rfl, ⟨_, SqT.of ea⟩, fun D hD => lc_tup (K := K) (a := a) (xs := xs) (fun i H' => ∃ bs : List Bool, H' D = some (.lst (bs.map V.bl)) ∧ bs.length = i ∧ (bs.all id = true ↔ ∀ j, j < i → ∀ d, ds[j]? = some d → TP d) ∧ Same H H')
        ⟨[], upd_same, rfl, by simp, snew hD⟩ (fun i H' _ ⟨_, _, _, _, s'⟩ => SqT.of (s' _ _ ea)) ?_ ?_⟩
      · rintro i x H' hx ⟨bs, e1, e2, e3, s'⟩
        obtain ⟨d, ed, dn⟩ := ra.at_ hx
        have il : i < ds.length := (List.getElem?_eq_some_iff.mp ed).1
        refine ⟨rfl, ?_⟩
        refine ⟨_, rfl, x, d, rfl, Dn.mono s' d x dn, fun b H2 hb s2 => ?_⟩
        refine ⟨_, s2 _ _ e1, by rw [List.length_map]; exact small_m (by omega), bs ++ [b], by rw [List.map_append, upd_same]; rfl, by rw [List.length_append, e2]; rfl, ?_, fun c o e => ?_⟩
        · refine all_step (p := fun j => ∀ d, ds[j]? = some d → TP d) e3 ?_
          rw [hb]
          exact ⟨fun h d' e' => by rw [ed] at e'; cases e'; exact h, fun h => h d ed⟩
        · rw [upd_ne (ne_of_none e hD)]
          exact s2 _ _ (s' _ _ e)
      · rintro H1 ⟨bs, e1, e2, e3, s1⟩
        refine ⟨D, bs, rfl, SqL.of e1, _, rfl, ?_⟩
        rw [ra.length] at e3
        have e3' : bs.all id = true ↔ ∀ x ∈ ds, TP x := e3.trans ⟨fun h x hx => by
          obtain ⟨j, hj, ej⟩ := List.mem_iff_getElem.mp hx
          exact h j hj x (by rw [List.getElem?_eq_getElem hj, ej]), fun h j _ d ed => h d (List.mem_of_getElem? ed)⟩
        cases eb : bs.all id with
        | false =>
          refine iteT ?_
          refine k false H1 ⟨fun z => (by cases z), fun ⟨ds', e, h, _⟩ => ?_⟩ s1
          cases e
          rw [e3'.mpr h] at eb; cases eb
        | true =>
          refine iteF ?_
          have tp := e3'.mp eb
          refine ⟨_, rfl, .ref a, xs.length, rfl, .inr ⟨xs, SqT.of (s1 _ _ ea), rfl⟩, _, _, rfl, rfl, _, rfl, by rw [ra.length]; omega, by rw [ra.length]; omega, fun D2 hD2 => ?_⟩
          have en : ((xs.length : Int) - 1).toNat = ds.length - 1 := by rw [ra.length]; omega
          rw [en]
          refine lc_range (lo := 0) (n := ds.length - 1) (fun i H' => ∃ cs : List Bool, H' D2 = some (.lst (cs.map V.bl)) ∧ cs.length = i ∧ (cs.all id = true ↔ ∀ j, j < i → ∀ x y, ds[j]? = some x → ds[j + 1]? = some y → hdI x < hdI y) ∧ Same H1 H')
            ⟨[], upd_same, rfl, by simp, snew hD2⟩ ?_ ?_
          · rintro i H' hi ⟨cs, c1, c2, c3, s'⟩
            have i1 : i < ds.length := by omega
            have i2 : i + 1 < ds.length := by omega
            obtain ⟨x1, ex1, dn1⟩ := dn_at ra (List.getElem?_eq_getElem i1)
            obtain ⟨x2, ex2, dn2⟩ := dn_at ra (List.getElem?_eq_getElem i2)
            obtain ⟨q1, a1, b1, c1', rfl, ed1, h1⟩ := tp_shape dn1 (tp _ (List.getElem_mem i1))
            obtain ⟨q2, a2, b2, c2', rfl, ed2, h2⟩ := tp_shape dn2 (tp _ (List.getElem_mem i2))
            have s0 := s1.trans s'
            refine ⟨rfl, ?_⟩
            refine ⟨_, rfl, _, rfl, .inr (.inl ⟨a, xs, _, _, rfl, rfl, SqT.of (s0 _ _ ea), by rw [Int.zero_add]; exact atI_nat ex1, ?_⟩)⟩
            refine .inr (.inl ⟨q1, _, _, _, rfl, rfl, SqT.of (s0 _ _ h1), rfl, ?_⟩)
            refine ⟨_, rfl, _, rfl, _, _, rfl, rfl, .inr (.inl ⟨a, xs, _, _, rfl, rfl, SqT.of (s0 _ _ ea), by rw [Int.zero_add, show ((i : Int) + 1) = ((i + 1 : Nat) : Int) by omega]; exact atI_nat ex2, ?_⟩)⟩
            refine .inr (.inl ⟨q2, _, _, _, rfl, rfl, SqT.of (s0 _ _ h2), rfl, _, _, rfl, rfl, ?_⟩)
            refine ⟨_, c1, by rw [List.length_map]; exact small_m (by omega), cs ++ [decide (a1 < a2)], by rw [List.map_append, upd_same]; rfl, by rw [List.length_append, c2]; rfl, ?_, fun c o e => ?_⟩
            · refine all_step (p := fun j => ∀ x y, ds[j]? = some x → ds[j + 1]? = some y → hdI x < hdI y) c3 ?_
              rw [decide_eq_true_iff, List.getElem?_eq_getElem i1, List.getElem?_eq_getElem i2, ed1, ed2]
              exact ⟨fun h x y e e' => by cases e; cases e'; exact h, fun h => h _ _ rfl rfl⟩
            · rw [upd_ne (ne_of_none e hD2)]
              exact s' _ _ e
          · rintro H2 ⟨cs, c1, c2, c3, s2⟩
            refine ⟨D2, cs, rfl, SqL.of c1, ?_⟩
            refine k _ H2 ?_ (s1.trans s2)
            rw [c3]
            constructor
            · intro h
              refine ⟨ds, rfl, tp, fun i x y ex ey => h i ?_ x y ex ey⟩
              have := (List.getElem?_eq_some_iff.mp ey).1
              omega
            · rintro ⟨ds', e, _, h⟩ j _ x y ex ey
              cases e
              exact h j x y ex ey
end
end N3

namespace N3
open PySem PySem.Spec PyProof.Rows L2 N2
/-- the error's class BadNumber, its __init__ -/
structure BnC (P : Program) (w : World) (K : PySem.W.Frag) (mg : Str → Option Value) (base : Heap) (x : Str) (S C fI : Addr) (fd : FuncData) : Prop where
  M : SlM K C S fI
  ok : FnOk P w K mg base CX0 2 fI fd ["self", "thing"] (spSet K)
  nm : mg x = some (.ref C)
  b1 : ∀ u, SlBnd K fd [u] [] u
abbrev Bn (P : Program) (w : World) (K : PySem.W.Frag) (mg : Str → Option Value) (base : Heap) (S C fI : Addr) (fd : FuncData) : Prop := BnC P w K mg base "BadNumber" S C fI fd
def Air (H : Hp) (E : XK) (C : Addr) (v : V) : Prop := ∀ (dx : Addr) (H' : Hp), H dx = none → H' dx = some (.xd [("thing", v)]) → Same H H' → E (.ref C) (some dx) H'
theorem Air.later {H H1 : Hp} {E : XK} {C : Addr} {v : V} (a : Air H E C v) (s : Same H H1) : Air H1 E C v := fun dx H' h1 h2 h3 => a dx H' (s.free h1) h2 (s.trans h3)
/-- a def that may raise, as callers know it -/
structure KnX (P : Program) (w : World) (K : PySem.W.Frag) (mg : Str → Option Value) (base : Heap) (k : Nat) (x : Str) (ps : List Str) (sp : Sp) (f : Addr) (fd : FuncData) : Prop where
  ok : FnOk P w K mg base (L2.CX P w) k f fd ps sp
  mg : mg x = some (.ref f)
  kp : PySem.W.keepIn K (.ref f) = true
  bd : Binds K fd ps []
/-- a promise where nothing may be raised -/
def quiet (sp : Sp) : Sp := fun vs H Q _ => sp vs H Q (fun _ _ _ => False)
theorem _root_.L2.FnOk.hush {P : Program} {w : World} {K : PySem.W.Frag} {mg : Str → Option Value} {base : Heap} {k : Nat} {f : Addr} {fd : FuncData} {ps : List Str} {sp : Sp} (F : FnOk P w K mg base (L2.CX P w) k f fd ps sp) : FnOk P w K mg base CX0 k f fd ps (quiet sp) :=
  ⟨fun vs H Q E h => F.len vs H Q _ h, fun A outer s H args us vs Q E hr e0 hb hv h => codeAny_mono (F.run A outer s H args us vs Q _ hr e0 hb hv h) fun r s' hq => by
    cases r with
    | error e =>
      obtain ⟨_, _, _, _, _, _, _, _, _, _, _, _, z⟩ := hq
      exact z.elim
    | ok fl => cases fl <;> exact hq⟩
theorem KnX.hush {P : Program} {w : World} {K : PySem.W.Frag} {mg : Str → Option Value} {base : Heap} {k : Nat} {x : Str} {ps : List Str} {sp : Sp} {f : Addr} {fd : FuncData} (A : KnX P w K mg base k x ps sp f fd) : Kn P w K mg base k x ps (quiet sp) f fd := ⟨A.ok.hush, A.mg, A.kp, A.bd⟩
end N3

namespace N3
open PySem PySem.Spec PyProof.Rows L2
def FP (d : PyData) : Prop := NP d ∧ ∃ ds, d = .tuple ds ∧ (ds.length = 0 ∨ (ds.length = 1 ∧ ∀ x, ds[0]? = some x → hdI x = 1))
def spFraction : Sp := fun vs H Q _ => ∃ (v : V) (d : PyData), vs = [v] ∧ Dn H v d ∧ Short d ∧ ∀ (b : Bool) (H' : Hp), (b = true ↔ FP d) → Same H H' → Q (.bl b) H'
def spCheck (C : Addr) : Sp := fun vs H Q E => ∃ (v : V) (d : PyData), vs = [v] ∧ Dn H v d ∧ Short d ∧ (NP d → ∀ H', Same H H' → Q .non H') ∧ (¬ NP d → Air H E C v)
def intOf : List PyData → PyData
  | [] => .int 0
  | [.tuple [.int a, .int b, .int c]] => if a = 1 ∧ c = 1 then .int b else .none
  | _ => .none
def spIntOf (C : Addr) : Sp := fun vs H Q E => ∃ (v : V) (d : PyData), vs = [v] ∧ Dn H v d ∧ Short d ∧ (∀ ds, d = .tuple ds → NP d → ∀ r H', Dn H' r (intOf ds) → Same H H' → Q r H') ∧ (¬ NP d → Air H E C v)
theorem np_dp {K : PySem.W.Frag} {H : Hp} : ∀ {xs : List V} {ds : List PyData}, DnAll H xs ds → (∀ x ∈ ds, TP x) → DpAll K H xs ds
  | _, _, .nil, _ => .nil
  | _, _, .cons (v := v) (d := d) h r, t => by
    obtain ⟨p, a, b, c, e1, e2, e3⟩ := tp_shape h (t _ List.mem_cons_self)
    rw [e1, e2]
    exact .cons (.tup (SqT.of e3) (.cons (.int a) (.cons (.int b) (.cons (.int c) .nil)))) (np_dp r fun x hx => t x (List.mem_cons_of_mem _ hx))
theorem np_lay : ∀ {ds : List PyData}, (∀ x ∈ ds, TP x) → PyData.canLayAll0 ds = true ∧ PyData.depthAll ds ≤ 1
  | [], _ => by simp [PyData.canLayAll0, PyData.depthAll]
  | d :: ds, t => by
    obtain ⟨a, b, c, e, _⟩ := t d List.mem_cons_self
    obtain ⟨h1, h2⟩ := np_lay (ds := ds) fun x hx => t x (List.mem_cons_of_mem _ hx)
    subst e
    refine ⟨by simp [PyData.canLayAll0, PyData.canLay0, h1], ?_⟩
    simp only [PyData.depthAll, PyData.depth]
    omega
theorem np_shaped {ds : List PyData} (t : ∀ x ∈ ds, TP x) : SeqAt.shaped (.tuple ds) = true := by
  obtain ⟨h1, h2⟩ := np_lay t
  show (PyData.canLay0 (.tuple ds) && decide (PyData.depth (.tuple ds) ≤ 64)) = true
  rw [Bool.and_eq_true]
  exact ⟨by simp only [PyData.canLay0]; exact h1, decide_eq_true (by simp only [PyData.depth]; omega)⟩
theorem eqv_nil_t (ds : List PyData) : PyData.eqv (.tuple ds) (.tuple []) = ds.isEmpty := by
  cases ds <;> simp [PyData.eqv, PyData.eqvAll]
section
variable {P : Program} {w : World} {K : PySem.W.Frag} {mg : Str → Option Value} {base : Heap}
theorem dec_len {n : Nat} {k : Nat} : decide (V.int (n : Int) = V.int (k : Int)) = decide (n = k) := decide_eq_decide.mpr ⟨fun h => by have := V.int.inj h; omega, fun h => by rw [h]⟩
/-- the program's whole_number of a number -/
def spWhole : Sp := fun vs H Q _ => ∃ (v : V) (d : PyData), vs = [v] ∧ Dn H v d ∧ NP d ∧ ∀ ds, d = .tuple ds → ∀ r H', Dn H' r (intOf ds) → Same H H' → Q r H'
end
end N3

namespace N3
open PySem PySem.Spec PyProof.Rows L2
/-! ### plain data that the program's top has written -/
mutual
inductive WrD (K : PySem.W.Frag) : Value → PyData → Prop
  | int (i : Int) (t : Tok) : WrD K (.int i t) (.int i)
  | str (x : Str) (t : Tok) : WrD K (.str x t) (.str x)
  | tup {a : Addr} {od : Option Addr} {its : Array Value} {n : Nat} {sl : Array (Option Value)} {ds : List PyData} (l : K.lookup a = some ⟨.type "tuple", od, .seq its n, sl⟩) (hn : ds.length ≤ 1000) (r : WrL K its.toList ds) : WrD K (.ref a) (.tuple ds)
inductive WrL (K : PySem.W.Frag) : List Value → List PyData → Prop
  | nil : WrL K [] []
  | cons {v : Value} {d : PyData} {vs : List Value} {ds : List PyData} (h : WrD K v d) (r : WrL K vs ds) : WrL K (v :: vs) (d :: ds)
end
/-- written data, as values -/
inductive Wv (K : PySem.W.Frag) : V → PyData → Prop
  | int (i : Int) : Wv K (.int i) (.int i)
  | str (x : Str) : Wv K (.str x) (.str x)
  | tup {a : Addr} {xs : List V} {ds : List PyData} (l : ∀ H, SqT K H a xs) (hn : xs.length = ds.length) (r : ∀ (i : Nat) (x : V) (d : PyData), xs[i]? = some x → ds[i]? = some d → Wv K x d) : Wv K (.ref a) (.tuple ds)
mutual
theorem wv_of {K : PySem.W.Frag} : ∀ {v : Value} {d : PyData}, WrD K v d → ∃ x, RelV x v ∧ Wv K x d
  | _, _, .int i t => ⟨.int i, ⟨t, rfl⟩, .int i⟩
  | _, _, .str x t => ⟨.str x, ⟨t, rfl⟩, .str x⟩
  | _, _, .tup (a := a) (its := its) l hn r => by
    obtain ⟨xs, rv, hl, w⟩ := wl_of r
    have sz : its.size ≤ sizeLine := by
      have h1 := rv.length
      have h2 : its.toList.length = its.size := Array.length_toList
      have h3 : 1000 ≤ sizeLine := by rw [sizeLine_eq]; decide
      omega
    exact ⟨.ref a, rfl, .tup (fun H => .inr ⟨_, its, _, l, rfl, rfl, sz, rv⟩) hl w⟩
theorem wl_of {K : PySem.W.Frag} : ∀ {vs : List Value} {ds : List PyData}, WrL K vs ds → ∃ xs : List V, Vals xs vs ∧ xs.length = ds.length ∧ ∀ (i : Nat) (x : V) (d : PyData), xs[i]? = some x → ds[i]? = some d → Wv K x d
  | _, _, .nil => ⟨[], .nil, rfl, fun i x d h _ => by simp at h⟩
  | _, _, .cons h r => by
    obtain ⟨x, rx, wx⟩ := wv_of h
    obtain ⟨xs, rv, hl, w⟩ := wl_of r
    refine ⟨x :: xs, .cons rx rv, by rw [List.length_cons, List.length_cons, hl], fun i y d hy hd => ?_⟩
    cases i with
    | zero => cases hy; cases hd; exact wx
    | succ i => exact w i y d hy hd
end
theorem wv_ref {K : PySem.W.Frag} {a : Addr} {d : PyData} (h : WrD K (.ref a) d) : Wv K (.ref a) d := by
  obtain ⟨x, r, w⟩ := wv_of h
  cases w with
  | int i => obtain ⟨t, e⟩ := r; cases e
  | str i => obtain ⟨t, e⟩ := r; cases e
  | tup l hn w =>
    have e : Value.ref a = Value.ref _ := r
    cases e
    exact .tup l hn w
theorem wv_int {K : PySem.W.Frag} {x : V} {i : Int} (h : Wv K x (.int i)) : x = .int i := by cases h; rfl
theorem wv_str {K : PySem.W.Frag} {x : V} {s : Str} (h : Wv K x (.str s)) : x = .str s := by cases h; rfl
theorem wv_tup {K : PySem.W.Frag} {x : V} {ds : List PyData} (h : Wv K x (.tuple ds)) : ∃ (a : Addr) (xs : List V), x = .ref a ∧ (∀ H, SqT K H a xs) ∧ xs.length = ds.length ∧ ∀ (i : Nat) (y : V) (d : PyData), xs[i]? = some y → ds[i]? = some d → Wv K y d := by
  cases h with
  | tup l hn r => exact ⟨_, _, rfl, l, hn, r⟩
theorem wv_pair {K : PySem.W.Frag} {x : V} {t b : Int} (h : Wv K x (.tuple [.int t, .int b])) : ∃ a : Addr, x = .ref a ∧ ∀ H, SqT K H a [.int t, .int b] := by
  obtain ⟨a, xs, rfl, l, hn, r⟩ := wv_tup h
  match xs, hn with
  | [y, z], _ =>
    obtain rfl := wv_int (r 0 _ _ rfl rfl)
    obtain rfl := wv_int (r 1 _ _ rfl rfl)
    exact ⟨a, rfl, l⟩
end N3

namespace N3
open PySem PySem.Spec PyProof.Rows L2
def dkv (x y z : V) : List (Key × V) := [(Sum.inr "cells", x), (Sum.inr "mixed", y), (Sum.inr "turn", z)]
/-- a deck stands at dk, its list at l -/
def Deck (H : Hp) (dk l : Addr) : Prop := ∃ (ns : List Int) (m j : Int), H dk = some (.dK (dkv (.ref l) (.int m) (.int j))) ∧ H l = some (.lst (ns.map V.int)) ∧ ns.length ≤ 63
def Keep (dk l : Addr) (H H' : Hp) : Prop := ∀ b o, H b = some o → b ≠ dk → b ≠ l → H' b = some o
theorem Keep.of {dk l : Addr} {H H' : Hp} (h : Same H H') : Keep dk l H H' := fun b o e _ _ => h b o e
theorem Keep.trans {dk l : Addr} {H H1 H2 : Hp} (h : Keep dk l H H1) (k : Keep dk l H1 H2) : Keep dk l H H2 := fun b o e h1 h2 => k b o (h b o e h1 h2) h1 h2
theorem Deck.same {H H' : Hp} {dk l : Addr} (D : Deck H dk l) (h : Same H H') : Deck H' dk l := by
  obtain ⟨ns, m, j, h1, h2, h3⟩ := D
  exact ⟨ns, m, j, h _ _ h1, h _ _ h2, h3⟩
theorem Deck.ne {H : Hp} {dk l : Addr} (D : Deck H dk l) : dk ≠ l := by
  obtain ⟨ns, m, j, h1, h2, h3⟩ := D
  exact ne_of h1 h2 (by intro z; cases z)
theorem map_get {ns : List Int} {i : Nat} {y : V} (h : (ns.map V.int)[i]? = some y) : ∃ z : Int, ns[i]? = some z ∧ y = .int z := by
  rw [List.getElem?_map] at h
  cases e : ns[i]? with
  | none => rw [e] at h; cases h
  | some z => rw [e] at h; exact ⟨z, rfl, (Option.some.inj h).symm⟩
theorem cut_ints (ns : List Int) (lo hi : Option Int) : ∃ ms : List Int, cutV (ns.map V.int) lo hi = ms.map V.int ∧ ms.length ≤ ns.length := by
  unfold cutV
  refine ⟨(ns.drop (HT.sIx (ns.map V.int).length 0 lo)).take (HT.sIx (ns.map V.int).length (ns.map V.int).length hi - HT.sIx (ns.map V.int).length 0 lo), ?_, ?_⟩
  · rw [List.map_take, List.map_drop]
  · rw [List.length_take, List.length_drop]; omega
theorem kLM : ¬ (("cells" : Str) = "mixed") := by decide +kernel
theorem kLD : ¬ (("cells" : Str) = "turn") := by decide +kernel
theorem kMD : ¬ (("mixed" : Str) = "turn") := by decide +kernel
theorem deck3 (x y z : V) : mergeK [] (dkv x y z) = dkv x y z := by
  have h1 := kLM
  have h2 := kLD
  have h3 := kMD
  simp [mergeK, putK, dkv, h1, h2, h3]
def spDeck (K : PySem.W.Frag) : Sp := fun vs H Q _ => ∃ (a : Addr) (ns : List Int), vs = [.ref a] ∧ SqL K H a (ns.map V.int) ∧ ns.length ≤ 63 ∧
  ∀ (H' : Hp) (dk l : Addr), Deck H' dk l → Same H H' → H dk = none → H l = none → Q (.ref dk) H'
section
variable {P : Program} {w : World} {K : PySem.W.Frag} {mg : Str → Option Value} {base : Heap}
abbrev s__law_deck : Stmt := top 54
theorem sc__law_deck : FnScope ["script", "mixed", "cell"] ["script"] (defScope s__law_deck) := ⟨rfl, rfl, rfl, by decide +kernel, rfl, by decide +kernel, by decide +kernel⟩
theorem ok__law_deck {f  : Addr} {fd  : FuncData}  (F : Fun K "_law_deck" "_law_deck" s__law_deck f fd) (T : Bt mg)  : FnOk P w K mg base CX0 1 f fd ["script"] (spDeck K) := by
  refine F.ok sc__law_deck (fun vs H Q E h => ?_) (fun cdv A outer s H vs Q E hr h => ?_)
  · obtain ⟨a, ns, rfl, _⟩ := h
    rfl
  · obtain ⟨a, ns, rfl, hS, hl, k⟩ := h
    refine ⟨_, pss_cons (ps_set (i := 1) sc__law_deck.nd rfl (Or.inl rfl) pe_int)
      (pss_cons (ps_for PassesOwn.never rfl (pi_list (pe_slice sl_list (pv 0) po_none (po_some pe_int))) (pg_name (i := 2) sc__law_deck.nd rfl (Or.inl rfl))
        (pss_one (ps_set (i := 1) sc__law_deck.nd rfl (Or.inl rfl) (pe_op op_mod (pe_callTy call_int1 (by rfl) T.int (by decide +kernel) (pa_cons (pe_op op_add (pe_op op_add (pe_op op_mul (pv 1) pe_int) (pe_op op_mod (pe_callTy call_int1 (by rfl) T.int (by decide +kernel) (pa_cons (pv 2) pa_nil)) pe_int)) pe_int) pa_nil)) pe_int))))
      (pss_one (ps_ret (pe_disp (pps_cons pe_str (pe_revL (pe_lc (own := [("cell", 2)]) (g := (gName 2)) (tt := tYes) rfl sc__law_deck.nd (pi_list (pe_slice sl_list (pv 0) po_none (po_some pe_int))) (blkOk_by (own := [("cell", 2)]) (N := ["script", "mixed", "cell"]) (sc := defScope s__law_deck) (by decide +kernel)) (fun _ _ _ _ _ => pg_name (i := 2) sc__law_deck.nd rfl (Or.inl rfl)) (fun _ _ _ _ _ => pts_nil) (fun _ _ _ _ _ => (pe_callTy call_int1 (by rfl) T.int (by decide +kernel) (pa_cons (pv 2) pa_nil))))) (pps_cons pe_str (pv 1) (pps_cons pe_str pe_int pps_nil))) (by rfl) (by rfl) (fun z => by cases z) (by decide))))), ?_⟩
    obtain ⟨ms, em, hm⟩ := cut_ints ns none (some 63)
    refine ⟨_, rfl, _, rfl, a, _, rfl, hS, fun p hp => ⟨p, rfl, ⟨_, SqL.of upd_same⟩, ?_⟩⟩
    rw [em]
    refine for_list (K := K) (a := p) (xs := ms.map V.int) (fun i σ H' => ∃ (m : Int) (v : Option V), σ = [some (.ref a), some (.int m), v] ∧ H' = upd H p (.lst (ms.map V.int)))
      ⟨_, none, rfl, rfl⟩ (fun i σ H' _ ⟨_, _, _, e⟩ => by rw [e]; exact SqL.of upd_same) ?_ ?_
    · rintro i y σ H' hi ⟨m, v, rfl, rfl⟩
      obtain ⟨z, hz, rfl⟩ := map_get hi
      refine ⟨_, rfl, _, _, rfl, rfl, .inr ⟨by decide, by decide⟩, ?_⟩
      refine ⟨_, rfl, .inl ⟨_, rfl, ?_⟩⟩
      refine ⟨_, _, rfl, rfl, (by show (0 : Int) < 2147483497; decide), ?_⟩
      refine ⟨_, _, rfl, rfl, _, _, rfl, rfl, .inl ⟨_, rfl, ?_⟩⟩
      exact ⟨_, _, rfl, rfl, (by show (0 : Int) < 2147483629; decide), _, _, rfl, rfl⟩
    · rintro σ H' ⟨m, v, rfl, rfl⟩
      have s1 : Same H (upd H p (.lst (ms.map V.int))) := snew hp
      intro d hd
      have sd := snew (o := .dK []) hd
      refine ⟨_, rfl, _, rfl, a, ns.map V.int, rfl, (s1.trans sd).seq hS, fun p2 hp2 => ?_⟩
      rw [em]
      have s2 := snew (o := .lst (ms.map V.int)) hp2
      refine ⟨p2, rfl, ⟨_, SqL.of upd_same⟩, fun D hD => ?_⟩
      refine lc_list (K := K) (a := p2) (xs := ms.map V.int) (fun i H' => H' D = some (.lst ((ms.take i).map V.int)) ∧ Same (upd (upd (upd H p (.lst (ms.map V.int))) d (.dK [])) p2 (.lst (ms.map V.int))) H')
        ⟨upd_same, snew hD⟩ (fun i H' _ e => SqL.of (e.2 _ _ upd_same)) ?_ ?_
      · rintro i y H' hi ⟨e1, e2⟩
        obtain ⟨z, hz, rfl⟩ := map_get hi
        refine ⟨rfl, ?_⟩
        have il : i < ms.length := (List.getElem?_eq_some_iff.mp hz).1
        refine ⟨_, rfl, .inl ⟨z, rfl, _, e1, ?_, ?_, fun b o e => ?_⟩⟩
        · rw [List.length_map, List.length_take]; exact small1000 (by omega)
        · rw [List.take_add_one, hz, upd_same, List.map_append]; rfl
        · rw [upd_ne (ne_of_none e hD)]; exact e2 _ _ e
      · rintro H' ⟨e1, e2⟩
        rw [List.length_map, List.take_length] at e1
        refine ⟨D, _, rfl, SqL.of e1, fun p4 hp4 => ?_⟩
        have s4 := e2.trans (snew (o := .lst ((ms.map V.int)).reverse) hp4)
        have hd4 := s4 _ _ (s2 _ _ upd_same)
        have nd4 : d ≠ p4 := ne_of_none (e2 _ _ (s2 _ _ upd_same)) hp4
        refine ⟨_, rfl, hd4, dkv (.ref p4) (.int m) (.int 0), rfl, (by show 3 ≤ 15; decide), ?_⟩
        have e4 := deck3 (.ref p4) (.int m) (.int 0)
        have f4 : H p4 = none := s1.free (sd.free (s2.free (e2.free hp4)))
        refine k _ d p4 ⟨ms.reverse, m, 0, ?_, ?_, ?_⟩ (fun b o e => ?_) (s1.free hd) f4
        · exact upd_same.trans (congrArg (fun l => some (HO.dK l)) e4)
        · rw [upd_ne nd4.symm, List.map_reverse]; exact upd_same
        · rw [List.length_reverse]; omega
        · have e1 := s1 b o e
          rw [upd_ne (ne_of_none e1 hd)]
          exact s4 _ _ (s2 _ _ (sd _ _ e1))
end
theorem val_left (x y z : V) : valV (dkv x y z) (Sum.inr "cells" : Key) = some x := valV_pos rfl
theorem val_mixed (x y z : V) : valV (dkv x y z) (Sum.inr "mixed" : Key) = some y := by
  unfold dkv
  rw [valV_neg (by show ¬ (Sum.inr ("cells" : Str) : Key) = Sum.inr ("mixed" : Str); exact fun e => kLM (Sum.inr.inj e)), valV_pos rfl]
theorem val_draws (x y z : V) : valV (dkv x y z) (Sum.inr "turn" : Key) = some z := by
  unfold dkv
  rw [valV_neg (by show ¬ (Sum.inr ("cells" : Str) : Key) = Sum.inr ("turn" : Str); exact fun e => kLD (Sum.inr.inj e)),
    valV_neg (by show ¬ (Sum.inr ("mixed" : Str) : Key) = Sum.inr ("turn" : Str); exact fun e => kMD (Sum.inr.inj e)), valV_pos rfl]
theorem put_draws (x y z v : V) : putK (dkv x y z) (Sum.inr "turn" : Key) v = dkv x y v := by
  have h1 := kLD
  have h2 := kMD
  simp [putK, dkv, h1, h2]
theorem put_mixed (x y z v : V) : putK (dkv x y z) (Sum.inr "mixed" : Key) v = dkv x v z := by
  have h1 := kLM
  have h2 : ¬ (("turn" : Str) = "mixed") := fun e => kMD e.symm
  simp [putK, dkv, h1, h2]
theorem dk_get {H : Hp} {d : Addr} {x y z : V} {k : Str} {v : V} (h : H d = some (.dK (dkv x y z))) (e : valV (dkv x y z) (Sum.inr k : Key) = some v) : DGet H d (.str k) (some v) := by
  rw [← e]
  exact DGet.k (k := Sum.inr k) h
theorem dk_put {H : Hp} {d : Addr} {x y z : V} {k : Str} {v : V} {l : List (Key × V)} (h : H d = some (.dK (dkv x y z))) (e : putK (dkv x y z) (Sum.inr k : Key) v = l) : DPut H d (.str k) v (upd H d (.dK l)) := by
  rw [← e]
  exact DPut.k (k := Sum.inr k) h (by show 3 < sizeLine; rw [sizeLine_eq]; decide)
theorem ints_lay : ∀ ns : List Int, PyData.canLayAll0 (ns.map PyData.int) = true
  | [] => by simp [PyData.canLayAll0]
  | z :: zs => by simp [PyData.canLayAll0, PyData.canLay0, ints_lay zs]
theorem ints_deep : ∀ ns : List Int, PyData.depthAll (ns.map PyData.int) = 0
  | [] => by simp [PyData.depthAll]
  | z :: zs => by simp [PyData.depthAll, PyData.depth, ints_deep zs]
theorem ints_shaped (ns : List Int) : SeqAt.shaped (.list (ns.map PyData.int)) = true := by
  have h1 := ints_deep ns
  show (PyData.canLay0 (.list (ns.map PyData.int)) && decide (PyData.depth (.list (ns.map PyData.int)) ≤ 64)) = true
  rw [Bool.and_eq_true]
  exact ⟨by simp only [PyData.canLay0]; exact ints_lay ns, decide_eq_true (by simp only [PyData.depth]; omega)⟩
theorem nil_shaped : SeqAt.shaped (.list []) = true := ints_shaped []
theorem eqv_nil (ds : List PyData) : PyData.eqv (.list ds) (.list []) = ds.isEmpty := by
  cases ds <;> simp [PyData.eqv, PyData.eqvAll]
theorem ints_dp {K : PySem.W.Frag} {H : Hp} : ∀ ns : List Int, DpAll K H (ns.map V.int) (ns.map PyData.int)
  | [] => .nil
  | z :: zs => .cons (.int z) (ints_dp zs)
/-- a draw: some number below many; the deck alone changes -/
def spDraw : Sp := fun vs H Q _ => ∃ (dk l : Addr) (many : Int), vs = [.ref dk, .int many] ∧ Deck H dk l ∧ 0 < many ∧ many < 1073741824 ∧
  ∀ (r : Int) (H' : Hp), 0 ≤ r → r < many → Deck H' dk l → Keep dk l H H' → Q (.int r) H'
section
variable {P : Program} {w : World} {K : PySem.W.Frag} {mg : Str → Option Value} {base : Heap}
abbrev s__law_draw : Stmt := top 55
theorem sc__law_draw : FnScope ["deck", "below", "figure", "cell"] ["deck", "below"] (defScope s__law_draw) := ⟨rfl, rfl, rfl, by decide +kernel, rfl, by decide +kernel, by decide +kernel⟩
theorem ok__law_draw {f  : Addr} {fd  : FuncData}  (F : Fun K "_law_draw" "_law_draw" s__law_draw f fd) (T : Bt mg)  : FnOk P w K mg base CX0 1 f fd ["deck", "below"] spDraw := by
  refine F.ok sc__law_draw (fun vs H Q E h => ?_) (fun cdv A outer s H vs Q E hr h => ?_)
  · obtain ⟨dk, l, many, rfl, _⟩ := h
    rfl
  · obtain ⟨dk, l, many, rfl, D, m0, m1, k⟩ := h
    have hu := hu_of hr
    refine ⟨_, pss_cons (ps_dput hu (pv 0) pe_str (pe_op op_add (pe_dget hu (pv 0) pe_str (fun _ _ => rfl)) pe_int) rfl)
      (pss_cons (ps_set (i := 2) sc__law_draw.nd rfl (Or.inl rfl) (pe_op op_add (pe_dget hu (pv 0) pe_str (fun _ _ => rfl)) (pe_op op_mul pe_int (pe_dget hu (pv 0) pe_str (fun _ _ => rfl)))))
      (C8.pss_cut (ps_if (pt_cmpR (op_neD hr.units) (pe_dget hu (pv 0) pe_str (fun _ _ => rfl)) (pe_lst pa_nil) (nomark _))
        (pss_cons (ps_set (i := 3) sc__law_draw.nd rfl (Or.inl rfl) (pe_bm0 PySem.F.plainAttrs_list PySem.F.slot_list_pop PySem.F.type_list_pop mt_pop (pe_dget hu (pv 0) pe_str (fun _ _ => rfl))))
        (pss_cons (ps_if (pt_cmpR op_ge (pv 3) (pe_op op_pow pe_int pe_int) (nomark _))
          (pss_cons (ps_expr (pe_bm PySem.F.plainAttrs_list PySem.F.slot_list_append PySem.F.type_list_append mt_append (pe_dget hu (pv 0) pe_str (fun _ _ => rfl)) (pa_cons (pe_op op_fdiv (pv 3) (pe_callB (call_max2 rfl) (by rfl) T.max (by decide +kernel) (pa_cons pe_int (pa_cons (pv 1) pa_nil)))) pa_nil)))
          (pss_one (ps_ret (pe_op op_mod (pe_callTy call_int1 (by rfl) T.int (by decide +kernel) (pa_cons (pv 3) pa_nil)) (pv 1)))))
          pss_nil)
        (pss_one (ps_set (i := 2) sc__law_draw.nd rfl (Or.inl rfl) (pe_op op_add (pv 2) (pe_op op_mod (pe_callTy call_int1 (by rfl) T.int (by decide +kernel) (pa_cons (pv 3) pa_nil)) pe_int))))))
        pss_nil)
      (pss_cons (ps_set (i := 2) sc__law_draw.nd rfl (Or.inl rfl) (pe_op op_mod (pe_callTy call_int1 (by rfl) T.int (by decide +kernel) (pa_cons (pe_op op_add (pe_op op_mul (pv 2) pe_int) pe_int) pa_nil)) pe_int))
      (pss_cons (ps_set (i := 2) sc__law_draw.nd rfl (Or.inl rfl) (pe_op op_mod (pe_callTy call_int1 (by rfl) T.int (by decide +kernel) (pa_cons (pe_op op_add (pe_op op_add (pe_op op_mul (pv 2) (pv 2)) (pe_op op_mul pe_int (pe_dget hu (pv 0) pe_str (fun _ _ => rfl)))) pe_int) pa_nil)) pe_int))
      (pss_cons (ps_set (i := 2) sc__law_draw.nd rfl (Or.inl rfl) (pe_op op_mod (pe_callTy call_int1 (by rfl) T.int (by decide +kernel) (pa_cons (pe_op op_mul (pv 2) pe_int) pa_nil)) pe_int))
      (pss_one (ps_ret (pe_op op_mod (pe_callTy call_int1 (by rfl) T.int (by decide +kernel) (pa_cons (pe_op op_fdiv (pv 2) pe_int) pa_nil)) (pv 1))))))))), ?_⟩
    obtain ⟨ns, m, j, h1, h2, h3⟩ := id D
    have ne := D.ne
    refine ⟨_, rfl, dk, _, rfl, dk_get h1 (val_draws _ _ _), _, _, rfl, rfl, _, rfl, dk, _, rfl, dk_put h1 (put_draws _ _ _ _), ?_⟩
    have g1 : (upd H dk (.dK (dkv (.ref l) (.int m) (.int (j + 1))))) dk = some (.dK (dkv (.ref l) (.int m) (.int (j + 1)))) := upd_same
    have g2 : (upd H dk (.dK (dkv (.ref l) (.int m) (.int (j + 1))))) l = some (.lst (ns.map V.int)) := by rw [upd_ne ne.symm]; exact h2
    have kp : Keep dk l H (upd H dk (.dK (dkv (.ref l) (.int m) (.int (j + 1))))) := fun b o e hb _ => by rw [upd_ne hb]; exact e
    refine ⟨_, rfl, dk, _, rfl, dk_get g1 (val_mixed _ _ _), _, rfl, dk, _, rfl, dk_get g1 (val_draws _ _ _), _, _, rfl, rfl, .inl ⟨by decide, by decide⟩, _, _, rfl, rfl, ?_⟩
    refine ⟨fun σ' H' => ∃ (fg : Int) (c : Option V), σ' = [some (.ref dk), some (.int many), some (.int fg), c] ∧ Deck H' dk l ∧ Keep dk l H H', ?_, ?_⟩
    · refine ⟨_, rfl, dk, _, rfl, dk_get g1 (val_left _ _ _), ?_⟩
      refine ⟨(by show 0 ≤ sizeLine; exact Nat.zero_le _), fun p hp => ⟨.list (ns.map PyData.int), .list [], .lst (SqL.of ((snew hp) _ _ g2)) (ints_dp ns), .lst (SqL.of upd_same) .nil, ints_shaped ns, nil_shaped, _, rfl, ?_⟩⟩
      rw [eqv_nil]
      have sp := snew (o := .lst []) hp
      have q1 := sp _ _ g1
      have q2 := sp _ _ g2
      have kp1 := kp.trans (Keep.of sp)
      cases ns with
      | nil =>
        refine iteF ?_
        exact ⟨_, none, rfl, ⟨[], m, j + 1, q1, q2, h3⟩, kp1⟩
      | cons z zs =>
        refine iteT ?_
        obtain ⟨H1, eH1⟩ : ∃ H1, upd (upd H dk (.dK (dkv (.ref l) (.int m) (.int (j + 1))))) p (.lst []) = H1 := ⟨_, rfl⟩
        rw [eH1] at q1 q2 kp1
        show (tSeq _ _) _ _ (upd (upd H dk (.dK (dkv (.ref l) (.int m) (.int (j + 1))))) p (.lst []))
        rw [eH1]
        obtain ⟨y, hy⟩ : ∃ y : Int, ((z :: zs).map V.int)[((z :: zs).map V.int).length - 1]? = some (.int y) := by
          rw [List.length_map, List.getElem?_map]
          have hlt : (z :: zs).length - 1 < (z :: zs).length := by show zs.length < zs.length + 1; omega
          exact ⟨(z :: zs)[(z :: zs).length - 1], by rw [List.getElem?_eq_getElem hlt]; rfl⟩
        have hdl : ((z :: zs).map V.int).dropLast = ((z :: zs).dropLast).map V.int := by rw [List.map_dropLast]
        have hlen : ((z :: zs).dropLast).length ≤ 62 := by rw [List.length_dropLast]; omega
        refine ⟨_, rfl, dk, _, rfl, dk_get q1 (val_left _ _ _), .inl ⟨rfl, _, .inl (.inl q2)⟩, l, _, _, rfl, rfl, q2, hy, ?_⟩
        rw [hdl]
        have n1 : (upd H1 l (.lst (((z :: zs).dropLast).map V.int))) dk = some (.dK (dkv (.ref l) (.int m) (.int (j + 1)))) := by rw [upd_ne ne]; exact q1
        have kp2 : Keep dk l H (upd H1 l (.lst (((z :: zs).dropLast).map V.int))) := fun b o e hb hl => by rw [upd_ne hl]; exact kp1 b o e hb hl
        refine ⟨_, rfl, _, _, rfl, rfl, ⟨by decide, by decide, by decide⟩, _, _, rfl, rfl, _, rfl, ite2 (fun _ => ?_) (fun _ => ?_)⟩
        · refine ⟨_, rfl, dk, _, rfl, dk_get n1 (val_left _ _ _), .inl ⟨rfl, _, .inl (.inl upd_same)⟩, ?_⟩
          refine ⟨_, rfl, _, rfl, _, _, rfl, ?_⟩
          have cd : CDiv y (if many > 2 then many else 2) := by
            by_cases c : many > 2
            · rw [if_pos c]; exact ⟨m0, m1⟩
            · rw [if_neg c]; exact ⟨by decide, by decide⟩
          obtain ⟨by_, eby⟩ : ∃ b, (if many > 2 then many else 2) = b := ⟨_, rfl⟩
          rw [eby] at cd
          refine ⟨y, by_, rfl, (by rw [← eby]), cd, l, _, _, rfl, rfl, upd_same, small1000 (by rw [List.length_map]; omega), ?_⟩
          refine ⟨_, rfl, .inl ⟨_, rfl, _, rfl, _, _, rfl, rfl, m0, ?_⟩⟩
          refine k _ _ (Int.emod_nonneg _ (by omega)) (Int.emod_lt_of_pos _ m0) ⟨(z :: zs).dropLast ++ [y / by_], m, j + 1, ?_, ?_, ?_⟩ fun b o e hb hl => ?_
          · rw [upd_ne ne]; exact n1
          · rw [upd_same, List.map_append]; rfl
          · rw [List.length_append]; show _ + 1 ≤ 63; omega
          · rw [upd_ne hl]; exact kp2 b o e hb hl
        · refine ⟨_, rfl, _, rfl, .inl ⟨_, rfl, _, _, rfl, rfl, (by show (0 : Int) < 2147483497; decide), _, _, rfl, rfl, ?_⟩⟩
          exact ⟨_, some (.int y), rfl, ⟨(z :: zs).dropLast, m, j + 1, n1, upd_same, by omega⟩, kp2⟩
    · rintro σ' H' ⟨fg, c, rfl, ⟨ns', m', j', e1, e2, e3⟩, kp'⟩
      refine ⟨_, rfl, _, _, rfl, rfl, .inr ⟨by decide, by decide⟩, _, _, rfl, rfl, .inl ⟨_, rfl, _, _, rfl, rfl, (by show (0 : Int) < 2147483587; decide), ?_⟩⟩
      refine ⟨_, rfl, _, rfl, _, _, rfl, rfl, .inl ⟨by omega, by omega⟩, ?_⟩
      refine ⟨_, rfl, dk, _, rfl, dk_get e1 (val_draws _ _ _), _, _, rfl, rfl, .inl ⟨by decide, by decide⟩, _, _, rfl, rfl, _, _, rfl, rfl, .inl ⟨_, rfl, _, _, rfl, rfl, (by show (0 : Int) < 2147483629; decide), ?_⟩⟩
      refine ⟨_, rfl, _, _, rfl, rfl, .inr ⟨by decide, by decide⟩, .inl ⟨_, rfl, _, _, rfl, rfl, (by show (0 : Int) < 2147483543; decide), ?_⟩⟩
      refine ⟨_, rfl, _, _, rfl, rfl, ⟨by decide, by decide⟩, .inl ⟨_, rfl, _, rfl, _, _, rfl, rfl, m0, ?_⟩⟩
      exact k _ _ (Int.emod_nonneg _ (by omega)) (Int.emod_lt_of_pos _ m0) ⟨ns', m', j', e1, e2, e3⟩ kp'
end
theorem keepL {K : PySem.W.Frag} {dk l p : Addr} {H H' : Hp} {xs : List V} (k : Keep dk l H H') (h1 : p ≠ dk) (h2 : p ≠ l) (h : SqL K H p xs) : SqL K H' p xs := by
  rcases h with (h | ⟨o, h⟩) | h
  · exact .inl (.inl (k _ _ h h1 h2))
  · exact .inl (.inr ⟨o, k _ _ h h1 h2⟩)
  · exact .inr h
/-- what is new since -/
def new (H H' : Hp) : Hp := fun b => if H b = none then H' b else none
theorem new_at {H H' : Hp} {b : Addr} {o : HO} (h : H b = none) (e : H' b = some o) : new H H' b = some o := by
  unfold new
  rw [if_pos h]; exact e
theorem of_new {H H' : Hp} {b : Addr} {o : HO} (e : new H H' b = some o) : H b = none ∧ H' b = some o := by
  unfold new at e
  by_cases c : H b = none
  · rw [if_pos c] at e; exact ⟨c, e⟩
  · rw [if_neg c] at e; cases e
/-- what was there is there -/
def There (H H' : Hp) : Prop := ∀ b, H' b = none → H b = none
theorem Same.there {H H' : Hp} (h : Same H H') : There H H' := fun b e => h.free e
theorem There.trans {H H1 H2 : Hp} (h : There H H1) (k : There H1 H2) : There H H2 := fun b e => h b (k b e)
theorem Keep.there {dk l : Addr} {H H' : Hp} (k : Keep dk l H H') (D' : Deck H' dk l) : There H H' := fun b e => by
  cases q : H b with
  | none => rfl
  | some o =>
    obtain ⟨ns, m, j, h1, h2, _⟩ := D'
    by_cases c1 : b = dk
    · rw [c1, h1] at e; cases e
    · by_cases c2 : b = l
      · rw [c2, h2] at e; cases e
      · rw [k b o q c1 c2] at e; cases e
theorem new_back {H0 H H' : Hp} (t : There H0 H) : Same (new H H') (new H0 H') := fun b o e => new_at (t b (of_new e).1) (of_new e).2
theorem new_on {dk l : Addr} {H0 H H' : Hp} (k : Keep dk l H H') (h1 : H0 dk ≠ none) (h2 : H0 l ≠ none) : Same (new H0 H) (new H0 H') := fun b o e => by
  obtain ⟨e1, e2⟩ := of_new e
  exact new_at e1 (k b o e2 (fun z => h1 (z ▸ e1)) (fun z => h2 (z ▸ e1)))
theorem new_upd {H0 H : Hp} {d : Addr} {o : HO} (h : H0 d ≠ none) : Same (new H0 H) (new H0 (upd H d o)) := fun b u e => by
  obtain ⟨e1, e2⟩ := of_new e
  exact new_at e1 (by rw [upd_ne (fun z => h (by rw [← z]; exact e1))]; exact e2)
theorem new_same {H0 H H' : Hp} (h : Same H H') : Same (new H0 H) (new H0 H') := fun b o e => new_at (of_new e).1 (h _ _ (of_new e).2)
theorem Deck.some1 {H : Hp} {dk l : Addr} (D : Deck H dk l) : H dk ≠ none ∧ H l ≠ none := by
  obtain ⟨ns, m, j, h1, h2, _⟩ := D
  exact ⟨(by rw [h1]; exact fun z => nomatch z), by rw [h2]; exact fun z => nomatch z⟩
end N3

namespace N3
open PySem PySem.Spec PyProof.Rows L2 N2
/-! ### draws, picks, texts, common divisors of the laws with cells -/
theorem nat_abs (a : Int) : (if a < 0 then -a else a) = (a.natAbs : Int) := by split <;> omega
/-- a list or a tuple -/
def Sq (K : PySem.W.Frag) (H : Hp) (p : Addr) (xs : List V) : Prop := SqL K H p xs ∨ SqT K H p xs
theorem keepT {K : PySem.W.Frag} {dk l p : Addr} {H H' : Hp} {xs : List V} (k : Keep dk l H H') (h1 : p ≠ dk) (h2 : p ≠ l) (h : SqT K H p xs) : SqT K H' p xs := by
  rcases h with (h | ⟨o, h⟩) | h
  · exact .inl (.inl (k _ _ h h1 h2))
  · exact .inl (.inr ⟨o, k _ _ h h1 h2⟩)
  · exact .inr h
theorem keepS {K : PySem.W.Frag} {dk l p : Addr} {H H' : Hp} {xs : List V} (k : Keep dk l H H') (h1 : p ≠ dk) (h2 : p ≠ l) (h : Sq K H p xs) : Sq K H' p xs := h.imp (keepL k h1 h2) (keepT k h1 h2)
/-- one item of a list or a tuple, any -/
def spPick (K : PySem.W.Frag) : Sp := fun vs H Q _ => ∃ (dk l p : Addr) (xs : List V), vs = [.ref dk, .ref p] ∧ Deck H dk l ∧ Sq K H p xs ∧ p ≠ dk ∧ p ≠ l ∧ xs ≠ [] ∧ xs.length < 1073741824 ∧
  ∀ (x : V) (H' : Hp), x ∈ xs → Deck H' dk l → Keep dk l H H' → Q x H'
/-- two alike values have the same text -/
def spSame : Sp := fun vs H Q _ => ∃ (v v' : V) (d : PyData), vs = [v, v'] ∧ Dn H v d ∧ Dn H v' d ∧ d.showable = true ∧ d.depth ≤ 64 ∧ d.shown.length ≤ sizeLine ∧ Q (.bl true) H
def spCommon : Sp := fun vs H Q _ => ∃ a b : Int, vs = [.int a, .int b] ∧ Q (.int (Nat.gcd a.natAbs b.natAbs : Nat)) H
/-- a fraction in lowest terms -/
def Low (t b t' b' : Int) : Prop := t' * b = t * b' ∧ lowT t' b' = true ∧ b' ≤ b
def spLPole : Sp := fun vs H Q _ => ∃ t b : Int, vs = [.int t, .int b] ∧ 0 < b ∧ b.natAbs < 2 ^ 8000 ∧ ∀ (p : Addr) (t' b' : Int), H p = none → Low t b t' b' → Q (.ref p) (upd H p (.tup [.int t', .int b']))
/-- so many items of a list or a tuple, none twice -/
def spFew (K : PySem.W.Frag) : Sp := fun vs H Q _ => ∃ (dk l p : Addr) (n : Nat) (xs : List V), vs = [.ref dk, .int (n : Int), .ref p] ∧ Deck H dk l ∧ Sq K H p xs ∧ n ≤ xs.length ∧ xs.length ≤ 1000 ∧
  ∀ (q : Addr) (ys zs : List V) (H' : Hp), (ys ++ zs).Perm xs → ys.length = n → H q = none → H' q = some (.lst ys) → Deck H' dk l → Keep dk l H H' → Q (.ref q) H'
theorem pull_perm {α : Type} : ∀ (zs : List α) (j : Nat) (h : j < zs.length), (zs[j] :: zs.eraseIdx j).Perm zs
  | x :: xs, 0, _ => List.Perm.refl _
  | x :: xs, j + 1, h => by
    have q := pull_perm xs j (by simpa using h)
    show (xs[j]'(by simpa using h) :: x :: xs.eraseIdx j).Perm (x :: xs)
    exact (List.Perm.swap _ _ _).trans (List.Perm.cons x q)
theorem low_of {t b : Int} (hb : 0 < b) : Low t b (t / (Nat.gcd t.natAbs b.natAbs : Nat)) (b / (Nat.gcd t.natAbs b.natAbs : Nat)) := by
  have gp : 0 < Nat.gcd t.natAbs b.natAbs := Nat.gcd_pos_of_pos_right _ (by omega)
  obtain ⟨u, hu⟩ := Int.ofNat_dvd_left.mpr (Nat.gcd_dvd_left t.natAbs b.natAbs)
  obtain ⟨v, hv⟩ := Int.ofNat_dvd_left.mpr (Nat.gcd_dvd_right t.natAbs b.natAbs)
  obtain ⟨g, eg⟩ : ∃ g, Nat.gcd t.natAbs b.natAbs = g := ⟨_, rfl⟩
  rw [eg] at gp hu hv ⊢
  have g0 : (g : Int) ≠ 0 := by omega
  have eu : t / (g : Int) = u := by rw [hu]; exact Int.mul_ediv_cancel_left _ g0
  have ev : b / (g : Int) = v := by rw [hv]; exact Int.mul_ediv_cancel_left _ g0
  rw [eu, ev]
  have v1 : 0 < v := by
    rcases Int.lt_or_le 0 v with z | z
    · exact z
    · have := Int.mul_nonpos_of_nonneg_of_nonpos (show (0 : Int) ≤ g by omega) z
      omega
  refine ⟨by rw [hu, hv]; simp only [Int.mul_comm, Int.mul_left_comm, Int.mul_assoc], ?_, ?_⟩
  · unfold lowT
    rw [Bool.and_eq_true, decide_eq_true_iff, decide_eq_true_iff]
    refine ⟨by omega, ?_⟩
    have e1 : t.natAbs = g * u.natAbs := by rw [hu, Int.natAbs_mul]; rfl
    have e2 : b.natAbs = g * v.natAbs := by rw [hv, Int.natAbs_mul]; rfl
    rw [e1, e2, Nat.gcd_mul_left] at eg
    exact Nat.eq_of_mul_eq_mul_left gp (by omega)
  · have : 1 * v ≤ (g : Int) * v := Int.mul_le_mul_of_nonneg_right (by omega) (by omega)
    omega
section
variable {P : Program} {w : World} {K : PySem.W.Frag} {mg : Str → Option Value} {base : Heap}
abbrev s__law_pick : Stmt := top 56
theorem sc__law_pick : FnScope ["deck", "some"] ["deck", "some"] (defScope s__law_pick) := ⟨rfl, rfl, rfl, by decide +kernel, rfl, by decide +kernel, by decide +kernel⟩
theorem ok__law_pick {f f__law_draw : Addr} {fd d__law_draw : FuncData}  (F : Fun K "_law_pick" "_law_pick" s__law_pick f fd) (T : Bt mg) (l_draw : Kn P w K mg base 1 "_law_draw" ["deck", "below"] spDraw f__law_draw d__law_draw) : FnOk P w K mg base CX0 2 f fd ["deck", "some"] (spPick K) := by
  refine F.ok sc__law_pick (fun vs H Q E h => ?_) (fun cdv A outer s H vs Q E hr h => ?_)
  · obtain ⟨dk, l, p, xs, rfl, _⟩ := h
    rfl
  · obtain ⟨dk, l, p, xs, rfl, De, hS, n1, n2, ne, hl, k⟩ := h
    refine ⟨_, pss_one (ps_ret (pe_ix (r := rIx K) ix_seq (pv 1) (pe_call l_draw.ok (hr.mono (by decide)) rfl l_draw.mg l_draw.kp l_draw.bd .nil pass0 (pa_cons (pv 0) (pa_cons (pe_callB call_len (by rfl) T.len PySem.boot_len (pa_cons (pv 1) pa_nil)) pa_nil))) (fun _ _ => rfl))), ?_⟩
    have hpos : 0 < xs.length := List.length_pos_iff.mpr ne
    refine ⟨_, rfl, _, rfl, _, rfl, .ref p, xs.length, rfl, ?_, dk, l, (xs.length : Int), rfl, De, by omega, by omega, fun r H' r0 r1 De' kp => ?_⟩
    · rcases hS with h | h
      · exact .inl ⟨xs, h, rfl⟩
      · exact .inr ⟨xs, h, rfl⟩
    obtain ⟨j, rfl⟩ : ∃ j : Nat, r = (j : Int) := ⟨r.toNat, by omega⟩
    have hj : j < xs.length := by omega
    have fin := k _ H' (List.getElem_mem hj) De' kp
    rcases keepS kp n1 n2 hS with h | h
    · exact .inl ⟨p, xs, _, _, rfl, rfl, h, atI_nat (List.getElem?_eq_getElem hj), fin⟩
    · exact .inr (.inl ⟨p, xs, _, _, rfl, rfl, h, atI_nat (List.getElem?_eq_getElem hj), fin⟩)
abbrev s__law_same : Stmt := top 57
theorem sc__law_same : FnScope ["told", "due"] ["told", "due"] (defScope s__law_same) := ⟨rfl, rfl, rfl, by decide +kernel, rfl, by decide +kernel, by decide +kernel⟩
theorem ok__law_same {f  : Addr} {fd  : FuncData} (sy : Sy base) (F : Fun K "_law_same" "_law_same" s__law_same f fd) (T : Bt mg)  : FnG P w K mg base 1 f fd ["told", "due"] spSame := by
  refine fn_idle F sc__law_same (fun vs H Q E h => ?_) (fun cdv A outer s H vs Q hr hi h => ?_)
  · obtain ⟨v, v', d, rfl, _⟩ := h
    rfl
  · obtain ⟨v, v', d, rfl, h1, h2, o1, o2, o3, k⟩ := h
    have hu : (A.deeper (envOfC "_law_same" (defScope s__law_same) s.heap.objs.size f cdv)).units + 70 < cLine := by have := hr.un; omega
    refine ⟨_, pss_one (ps_ret (pe_cmpR op_eq (pe_callB (call_repr sy hi hu) (by rfl) T.repr (by decide +kernel) (pa_cons (pv 0) pa_nil)) (pe_callB (call_repr sy hi hu) (by rfl) T.repr (by decide +kernel) (pa_cons (pv 1) pa_nil)) (nomark _))), ?_⟩
    refine ⟨_, rfl, v, d, rfl, h1, o1, o2, o3, _, rfl, v', d, rfl, h2, o1, o2, o3, ?_⟩
    generalize d.shown = S
    refine ⟨rfl, ?_⟩
    rw [decide_eq_true (rfl : V.str S = V.str S)]
    exact k
abbrev s__law_gcd : Stmt := top 58
theorem sc__law_gcd : FnScope ["one", "other"] ["one", "other"] (defScope s__law_gcd) := ⟨rfl, rfl, rfl, by decide +kernel, rfl, by decide +kernel, by decide +kernel⟩
theorem ok__law_gcd {f  : Addr} {fd  : FuncData}  (F : Fun K "_law_gcd" "_law_gcd" s__law_gcd f fd) (T : Bt mg)  : FnOk P w K mg base CX0 1 f fd ["one", "other"] spCommon := by
  refine F.ok sc__law_gcd (fun vs H Q E h => ?_) (fun cdv A outer s H vs Q E hr h => ?_)
  · obtain ⟨a, b, rfl, _⟩ := h
    rfl
  · obtain ⟨a, b, rfl, k⟩ := h
    refine ⟨_, pss_cons (ps_par (i := 0) (j := 1) rfl sc__law_gcd.nd rfl rfl (by decide) rfl rfl (pa_cons (pe_callB call_abs (by rfl) T.abs (by decide +kernel) (pa_cons (pv 0) pa_nil)) (pa_cons (pe_callB call_abs (by rfl) T.abs (by decide +kernel) (pa_cons (pv 1) pa_nil)) pa_nil)) (by rfl))
      (pss_cons (ps_while PassesOwn.never (pt_cmpR op_ne (pv 1) pe_int (nomark _))
        (pss_one (ps_par (i := 0) (j := 1) rfl sc__law_gcd.nd rfl rfl (by decide) rfl rfl (pa_cons (pv 1) (pa_cons (pe_op op_mod (pe_callTy call_int1 (by rfl) T.int (by decide +kernel) (pa_cons (pv 0) pa_nil)) (pv 1)) pa_nil)) (by rfl))))
      (pss_one (ps_ret (pv 0)))), ?_⟩
    refine ⟨_, rfl, a, rfl, _, rfl, b, rfl, _, _, rfl, ?_⟩
    refine ⟨fun m σ H' => ∃ x y : Nat, σ = [some (.int (x : Int)), some (.int (y : Int))] ∧ H' = H ∧ Nat.gcd x y = Nat.gcd a.natAbs b.natAbs ∧ m = y, ⟨_, a.natAbs, b.natAbs, by rw [← nat_abs, ← nat_abs]; rfl, rfl, rfl, rfl⟩, ?_⟩
    rintro m σ H1 ⟨x, y, rfl, rfl, g, rfl⟩
    refine ⟨_, rfl, rfl, _, rfl, ite_b (fun c => ?_) (fun c => ?_)⟩
    · have c' : 0 < m := by
        rcases Nat.eq_zero_or_pos m with z | z
        · subst z; simp at c
        · exact z
      refine ⟨fun σ' H' => σ' = [some (.int (m : Int)), some (.int ((x % m : Nat) : Int))] ∧ H' = H1, fun σ' H' ⟨e1, e2⟩ => ⟨x % m, Nat.mod_lt _ c', m, x % m, e1, e2, ?_, rfl⟩, ?_⟩
      · rw [← g, Nat.gcd_comm x m, Nat.gcd_rec m x, Nat.gcd_comm]
      · refine ⟨_, rfl, _, rfl, .inl ⟨_, rfl, _, rfl, _, _, rfl, rfl, by omega, _, _, rfl, ?_⟩⟩
        exact ⟨by rw [Int.natCast_emod]; rfl, rfl⟩
    · have c' : m = 0 := by
        rcases Nat.eq_zero_or_pos m with z | z
        · exact z
        · exfalso
          have : (V.int (m : Int)) = V.int 0 := by simpa using c
          have := V.int.inj this
          omega
      subst c'
      rw [Nat.gcd_zero_right] at g
      exact ⟨_, rfl, by rw [g]; exact k⟩
abbrev s__law_pole : Stmt := top 60
theorem sc__law_pole : FnScope ["top", "bottom", "shared"] ["top", "bottom"] (defScope s__law_pole) := ⟨rfl, rfl, rfl, by decide +kernel, rfl, by decide +kernel, by decide +kernel⟩
theorem ok__law_pole {f f__law_gcd : Addr} {fd d__law_gcd : FuncData}  (F : Fun K "_law_pole" "_law_pole" s__law_pole f fd) (T : Bt mg) (l_gcd : Kn P w K mg base 1 "_law_gcd" ["one", "other"] spCommon f__law_gcd d__law_gcd) : FnOk P w K mg base CX0 2 f fd ["top", "bottom"] spLPole := by
  refine F.ok sc__law_pole (fun vs H Q E h => ?_) (fun cdv A outer s H vs Q E hr h => ?_)
  · obtain ⟨t, b, rfl, _⟩ := h
    rfl
  · obtain ⟨t, b, rfl, b0, bl, k⟩ := h
    refine ⟨_, pss_cons (ps_set (i := 2) sc__law_pole.nd rfl (Or.inl rfl) (pe_call l_gcd.ok (hr.mono (by decide)) rfl l_gcd.mg l_gcd.kp l_gcd.bd .nil pass0 (pa_cons (pv 0) (pa_cons (pv 1) pa_nil))))
      (C8.pss_cut (ps_if (pt_cmpR op_lt (pv 1) pe_int (nomark _))
        (pss_one (ps_set (i := 2) sc__law_pole.nd rfl (Or.inl rfl) (pe_un un_neg (pv 2))))
        pss_nil)
      (pss_one (ps_ret (pe_tup (pa_cons (pe_op op_fdivW (pv 0) (pv 2)) (pa_cons (pe_op op_fdivW (pv 1) (pv 2)) pa_nil)))))), ?_⟩
    refine ⟨_, rfl, _, rfl, t, b, rfl, ?_⟩
    refine ⟨fun σ' H' => σ' = [some (.int t), some (.int b), some (.int (Nat.gcd t.natAbs b.natAbs : Nat))] ∧ H' = H, ⟨_, rfl, _, _, rfl, rfl, _, rfl, ?_⟩, ?_⟩
    · have c : decide (b < 0) = false := decide_eq_false (by omega)
      rw [c]
      exact iteF ⟨rfl, rfl⟩
    · rintro σ' H' ⟨rfl, rfl⟩
      have gp : 0 < Nat.gcd t.natAbs b.natAbs := Nat.gcd_pos_of_pos_right _ (by omega)
      have gl : Nat.gcd t.natAbs b.natAbs ≤ b.natAbs := Nat.le_of_dvd (by omega) (Nat.gcd_dvd_right _ _)
      have lg : ((Nat.gcd t.natAbs b.natAbs : Nat) : Int).natAbs.log2 < 9000 := by
        show (Nat.gcd t.natAbs b.natAbs).log2 < 9000
        have := (Nat.log2_lt (by omega : Nat.gcd t.natAbs b.natAbs ≠ 0)).mpr (show Nat.gcd t.natAbs b.natAbs < 2 ^ 8000 from Nat.lt_of_le_of_lt gl bl)
        omega
      have gz : (0 : Int) < (Nat.gcd t.natAbs b.natAbs : Nat) := by omega
      refine ⟨_, rfl, _, rfl, _, _, rfl, rfl, ⟨gz, lg⟩, _, rfl, _, rfl, _, _, rfl, rfl, ⟨gz, lg⟩, by show 2 ≤ sizeLine; rw [sizeLine_eq]; decide, fun p hp => ?_⟩
      exact k p _ _ hp (low_of b0)
abbrev s__law_few : Stmt := top 69
theorem sc__law_few : FnScope ["deck", "many", "menu", "left", "found", "turn"] ["deck", "many", "menu"] (defScope s__law_few) := ⟨rfl, rfl, rfl, by decide +kernel, rfl, by decide +kernel, by decide +kernel⟩
theorem ok__law_few {f f__law_draw : Addr} {fd d__law_draw : FuncData}  (F : Fun K "_law_few" "_law_few" s__law_few f fd) (T : Bt mg) (l_draw : Kn P w K mg base 1 "_law_draw" ["deck", "below"] spDraw f__law_draw d__law_draw) : FnOk P w K mg base CX0 2 f fd ["deck", "many", "menu"] (spFew K) := by
  refine F.ok sc__law_few (fun vs H Q E h => ?_) (fun cdv A outer s H vs Q E hr h => ?_)
  · obtain ⟨dk, l, p, n, xs, rfl, _⟩ := h
    rfl
  · obtain ⟨dk, l, p, n, xs, rfl, De, hS, hn, hl, k⟩ := h
    refine ⟨_, pss_cons (ps_par (i := 3) (j := 4) rfl sc__law_few.nd rfl rfl (by decide) rfl rfl (pa_cons (pe_callTy call_list_of (by rfl) T.list (by decide +kernel) (pa_cons (pv 2) pa_nil)) (pa_cons (pe_lst pa_nil) pa_nil)) (by rfl))
      (pss_cons (ps_for PassesOwn.never rfl (pi_range1 rfl T.range (pa_cons (pv 1) pa_nil)) (pg_name (i := 5) sc__law_few.nd rfl (Or.inl rfl))
        (pss_one (ps_expr (pe_bm PySem.F.plainAttrs_list PySem.F.slot_list_append PySem.F.type_list_append mt_append (pv 4) (pa_cons (pe_bm PySem.F.plainAttrs_list PySem.F.slot_list_pop PySem.F.type_list_pop mt_popAt (pv 3) (pa_cons (pe_call l_draw.ok (hr.mono (by decide)) rfl l_draw.mg l_draw.kp l_draw.bd .nil pass0 (pa_cons (pv 0) (pa_cons (pe_callB call_len (by rfl) T.len PySem.boot_len (pa_cons (pv 3) pa_nil)) pa_nil))) pa_nil)) pa_nil)))))
      (pss_one (ps_ret (pv 4)))), ?_⟩
    refine ⟨_, rfl, p, xs, rfl, hS, fun a ha => ⟨Nat.zero_le _, fun fl hf => ?_⟩⟩
    have n1 : fl ≠ a := (ne_of_none upd_same hf).symm
    have sa := snew (o := .lst xs) ha
    have sf := snew (o := .lst []) hf
    have hfH : H fl = none := sa.free hf
    have nd1 : a ≠ dk := fun z => De.some1.1 (z ▸ ha)
    have nd2 : a ≠ l := fun z => De.some1.2 (z ▸ ha)
    have nf1 : fl ≠ dk := fun z => De.some1.1 (z ▸ hfH)
    have nf2 : fl ≠ l := fun z => De.some1.2 (z ▸ hfH)
    refine ⟨_, _, rfl, _, rfl, n, rfl, by omega, by omega, for_range (lo := 0) (n := n) (fun i σ H' => ∃ (ys zs : List V) (x : Option V), σ = [some (.ref dk), some (.int (n : Int)), some (.ref p), some (.ref a), some (.ref fl), x] ∧ (ys ++ zs).Perm xs ∧ ys.length = i ∧
        H' a = some (.lst zs) ∧ H' fl = some (.lst ys) ∧ Deck H' dk l ∧ Keep dk l H H') ⟨[], xs, none, rfl, List.Perm.refl _, rfl, sf _ _ upd_same, upd_same, (De.same sa).same sf, Keep.of (sa.trans sf)⟩ ?_ ?_⟩
    · rintro i σ H' hi ⟨ys, zs, x, rfl, pm, ly, ea, ef, D', kp⟩
      have lz : zs.length = xs.length - i := by
        have := pm.length_eq
        rw [List.length_append] at this; omega
      refine ⟨_, rfl, .inl ⟨rfl, _, .inl (.inl ef)⟩, _, rfl, .inl ⟨rfl, _, .inl (.inl ea)⟩, _, rfl, _, rfl, .ref a, zs.length, rfl, .inl ⟨zs, SqL.of ea, rfl⟩, dk, l, (zs.length : Int), rfl, D', by omega, by omega, fun r H2 r0 r1 D2 k2 => ?_⟩
      obtain ⟨j, rfl⟩ : ∃ j : Nat, r = (j : Int) := ⟨r.toNat, by omega⟩
      have hj : j < zs.length := by omega
      have ea2 := k2 _ _ ea nd1 nd2
      have ef2 := k2 _ _ ef nf1 nf2
      refine ⟨a, zs, (j : Int), j, zs[j], rfl, rfl, ea2, by omega, by omega, PySem.seqIndex_of (by omega) (by omega), List.getElem?_eq_getElem hj, ?_⟩
      refine ⟨fl, ys, _, rfl, rfl, by rw [upd_ne n1]; exact ef2, small1000 (by omega), ?_⟩
      refine ⟨ys ++ [zs[j]], zs.eraseIdx j, _, rfl, ?_, by rw [List.length_append, ly]; rfl, by rw [upd_ne n1.symm]; exact upd_same, upd_same, ?_, fun b o e h1 h2 => ?_⟩
      · have q : (zs[j] :: zs.eraseIdx j).Perm zs := pull_perm zs j hj
        have : (ys ++ [zs[j]] ++ zs.eraseIdx j) = ys ++ (zs[j] :: zs.eraseIdx j) := by rw [List.append_assoc]; rfl
        rw [this]
        exact (List.Perm.append_left ys q).trans pm
      · obtain ⟨ns', m', j', x1, x2, x3⟩ := D2
        exact ⟨ns', m', j', by rw [upd_ne nf1.symm, upd_ne nd1.symm]; exact x1, by rw [upd_ne nf2.symm, upd_ne nd2.symm]; exact x2, x3⟩
      · have q := k2 b o (kp b o e h1 h2) h1 h2
        rw [upd_ne (ne_of_none e hfH), upd_ne (ne_of_none e ha)]
        exact q
    · rintro σ H' ⟨ys, zs, x, rfl, pm, ly, ea, ef, D', kp⟩
      exact ⟨_, rfl, k fl ys zs H' pm ly hfH ef D' kp⟩
end
end N3

namespace N3
open PySem PySem.Spec PyProof.Rows L2 N2
/-! ### what the laws with cells share with the others -/
def Bd (i : Int) : Prop := i.natAbs < 10 ^ 31
def Lean_ (a : Int) : Prop := a ≠ 0 ∧ ∀ p, 2 ≤ p → p ≤ 1000 → ¬ p * p ∣ a.natAbs
theorem pick_new {K : PySem.W.Frag} {dk l p : Addr} {H1 : Hp} {xs : List V} {Q : VK} {E : XK} (D : Deck H1 dk l) (hp : H1 p = none) (ne : xs ≠ []) (hl : xs.length < 1073741824)
    (k : ∀ (x : V) (H' : Hp), x ∈ xs → Deck H' dk l → Keep dk l H1 H' → Q x H') : spPick K [.ref dk, .ref p] (upd H1 p (.tup xs)) Q E :=
  ⟨dk, l, p, xs, rfl, D.same (snew hp), .inr (SqT.of upd_same), (fun z => D.some1.1 (z ▸ hp)), (fun z => D.some1.2 (z ▸ hp)), ne, hl, fun x H' hx D' kp => k x H' hx D' ((Keep.of (snew hp)).trans kp)⟩
end N3

namespace N3
open PySem PySem.Spec PyProof.Rows L2
/-- what is there but for the deck -/
def off (dk l : Addr) (H : Hp) : Hp := fun b => if b = dk ∨ b = l then none else H b
theorem off_at {dk l b : Addr} {H : Hp} {o : HO} (h1 : b ≠ dk) (h2 : b ≠ l) (e : H b = some o) : off dk l H b = some o := by
  unfold off
  rw [if_neg (fun z => z.elim h1 h2)]; exact e
theorem of_off {dk l b : Addr} {H : Hp} {o : HO} (e : off dk l H b = some o) : b ≠ dk ∧ b ≠ l ∧ H b = some o := by
  unfold off at e
  by_cases c : b = dk ∨ b = l
  · rw [if_pos c] at e; cases e
  · rw [if_neg c] at e
    exact ⟨fun z => c (.inl z), fun z => c (.inr z), e⟩
theorem off_in {dk l : Addr} {H : Hp} : Same (off dk l H) H := fun _ _ e => (of_off e).2.2
theorem off_keep {dk l : Addr} {H H' : Hp} (k : Keep dk l H H') : Same (off dk l H) (off dk l H') := fun b o e => by
  obtain ⟨h1, h2, e⟩ := of_off e
  exact off_at h1 h2 (k b o e h1 h2)
theorem off_same {dk l : Addr} {H H' : Hp} (s : Same H H') : Same (off dk l H) (off dk l H') := off_keep (Keep.of s)
theorem off_new {dk l : Addr} {H H' : Hp} (D : Deck H dk l) : Same (new H H') (off dk l H') := fun b o e => by
  obtain ⟨h, e⟩ := of_new e
  exact off_at (fun z => D.some1.1 (z ▸ h)) (fun z => D.some1.2 (z ▸ h)) e
theorem off_free {dk l b : Addr} {H H' : Hp} {o : HO} (D : Deck H dk l) (h : H b = none) (e : H' b = some o) : off dk l H' b = some o :=
  off_at (fun z => D.some1.1 (z ▸ h)) (fun z => D.some1.2 (z ▸ h)) e
theorem Dn.off {dk l : Addr} {H : Hp} {v : V} {d : PyData} (h : Dn (off dk l H) v d) : Dn H v d := Dn.mono off_in d v h
theorem deck_tup {H : Hp} {dk l b : Addr} {xs : List V} (D : Deck H dk l) (e : H b = some (.tup xs)) : off dk l H b = some (.tup xs) := by
  obtain ⟨ns, m, j, h1, h2, _⟩ := D
  exact off_at (ne_of e h1 (by intro z; cases z)) (ne_of e h2 (by intro z; cases z)) e
/-- a def that may show data, as callers know it -/
structure KnG (P : Program) (w : World) (K : PySem.W.Frag) (mg : Str → Option Value) (base : Heap) (k : Nat) (x : Str) (ps : List Str) (sp : Sp) (f : Addr) (fd : FuncData) : Prop where
  ok : FnG P w K mg base k f fd ps sp
  mg : mg x = some (.ref f)
  kp : PySem.W.keepIn K (.ref f) = true
  bd : Binds K fd ps []
end N3

namespace N3
open PySem PySem.Spec PyProof.Rows L2 N2
/-- the law's triples and numbers -/
def TL (d : PyData) : Prop := ∃ a b c : Int, d = .tuple [.int a, .int b, .int c] ∧ b ≠ 0 ∧ 0 < c ∧ Nat.gcd b.natAbs c.natAbs = 1 ∧ Lean_ a
def NL (d : PyData) : Prop := ∃ ds, d = .tuple ds ∧ (∀ x ∈ ds, TL x) ∧ Asc ds
def spLTriple : Sp := fun vs H Q _ => ∃ (v : V) (d : PyData), vs = [v] ∧ Dn H v d ∧ ∀ (b : Bool) (H' : Hp), (b = true ↔ TL d) → Same H H' → Q (.bl b) H'
def spLNumber : Sp := fun vs H Q _ => ∃ (v : V) (d : PyData), vs = [v] ∧ Dn H v d ∧ Short d ∧ ∀ (b : Bool) (H' : Hp), (b = true ↔ NL d) → Same H H' → Q (.bl b) H'
def ones (k : Nat) : List Int := List.replicate k 1
theorem ones_succ (k : Nat) : (ones k).map V.int ++ [V.int 1] = (ones (k + 1)).map V.int := by
  unfold ones
  rw [List.replicate_succ', List.map_append]; rfl
theorem ones_len (k : Nat) : ((ones k).map V.int).length = k := by simp [ones]
theorem ones_nil (k : Nat) : ((ones k).map PyData.int).isEmpty = decide (k = 0) := by
  cases k <;> simp [ones]
/-- one more turn of a filter that keeps what is wrong -/
theorem none_step {k k' i : Nat} {p : Nat → Prop} (h : k = 0 ↔ ∀ j, j < i → p j) (hk : k' = 0 ↔ k = 0 ∧ p i) : k' = 0 ↔ ∀ j, j < i + 1 → p j := by
  rw [hk, h]
  constructor
  · rintro ⟨h1, h2⟩ j hj
    by_cases c : j = i
    · rw [c]; exact h2
    · exact h1 j (by omega)
  · intro h1
    exact ⟨fun j hj => h1 j (by omega), h1 i (by omega)⟩
theorem tl_shape {H : Hp} {v : V} {d : PyData} (h : Dn H v d) (t : TL d) : ∃ (p : Addr) (a b c : Int), v = .ref p ∧ d = .tuple [.int a, .int b, .int c] ∧ H p = some (.tup [.int a, .int b, .int c]) := by
  obtain ⟨a, b, c, rfl, _⟩ := t
  cases h with
  | tup e r => exact ⟨_, a, b, c, rfl, rfl, by rw [e, dn3 r]⟩
end N3

namespace N3
open PySem PySem.Spec PyProof.Rows L2 N2
/-! ### looks through all items of a tuple -/
theorem wipe1 {i : Nat} {x : Option V} {σ : L2.St} : wipe ((wipe σ [i]).set i x) [i] = wipe σ [i] := by
  show ((σ.set i none).set i x).set i none = σ.set i none
  rw [List.set_set, List.set_set]
theorem mem_idx {α : Type} {l : List α} {p : α → Prop} : (∀ j, j < l.length → ∀ d, l[j]? = some d → p d) ↔ ∀ x ∈ l, p x :=
  ⟨fun h x hx => by
    obtain ⟨j, hj, ej⟩ := List.mem_iff_getElem.mp hx
    exact h j hj x (by rw [List.getElem?_eq_getElem hj, ej]), fun h j _ d ed => h d (List.mem_of_getElem? ed)⟩
section
variable {K : PySem.W.Frag} {a D : Addr} {xs : List V} {ds : List PyData} {i : Nat} {te : TE} {tt : TT} {σ : L2.St} {H : Hp} {Qd : Hp → Prop}
/-- all([p(x) for x in t]) -/
theorem lc_all (p : PyData → Prop) (ea : H a = some (.tup xs)) (ra : DnAll H xs ds) (hl : ds.length ≤ 1000000) (hD : H D = none)
    (step : ∀ (j : Nat) (x : V) (d : PyData) (H' : Hp) (Q' : V → Hp → Prop), ds[j]? = some d → Dn H' x d → Same H H' → (∀ (b : Bool) (H2 : Hp), (b = true ↔ p d) → Same H' H2 → Q' (.bl b) H2) → te ((wipe σ [i]).set i (some x)) H' Q')
    (fin : ∀ (bs : List Bool) (H' : Hp), H' D = some (.lst (bs.map V.bl)) → (bs.all id = true ↔ ∀ x ∈ ds, p x) → Same H H' → Qd H') :
    ∃ W : Nat → Nat → Hp → Prop, (∃ m, W 0 m (upd H D (.lst []))) ∧ ∀ i_1 m H, W i_1 m H →
      ((Itt K a).stop i_1 H ∧ Qd H) ∨ ((Itt K a).go i_1 H ∧ ∃ Nx : Hp → Prop, (∀ H', Nx H' → ∃ m', m' < m ∧ W (i_1 + 1) m' H') ∧ ∀ x H', (Itt K a).yld i_1 H x H' → gName i x (wipe σ [i]) H' fun σ2 H2 => wipe σ2 [i] = wipe σ [i] ∧ tYes σ2 H2 fun b H3 =>
        if b = true then te σ2 H3 fun y H4 => ∃ acc, H4 D = some (.lst acc) ∧ acc.length < sizeLine ∧ Nx (upd H4 D (.lst (acc ++ [y]))) else Nx H3) := by
  refine lc_tup (K := K) (a := a) (xs := xs) (fun i H' => ∃ bs : List Bool, H' D = some (.lst (bs.map V.bl)) ∧ bs.length = i ∧ (bs.all id = true ↔ ∀ j, j < i → ∀ d, ds[j]? = some d → p d) ∧ Same H H')
    ⟨[], upd_same, rfl, by simp, snew hD⟩ (fun i H' _ ⟨_, _, _, _, s'⟩ => SqT.of (s' _ _ ea)) ?_ ?_
  · rintro j x H' hx ⟨bs, e1, e2, e3, s'⟩
    obtain ⟨d, ed, dn⟩ := ra.at_ hx
    have il : j < ds.length := (List.getElem?_eq_some_iff.mp ed).1
    refine ⟨wipe1, ?_⟩
    refine step j x d H' _ ed (Dn.mono s' d x dn) s' fun b H2 hb s2 => ?_
    refine ⟨_, s2 _ _ e1, by rw [List.length_map]; exact small_m (by omega), bs ++ [b], by rw [List.map_append, upd_same]; rfl, by rw [List.length_append, e2]; rfl, ?_, fun c o e => ?_⟩
    · refine all_step (p := fun j => ∀ d, ds[j]? = some d → p d) e3 ?_
      rw [hb]
      exact ⟨fun h d' e' => by rw [ed] at e'; cases e'; exact h, fun h => h d ed⟩
    · rw [upd_ne (ne_of_none e hD)]
      exact s2 _ _ (s' _ _ e)
  · rintro H1 ⟨bs, e1, e2, e3, s1⟩
    rw [ra.length] at e3
    exact fin bs H1 e1 (e3.trans mem_idx) s1
/-- [1 for x in t if not p(x)] -/
theorem lc_bad (p : PyData → Prop) (ea : H a = some (.tup xs)) (ra : DnAll H xs ds) (hl : ds.length ≤ 1000000) (hD : H D = none)
    (step : ∀ (j : Nat) (x : V) (d : PyData) (H' : Hp) (Q' : Bool → Hp → Prop), ds[j]? = some d → Dn H' x d → Same H H' → (∀ (b : Bool) (H2 : Hp), (b = true ↔ ¬ p d) → Same H' H2 → Q' b H2) → tt ((wipe σ [i]).set i (some x)) H' Q')
    (fin : ∀ (n : Nat) (H' : Hp), H' D = some (.lst ((ones n).map V.int)) → (n = 0 ↔ ∀ x ∈ ds, p x) → Same H H' → Qd H') :
    ∃ W : Nat → Nat → Hp → Prop, (∃ m, W 0 m (upd H D (.lst []))) ∧ ∀ i_1 m H, W i_1 m H →
      ((Itt K a).stop i_1 H ∧ Qd H) ∨ ((Itt K a).go i_1 H ∧ ∃ Nx : Hp → Prop, (∀ H', Nx H' → ∃ m', m' < m ∧ W (i_1 + 1) m' H') ∧ ∀ x H', (Itt K a).yld i_1 H x H' → gName i x (wipe σ [i]) H' fun σ2 H2 => wipe σ2 [i] = wipe σ [i] ∧ tt σ2 H2 fun b H3 =>
        if b = true then tC (.int 1) σ2 H3 fun y H4 => ∃ acc, H4 D = some (.lst acc) ∧ acc.length < sizeLine ∧ Nx (upd H4 D (.lst (acc ++ [y]))) else Nx H3) := by
  refine lc_tup (K := K) (a := a) (xs := xs) (fun i H' => ∃ n : Nat, H' D = some (.lst ((ones n).map V.int)) ∧ n ≤ i ∧ (n = 0 ↔ ∀ j, j < i → ∀ d, ds[j]? = some d → p d) ∧ Same H H')
    ⟨0, upd_same, Nat.le_refl _, by simp, snew hD⟩ (fun i H' _ ⟨_, _, _, _, s'⟩ => SqT.of (s' _ _ ea)) ?_ ?_
  · rintro j x H' hx ⟨n, e1, e2, e3, s'⟩
    obtain ⟨d, ed, dn⟩ := ra.at_ hx
    have il : j < ds.length := (List.getElem?_eq_some_iff.mp ed).1
    refine ⟨wipe1, ?_⟩
    refine step j x d H' _ ed (Dn.mono s' d x dn) s' fun b H2 hb s2 => ?_
    refine ite_b (fun c => ?_) (fun c => ?_)
    · refine ⟨_, s2 _ _ e1, by rw [ones_len]; exact small_m (by omega), n + 1, by rw [ones_succ, upd_same], by omega, ?_, fun c o e => ?_⟩
      · refine none_step (p := fun j => ∀ d, ds[j]? = some d → p d) e3 ⟨fun z => by omega, fun z => absurd (z.2 d ed) (hb.mp c)⟩
      · rw [upd_ne (ne_of_none e hD)]
        exact s2 _ _ (s' _ _ e)
    · refine ⟨n, s2 _ _ e1, by omega, ?_, s'.trans s2⟩
      have pd : p d := by
        by_cases h : p d
        · exact h
        · have := hb.mpr h
          rw [c] at this
          cases this
      exact none_step (p := fun j => ∀ d, ds[j]? = some d → p d) e3 ⟨fun z => ⟨z, fun d' e' => by rw [ed] at e'; cases e'; exact pd⟩, fun z => z.1⟩
  · rintro H1 ⟨n, e1, e2, e3, s1⟩
    rw [ra.length] at e3
    exact fin n H1 e1 (e3.trans mem_idx) s1
/-- all([r(t[k], t[k + 1]) for k in range(len(t) - 1)]) -/
theorem lc_adj (r : PyData → PyData → Prop) (hl : ds.length ≤ 1000000) (hD : H D = none)
    (step : ∀ (k : Nat) (x y : PyData) (H' : Hp) (Q' : V → Hp → Prop), ds[k]? = some x → ds[k + 1]? = some y → Same H H' → (∀ (b : Bool) (H2 : Hp), (b = true ↔ r x y) → Same H' H2 → Q' (.bl b) H2) → te ((wipe σ [i]).set i (some (.int (0 + k)))) H' Q')
    (fin : ∀ (bs : List Bool) (H' : Hp), H' D = some (.lst (bs.map V.bl)) → (bs.all id = true ↔ ∀ (k : Nat) (x y : PyData), ds[k]? = some x → ds[k + 1]? = some y → r x y) → Same H H' → Qd H') :
    ∃ W : Nat → Nat → Hp → Prop, (∃ m, W 0 m (upd H D (.lst []))) ∧ ∀ i_1 m H, W i_1 m H →
      ((Itr 0 (ds.length - 1)).stop i_1 H ∧ Qd H) ∨ ((Itr 0 (ds.length - 1)).go i_1 H ∧ ∃ Nx : Hp → Prop, (∀ H', Nx H' → ∃ m', m' < m ∧ W (i_1 + 1) m' H') ∧ ∀ x H', (Itr 0 (ds.length - 1)).yld i_1 H x H' → gName i x (wipe σ [i]) H' fun σ2 H2 => wipe σ2 [i] = wipe σ [i] ∧ tYes σ2 H2 fun b H3 =>
        if b = true then te σ2 H3 fun y H4 => ∃ acc, H4 D = some (.lst acc) ∧ acc.length < sizeLine ∧ Nx (upd H4 D (.lst (acc ++ [y]))) else Nx H3) := by
  refine lc_range (lo := 0) (n := ds.length - 1) (fun i H' => ∃ cs : List Bool, H' D = some (.lst (cs.map V.bl)) ∧ cs.length = i ∧ (cs.all id = true ↔ ∀ j, j < i → ∀ x y, ds[j]? = some x → ds[j + 1]? = some y → r x y) ∧ Same H H')
    ⟨[], upd_same, rfl, by simp, snew hD⟩ ?_ ?_
  · rintro k H' hi ⟨cs, c1, c2, c3, s'⟩
    have i1 : k < ds.length := by omega
    have i2 : k + 1 < ds.length := by omega
    refine ⟨wipe1, ?_⟩
    refine step k ds[k] ds[k + 1] H' _ (List.getElem?_eq_getElem i1) (List.getElem?_eq_getElem i2) s' fun b H2 hb s2 => ?_
    refine ⟨_, s2 _ _ c1, by rw [List.length_map]; exact small_m (by omega), cs ++ [b], by rw [List.map_append, upd_same]; rfl, by rw [List.length_append, c2]; rfl, ?_, fun c o e => ?_⟩
    · refine all_step (p := fun j => ∀ x y, ds[j]? = some x → ds[j + 1]? = some y → r x y) c3 ?_
      rw [hb, List.getElem?_eq_getElem i1, List.getElem?_eq_getElem i2]
      exact ⟨fun h x y e e' => by cases e; cases e'; exact h, fun h => h _ _ rfl rfl⟩
    · rw [upd_ne (ne_of_none e hD)]
      exact s2 _ _ (s' _ _ e)
  · rintro H2 ⟨cs, c1, c2, c3, s2⟩
    refine fin cs H2 c1 ?_ s2
    rw [c3]
    exact ⟨fun h k x y ex ey => h k (by have := (List.getElem?_eq_some_iff.mp ey).1; omega) x y ex ey, fun h k _ x y ex ey => h k x y ex ey⟩
end
/-- the outer walk, over a list, of a comprehension with two -/
theorem out_list {K : PySem.W.Frag} {a D : Addr} {xs : List V} {g : TG} {tt : TT} {R : L2.St → Hp → (Hp → Prop) → Prop} {vs : List Nat} {σ : L2.St} {H1 : Hp} {Qd : Hp → Prop} (Pv : Nat → Hp → Prop) (h0 : Pv 0 (upd H1 D (.lst []))) (hl : ∀ i H, i ≤ xs.length → Pv i H → SqL K H a xs)
    (hs : ∀ i x H, xs[i]? = some x → Pv i H → g x (wipe σ vs) H fun σ2 H2 => wipe σ2 vs = wipe σ vs ∧ tt σ2 H2 fun b H3 => if b = true then R σ2 H3 (Pv (i + 1)) else Pv (i + 1) H3) (hd : ∀ H, Pv xs.length H → Qd H) :
    ∃ W : Nat → Nat → Hp → Prop, (∃ m, W 0 m (upd H1 D (.lst []))) ∧ ∀ i m H, W i m H →
      ((Itl K a).stop i H ∧ Qd H) ∨ ((Itl K a).go i H ∧ ∃ Nx : Hp → Prop, (∀ H', Nx H' → ∃ m', m' < m ∧ W (i + 1) m' H') ∧ ∀ x H', (Itl K a).yld i H x H' → g x (wipe σ vs) H' fun σ2 H2 => wipe σ2 vs = wipe σ vs ∧ tt σ2 H2 fun b H3 =>
        if b = true then R σ2 H3 Nx else Nx H3) := by
  refine ⟨fun i m H => m = xs.length - i ∧ i ≤ xs.length ∧ Pv i H, ⟨xs.length, by simp, Nat.zero_le _, h0⟩, ?_⟩
  rintro i m H ⟨rfl, hi, p⟩
  have q := hl i H hi p
  by_cases hlt : i < xs.length
  · refine .inr ⟨⟨xs, xs[i], q, by simp [hlt]⟩, Pv (i + 1), fun H' p' => ⟨xs.length - (i + 1), by omega, rfl, hlt, p'⟩, fun x H' y => ?_⟩
    obtain ⟨e, y⟩ := y
    subst e
    exact hs i x _ (y xs q) p
  · have e : i = xs.length := by omega
    subst e
    exact .inl ⟨⟨xs, q, Nat.le_refl _⟩, hd H p⟩
/-- the inner walk, over a tuple -/
theorem in_tup {K : PySem.W.Frag} {a : Addr} {xs : List V} {g : TG} {tt : TT} {S : L2.St → Hp → (Hp → Prop) → Prop} {vs : List Nat} {σ : L2.St} {H1 : Hp} {Nx : Hp → Prop} (Pv : Nat → Hp → Prop) (h0 : Pv 0 H1) (hl : ∀ i H, i ≤ xs.length → Pv i H → SqT K H a xs)
    (hs : ∀ i x H, xs[i]? = some x → Pv i H → g x (wipe σ vs) H fun σ2 H2 => wipe σ2 vs = wipe σ vs ∧ tt σ2 H2 fun b H3 => if b = true then S σ2 H3 (Pv (i + 1)) else Pv (i + 1) H3) (hd : ∀ H, Pv xs.length H → Nx H) :
    ∃ W : Nat → Nat → Hp → Prop, (∃ m, W 0 m H1) ∧ ∀ i m H, W i m H →
      ((Itt K a).stop i H ∧ Nx H) ∨ ((Itt K a).go i H ∧ ∃ Nx1 : Hp → Prop, (∀ H', Nx1 H' → ∃ m', m' < m ∧ W (i + 1) m' H') ∧ ∀ x H', (Itt K a).yld i H x H' → g x (wipe σ vs) H' fun σ2 H2 => wipe σ2 vs = wipe σ vs ∧ tt σ2 H2 fun b H3 =>
        if b = true then S σ2 H3 Nx1 else Nx1 H3) := by
  refine ⟨fun i m H => m = xs.length - i ∧ i ≤ xs.length ∧ Pv i H, ⟨xs.length, by simp, Nat.zero_le _, h0⟩, ?_⟩
  rintro i m H ⟨rfl, hi, p⟩
  have q := hl i H hi p
  by_cases hlt : i < xs.length
  · refine .inr ⟨⟨xs, xs[i], q, by simp [hlt]⟩, Pv (i + 1), fun H' p' => ⟨xs.length - (i + 1), by omega, rfl, hlt, p'⟩, fun x H' y => ?_⟩
    obtain ⟨e, y⟩ := y
    subst e
    exact hs i x _ (y xs q) p
  · have e : i = xs.length := by omega
    subst e
    exact .inl ⟨⟨xs, q, Nat.le_refl _⟩, hd H p⟩
end N3

namespace N3
open PySem PySem.Spec PyProof.Rows L2 N2
/-! ### numbers, rows and quotients as plain values, and their data -/
abbrev Tr := Int × Int × Int
abbrev Nm := List Tr
abbrev Pl := Int × Int
abbrev Tl := Pl × List Nm
abbrev Qt := List Nm × List Tl
def encT (x : Tr) : PyData := .tuple [.int x.1, .int x.2.1, .int x.2.2]
def encN (n : Nm) : PyData := .tuple (n.map encT)
def encR (r : List Nm) : PyData := .tuple (r.map encN)
def encPl (p : Pl) : PyData := .tuple [.int p.1, .int p.2]
def encTl (t : Tl) : PyData := .tuple [encPl t.1, encR t.2]
def encQ (q : Qt) : PyData := .tuple [encR q.1, .tuple (q.2.map encTl)]
/-- neighbours are so -/
def Nb {α : Type} (r : α → α → Prop) (l : List α) : Prop := ∀ (i : Nat) (x y : α), l[i]? = some x → l[i + 1]? = some y → r x y
def CT (ok : Int → Prop) (x : Tr) : Prop := ok x.1 ∧ x.2.1 ≠ 0 ∧ lowT x.2.1 x.2.2 = true
def CN (ok : Int → Prop) (n : Nm) : Prop := (∀ x ∈ n, CT ok x) ∧ Nb (fun x y : Tr => x.1 < y.1) n
def CR (ok : Int → Prop) (r : List Nm) : Prop := (∀ n ∈ r, CN ok n) ∧ r.getLast? ≠ some []
def CPl (p : Pl) : Prop := lowT p.1 p.2 = true
def CTl (ok : Int → Prop) (t : Tl) : Prop := CPl t.1 ∧ CR ok t.2 ∧ t.2 ≠ []
abbrev before (p q : Pl) : Prop := p.1 * q.2 < q.1 * p.2
def CTs (ok : Int → Prop) (ts : List Tl) : Prop := (∀ t ∈ ts, CTl ok t) ∧ Nb (fun s t : Tl => before s.1 t.1) ts
def CQ (ok : Int → Prop) (q : Qt) : Prop := CR ok q.1 ∧ CTs ok q.2
/-- the numbers are fractions -/
def FrN (n : Nm) : Prop := n = [] ∨ ∃ t b, n = [(1, t, b)]
def Plain (q : Qt) : Prop := (∀ n ∈ q.1, FrN n) ∧ ∀ t ∈ q.2, ∀ n ∈ t.2, FrN n
/-! what data are so -/
def DN (ok : Int → Prop) (d : PyData) : Prop := ∃ n, d = encN n ∧ CN ok n
def DR (ok : Int → Prop) (d : PyData) : Prop := ∃ r, d = encR r ∧ CR ok r
def DPl (d : PyData) : Prop := ∃ p, d = encPl p ∧ CPl p
def DTl (ok : Int → Prop) (d : PyData) : Prop := ∃ t, d = encTl t ∧ CTl ok t
def DTs (ok : Int → Prop) (d : PyData) : Prop := ∃ ts : List Tl, d = .tuple (ts.map encTl) ∧ CTs ok ts
def DQ (ok : Int → Prop) (d : PyData) : Prop := ∃ q, d = encQ q ∧ CQ ok q
/-! ### from data to values -/
theorem map_of {α : Type} {enc : α → PyData} {p : α → Prop} : ∀ {ds : List PyData}, (∀ d ∈ ds, ∃ x, d = enc x ∧ p x) → ∃ l : List α, ds = l.map enc ∧ ∀ x ∈ l, p x
  | [], _ => ⟨[], rfl, by simp⟩
  | d :: ds, h => by
    obtain ⟨x, rfl, px⟩ := h d List.mem_cons_self
    obtain ⟨l, rfl, pl⟩ := map_of (ds := ds) fun y hy => h y (List.mem_cons_of_mem _ hy)
    exact ⟨x :: l, rfl, fun y hy => (List.mem_cons.mp hy).elim (fun e => e ▸ px) (pl y)⟩
theorem inj_map {α : Type} {enc : α → PyData} (h : ∀ x y, enc x = enc y → x = y) : ∀ {l k : List α}, l.map enc = k.map enc → l = k
  | [], [], _ => rfl
  | [], _ :: _, e => by simp at e
  | _ :: _, [], e => by simp at e
  | x :: l, y :: k, e => by
    rw [List.map_cons, List.map_cons] at e
    injection e with e1 e2
    rw [h _ _ e1, inj_map h e2]
theorem encT_inj {x y : Tr} (h : encT x = encT y) : x = y := by
  obtain ⟨a, b, c⟩ := x
  obtain ⟨a', b', c'⟩ := y
  injection h with h
  injection h with h1 h
  injection h with h2 h
  injection h with h3 h
  injection h1 with h1
  injection h2 with h2
  injection h3 with h3
  exact Prod.ext h1 (Prod.ext h2 h3)
theorem encN_inj {x y : Nm} (h : encN x = encN y) : x = y := by
  injection h with h
  exact inj_map (fun _ _ => encT_inj) h
theorem encR_inj {x y : List Nm} (h : encR x = encR y) : x = y := by
  injection h with h
  exact inj_map (fun _ _ => encN_inj) h
theorem encPl_inj {x y : Pl} (h : encPl x = encPl y) : x = y := by
  obtain ⟨a, b⟩ := x
  obtain ⟨a', b'⟩ := y
  injection h with h
  injection h with h1 h
  injection h with h2 h
  injection h1 with h1
  injection h2 with h2
  exact Prod.ext h1 h2
theorem encTl_inj {x y : Tl} (h : encTl x = encTl y) : x = y := by
  obtain ⟨a, b⟩ := x
  obtain ⟨a', b'⟩ := y
  injection h with h
  injection h with h1 h
  injection h with h2 h
  exact Prod.ext (encPl_inj h1) (encR_inj h2)
theorem encTs_inj {x y : List Tl} (h : PyData.tuple (x.map encTl) = .tuple (y.map encTl)) : x = y := by
  injection h with h
  exact inj_map (fun _ _ => encTl_inj) h
theorem encQ_inj {x y : Qt} (h : encQ x = encQ y) : x = y := by
  obtain ⟨a, b⟩ := x
  obtain ⟨a', b'⟩ := y
  injection h with h
  injection h with h1 h
  injection h with h2 h
  exact Prod.ext (encR_inj h1) (encTs_inj h2)
/-! ### the looks of before are these -/
theorem tp_ct {d : PyData} : TP d ↔ ∃ x, d = encT x ∧ CT Fit x :=
  ⟨fun ⟨a, b, c, e, h1, h2, h3⟩ => ⟨(a, b, c), e, h3, h1, h2⟩, fun ⟨x, e, h1, h2, h3⟩ => ⟨x.1, x.2.1, x.2.2, e, h2, h3, h1⟩⟩
theorem tl_ct {d : PyData} : TL d ↔ ∃ x, d = encT x ∧ CT Lean_ x := by
  have key : ∀ b c : Int, (0 < c ∧ Nat.gcd b.natAbs c.natAbs = 1) ↔ lowT b c = true := fun b c => by
    unfold lowT
    rw [Bool.and_eq_true, decide_eq_true_iff, decide_eq_true_iff]
    exact ⟨fun h => ⟨by omega, h.2⟩, fun h => ⟨by omega, h.2⟩⟩
  exact ⟨fun ⟨a, b, c, e, h1, h2, h3, h4⟩ => ⟨(a, b, c), e, h4, h1, (key _ _).mp ⟨h2, h3⟩⟩, fun ⟨x, e, h1, h2, h3⟩ => ⟨x.1, x.2.1, x.2.2, e, h2, ((key _ _).mpr h3).1, ((key _ _).mpr h3).2, h1⟩⟩
theorem asc_nb {n : Nm} : Asc (n.map encT) ↔ Nb (fun x y : Tr => x.1 < y.1) n := by
  constructor
  · intro h i x y ex ey
    exact h i (encT x) (encT y) (by rw [List.getElem?_map, ex]; rfl) (by rw [List.getElem?_map, ey]; rfl)
  · intro h i x y ex ey
    rw [List.getElem?_map] at ex ey
    cases e1 : n[i]? with
    | none => rw [e1] at ex; cases ex
    | some u =>
      cases e2 : n[i + 1]? with
      | none => rw [e2] at ey; cases ey
      | some v =>
        rw [e1] at ex
        rw [e2] at ey
        cases ex
        cases ey
        exact h i u v e1 e2
theorem np_dn {d : PyData} : NP d ↔ DN Fit d := by
  constructor
  · rintro ⟨ds, rfl, t, a⟩
    obtain ⟨n, rfl, h⟩ := map_of fun x hx => tp_ct.mp (t x hx)
    exact ⟨n, rfl, h, asc_nb.mp a⟩
  · rintro ⟨n, rfl, h, a⟩
    exact ⟨_, rfl, fun x hx => by
      obtain ⟨y, hy, rfl⟩ := List.mem_map.mp hx
      exact tp_ct.mpr ⟨y, rfl, h y hy⟩, asc_nb.mpr a⟩
theorem nl_dn {d : PyData} : NL d ↔ DN Lean_ d := by
  constructor
  · rintro ⟨ds, rfl, t, a⟩
    obtain ⟨n, rfl, h⟩ := map_of fun x hx => tl_ct.mp (t x hx)
    exact ⟨n, rfl, h, asc_nb.mp a⟩
  · rintro ⟨n, rfl, h, a⟩
    exact ⟨_, rfl, fun x hx => by
      obtain ⟨y, hy, rfl⟩ := List.mem_map.mp hx
      exact tl_ct.mpr ⟨y, rfl, h y hy⟩, asc_nb.mpr a⟩
theorem fp_fr {n : Nm} (h : CN Fit n) : FP (encN n) ↔ FrN n := by
  constructor
  · rintro ⟨_, ds, e, h2⟩
    injection e with e
    subst e
    rcases h2 with h2 | ⟨h2, h3⟩
    · rw [List.length_map] at h2
      exact .inl (List.length_eq_zero_iff.mp h2)
    · rw [List.length_map] at h2
      match n, h2 with
      | [x], _ =>
        obtain ⟨a, b, c⟩ := x
        have : a = 1 := h3 _ rfl
        exact .inr ⟨b, c, by rw [this]⟩
  · rintro (rfl | ⟨t, b, rfl⟩)
    · exact ⟨np_dn.mpr ⟨[], rfl, h⟩, _, rfl, .inl rfl⟩
    · exact ⟨np_dn.mpr ⟨_, rfl, h⟩, _, rfl, .inr ⟨rfl, fun x hx => by cases (show some _ = some x from hx); rfl⟩⟩
/-! ### the weight of data: bounds the length of their text and of all that is within -/
mutual
def wt : PyData → Nat
  | .list ds => wtA ds + 2
  | .tuple ds => wtA ds + 3
  | .dict ks => wtK ks + 2
  | d => d.shown.length
def wtA : List PyData → Nat
  | [] => 0
  | d :: ds => wt d + 2 + wtA ds
def wtK : List (PyData × PyData) → Nat
  | [] => 0
  | (k, d) :: r => k.shown.length + wt d + 4 + wtK r
end
mutual
theorem wt_shown : ∀ d : PyData, d.shown.length ≤ wt d
  | .none => Nat.le_refl _
  | .bool _ => Nat.le_refl _
  | .int _ => Nat.le_refl _
  | .str _ => Nat.le_refl _
  | .list ds => by
    have h := wtA_shown ds
    simp only [PyData.shown, listText, wt]
    rw [strLen_append]
    have := text_up (PyData.shownAll ds) 0 "["
    have e1 : (("[" : String) : Str).length = 1 := rfl
    have e2 : (("]" : String) : Str).length = 1 := rfl
    omega
  | .tuple ds => by
    have h := wtA_shown ds
    simp only [PyData.shown, tupleText, wt]
    rw [strLen_append, strLen_append]
    have := join_up (PyData.shownAll ds)
    have e1 : (("(" : String) : Str).length = 1 := rfl
    have e2 : (((if (PyData.shownAll ds).length == 1 then ",)" else ")" : String) : String) : Str).length ≤ 2 := by
      by_cases z : ((PyData.shownAll ds).length == 1) = true
      · rw [if_pos z]; decide
      · rw [if_neg z]; decide
    omega
  | .dict ks => by
    have h := wtK_shown ks
    simp only [PyData.shown, dictText, wt]
    rw [strLen_append, strLen_append]
    have := join_up (PyData.shownKv ks)
    have e1 : (("{" : String) : Str).length = 1 := rfl
    have e2 : (("}" : String) : Str).length = 1 := rfl
    omega
theorem wtA_shown : ∀ ds : List PyData, piled (PyData.shownAll ds) ≤ wtA ds
  | [] => by simp [PyData.shownAll, wtA, piled]
  | d :: ds => by
    have h1 := wt_shown d
    have h2 := wtA_shown ds
    simp only [PyData.shownAll, piled_cons, wtA]
    omega
theorem wtK_shown : ∀ ks : List (PyData × PyData), piled (PyData.shownKv ks) ≤ wtK ks
  | [] => by simp [PyData.shownKv, wtK, piled]
  | (k, d) :: r => by
    have h1 := wt_shown d
    have h2 := wtK_shown r
    have e3 : ((": " : String) : Str).length = 2 := rfl
    simp only [PyData.shownKv, piled_cons, wtK, strLen_append]
    omega
end
/-- data with a text, of the weight m at most, at most n deep -/
structure Wd (m n : Nat) (d : PyData) : Prop where
  sh : d.showable = true
  dp : d.depth ≤ n
  wt : wt d ≤ m
theorem Wd.mono {m n m' n' : Nat} {d : PyData} (h : Wd m n d) (hm : m ≤ m') (hn : n ≤ n') : Wd m' n' d := ⟨h.sh, Nat.le_trans h.dp hn, Nat.le_trans h.wt hm⟩
theorem Wd.okd {m n : Nat} {d : PyData} (h : Wd m n d) : Okd m n d := ⟨h.sh, h.dp, Nat.le_trans (wt_shown d) h.wt⟩
theorem wtA_len : ∀ ds : List PyData, 2 * ds.length ≤ wtA ds
  | [] => Nat.zero_le _
  | d :: ds => by
    have := wtA_len ds
    rw [List.length_cons, wtA]
    omega
theorem wtA_mem : ∀ {ds : List PyData} {d : PyData}, d ∈ ds → wt d + 2 ≤ wtA ds
  | x :: ds, d, h => by
    rw [wtA]
    rcases List.mem_cons.mp h with rfl | h
    · omega
    · have := wtA_mem h
      omega
theorem sh_mem : ∀ {ds : List PyData} {d : PyData}, PyData.showableAll ds = true → d ∈ ds → d.showable = true
  | x :: ds, d, hs, h => by
    rw [PyData.showableAll, Bool.and_eq_true] at hs
    rcases List.mem_cons.mp h with rfl | h
    · exact hs.1
    · exact sh_mem hs.2 h
theorem dp_mem : ∀ {ds : List PyData} {d : PyData}, d ∈ ds → d.depth ≤ PyData.depthAll ds
  | x :: ds, d, h => by
    rw [PyData.depthAll]
    rcases List.mem_cons.mp h with rfl | h
    · omega
    · have := dp_mem h
      omega
theorem Wd.item {m n : Nat} {ds : List PyData} {d : PyData} (h : Wd m n (.tuple ds)) (hd : d ∈ ds) : Wd m n d := by
  have h1 := h.sh
  have h2 := h.dp
  have h3 := h.wt
  simp only [PyData.showable] at h1
  simp only [PyData.depth] at h2
  simp only [N3.wt] at h3
  have := dp_mem hd
  have := wtA_mem hd
  exact ⟨sh_mem h1 hd, by omega, by omega⟩
theorem Wd.len {m n : Nat} {ds : List PyData} (h : Wd m n (.tuple ds)) : 2 * ds.length ≤ m := by
  have h3 := h.wt
  simp only [N3.wt] at h3
  have := wtA_len ds
  omega
theorem Wd.int {m n : Nat} {i : Int} (h : Wd m n (.int i)) : i.natAbs.log2 < 1920 := by
  have := h.sh
  simpa [PyData.showable] using this
/-- any value within reason -/
def Gd (d : PyData) : Prop := Wd 2000000 60 d
theorem Gd.short {d : PyData} (h : Gd d) : Short d := fun ds e => by
  subst e
  have := Wd.len h
  omega
theorem Gd.item {ds : List PyData} {d : PyData} (h : Gd (.tuple ds)) (hd : d ∈ ds) : Gd d := Wd.item h hd
end N3

namespace N3
open PySem PySem.Spec PyProof.Rows L2 N2
/-! ### a number's coefficients; what they determine -/
theorem nb_tail {α : Type} {r : α → α → Prop} {x : α} {l : List α} (h : Nb r (x :: l)) : Nb r l := fun i a b ha hb => h (i + 1) a b (by simpa using ha) (by simpa using hb)
theorem nb_up {α : Type} {r : α → α → Prop} (tr : ∀ a b c, r a b → r b c → r a c) : ∀ {l : List α} {x : α}, Nb r (x :: l) → ∀ y ∈ l, r x y
  | [], _, _, y, hy => by simp at hy
  | z :: l, x, h, y, hy => by
    have h0 : r x z := h 0 x z rfl rfl
    rcases List.mem_cons.mp hy with rfl | hy
    · exact h0
    · exact tr _ _ _ h0 (nb_up tr (nb_tail h) y hy)
theorem nb_mk {α : Type} {r : α → α → Prop} {x : α} {l : List α} (h : ∀ y ∈ l, r x y) (t : Nb r l) : Nb r (x :: l) := fun i a b ha hb => by
  cases i with
  | zero =>
    cases ha
    exact h b (List.mem_of_getElem? (by simpa using hb))
  | succ i => exact t i a b (by simpa using ha) (by simpa using hb)
/-- the coefficient at d -/
def co : Nm → Int → Rat
  | [], _ => 0
  | x :: n, d => (if x.1 = d then Rat.divInt x.2.1 x.2.2 else 0) + co n d
theorem co_nil (d : Int) : co [] d = 0 := rfl
theorem co_cons (x : Tr) (n : Nm) (d : Int) : co (x :: n) d = (if x.1 = d then Rat.divInt x.2.1 x.2.2 else 0) + co n d := rfl
theorem co_app : ∀ (n m : Nm) (d : Int), co (n ++ m) d = co n d + co m d
  | [], m, d => (Rat.zero_add _).symm
  | x :: n, m, d => by
    rw [List.cons_append, co_cons, co_cons, co_app n m d, Rat.add_assoc]
theorem co_none : ∀ {n : Nm} {d : Int}, (∀ x ∈ n, x.1 ≠ d) → co n d = 0
  | [], _, _ => rfl
  | x :: n, d, h => by
    rw [co_cons, if_neg (h x List.mem_cons_self), co_none fun y hy => h y (List.mem_cons_of_mem _ hy), Rat.zero_add]
theorem low_pos {t b : Int} (h : lowT t b = true) : 1 ≤ b ∧ Nat.gcd t.natAbs b.natAbs = 1 := by
  unfold lowT at h
  rwa [Bool.and_eq_true, decide_eq_true_iff, decide_eq_true_iff] at h
theorem frac_iff {t b t' b' : Int} (h : 1 ≤ b) (h' : 1 ≤ b') : Rat.divInt t b = Rat.divInt t' b' ↔ t * b' = t' * b := by
  obtain ⟨m, rfl⟩ : ∃ m : Nat, b = (m : Int) := ⟨b.toNat, by omega⟩
  obtain ⟨m', rfl⟩ : ∃ m : Nat, b' = (m : Int) := ⟨b'.toNat, by omega⟩
  rw [Rat.divInt_ofNat, Rat.divInt_ofNat, Rat.mkRat_eq_iff (by omega) (by omega)]
theorem low_cross {t b t' b' : Int} (h : lowT t b = true) (h' : lowT t' b' = true) (e : t * b' = t' * b) : t = t' ∧ b = b' := by
  obtain ⟨p, g⟩ := low_pos h
  obtain ⟨p', g'⟩ := low_pos h'
  have en : t.natAbs * b'.natAbs = t'.natAbs * b.natAbs := by rw [← Int.natAbs_mul, ← Int.natAbs_mul, e]
  have d1 : b.natAbs ∣ b'.natAbs := Nat.Coprime.dvd_of_dvd_mul_left (Nat.Coprime.symm g) ⟨t'.natAbs, en.trans (Nat.mul_comm _ _)⟩
  have d2 : b'.natAbs ∣ b.natAbs := Nat.Coprime.dvd_of_dvd_mul_left (Nat.Coprime.symm g') ⟨t.natAbs, en.symm.trans (Nat.mul_comm _ _)⟩
  have eb := Nat.dvd_antisymm d1 d2
  have eb' : b = b' := by omega
  subst eb'
  exact ⟨Int.eq_of_mul_eq_mul_right (by omega) e, rfl⟩
theorem low_frac {t b t' b' : Int} (h : lowT t b = true) (h' : lowT t' b' = true) (e : Rat.divInt t b = Rat.divInt t' b') : t = t' ∧ b = b' :=
  low_cross h h' ((frac_iff (low_pos h).1 (low_pos h').1).mp e)
theorem frac_ne {t b : Int} (h : 1 ≤ b) (ht : t ≠ 0) : Rat.divInt t b ≠ 0 := fun e => by
  have z : Rat.divInt t b = Rat.divInt 0 1 := e.trans (by rw [Rat.zero_divInt])
  have := (frac_iff h (by decide)).mp z
  omega
theorem lt_tr : ∀ a b c : Tr, a.1 < b.1 → b.1 < c.1 → a.1 < c.1 := fun _ _ _ h k => by omega
theorem CN.tail {ok : Int → Prop} {x : Tr} {n : Nm} (h : CN ok (x :: n)) : CN ok n := ⟨fun y hy => h.1 y (List.mem_cons_of_mem _ hy), nb_tail h.2⟩
theorem CN.up {ok : Int → Prop} {x : Tr} {n : Nm} (h : CN ok (x :: n)) : ∀ y ∈ n, x.1 < y.1 := nb_up lt_tr h.2
theorem CN.nil {ok : Int → Prop} : CN ok [] := ⟨fun x hx => by simp at hx, fun i x y hx => by simp at hx⟩
theorem CN.head {ok : Int → Prop} {x : Tr} {n : Nm} (h : CN ok (x :: n)) : co (x :: n) x.1 = Rat.divInt x.2.1 x.2.2 := by
  rw [co_cons, if_pos rfl, co_none fun y hy => by have := h.up y hy; omega, Rat.add_zero]
theorem CN.below {ok : Int → Prop} {x : Tr} {n : Nm} {d : Int} (h : CN ok (x :: n)) (hd : d < x.1) : co (x :: n) d = 0 :=
  co_none fun y hy => by
    rcases List.mem_cons.mp hy with rfl | hy
    · omega
    · have := h.up y hy; omega
theorem CN.ne {ok : Int → Prop} {x : Tr} {n : Nm} (h : CN ok (x :: n)) : co (x :: n) x.1 ≠ 0 := by
  obtain ⟨_, t0, lo⟩ := h.1 x List.mem_cons_self
  rw [h.head]
  exact frac_ne (low_pos lo).1 t0
/-- a number in its one form is told by its coefficients -/
theorem co_inj {ok : Int → Prop} : ∀ {n m : Nm}, CN ok n → CN ok m → (∀ d, co n d = co m d) → n = m
  | [], [], _, _, _ => rfl
  | [], y :: m, _, hm, e => absurd (e y.1).symm hm.ne
  | x :: n, [], hn, _, e => absurd (e x.1) hn.ne
  | x :: n, y :: m, hn, hm, e => by
    have ed : x.1 = y.1 := by
      rcases Int.lt_trichotomy x.1 y.1 with c | c | c
      · exact absurd ((e x.1).trans (hm.below c)) hn.ne
      · exact c
      · exact absurd ((e y.1).symm.trans (hn.below c)) hm.ne
    obtain ⟨_, _, lx⟩ := hn.1 x List.mem_cons_self
    obtain ⟨_, _, ly⟩ := hm.1 y List.mem_cons_self
    have ef : Rat.divInt x.2.1 x.2.2 = Rat.divInt y.2.1 y.2.2 := by rw [← hn.head, e x.1, ed, hm.head]
    obtain ⟨e1, e2⟩ := low_frac lx ly ef
    have exy : x = y := Prod.ext ed (Prod.ext e1 e2)
    subst exy
    rw [co_inj hn.tail hm.tail fun d => ?_]
    by_cases c : x.1 = d
    · subst c
      rw [co_none fun y hy => by have := hn.up y hy; omega, co_none fun y hy => by have := hm.up y hy; omega]
    · have := e d
      rw [co_cons, co_cons, if_neg c, Rat.zero_add, Rat.zero_add] at this
      exact this
theorem co_zero {ok : Int → Prop} {n : Nm} (h : CN ok n) (e : ∀ d, co n d = 0) : n = [] := co_inj h CN.nil e
/-! ### rows -/
/-- a row's k-th coefficient at d -/
def cr (r : List Nm) (k : Nat) (d : Int) : Rat := co (r.getD k []) d
theorem CR.at_ {ok : Int → Prop} {r : List Nm} (h : CR ok r) (k : Nat) : CN ok (r.getD k []) := by
  rw [List.getD_eq_getElem?_getD]
  cases e : r[k]? with
  | none => exact CN.nil
  | some n => exact h.1 n (List.mem_of_getElem? e)
theorem cr_len {ok : Int → Prop} {r s : List Nm} (hr : CR ok r) (e : ∀ k d, cr r k d = cr s k d) : r.length ≤ s.length := by
  rcases Nat.lt_or_ge s.length r.length with c | c
  · exfalso
    obtain ⟨m, em⟩ : ∃ m, r.length = m + 1 := ⟨r.length - 1, by omega⟩
    have z : r.getD m [] = [] := co_zero (hr.at_ m) fun d => by
      have := e m d
      unfold cr at this
      rw [this, List.getD_eq_getElem?_getD, List.getElem?_eq_none (by omega)]
      rfl
    refine hr.2 ?_
    rw [List.getLast?_eq_getElem?, em]
    rw [List.getD_eq_getElem?_getD] at z
    have : m < r.length := by omega
    rw [show m + 1 - 1 = m by omega, List.getElem?_eq_getElem this]
    rw [List.getElem?_eq_getElem this] at z
    exact congrArg some z
  · exact c
/-- a row in its one form is told by its coefficients -/
theorem cr_inj {ok : Int → Prop} {r s : List Nm} (hr : CR ok r) (hs : CR ok s) (e : ∀ k d, cr r k d = cr s k d) : r = s := by
  have l : r.length = s.length := Nat.le_antisymm (cr_len hr e) (cr_len hs fun k d => (e k d).symm)
  refine List.ext_getElem l fun k h1 h2 => ?_
  have := co_inj (hr.at_ k) (hs.at_ k) (e k)
  rw [List.getD_eq_getElem?_getD, List.getD_eq_getElem?_getD, List.getElem?_eq_getElem h1, List.getElem?_eq_getElem h2] at this
  exact this
theorem cr_nil (k : Nat) (d : Int) : cr [] k d = 0 := by
  unfold cr
  rw [List.getD_eq_getElem?_getD, List.getElem?_nil]
  rfl
/-! ### quotients -/
/-- the tail at a pole -/
def tl : List Tl → Pl → List Nm
  | [], _ => []
  | t :: ts, p => if t.1 = p then t.2 else tl ts p
theorem tl_none : ∀ {ts : List Tl} {p : Pl}, (∀ t ∈ ts, t.1 ≠ p) → tl ts p = []
  | [], _, _ => rfl
  | t :: ts, p, h => by
    show (if t.1 = p then t.2 else tl ts p) = []
    rw [if_neg (h t List.mem_cons_self), tl_none fun s hs => h s (List.mem_cons_of_mem _ hs)]
theorem bf_irr {p q : Pl} (h : before p q) : p ≠ q := fun e => by
  subst e
  unfold before at h
  omega
theorem bf_tr {p q r : Pl} (hp : CPl p) (hq : CPl q) (hr : CPl r) (h : before p q) (k : before q r) : before p r := by
  have p0 := (low_pos hp).1
  have q0 := (low_pos hq).1
  have r0 := (low_pos hr).1
  unfold before at h k ⊢
  have h1 : p.1 * q.2 * r.2 < q.1 * p.2 * r.2 := Int.mul_lt_mul_of_pos_right h (by omega)
  have h2 : q.1 * r.2 * p.2 < r.1 * q.2 * p.2 := Int.mul_lt_mul_of_pos_right k (by omega)
  have e1 : q.1 * p.2 * r.2 = q.1 * r.2 * p.2 := by rw [Int.mul_right_comm]
  have e2 : p.1 * q.2 * r.2 = p.1 * r.2 * q.2 := by rw [Int.mul_right_comm]
  have e3 : r.1 * q.2 * p.2 = r.1 * p.2 * q.2 := by rw [Int.mul_right_comm]
  exact Int.lt_of_mul_lt_mul_right (by omega : p.1 * r.2 * q.2 < r.1 * p.2 * q.2) (by omega)
theorem bf_tot {p q : Pl} (hp : CPl p) (hq : CPl q) (h : ¬ before p q) (k : ¬ before q p) : p = q := by
  unfold before at h k
  obtain ⟨e1, e2⟩ := low_cross hp hq (by omega)
  exact Prod.ext e1 e2
theorem CTs.tail {ok : Int → Prop} {t : Tl} {ts : List Tl} (h : CTs ok (t :: ts)) : CTs ok ts := ⟨fun s hs => h.1 s (List.mem_cons_of_mem _ hs), nb_tail h.2⟩
theorem CTs.up {ok : Int → Prop} : ∀ {ts : List Tl} {t : Tl}, CTs ok (t :: ts) → ∀ s ∈ ts, before t.1 s.1
  | [], _, _, s, hs => by simp at hs
  | u :: ts, t, h, s, hs => by
    have h0 : before t.1 u.1 := h.2 0 t u rfl rfl
    rcases List.mem_cons.mp hs with rfl | hs'
    · exact h0
    · have pt := (h.1 t List.mem_cons_self).1
      have pu := (h.1 u (List.mem_cons_of_mem _ List.mem_cons_self)).1
      have ps := (h.1 s (List.mem_cons_of_mem _ hs)).1
      exact bf_tr pt pu ps h0 (CTs.up h.tail s hs')
theorem tl_head {t : Tl} {ts : List Tl} : tl (t :: ts) t.1 = t.2 := if_pos rfl
theorem ts_inj {ok : Int → Prop} : ∀ {ts us : List Tl}, CTs ok ts → CTs ok us → (∀ p, tl ts p = tl us p) → ts = us
  | [], [], _, _, _ => rfl
  | [], u :: us, _, hu, e => absurd ((e u.1).trans tl_head).symm (hu.1 u List.mem_cons_self).2.2
  | t :: ts, [], ht, _, e => absurd ((e t.1).symm.trans tl_head).symm (ht.1 t List.mem_cons_self).2.2
  | t :: ts, u :: us, ht, hu, e => by
    obtain ⟨pt, _, tn⟩ := ht.1 t List.mem_cons_self
    obtain ⟨pu, _, un⟩ := hu.1 u List.mem_cons_self
    have low : ∀ {x : Tl} {xs : List Tl} {p : Pl}, CTs ok (x :: xs) → CPl p → before p x.1 → tl (x :: xs) p = [] := fun {x xs p} hx hp b => tl_none fun s hs => by
      rcases List.mem_cons.mp hs with rfl | hs'
      · exact (bf_irr b).symm
      · exact (bf_irr (bf_tr hp (hx.1 x List.mem_cons_self).1 (hx.1 s hs).1 b (hx.up s hs'))).symm
    have ep : t.1 = u.1 := bf_tot pt pu (fun b => tn (by rw [← tl_head (t := t) (ts := ts), e t.1, low hu pt b])) (fun b => un (by rw [← tl_head (t := u) (ts := us), ← e u.1, low ht pu b]))
    have er : t.2 = u.2 := by rw [← tl_head (t := t) (ts := ts), e t.1, ep, tl_head]
    have etu : t = u := Prod.ext ep er
    subst etu
    rw [ts_inj ht.tail hu.tail fun p => ?_]
    by_cases c : t.1 = p
    · subst c
      rw [tl_none fun s hs => (bf_irr (ht.up s hs)).symm, tl_none fun s hs => (bf_irr (hu.up s hs)).symm]
    · have := e p
      show tl ts p = tl us p
      have h1 : tl (t :: ts) p = tl ts p := if_neg c
      have h2 : tl (t :: us) p = tl us p := if_neg c
      rw [← h1, this, h2]
/-- a quotient in its one form is told by its coefficients -/
theorem q_inj {ok : Int → Prop} {q r : Qt} (hq : CQ ok q) (hr : CQ ok r) (h1 : ∀ k d, cr q.1 k d = cr r.1 k d) (h2 : ∀ p k d, cr (tl q.2 p) k d = cr (tl r.2 p) k d) : q = r := by
  have rows : ∀ {x : Qt}, CQ ok x → ∀ p, CR ok (tl x.2 p) := fun {x} hx p => by
    have : ∀ ts : List Tl, CTs ok ts → CR ok (tl ts p) := fun ts => by
      induction ts with
      | nil => exact fun _ => ⟨fun n hn => by simp [tl] at hn, by simp [tl]⟩
      | cons t ts ih =>
        intro h
        show CR ok (if t.1 = p then t.2 else tl ts p)
        split
        · exact (h.1 t List.mem_cons_self).2.1
        · exact ih h.tail
    exact this _ hx.2
  exact Prod.ext (cr_inj hq.1 hr.1 h1) (ts_inj hq.2 hr.2 fun p => cr_inj (rows hq p) (rows hr p) (h2 p))
end N3

namespace N3
open PySem PySem.Spec PyProof.Rows L2 N2
abbrev sLowest2 : Stmt := top 15
/-- the fraction top / bottom without a common divisor: t / b -/
structure LowOf (x y t b : Int) : Prop where
  low : lowT t b = true
  eq : t * y = x * b
  t1 : t.natAbs ≤ x.natAbs
  b1 : b.natAbs ≤ y.natAbs
theorem lowT_iff {b c : Int} : lowT b c = true ↔ 0 < c ∧ Nat.gcd b.natAbs c.natAbs = 1 := by
  unfold lowT
  rw [Bool.and_eq_true, decide_eq_true_iff, decide_eq_true_iff]
  exact ⟨fun h => ⟨by omega, h.2⟩, fun h => ⟨by omega, h.2⟩⟩
/-- two fractions without common divisors that are the same number -/
theorem low_same {t b t' b' : Int} (h : lowT t b = true) (h' : lowT t' b' = true) (e : t * b' = t' * b) : t = t' ∧ b = b' := by
  obtain ⟨b0, g⟩ := lowT_iff.mp h
  obtain ⟨b0', g'⟩ := lowT_iff.mp h'
  have en : t.natAbs * b'.natAbs = t'.natAbs * b.natAbs := by rw [← Int.natAbs_mul, ← Int.natAbs_mul, e]
  have d1 : b.natAbs ∣ b'.natAbs := by
    have : b.natAbs ∣ t.natAbs * b'.natAbs := ⟨t'.natAbs, by rw [en, Nat.mul_comm]⟩
    exact (Nat.Coprime.symm (show Nat.Coprime t.natAbs b.natAbs from g)).dvd_of_dvd_mul_left this
  have d2 : b'.natAbs ∣ b.natAbs := by
    have : b'.natAbs ∣ t'.natAbs * b.natAbs := ⟨t.natAbs, by rw [← en, Nat.mul_comm]⟩
    exact (Nat.Coprime.symm (show Nat.Coprime t'.natAbs b'.natAbs from g')).dvd_of_dvd_mul_left this
  have eb : b.natAbs = b'.natAbs := Nat.dvd_antisymm d1 d2
  have eb' : b = b' := by omega
  subst eb'
  exact ⟨Int.eq_of_mul_eq_mul_right (by omega) e, rfl⟩
theorem low_uniq {x y t b t' b' : Int} (hy : y ≠ 0) (h : LowOf x y t b) (h' : LowOf x y t' b') : t = t' ∧ b = b' := by
  refine low_same h.low h'.low (Int.eq_of_mul_eq_mul_right hy ?_)
  have e1 := h.eq
  have e2 := h'.eq
  calc t * b' * y = t * y * b' := by rw [Int.mul_assoc, Int.mul_comm b' y, ← Int.mul_assoc]
    _ = x * b * b' := by rw [e1]
    _ = x * b' * b := by rw [Int.mul_assoc, Int.mul_comm b b', ← Int.mul_assoc]
    _ = t' * y * b := by rw [e2]
    _ = t' * b * y := by rw [Int.mul_assoc, Int.mul_comm y b, ← Int.mul_assoc]
/-- dividing by the greatest common divisor with the sign of the bottom -/
theorem low_div {x y c : Int} (hy : y ≠ 0) (hc : c = if y < 0 then -((Nat.gcd x.natAbs y.natAbs : Nat) : Int) else ((Nat.gcd x.natAbs y.natAbs : Nat) : Int)) : c ≠ 0 ∧ c.natAbs ≤ y.natAbs ∧ LowOf x y (x.fdiv c) (y.fdiv c) := by
  have gp : 0 < Nat.gcd x.natAbs y.natAbs := Nat.gcd_pos_of_pos_right _ (by omega)
  have gl : Nat.gcd x.natAbs y.natAbs ≤ y.natAbs := Nat.le_of_dvd (by omega) (Nat.gcd_dvd_right _ _)
  obtain ⟨g, eg⟩ : ∃ g, Nat.gcd x.natAbs y.natAbs = g := ⟨_, rfl⟩
  have dx : (g : Int) ∣ x := Int.ofNat_dvd_left.mpr (eg ▸ Nat.gcd_dvd_left _ _)
  have dy : (g : Int) ∣ y := Int.ofNat_dvd_left.mpr (eg ▸ Nat.gcd_dvd_right _ _)
  rw [eg] at hc gp gl
  have cn : c.natAbs = g := by rw [hc]; split <;> omega
  have c0 : c ≠ 0 := by omega
  have cx : c ∣ x := Int.natAbs_dvd.mp (by rw [cn]; exact dx)
  have cy : c ∣ y := Int.natAbs_dvd.mp (by rw [cn]; exact dy)
  have ex : c * x.fdiv c = x := by rw [Int.fdiv_eq_ediv_of_dvd cx]; exact Int.mul_ediv_cancel' cx
  have ey : c * y.fdiv c = y := by rw [Int.fdiv_eq_ediv_of_dvd cy]; exact Int.mul_ediv_cancel' cy
  obtain ⟨t, et⟩ : ∃ t, x.fdiv c = t := ⟨_, rfl⟩
  obtain ⟨b, eb⟩ : ∃ b, y.fdiv c = b := ⟨_, rfl⟩
  rw [et] at ex ⊢
  rw [eb] at ey ⊢
  have nx : x.natAbs = g * t.natAbs := by rw [← ex, Int.natAbs_mul, cn]
  have ny : y.natAbs = g * b.natAbs := by rw [← ey, Int.natAbs_mul, cn]
  refine ⟨c0, by omega, lowT_iff.mpr ⟨?_, ?_⟩, ?_, ?_, ?_⟩
  · by_cases hneg : y < 0
    · rw [if_pos hneg] at hc
      have : c < 0 := by omega
      by_cases hb : 0 < b
      · exact hb
      · have : 0 ≤ c * b := Int.mul_nonneg_of_nonpos_of_nonpos (by omega) (by omega)
        omega
    · rw [if_neg hneg] at hc
      have : 0 < c := by omega
      by_cases hb : 0 < b
      · exact hb
      · have : c * b ≤ 0 := Int.mul_nonpos_of_nonneg_of_nonpos (by omega) (by omega)
        omega
  · have : Nat.gcd (g * t.natAbs) (g * b.natAbs) = g := by rw [← nx, ← ny]; exact eg
    rw [Nat.gcd_mul_left] at this
    exact Nat.eq_of_mul_eq_mul_left gp (by rw [this, Nat.mul_one])
  · rw [← ex, ← ey, ← Int.mul_assoc, Int.mul_comm t c]
  · rw [nx]; exact Nat.le_mul_of_pos_left _ gp
  · rw [ny]; exact Nat.le_mul_of_pos_left _ gp
/-- // by any divisor but 0, of any sign -/
theorem op_fdivZ {X : Cx} : OpR X (binaryOp .FloorDiv) (rI (fun _ j => j ≠ 0 ∧ j.natAbs.log2 < 9000) fun i j => .int (i.fdiv j)) := opI fun i j _ _ _ _ _ hc q => floordiv_int hc.1 q (.inl (PyProof.noPylong_of_log2 hc.2))
theorem log_big {i : Int} (h : i.natAbs < 2 ^ 8000) : i.natAbs.log2 < 9000 := by
  rcases Nat.eq_zero_or_pos i.natAbs with z | z
  · rw [z]; decide
  · have := (Nat.log2_lt (by omega : i.natAbs ≠ 0)).mpr h; omega
def spLowest : Sp := fun vs H Q _ => ∃ x y : Int, vs = [.int x, .int y] ∧ y ≠ 0 ∧ y.natAbs < 2 ^ 8000 ∧ ∀ (p : Addr) (t b : Int) (H' : Hp), LowOf x y t b → H' p = some (.tup [.int t, .int b]) → Same H H' → Q (.ref p) H'
/-- the number that a fraction is -/
def FrAt (H : Hp) (r : Addr) (x y : Int) : Prop := (x = 0 ∧ H r = some (.tup [])) ∨ (x ≠ 0 ∧ ∃ (p : Addr) (t b : Int), LowOf x y t b ∧ H p = some (.tup [.int 1, .int t, .int b]) ∧ H r = some (.tup [.ref p]))
def spFromFr : Sp := fun vs H Q _ => ∃ x y : Int, vs = [.int x, .int y] ∧ y ≠ 0 ∧ y.natAbs < 2 ^ 8000 ∧ ∀ (r : Addr) (H' : Hp), FrAt H' r x y → Same H H' → Q (.ref r) H'
section
variable {P : Program} {w : World} {K : PySem.W.Frag} {mg : Str → Option Value} {base : Heap}
theorem scLowest : FnScope ["top", "bottom", "common"] ["top", "bottom"] (defScope sLowest2) := ⟨rfl, rfl, rfl, by decide +kernel, rfl, by decide +kernel, by decide +kernel⟩
theorem ok_lowest {f : Addr} {fd : FuncData} (F : Fun K "lowest" "lowest" sLowest2 f fd) (T : Bt mg) : FnOk P w K mg base CX0 1 f fd ["top", "bottom"] spLowest := by
  refine F.ok scLowest (fun vs H Q E h => ?_) (fun cdv A outer s H vs Q E hr h => ?_)
  · obtain ⟨x, y, rfl, _⟩ := h
    rfl
  · obtain ⟨x, y, rfl, y0, yb, k⟩ := h
    refine ⟨_, pss_cons (ps_set (i := 2) scLowest.nd rfl (Or.inl rfl) (pe_callBfun cr_gcd (by rfl) T.gcd (pa_cons (pv 0) (pa_cons (pv 1) pa_nil))))
      (C8.pss_cut (ps_if (pt_cmpR op_lt (pv 1) pe_int (nomark _)) (pss_one (ps_set (i := 2) scLowest.nd rfl (Or.inl rfl) (pe_un un_neg (pv 2)))) pss_nil)
      (pss_one (ps_ret (pe_tup (pa_cons (pe_op op_fdivZ (pv 0) (pv 2)) (pa_cons (pe_op op_fdivZ (pv 1) (pv 2)) pa_nil)))))), ?_⟩
    refine ⟨_, rfl, _, rfl, x, y, rfl, ?_⟩
    refine ⟨fun σ' H' => σ' = [some (.int x), some (.int y), some (.int (if y < 0 then -((Nat.gcd x.natAbs y.natAbs : Nat) : Int) else ((Nat.gcd x.natAbs y.natAbs : Nat) : Int)))] ∧ H' = H, ?_, ?_⟩
    · refine ⟨_, rfl, _, _, rfl, rfl, _, rfl, ite_b (fun c => ?_) (fun c => ?_)⟩
      · have c' := of_decide_eq_true c
        refine ⟨_, rfl, _, rfl, ?_⟩
        rw [if_pos c']
        exact ⟨rfl, rfl⟩
      · have c' := of_decide_eq_false c
        rw [if_neg c']
        exact ⟨rfl, rfl⟩
    · rintro σ' H' ⟨rfl, rfl⟩
      obtain ⟨c0, cl, lo⟩ := low_div (x := x) y0 rfl
      have lg := log_big (Nat.lt_of_le_of_lt cl yb)
      refine ⟨_, rfl, _, rfl, _, _, rfl, rfl, ⟨c0, lg⟩, _, rfl, _, rfl, _, _, rfl, rfl, ⟨c0, lg⟩, by show 2 ≤ sizeLine; rw [sizeLine_eq]; decide, fun p hp => ?_⟩
      exact k p _ _ _ lo upd_same (snew hp)
end
end N3

namespace N3
open PySem PySem.Spec PyProof.Rows L2 N2
/-! ### tables of sums: d with a top and a bottom -/
/-- the table's rows as they stand -/
inductive TotR (H : Hp) : List (Key × V) → Nm → Prop
  | nil : TotR H [] []
  | cons {d t b : Int} {q : Addr} {kvs : List (Key × V)} {ts : Nm} : H q = some (.tup [.int t, .int b]) → TotR H kvs ts → TotR H ((Sum.inl d, .ref q) :: kvs) ((d, t, b) :: ts)
def Ks (ts : Nm) : Prop := (ts.map (·.1)).Nodup
/-- tops and bottoms below 2 ^ B, no bottom is 0 -/
def Sz (B : Nat) (ts : Nm) : Prop := ∀ x ∈ ts, x.2.1.natAbs < 2 ^ B ∧ x.2.2 ≠ 0 ∧ x.2.2.natAbs < 2 ^ B
theorem TotR.length {H : Hp} : ∀ {kvs : List (Key × V)} {ts : Nm}, TotR H kvs ts → kvs.length = ts.length
  | _, _, .nil => rfl
  | _, _, .cons _ r => by rw [List.length_cons, List.length_cons, r.length]
theorem TotR.keys {H : Hp} : ∀ {kvs : List (Key × V)} {ts : Nm}, TotR H kvs ts → kvs.map (·.1) = (ts.map (·.1)).map Sum.inl
  | _, _, .nil => rfl
  | _, _, .cons _ r => by rw [List.map_cons, List.map_cons, List.map_cons, r.keys]
theorem TotR.tst {H H' : Hp} (s : ∀ b xs, H b = some (.tup xs) → H' b = some (.tup xs)) : ∀ {kvs : List (Key × V)} {ts : Nm}, TotR H kvs ts → TotR H' kvs ts
  | _, _, .nil => .nil
  | _, _, .cons h r => .cons (s _ _ h) (r.tst s)
theorem co_off {ts : Nm} {d : Int} (h : d ∉ ts.map (·.1)) : co ts d = 0 := co_none fun x hx e => h (List.mem_map.mpr ⟨x, hx, e⟩)
theorem Ks.tail {x : Tr} {ts : Nm} (h : Ks (x :: ts)) : x.1 ∉ ts.map (·.1) ∧ Ks ts := by
  unfold Ks at h
  rw [List.map_cons, List.nodup_cons] at h
  exact h
theorem co_at : ∀ {ts : Nm} {x : Tr}, Ks ts → x ∈ ts → co ts x.1 = Rat.divInt x.2.1 x.2.2
  | y :: ts, x, h, hx => by
    obtain ⟨h1, h2⟩ := h.tail
    rcases List.mem_cons.mp hx with rfl | hx
    · rw [co_cons, if_pos rfl, co_off h1, Rat.add_zero]
    · have : y.1 ≠ x.1 := fun e => h1 (List.mem_map.mpr ⟨x, hx, e.symm⟩)
      rw [co_cons, if_neg this, Rat.zero_add, co_at h2 hx]
/-- what a key leads to -/
theorem TotR.get {H : Hp} : ∀ {kvs : List (Key × V)} {ts : Nm}, TotR H kvs ts → ∀ d : Int, (valV kvs (Sum.inl d) = none ∧ d ∉ ts.map (·.1)) ∨ ∃ (q : Addr) (t b : Int), valV kvs (Sum.inl d) = some (.ref q) ∧ H q = some (.tup [.int t, .int b]) ∧ (d, t, b) ∈ ts
  | _, _, .nil, d => .inl ⟨rfl, by simp⟩
  | _, _, .cons (d := e) (t := t) (b := b) (q := q) h r, d => by
    by_cases c : e = d
    · subst c
      exact .inr ⟨q, t, b, valV_pos rfl, h, List.mem_cons_self⟩
    · have ne : ¬ ((Sum.inl e : Key) = Sum.inl d) := fun z => c (Sum.inl.inj z)
      rcases r.get d with ⟨h1, h2⟩ | ⟨q', t', b', h1, h2, h3⟩
      · refine .inl ⟨by rw [valV_neg ne]; exact h1, fun m => ?_⟩
        rw [List.map_cons] at m
        rcases List.mem_cons.mp m with z | z
        · exact c z.symm
        · exact h2 z
      · exact .inr ⟨q', t', b', by rw [valV_neg ne]; exact h1, h2, List.mem_cons_of_mem _ h3⟩
/-- a row put into the table -/
def putN (ts : Nm) (d t b : Int) : Nm := if d ∈ ts.map (·.1) then ts.map (fun x => if x.1 = d then (d, t, b) else x) else ts ++ [(d, t, b)]
theorem TotR.any {H : Hp} {kvs : List (Key × V)} {ts : Nm} (r : TotR H kvs ts) (d : Int) : (kvs.any fun kv => decide (kv.1 = (Sum.inl d : Key))) = true ↔ d ∈ ts.map (·.1) := by
  rw [List.any_eq_true]
  have k := r.keys
  constructor
  · rintro ⟨p, hp, e⟩
    have e := of_decide_eq_true e
    have : (Sum.inl d : Key) ∈ kvs.map (·.1) := List.mem_map.mpr ⟨p, hp, e⟩
    rw [k] at this
    obtain ⟨x, hx, e'⟩ := List.mem_map.mp this
    rwa [Sum.inl.inj e'] at hx
  · intro h
    have : (Sum.inl d : Key) ∈ kvs.map (·.1) := by rw [k]; exact List.mem_map.mpr ⟨d, h, rfl⟩
    obtain ⟨p, hp, e⟩ := List.mem_map.mp this
    exact ⟨p, hp, decide_eq_true e⟩
theorem TotR.swap {H : Hp} {d t b : Int} {q : Addr} (hq : H q = some (.tup [.int t, .int b])) : ∀ {kvs : List (Key × V)} {ts : Nm}, TotR H kvs ts → TotR H (kvs.map fun kv => if kv.1 = (Sum.inl d : Key) then (kv.1, V.ref q) else kv) (ts.map fun x => if x.1 = d then (d, t, b) else x)
  | _, _, .nil => .nil
  | _, _, .cons (d := e) (t := t') (b := b') (q := q') h r => by
    rw [List.map_cons, List.map_cons]
    by_cases c : e = d
    · subst c
      rw [if_pos rfl, if_pos rfl]
      exact .cons hq (r.swap hq)
    · have ne : ¬ ((Sum.inl e : Key) = Sum.inl d) := fun z => c (Sum.inl.inj z)
      rw [if_neg ne, if_neg c]
      exact .cons h (r.swap hq)
theorem TotR.snoc {H : Hp} {d t b : Int} {q : Addr} (hq : H q = some (.tup [.int t, .int b])) : ∀ {kvs : List (Key × V)} {ts : Nm}, TotR H kvs ts → TotR H (kvs ++ [(Sum.inl d, V.ref q)]) (ts ++ [(d, t, b)])
  | _, _, .nil => .cons hq .nil
  | _, _, .cons h r => .cons h (r.snoc hq)
theorem TotR.put {H : Hp} {kvs : List (Key × V)} {ts : Nm} {d t b : Int} {q : Addr} (r : TotR H kvs ts) (hq : H q = some (.tup [.int t, .int b])) : TotR H (putK kvs (Sum.inl d) (.ref q)) (putN ts d t b) := by
  unfold putK putN
  by_cases c : d ∈ ts.map (·.1)
  · rw [if_pos c, if_pos ((r.any d).mpr c)]
    exact r.swap hq
  · rw [if_neg c, if_neg (fun z => c ((r.any d).mp z))]
    exact r.snoc hq
theorem swap_keys {d t b : Int} : ∀ {ts : Nm}, (ts.map fun x => if x.1 = d then (d, t, b) else x).map (·.1) = ts.map (·.1)
  | [] => rfl
  | x :: ts => by
    rw [List.map_cons, List.map_cons, List.map_cons, swap_keys]
    congr 1
    split
    · next c => exact c.symm
    · rfl
theorem putN_keys {ts : Nm} {d t b : Int} : (putN ts d t b).map (·.1) = if d ∈ ts.map (·.1) then ts.map (·.1) else ts.map (·.1) ++ [d] := by
  unfold putN
  split
  · exact swap_keys
  · rw [List.map_append]; rfl
theorem putN_ks {ts : Nm} {d t b : Int} (h : Ks ts) : Ks (putN ts d t b) := by
  unfold Ks
  rw [putN_keys]
  split
  · exact h
  · next c =>
    rw [List.nodup_append]
    exact ⟨h, by simp, fun x hx y hy e => c (by rw [List.mem_singleton] at hy; rw [← hy, ← e]; exact hx)⟩
theorem putN_len {ts : Nm} {d t b : Int} : (putN ts d t b).length ≤ ts.length + 1 := by
  unfold putN
  split
  · rw [List.length_map]; omega
  · rw [List.length_append]; exact Nat.le_refl _
theorem putN_mem {ts : Nm} {d t b : Int} {x : Tr} (h : x ∈ putN ts d t b) : x = (d, t, b) ∨ (x ∈ ts ∧ x.1 ≠ d) := by
  unfold putN at h
  split at h
  · obtain ⟨y, hy, e⟩ := List.mem_map.mp h
    split at e
    · exact .inl e.symm
    · next c => subst e; exact .inr ⟨hy, c⟩
  · next c =>
    rcases List.mem_append.mp h with h | h
    · exact .inr ⟨h, fun e => c (List.mem_map.mpr ⟨x, h, e⟩)⟩
    · exact .inl (List.mem_singleton.mp h)
theorem putN_co {ts : Nm} {d t b : Int} (h : Ks ts) (e : Int) : co (putN ts d t b) e = if d = e then Rat.divInt t b else co ts e := by
  have me : (d, t, b) ∈ putN ts d t b := by
    unfold putN
    split
    · next c =>
      obtain ⟨x, hx, ex⟩ := List.mem_map.mp c
      exact List.mem_map.mpr ⟨x, hx, if_pos ex⟩
    · exact List.mem_append_right _ List.mem_cons_self
  by_cases c : d = e
  · subst c
    rw [if_pos rfl]
    exact co_at (putN_ks h) me
  · rw [if_neg c]
    unfold putN
    split
    · have : ∀ ts : Nm, co (ts.map fun x => if x.1 = d then (d, t, b) else x) e = co ts e := fun ts => by
        induction ts with
        | nil => rfl
        | cons x ts ih =>
          rw [List.map_cons, co_cons, co_cons, ih]
          by_cases z : x.1 = d
          · rw [if_pos z, if_neg c, if_neg (by rw [z]; exact c)]
          · rw [if_neg z]
      exact this ts
    · rw [co_app, co_cons, if_neg c, co_nil, Rat.zero_add, Rat.add_zero]
theorem putN_sz {B C : Nat} {ts : Nm} {d t b : Int} (h : Sz B ts) (hB : B ≤ C) (ht : t.natAbs < 2 ^ C) (hb : b ≠ 0) (hb' : b.natAbs < 2 ^ C) : Sz C (putN ts d t b) := fun x hx => by
  rcases putN_mem hx with rfl | ⟨hx, _⟩
  · exact ⟨ht, hb, hb'⟩
  · obtain ⟨a, b, c⟩ := h x hx
    have := Nat.pow_le_pow_right (show 0 < 2 by decide) hB
    exact ⟨by omega, b, by omega⟩
/-! ### fractions -/
theorem frac_same {t b t' b' : Int} (h : b ≠ 0) (h' : b' ≠ 0) (e : t * b' = t' * b) : Rat.divInt t b = Rat.divInt t' b' := (Rat.divInt_eq_divInt_iff h h').mpr e
theorem low_val {x y t b : Int} (hy : y ≠ 0) (h : LowOf x y t b) : Rat.divInt x y = Rat.divInt t b := frac_same hy (by have := (low_pos h.low).1; omega) h.eq.symm
/-- a sum over a common divisor of the bottoms -/
theorem frac_add {h l t b c : Int} (hl : l ≠ 0) (hb : b ≠ 0) (cl : c ∣ l) (cb : c ∣ b) : Rat.divInt (h * b.fdiv c + t * l.fdiv c) (l * b.fdiv c) = Rat.divInt h l + Rat.divInt t b ∧ l * b.fdiv c ≠ 0 := by
  have c0 : c ≠ 0 := fun z => hl (by obtain ⟨k, e⟩ := cl; rw [e, z, Int.zero_mul])
  obtain ⟨l', rfl⟩ := cl
  obtain ⟨b', rfl⟩ := cb
  have e1 : (c * b').fdiv c = b' := by rw [Int.fdiv_eq_ediv_of_dvd ⟨b', rfl⟩, Int.mul_ediv_cancel_left _ c0]
  have e2 : (c * l').fdiv c = l' := by rw [Int.fdiv_eq_ediv_of_dvd ⟨l', rfl⟩, Int.mul_ediv_cancel_left _ c0]
  have b0 : b' ≠ 0 := fun z => hb (by rw [z, Int.mul_zero])
  have n0 : c * l' * b' ≠ 0 := Int.mul_ne_zero hl b0
  rw [e1, e2, Rat.divInt_add_divInt _ _ hl hb]
  refine ⟨frac_same n0 (Int.mul_ne_zero hl hb) ?_, n0⟩
  rw [Int.add_mul, Int.add_mul]
  congr 1 <;> ac_rfl
/-! ### a number out of a table -/
theorem CN.snoc {ok : Int → Prop} : ∀ {n : Nm} {x : Tr}, CN ok n → CT ok x → (∀ y ∈ n, y.1 < x.1) → CN ok (n ++ [x])
  | [], x, _, hx, _ => ⟨fun y hy => by rw [List.nil_append, List.mem_singleton] at hy; exact hy ▸ hx, nb_mk (fun y hy => by simp at hy) (fun i a b ha => by simp at ha)⟩
  | y :: n, x, h, hx, up => by
    have ih := CN.snoc h.tail hx fun z hz => up z (List.mem_cons_of_mem _ hz)
    refine ⟨fun z hz => ?_, nb_mk (fun z hz => ?_) ih.2⟩
    · rcases List.mem_cons.mp hz with rfl | hz
      · exact h.1 z List.mem_cons_self
      · exact ih.1 z hz
    · rcases List.mem_append.mp hz with hz | hz
      · exact h.up z hz
      · rw [List.mem_singleton.mp hz]; exact up y List.mem_cons_self
end N3

namespace N3
open PySem PySem.Spec PyProof.Rows L2 N2
/-! ### sums of numbers -/
def spAddT : Sp := fun vs H Q _ => ∃ (a : Addr) (d x y : Int) (kvs : List (Key × V)) (ts : Nm) (B C : Nat), vs = [.ref a, .int d, .int x, .int y] ∧ H a = some (.dK kvs) ∧ TotR H kvs ts ∧ Ks ts ∧ Sz B ts ∧ x.natAbs < 2 ^ C ∧ y ≠ 0 ∧ y.natAbs < 2 ^ C ∧ B + C + 1 ≤ 8000 ∧ ts.length ≤ 1000 ∧
  ∀ (kvs' : List (Key × V)) (t b : Int) (H' : Hp), H' a = some (.dK kvs') → TotR H' kvs' (putN ts d t b) → Rat.divInt t b = co ts d + Rat.divInt x y → t.natAbs < 2 ^ (B + C + 1) → b ≠ 0 → b.natAbs < 2 ^ (B + C + 1) → (∀ c o, H c = some o → c ≠ a → H' c = some o) → Q .non H'
theorem log_lt {i : Int} {B : Nat} (h : i.natAbs < 2 ^ B) : i.natAbs.log2 ≤ B := by
  rcases Nat.eq_zero_or_pos i.natAbs with z | z
  · rw [z]; exact Nat.zero_le _
  · have := (Nat.log2_lt (by omega : i.natAbs ≠ 0)).mpr h; omega
theorem fdiv_le {x c : Int} (h : c ∣ x) : (x.fdiv c).natAbs ≤ x.natAbs := by
  rw [Int.fdiv_eq_ediv_of_dvd h]
  exact Int.natAbs_ediv_le_natAbs _ _
theorem mul_bit {x y : Int} {B C : Nat} (h : x.natAbs < 2 ^ B) (k : y.natAbs < 2 ^ C) : (x * y).natAbs < 2 ^ (B + C) := by
  rw [Int.natAbs_mul, Nat.pow_add]
  exact Nat.mul_lt_mul'' h k
theorem add_bit {x y : Int} {B : Nat} (h : x.natAbs < 2 ^ B) (k : y.natAbs < 2 ^ B) : (x + y).natAbs < 2 ^ (B + 1) := by
  have := Int.natAbs_add_le x y
  rw [Nat.pow_succ]
  omega
theorem bit_up {x : Int} {B C : Nat} (h : x.natAbs < 2 ^ B) (k : B ≤ C) : x.natAbs < 2 ^ C := Nat.lt_of_lt_of_le h (Nat.pow_le_pow_right (by decide) k)
section
variable {P : Program} {w : World} {K : PySem.W.Frag} {mg : Str → Option Value} {base : Heap}
abbrev s_add_term : Stmt := top 16
theorem sc_add_term : FnScope ["totals", "d", "top", "bottom", "high", "low", "common"] ["totals", "d", "top", "bottom"] (defScope s_add_term) := ⟨rfl, rfl, rfl, by decide +kernel, rfl, by decide +kernel, by decide +kernel⟩
theorem ok_add_term {f  : Addr} {fd  : FuncData}  (F : Fun K "add_term" "add_term" s_add_term f fd) (T : Bt mg)  : FnOk P w K mg base CX0 2 f fd ["totals", "d", "top", "bottom"] spAddT := by
  refine F.ok sc_add_term (fun vs H Q E h => ?_) (fun cdv A outer s H vs Q E hr h => ?_)
  · obtain ⟨a, d, x, y, kvs, ts, B, C, rfl, _⟩ := h
    rfl
  · obtain ⟨a, d, x, y, kvs, ts, B, C, rfl, ha, tr, nd, sz, hx, y0, hy, bc, len, k⟩ := h
    have hu := hu_of hr
    refine ⟨_, C8.pss_cut (ps_if (pt_cmp (pc_din hu (pv 1) (pv 0)))
        (pss_cons (ps_asg (pe_dget hu (pv 0) (pv 1) (fun _ _ => rfl)) (pg_tup rfl (pgs_cons (pg_name (i := 4) sc_add_term.nd rfl (Or.inl rfl)) (pgs_cons (pg_name (i := 5) sc_add_term.nd rfl (Or.inl rfl)) pgs_nil))))
        (C8.pss_cut (ps_set (i := 6) sc_add_term.nd rfl (Or.inl rfl) (pe_ifExp (pt_cmpR op_eq (pv 5) (pv 3) (nomark _)) (pv 3) (pe_callBfun cr_gcd (by rfl) T.gcd (pa_cons (pv 5) (pa_cons (pv 3) pa_nil)))))
        (pss_one (ps_par (i := 2) (j := 3) rfl sc_add_term.nd rfl rfl (by decide) rfl rfl (pa_cons (pe_op op_add (pe_op op_mulW (pv 4) (pe_op op_fdivZ (pv 3) (pv 6))) (pe_op op_mulW (pv 2) (pe_op op_fdivZ (pv 5) (pv 6)))) (pa_cons (pe_op op_mulW (pv 5) (pe_op op_fdivZ (pv 3) (pv 6))) pa_nil)) (by rfl)))))
        pss_nil)
      (pss_one (ps_dput hu (pv 0) (pv 1) (pe_tup (pa_cons (pv 2) (pa_cons (pv 3) pa_nil))) rfl)), ?_⟩
    have lgs : ∀ {i : Int} {D : Nat}, i.natAbs < 2 ^ D → D ≤ 8000 → i.natAbs.log2 ≤ 8000 := fun h k => Nat.le_trans (log_lt h) k
    refine ⟨fun σ' H' => ∃ (t b : Int) (y4 y5 y6 : Option V), σ' = [some (.ref a), some (.int d), some (.int t), some (.int b), y4, y5, y6] ∧ H = H' ∧ Rat.divInt t b = co ts d + Rat.divInt x y ∧ t.natAbs < 2 ^ (B + C + 1) ∧ b ≠ 0 ∧ b.natAbs < 2 ^ (B + C + 1), ?_, ?_⟩
    · rcases tr.get d with ⟨hv, hd⟩ | ⟨q, h', l, hv, hq, hm⟩
      · have dg : DGet H a (.int d) none := hv ▸ DGet.k (k := Sum.inl d) ha
        refine ⟨_, rfl, _, rfl, a, none, rfl, dg, _, rfl, iteF ?_⟩
        exact ⟨x, y, _, _, _, rfl, rfl, by rw [co_off hd, Rat.zero_add], bit_up hx (by omega), y0, bit_up hy (by omega)⟩
      · have dg : DGet H a (.int d) (some (.ref q)) := hv ▸ DGet.k (k := Sum.inl d) ha
        obtain ⟨bh, l0, bl⟩ := sz _ hm
        have cod := co_at nd hm
        refine ⟨_, rfl, _, rfl, a, _, rfl, dg, _, rfl, iteT ?_⟩
        refine ⟨_, rfl, _, rfl, a, .ref q, rfl, dg, q, _, rfl, SqT.of hq, rfl, _, _, rfl, _, _, rfl, rfl, ?_⟩
        refine ⟨fun σ' H' => ∃ c : Int, σ' = [some (.ref a), some (.int d), some (.int x), some (.int y), some (.int h'), some (.int l), some (.int c)] ∧ H = H' ∧ c ∣ l ∧ c ∣ y ∧ c ≠ 0 ∧ c.natAbs ≤ y.natAbs, ?_, ?_⟩
        · refine ⟨_, rfl, _, rfl, rfl, _, rfl, ite_b (fun c => ?_) (fun c => ?_)⟩
          · have e : l = y := V.int.inj (of_decide_eq_true c)
            exact ⟨_, rfl, y, rfl, rfl, e ▸ Int.dvd_refl _, Int.dvd_refl _, y0, Nat.le_refl _⟩
          · have g1 : 1 ≤ Nat.gcd l.natAbs y.natAbs := Nat.gcd_pos_of_pos_right _ (by omega)
            have g2 : Nat.gcd l.natAbs y.natAbs ≤ y.natAbs := Nat.le_of_dvd (by omega) (Nat.gcd_dvd_right _ _)
            exact ⟨_, rfl, _, rfl, l, y, rfl, _, rfl, rfl, Int.ofNat_dvd_left.mpr (Nat.gcd_dvd_left _ _), Int.ofNat_dvd_left.mpr (Nat.gcd_dvd_right _ _), by omega, by omega⟩
        · rintro σ' H' ⟨c, rfl, rfl, cl, cy, c0, cle⟩
          have lc : c.natAbs.log2 < 9000 := by have := lgs (Nat.lt_of_le_of_lt cle hy) (by omega); omega
          have by_ := Nat.lt_of_le_of_lt (fdiv_le cy) hy
          have bl_ := Nat.lt_of_le_of_lt (fdiv_le cl) bl
          have w : ∀ {i j : Int} {D D' : Nat}, i.natAbs < 2 ^ D → j.natAbs < 2 ^ D' → D ≤ 8000 → D' ≤ 8000 → CMulW i j := fun {i j D D'} h k u v => by
            have := lgs h u
            have := lgs k v
            show i.natAbs.log2 + j.natAbs.log2 < 1000000
            omega
          obtain ⟨es, n0⟩ := frac_add (h := h') (t := x) l0 y0 cl cy
          refine ⟨_, rfl, _, rfl, _, rfl, _, _, rfl, rfl, ⟨c0, lc⟩, _, _, rfl, rfl, w bh by_ (by omega) (by omega), ?_⟩
          refine ⟨_, rfl, _, rfl, _, rfl, _, _, rfl, rfl, ⟨c0, lc⟩, _, _, rfl, rfl, w hx bl_ (by omega) (by omega), _, _, rfl, rfl, ?_⟩
          refine ⟨_, rfl, _, rfl, _, rfl, _, _, rfl, rfl, ⟨c0, lc⟩, _, _, rfl, rfl, w bl by_ (by omega) (by omega), _, _, rfl, ?_⟩
          refine ⟨_, _, _, _, _, rfl, rfl, by rw [es, cod], add_bit (mul_bit bh by_) ?_, n0, bit_up (mul_bit bl by_) (by omega)⟩
          rw [Nat.add_comm]
          exact mul_bit hx bl_
    · rintro σ' H' ⟨t, b, y4, y5, y6, rfl, rfl, e, bt, b0, bb⟩
      refine ⟨_, rfl, _, rfl, by show 2 ≤ sizeLine; rw [sizeLine_eq]; decide, fun p hp => ?_⟩
      have s1 := snew (o := .tup [.int t, .int b]) hp
      have ne : p ≠ a := (ne_of_none ha hp).symm
      have ht : ∀ o b' xs, H b' = some (.tup xs) → upd (upd H p (.tup [.int t, .int b])) a o b' = some (.tup xs) := fun o b' xs h => by
        rw [upd_ne (ne_of h ha (by intro z; cases z))]
        exact s1 _ _ h
      refine ⟨_, rfl, _, rfl, a, _, rfl, DPut.k (k := Sum.inl d) (s1 _ _ ha) (by rw [tr.length]; exact small1000 (by omega)), ?_⟩
      refine k _ t b _ upd_same ((tr.tst (ht _)).put (by rw [upd_ne ne]; exact upd_same)) e bt b0 bb fun c o eo hc => by rw [upd_ne hc]; exact s1 _ _ eo
end
end N3

namespace N3
open PySem PySem.Spec PyProof.Rows L2 N2
/-! ### a number out of a table -/
def spFromT : Sp := fun vs H Q _ => ∃ (a : Addr) (kvs : List (Key × V)) (ts : Nm) (B : Nat) (ok : Int → Prop), vs = [.ref a] ∧ H a = some (.dK kvs) ∧ TotR H kvs ts ∧ Ks ts ∧ Sz B ts ∧ B ≤ 8000 ∧ ts.length < 64 ∧ (∀ x ∈ ts, ok x.1) ∧
  ∀ (n : Nm) (r : Addr) (H' : Hp), Dn H' (.ref r) (encN n) → CN ok n → (∀ d, co n d = co ts d) → Same H H' → Q (.ref r) H'
def TupStay (H H' : Hp) : Prop := ∀ b xs, H b = some (.tup xs) → H' b = some (.tup xs)
theorem dn_encT {H : Hp} {v : V} {x : Tr} (h : Dn H v (encT x)) : ∃ p, v = .ref p ∧ H p = some (.tup [.int x.1, .int x.2.1, .int x.2.2]) := by
  unfold encT at h
  cases h with
  | tup e g => cases g with
    | cons a g => cases g with
      | cons b g => cases g with
        | cons c g => cases g; cases a; cases b; cases c; exact ⟨_, rfl, e⟩
theorem encT_dn {H : Hp} {p : Addr} {x : Tr} (h : H p = some (.tup [.int x.1, .int x.2.1, .int x.2.2])) : Dn H (.ref p) (encT x) := .tup h (.cons (.int _) (.cons (.int _) (.cons (.int _) .nil)))
theorem encTs_tst {H H' : Hp} (s : TupStay H H') : ∀ {acc : List V} {n : Nm}, DnAll H acc (n.map encT) → DnAll H' acc (n.map encT)
  | _, [], h => by cases h; exact .nil
  | _, x :: n, h => by
    rw [List.map_cons] at h ⊢
    cases h with
    | cons a g =>
      obtain ⟨p, rfl, e⟩ := dn_encT a
      exact .cons (encT_dn (s _ _ e)) (encTs_tst s g)
theorem encTs_snoc {H : Hp} {v : V} {x : Tr} (hv : Dn H v (encT x)) : ∀ {acc : List V} {n : Nm}, DnAll H acc (n.map encT) → DnAll H (acc ++ [v]) ((n ++ [x]).map encT)
  | _, [], h => by cases h; exact .cons hv .nil
  | _, y :: n, h => by
    rw [List.map_cons] at h
    cases h with
    | cons a g => exact .cons a (encTs_snoc hv g)
section
variable {P : Program} {w : World} {K : PySem.W.Frag} {mg : Str → Option Value} {base : Heap}
abbrev s_from_totals : Stmt := top 17
theorem sc_from_totals : FnScope ["totals", "found", "d", "top", "bottom"] ["totals"] (defScope s_from_totals) := ⟨rfl, rfl, rfl, by decide +kernel, rfl, by decide +kernel, by decide +kernel⟩
theorem ok_from_totals {f f_lowest : Addr} {fd d_lowest : FuncData}  (F : Fun K "from_totals" "from_totals" s_from_totals f fd) (T : Bt mg) (p_lowest : Kn P w K mg base 1 "lowest" ["top", "bottom"] spLowest f_lowest d_lowest) : FnOk P w K mg base CX0 2 f fd ["totals"] spFromT := by
  refine F.ok sc_from_totals (fun vs H Q E h => ?_) (fun cdv A outer s H vs Q E hr h => ?_)
  · obtain ⟨a, kvs, ts, B, ok, rfl, _⟩ := h
    rfl
  · obtain ⟨a, kvs, ts, B, ok, rfl, ha, tr, nd, sz, b8, len, oks, k⟩ := h
    have hu := hu_of hr
    refine ⟨_, pss_cons (ps_set (i := 1) sc_from_totals.nd rfl (Or.inl rfl) (pe_lst pa_nil))
      (pss_cons (ps_for PassesOwn.never rfl (pi_list (pe_callB (call_sortedDI rfl) (by rfl) T.sorted (by decide +kernel) (pa_cons (pv 0) pa_nil))) (pg_name (i := 2) sc_from_totals.nd rfl (Or.inl rfl))
        (pss_one (ps_if (pt_cmpR op_ne (pe_ix (r := rIx K) ix_seq (pe_dget hu (pv 0) (pv 2) (fun _ _ => rfl)) pe_int (fun _ _ => rfl)) pe_int (nomark _))
          (pss_cons (ps_asg (pe_call p_lowest.ok (hr.mono (by decide)) rfl p_lowest.mg p_lowest.kp p_lowest.bd .nil pass0 (pa_cons (pe_ix (r := rIx K) ix_seq (pe_dget hu (pv 0) (pv 2) (fun _ _ => rfl)) pe_int (fun _ _ => rfl)) (pa_cons (pe_ix (r := rIx K) ix_seq (pe_dget hu (pv 0) (pv 2) (fun _ _ => rfl)) pe_int (fun _ _ => rfl)) pa_nil))) (pg_tup rfl (pgs_cons (pg_name (i := 3) sc_from_totals.nd rfl (Or.inl rfl)) (pgs_cons (pg_name (i := 4) sc_from_totals.nd rfl (Or.inl rfl)) pgs_nil))))
          (pss_one (ps_expr (pe_bm PySem.F.plainAttrs_list PySem.F.slot_list_append PySem.F.type_list_append mt_append (pv 1) (pa_cons (pe_tup (pa_cons (pv 2) (pa_cons (pv 3) (pa_cons (pv 4) pa_nil)))) pa_nil)))))
          pss_nil)))
      (pss_one (ps_ret (pe_callTy call_tuple_of (by rfl) T.tuple (by decide +kernel) (pa_cons (pv 1) pa_nil))))), ?_⟩
    refine ⟨Nat.zero_le _, fun fl hf => ?_⟩
    have s0 := snew (o := .lst []) hf
    refine ⟨_, rfl, a, kvs, ts.map (·.1), rfl, .inl (s0 _ _ ha), tr.keys, by rw [List.length_map]; exact len, fun ys q perm srt hq => ⟨q, rfl, ⟨_, SqL.of upd_same⟩, ?_⟩⟩
    have fq : fl ≠ q := ne_of_none upd_same hq
    have lt : ys.Pairwise (· < ·) := (List.Pairwise.and srt (perm.nodup_iff.mpr nd)).imp fun ⟨a, b⟩ => by omega
    have ly : ys.length = ts.length := by rw [perm.length_eq, List.length_map]
    refine for_list (K := K) (a := q) (xs := ys.map V.int) (fun i σ H' => ∃ (acc : List V) (n : Nm) (x2 x3 x4 : Option V), σ = [some (.ref a), some (.ref fl), x2, x3, x4] ∧ H' fl = some (.lst acc) ∧ DnAll H' acc (n.map encT) ∧ n.length ≤ i ∧ CN ok n ∧ (∀ x ∈ n, x.1 ∈ ys.take i) ∧ (∀ e, co n e = if e ∈ ys.take i then co ts e else 0) ∧ Same H H' ∧ H' q = some (.lst (ys.map V.int)))
      ⟨[], [], _, _, _, rfl, by rw [upd_ne fq]; exact upd_same, .nil, Nat.le_refl _, CN.nil, fun x hx => by simp at hx, fun e => by simp [co], s0.trans (snew hq), upd_same⟩ (fun i σ H' _ ⟨_, _, _, _, _, _, _, _, _, _, _, _, _, e⟩ => SqL.of e) ?_ ?_
    · rintro i y σ H' hy ⟨acc, n, x2, x3, x4, rfl, e1, dn, ln, cn, up, con, s1, e2⟩
      obtain ⟨d, ed, rfl⟩ := map_get hy
      have hi : i < ys.length := (List.getElem?_eq_some_iff.mp ed).1
      have edi : ys[i] = d := (List.getElem?_eq_some_iff.mp ed).2
      have dm : d ∈ ts.map (·.1) := perm.mem_iff.mp (List.mem_of_getElem? ed)
      have below : ∀ e ∈ ys.take i, e < d := fun e he => by
        have h := lt
        rw [← List.take_append_drop i ys, List.drop_eq_getElem_cons hi, edi, List.pairwise_append] at h
        exact h.2.2 e he d List.mem_cons_self
      have tk : ∀ e, e ∈ ys.take (i + 1) ↔ e ∈ ys.take i ∨ e = d := fun e => by
        rw [List.take_add_one, ed]
        simp
      rcases tr.get d with ⟨_, hd⟩ | ⟨p, t, b, hv, hp, hm⟩
      · exact absurd dm hd
      have dg : DGet H' a (.int d) (some (.ref p)) := hv ▸ DGet.k (k := Sum.inl d) (s1 _ _ ha)
      have hp' := s1 _ _ hp
      have cod := co_at nd hm
      obtain ⟨bt, b0, bb⟩ := sz _ hm
      refine ⟨_, rfl, _, rfl, a, _, rfl, dg, .inr (.inl ⟨p, _, _, _, rfl, rfl, SqT.of hp', rfl, rfl, _, rfl, ite2 (fun c => ?_) (fun c => ?_)⟩)⟩
      · have t0 : t ≠ 0 := by
          intro z
          subst z
          simp at c
        refine ⟨_, rfl, _, rfl, a, _, rfl, dg, .inr (.inl ⟨p, _, _, _, rfl, rfl, SqT.of hp', rfl, _, rfl, _, rfl, a, _, rfl, dg, .inr (.inl ⟨p, _, _, _, rfl, rfl, SqT.of hp', rfl, t, b, rfl, b0, bit_up bb b8, fun p2 t' b' H2 lo hp2 s2 => ?_⟩)⟩)⟩
        refine ⟨p2, _, rfl, SqT.of hp2, rfl, _, _, rfl, _, _, rfl, rfl, ?_⟩
        have e1' := s2 _ _ e1
        refine ⟨_, rfl, .inl ⟨rfl, _, .inl (.inl e1')⟩, _, rfl, _, rfl, _, rfl, by show 3 ≤ sizeLine; rw [sizeLine_eq]; decide, fun m hm' => ?_⟩
        have sn := snew (o := .tup [.int d, .int t', .int b']) hm'
        have la : acc.length = n.length := by rw [dn.length, List.length_map]
        refine ⟨fl, acc, _, rfl, rfl, sn _ _ e1', small1000 (by omega), ?_⟩
        have tst : TupStay H' (upd (upd H2 m (.tup [.int d, .int t', .int b'])) fl (.lst (acc ++ [.ref m]))) := fun b xs h => by
          rw [upd_ne (ne_of (s2 _ _ h) e1' (by intro z; cases z))]
          exact sn _ _ (s2 _ _ h)
        have mf : m ≠ fl := (ne_of_none e1' hm').symm
        have t'0 : t' ≠ 0 := fun z => by
          have := lo.eq
          rw [z, Int.zero_mul] at this
          rcases Int.mul_eq_zero.mp this.symm with h | h
          · exact t0 h
          · have := (low_pos lo.low).1
            omega
        refine ⟨acc ++ [.ref m], n ++ [(d, t', b')], _, _, _, rfl, upd_same, encTs_snoc (encT_dn (by rw [upd_ne mf]; exact upd_same)) (encTs_tst tst dn), by rw [List.length_append]; show _ + 1 ≤ _; omega, cn.snoc ⟨oks (d, t, b) hm, t'0, lo.low⟩ (fun z hz => below _ (up z hz)), fun z hz => ?_, fun e => ?_, fun c o eo => ?_, ?_⟩
        · rcases List.mem_append.mp hz with hz | hz
          · exact (tk _).mpr (.inl (up z hz))
          · rw [List.mem_singleton.mp hz]; exact (tk _).mpr (.inr rfl)
        · have one : co [(d, t', b')] e = if d = e then Rat.divInt t' b' else 0 := by rw [co_cons, co_nil, Rat.add_zero]
          rw [co_app, one, con e]
          by_cases c1 : e = d
          · subst c1
            rw [if_neg (fun z => by have := below _ z; omega), if_pos rfl, if_pos ((tk _).mpr (.inr rfl)), Rat.zero_add, ← low_val b0 lo]
            exact cod.symm
          · rw [if_neg (show ¬ d = e from fun z => c1 z.symm), Rat.add_zero]
            by_cases c2 : e ∈ ys.take i
            · rw [if_pos c2, if_pos ((tk _).mpr (.inl c2))]
            · rw [if_neg c2, if_neg (fun z => ((tk _).mp z).elim c2 c1)]
        · rw [upd_ne (ne_of_none eo hf)]
          exact sn _ _ (s2 _ _ (s1 _ _ eo))
        · rw [upd_ne fq.symm]; exact sn _ _ (s2 _ _ e2)
      · have t0 : t = 0 := by
          by_cases z : t = 0
          · exact z
          · simp [z] at c
        refine ⟨acc, n, _, _, _, rfl, e1, dn, by omega, cn, fun z hz => (tk _).mpr (.inl (up z hz)), fun e => ?_, s1, e2⟩
        rw [con e]
        by_cases c1 : e = d
        · subst c1
          rw [if_neg (fun z => by have := below _ z; omega), if_pos ((tk _).mpr (.inr rfl))]
          have : co ts e = Rat.divInt t b := cod
          rw [this, t0, Rat.zero_divInt]
        · by_cases c2 : e ∈ ys.take i
          · rw [if_pos c2, if_pos ((tk _).mpr (.inl c2))]
          · rw [if_neg c2, if_neg (fun z => ((tk _).mp z).elim c2 c1)]
    · rintro σ H' ⟨acc, n, x2, x3, x4, rfl, e1, dn, ln, cn, up, con, s1, e2⟩
      refine ⟨_, rfl, fl, acc, rfl, .inl ⟨SqL.of e1, fun r hr' => ?_⟩⟩
      have sr := snew (o := .tup acc) hr'
      refine k n r _ (.tup upd_same (encTs_tst (fun b xs h => sr _ _ h) dn)) cn (fun d => ?_) (s1.trans sr)
      rw [con d, List.length_map, List.take_length]
      split
      · rfl
      · next c => exact (co_off fun z => c (perm.mem_iff.mpr z)).symm
end
end N3

namespace N3
open PySem PySem.Spec PyProof.Rows L2 N2
/-! ### weighted sums -/
abbrev Pt := Nm × Int × Int
def PartAt (H : Hp) (v : V) (p : Pt) : Prop := ∃ (a : Addr) (u : V), v = .ref a ∧ H a = some (.tup [u, .int p.2.1, .int p.2.2]) ∧ Dn H u (encN p.1)
theorem PartAt.same {H H' : Hp} {v : V} {p : Pt} (s : Same H H') (h : PartAt H v p) : PartAt H' v p := let ⟨a, u, e, h1, h2⟩ := h; ⟨a, u, e, s _ _ h1, Dn.mono s _ _ h2⟩
/-- what the parts come to -/
def ws : List Pt → Int → Rat
  | [], _ => 0
  | p :: ps, d => Rat.divInt p.2.1 p.2.2 * co p.1 d + ws ps d
def tm : List Pt → Nat
  | [] => 0
  | p :: ps => p.1.length + tm ps
theorem ws_app : ∀ (ps qs : List Pt) (d : Int), ws (ps ++ qs) d = ws ps d + ws qs d
  | [], qs, d => (Rat.zero_add _).symm
  | p :: ps, qs, d => by
    show Rat.divInt p.2.1 p.2.2 * co p.1 d + ws (ps ++ qs) d = Rat.divInt p.2.1 p.2.2 * co p.1 d + ws ps d + ws qs d
    rw [ws_app ps qs d, Rat.add_assoc]
theorem tm_app : ∀ (ps qs : List Pt), tm (ps ++ qs) = tm ps + tm qs
  | [], qs => (Nat.zero_add _).symm
  | p :: ps, qs => by
    show p.1.length + tm (ps ++ qs) = p.1.length + tm ps + tm qs
    rw [tm_app ps qs, Nat.add_assoc]
theorem ws_take {ps : List Pt} {i : Nat} {p : Pt} (h : ps[i]? = some p) (d : Int) : ws (ps.take (i + 1)) d = ws (ps.take i) d + Rat.divInt p.2.1 p.2.2 * co p.1 d := by
  rw [List.take_add_one, h, ws_app]
  show _ + (Rat.divInt p.2.1 p.2.2 * co p.1 d + 0) = _
  rw [Rat.add_zero]
theorem tm_take {ps : List Pt} {i : Nat} {p : Pt} (h : ps[i]? = some p) : tm (ps.take (i + 1)) = tm (ps.take i) + p.1.length := by
  rw [List.take_add_one, h, tm_app]
  rfl
theorem tm_le {ps : List Pt} (i : Nat) : tm (ps.take i) ≤ tm ps := by
  have := tm_app (ps.take i) (ps.drop i)
  rw [List.take_append_drop] at this
  omega
theorem co_take {n : Nm} {j : Nat} {x : Tr} (h : n[j]? = some x) (d : Int) : co (n.take (j + 1)) d = co (n.take j) d + if x.1 = d then Rat.divInt x.2.1 x.2.2 else 0 := by
  rw [List.take_add_one, h, co_app]
  show _ + ((if x.1 = d then Rat.divInt x.2.1 x.2.2 else 0) + 0) = _
  rw [Rat.add_zero]
theorem dn_encN {H : Hp} {v : V} {n : Nm} (h : Dn H v (encN n)) : ∃ c xs, v = .ref c ∧ H c = some (.tup xs) ∧ DnAll H xs (n.map encT) := by
  unfold encN at h
  cases h with
  | tup e g => exact ⟨_, _, rfl, e, g⟩
def spWSum (K : PySem.W.Frag) : Sp := fun vs H Q _ => ∃ (l : Addr) (xs : List V) (ps : List Pt) (C W : Nat) (ok : Int → Prop), vs = [.ref l] ∧ SqL K H l xs ∧ xs.length = ps.length ∧ (∀ (i : Nat) (v : V) (p : Pt), xs[i]? = some v → ps[i]? = some p → PartAt H v p) ∧
  (∀ p ∈ ps, Sz C p.1 ∧ (∀ x ∈ p.1, ok x.1) ∧ p.2.1.natAbs < 2 ^ W ∧ p.2.2 ≠ 0 ∧ p.2.2.natAbs < 2 ^ W) ∧ tm ps < 64 ∧ tm ps * (C + W + 1) ≤ 7900 ∧ C + W + 1 ≤ 7900 ∧
  ∀ (n : Nm) (r : Addr) (H' : Hp), Dn H' (.ref r) (encN n) → CN ok n → (∀ d, co n d = ws ps d) → Same H H' → Q (.ref r) H'
/-- the table under way -/
def Tot (H : Hp) (td : Addr) (G : Nat) (len : Nat) (ok : Int → Prop) (f : Int → Rat) : Prop := ∃ (kvs : List (Key × V)) (ts : Nm), H td = some (.dK kvs) ∧ TotR H kvs ts ∧ Ks ts ∧ Sz G ts ∧ ts.length ≤ len ∧ (∀ x ∈ ts, ok x.1) ∧ ∀ d, co ts d = f d
section
variable {P : Program} {w : World} {K : PySem.W.Frag} {mg : Str → Option Value} {base : Heap}
abbrev s_weighted_sum : Stmt := top 18
theorem sc_weighted_sum : FnScope ["parts", "totals", "number", "top", "bottom", "d", "high", "low"] ["parts"] (defScope s_weighted_sum) := ⟨rfl, rfl, rfl, by decide +kernel, rfl, by decide +kernel, by decide +kernel⟩
theorem ok_weighted_sum {f f_add_term f_from_totals : Addr} {fd d_add_term d_from_totals : FuncData}  (F : Fun K "weighted_sum" "weighted_sum" s_weighted_sum f fd) (T : Bt mg) (p_add_term : Kn P w K mg base 2 "add_term" ["totals", "d", "top", "bottom"] spAddT f_add_term d_add_term) (p_from_totals : Kn P w K mg base 2 "from_totals" ["totals"] spFromT f_from_totals d_from_totals) : FnOk P w K mg base CX0 3 f fd ["parts"] (spWSum K) := by
  refine F.ok sc_weighted_sum (fun vs H Q E h => ?_) (fun cdv A outer s H vs Q E hr h => ?_)
  · obtain ⟨l, xs, ps, C, W, ok, rfl, _⟩ := h
    rfl
  · obtain ⟨l, xs, ps, C, W, ok, rfl, hl, lx, at_, cond, t64, tb, cb, k⟩ := h
    have hu := hu_of hr
    refine ⟨_, pss_cons (ps_set (i := 1) sc_weighted_sum.nd rfl (Or.inl rfl) pe_dnewK)
      (pss_cons (ps_for PassesOwn.never rfl (pi_list (pv 0)) (pg_tup rfl (pgs_cons (pg_name (i := 2) sc_weighted_sum.nd rfl (Or.inl rfl)) (pgs_cons (pg_name (i := 3) sc_weighted_sum.nd rfl (Or.inl rfl)) (pgs_cons (pg_name (i := 4) sc_weighted_sum.nd rfl (Or.inl rfl)) pgs_nil))))
        (pss_one (ps_for PassesOwn.never rfl (pi_tup (pv 2)) (pg_tup rfl (pgs_cons (pg_name (i := 5) sc_weighted_sum.nd rfl (Or.inl rfl)) (pgs_cons (pg_name (i := 6) sc_weighted_sum.nd rfl (Or.inl rfl)) (pgs_cons (pg_name (i := 7) sc_weighted_sum.nd rfl (Or.inl rfl)) pgs_nil))))
          (pss_one (ps_expr (pe_call p_add_term.ok (hr.mono (by decide)) rfl p_add_term.mg p_add_term.kp p_add_term.bd .nil pass0 (pa_cons (pv 1) (pa_cons (pv 5) (pa_cons (pe_op op_mulW (pv 6) (pv 3)) (pa_cons (pe_op op_mulW (pv 7) (pv 4)) pa_nil))))))))))
      (pss_one (ps_ret (pe_call p_from_totals.ok (hr.mono (by decide)) rfl p_from_totals.mg p_from_totals.kp p_from_totals.bd .nil pass0 (pa_cons (pv 1) pa_nil))))), ?_⟩
    obtain ⟨G, eG⟩ : ∃ G, C + W + 1 = G := ⟨_, rfl⟩
    rw [eG] at tb cb
    intro td htd
    have s0 := snew (o := .dK []) htd
    refine ⟨_, rfl, l, rfl, ⟨_, s0.seq hl⟩, for_list (K := K) (a := l) (xs := xs) (fun i σ H' => (∃ x2 x3 x4 x5 x6 x7 : Option V, σ = [some (.ref l), some (.ref td), x2, x3, x4, x5, x6, x7]) ∧ Same H H' ∧ Tot H' td (tm (ps.take i) * G) (tm (ps.take i)) ok (ws (ps.take i)))
      ⟨⟨_, _, _, _, _, _, rfl⟩, s0, [], [], upd_same, .nil, List.nodup_nil, fun x hx => by simp at hx, Nat.zero_le _, fun x hx => by simp at hx, fun d => rfl⟩ (fun i σ H' _ ⟨_, s', _⟩ => s'.seq hl) ?_ ?_⟩
    · rintro i v σ H1 hv ⟨⟨x2, x3, x4, x5, x6, x7, rfl⟩, s1, tot⟩
      have hi : i < xs.length := (List.getElem?_eq_some_iff.mp hv).1
      obtain ⟨p, hp⟩ : ∃ p, ps[i]? = some p := ⟨ps[i], List.getElem?_eq_getElem (by omega)⟩
      obtain ⟨n, top, bot⟩ := p
      obtain ⟨a, u, rfl, ha, hn⟩ := at_ i v _ hv hp
      obtain ⟨szn, okn, w1, w2, w3⟩ := cond _ (List.mem_of_getElem? hp)
      obtain ⟨c, ys, rfl, hc, hys⟩ := dn_encN hn
      have ly : ys.length = n.length := by rw [hys.length, List.length_map]
      have tk := tm_take hp
      have tle := tm_le (ps := ps) (i + 1)
      have ntd : ∀ {b : Addr} {o : HO}, H b = some o → b ≠ td := fun h z => by rw [z, htd] at h; cases h
      refine ⟨a, _, rfl, SqT.of (s1 _ _ ha), rfl, _, _, rfl, _, _, rfl, _, _, rfl, rfl, ?_⟩
      obtain ⟨T0, eT⟩ : ∃ T0, tm (ps.take i) = T0 := ⟨_, rfl⟩
      rw [eT] at tk tot
      refine ⟨_, rfl, c, rfl, ⟨_, SqT.of (s1 _ _ hc)⟩, for_tup (K := K) (a := c) (xs := ys) (fun j σ H' => (∃ x5 x6 x7 : Option V, σ = [some (.ref l), some (.ref td), some (.ref c), some (.int top), some (.int bot), x5, x6, x7]) ∧ Same H H' ∧ Tot H' td ((T0 + j) * G) (T0 + j) ok (fun d => ws (ps.take i) d + Rat.divInt top bot * co (n.take j) d))
        ⟨⟨_, _, _, rfl⟩, s1, by
          obtain ⟨kvs, ts, e1, tr, nd, sz, len, oks, con⟩ := tot
          exact ⟨kvs, ts, e1, tr, nd, sz, len, oks, fun d => by rw [con d]; show _ = _ + _ * (0 : Rat); rw [Rat.mul_zero, Rat.add_zero]⟩⟩ (fun j σ H' _ ⟨_, s', _⟩ => SqT.of (s' _ _ hc)) ?_ ?_⟩
      · rintro j v σ H2 hv2 ⟨⟨x5', x6', x7', rfl⟩, s2, kvs, ts, e1, tr, nd, sz, len, oks, con⟩
        have hj : j < ys.length := (List.getElem?_eq_some_iff.mp hv2).1
        obtain ⟨dd, edd, dn⟩ := hys.at_ hv2
        rw [List.getElem?_map] at edd
        obtain ⟨x, hx, rfl⟩ := Option.map_eq_some_iff.mp edd
        obtain ⟨d, t, b⟩ := x
        obtain ⟨q, rfl, hq⟩ := dn_encT dn
        have mx := List.mem_of_getElem? hx
        obtain ⟨zt, z0, zb⟩ := szn _ mx
        have Tj : T0 + j + 1 ≤ tm ps := by
          have : j + 1 ≤ n.length := by omega
          show T0 + j + 1 ≤ _
          have e : tm (ps.take (i + 1)) = T0 + n.length := tk
          omega
        have Gj : (T0 + j) * G + G ≤ 7900 := by
          have h1 : (T0 + j + 1) * G ≤ tm ps * G := Nat.mul_le_mul_right _ Tj
          rw [Nat.succ_mul] at h1
          omega
        have w : ∀ {i j : Int} {D D' : Nat}, i.natAbs < 2 ^ D → j.natAbs < 2 ^ D' → D ≤ 8000 → D' ≤ 8000 → CMulW i j := fun {i j D D'} h k u v => by
          have := log_lt h
          have := log_lt k
          show i.natAbs.log2 + j.natAbs.log2 < 1000000
          omega
        refine ⟨q, _, rfl, SqT.of (s2 _ _ hq), rfl, _, _, rfl, _, _, rfl, _, _, rfl, rfl, ?_⟩
        refine ⟨_, rfl, _, rfl, _, rfl, _, rfl, _, _, rfl, rfl, w zt w1 (by omega) (by omega), _, rfl, _, rfl, _, _, rfl, rfl, w zb w3 (by omega) (by omega), ?_⟩
        refine ⟨td, d, t * top, b * bot, kvs, ts, (T0 + j) * G, C + W, rfl, e1, tr, nd, sz, mul_bit zt w1, Int.mul_ne_zero z0 w2, mul_bit zb w3, by omega, by omega, fun kvs' t' b' H3 e3 tr3 ef bt b0 bb pers => ?_⟩
        have eB : (T0 + j) * G + (C + W) + 1 = (T0 + (j + 1)) * G := by
          rw [← Nat.add_assoc T0 j 1, Nat.succ_mul, ← eG]
          omega
        rw [eB] at bt bb
        refine ⟨⟨_, _, _, rfl⟩, fun c' o eo => pers _ _ (s2 _ _ eo) (ntd eo), kvs', putN ts d t' b', e3, tr3, putN_ks nd, putN_sz sz (Nat.mul_le_mul_right _ (by omega)) bt b0 bb, by have := putN_len (ts := ts) (d := d) (t := t') (b := b'); omega, fun z hz => ?_, fun e => ?_⟩
        · rcases putN_mem hz with rfl | ⟨hz, _⟩
          · exact okn (d, t, b) mx
          · exact oks _ hz
        · show co (putN ts d t' b') e = ws (ps.take i) e + Rat.divInt top bot * co (n.take (j + 1)) e
          rw [putN_co nd, co_take (n := n) (j := j) (x := (d, t, b)) hx]
          show (if d = e then Rat.divInt t' b' else co ts e) = ws (ps.take i) e + Rat.divInt top bot * (co (n.take j) e + if d = e then Rat.divInt t b else 0)
          by_cases ce : d = e
          · subst ce
            rw [if_pos rfl, if_pos rfl, ef, con d, Rat.mul_add, Rat.add_assoc, Rat.mul_comm (Rat.divInt top bot) (Rat.divInt t b), Rat.divInt_mul_divInt]
          · rw [if_neg ce, if_neg ce, con e, Rat.add_zero]
      · rintro σ H2 ⟨⟨x5', x6', x7', rfl⟩, s2, kvs, ts, e1, tr, nd, sz, len, oks, con⟩
        have e : tm (ps.take (i + 1)) = T0 + n.length := tk
        rw [ly] at sz len con
        refine ⟨⟨_, _, _, _, _, _, rfl⟩, s2, kvs, ts, e1, tr, nd, e ▸ sz, e ▸ len, oks, fun d => ?_⟩
        rw [con d, List.take_length, ws_take hp]
    · rintro σ H1 ⟨⟨x2, x3, x4, x5, x6, x7, rfl⟩, s1, kvs, ts, e1, tr, nd, sz, len, oks, con⟩
      rw [show ps.take xs.length = ps by rw [lx, List.take_length]] at sz len con
      refine ⟨_, rfl, td, kvs, ts, _, ok, rfl, e1, tr, nd, sz, by omega, by omega, oks, fun n r H2 dn cn con2 s2 => ?_⟩
      exact k n r H2 dn cn (fun d => (con2 d).trans (con d)) (s1.trans s2)
end
end N3

namespace N3
open PySem PySem.Spec PyProof.Rows L2 N2
/-! ### how great a number's parts are, by what it is worth -/
theorem low_le {t b T B : Int} (lo : lowT t b = true) (t0 : t ≠ 0) (hB : B ≠ 0) (e : Rat.divInt t b = Rat.divInt T B) : t.natAbs ≤ T.natAbs ∧ b.natAbs ≤ B.natAbs := by
  obtain ⟨b1, g⟩ := low_pos lo
  have x : t * B = T * b := (Rat.divInt_eq_divInt_iff (by omega) hB).mp e
  have xn : t.natAbs * B.natAbs = T.natAbs * b.natAbs := by rw [← Int.natAbs_mul, ← Int.natAbs_mul, x]
  have T0 : T ≠ 0 := fun z => by
    rw [z, Int.zero_mul] at x
    rcases Int.mul_eq_zero.mp x with h | h
    · exact t0 h
    · exact hB h
  have d1 : b.natAbs ∣ B.natAbs := Nat.Coprime.dvd_of_dvd_mul_left (Nat.Coprime.symm g) ⟨T.natAbs, xn.trans (Nat.mul_comm _ _)⟩
  have d2 : t.natAbs ∣ T.natAbs := Nat.Coprime.dvd_of_dvd_mul_right g ⟨B.natAbs, xn.symm⟩
  exact ⟨Nat.le_of_dvd (by omega) d2, Nat.le_of_dvd (by omega) d1⟩
theorem CN.nodup {ok : Int → Prop} : ∀ {n : Nm}, CN ok n → Ks n
  | [], _ => List.nodup_nil
  | x :: n, h => by
    unfold Ks
    rw [List.map_cons, List.nodup_cons]
    refine ⟨fun m => ?_, CN.nodup h.tail⟩
    obtain ⟨y, hy, e⟩ := List.mem_map.mp m
    have := h.up y hy
    omega
theorem CN.sz {ok : Int → Prop} {n : Nm} {M : Nat} (h : CN ok n) (v : ∀ x ∈ n, ∃ T B : Int, B ≠ 0 ∧ co n x.1 = Rat.divInt T B ∧ T.natAbs < 2 ^ M ∧ B.natAbs < 2 ^ M) : Sz M n := fun x hx => by
  obtain ⟨T, B, hB, e, bT, bB⟩ := v x hx
  obtain ⟨_, t0, lo⟩ := h.1 x hx
  obtain ⟨l1, l2⟩ := low_le lo t0 hB ((co_at h.nodup hx).symm.trans e)
  exact ⟨by omega, by have := (low_pos lo).1; omega, by omega⟩
/-- a coefficient as a fraction with bounded parts -/
theorem Sz.co {ok : Int → Prop} {n : Nm} {C : Nat} (h : CN ok n) (s : Sz C n) (hC : 1 ≤ C) (d : Int) : ∃ t b : Int, b ≠ 0 ∧ co n d = Rat.divInt t b ∧ t.natAbs < 2 ^ C ∧ b.natAbs < 2 ^ C := by
  by_cases c : d ∈ n.map (·.1)
  · obtain ⟨x, hx, rfl⟩ := List.mem_map.mp c
    obtain ⟨s1, s2, s3⟩ := s x hx
    exact ⟨_, _, s2, co_at h.nodup hx, s1, s3⟩
  · have := Nat.pow_le_pow_right (show 0 < 2 by decide) hC
    exact ⟨0, 1, by decide, by rw [co_off c, Rat.zero_divInt], by show 0 < _; omega, by show 1 < _; omega⟩
/-- numbers of that kind have few triples -/
def Few (ok : Int → Prop) (L : Nat) : Prop := ∀ n, CN ok n → n.length ≤ L
theorem sub_len : ∀ {l m : List Int}, l.Nodup → (∀ x ∈ l, x ∈ m) → l.length ≤ m.length
  | [], _, _, _ => Nat.zero_le _
  | x :: l, m, nd, sub => by
    rw [List.nodup_cons] at nd
    have h := sub_len (m := m.erase x) nd.2 fun y hy => (List.mem_erase_of_ne (fun e : y = x => nd.1 (by rw [← e]; exact hy))).mpr (sub y (List.mem_cons_of_mem _ hy))
    have mx := sub x List.mem_cons_self
    have p := List.length_pos_of_mem mx
    rw [List.length_erase_of_mem mx] at h
    rw [List.length_cons]
    omega
theorem few_of {ok : Int → Prop} {menu : List Int} (h : ∀ d, ok d → d ∈ menu) : Few ok menu.length := fun n hn => by
  have nd : (n.map (·.1)).Nodup := hn.nodup
  have := sub_len (l := n.map (·.1)) (m := menu) nd fun d hd => by
    obtain ⟨x, hx, rfl⟩ := List.mem_map.mp hd
    exact h _ (hn.1 x hx).1
  rwa [List.length_map] at this
/-- a number in its one form, with bounded parts -/
def Nu (ok : Int → Prop) (C : Nat) (n : Nm) : Prop := CN ok n ∧ Sz C n
def spScaled : Sp := fun vs H Q _ => ∃ (v : V) (n : Nm) (x y : Int) (C W L : Nat) (ok : Int → Prop), vs = [v, .int x, .int y] ∧ Dn H v (encN n) ∧ Nu ok C n ∧ Few ok L ∧ 1 ≤ C ∧ x.natAbs < 2 ^ W ∧ y ≠ 0 ∧ y.natAbs < 2 ^ W ∧ L < 64 ∧ L * (C + W + 1) ≤ 7900 ∧ C + W + 1 ≤ 7900 ∧
  ∀ (m : Nm) (r : Addr) (H' : Hp), Dn H' (.ref r) (encN m) → Nu ok (C + W) m → (∀ d, co m d = Rat.divInt x y * co n d) → Same H H' → Q (.ref r) H'
def spNSum : Sp := fun vs H Q _ => ∃ (u v : V) (n m : Nm) (C L : Nat) (ok : Int → Prop), vs = [u, v] ∧ Dn H u (encN n) ∧ Dn H v (encN m) ∧ Nu ok C n ∧ Nu ok C m ∧ Few ok L ∧ 1 ≤ C ∧ L < 32 ∧ 2 * L * (C + 2) ≤ 7900 ∧ C + 2 ≤ 7900 ∧
  ∀ (s : Nm) (r : Addr) (H' : Hp), Dn H' (.ref r) (encN s) → Nu ok (2 * C + 1) s → (∀ d, co s d = co n d + co m d) → Same H H' → Q (.ref r) H'
section
variable {P : Program} {w : World} {K : PySem.W.Frag} {mg : Str → Option Value} {base : Heap}
abbrev s_scaled : Stmt := top 19
theorem sc_scaled : FnScope ["number", "top", "bottom"] ["number", "top", "bottom"] (defScope s_scaled) := ⟨rfl, rfl, rfl, by decide +kernel, rfl, by decide +kernel, by decide +kernel⟩
theorem ok_scaled {f f_weighted_sum : Addr} {fd d_weighted_sum : FuncData}  (F : Fun K "scaled" "scaled" s_scaled f fd) (T : Bt mg) (p_weighted_sum : Kn P w K mg base 3 "weighted_sum" ["parts"] (spWSum K) f_weighted_sum d_weighted_sum) : FnOk P w K mg base CX0 4 f fd ["number", "top", "bottom"] spScaled := by
  refine F.ok sc_scaled (fun vs H Q E h => ?_) (fun cdv A outer s H vs Q E hr h => ?_)
  · obtain ⟨v, n, x, y, C, W, L, ok, rfl, _⟩ := h
    rfl
  · obtain ⟨v, n, x, y, C, W, L, ok, rfl, hv, hn, few, c1, hx, y0, hy, l64, lt, cw, k⟩ := h
    refine ⟨_, pss_one (ps_ret (pe_call p_weighted_sum.ok (hr.mono (by decide)) rfl p_weighted_sum.mg p_weighted_sum.kp p_weighted_sum.bd .nil pass0 (pa_cons (pe_lst (pa_cons (pe_tup (pa_cons (pv 0) (pa_cons (pv 1) (pa_cons (pv 2) pa_nil)))) pa_nil)) pa_nil))), ?_⟩
    refine ⟨_, rfl, _, rfl, _, rfl, by show 3 ≤ sizeLine; rw [sizeLine_eq]; decide, fun p hp => ⟨by show 1 ≤ sizeLine; rw [sizeLine_eq]; decide, fun l hl => ?_⟩⟩
    have s1 := snew (o := .tup [v, .int x, .int y]) hp
    have s2 := snew (o := .lst [.ref p]) hl
    have ln := few n hn.1
    refine ⟨l, [.ref p], [(n, x, y)], C, W, ok, rfl, SqL.of upd_same, rfl, fun i u q hu hq => ?_, fun q hq => ?_, ?_, ?_, cw, fun m r H' dm cm com sm => ?_⟩
    · match i, hu, hq with
      | 0, hu, hq => cases hu; cases hq; exact ⟨p, v, rfl, s2 _ _ upd_same, Dn.mono (s1.trans s2) _ _ hv⟩
    · rw [List.mem_singleton.mp hq]
      exact ⟨hn.2, fun z hz => (hn.1.1 z hz).1, hx, y0, hy⟩
    · show n.length + 0 < 64
      omega
    · have : (n.length + 0) * (C + W + 1) ≤ L * (C + W + 1) := Nat.mul_le_mul_right _ (by omega)
      exact Nat.le_trans this lt
    · have e : ∀ d, co m d = Rat.divInt x y * co n d := fun d => by
        rw [com d]
        show Rat.divInt x y * co n d + 0 = _
        rw [Rat.add_zero]
      refine k m r H' dm ⟨cm, cm.sz fun z hz => ?_⟩ e ((s1.trans s2).trans sm)
      obtain ⟨t, b, b0, ec, bt, bb⟩ := Sz.co hn.1 hn.2 c1 z.1
      refine ⟨x * t, y * b, Int.mul_ne_zero y0 b0, by rw [e, ec, Rat.divInt_mul_divInt], ?_, ?_⟩
      · rw [Nat.add_comm]; exact mul_bit hx bt
      · rw [Nat.add_comm]; exact mul_bit hy bb
abbrev s_number_sum : Stmt := top 20
theorem sc_number_sum : FnScope ["one", "other"] ["one", "other"] (defScope s_number_sum) := ⟨rfl, rfl, rfl, by decide +kernel, rfl, by decide +kernel, by decide +kernel⟩
theorem ok_number_sum {f f_weighted_sum : Addr} {fd d_weighted_sum : FuncData}  (F : Fun K "number_sum" "number_sum" s_number_sum f fd) (T : Bt mg) (p_weighted_sum : Kn P w K mg base 3 "weighted_sum" ["parts"] (spWSum K) f_weighted_sum d_weighted_sum) : FnOk P w K mg base CX0 4 f fd ["one", "other"] spNSum := by
  refine F.ok sc_number_sum (fun vs H Q E h => ?_) (fun cdv A outer s H vs Q E hr h => ?_)
  · obtain ⟨u, v, n, m, C, L, ok, rfl, _⟩ := h
    rfl
  · obtain ⟨u, v, n, m, C, L, ok, rfl, hu, hv, hn, hm, few, c1, l32, lt, cw, k⟩ := h
    refine ⟨_, pss_one (ps_ret (pe_call p_weighted_sum.ok (hr.mono (by decide)) rfl p_weighted_sum.mg p_weighted_sum.kp p_weighted_sum.bd .nil pass0 (pa_cons (pe_lst (pa_cons (pe_tup (pa_cons (pv 0) (pa_cons pe_int (pa_cons pe_int pa_nil)))) (pa_cons (pe_tup (pa_cons (pv 1) (pa_cons pe_int (pa_cons pe_int pa_nil)))) pa_nil))) pa_nil))), ?_⟩
    refine ⟨_, rfl, by show 3 ≤ sizeLine; rw [sizeLine_eq]; decide, fun p hp => ⟨_, rfl, by show 3 ≤ sizeLine; rw [sizeLine_eq]; decide, fun q hq => ⟨by show 2 ≤ sizeLine; rw [sizeLine_eq]; decide, fun l hl => ?_⟩⟩⟩
    have s1 := snew (o := .tup [u, .int 1, .int 1]) hp
    have s2 := snew (o := .tup [v, .int 1, .int 1]) hq
    have s3 := snew (o := .lst [.ref p, .ref q]) hl
    have ln := few n hn.1
    have lm := few m hm.1
    refine ⟨l, [.ref p, .ref q], [(n, 1, 1), (m, 1, 1)], C, 1, ok, rfl, SqL.of upd_same, rfl, fun i z y hz hy => ?_, fun y hy => ?_, ?_, ?_, cw, fun s r H' ds cs cos ss => ?_⟩
    · match i, hz, hy with
      | 0, hz, hy => cases hz; cases hy; exact ⟨p, u, rfl, (s2.trans s3) _ _ upd_same, Dn.mono ((s1.trans s2).trans s3) _ _ hu⟩
      | 1, hz, hy => cases hz; cases hy; exact ⟨q, v, rfl, s3 _ _ upd_same, Dn.mono ((s1.trans s2).trans s3) _ _ hv⟩
    · simp only [List.mem_cons, List.not_mem_nil, or_false] at hy
      rcases hy with rfl | rfl
      · exact ⟨hn.2, fun z hz => (hn.1.1 z hz).1, (by decide : (1 : Int).natAbs < 2 ^ 1), (by decide : (1 : Int) ≠ 0), (by decide : (1 : Int).natAbs < 2 ^ 1)⟩
      · exact ⟨hm.2, fun z hz => (hm.1.1 z hz).1, (by decide : (1 : Int).natAbs < 2 ^ 1), (by decide : (1 : Int) ≠ 0), (by decide : (1 : Int).natAbs < 2 ^ 1)⟩
    · show n.length + (m.length + 0) < 64
      omega
    · have : (n.length + (m.length + 0)) * (C + 1 + 1) ≤ 2 * L * (C + 2) := Nat.mul_le_mul (by omega) (Nat.le_refl _)
      exact Nat.le_trans this lt
    · have one : Rat.divInt 1 1 = 1 := rfl
      have e : ∀ d, co s d = co n d + co m d := fun d => by
        rw [cos d]
        show Rat.divInt 1 1 * co n d + (Rat.divInt 1 1 * co m d + 0) = _
        rw [one, Rat.one_mul, Rat.one_mul, Rat.add_zero]
      refine k s r H' ds ⟨cs, cs.sz fun z hz => ?_⟩ e (((s1.trans s2).trans s3).trans ss)
      obtain ⟨t, b, b0, ec, bt, bb⟩ := Sz.co hn.1 hn.2 c1 z.1
      obtain ⟨t', b', b0', ec', bt', bb'⟩ := Sz.co hm.1 hm.2 c1 z.1
      have two : 2 * C = C + C := by omega
      refine ⟨t * b' + t' * b, b * b', Int.mul_ne_zero b0 b0', by rw [e, ec, ec', Rat.divInt_add_divInt _ _ b0 b0'], ?_, ?_⟩
      · rw [two]; exact add_bit (mul_bit bt bb') (mul_bit bt' bb)
      · rw [two]; exact bit_up (mul_bit bb bb') (by omega)
end
end N3

namespace N3
open PySem PySem.Spec PyProof.Rows L2 N2
/-! ### the program's checks of poles, rows, tails and quotients -/
def spPole : Sp := fun vs H Q _ => ∃ (v : V) (d : PyData), vs = [v] ∧ Dn H v d ∧ ∀ (b : Bool) (H' : Hp), (b = true ↔ DPl d) → Same H H' → Q (.bl b) H'
/-- a check of any value -/
def spCk (p : PyData → Prop) : Sp := fun vs H Q _ => ∃ (v : V) (d : PyData), vs = [v] ∧ Dn H v d ∧ Gd d ∧ ∀ (b : Bool) (H' : Hp), (b = true ↔ p d) → Same H H' → Q (.bl b) H'
def spBefore : Sp := fun vs H Q _ => ∃ (a b : Addr) (p q : Pl), vs = [.ref a, .ref b] ∧ H a = some (.tup [.int p.1, .int p.2]) ∧ H b = some (.tup [.int q.1, .int q.2]) ∧ p.1.natAbs.log2 < 1920 ∧ p.2.natAbs.log2 < 1920 ∧ q.1.natAbs.log2 < 1920 ∧ q.2.natAbs.log2 < 1920 ∧ Q (.bl (decide (before p q))) H
theorem two_ints {ds : List PyData} (h1 : ds.length = 2) (h2 : ds.all isI = true) : ∃ a b : Int, ds = [.int a, .int b] := by
  match ds, h1 with
  | [x, y], _ =>
    simp only [List.all_cons, List.all_nil, Bool.and_true, Bool.and_eq_true] at h2
    obtain ⟨e1, e2⟩ := h2
    have g : ∀ u : PyData, isI u = true → ∃ i, u = .int i := fun u e => by
      cases u <;> first | exact ⟨_, rfl⟩ | cases e
    obtain ⟨a, rfl⟩ := g x e1
    obtain ⟨b, rfl⟩ := g y e2
    exact ⟨a, b, rfl⟩
theorem dn2 {H : Hp} {xs : List V} {a b : Int} (h : DnAll H xs [.int a, .int b]) : xs = [.int a, .int b] := by
  cases h with
  | cons h1 r =>
    cases r with
    | cons h2 r =>
      cases r
      cases h1
      cases h2
      rfl
theorem dnI {H : Hp} {v : V} {i : Int} (h : Dn H v (.int i)) : v = .int i := by
  cases h
  rfl
theorem dn_pl {H : Hp} {v : V} {p : Pl} (h : Dn H v (encPl p)) : ∃ a, v = .ref a ∧ H a = some (.tup [.int p.1, .int p.2]) := by
  cases h with
  | tup e r => exact ⟨_, rfl, by rw [e, dn2 r]⟩
/-- a tuple's address and items -/
theorem dn_t {H : Hp} {v : V} {ds : List PyData} (h : Dn H v (.tuple ds)) : ∃ a xs, v = .ref a ∧ H a = some (.tup xs) ∧ DnAll H xs ds := by
  cases h with
  | tup e r => exact ⟨_, _, rfl, e, r⟩
theorem dn_pair {H : Hp} {v : V} {d e : PyData} (h : Dn H v (.tuple [d, e])) : ∃ a x y, v = .ref a ∧ H a = some (.tup [x, y]) ∧ Dn H x d ∧ Dn H y e := by
  obtain ⟨a, xs, rfl, ea, r⟩ := dn_t h
  cases r with
  | cons h1 r =>
    cases r with
    | cons h2 r =>
      cases r
      exact ⟨a, _, _, rfl, ea, h1, h2⟩
theorem tup_two {d : PyData} (h : tupN 2 d = true) : ∃ x y, d = .tuple [x, y] := by
  cases d with
  | tuple ds =>
    have : ds.length = 2 := of_decide_eq_true h
    match ds, this with
    | [x, y], _ => exact ⟨x, y, rfl⟩
  | _ => cases h
theorem encT_shape (x : Tr) : PyData.canLay0 (encT x) = true ∧ (encT x).depth = 1 := by
  constructor <;> simp [encT, PyData.canLay0, PyData.canLayAll0, PyData.depth, PyData.depthAll]
theorem lay_map {α : Type} {enc : α → PyData} {k : Nat} (h : ∀ x, PyData.canLay0 (enc x) = true ∧ (enc x).depth ≤ k) : ∀ l : List α, PyData.canLayAll0 (l.map enc) = true ∧ PyData.depthAll (l.map enc) ≤ k
  | [] => by simp [PyData.canLayAll0, PyData.depthAll]
  | x :: l => by
    obtain ⟨h1, h2⟩ := lay_map h l
    obtain ⟨h3, h4⟩ := h x
    constructor
    · simp only [List.map_cons, PyData.canLayAll0, h1, h3, Bool.and_self]
    · simp only [List.map_cons, PyData.depthAll]; omega
theorem encN_shape (n : Nm) : PyData.canLay0 (encN n) = true ∧ (encN n).depth ≤ 2 := by
  obtain ⟨h1, h2⟩ := lay_map (k := 1) (fun x => ⟨(encT_shape x).1, Nat.le_of_eq (encT_shape x).2⟩) n
  constructor
  · simp only [encN, PyData.canLay0]; exact h1
  · simp only [encN, PyData.depth]; omega
theorem encR_shape (r : List Nm) : PyData.canLay0 (encR r) = true ∧ (encR r).depth ≤ 3 := by
  obtain ⟨h1, h2⟩ := lay_map (k := 2) encN_shape r
  constructor
  · simp only [encR, PyData.canLay0]; exact h1
  · simp only [encR, PyData.depth]; omega
theorem shaped_of {d : PyData} (h : PyData.canLay0 d = true) (k : d.depth ≤ 64) : SeqAt.shaped d = true := by
  show (PyData.canLay0 d && decide (PyData.depth d ≤ 64)) = true
  rw [Bool.and_eq_true]
  exact ⟨h, decide_eq_true k⟩
theorem encN_shaped (n : Nm) : SeqAt.shaped (encN n) = true := shaped_of (encN_shape n).1 (by have := (encN_shape n).2; omega)
theorem encR_shaped (r : List Nm) : SeqAt.shaped (encR r) = true := shaped_of (encR_shape r).1 (by have := (encR_shape r).2; omega)
/-- plain data: no dicts, no bools or texts within -/
inductive Tn : PyData → Prop
  | int (i : Int) : Tn (.int i)
  | tup {ds : List PyData} : (∀ d ∈ ds, Tn d) → Tn (.tuple ds)
mutual
theorem tn_dp {K : PySem.W.Frag} {H : Hp} : ∀ (d : PyData) (v : V), Tn d → Dn H v d → Dp K H v d
  | .int i, _, _, h => by
    cases h
    exact .int i
  | .tuple ds, _, t, h => by
    obtain ⟨a, xs, rfl, ea, r⟩ := dn_t h
    cases t with
    | tup t => exact .tup (SqT.of ea) (tn_dpA ds xs t r)
  | .none, _, t, _ => by cases t
  | .bool _, _, t, _ => by cases t
  | .str _, _, t, _ => by cases t
  | .list _, _, t, _ => by cases t
  | .dict _, _, t, _ => by cases t
theorem tn_dpA {K : PySem.W.Frag} {H : Hp} : ∀ (ds : List PyData) (xs : List V), (∀ d ∈ ds, Tn d) → DnAll H xs ds → DpAll K H xs ds
  | [], _, _, h => by
    cases h
    exact .nil
  | d :: ds, _, t, h => by
    cases h with
    | cons h1 h2 => exact .cons (tn_dp d _ (t d List.mem_cons_self) h1) (tn_dpA ds _ (fun x hx => t x (List.mem_cons_of_mem _ hx)) h2)
end
theorem tn_map {α : Type} {enc : α → PyData} (h : ∀ x, Tn (enc x)) (l : List α) : Tn (.tuple (l.map enc)) := .tup fun d hd => by
  obtain ⟨x, _, rfl⟩ := List.mem_map.mp hd
  exact h x
theorem encT_tn (x : Tr) : Tn (encT x) := .tup fun d hd => by
  simp only [List.mem_cons, List.not_mem_nil, or_false] at hd
  rcases hd with rfl | rfl | rfl <;> exact .int _
theorem encN_tn (n : Nm) : Tn (encN n) := tn_map encT_tn n
theorem encR_tn (r : List Nm) : Tn (encR r) := tn_map encN_tn r
theorem encPl_tn (p : Pl) : Tn (encPl p) := .tup fun d hd => by
  simp only [List.mem_cons, List.not_mem_nil, or_false] at hd
  rcases hd with rfl | rfl <;> exact .int _
theorem encTl_tn (t : Tl) : Tn (encTl t) := .tup fun d hd => by
  simp only [List.mem_cons, List.not_mem_nil, or_false] at hd
  rcases hd with rfl | rfl
  · exact encPl_tn _
  · exact encR_tn _
theorem encQ_tn (q : Qt) : Tn (encQ q) := .tup fun d hd => by
  simp only [List.mem_cons, List.not_mem_nil, or_false] at hd
  rcases hd with rfl | rfl
  · exact encR_tn _
  · exact tn_map encTl_tn _
def isNil : PyData → Bool
  | .tuple [] => true
  | _ => false
theorem eqv_nil_d {d : PyData} (h : Tn d) : PyData.eqv d (.tuple []) = isNil d := by
  cases h with
  | int i => simp [PyData.eqv, isNil]
  | @tup ds _ =>
    rw [eqv_nil_t]
    cases ds <;> rfl
theorem nil_encN {n : Nm} : isNil (encN n) = true ↔ n = [] := by
  cases n with
  | nil => exact ⟨fun _ => rfl, fun _ => rfl⟩
  | cons x n => exact ⟨fun h => (by cases h), fun h => (by cases h)⟩
theorem nil_encR {r : List Nm} : isNil (encR r) = true ↔ r = [] := by
  cases r with
  | nil => exact ⟨fun _ => rfl, fun _ => rfl⟩
  | cons x n => exact ⟨fun h => (by cases h), fun h => (by cases h)⟩
theorem snoc_of {α : Type} : ∀ {l : List α}, l ≠ [] → ∃ k x, l = k ++ [x]
  | [], h => absurd rfl h
  | [x], _ => ⟨[], x, rfl⟩
  | x :: y :: l, _ => by
    obtain ⟨k, z, e⟩ := snoc_of (l := y :: l) (by simp)
    exact ⟨x :: k, z, by rw [e]; rfl⟩
theorem dn_snoc {H : Hp} : ∀ {ds : List PyData} {d : PyData} {xs : List V}, DnAll H xs (ds ++ [d]) → ∃ ys x, xs = ys ++ [x] ∧ DnAll H ys ds ∧ Dn H x d
  | [], d, xs, h => by
    cases h with
    | cons h1 r =>
      cases r
      exact ⟨[], _, rfl, .nil, h1⟩
  | e :: ds, d, xs, h => by
    cases h with
    | cons h1 r =>
      obtain ⟨ys, x, rfl, r', dx⟩ := dn_snoc r
      exact ⟨_ :: ys, x, rfl, .cons h1 r', dx⟩
theorem mulW {i j : Int} (h : i.natAbs.log2 < 1920) (k : j.natAbs.log2 < 1920) : CMulW i j := by
  unfold CMulW
  omega
section
variable {P : Program} {w : World} {K : PySem.W.Frag} {mg : Str → Option Value} {base : Heap}
abbrev s_is_pole : Stmt := top 6
theorem sc_is_pole : FnScope ["thing"] ["thing"] (defScope s_is_pole) := ⟨rfl, rfl, rfl, by decide +kernel, rfl, by decide +kernel, by decide +kernel⟩
theorem ok_is_pole {f f_is_tuple_of f_all_integers f_in_lowest_terms : Addr} {fd d_is_tuple_of d_all_integers d_in_lowest_terms : FuncData}  (F : Fun K "is_pole" "is_pole" s_is_pole f fd) (T : Bt mg) (p_is_tuple_of : Kn P w K mg base 1 "is_tuple_of" ["thing", "many"] spTupOf f_is_tuple_of d_is_tuple_of) (p_all_integers : Kn P w K mg base 2 "all_integers" ["things"] spAllInt f_all_integers d_all_integers) (p_in_lowest_terms : Kn P w K mg base 1 "in_lowest_terms" ["top", "bottom"] spLow f_in_lowest_terms d_in_lowest_terms) : FnOk P w K mg base CX0 3 f fd ["thing"] spPole := by
  refine F.ok sc_is_pole (fun vs H Q E h => ?_) (fun cdv A outer s H vs Q E hr h => ?_)
  · obtain ⟨v, d, rfl, _⟩ := h
    rfl
  · obtain ⟨v, d, rfl, hd, k⟩ := h
    refine ⟨_, pss_one (ps_ret (pe_and (pe_call p_is_tuple_of.ok (hr.mono (by decide)) rfl p_is_tuple_of.mg p_is_tuple_of.kp p_is_tuple_of.bd .nil pass0 (pa_cons (pv 0) (pa_cons pe_int pa_nil))) (pe_and (pe_call p_all_integers.ok (hr.mono (by decide)) rfl p_all_integers.mg p_all_integers.kp p_all_integers.bd .nil pass0 (pa_cons (pv 0) pa_nil)) (pe_one (pe_call p_in_lowest_terms.ok (hr.mono (by decide)) rfl p_in_lowest_terms.mg p_in_lowest_terms.kp p_in_lowest_terms.bd .nil pass0 (pa_cons (pe_ix (r := rIx K) ix_seq (pv 0) pe_int (fun _ _ => rfl)) (pa_cons (pe_ix (r := rIx K) ix_seq (pv 0) pe_int (fun _ _ => rfl)) pa_nil))))))), ?_⟩
    refine ⟨_, rfl, v, d, 2, rfl, hd, _, rfl, ite_b (fun e => ?_) (fun e => ?_)⟩
    · obtain ⟨x, y, rfl⟩ := tup_two e
      obtain ⟨a, xs, rfl, ea, ra⟩ := dn_t hd
      refine ⟨_, rfl, a, xs, _, rfl, ea, ra, by show 2 ≤ 1000; decide, fun H1 s1 => ⟨_, rfl, ite_b (fun e2 => ?_) (fun e2 => ?_)⟩⟩
      · obtain ⟨p, q, epq⟩ := two_ints rfl e2
        cases epq
        obtain rfl := dn2 ra
        refine ⟨_, rfl, .inr (.inl ⟨a, _, _, _, rfl, rfl, SqT.of (s1 _ _ ea), rfl, _, rfl, .inr (.inl ⟨a, _, _, _, rfl, rfl, SqT.of (s1 _ _ ea), rfl, p, q, rfl, ?_⟩)⟩)⟩
        refine k _ H1 ⟨fun h => ⟨(p, q), rfl, h⟩, fun ⟨u, e, h⟩ => ?_⟩ s1
        obtain rfl : (p, q) = u := encPl_inj (show encPl (p, q) = encPl u from e)
        exact h
      · refine k false H1 ⟨fun z => (by cases z), fun ⟨u, e, _⟩ => ?_⟩ s1
        rw [show ([x, y] : List PyData) = [.int u.1, .int u.2] from by injection e] at e2
        cases e2
    · refine k false H ⟨fun z => (by cases z), fun ⟨u, e', _⟩ => ?_⟩ (Same.refl _)
      rw [e'] at e
      cases e
abbrev s_comes_before : Stmt := top 25
theorem sc_comes_before : FnScope ["one", "other"] ["one", "other"] (defScope s_comes_before) := ⟨rfl, rfl, rfl, by decide +kernel, rfl, by decide +kernel, by decide +kernel⟩
theorem ok_comes_before {f  : Addr} {fd  : FuncData}  (F : Fun K "comes_before" "comes_before" s_comes_before f fd) (T : Bt mg)  : FnOk P w K mg base CX0 1 f fd ["one", "other"] spBefore := by
  refine F.ok sc_comes_before (fun vs H Q E h => ?_) (fun cdv A outer s H vs Q E hr h => ?_)
  · obtain ⟨a, b, p, q, rfl, _⟩ := h
    rfl
  · obtain ⟨a, b, p, q, rfl, ha, hb, l1, l2, l3, l4, k⟩ := h
    refine ⟨_, pss_one (ps_ret (pe_cmpR op_lt (pe_op op_mulW (pe_ix (r := rIx K) ix_seq (pv 0) pe_int (fun _ _ => rfl)) (pe_ix (r := rIx K) ix_seq (pv 1) pe_int (fun _ _ => rfl))) (pe_op op_mulW (pe_ix (r := rIx K) ix_seq (pv 1) pe_int (fun _ _ => rfl)) (pe_ix (r := rIx K) ix_seq (pv 0) pe_int (fun _ _ => rfl))) (nomark _))), ?_⟩
    refine ⟨_, rfl, .inr (.inl ⟨a, _, _, _, rfl, rfl, SqT.of ha, rfl, _, rfl, .inr (.inl ⟨b, _, _, _, rfl, rfl, SqT.of hb, rfl, _, _, rfl, rfl, mulW l1 l4, ?_⟩)⟩)⟩
    exact ⟨_, rfl, .inr (.inl ⟨b, _, _, _, rfl, rfl, SqT.of hb, rfl, _, rfl, .inr (.inl ⟨a, _, _, _, rfl, rfl, SqT.of ha, rfl, _, _, rfl, rfl, mulW l3 l2, _, _, rfl, rfl, k⟩)⟩)⟩
abbrev s_is_polynomial : Stmt := top 39
theorem sc_is_polynomial : FnScope ["thing", "number"] ["thing"] (defScope s_is_polynomial) := ⟨rfl, rfl, rfl, by decide +kernel, rfl, by decide +kernel, by decide +kernel⟩
theorem ok_is_polynomial {f f_is_number : Addr} {fd d_is_number : FuncData}  (F : Fun K "is_polynomial" "is_polynomial" s_is_polynomial f fd) (T : Bt mg) (p_is_number : Kn P w K mg base 5 "is_number" ["thing"] spNumber f_is_number d_is_number) : FnOk P w K mg base CX0 6 f fd ["thing"] (spCk (DR Fit)) := by
  refine F.ok sc_is_polynomial (fun vs H Q E h => ?_) (fun cdv A outer s H vs Q E hr h => ?_)
  · obtain ⟨v, d, rfl, _⟩ := h
    rfl
  · obtain ⟨v, d, rfl, hd, gd, k⟩ := h
    refine ⟨_, pss_cons (ps_if (pt_not (pt_val (pe_callB call_isi (by rfl) T.isi (by decide +kernel) (pa_cons (pv 0) (pa_cons (pe_bltn (v := .ty "tuple") (by rfl) T.tuple (by decide +kernel) rfl) pa_nil)))))
        (pss_one (ps_ret pe_bl))
        pss_nil)
      (pss_cons (ps_if (pt_not (pt_val (pe_callB (cr_all rfl) (by rfl) T.all (by decide +kernel) (pa_cons (pe_lc (own := [("number", 1)]) (g := (gName 1)) (tt := tYes) rfl sc_is_polynomial.nd (pi_tup (pv 0)) (blkOk_by (own := [("number", 1)]) (N := ["thing", "number"]) (sc := defScope s_is_polynomial) (by decide +kernel)) (fun _ _ _ _ _ => pg_name (i := 1) sc_is_polynomial.nd rfl (Or.inl rfl)) (fun _ _ _ _ _ => pts_nil) (fun _ _ _ _ _ => (pe_call p_is_number.ok (hr.mono (by decide)) rfl p_is_number.mg p_is_number.kp p_is_number.bd .nil pass0 (pa_cons (pv 1) pa_nil)))) pa_nil))))
        (pss_one (ps_ret pe_bl))
        pss_nil)
      (pss_one (ps_ret (pe_or (pe_cmpR op_eq (pe_callB call_len (by rfl) T.len PySem.boot_len (pa_cons (pv 0) pa_nil)) pe_int (nomark _)) (pe_one (pe_cmpR (op_neD hr.units) (pe_ix (r := rIx K) ix_seq (pv 0) (pe_un un_neg pe_int) (fun _ _ => rfl)) (pe_tup pa_nil) (nomark _))))))), ?_⟩
    refine ⟨_, rfl, v, .ty "tuple", _, _, _, rfl, .ty _, dn_ty hd, kit_ty (kit_t d), _, rfl, ?_⟩
    cases et : isTp d with
    | false =>
      refine iteT ?_
      refine k false H ⟨fun z => (by cases z), fun ⟨r, e, _⟩ => ?_⟩ (Same.refl _)
      rw [e] at et; cases et
    | true =>
      refine iteF ?_
      obtain ⟨a, xs, ds, rfl, rfl, ea, ra⟩ := dn_tup hd et
      refine ⟨_, rfl, a, rfl, ⟨_, SqT.of ea⟩, fun D hD => lc_all (NP) ea ra (gd.short _ rfl) hD (fun j x d H' Q' ed dn s' kk => ⟨_, rfl, x, d, rfl, dn, (gd.item (List.mem_of_getElem? ed)).short, kk⟩) fun bs H1 e1 e3 s1 => ?_⟩
      refine ⟨D, bs, rfl, SqL.of e1, _, rfl, ?_⟩
      cases eb : bs.all id with
      | false =>
        refine iteT ?_
        refine k false H1 ⟨fun z => (by cases z), fun ⟨r, e, h, _⟩ => ?_⟩ s1
        injection e with e
        subst e
        rw [e3.mpr fun x hx => by
          obtain ⟨n, hn, rfl⟩ := List.mem_map.mp hx
          exact np_dn.mpr ⟨n, rfl, h n hn⟩] at eb
        cases eb
      | true =>
        refine iteF ?_
        obtain ⟨r, rfl, hr'⟩ := map_of fun x hx => np_dn.mp (e3.mp eb x hx)
        refine ⟨_, rfl, .ref a, xs.length, rfl, .inr ⟨xs, SqT.of (s1 _ _ ea), rfl⟩, rfl, _, rfl, ?_⟩
        have ll : decide (V.int (xs.length : Int) = V.int ((0 : Nat) : Int)) = decide (r = []) := by
          rw [dec_len, ra.length, List.length_map]
          exact decide_eq_decide.mpr List.length_eq_zero_iff
        show if decide (V.int (xs.length : Int) = V.int ((0 : Nat) : Int)) = true then _ else _
        rw [ll]
        refine ite_b (fun e4 => ?_) (fun e4 => ?_)
        · obtain rfl := of_decide_eq_true e4
          exact k true H1 ⟨fun _ => ⟨[], rfl, hr', by simp⟩, fun _ => rfl⟩ s1
        · have r0 : r ≠ [] := of_decide_eq_false e4
          obtain ⟨r1, n, rfl⟩ := snoc_of r0
          rw [List.map_append] at ra
          obtain ⟨xs1, x, rfl, _, dx⟩ := dn_snoc ra
          refine ⟨_, rfl, _, rfl, .inr (.inl ⟨a, xs1 ++ [x], _, _, rfl, rfl, SqT.of (s1 _ _ ea), atI_last _ _, ?_⟩)⟩
          refine ⟨Nat.zero_le _, fun p hp => ⟨encN n, .tuple [], tn_dp _ _ (encN_tn n) (Dn.mono (s1.trans (snew hp)) _ _ dx), .tup (SqT.of upd_same) .nil, encN_shaped n, rfl, ?_⟩⟩
          rw [eqv_nil_d (encN_tn n)]
          refine k _ _ ?_ (s1.trans (snew hp))
          rw [Bool.not_eq_true', ← Bool.not_eq_true, nil_encN]
          constructor
          · intro h
            exact ⟨r1 ++ [n], rfl, hr', by rw [List.getLast?_append]; simpa using h⟩
          · rintro ⟨r', e, _, h⟩ z
            injection e with e
            obtain rfl := inj_map (fun _ _ => encN_inj) e
            rw [z, List.getLast?_append] at h
            exact h rfl
end
end N3

namespace N3
open PySem PySem.Spec PyProof.Rows L2 N2
theorem gd_len {ds : List PyData} (h : Gd (.tuple ds)) : ds.length ≤ 1000000 := h.short _ rfl
theorem mem0 {d e : PyData} : d ∈ [d, e] := List.mem_cons_self
theorem mem1 {d e : PyData} : e ∈ [d, e] := List.mem_cons_of_mem _ List.mem_cons_self
theorem nb_of {α : Type} {enc : α → PyData} {q : α → α → Prop} {l : List α} {r : PyData → PyData → Prop} (h : ∀ x y, r (enc x) (enc y) ↔ q x y) : (∀ (k : Nat) (x y : PyData), (l.map enc)[k]? = some x → (l.map enc)[k + 1]? = some y → r x y) ↔ Nb q l := by
  constructor
  · intro hr i x y ex ey
    exact (h x y).mp (hr i _ _ (by rw [List.getElem?_map, ex]; rfl) (by rw [List.getElem?_map, ey]; rfl))
  · intro hq i x y ex ey
    rw [List.getElem?_map] at ex ey
    cases e1 : l[i]? with
    | none => rw [e1] at ex; cases ex
    | some u =>
      cases e2 : l[i + 1]? with
      | none => rw [e2] at ey; cases ey
      | some v =>
        rw [e1] at ex
        rw [e2] at ey
        cases ex
        cases ey
        exact (h u v).mpr (hq i u v e1 e2)
section
variable {P : Program} {w : World} {K : PySem.W.Frag} {mg : Str → Option Value} {base : Heap}
abbrev s_is_tail : Stmt := top 40
theorem sc_is_tail : FnScope ["thing"] ["thing"] (defScope s_is_tail) := ⟨rfl, rfl, rfl, by decide +kernel, rfl, by decide +kernel, by decide +kernel⟩
theorem ok_is_tail {f f_is_tuple_of f_is_pole f_is_polynomial : Addr} {fd d_is_tuple_of d_is_pole d_is_polynomial : FuncData}  (F : Fun K "is_tail" "is_tail" s_is_tail f fd) (T : Bt mg) (p_is_tuple_of : Kn P w K mg base 1 "is_tuple_of" ["thing", "many"] spTupOf f_is_tuple_of d_is_tuple_of) (p_is_pole : Kn P w K mg base 3 "is_pole" ["thing"] spPole f_is_pole d_is_pole) (p_is_polynomial : Kn P w K mg base 6 "is_polynomial" ["thing"] (spCk (DR Fit)) f_is_polynomial d_is_polynomial) : FnOk P w K mg base CX0 7 f fd ["thing"] (spCk (DTl Fit)) := by
  refine F.ok sc_is_tail (fun vs H Q E h => ?_) (fun cdv A outer s H vs Q E hr h => ?_)
  · obtain ⟨v, d, rfl, _⟩ := h
    rfl
  · obtain ⟨v, d, rfl, hd, gd, k⟩ := h
    refine ⟨_, pss_one (ps_ret (pe_and (pe_call p_is_tuple_of.ok (hr.mono (by decide)) rfl p_is_tuple_of.mg p_is_tuple_of.kp p_is_tuple_of.bd .nil pass0 (pa_cons (pv 0) (pa_cons pe_int pa_nil))) (pe_and (pe_call p_is_pole.ok (hr.mono (by decide)) rfl p_is_pole.mg p_is_pole.kp p_is_pole.bd .nil pass0 (pa_cons (pe_ix (r := rIx K) ix_seq (pv 0) pe_int (fun _ _ => rfl)) pa_nil)) (pe_and (pe_call p_is_polynomial.ok (hr.mono (by decide)) rfl p_is_polynomial.mg p_is_polynomial.kp p_is_polynomial.bd .nil pass0 (pa_cons (pe_ix (r := rIx K) ix_seq (pv 0) pe_int (fun _ _ => rfl)) pa_nil)) (pe_one (pe_cmpR (op_neD hr.units) (pe_ix (r := rIx K) ix_seq (pv 0) pe_int (fun _ _ => rfl)) (pe_tup pa_nil) (nomark _))))))), ?_⟩
    refine ⟨_, rfl, v, d, 2, rfl, hd, _, rfl, ite_b (fun e => ?_) (fun e => ?_)⟩
    · obtain ⟨x, y, rfl⟩ := tup_two e
      obtain ⟨a, xv, yv, rfl, ea, dx, dy⟩ := dn_pair hd
      refine ⟨_, rfl, .inr (.inl ⟨a, _, _, _, rfl, rfl, SqT.of ea, rfl, xv, x, rfl, dx, fun b H1 hb s1 => ⟨_, rfl, ite_b (fun e2 => ?_) (fun e2 => ?_)⟩⟩)⟩
      · refine ⟨_, rfl, .inr (.inl ⟨a, _, _, _, rfl, rfl, SqT.of (s1 _ _ ea), rfl, yv, y, rfl, Dn.mono s1 _ _ dy, gd.item mem1, fun b2 H2 hb2 s2 => ⟨_, rfl, ite_b (fun e3 => ?_) (fun e3 => ?_)⟩⟩)⟩
        · obtain ⟨pl, rfl, cp⟩ := hb.mp e2
          obtain ⟨r, rfl, cr⟩ := hb2.mp e3
          have s12 := s1.trans s2
          refine ⟨_, rfl, .inr (.inl ⟨a, _, _, _, rfl, rfl, SqT.of (s12 _ _ ea), rfl, ?_⟩)⟩
          refine ⟨Nat.zero_le _, fun p hp => ⟨encR r, .tuple [], tn_dp _ _ (encR_tn r) (Dn.mono (s12.trans (snew hp)) _ _ dy), .tup (SqT.of upd_same) .nil, encR_shaped r, rfl, ?_⟩⟩
          rw [eqv_nil_d (encR_tn r)]
          refine k _ _ ?_ (s12.trans (snew hp))
          rw [Bool.not_eq_true', ← Bool.not_eq_true, nil_encR]
          constructor
          · intro h
            exact ⟨(pl, r), rfl, cp, cr, h⟩
          · rintro ⟨t, e', _, _, h⟩
            obtain rfl : (pl, r) = t := encTl_inj (show encTl (pl, r) = encTl t from e')
            exact h
        · refine k false H2 ⟨fun z => (by cases z), fun ⟨t, e', _, h, _⟩ => ?_⟩ (s1.trans s2)
          rw [hb2.mpr ⟨t.2, (show y = encR t.2 by injection e' with e'; injection e' with _ e'; injection e' with e' _), h⟩] at e3
          cases e3
      · refine k false H1 ⟨fun z => (by cases z), fun ⟨t, e', h, _, _⟩ => ?_⟩ s1
        rw [hb.mpr ⟨t.1, (show x = encPl t.1 by injection e' with e'; injection e' with e' _), h⟩] at e2
        cases e2
    · refine k false H ⟨fun z => (by cases z), fun ⟨t, e', _⟩ => ?_⟩ (Same.refl _)
      rw [e'] at e
      cases e
abbrev s_are_tails : Stmt := top 41
theorem sc_are_tails : FnScope ["thing", "tail", "k"] ["thing"] (defScope s_are_tails) := ⟨rfl, rfl, rfl, by decide +kernel, rfl, by decide +kernel, by decide +kernel⟩
theorem ok_are_tails {f f_is_tail f_comes_before : Addr} {fd d_is_tail d_comes_before : FuncData}  (F : Fun K "are_tails" "are_tails" s_are_tails f fd) (T : Bt mg) (p_is_tail : Kn P w K mg base 7 "is_tail" ["thing"] (spCk (DTl Fit)) f_is_tail d_is_tail) (p_comes_before : Kn P w K mg base 1 "comes_before" ["one", "other"] spBefore f_comes_before d_comes_before) : FnOk P w K mg base CX0 8 f fd ["thing"] (spCk (DTs Fit)) := by
  refine F.ok sc_are_tails (fun vs H Q E h => ?_) (fun cdv A outer s H vs Q E hr h => ?_)
  · obtain ⟨v, d, rfl, _⟩ := h
    rfl
  · obtain ⟨v, d, rfl, hd, gd, k⟩ := h
    refine ⟨_, pss_cons (ps_if (pt_not (pt_val (pe_callB call_isi (by rfl) T.isi (by decide +kernel) (pa_cons (pv 0) (pa_cons (pe_bltn (v := .ty "tuple") (by rfl) T.tuple (by decide +kernel) rfl) pa_nil)))))
        (pss_one (ps_ret pe_bl))
        pss_nil)
      (pss_cons (ps_if (pt_not (pt_val (pe_callB (cr_all rfl) (by rfl) T.all (by decide +kernel) (pa_cons (pe_lc (own := [("tail", 1)]) (g := (gName 1)) (tt := tYes) rfl sc_are_tails.nd (pi_tup (pv 0)) (blkOk_by (own := [("tail", 1)]) (N := ["thing", "tail", "k"]) (sc := defScope s_are_tails) (by decide +kernel)) (fun _ _ _ _ _ => pg_name (i := 1) sc_are_tails.nd rfl (Or.inl rfl)) (fun _ _ _ _ _ => pts_nil) (fun _ _ _ _ _ => (pe_call p_is_tail.ok (hr.mono (by decide)) rfl p_is_tail.mg p_is_tail.kp p_is_tail.bd .nil pass0 (pa_cons (pv 1) pa_nil)))) pa_nil))))
        (pss_one (ps_ret pe_bl))
        pss_nil)
      (pss_one (ps_ret (pe_callB (cr_all rfl) (by rfl) T.all (by decide +kernel) (pa_cons (pe_lc (own := [("k", 2)]) (g := (gName 2)) (tt := tYes) rfl sc_are_tails.nd (pi_range1 rfl T.range (pa_cons (pe_op op_sub (pe_callB call_len (by rfl) T.len PySem.boot_len (pa_cons (pv 0) pa_nil)) pe_int) pa_nil)) (blkOk_by (own := [("k", 2)]) (N := ["thing", "tail", "k"]) (sc := defScope s_are_tails) (by decide +kernel)) (fun _ _ _ _ _ => pg_name (i := 2) sc_are_tails.nd rfl (Or.inl rfl)) (fun _ _ _ _ _ => pts_nil) (fun _ _ _ _ _ => (pe_call p_comes_before.ok (hr.mono (by decide)) rfl p_comes_before.mg p_comes_before.kp p_comes_before.bd .nil pass0 (pa_cons (pe_ix (r := rIx K) ix_seq (pe_ix (r := rIx K) ix_seq (pv 0) (pv 2) (fun _ _ => rfl)) pe_int (fun _ _ => rfl)) (pa_cons (pe_ix (r := rIx K) ix_seq (pe_ix (r := rIx K) ix_seq (pv 0) (pe_op op_add (pv 2) pe_int) (fun _ _ => rfl)) pe_int (fun _ _ => rfl)) pa_nil))))) pa_nil))))), ?_⟩
    refine ⟨_, rfl, v, .ty "tuple", _, _, _, rfl, .ty _, dn_ty hd, kit_ty (kit_t d), _, rfl, ?_⟩
    cases et : isTp d with
    | false =>
      refine iteT ?_
      refine k false H ⟨fun z => (by cases z), fun ⟨r, e, _⟩ => ?_⟩ (Same.refl _)
      rw [e] at et; cases et
    | true =>
      refine iteF ?_
      obtain ⟨a, xs, ds, rfl, rfl, ea, ra⟩ := dn_tup hd et
      refine ⟨_, rfl, a, rfl, ⟨_, SqT.of ea⟩, fun D hD => lc_all (DTl Fit) ea ra (gd_len gd) hD (fun j x d H' Q' ed dn s' kk => ⟨_, rfl, x, d, rfl, dn, gd.item (List.mem_of_getElem? ed), kk⟩) fun bs H1 e1 e3 s1 => ?_⟩
      refine ⟨D, bs, rfl, SqL.of e1, _, rfl, ?_⟩
      cases eb : bs.all id with
      | false =>
        refine iteT ?_
        refine k false H1 ⟨fun z => (by cases z), fun ⟨ts, e, h, _⟩ => ?_⟩ s1
        injection e with e
        subst e
        rw [e3.mpr fun x hx => by
          obtain ⟨n, hn, rfl⟩ := List.mem_map.mp hx
          exact ⟨n, rfl, h n hn⟩] at eb
        cases eb
      | true =>
        refine iteF ?_
        obtain ⟨ts, rfl, ht⟩ := map_of fun x hx => e3.mp eb x hx
        refine ⟨_, rfl, .ref a, xs.length, rfl, .inr ⟨xs, SqT.of (s1 _ _ ea), rfl⟩, _, _, rfl, rfl, _, rfl, by rw [ra.length]; have := gd_len gd; omega, by rw [ra.length]; have := gd_len gd; omega, fun D2 hD2 => ?_⟩
        have en : ((xs.length : Int) - 1).toNat = (ts.map encTl).length - 1 := by rw [ra.length]; omega
        rw [en]
        refine lc_adj (fun x y => ∃ s t, x = encTl s ∧ y = encTl t ∧ before s.1 t.1) (gd_len gd) hD2 (fun j x y H' Q' ex ey s' kk => ?_) fun bs2 H2 e4 e5 s2 => ?_
        · have s0 := s1.trans s'
          obtain ⟨xv, exv, dx⟩ := dn_at ra ex
          obtain ⟨yv, eyv, dy⟩ := dn_at ra ey
          rw [List.getElem?_map] at ex ey
          obtain ⟨t1, et1, rfl⟩ := Option.map_eq_some_iff.mp ex
          obtain ⟨t2, et2, rfl⟩ := Option.map_eq_some_iff.mp ey
          obtain ⟨ax, x1, x2, rfl, hx, dx1, _⟩ := dn_pair dx
          obtain ⟨ay, y1, y2, rfl, hy, dy1, _⟩ := dn_pair dy
          obtain ⟨px, rfl, hpx⟩ := dn_pl dx1
          obtain ⟨py, rfl, hpy⟩ := dn_pl dy1
          have m1 := gd.item (List.mem_map.mpr ⟨t1, List.mem_of_getElem? et1, rfl⟩)
          have m2 := gd.item (List.mem_map.mpr ⟨t2, List.mem_of_getElem? et2, rfl⟩)
          have g1 := Gd.item (ds := [encPl t1.1, encR t1.2]) m1 mem0
          have g2 := Gd.item (ds := [encPl t2.1, encR t2.2]) m2 mem0
          refine ⟨_, rfl, _, rfl, .inr (.inl ⟨a, xs, _, _, rfl, rfl, SqT.of (s0 _ _ ea), by rw [Int.zero_add]; exact atI_nat exv, ?_⟩)⟩
          refine .inr (.inl ⟨ax, _, _, _, rfl, rfl, SqT.of (s0 _ _ hx), rfl, ?_⟩)
          refine ⟨_, rfl, _, rfl, _, _, rfl, rfl, .inr (.inl ⟨a, xs, _, _, rfl, rfl, SqT.of (s0 _ _ ea), by rw [Int.zero_add, show ((j : Int) + 1) = ((j + 1 : Nat) : Int) by omega]; exact atI_nat eyv, ?_⟩)⟩
          refine .inr (.inl ⟨ay, _, _, _, rfl, rfl, SqT.of (s0 _ _ hy), rfl, ?_⟩)
          refine ⟨px, py, t1.1, t2.1, rfl, s0 _ _ hpx, s0 _ _ hpy, Wd.int (Wd.item (ds := [.int t1.1.1, .int t1.1.2]) g1 mem0), Wd.int (Wd.item (ds := [.int t1.1.1, .int t1.1.2]) g1 mem1), Wd.int (Wd.item (ds := [.int t2.1.1, .int t2.1.2]) g2 mem0), Wd.int (Wd.item (ds := [.int t2.1.1, .int t2.1.2]) g2 mem1), kk _ H' ?_ (Same.refl _)⟩
          rw [decide_eq_true_iff]
          exact ⟨fun h => ⟨t1, t2, rfl, rfl, h⟩, fun ⟨s, t, e1, e2, h⟩ => by rw [encTl_inj e1, encTl_inj e2]; exact h⟩
        · refine ⟨D2, bs2, rfl, SqL.of e4, k _ H2 ?_ (s1.trans s2)⟩
          rw [e5, nb_of (q := fun s t : Tl => before s.1 t.1) fun x y => ⟨fun ⟨s, t, e1, e2, h⟩ => by rw [encTl_inj e1, encTl_inj e2]; exact h, fun h => ⟨x, y, rfl, rfl, h⟩⟩]
          exact ⟨fun h => ⟨ts, rfl, ht, h⟩, fun ⟨ts', e, h⟩ => by rw [encTs_inj e]; exact h.2⟩
abbrev s_is_quotient : Stmt := top 42
theorem sc_is_quotient : FnScope ["thing"] ["thing"] (defScope s_is_quotient) := ⟨rfl, rfl, rfl, by decide +kernel, rfl, by decide +kernel, by decide +kernel⟩
theorem ok_is_quotient {f f_is_tuple_of f_is_polynomial f_are_tails : Addr} {fd d_is_tuple_of d_is_polynomial d_are_tails : FuncData}  (F : Fun K "is_quotient" "is_quotient" s_is_quotient f fd) (T : Bt mg) (p_is_tuple_of : Kn P w K mg base 1 "is_tuple_of" ["thing", "many"] spTupOf f_is_tuple_of d_is_tuple_of) (p_is_polynomial : Kn P w K mg base 6 "is_polynomial" ["thing"] (spCk (DR Fit)) f_is_polynomial d_is_polynomial) (p_are_tails : Kn P w K mg base 8 "are_tails" ["thing"] (spCk (DTs Fit)) f_are_tails d_are_tails) : FnOk P w K mg base CX0 9 f fd ["thing"] (spCk (DQ Fit)) := by
  refine F.ok sc_is_quotient (fun vs H Q E h => ?_) (fun cdv A outer s H vs Q E hr h => ?_)
  · obtain ⟨v, d, rfl, _⟩ := h
    rfl
  · obtain ⟨v, d, rfl, hd, gd, k⟩ := h
    refine ⟨_, pss_one (ps_ret (pe_and (pe_call p_is_tuple_of.ok (hr.mono (by decide)) rfl p_is_tuple_of.mg p_is_tuple_of.kp p_is_tuple_of.bd .nil pass0 (pa_cons (pv 0) (pa_cons pe_int pa_nil))) (pe_and (pe_call p_is_polynomial.ok (hr.mono (by decide)) rfl p_is_polynomial.mg p_is_polynomial.kp p_is_polynomial.bd .nil pass0 (pa_cons (pe_ix (r := rIx K) ix_seq (pv 0) pe_int (fun _ _ => rfl)) pa_nil)) (pe_one (pe_call p_are_tails.ok (hr.mono (by decide)) rfl p_are_tails.mg p_are_tails.kp p_are_tails.bd .nil pass0 (pa_cons (pe_ix (r := rIx K) ix_seq (pv 0) pe_int (fun _ _ => rfl)) pa_nil)))))), ?_⟩
    refine ⟨_, rfl, v, d, 2, rfl, hd, _, rfl, ite_b (fun e => ?_) (fun e => ?_)⟩
    · obtain ⟨x, y, rfl⟩ := tup_two e
      obtain ⟨a, xv, yv, rfl, ea, dx, dy⟩ := dn_pair hd
      refine ⟨_, rfl, .inr (.inl ⟨a, _, _, _, rfl, rfl, SqT.of ea, rfl, xv, x, rfl, dx, gd.item mem0, fun b H1 hb s1 => ⟨_, rfl, ite_b (fun e2 => ?_) (fun e2 => ?_)⟩⟩)⟩
      · refine ⟨_, rfl, .inr (.inl ⟨a, _, _, _, rfl, rfl, SqT.of (s1 _ _ ea), rfl, yv, y, rfl, Dn.mono s1 _ _ dy, gd.item mem1, fun b2 H2 hb2 s2 => k b2 H2 ?_ (s1.trans s2)⟩)⟩
        obtain ⟨r, rfl, cr⟩ := hb.mp e2
        rw [hb2]
        constructor
        · rintro ⟨ts, rfl, h⟩
          exact ⟨(r, ts), rfl, cr, h⟩
        · rintro ⟨q, e', _, h⟩
          exact ⟨q.2, (by injection e' with e'; injection e' with _ e'; injection e' with e' _), h⟩
      · refine k false H1 ⟨fun z => (by cases z), fun ⟨q, e', h, _⟩ => ?_⟩ s1
        rw [hb.mpr ⟨q.1, (show x = encR q.1 by injection e' with e'; injection e' with e' _), h⟩] at e2
        cases e2
    · refine k false H ⟨fun z => (by cases z), fun ⟨t, e', _⟩ => ?_⟩ (Same.refl _)
      rw [e'] at e
      cases e
end
end N3

namespace N3
open PySem PySem.Spec PyProof.Rows L2 N2
def rowsOf (q : Qt) : List (List Nm) := q.1 :: q.2.map (·.2)
theorem plain_rows {q : Qt} : Plain q ↔ ∀ r ∈ rowsOf q, ∀ n ∈ r, FrN n := by
  constructor
  · rintro ⟨h1, h2⟩ r hr
    rcases List.mem_cons.mp hr with rfl | hr
    · exact h1
    · obtain ⟨t, ht, rfl⟩ := List.mem_map.mp hr
      exact h2 t ht
  · intro h
    exact ⟨h _ List.mem_cons_self, fun t ht => h _ (List.mem_cons_of_mem _ (List.mem_map.mpr ⟨t, ht, rfl⟩))⟩
theorem wtR (r : List Nm) : 2 * r.length ≤ wt (encR r) := by
  have h := wtA_len (r.map encN)
  rw [List.length_map] at h
  show 2 * r.length ≤ wtA (r.map encN) + 3
  omega
theorem wtTs : ∀ ts : List Tl, 2 * ((ts.map (·.2)).flatten.length) ≤ wtA (ts.map encTl)
  | [] => Nat.zero_le _
  | t :: ts => by
    have h1 := wtTs ts
    have h2 := wtR t.2
    rw [List.map_cons, List.flatten_cons, List.length_append, List.map_cons]
    show 2 * (t.2.length + ((ts.map (·.2)).flatten.length)) ≤ (wtA [encPl t.1, encR t.2] + 3) + 2 + wtA (ts.map encTl)
    simp only [wtA]
    omega
theorem gd_flat {q : Qt} (h : Gd (encQ q)) : (rowsOf q).flatten.length ≤ 1000000 := by
  have hw := h.wt
  have h1 := wtR q.1
  have h2 := wtTs q.2
  have e : wt (encQ q) = wtA [encR q.1, .tuple (q.2.map encTl)] + 3 := rfl
  have e2 : wtA [encR q.1, .tuple (q.2.map encTl)] = wt (encR q.1) + 2 + (wtA (q.2.map encTl) + 3 + 2 + 0) := rfl
  rw [rowsOf, List.flatten_cons, List.length_append]
  omega
theorem flat_take {R : List (List Nm)} {i : Nat} {r : List Nm} (h : R[i]? = some r) : (R.take (i + 1)).flatten.length = (R.take i).flatten.length + r.length := by
  rw [List.take_add_one, h]
  simp
theorem flat_le (R : List (List Nm)) (i : Nat) : (R.take i).flatten.length ≤ R.flatten.length := by
  have h : R.flatten.length = (R.take i).flatten.length + (R.drop i).flatten.length := by
    rw [← List.length_append, ← List.flatten_append, List.take_append_drop]
  omega
theorem dn_rows {H : Hp} : ∀ {xs : List V} {ts : List Tl}, DnAll H xs (ts.map encTl) → ∀ (i : Nat) (x : V), xs[i]? = some x → ∃ t a p r, ts[i]? = some t ∧ x = .ref a ∧ H a = some (.tup [p, r]) ∧ Dn H r (encR t.2) ∧ Dn H p (encPl t.1) := by
  intro xs ts ra i x hx
  obtain ⟨d, ed, dn⟩ := ra.at_ hx
  rw [List.getElem?_map] at ed
  obtain ⟨t, et, rfl⟩ := Option.map_eq_some_iff.mp ed
  obtain ⟨a, p, r, rfl, ha, dp, dr⟩ := dn_pair dn
  exact ⟨t, a, p, r, et, rfl, ha, dr, dp⟩
theorem DnAll.snoc {H : Hp} : ∀ {xs : List V} {ds : List PyData} {x : V} {d : PyData}, DnAll H xs ds → Dn H x d → DnAll H (xs ++ [x]) (ds ++ [d])
  | _, _, _, _, .nil, h => .cons h .nil
  | _, _, _, _, .cons a r, h => .cons a (DnAll.snoc r h)
section
variable {P : Program} {w : World} {K : PySem.W.Frag} {mg : Str → Option Value} {base : Heap}
end
end N3

namespace PySem
namespace XtT
open Builtin PySem.AutoSeq1
theorem list_extend_tup (l : Addr) (items : Array Value) (n : Nat) (b : Addr) (items2 : Array Value) (n2 : Nat) (dd : Option Addr) (sl : Array (Option Value)) (hs0 : ¬(!items.isEmpty && Builtin.List.listTooLong (items.size + items2.size)) = true) (hs1 : items.size ≤ sizeLine) (hs2 : items.size + items2.size ≤ sizeLine + 1) :
    Meets (Builtin.«list.extend» ⟨[.ref l, .ref b], []⟩) (fun _ R s => s.heap.get? l = some { cls := .type "list", dict := none, data := .seq items n, slots := #[] } ∧ s.heap.get? b = some { cls := .type "tuple", dict := dd, data := .seq items2 n2, slots := sl } ∧ R (.ok (.ret Value.none)) { s with heap := s.heap.update l (Obj.mapSeq fun x => x ++ items2), toks := s.toks }) :=
  .of_wp fun prog w A R s h => by
    obtain ⟨hp, g, d, tk, os⟩ := s; obtain ⟨hl, hb, h⟩ := h; have f1 := idx_int; have f2 := sub_tuple_tuple; have f3 := sub_list_list; have f4 := sub_tuple_list; have f5 := sub_list_tuple;
    have hz' : (items ++ items2).size ≤ sizeLine + 1 := by rw [Array.size_append]; exact hs2
    wp_walk using (wpAny_updateSeq hl rfl (hz := hs1) (_hz' := hz')), wpAny_loadPart' hl, wpAny_loadPart' hb; exact ⟨_, rfl, h⟩
end XtT
end PySem
namespace L2
open PySem PySem.Spec PyProof.Rows
def rExtendT (K : PySem.W.Frag) : V → List V → Hp → VK → Prop := fun x vs H Q => ∃ l b xs zs, x = .ref l ∧ vs = [.ref b] ∧ H l = some (.lst xs) ∧ SqT K H b zs ∧ xs.length + zs.length ≤ sizeLine ∧ Q .non (upd H l (.lst (xs ++ zs)))
theorem mt_extendT {X : Cx} : MtM X "list.extend" (rExtendT X.K) := by
  intro pins s σ H x vs v us Q I rx rv h
  obtain ⟨l, b, xs, zs, rfl, rfl, hH, hB, hz, q⟩ := h
  cases rx
  obtain ⟨u, rfl, ru⟩ := rv.one
  cases ru
  obtain ⟨z, its, n, r, hl, e⟩ := I.lstM hH
  obtain ⟨its2, r2, ⟨⟨c2, dd, dt, sl⟩, e2, hc, n2, hd⟩, z2⟩ := I.tuple hB
  dsimp only at hc hd
  subst hc hd
  have hl2 := r2.length
  have hsz : its.toArray.size + its2.toArray.size ≤ sizeLine := by rw [List.size_toArray, List.size_toArray]; omega
  have hlong : ¬ (!its.toArray.isEmpty && Builtin.List.listTooLong (its.toArray.size + its2.toArray.size)) = true := by
    rw [notLongL hsz, Bool.and_false]
    exact Bool.false_ne_true
  refine call_meets F.slot_list_extend ⟨_, e, rfl⟩ F.entry_list_extend (F.args_list_extend_2 _ _)
    (PySem.XtT.list_extend_tup l its.toArray n b its2.toArray n2 dd sl hlong (by rw [List.size_toArray]; omega) (by omega)) ⟨e, e2, ?_⟩
  refine ⟨.non, _, I.lset (its' := its ++ its2) hH e (by simp) (r.append r2) ?_, rfl, q⟩
  rw [List.length_append]
  omega
end L2

namespace PySem
namespace Lm
open PySem.W PySem.Calls PyProof.Rows
section
variable {prog : Program} {w : World} {A : Around} {E : Value → Shared → Prop} {s : Shared}
/-- t[0] * n // t[1] for a local name t -/
abbrev keyB (x : Str) (n : Int) (k1 k2 k3 : Nat) (p1 p2 p3 p4 p5 p6 p7 p8 p9 : Pos) : Expr :=
  .BinOp (.BinOp (.Subscript (.Name x p1) (.Constant (.int 0) k1 p2) p3) .Mult (.Constant (.int n) k2 p4) p5) .FloorDiv (.Subscript (.Name x p6) (.Constant (.int 1) k3 p7) p8) p9
theorem key_eval {env : Env} {m : Str → Option Value} {t : Addr} {i j n : Int} {ti tj : Tok} {x : Str} {k1 k2 k3 : Nat} {p1 p2 p3 p4 p5 p6 p7 p8 p9 : Pos} {Q : Value → Shared → Prop} (hk : env.scope.kind = .function) (hl : env.kindOf x = some .local) (hd : (x == ("__debug__" : Str)) = false)
    (hn : s.heap.Ns env.locals m) (hm : m x = some (.ref t)) (ht : PyProof.Rows.IsTup s.heap t #[.int i ti, .int j tj]) (hmul : IntMulOk i n) (hj : j ≠ 0) (hdiv : Builtin.divisionGoesByPylong (i * n) j = false) (h : ∀ tk tok, Q (.int ((i * n).fdiv j) tok) { s with toks := tk }) :
    wpAny (model prog w) A (eval (keyB x n k1 k2 k3 p1 p2 p3 p4 p5 p6 p7 p8 p9) env) Q E s := by
  refine wpAny_BinOp (wpAny_BinOp (Subscript_ (wpAny_Name (wpAny_loadName_local hk hl hn hm (wpAny_Constant_int ?_)) hd)))
  refine subscriptTail_builtinR (T := "tuple") (x := .int i ti) (PyProof.Rows.IsTup.typeIs ht) slot_tuple_getitem.lookup (PyProof.Rows.getItem_tuple (j := 0) ht (by decide) (by decide) (by rfl) (by rfl) ⟨rfl, ?_⟩) (by with_unfolding_all rfl)
  refine wpAny_Constant_int ?_
  refine mul_int ?_ hmul
  refine Subscript_ (wpAny_Name (wpAny_loadName_local hk hl hn hm (wpAny_Constant_int ?_)) hd)
  refine subscriptTail_builtinR (T := "tuple") (x := .int j tj) (PyProof.Rows.IsTup.typeIs ht) slot_tuple_getitem.lookup (PyProof.Rows.getItem_tuple (j := 1) ht (by decide) (by decide) (by rfl) (by rfl) ⟨rfl, ?_⟩) (by with_unfolding_all rfl)
  exact floordiv_int hj (h _ _) (.inl hdiv)
/-- such a lambda is called: what was there stays, the int is told -/
theorem lam_call {f c' t : Addr} {q : Str} {params : Arguments} {scope : Scope} {pm ctv : Value} {i j n : Int} {ti tj : Tok} {x : Str} {k1 k2 k3 : Nat} {p1 p2 p3 p4 p5 p6 p7 p8 p9 : Pos} (hroom : A.depth < recursionLimit)
    (hf : s.heap.get? f = some (kla_obj "<lambda>" q params (keyB x n k1 k2 k3 p1 p2 p3 p4 p5 p6 p7 p8 p9) scope [] pm c' ctv)) (hc : s.heap.CodeRec (.ref c') q) (lim : s.heap.NoLimit) (kd : scope.kind = .function) (co : scope.isCoroutine = false) (gn : scope.isGenerator = false)
    (hl : scope.names.lookup x = some .local) (hd : (x == ("__debug__" : Str)) = false) (hb : bindArgs (kla_fn "<lambda>" q params (keyB x n k1 k2 k3 p1 p2 p3 p4 p5 p6 p7 p8 p9) scope [] pm (.ref c') ctv) ⟨[.ref t], []⟩ = pure [(x, .ref t)])
    (ht : PyProof.Rows.IsTup s.heap t #[.int i ti, .int j tj]) (hmul : IntMulOk i n) (hj : j ≠ 0) (hdiv : Builtin.divisionGoesByPylong (i * n) j = false) :
    wpAny (model prog w) A (call (.ref f) [.ref t]) (KeyPure (.int ((i * n).fdiv j)) s) (fun _ _ => False) s := by
  have go : codeAny (model prog w) A (.call (.ref f) ⟨[.ref t], []⟩) (fun r s' => ∃ u, r = .ok (.ret u) ∧ KeyPure (.int ((i * n).fdiv j)) s u s') s := by
    refine kla_callFunE hroom hf rfl co gn rfl hc ?_
    rw [hb]
    refine wpAny_pure (wpAny_newFunctionEnv_cells kd (fun y hy => ?_) fun env he s1 z => ?_)
    · rw [List.mem_singleton.mp hy]
      exact .inl hl
    · subst he
      refine ⟨lim.keeps z.toInCall.keep, ?_⟩
      obtain ⟨h1, tk, rfl, hk⟩ := z.done
      refine kla_codeExpr ?_
      have hm : bindL (newEnv scope s.heap.objs.size mainGlobals (cellsFrom (s.heap.objs.size + 1) scope.names []) (q ++ ".<locals>.") (some f) (.ref c') none builtinsNs).kindOf [(x, Value.ref t)] (fun _ => none) x = some (.ref t) :=
        L2.bindL_get (P := [x]) (vs := [.ref t]) (i := 0) (by simp) rfl rfl hl
      refine key_eval kd hl hd z.toInCall.ns hm (PyProof.Rows.IsTup.keeps ht hk) hmul hj hdiv fun tk2 tok => ?_
      exact ⟨_, rfl, h1, tk2, rfl, hk, Reads.int _ _⟩
  refine wpAny_call (codeAny_mono go fun r s' hq => ?_)
  obtain ⟨u, rfl, kp⟩ := hq
  exact kp
end
end Lm
end PySem

/-! sorted(d, key=lambda t: t[0] * n // t[1]) for a dict d with pairs of ints as keys -/
namespace LamX
open PySem PySem.Spec PyProof.Rows L2 PySem.W
/-- the key of an entry -/
def keyQ (n : Int) (g : List L2.Key → Int × Int) (k : List L2.Key) : Int := ((g k).1 * n).fdiv (g k).2
def KeyFit (n : Int) (g : List L2.Key → Int × Int) (k : List L2.Key) : Prop := k = [.inl (g k).1, .inl (g k).2] ∧ IntMulOk (g k).1 n ∧ (g k).2 ≠ 0 ∧ Builtin.divisionGoesByPylong ((g k).1 * n) (g k).2 = false
def tSorted (T : List (Addr × Str)) (i : Nat) (n : Int) : TE := fun σ H Q => ∃ (d : Addr) (kvs : List (List L2.Key × V)) (g : List L2.Key → Int × Int), σ[i]? = some (some (.ref d)) ∧ H d = some (.dT kvs) ∧ Tabs T H ∧ (∀ p ∈ kvs, KeyFit n g p.1) ∧
  ∀ (H1 : Hp) (l : Addr) (zs : List ((List L2.Key × V) × Addr)), ExtN H H1 → Tabs T H1 → H1 l = none → (zs.map (·.1)).Perm kvs → zs.Pairwise (fun x y => keyQ n g x.1.1 ≤ keyQ n g y.1.1) →
    (∀ z ∈ zs, H1 z.2 = some (.tup (z.1.1.map kV))) → Q (.ref l) (upd H1 l (.lst (zs.map fun z => V.ref z.2)))
theorem eachIs_get {α β : Type} {R : α → β → Prop} : ∀ {xs : List α} {ys : List β}, xs.length = ys.length → (∀ (j : Nat) (x : α) (y : β), xs[j]? = some x → ys[j]? = some y → R x y) → EachIs R xs ys
  | [], [], _, _ => .nil
  | [], _ :: _, h, _ => by simp at h
  | _ :: _, [], h, _ => by simp at h
  | x :: xs, y :: ys, h, g => .cons (g 0 x y rfl rfl) (eachIs_get (by simpa using h) fun j a b h1 h2 => g (j + 1) a b (by simpa using h1) (by simpa using h2))
theorem vals_each {ω : Type} (f : ω → Addr) : ∀ {vs : List Value} {zs : List ω}, EachIs (fun v z => v = Value.ref (f z)) vs zs → Vals (zs.map fun z => V.ref (f z)) vs
  | _, _, .nil => .nil
  | _, _, .cons h t => by
    subst h
    exact .cons rfl (vals_each f t)
theorem pget0 {α β : Type} {F : α → β → Prop} : ∀ {l₁ : List α} {l₂ : List β} {j : Nat} {x : β}, Paired F l₁ l₂ → l₂[j]? = some x → ∃ y, l₁[j]? = some y ∧ F y x
  | _, _, j, x, Paired.nil, h => by simp at h
  | _, _, 0, x, Paired.cons (a := y) f _, h => by
    simp only [List.getElem?_cons_zero] at h
    cases h
    exact ⟨y, rfl, f⟩
  | _, _, j + 1, x, Paired.cons _ t, h => by
    rw [List.getElem?_cons_succ] at h
    obtain ⟨y, h1, h2⟩ := pget0 (j := j) t h
    exact ⟨y, by rw [List.getElem?_cons_succ]; exact h1, h2⟩
section
variable {X : Cx}
theorem pe_sortedKT {T : List (Addr × Str)} {k i : Nat} {c P : Addr} {params : Arguments} {scope : Scope} {x y : Str} {n : Int} {k1 k2 k3 : Nat} {p1 p2 p3 p4 p5 p6 p7 p8 p9 p q kp lpos pos : Pos} (hr : Room k X.A) (hg : Gl X "sorted") (hm : X.mg "sorted" = none)
    (hN : X.N[i]? = some x) (hv : Vis X.env.scope x) (TB : TabB X.base X.mg c P) (hcode : X.env.code = .ref c) (hmT : (P, X.env.qual ++ "<lambda>") ∈ T) (hu : ∀ p ∈ T, p.1 = P → p.2 = X.env.qual ++ "<lambda>") (hdef : defaultsOf params X.env = ([], []))
    (hfree : ∀ y ∈ scope.names, y.2 ≠ .free) (kd : scope.kind = .function) (co : scope.isCoroutine = false) (gn : scope.isGenerator = false) (hl : scope.names.lookup y = some .local) (hclo : cloFrom X.env.cells scope.names [] = [])
    (hbind : ∀ (q : Str) (pm cv ctv : Value) (t : Addr), bindArgs (PySem.W.kla_fn "<lambda>" q params (PySem.Lm.keyB y n k1 k2 k3 p1 p2 p3 p4 p5 p6 p7 p8 p9) scope [] pm cv ctv) ⟨[.ref t], []⟩ = pure [(y, .ref t)])
    (hd : (x == ("__debug__" : Str)) = false := by decide) (hcd : (x == ("__classdict__" : Str)) = false := by decide) (hdy : (y == ("__debug__" : Str)) = false := by decide) :
    PE X (.Call (.Name "sorted" p) [.Name x q] [⟨some "key", .Lambda params (PySem.Lm.keyB y n k1 k2 k3 p1 p2 p3 p4 p5 p6 p7 p8 p9) scope lpos, kp⟩] pos) (tSorted T i n) := by
  refine ⟨fun pins s σ H Q I h => ?_⟩
  obtain ⟨d, kvs, g, hs, hdd, hT, hfit, hq⟩ := h
  refine wpAny_Call_Name_kw (ld_blt I hg hm rfl ?_)
  refine callWith_kw (e := .Name x q) (rest := []) (kws := [⟨some "key", .Lambda params (PySem.Lm.keyB y n k1 k2 k3 p1 p2 p3 p4 p5 p6 p7 p8 p9) scope lpos, kp⟩]) ?_
  show wpAny _ _ (spliced ((false, eval (.Name x q) X.env) :: backTo pos (starEach [] X.env))) _ _ s
  refine Calls.spliced_cons (thn ((pe_var (pos := q) (i := i) hN hv hd hcd).run pins s σ H (fun v H1 => v = .ref d ∧ H1 = H) I ⟨.ref d, hs, rfl, rfl⟩) fun u s1 ⟨v, H1, I1, r1, e1, e2⟩ => ?_)
  subst e1
  rw [e2] at I1
  obtain rfl : u = Value.ref d := r1
  refine Calls.spliced_nil ?_
  refine kws_cons (lam_make2 I1 TB hcode hmT hu hT hdef (fun y hy e => absurd e (hfree y hy)) fun f c' pm ctv H2 s2 I2 eN T2 hf hfn hfr hco => kws_nil ?_)
  show wpAny (model X.prog X.w) X.A (call (.builtin "sorted") [.ref d] [(Str.ofString "key", .ref f)]) _ _ s2
  have hd2 : H2 d = some (.dT kvs) := eN d _ hdd (fun ps z => nomatch z)
  obtain ⟨z, hsm, ks, pr, o, es, ep, ho, hx, hdt, he, hn⟩ := (show ObjOk X.prog X.w H2 s2.heap d (.dT kvs) from I2.hok d _ hd2)
  have l1 : es.size = ks.length := size_of_entries he
  have l2 : kvs.length = ks.length := Paired.length pr
  have hh : X.A.handled = none := hr.hd
  refine call_function_entry_kw kind_sorted plain_sorted entry_sorted (ksk_s1 _ _) ?_
  unfold Builtin.«sorted»
  refine wpAny_bind (m := checkCount "sorted" 1 1 _) (wpAny_pure ?_)
  refine wpAny_bind (kdu_collect (A := X.A.in1) (kdl_raw hsm hx hdt) hh ho (by omega) fun h' tk acc kp' it => ?_)
  have ea : acc.toList = ks.map fun x => Value.ref x.2.1 := by
    have hl : acc.toList.length = ks.length := by rw [Array.length_toList, it.1]; exact l1
    apply List.ext_getElem?
    intro j
    rw [List.getElem?_map]
    cases hj : acc.toList[j]? with
    | none =>
      have h1 := List.getElem?_eq_none_iff.mp hj
      rw [List.getElem?_eq_none (by omega)]
      all_goals rfl
    | some v =>
      obtain ⟨en, hen, hv⟩ := it.2 j v (by rw [← Array.getElem?_toList]; exact hj)
      have qe := entry_at he j
      rw [hen] at qe
      cases hb : ks[j]? with
      | none =>
        rw [hb] at qe
        exact nomatch (show some en = none from qe)
      | some b =>
        rw [hb] at qe
        have e2 : en = entryOfKey (tupleKind (mixKind X.prog X.w)) b := Option.some.inj qe
        rw [hv, e2]
        all_goals rfl
  have la : acc.toList.length = kvs.length := by rw [ea, List.length_map]; exact l2.symm
  refine wpAny_bind (wpAny_newList ?_ (by rw [la]; omega))
  refine wpAny_bind (wpAny_holding ?_)
  have hob : (h'.push { cls := .type "list", data := .seq acc.toList.toArray }).get? h'.objs.size = some (seqObj "list" acc.toList.toArray 0) := Heap.get?_push_size _ rfl
  have kb : ∀ b o, s2.heap.get? b = some o → (h'.push { cls := .type "list", data := .seq acc.toList.toArray }).get? b = some o := fun b o e => Heap.get?_push_of_some _ (kp' b o e)
  have old : s2.heap.get? h'.objs.size = none := by
    cases e : s2.heap.get? h'.objs.size with
    | none => rfl
    | some o => exact absurd (Heap.lt_size (kp' _ _ e)) (Nat.lt_irrefl _)
  have hn0 : H2 h'.objs.size = none := I2.hok.gone old
  have nsz : ∀ b o, s2.heap.get? b = some o → b ≠ h'.objs.size := fun b o e q => by rw [q, old] at e; cases e
  generalize hh2 : h'.push { cls := .type "list", data := .seq acc.toList.toArray } = h2 at hob kb ⊢
  have pget : ∀ (j : Nat) (v : Value) (e : (List L2.Key × V) × Addr), acc.toList[j]? = some v → (kvs.zip (ks.map fun x => x.2.1))[j]? = some e → v = .ref e.2 ∧ e.1 ∈ kvs ∧ H2 e.2 = some (.tup (e.1.1.map kV)) := by
    intro j v e hv he'
    obtain ⟨h1, h3⟩ := List.getElem?_zip_eq_some.mp he'
    rw [List.getElem?_map] at h3
    cases hb : ks[j]? with
    | none => rw [hb] at h3; exact nomatch (show (none : Option Addr) = some e.2 from h3)
    | some b =>
      rw [hb] at h3
      have e3 : b.2.1 = e.2 := Option.some.inj h3
      rw [ea, List.getElem?_map, hb] at hv
      have e4 : Value.ref b.2.1 = v := Option.some.inj hv
      obtain ⟨p0, hp0, r1, r2, r3⟩ := pget0 pr hb
      rw [h1] at hp0
      cases hp0
      exact ⟨by rw [← e4, e3], List.mem_of_getElem? h1, by rw [← e3]; exact r2⟩
  have lz : (kvs.zip (ks.map fun x => x.2.1)).length = kvs.length := by rw [List.length_zip, List.length_map, ← l2, Nat.min_self]
  have each : EachIs (fun (v : Value) (e : (List L2.Key × V) × Addr) => v = .ref e.2 ∧ e.1 ∈ kvs ∧ H2 e.2 = some (.tup (e.1.1.map kV))) acc.toList (kvs.zip (ks.map fun x => x.2.1)) := eachIs_get (by rw [la, lz]) pget
  have hdpth : X.A.in1.in1.depth < recursionLimit := by
    have := hr.dp
    show X.A.depth < _
    omega
  have hun := hr.un
  refine list_sort_key_data (A := X.A.in1) (s := { s2 with heap := h2, toks := tk }) (a := h'.objs.size) (n := 0) (f := .ref f) (b := false) (fun e : (List L2.Key × V) × Addr => PyData.int (keyQ n g e.1.1)) hob each
    (AllAlike.of fun _ _ => rfl) (Sortable.others fun _ => ⟨by simp, by simp⟩) (by rw [lz]; omega) (fun e he => ?_) (ksk_l1 _ _) (ksk_t1 _ _) (fun v e hR hmem h3 tk3 kp3 => ?_) (fun out cc h3 tk3 kp3 hD hlen hE => ?_)
  · show X.A.units + 1 + 1 + 0 < cLine
    omega
  · obtain ⟨rfl, hk, ht⟩ := hR
    obtain ⟨f1, f2, f3, f4⟩ := hfit e.1 hk
    have kk : ∀ b o, s2.heap.get? b = some o → h3.get? b = some o := fun b o e => kp3 b o (nsz b o e) (kb b o e)
    obtain ⟨⟨oc, vs, t, hoc, hdc, hvc⟩, _, _⟩ := I2.hok c' _ hco
    obtain ⟨_, its, rv, ot, hot, hct, nt, hdt'⟩ := (show ObjOk X.prog X.w H2 s2.heap e.2 (.tup (e.1.1.map kV)) from I2.hok _ _ ht)
    rw [f1] at rv
    cases rv with
    | cons ra rb =>
      cases rb with
      | cons rc rd =>
        cases rd
        obtain ⟨t1, rfl⟩ := ra
        obtain ⟨t2, rfl⟩ := rc
        refine PySem.Lm.lam_call (s := { s2 with heap := h3, toks := tk3 }) (c' := c') (q := X.env.qual ++ "<lambda>") hdpth (by rw [← hclo]; exact kk _ _ hf) ⟨c', oc, vs, t, rfl, kk _ _ hoc, hdc, hvc⟩ (I2.nolimit.keeps kk) kd co gn hl hdy (hbind _ _ _ _ _) ⟨ot, kk _ _ hot, hct, nt, hdt'⟩ f2 f3 f4
  · refine wpAny_pure ⟨_, rfl, ?_⟩
    rw [dataLe_int (fun e : (List L2.Key × V) × Addr => keyQ n g e.1.1)] at hE
    generalize hzs : (kvs.zip (ks.map fun x => x.2.1)).mergeSort (fun a b => decide (keyQ n g a.1.1 ≤ keyQ n g b.1.1)) = zs at hE
    have hperm : zs.Perm (kvs.zip (ks.map fun x => x.2.1)) := by rw [← hzs]; exact List.mergeSort_perm _ _
    have hsort : zs.Pairwise (fun a b => keyQ n g a.1.1 ≤ keyQ n g b.1.1) := by
      have q := List.pairwise_mergeSort (le := fun a b : (List L2.Key × V) × Addr => decide (keyQ n g a.1.1 ≤ keyQ n g b.1.1)) (fun a b c h1 h2 => by simp only [decide_eq_true_eq] at *; omega) (fun a b => by simp only [Bool.or_eq_true, decide_eq_true_eq]; omega) (kvs.zip (ks.map fun x => x.2.1))
      rw [hzs] at q
      exact q.imp fun h => of_decide_eq_true h
    have m1 : (kvs.zip (ks.map fun x => x.2.1)).map (·.1) = kvs := List.map_fst_zip (by rw [List.length_map]; omega)
    have kk : ∀ b o, s2.heap.get? b = some o → h3.get? b = some o := fun b o e => kp3 b o (nsz b o e) (kb b o e)
    have rv : Vals (zs.map fun z => V.ref z.2) out := vals_each (·.2) (hE.mono fun v z q => q.1)
    refine ⟨.ref h'.objs.size, _, I2.laidN (t' := tk3) (o := .lst (zs.map fun z => V.ref z.2)) kk old hn0 ?_, rfl, hq H2 h'.objs.size zs eN T2 hn0 ?_ hsort fun z hz => ?_⟩
    · have hz : (zs.map fun z => V.ref z.2).length ≤ sizeLine := by rw [List.length_map, hperm.length_eq, lz]; omega
      exact ⟨hz, out, cc, rv, hD⟩
    · have q := hperm.map (·.1)
      rw [m1] at q
      exact q
    · obtain ⟨j, hj⟩ := List.mem_iff_getElem?.mp (hperm.mem_iff.mp hz)
      have hj' := (List.getElem?_eq_some_iff.mp hj).1
      have hlt : j < acc.toList.length := by rw [la]; rw [lz] at hj'; exact hj'
      exact (pget j _ z (List.getElem?_eq_getElem hlt) hj).2.2
end
end LamX

/-! sorted(xs, key=f), f a def that tells t[0] * n // t[1] -/
namespace L2
open PySem PySem.Spec PyProof.Rows PySem.W PySem.Lm LamX
/-- such a def: what was there stays, the int is told -/
def KyOk (P : Program) (w : World) (K : PySem.W.Frag) (n : Int) (f : Addr) : Prop := ∀ (A : Around) (s : Shared) (t : Addr) (i j : Int) (ti tj : Tok), A.depth < recursionLimit → K.In s.heap → s.heap.NoLimit → PyProof.Rows.IsTup s.heap t #[.int i ti, .int j tj] → IntMulOk i n → j ≠ 0 → Builtin.divisionGoesByPylong (i * n) j = false →
  wpAny (model P w) A (call (.ref f) [.ref t]) (KeyPure (.int ((i * n).fdiv j)) s) (fun _ _ => False) s
theorem Fun.key {P : Program} {w : World} {K : PySem.W.Frag} {x qual y : Str} {st : Stmt} {f : Addr} {fd : FuncData} {N : List Str} {n : Int} {k1 k2 k3 : Nat} {p1 p2 p3 p4 p5 p6 p7 p8 p9 p10 : Pos} (F : Fun K x qual st f fd) (S : FnScope N [y] (defScope st))
    (hb : defBody st = [.Return (some (keyB y n k1 k2 k3 p1 p2 p3 p4 p5 p6 p7 p8 p9)) p10]) (hl : (defScope st).names.lookup y = some .local) (bd : Binds K fd [y] []) (hd : (y == ("__debug__" : Str)) = false := by decide) : KyOk P w K n f := by
  intro A s t i j ti tj dp KX lim ht hmul hj hdiv
  obtain ⟨oc, od, kV, doc, pm, an, cdv, ct, osl, rfl, lk, hcd⟩ := F.ex
  have go : codeAny (model P w) A (.call (.ref f) ⟨[.ref t], []⟩) (fun r s' => ∃ u, r = .ok (.ret u) ∧ KeyPure (.int ((i * n).fdiv j)) s u s') s := by
    refine codeAny_call_function dp (KX _ _ lk) rfl S.co S.gen rfl (PySem.W.codeRec_of KX hcd) (bd s [.ref t] KX rfl _ _ _ _ ?_)
    refine wpAny_newFunctionEnv_cells S.kind (fun z hz => ?_) fun env he s1 z => ?_
    · have : z = (y, Value.ref t) := List.mem_singleton.mp hz
      rw [this]
      exact .inl hl
    · subst he
      refine ⟨lim.keeps z.toInCall.keep, codeAny_func ?_⟩
      obtain ⟨h1, tk, rfl, hk⟩ := z.done
      have ns := z.toInCall.ns
      have hm : bindL (newEnv (defScope st) s.heap.objs.size mainGlobals (cellsFrom (s.heap.objs.size + 1) (defScope st).names []) (qual ++ ".<locals>.") (some f) cdv none builtinsNs).kindOf [(y, Value.ref t)] (fun _ => none) y = some (.ref t) :=
        L2.bindL_get (P := [y]) (vs := [.ref t]) (i := 0) (by simp) rfl rfl hl
      show wpAny _ _ (execs (defBody st) _) _ _ _
      rw [hb]
      refine wpAny_execs_cons (wpAny_Return_some ?_)
      refine key_eval S.kind hl hd ns hm (PyProof.Rows.IsTup.keeps ht hk) hmul hj hdiv fun tk2 tok => ?_
      exact ⟨_, rfl, h1, tk2, rfl, hk, Reads.int _ _⟩
  refine wpAny_call (codeAny_mono go fun r s' hq => ?_)
  obtain ⟨u, rfl, kp⟩ := hq
  exact kp
/-- what sorted by such a key tells -/
def rSortedF (K : PySem.W.Frag) (n : Int) (f : Addr) : List V → List V → Hp → VK → Prop := fun vs zs H Q => ∃ (a : Addr) (xs : List V) (g : V → Int × Int), vs = [.ref a] ∧ zs = [.ref f] ∧ SqL K H a xs ∧
  (∀ x ∈ xs, ∃ t, x = .ref t ∧ H t = some (.tup [.int (g x).1, .int (g x).2]) ∧ IntMulOk (g x).1 n ∧ (g x).2 ≠ 0 ∧ Builtin.divisionGoesByPylong ((g x).1 * n) (g x).2 = false) ∧
  ∀ (p : Addr) (ys : List V), H p = none → ys.Perm xs → ys.Pairwise (fun x y => ((g x).1 * n).fdiv (g x).2 ≤ ((g y).1 * n).fdiv (g y).2) → Q (.ref p) (upd H p (.lst ys))
theorem vals_of {ω : Type} {f : ω → V} : ∀ {vs : List Value} {zs : List ω}, EachIs (fun v z => RelV (f z) v) vs zs → Vals (zs.map f) vs
  | _, _, .nil => .nil
  | _, _, .cons h t => .cons h (vals_of t)
theorem each_of {xs : List V} {vs : List Value} (h : Vals xs vs) : EachIs (fun v x => RelV x v) vs xs := by
  induction h with
  | nil => exact .nil
  | cons a _ ih => exact .cons a ih
theorem cr_sortedF {X : Cx} {n : Int} {k : Nat} {f : Addr} (ky : KyOk X.prog X.w X.K n f) (hr : Room k X.A) : CallRK X (.builtin "sorted") [Str.ofString "key"] (rSortedF X.K n f) := by
  intro pins s σ H vs zs us ws Q I r rz h
  obtain ⟨a, xs, g, rfl, rfl, hs, hx, q⟩ := h
  obtain rfl := Vals.ref1 r
  obtain ⟨w1, rfl, e1⟩ := vals1 rz
  obtain rfl : w1 = Value.ref f := e1
  obtain ⟨its, rv, hl, hz⟩ := I.list hs
  have each := each_of rv
  have hdpth : X.A.in1.in1.depth < recursionLimit := by
    have := hr.dp
    show X.A.depth < _
    omega
  have hun := hr.un
  show wpAny _ _ (call (.builtin "sorted") [.ref a] [(Str.ofString "key", .ref f)]) _ _ _
  have hl' : s.heap.IsList a its.toArray := hl.isList
  refine sorted_key_data (f := .ref f) (b := false) (fun x : V => PyData.int (((g x).1 * n).fdiv (g x).2)) hl' each (AllAlike.of fun _ _ => rfl) (Sortable.others fun _ => ⟨by simp, by simp⟩) hz (fun e he => ?_) (ksk_s1 _ _) (fun x => ksk_l1 _ _) (fun x => ksk_t1 _ _) (fun v x hR hmem h3 tk3 kp3 => ?_) (fun out c h' tk kp fresh hD hlen hE => ?_)
  · show X.A.units + 2 + 0 < cLine
    omega
  · obtain ⟨t, rfl, ht, m1, m2, m3⟩ := hx x hmem
    obtain rfl : v = Value.ref t := hR
    obtain ⟨_, its', rv', ot, hot, hct, nt, hdt'⟩ := (show ObjOk X.prog X.w H s.heap t (.tup _) from I.hok _ _ ht)
    cases rv' with
    | cons ra rb =>
      cases rb with
      | cons rc rd =>
        cases rd
        obtain ⟨t1, rfl⟩ := ra
        obtain ⟨t2, rfl⟩ := rc
        exact ky _ { s with heap := h3, toks := tk3 } t _ _ t1 t2 hdpth (I.kIn.keeps kp3) (I.nolimit.keeps kp3) ⟨ot, kp3 _ _ hot, hct, nt, hdt'⟩ m1 m2 m3
  · rw [dataLe_int (fun x : V => ((g x).1 * n).fdiv (g x).2)] at hE
    generalize hzs : xs.mergeSort (fun a b => decide (((g a).1 * n).fdiv (g a).2 ≤ ((g b).1 * n).fdiv (g b).2)) = zs at hE
    have hperm : zs.Perm xs := by rw [← hzs]; exact List.mergeSort_perm _ _
    have hsort : zs.Pairwise (fun a b => ((g a).1 * n).fdiv (g a).2 ≤ ((g b).1 * n).fdiv (g b).2) := by
      have q := List.pairwise_mergeSort (le := fun a b : V => decide (((g a).1 * n).fdiv (g a).2 ≤ ((g b).1 * n).fdiv (g b).2)) (fun a b c h1 h2 => by simp only [decide_eq_true_eq] at *; omega) (fun a b => by simp only [Bool.or_eq_true, decide_eq_true_eq]; omega) xs
      rw [hzs] at q
      exact q.imp fun h => of_decide_eq_true h
    have rvz : Vals zs out := by
      have := vals_of (f := fun x : V => x) hE
      rwa [List.map_id'] at this
    have hn0 : H (s.heap.objs.size + 1) = none := I.hok.gone fresh
    refine ⟨.ref (s.heap.objs.size + 1), _, I.laidN (t' := tk) (o := .lst zs) kp fresh hn0 ?_, rfl, q _ zs hn0 hperm hsort⟩
    have hz' : zs.length ≤ sizeLine := by rw [hperm.length_eq]; exact hz
    exact ⟨hz', out, c, rvz, hD⟩
end L2

/-! a tuple times 0, 1 or more -/
namespace L2
open PySem PySem.Spec PyProof.Rows
theorem tuple_mul0 (l : Addr) (items : Array Value) (n : Nat) (dd : Option Addr) (sl : Array (Option Value)) (u : Tok) (c1 : (items.isEmpty || (0 : Int) == 1) = false) :
    Meets (Builtin.«tuple.__mul__» ⟨[.ref l, .int 0 u], []⟩) (fun _ R s => s.heap.get? l = some { cls := .type "tuple", dict := dd, data := .seq items n, slots := sl } ∧
      R (.ok (.ret (Value.ref s.heap.objs.size))) { s with heap := s.heap.push { cls := Value.type "tuple", data := Data.seq #[] }, toks := s.toks }) :=
  .of_wp fun prog w A R s h => by
    obtain ⟨hp, g, d, tk, os⟩ := s
    obtain ⟨hl, h⟩ := h
    have f1 := AutoSeq1.idx_int
    wp_walk using wpAny_loadPart' hl
    repeat (first
      | (refine wpAny_ite_false (decide_eq_false (by rw [c1]; exact Bool.false_ne_true)) ?_; wp_walk using wpAny_loadPart' hl)
      | (refine wpAny_ite_true (decide_eq_true (by simp)) ?_; wp_walk using wpAny_loadPart' hl)
      | (refine wpAny_ite_false (decide_eq_false (by simp)) ?_; wp_walk using wpAny_loadPart' hl))
    exact ⟨_, rfl, h⟩
theorem tuple_mul1 (l : Addr) (items : Array Value) (n : Nat) (dd : Option Addr) (sl : Array (Option Value)) (u : Tok) :
    Meets (Builtin.«tuple.__mul__» ⟨[.ref l, .int 1 u], []⟩) (fun _ R s => s.heap.get? l = some { cls := .type "tuple", dict := dd, data := .seq items n, slots := sl } ∧ R (.ok (.ret (Value.ref l))) s) :=
  .of_wp fun prog w A R s h => by
    obtain ⟨hp, g, d, tk, os⟩ := s
    obtain ⟨hl, h⟩ := h
    have f1 := AutoSeq1.idx_int
    wp_walk using wpAny_loadPart' hl
    exact ⟨_, rfl, h⟩
def rRepA (K : PySem.W.Frag) : R2 := fun x y H Q => ∃ l k xs, x = .ref l ∧ y = .int k ∧ SqT K H l xs ∧ xs ≠ [] ∧ 0 ≤ k ∧ k ≤ 1000 ∧ xs.length ≤ 1000 ∧ (k = 1 → Q (.ref l) H) ∧ (k ≠ 1 → ∀ p, H p = none → Q (.ref p) (upd H p (.tup (List.replicate k.toNat xs).flatten)))
section
variable {X : Cx}
theorem op_repA : OpR X (binaryOp .Mult) (rRepA X.K) := by
  intro pins s σ H x y v u Q I rx ry h
  obtain ⟨l, k, xs, rfl, rfl, hT, hne, h1, h2, hz, q1, q2⟩ := h
  rcases Int.lt_or_le k 2 with c | c
  · cases rx
    obtain ⟨t, rfl⟩ := ry
    obtain ⟨its, r, ⟨⟨cls, dd, data, sl⟩, ho, hc, n, hd⟩, hs⟩ := I.tuple hT
    simp only at hc hd
    subst hc hd
    have hle : its.length = xs.length := r.length.symm
    have hn : its ≠ [] := fun e => hne (by
      rw [e] at hle
      exact List.eq_nil_of_length_eq_zero hle.symm)
    have hi : its.toArray.isEmpty = false := by
      cases its with
      | nil => exact absurd rfl hn
      | cons a b => rfl
    have e : k = 0 ∨ k = 1 := by omega
    rcases e with rfl | rfl
    · refine wpAny_binaryOp_repeat_ref (T := "tuple") (U := "int") (by decide) ⟨_, ho, rfl⟩ (fun s' => typeIs_int s' 0 t) noFill_tuple_mul F.fills_int_mul F.slot_int_rmul repeat_tuple F.slot_int_index.lookup
        (call_meets F.slot_int_rmul (typeIs_int s 0 t) F.entry_int_rmul (F.args_int_rmul_2 _ _) (int_rmul_tuple 0 t l its.toArray n dd sl)
          ⟨ho, rfl, ⟨_, ho, rfl⟩, call_meets F.slot_tuple_mul ⟨_, ho, rfl⟩ F.entry_tuple_mul (F.args_tuple_mul_2 _ _) (tuple_mul0 l its.toArray n dd sl t (by rw [hi]; rfl)) ⟨ho, ?_⟩⟩)
      refine ⟨.ref s.heap.objs.size, _, I.laid (t' := s.toks) (o := .tup (List.replicate (0 : Int).toNat xs).flatten) (fun b ob q => Heap.get?_push_of_some _ q) (Nat.le_refl _) ?_, rfl, q2 (by decide) _ (I.hok.fresh (Nat.le_refl _))⟩
      exact ⟨Nat.zero_le _, [], .nil, IsTup.new _ _⟩
    · refine wpAny_binaryOp_repeat_ref (T := "tuple") (U := "int") (by decide) ⟨_, ho, rfl⟩ (fun s' => typeIs_int s' 1 t) noFill_tuple_mul F.fills_int_mul F.slot_int_rmul repeat_tuple F.slot_int_index.lookup
        (call_meets F.slot_int_rmul (typeIs_int s 1 t) F.entry_int_rmul (F.args_int_rmul_2 _ _) (int_rmul_tuple 1 t l its.toArray n dd sl)
          ⟨ho, rfl, ⟨_, ho, rfl⟩, call_meets F.slot_tuple_mul ⟨_, ho, rfl⟩ F.entry_tuple_mul (F.args_tuple_mul_2 _ _) (tuple_mul1 l its.toArray n dd sl t) ⟨ho, ?_⟩⟩)
      exact ⟨.ref l, H, I, rfl, q1 rfl⟩
  · exact op_repT pins s σ H _ _ v u Q I rx ry ⟨l, k, xs, rfl, rfl, hT, hne, c, h2, hz, fun p hp => q2 (by omega) p hp⟩
end
end L2

/-! the head of a law whose def nm makes a lambda: the table of nm's code object is tracked, empty at first -/
namespace L2
open PySem PySem.Spec PyProof.Rows LamX
theorem idle_lawT {P : Program} {w : World} {K : PySem.W.Frag} {mg mb : Str → Option Value} {k : Nat} {fa a c T : Addr} {fd : FuncData} {x : Str} {sp : Sp} {s1 : Shared} {vs : List Value} {ns : List Int}
    (inK : K.In s1.heap) (hn : s1.heap.Ns mainGlobals mg) (hb : s1.heap.Ns builtinsNs mb) (hm : ∀ y : Str, y ≠ "__name__" → mb y = bootBuiltins y) (lim : s1.heap.NoLimit) (hg : s1.gens = #[])
    (hT : s1.heap.get? T = some { cls := .none, data := .fields #[] }) (nT : K.lookup T = none) (C : PySem.W.CodeHd s1.heap c T)
    (hbm : ∃ (bm : Addr) (ob : Obj), mg "__builtins__" = some (.ref bm) ∧ bm ≠ builtinsNs ∧ s1.heap.get? bm = some ob ∧ ob.cls = .type "module" ∧ ob.dict = some builtinsNs ∧ ob.data = .plain)
    (sc : s1.heap.get? a = some { cls := .type "list", data := .seq vs.toArray }) (hi : IntsAre vs ns) (small : ns.length ≤ sizeLine) (room : Room k callerA)
    (mods : ∃ mm, s1.heap.Ns sysModules mm)
    (F : ∀ base : Heap, K.In base → base.Ns mainGlobals mg → Sy base → TabB base mg c T → FnG P w K mg base k fa fd [x] sp) (bnd : ∀ (s : Shared) (u : Value), BindsTo s fd ⟨[u], []⟩ [(x, u)])
    (prom : ∀ H : Hp, H T = some (.tbl #[]) → SqL K H a (ns.map V.int) → sp [.ref a] H (fun v _ => v = .bl true) E0) :
    codeAny (model P w) callerA (.call (.ref fa) ⟨[.ref a], []⟩) (fun r s' => r = .ok (.ret (.bool true)) ∧ OldK s1.heap s'.heap ∧ s'.os = s1.os ∧ AllBare s'.gens) s1 := by
  have rv := vals_ints hi
  have lv := hi.length
  have aT : a ≠ T := fun z => by
    rw [z, hT] at sc
    have z' : Data.fields #[] = Data.seq vs.toArray _ := congrArg Obj.data (Option.some.inj sc)
    cases z'
  have main : ∀ H : Hp, H T = some (.tbl #[]) → (∀ b, H b = none ∨ b = T ∨ ∃ o xs, H b = some (.frz o (.lst xs))) → SqL K H a (ns.map V.int) → HOk P w H s1.heap → (∀ b, H b ≠ none → b = a ∨ b = T) → (H a ≠ none → K.lookup a = none) →
      codeAny (model P w) callerA (.call (.ref fa) ⟨[.ref a], []⟩) (fun r s' => r = .ok (.ret (.bool true)) ∧ OldK s1.heap s'.heap ∧ s'.os = s1.os ∧ AllBare s'.gens) s1 := by
    intro H hH only sq hok just none_a
    have noD : ∀ {b : Addr} {o : Obj}, s1.heap.get? b = some o → (∀ vs n, o.data ≠ .seq vs n) → o.data ≠ .fields #[] → H b = none := fun {b o} e h1 h2 => by
      cases q : H b with
      | none => rfl
      | some u =>
        rcases just b (by rw [q]; simp) with e' | e'
        · rw [e', sc] at e
          cases e
          exact (h1 _ _ rfl).elim
        · rw [e', hT] at e
          cases e
          exact (h2 rfl).elim
    have noA : ∀ {b : Addr} {o : Obj} {es : Array DictEntry} {ep : Nat}, s1.heap.get? b = some o → o.data = .dict es ep → H b = none := fun {b o es ep} e d => by
      refine noD e (fun vs n z => ?_) fun z => ?_
      · rw [d] at z
        cases z
      · rw [d] at z
        cases z
    have ns_of : ∀ {b : Addr} {m : Str → Option Value}, s1.heap.Ns b m → (hidT s1.heap H).Ns b m := fun {b m} ⟨o, es, ep, e, d, r⟩ => ⟨o, es, ep, hidT_get e (noA e d), d, r⟩
    have k_of : K.In (hidT s1.heap H) := by
      intro b o e
      refine hidT_get (inK b o e) ?_
      cases q : H b with
      | none => rfl
      | some u =>
        rcases just b (by rw [q]; simp) with e' | e'
        · subst e'
          rw [none_a (by rw [q]; simp)] at e
          cases e
        · rw [e', nT] at e
          cases e
    have md : Mod K mg (hidT s1.heap H) := by
      obtain ⟨mc, l1, l2⟩ := lim
      exact ⟨k_of, ns_of hn, ⟨mb, ns_of hb, hm⟩, ⟨mc, ns_of l1, l2⟩⟩
    have TB : TabB (hidT s1.heap H) mg c T := by
      refine ⟨?_, ?_, fun z => ?_⟩
      · obtain ⟨o, us, file, tf, flags, tg, inF, text, tt, e1, r1, r2, r3, r4, r5, r6, r7, r8, hne⟩ := C
        refine ⟨o, us, file, tf, flags, tg, inF, text, tt, hidT_get e1 (noD e1 (fun vs n z => ?_) fun z => ?_), r1, r2, r3, r4, r5, r6, r7, r8, hne⟩
        · rw [r2] at z
          cases z
        · rw [r2] at z
          cases z
          simp at r3
      · obtain ⟨bm, ob, b1, b2, b3, b4, b5, b6⟩ := hbm
        have nG : bm ≠ mainGlobals := fun q => by
          obtain ⟨o, es, ep, e, hd, _⟩ := hn
          rw [q, e] at b3
          cases b3
          rw [hd] at b6
          cases b6
        have nP : bm ≠ T := fun q => by
          rw [q, hT] at b3
          cases b3
          cases b6
        refine ⟨bm, ob, b1, b2, nG, nP, hidT_get b3 (noD b3 (fun vs n z => ?_) fun z => ?_), b4, b5, b6⟩
        · rw [b6] at z
          cases z
        · rw [b6] at z
          cases z
      · obtain ⟨o, es, ep, e, hd, _⟩ := hn
        rw [z, hT] at e
        cases e
        cases hd
    have e0 : Env0 P w K mg (hidT s1.heap H) callerA [] s1 H :=
      { frames := rfl, mod := md, bs := fun b o e => of_hidT e, bsz := Nat.le_of_eq (hidT_size _ _), funs := trivial, frf := fun b hb => (List.not_mem_nil (show b ∈ ([] : List Addr) from hb)).elim, hok := hok, bare := .of_eq hg }
    have sy : Sy (hidT s1.heap H) := by
      obtain ⟨mm, hm⟩ := mods
      obtain ⟨o, es, ep, e, _⟩ := ns_of hm
      exact ⟨o, e⟩
    have go := (F _ k_of (ns_of hn) sy TB).run callerA [] s1 H ⟨[.ref a], []⟩ [.ref a] [.ref a] _ room rfl e0 (bnd s1 (.ref a)) (.cons rfl .nil) (prom H hH sq)
    refine codeAny_mono go fun r s' out => ?_
    cases r with
    | error e => exact False.elim out
    | ok fl =>
      cases fl with
      | next => exact False.elim out
      | brk => exact False.elim out
      | cont => exact False.elim out
      | ret u =>
        obtain ⟨v, H', os, bare, un, hok', rel, ev⟩ := out
        cases (show v = .bl true from ev)
        cases (show u = Value.bool true from rel)
        have key : ∀ b o, b ≠ T → s1.heap.get? b = some o → s'.heap.get? b = some o := fun b o nb e => by
          cases q : H b with
          | none => exact un.keep b o e q (fun z => List.not_mem_nil (show b ∈ ([] : List Addr) from z)) (by simp)
          | some u =>
            rcases only b with z | z | ⟨ob, xs, z⟩
            · rw [q] at z; cases z
            · exact absurd z nb
            · obtain ⟨e1, _⟩ := hok b _ z
              obtain ⟨e2, _⟩ := hok' b _ (un.frzs b ob _ z)
              rw [e] at e1; cases e1
              exact e2
        obtain ⟨more, hmore⟩ : ∃ more : Array Value, s'.heap.get? T = some { cls := .none, data := .fields more } := by
          obtain ⟨more, z⟩ := un.tbls T #[] hH
          exact ⟨_, hok' T _ z⟩
        refine ⟨rfl, ⟨fun b o e => ?_, fun b o e => ?_⟩, os, bare⟩
        · by_cases hb : b = T
          · rw [hb] at e ⊢
            rw [hT] at e
            cases e
            exact .inr (.inl ⟨(C.tab hT).isCodeTable, rfl, #[], more, rfl, by rw [Array.empty_append]; exact hmore⟩)
          · exact .inl (key b o hb e)
        · by_cases hb : b = T
          · rw [hb]
            exact ⟨_, hmore⟩
          · exact ⟨o, key b o hb e⟩
  cases hk : K.lookup a with
  | some o =>
    have e := inK a o hk
    rw [sc] at e
    cases e
    refine main (fun b => if b = T then some (.tbl #[]) else none) (if_pos rfl) (fun b => ?_) (.inr ⟨_, vs.toArray, _, hk, rfl, rfl, rfl, by rw [List.size_toArray, lv]; exact small, by simpa using rv⟩) (fun b u z => ?_) (fun b z => ?_) fun z => absurd (show (if a = T then some (HO.tbl #[]) else none) = none from if_neg aT) z
    · by_cases hb : b = T
      · exact .inr (.inl hb)
      · exact .inl (if_neg hb)
    · by_cases hb : b = T
      · have z' := (if_pos hb).symm.trans z
        cases z'
        rw [hb]
        exact hT
      · have z' := (if_neg hb).symm.trans z
        cases z'
    · by_cases hb : b = T
      · exact .inr hb
      · exact absurd (if_neg hb) z
  | none =>
    refine main (fun b => if b = a then some (.frz { cls := .type "list", data := .seq vs.toArray } (.lst (ns.map V.int))) else if b = T then some (.tbl #[]) else none) ((if_neg (Ne.symm aT)).trans (if_pos rfl)) (fun b => ?_)
      (.inl (.inr ⟨{ cls := .type "list", data := .seq vs.toArray }, if_pos rfl⟩)) (fun b u z => ?_) (fun b z => ?_) fun _ => hk
    · by_cases hb : b = a
      · exact .inr (.inr ⟨_, _, if_pos hb⟩)
      · by_cases hb2 : b = T
        · exact .inr (.inl hb2)
        · exact .inl ((if_neg hb).trans (if_neg hb2))
    · by_cases hb : b = a
      · have z' := (if_pos hb).symm.trans z
        cases z'
        rw [hb]
        exact ⟨sc, by rw [List.length_map]; exact small, vs, _, rv, sc⟩
      · have z1 := (if_neg hb).symm.trans z
        by_cases hb2 : b = T
        · have z' := (if_pos hb2).symm.trans z1
          cases z'
          rw [hb2]
          exact hT
        · have z' := (if_neg hb2).symm.trans z1
          cases z'
    · by_cases hb : b = a
      · exact .inl hb
      · by_cases hb2 : b = T
        · exact .inr hb2
        · exact absurd ((if_neg hb).trans (if_neg hb2)) z
/-- the table of the code object of the def nm -/
def tabOf (K : PySem.W.Frag) (nm : Str) : Addr := ((PySem.W.tabIn K nm).getD (0, 0)).2
theorem walk_idleT {l : PySem.W.OpenLaw} {n k : Nat} {q : Program} {loose : List Str} {XP : (Str → Option Value) → Heap → Prop} {YP : World → Heap → Prop} {d : DefRec} {K : Params → PySem.W.Frag} {sp : World → Sp} {x : Str} (nm : Str)
    (hn : l.most = some n) (small : n ≤ sizeLine) (hd : d.params.defaults = []) (hq : importsNone q = true) (room : Room k callerA) (hY : ∀ (w : World) (h : Heap), YP w h → (K w.params).In h)
    (hrec : ((recsOf q).find? (fun e => e.name == nm)).isSome = true)
    (F : ∀ (w : World) (mg : Str → Option Value) (fa : Addr) (h : Heap), (K w.params).In h → h.Ns mainGlobals mg → mg d.name = some (.ref fa) →
      ∃ (fd : FuncData) (c : Addr), (PySem.W.tabIn (K w.params) nm = some (c, tabOf (K w.params) nm) ∧ (K w.params).lookup (tabOf (K w.params) nm) = none) ∧ (∀ (s : Shared) (u : Value), BindsTo s fd ⟨[u], []⟩ [(x, u)]) ∧
        ∀ base : Heap, (K w.params).In base → base.Ns mainGlobals mg → Sy base → TabB base mg c (tabOf (K w.params) nm) → FnG l.prog w (K w.params) mg base k fa fd [x] (sp w))
    (prom : ∀ (w : World) (H : Hp) (a : Addr) (ns : List Int), ns.length ≤ n → H (tabOf (K w.params) nm) = some (.tbl #[]) → SqL (K w.params) H a (ns.map V.int) → sp w [.ref a] H (fun v _ => v = .bl true) E0) :
    PySem.W.WalkO q loose XP YP l.row.toRowW d [] (fun f vs => PySem.call f vs) := by
  refine Att.attach_call hn hd fun w s0 s1 mg mb fa o pm cd doc a vs ns G Y ho hd hcd hmg hobj hints hlen hg => ?_
  have inK := hY w _ Y
  obtain ⟨fd, c, ⟨ht, nT⟩, hb, hF⟩ := F w mg fa _ inK G.T.g hmg
  obtain ⟨d', hr⟩ := Option.isSome_iff_exists.mp hrec
  obtain ⟨C, hT⟩ := PySem.W.tab_of G.T inK hr ht
  exact idle_lawT inK G.T.g G.T.b G.T.builtins G.T.nolimit hg hT nT C G.T.bmain hobj hints (Nat.le_trans hlen small) room (let ⟨mm, h1, _⟩ := (G.T.seer hq).mods; ⟨mm, h1⟩) hF hb (fun H hH hS => prom w H a ns hlen hH hS)
end L2

namespace N3
open PySem PySem.Spec PyProof.Rows L2 N2
/-- all numbers of a quotient -/
def allN (q : Qt) : List Nm := (rowsOf q).flatten
def spNumbers : Sp := fun vs H Q _ => ∃ (v : V) (q : Qt), vs = [v] ∧ Dn H v (encQ q) ∧ (allN q).length ≤ 1000000 ∧ ∀ (l : Addr) (acc : List V) (H' : Hp), H' l = some (.lst acc) → DnAll H' acc ((allN q).map encN) → Same H H' → Q (.ref l) H'
def spPlain : Sp := fun vs H Q _ => ∃ (v : V) (q : Qt), vs = [v] ∧ Dn H v (encQ q) ∧ (allN q).length ≤ 1000000 ∧ ∀ (b : Bool) (H' : Hp), (b = true ↔ Plain q) → Same H H' → Q (.bl b) H'
/-- all d are small -/
def LowD (q : Qt) : Prop := ∀ n ∈ allN q, ∀ x ∈ n, x.1.natAbs ≤ 1000000
def spWithin : Sp := fun vs H Q _ => ∃ (v : V) (q : Qt), vs = [v] ∧ Dn H v (encQ q) ∧ (allN q).length ≤ 1000000 ∧ ∀ (b : Bool) (H' : Hp), (b = true → LowD q) → Same H H' → Q (.bl b) H'
theorem op_neDK {X : Cx} {K : PySem.W.Frag} (hK : X.K = K) (hu : X.A.units + 64 < cLine) : OpR X (compareOp .NotEq) (rNeD K) := by
  subst hK
  exact op_neD hu
theorem call_lenK {X : Cx} {K : PySem.W.Frag} (hK : X.K = K) : CallR X (.builtin "len") (fun xs H Q => ∃ x n, xs = [x] ∧ LenV K x H n ∧ Q (V.int ↑n) H) := by
  subst hK
  exact call_len
theorem DnAll.app {H : Hp} : ∀ {xs ys : List V} {ds es : List PyData}, DnAll H xs ds → DnAll H ys es → DnAll H (xs ++ ys) (ds ++ es)
  | _, _, _, _, .nil, h => h
  | _, _, _, _, .cons a r, h => .cons a (DnAll.app r h)
section
variable {K : PySem.W.Frag} {a D : Addr} {xs : List V} {ds : List PyData} {i : Nat} {te : TE} {tt : TT} {σ : L2.St} {H : Hp} {Qd : Hp → Prop}
/-- [1 for x in xs if not p(x)] -/
theorem lc_badL (p : PyData → Prop) (ea : H a = some (.lst xs)) (ra : DnAll H xs ds) (hl : ds.length ≤ 1000000) (hD : H D = none)
    (step : ∀ (j : Nat) (x : V) (d : PyData) (H' : Hp) (Q' : Bool → Hp → Prop), ds[j]? = some d → Dn H' x d → Same H H' → (∀ (b : Bool) (H2 : Hp), (b = true ↔ ¬ p d) → Same H' H2 → Q' b H2) → tt ((wipe σ [i]).set i (some x)) H' Q')
    (fin : ∀ (n : Nat) (H' : Hp), H' D = some (.lst ((ones n).map V.int)) → (n = 0 ↔ ∀ x ∈ ds, p x) → Same H H' → Qd H') :
    ∃ W : Nat → Nat → Hp → Prop, (∃ m, W 0 m (upd H D (.lst []))) ∧ ∀ i_1 m H, W i_1 m H →
      ((Itl K a).stop i_1 H ∧ Qd H) ∨ ((Itl K a).go i_1 H ∧ ∃ Nx : Hp → Prop, (∀ H', Nx H' → ∃ m', m' < m ∧ W (i_1 + 1) m' H') ∧ ∀ x H', (Itl K a).yld i_1 H x H' → gName i x (wipe σ [i]) H' fun σ2 H2 => wipe σ2 [i] = wipe σ [i] ∧ tt σ2 H2 fun b H3 =>
        if b = true then tC (.int 1) σ2 H3 fun y H4 => ∃ acc, H4 D = some (.lst acc) ∧ acc.length < sizeLine ∧ Nx (upd H4 D (.lst (acc ++ [y]))) else Nx H3) := by
  refine lc_list (K := K) (a := a) (xs := xs) (fun i H' => ∃ n : Nat, H' D = some (.lst ((ones n).map V.int)) ∧ n ≤ i ∧ (n = 0 ↔ ∀ j, j < i → ∀ d, ds[j]? = some d → p d) ∧ Same H H')
    ⟨0, upd_same, Nat.le_refl _, by simp, snew hD⟩ (fun i H' _ ⟨_, _, _, _, s'⟩ => SqL.of (s' _ _ ea)) ?_ ?_
  · rintro j x H' hx ⟨n, e1, e2, e3, s'⟩
    obtain ⟨d, ed, dn⟩ := ra.at_ hx
    have il : j < ds.length := (List.getElem?_eq_some_iff.mp ed).1
    refine ⟨wipe1, ?_⟩
    refine step j x d H' _ ed (Dn.mono s' d x dn) s' fun b H2 hb s2 => ?_
    refine ite_b (fun c => ?_) (fun c => ?_)
    · refine ⟨_, s2 _ _ e1, by rw [ones_len]; exact small_m (by omega), n + 1, by rw [ones_succ, upd_same], by omega, ?_, fun c o e => ?_⟩
      · refine none_step (p := fun j => ∀ d, ds[j]? = some d → p d) e3 ⟨fun z => by omega, fun z => absurd (z.2 d ed) (hb.mp c)⟩
      · rw [upd_ne (ne_of_none e hD)]
        exact s2 _ _ (s' _ _ e)
    · refine ⟨n, s2 _ _ e1, by omega, ?_, s'.trans s2⟩
      have pd : p d := by
        by_cases h : p d
        · exact h
        · have := hb.mpr h
          rw [c] at this
          cases this
      exact none_step (p := fun j => ∀ d, ds[j]? = some d → p d) e3 ⟨fun z => ⟨z, fun d' e' => by rw [ed] at e'; cases e'; exact pd⟩, fun z => z.1⟩
  · rintro H1 ⟨n, e1, e2, e3, s1⟩
    rw [ra.length] at e3
    exact fin n H1 e1 (e3.trans mem_idx) s1
end
end N3

namespace N3
open PySem PySem.Spec PyProof.Rows L2 N2
/-! ### parts of lists -/
theorem sqL_same {K : PySem.W.Frag} {H H' : Hp} {a : Addr} {xs : List V} (s : Same H H') (h : SqL K H a xs) : SqL K H' a xs := by
  rcases h with (h | ⟨o, h⟩) | h
  · exact .inl (.inl (s _ _ h))
  · exact .inl (.inr ⟨o, s _ _ h⟩)
  · exact .inr h
theorem cutTo (xs : List V) (m : Nat) (h : m ≤ xs.length) : cutV xs none (some (m : Int)) = xs.take m := by
  unfold cutV
  have e1 : HT.sIx xs.length 0 none = 0 := rfl
  have e2 : HT.sIx xs.length xs.length (some (m : Int)) = min m xs.length := HT.sIx_nat xs.length xs.length m
  rw [e1, e2, Nat.min_eq_left h]
  rfl
theorem dnAll_take {H : Hp} : ∀ {xs : List V} {ds : List PyData}, DnAll H xs ds → ∀ k, DnAll H (xs.take k) (ds.take k)
  | _, _, _, 0 => .nil
  | _, _, .nil, _ + 1 => .nil
  | _, _, .cons a r, k + 1 => .cons a (dnAll_take r k)
theorem deck_upd {H : Hp} {dk l f : Addr} {o : HO} (D : Deck H dk l) (h1 : f ≠ dk) (h2 : f ≠ l) : Deck (upd H f o) dk l := by
  obtain ⟨ns, m, j, z1, z2, z3⟩ := D
  exact ⟨ns, m, j, by rw [upd_ne (Ne.symm h1)]; exact z1, by rw [upd_ne (Ne.symm h2)]; exact z2, z3⟩
end N3

namespace N3
open PySem PySem.Spec PyProof.Rows L2 N2
theorem low_cut {x y : Int} {g : Nat} (eg : Nat.gcd x.natAbs y.natAbs = g) (g1 : 1 ≤ g) (hx : g ∣ x.natAbs) (hy : g ∣ y.natAbs) (y1 : 0 < y) : lowT (x / (g : Int)) (y / (g : Int)) = true := by
  obtain ⟨u, rfl⟩ := Int.ofNat_dvd_left.mpr hx
  obtain ⟨v, rfl⟩ := Int.ofNat_dvd_left.mpr hy
  have g0 : (g : Int) ≠ 0 := by omega
  unfold lowT
  rw [Int.mul_ediv_cancel_left _ g0, Int.mul_ediv_cancel_left _ g0, Bool.and_eq_true, decide_eq_true_iff, decide_eq_true_iff]
  refine ⟨?_, ?_⟩
  · have : 0 < v := Int.pos_of_mul_pos_right y1 (by omega)
    omega
  · rw [Int.natAbs_mul, Int.natAbs_mul, Int.natAbs_natCast, Nat.gcd_mul_left] at eg
    exact Nat.eq_of_mul_eq_mul_left (by omega : 0 < g) (by rw [eg, Nat.mul_one])
/-- a drawn pole -/
def SPl (pl : Pl) : Prop := pl.1.natAbs ≤ 20 ∧ 1 ≤ pl.2 ∧ pl.2 ≤ 20 ∧ CPl pl
def PlAt (H : Hp) (x : V) : Prop := ∃ (p : Addr) (pl : Pl), x = .ref p ∧ H p = some (.tup [.int pl.1, .int pl.2]) ∧ SPl pl
theorem PlAt.same {H H' : Hp} {x : V} (s : Same H H') (h : PlAt H x) : PlAt H' x := let ⟨p, pl, e, h, q⟩ := h; ⟨p, pl, e, s _ _ h, q⟩
/-- the key of a pole -/
def kyP (pl : Pl) : List L2.Key := [.inl pl.1, .inl pl.2]
theorem put_lenT {kvs : List (List L2.Key × V)} {k : List L2.Key} {v : V} : (putK kvs k v).length ≤ kvs.length + 1 := by
  unfold putK
  split
  · rw [List.length_map]; omega
  · rw [List.length_append]; show _ + 1 ≤ _; omega
theorem put_memT {kvs : List (List L2.Key × V)} {k : List L2.Key} {v : V} {q : List L2.Key × V} (h : q ∈ putK kvs k v) : q ∈ kvs ∨ (q.1 = k ∨ ∃ q' ∈ kvs, q = q') := by
  unfold putK at h
  split at h
  · obtain ⟨u, hu, e⟩ := List.mem_map.mp h
    by_cases c : u.1 = k
    · rw [if_pos c] at e
      exact .inr (.inl (by rw [← e]; exact c))
    · rw [if_neg c] at e
      exact .inl (e ▸ hu)
  · rcases List.mem_append.mp h with h | h
    · exact .inl h
    · rw [List.mem_singleton.mp h]
      exact .inr (.inl rfl)
theorem pl_add {H : Hp} {L : List V} {p : Addr} (a b : Int) (h : ∀ x ∈ L, PlAt H x) (hp : H p = none) (hs : SPl (a, b)) : ∀ x ∈ L ++ [.ref p], PlAt (upd H p (.tup [.int a, .int b])) x := by
  intro x hx
  rcases List.mem_append.mp hx with hx | hx
  · exact (h x hx).same (snew hp)
  · rw [List.mem_singleton.mp hx]
    exact ⟨p, (a, b), rfl, upd_same, hs⟩
theorem plAt_keep {H H' : Hp} {dk l : Addr} {x : V} (D : Deck H dk l) (k : Keep dk l H H') (h : PlAt H x) : PlAt H' x := by
  obtain ⟨p, pl, e, h, q⟩ := h
  have := of_off (deck_tup D h)
  exact ⟨p, pl, e, k _ _ h this.1 this.2.1, q⟩
end N3

namespace LamX
open PySem PySem.Spec PyProof.Rows L2 PySem.W
theorem pe_sortL {X : Cx} {k : Nat} {c P : Addr} {params : Arguments} {scope : Scope} {x y : Str} {n : Int} {k1 k2 k3 : Nat} {p1 p2 p3 p4 p5 p6 p7 p8 p9 p q kp lpos pos : Pos} (hr : Room k X.A) (hm : X.mg "sorted" = none) (TB : TabB X.base X.mg c P) (hcode : X.env.code = .ref c)
    (i : Nat) (hN : X.N[i]? = some x := by rfl) (hv : Vis X.env.scope x := by exact Or.inl rfl) (hg : Gl X "sorted" := by rfl) (hdef : defaultsOf params X.env = ([], []) := by rfl)
    (hfree : ∀ y ∈ scope.names, y.2 ≠ .free := by decide) (kd : scope.kind = .function := by rfl) (co : scope.isCoroutine = false := by rfl) (gn : scope.isGenerator = false := by rfl) (hl : scope.names.lookup y = some .local := by rfl) (hclo : cloFrom X.env.cells scope.names [] = [] := by rfl)
    (hbind : ∀ (q : Str) (pm cv ctv : Value) (t : Addr), bindArgs (PySem.W.kla_fn "<lambda>" q params (PySem.Lm.keyB y n k1 k2 k3 p1 p2 p3 p4 p5 p6 p7 p8 p9) scope [] pm cv ctv) ⟨[.ref t], []⟩ = pure [(y, .ref t)] := by intro _ _ _ _ _; rfl)
    (hd : (x == ("__debug__" : Str)) = false := by decide) (hcd : (x == ("__classdict__" : Str)) = false := by decide) (hdy : (y == ("__debug__" : Str)) = false := by decide) :
    PE X (.Call (.Name "sorted" p) [.Name x q] [⟨some "key", .Lambda params (PySem.Lm.keyB y n k1 k2 k3 p1 p2 p3 p4 p5 p6 p7 p8 p9) scope lpos, kp⟩] pos) (tSorted [(P, X.env.qual ++ "<lambda>")] i n) :=
  pe_sortedKT hr hg hm hN hv TB hcode (List.mem_singleton.mpr rfl) (fun p hp _ => by rw [List.mem_singleton.mp hp]) hdef hfree kd co gn hl hclo hbind hd hcd hdy
end LamX
namespace L2
open PySem PySem.Spec PyProof.Rows
/-- Fun.ok, the code object known -/
theorem Fun.okC {P : Program} {w : World} {K : PySem.W.Frag} {mg : Str → Option Value} {base : Heap} {x qual : Str} {st : Stmt} {f c : Addr} {fd : FuncData} {N ps : List Str} {k : Nat} {sp : Sp} (F : Fun K x qual st f fd) (hc : fd.code = .ref c) (S : FnScope N ps (defScope st)) (len : ∀ vs H Q E, sp vs H Q E → vs.length = ps.length)
    (hbody : ∀ (A : Around) (outer : List Env) (s : Shared) (H : Hp) (vs : List V) (Q : VK) (E : XK), Room k (A.deeper (envOfC qual (defScope st) s.heap.objs.size f (.ref c))) → sp vs H Q E →
      ∃ t, PSs (cxOf CX0 P w K mg base N qual (defScope st) f (.ref c) A outer s H E).nox (defBody st) t ∧ t { nx := fun _ H' => Q .non H', rt := Q } (start N vs) H) : FnOk P w K mg base CX0 (k + 1) f fd ps sp := by
  obtain ⟨oc, od, kV, doc, pm, an, cdv, ct, osl, rfl, lk, hcd⟩ := F.ex
  have e : cdv = .ref c := hc
  subst e
  refine fn_of lk hcd S len fun A outer s H vs Q E hr hsp => ?_
  obtain ⟨t, h, q⟩ := hbody A outer s H vs Q E hr hsp
  exact ⟨t, h.nox, q⟩
end L2
namespace N3
open PySem PySem.Spec PyProof.Rows L2 N2 LamX
abbrev tabL (c : Addr) : List (Addr × Str) := [(c, "_law_told.<locals>.<lambda>")]
mutual
theorem dn_ext {H H' : Hp} (e : ExtN H H') : ∀ (d : PyData) (v : V), Dn H v d → Dn H' v d
  | .none, _, h => by cases h; exact .non
  | .bool _, _, h => by cases h; exact .bl _
  | .int _, _, h => by cases h; exact .int _
  | .str _, _, h => by cases h; exact .str _
  | .list ds, _, h => by
    cases h with
    | lst e1 r => exact .lst (e _ _ e1 (fun _ z => nomatch z)) (dnA_ext e ds _ r)
  | .tuple ds, _, h => by
    cases h with
    | tup e1 r => exact .tup (e _ _ e1 (fun _ z => nomatch z)) (dnA_ext e ds _ r)
  | .dict ks, _, h => by
    cases h with
    | dct e1 r => exact .dct (e _ _ e1 (fun _ z => nomatch z)) (dnK_ext e ks _ r)
theorem dnA_ext {H H' : Hp} (e : ExtN H H') : ∀ (ds : List PyData) (xs : List V), DnAll H xs ds → DnAll H' xs ds
  | [], _, h => by cases h; exact .nil
  | d :: ds, _, h => by
    cases h with
    | cons h1 h2 => exact .cons (dn_ext e d _ h1) (dnA_ext e ds _ h2)
theorem dnK_ext {H H' : Hp} (e : ExtN H H') : ∀ (ds : List (PyData × PyData)) (vs : List (Key × V)), DnKv H vs ds → DnKv H' vs ds
  | [], _, q => by cases q; exact .nil
  | (_, d) :: ds, _, q => by
    cases q with
    | cons a b => exact .cons (dn_ext e d _ a) (dnK_ext e ds _ b)
end
/-- tuples stay -/
def TupS (H H' : Hp) : Prop := ∀ b xs, H b = some (.tup xs) → H' b = some (.tup xs)
theorem TupS.trans {H H1 H2 : Hp} (a : TupS H H1) (b : TupS H1 H2) : TupS H H2 := fun c xs e => b c xs (a c xs e)
theorem Same.tups {H H' : Hp} (s : Same H H') : TupS H H' := fun b xs e => s b _ e
theorem ext_tups {H H' : Hp} (s : ExtN H H') : TupS H H' := fun b xs e => s b _ e (fun _ z => nomatch z)
theorem keep_tups {H H' : Hp} {dk l : Addr} (D : Deck H dk l) (k : Keep dk l H H') : TupS H H' := fun b xs e => k b _ e (of_off (deck_tup D e)).1 (of_off (deck_tup D e)).2.1
theorem lst_tups {H : Hp} {a : Addr} {xs : List V} {o : HO} (e : H a = some (.lst xs)) : TupS H (upd H a o) := fun b ys h => by
  rw [upd_ne (ne_of h e (by intro z; cases z))]; exact h
mutual
theorem tn_tups {H H' : Hp} (e : TupS H H') : ∀ (d : PyData) (v : V), Tn d → Dn H v d → Dn H' v d
  | .int _, _, _, h => by cases h; exact .int _
  | .tuple ds, _, t, h => by
    cases t with
    | tup t =>
      cases h with
      | tup e1 r => exact .tup (e _ _ e1) (tnA_tups e ds _ t r)
  | .none, _, t, _ => by cases t
  | .bool _, _, t, _ => by cases t
  | .str _, _, t, _ => by cases t
  | .list _, _, t, _ => by cases t
  | .dict _, _, t, _ => by cases t
theorem tnA_tups {H H' : Hp} (e : TupS H H') : ∀ (ds : List PyData) (xs : List V), (∀ d ∈ ds, Tn d) → DnAll H xs ds → DnAll H' xs ds
  | [], _, _, h => by cases h; exact .nil
  | d :: ds, _, t, h => by
    cases h with
    | cons h1 h2 => exact .cons (tn_tups e d _ (t d List.mem_cons_self) h1) (tnA_tups e ds _ (fun x hx => t x (List.mem_cons_of_mem _ hx)) h2)
end
theorem tn_maps {α : Type} {enc : α → PyData} (h : ∀ x, Tn (enc x)) (l : List α) : ∀ d ∈ l.map enc, Tn d := fun d hd => by
  obtain ⟨x, _, rfl⟩ := List.mem_map.mp hd
  exact h x
/-- neither a table nor a code object -/
def NC (o : HO) : Prop := (∀ ps, o ≠ .tbl ps) ∧ ∀ φ, o ≠ .ext φ
theorem tabs_keep {T : List (Addr × Str)} {H H' : Hp} {dk l : Addr} (k : Keep dk l H H') (h1 : ∀ o, H dk = some o → NC o) (h2 : ∀ o, H l = some o → NC o) (t : Tabs T H) : Tabs T H' := fun p hp => by
  obtain ⟨ps, a1, a2, a3⟩ := t p hp
  have nt : ∀ b o, H b = some o → (∃ ps, o = .tbl ps) ∨ (∃ φ, o = .ext φ) → H' b = some o := fun b o e z => k b o e
    (fun q => by rw [q] at e; rcases z with ⟨ps, z⟩ | ⟨φ, z⟩; exact (h1 o e).1 ps z; exact (h1 o e).2 φ z)
    (fun q => by rw [q] at e; rcases z with ⟨ps, z⟩ | ⟨φ, z⟩; exact (h2 o e).1 ps z; exact (h2 o e).2 φ z)
  refine ⟨ps, nt _ _ a1 (.inl ⟨ps, rfl⟩), a2, fun pos cv hc => ?_⟩
  obtain ⟨c0, e1, e2⟩ := a3 pos cv hc
  exact ⟨c0, e1, nt _ _ e2 (.inr ⟨_, rfl⟩)⟩
theorem nc_lst (xs : List V) : NC (.lst xs) := ⟨fun _ z => (by cases z), fun _ z => (by cases z)⟩
theorem nc_dk (xs : List (Key × V)) : NC (.dK xs) := ⟨fun _ z => (by cases z), fun _ z => (by cases z)⟩
theorem nc_dt (xs : List (List Key × V)) : NC (.dT xs) := ⟨fun _ z => (by cases z), fun _ z => (by cases z)⟩
theorem tabs_deck {T : List (Addr × Str)} {H H' : Hp} {dk l : Addr} (D : Deck H dk l) (k : Keep dk l H H') (t : Tabs T H) : Tabs T H' := by
  obtain ⟨ns, m, j, z1, z2, _⟩ := D
  exact tabs_keep k (fun o e => by rw [z1] at e; cases e; exact nc_dk _) (fun o e => by rw [z2] at e; cases e; exact nc_lst _) t
theorem sqL_ext {K : PySem.W.Frag} {H H' : Hp} {a : Addr} {xs : List V} (s : ExtN H H') (h : SqL K H a xs) : SqL K H' a xs := by
  rcases h with (h | ⟨o, h⟩) | h
  · exact .inl (.inl (s _ _ h (fun _ z => nomatch z)))
  · exact .inl (.inr ⟨o, s _ _ h (fun _ z => nomatch z)⟩)
  · exact .inr h
theorem val_memT : ∀ {kvs : List (List L2.Key × V)} {k : List L2.Key}, k ∈ kvs.map (·.1) → ∃ v, valV kvs k = some v ∧ (k, v) ∈ kvs
  | [], k, h => by simp at h
  | p :: r, k, h => by
    by_cases c : p.1 = k
    · exact ⟨p.2, by cases p; cases c; exact valV_pos rfl, by rw [← c]; exact List.mem_cons_self⟩
    · obtain ⟨v, e, m⟩ := val_memT (kvs := r) ((List.mem_cons.mp h).elim (fun z => absurd z.symm c) id)
      exact ⟨v, by rw [valV_neg c]; exact e, List.mem_cons_of_mem _ m⟩
theorem kyP_inj {p q : Pl} (h : kyP p = kyP q) : p = q := by
  obtain ⟨a, b⟩ := p
  obtain ⟨a', b'⟩ := q
  injection h with h1 h
  injection h with h2 _
  injection h1 with h1
  injection h2 with h2
  exact Prod.ext h1 h2
theorem Same.extN {H H' : Hp} (s : Same H H') : ExtN H H' := ExtN.of s
theorem tabs_same {T : List (Addr × Str)} {H H' : Hp} (t : Tabs T H) (s : Same H H') : Tabs T H' := t.ext s
def gK : List L2.Key → Int × Int
  | [.inl a, .inl b] => (a, b)
  | _ => (0, 0)
theorem fit_pl {pl : Pl} (h : SPl pl) : KeyFit 232792560 gK (kyP pl) := by
  obtain ⟨h1, h2, h3, _⟩ := h
  refine ⟨rfl, CMul.ok (.inl ⟨by show -(2 ^ 64) < pl.1; omega, by show pl.1 < 2 ^ 64; omega⟩), by show pl.2 ≠ 0; omega, PyProof.noPylong_small (by show pl.2.natAbs < 1073741824; omega)⟩
/-- all stays but the deck and the tables -/
def KeepX (dk l : Addr) (H H' : Hp) : Prop := ∀ b o, H b = some o → b ≠ dk → b ≠ l → (∀ ps, o ≠ .tbl ps) → H' b = some o
theorem KeepX.of {dk l : Addr} {H H' : Hp} (k : Keep dk l H H') : KeepX dk l H H' := fun b o e h1 h2 _ => k b o e h1 h2
theorem KeepX.ext {dk l : Addr} {H H' : Hp} (k : ExtN H H') : KeepX dk l H H' := fun b o e _ _ n => k b o e n
theorem KeepX.trans {dk l : Addr} {H H1 H2 : Hp} (h : KeepX dk l H H1) (k : KeepX dk l H1 H2) : KeepX dk l H H2 := fun b o e h1 h2 n => k b o (h b o e h1 h2 n) h1 h2 n
theorem keepX_tups {H H' : Hp} {dk l : Addr} (D : Deck H dk l) (k : KeepX dk l H H') : TupS H H' := fun b xs e => k b _ e (of_off (deck_tup D e)).1 (of_off (deck_tup D e)).2.1 (fun _ z => nomatch z)
theorem deck_ext {H H' : Hp} {dk l : Addr} (D : Deck H dk l) (k : ExtN H H') : Deck H' dk l := by
  obtain ⟨ns, m, j, h1, h2, h3⟩ := D
  exact ⟨ns, m, j, k _ _ h1 (fun _ z => nomatch z), k _ _ h2 (fun _ z => nomatch z), h3⟩
theorem dt_tups {H : Hp} {a : Addr} {xs : List (List L2.Key × V)} {o : HO} (e : H a = some (.dT xs)) : TupS H (upd H a o) := fun b ys h => by
  rw [upd_ne (ne_of h e (by intro z; cases z))]; exact h
theorem put_all {kvs : List (List L2.Key × V)} {k : List L2.Key} {v : V} {φ : List L2.Key × V → Prop} {q : List L2.Key × V} (h : q ∈ putK kvs k v) (old : ∀ q ∈ kvs, φ q) (new : φ (k, v)) : φ q := by
  unfold putK at h
  split at h
  · obtain ⟨u, hu, e⟩ := List.mem_map.mp h
    by_cases c : u.1 = k
    · rw [if_pos c] at e
      rw [← e, c]; exact new
    · rw [if_neg c] at e
      exact e ▸ old u hu
  · rcases List.mem_append.mp h with h | h
    · exact old q h
    · rw [List.mem_singleton.mp h]; exact new
end N3

namespace N3
open PySem PySem.Spec PyProof.Rows L2 N2
/-! ### plain data of bounded weight -/
structure GW (m n : Nat) (d : PyData) : Prop where
  tn : Tn d
  wd : Wd m n d
theorem GW.mono {m n m' n' : Nat} {d : PyData} (h : GW m n d) (hm : m ≤ m') (hn : n ≤ n') : GW m' n' d := ⟨h.tn, h.wd.mono hm hn⟩
theorem bd_103 {i : Int} (h : Bd i) : i.natAbs.log2 < 103 := by
  rcases Nat.eq_zero_or_pos i.natAbs with z | z
  · rw [z]; decide
  · have h1 : i.natAbs < 10 ^ 31 := h
    have h2 : (10 : Nat) ^ 31 < 2 ^ 103 := by decide
    exact (Nat.log2_lt (by omega : i.natAbs ≠ 0)).mpr (Nat.lt_trans h1 h2)
theorem gw_int {i : Int} (h : Bd i) : GW 104 0 (.int i) := by
  have h1 := bd_103 h
  refine ⟨.int i, by simp only [PyData.showable]; exact decide_eq_true (by omega), by simp [PyData.depth], ?_⟩
  have h2 : (PySem.Str.ofString (toString i)).length ≤ 104 := by rw [PySem.ofString_length]; exact PySem.int_text_length_le (k := 103) (by decide) h1
  simp only [wt, PyData.shown]
  exact h2
theorem wtA_le {m : Nat} : ∀ {ds : List PyData}, (∀ d ∈ ds, wt d ≤ m) → wtA ds ≤ ds.length * (m + 2)
  | [], _ => by simp [wtA]
  | d :: ds, h => by
    have h1 := h d List.mem_cons_self
    have h2 := wtA_le (ds := ds) fun x hx => h x (List.mem_cons_of_mem _ hx)
    rw [wtA, List.length_cons, Nat.succ_mul]; omega
theorem sh_all : ∀ {ds : List PyData}, (∀ d ∈ ds, d.showable = true) → PyData.showableAll ds = true
  | [], _ => by simp [PyData.showableAll]
  | d :: ds, h => by rw [PyData.showableAll, h d List.mem_cons_self, sh_all fun x hx => h x (List.mem_cons_of_mem _ hx)]; rfl
theorem dp_all {n : Nat} : ∀ {ds : List PyData}, (∀ d ∈ ds, d.depth ≤ n) → PyData.depthAll ds ≤ n
  | [], _ => by simp [PyData.depthAll]
  | d :: ds, h => by
    have h1 := h d List.mem_cons_self
    have h2 := dp_all (ds := ds) fun x hx => h x (List.mem_cons_of_mem _ hx)
    rw [PyData.depthAll]; omega
theorem gw_tup {m n : Nat} {ds : List PyData} (h : ∀ d ∈ ds, GW m n d) : GW (ds.length * (m + 2) + 3) (n + 1) (.tuple ds) := by
  refine ⟨.tup fun d hd => (h d hd).tn, by simp only [PyData.showable]; exact sh_all fun d hd => (h d hd).wd.sh, ?_, ?_⟩
  · have := dp_all fun d hd => (h d hd).wd.dp
    simp only [PyData.depth]; omega
  · have := wtA_le fun d hd => (h d hd).wd.wt
    simp only [wt]; omega
theorem gw_map {α : Type} {enc : α → PyData} {l : List α} {m n k : Nat} (h : ∀ x ∈ l, GW m n (enc x)) (hl : l.length ≤ k) : GW (k * (m + 2) + 3) (n + 1) (.tuple (l.map enc)) := by
  refine (gw_tup (m := m) (n := n) fun d hd => ?_).mono ?_ (Nat.le_refl _)
  · obtain ⟨x, hx, rfl⟩ := List.mem_map.mp hd
    exact h x hx
  · rw [List.length_map]
    have := Nat.mul_le_mul_right (m + 2) hl
    omega
theorem gw_two {m n : Nat} {d e : PyData} (h1 : GW m n d) (h2 : GW m n e) : GW (2 * (m + 2) + 3) (n + 1) (.tuple [d, e]) := gw_tup (ds := [d, e]) fun x hx => by
  simp only [List.mem_cons, List.not_mem_nil, or_false] at hx
  rcases hx with rfl | rfl
  · exact h1
  · exact h2
theorem gw_three {m n : Nat} {d e f : PyData} (h1 : GW m n d) (h2 : GW m n e) (h3 : GW m n f) : GW (3 * (m + 2) + 3) (n + 1) (.tuple [d, e, f]) := gw_tup (ds := [d, e, f]) fun x hx => by
  simp only [List.mem_cons, List.not_mem_nil, or_false] at hx
  rcases hx with rfl | rfl | rfl
  · exact h1
  · exact h2
  · exact h3
theorem bd_small {i : Int} (h : i.natAbs ≤ 1000000) : Bd i := by
  show i.natAbs < 10 ^ 31
  have : 1000000 < (10 : Nat) ^ 31 := by decide
  omega
theorem gw_nil : GW 3 1 (.tuple []) := ⟨.tup (by simp), by decide, by decide, by decide⟩
theorem dn_app {H : Hp} {xs ys : List V} {ds es : List PyData} (h : DnAll H xs ds) (k : DnAll H ys es) : DnAll H (xs ++ ys) (ds ++ es) := DnAll.app h k
theorem dnAll_drop {H : Hp} : ∀ {xs : List V} {ds : List PyData}, DnAll H xs ds → ∀ k, DnAll H (xs.drop k) (ds.drop k)
  | _, _, h, 0 => h
  | _, _, .nil, _ + 1 => .nil
  | _, _, .cons a r, k + 1 => dnAll_drop r k
end N3

namespace N3
open PySem PySem.Spec PyProof.Rows L2
/-! ### written tuples inside a def, each told as data at once -/
def tK (d : PyData) : TE := fun _ H Q => ∀ (v : V) (H' : Hp), Same H H' → Dn H' v d → Q v H'
def tKs (ds : List PyData) : TA := fun _ H Q => ∀ (vs : List V) (H' : Hp), Same H H' → DnAll H' vs ds → Q vs H'
section
variable {X : Cx}
theorem pk_int {i : Int} {j pos} : PE X (.Constant (.int i) j pos) (tK (.int i)) := ⟨fun pins s σ H Q I h => pe_int.run pins s σ H Q I (h _ _ (Same.refl _) (.int i))⟩
theorem pk_str {x : Str} {j pos} : PE X (.Constant (.str x) j pos) (tK (.str x)) := ⟨fun pins s σ H Q I h => pe_str.run pins s σ H Q I (h _ _ (Same.refl _) (.str x))⟩
theorem pk_neg {i : Int} {j p pos} : PE X (.UnaryOp .USub (.Constant (.int i) j p) pos) (tK (.int (-i))) := ⟨fun pins s σ H Q I h => (pe_un un_neg pe_int).run pins s σ H Q I ⟨_, rfl, h _ _ (Same.refl _) (.int (-i))⟩⟩
theorem pka_nil : PA X [] (tKs []) := ⟨fun pos pins s σ H Q I h => pa_nil.run pos pins s σ H Q I (h _ _ (Same.refl _) .nil)⟩
theorem pka_cons {e : Expr} {es : List Expr} {d : PyData} {ds : List PyData} (h : PE X e (tK d)) (k : PA X es (tKs ds)) (hs : starEach (e :: es) X.env = (false, eval e X.env) :: starEach es X.env := by rfl) : PA X (e :: es) (tKs (d :: ds)) :=
  ⟨fun pos pins s σ H Q I q => (pa_cons h k hs).run pos pins s σ H Q I fun v H1 s1 dn vs H2 s2 da => q _ _ (s1.trans s2) (.cons (Dn.mono s2 d v dn) da)⟩
theorem pk_tup {es : List Expr} {ds : List PyData} {x1 pos} (h : PA X es (tKs ds)) (hn : ds.length ≤ 1000 := by decide) : PE X (.Tuple es x1 pos) (tK (.tuple ds)) :=
  ⟨fun pins s σ H Q I q => (pe_tup h).run pins s σ H Q I fun vs H1 s1 da => by
    refine ⟨?_, fun p hp => q _ _ (s1.trans (snew hp)) (.tup upd_same (DnAll.mono (snew hp) ds vs da))⟩
    have h1 := da.length
    have h2 : 1000 ≤ sizeLine := by rw [sizeLine_eq]; decide
    omega⟩
end
theorem dn_app' {H : Hp} : ∀ {xs ys : List V} {ds es : List PyData}, DnAll H xs ds → DnAll H ys es → DnAll H (xs ++ ys) (ds ++ es)
  | [], _, _, _, .nil, k => k
  | _ :: _, _, _, _, .cons a b, k => .cons a (dn_app' b k)
theorem dn_tupd {H : Hp} {v : V} {ds : List PyData} (h : Dn H v (.tuple ds)) : ∃ a xs, v = .ref a ∧ H a = some (.tup xs) ∧ DnAll H xs ds := by
  cases h with
  | tup e r => exact ⟨_, _, rfl, e, r⟩
end N3

namespace N3
open PySem PySem.Spec PyProof.Rows L2 N2
/-! ### rows without what is zero at their end -/
theorem take_cr {r : List Nm} {m : Nat} (h : ∀ i n, m ≤ i → r[i]? = some n → n = []) (j : Nat) (d : Int) : cr (r.take m) j d = cr r j d := by
  unfold cr
  rw [List.getD_eq_getElem?_getD, List.getD_eq_getElem?_getD]
  rcases Nat.lt_or_ge j m with c | c
  · rw [List.getElem?_take_of_lt c]
  · rw [List.getElem?_eq_none (by rw [List.length_take]; omega)]
    cases e : r[j]? with
    | none => rfl
    | some n => rw [h j n c e]; rfl
def spTrim (K : PySem.W.Frag) : Sp := fun vs H Q _ => ∃ (a : Addr) (acc : List V) (r : List Nm), vs = [.ref a] ∧ SqL K H a acc ∧ DnAll H acc (r.map encN) ∧ r.length ≤ 1000 ∧
  ∀ (s : List Nm) (q : Nat) (H' : Hp), Dn H' (.ref q) (encR s) → (∃ k, k ≤ r.length ∧ s = r.take k) → s.getLast? ≠ some [] → (∀ j d, cr s j d = cr r j d) → Same H H' → Q (.ref q) H'
/-- a list or a tuple -/
def SqE (K : PySem.W.Frag) (H : Hp) (a : Addr) (xs : List V) : Prop := SqL K H a xs ∨ H a = some (.tup xs)
theorem SqE.same {K : PySem.W.Frag} {H H' : Hp} {a : Addr} {xs : List V} (s : Same H H') (h : SqE K H a xs) : SqE K H' a xs := h.imp (sqL_same s) (s _ _)
theorem SqE.len {K : PySem.W.Frag} {H : Hp} {a : Addr} {xs : List V} (h : SqE K H a xs) : LenV K (.ref a) H xs.length := h.elim (fun h => .inl ⟨xs, h, rfl⟩) fun h => .inr ⟨xs, SqT.of h, rfl⟩
theorem SqE.at {K : PySem.W.Frag} {H : Hp} {a : Addr} {xs : List V} {i : Int} {v : V} {Q : VK} (h : SqE K H a xs) (e : atI xs i = some v) (q : Q v H) : rIx K (.ref a) (.int i) H Q := h.elim (fun h => .inl ⟨a, xs, i, v, rfl, rfl, h, e, q⟩) fun h => .inr (.inl ⟨a, xs, i, v, rfl, rfl, SqT.of h, e, q⟩)
theorem SqE.to {K : PySem.W.Frag} {H : Hp} {a : Addr} {xs : List V} {m : Nat} {Q : VK} (h : SqE K H a xs) (hm : m ≤ xs.length) (k : ∀ (p : Addr) (H' : Hp), SqE K H' p (xs.take m) → Same H H' → Q (.ref p) H') : rSlL K (.ref a) none (some (m : Int)) H Q ∨ rSlA K (.ref a) none (some (m : Int)) H Q := by
  rcases h with h | h
  · refine .inl ⟨a, xs, rfl, h, fun p hp => ?_⟩
    rw [cutTo _ _ hm]
    exact k p _ (.inl (SqL.of upd_same)) (snew hp)
  · refine .inr ⟨a, xs, rfl, SqT.of h, fun ⟨_, z⟩ => ?_, fun _ p hp => ?_⟩
    · have e1 : HT.sIx xs.length xs.length (some (m : Int)) = min m xs.length := HT.sIx_nat xs.length xs.length m
      rw [e1, Nat.min_eq_left hm] at z
      refine k a H ?_ (Same.refl _)
      rw [List.take_of_length_le (by omega)]
      exact .inr h
    · rw [cutTo _ _ hm]
      exact k p _ (.inr upd_same) (snew hp)
def spTrimE (K : PySem.W.Frag) : Sp := fun vs H Q _ => ∃ (a : Addr) (acc : List V) (r : List Nm), vs = [.ref a] ∧ SqE K H a acc ∧ DnAll H acc (r.map encN) ∧ r.length ≤ 1000 ∧
  ∀ (s : List Nm) (q : Nat) (H' : Hp), Dn H' (.ref q) (encR s) → (∃ k, k ≤ r.length ∧ s = r.take k) → s.getLast? ≠ some [] → (∀ j d, cr s j d = cr r j d) → Same H H' → Q (.ref q) H'
section
variable {P : Program} {w : World} {K : PySem.W.Frag} {mg : Str → Option Value} {base : Heap}
abbrev s_trimmed : Stmt := top 22
theorem sc_trimmed : FnScope ["numbers", "end"] ["numbers"] (defScope s_trimmed) := ⟨rfl, rfl, rfl, by decide +kernel, rfl, by decide +kernel, by decide +kernel⟩
theorem ok_trimmed {f  : Addr} {fd  : FuncData}  (F : Fun K "trimmed" "trimmed" s_trimmed f fd) (T : Bt mg)  : FnOk P w K mg base CX0 1 f fd ["numbers"] (spTrim K) := by
  refine F.ok sc_trimmed (fun vs H Q E h => ?_) (fun cdv A outer s H vs Q E hr h => ?_)
  · obtain ⟨a, acc, r, rfl, _⟩ := h
    rfl
  · obtain ⟨a, acc, r, rfl, ha, ra, hl, k⟩ := h
    refine ⟨_, pss_cons (ps_set (i := 1) sc_trimmed.nd rfl (Or.inl rfl) (pe_callB call_len (by rfl) T.len PySem.boot_len (pa_cons (pv 0) pa_nil)))
      (pss_cons (ps_while PassesOwn.never (PW.pt (pw_and (pt_cmpR op_gt (pv 1) pe_int (nomark _)) (pw_and1 (pt_cmpR (op_eqD hr.units) (pe_ix (r := rIx K) ix_seq (pv 0) (pe_op op_sub (pv 1) pe_int) (fun _ _ => rfl)) (pe_tup pa_nil) (nomark _)))))
        (pss_one (ps_aug (i := 1) sc_trimmed.nd rfl (.inl rfl) pe_int ip_sub)))
      (pss_one (ps_ret (pe_callTy call_tuple_of (by rfl) T.tuple (by decide +kernel) (pa_cons (pe_slice sl_list (pv 0) po_none (po_some (pv 1))) pa_nil))))), ?_⟩
    have lr : acc.length = r.length := by rw [ra.length, List.length_map]
    refine ⟨_, rfl, .ref a, acc.length, rfl, .inl ⟨acc, ha, rfl⟩, ?_⟩
    refine ⟨fun m σ H' => ∃ j : Nat, σ = [some (.ref a), some (.int (j : Int))] ∧ j ≤ r.length ∧ Same H H' ∧ m = j ∧ ∀ i n, j ≤ i → r[i]? = some n → n = [], ⟨_, acc.length, rfl, by omega, Same.refl _, rfl, fun i n h e => by rw [List.getElem?_eq_none (by omega)] at e; cases e⟩, ?_⟩
    rintro m σ H1 ⟨j, rfl, jl, s1, rfl, drop⟩
    have hcr := take_cr drop
    have fin : ∀ H2, Same H H2 → (r.take m).getLast? ≠ some [] → (∀ j d, cr (r.take m) j d = cr r j d) → tRet (tCB (fun xs H Q => ∃ p ys, xs = [V.ref p] ∧ ((SqL K H p ys ∧ ∀ l, H l = none → Q (.ref l) (upd H l (.tup ys))) ∨ SqT K H p ys ∧ Q (.ref p) H)) (tCons (tSl (rSlL K) (tVar 0) tNoPart (tPart (tVar 1))) tNil)) { nx := fun x H' => Q V.non H', rt := Q } [some (.ref a), some (.int (m : Int))] H2 := fun H2 s2 hm hcr => by
      refine ⟨_, rfl, ?_⟩
      dsimp only [tNoPart]
      have e : cutV acc none (some (m : Int)) = acc.take m := cutTo acc m (by omega)
      refine ⟨_, rfl, _, rfl, a, acc, rfl, sqL_same s2 ha, ?_⟩
      rw [e]
      intro p hp
      refine ⟨p, _, rfl, .inl ⟨SqL.of upd_same, fun q hq => ?_⟩⟩
      refine k (r.take m) q _ (.tup upd_same ?_) ⟨m, jl, rfl⟩ hm hcr (s2.trans ((snew hp).trans (snew hq)))
      rw [List.map_take]
      exact DnAll.mono (s2.trans ((snew hp).trans (snew hq))) _ _ (dnAll_take ra m)
    refine ⟨_, rfl, _, _, rfl, rfl, _, rfl, ite_b (fun c => ?_) (fun c => ?_)⟩
    · have c' : 0 < m := by have := of_decide_eq_true c; omega
      obtain ⟨n, en⟩ : ∃ n, r[m - 1]? = some n := ⟨_, List.getElem?_eq_getElem (by omega)⟩
      obtain ⟨x, ex, dx⟩ := dn_at ra (show (r.map encN)[m - 1]? = some (encN n) by rw [List.getElem?_map, en]; rfl)
      have ei : ((m : Int) - 1) = ((m - 1 : Nat) : Int) := by omega
      refine ⟨_, rfl, _, rfl, _, _, rfl, rfl, .inl ⟨a, acc, _, _, rfl, rfl, sqL_same s1 ha, by rw [ei]; exact atI_nat ex, ?_⟩⟩
      refine ⟨Nat.zero_le _, fun p hp => ⟨encN n, .tuple [], tn_dp _ _ (encN_tn n) (Dn.mono (s1.trans (snew hp)) _ _ dx), .tup (SqT.of upd_same) .nil, encN_shaped n, rfl, _, rfl, ?_⟩⟩
      rw [eqv_nil_d (encN_tn n)]
      have sp := s1.trans (snew (o := .tup []) hp)
      refine ite_b (fun c2 => ?_) (fun c2 => ?_)
      · refine ⟨fun σ H' => σ = [some (.ref a), some (.int ((m : Int) - 1))] ∧ Same H H', fun σ' H' ⟨e1, e2⟩ => ⟨m - 1, by omega, m - 1, by rw [e1, ei], by omega, e2, rfl, fun i n' h e => by
          rcases Nat.lt_or_ge (m - 1) i with z | z
          · exact drop i n' (by omega) e
          · have : i = m - 1 := by omega
            subst this
            rw [en] at e
            cases e
            cases n with
            | nil => rfl
            | cons _ _ => cases c2⟩, ?_⟩
        exact ⟨_, rfl, _, _, rfl, rfl, rfl, sp⟩
      · refine fin _ sp (fun z => ?_) hcr
        rw [List.getLast?_take, if_neg (by omega), en] at z
        have z' : n = [] := by simpa using z
        rw [z'] at c2
        cases c2
    · refine iteF ?_
      have m0 : m = 0 := by have := of_decide_eq_false c; omega
      subst m0
      exact fin _ s1 (by simp) hcr
end
end N3

namespace N3
open PySem PySem.Spec PyProof.Rows L2
/-! ### comprehensions that map, and that choose -/
theorem small_m' {n : Nat} (h : n ≤ 1000000) : n < sizeLine := by rw [sizeLine_eq]; omega
/-- tuples stay -/
def Tst (H H' : Hp) : Prop := ∀ (a : Addr) (xs : List V), H a = some (.tup xs) → H' a = some (.tup xs)
theorem Tst.of {H H' : Hp} (s : Same H H') : Tst H H' := fun a xs e => s _ _ e
theorem Tst.trans {H H1 H2 : Hp} (s : Tst H H1) (t : Tst H1 H2) : Tst H H2 := fun a xs e => t _ _ (s _ _ e)
theorem Tst.refl (H : Hp) : Tst H H := fun _ _ e => e
theorem Tst.deck {H H' : Hp} {dk l : Addr} (D : Deck H dk l) (k : Keep dk l H H') : Tst H H' := fun a xs e => by
  obtain ⟨ns, m, j, h1, h2, _⟩ := D
  exact k a _ e (fun z => by rw [z, h1] at e; cases e) fun z => by rw [z, h2] at e; cases e
theorem Tst.put {H : Hp} {D : Addr} {l l' : List V} (h : H D = some (.lst l)) : Tst H (upd H D (.lst l')) := fun a xs e => by
  rw [upd_ne (fun z => by rw [z, h] at e; cases e)]; exact e
theorem same_sqt {K : PySem.W.Frag} {H H' : Hp} {a : Addr} {xs : List V} (s : Same H H') (h : SqT K H a xs) : SqT K H' a xs := by
  rcases h with (h | ⟨o, h⟩) | h
  · exact .inl (.inl (s _ _ h))
  · exact .inl (.inr ⟨o, s _ _ h⟩)
  · exact .inr h
section
variable {J : It} {n : Nat} {G : Hp → Prop} {Y : Nat → Hp → V → Hp → Prop} {g : TG} {tt : TT} {te : TE} {vs : List Nat} {σ : L2.St} {H : Hp} {D : Addr} {Qd : Hp → Prop}
theorem lc_map (W : Walk J n G Y) (hG : ∀ H', Same H H' → G H') (R : Nat → V → Hp → Prop) (Rm : ∀ j y H1 H2, Tst H1 H2 → R j y H1 → R j y H2) (hn : n ≤ 1000000) (hD : H D = none)
    (step : ∀ (j : Nat) (x : V) (H1 H2 : Hp) (Q' : V → Hp → Prop), j < n → Same H H1 → Y j H1 x H2 → (∀ y H3, R j y H3 → Same H1 H3 → Q' y H3) → g x (wipe σ vs) H2 fun σ2 H3 => wipe σ2 vs = wipe σ vs ∧ te σ2 H3 Q')
    (fin : ∀ (ys : List V) (H' : Hp), H' D = some (.lst ys) → ys.length = n → (∀ (j : Nat) (y : V), ys[j]? = some y → R j y H') → Same H H' → Qd H') :
    ∃ W : Nat → Nat → Hp → Prop, (∃ m, W 0 m (upd H D (.lst []))) ∧ ∀ i m H, W i m H →
      (J.stop i H ∧ Qd H) ∨ (J.go i H ∧ ∃ Nx : Hp → Prop, (∀ H', Nx H' → ∃ m', m' < m ∧ W (i + 1) m' H') ∧ ∀ x H', J.yld i H x H' → g x (wipe σ vs) H' fun σ2 H2 => wipe σ2 vs = wipe σ vs ∧ tYes σ2 H2 fun b H3 =>
        if b = true then te σ2 H3 fun y H4 => ∃ acc, H4 D = some (.lst acc) ∧ acc.length < sizeLine ∧ Nx (upd H4 D (.lst (acc ++ [y]))) else Nx H3) := by
  refine lc_it W (fun i H' => ∃ ys : List V, H' D = some (.lst ys) ∧ ys.length = i ∧ (∀ (j : Nat) (y : V), ys[j]? = some y → R j y H') ∧ Same H H') ⟨[], upd_same, rfl, fun j y e => by simp at e, snew hD⟩ (fun i H' _ ⟨_, _, _, _, s⟩ => hG H' s) ?_ ?_
  · rintro i x H1 H2 hi ⟨ys, e1, e2, e3, s1⟩ y
    refine step i x H1 H2 _ hi s1 y fun v H3 r s3 => ?_
    have e1' := s3 _ _ e1
    refine ⟨ys, e1', small_m' (by omega), ys ++ [v], upd_same, by rw [List.length_append, e2]; rfl, fun j u e => ?_, fun b o e => ?_⟩
    · have tp : Tst H3 (upd H3 D (.lst (ys ++ [v]))) := Tst.put e1'
      rcases Nat.lt_or_ge j ys.length with c | c
      · rw [List.getElem?_append_left c] at e
        exact Rm _ _ _ _ ((Tst.of s3).trans tp) (e3 j u e)
      · rw [List.getElem?_append_right c] at e
        have : j = ys.length := by
          rcases Nat.lt_or_ge (j - ys.length) 1 with d | d
          · omega
          · rw [List.getElem?_eq_none (by simpa using d)] at e; cases e
        subst this
        rw [Nat.sub_self] at e
        cases e
        rw [e2]
        exact Rm _ _ _ _ tp r
    · rw [upd_ne (ne_of_none e hD)]; exact s3 _ _ (s1 _ _ e)
  · rintro H' ⟨ys, e1, e2, e3, s1⟩
    exact fin ys H' e1 e2 e3 s1
theorem fil_succ {p : Nat → Bool} {f : Nat → V} {i : Nat} : ((List.range (i + 1)).filter p).map f = ((List.range i).filter p).map f ++ (if p i = true then [f i] else []) := by
  rw [List.range_succ, List.filter_append, List.map_append]
  congr 1
  by_cases c : p i = true
  · rw [if_pos c]; simp [c]
  · rw [if_neg c]; simp [c]
theorem lc_fil (W : Walk J n G Y) (hG : ∀ H', Same H H' → G H') (p : Nat → Bool) (f : Nat → V) (hn : n ≤ 1000000) (hD : H D = none)
    (step : ∀ (j : Nat) (x : V) (H1 H2 : Hp) (Q1 : V → Hp → Prop) (Q0 : Hp → Prop), j < n → Same H H1 → Y j H1 x H2 → (∀ H3, Same H1 H3 → p j = true → Q1 (f j) H3) → (∀ H3, Same H1 H3 → p j = false → Q0 H3) →
      g x (wipe σ vs) H2 fun σ2 H3 => wipe σ2 vs = wipe σ vs ∧ tt σ2 H3 fun b H4 => if b = true then te σ2 H4 Q1 else Q0 H4)
    (fin : ∀ (H' : Hp), H' D = some (.lst (((List.range n).filter p).map f)) → Same H H' → Qd H') :
    ∃ W : Nat → Nat → Hp → Prop, (∃ m, W 0 m (upd H D (.lst []))) ∧ ∀ i m H, W i m H →
      (J.stop i H ∧ Qd H) ∨ (J.go i H ∧ ∃ Nx : Hp → Prop, (∀ H', Nx H' → ∃ m', m' < m ∧ W (i + 1) m' H') ∧ ∀ x H', J.yld i H x H' → g x (wipe σ vs) H' fun σ2 H2 => wipe σ2 vs = wipe σ vs ∧ tt σ2 H2 fun b H3 =>
        if b = true then te σ2 H3 fun y H4 => ∃ acc, H4 D = some (.lst acc) ∧ acc.length < sizeLine ∧ Nx (upd H4 D (.lst (acc ++ [y]))) else Nx H3) := by
  refine lc_it W (fun i H' => H' D = some (.lst (((List.range i).filter p).map f)) ∧ Same H H') ⟨upd_same, snew hD⟩ (fun i H' _ h => hG H' h.2) ?_ ?_
  · rintro i x H1 H2 hi ⟨e1, s1⟩ y
    refine step i x H1 H2 _ _ hi s1 y (fun H3 s3 c => ?_) (fun H3 s3 c => ?_)
    · refine ⟨_, s3 _ _ e1, small_m' ?_, ?_, fun b o e => ?_⟩
      · have : ((List.range i).filter p).length ≤ (List.range i).length := List.length_filter_le _ _
        rw [List.length_range] at this
        rw [List.length_map]; omega
      · rw [fil_succ, if_pos c]; exact upd_same
      · rw [upd_ne (ne_of_none e hD)]; exact s3 _ _ (s1 _ _ e)
    · refine ⟨?_, s1.trans s3⟩
      rw [fil_succ, if_neg (by rw [c]; exact fun z => nomatch z), List.append_nil]
      exact s3 _ _ e1
  · rintro H' ⟨e1, s1⟩
    exact fin H' e1 s1
end
section
variable {J : It} {n : Nat} {G : Hp → Prop} {Y : Nat → Hp → V → Hp → Prop} {g : TG} {tt : TT} {R : L2.St → Hp → (Hp → Prop) → Prop} {vs : List Nat} {σ : L2.St} {H1 : Hp} {D : Addr} {Qd : Hp → Prop}
/-- the outer walk of a comprehension with more -/
theorem l3_out (w : Walk J n G Y) (Pv : Nat → Hp → Prop) (h0 : Pv 0 (upd H1 D (.lst []))) (hG : ∀ i H, i ≤ n → Pv i H → G H)
    (hs : ∀ i x H H', i < n → Pv i H → Y i H x H' → g x (wipe σ vs) H' fun σ2 H2 => wipe σ2 vs = wipe σ vs ∧ tt σ2 H2 fun b H3 => if b = true then R σ2 H3 (Pv (i + 1)) else Pv (i + 1) H3) (hd : ∀ H, Pv n H → Qd H) :
    ∃ W : Nat → Nat → Hp → Prop, (∃ m, W 0 m (upd H1 D (.lst []))) ∧ ∀ i m H, W i m H → (J.stop i H ∧ Qd H) ∨ (J.go i H ∧ ∃ N : Hp → Prop, (∀ H', N H' → ∃ m', m' < m ∧ W (i + 1) m' H') ∧
      ∀ x H', J.yld i H x H' → g x (wipe σ vs) H' fun σ2 H2 => wipe σ2 vs = wipe σ vs ∧ tt σ2 H2 fun b H3 => if b = true then R σ2 H3 N else N H3) := by
  refine ⟨fun i m H => m = n - i ∧ i ≤ n ∧ Pv i H, ⟨n, by simp, Nat.zero_le _, h0⟩, fun i m H ⟨em, hi, p⟩ => ?_⟩
  by_cases lt : i < n
  · exact .inr ⟨w.goes i H lt (hG i H hi p), Pv (i + 1), fun H' p' => ⟨n - (i + 1), by omega, rfl, lt, p'⟩, fun x H' y => hs i x H H' lt p (w.yields i H x H' lt (hG i H hi p) y)⟩
  · obtain rfl : i = n := by omega
    exact .inl ⟨w.stops H (hG i H hi p), hd H p⟩
/-- an inner walk -/
theorem l3_in (w : Walk J n G Y) (Pv : Nat → Hp → Prop) (h0 : Pv 0 H1) (hG : ∀ i H, i ≤ n → Pv i H → G H)
    (hs : ∀ i x H H', i < n → Pv i H → Y i H x H' → g x (wipe σ vs) H' fun σ2 H2 => wipe σ2 vs = wipe σ vs ∧ tt σ2 H2 fun b H3 => if b = true then R σ2 H3 (Pv (i + 1)) else Pv (i + 1) H3) (hd : ∀ H, Pv n H → Qd H) :
    ∃ W : Nat → Nat → Hp → Prop, (∃ m, W 0 m H1) ∧ ∀ i m H, W i m H → (J.stop i H ∧ Qd H) ∨ (J.go i H ∧ ∃ N : Hp → Prop, (∀ H', N H' → ∃ m', m' < m ∧ W (i + 1) m' H') ∧
      ∀ x H', J.yld i H x H' → g x (wipe σ vs) H' fun σ2 H2 => wipe σ2 vs = wipe σ vs ∧ tt σ2 H2 fun b H3 => if b = true then R σ2 H3 N else N H3) := by
  refine ⟨fun i m H => m = n - i ∧ i ≤ n ∧ Pv i H, ⟨n, by simp, Nat.zero_le _, h0⟩, fun i m H ⟨em, hi, p⟩ => ?_⟩
  by_cases lt : i < n
  · exact .inr ⟨w.goes i H lt (hG i H hi p), Pv (i + 1), fun H' p' => ⟨n - (i + 1), by omega, rfl, lt, p'⟩, fun x H' y => hs i x H H' lt p (w.yields i H x H' lt (hG i H hi p) y)⟩
  · obtain rfl : i = n := by omega
    exact .inl ⟨w.stops H (hG i H hi p), hd H p⟩
end
theorem map_of_at {α : Type} {L : List α} {f : α → V} {ys : List V} (hl : ys.length = L.length) (h : ∀ (j : Nat) (y : V), ys[j]? = some y → ∃ z, L[j]? = some z ∧ y = f z) : ys = L.map f := by
  refine List.ext_getElem? fun j => ?_
  rw [List.getElem?_map]
  rcases Nat.lt_or_ge j ys.length with c | c
  · obtain ⟨z, hz, e⟩ := h j ys[j] (List.getElem?_eq_getElem c)
    rw [hz, List.getElem?_eq_getElem c, e]; rfl
  · rw [List.getElem?_eq_none c, List.getElem?_eq_none (by omega)]; rfl
theorem gName_mono {i : Nat} : ∀ (x : V) (σ1 : L2.St) (H1 : Hp) (A B : L2.St → Hp → Prop), (∀ σ2 H2, A σ2 H2 → B σ2 H2) → gName i x σ1 H1 A → gName i x σ1 H1 B := fun _ _ _ _ _ h k => h _ _ k
end N3

namespace N3
open PySem PySem.Spec PyProof.Rows L2 N2
/-! ### tables of rows by poles -/
inductive RwT (G : Addr → Prop) (H : Hp) : List (List L2.Key × V) → List Tl → Prop
  | nil : RwT G H [] []
  | cons {p : Pl} {b : Addr} {acc : List V} {r : List Nm} {kvs : List (List L2.Key × V)} {ts : List Tl} : G b → H b = some (.lst acc) → DnAll H acc (r.map encN) → RwT G H kvs ts → RwT G H ((kyP p, .ref b) :: kvs) ((p, r) :: ts)
section
variable {G G' : Addr → Prop} {H H' : Hp}
theorem RwT.length : ∀ {kvs : List (List L2.Key × V)} {ts : List Tl}, RwT G H kvs ts → kvs.length = ts.length
  | _, _, .nil => rfl
  | _, _, .cons _ _ _ r => by rw [List.length_cons, List.length_cons, r.length]
theorem RwT.keys : ∀ {kvs : List (List L2.Key × V)} {ts : List Tl}, RwT G H kvs ts → kvs.map (·.1) = (ts.map (·.1)).map kyP
  | _, _, .nil => rfl
  | _, _, .cons _ _ _ r => by rw [List.map_cons, List.map_cons, List.map_cons, r.keys]
theorem RwT.move (g : ∀ b, G b → G' b) (s : ∀ b xs, G b → H b = some (.lst xs) → H' b = some (.lst xs)) (t : TupS H H') : ∀ {kvs : List (List L2.Key × V)} {ts : List Tl}, RwT G H kvs ts → RwT G' H' kvs ts
  | _, _, .nil => .nil
  | _, _, .cons (r := n) hg h d r => .cons (g _ hg) (s _ _ hg h) (tnA_tups t _ _ (tn_maps encN_tn n) d) (r.move g s t)
theorem RwT.get : ∀ {kvs : List (List L2.Key × V)} {ts : List Tl}, RwT G H kvs ts → ∀ p : Pl, (valV kvs (kyP p) = none ∧ p ∉ ts.map (·.1)) ∨ ∃ (b : Addr) (acc : List V), valV kvs (kyP p) = some (.ref b) ∧ G b ∧ H b = some (.lst acc) ∧ DnAll H acc ((tl ts p).map encN) ∧ (p, tl ts p) ∈ ts
  | _, _, .nil, p => .inl ⟨rfl, by simp⟩
  | _, _, .cons (p := q) (b := b) (acc := acc) (r := n) (ts := ts) hg h d r, p => by
    by_cases c : q = p
    · subst c
      have e : tl ((q, n) :: ts) q = n := if_pos rfl
      exact .inr ⟨b, acc, valV_pos rfl, hg, h, by rw [e]; exact d, by rw [e]; exact List.mem_cons_self⟩
    · have ne : ¬ (kyP q = kyP p) := fun z => c (kyP_inj z)
      have e : tl ((q, n) :: ts) p = tl ts p := if_neg c
      rcases r.get p with ⟨h1, h2⟩ | ⟨b', acc', h1, h2, h3, h4, h5⟩
      · refine .inl ⟨by rw [valV_neg ne]; exact h1, fun m => ?_⟩
        rw [List.map_cons] at m
        rcases List.mem_cons.mp m with z | z
        · exact c z.symm
        · exact h2 z
      · exact .inr ⟨b', acc', by rw [valV_neg ne]; exact h1, h2, h3, by rw [e]; exact h4, by rw [e]; exact List.mem_cons_of_mem _ h5⟩
/-- a row put in -/
def putR (ts : List Tl) (p : Pl) (r : List Nm) : List Tl := if p ∈ ts.map (·.1) then ts.map (fun x => if x.1 = p then (p, r) else x) else ts ++ [(p, r)]
theorem RwT.any {kvs : List (List L2.Key × V)} {ts : List Tl} (r : RwT G H kvs ts) (p : Pl) : (kvs.any fun kv => decide (kv.1 = kyP p)) = true ↔ p ∈ ts.map (·.1) := by
  rw [List.any_eq_true]
  have k := r.keys
  constructor
  · rintro ⟨q, hq, e⟩
    have e := of_decide_eq_true e
    have : kyP p ∈ kvs.map (·.1) := List.mem_map.mpr ⟨q, hq, e⟩
    rw [k] at this
    obtain ⟨x, hx, e'⟩ := List.mem_map.mp this
    rwa [kyP_inj e'] at hx
  · intro h
    have : kyP p ∈ kvs.map (·.1) := by rw [k]; exact List.mem_map.mpr ⟨p, h, rfl⟩
    obtain ⟨q, hq, e⟩ := List.mem_map.mp this
    exact ⟨q, hq, decide_eq_true e⟩
theorem RwT.swap {p : Pl} {b : Addr} {acc : List V} {n : List Nm} (hg : G b) (hb : H b = some (.lst acc)) (hd : DnAll H acc (n.map encN)) : ∀ {kvs : List (List L2.Key × V)} {ts : List Tl}, RwT G H kvs ts → RwT G H (kvs.map fun kv => if kv.1 = kyP p then (kv.1, V.ref b) else kv) (ts.map fun x => if x.1 = p then (p, n) else x)
  | _, _, .nil => .nil
  | _, _, .cons (p := q) (r := m) h1 h2 h3 r => by
    rw [List.map_cons, List.map_cons]
    by_cases c : q = p
    · subst c
      rw [if_pos rfl, if_pos rfl]
      exact .cons hg hb hd (r.swap hg hb hd)
    · have ne : ¬ (kyP q = kyP p) := fun z => c (kyP_inj z)
      rw [if_neg ne, if_neg c]
      exact .cons h1 h2 h3 (r.swap hg hb hd)
theorem RwT.snoc {p : Pl} {b : Addr} {acc : List V} {n : List Nm} (hg : G b) (hb : H b = some (.lst acc)) (hd : DnAll H acc (n.map encN)) : ∀ {kvs : List (List L2.Key × V)} {ts : List Tl}, RwT G H kvs ts → RwT G H (kvs ++ [(kyP p, V.ref b)]) (ts ++ [(p, n)])
  | _, _, .nil => .cons hg hb hd .nil
  | _, _, .cons h1 h2 h3 r => .cons h1 h2 h3 (r.snoc hg hb hd)
theorem RwT.put {kvs : List (List L2.Key × V)} {ts : List Tl} {p : Pl} {b : Addr} {acc : List V} {n : List Nm} (r : RwT G H kvs ts) (hg : G b) (hb : H b = some (.lst acc)) (hd : DnAll H acc (n.map encN)) : RwT G H (putK kvs (kyP p) (.ref b)) (putR ts p n) := by
  unfold putK putR
  by_cases c : p ∈ ts.map (·.1)
  · rw [if_pos c, if_pos ((r.any p).mpr c)]
    exact r.swap hg hb hd
  · rw [if_neg c, if_neg (fun z => c ((r.any p).mp z))]
    exact r.snoc hg hb hd
end
def Kp (ts : List Tl) : Prop := (ts.map (·.1)).Nodup
theorem swapR_keys {p : Pl} {n : List Nm} : ∀ {ts : List Tl}, (ts.map fun x => if x.1 = p then (p, n) else x).map (·.1) = ts.map (·.1)
  | [] => rfl
  | x :: ts => by
    rw [List.map_cons, List.map_cons, List.map_cons, swapR_keys]
    congr 1
    split
    · next c => exact c.symm
    · rfl
theorem putR_keys {ts : List Tl} {p : Pl} {n : List Nm} : (putR ts p n).map (·.1) = if p ∈ ts.map (·.1) then ts.map (·.1) else ts.map (·.1) ++ [p] := by
  unfold putR
  split
  · exact swapR_keys
  · rw [List.map_append]; rfl
theorem putR_kp {ts : List Tl} {p : Pl} {n : List Nm} (h : Kp ts) : Kp (putR ts p n) := by
  unfold Kp
  rw [putR_keys]
  split
  · exact h
  · next c =>
    rw [List.nodup_append]
    exact ⟨h, by simp, fun x hx y hy e => c (by rw [List.mem_singleton] at hy; rw [← hy, ← e]; exact hx)⟩
theorem putR_len {ts : List Tl} {p : Pl} {n : List Nm} : (putR ts p n).length ≤ ts.length + 1 := by
  unfold putR
  split
  · rw [List.length_map]; omega
  · rw [List.length_append]; exact Nat.le_refl _
theorem putR_mem {ts : List Tl} {p : Pl} {n : List Nm} {x : Tl} (h : x ∈ putR ts p n) : x = (p, n) ∨ x ∈ ts := by
  unfold putR at h
  split at h
  · obtain ⟨y, hy, e⟩ := List.mem_map.mp h
    split at e
    · exact .inl e.symm
    · subst e; exact .inr hy
  · rcases List.mem_append.mp h with h | h
    · exact .inr h
    · exact .inl (List.mem_singleton.mp h)
theorem tl_app : ∀ (a b : List Tl) (p : Pl), tl (a ++ b) p = if p ∈ a.map (·.1) then tl a p else tl b p
  | [], b, p => by rw [if_neg (by simp)]; rfl
  | t :: a, b, p => by
    show (if t.1 = p then t.2 else tl (a ++ b) p) = if p ∈ t.1 :: a.map (·.1) then (if t.1 = p then t.2 else tl a p) else tl b p
    by_cases c : t.1 = p
    · rw [if_pos c, if_pos c, if_pos (by rw [c]; exact List.mem_cons_self)]
    · rw [if_neg c, if_neg c, tl_app a b p]
      by_cases d : p ∈ a.map (·.1)
      · rw [if_pos d, if_pos (List.mem_cons_of_mem _ d)]
      · rw [if_neg d, if_neg (fun z => (List.mem_cons.mp z).elim (fun e => c e.symm) d)]
theorem tl_off {ts : List Tl} {p : Pl} (h : p ∉ ts.map (·.1)) : tl ts p = [] := tl_none fun t ht e => h (List.mem_map.mpr ⟨t, ht, e⟩)
theorem tl_mem : ∀ {ts : List Tl} {p : Pl}, p ∈ ts.map (·.1) → (p, tl ts p) ∈ ts
  | t :: ts, p, h => by
    by_cases c : t.1 = p
    · have e : tl (t :: ts) p = t.2 := if_pos c
      rw [e, ← c]
      exact List.mem_cons_self
    · have e : tl (t :: ts) p = tl ts p := if_neg c
      rw [e]
      rw [List.map_cons] at h
      exact List.mem_cons_of_mem _ (tl_mem ((List.mem_cons.mp h).elim (fun z => absurd z.symm c) id))
theorem tl_at : ∀ {ts : List Tl} {t : Tl}, Kp ts → t ∈ ts → tl ts t.1 = t.2
  | s :: ts, t, h, ht => by
    unfold Kp at h
    rw [List.map_cons, List.nodup_cons] at h
    by_cases c : s.1 = t.1
    · have e : tl (s :: ts) t.1 = s.2 := if_pos c
      rcases List.mem_cons.mp ht with rfl | ht
      · exact e
      · exact absurd (List.mem_map.mpr ⟨t, ht, c.symm⟩) h.1
    · have e : tl (s :: ts) t.1 = tl ts t.1 := if_neg c
      rw [e]
      rcases List.mem_cons.mp ht with rfl | ht
      · exact absurd rfl c
      · exact tl_at h.2 ht
theorem tl_swap_ne {p q : Pl} {n : List Nm} (f : p ≠ q) : ∀ ts : List Tl, tl (ts.map fun x => if x.1 = p then (p, n) else x) q = tl ts q
  | [] => rfl
  | t :: ts => by
    rw [List.map_cons]
    by_cases e : t.1 = p
    · rw [if_pos e]
      show (if p = q then n else tl (ts.map fun x => if x.1 = p then (p, n) else x) q) = if t.1 = q then t.2 else tl ts q
      rw [if_neg f, if_neg (by rw [e]; exact f), tl_swap_ne f ts]
    · rw [if_neg e]
      show (if t.1 = q then t.2 else tl (ts.map fun x => if x.1 = p then (p, n) else x) q) = if t.1 = q then t.2 else tl ts q
      rw [tl_swap_ne f ts]
theorem tl_swap_eq {p : Pl} {n : List Nm} : ∀ ts : List Tl, p ∈ ts.map (·.1) → tl (ts.map fun x => if x.1 = p then (p, n) else x) p = n
  | [], c => by simp at c
  | t :: ts, c => by
    rw [List.map_cons]
    by_cases e : t.1 = p
    · rw [if_pos e]
      exact if_pos rfl
    · rw [if_neg e]
      show (if t.1 = p then t.2 else tl (ts.map fun x => if x.1 = p then (p, n) else x) p) = n
      rw [if_neg e]
      rw [List.map_cons] at c
      exact tl_swap_eq ts ((List.mem_cons.mp c).elim (fun z => absurd z.symm e) id)
theorem tl_put {ts : List Tl} {p q : Pl} {n : List Nm} : tl (putR ts p n) q = if p = q then n else tl ts q := by
  unfold putR
  split
  · next c =>
    by_cases f : p = q
    · subst f
      rw [if_pos rfl, tl_swap_eq ts c]
    · rw [if_neg f, tl_swap_ne f ts]
  · next c =>
    rw [tl_app]
    by_cases f : p = q
    · subst f
      rw [if_neg c, if_pos rfl]
      exact if_pos rfl
    · rw [if_neg f]
      have : tl [(p, n)] q = [] := by show (if p = q then n else []) = []; rw [if_neg f]
      rw [this]
      split
      · rfl
      · next d => exact (tl_off d).symm
/-! ### a fold of new keys -/
theorem put_new {κ : Type} [DecidableEq κ] {kvs : List (κ × V)} {k : κ} {v : V} (h : k ∉ kvs.map (·.1)) : putK kvs k v = kvs ++ [(k, v)] := by
  unfold putK
  rw [if_neg]
  intro z
  rw [List.any_eq_true] at z
  obtain ⟨q, hq, e⟩ := z
  exact h (List.mem_map.mpr ⟨q, hq, of_decide_eq_true e⟩)
theorem fold_nd {κ : Type} [DecidableEq κ] : ∀ (more kvs : List (κ × V)), ((kvs ++ more).map (·.1)).Nodup → more.foldl (fun acc kv => putK acc kv.1 kv.2) kvs = kvs ++ more
  | [], kvs, _ => (List.append_nil _).symm
  | p :: more, kvs, h => by
    show more.foldl (fun acc kv => putK acc kv.1 kv.2) (putK kvs p.1 p.2) = _
    have e : putK kvs p.1 p.2 = kvs ++ [p] := put_new fun m => by
      rw [List.map_append, List.nodup_append] at h
      exact h.2.2 _ m p.1 (by simp) rfl
    rw [e, fold_nd more (kvs ++ [p]) (by rw [List.append_assoc]; exact h), List.append_assoc]
    rfl
/-! ### poles in their order -/
theorem div20 {b : Int} (h1 : 1 ≤ b) (h2 : b ≤ 20) : b ∣ 232792560 := by
  have : b = 1 ∨ b = 2 ∨ b = 3 ∨ b = 4 ∨ b = 5 ∨ b = 6 ∨ b = 7 ∨ b = 8 ∨ b = 9 ∨ b = 10 ∨ b = 11 ∨ b = 12 ∨ b = 13 ∨ b = 14 ∨ b = 15 ∨ b = 16 ∨ b = 17 ∨ b = 18 ∨ b = 19 ∨ b = 20 := by omega
  rcases this with h | h | h | h | h | h | h | h | h | h | h | h | h | h | h | h | h | h | h | h <;> subst h <;> decide
theorem key_bf {p q : Pl} (hp : SPl p) (hq : SPl q) (ne : p ≠ q) (le : (p.1 * 232792560).fdiv p.2 ≤ (q.1 * 232792560).fdiv q.2) : before p q := by
  obtain ⟨_, p1, p2, cp⟩ := hp
  obtain ⟨_, q1, q2, cq⟩ := hq
  obtain ⟨m, em⟩ := div20 p1 p2
  obtain ⟨n, en⟩ := div20 q1 q2
  have m0 : 0 < m := Int.pos_of_mul_pos_right (a := p.2) (by omega) (by omega)
  have n0 : 0 < n := Int.pos_of_mul_pos_right (a := q.2) (by omega) (by omega)
  have e1 : (p.1 * 232792560).fdiv p.2 = p.1 * m := by
    rw [Int.fdiv_eq_ediv_of_nonneg _ (by omega), em, show p.1 * (p.2 * m) = p.2 * (p.1 * m) by ac_rfl, Int.mul_ediv_cancel_left _ (by omega)]
  have e2 : (q.1 * 232792560).fdiv q.2 = q.1 * n := by
    rw [Int.fdiv_eq_ediv_of_nonneg _ (by omega), en, show q.1 * (q.2 * n) = q.2 * (q.1 * n) by ac_rfl, Int.mul_ediv_cancel_left _ (by omega)]
  rw [e1, e2] at le
  have le' : p.1 * q.2 ≤ q.1 * p.2 := by
    rcases Int.lt_or_le (q.1 * p.2) (p.1 * q.2) with c | c
    · exfalso
      have h := Int.mul_lt_mul_of_pos_right c (Int.mul_pos m0 n0)
      rw [show q.1 * p.2 * (m * n) = q.1 * n * (p.2 * m) by ac_rfl, show p.1 * q.2 * (m * n) = p.1 * m * (q.2 * n) by ac_rfl, ← em, ← en] at h
      omega
    · exact c
  have ne' : p.1 * q.2 ≠ q.1 * p.2 := fun e => by
    obtain ⟨a, b⟩ := low_cross cp cq e
    exact ne (Prod.ext a b)
  show p.1 * q.2 < q.1 * p.2
  omega
theorem nb_snoc {α : Type} {r : α → α → Prop} {l : List α} {x : α} (h : Nb r l) (k : ∀ y ∈ l, r y x) : Nb r (l ++ [x]) := fun i a b ha hb => by
  rcases Nat.lt_or_ge (i + 1) l.length with c | c
  · rw [List.getElem?_append_left (by omega)] at ha
    rw [List.getElem?_append_left c] at hb
    exact h i a b ha hb
  · have hb' := hb
    rw [List.getElem?_append_right c] at hb
    have e : i + 1 - l.length = 0 := by
      rcases Nat.eq_zero_or_pos (i + 1 - l.length) with z | z
      · exact z
      · rw [List.getElem?_eq_none (show [x].length ≤ _ from z)] at hb; cases hb
    rw [e] at hb
    cases hb
    rw [List.getElem?_append_left (by omega)] at ha
    exact k a (List.mem_of_getElem? ha)
theorem CTs.nil {ok : Int → Prop} : CTs ok [] := ⟨fun t h => by simp at h, fun i a b ha => by simp at ha⟩
theorem CTs.snoc {ok : Int → Prop} {ts : List Tl} {t : Tl} (h : CTs ok ts) (ht : CTl ok t) (up : ∀ s ∈ ts, before s.1 t.1) : CTs ok (ts ++ [t]) :=
  ⟨fun s hs => (List.mem_append.mp hs).elim (h.1 s) fun z => by rw [List.mem_singleton.mp z]; exact ht, nb_snoc h.2 up⟩
theorem CTs.kp {ok : Int → Prop} : ∀ {ts : List Tl}, CTs ok ts → Kp ts
  | [], _ => List.nodup_nil
  | t :: ts, h => by
    unfold Kp
    rw [List.map_cons, List.nodup_cons]
    refine ⟨fun m => ?_, h.tail.kp⟩
    obtain ⟨s, hs, e⟩ := List.mem_map.mp m
    exact bf_irr (h.up s hs) e.symm
theorem CR.nil {ok : Int → Prop} : CR ok [] := ⟨fun n hn => by simp at hn, by simp⟩
theorem CTs.row {ok : Int → Prop} {ts : List Tl} (h : CTs ok ts) (p : Pl) : CR ok (tl ts p) := by
  by_cases c : p ∈ ts.map (·.1)
  · exact (h.1 _ (tl_mem c)).2.1
  · rw [tl_off c]; exact CR.nil
/-! ### what a quotient's coefficients bound -/
structure QZ (ok : Int → Prop) (C W M T : Nat) (q : Qt) : Prop where
  cq : CQ ok q
  lw : q.1.length ≤ W
  lt : q.2.length ≤ T
  lm : ∀ t ∈ q.2, t.2.length ≤ M
  zw : ∀ n ∈ q.1, Sz C n
  zt : ∀ t ∈ q.2, ∀ n ∈ t.2, Sz C n
  pl : ∀ t ∈ q.2, SPl t.1
def QSum (q r s : Qt) : Prop := (∀ k d, cr s.1 k d = cr q.1 k d + cr r.1 k d) ∧ ∀ p k d, cr (tl s.2 p) k d = cr (tl q.2 p) k d + cr (tl r.2 p) k d
def QSlo (q s : Qt) : Prop := (∀ (k : Nat) d, cr s.1 k d = Rat.divInt ((k : Int) + 1) 1 * cr q.1 (k + 1) d) ∧ ∀ p d, cr (tl s.2 p) 0 d = 0 ∧ ∀ k : Nat, cr (tl s.2 p) (k + 1) d = Rat.divInt (-(k : Int) - 1) 1 * cr (tl q.2 p) k d
theorem co_some {ok : Int → Prop} {n : Nm} (h : CN ok n) (hn : n ≠ []) : ∃ d, co n d ≠ 0 := by
  cases n with
  | nil => exact absurd rfl hn
  | cons x n => exact ⟨x.1, h.ne⟩
theorem cr_last {ok : Int → Prop} {r : List Nm} (h : CR ok r) (hr : r ≠ []) : ∃ d, cr r (r.length - 1) d ≠ 0 := by
  have l := List.length_pos_iff.mpr hr
  have e : r.getLast? = some (r.getD (r.length - 1) []) := by
    rw [List.getLast?_eq_getElem?, List.getD_eq_getElem?_getD, List.getElem?_eq_getElem (by omega)]
    rfl
  have ne : r.getD (r.length - 1) [] ≠ [] := fun z => h.2 (by rw [e, z])
  exact co_some (h.at_ _) ne
theorem cr_short {ok : Int → Prop} {r : List Nm} {W : Nat} (h : CR ok r) (z : ∀ k, W ≤ k → ∀ d, cr r k d = 0) : r.length ≤ W := by
  rcases Nat.lt_or_ge W r.length with c | c
  · obtain ⟨d, hd⟩ := cr_last h (fun e => by rw [e] at c; exact Nat.not_lt_zero _ c)
    exact absurd (z _ (by omega) d) hd
  · exact c
theorem cr_off {r : List Nm} {k : Nat} (h : r.length ≤ k) (d : Int) : cr r k d = 0 := by
  unfold cr
  rw [List.getD_eq_getElem?_getD, List.getElem?_eq_none h]
  rfl
theorem row_co {ok : Int → Prop} {r : List Nm} {C : Nat} (h : CR ok r) (s : ∀ n ∈ r, Sz C n) (hC : 1 ≤ C) (k : Nat) (d : Int) : ∃ t b : Int, b ≠ 0 ∧ cr r k d = Rat.divInt t b ∧ t.natAbs < 2 ^ C ∧ b.natAbs < 2 ^ C := by
  refine Sz.co (h.at_ k) ?_ hC d
  rw [List.getD_eq_getElem?_getD]
  cases e : r[k]? with
  | none => exact fun x hx => by simp at hx
  | some n => exact s n (List.mem_of_getElem? e)
theorem row_sz {ok : Int → Prop} {r : List Nm} {D : Nat} (h : CR ok r) (z : ∀ k d, ∃ t b : Int, b ≠ 0 ∧ cr r k d = Rat.divInt t b ∧ t.natAbs < 2 ^ D ∧ b.natAbs < 2 ^ D) : ∀ n ∈ r, Sz D n := fun n hn => by
  obtain ⟨k, hk, e⟩ := List.mem_iff_getElem.mp hn
  have e' : r.getD k [] = n := by rw [List.getD_eq_getElem?_getD, List.getElem?_eq_getElem hk]; exact e
  refine (h.1 n hn).sz fun x _ => ?_
  obtain ⟨t, b, b0, ec, bt, bb⟩ := z k x.1
  unfold cr at ec
  rw [e'] at ec
  exact ⟨t, b, b0, ec, bt, bb⟩
theorem sub_lenP {α : Type} [DecidableEq α] : ∀ {l m : List α}, l.Nodup → (∀ x ∈ l, x ∈ m) → l.length ≤ m.length
  | [], _, _, _ => Nat.zero_le _
  | x :: l, m, nd, sub => by
    rw [List.nodup_cons] at nd
    have h := sub_lenP (m := m.erase x) nd.2 fun y hy => (List.mem_erase_of_ne (fun e : y = x => nd.1 (by rw [← e]; exact hy))).mpr (sub y (List.mem_cons_of_mem _ hy))
    have mx := sub x List.mem_cons_self
    have p := List.length_pos_of_mem mx
    rw [List.length_erase_of_mem mx] at h
    rw [List.length_cons]
    omega
theorem QZ.row {ok : Int → Prop} {C W M T : Nat} {q : Qt} (h : QZ ok C W M T q) (p : Pl) : CR ok (tl q.2 p) ∧ (tl q.2 p).length ≤ M ∧ ∀ n ∈ tl q.2 p, Sz C n := by
  by_cases c : p ∈ q.2.map (·.1)
  · exact ⟨h.cq.2.row p, h.lm _ (tl_mem c), h.zt _ (tl_mem c)⟩
  · rw [tl_off c]; exact ⟨CR.nil, Nat.zero_le _, fun n hn => by simp at hn⟩
/-- a quotient's bounds by its coefficients -/
theorem qz_of {ok : Int → Prop} {C W M : Nat} {q : Qt} (ps : List Pl) (hq : CQ ok q) (hp : ∀ p ∈ ps, SPl p) (z1 : ∀ k, W ≤ k → ∀ d, cr q.1 k d = 0) (z2 : ∀ p k, M ≤ k → ∀ d, cr (tl q.2 p) k d = 0)
    (s1 : ∀ k d, ∃ t b : Int, b ≠ 0 ∧ cr q.1 k d = Rat.divInt t b ∧ t.natAbs < 2 ^ C ∧ b.natAbs < 2 ^ C) (s2 : ∀ p k d, ∃ t b : Int, b ≠ 0 ∧ cr (tl q.2 p) k d = Rat.divInt t b ∧ t.natAbs < 2 ^ C ∧ b.natAbs < 2 ^ C)
    (s3 : ∀ p, p ∉ ps → ∀ k d, cr (tl q.2 p) k d = 0) : QZ ok C W M ps.length q := by
  have at_ : ∀ t ∈ q.2, tl q.2 t.1 = t.2 := fun t ht => tl_at hq.2.kp ht
  have mem : ∀ t ∈ q.2, t.1 ∈ ps := fun t ht => by
    by_cases c : t.1 ∈ ps
    · exact c
    · obtain ⟨_, cr_, ne⟩ := hq.2.1 t ht
      obtain ⟨d, hd⟩ := cr_last cr_ ne
      have := s3 _ c (t.2.length - 1) d
      rw [at_ t ht] at this
      exact absurd this hd
  refine ⟨hq, cr_short hq.1 z1, ?_, fun t ht => ?_, row_sz hq.1 s1, fun t ht => ?_, fun t ht => hp _ (mem t ht)⟩
  · have := sub_lenP (m := ps) hq.2.kp fun p h => by
      obtain ⟨t, ht, rfl⟩ := List.mem_map.mp h
      exact mem t ht
    rwa [List.length_map] at this
  · refine cr_short (hq.2.1 t ht).2.1 fun k hk d => ?_
    rw [← at_ t ht]
    exact z2 _ k hk d
  · refine row_sz (hq.2.1 t ht).2.1 fun k d => ?_
    rw [← at_ t ht]
    exact s2 _ k d
theorem bits_add {C : Nat} {t b t' b' : Int} (b0 : b ≠ 0) (b0' : b' ≠ 0) (bt : t.natAbs < 2 ^ C) (bb : b.natAbs < 2 ^ C) (bt' : t'.natAbs < 2 ^ C) (bb' : b'.natAbs < 2 ^ C) : ∃ u v : Int, v ≠ 0 ∧ Rat.divInt t b + Rat.divInt t' b' = Rat.divInt u v ∧ u.natAbs < 2 ^ (2 * C + 1) ∧ v.natAbs < 2 ^ (2 * C + 1) := by
  have two : 2 * C = C + C := by omega
  refine ⟨t * b' + t' * b, b * b', Int.mul_ne_zero b0 b0', Rat.divInt_add_divInt _ _ b0 b0', ?_, ?_⟩
  · rw [two]; exact add_bit (mul_bit bt bb') (mul_bit bt' bb)
  · rw [two]; exact bit_up (mul_bit bb bb') (by omega)
theorem qz_sum {ok : Int → Prop} {C W M T T' : Nat} {q r s : Qt} (hq : QZ ok C W M T q) (hr : QZ ok C W M T' r) (hC : 1 ≤ C) (hs : CQ ok s) (e : QSum q r s) : QZ ok (2 * C + 1) W M (T + T') s := by
  have z := qz_of (C := 2 * C + 1) (W := W) (M := M) (q.2.map (·.1) ++ r.2.map (·.1)) hs (fun p hp => ?_) (fun k hk d => ?_) (fun p k hk d => ?_) (fun k d => ?_) (fun p k d => ?_) (fun p hp k d => ?_)
  · refine ⟨z.cq, z.lw, Nat.le_trans z.lt ?_, z.lm, z.zw, z.zt, z.pl⟩
    rw [List.length_append, List.length_map, List.length_map]
    exact Nat.add_le_add hq.lt hr.lt
  · rcases List.mem_append.mp hp with h | h <;> obtain ⟨t, ht, rfl⟩ := List.mem_map.mp h
    · exact hq.pl t ht
    · exact hr.pl t ht
  · rw [e.1, cr_off (Nat.le_trans hq.lw hk), cr_off (Nat.le_trans hr.lw hk), Rat.add_zero]
  · rw [e.2, cr_off (Nat.le_trans (hq.row p).2.1 hk), cr_off (Nat.le_trans (hr.row p).2.1 hk), Rat.add_zero]
  · obtain ⟨t, b, b0, e1, bt, bb⟩ := row_co hq.cq.1 hq.zw hC k d
    obtain ⟨t', b', b0', e2, bt', bb'⟩ := row_co hr.cq.1 hr.zw hC k d
    rw [e.1, e1, e2]
    exact bits_add b0 b0' bt bb bt' bb'
  · obtain ⟨t, b, b0, e1, bt, bb⟩ := row_co (hq.row p).1 (hq.row p).2.2 hC k d
    obtain ⟨t', b', b0', e2, bt', bb'⟩ := row_co (hr.row p).1 (hr.row p).2.2 hC k d
    rw [e.2, e1, e2]
    exact bits_add b0 b0' bt bb bt' bb'
  · rw [List.mem_append, not_or] at hp
    rw [e.2, tl_off hp.1, tl_off hp.2, cr_nil, Rat.add_zero]
theorem bits_mul {C D : Nat} {x t b : Int} (b0 : b ≠ 0) (hx : x.natAbs < 2 ^ D) (bt : t.natAbs < 2 ^ C) (bb : b.natAbs < 2 ^ C) : ∃ u v : Int, v ≠ 0 ∧ Rat.divInt x 1 * Rat.divInt t b = Rat.divInt u v ∧ u.natAbs < 2 ^ (C + D) ∧ v.natAbs < 2 ^ (C + D) := by
  refine ⟨x * t, 1 * b, by rw [Int.one_mul]; exact b0, Rat.divInt_mul_divInt _ _, ?_, ?_⟩
  · rw [Nat.add_comm]; exact mul_bit hx bt
  · rw [Int.one_mul]; exact bit_up bb (by omega)
theorem qz_slope {ok : Int → Prop} {C W M T : Nat} {q s : Qt} (hq : QZ ok C W M T q) (hC : 1 ≤ C) (hW : W ≤ 60) (hM : M ≤ 60) (hs : CQ ok s) (e : QSlo q s) : QZ ok (C + 6) W (M + 1) T s := by
  have zero : ∃ t b : Int, b ≠ 0 ∧ (0 : Rat) = Rat.divInt t b ∧ t.natAbs < 2 ^ (C + 6) ∧ b.natAbs < 2 ^ (C + 6) := by
    have : 2 ^ 1 ≤ 2 ^ (C + 6) := Nat.pow_le_pow_right (by decide) (by omega)
    exact ⟨0, 1, by decide, (Rat.zero_divInt _).symm, by show 0 < _; omega, by show 1 < _; omega⟩
  have z := qz_of (C := C + 6) (W := W) (M := M + 1) (q.2.map (·.1)) hs (fun p hp => ?_) (fun k hk d => ?_) (fun p k hk d => ?_) (fun k d => ?_) (fun p k d => ?_) (fun p hp k d => ?_)
  · refine ⟨z.cq, z.lw, Nat.le_trans z.lt ?_, z.lm, z.zw, z.zt, z.pl⟩
    rw [List.length_map]
    exact hq.lt
  · obtain ⟨t, ht, rfl⟩ := List.mem_map.mp hp
    exact hq.pl t ht
  · rw [e.1, cr_off (by have := hq.lw; omega), Rat.mul_zero]
  · obtain ⟨k, rfl⟩ : ∃ j, k = j + 1 := ⟨k - 1, by omega⟩
    rw [(e.2 p d).2, cr_off (by have := (hq.row p).2.1; omega), Rat.mul_zero]
  · rcases Nat.lt_or_ge (k + 1) q.1.length with c | c
    · obtain ⟨t, b, b0, e1, bt, bb⟩ := row_co hq.cq.1 hq.zw hC (k + 1) d
      rw [e.1, e1]
      exact bits_mul b0 (by have := hq.lw; show _ < 64; omega) bt bb
    · rw [e.1, cr_off c, Rat.mul_zero]
      exact zero
  · cases k with
    | zero => rw [(e.2 p d).1]; exact zero
    | succ k =>
      rcases Nat.lt_or_ge k (tl q.2 p).length with c | c
      · obtain ⟨t, b, b0, e1, bt, bb⟩ := row_co (hq.row p).1 (hq.row p).2.2 hC k d
        rw [(e.2 p d).2, e1]
        exact bits_mul b0 (by have := (hq.row p).2.1; show _ < 64; omega) bt bb
      · rw [(e.2 p d).2, cr_off c, Rat.mul_zero]
        exact zero
  · cases k with
    | zero => exact (e.2 p d).1
    | succ k => rw [(e.2 p d).2, tl_off hp, cr_nil, Rat.mul_zero]
/-- the slope of a sum -/
theorem slo_sum {q r s q' r' s' u : Qt} (h : QSum q r s) (hq : QSlo q q') (hr : QSlo r r') (hs : QSlo s s') (hu : QSum q' r' u) : (∀ k d, cr u.1 k d = cr s'.1 k d) ∧ ∀ p k d, cr (tl u.2 p) k d = cr (tl s'.2 p) k d := by
  refine ⟨fun k d => ?_, fun p k d => ?_⟩
  · rw [hu.1, hq.1, hr.1, hs.1, h.1, Rat.mul_add]
  · rw [hu.2]
    cases k with
    | zero => rw [(hq.2 p d).1, (hr.2 p d).1, (hs.2 p d).1, Rat.add_zero]
    | succ k => rw [(hq.2 p d).2, (hr.2 p d).2, (hs.2 p d).2, h.2, Rat.mul_add]
theorem sum_same {q r s t : Qt} {ok : Int → Prop} (hs : CQ ok s) (ht : CQ ok t) (h : QSum q r s) (k : QSum q r t) : s = t := q_inj hs ht (fun j d => (h.1 j d).trans (k.1 j d).symm) fun p j d => (h.2 p j d).trans (k.2 p j d).symm
theorem slo_same {q s t : Qt} {ok : Int → Prop} (hs : CQ ok s) (ht : CQ ok t) (h : QSlo q s) (k : QSlo q t) : s = t := by
  refine q_inj hs ht (fun j d => (h.1 j d).trans (k.1 j d).symm) fun p j d => ?_
  cases j with
  | zero => exact ((h.2 p d).1).trans ((k.2 p d).1).symm
  | succ j => exact ((h.2 p d).2 j).trans ((k.2 p d).2 j).symm
theorem mem_take_succ {α : Type} {l : List α} {i : Nat} {x : α} (h : l[i]? = some x) (y : α) : y ∈ l.take (i + 1) ↔ y ∈ l.take i ∨ y = x := by
  rw [List.take_add_one, h]
  simp
end N3

namespace N3
open PySem PySem.Spec PyProof.Rows L2 N2
/-! ### comprehensions that make plain data -/
theorem of_each {α : Type} {enc : α → PyData} {H : Hp} : ∀ {ys : List V} {φ : Nat → α → Prop}, (∀ (j : Nat) (y : V), ys[j]? = some y → ∃ m, Dn H y (enc m) ∧ φ j m) → ∃ ns : List α, ns.length = ys.length ∧ DnAll H ys (ns.map enc) ∧ ∀ (j : Nat) (m : α), ns[j]? = some m → φ j m
  | [], _, _ => ⟨[], rfl, .nil, fun j m e => by simp at e⟩
  | y :: ys, φ, h => by
    obtain ⟨m, d, p⟩ := h 0 y rfl
    obtain ⟨ns, l, ds, ps⟩ := of_each (ys := ys) (φ := fun j => φ (j + 1)) fun j z e => h (j + 1) z (by simpa using e)
    refine ⟨m :: ns, by rw [List.length_cons, List.length_cons, l], .cons d ds, fun j z e => ?_⟩
    cases j with
    | zero => cases e; exact p
    | succ j => exact ps j z (by simpa using e)
section
variable {α : Type} {enc : α → PyData} {J : It} {n : Nat} {G : Hp → Prop} {Y : Nat → Hp → V → Hp → Prop} {g : TG} {te : TE} {vs : List Nat} {σ : L2.St} {H : Hp} {D : Addr} {Qd : Hp → Prop}
theorem lc_enc (tn : ∀ x, Tn (enc x)) (W : Walk J n G Y) (hG : ∀ H', Same H H' → G H') (φ : Nat → α → Prop) (hn : n ≤ 1000000) (hD : H D = none)
    (step : ∀ (j : Nat) (x : V) (H1 H2 : Hp) (Q' : V → Hp → Prop), j < n → Same H H1 → Y j H1 x H2 → (∀ y m H3, Dn H3 y (enc m) → φ j m → Same H1 H3 → Q' y H3) → g x (wipe σ vs) H2 fun σ2 H3 => wipe σ2 vs = wipe σ vs ∧ te σ2 H3 Q')
    (fin : ∀ (ys : List V) (ns : List α) (H' : Hp), H' D = some (.lst ys) → DnAll H' ys (ns.map enc) → ns.length = n → (∀ (j : Nat) (m : α), ns[j]? = some m → φ j m) → Same H H' → Qd H') :
    ∃ W : Nat → Nat → Hp → Prop, (∃ m, W 0 m (upd H D (.lst []))) ∧ ∀ i m H, W i m H →
      (J.stop i H ∧ Qd H) ∨ (J.go i H ∧ ∃ Nx : Hp → Prop, (∀ H', Nx H' → ∃ m', m' < m ∧ W (i + 1) m' H') ∧ ∀ x H', J.yld i H x H' → g x (wipe σ vs) H' fun σ2 H2 => wipe σ2 vs = wipe σ vs ∧ tYes σ2 H2 fun b H3 =>
        if b = true then te σ2 H3 fun y H4 => ∃ acc, H4 D = some (.lst acc) ∧ acc.length < sizeLine ∧ Nx (upd H4 D (.lst (acc ++ [y]))) else Nx H3) :=
  lc_map W hG (fun j y H' => ∃ m, Dn H' y (enc m) ∧ φ j m) (fun j y H1 H2 t ⟨m, d, p⟩ => ⟨m, tn_tups t _ _ (tn m) d, p⟩) hn hD
    (fun j x H1 H2 Q' hj s y k => step j x H1 H2 Q' hj s y fun y' m H3 d p s3 => k y' H3 ⟨m, d, p⟩ s3)
    (fun ys H' e l r s => by
      obtain ⟨ns, ln, ds, ps⟩ := of_each r
      exact fin ys ns H' e ds (ln.trans l) ps s)
end
theorem cutFrom (xs : List V) (m : Nat) (h : m ≤ xs.length) : cutV xs (some (m : Int)) none = xs.drop m := by
  unfold cutV
  have e1 : HT.sIx xs.length 0 (some (m : Int)) = min m xs.length := HT.sIx_nat xs.length 0 m
  have e2 : HT.sIx xs.length xs.length none = xs.length := rfl
  rw [e1, e2, Nat.min_eq_left h, List.take_of_length_le (by rw [List.length_drop]; omega)]
theorem slA_from {K : PySem.W.Frag} {H : Hp} {a : Addr} {xs : List V} {m : Nat} {Q : VK} (h : SqT K H a xs) (hm : m ≤ xs.length) (k : ∀ (p : Addr) (H' : Hp), SqT K H' p (xs.drop m) → Same H H' → Q (.ref p) H') : rSlA K (.ref a) (some (m : Int)) none H Q := by
  refine ⟨a, xs, rfl, h, fun ⟨z, _⟩ => ?_, fun _ p hp => ?_⟩
  · have e1 : HT.sIx xs.length 0 (some (m : Int)) = min m xs.length := HT.sIx_nat xs.length 0 m
    rw [e1, Nat.min_eq_left hm] at z
    subst z
    exact k a H h (Same.refl _)
  · rw [cutFrom _ _ hm]
    exact k p _ (SqT.of upd_same) (snew hp)
theorem slA_to {K : PySem.W.Frag} {H : Hp} {a : Addr} {xs : List V} {m : Nat} {Q : VK} (h : SqT K H a xs) (hm : m ≤ xs.length) (k : ∀ (p : Addr) (H' : Hp), SqT K H' p (xs.take m) → Same H H' → Q (.ref p) H') : rSlA K (.ref a) none (some (m : Int)) H Q := by
  refine ⟨a, xs, rfl, h, fun ⟨_, z⟩ => ?_, fun _ p hp => ?_⟩
  · have e1 : HT.sIx xs.length xs.length (some (m : Int)) = min m xs.length := HT.sIx_nat xs.length xs.length m
    rw [e1, Nat.min_eq_left hm] at z
    refine k a H ?_ (Same.refl _)
    rw [List.take_of_length_le (by omega)]
    exact h
  · rw [cutTo _ _ hm]
    exact k p _ (SqT.of upd_same) (snew hp)
theorem dnAll_drop' {H : Hp} : ∀ {xs : List V} {ds : List PyData}, DnAll H xs ds → ∀ k, DnAll H (xs.drop k) (ds.drop k)
  | _, _, h, 0 => h
  | _, _, .nil, _ + 1 => .nil
  | _, _, .cons a r, k + 1 => dnAll_drop' r k
/-! ### rows -/
def RZ (ok : Int → Prop) (C : Nat) (r : List Nm) : Prop := CR ok r ∧ (∀ n ∈ r, Sz C n) ∧ r.length ≤ 500
theorem RZ.nu {ok : Int → Prop} {C : Nat} {r : List Nm} (h : RZ ok C r) {n : Nm} (hn : n ∈ r) : Nu ok C n := ⟨h.1.1 n hn, h.2.1 n hn⟩
theorem getD_at {r : List Nm} {j : Nat} {n : Nm} (h : r[j]? = some n) : r.getD j [] = n := by rw [List.getD_eq_getElem?_getD, h]; rfl
theorem dn_R {H : Hp} {v : V} {r : List Nm} (h : Dn H v (encR r)) : ∃ a xs, v = .ref a ∧ H a = some (.tup xs) ∧ DnAll H xs (r.map encN) := dn_tupd h
theorem row_at {H : Hp} {xs : List V} {r : List Nm} (h : DnAll H xs (r.map encN)) {j : Nat} {n : Nm} (e : r[j]? = some n) : ∃ x, xs[j]? = some x ∧ Dn H x (encN n) := dn_at h (show (r.map encN)[j]? = some (encN n) by rw [List.getElem?_map, e]; rfl)
def spRSum : Sp := fun vs H Q _ => ∃ (u v : V) (r s : List Nm) (C L : Nat) (ok : Int → Prop), vs = [u, v] ∧ Dn H u (encR r) ∧ Dn H v (encR s) ∧ RZ ok C r ∧ RZ ok C s ∧ Few ok L ∧ 1 ≤ C ∧ L < 32 ∧ 2 * L * (C + 2) ≤ 7900 ∧ C + 2 ≤ 7900 ∧
  ∀ (t : List Nm) (a : Addr) (H' : Hp), Dn H' (.ref a) (encR t) → CR ok t → (∀ k d, cr t k d = cr r k d + cr s k d) → Same H H' → Q (.ref a) H'
def spWSlo : Sp := fun vs H Q _ => ∃ (u : V) (r : List Nm) (C L : Nat) (ok : Int → Prop), vs = [u] ∧ Dn H u (encR r) ∧ RZ ok C r ∧ Few ok L ∧ 1 ≤ C ∧ L < 64 ∧ L * (C + 10) ≤ 7900 ∧ C + 10 ≤ 7900 ∧
  ∀ (t : List Nm) (a : Addr) (H' : Hp), Dn H' (.ref a) (encR t) → CR ok t → t.length = r.length - 1 → (∀ (k : Nat) d, cr t k d = Rat.divInt ((k : Int) + 1) 1 * cr r (k + 1) d) → Same H H' → Q (.ref a) H'
def spSRow : Sp := fun vs H Q _ => ∃ (u : V) (r : List Nm) (C L : Nat) (ok : Int → Prop), vs = [u] ∧ Dn H u (encR r) ∧ RZ ok C r ∧ r ≠ [] ∧ Few ok L ∧ 1 ≤ C ∧ L < 64 ∧ L * (C + 10) ≤ 7900 ∧ C + 10 ≤ 7900 ∧
  ∀ (t : List Nm) (a : Addr) (H' : Hp), Dn H' (.ref a) (encR ([] :: t)) → CR ok ([] :: t) → t.length = r.length → (∀ (k : Nat) d, cr t k d = Rat.divInt (-(k : Int) - 1) 1 * cr r k d) → Same H H' → Q (.ref a) H'
section
variable {P : Program} {w : World} {K : PySem.W.Frag} {mg : Str → Option Value} {base : Heap}
abbrev s_row_sum : Stmt := top 23
abbrev nsRSum : List Str := ["one", "other", "both", "k"]
theorem sc_row_sum : FnScope nsRSum ["one", "other"] (defScope s_row_sum) := ⟨rfl, rfl, rfl, by decide +kernel, rfl, by decide +kernel, by decide +kernel⟩
theorem ok_row_sum {f f_number_sum f_trimmed : Addr} {fd d_number_sum d_trimmed : FuncData}  (F : Fun K "row_sum" "row_sum" s_row_sum f fd) (T : Bt mg) (p_number_sum : Kn P w K mg base 4 "number_sum" ["one", "other"] spNSum f_number_sum d_number_sum) (p_trimmed : Kn P w K mg base 1 "trimmed" ["numbers"] (spTrim K) f_trimmed d_trimmed) : FnOk P w K mg base CX0 5 f fd ["one", "other"] spRSum := by
  refine F.ok sc_row_sum (fun vs H Q E h => ?_) (fun cdv A outer s H vs Q E hr h => ?_)
  · obtain ⟨u, v, r, s, C, L, ok, rfl, _⟩ := h
    rfl
  · obtain ⟨u, v, r, s, C, L, ok, rfl, hu, hv, hr_, hs_, few, c1, l32, lt, cw, k⟩ := h
    refine ⟨_, C8.pss_cut (ps_if (pt_cmpR op_lt (pe_callB call_len (by rfl) T.len PySem.boot_len (pa_cons (pv 0) pa_nil)) (pe_callB call_len (by rfl) T.len PySem.boot_len (pa_cons (pv 1) pa_nil)) (nomark _))
        (pss_one (ps_asg (pe_tup (pa_cons (pv 1) (pa_cons (pv 0) pa_nil))) (pg_tup rfl (pgs_cons (pg_name (i := 0) sc_row_sum.nd rfl (Or.inr rfl)) (pgs_cons (pg_name (i := 1) sc_row_sum.nd rfl (Or.inr rfl)) pgs_nil)))))
        pss_nil)
      (pss_cons (ps_setLc (i := 2) (own := [("k", 3)]) (g := (gName 3)) (tt := tYes) rfl sc_row_sum.nd rfl rfl (sw_true rfl rfl (by rfl) (by rfl)) (pi_range1 rfl T.range (pa_cons (pe_callB call_len (by rfl) T.len PySem.boot_len (pa_cons (pv 1) pa_nil)) pa_nil)) (blkOk_by (own := [("k", 3)]) (N := nsRSum) (sc := defScope s_row_sum) (by decide +kernel)) (fun _ _ _ _ _ => pg_name (i := 3) sc_row_sum.nd rfl (Or.inl rfl)) (fun _ _ _ _ _ => pts_nil) (fun _ _ _ _ _ => (pe_call p_number_sum.ok (hr.mono (by decide)) rfl p_number_sum.mg p_number_sum.kp p_number_sum.bd .nil pass0 (pa_cons (pe_ix (r := rIx K) ix_seq (pv 0) (pv 3) (fun _ _ => rfl)) (pa_cons (pe_ix (r := rIx K) ix_seq (pv 1) (pv 3) (fun _ _ => rfl)) pa_nil)))))
      (pss_one (ps_ret (pe_call p_trimmed.ok (hr.mono (by decide)) rfl p_trimmed.mg p_trimmed.kp p_trimmed.bd .nil pass0 (pa_cons (pe_op op_cat (pv 2) (pe_callTy call_list_of (by rfl) T.list (by decide +kernel) (pa_cons (pe_slice sl_tupA (pv 0) (po_some (pe_callB call_len (by rfl) T.len PySem.boot_len (pa_cons (pv 1) pa_nil))) po_none) pa_nil))) pa_nil))))), ?_⟩
    refine ⟨fun σ' H' => ∃ (u' v' : V) (R S : List Nm), σ' = [some u', some v', none, none] ∧ Same H H' ∧ Dn H' u' (encR R) ∧ Dn H' v' (encR S) ∧ RZ ok C R ∧ RZ ok C S ∧ S.length ≤ R.length ∧ ∀ k d, cr R k d + cr S k d = cr r k d + cr s k d, ?_, ?_⟩
    · obtain ⟨a, xs, rfl, ea, ra⟩ := dn_R hu
      obtain ⟨b, ys, rfl, eb, rb⟩ := dn_R hv
      have la : xs.length = r.length := by rw [ra.length, List.length_map]
      have lb : ys.length = s.length := by rw [rb.length, List.length_map]
      refine ⟨_, rfl, .ref a, xs.length, rfl, .inr ⟨xs, SqT.of ea, rfl⟩, _, rfl, .ref b, ys.length, rfl, .inr ⟨ys, SqT.of eb, rfl⟩, _, _, rfl, rfl, _, rfl, ite_b (fun c => ?_) (fun c => ?_)⟩
      · have c' := of_decide_eq_true c
        refine ⟨_, rfl, _, rfl, by show 2 ≤ sizeLine; rw [sizeLine_eq]; decide, fun p hp => ⟨p, _, rfl, SqT.of upd_same, rfl, _, _, rfl, _, _, rfl, rfl, ?_⟩⟩
        exact ⟨.ref b, .ref a, s, r, rfl, snew hp, Dn.mono (snew hp) _ _ hv, Dn.mono (snew hp) _ _ hu, hs_, hr_, by omega, fun k d => Rat.add_comm _ _⟩
      · have c' := of_decide_eq_false c
        exact ⟨.ref a, .ref b, r, s, rfl, Same.refl _, hu, hv, hr_, hs_, by omega, fun k d => rfl⟩
    · rintro σ' H1 ⟨u', v', R, S, rfl, s1, dR, dS, zR, zS, le, eq⟩
      obtain ⟨a, xs, rfl, ea, ra⟩ := dn_R dR
      obtain ⟨b, ys, rfl, eb, rb⟩ := dn_R dS
      have la : xs.length = R.length := by rw [ra.length, List.length_map]
      have lb : ys.length = S.length := by rw [rb.length, List.length_map]
      have l1 := zR.2.2
      refine ⟨_, rfl, .ref b, ys.length, rfl, .inr ⟨ys, SqT.of eb, rfl⟩, _, rfl, by omega, by omega, fun D hD => lc_enc (enc := encN) encN_tn (walk_range (lo := 0) (n := ys.length)) (fun _ _ => trivial) (fun j m => CN ok m ∧ ∀ d, co m d = cr R j d + cr S j d) (by omega) hD (fun j x H2 H3 Q' hj s2 y kk => ?_) fun acc ns H2 e2 dn2 ln hn s2 => ?_⟩
      · obtain ⟨rfl, rfl⟩ := y
        obtain ⟨n, en⟩ : ∃ n, R[j]? = some n := ⟨_, List.getElem?_eq_getElem (by omega)⟩
        obtain ⟨m, em⟩ : ∃ m, S[j]? = some m := ⟨_, List.getElem?_eq_getElem (by omega)⟩
        obtain ⟨x, ex, dx⟩ := row_at ra en
        obtain ⟨y, ey, dy⟩ := row_at rb em
        refine ⟨rfl, _, rfl, _, rfl, .inr (.inl ⟨a, xs, _, x, rfl, rfl, SqT.of (s2 _ _ ea), by rw [Int.zero_add]; exact atI_nat ex, _, rfl, _, rfl, .inr (.inl ⟨b, ys, _, y, rfl, rfl, SqT.of (s2 _ _ eb), by rw [Int.zero_add]; exact atI_nat ey, ?_⟩)⟩)⟩
        refine ⟨x, y, n, m, C, L, ok, rfl, Dn.mono s2 _ _ dx, Dn.mono s2 _ _ dy, zR.nu (List.mem_of_getElem? en), zS.nu (List.mem_of_getElem? em), few, c1, l32, lt, cw, fun z c H4 dz nz ez s4 => ?_⟩
        refine kk _ z H4 dz ⟨nz.1, fun d => ?_⟩ s4
        unfold cr
        rw [ez, getD_at en, getD_at em]
      · refine ⟨_, rfl, _, rfl, _, rfl, .ref b, ys.length, rfl, .inr ⟨ys, SqT.of (s2 _ _ eb), rfl⟩, ?_⟩
        dsimp only [tNoPart]
        refine ⟨_, rfl, slA_from (SqT.of (s2 _ _ ea)) (by omega) fun p H3 hp s3 => ?_⟩
        refine ⟨p, _, rfl, .inr hp, fun l hl => ?_⟩
        have s4 := s3.trans (snew (o := .lst (xs.drop ys.length)) hl)
        refine ⟨D, l, acc, xs.drop ys.length, rfl, rfl, s4 _ _ e2, upd_same, ?_, fun q hq => ?_⟩
        · have := dn2.length
          rw [List.length_map] at this
          rw [List.length_drop]
          exact Nat.le_of_lt (small1000 (by omega))
        · have s5 := s4.trans (snew (o := .lst (acc ++ xs.drop ys.length)) hq)
          have dd : DnAll (upd (upd H3 l (.lst (xs.drop ys.length))) q (.lst (acc ++ xs.drop ys.length))) (acc ++ xs.drop ys.length) ((ns ++ R.drop ys.length).map encN) := by
            rw [List.map_append, List.map_drop]
            exact DnAll.app (DnAll.mono s5 _ _ dn2) (DnAll.mono (s2.trans s5) _ _ (dnAll_drop' ra _))
          refine ⟨q, _, ns ++ R.drop ys.length, rfl, SqL.of upd_same, dd, by rw [List.length_append, List.length_drop]; omega, fun t a' H5 dt ⟨kx, _, et⟩ lastt crt s6 => ?_⟩
          refine k t a' H5 dt ⟨fun n hn' => ?_, lastt⟩ (fun j d => ?_) ((s1.trans s2).trans (s5.trans s6))
          · rw [et] at hn'
            rcases List.mem_append.mp (List.mem_of_mem_take hn') with h | h
            · obtain ⟨j, hj⟩ := List.mem_iff_getElem?.mp h
              exact (hn j n hj).1
            · exact zR.1.1 n (List.mem_of_mem_drop h)
          · rw [crt, ← eq]
            rcases Nat.lt_or_ge j ns.length with c | c
            · have e1 : (ns ++ R.drop ys.length).getD j [] = ns[j] := getD_at (by rw [List.getElem?_append_left c, List.getElem?_eq_getElem c])
              show co ((ns ++ R.drop ys.length).getD j []) d = _
              rw [e1]
              exact (hn j _ (List.getElem?_eq_getElem c)).2 d
            · have e1 : (ns ++ R.drop ys.length).getD j [] = R.getD j [] := by
                rw [List.getD_eq_getElem?_getD, List.getD_eq_getElem?_getD, List.getElem?_append_right c, List.getElem?_drop]
                congr 2
                omega
              show co ((ns ++ R.drop ys.length).getD j []) d = _
              rw [e1, cr_off (r := S) (by omega), Rat.add_zero]
              rfl
abbrev s_whole_slope : Stmt := top 24
abbrev nsWSlo : List Str := ["whole", "k"]
theorem sc_whole_slope : FnScope nsWSlo ["whole"] (defScope s_whole_slope) := ⟨rfl, rfl, rfl, by decide +kernel, rfl, by decide +kernel, by decide +kernel⟩
theorem ok_whole_slope {f f_scaled : Addr} {fd d_scaled : FuncData}  (F : Fun K "whole_slope" "whole_slope" s_whole_slope f fd) (T : Bt mg) (p_scaled : Kn P w K mg base 4 "scaled" ["number", "top", "bottom"] spScaled f_scaled d_scaled) : FnOk P w K mg base CX0 5 f fd ["whole"] spWSlo := by
  refine F.ok sc_whole_slope (fun vs H Q E h => ?_) (fun cdv A outer s H vs Q E hr h => ?_)
  · obtain ⟨u, r, C, L, ok, rfl, _⟩ := h
    rfl
  · obtain ⟨u, r, C, L, ok, rfl, hu, hr_, few, c1, l64, lt, cw, k⟩ := h
    refine ⟨_, pss_one (ps_ret (pe_callTy call_tuple_of (by rfl) T.tuple (by decide +kernel) (pa_cons (pe_lc (own := [("k", 1)]) (g := (gName 1)) (tt := tYes) rfl sc_whole_slope.nd (pi_range2 rfl T.range (pa_cons pe_int (pa_cons (pe_callB call_len (by rfl) T.len PySem.boot_len (pa_cons (pv 0) pa_nil)) pa_nil))) (blkOk_by (own := [("k", 1)]) (N := nsWSlo) (sc := defScope s_whole_slope) (by decide +kernel)) (fun _ _ _ _ _ => pg_name (i := 1) sc_whole_slope.nd rfl (Or.inl rfl)) (fun _ _ _ _ _ => pts_nil) (fun _ _ _ _ _ => (pe_call p_scaled.ok (hr.mono (by decide)) rfl p_scaled.mg p_scaled.kp p_scaled.bd .nil pass0 (pa_cons (pe_ix (r := rIx K) ix_seq (pv 0) (pv 1) (fun _ _ => rfl)) (pa_cons (pv 1) (pa_cons pe_int pa_nil)))))) pa_nil))), ?_⟩
    obtain ⟨a, xs, rfl, ea, ra⟩ := dn_R hu
    have la : xs.length = r.length := by rw [ra.length, List.length_map]
    have l1 := hr_.2.2
    refine ⟨_, rfl, .ref a, xs.length, rfl, .inr ⟨xs, SqT.of ea, rfl⟩, ?_⟩
    refine ⟨1, _, rfl, ⟨by decide, by decide, by omega, by omega⟩, fun D hD => lc_enc (enc := encN) encN_tn (walk_range (lo := 1) (n := ((xs.length : Int) - 1).toNat)) (fun _ _ => trivial) (fun j m => CN ok m ∧ ∀ d, co m d = Rat.divInt ((j : Int) + 1) 1 * cr r (j + 1) d) (by omega) hD (fun j x H2 H3 Q' hj s2 y kk => ?_) fun acc ns H2 e2 dn2 ln hn s2 => ?_⟩
    · obtain ⟨rfl, rfl⟩ := y
      obtain ⟨n, en⟩ : ∃ n, r[j + 1]? = some n := ⟨_, List.getElem?_eq_getElem (by omega)⟩
      obtain ⟨x, ex, dx⟩ := row_at ra en
      have ei : (1 : Int) + (j : Int) = ((j + 1 : Nat) : Int) := by omega
      refine ⟨rfl, _, rfl, _, rfl, .inr (.inl ⟨a, xs, _, x, rfl, rfl, SqT.of (s2 _ _ ea), by rw [ei]; exact atI_nat ex, _, rfl, ?_⟩)⟩
      refine ⟨x, n, _, 1, C, 9, L, ok, rfl, Dn.mono s2 _ _ dx, hr_.nu (List.mem_of_getElem? en), few, c1, by show _ < 512; omega, by decide, by decide, l64, by rw [show C + 9 + 1 = C + 10 by omega]; exact lt, by omega, fun m z H4 dz nz ez s4 => ?_⟩
      refine kk _ m H4 dz ⟨nz.1, fun d => ?_⟩ s4
      unfold cr
      rw [ez, getD_at en, Int.add_comm]
    · refine ⟨D, acc, rfl, .inl ⟨SqL.of e2, fun q hq => ?_⟩⟩
      have sq := snew (o := .tup acc) hq
      have lnr : ns.length = r.length - 1 := by omega
      have crn : ∀ (j : Nat) d, cr ns j d = Rat.divInt ((j : Int) + 1) 1 * cr r (j + 1) d := fun j d => by
        rcases Nat.lt_or_ge j ns.length with c | c
        · show co (ns.getD j []) d = _
          rw [getD_at (List.getElem?_eq_getElem c)]
          exact (hn j _ (List.getElem?_eq_getElem c)).2 d
        · rw [cr_off c, cr_off (by omega), Rat.mul_zero]
      refine k ns q _ (.tup upd_same (DnAll.mono sq _ _ dn2)) ⟨fun n hn' => ?_, fun z => ?_⟩ lnr crn (s2.trans sq)
      · obtain ⟨j, hj⟩ := List.mem_iff_getElem?.mp hn'
        exact (hn j n hj).1
      · have l0 : 0 < ns.length := by
          rcases Nat.eq_zero_or_pos ns.length with h | h
          · rw [List.length_eq_zero_iff.mp h] at z; cases z
          · exact h
        obtain ⟨d, hd⟩ := cr_last hr_.1 (fun e => by rw [e] at lnr; have : ns.length = 0 := lnr; omega)
        have e1 := crn (ns.length - 1) d
        rw [show ns.length - 1 + 1 = r.length - 1 by omega] at e1
        have e2' : cr ns (ns.length - 1) d = 0 := by
          rw [List.getLast?_eq_getElem?] at z
          unfold cr
          rw [getD_at z]
          rfl
        rw [e2'] at e1
        rcases Rat.mul_eq_zero.mp e1.symm with h | h
        · exact frac_ne (by decide) (by omega) h
        · exact hd h
end
end N3

namespace N3
open PySem PySem.Spec PyProof.Rows L2 N2
/-! ### poles of quotients -/
theorem encPl_shaped (p : Pl) : SeqAt.shaped (encPl p) = true := shaped_of (by simp [encPl, PyData.canLay0, PyData.canLayAll0]) (by simp [encPl, PyData.depth, PyData.depthAll])
theorem eqv_pl (p q : Pl) : PyData.eqv (encPl p) (encPl q) = decide (p = q) := by
  obtain ⟨a, b⟩ := p
  obtain ⟨c, d⟩ := q
  simp only [encPl, PyData.eqv, PyData.eqvAll, Bool.and_true]
  by_cases h1 : a = c
  · by_cases h2 : b = d
    · simp [h1, h2]
    · simp [h1, h2]
  · simp [h1]
theorem pw_take {α : Type} {r : α → α → Prop} {l : List α} (h : l.Pairwise r) {i : Nat} {x : α} (e : l[i]? = some x) : (∀ y ∈ l.take i, r y x) ∧ ∀ y ∈ l.drop (i + 1), r x y := by
  have hi : i < l.length := (List.getElem?_eq_some_iff.mp e).1
  have ed : l[i] = x := (List.getElem?_eq_some_iff.mp e).2
  rw [← List.take_append_drop i l, List.drop_eq_getElem_cons hi, ed, List.pairwise_append, List.pairwise_cons] at h
  exact ⟨fun y hy => h.2.2 y hy x List.mem_cons_self, fun y hy => h.2.1.1 y hy⟩
theorem mem_drop_at {α : Type} {l : List α} {i : Nat} {x : α} (e : l[i]? = some x) (y : α) : y ∈ l.drop i ↔ y = x ∨ y ∈ l.drop (i + 1) := by
  have hi : i < l.length := (List.getElem?_eq_some_iff.mp e).1
  have ed : l[i] = x := (List.getElem?_eq_some_iff.mp e).2
  rw [List.drop_eq_getElem_cons hi, ed, List.mem_cons]
theorem CTs.pw {ok : Int → Prop} : ∀ {ts : List Tl}, CTs ok ts → (ts.map (·.1)).Pairwise before
  | [], _ => .nil
  | t :: ts, h => by
    rw [List.map_cons, List.pairwise_cons]
    refine ⟨fun p hp => ?_, h.tail.pw⟩
    obtain ⟨s, hs, rfl⟩ := List.mem_map.mp hp
    exact h.up s hs
theorem spl_log {p : Pl} (h : SPl p) : p.1.natAbs.log2 < 1920 ∧ p.2.natAbs.log2 < 1920 := by
  have g : ∀ n : Nat, n ≤ 20 → n.log2 < 1920 := fun n hn => by
    rcases Nat.eq_zero_or_pos n with z | z
    · rw [z]; decide
    · have : n < 2 ^ 5 := by omega
      have := (Nat.log2_lt (by omega : n ≠ 0)).mpr this
      omega
  exact ⟨g _ h.1, g _ (by have := h.2; omega)⟩
def spPolesOf : Sp := fun vs H Q _ => ∃ (u : V) (q : Qt), vs = [u] ∧ Dn H u (encQ q) ∧ q.2.length ≤ 400 ∧
  ∀ (l : Addr) (xs : List V) (H' : Hp), H l = none → H' l = some (.lst xs) → DnAll H' xs ((q.2.map (·.1)).map encPl) → Same H H' → Q (.ref l) H'
def spAllPl : Sp := fun vs H Q _ => ∃ (u v : V) (q r : Qt) (ok : Int → Prop), vs = [u, v] ∧ Dn H u (encQ q) ∧ Dn H v (encQ r) ∧ CTs ok q.2 ∧ CTs ok r.2 ∧ (∀ t ∈ q.2, SPl t.1) ∧ (∀ t ∈ r.2, SPl t.1) ∧ q.2.length ≤ 400 ∧ r.2.length ≤ 400 ∧
  ∀ (l : Addr) (xs : List V) (ps : List Pl) (H' : Hp), H' l = some (.lst xs) → DnAll H' xs (ps.map encPl) → ps.Pairwise before → ps.length ≤ 800 → (∀ p, p ∈ ps ↔ p ∈ q.2.map (·.1) ∨ p ∈ r.2.map (·.1)) → Same H H' → Q (.ref l) H'
def spRowOf : Sp := fun vs H Q _ => ∃ (u c : V) (q : Qt) (p : Pl), vs = [u, c] ∧ Dn H u (encQ q) ∧ Dn H c (encPl p) ∧
  ∀ (v : V) (H' : Hp), Dn H' v (encR (tl q.2 p)) → Same H H' → Q v H'
/-- the poles that stand in a list so far -/
structure Mg (A B : List Pl) (k i : Nat) (ps : List Pl) : Prop where
  pw : ps.Pairwise before
  mem : ∀ p, p ∈ ps ↔ p ∈ A.take k ∨ p ∈ B.take i
  upA : ∀ p ∈ ps, ∀ s ∈ A.drop k, before p s
  upB : ∀ p ∈ ps, ∀ s ∈ B.drop i, before p s
  len : ps.length ≤ k + i
theorem Mg.stepA {A B : List Pl} {k i : Nat} {ps : List Pl} {a b : Pl} (m : Mg A B k i ps) (hA : A.Pairwise before) (hB : B.Pairwise before) (cA : ∀ p ∈ A, CPl p) (cB : ∀ p ∈ B, CPl p) (ea : A[k]? = some a) (eb : B[i]? = some b) (lt : before a b) : Mg A B (k + 1) i (ps ++ [a]) := by
  have da := mem_drop_at ea
  have db := mem_drop_at eb
  refine ⟨?_, fun p => ?_, fun p hp s hs => ?_, fun p hp s hs => ?_, by rw [List.length_append]; have := m.len; show _ + 1 ≤ _; omega⟩
  · rw [List.pairwise_append]
    exact ⟨m.pw, List.pairwise_singleton _ _, fun p hp s hs => by rw [List.mem_singleton.mp hs]; exact m.upA p hp a ((da a).mpr (.inl rfl))⟩
  · rw [List.mem_append, m.mem, mem_take_succ ea, List.mem_singleton]
    constructor
    · rintro ((h | h) | h)
      · exact .inl (.inl h)
      · exact .inr h
      · exact .inl (.inr h)
    · rintro ((h | h) | h)
      · exact .inl (.inl h)
      · exact .inr h
      · exact .inl (.inr h)
  · rcases List.mem_append.mp hp with hp | hp
    · exact m.upA p hp s ((da s).mpr (.inr hs))
    · rw [List.mem_singleton.mp hp]; exact (pw_take hA ea).2 s hs
  · rcases List.mem_append.mp hp with hp | hp
    · exact m.upB p hp s hs
    · rw [List.mem_singleton.mp hp]
      rcases (db s).mp hs with rfl | hs'
      · exact lt
      · have mb := List.mem_of_getElem? eb
        exact bf_tr (cA a (List.mem_of_getElem? ea)) (cB b mb) (cB s (List.mem_of_mem_drop hs)) lt ((pw_take hB eb).2 s hs')
theorem Mg.stepB {A B : List Pl} {k k' i : Nat} {ps : List Pl} {b : Pl} (m : Mg A B k i ps) (hB : B.Pairwise before) (eb : B[i]? = some b) (kk : k ≤ k') (h1 : ∀ p, p ∈ A.take k' ↔ p ∈ A.take k ∨ (k < k' ∧ p = b)) (h2 : ∀ s ∈ A.drop k', before b s) (h3 : ∀ s ∈ A.drop k', s ∈ A.drop k) : Mg A B k' (i + 1) (ps ++ [b]) := by
  have db := mem_drop_at eb
  refine ⟨?_, fun p => ?_, fun p hp s hs => ?_, fun p hp s hs => ?_, by rw [List.length_append]; have := m.len; show _ + 1 ≤ _; omega⟩
  · rw [List.pairwise_append]
    exact ⟨m.pw, List.pairwise_singleton _ _, fun p hp s hs => by rw [List.mem_singleton.mp hs]; exact m.upB p hp b ((db b).mpr (.inl rfl))⟩
  · rw [List.mem_append, m.mem, mem_take_succ eb, List.mem_singleton, h1]
    constructor
    · rintro ((h | h) | h)
      · exact .inl (.inl h)
      · exact .inr (.inl h)
      · exact .inr (.inr h)
    · rintro ((h | ⟨_, h⟩) | h | h)
      · exact .inl (.inl h)
      · exact .inr h
      · exact .inl (.inr h)
      · exact .inr h
  · rcases List.mem_append.mp hp with hp | hp
    · exact m.upA p hp s (h3 s hs)
    · rw [List.mem_singleton.mp hp]; exact h2 s hs
  · rcases List.mem_append.mp hp with hp | hp
    · exact m.upB p hp s ((db s).mpr (.inr hs))
    · rw [List.mem_singleton.mp hp]; exact (pw_take hB eb).2 s hs
theorem pl_at {H : Hp} {xs : List V} {ps : List Pl} (h : DnAll H xs (ps.map encPl)) {j : Nat} {p : Pl} (e : ps[j]? = some p) : ∃ a, xs[j]? = some (.ref a) ∧ H a = some (.tup [.int p.1, .int p.2]) := by
  obtain ⟨x, ex, dx⟩ := dn_at h (show (ps.map encPl)[j]? = some (encPl p) by rw [List.getElem?_map, e]; rfl)
  obtain ⟨a, rfl, ha⟩ := dn_pl dx
  exact ⟨a, ex, ha⟩
section
variable {P : Program} {w : World} {K : PySem.W.Frag} {mg : Str → Option Value} {base : Heap}
abbrev s_poles_of : Stmt := top 26
abbrev nsPOf : List Str := ["quotient", "pole", "_"]
theorem sc_poles_of : FnScope nsPOf ["quotient"] (defScope s_poles_of) := ⟨rfl, rfl, rfl, by decide +kernel, rfl, by decide +kernel, by decide +kernel⟩
theorem ok_poles_of {f  : Addr} {fd  : FuncData}  (F : Fun K "poles_of" "poles_of" s_poles_of f fd) (T : Bt mg)  : FnOk P w K mg base CX0 1 f fd ["quotient"] spPolesOf := by
  refine F.ok sc_poles_of (fun vs H Q E h => ?_) (fun cdv A outer s H vs Q E hr h => ?_)
  · obtain ⟨u, q, rfl, _⟩ := h
    rfl
  · obtain ⟨u, q, rfl, hu, hl, k⟩ := h
    refine ⟨_, pss_one (ps_ret (pe_lc (own := [("pole", 1), ("_", 2)]) (g := (gTup K 2 (gCons (gName 1) (gCons (gName 2) gNil)))) (tt := tYes) rfl sc_poles_of.nd (pi_tup (pe_ix (r := rIx K) ix_seq (pv 0) pe_int (fun _ _ => rfl))) (blkOk_by (own := [("pole", 1), ("_", 2)]) (N := nsPOf) (sc := defScope s_poles_of) (by decide +kernel)) (fun _ _ _ _ _ => pg_tup rfl (pgs_cons (pg_name (i := 1) sc_poles_of.nd rfl (Or.inl rfl)) (pgs_cons (pg_name (i := 2) sc_poles_of.nd rfl (Or.inl rfl)) pgs_nil))) (fun _ _ _ _ _ => pts_nil) (fun _ _ _ _ _ => (pv 1)))), ?_⟩
    obtain ⟨a, v1, v2, rfl, ea, d1, d2⟩ := dn_pair hu
    obtain ⟨a2, xs, rfl, e2, r2⟩ := dn_t d2
    have lx : xs.length = q.2.length := by rw [r2.length, List.length_map]
    refine ⟨_, rfl, .inr (.inl ⟨a, _, _, _, rfl, rfl, SqT.of ea, rfl, a2, rfl, ⟨_, SqT.of e2⟩, fun D hD => lc_enc (enc := encPl) encPl_tn (walk_tup (K := K) (a := a2) (xs := xs)) (fun H' s' => SqT.of (s' _ _ e2)) (fun j p => (q.2.map (·.1))[j]? = some p) (by omega) hD (fun j x H2 H3 Q' hj s2 y kk => ?_) fun acc ns H2 e3 dn ln hn s2 => ?_⟩)⟩
    · obtain ⟨rfl, hx⟩ := y
      obtain ⟨t, ax, p1, rv, et, rfl, hax, dr, dp⟩ := dn_rows r2 j x hx
      obtain ⟨ap, rfl, hap⟩ := dn_pl dp
      refine ⟨ax, _, rfl, SqT.of (s2 _ _ hax), rfl, _, _, rfl, _, _, rfl, rfl, rfl, _, rfl, ?_⟩
      exact kk _ t.1 _ (Dn.mono s2 _ _ dp) (by rw [List.getElem?_map, et]; rfl) (Same.refl _)
    · have e : ns = q.2.map (·.1) := by
        refine List.ext_getElem? fun j => ?_
        cases c : ns[j]? with
        | some p => exact (hn j p c).symm
        | none =>
          rw [List.getElem?_eq_none_iff] at c
          exact (List.getElem?_eq_none (by rw [List.length_map]; omega)).symm
      subst e
      exact k D acc H2 hD e3 dn s2
abbrev s_row_of_pole : Stmt := top 28
abbrev nsROf : List Str := ["quotient", "c", "pole", "row"]
theorem sc_row_of_pole : FnScope nsROf ["quotient", "c"] (defScope s_row_of_pole) := ⟨rfl, rfl, rfl, by decide +kernel, rfl, by decide +kernel, by decide +kernel⟩
theorem ok_row_of_pole {f  : Addr} {fd  : FuncData}  (F : Fun K "row_of_pole" "row_of_pole" s_row_of_pole f fd) (T : Bt mg)  : FnOk P w K mg base CX0 1 f fd ["quotient", "c"] spRowOf := by
  refine F.ok sc_row_of_pole (fun vs H Q E h => ?_) (fun cdv A outer s H vs Q E hr h => ?_)
  · obtain ⟨u, c, q, p, rfl, _⟩ := h
    rfl
  · obtain ⟨u, c, q, p, rfl, hu, hc, k⟩ := h
    refine ⟨_, pss_cons (ps_for PassesOwn.never rfl (pi_tup (pe_ix (r := rIx K) ix_seq (pv 0) pe_int (fun _ _ => rfl))) (pg_tup rfl (pgs_cons (pg_name (i := 2) sc_row_of_pole.nd rfl (Or.inl rfl)) (pgs_cons (pg_name (i := 3) sc_row_of_pole.nd rfl (Or.inl rfl)) pgs_nil)))
        (pss_one (ps_if (pt_cmpR (op_eqD hr.units) (pv 2) (pv 1) (nomark _))
          (pss_one (ps_ret (pv 3)))
          pss_nil)))
      (pss_one (ps_ret (pe_tup pa_nil))), ?_⟩
    obtain ⟨a, v1, v2, rfl, ea, d1, d2⟩ := dn_pair hu
    obtain ⟨a2, xs, rfl, e2, r2⟩ := dn_t d2
    have lx : xs.length = q.2.length := by rw [r2.length, List.length_map]
    refine ⟨_, rfl, .inr (.inl ⟨a, _, _, _, rfl, rfl, SqT.of ea, rfl, a2, rfl, ⟨_, SqT.of e2⟩, for_tup (K := K) (a := a2) (xs := xs) (fun i σ H' => (∃ x2 x3, σ = [some (.ref a), some c, x2, x3]) ∧ (∀ t ∈ q.2.take i, t.1 ≠ p) ∧ Same H H')
      ⟨⟨_, _, rfl⟩, fun t ht => by simp at ht, Same.refl _⟩ (fun i σ H' _ ⟨_, _, s'⟩ => SqT.of (s' _ _ e2)) ?_ ?_⟩)⟩
    · rintro i x σ H' hx ⟨⟨x2, x3, rfl⟩, no, s'⟩
      obtain ⟨t, ax, p1, rv, et, rfl, hax, dr, dp⟩ := dn_rows r2 i x hx
      refine ⟨ax, _, rfl, SqT.of (s' _ _ hax), rfl, _, _, rfl, _, _, rfl, rfl, ?_⟩
      refine ⟨_, rfl, _, rfl, encPl t.1, encPl p, tn_dp _ _ (encPl_tn _) (Dn.mono s' _ _ dp), tn_dp _ _ (encPl_tn _) (Dn.mono s' _ _ hc), encPl_shaped _, encPl_shaped _, _, rfl, ?_⟩
      rw [eqv_pl]
      refine ite_b (fun c1 => ?_) (fun c1 => ?_)
      · have c1' := of_decide_eq_true c1
        refine ⟨_, rfl, k rv H' ?_ s'⟩
        have : tl q.2 p = t.2 := by
          have e : q.2 = q.2.take i ++ t :: q.2.drop (i + 1) := by
            have hi : i < q.2.length := (List.getElem?_eq_some_iff.mp et).1
            have ed : q.2[i] = t := (List.getElem?_eq_some_iff.mp et).2
            rw [← ed, ← List.drop_eq_getElem_cons hi, List.take_append_drop]
          rw [e, tl_app, if_neg (fun m => by obtain ⟨s, hs, e'⟩ := List.mem_map.mp m; exact no s hs e')]
          exact if_pos c1'
        rw [this]
        exact Dn.mono s' _ _ dr
      · have c1' := of_decide_eq_false c1
        refine ⟨⟨_, _, rfl⟩, fun s hs => ?_, s'⟩
        rcases (mem_take_succ et s).mp hs with h | h
        · exact no s h
        · rw [h]; exact c1'
    · rintro σ H' ⟨⟨x2, x3, rfl⟩, no, s'⟩
      rw [lx, List.take_length] at no
      refine ⟨Nat.zero_le _, fun r hr' => k _ _ ?_ (s'.trans (snew hr'))⟩
      rw [tl_none no]
      exact .tup upd_same .nil
abbrev s_all_poles : Stmt := top 27
abbrev nsAPl : List Str := ["one", "other", "found", "waiting", "at", "pole"]
theorem sc_all_poles : FnScope nsAPl ["one", "other"] (defScope s_all_poles) := ⟨rfl, rfl, rfl, by decide +kernel, rfl, by decide +kernel, by decide +kernel⟩
theorem ok_all_poles {f f_poles_of f_comes_before : Addr} {fd d_poles_of d_comes_before : FuncData}  (F : Fun K "all_poles" "all_poles" s_all_poles f fd) (T : Bt mg) (p_poles_of : Kn P w K mg base 1 "poles_of" ["quotient"] spPolesOf f_poles_of d_poles_of) (p_comes_before : Kn P w K mg base 1 "comes_before" ["one", "other"] spBefore f_comes_before d_comes_before) : FnOk P w K mg base CX0 3 f fd ["one", "other"] spAllPl := by
  refine F.ok sc_all_poles (fun vs H Q E h => ?_) (fun cdv A outer s H vs Q E hr h => ?_)
  · obtain ⟨u, v, q, r, ok, rfl, _⟩ := h
    rfl
  · obtain ⟨u, v, q, r, ok, rfl, hu, hv, cq, cr_, sq, sr, lq, lr, k⟩ := h
    refine ⟨_, pss_cons (ps_set (i := 2) sc_all_poles.nd rfl (Or.inl rfl) (pe_lst pa_nil))
      (pss_cons (ps_set (i := 3) sc_all_poles.nd rfl (Or.inl rfl) (pe_call p_poles_of.ok (hr.mono (by decide)) rfl p_poles_of.mg p_poles_of.kp p_poles_of.bd .nil pass0 (pa_cons (pv 0) pa_nil)))
      (pss_cons (ps_set (i := 4) sc_all_poles.nd rfl (Or.inl rfl) pe_int)
      (pss_cons (ps_for PassesOwn.never rfl (pi_list (pe_call p_poles_of.ok (hr.mono (by decide)) rfl p_poles_of.mg p_poles_of.kp p_poles_of.bd .nil pass0 (pa_cons (pv 1) pa_nil))) (pg_name (i := 5) sc_all_poles.nd rfl (Or.inl rfl))
        (C8.pss_cut (ps_while PassesOwn.never (PW.pt (pw_and (pt_cmpR op_lt (pv 4) (pe_callB call_len (by rfl) T.len PySem.boot_len (pa_cons (pv 3) pa_nil)) (nomark _)) (pw_and1 (pt_val (pe_call p_comes_before.ok (hr.mono (by decide)) rfl p_comes_before.mg p_comes_before.kp p_comes_before.bd .nil pass0 (pa_cons (pe_ix (r := rIx K) ix_seq (pv 3) (pv 4) (fun _ _ => rfl)) (pa_cons (pv 5) pa_nil)))))))
          (pss_cons (ps_expr (pe_bm PySem.F.plainAttrs_list PySem.F.slot_list_append PySem.F.type_list_append mt_append (pv 2) (pa_cons (pe_ix (r := rIx K) ix_seq (pv 3) (pv 4) (fun _ _ => rfl)) pa_nil)))
          (pss_one (ps_aug (i := 4) sc_all_poles.nd rfl (.inl rfl) pe_int ip_add))))
        (C8.pss_cut (ps_if (PW.pt (pw_and (pt_cmpR op_lt (pv 4) (pe_callB call_len (by rfl) T.len PySem.boot_len (pa_cons (pv 3) pa_nil)) (nomark _)) (pw_and1 (pt_cmpR (op_eqD hr.units) (pe_ix (r := rIx K) ix_seq (pv 3) (pv 4) (fun _ _ => rfl)) (pv 5) (nomark _)))))
          (pss_one (ps_aug (i := 4) sc_all_poles.nd rfl (.inl rfl) pe_int ip_add))
          pss_nil)
        (pss_one (ps_expr (pe_bm PySem.F.plainAttrs_list PySem.F.slot_list_append PySem.F.type_list_append mt_append (pv 2) (pa_cons (pv 5) pa_nil)))))))
      (pss_one (ps_ret (pe_op op_cat (pv 2) (pe_slice sl_list (pv 3) (po_some (pv 4)) po_none))))))), ?_⟩
    refine ⟨Nat.zero_le _, fun fo hfo => ?_⟩
    have s0 := snew (o := .lst []) hfo
    refine ⟨_, rfl, u, q, rfl, Dn.mono s0 _ _ hu, lq, fun wa xs H1 nwa e1 d1 s1 => ?_⟩
    refine ⟨_, rfl, v, r, rfl, Dn.mono (s0.trans s1) _ _ hv, lr, fun wb ys H2 nwb e2 d2 s2 => ?_⟩
    obtain ⟨A_, eA⟩ : ∃ l, q.2.map (·.1) = l := ⟨_, rfl⟩
    obtain ⟨B_, eB⟩ : ∃ l, r.2.map (·.1) = l := ⟨_, rfl⟩
    have pwA : A_.Pairwise before := eA ▸ cq.pw
    have pwB : B_.Pairwise before := eB ▸ cr_.pw
    have sA : ∀ p ∈ A_, SPl p := fun p hp => by
      rw [← eA] at hp
      obtain ⟨t, ht, rfl⟩ := List.mem_map.mp hp
      exact sq t ht
    have sB : ∀ p ∈ B_, SPl p := fun p hp => by
      rw [← eB] at hp
      obtain ⟨t, ht, rfl⟩ := List.mem_map.mp hp
      exact sr t ht
    have lA : A_.length ≤ 400 := by rw [← eA, List.length_map]; exact lq
    have lB : B_.length ≤ 400 := by rw [← eB, List.length_map]; exact lr
    rw [eA] at d1
    rw [eB] at d2
    rw [eA, eB] at k
    have fo2 : H2 fo = some (.lst []) := s2 _ _ (s1 _ _ upd_same)
    have wa2 : H2 wa = some (.lst xs) := s2 _ _ e1
    have nwf : wa ≠ fo := (ne_of_none upd_same nwa).symm
    have nbf : wb ≠ fo := (ne_of_none (s1 _ _ upd_same) nwb).symm
    have d1' := DnAll.mono s2 _ _ d1
    have lxs : xs.length = A_.length := by rw [d1.length, List.length_map]
    have lys : ys.length = B_.length := by rw [d2.length, List.length_map]
    have s02 : Same H H2 := (s0.trans s1).trans s2
    have tup2 : ∀ {H' : Hp}, (∀ b o, H2 b = some o → b ≠ fo → H' b = some o) → TupS H2 H' := fun kk b zs e => kk b _ e (ne_of e fo2 (by intro z; cases z))
    have tpl : ∀ (ps : List Pl), ∀ d ∈ ps.map encPl, Tn d := fun ps => tn_maps encPl_tn ps
    refine ⟨wb, rfl, ⟨_, SqL.of e2⟩, for_list (K := K) (a := wb) (xs := ys) (fun i σ H' => ∃ (k : Nat) (ps : List Pl) (acc : List V) (x5 : Option V), σ = [some u, some v, some (.ref fo), some (.ref wa), some (.int (k : Int)), x5] ∧ H' fo = some (.lst acc) ∧ DnAll H' acc (ps.map encPl) ∧ Mg A_ B_ k i ps ∧ k ≤ A_.length ∧ ∀ b o, H2 b = some o → b ≠ fo → H' b = some o)
      ⟨0, [], [], none, rfl, fo2, .nil, ⟨.nil, fun p => by simp, fun p hp => by simp at hp, fun p hp => by simp at hp, by simp⟩, Nat.zero_le _, fun b o e _ => e⟩ (fun i σ H' _ ⟨_, _, _, _, _, _, _, _, _, kk⟩ => SqL.of (kk _ _ e2 nbf)) ?_ ?_⟩
    · rintro i x σ H3 hx ⟨k0, ps0, acc0, x5, rfl, f0, g0, m0, kl0, kk0⟩
      have hi : i < ys.length := (List.getElem?_eq_some_iff.mp hx).1
      obtain ⟨b, eb⟩ : ∃ b, B_[i]? = some b := ⟨_, List.getElem?_eq_getElem (by omega)⟩
      obtain ⟨bp, ex, hbp⟩ := pl_at d2 eb
      rw [ex] at hx
      cases hx
      have sb := sB b (List.mem_of_getElem? eb)
      refine ⟨fun σ H' => ∃ (k : Nat) (ps : List Pl) (acc : List V), σ = [some u, some v, some (.ref fo), some (.ref wa), some (.int (k : Int)), some (.ref bp)] ∧ H' fo = some (.lst acc) ∧ DnAll H' acc (ps.map encPl) ∧ Mg A_ B_ k i ps ∧ k ≤ A_.length ∧ (∀ b o, H2 b = some o → b ≠ fo → H' b = some o) ∧ (k = A_.length ∨ ∃ a, A_[k]? = some a ∧ ¬ before a b), ?_, ?_⟩
      · refine ⟨fun m σ H' => ∃ (k : Nat) (ps : List Pl) (acc : List V), σ = [some u, some v, some (.ref fo), some (.ref wa), some (.int (k : Int)), some (.ref bp)] ∧ H' fo = some (.lst acc) ∧ DnAll H' acc (ps.map encPl) ∧ Mg A_ B_ k i ps ∧ k ≤ A_.length ∧ (∀ b o, H2 b = some o → b ≠ fo → H' b = some o) ∧ m = A_.length - k, ⟨_, k0, ps0, acc0, rfl, f0, g0, m0, kl0, kk0, rfl⟩, ?_⟩
        rintro m σ H4 ⟨k1, ps, acc, rfl, f1, g1, mg1, kl, kk, rfl⟩
        have lacc : acc.length = ps.length := by rw [g1.length, List.length_map]
        have lps := mg1.len
        have wa4 : H4 wa = some (.lst xs) := kk _ _ wa2 nwf
        have bp4 : H4 bp = some (.tup [.int b.1, .int b.2]) := tup2 kk _ _ hbp
        refine ⟨_, rfl, _, rfl, .ref wa, xs.length, rfl, .inl ⟨xs, SqL.of wa4, rfl⟩, _, _, rfl, rfl, _, rfl, ite_b (fun c => ?_) (fun c => ?_)⟩
        · have c' : k1 < A_.length := by have := of_decide_eq_true c; omega
          obtain ⟨a, ea⟩ : ∃ a, A_[k1]? = some a := ⟨_, List.getElem?_eq_getElem c'⟩
          obtain ⟨ap, eap, hap⟩ := pl_at d1' ea
          have ap4 : H4 ap = some (.tup [.int a.1, .int a.2]) := tup2 kk _ _ hap
          have sa := sA a (List.mem_of_getElem? ea)
          refine ⟨_, rfl, _, rfl, .inl ⟨wa, xs, _, .ref ap, rfl, rfl, SqL.of wa4, atI_nat eap, _, rfl, ?_⟩⟩
          refine ⟨ap, bp, a, b, rfl, ap4, bp4, (spl_log sa).1, (spl_log sa).2, (spl_log sb).1, (spl_log sb).2, _, rfl, ite_b (fun c2 => ?_) (fun c2 => ?_)⟩
          · have lt := of_decide_eq_true c2
            refine ⟨fun σ' H' => σ' = [some u, some v, some (.ref fo), some (.ref wa), some (.int ((k1 + 1 : Nat) : Int)), some (.ref bp)] ∧ H' = upd H4 fo (.lst (acc ++ [.ref ap])), ?_, ?_⟩
            · rintro σ' H' ⟨rfl, rfl⟩
              have tp := lst_tups (o := .lst (acc ++ [.ref ap])) f1
              refine ⟨A_.length - (k1 + 1), by omega, k1 + 1, ps ++ [a], acc ++ [.ref ap], rfl, upd_same, ?_, mg1.stepA pwA pwB (fun p hp => (sA p hp).2.2.2) (fun p hp => (sB p hp).2.2.2) ea eb lt, by omega, fun z o eo nz => by rw [upd_ne nz]; exact kk z o eo nz, rfl⟩
              rw [List.map_append]
              exact DnAll.app (tnA_tups tp _ _ (tpl ps) g1) (.cons (.tup (tp _ _ ap4) (.cons (.int _) (.cons (.int _) .nil))) .nil)
            · refine ⟨_, rfl, .inl ⟨rfl, _, SqL.of f1⟩, _, rfl, _, rfl, .inl ⟨wa, xs, _, .ref ap, rfl, rfl, SqL.of wa4, atI_nat eap, fo, acc, _, rfl, rfl, f1, small1000 (by omega), ?_⟩⟩
              exact ⟨_, rfl, _, _, rfl, rfl, rfl, rfl⟩
          · exact ⟨k1, ps, acc, rfl, f1, g1, mg1, kl, kk, .inr ⟨a, ea, of_decide_eq_false c2⟩⟩
        · refine iteF ?_
          exact ⟨k1, ps, acc, rfl, f1, g1, mg1, kl, kk, .inl (by have := of_decide_eq_false c; omega)⟩
      · rintro σ H4 ⟨k1, ps, acc, rfl, f1, g1, mg1, kl, kk, hex⟩
        have lacc : acc.length = ps.length := by rw [g1.length, List.length_map]
        have lps := mg1.len
        have wa4 : H4 wa = some (.lst xs) := kk _ _ wa2 nwf
        have bp4 : H4 bp = some (.tup [.int b.1, .int b.2]) := tup2 kk _ _ hbp
        refine ⟨fun σ' H' => ∃ k' : Nat, σ' = [some u, some v, some (.ref fo), some (.ref wa), some (.int (k' : Int)), some (.ref bp)] ∧ H' = H4 ∧ k' ≤ A_.length ∧ Mg A_ B_ k' (i + 1) (ps ++ [b]), ?_, ?_⟩
        · refine ⟨_, rfl, _, rfl, .ref wa, xs.length, rfl, .inl ⟨xs, SqL.of wa4, rfl⟩, _, _, rfl, rfl, _, rfl, ite_b (fun c => ?_) (fun c => ?_)⟩
          · have c' : k1 < A_.length := by have := of_decide_eq_true c; omega
            rcases hex with h | ⟨a, ea, nb⟩
            · omega
            obtain ⟨ap, eap, hap⟩ := pl_at d1' ea
            have ap4 : H4 ap = some (.tup [.int a.1, .int a.2]) := tup2 kk _ _ hap
            have sa := sA a (List.mem_of_getElem? ea)
            have dA : ∀ {p : Addr} {x : Pl}, H4 p = some (.tup [.int x.1, .int x.2]) → Dn H4 (.ref p) (encPl x) := fun h => .tup h (.cons (.int _) (.cons (.int _) .nil))
            refine ⟨_, rfl, _, rfl, .inl ⟨wa, xs, _, .ref ap, rfl, rfl, SqL.of wa4, atI_nat eap, _, rfl, encPl a, encPl b, tn_dp _ _ (encPl_tn _) (dA ap4), tn_dp _ _ (encPl_tn _) (dA bp4), encPl_shaped _, encPl_shaped _, _, rfl, ?_⟩⟩
            rw [eqv_pl]
            refine ite_b (fun c2 => ?_) (fun c2 => ?_)
            · have ab : a = b := of_decide_eq_true c2
              subst ab
              refine ⟨_, rfl, _, _, rfl, rfl, k1 + 1, rfl, rfl, by omega, mg1.stepB pwB eb (by omega) (fun p => ?_) (pw_take pwA ea).2 (fun s hs => (mem_drop_at ea s).mpr (.inr hs))⟩
              rw [mem_take_succ ea]
              exact ⟨fun h => h.imp id fun e => ⟨by omega, e⟩, fun h => h.imp id fun e => e.2⟩
            · have ab : a ≠ b := of_decide_eq_false c2
              refine ⟨k1, rfl, rfl, kl, mg1.stepB pwB eb (Nat.le_refl _) (fun p => ⟨.inl, fun h => h.elim id fun e => absurd e.1 (Nat.lt_irrefl _)⟩) (fun s hs => ?_) (fun s hs => hs)⟩
              have ba : before b a := by
                by_cases h : before b a
                · exact h
                · exact absurd (bf_tot sa.2.2.2 sb.2.2.2 nb h) ab
              rcases (mem_drop_at ea s).mp hs with rfl | hs'
              · exact ba
              · exact bf_tr sb.2.2.2 sa.2.2.2 (sA s (List.mem_of_mem_drop hs')).2.2.2 ba ((pw_take pwA ea).2 s hs')
          · have c' : k1 = A_.length := by have := of_decide_eq_false c; omega
            refine iteF ?_
            refine ⟨k1, rfl, rfl, kl, mg1.stepB pwB eb (Nat.le_refl _) (fun p => ⟨.inl, fun h => h.elim id fun e => absurd e.1 (Nat.lt_irrefl _)⟩) (fun s hs => ?_) (fun s hs => hs)⟩
            rw [c', List.drop_length] at hs
            cases hs
        · rintro σ H5 ⟨k', rfl, rfl, kl', mg2⟩
          have tp := lst_tups (o := .lst (acc ++ [.ref bp])) f1
          refine ⟨_, rfl, .inl ⟨rfl, _, SqL.of f1⟩, _, rfl, fo, acc, _, rfl, rfl, f1, small1000 (by omega), ?_⟩
          refine ⟨k', ps ++ [b], acc ++ [.ref bp], _, rfl, upd_same, ?_, mg2, kl', fun z o eo nz => by rw [upd_ne nz]; exact kk z o eo nz⟩
          rw [List.map_append]
          exact DnAll.app (tnA_tups tp _ _ (tpl ps) g1) (.cons (.tup (tp _ _ bp4) (.cons (.int _) (.cons (.int _) .nil))) .nil)
    · rintro σ H3 ⟨k1, ps, acc, x5, rfl, f1, g1, mg1, kl, kk⟩
      rw [lys] at mg1
      have wa3 : H3 wa = some (.lst xs) := kk _ _ wa2 nwf
      have s3 : Same H H3 := fun b o e => kk _ _ (s02 _ _ e) (ne_of_none e hfo)
      refine ⟨_, rfl, _, rfl, _, rfl, _, rfl, ?_⟩
      dsimp only [tNoPart]
      refine ⟨wa, xs, rfl, SqL.of wa3, fun p hp => ?_⟩
      have sp := snew (o := .lst (cutV xs (some (k1 : Int)) none)) hp
      rw [cutFrom _ _ (by omega)] at sp ⊢
      have lps := mg1.len
      have lacc : acc.length = ps.length := by rw [g1.length, List.length_map]
      refine ⟨fo, p, acc, xs.drop k1, rfl, rfl, sp _ _ f1, upd_same, by rw [List.length_drop]; exact Nat.le_of_lt (small1000 (by omega)), fun z hz => ?_⟩
      have sz := sp.trans (snew (o := .lst (acc ++ xs.drop k1)) hz)
      refine k z _ (ps ++ A_.drop k1) _ upd_same ?_ ?_ (by rw [List.length_append, List.length_drop]; omega) (fun y => ?_) (s3.trans sz)
      · rw [List.map_append, List.map_drop]
        exact DnAll.app (DnAll.mono sz _ _ g1) (DnAll.mono sz _ _ (tnA_tups (tup2 kk) _ _ (fun d hd => tpl A_ d (List.mem_of_mem_drop hd)) (dnAll_drop' d1' k1)))
      · rw [List.pairwise_append]
        exact ⟨mg1.pw, pwA.drop, fun y hy s hs => mg1.upA y hy s hs⟩
      · rw [List.mem_append, mg1.mem, List.take_length]
        have e : y ∈ A_ ↔ y ∈ A_.take k1 ∨ y ∈ A_.drop k1 := by rw [← List.mem_append, List.take_append_drop]
        rw [e]
        constructor
        · rintro ((h | h) | h)
          · exact .inl (.inl h)
          · exact .inr h
          · exact .inl (.inr h)
        · rintro ((h | h) | h)
          · exact .inl (.inl h)
          · exact .inr h
          · exact .inl (.inr h)
end
end N3

namespace N3
open PySem PySem.Spec PyProof.Rows L2 N2
/-! ### quotients out of rows, sums and slopes -/
def spFromRows (K : PySem.W.Frag) : Sp := fun vs H Q _ => ∃ (w : V) (lp lr : Addr) (xs ys : List V) (r0 : List Nm) (ps : List Pl) (rs : List (List Nm)) (ok : Int → Prop), vs = [w, .ref lp, .ref lr] ∧ Dn H w (encR r0) ∧ SqL K H lp xs ∧ DnAll H xs (ps.map encPl) ∧ SqL K H lr ys ∧ DnAll H ys (rs.map encR) ∧ ps.length = rs.length ∧ ps.length ≤ 800 ∧
  ps.Pairwise before ∧ (∀ p ∈ ps, CPl p) ∧ (∀ r ∈ rs, CR ok r) ∧ CR ok r0 ∧
  ∀ (q : Qt) (a : Addr) (H' : Hp), Dn H' (.ref a) (encQ q) → CQ ok q → q.1 = r0 → (∀ (i : Nat) p r, ps[i]? = some p → rs[i]? = some r → tl q.2 p = r) → (∀ p, p ∉ ps → tl q.2 p = []) → Same H H' → Q (.ref a) H'
/-- sums -/
def spQSum : Sp := fun vs H Q _ => ∃ (u v : V) (q r : Qt) (C W M T T' L : Nat) (ok : Int → Prop), vs = [u, v] ∧ Dn H u (encQ q) ∧ Dn H v (encQ r) ∧ QZ ok C W M T q ∧ QZ ok C W M T' r ∧ W ≤ 60 ∧ M ≤ 60 ∧ T ≤ 100 ∧ T' ≤ 100 ∧ Few ok L ∧ 1 ≤ C ∧ L < 32 ∧ 2 * L * (C + 2) ≤ 7900 ∧ C + 2 ≤ 7900 ∧
  ∀ (s : Qt) (a : Addr) (H' : Hp), Dn H' (.ref a) (encQ s) → CQ ok s → QSum q r s → Same H H' → Q (.ref a) H'
/-- slopes -/
def spQSlo : Sp := fun vs H Q _ => ∃ (u : V) (q : Qt) (C W M T L : Nat) (ok : Int → Prop), vs = [u] ∧ Dn H u (encQ q) ∧ QZ ok C W M T q ∧ W ≤ 60 ∧ M ≤ 60 ∧ T ≤ 200 ∧ Few ok L ∧ 1 ≤ C ∧ L < 32 ∧ L * (C + 10) ≤ 7900 ∧ C + 10 ≤ 7900 ∧
  ∀ (s : Qt) (a : Addr) (H' : Hp), Dn H' (.ref a) (encQ s) → CQ ok s → QSlo q s → s.1.length = q.1.length - 1 → s.2.map (fun t => (t.1, t.2.length)) = q.2.map (fun t => (t.1, t.2.length + 1)) → (∀ t ∈ s.2, t.2.head? = some []) → Same H H' → Q (.ref a) H'
theorem QZ.rz {ok : Int → Prop} {C W M T : Nat} {q : Qt} (h : QZ ok C W M T q) (hW : W ≤ 60) : RZ ok C q.1 := ⟨h.cq.1, h.zw, by have := h.lw; omega⟩
theorem QZ.rzt {ok : Int → Prop} {C W M T : Nat} {q : Qt} (h : QZ ok C W M T q) (hM : M ≤ 60) (p : Pl) : RZ ok C (tl q.2 p) := ⟨(h.row p).1, (h.row p).2.2, by have := (h.row p).2.1; omega⟩
section
variable {P : Program} {w : World} {K : PySem.W.Frag} {mg : Str → Option Value} {base : Heap}
abbrev s_slope_row : Stmt := top 31
abbrev nsSRow : List Str := ["row", "k"]
theorem sc_slope_row : FnScope nsSRow ["row"] (defScope s_slope_row) := ⟨rfl, rfl, rfl, by decide +kernel, rfl, by decide +kernel, by decide +kernel⟩
theorem ok_slope_row {f f_scaled : Addr} {fd d_scaled : FuncData}  (F : Fun K "slope_row" "slope_row" s_slope_row f fd) (T : Bt mg) (p_scaled : Kn P w K mg base 4 "scaled" ["number", "top", "bottom"] spScaled f_scaled d_scaled) : FnOk P w K mg base CX0 5 f fd ["row"] spSRow := by
  refine F.ok sc_slope_row (fun vs H Q E h => ?_) (fun cdv A outer s H vs Q E hr h => ?_)
  · obtain ⟨u, r, C, L, ok, rfl, _⟩ := h
    rfl
  · obtain ⟨u, r, C, L, ok, rfl, hu, hr_, rne, few, c1, l64, lt, cw, k⟩ := h
    refine ⟨_, pss_one (ps_ret (pe_op op_catT (pe_tup (pa_cons (pe_tup pa_nil) pa_nil)) (pe_callTy call_tuple_of (by rfl) T.tuple (by decide +kernel) (pa_cons (pe_lc (own := [("k", 1)]) (g := (gName 1)) (tt := tYes) rfl sc_slope_row.nd (pi_range1 rfl T.range (pa_cons (pe_callB call_len (by rfl) T.len PySem.boot_len (pa_cons (pv 0) pa_nil)) pa_nil)) (blkOk_by (own := [("k", 1)]) (N := nsSRow) (sc := defScope s_slope_row) (by decide +kernel)) (fun _ _ _ _ _ => pg_name (i := 1) sc_slope_row.nd rfl (Or.inl rfl)) (fun _ _ _ _ _ => pts_nil) (fun _ _ _ _ _ => (pe_call p_scaled.ok (hr.mono (by decide)) rfl p_scaled.mg p_scaled.kp p_scaled.bd .nil pass0 (pa_cons (pe_ix (r := rIx K) ix_seq (pv 0) (pv 1) (fun _ _ => rfl)) (pa_cons (pe_op op_sub (pe_un un_neg (pv 1)) pe_int) (pa_cons pe_int pa_nil)))))) pa_nil)))), ?_⟩
    obtain ⟨a, xs, rfl, ea, ra⟩ := dn_R hu
    have la : xs.length = r.length := by rw [ra.length, List.length_map]
    have l1 := hr_.2.2
    have l0 := List.length_pos_iff.mpr rne
    have sl1 : 1 ≤ sizeLine := by rw [sizeLine_eq]; decide
    refine ⟨Nat.zero_le _, fun p0 hp0 => ⟨sl1, fun p1 hp1 => ?_⟩⟩
    have s1 := snew (o := .tup []) hp0
    have s2 := snew (o := .tup [.ref p0]) hp1
    have s12 := s1.trans s2
    refine ⟨_, rfl, .ref a, xs.length, rfl, .inr ⟨xs, SqT.of (s12 _ _ ea), rfl⟩, _, rfl, by omega, by omega, fun D hD => lc_enc (enc := encN) encN_tn (walk_range (lo := 0) (n := xs.length)) (fun _ _ => trivial) (fun j m => CN ok m ∧ ∀ d, co m d = Rat.divInt (-(j : Int) - 1) 1 * cr r j d) (by omega) hD (fun j x H2 H3 Q' hj s3 y kk => ?_) fun acc ns H2 e2 dn2 ln hn s3 => ?_⟩
    · obtain ⟨rfl, rfl⟩ := y
      obtain ⟨n, en⟩ : ∃ n, r[j]? = some n := ⟨_, List.getElem?_eq_getElem (by omega)⟩
      obtain ⟨x, ex, dx⟩ := row_at ra en
      refine ⟨rfl, _, rfl, _, rfl, .inr (.inl ⟨a, xs, _, x, rfl, rfl, SqT.of (s3 _ _ (s12 _ _ ea)), by rw [Int.zero_add]; exact atI_nat ex, _, rfl, _, rfl, _, _, rfl, rfl, ?_⟩)⟩
      refine ⟨x, n, _, 1, C, 9, L, ok, rfl, Dn.mono (s12.trans s3) _ _ dx, hr_.nu (List.mem_of_getElem? en), few, c1, by show _ < 512; omega, by decide, by decide, l64, by rw [show C + 9 + 1 = C + 10 by omega]; exact lt, by omega, fun m z H4 dz nz ez s4 => ?_⟩
      refine kk _ m H4 dz ⟨nz.1, fun d => ?_⟩ s4
      unfold cr
      rw [ez, getD_at en, Int.zero_add]
    · refine ⟨D, acc, rfl, .inl ⟨SqL.of e2, fun q hq => ?_⟩⟩
      have sq := snew (o := .tup acc) hq
      have lac : acc.length = ns.length := by rw [dn2.length, List.length_map]
      have ane : acc ≠ [] := fun z => by rw [z] at lac; simp at lac; omega
      have crn : ∀ (j : Nat) d, cr ns j d = Rat.divInt (-(j : Int) - 1) 1 * cr r j d := fun j d => by
        rcases Nat.lt_or_ge j ns.length with c | c
        · show co (ns.getD j []) d = _
          rw [getD_at (List.getElem?_eq_getElem c)]
          exact (hn j _ (List.getElem?_eq_getElem c)).2 d
        · rw [cr_off c, cr_off (by omega), Rat.mul_zero]
      refine ⟨p1, q, [.ref p0], acc, rfl, rfl, SqT.of (sq _ _ (s3 _ _ upd_same)), SqT.of upd_same, by simp, ?_, fun z => absurd z ane, fun _ p hp => ?_⟩
      · show 1 + acc.length ≤ sizeLine
        exact Nat.le_of_lt (small1000 (by omega))
      · have sp := sq.trans (snew (o := .tup ([V.ref p0] ++ acc)) hp)
        refine k ns p _ (.tup upd_same (.cons (.tup (sp _ _ (s3 _ _ (s2 _ _ upd_same))) .nil) (DnAll.mono sp _ _ dn2))) ⟨fun n hn' => ?_, fun z => ?_⟩ (by omega) crn ((s12.trans s3).trans sp)
        · rcases List.mem_cons.mp hn' with rfl | hn'
          · exact CN.nil
          · obtain ⟨j, hj⟩ := List.mem_iff_getElem?.mp hn'
            exact (hn j n hj).1
        · have lnr : ns.length = r.length := by omega
          have e : ns[ns.length - 1]? = some [] := by
            rw [List.getLast?_eq_getElem?] at z
            have : ([] :: ns).length - 1 = (ns.length - 1) + 1 := by rw [List.length_cons]; omega
            rw [this] at z
            simpa using z
          obtain ⟨d, hd⟩ := cr_last hr_.1 rne
          have e1 := crn (ns.length - 1) d
          have e2' : cr ns (ns.length - 1) d = 0 := by
            unfold cr
            rw [getD_at e]
            rfl
          rw [e2', lnr] at e1
          rcases Rat.mul_eq_zero.mp e1.symm with h | h
          · exact frac_ne (by decide) (by omega) h
          · exact hd h
abbrev s_from_rows : Stmt := top 29
abbrev nsFRow : List Str := ["whole", "poles", "rows", "pole", "row"]
theorem sc_from_rows : FnScope nsFRow ["whole", "poles", "rows"] (defScope s_from_rows) := ⟨rfl, rfl, rfl, by decide +kernel, rfl, by decide +kernel, by decide +kernel⟩
theorem ok_from_rows {f  : Addr} {fd  : FuncData}  (F : Fun K "from_rows" "from_rows" s_from_rows f fd) (T : Bt mg)  : FnOk P w K mg base CX0 1 f fd ["whole", "poles", "rows"] (spFromRows K) := by
  refine F.ok sc_from_rows (fun vs H Q E h => ?_) (fun cdv A outer s H vs Q E hr h => ?_)
  · obtain ⟨w_, lp, lr, xs, ys, r0, ps, rs, ok, rfl, _⟩ := h
    rfl
  · obtain ⟨w_, lp, lr, xs, ys, r0, ps, rs, ok, rfl, hw, hx, dx, hy, dy, ll, l8, pw, cp, crs, cr0, k⟩ := h
    refine ⟨_, pss_one (ps_ret (pe_tup (pa_cons (pv 0) (pa_cons (pe_callTy call_tuple_of (by rfl) T.tuple (by decide +kernel) (pa_cons (pe_lc (own := [("pole", 3), ("row", 4)]) (g := (gTup K 2 (gCons (gName 3) (gCons (gName 4) gNil)))) (tt := _) rfl sc_from_rows.nd (pi_zip (by rfl) T.zip (pa_cons (pv 1) (pa_cons (pv 2) pa_nil))) (blkOk_by (own := [("pole", 3), ("row", 4)]) (N := nsFRow) (sc := defScope s_from_rows) (by decide +kernel)) (fun _ _ _ _ _ => pg_tup rfl (pgs_cons (pg_name (i := 3) sc_from_rows.nd rfl (Or.inl rfl)) (pgs_cons (pg_name (i := 4) sc_from_rows.nd rfl (Or.inl rfl)) pgs_nil))) (fun _ _ _ _ _ => pts_one (pt_cmpR (op_neDK (K := K) rfl hr.units) (pv 4) (pe_tup pa_nil) (nomark _))) (fun _ _ _ _ _ => (pe_tup (pa_cons (pv 3) (pa_cons (pv 4) pa_nil))))) pa_nil)) pa_nil)))), ?_⟩
    have lx : xs.length = ps.length := by rw [dx.length, List.length_map]
    have ly : ys.length = rs.length := by rw [dy.length, List.length_map]
    have s2z : 2 ≤ sizeLine := by rw [sizeLine_eq]; decide
    refine ⟨_, rfl, _, rfl, _, rfl, lp, lr, xs, ys, rfl, hx, hy, fun D hD => lc_it (walk_zip (K := K) (a := lp) (b := lr) (xs := xs) (ys := ys) (n := ps.length) (by omega)) (fun i H' => ∃ (acc : List V) (us : List Tl), H' D = some (.lst acc) ∧ DnAll H' acc (us.map encTl) ∧ us.length ≤ i ∧ CTs ok us ∧ (∀ t ∈ us, t.1 ∈ ps.take i) ∧ (∀ (j : Nat) p r, j < i → ps[j]? = some p → rs[j]? = some r → tl us p = r) ∧ Same H H')
      ⟨[], [], upd_same, .nil, Nat.le_refl _, CTs.nil, fun t ht => by simp at ht, fun j p r h => by omega, snew hD⟩ (fun i H' _ ⟨_, _, _, _, _, _, _, _, s'⟩ => ⟨sqL_same s' hx, sqL_same s' hy⟩) ?_ ?_⟩
    · rintro i v H1 H2 hi ⟨acc, us, e1, d1, l1, c1, u1, t1, s1⟩ ⟨T_, x, y, rfl, nT, rfl, ex, ey⟩
      obtain ⟨p, ep⟩ : ∃ p, ps[i]? = some p := ⟨_, List.getElem?_eq_getElem hi⟩
      obtain ⟨r, er⟩ : ∃ r, rs[i]? = some r := ⟨_, List.getElem?_eq_getElem (by omega)⟩
      obtain ⟨x', ex', dx'⟩ := dn_at dx (show (ps.map encPl)[i]? = some (encPl p) by rw [List.getElem?_map, ep]; rfl)
      obtain ⟨y', ey', dy'⟩ := dn_at dy (show (rs.map encR)[i]? = some (encR r) by rw [List.getElem?_map, er]; rfl)
      rw [show xs[i]? = some x from ex] at ex'
      rw [show ys[i]? = some y from ey] at ey'
      cases ex'
      cases ey'
      have sT := snew (o := .tup [x, y]) nT
      have lacc : acc.length = us.length := by rw [d1.length, List.length_map]
      have tk := mem_take_succ ep
      have below := (pw_take pw ep).1
      have nin : p ∉ ps.take i := fun m => bf_irr (below p m) rfl
      refine ⟨T_, _, rfl, SqT.of upd_same, rfl, _, _, rfl, _, _, rfl, rfl, rfl, ?_⟩
      refine ⟨_, rfl, Nat.zero_le _, fun q hq => ⟨encR r, .tuple [], tn_dp _ _ (encR_tn _) (Dn.mono ((s1.trans sT).trans (snew hq)) _ _ dy'), .tup (SqT.of upd_same) .nil, encR_shaped _, rfl, _, rfl, ?_⟩⟩
      rw [eqv_nil_d (encR_tn _)]
      have s4 := sT.trans (snew (o := .tup []) hq)
      have unin : p ∉ us.map (·.1) := fun m => by obtain ⟨t, ht, e⟩ := List.mem_map.mp m; exact nin (e ▸ u1 t ht)
      refine ite_b (fun c => ?_) (fun c => ?_)
      · have rne : r ≠ [] := fun z => by rw [z] at c; cases c
        refine ⟨_, rfl, _, rfl, s2z, fun z hz => ?_⟩
        have s5 := s4.trans (snew (o := .tup [x, y]) hz)
        have e5 := s5 _ _ e1
        have up := lst_tups (o := .lst (acc ++ [.ref z])) e5
        refine ⟨acc, e5, small1000 (by omega), acc ++ [.ref z], us ++ [(p, r)], upd_same, ?_, by rw [List.length_append]; show us.length + 1 ≤ _; omega, c1.snoc ⟨cp p (List.mem_of_getElem? ep), crs r (List.mem_of_getElem? er), rne⟩ (fun s hs' => below _ (u1 s hs')), fun t ht => ?_, fun j p' r' hj ep' er' => ?_, fun b o e => ?_⟩
        · rw [List.map_append]
          refine DnAll.app (tnA_tups ((Same.tups s5).trans up) _ _ (tn_maps encTl_tn us) d1) (.cons (.tup (up _ _ upd_same) (.cons ?_ (.cons ?_ .nil))) .nil)
          · exact tn_tups up _ _ (encPl_tn _) (Dn.mono (s1.trans s5) _ _ dx')
          · exact tn_tups up _ _ (encR_tn _) (Dn.mono (s1.trans s5) _ _ dy')
        · rcases List.mem_append.mp ht with ht | ht
          · exact (tk _).mpr (.inl (u1 t ht))
          · rw [List.mem_singleton.mp ht]
            exact (tk _).mpr (.inr rfl)
        · have one : tl [(p, r)] p' = if p = p' then r else [] := rfl
          rw [tl_app, one]
          rcases Nat.lt_or_ge j i with h | h
          · have := t1 j p' r' h ep' er'
            by_cases m : p' ∈ us.map (·.1)
            · rw [if_pos m]; exact this
            · rw [if_neg m, if_neg (show ¬ p = p' from fun e => nin (by
                rw [e, List.mem_iff_getElem?]
                exact ⟨j, by rw [List.getElem?_take_of_lt h]; exact ep'⟩))]
              rw [tl_off m] at this
              exact this
          · have : j = i := by omega
            subst this
            rw [ep] at ep'
            rw [er] at er'
            cases ep'
            cases er'
            rw [if_neg unin, if_pos rfl]
        · rw [upd_ne (ne_of_none e hD)]
          exact s5 _ _ (s1 _ _ e)
      · have rn : r = [] := by
          cases r with
          | nil => rfl
          | cons _ _ => cases c
        refine ⟨acc, us, s4 _ _ e1, tnA_tups (Same.tups s4) _ _ (tn_maps encTl_tn us) d1, by omega, c1, fun t ht => (tk _).mpr (.inl (u1 t ht)), fun j p' r' hj ep' er' => ?_, s1.trans s4⟩
        rcases Nat.lt_or_ge j i with h | h
        · exact t1 j p' r' h ep' er'
        · have : j = i := by omega
          subst this
          rw [ep] at ep'
          rw [er] at er'
          cases ep'
          cases er'
          rw [tl_off unin, rn]
    · rintro H1 ⟨acc, us, e1, d1, l1, c1, u1, t1, s1⟩
      refine ⟨D, acc, rfl, .inl ⟨SqL.of e1, fun l2 hl2 => ⟨s2z, fun p hp => ?_⟩⟩⟩
      have s4 := (snew (o := .tup acc) hl2).trans (snew (o := .tup [w_, .ref l2]) hp)
      refine k (r0, us) p _ (.tup upd_same (.cons (Dn.mono (s1.trans s4) _ _ hw) (.cons (.tup ?_ (DnAll.mono s4 _ _ d1)) .nil))) ⟨cr0, c1⟩ rfl (fun i p' r' ep' er' => t1 i p' r' (List.getElem?_eq_some_iff.mp ep').1 ep' er') (fun p' hp' => ?_) (s1.trans s4)
      · rw [upd_ne (ne_of_none upd_same hp)]; exact upd_same
      · rw [List.take_length] at u1
        exact tl_off fun m => by obtain ⟨t, ht, e⟩ := List.mem_map.mp m; exact hp' (e ▸ u1 t ht)
abbrev s_quotient_sum : Stmt := top 30
abbrev nsQSum : List Str := ["one", "other", "poles", "rows", "c"]
theorem sc_quotient_sum : FnScope nsQSum ["one", "other"] (defScope s_quotient_sum) := ⟨rfl, rfl, rfl, by decide +kernel, rfl, by decide +kernel, by decide +kernel⟩
theorem ok_quotient_sum {f f_all_poles f_row_of_pole f_row_sum f_from_rows : Addr} {fd d_all_poles d_row_of_pole d_row_sum d_from_rows : FuncData}  (F : Fun K "quotient_sum" "quotient_sum" s_quotient_sum f fd) (T : Bt mg) (p_all_poles : Kn P w K mg base 3 "all_poles" ["one", "other"] spAllPl f_all_poles d_all_poles) (p_row_of_pole : Kn P w K mg base 1 "row_of_pole" ["quotient", "c"] spRowOf f_row_of_pole d_row_of_pole) (p_row_sum : Kn P w K mg base 5 "row_sum" ["one", "other"] spRSum f_row_sum d_row_sum) (p_from_rows : Kn P w K mg base 1 "from_rows" ["whole", "poles", "rows"] (spFromRows K) f_from_rows d_from_rows) : FnOk P w K mg base CX0 6 f fd ["one", "other"] spQSum := by
  refine F.ok sc_quotient_sum (fun vs H Q E h => ?_) (fun cdv A outer s H vs Q E hr h => ?_)
  · obtain ⟨u, v, q, r, C, W, M, T', T2, L, ok, rfl, _⟩ := h
    rfl
  · obtain ⟨u, v, q, r, C, W, M, T', T2, L, ok, rfl, hu, hv, zq, zr, hW, hM, hT, hT2, few, c1, l32, lt, cw, k⟩ := h
    refine ⟨_, pss_cons (ps_set (i := 2) sc_quotient_sum.nd rfl (Or.inl rfl) (pe_call p_all_poles.ok (hr.mono (by decide)) rfl p_all_poles.mg p_all_poles.kp p_all_poles.bd .nil pass0 (pa_cons (pv 0) (pa_cons (pv 1) pa_nil))))
      (pss_cons (ps_setLc (i := 3) (own := [("c", 4)]) (g := (gName 4)) (tt := tYes) rfl sc_quotient_sum.nd rfl rfl (sw_true rfl rfl (by rfl) (by rfl)) (pi_list (pv 2)) (blkOk_by (own := [("c", 4)]) (N := nsQSum) (sc := defScope s_quotient_sum) (by decide +kernel)) (fun _ _ _ _ _ => pg_name (i := 4) sc_quotient_sum.nd rfl (Or.inl rfl)) (fun _ _ _ _ _ => pts_nil) (fun _ _ _ _ _ => (pe_call p_row_sum.ok (hr.mono (by decide)) rfl p_row_sum.mg p_row_sum.kp p_row_sum.bd .nil pass0 (pa_cons (pe_call p_row_of_pole.ok (hr.mono (by decide)) rfl p_row_of_pole.mg p_row_of_pole.kp p_row_of_pole.bd .nil pass0 (pa_cons (pv 0) (pa_cons (pv 4) pa_nil))) (pa_cons (pe_call p_row_of_pole.ok (hr.mono (by decide)) rfl p_row_of_pole.mg p_row_of_pole.kp p_row_of_pole.bd .nil pass0 (pa_cons (pv 1) (pa_cons (pv 4) pa_nil))) pa_nil)))))
      (pss_one (ps_ret (pe_call p_from_rows.ok (hr.mono (by decide)) rfl p_from_rows.mg p_from_rows.kp p_from_rows.bd .nil pass0 (pa_cons (pe_call p_row_sum.ok (hr.mono (by decide)) rfl p_row_sum.mg p_row_sum.kp p_row_sum.bd .nil pass0 (pa_cons (pe_ix (r := rIx K) ix_seq (pv 0) pe_int (fun _ _ => rfl)) (pa_cons (pe_ix (r := rIx K) ix_seq (pv 1) pe_int (fun _ _ => rfl)) pa_nil))) (pa_cons (pv 2) (pa_cons (pv 3) pa_nil))))))), ?_⟩
    have lq := zq.lt
    have lr := zr.lt
    refine ⟨_, rfl, _, rfl, u, v, q, r, ok, rfl, hu, hv, zq.cq.2, zr.cq.2, zq.pl, zr.pl, by omega, by omega, fun lp xs ps H1 e1 d1 pw lps mem s1 => ?_⟩
    have lx : xs.length = ps.length := by rw [d1.length, List.length_map]
    refine ⟨_, rfl, lp, rfl, ⟨_, SqL.of e1⟩, fun D hD => lc_enc (enc := encR) encR_tn (walk_list (K := K) (a := lp) (xs := xs)) (fun H' s' => SqL.of (s' _ _ e1)) (fun j t => CR ok t ∧ ∀ p, ps[j]? = some p → ∀ k d, cr t k d = cr (tl q.2 p) k d + cr (tl r.2 p) k d) (by omega) hD (fun j x H2 H3 Q' hj s2 y kk => ?_) fun acc rs H2 e2 d2 ln hn s2 => ?_⟩
    · obtain ⟨rfl, hx⟩ := y
      obtain ⟨p, ep⟩ : ∃ p, ps[j]? = some p := ⟨_, List.getElem?_eq_getElem (by omega)⟩
      obtain ⟨x', ex', dx'⟩ := dn_at d1 (show (ps.map encPl)[j]? = some (encPl p) by rw [List.getElem?_map, ep]; rfl)
      rw [hx] at ex'
      cases ex'
      refine ⟨rfl, _, rfl, _, rfl, u, x, q, p, rfl, Dn.mono (s1.trans s2) _ _ hu, Dn.mono s2 _ _ dx', fun a1 H4 da s4 => ?_⟩
      refine ⟨_, rfl, _, rfl, v, x, r, p, rfl, Dn.mono ((s1.trans s2).trans s4) _ _ hv, Dn.mono (s2.trans s4) _ _ dx', fun a2 H5 db s5 => ?_⟩
      refine ⟨a1, a2, tl q.2 p, tl r.2 p, C, L, ok, rfl, Dn.mono s5 _ _ da, db, zq.rzt hM p, zr.rzt hM p, few, c1, l32, lt, cw, fun t a3 H6 dt ct et s6 => ?_⟩
      exact kk _ t H6 dt ⟨ct, fun p' ep' => by rw [ep] at ep'; cases ep'; exact et⟩ ((s4.trans s5).trans s6)
    · obtain ⟨a, v1, v2, rfl, ea, g1, g2⟩ := dn_pair hu
      obtain ⟨b, w1, w2, rfl, eb, f1, f2⟩ := dn_pair hv
      have s12 := s1.trans s2
      refine ⟨_, rfl, .inr (.inl ⟨a, _, _, v1, rfl, rfl, SqT.of (s12 _ _ ea), rfl, _, rfl, .inr (.inl ⟨b, _, _, w1, rfl, rfl, SqT.of (s12 _ _ eb), rfl, ?_⟩)⟩)⟩
      refine ⟨v1, w1, q.1, r.1, C, L, ok, rfl, Dn.mono s12 _ _ g1, Dn.mono s12 _ _ f1, zq.rz hW, zr.rz hW, few, c1, l32, lt, cw, fun t a3 H3 dt ct et s3 => ?_⟩
      refine ⟨_, rfl, _, rfl, .ref a3, lp, D, xs, acc, t, ps, rs, ok, rfl, dt, SqL.of (s3 _ _ (s2 _ _ e1)), DnAll.mono (s2.trans s3) _ _ d1, SqL.of (s3 _ _ e2), DnAll.mono s3 _ _ d2, by omega, lps, pw, fun p hp => ?_, fun r' hr' => ?_, ct, fun s a4 H4 ds cs es1 es2 es3 s4 => ?_⟩
      · rcases (mem p).mp hp with h | h <;> obtain ⟨t', ht', rfl⟩ := List.mem_map.mp h
        · exact (zq.pl t' ht').2.2.2
        · exact (zr.pl t' ht').2.2.2
      · obtain ⟨j, hj⟩ := List.mem_iff_getElem?.mp hr'
        exact (hn j r' hj).1
      · refine k s a4 H4 ds cs ⟨fun j d => by rw [es1]; exact et j d, fun p j d => ?_⟩ ((s12.trans s3).trans s4)
        by_cases c : p ∈ ps
        · obtain ⟨i, hi⟩ := List.mem_iff_getElem?.mp c
          obtain ⟨r', er'⟩ : ∃ r', rs[i]? = some r' := ⟨_, List.getElem?_eq_getElem (by have := (List.getElem?_eq_some_iff.mp hi).1; omega)⟩
          rw [es2 i p r' hi er']
          exact (hn i r' er').2 p hi j d
        · have c1' : p ∉ q.2.map (·.1) := fun h => c ((mem p).mpr (.inl h))
          have c2' : p ∉ r.2.map (·.1) := fun h => c ((mem p).mpr (.inr h))
          rw [es3 p c, tl_off c1', tl_off c2', cr_nil, Rat.add_zero]
end
end N3

namespace N3
open PySem PySem.Spec PyProof.Rows L2 N2
/-! ### plus and slope, checked -/
/-- the d that numbers may have -/
def OkD (ok : Int → Prop) : Prop := (∀ d, ok d → Fit d ∧ d.natAbs ≤ 1000000) ∧ Few ok 18
theorem QZ.mono {ok : Int → Prop} {C W M T C' W' M' T' : Nat} {q : Qt} (h : QZ ok C W M T q) (hC : C ≤ C') (hW : W ≤ W') (hM : M ≤ M') (hT : T ≤ T') : QZ ok C' W' M' T' q := by
  have up : ∀ {n : Nm}, Sz C n → Sz C' n := fun s x hx => let ⟨a, b, c⟩ := s x hx; ⟨bit_up a hC, b, bit_up c hC⟩
  exact ⟨h.cq, Nat.le_trans h.lw hW, Nat.le_trans h.lt hT, fun t ht => Nat.le_trans (h.lm t ht) hM, fun n hn => up (h.zw n hn), fun t ht n hn => up (h.zt t ht n hn), h.pl⟩
theorem cn_okd {ok : Int → Prop} (o : OkD ok) {n : Nm} (h : CN ok n) : CN Fit n := ⟨fun x hx => ⟨(o.1 _ (h.1 x hx).1).1, (h.1 x hx).2⟩, h.2⟩
theorem cr_okd {ok : Int → Prop} (o : OkD ok) {r : List Nm} (h : CR ok r) : CR Fit r := ⟨fun n hn => cn_okd o (h.1 n hn), h.2⟩
theorem cq_okd {ok : Int → Prop} (o : OkD ok) {q : Qt} (h : CQ ok q) : CQ Fit q := ⟨cr_okd o h.1, fun t ht => let ⟨a, b, c⟩ := h.2.1 t ht; ⟨a, cr_okd o b, c⟩, h.2.2⟩
theorem gw_bit {i : Int} (h : i.natAbs < 2 ^ 60) : GW 61 0 (.int i) := by
  have h1 : i.natAbs.log2 < 60 := by
    rcases Nat.eq_zero_or_pos i.natAbs with z | z
    · rw [z]; decide
    · exact (Nat.log2_lt (by omega : i.natAbs ≠ 0)).mpr h
  refine ⟨.int i, by simp only [PyData.showable]; exact decide_eq_true (by omega), by simp [PyData.depth], ?_⟩
  have h2 : (PySem.Str.ofString (toString i)).length ≤ 61 := by rw [PySem.ofString_length]; exact PySem.int_text_length_le (k := 60) (by decide) h1
  simp only [wt, PyData.shown]
  exact h2
theorem gw_num {ok : Int → Prop} (o : OkD ok) {C : Nat} (hC : C ≤ 60) {n : Nm} (h : CN ok n) (s : Sz C n) : GW 3495 2 (encN n) := by
  refine (gw_map (enc := encT) (m := 192) (n := 1) (k := 18) (fun x hx => ?_) (o.2 n h)).mono (by decide) (by decide)
  obtain ⟨a, b, c⟩ := s x hx
  have hd := (o.1 _ (h.1 x hx).1).2
  exact gw_three (gw_bit (by have : 1000000 < 2 ^ 60 := by decide
                             omega)) (gw_bit (bit_up a hC)) (gw_bit (bit_up c hC))
theorem gw_qz {ok : Int → Prop} (o : OkD ok) {C : Nat} (hC : C ≤ 60) {q : Qt} (z : QZ ok C 20 10 10 q) : GW 1500000 7 (encQ q) := by
  have rows : ∀ {r : List Nm} {k : Nat}, CR ok r → (∀ n ∈ r, Sz C n) → r.length ≤ k → GW (k * 3497 + 3) 3 (encR r) := fun {r k} hr hs hl => gw_map (enc := encN) (fun n hn => gw_num o hC (hr.1 n hn) (hs n hn)) hl
  have g1 : GW 69943 3 (encR q.1) := (rows z.cq.1 z.zw z.lw).mono (by decide) (by decide)
  have g2 : GW 699553 5 (.tuple (q.2.map encTl)) := (gw_map (enc := encTl) (m := 69953) (n := 4) (k := 10) (fun t ht => by
    have gp : GW 34973 3 (encPl t.1) := (gw_two (m := 61) (n := 0) (gw_bit (by have := (z.pl t ht).1; omega)) (gw_bit (by have := (z.pl t ht).2; omega))).mono (by decide) (by decide)
    exact (gw_two gp ((rows (z.cq.2.1 t ht).2.1 (z.zt t ht) (z.lm t ht)).mono (by decide) (by decide))).mono (by decide) (by decide)) z.lt).mono (by decide) (by decide)
  exact (gw_two (m := 699553) (n := 5) (g1.mono (by decide) (by decide)) g2).mono (by decide) (by decide)
theorem gd_qz {ok : Int → Prop} (o : OkD ok) {C : Nat} (hC : C ≤ 60) {q : Qt} (z : QZ ok C 20 10 10 q) : Gd (encQ q) := (gw_qz o hC z).wd.mono (by decide) (by decide)
def spChkQ : Sp := fun vs H Q _ => ∃ (v : V) (d : PyData), vs = [v] ∧ Dn H v d ∧ Gd d ∧ DQ Fit d ∧ ∀ H', Same H H' → Q .non H'
def spPlus : Sp := fun vs H Q _ => ∃ (u v : V) (q r : Qt) (C : Nat) (ok : Int → Prop), vs = [u, v] ∧ Dn H u (encQ q) ∧ Dn H v (encQ r) ∧ QZ ok C 20 10 10 q ∧ QZ ok C 20 10 10 r ∧ OkD ok ∧ 1 ≤ C ∧ C ≤ 60 ∧
  ∀ (s : Qt) (a : Addr) (H' : Hp), Dn H' (.ref a) (encQ s) → CQ ok s → QSum q r s → Same H H' → Q (.ref a) H'
def spSlope : Sp := fun vs H Q _ => ∃ (u : V) (q : Qt) (C : Nat) (ok : Int → Prop), vs = [u] ∧ Dn H u (encQ q) ∧ QZ ok C 20 10 10 q ∧ OkD ok ∧ 1 ≤ C ∧ C ≤ 60 ∧
  ∀ (s : Qt) (a : Addr) (H' : Hp), Dn H' (.ref a) (encQ s) → CQ ok s → QSlo q s → s.1.length = q.1.length - 1 → s.2.map (fun t => (t.1, t.2.length)) = q.2.map (fun t => (t.1, t.2.length + 1)) → (∀ t ∈ s.2, t.2.head? = some []) → Same H H' → Q (.ref a) H'
section
variable {P : Program} {w : World} {K : PySem.W.Frag} {mg : Str → Option Value} {base : Heap}
abbrev s_quotient_slope : Stmt := top 32
abbrev nsQSlo : List Str := ["quotient", "pole", "row"]
theorem sc_quotient_slope : FnScope nsQSlo ["quotient"] (defScope s_quotient_slope) := ⟨rfl, rfl, rfl, by decide +kernel, rfl, by decide +kernel, by decide +kernel⟩
theorem ok_quotient_slope {f f_whole_slope f_slope_row : Addr} {fd d_whole_slope d_slope_row : FuncData}  (F : Fun K "quotient_slope" "quotient_slope" s_quotient_slope f fd) (T : Bt mg) (p_whole_slope : Kn P w K mg base 5 "whole_slope" ["whole"] spWSlo f_whole_slope d_whole_slope) (p_slope_row : Kn P w K mg base 5 "slope_row" ["row"] spSRow f_slope_row d_slope_row) : FnOk P w K mg base CX0 6 f fd ["quotient"] spQSlo := by
  refine F.ok sc_quotient_slope (fun vs H Q E h => ?_) (fun cdv A outer s H vs Q E hr h => ?_)
  · obtain ⟨u, q, C, W, M, T', L, ok, rfl, _⟩ := h
    rfl
  · obtain ⟨u, q, C, W, M, T', L, ok, rfl, hu, zq, hW, hM, hT, few, c1, l32, lt, cw, k⟩ := h
    refine ⟨_, pss_one (ps_ret (pe_tup (pa_cons (pe_call p_whole_slope.ok (hr.mono (by decide)) rfl p_whole_slope.mg p_whole_slope.kp p_whole_slope.bd .nil pass0 (pa_cons (pe_ix (r := rIx K) ix_seq (pv 0) pe_int (fun _ _ => rfl)) pa_nil)) (pa_cons (pe_callTy call_tuple_of (by rfl) T.tuple (by decide +kernel) (pa_cons (pe_lc (own := [("pole", 1), ("row", 2)]) (g := (gTup K 2 (gCons (gName 1) (gCons (gName 2) gNil)))) (tt := tYes) rfl sc_quotient_slope.nd (pi_tup (pe_ix (r := rIx K) ix_seq (pv 0) pe_int (fun _ _ => rfl))) (blkOk_by (own := [("pole", 1), ("row", 2)]) (N := nsQSlo) (sc := defScope s_quotient_slope) (by decide +kernel)) (fun _ _ _ _ _ => pg_tup rfl (pgs_cons (pg_name (i := 1) sc_quotient_slope.nd rfl (Or.inl rfl)) (pgs_cons (pg_name (i := 2) sc_quotient_slope.nd rfl (Or.inl rfl)) pgs_nil))) (fun _ _ _ _ _ => pts_nil) (fun _ _ _ _ _ => (pe_tup (pa_cons (pv 1) (pa_cons (pe_call p_slope_row.ok (hr.mono (by decide)) rfl p_slope_row.mg p_slope_row.kp p_slope_row.bd .nil pass0 (pa_cons (pv 2) pa_nil)) pa_nil))))) pa_nil)) pa_nil)))), ?_⟩
    have s2z : 2 ≤ sizeLine := by rw [sizeLine_eq]; decide
    obtain ⟨a, v1, v2, rfl, ea, g1, g2⟩ := dn_pair hu
    obtain ⟨a2, xs, rfl, e2, r2⟩ := dn_t g2
    have lx : xs.length = q.2.length := by rw [r2.length, List.length_map]
    have lq := zq.lt
    refine ⟨_, rfl, .inr (.inl ⟨a, _, _, v1, rfl, rfl, SqT.of ea, rfl, ?_⟩)⟩
    refine ⟨v1, q.1, C, L, ok, rfl, g1, zq.rz hW, few, c1, by omega, lt, cw, fun t0 a0 H1 d0 c0 l0 ct0 s1 => ?_⟩
    have e2' := s1 _ _ e2
    refine ⟨_, rfl, .inr (.inl ⟨a, _, _, .ref a2, rfl, rfl, SqT.of (s1 _ _ ea), rfl, a2, rfl, ⟨_, SqT.of e2'⟩, fun D hD => lc_enc (enc := encTl) encTl_tn (walk_tup (K := K) (a := a2) (xs := xs)) (fun H' s' => SqT.of (s' _ _ e2')) (fun j t => ∃ (x : Tl) (t' : List Nm), q.2[j]? = some x ∧ t = (x.1, [] :: t') ∧ CR ok ([] :: t') ∧ t'.length = x.2.length ∧ ∀ (k : Nat) d, cr t' k d = Rat.divInt (-(k : Int) - 1) 1 * cr x.2 k d) (by omega) hD (fun j x H2 H3 Q' hj s2 y kk => ?_) fun acc us H2 e3 d3 ln hn s2 => ?_⟩)⟩
    · obtain ⟨rfl, hx⟩ := y
      obtain ⟨t, ax, p1, rv, et, rfl, hax, dr, dp⟩ := dn_rows r2 j x hx
      have ht := List.mem_of_getElem? et
      obtain ⟨cpl, ctr, tne⟩ := zq.cq.2.1 t ht
      refine ⟨ax, _, rfl, SqT.of (s2 _ _ (s1 _ _ hax)), rfl, _, _, rfl, _, _, rfl, rfl, rfl, _, rfl, _, rfl, ?_⟩
      refine ⟨rv, t.2, C, L, ok, rfl, Dn.mono (s1.trans s2) _ _ dr, ⟨ctr, zq.zt t ht, by have := zq.lm t ht; omega⟩, tne, few, c1, by omega, lt, cw, fun t' a3 H4 d4 c4 l4 ct4 s4 => ⟨s2z, fun p hp => ?_⟩⟩
      have sp := snew (o := .tup [p1, .ref a3]) hp
      refine kk (.ref p) (t.1, [] :: t') _ (.tup upd_same (.cons (Dn.mono ((s1.trans s2).trans (s4.trans sp)) _ _ dp) (.cons (Dn.mono sp _ _ d4) .nil))) ⟨t, t', et, rfl, c4, l4, ct4⟩ (s4.trans sp)
    · have lu : us.length = q.2.length := by omega
      refine ⟨D, acc, rfl, .inl ⟨SqL.of e3, fun l2 hl2 => ⟨s2z, fun p hp => ?_⟩⟩⟩
      have s4 := (snew (o := .tup acc) hl2).trans (snew (o := .tup [.ref a0, .ref l2]) hp)
      have keys : us.map (·.1) = q.2.map (·.1) := by
        refine List.ext_getElem? fun j => ?_
        rw [List.getElem?_map, List.getElem?_map]
        cases c : us[j]? with
        | some t =>
          obtain ⟨x, t', ex, rfl, _⟩ := hn j t c
          rw [ex]; rfl
        | none =>
          rw [List.getElem?_eq_none_iff] at c
          rw [List.getElem?_eq_none (by omega)]
          try rfl
      have cts : CTs ok us := by
        refine ⟨fun t ht => ?_, fun i x y hx hy => ?_⟩
        · obtain ⟨j, hj⟩ := List.mem_iff_getElem?.mp ht
          obtain ⟨x, t', ex, rfl, c', _⟩ := hn j t hj
          exact ⟨(zq.cq.2.1 x (List.mem_of_getElem? ex)).1, c', by simp⟩
        · obtain ⟨x', _, ex, rfl, _⟩ := hn i x hx
          obtain ⟨y', _, ey, rfl, _⟩ := hn (i + 1) y hy
          exact zq.cq.2.2 i x' y' ex ey
      refine k (t0, us) p _ (.tup upd_same (.cons (Dn.mono (s2.trans s4) _ _ d0) (.cons (.tup ?_ (DnAll.mono s4 _ _ d3)) .nil))) ⟨c0, cts⟩ ⟨ct0, fun p' d => ?_⟩ l0 ?_ (fun t ht => ?_) ((s1.trans s2).trans s4)
      · rw [upd_ne (ne_of_none upd_same hp)]; exact upd_same
      · by_cases c : p' ∈ q.2.map (·.1)
        · have c' : p' ∈ us.map (·.1) := by rw [keys]; exact c
          obtain ⟨t, ht, rfl⟩ := List.mem_map.mp c'
          obtain ⟨j, hj⟩ := List.mem_iff_getElem?.mp ht
          obtain ⟨x, t', ex, rfl, c4, l4, ct4⟩ := hn j t hj
          have h1 : tl us x.1 = [] :: t' := tl_at (t := (x.1, [] :: t')) cts.kp ht
          have h2 : tl q.2 x.1 = x.2 := tl_at zq.cq.2.kp (List.mem_of_getElem? ex)
          refine ⟨?_, fun j => ?_⟩
          · show cr (tl us x.1) 0 d = 0
            rw [h1]; rfl
          · show cr (tl us x.1) (j + 1) d = Rat.divInt (-(j : Int) - 1) 1 * cr (tl q.2 x.1) j d
            rw [h1, h2]
            exact ct4 j d
        · have c' : p' ∉ us.map (·.1) := by rw [keys]; exact c
          refine ⟨?_, fun j => ?_⟩
          · show cr (tl us p') 0 d = 0
            rw [tl_off c', cr_nil]
          · show cr (tl us p') (j + 1) d = Rat.divInt (-(j : Int) - 1) 1 * cr (tl q.2 p') j d
            rw [tl_off c', tl_off c, cr_nil, cr_nil, Rat.mul_zero]
      · refine List.ext_getElem? fun j => ?_
        rw [List.getElem?_map, List.getElem?_map]
        show us[j]?.map _ = _
        cases c : us[j]? with
        | some t =>
          obtain ⟨x, t', ex, rfl, _, l4, _⟩ := hn j t c
          rw [ex]
          show some (x.1, t'.length + 1) = some (x.1, x.2.length + 1)
          rw [l4]
        | none =>
          rw [List.getElem?_eq_none_iff] at c
          rw [List.getElem?_eq_none (by omega)]
          try rfl
      · obtain ⟨j, hj⟩ := List.mem_iff_getElem?.mp ht
        obtain ⟨x, t', ex, rfl, _⟩ := hn j t hj
        rfl
abbrev s_check_quotient : Stmt := top 43
theorem sc_check_quotient : FnScope ["thing"] ["thing"] (defScope s_check_quotient) := ⟨rfl, rfl, rfl, by decide +kernel, rfl, by decide +kernel, by decide +kernel⟩
theorem ok_check_quotient {f f_is_quotient : Addr} {fd d_is_quotient : FuncData}  (F : Fun K "check_quotient" "check_quotient" s_check_quotient f fd) (T : Bt mg) (p_is_quotient : Kn P w K mg base 9 "is_quotient" ["thing"] (spCk (DQ Fit)) f_is_quotient d_is_quotient) : FnOk P w K mg base CX0 10 f fd ["thing"] spChkQ := by
  refine F.ok sc_check_quotient (fun vs H Q E h => ?_) (fun cdv A outer s H vs Q E hr h => ?_)
  · obtain ⟨v, d, rfl, _⟩ := h
    rfl
  · obtain ⟨v, d, rfl, hd, gd, dq, k⟩ := h
    refine ⟨_, pss_one (ps_if (pt_not (pt_val (pe_call p_is_quotient.ok (hr.mono (by decide)) rfl p_is_quotient.mg p_is_quotient.kp p_is_quotient.bd .nil pass0 (pa_cons (pv 0) pa_nil))))
        (pss_one ps_never)
        pss_nil), ?_⟩
    refine ⟨_, rfl, v, d, rfl, hd, gd, fun b H1 hb s1 => ⟨_, rfl, ?_⟩⟩
    have : b = true := hb.mpr dq
    subst this
    refine iteF ?_
    exact k H1 s1
end
end N3

namespace N3
open PySem PySem.Spec PyProof.Rows L2 N2 LamX
/-! ### what the laws' sums and slopes share -/
theorem walk_enumT {K : PySem.W.Frag} {a : Addr} {xs : List V} : Walk (ItT K a) xs.length (fun H => SqT K H a xs) (YPair (fun i => some (.int (i : Nat))) (fun i => xs[i]?)) := by
  refine ⟨fun i _ hi q => ⟨xs, xs[i], q, by simp [hi]⟩, fun _ q => ⟨xs, q, rfl⟩, fun i H v H' _ q y => ?_⟩
  obtain ⟨T, x, h1, h2, h3, h4⟩ := y
  exact ⟨T, .int (i : Nat), x, h1, h2, h3, rfl, h4 xs q⟩
theorem cutFrom1 (xs : List V) : cutV xs (some (1 : Int)) none = xs.drop 1 := by
  by_cases h : xs = []
  · subst h; rfl
  · exact cutFrom xs 1 (List.length_pos_iff.mpr h)
theorem putR_new {ts : List Tl} {p : Pl} {n : List Nm} (h : p ∉ ts.map (·.1)) : putR ts p n = ts ++ [(p, n)] := if_neg h
theorem rwt_put {G : Addr → Prop} {H : Hp} {rw_ : Addr} {kvs : List (List L2.Key × V)} {ts : List Tl} {p : Pl} {b : Addr} {acc : List V} {n : List Nm} (e : H rw_ = some (.dT kvs)) (r : RwT G H kvs ts) (hg : G b) (hb : H b = some (.lst acc)) (hd : DnAll H acc (n.map encN)) : RwT G (upd H rw_ (.dT (putK kvs (kyP p) (.ref b)))) (putK kvs (kyP p) (.ref b)) (putR ts p n) :=
  (r.put hg hb hd).move (fun _ h => h) (fun b xs g e' => by rw [upd_ne (ne_of e' e (by intro z; cases z))]; exact e') (dt_tups e)
theorem keys_at {ts us : List Tl} (h : ts.map (·.1) = us.map (·.1)) {j : Nat} {t : Tl} (e : ts[j]? = some t) : ∃ x, us[j]? = some x ∧ x.1 = t.1 := by
  have h1 : (ts.map (·.1))[j]? = some t.1 := by rw [List.getElem?_map, e]; rfl
  rw [h, List.getElem?_map] at h1
  obtain ⟨x, ex, e'⟩ := Option.map_eq_some_iff.mp h1
  exact ⟨x, ex, e'⟩
theorem replicate_one (x : V) : ∀ n : Nat, (List.replicate n [x]).flatten = List.replicate n x
  | 0 => rfl
  | n + 1 => by rw [List.replicate_succ, List.replicate_succ, List.flatten_cons, replicate_one x n]; rfl
theorem dn_rep {H : Hp} {v : V} {d : PyData} (h : Dn H v d) : ∀ n : Nat, DnAll H (List.replicate n v) (List.replicate n d)
  | 0 => .nil
  | n + 1 => .cons h (dn_rep h n)
/-- a row with zeros behind it -/
def padR (r : List Nm) (n : Nat) : List Nm := r ++ List.replicate (n - r.length) []
theorem padR_len {r : List Nm} {n : Nat} (h : r.length ≤ n) : (padR r n).length = n := by
  unfold padR
  rw [List.length_append, List.length_replicate]; omega
theorem padR_at (r : List Nm) (n j : Nat) : (padR r n).getD j [] = r.getD j [] := by
  unfold padR
  rw [List.getD_eq_getElem?_getD, List.getD_eq_getElem?_getD]
  rcases Nat.lt_or_ge j r.length with c | c
  · rw [List.getElem?_append_left c]
  · rw [List.getElem?_append_right c, List.getElem?_eq_none c, List.getElem?_replicate]
    split <;> rfl
theorem padR_mem {r : List Nm} {n : Nat} {x : Nm} (h : x ∈ padR r n) : x ∈ r ∨ x = [] := by
  rcases List.mem_append.mp h with h | h
  · exact .inl h
  · exact .inr (List.eq_of_mem_replicate h)
theorem nu_nil {ok : Int → Prop} {C : Nat} : Nu ok C [] := ⟨CN.nil, fun x hx => by simp at hx⟩
theorem list_lay {α : Type} {enc : α → PyData} {k : Nat} (h : ∀ x, PyData.canLay0 (enc x) = true ∧ (enc x).depth ≤ k) (l : List α) : PyData.canLay0 (.list (l.map enc)) = true ∧ (PyData.list (l.map enc)).depth ≤ k + 1 := by
  obtain ⟨h1, h2⟩ := lay_map h l
  constructor
  · simp only [PyData.canLay0]; exact h1
  · simp only [PyData.depth]; omega
/-- a text that two alike data have -/
theorem shown_ok {m n : Nat} {d : PyData} (h : GW m n d) (hm : m ≤ 6000000) (hn : n ≤ 60) : d.showable = true ∧ d.depth ≤ 64 ∧ d.shown.length ≤ sizeLine := by
  have o := h.wd.okd
  have sz : 6000000 ≤ sizeLine := by rw [sizeLine_eq]; decide
  exact ⟨o.sh, by have := o.dp; omega, by have := o.ln; omega⟩
theorem dn_two {H : Hp} {p : Addr} {x y : V} {d e : PyData} (h : H p = some (.tup [x, y])) (hx : Dn H x d) (hy : Dn H y e) : Dn H (.ref p) (.tuple [d, e]) := .tup h (.cons hx (.cons hy .nil))
theorem rows_co {ok : Int → Prop} {r : List Nm} {C : Nat} (h : ∀ n ∈ r, Nu ok C n) (hC : 1 ≤ C) (k : Nat) (d : Int) : ∃ t b : Int, b ≠ 0 ∧ cr r k d = Rat.divInt t b ∧ t.natAbs < 2 ^ C ∧ b.natAbs < 2 ^ C := by
  have : Nu ok C (r.getD k []) := by
    rw [List.getD_eq_getElem?_getD]
    cases e : r[k]? with
    | none => exact ⟨CN.nil, fun x hx => by simp at hx⟩
    | some n => exact h n (List.mem_of_getElem? e)
  exact Sz.co this.1 this.2 hC d
theorem qz_told {ok : Int → Prop} {C W M T : Nat} {q : Qt} {r0 : List Nm} {ts : List Tl} (hq : CQ ok q) (e1 : ∀ k d, cr q.1 k d = cr r0 k d) (e2 : ∀ p k d, cr (tl q.2 p) k d = cr (tl ts p) k d) (h0 : r0.length ≤ W) (n0 : ∀ n ∈ r0, Nu ok C n)
    (ht : ts.length ≤ T) (hts : ∀ t ∈ ts, SPl t.1 ∧ t.2.length ≤ M ∧ ∀ n ∈ t.2, Nu ok C n) (hC : 1 ≤ C) : QZ ok C W M T q := by
  have rw_ : ∀ p, (tl ts p).length ≤ M ∧ ∀ n ∈ tl ts p, Nu ok C n := fun p => by
    by_cases c : p ∈ ts.map (·.1)
    · exact (hts _ (tl_mem c)).2
    · rw [tl_off c]; exact ⟨Nat.zero_le _, fun n hn => by simp at hn⟩
  have z := qz_of (C := C) (W := W) (M := M) (ts.map (·.1)) hq (fun p hp => ?_) (fun k hk d => ?_) (fun p k hk d => ?_) (fun k d => ?_) (fun p k d => ?_) (fun p hp k d => ?_)
  · exact ⟨z.cq, z.lw, Nat.le_trans z.lt (by rw [List.length_map]; exact ht), z.lm, z.zw, z.zt, z.pl⟩
  · obtain ⟨t, ht, rfl⟩ := List.mem_map.mp hp
    exact (hts t ht).1
  · rw [e1, cr_off (Nat.le_trans h0 hk)]
  · rw [e2, cr_off (Nat.le_trans (rw_ p).1 hk)]
  · rw [e1]; exact rows_co n0 hC k d
  · rw [e2]; exact rows_co (rw_ p).2 hC k d
  · rw [e2, tl_off hp, cr_nil]
/-- a comprehension of drawn numbers -/
theorem lc_numsU {φ : Nm → Prop} {dk l D : Addr} {i n : Nat} {lo : Int} {te : TE} {σ : L2.St} {H1 : Hp} {Qd : Hp → Prop} (De : Deck H1 dk l) (hD : H1 D = none) (hn : n ≤ 1000)
    (step : ∀ (j : Nat) (H' : Hp) (Q' : V → Hp → Prop), j < n → Deck H' dk l → Keep dk l H1 H' → (∀ (r : Addr) (m : Nm) (H2 : Hp), Dn H2 (.ref r) (encN m) → φ m → Deck H2 dk l → Keep dk l H' H2 → Q' (.ref r) H2) → te ((wipe σ [i]).set i (some (.int (lo + j)))) H' Q')
    (fin : ∀ (acc : List V) (ns : List Nm) (H' : Hp), H' D = some (.lst acc) → DnAll H' acc (ns.map encN) → ns.length = n → (∀ m ∈ ns, φ m) → Deck H' dk l → Keep dk l H1 H' → Qd H') :
    ∃ W : Nat → Nat → Hp → Prop, (∃ m, W 0 m (upd H1 D (.lst []))) ∧ ∀ i_1 m H, W i_1 m H →
      ((Itr lo n).stop i_1 H ∧ Qd H) ∨ ((Itr lo n).go i_1 H ∧ ∃ Nx : Hp → Prop, (∀ H', Nx H' → ∃ m', m' < m ∧ W (i_1 + 1) m' H') ∧ ∀ x H', (Itr lo n).yld i_1 H x H' → gName i x (wipe σ [i]) H' fun σ2 H2 => wipe σ2 [i] = wipe σ [i] ∧ tYes σ2 H2 fun b H3 =>
        if b = true then te σ2 H3 fun y H4 => ∃ acc, H4 D = some (.lst acc) ∧ acc.length < sizeLine ∧ Nx (upd H4 D (.lst (acc ++ [y]))) else Nx H3) := by
  have nd : D ≠ dk := fun z => De.some1.1 (z ▸ hD)
  have nl : D ≠ l := fun z => De.some1.2 (z ▸ hD)
  refine lc_range (lo := lo) (n := n) (fun j H' => ∃ (acc : List V) (ns : List Nm), H' D = some (.lst acc) ∧ DnAll H' acc (ns.map encN) ∧ ns.length = j ∧ (∀ m ∈ ns, φ m) ∧ Deck H' dk l ∧ Keep dk l H1 H')
    ⟨[], [], upd_same, .nil, rfl, by simp, De.same (snew hD), Keep.of (snew hD)⟩ ?_ ?_
  · rintro j H' hj ⟨acc, ns, e1, e2, e3, e4, D', k'⟩
    refine ⟨wipe1, ?_⟩
    refine step j H' _ hj D' k' fun r m H2 dm sm D2 k2 => ?_
    have e5 := k2 _ _ e1 nd nl
    have lacc : acc.length = ns.length := by rw [e2.length, List.length_map]
    have up := lst_tups (o := .lst (acc ++ [.ref r])) e5
    refine ⟨_, e5, small1000 (by omega), acc ++ [.ref r], ns ++ [m], upd_same, ?_, by rw [List.length_append, e3]; rfl, fun x hx => ?_, deck_upd D2 nd nl, fun b o e h1 h2 => ?_⟩
    · rw [List.map_append]
      exact DnAll.app (tnA_tups ((keep_tups D' k2).trans up) _ _ (tn_maps encN_tn ns) e2) (.cons (tn_tups up _ _ (encN_tn m) dm) .nil)
    · rcases List.mem_append.mp hx with hx | hx
      · exact e4 x hx
      · rw [List.mem_singleton.mp hx]; exact sm
    · rw [upd_ne (ne_of_none e hD)]
      exact k2 _ _ (k' _ _ e h1 h2) h1 h2
  · rintro H' ⟨acc, ns, e1, e2, e3, e4, D', k'⟩
    exact fin acc ns H' e1 e2 e3 e4 D' k'
end N3

namespace N3
open PySem PySem.Spec PyProof.Rows L2 N2
/-! ### the law's fractions, sums and products -/
/-- a fraction as a number -/
def FrX (t b : Int) (n : Nm) : Prop := (t = 0 ∧ n = []) ∨ (t ≠ 0 ∧ ∃ t' b' : Int, n = [(1, t', b')] ∧ t' ≠ 0 ∧ lowT t' b' = true ∧ Rat.divInt t' b' = Rat.divInt t b)
theorem FrX.cn {ok : Int → Prop} {t b : Int} {n : Nm} (h : FrX t b n) (o : ok 1) : CN ok n := by
  rcases h with ⟨_, rfl⟩ | ⟨_, t', b', rfl, t0, lo, _⟩
  · exact CN.nil
  · exact ⟨fun x hx => by rw [List.mem_singleton.mp hx]; exact ⟨o, t0, lo⟩, fun i x y hx hy => by simp at hy⟩
theorem FrX.co {t b : Int} {n : Nm} (h : FrX t b n) (d : Int) : co n d = if 1 = d then Rat.divInt t b else 0 := by
  rcases h with ⟨rfl, rfl⟩ | ⟨_, t', b', rfl, _, _, e⟩
  · rw [co_nil, Rat.zero_divInt]; split <;> rfl
  · rw [co_cons, co_nil, Rat.add_zero, e]
theorem FrX.sz {t b : Int} {n : Nm} {C : Nat} (h : FrX t b n) (b0 : b ≠ 0) (bt : t.natAbs < 2 ^ C) (bb : b.natAbs < 2 ^ C) : Sz C n := by
  rcases h with ⟨rfl, rfl⟩ | ⟨_, t', b', rfl, t0, lo, e⟩
  · exact fun x hx => by simp at hx
  · intro x hx
    rw [List.mem_singleton.mp hx]
    obtain ⟨l1, l2⟩ := low_le lo t0 b0 e
    exact ⟨Nat.lt_of_le_of_lt l1 bt, by have := (low_pos lo).1; show b' ≠ 0; omega, Nat.lt_of_le_of_lt l2 bb⟩
def spFrac : Sp := fun vs H Q _ => ∃ t b : Int, vs = [.int t, .int b] ∧ 0 < b ∧ b.natAbs < 2 ^ 8000 ∧ ∀ (n : Nm) (a : Addr) (H' : Hp), Dn H' (.ref a) (encN n) → FrX t b n → Same H H' → Q (.ref a) H'
section
variable {P : Program} {w : World} {K : PySem.W.Frag} {mg : Str → Option Value} {base : Heap}
abbrev s__law_fraction : Stmt := top 59
theorem sc__law_fraction : FnScope ["top", "bottom", "shared"] ["top", "bottom"] (defScope s__law_fraction) := ⟨rfl, rfl, rfl, by decide +kernel, rfl, by decide +kernel, by decide +kernel⟩
theorem ok__law_fraction {f f__law_gcd : Addr} {fd d__law_gcd : FuncData}  (F : Fun K "_law_fraction" "_law_fraction" s__law_fraction f fd) (T : Bt mg) (l_gcd : Kn P w K mg base 1 "_law_gcd" ["one", "other"] spCommon f__law_gcd d__law_gcd) : FnOk P w K mg base CX0 2 f fd ["top", "bottom"] spFrac := by
  refine F.ok sc__law_fraction (fun vs H Q E h => ?_) (fun cdv A outer s H vs Q E hr h => ?_)
  · obtain ⟨t, b, rfl, _⟩ := h
    rfl
  · obtain ⟨t, b, rfl, b0, bl, k⟩ := h
    refine ⟨_, pss_cons (ps_if (pt_cmpR op_eq (pv 0) pe_int (nomark _))
        (pss_one (ps_ret (pe_tup pa_nil)))
        pss_nil)
      (pss_cons (ps_set (i := 2) sc__law_fraction.nd rfl (Or.inl rfl) (pe_call l_gcd.ok (hr.mono (by decide)) rfl l_gcd.mg l_gcd.kp l_gcd.bd .nil pass0 (pa_cons (pv 0) (pa_cons (pv 1) pa_nil))))
      (C8.pss_cut (ps_if (pt_cmpR op_lt (pv 1) pe_int (nomark _))
        (pss_one (ps_set (i := 2) sc__law_fraction.nd rfl (Or.inl rfl) (pe_un un_neg (pv 2))))
        pss_nil)
      (pss_one (ps_ret (pe_tup (pa_cons (pe_tup (pa_cons pe_int (pa_cons (pe_op op_fdivW (pv 0) (pv 2)) (pa_cons (pe_op op_fdivW (pv 1) (pv 2)) pa_nil)))) pa_nil)))))), ?_⟩
    have s1z : 1 ≤ sizeLine := by rw [sizeLine_eq]; decide
    have s3z : 3 ≤ sizeLine := by rw [sizeLine_eq]; decide
    refine ⟨_, rfl, rfl, _, rfl, ite_b (fun c => ?_) (fun c => ?_)⟩
    · have t0 : t = 0 := by simpa using c
      exact ⟨Nat.zero_le _, fun p hp => k [] p _ (.tup upd_same .nil) (.inl ⟨t0, rfl⟩) (snew hp)⟩
    · have t0 : t ≠ 0 := by simpa using c
      refine ⟨_, rfl, _, rfl, t, b, rfl, ?_⟩
      refine ⟨fun σ' H' => σ' = [some (.int t), some (.int b), some (.int (Nat.gcd t.natAbs b.natAbs : Nat))] ∧ H' = H, ⟨_, rfl, _, _, rfl, rfl, _, rfl, ?_⟩, ?_⟩
      · have c : decide (b < 0) = false := decide_eq_false (by omega)
        rw [c]
        exact iteF ⟨rfl, rfl⟩
      · rintro σ' H' ⟨rfl, rfl⟩
        have gp : 0 < Nat.gcd t.natAbs b.natAbs := Nat.gcd_pos_of_pos_right _ (by omega)
        have gl : Nat.gcd t.natAbs b.natAbs ≤ b.natAbs := Nat.le_of_dvd (by omega) (Nat.gcd_dvd_right _ _)
        have lg : ((Nat.gcd t.natAbs b.natAbs : Nat) : Int).natAbs.log2 < 9000 := by
          show (Nat.gcd t.natAbs b.natAbs).log2 < 9000
          have := (Nat.log2_lt (by omega : Nat.gcd t.natAbs b.natAbs ≠ 0)).mpr (show Nat.gcd t.natAbs b.natAbs < 2 ^ 8000 from Nat.lt_of_le_of_lt gl bl)
          omega
        have gz : (0 : Int) < (Nat.gcd t.natAbs b.natAbs : Nat) := by omega
        obtain ⟨e1, lo, _⟩ := low_of (t := t) b0
        refine ⟨_, rfl, _, rfl, _, _, rfl, rfl, ⟨gz, lg⟩, _, rfl, _, rfl, _, _, rfl, rfl, ⟨gz, lg⟩, s3z, fun p hp => ⟨s1z, fun q hq => ?_⟩⟩
        have b1 := (low_pos lo).1
        have t1 : t / ((Nat.gcd t.natAbs b.natAbs : Nat) : Int) ≠ 0 := fun z => by
          rw [z, Int.zero_mul] at e1
          rcases Int.mul_eq_zero.mp e1.symm with h | h
          · exact t0 h
          · omega
        exact k [(1, _, _)] q _ (.tup upd_same (.cons (encT_dn ((snew hq) _ _ upd_same)) .nil)) (.inr ⟨t0, _, _, rfl, t1, lo, (Rat.divInt_eq_divInt_iff (by omega) (by omega)).mpr e1⟩) ((snew hp).trans (snew hq))
end
end N3

namespace N3
open PySem PySem.Spec PyProof.Rows L2 N2
/-! ### the law's sum of two numbers -/
def spLPlus : Sp := fun vs H Q _ => ∃ (u v : V) (n m : Nm) (C : Nat) (ok : Int → Prop), vs = [u, v] ∧ Dn H u (encN n) ∧ Dn H v (encN m) ∧ Nu ok C n ∧ Nu ok C m ∧ n.length ≤ 30 ∧ m.length ≤ 30 ∧ C ≤ 100 ∧
  ∀ (s : Nm) (r : Addr) (H' : Hp), Dn H' (.ref r) (encN s) → CN ok s → (∀ d, co s d = co n d + co m d) → Same H H' → Q (.ref r) H'
section
variable {P : Program} {w : World} {K : PySem.W.Frag} {mg : Str → Option Value} {base : Heap}
abbrev s__law_plus : Stmt := top 61
abbrev nsLPl : List Str := ["one", "other", "top", "bottom", "shared", "found", "d", "up", "down"]
theorem sc__law_plus : FnScope nsLPl ["one", "other"] (defScope s__law_plus) := ⟨rfl, rfl, rfl, by decide +kernel, rfl, by decide +kernel, by decide +kernel⟩
theorem ok__law_plus {f f__law_gcd : Addr} {fd d__law_gcd : FuncData}  (F : Fun K "_law_plus" "_law_plus" s__law_plus f fd) (T : Bt mg) (l_gcd : Kn P w K mg base 1 "_law_gcd" ["one", "other"] spCommon f__law_gcd d__law_gcd) : FnOk P w K mg base CX0 2 f fd ["one", "other"] spLPlus := by
  refine F.ok sc__law_plus (fun vs H Q E h => ?_) (fun cdv A outer s H vs Q E hr h => ?_)
  · obtain ⟨u, v, n, m, C, ok, rfl, _⟩ := h
    rfl
  · obtain ⟨u, v, n, m, C, ok, rfl, hu0, hv0, hn, hm, ln, lm, c100, k⟩ := h
    have hu := hu_of hr
    refine ⟨_, pss_cons (ps_if (PW.pt (pw_or (pt_cmpR (op_eqD hr.units) (pv 0) (pe_tup pa_nil) (nomark _)) (pw_or1 (pt_cmpR (op_eqD hr.units) (pv 1) (pe_tup pa_nil) (nomark _)))))
        (pss_one (ps_ret (pe_op op_catA (pv 0) (pv 1))))
        pss_nil)
      (C8.pss_cut (ps_if (PW.pt (pw_and (pt_cmpR op_eq (pe_callB call_len (by rfl) T.len PySem.boot_len (pa_cons (pv 0) pa_nil)) pe_int (nomark _)) (pw_and (pt_cmpR op_eq (pe_callB call_len (by rfl) T.len PySem.boot_len (pa_cons (pv 1) pa_nil)) pe_int (nomark _)) (pw_and1 (pt_cmpR op_eq (pe_ix (r := rIx K) ix_seq (pe_ix (r := rIx K) ix_seq (pv 0) pe_int (fun _ _ => rfl)) pe_int (fun _ _ => rfl)) (pe_ix (r := rIx K) ix_seq (pe_ix (r := rIx K) ix_seq (pv 1) pe_int (fun _ _ => rfl)) pe_int (fun _ _ => rfl)) (nomark _))))))
        (pss_cons (ps_par (i := 2) (j := 3) rfl sc__law_plus.nd rfl rfl (by decide) rfl rfl (pa_cons (pe_op op_add (pe_op op_mulW (pe_ix (r := rIx K) ix_seq (pe_ix (r := rIx K) ix_seq (pv 0) pe_int (fun _ _ => rfl)) pe_int (fun _ _ => rfl)) (pe_ix (r := rIx K) ix_seq (pe_ix (r := rIx K) ix_seq (pv 1) pe_int (fun _ _ => rfl)) pe_int (fun _ _ => rfl))) (pe_op op_mulW (pe_ix (r := rIx K) ix_seq (pe_ix (r := rIx K) ix_seq (pv 1) pe_int (fun _ _ => rfl)) pe_int (fun _ _ => rfl)) (pe_ix (r := rIx K) ix_seq (pe_ix (r := rIx K) ix_seq (pv 0) pe_int (fun _ _ => rfl)) pe_int (fun _ _ => rfl)))) (pa_cons (pe_op op_mulW (pe_ix (r := rIx K) ix_seq (pe_ix (r := rIx K) ix_seq (pv 0) pe_int (fun _ _ => rfl)) pe_int (fun _ _ => rfl)) (pe_ix (r := rIx K) ix_seq (pe_ix (r := rIx K) ix_seq (pv 1) pe_int (fun _ _ => rfl)) pe_int (fun _ _ => rfl))) pa_nil)) (by rfl))
        (pss_cons (ps_set (i := 4) sc__law_plus.nd rfl (Or.inl rfl) (pe_call l_gcd.ok (hr.mono (by decide)) rfl l_gcd.mg l_gcd.kp l_gcd.bd .nil pass0 (pa_cons (pv 2) (pa_cons (pv 3) pa_nil))))
        (pss_one (ps_ret (pe_ifExp (pt_cmpR op_ne (pv 2) pe_int (nomark _)) (pe_tup (pa_cons (pe_tup (pa_cons (pe_ix (r := rIx K) ix_seq (pe_ix (r := rIx K) ix_seq (pv 0) pe_int (fun _ _ => rfl)) pe_int (fun _ _ => rfl)) (pa_cons (pe_op op_fdivW (pv 2) (pv 4)) (pa_cons (pe_op op_fdivW (pv 3) (pv 4)) pa_nil)))) pa_nil)) (pe_tup pa_nil))))))
        pss_nil)
      (pss_cons (ps_set (i := 5) sc__law_plus.nd rfl (Or.inr rfl) pe_dnewK)
      (pss_cons (ps_for PassesOwn.never rfl (pi_tup (pe_op op_catA (pv 0) (pv 1))) (pg_tup rfl (pgs_cons (pg_name (i := 6) sc__law_plus.nd rfl (Or.inl rfl)) (pgs_cons (pg_name (i := 2) sc__law_plus.nd rfl (Or.inl rfl)) (pgs_cons (pg_name (i := 3) sc__law_plus.nd rfl (Or.inl rfl)) pgs_nil))))
        (pss_cons (ps_asg (pe_dget2 hu (pv 5) (pv 6) (pe_tup (pa_cons pe_int (pa_cons pe_int pa_nil))) ⟨by rfl, by rfl, by rfl, by rfl⟩) (pg_tup rfl (pgs_cons (pg_name (i := 7) sc__law_plus.nd rfl (Or.inl rfl)) (pgs_cons (pg_name (i := 8) sc__law_plus.nd rfl (Or.inl rfl)) pgs_nil))))
        (pss_cons (ps_par (i := 7) (j := 8) rfl sc__law_plus.nd rfl rfl (by decide) rfl rfl (pa_cons (pe_op op_add (pe_op op_mulW (pv 7) (pv 3)) (pe_op op_mulW (pv 2) (pv 8))) (pa_cons (pe_op op_mulW (pv 8) (pv 3)) pa_nil)) (by rfl))
        (pss_cons (ps_set (i := 4) sc__law_plus.nd rfl (Or.inl rfl) (pe_call l_gcd.ok (hr.mono (by decide)) rfl l_gcd.mg l_gcd.kp l_gcd.bd .nil pass0 (pa_cons (pv 7) (pa_cons (pv 8) pa_nil))))
        (pss_one (ps_dput hu (pv 5) (pv 6) (pe_tup (pa_cons (pe_op op_fdivW (pv 7) (pv 4)) (pa_cons (pe_op op_fdivW (pv 8) (pv 4)) pa_nil))) rfl))))))
      (pss_one (ps_ret (pe_callTy call_tuple_of (by rfl) T.tuple (by decide +kernel) (pa_cons (pe_lc (own := [("d", 6)]) (g := (gName 6)) (tt := _) rfl sc__law_plus.nd (pi_list (pe_callB (call_sortedDI rfl) (by rfl) T.sorted (by decide +kernel) (pa_cons (pv 5) pa_nil))) (blkOk_by (own := [("d", 6)]) (N := nsLPl) (sc := defScope s__law_plus) (by decide +kernel)) (fun _ _ _ _ _ => pg_name (i := 6) sc__law_plus.nd rfl (Or.inl rfl)) (fun _ _ _ _ _ => pts_one (pt_cmpR op_ne (pe_ix (r := rIx K) ix_seq (pe_dget hu (pv 5) (pv 6) (fun _ _ => rfl)) pe_int (fun _ _ => rfl)) pe_int (nomark _))) (fun _ _ _ _ _ => (pe_tup (pa_cons (pv 6) (pa_cons (pe_ix (r := rIx K) ix_seq (pe_dget hu (pv 5) (pv 6) (fun _ _ => rfl)) pe_int (fun _ _ => rfl)) (pa_cons (pe_ix (r := rIx K) ix_seq (pe_dget hu (pv 5) (pv 6) (fun _ _ => rfl)) pe_int (fun _ _ => rfl)) pa_nil)))))) pa_nil))))))), ?_⟩
    have s1z : 1 ≤ sizeLine := by rw [sizeLine_eq]; decide
    have s3z : 3 ≤ sizeLine := by rw [sizeLine_eq]; decide
    obtain ⟨a, xs, rfl, ha, ra⟩ := dn_encN hu0
    obtain ⟨b, ys, rfl, hb, rb⟩ := dn_encN hv0
    have la : xs.length = n.length := by rw [ra.length, List.length_map]
    have lb : ys.length = m.length := by rw [rb.length, List.length_map]
    have sa : SqT K H a xs := SqT.of ha
    have sb : SqT K H b ys := SqT.of hb
    have wm : ∀ {i j : Int} {D D' : Nat}, i.natAbs < 2 ^ D → j.natAbs < 2 ^ D' → D ≤ 100000 → D' ≤ 100000 → CMulW i j := fun {i j D D'} h k u v => by
      have := log_lt h
      have := log_lt k
      show i.natAbs.log2 + j.natAbs.log2 < 1000000
      omega
    have wd : ∀ (t : Int) {y : Int} {D : Nat}, 0 < y → y.natAbs < 2 ^ D → D ≤ 8000 → CDivW t ((Nat.gcd t.natAbs y.natAbs : Nat) : Int) := fun t {y D} y0 h u => by
      have gp : 0 < Nat.gcd t.natAbs y.natAbs := Nat.gcd_pos_of_pos_right _ (by omega)
      have gl : Nat.gcd t.natAbs y.natAbs ≤ y.natAbs := Nat.le_of_dvd (by omega) (Nat.gcd_dvd_right _ _)
      refine ⟨by omega, ?_⟩
      have : ((Nat.gcd t.natAbs y.natAbs : Nat) : Int).natAbs < 2 ^ D := Nat.lt_of_le_of_lt gl h
      have := log_lt this
      omega
    have wd2 : ∀ (t : Int) {y : Int} {D : Nat}, 0 < y → y.natAbs < 2 ^ D → D ≤ 8000 → CDivW y ((Nat.gcd t.natAbs y.natAbs : Nat) : Int) := fun t {y D} y0 h u => wd t y0 h u
    refine ⟨_, rfl, Nat.zero_le _, fun p hp => ⟨encN n, .tuple [], tn_dp _ _ (encN_tn n) (Dn.mono (snew hp) _ _ hu0), .tup (SqT.of upd_same) .nil, encN_shaped n, rfl, _, rfl, ?_⟩⟩
    rw [eqv_nil_d (encN_tn n)]
    have s1 := snew (o := .tup []) hp
    have zero : n = [] ∨ m = [] → ∀ H1, Same H H1 → tRet (tOp (rCatA K) (tVar 0) (tVar 1)) { nx := fun _ H' => Q .non H', rt := Q } (L2.start nsLPl [V.ref a, V.ref b]) H1 := fun z H1 s1 => by
      refine ⟨_, rfl, _, rfl, a, b, xs, ys, rfl, rfl, SqT.of (s1 _ _ ha), SqT.of (s1 _ _ hb), ?_, fun e => ?_, fun e e2 => ?_, fun e e2 => ?_⟩
      · rw [la, lb]; exact Nat.le_of_lt (small1000 (by omega))
      · have : n = [] := List.length_eq_zero_iff.mp (by rw [← la, e]; rfl)
        subst this
        exact k m b H1 (Dn.mono s1 _ _ hv0) hm.1 (fun d => by rw [co_nil, Rat.zero_add]) s1
      · have : m = [] := List.length_eq_zero_iff.mp (by rw [← lb, e2]; rfl)
        subst this
        exact k n a H1 (Dn.mono s1 _ _ hu0) hn.1 (fun d => by rw [co_nil, Rat.add_zero]) s1
      · exfalso
        rcases z with rfl | rfl
        · exact e (List.length_eq_zero_iff.mp la)
        · exact e2 (List.length_eq_zero_iff.mp lb)
    refine ite_b (fun c => ?_) (fun c => ?_)
    · refine iteT ?_
      exact zero (.inl (by cases n with | nil => rfl | cons _ _ => cases c)) _ s1
    have n0 : n ≠ [] := fun z => by rw [z] at c; cases c
    refine ⟨_, rfl, Nat.zero_le _, fun p2 hp2 => ⟨encN m, .tuple [], tn_dp _ _ (encN_tn m) (Dn.mono (s1.trans (snew hp2)) _ _ hv0), .tup (SqT.of upd_same) .nil, encN_shaped m, rfl, _, rfl, ?_⟩⟩
    rw [eqv_nil_d (encN_tn m)]
    have s2 := s1.trans (snew (o := .tup []) hp2)
    refine ite_b (fun c => ?_) (fun c => ?_)
    · exact zero (.inr (by cases m with | nil => rfl | cons _ _ => cases c)) _ s2
    have m0 : m ≠ [] := fun z => by rw [z] at c; cases c
    obtain ⟨H2, eH2⟩ : ∃ H2, upd (upd H p (.tup [])) p2 (.tup []) = H2 := ⟨_, rfl⟩
    rw [eH2] at s2 ⊢
    have ha2 := s2 _ _ ha
    have hb2 := s2 _ _ hb
    have sa2 : SqT K H2 a xs := SqT.of ha2
    have sb2 : SqT K H2 b ys := SqT.of hb2
    have ra2 := DnAll.mono s2 _ _ ra
    have rb2 := DnAll.mono s2 _ _ rb
    obtain ⟨low_n, low_m⟩ : (∀ x ∈ n, lowT x.2.1 x.2.2 = true) ∧ ∀ x ∈ m, lowT x.2.1 x.2.2 = true := ⟨fun x hx => (hn.1.1 x hx).2.2, fun x hx => (hm.1.1 x hx).2.2⟩
    refine ⟨fun σ' H' => σ' = L2.start nsLPl [V.ref a, V.ref b] ∧ Same H H', ?_, ?_⟩
    · refine ⟨_, rfl, .ref a, xs.length, rfl, .inr ⟨xs, sa2, rfl⟩, rfl, _, rfl, ite_b (fun c => ?_) (fun _ => iteF ⟨rfl, s2⟩)⟩
      refine ⟨_, rfl, .ref b, ys.length, rfl, .inr ⟨ys, sb2, rfl⟩, rfl, _, rfl, ite_b (fun c2 => ?_) (fun _ => iteF ⟨rfl, s2⟩)⟩
      have l1 : n.length = 1 := by have := of_decide_eq_true c; have := V.int.inj this; omega
      have l2 : m.length = 1 := by have := of_decide_eq_true c2; have := V.int.inj this; omega
      obtain ⟨⟨d, t, bb⟩, rfl⟩ := List.length_eq_one_iff.mp l1
      obtain ⟨⟨e, t2, b2⟩, rfl⟩ := List.length_eq_one_iff.mp l2
      cases ra2 with
      | cons r1 r1' =>
      cases r1'
      cases rb2 with
      | cons r2 r2' =>
      cases r2'
      obtain ⟨q, rfl, hq⟩ := dn_encT r1
      obtain ⟨q2, rfl, hq2⟩ := dn_encT r2
      have ia : ∀ {H' : Hp} {i : Int} {v : V} {Q' : VK}, Same H2 H' → atI [.int d, .int t, .int bb] i = some v → Q' v H' → rIx K (.ref a) (.int 0) H' fun x H'' => rIx K x (.int i) H'' Q' := fun {H' i v Q'} e0 ei q' =>
        .inr (.inl ⟨a, _, _, .ref q, rfl, rfl, SqT.of (e0 _ _ ha2), rfl, .inr (.inl ⟨q, _, _, v, rfl, rfl, SqT.of (e0 _ _ hq), ei, q'⟩)⟩)
      have ib : ∀ {H' : Hp} {i : Int} {v : V} {Q' : VK}, Same H2 H' → atI [.int e, .int t2, .int b2] i = some v → Q' v H' → rIx K (.ref b) (.int 0) H' fun x H'' => rIx K x (.int i) H'' Q' := fun {H' i v Q'} e0 ei q' =>
        .inr (.inl ⟨b, _, _, .ref q2, rfl, rfl, SqT.of (e0 _ _ hb2), rfl, .inr (.inl ⟨q2, _, _, v, rfl, rfl, SqT.of (e0 _ _ hq2), ei, q'⟩)⟩)
      have S0 := Same.refl H2
      refine ⟨_, rfl, ia S0 rfl ?_⟩
      refine ⟨_, rfl, ib S0 rfl ⟨rfl, _, rfl, ite_b (fun c3 => ?_) (fun _ => ⟨rfl, s2⟩)⟩⟩
      have de : d = e := V.int.inj (of_decide_eq_true c3)
      subst de
      obtain ⟨z1, z2, z3⟩ := hn.2 (d, t, bb) List.mem_cons_self
      obtain ⟨z4, z5, z6⟩ := hm.2 (d, t2, b2) List.mem_cons_self
      have lo1 := low_n (d, t, bb) List.mem_cons_self
      have lo2 := low_m (d, t2, b2) List.mem_cons_self
      have p1 : 1 ≤ bb := (low_pos lo1).1
      have p2' : 1 ≤ b2 := (low_pos lo2).1
      have B0 : 0 < bb * b2 := Int.mul_pos (by omega) (by omega)
      have bB : (bb * b2).natAbs < 2 ^ (C + C) := mul_bit z3 z6
      have ev : Rat.divInt t bb + Rat.divInt t2 b2 = Rat.divInt (t * b2 + t2 * bb) (bb * b2) := Rat.divInt_add_divInt _ _ (by omega) (by omega)
      refine ⟨_, rfl, ia S0 rfl ⟨_, rfl, ib S0 rfl ⟨_, _, rfl, rfl, wm z1 z6 (by omega) (by omega), ?_⟩⟩⟩
      refine ⟨_, rfl, ib S0 rfl ⟨_, rfl, ia S0 rfl ⟨_, _, rfl, rfl, wm z4 z3 (by omega) (by omega), _, _, rfl, rfl, ?_⟩⟩⟩
      refine ⟨_, rfl, ia S0 rfl ⟨_, rfl, ib S0 rfl ⟨_, _, rfl, rfl, wm z3 z6 (by omega) (by omega), _, _, rfl, ?_⟩⟩⟩
      refine ⟨_, rfl, _, rfl, _, _, rfl, ?_⟩
      refine ⟨_, rfl, rfl, _, rfl, ite_b (fun c4 => ?_) (fun c4 => ?_)⟩
      · have c5 : (!decide (V.int (t * b2 + t2 * bb) = V.int 0)) = true := c4
        have T0 : t * b2 + t2 * bb ≠ 0 := fun z => by
          rw [z] at c5
          simp at c5
        obtain ⟨e1, lo, _⟩ := low_of (t := t * b2 + t2 * bb) B0
        refine ⟨_, rfl, ia S0 rfl ⟨_, rfl, _, rfl, _, _, rfl, rfl, wd _ B0 bB (by omega), _, rfl, _, rfl, _, _, rfl, rfl, wd _ B0 bB (by omega), s3z, fun p hp => ⟨s1z, fun q hq => ?_⟩⟩⟩
        have b1 := (low_pos lo).1
        have t1 : (t * b2 + t2 * bb) / ((Nat.gcd (t * b2 + t2 * bb).natAbs (bb * b2).natAbs : Nat) : Int) ≠ 0 := fun z => by
          rw [z, Int.zero_mul] at e1
          rcases Int.mul_eq_zero.mp e1.symm with h | h
          · exact T0 h
          · omega
        refine k [(d, _, _)] q _ (.tup upd_same (.cons (encT_dn ((snew hq) _ _ upd_same)) .nil)) ⟨fun x hx => ?_, fun i x y hx hy => by simp at hy⟩ (fun d' => ?_) (s2.trans ((snew hp).trans (snew hq)))
        · rw [List.mem_singleton.mp hx]
          exact ⟨(hn.1.1 (d, t, bb) List.mem_cons_self).1, t1, lo⟩
        · rw [co_cons, co_cons, co_cons, co_nil, Rat.add_zero, Rat.add_zero, Rat.add_zero]
          show (if d = d' then _ else _) = (if d = d' then Rat.divInt t bb else _) + (if d = d' then Rat.divInt t2 b2 else _)
          split
          · rw [ev]
            exact (Rat.divInt_eq_divInt_iff (Int.ne_of_gt (Int.lt_of_lt_of_le (by decide) b1)) (Int.ne_of_gt B0)).mpr e1
          · rw [Rat.add_zero]
      · have T0 : t * b2 + t2 * bb = 0 := by simpa using c4
        refine ⟨Nat.zero_le _, fun p hp => k [] p _ (.tup upd_same .nil) CN.nil (fun d' => ?_) (s2.trans (snew hp))⟩
        rw [co_cons, co_cons, co_nil, Rat.add_zero, Rat.add_zero]
        show _ = (if d = d' then Rat.divInt t bb else _) + (if d = d' then Rat.divInt t2 b2 else _)
        split
        · rw [ev, T0, Rat.zero_divInt]
        · rw [Rat.add_zero]
    · rintro σ' H3 ⟨rfl, s3⟩
      intro fo hfo
      have s4 := s3.trans (snew (o := .dK []) hfo)
      have foe : (upd H3 fo (.dK [])) fo = some (.dK []) := upd_same
      obtain ⟨H4, eH4⟩ : ∃ H4, upd H3 fo (.dK []) = H4 := ⟨_, rfl⟩
      rw [eH4] at s4 foe
      have hfoH : H fo = none := s3.free hfo
      obtain ⟨G, eG⟩ : ∃ G, C + 1 = G := ⟨_, rfl⟩
      refine ⟨_, rfl, _, rfl, a, b, xs, ys, rfl, rfl, SqT.of (eH4 ▸ s4 _ _ ha), SqT.of (eH4 ▸ s4 _ _ hb), ?_, fun e => absurd (List.length_eq_zero_iff.mp (by rw [← la, e]; rfl)) n0, fun _ e => absurd (List.length_eq_zero_iff.mp (by rw [← lb, e]; rfl)) m0, fun _ _ p hp => ?_⟩
      · rw [la, lb]; exact Nat.le_of_lt (small1000 (by omega))
      rw [eH4] at hp ⊢
      have sp := snew (o := .tup (xs ++ ys)) hp
      have s5 := s4.trans sp
      have fp : fo ≠ p := ne_of_none foe hp
      have rL : DnAll (upd H4 p (.tup (xs ++ ys))) (xs ++ ys) ((n ++ m).map encT) := by
        rw [List.map_append]
        exact DnAll.app (DnAll.mono s5 _ _ ra) (DnAll.mono s5 _ _ rb)
      have szL : ∀ x ∈ n ++ m, x.2.1.natAbs < 2 ^ C ∧ x.2.2.natAbs < 2 ^ C ∧ lowT x.2.1 x.2.2 = true ∧ ok x.1 := fun x hx => by
        rcases List.mem_append.mp hx with h | h
        · exact ⟨(hn.2 x h).1, (hn.2 x h).2.2, low_n x h, (hn.1.1 x h).1⟩
        · exact ⟨(hm.2 x h).1, (hm.2 x h).2.2, low_m x h, (hm.1.1 x h).1⟩
      obtain ⟨L, eL⟩ : ∃ L, n ++ m = L := ⟨_, rfl⟩
      have lL : L.length = n.length + m.length := by rw [← eL, List.length_append]
      have lz : (xs ++ ys).length = L.length := by rw [List.length_append, la, lb, lL]
      rw [eL] at rL szL
      obtain ⟨zs, ezs⟩ : ∃ zs, xs ++ ys = zs := ⟨_, rfl⟩
      rw [ezs] at rL lz sp s5 ⊢
      obtain ⟨H5, eH5⟩ : ∃ H5, upd H4 p (.tup zs) = H5 := ⟨_, rfl⟩
      have hp5 : H5 p = some (.tup zs) := by rw [← eH5]; exact upd_same
      rw [eH5] at rL sp s5 ⊢
      have fo5 := sp _ _ foe
      refine ⟨p, rfl, ⟨_, SqT.of hp5⟩, for_tup (K := K) (a := p) (xs := zs) (fun i σ H' => (∃ x2 x3 x4 x6 x7 x8 : Option V, σ = [some (.ref a), some (.ref b), x2, x3, x4, some (.ref fo), x6, x7, x8]) ∧ (∀ c o, H5 c = some o → c ≠ fo → H' c = some o) ∧
          ∃ (kvs : List (Key × V)) (ts : Nm), H' fo = some (.dK kvs) ∧ TotR H' kvs ts ∧ Ks ts ∧ Sz (G * i + 1) ts ∧ ts.length ≤ i ∧ (∀ x ∈ ts, lowT x.2.1 x.2.2 = true ∧ ok x.1) ∧ ∀ d, co ts d = co (L.take i) d)
        ⟨⟨_, _, _, _, _, _, rfl⟩, fun c o e _ => e, [], [], fo5, .nil, List.nodup_nil, fun x hx => by simp at hx, Nat.le_refl _, fun x hx => by simp at hx, fun d => rfl⟩ (fun i σ H' _ ⟨_, k', _⟩ => SqT.of (k' _ _ hp5 (ne_of hp5 fo5 (by intro z; cases z)))) ?_ ?_⟩
      · rintro i x σ H6 hx ⟨⟨x2, x3, x4, x6, x7, x8, rfl⟩, kk, kvs, ts, e1, tr, nd, sz, len, lows, con⟩
        have il : i < zs.length := (List.getElem?_eq_some_iff.mp hx).1
        obtain ⟨dd, edd, dn⟩ := (DnAll.at_ rL hx)
        rw [List.getElem?_map] at edd
        obtain ⟨t, ht, rfl⟩ := Option.map_eq_some_iff.mp edd
        obtain ⟨d, t, bb⟩ := t
        obtain ⟨q, rfl, hq⟩ := dn_encT dn
        obtain ⟨zt, zb, lo, okd⟩ := szL _ (List.mem_of_getElem? ht)
        have zt : t.natAbs < 2 ^ C := zt
        have zb : bb.natAbs < 2 ^ C := zb
        have bb1 : 1 ≤ bb := (low_pos lo).1
        have nfo : ∀ {c : Addr} {ys : List V}, H5 c = some (.tup ys) → c ≠ fo := fun h => ne_of h fo5 (by intro z; cases z)
        refine ⟨q, _, rfl, SqT.of (kk _ _ hq (nfo hq)), rfl, _, _, rfl, _, _, rfl, _, _, rfl, rfl, ?_⟩
        refine ⟨_, rfl, fo, rfl, .inl ⟨kvs, .inl e1⟩, _, rfl, by show 2 ≤ sizeLine; rw [sizeLine_eq]; decide, fun p0 hp0 => ?_⟩
        have s6 := snew (o := .tup [.int 0, .int 1]) hp0
        have e1' := s6 _ _ e1
        obtain ⟨H7, eH7⟩ : ∃ H7, upd H6 p0 (.tup [.int 0, .int 1]) = H7 := ⟨_, rfl⟩
        have hp7 : H7 p0 = some (.tup [.int 0, .int 1]) := by rw [← eH7]; exact upd_same
        rw [eH7] at s6 e1' ⊢
        obtain ⟨B, eB⟩ : ∃ B, G * i + 1 = B := ⟨_, rfl⟩
        rw [eB] at sz
        have pB : 2 ≤ 2 ^ B := by rw [← eB, Nat.pow_succ]; have := Nat.one_le_two_pow (n := G * i); omega
        have hB : B ≤ 6200 := by
          have : G * i ≤ 101 * 60 := Nat.mul_le_mul (by omega) (by omega)
          omega
        have got : ∃ (o : Option V) (q' : Addr) (up dw : Int), DGet H7 fo (.int d) o ∧ o.getD (.ref p0) = .ref q' ∧ H7 q' = some (.tup [.int up, .int dw]) ∧ Rat.divInt up dw = co ts d ∧ up.natAbs < 2 ^ B ∧ 1 ≤ dw ∧ dw.natAbs < 2 ^ B := by
          rcases tr.get d with ⟨hv, hd⟩ | ⟨q', h', l', hv, hq', hm⟩
          · exact ⟨none, p0, 0, 1, hv ▸ DGet.k (k := Sum.inl d) e1', rfl, hp7, by rw [co_off hd, Rat.zero_divInt], by show 0 < _; omega, by decide, by show 1 < _; omega⟩
          · obtain ⟨z1, z2, z3⟩ := sz _ hm
            exact ⟨some (.ref q'), q', h', l', hv ▸ DGet.k (k := Sum.inl d) e1', rfl, s6 _ _ hq', (co_at nd hm).symm, z1, (low_pos (lows _ hm).1).1, z3⟩
        obtain ⟨o, q', up, dw, dg, eo, hq', ev, bu, d1, bd⟩ := got
        refine ⟨o, dg, ?_⟩
        rw [eo]
        refine ⟨q', _, rfl, SqT.of hq', rfl, _, _, rfl, _, _, rfl, rfl, ?_⟩
        refine ⟨_, rfl, _, rfl, _, _, rfl, rfl, wm bu zb (by omega) (by omega), _, rfl, _, rfl, _, _, rfl, rfl, wm zt bd (by omega) (by omega), _, _, rfl, rfl, _, rfl, _, rfl, _, _, rfl, rfl, wm bd zb (by omega) (by omega), _, _, rfl, ?_⟩
        have D0 : 0 < dw * bb := Int.mul_pos (by omega) (by omega)
        have bD : (dw * bb).natAbs < 2 ^ (B + C) := mul_bit bd zb
        have bU : (up * bb + t * dw).natAbs < 2 ^ (B + C + 1) := add_bit (mul_bit bu zb) (by rw [Nat.add_comm]; exact mul_bit zt bd)
        have ev2 : Rat.divInt (up * bb + t * dw) (dw * bb) = co ts d + Rat.divInt t bb := by
          rw [← ev, Rat.divInt_add_divInt _ _ (by omega) (by omega)]
        refine ⟨_, rfl, _, rfl, _, _, rfl, ?_⟩
        obtain ⟨f1, lo2, f2⟩ := low_of (t := up * bb + t * dw) D0
        refine ⟨_, rfl, _, rfl, _, _, rfl, rfl, wd _ D0 bD (by omega), _, rfl, _, rfl, _, _, rfl, rfl, wd _ D0 bD (by omega), by show 2 ≤ sizeLine; rw [sizeLine_eq]; decide, fun p3 hp3 => ?_⟩
        obtain ⟨T', eT⟩ : ∃ T', (up * bb + t * dw) / ((Nat.gcd (up * bb + t * dw).natAbs (dw * bb).natAbs : Nat) : Int) = T' := ⟨_, rfl⟩
        obtain ⟨B', eB'⟩ : ∃ B', (dw * bb) / ((Nat.gcd (up * bb + t * dw).natAbs (dw * bb).natAbs : Nat) : Int) = B' := ⟨_, rfl⟩
        have nT : T'.natAbs ≤ (up * bb + t * dw).natAbs := by rw [← eT]; exact Int.natAbs_ediv_le_natAbs _ _
        have nB : B'.natAbs ≤ (dw * bb).natAbs := by rw [← eB']; exact Int.natAbs_ediv_le_natAbs _ _
        dsimp only
        rw [eT, eB'] at f1 lo2 ⊢
        have b1' := (low_pos lo2).1
        have ev3 : Rat.divInt T' B' = co ts d + Rat.divInt t bb := by
          rw [← ev2]
          exact (Rat.divInt_eq_divInt_iff (by omega) (Int.ne_of_gt D0)).mpr f1
        have s7 := snew (o := .tup [.int T', .int B']) hp3
        have e1'' := s7 _ _ e1'
        have pfo : p3 ≠ fo := (ne_of_none e1' hp3).symm
        have GB : B + C + 1 = G * (i + 1) + 1 := by rw [Nat.mul_succ, ← eB, ← eG]; omega
        rw [GB] at bU
        have bD' : (dw * bb).natAbs < 2 ^ (G * (i + 1) + 1) := bit_up bD (by omega)
        refine ⟨_, rfl, _, rfl, fo, _, rfl, DPut.k (k := Sum.inl d) e1'' (by rw [tr.length]; exact small1000 (by omega)), ⟨_, _, _, _, _, _, rfl⟩, fun c o' e h => ?_, _, putN ts d T' B', upd_same, ?_, putN_ks nd, putN_sz sz (by omega) (Nat.lt_of_le_of_lt nT bU) (by omega) (Nat.lt_of_le_of_lt nB bD'), ?_, fun z hz => ?_, fun e => ?_⟩
        · rw [upd_ne h]
          exact s7 _ _ (s6 _ _ (kk c o' e h))
        · refine (tr.tst fun c ys h => ?_).put (by rw [upd_ne pfo]; exact upd_same)
          rw [upd_ne (ne_of h e1 (by intro z; cases z))]
          exact s7 _ _ (s6 _ _ h)
        · have := putN_len (ts := ts) (d := d) (t := T') (b := B'); omega
        · rcases putN_mem hz with rfl | ⟨hz, _⟩
          · exact ⟨lo2, okd⟩
          · exact lows _ hz
        · rw [putN_co nd, co_take ht, ← con e]
          show (if d = e then _ else _) = _ + if d = e then Rat.divInt t bb else 0
          split
          · next c => subst c; exact ev3
          · rw [Rat.add_zero]
      · rintro σ H6 ⟨⟨x2, x3, x4, x6, x7, x8, rfl⟩, kk, kvs, ts, e1, tr, nd, sz, len, lows, con⟩
        rw [lz, List.take_length] at con
        have sH6 : Same H H6 := fun c o e => kk _ _ (s5 _ _ e) (ne_of_none e hfoH)
        refine ⟨_, rfl, fo, kvs, ts.map (·.1), rfl, .inl e1, tr.keys, by rw [List.length_map]; omega, fun ys' q perm srt hq => ⟨q, rfl, ⟨_, SqL.of upd_same⟩, fun D hD => ?_⟩⟩
        have lt : ys'.Pairwise (· < ·) := (List.Pairwise.and srt (perm.nodup_iff.mpr nd)).imp fun ⟨a, b⟩ => by omega
        have ly : ys'.length = ts.length := by rw [perm.length_eq, List.length_map]
        have sq := snew (o := .lst (ys'.map V.int)) hq
        have hq7 := (upd_same (H := H6) (a := q) (o := .lst (ys'.map V.int)))
        obtain ⟨H7, eH7⟩ : ∃ H7, upd H6 q (.lst (ys'.map V.int)) = H7 := ⟨_, rfl⟩
        rw [eH7] at sq hq7 hD ⊢
        refine lc_list (K := K) (a := q) (xs := ys'.map V.int) (fun i H' => ∃ (acc : List V) (s : Nm), H' D = some (.lst acc) ∧ DnAll H' acc (s.map encT) ∧ s.length ≤ i ∧ CN ok s ∧ (∀ x ∈ s, x.1 ∈ ys'.take i) ∧ (∀ e, co s e = if e ∈ ys'.take i then co ts e else 0) ∧ Same H7 H')
          ⟨[], [], upd_same, .nil, Nat.le_refl _, CN.nil, fun x hx => by simp at hx, fun e => by simp [co], snew hD⟩ (fun i H' _ ⟨_, _, _, _, _, _, _, _, s'⟩ => SqL.of (s' _ _ hq7)) ?_ ?_
        · rintro i y H' hy ⟨acc, s, e2, dn, ls, cn, up, con2, s'⟩
          obtain ⟨d, ed, rfl⟩ := map_get hy
          have hi : i < ys'.length := (List.getElem?_eq_some_iff.mp ed).1
          have edi : ys'[i] = d := (List.getElem?_eq_some_iff.mp ed).2
          have dm : d ∈ ts.map (·.1) := perm.mem_iff.mp (List.mem_of_getElem? ed)
          have below : ∀ e ∈ ys'.take i, e < d := fun e he => by
            have h := lt
            rw [← List.take_append_drop i ys', List.drop_eq_getElem_cons hi, edi, List.pairwise_append] at h
            exact h.2.2 e he d List.mem_cons_self
          have tk : ∀ e, e ∈ ys'.take (i + 1) ↔ e ∈ ys'.take i ∨ e = d := fun e => by
            rw [List.take_add_one, ed]
            simp
          rcases tr.get d with ⟨_, hd⟩ | ⟨p4, t, bb, hv, hp4, hmm⟩
          · exact absurd dm hd
          have e17 := sq _ _ e1
          have dgt : ∀ {H8}, Same H' H8 → DGet H8 fo (.int d) (some (.ref p4)) := fun s8 => hv ▸ DGet.k (k := Sum.inl d) (s8 _ _ (s' _ _ e17))
          have hp4' : ∀ {H8}, Same H' H8 → SqT K H8 p4 [.int t, .int bb] := fun s8 => SqT.of (s8 _ _ (s' _ _ (sq _ _ hp4)))
          have cod := co_at nd hmm
          obtain ⟨lo, okd⟩ := lows _ hmm
          have S0 := Same.refl H'
          refine ⟨rfl, _, rfl, _, rfl, fo, _, rfl, dgt S0, .inr (.inl ⟨p4, _, _, _, rfl, rfl, hp4' S0, rfl, rfl, _, rfl, ite2 (fun c => ?_) (fun c => ?_)⟩)⟩
          · have t0 : t ≠ 0 := by
              intro z
              subst z
              simp at c
            refine ⟨_, rfl, _, rfl, _, rfl, fo, _, rfl, dgt S0, .inr (.inl ⟨p4, _, _, _, rfl, rfl, hp4' S0, rfl, _, rfl, _, rfl, fo, _, rfl, dgt S0, .inr (.inl ⟨p4, _, _, _, rfl, rfl, hp4' S0, rfl, s3z, fun m' hm' => ?_⟩)⟩)⟩
            have sn := snew (o := .tup [.int d, .int t, .int bb]) hm'
            have e2' := sn _ _ e2
            have la' : acc.length = s.length := by rw [dn.length, List.length_map]
            have mD : m' ≠ D := (ne_of_none e2 hm').symm
            refine ⟨_, e2', small1000 (by omega), acc ++ [.ref m'], s ++ [(d, t, bb)], upd_same, encTs_snoc (encT_dn (by rw [upd_ne mD]; exact upd_same)) (encTs_tst (fun b' xs' h => ?_) dn), by rw [List.length_append]; show _ + 1 ≤ _; omega, cn.snoc ⟨okd, t0, lo⟩ (fun z hz => below _ (up z hz)), fun z hz => ?_, fun e => ?_, fun c' o' eo => ?_⟩
            · rw [upd_ne (ne_of h e2 (by intro z; cases z))]
              exact sn _ _ h
            · rcases List.mem_append.mp hz with hz | hz
              · exact (tk _).mpr (.inl (up z hz))
              · rw [List.mem_singleton.mp hz]; exact (tk _).mpr (.inr rfl)
            · have one : co [(d, t, bb)] e = if d = e then Rat.divInt t bb else 0 := by rw [co_cons, co_nil, Rat.add_zero]
              rw [co_app, one, con2 e]
              by_cases c1 : e = d
              · subst c1
                rw [if_neg (fun z => by have := below _ z; omega), if_pos rfl, if_pos ((tk _).mpr (.inr rfl)), Rat.zero_add]
                exact cod.symm
              · rw [if_neg (show ¬ d = e from fun z => c1 z.symm), Rat.add_zero]
                by_cases c2 : e ∈ ys'.take i
                · rw [if_pos c2, if_pos ((tk _).mpr (.inl c2))]
                · rw [if_neg c2, if_neg (fun z => ((tk _).mp z).elim c2 c1)]
            · rw [upd_ne (ne_of_none eo hD)]
              exact sn _ _ (s' _ _ eo)
          · have t0 : t = 0 := by
              by_cases z : t = 0
              · exact z
              · simp [z] at c
            refine ⟨acc, s, e2, dn, by omega, cn, fun z hz => (tk _).mpr (.inl (up z hz)), fun e => ?_, s'⟩
            rw [con2 e]
            by_cases c1 : e = d
            · subst c1
              rw [if_neg (fun z => by have := below _ z; omega), if_pos ((tk _).mpr (.inr rfl))]
              have : co ts e = Rat.divInt t bb := cod
              rw [this, t0, Rat.zero_divInt]
            · by_cases c2 : e ∈ ys'.take i
              · rw [if_pos c2, if_pos ((tk _).mpr (.inl c2))]
              · rw [if_neg c2, if_neg (fun z => ((tk _).mp z).elim c2 c1)]
        · rintro H' ⟨acc, s, e2, dn, ls, cn, up, con2, s'⟩
          refine ⟨D, acc, rfl, .inl ⟨SqL.of e2, fun r hr' => ?_⟩⟩
          have sr := snew (o := .tup acc) hr'
          refine k s r _ (.tup upd_same (encTs_tst (fun b xs h => sr _ _ h) dn)) cn (fun d => ?_) (((sH6.trans sq).trans s').trans sr)
          rw [con2 d, List.length_map, List.take_length]
          have key : co ts d = co n d + co m d := by rw [con d, ← eL, co_app]
          split
          · exact key
          · next c => rw [← key]; exact (co_off fun z => c (perm.mem_iff.mpr z)).symm
end
end N3

namespace N3
open PySem PySem.Spec PyProof.Rows L2 N2
/-! ### the law's products of a fraction and a number -/
def spLBy : Sp := fun vs H Q _ => ∃ (u v : V) (f m : Nm) (t b : Int) (C W : Nat) (ok : Int → Prop), vs = [u, v] ∧ Dn H u (encN f) ∧ Dn H v (encN m) ∧ FrX t b f ∧ b ≠ 0 ∧ t.natAbs < 2 ^ W ∧ b.natAbs < 2 ^ W ∧ Nu ok C m ∧ OkD ok ∧ C + W ≤ 100 ∧ 1 ≤ C ∧
  ∀ (s : Nm) (r : Addr) (H' : Hp), Dn H' (.ref r) (encN s) → CN ok s → (∀ d, co s d = Rat.divInt t b * co m d) → Same H H' → Q (.ref r) H'
theorem CN.take {ok : Int → Prop} {n : Nm} (h : CN ok n) (j : Nat) : CN ok (n.take j) := ⟨fun x hx => h.1 x (List.mem_of_mem_take hx), fun i x y hx hy => by
  refine h.2 i x y ?_ ?_
  · rw [List.getElem?_take] at hx
    split at hx
    · exact hx
    · cases hx
  · rw [List.getElem?_take] at hy
    split at hy
    · exact hy
    · cases hy⟩
/-- a number that is a fraction times another one -/
theorem nu_times {ok : Int → Prop} {C W : Nat} {m s : Nm} {t b : Int} (hm : Nu ok C m) (hC : 1 ≤ C) (b0 : b ≠ 0) (bt : t.natAbs < 2 ^ W) (bb : b.natAbs < 2 ^ W) (hs : CN ok s) (e : ∀ d, co s d = Rat.divInt t b * co m d) : Nu ok (C + W) s :=
  ⟨hs, hs.sz fun z hz => by
    obtain ⟨t', b', b0', ec, bt', bb'⟩ := Sz.co hm.1 hm.2 hC z.1
    refine ⟨t * t', b * b', Int.mul_ne_zero b0 b0', by rw [e, ec, Rat.divInt_mul_divInt], ?_, ?_⟩
    · rw [Nat.add_comm]; exact mul_bit bt bt'
    · rw [Nat.add_comm]; exact mul_bit bb bb'⟩
section
variable {P : Program} {w : World} {K : PySem.W.Frag} {mg : Str → Option Value} {base : Heap}
abbrev s__law_by : Stmt := top 62
abbrev nsLBy : List Str := ["one", "other", "found", "d", "top", "bottom", "e", "up", "down", "shared", "sign", "above", "below", "common"]
theorem sc__law_by : FnScope nsLBy ["one", "other"] (defScope s__law_by) := ⟨rfl, rfl, rfl, by decide +kernel, rfl, by decide +kernel, by decide +kernel⟩
theorem ok__law_by {f f__law_gcd f__law_plus : Addr} {fd d__law_gcd d__law_plus : FuncData}  (F : Fun K "_law_by" "_law_by" s__law_by f fd) (T : Bt mg) (l_gcd : Kn P w K mg base 1 "_law_gcd" ["one", "other"] spCommon f__law_gcd d__law_gcd) (l_plus : Kn P w K mg base 2 "_law_plus" ["one", "other"] spLPlus f__law_plus d__law_plus) : FnOk P w K mg base CX0 3 f fd ["one", "other"] spLBy := by
  refine F.ok sc__law_by (fun vs H Q E h => ?_) (fun cdv A outer s H vs Q E hr h => ?_)
  · obtain ⟨u, v, f_, m, t, b, C, W, ok, rfl, _⟩ := h
    rfl
  · obtain ⟨u, v, fr, m, t, b, C, W, ok, rfl, hu0, hv0, hf, b0, bt, bb, hm, few, cw, c1, k⟩ := h
    refine ⟨_, pss_cons (ps_set (i := 2) sc__law_by.nd rfl (Or.inl rfl) (pe_tup pa_nil))
      (pss_cons (ps_for PassesOwn.never rfl (pi_tup (pv 0)) (pg_tup rfl (pgs_cons (pg_name (i := 3) sc__law_by.nd rfl (Or.inl rfl)) (pgs_cons (pg_name (i := 4) sc__law_by.nd rfl (Or.inl rfl)) (pgs_cons (pg_name (i := 5) sc__law_by.nd rfl (Or.inl rfl)) pgs_nil))))
        (pss_one (ps_for PassesOwn.never rfl (pi_tup (pv 1)) (pg_tup rfl (pgs_cons (pg_name (i := 6) sc__law_by.nd rfl (Or.inl rfl)) (pgs_cons (pg_name (i := 7) sc__law_by.nd rfl (Or.inl rfl)) (pgs_cons (pg_name (i := 8) sc__law_by.nd rfl (Or.inl rfl)) pgs_nil))))
          (pss_cons (ps_set (i := 9) sc__law_by.nd rfl (Or.inl rfl) (pe_call l_gcd.ok (hr.mono (by decide)) rfl l_gcd.mg l_gcd.kp l_gcd.bd .nil pass0 (pa_cons (pv 3) (pa_cons (pv 6) pa_nil))))
          (C8.pss_cut (ps_set (i := 10) sc__law_by.nd rfl (Or.inl rfl) (pe_ifExp (PW.pt (pw_and (pt_cmpR op_lt (pv 3) pe_int (nomark _)) (pw_and1 (pt_cmpR op_lt (pv 6) pe_int (nomark _))))) (pe_un un_neg pe_int) pe_int))
          (pss_cons (ps_par (i := 11) (j := 12) rfl sc__law_by.nd rfl rfl (by decide) rfl rfl (pa_cons (pe_op op_mulW (pe_op op_mulW (pe_op op_mulW (pv 10) (pv 9)) (pv 4)) (pv 7)) (pa_cons (pe_op op_mulW (pv 5) (pv 8)) pa_nil)) (by rfl))
          (pss_cons (ps_set (i := 13) sc__law_by.nd rfl (Or.inl rfl) (pe_call l_gcd.ok (hr.mono (by decide)) rfl l_gcd.mg l_gcd.kp l_gcd.bd .nil pass0 (pa_cons (pv 11) (pa_cons (pv 12) pa_nil))))
          (pss_one (ps_set (i := 2) sc__law_by.nd rfl (Or.inl rfl) (pe_call l_plus.ok (hr.mono (by decide)) rfl l_plus.mg l_plus.kp l_plus.bd .nil pass0 (pa_cons (pv 2) (pa_cons (pe_tup (pa_cons (pe_tup (pa_cons (pe_op op_fdivW (pe_op op_mulW (pv 3) (pv 6)) (pe_op op_mulW (pv 9) (pv 9))) (pa_cons (pe_op op_fdivW (pv 11) (pv 13)) (pa_cons (pe_op op_fdivW (pv 12) (pv 13)) pa_nil)))) pa_nil)) pa_nil))))))))))))
      (pss_one (ps_ret (pv 2)))), ?_⟩
    have s1z : 1 ≤ sizeLine := by rw [sizeLine_eq]; decide
    have s3z : 3 ≤ sizeLine := by rw [sizeLine_eq]; decide
    obtain ⟨a, xs, rfl, ha, ra⟩ := dn_encN hu0
    obtain ⟨c, ys, rfl, hc, rc⟩ := dn_encN hv0
    have la : xs.length = fr.length := by rw [ra.length, List.length_map]
    have lc : ys.length = m.length := by rw [rc.length, List.length_map]
    have lm := few.2 m hm.1
    have szf := hf.sz b0 bt bb
    have wm : ∀ {i j : Int} {D D' : Nat}, i.natAbs < 2 ^ D → j.natAbs < 2 ^ D' → D ≤ 100000 → D' ≤ 100000 → CMulW i j := fun {i j D D'} h k u v => by
      have := log_lt h
      have := log_lt k
      show i.natAbs.log2 + j.natAbs.log2 < 1000000
      omega
    have wd : ∀ (t : Int) {y : Int} {D : Nat}, 0 < y → y.natAbs < 2 ^ D → D ≤ 8000 → CDivW t ((Nat.gcd t.natAbs y.natAbs : Nat) : Int) := fun t {y D} y0 h u => by
      have gp : 0 < Nat.gcd t.natAbs y.natAbs := Nat.gcd_pos_of_pos_right _ (by omega)
      have gl : Nat.gcd t.natAbs y.natAbs ≤ y.natAbs := Nat.le_of_dvd (by omega) (Nat.gcd_dvd_right _ _)
      refine ⟨by omega, ?_⟩
      have : ((Nat.gcd t.natAbs y.natAbs : Nat) : Int).natAbs < 2 ^ D := Nat.lt_of_le_of_lt gl h
      have := log_lt this
      omega
    refine ⟨Nat.zero_le _, fun p hp => ?_⟩
    have s0 := snew (o := .tup []) hp
    have f0 : Dn (upd H p (.tup [])) (.ref p) (encN []) := .tup upd_same .nil
    obtain ⟨H0, eH0⟩ : ∃ H0, upd H p (.tup []) = H0 := ⟨_, rfl⟩
    rw [eH0] at s0 f0 ⊢
    refine ⟨_, rfl, a, rfl, ⟨_, SqT.of (s0 _ _ ha)⟩, for_tup (K := K) (a := a) (xs := xs) (fun i σ H' => (∃ (r : Addr) (s : Nm) (x3 x4 x5 x6 x7 x8 x9 x10 x11 x12 x13 : Option V), σ = [some (.ref a), some (.ref c), some (.ref r), x3, x4, x5, x6, x7, x8, x9, x10, x11, x12, x13] ∧ Dn H' (.ref r) (encN s) ∧ CN ok s ∧ (∀ d, co s d = if i = 0 then 0 else Rat.divInt t b * co m d)) ∧ Same H H')
      ⟨⟨p, [], _, _, _, _, _, _, _, _, _, _, _, rfl, f0, CN.nil, fun d => by rw [if_pos rfl]; rfl⟩, s0⟩ (fun i σ H' _ ⟨_, s'⟩ => SqT.of (s' _ _ ha)) ?_ ?_⟩
    · rintro i x σ H1 hx ⟨⟨r, s, x3, x4, x5, x6, x7, x8, x9, x10, x11, x12, x13, rfl, ds, cs, es⟩, s1⟩
      have il : i < xs.length := (List.getElem?_eq_some_iff.mp hx).1
      rcases hf with ⟨_, rfl⟩ | ⟨t0, t', b', rfl, t0', lo', ev⟩
      · rw [la] at il
        exact absurd il (Nat.not_lt_zero _)
      have i0 : i = 0 := by rw [la] at il; exact Nat.lt_one_iff.mp il
      subst i0
      obtain ⟨dd, edd, dn⟩ := ra.at_ hx
      rw [List.getElem?_map] at edd
      cases edd
      obtain ⟨q, rfl, hq⟩ := dn_encT dn
      obtain ⟨zt, _, zb⟩ := szf _ List.mem_cons_self
      have zt : t'.natAbs < 2 ^ W := zt
      have zb : b'.natAbs < 2 ^ W := zb
      have b1 : 1 ≤ b' := (low_pos lo').1
      have s00 : ∀ d, co s d = 0 := fun d => by rw [es, if_pos rfl]
      refine ⟨q, _, rfl, SqT.of (s1 _ _ hq), rfl, _, _, rfl, _, _, rfl, _, _, rfl, rfl, ?_⟩
      refine ⟨_, rfl, c, rfl, ⟨_, SqT.of (s1 _ _ hc)⟩, for_tup (K := K) (a := c) (xs := ys) (fun j σ H' => (∃ (r : Addr) (s : Nm) (x6 x7 x8 x9 x10 x11 x12 x13 : Option V), σ = [some (.ref a), some (.ref c), some (.ref r), some (.int 1), some (.int t'), some (.int b'), x6, x7, x8, x9, x10, x11, x12, x13] ∧ Dn H' (.ref r) (encN s) ∧ CN ok s ∧ (∀ d, co s d = Rat.divInt t' b' * co (m.take j) d)) ∧ Same H H')
        ⟨⟨r, s, _, _, _, _, _, _, _, _, rfl, ds, cs, fun d => by rw [s00]; show 0 = _ * (0 : Rat); rw [Rat.mul_zero]⟩, s1⟩ (fun i σ H' _ ⟨_, s'⟩ => SqT.of (s' _ _ hc)) ?_ ?_⟩
      · rintro j x σ H2 hx2 ⟨⟨r, s, x6, x7, x8, x9, x10, x11, x12, x13, rfl, ds, cs, es⟩, s2⟩
        have jl : j < ys.length := (List.getElem?_eq_some_iff.mp hx2).1
        obtain ⟨dd, edd, dn⟩ := rc.at_ hx2
        rw [List.getElem?_map] at edd
        obtain ⟨y, hy, rfl⟩ := Option.map_eq_some_iff.mp edd
        obtain ⟨e, up, dw⟩ := y
        obtain ⟨q2, rfl, hq2⟩ := dn_encT dn
        obtain ⟨oke, u0, lou⟩ := hm.1.1 _ (List.mem_of_getElem? hy)
        obtain ⟨zu, _, zd⟩ := hm.2 _ (List.mem_of_getElem? hy)
        have zu : up.natAbs < 2 ^ C := zu
        have zd : dw.natAbs < 2 ^ C := zd
        have d1 : 1 ≤ dw := (low_pos lou).1
        refine ⟨q2, _, rfl, SqT.of (s2 _ _ hq2), rfl, _, _, rfl, _, _, rfl, _, _, rfl, rfl, ?_⟩
        refine ⟨_, rfl, _, rfl, 1, e, rfl, ?_⟩
        have g1 : ((Nat.gcd (1 : Int).natAbs e.natAbs : Nat) : Int) = 1 := by
          show ((Nat.gcd 1 e.natAbs : Nat) : Int) = 1
          rw [Nat.gcd_one_left]; rfl
        rw [g1]
        refine ⟨fun σ' H' => σ' = [some (.ref a), some (.ref c), some (.ref r), some (.int 1), some (.int t'), some (.int b'), some (.int e), some (.int up), some (.int dw), some (.int 1), some (.int 1), x11, x12, x13] ∧ H' = H2, ?_, ?_⟩
        · refine ⟨_, rfl, _, _, rfl, rfl, _, rfl, ?_⟩
          exact iteF (iteF ⟨rfl, rfl⟩)
        rintro σ' H' ⟨rfl, rfl⟩
        have Y0 : 0 < b' * dw := Int.mul_pos (by omega) (by omega)
        have bY : (b' * dw).natAbs < 2 ^ (C + W) := by rw [Nat.add_comm]; exact mul_bit zb zd
        have ex : 1 * 1 * t' * up = t' * up := by rw [Int.one_mul, Int.one_mul]
        have bX : (1 * 1 * t' * up).natAbs < 2 ^ (C + W) := by rw [ex, Nat.add_comm]; exact mul_bit zt zu
        have o1 : (1 : Int).natAbs < 2 ^ 1 := by decide
        have o2 : ((1 : Int) * 1).natAbs < 2 ^ 1 := by decide
        have ee : 1 * e / (1 * 1) = e := by simp
        refine ⟨_, rfl, _, rfl, _, _, rfl, rfl, wm o1 o1 (by decide) (by decide), _, rfl, _, _, rfl, rfl, wm o2 zt (by decide) (by omega), _, rfl, _, _, rfl, rfl, wm (D := W) (by rw [Int.one_mul, Int.one_mul]; exact zt) zu (by omega) (by omega), _, rfl, _, rfl, _, _, rfl, rfl, wm zb zd (by omega) (by omega), _, _, rfl, ?_⟩
        refine ⟨_, rfl, _, rfl, _, _, rfl, ?_⟩
        have be : e.natAbs < 2 ^ 20 := by have := (few.1 e oke).2; omega
        have we : CMulW 1 e := wm o1 be (by decide) (by decide)
        refine ⟨_, rfl, _, rfl, _, rfl, _, _, rfl, rfl, we, _, rfl, _, rfl, _, _, rfl, rfl, wm o1 o1 (by decide) (by decide), _, _, rfl, rfl, ⟨by decide, by decide⟩, _, rfl, _, rfl, _, _, rfl, rfl, wd _ Y0 bY (by omega), _, rfl, _, rfl, _, _, rfl, rfl, wd _ Y0 bY (by omega), s3z, fun p1 hp1 => ⟨s1z, fun p2 hp2 => ?_⟩⟩
        obtain ⟨f1, lo2, _⟩ := low_of (t := 1 * 1 * t' * up) Y0
        have X0 : 1 * 1 * t' * up ≠ 0 := by rw [ex]; exact Int.mul_ne_zero t0' u0
        have s3 := (snew (o := .tup [.int (1 * e / (1 * 1)), .int ((1 * 1 * t' * up) / ((Nat.gcd (1 * 1 * t' * up).natAbs (b' * dw).natAbs : Nat) : Int)), .int ((b' * dw) / ((Nat.gcd (1 * 1 * t' * up).natAbs (b' * dw).natAbs : Nat) : Int))]) hp1).trans (snew (o := .tup [.ref p1]) hp2)
        have b1' := (low_pos lo2).1
        have T0 : (1 * 1 * t' * up) / ((Nat.gcd (1 * 1 * t' * up).natAbs (b' * dw).natAbs : Nat) : Int) ≠ 0 := fun z => by
          rw [z, Int.zero_mul] at f1
          rcases Int.mul_eq_zero.mp f1.symm with h | h
          · exact X0 h
          · omega
        have nT : ((1 * 1 * t' * up) / ((Nat.gcd (1 * 1 * t' * up).natAbs (b' * dw).natAbs : Nat) : Int)).natAbs ≤ (1 * 1 * t' * up).natAbs := Int.natAbs_ediv_le_natAbs _ _
        have nB : ((b' * dw) / ((Nat.gcd (1 * 1 * t' * up).natAbs (b' * dw).natAbs : Nat) : Int)).natAbs ≤ (b' * dw).natAbs := Int.natAbs_ediv_le_natAbs _ _
        have ev2 : Rat.divInt ((1 * 1 * t' * up) / ((Nat.gcd (1 * 1 * t' * up).natAbs (b' * dw).natAbs : Nat) : Int)) ((b' * dw) / ((Nat.gcd (1 * 1 * t' * up).natAbs (b' * dw).natAbs : Nat) : Int)) = Rat.divInt t' b' * Rat.divInt up dw := by
          rw [Rat.divInt_mul_divInt, ← ex]
          exact (Rat.divInt_eq_divInt_iff (by omega) (Int.ne_of_gt Y0)).mpr f1
        have nus : Nu ok (C + W) s := nu_times ⟨hm.1.take j, fun x hx => hm.2 x (List.mem_of_mem_take hx)⟩ c1 (by omega) zt zb cs es
        have ls : s.length ≤ 18 := few.2 s cs
        refine ⟨.ref r, .ref p2, s, [(1 * e / (1 * 1), _, _)], C + W, ok, rfl, Dn.mono s3 _ _ ds, .tup upd_same (.cons (encT_dn ((snew hp2) _ _ upd_same)) .nil), nus, ⟨⟨fun x hx => ?_, fun i x y hx hy => by simp at hy⟩, fun x hx => ?_⟩, by omega, (by show 1 ≤ 30; decide), cw, fun s' r' H4 ds' cs' es' s4 => ?_⟩
        · rw [List.mem_singleton.mp hx]
          exact ⟨by show ok (1 * e / (1 * 1)); rw [ee]; exact oke, T0, lo2⟩
        · rw [List.mem_singleton.mp hx]
          exact ⟨Nat.lt_of_le_of_lt nT bX, Int.ne_of_gt (Int.lt_of_lt_of_le (by decide) b1'), Nat.lt_of_le_of_lt nB bY⟩
        · refine ⟨⟨r', s', _, _, _, _, _, _, _, _, rfl, ds', cs', fun d' => ?_⟩, s2.trans (s3.trans s4)⟩
          rw [es', es, co_take hy, Rat.mul_add, co_cons, co_nil, Rat.add_zero]
          show _ + (if 1 * e / (1 * 1) = d' then _ else _) = _ + _ * (if e = d' then Rat.divInt up dw else 0)
          rw [ee]
          split
          · rw [ev2]
          · rw [Rat.mul_zero]
      · rintro σ H2 ⟨⟨r, s, x6, x7, x8, x9, x10, x11, x12, x13, rfl, ds, cs, es⟩, s2⟩
        refine ⟨⟨r, s, _, _, _, _, _, _, _, _, _, _, _, rfl, ds, cs, fun d => ?_⟩, s2⟩
        rw [if_neg (by decide), es, lc, List.take_length, ev]
    · rintro σ H1 ⟨⟨r, s, x3, x4, x5, x6, x7, x8, x9, x10, x11, x12, x13, rfl, ds, cs, es⟩, s1⟩
      refine ⟨_, rfl, k s r H1 ds cs (fun d => ?_) s1⟩
      rw [es]
      split
      · next z =>
        rcases hf with ⟨rfl, rfl⟩ | ⟨_, _, _, rfl, _⟩
        · rw [Rat.zero_divInt, Rat.zero_mul]
        · rw [la] at z; cases z
      · rfl
end
end N3

namespace N3
open PySem PySem.Spec PyProof.Rows L2 N2
/-! ### the law's sums of rows, and its cut rows -/
theorem walk_zipU {K : PySem.W.Frag} {a b : Addr} {xs ys : List V} {n : Nat} (hn : n = min xs.length ys.length) : Walk (RZ.ItzT K a b) n (fun H => SqT K H a xs ∧ SqT K H b ys) (YPair (fun i => xs[i]?) (fun i => ys[i]?)) where
  goes := fun i H hi q => by
    have h1 : i < xs.length := by omega
    have h2 : i < ys.length := by omega
    exact ⟨xs, ys, xs[i], ys[i], q.1, q.2, List.getElem?_eq_getElem h1, List.getElem?_eq_getElem h2⟩
  stops := fun H q => ⟨xs, ys, q.1, q.2, by omega⟩
  yields := fun i H v H' hi q y => by
    obtain ⟨T, x, z, e, n1, h, f1, f2⟩ := y
    exact ⟨T, x, z, e, n1, h, f1 xs q.1, f2 ys q.2⟩
def spLRows (K : PySem.W.Frag) : Sp := fun vs H Q _ => ∃ (a b : Addr) (xs ys : List V) (r s : List Nm) (C : Nat) (ok : Int → Prop), vs = [.ref a, .ref b] ∧ SqE K H a xs ∧ SqE K H b ys ∧ DnAll H xs (r.map encN) ∧ DnAll H ys (s.map encN) ∧ (∀ n ∈ r, Nu ok C n) ∧ (∀ n ∈ s, Nu ok C n) ∧ r.length ≤ 900 ∧ s.length ≤ 900 ∧ Few ok 30 ∧ C ≤ 100 ∧
  ∀ (D : Addr) (acc : List V) (ns : List Nm) (H' : Hp), H' D = some (.lst acc) → DnAll H' acc (ns.map encN) → ns.length ≤ max r.length s.length → (∀ n ∈ ns, CN ok n) → (∀ k d, cr ns k d = cr r k d + cr s k d) → Same H H' → Q (.ref D) H'
theorem SqE.len' {K : PySem.W.Frag} {H : Hp} {a : Addr} {xs : List V} (h : SqE K H a xs) : LenV K (.ref a) H xs.length := h.len
/-- a list or a tuple as a tuple, with zeros behind it -/
theorem pad_te {K : PySem.W.Frag} {σ : L2.St} {H : Hp} {i n : Nat} {a : Addr} {xs : List V} {r : List Nm} {Q : VK} (h0 : σ[i]? = some (some (.ref a))) (h2 : σ[2]? = some (some (.int (n : Int)))) (ha : SqE K H a xs) (da : DnAll H xs (r.map encN)) (hr : r.length ≤ n) (hn : n ≤ 900)
    (k : ∀ (p : Addr) (zs : List V) (H' : Hp), SqT K H' p zs → DnAll H' zs ((padR r n).map encN) → Same H H' → Q (.ref p) H') :
    tOp (rCatA K) (tCB (fun xs H_1 Q => ∃ p ys, xs = [V.ref p] ∧ ((SqL K H_1 p ys ∧ ∀ l, H_1 l = none → Q (V.ref l) (upd H_1 l (.tup ys))) ∨ SqT K H_1 p ys ∧ Q (V.ref p) H_1)) (tCons (tVar i) tNil))
      (tOp (rRepA K) (tTup (tCons (tTup tNil) tNil)) (tOp (rI0 fun i j => V.int (i - j)) (tVar 2) (tCB (fun xs H_1 Q => ∃ x n, xs = [x] ∧ LenV K x H_1 n ∧ Q (V.int ↑n) H_1) (tCons (tVar i) tNil)))) σ H Q := by
  have s1z : 1 ≤ sizeLine := by rw [sizeLine_eq]; decide
  have la : xs.length = r.length := by rw [da.length, List.length_map]
  have body : ∀ (p : Addr) (H1 : Hp), SqT K H1 p xs → Same H H1 → (tOp (rRepA K) (tTup (tCons (tTup tNil) tNil)) (tOp (rI0 fun i j => V.int (i - j)) (tVar 2) (tCB (fun xs H_1 Q => ∃ x n, xs = [x] ∧ LenV K x H_1 n ∧ Q (V.int ↑n) H_1) (tCons (tVar i) tNil)))) σ H1 fun y H2 => rCatA K (.ref p) y H2 Q := fun p H1 hp s1 => by
    refine ⟨Nat.zero_le _, fun p0 hp0 => ⟨s1z, fun l0 hl0 => ?_⟩⟩
    have t1 := snew (o := .tup []) hp0
    have t2 := snew (o := .tup [.ref p0]) hl0
    have s2 := s1.trans (t1.trans t2)
    have e0 := t2 _ _ (upd_same (H := H1) (a := p0) (o := .tup []))
    have el := upd_same (H := upd H1 p0 (.tup [])) (a := l0) (o := .tup [.ref p0])
    have hp2 := same_sqt (t1.trans t2) hp
    obtain ⟨H2, eH2⟩ : ∃ H2, upd (upd H1 p0 (.tup [])) l0 (.tup [.ref p0]) = H2 := ⟨_, rfl⟩
    rw [eH2] at s2 e0 el hp2 ⊢
    refine ⟨_, h2, _, h0, .ref a, xs.length, rfl, (ha.same s2).len, _, _, rfl, rfl, ?_⟩
    obtain ⟨m, em⟩ : ∃ m : Nat, ((n : Int) - (xs.length : Int)) = m := ⟨n - xs.length, by omega⟩
    have emn : m = n - r.length := by omega
    have fin : ∀ (q : Addr) (H3 : Hp), SqT K H3 q (List.replicate m (.ref p0)) → Same H2 H3 → rCatA K (.ref p) (.ref q) H3 Q := fun q H3 hq s3 => by
      have dz : DnAll H3 (xs ++ List.replicate m (.ref p0)) ((padR r n).map encN) := by
        unfold padR
        rw [List.map_append, List.map_replicate, ← emn]
        exact DnAll.app (DnAll.mono (s2.trans s3) _ _ da) (dn_rep (.tup (s3 _ _ e0) .nil) _)
      refine ⟨p, q, xs, _, rfl, rfl, same_sqt s3 hp2, hq, ?_, fun e => ?_, fun _ e => ?_, fun _ _ z hz => ?_⟩
      · rw [List.length_replicate]; exact Nat.le_of_lt (small1000 (by omega))
      · rw [e, List.nil_append] at dz
        exact k q _ H3 hq dz (s2.trans s3)
      · rw [e, List.append_nil] at dz
        exact k p _ H3 (same_sqt s3 hp2) dz (s2.trans s3)
      · exact k z _ _ (SqT.of upd_same) (DnAll.mono (snew hz) _ _ dz) ((s2.trans s3).trans (snew hz))
    refine ⟨l0, _, [.ref p0], rfl, rfl, SqT.of el, by simp, by omega, by omega, (by show 1 ≤ 1000; decide), fun e => ?_, fun _ q hq => ?_⟩
    · have : m = 1 := by omega
      subst this
      exact fin l0 H2 (SqT.of el) (Same.refl _)
    · rw [em]
      have := replicate_one (.ref p0) m
      rw [Int.toNat_natCast, this]
      exact fin q _ (SqT.of upd_same) (snew hq)
  refine ⟨_, h0, a, xs, rfl, ?_⟩
  rcases ha with h | h
  · exact .inl ⟨h, fun l hl => body l _ (SqT.of upd_same) (snew hl)⟩
  · exact .inr ⟨SqT.of h, body a H (SqT.of h) (Same.refl _)⟩
section
variable {P : Program} {w : World} {K : PySem.W.Frag} {mg : Str → Option Value} {base : Heap}
abbrev s__law_rows : Stmt := top 63
abbrev nsLRw : List Str := ["one", "other", "long", "x", "y"]
theorem sc__law_rows : FnScope nsLRw ["one", "other"] (defScope s__law_rows) := ⟨rfl, rfl, rfl, by decide +kernel, rfl, by decide +kernel, by decide +kernel⟩
theorem ok__law_rows {f f__law_plus : Addr} {fd d__law_plus : FuncData}  (F : Fun K "_law_rows" "_law_rows" s__law_rows f fd) (T : Bt mg) (l_plus : Kn P w K mg base 2 "_law_plus" ["one", "other"] spLPlus f__law_plus d__law_plus) : FnOk P w K mg base CX0 3 f fd ["one", "other"] (spLRows K) := by
  refine F.ok sc__law_rows (fun vs H Q E h => ?_) (fun cdv A outer s H vs Q E hr h => ?_)
  · obtain ⟨a, b, xs, ys, r, s, C, ok, rfl, _⟩ := h
    rfl
  · obtain ⟨a, b, xs, ys, r, s, C, ok, rfl, ha, hb, da, db, nr, ns_, lr, ls, few, c100, k⟩ := h
    refine ⟨_, pss_cons (ps_set (i := 2) sc__law_rows.nd rfl (Or.inl rfl) (pe_callB (call_max2 rfl) (by rfl) T.max (by decide +kernel) (pa_cons (pe_callB call_len (by rfl) T.len PySem.boot_len (pa_cons (pv 0) pa_nil)) (pa_cons (pe_callB call_len (by rfl) T.len PySem.boot_len (pa_cons (pv 1) pa_nil)) pa_nil))))
      (pss_cons (ps_par (i := 0) (j := 1) rfl sc__law_rows.nd rfl rfl (by decide) rfl rfl (pa_cons (pe_op op_catA (pe_callTy call_tuple_of (by rfl) T.tuple (by decide +kernel) (pa_cons (pv 0) pa_nil)) (pe_op op_repA (pe_tup (pa_cons (pe_tup pa_nil) pa_nil)) (pe_op op_sub (pv 2) (pe_callB call_len (by rfl) T.len PySem.boot_len (pa_cons (pv 0) pa_nil))))) (pa_cons (pe_op op_catA (pe_callTy call_tuple_of (by rfl) T.tuple (by decide +kernel) (pa_cons (pv 1) pa_nil)) (pe_op op_repA (pe_tup (pa_cons (pe_tup pa_nil) pa_nil)) (pe_op op_sub (pv 2) (pe_callB call_len (by rfl) T.len PySem.boot_len (pa_cons (pv 1) pa_nil))))) pa_nil)) (by rfl))
      (pss_one (ps_ret (pe_lc (own := [("x", 3), ("y", 4)]) (g := (gTup K 2 (gCons (gName 3) (gCons (gName 4) gNil)))) (tt := tYes) rfl sc__law_rows.nd (RZ.pi_zipA (by rfl) T.zip (pa_cons (pv 0) (pa_cons (pv 1) pa_nil))) (blkOk_by (own := [("x", 3), ("y", 4)]) (N := nsLRw) (sc := defScope s__law_rows) (by decide +kernel)) (fun _ _ _ _ _ => pg_tup rfl (pgs_cons (pg_name (i := 3) sc__law_rows.nd rfl (Or.inl rfl)) (pgs_cons (pg_name (i := 4) sc__law_rows.nd rfl (Or.inl rfl)) pgs_nil))) (fun _ _ _ _ _ => pts_nil) (fun _ _ _ _ _ => (pe_call l_plus.ok (hr.mono (by decide)) rfl l_plus.mg l_plus.kp l_plus.bd .nil pass0 (pa_cons (pv 3) (pa_cons (pv 4) pa_nil)))))))), ?_⟩
    have s1z : 1 ≤ sizeLine := by rw [sizeLine_eq]; decide
    have la : xs.length = r.length := by rw [da.length, List.length_map]
    have lb : ys.length = s.length := by rw [db.length, List.length_map]
    obtain ⟨mx, emx⟩ : ∃ mx : Nat, (if (ys.length : Int) > (xs.length : Int) then (ys.length : Int) else (xs.length : Int)) = mx := by
      split
      · exact ⟨_, rfl⟩
      · exact ⟨_, rfl⟩
    have m1 : r.length ≤ mx := by split at emx <;> omega
    have m2 : s.length ≤ mx := by split at emx <;> omega
    have m3 : mx ≤ max r.length s.length := by split at emx <;> omega
    refine ⟨_, rfl, .ref a, xs.length, rfl, ha.len, _, rfl, .ref b, ys.length, rfl, hb.len, _, _, rfl, ?_⟩
    rw [emx]
    refine pad_te (i := 0) (n := mx) rfl rfl ha da m1 (by omega) fun p zs H1 hp dz s1 => ?_
    refine pad_te (i := 1) (n := mx) rfl rfl (hb.same s1) (DnAll.mono s1 _ _ db) m2 (by omega) fun q ws H2 hq dw s2 => ?_
    refine ⟨_, _, rfl, ?_⟩
    have lz : zs.length = mx := by rw [dz.length, List.length_map, padR_len m1]
    have lw : ws.length = mx := by rw [dw.length, List.length_map, padR_len m2]
    have hp2 := same_sqt s2 hp
    have dz2 := DnAll.mono s2 _ _ dz
    refine ⟨_, rfl, _, rfl, p, q, zs, ws, rfl, .inr ⟨hp2, hq, fun D hD => lc_enc (enc := encN) encN_tn (walk_zipU (K := K) (a := p) (b := q) (xs := zs) (ys := ws) (n := mx) (by omega)) (fun H' s' => ⟨same_sqt s' hp2, same_sqt s' hq⟩) (fun j m => CN ok m ∧ ∀ d, co m d = cr r j d + cr s j d) (by omega) hD (fun j x H5 H6 Q' hj s7 y kk => ?_) fun acc3 ns H5 e3 d3 ln hn s7 => ?_⟩⟩
    · obtain ⟨T_, x1, y1, rfl, nT, rfl, ex, ey⟩ := y
      obtain ⟨n, en⟩ : ∃ n, (padR r mx)[j]? = some n := ⟨_, List.getElem?_eq_getElem (by rw [padR_len m1]; exact hj)⟩
      obtain ⟨m, em'⟩ : ∃ m, (padR s mx)[j]? = some m := ⟨_, List.getElem?_eq_getElem (by rw [padR_len m2]; exact hj)⟩
      obtain ⟨x', ex', dx'⟩ := row_at dz2 en
      obtain ⟨y', ey', dy'⟩ := row_at dw em'
      rw [show zs[j]? = some x1 from ex] at ex'
      rw [show ws[j]? = some y1 from ey] at ey'
      cases ex'
      cases ey'
      have zn : Nu ok C n := by
        rcases padR_mem (List.mem_of_getElem? en) with h | h
        · exact nr n h
        · rw [h]; exact nu_nil
      have zm : Nu ok C m := by
        rcases padR_mem (List.mem_of_getElem? em') with h | h
        · exact ns_ m h
        · rw [h]; exact nu_nil
      have cn : ∀ d, co n d = cr r j d := fun d => by
        have := padR_at r mx j
        rw [getD_at en] at this
        rw [this]; rfl
      have cm : ∀ d, co m d = cr s j d := fun d => by
        have := padR_at s mx j
        rw [getD_at em'] at this
        rw [this]; rfl
      have sT := snew (o := .tup [x1, y1]) nT
      refine ⟨T_, _, rfl, SqT.of upd_same, rfl, _, _, rfl, _, _, rfl, rfl, rfl, ?_⟩
      refine ⟨_, rfl, _, rfl, x1, y1, n, m, C, ok, rfl, Dn.mono (s7.trans sT) _ _ dx', Dn.mono (s7.trans sT) _ _ dy', zn, zm, few n zn.1, few m zm.1, c100, fun s' r' H7 ds cs es' ss => ?_⟩
      exact kk _ s' H7 ds ⟨cs, fun d => by rw [es', cn, cm]⟩ (sT.trans ss)
    · refine k D acc3 ns H5 e3 d3 (by omega) (fun n hn' => ?_) (fun j d => ?_) ((s1.trans s2).trans s7)
      · obtain ⟨j, hj⟩ := List.mem_iff_getElem?.mp hn'
        exact (hn j n hj).1
      · rcases Nat.lt_or_ge j ns.length with c | c
        · show co (ns.getD j []) d = _
          rw [getD_at (List.getElem?_eq_getElem c)]
          exact (hn j _ (List.getElem?_eq_getElem c)).2 d
        · rw [cr_off c, cr_off (by omega), cr_off (by omega), Rat.add_zero]
abbrev s__law_cut : Stmt := top 64
theorem sc__law_cut : FnScope ["row"] ["row"] (defScope s__law_cut) := ⟨rfl, rfl, rfl, by decide +kernel, rfl, by decide +kernel, by decide +kernel⟩
theorem ok__law_cut {f  : Addr} {fd  : FuncData}  (F : Fun K "_law_cut" "_law_cut" s__law_cut f fd) (T : Bt mg)  : FnOk P w K mg base CX0 1 f fd ["row"] (spTrimE K) := by
  refine F.ok sc__law_cut (fun vs H Q E h => ?_) (fun cdv A outer s H vs Q E hr h => ?_)
  · obtain ⟨a, acc, r, rfl, _⟩ := h
    rfl
  · obtain ⟨a, acc, r, rfl, ha, ra, hl, k⟩ := h
    refine ⟨_, pss_cons (ps_set (i := 0) sc__law_cut.nd rfl (Or.inl rfl) (pe_callTy call_list_of (by rfl) T.list (by decide +kernel) (pa_cons (pv 0) pa_nil)))
      (pss_cons (ps_while PassesOwn.never (PW.pt (pw_and (pt_cmpR (op_neD hr.units) (pv 0) (pe_lst pa_nil) (nomark _)) (pw_and1 (pt_cmpR (op_eqD hr.units) (pe_ix (r := rIx K) ix_seq (pv 0) (pe_un un_neg pe_int) (fun _ _ => rfl)) (pe_tup pa_nil) (nomark _)))))
        (pss_one (ps_expr (pe_bm0 PySem.F.plainAttrs_list PySem.F.slot_list_pop PySem.F.type_list_pop mt_pop (pv 0)))))
      (pss_one (ps_ret (pe_callTy call_tuple_of (by rfl) T.tuple (by decide +kernel) (pa_cons (pv 0) pa_nil))))), ?_⟩
    have lr : acc.length = r.length := by rw [ra.length, List.length_map]
    refine ⟨_, rfl, a, acc, rfl, ?_, fun p hp => ?_⟩
    · rcases ha with h | h
      · exact .inl h
      · exact .inr (SqT.of h)
    have sp := snew (o := .lst acc) hp
    have hpn : ∀ {b : Addr} {o : HO}, H b = some o → b ≠ p := fun e => ne_of_none e hp
    refine ⟨fun m σ H' => ∃ j : Nat, σ = [some (.ref p)] ∧ j ≤ r.length ∧ H' p = some (.lst (acc.take j)) ∧ Same H H' ∧ m = j ∧ ∀ i n, j ≤ i → r[i]? = some n → n = [], ⟨_, acc.length, rfl, by omega, by rw [List.take_length]; exact upd_same, sp, rfl, fun i n h e => by rw [List.getElem?_eq_none (by omega)] at e; cases e⟩, ?_⟩
    rintro m σ H1 ⟨j, rfl, jl, e1, s1, rfl, drop⟩
    have hcr := take_cr drop
    have ra1 := DnAll.mono s1 _ _ ra
    have dt : DnAll H1 (acc.take m) ((r.take m).map encN) := by rw [List.map_take]; exact dnAll_take ra1 m
    have fin : ∀ H2, Same H1 H2 → (r.take m).getLast? ≠ some [] → tRet (tCB (fun xs H Q => ∃ p ys, xs = [V.ref p] ∧ ((SqL K H p ys ∧ ∀ l, H l = none → Q (.ref l) (upd H l (.tup ys))) ∨ SqT K H p ys ∧ Q (.ref p) H)) (tCons (tVar 0) tNil)) { nx := fun x H' => Q V.non H', rt := Q } [some (.ref p)] H2 := fun H2 s2 hm => by
      refine ⟨_, rfl, p, _, rfl, .inl ⟨SqL.of (s2 _ _ e1), fun q hq => ?_⟩⟩
      exact k (r.take m) q _ (.tup upd_same (DnAll.mono (s2.trans (snew hq)) _ _ dt)) ⟨m, jl, rfl⟩ hm hcr (s1.trans (s2.trans (snew hq)))
    have dl : DpAll K H1 (acc.take m) ((r.take m).map encN) := tn_dpA _ _ (tn_maps encN_tn _) dt
    refine ⟨_, rfl, Nat.zero_le _, fun p0 hp0 => ⟨.list ((r.take m).map encN), .list [], ?_, .lst (SqL.of upd_same) .nil, ?_, nil_shaped, _, rfl, ?_⟩⟩
    · exact .lst (SqL.of ((snew hp0) _ _ e1)) (tn_dpA _ _ (tn_maps encN_tn _) (DnAll.mono (snew hp0) _ _ dt))
    · obtain ⟨h1, h2⟩ := list_lay (k := 2) encN_shape (r.take m)
      exact shaped_of h1 (by omega)
    rw [eqv_nil]
    have s0 := snew (o := .lst []) hp0
    refine ite_b (fun c => ?_) (fun c => ?_)
    · have m0 : 0 < m := by
        rcases Nat.eq_zero_or_pos m with z | z
        · subst z; simp at c
        · exact z
      obtain ⟨n, en⟩ : ∃ n, r[m - 1]? = some n := ⟨_, List.getElem?_eq_getElem (by omega)⟩
      obtain ⟨x, ex, dx⟩ := dn_at ra1 (show (r.map encN)[m - 1]? = some (encN n) by rw [List.getElem?_map, en]; rfl)
      have etk : acc.take m = acc.take (m - 1) ++ [x] := by
        have : m = (m - 1) + 1 := by omega
        rw [this, List.take_add_one, Nat.add_sub_cancel, ex]
        rfl
      refine ⟨_, rfl, _, rfl, .inl ⟨p, _, _, x, rfl, rfl, SqL.of (s0 _ _ e1), by rw [etk]; exact atI_last _ _, Nat.zero_le _, fun p2 hp2 => ⟨encN n, .tuple [], tn_dp _ _ (encN_tn n) (Dn.mono (s0.trans (snew hp2)) _ _ dx), .tup (SqT.of upd_same) .nil, encN_shaped n, rfl, _, rfl, ?_⟩⟩⟩
      rw [eqv_nil_d (encN_tn n)]
      have s2 := s0.trans (snew (o := .tup []) hp2)
      refine ite_b (fun c2 => ?_) (fun c2 => ?_)
      · have n0 : n = [] := by
          cases n with
          | nil => rfl
          | cons _ _ => cases c2
        have e3 := s2 _ _ e1
        refine ⟨fun σ H' => σ = [some (.ref p)] ∧ H' p = some (.lst (acc.take (m - 1))) ∧ Same H H', fun σ' H' ⟨g1, g2, g3⟩ => ⟨m - 1, by omega, m - 1, g1, by omega, g2, g3, rfl, fun i n' h e => by
          rcases Nat.lt_or_ge (m - 1) i with z | z
          · exact drop i n' (by omega) e
          · have : i = m - 1 := by omega
            subst this
            rw [en] at e
            cases e
            exact n0⟩, ?_⟩
        refine ⟨_, rfl, .inl ⟨rfl, _, .inl (.inl e3)⟩, p, _, x, rfl, rfl, e3, by rw [etk]; simp, rfl, ?_, fun b o e => ?_⟩
        · rw [etk, List.dropLast_concat]; exact upd_same
        · rw [upd_ne (hpn e)]
          exact s2 _ _ (s1 _ _ e)
      · refine fin _ s2 (fun z => ?_)
        rw [List.getLast?_take, if_neg (by omega), en] at z
        have z' : n = [] := by simpa using z
        rw [z'] at c2
        cases c2
    · refine iteF ?_
      have m0 : r.take m = [] := by
        cases h : r.take m with
        | nil => rfl
        | cons _ _ => rw [h] at c; cases c
      exact fin _ s0 (by rw [m0]; simp)
end
end N3

namespace N3
open PySem PySem.Spec PyProof.Rows L2 N2 LamX
/-! ### the law's quotient out of a row and rows by poles -/
def spLShut (K : PySem.W.Frag) : Sp := fun vs H Q _ => ∃ (aw d : Addr) (accW : List V) (r0 : List Nm) (kvs : List (List L2.Key × V)) (ts : List Tl) (ok : Int → Prop), vs = [.ref aw, .ref d] ∧ SqE K H aw accW ∧ DnAll H accW (r0.map encN) ∧ r0.length ≤ 1000 ∧ (∀ n ∈ r0, CN ok n) ∧
  H d = some (.dT kvs) ∧ RwT (fun _ => True) H kvs ts ∧ Kp ts ∧ ts.length < 64 ∧ (∀ t ∈ ts, SPl t.1 ∧ t.2.length ≤ 1000 ∧ ∀ n ∈ t.2, CN ok n) ∧
  ∀ (q : Qt) (r : Addr) (H' : Hp), Dn H' (.ref r) (encQ q) → CQ ok q → (∀ k d, cr q.1 k d = cr r0 k d) → (∀ p k d, cr (tl q.2 p) k d = cr (tl ts p) k d) → Same H H' → Q (.ref r) H'
/-- the pole that stands at a value -/
def gV (H : Hp) : V → Int × Int
  | .ref t => match H t with
    | some (.tup [.int a, .int b]) => (a, b)
    | _ => (0, 0)
  | _ => (0, 0)
theorem gV_at {H : Hp} {t : Addr} {p : Pl} (h : H t = some (.tup [.int p.1, .int p.2])) : gV H (.ref t) = p := by
  simp only [gV, h]
section
variable {P : Program} {w : World} {K : PySem.W.Frag} {mg : Str → Option Value} {base : Heap}
abbrev s__law_place : Stmt := top 65
theorem sc__law_place : FnScope ["pole"] ["pole"] (defScope s__law_place) := ⟨rfl, rfl, rfl, by decide +kernel, rfl, by decide +kernel, by decide +kernel⟩
theorem ky_place {f : Addr} {fd : FuncData} (F : Fun K "_law_place" "_law_place" s__law_place f fd) (bd : Binds K fd ["pole"] []) : KyOk P w K 232792560 f := F.key sc__law_place rfl rfl bd
abbrev s__law_shut : Stmt := top 66
abbrev nsShu : List Str := ["whole", "tails", "found", "pole", "row"]
theorem sc__law_shut : FnScope nsShu ["whole", "tails"] (defScope s__law_shut) := ⟨rfl, rfl, rfl, by decide +kernel, rfl, by decide +kernel, by decide +kernel⟩
theorem ok__law_shut {f f__law_cut : Addr} {fd d__law_cut : FuncData} {fK : Addr} (ky : KyOk P w K 232792560 fK) (hmp : mg "_law_place" = some (.ref fK)) (F : Fun K "_law_shut" "_law_shut" s__law_shut f fd) (T : Bt mg) (l_cut : Kn P w K mg base 1 "_law_cut" ["row"] (spTrimE K) f__law_cut d__law_cut) : FnOk P w K mg base CX0 3 f fd ["whole", "tails"] (spLShut K) := by
  refine F.ok sc__law_shut (fun vs H Q E h => ?_) (fun cdv A outer s H vs Q E hr h => ?_)
  · obtain ⟨aw, d, accW, r0, kvs, ts, ok, rfl, _⟩ := h
    rfl
  · obtain ⟨aw, d, accW, r0, kvs, ts, ok, rfl, hW, dW, lW, nW, hd, rt, kp, lt64, hrows, k⟩ := h
    have hu := hu_of hr
    refine ⟨_, pss_cons (ps_set (i := 2) sc__law_shut.nd rfl (Or.inl rfl) (pe_lst pa_nil))
      (pss_cons (ps_for PassesOwn.never rfl (pi_list (pe_callBK (cr_sortedF ky hr) (by rfl) T.sorted (by decide +kernel) (pa_cons (pe_callTy (call_list_dT rfl) (by rfl) T.list (by decide +kernel) (pa_cons (pv 1) pa_nil)) pa_nil) (pk_cons (pe_glob (v := .ref _) rfl hmp rfl) pk_nil))) (pg_name (i := 3) sc__law_shut.nd rfl (Or.inl rfl))
        (pss_cons (ps_set (i := 4) sc__law_shut.nd rfl (Or.inl rfl) (pe_call l_cut.ok (hr.mono (by decide)) rfl l_cut.mg l_cut.kp l_cut.bd .nil pass0 (pa_cons (pe_dget hu (pv 1) (pv 3) (fun _ _ => rfl)) pa_nil)))
        (pss_one (ps_if (pt_cmpR (op_neD hr.units) (pv 4) (pe_tup pa_nil) (nomark _))
          (pss_one (ps_expr (pe_bm PySem.F.plainAttrs_list PySem.F.slot_list_append PySem.F.type_list_append mt_append (pv 2) (pa_cons (pe_tup (pa_cons (pv 3) (pa_cons (pv 4) pa_nil))) pa_nil))))
          pss_nil))))
      (pss_one (ps_ret (pe_tup (pa_cons (pe_call l_cut.ok (hr.mono (by decide)) rfl l_cut.mg l_cut.kp l_cut.bd .nil pass0 (pa_cons (pv 0) pa_nil)) (pa_cons (pe_callTy call_tuple_of (by rfl) T.tuple (by decide +kernel) (pa_cons (pv 2) pa_nil)) pa_nil)))))), ?_⟩
    have s2z : 2 ≤ sizeLine := by rw [sizeLine_eq]; decide
    have lk := rt.length
    have keyOf : ∀ p ∈ kvs, ∃ pl, p.1 = kyP pl ∧ SPl pl := fun p hp => by
      have h1 : p.1 ∈ kvs.map (·.1) := List.mem_map.mpr ⟨p, hp, rfl⟩
      rw [rt.keys] at h1
      obtain ⟨pl, h2, h3⟩ := List.mem_map.mp h1
      obtain ⟨t, ht, rfl⟩ := List.mem_map.mp h2
      exact ⟨t.1, h3.symm, (hrows t ht).1⟩
    refine ⟨Nat.zero_le _, fun tl_ htl => ?_⟩
    have s0 := snew (o := .lst []) htl
    refine ⟨_, rfl, d, kvs, rfl, .inl (s0 _ _ hd), fun lp bs hlp ks => ?_⟩
    have sl := snew (o := .lst (bs.map V.ref)) hlp
    have htlL := sl _ _ (upd_same (H := H) (a := tl_) (o := .lst []))
    have s1 := s0.trans sl
    have elp := upd_same (H := upd H tl_ (.lst [])) (a := lp) (o := .lst (bs.map V.ref))
    obtain ⟨H1, eH1⟩ : ∃ H1, upd (upd H tl_ (.lst [])) lp (.lst (bs.map V.ref)) = H1 := ⟨_, rfl⟩
    rw [eH1] at sl s1 htlL elp ⊢
    have lb := Paired.length ks
    have stand : ∀ (j : Nat) (b : Addr), bs[j]? = some b → ∃ kv pl, kvs[j]? = some kv ∧ kv.1 = kyP pl ∧ SPl pl ∧ H1 b = some (.tup [.int pl.1, .int pl.2]) := fun j b hj => by
      obtain ⟨q, hq, hbk⟩ := LamX.pget0 ks hj
      obtain ⟨pl, epl, hs⟩ := keyOf q (List.mem_of_getElem? hq)
      rw [epl] at hbk
      exact ⟨q, pl, hq, epl, hs, sl _ _ hbk⟩
    refine ⟨lp, bs.map V.ref, gV H1, rfl, rfl, SqL.of elp, fun x hx => ?_, fun lz ys hlz perm srt => ?_⟩
    · obtain ⟨b, hb, rfl⟩ := List.mem_map.mp hx
      obtain ⟨j, hj⟩ := List.mem_iff_getElem?.mp hb
      obtain ⟨kv, pl, _, _, hs, hh⟩ := stand j b hj
      obtain ⟨_, f1, f2, f3⟩ := fit_pl hs
      rw [gV_at hh]
      exact ⟨b, rfl, hh, f1, f2, f3⟩
    have nlz : lz ≠ tl_ := (ne_of_none htlL hlz).symm
    have sz := snew (o := .lst ys) hlz
    obtain ⟨H2, eH2⟩ : ∃ H2, H2 = upd H1 lz (.lst ys) := ⟨_, rfl⟩
    rw [← eH2] at sz ⊢
    have hlz2 : H2 lz = some (.lst ys) := by rw [eH2]; exact upd_same
    have htl2 : H2 tl_ = some (.lst []) := sz _ _ htlL
    have e02 : Same H H2 := s1.trans sz
    have lys : ys.length = kvs.length := by
      have := perm.length_eq
      rw [List.length_map] at this
      omega
    -- the poles in their order
    obtain ⟨pz, epz⟩ : ∃ pz : List Pl, pz = ys.map (gV H1) := ⟨_, rfl⟩
    have permP : pz.Perm (ts.map (·.1)) := by
      have h1 := perm.map (gV H1)
      have h2 : (bs.map V.ref).map (gV H1) = ts.map (·.1) := by
        refine List.ext_getElem? fun j => ?_
        rw [List.getElem?_map, List.getElem?_map]
        cases c : bs[j]? with
        | some b =>
          obtain ⟨kv, pl, e1, e2, _, hh⟩ := stand j b c
          have h3 : (kvs.map (·.1))[j]? = some (kyP pl) := by rw [List.getElem?_map, e1]; show some kv.1 = _; rw [e2]
          rw [rt.keys, List.getElem?_map] at h3
          obtain ⟨pl', e4, e5⟩ := Option.map_eq_some_iff.mp h3
          have := kyP_inj e5
          subst this
          rw [e4]
          show some (gV H1 (.ref b)) = _
          rw [gV_at hh]
        | none =>
          rw [List.getElem?_eq_none_iff] at c
          rw [List.getElem?_eq_none (by rw [List.length_map]; omega)]
          rfl
      rw [← h2, epz]
      exact h1
    have memP : ∀ p, p ∈ pz ↔ p ∈ ts.map (·.1) := fun p => permP.mem_iff
    have splP : ∀ p ∈ pz, SPl p := fun p hp => by
      obtain ⟨t, ht, rfl⟩ := List.mem_map.mp ((memP p).mp hp)
      exact (hrows t ht).1
    have srtP : pz.Pairwise before := by
      have n1 : pz.Nodup := permP.nodup_iff.mpr kp
      have n2 : pz.Pairwise (fun p q : Pl => (p.1 * 232792560).fdiv p.2 ≤ (q.1 * 232792560).fdiv q.2) := by
        rw [epz]
        exact List.Pairwise.map _ (fun a b h => h) srt
      refine List.Pairwise.imp_of_mem (fun {a b} ha hb h => ?_) (n1.and n2)
      exact key_bf (splP a ha) (splP b hb) h.1 h.2
    have nH : ∀ b o, H b = some o → b ≠ tl_ := fun b o e => ne_of_none e htl
    have ext : ∀ H', Keep tl_ tl_ H2 H' → Same H H' := fun H' kk b o e => kk b o (e02 b o e) (nH b o e) (nH b o e)
    have tup2 : ∀ H', Keep tl_ tl_ H2 H' → TupS H2 H' := fun H' kk b xs e => kk b _ e (ne_of e htl2 (by intro z; cases z)) (ne_of e htl2 (by intro z; cases z))
    refine ⟨lz, rfl, ⟨_, SqL.of hlz2⟩, for_list (K := K) (a := lz) (xs := ys) (fun i σ H' => ∃ (x3 x4 : Option V) (acc : List V) (us : List Tl), σ = [some (.ref aw), some (.ref d), some (.ref tl_), x3, x4] ∧ H' tl_ = some (.lst acc) ∧ DnAll H' acc (us.map encTl) ∧ us.length ≤ i ∧ CTs ok us ∧ (∀ t ∈ us, t.1 ∈ pz.take i) ∧ (∀ p k d, cr (tl us p) k d = if p ∈ pz.take i then cr (tl ts p) k d else 0) ∧ Keep tl_ tl_ H2 H')
      ⟨none, none, [], [], rfl, htl2, .nil, Nat.le_refl _, CTs.nil, by simp, fun p k d => by simp [tl, cr_nil], fun b o e _ _ => e⟩ (fun i σ H' _ ⟨_, _, _, _, _, _, _, _, _, _, _, kk⟩ => SqL.of (kk _ _ hlz2 nlz nlz)) ?_ ?_⟩
    · rintro i x σ H' hx ⟨x3, x4, acc, us, rfl, h1, h2, h3, h4, h5, h6, kk⟩
      have hxm : x ∈ bs.map V.ref := perm.mem_iff.mp (List.mem_of_getElem? hx)
      obtain ⟨z, hzb, rfl⟩ := List.mem_map.mp hxm
      have il := (List.getElem?_eq_some_iff.mp hx).1
      obtain ⟨j0, hj0⟩ := List.mem_iff_getElem?.mp hzb
      obtain ⟨kv, pl, _, _, hs, hzH⟩ := stand j0 z hj0
      have epi : pz[i]? = some pl := by
        rw [epz, List.getElem?_map, hx]
        show some (gV H1 (.ref z)) = some pl
        rw [gV_at hzH]
      have tk := mem_take_succ epi
      have mpl : pl ∈ ts.map (·.1) := (memP pl).mp (List.mem_of_getElem? epi)
      rcases rt.get pl with ⟨_, no⟩ | ⟨b, accR, ev, _, hb, dr, mt⟩
      · exact absurd mpl no
      obtain ⟨_, lr, nr⟩ := hrows _ mt
      have eH' := ext H' kk
      have hz' : H' z = some (.tup [.int pl.1, .int pl.2]) := tup2 H' kk _ _ (sz _ _ hzH)
      have below : ∀ q ∈ pz.take i, before q pl := fun q hq => by
        have h := srtP
        have hi : i < pz.length := (List.getElem?_eq_some_iff.mp epi).1
        have edi : pz[i] = pl := (List.getElem?_eq_some_iff.mp epi).2
        rw [← List.take_append_drop i pz, List.drop_eq_getElem_cons hi, edi, List.pairwise_append] at h
        exact h.2.2 q hq pl List.mem_cons_self
      have nin : pl ∉ pz.take i := fun m => bf_irr (below pl m) rfl
      refine ⟨_, rfl, _, rfl, d, .ref b, rfl, ?_, b, accR, tl ts pl, rfl, .inl (SqL.of (eH' _ _ hb)), DnAll.mono eH' _ _ dr, lr, fun rr q H3 dq ⟨kx, _, erx⟩ lastq crq s3 => ?_⟩
      · have := DGet.t (H := H') (k := kyP pl) (eH' _ _ hd) hz'
        rw [ev] at this
        exact this
      have crR : CR ok rr := ⟨fun n hn => nr n (by rw [erx] at hn; exact List.mem_of_mem_take hn), lastq⟩
      refine ⟨_, rfl, Nat.zero_le _, fun p hp => ⟨encR rr, .tuple [], tn_dp _ _ (encR_tn _) (Dn.mono (snew hp) _ _ dq), .tup (SqT.of upd_same) .nil, encR_shaped _, rfl, _, rfl, ?_⟩⟩
      rw [eqv_nil_d (encR_tn _)]
      have s4 := s3.trans (snew (o := .tup []) hp)
      refine ite_b (fun c => ?_) (fun c => ?_)
      · have rne : rr ≠ [] := fun z => by rw [z] at c; cases c
        refine ⟨_, rfl, .inl ⟨rfl, _, SqL.of (s4 _ _ h1)⟩, _, rfl, _, rfl, s2z, fun p2 hp2 => ?_⟩
        have s5 := s4.trans (snew (o := .tup [.ref z, .ref q]) hp2)
        have ht5 := s5 _ _ h1
        have up := lst_tups (o := .lst (acc ++ [.ref p2])) ht5
        have lacc : acc.length = us.length := by rw [h2.length, List.length_map]
        refine ⟨tl_, acc, _, rfl, rfl, ht5, small1000 (by omega), ?_⟩
        refine ⟨_, _, acc ++ [.ref p2], us ++ [(pl, rr)], rfl, upd_same, ?_, by rw [List.length_append]; show us.length + 1 ≤ _; omega, h4.snoc ⟨hs.2.2.2, crR, rne⟩ (fun s hs' => below _ (h5 s hs')), fun t ht => ?_, fun p k d => ?_, fun b o e n1 n2 => ?_⟩
        · rw [List.map_append]
          refine DnAll.app (tnA_tups ((Same.tups s5).trans up) _ _ (tn_maps encTl_tn us) h2) (.cons ?_ .nil)
          refine .tup (up _ _ upd_same) (.cons (.tup (up _ _ (s5 _ _ hz')) (.cons (.int _) (.cons (.int _) .nil))) (.cons ?_ .nil))
          exact tn_tups up _ _ (encR_tn _) (Dn.mono ((snew hp).trans (snew hp2)) _ _ dq)
        · rcases List.mem_append.mp ht with ht | ht
          · exact (tk _).mpr (.inl (h5 t ht))
          · rw [List.mem_singleton.mp ht]
            exact (tk _).mpr (.inr rfl)
        · have one : tl [(pl, rr)] p = if pl = p then rr else [] := rfl
          rw [tl_app, one]
          by_cases c1 : p = pl
          · subst c1
            rw [if_neg (show ¬ p ∈ us.map (·.1) from fun m => by obtain ⟨t, ht, e⟩ := List.mem_map.mp m; exact nin (e ▸ h5 t ht)), if_pos (show p = p from rfl), if_pos ((tk _).mpr (.inr rfl))]
            exact crq k d
          · rw [if_neg (show ¬ pl = p from fun z => c1 z.symm)]
            by_cases c2 : p ∈ us.map (·.1)
            · rw [if_pos c2, h6]
              have c3 : p ∈ pz.take i := by obtain ⟨t, ht, e⟩ := List.mem_map.mp c2; exact e ▸ h5 t ht
              rw [if_pos c3, if_pos ((tk _).mpr (.inl c3))]
            · rw [if_neg c2, cr_nil]
              have h7 := h6 p k d
              rw [tl_off c2, cr_nil] at h7
              by_cases c3 : p ∈ pz.take i
              · rw [if_pos c3] at h7
                rw [if_pos ((tk _).mpr (.inl c3))]
                exact h7
              · rw [if_neg (fun z => ((tk _).mp z).elim c3 c1)]
        · rw [upd_ne n1]
          exact s5 _ _ (kk b o e n1 n2)
      · have rn : rr = [] := by
          cases rr with
          | nil => rfl
          | cons _ _ => cases c
        refine ⟨_, _, acc, us, rfl, s4 _ _ h1, tnA_tups (Same.tups s4) _ _ (tn_maps encTl_tn us) h2, by omega, h4, fun t ht => (tk _).mpr (.inl (h5 t ht)), fun p k d => ?_, fun b o e n1 n2 => s4 _ _ (kk b o e n1 n2)⟩
        rw [h6]
        by_cases c1 : p = pl
        · subst c1
          rw [if_neg nin, if_pos ((tk _).mpr (.inr rfl)), ← crq k d, rn, cr_nil]
        · by_cases c3 : p ∈ pz.take i
          · rw [if_pos c3, if_pos ((tk _).mpr (.inl c3))]
          · rw [if_neg c3, if_neg (fun z => ((tk _).mp z).elim c3 c1)]
    · rintro σ H' ⟨x3, x4, acc, us, rfl, h1, h2, h3, h4, h5, h6, kk⟩
      have eH' := ext H' kk
      refine ⟨_, rfl, aw, accW, r0, rfl, hW.same eH', DnAll.mono eH' _ _ dW, lW, fun rr q H3 dq ⟨kx, _, erx⟩ lastq crq s3 => ?_⟩
      refine ⟨_, rfl, tl_, acc, rfl, .inl ⟨SqL.of (s3 _ _ h1), fun l2 hl2 => ⟨s2z, fun p hp => ?_⟩⟩⟩
      have s4 := (snew (o := .tup acc) hl2).trans (snew (o := .tup [.ref q, .ref l2]) hp)
      have lp : pz.length = ys.length := by rw [epz, List.length_map]
      refine k (rr, us) _ _ (.tup upd_same (.cons (Dn.mono s4 _ _ dq) (.cons (.tup ?_ (tnA_tups (Same.tups (s3.trans s4)) _ _ (tn_maps encTl_tn us) h2)) .nil))) ⟨⟨fun n hn => nW n (by rw [erx] at hn; exact List.mem_of_mem_take hn), lastq⟩, h4⟩ crq (fun p k d => ?_) (eH'.trans (s3.trans s4))
      · rw [upd_ne (ne_of_none upd_same hp)]; exact upd_same
      · show cr (tl us p) k d = _
        rw [h6, ← lp, List.take_length]
        by_cases c : p ∈ pz
        · rw [if_pos c]
        · rw [if_neg c, tl_off (fun z => c ((memP p).mpr z)), cr_nil]
end
end N3

namespace N3
open PySem PySem.Spec PyProof.Rows L2 N2 LamX
/-! ### the law's slopes -/
theorem lby {H : Hp} {x z : V} {n f : Nm} {t b : Int} {C : Nat} {ok : Int → Prop} {Q : VK} {E : XK} (df : Dn H z (encN f)) (dx : Dn H x (encN n)) (ff : FrX t b f) (b0 : 0 < b) (bt : t.natAbs < 512) (bb : b.natAbs < 512) (hn : Nu ok C n) (o : OkD ok) (c1 : 1 ≤ C) (c60 : C ≤ 80)
    (k : ∀ (s : Nm) (r : Addr) (H' : Hp), Dn H' (.ref r) (encN s) → CN ok s → (∀ d, co s d = Rat.divInt t b * co n d) → Same H H' → Q (.ref r) H') : spLBy [z, x] H Q E :=
  ⟨z, x, f, n, t, b, C, 9, ok, rfl, df, dx, ff, by omega, bt, bb, hn, o, by omega, c1, k⟩
theorem p8000 {b : Int} (h : b.natAbs < 512) : b.natAbs < 2 ^ 8000 := by
  have h1 := Nat.pow_le_pow_right (show 0 < 2 by decide) (show 9 ≤ 8000 by decide)
  have h2 : b.natAbs < 2 ^ 9 := h
  exact Nat.lt_of_lt_of_le h2 h1
def spLSlope : Sp := fun vs H Q _ => ∃ (u : V) (q : Qt) (C : Nat) (ok : Int → Prop), vs = [u] ∧ Dn H u (encQ q) ∧ QZ ok C 20 10 10 q ∧ OkD ok ∧ 1 ≤ C ∧ C ≤ 60 ∧
  ∀ (s : Qt) (a : Addr) (H' : Hp), Dn H' (.ref a) (encQ s) → CQ ok s → QSlo q s → Same H H' → Q (.ref a) H'
section
variable {P : Program} {w : World} {K : PySem.W.Frag} {mg : Str → Option Value} {base : Heap}
abbrev s__law_slope : Stmt := top 68
abbrev nsLSl : List Str := ["quotient", "whole", "tails", "pole", "row", "at", "x"]
theorem sc__law_slope : FnScope nsLSl ["quotient"] (defScope s__law_slope) := ⟨rfl, rfl, rfl, by decide +kernel, rfl, by decide +kernel, by decide +kernel⟩
theorem ok__law_slope {f f__law_fraction f__law_by f__law_shut : Addr} {fd d__law_fraction d__law_by d__law_shut : FuncData}  (F : Fun K "_law_slope" "_law_slope" s__law_slope f fd) (T : Bt mg) (l_fraction : Kn P w K mg base 2 "_law_fraction" ["top", "bottom"] spFrac f__law_fraction d__law_fraction) (l_by : Kn P w K mg base 3 "_law_by" ["one", "other"] spLBy f__law_by d__law_by) (l_shut : Kn P w K mg base 3 "_law_shut" ["whole", "tails"] (spLShut K) f__law_shut d__law_shut) : FnOk P w K mg base CX0 4 f fd ["quotient"] spLSlope := by
  refine F.ok sc__law_slope (fun vs H Q E h => ?_) (fun cdv A outer s H vs Q E hr h => ?_)
  · obtain ⟨u, q, C, ok, rfl, _⟩ := h
    rfl
  · obtain ⟨u, q, C, ok, rfl, hu0, zq, o, c1, c60, k⟩ := h
    have hu := hu_of hr
    refine ⟨_, pss_cons (ps_setLc (i := 1) (own := [("at", 5), ("x", 6)]) (g := (gTup K 2 (gCons (gName 5) (gCons (gName 6) gNil)))) (tt := tYes) rfl sc__law_slope.nd rfl rfl (sw_true rfl rfl (by rfl) (by rfl)) (pi_enumA (by rfl) T.enum (pa_cons (pe_ix (r := rIx K) ix_seq (pv 0) pe_int (fun _ _ => rfl)) pa_nil)) (blkOk_by (own := [("at", 5), ("x", 6)]) (N := nsLSl) (sc := defScope s__law_slope) (by decide +kernel)) (fun _ _ _ _ _ => pg_tup rfl (pgs_cons (pg_name (i := 5) sc__law_slope.nd rfl (Or.inl rfl)) (pgs_cons (pg_name (i := 6) sc__law_slope.nd rfl (Or.inl rfl)) pgs_nil))) (fun _ _ _ _ _ => pts_nil) (fun _ _ _ _ _ => (pe_call l_by.ok (hr.mono (by decide)) rfl l_by.mg l_by.kp l_by.bd .nil pass0 (pa_cons (pe_call l_fraction.ok (hr.mono (by decide)) rfl l_fraction.mg l_fraction.kp l_fraction.bd .nil pass0 (pa_cons (pv 5) (pa_cons pe_int pa_nil))) (pa_cons (pv 6) pa_nil)))))
      (pss_cons (ps_set (i := 2) sc__law_slope.nd rfl (Or.inl rfl) pe_dnewT)
      (pss_cons (ps_for PassesOwn.never rfl (pi_tup (pe_ix (r := rIx K) ix_seq (pv 0) pe_int (fun _ _ => rfl))) (pg_tup rfl (pgs_cons (pg_name (i := 3) sc__law_slope.nd rfl (Or.inl rfl)) (pgs_cons (pg_name (i := 4) sc__law_slope.nd rfl (Or.inl rfl)) pgs_nil)))
        (pss_one (ps_dput hu (pv 2) (pv 3) (pe_op op_cat (pe_lst (pa_cons (pe_tup pa_nil) pa_nil)) (pe_lc (own := [("at", 5), ("x", 6)]) (g := (gTup K 2 (gCons (gName 5) (gCons (gName 6) gNil)))) (tt := tYes) rfl sc__law_slope.nd (pi_enumA (by rfl) T.enum (pa_cons (pv 4) pa_nil)) (blkOk_by (own := [("at", 5), ("x", 6)]) (N := nsLSl) (sc := defScope s__law_slope) (by decide +kernel)) (fun _ _ _ _ _ => pg_tup rfl (pgs_cons (pg_name (i := 5) sc__law_slope.nd rfl (Or.inl rfl)) (pgs_cons (pg_name (i := 6) sc__law_slope.nd rfl (Or.inl rfl)) pgs_nil))) (fun _ _ _ _ _ => pts_nil) (fun _ _ _ _ _ => (pe_call l_by.ok (hr.mono (by decide)) rfl l_by.mg l_by.kp l_by.bd .nil pass0 (pa_cons (pe_call l_fraction.ok (hr.mono (by decide)) rfl l_fraction.mg l_fraction.kp l_fraction.bd .nil pass0 (pa_cons (pe_op op_sub (pe_un un_neg (pv 5)) pe_int) (pa_cons pe_int pa_nil))) (pa_cons (pv 6) pa_nil)))))) rfl)))
      (pss_one (ps_ret (pe_call l_shut.ok (hr.mono (by decide)) rfl l_shut.mg l_shut.kp l_shut.bd .nil pass0 (pa_cons (pe_slice sl_list (pv 1) (po_some pe_int) po_none) (pa_cons (pv 2) pa_nil))))))), ?_⟩
    have sl1 : 1 ≤ sizeLine := by rw [sizeLine_eq]; decide
    obtain ⟨a, v1, v2, rfl, ea, g1, g2⟩ := dn_pair hu0
    obtain ⟨a1, xs1, rfl, e1, r1⟩ := dn_t g1
    obtain ⟨a2, xs, rfl, e2, r2⟩ := dn_t g2
    have lx : xs.length = q.2.length := by rw [r2.length, List.length_map]
    have lx1 : xs1.length = q.1.length := by rw [r1.length, List.length_map]
    have lq := zq.lt
    have lw := zq.lw
    have kpq := zq.cq.2.kp
    refine ⟨_, rfl, .inr (.inl ⟨a, _, _, .ref a1, rfl, rfl, SqT.of ea, rfl, a1, xs1, rfl, .inr ⟨SqT.of e1, fun D hD => lc_enc (enc := encN) encN_tn walk_enumT (fun H' s' => SqT.of (s' _ _ e1)) (fun j m => CN ok m ∧ ∀ d, co m d = Rat.divInt (j : Int) 1 * cr q.1 j d) (by omega) hD (fun j x H2 H3 Q' hj s4 y kk => ?_) fun accW nW H5 w1 w2 w3 w4 sW => ?_⟩⟩)⟩
    · obtain ⟨T_, x1, x2', rfl, nT, rfl, ee, ex⟩ := y
      cases (Option.some.inj ee)
      obtain ⟨n, en⟩ : ∃ n, q.1[j]? = some n := ⟨_, List.getElem?_eq_getElem (by omega)⟩
      obtain ⟨x', ex', dx'⟩ := row_at r1 en
      rw [show xs1[j]? = some x2' from ex] at ex'
      cases ex'
      have sT := snew (o := .tup [.int (j : Nat), x2']) nT
      refine ⟨T_, _, rfl, SqT.of upd_same, rfl, _, _, rfl, _, _, rfl, rfl, rfl, ?_⟩
      refine ⟨_, rfl, _, 1, rfl, by decide, p8000 (by decide), fun f af H4 df ff s5 => ⟨_, rfl, ?_⟩⟩
      refine lby (E := E0) df (Dn.mono ((s4.trans sT).trans s5) _ _ dx') ff (by decide) (by omega) (by decide) ⟨zq.cq.1.1 n (List.mem_of_getElem? en), zq.zw n (List.mem_of_getElem? en)⟩ o c1 (by omega) fun m z H6 dz nz ez s6 => ?_
      refine kk _ m H6 dz ⟨nz, fun d => ?_⟩ (sT.trans (s5.trans s6))
      unfold cr
      rw [ez, getD_at en]
    intro rw_ hrw
    have s0 := sW.trans (snew (o := .dT []) hrw)
    have hWD : upd H5 rw_ (.dT []) D = some (.lst accW) := (snew hrw) _ _ w1
    have dW := DnAll.mono (snew (o := .dT []) hrw) _ _ w2
    have nD : D ≠ rw_ := ne_of_none w1 hrw
    have frw : upd H5 rw_ (.dT []) rw_ = some (.dT []) := upd_same
    obtain ⟨H0, eH0⟩ : ∃ H0, upd H5 rw_ (.dT []) = H0 := ⟨_, rfl⟩
    rw [eH0] at s0 hWD dW frw ⊢
    refine ⟨_, rfl, .inr (.inl ⟨a, _, _, .ref a2, rfl, rfl, SqT.of (s0 _ _ ea), rfl, a2, rfl, ⟨_, SqT.of (s0 _ _ e2)⟩, for_tup (K := K) (a := a2) (xs := xs) (fun i σ H' => ∃ (x2 x3 : Option V) (kvs : List (List L2.Key × V)) (ts : List Tl), σ = [some (.ref a), some (.ref D), some (.ref rw_), x2, x3, none, none] ∧ H' rw_ = some (.dT kvs) ∧ RwT (fun _ => True) H' kvs ts ∧ ts.map (·.1) = (q.2.take i).map (·.1) ∧
        (∀ (j : Nat) t, ts[j]? = some t → ∃ (x : Tl) (t' : List Nm), q.2[j]? = some x ∧ t = (x.1, [] :: t') ∧ t'.length = x.2.length ∧ (∀ n ∈ t', CN ok n) ∧ ∀ (k : Nat) d, cr t' k d = Rat.divInt (-(k : Int) - 1) 1 * cr x.2 k d) ∧ (∀ b o, H0 b = some o → b ≠ rw_ → H' b = some o))
      ⟨none, none, [], [], rfl, frw, .nil, rfl, fun j t e => by simp at e, fun b o e _ => e⟩ (fun i σ H' _ ⟨_, _, _, _, _, _, _, _, _, kk⟩ => SqT.of (kk _ _ (s0 _ _ e2) (ne_of (s0 _ _ e2) frw (by intro z; cases z)))) ?_ ?_⟩)⟩
    · rintro i x σ H1 hx ⟨x2, x3, kvs, ts, rfl, f1, rt, ek, at_, kk0⟩
      have s1 : ∀ {b : Addr} {ys : List V}, H b = some (.tup ys) → H1 b = some (.tup ys) := fun e => kk0 _ _ (s0 _ _ e) (ne_of (s0 _ _ e) frw (by intro z; cases z))
      obtain ⟨t, ax, p1, rv, et, rfl, hax, dr, dp⟩ := dn_rows r2 i x hx
      obtain ⟨ap, rfl, hap⟩ := dn_pl dp
      obtain ⟨ar, ys, rfl, har, rr⟩ := dn_t dr
      have ht := List.mem_of_getElem? et
      have il : i < q.2.length := (List.getElem?_eq_some_iff.mp et).1
      have ly : ys.length = t.2.length := by rw [rr.length, List.length_map]
      have lt2 := zq.lm t ht
      have rr1 : DnAll H1 ys (t.2.map encN) := tnA_tups (fun b ys e => s1 e) _ _ (tn_maps encN_tn _) rr
      have lts : ts.length = i := by
        have := congrArg List.length ek
        rw [List.length_map, List.length_map, List.length_take] at this
        omega
      refine ⟨ax, _, rfl, SqT.of (s1 hax), rfl, _, _, rfl, _, _, rfl, rfl, ?_⟩
      refine ⟨Nat.zero_le _, fun p0 hp0 => ⟨sl1, fun l0 hl0 => ?_⟩⟩
      have s3 := (snew (o := .tup []) hp0).trans (snew (o := .lst [.ref p0]) hl0)
      refine ⟨_, rfl, ar, ys, rfl, .inr ⟨SqT.of (s3 _ _ (s1 har)), fun D' hD => lc_enc (enc := encN) encN_tn walk_enumT (fun H' s' => SqT.of (s' _ _ (s3 _ _ (s1 har)))) (fun j m => CN ok m ∧ ∀ d, co m d = Rat.divInt (-(j : Int) - 1) 1 * cr t.2 j d) (by omega) hD (fun j x H2 H3 Q' hj s4 y kk => ?_) fun acc ns H2 e3 d3 ln hn s4 => ?_⟩⟩
      · obtain ⟨T_, x1, x2, rfl, nT, rfl, ee, ex⟩ := y
        cases (Option.some.inj ee)
        obtain ⟨n, en⟩ : ∃ n, t.2[j]? = some n := ⟨_, List.getElem?_eq_getElem (by omega)⟩
        obtain ⟨x', ex', dx'⟩ := row_at rr1 en
        rw [show ys[j]? = some x2 from ex] at ex'
        cases ex'
        have sT := snew (o := .tup [.int (j : Nat), x2]) nT
        refine ⟨T_, _, rfl, SqT.of upd_same, rfl, _, _, rfl, _, _, rfl, rfl, rfl, ?_⟩
        refine ⟨_, rfl, _, rfl, _, _, rfl, rfl, ?_⟩
        refine ⟨_, 1, rfl, by decide, p8000 (by decide), fun f af H4 df ff s5 => ⟨_, rfl, ?_⟩⟩
        refine lby (E := E0) df (Dn.mono (((s3.trans s4).trans sT).trans s5) _ _ dx') ff (by decide) (by omega) (by decide) ⟨(zq.cq.2.1 t ht).2.1.1 n (List.mem_of_getElem? en), zq.zt t ht n (List.mem_of_getElem? en)⟩ o c1 (by omega) fun m z H6 dz nz ez s6 => ?_
        refine kk _ m H6 dz ⟨nz, fun d => ?_⟩ (sT.trans (s5.trans s6))
        unfold cr
        rw [ez, getD_at en]
      · have l0' := s4 _ _ (upd_same (H := upd H1 p0 (.tup [])) (a := l0) (o := .lst [.ref p0]))
        have lac : acc.length = ns.length := by rw [d3.length, List.length_map]
        refine ⟨l0, D', [.ref p0], acc, rfl, rfl, l0', e3, ?_, fun z hz => ?_⟩
        · show 1 + acc.length ≤ sizeLine
          exact Nat.le_of_lt (small1000 (by omega))
        · have s5 := snew (o := .lst ([.ref p0] ++ acc)) hz
          have s15 := s3.trans (s4.trans s5)
          have f5 := s15 _ _ f1
          have dz : DnAll (upd H2 z (.lst ([.ref p0] ++ acc))) ([.ref p0] ++ acc) (([] :: ns).map encN) := .cons (.tup (((snew hl0).trans (s4.trans s5)) _ _ upd_same) .nil) (DnAll.mono s5 _ _ d3)
          have rt5 : RwT (fun _ => True) (upd H2 z (.lst ([.ref p0] ++ acc))) kvs ts := rt.move (fun _ h => h) (fun b xs _ e => s15 _ _ e) (Same.tups s15)
          have nin : t.1 ∉ ts.map (·.1) := by
            rw [ek, List.map_take]
            intro m
            exact bf_irr ((pw_take zq.cq.2.pw (show (q.2.map (·.1))[i]? = some t.1 by rw [List.getElem?_map, et]; rfl)).1 _ m) rfl
          refine ⟨_, rfl, _, rfl, rw_, _, rfl, DPut.t (k := kyP t.1) f5 (s15 _ _ (s1 hap)) (by rw [rt.length]; exact small1000 (by omega)), ?_⟩
          have rt6 := rwt_put (p := t.1) (n := [] :: ns) f5 rt5 trivial upd_same dz
          rw [putR_new nin] at rt6
          refine ⟨_, _, _, _, rfl, upd_same, rt6, ?_, fun j t1 e => ?_, fun b o' e h => ?_⟩
          · rw [List.map_append, ek, List.take_add_one, et, List.map_append]
            rfl
          · rcases Nat.lt_or_ge j ts.length with c | c
            · rw [List.getElem?_append_left c] at e
              exact at_ j t1 e
            · rw [List.getElem?_append_right c] at e
              have ej : j - ts.length = 0 := by
                rcases Nat.eq_zero_or_pos (j - ts.length) with z | z
                · exact z
                · rw [List.getElem?_eq_none (show [(t.1, [] :: ns)].length ≤ _ from z)] at e; cases e
              rw [ej] at e
              cases e
              have : j = i := by omega
              subst this
              refine ⟨t, ns, et, rfl, by omega, fun n hn' => ?_, fun k' d => ?_⟩
              · obtain ⟨j', hj'⟩ := List.mem_iff_getElem?.mp hn'
                exact (hn j' n hj').1
              · rcases Nat.lt_or_ge k' ns.length with c2 | c2
                · show co (ns.getD k' []) d = _
                  rw [getD_at (List.getElem?_eq_getElem c2)]
                  exact (hn k' _ (List.getElem?_eq_getElem c2)).2 d
                · rw [cr_off c2, cr_off (by omega), Rat.mul_zero]
          · rw [upd_ne h]
            exact s15 _ _ (kk0 _ _ e h)
    · rintro σ H1 ⟨x2, x3, kvs, ts, rfl, f1, rt, ek, at_, kk0⟩
      rw [lx, List.take_length] at ek
      have hD1 := kk0 _ _ hWD nD
      have tp : TupS H0 H1 := fun b ys e => kk0 _ _ e (ne_of e frw (by intro z; cases z))
      have dW1 : DnAll H1 accW (nW.map encN) := tnA_tups tp _ _ (tn_maps encN_tn _) dW
      have sH1 : Same H H1 := fun b o e => kk0 _ _ (s0 _ _ e) (ne_of_none (sW _ _ e) hrw)
      dsimp only [tNoPart]
      refine ⟨_, rfl, _, rfl, D, accW, rfl, SqL.of hD1, fun p hp => ?_⟩
      have sp := snew (o := .lst (cutV accW (some (1 : Int)) none)) hp
      rw [cutFrom1] at sp ⊢
      refine ⟨_, rfl, p, rw_, accW.drop 1, nW.drop 1, kvs, ts, ok, rfl, .inl (SqL.of upd_same), ?_, by rw [List.length_drop]; omega, fun n hn' => ?_, sp _ _ f1, rt.move (fun _ h => h) (fun b xs _ e => sp _ _ e) (Same.tups sp), ?_, ?_, fun t ht => ?_, fun s r H5 ds cs es1 es2 s5 => ?_⟩
      · rw [List.map_drop]
        exact DnAll.mono sp _ _ (dnAll_drop' dW1 1)
      · obtain ⟨j, hj⟩ := List.mem_iff_getElem?.mp (List.mem_of_mem_drop hn')
        exact (w4 j n hj).1
      · unfold Kp; rw [ek]; exact kpq
      · have := congrArg List.length ek
        rw [List.length_map, List.length_map] at this
        omega
      · obtain ⟨j, hj⟩ := List.mem_iff_getElem?.mp ht
        obtain ⟨x, t', ex, rfl, l', c', _⟩ := at_ j t hj
        have hx := List.mem_of_getElem? ex
        refine ⟨zq.pl x hx, ?_, fun n hn' => ?_⟩
        · have := zq.lm x hx
          show t'.length + 1 ≤ 1000
          omega
        · rcases List.mem_cons.mp hn' with rfl | hn'
          · exact CN.nil
          · exact c' n hn'
      · refine k s r H5 ds cs ⟨fun j d => ?_, fun p' d => ?_⟩ ((sH1.trans sp).trans s5)
        · rw [es1]
          have e : cr (nW.drop 1) j d = cr nW (j + 1) d := by
            unfold cr
            rw [List.getD_eq_getElem?_getD, List.getD_eq_getElem?_getD, List.getElem?_drop, Nat.add_comm]
          rw [e]
          rcases Nat.lt_or_ge (j + 1) nW.length with c | c
          · show co (nW.getD (j + 1) []) d = _
            rw [getD_at (List.getElem?_eq_getElem c)]
            have := (w4 (j + 1) _ (List.getElem?_eq_getElem c)).2 d
            rw [this]
            rfl
          · rw [cr_off c, cr_off (by omega), Rat.mul_zero]
        · have kts : Kp ts := by unfold Kp; rw [ek]; exact kpq
          rw [es2]
          by_cases c : p' ∈ ts.map (·.1)
          · obtain ⟨t, ht, rfl⟩ := List.mem_map.mp c
            obtain ⟨j, hj⟩ := List.mem_iff_getElem?.mp ht
            obtain ⟨x, t', ex, rfl, _, _, ct'⟩ := at_ j t hj
            have h1 : tl ts x.1 = [] :: t' := tl_at (t := (x.1, [] :: t')) kts ht
            have h2 : tl q.2 x.1 = x.2 := tl_at kpq (List.mem_of_getElem? ex)
            refine ⟨?_, fun j' => ?_⟩
            · show cr (tl ts x.1) 0 d = 0
              rw [h1]; rfl
            · rw [es2]
              show cr (tl ts x.1) (j' + 1) d = Rat.divInt (-(j' : Int) - 1) 1 * cr (tl q.2 x.1) j' d
              rw [h1, h2]
              exact ct' j' d
          · have c' : p' ∉ q.2.map (·.1) := by rw [← ek]; exact c
            refine ⟨by rw [tl_off c, cr_nil], fun j' => ?_⟩
            rw [es2, tl_off c, tl_off c', cr_nil, cr_nil, Rat.mul_zero]
end
end N3

namespace N3
open PySem PySem.Spec PyProof.Rows L2 N2 LamX
/-! ### the law's sums of quotients -/
/-- all coefficients at a pole, with repeated poles -/
def scT : List Tl → Pl → Nat → Int → Rat
  | [], _, _, _ => 0
  | t :: L, p, k, d => (if t.1 = p then cr t.2 k d else 0) + scT L p k d
theorem scT_app : ∀ (L M : List Tl) (p : Pl) (k : Nat) (d : Int), scT (L ++ M) p k d = scT L p k d + scT M p k d
  | [], M, p, k, d => (Rat.zero_add _).symm
  | t :: L, M, p, k, d => by
    show _ + scT (L ++ M) p k d = _ + _ + _
    rw [scT_app L M, Rat.add_assoc]
theorem scT_none : ∀ {L : List Tl} {p : Pl} {k : Nat} {d : Int}, p ∉ L.map (·.1) → scT L p k d = 0
  | [], _, _, _, _ => rfl
  | t :: L, p, k, d, h => by
    rw [List.map_cons, List.mem_cons, not_or] at h
    show (if t.1 = p then _ else 0) + scT L p k d = 0
    rw [if_neg (fun z => h.1 z.symm), scT_none h.2, Rat.zero_add]
theorem scT_kp : ∀ {L : List Tl} {p : Pl} {k : Nat} {d : Int}, Kp L → scT L p k d = cr (tl L p) k d
  | [], p, k, d, _ => (cr_nil k d).symm
  | t :: L, p, k, d, h => by
    unfold Kp at h
    rw [List.map_cons, List.nodup_cons] at h
    show (if t.1 = p then cr t.2 k d else 0) + scT L p k d = cr (if t.1 = p then t.2 else tl L p) k d
    by_cases c : t.1 = p
    · rw [if_pos c, if_pos c, scT_none (by rw [← c]; exact h.1), Rat.add_zero]
    · rw [if_neg c, if_neg c, Rat.zero_add]
      exact scT_kp h.2
theorem scT_take {L : List Tl} {i : Nat} {t : Tl} (h : L[i]? = some t) (p : Pl) (k : Nat) (d : Int) : scT (L.take (i + 1)) p k d = scT (L.take i) p k d + if t.1 = p then cr t.2 k d else 0 := by
  rw [List.take_add_one, h, scT_app]
  show _ + (_ + (0 : Rat)) = _
  rw [Rat.add_zero]
theorem rows_sz {ok : Int → Prop} {r : List Nm} {D : Nat} (h : ∀ n ∈ r, CN ok n) (z : ∀ k d, ∃ t b : Int, b ≠ 0 ∧ cr r k d = Rat.divInt t b ∧ t.natAbs < 2 ^ D ∧ b.natAbs < 2 ^ D) : ∀ n ∈ r, Nu ok D n := fun n hn => by
  obtain ⟨k, hk, e⟩ := List.mem_iff_getElem.mp hn
  have e' : r.getD k [] = n := by rw [List.getD_eq_getElem?_getD, List.getElem?_eq_getElem hk]; exact e
  refine ⟨h n hn, (h n hn).sz fun x _ => ?_⟩
  obtain ⟨t, b, b0, ec, bt, bb⟩ := z k x.1
  unfold cr at ec
  rw [e'] at ec
  exact ⟨t, b, b0, ec, bt, bb⟩
/-- what stands at a pole before its turn is the first one's row -/
theorem scT_near {a b : List Tl} {i : Nat} {t : Tl} (ha : Kp a) (hb : Kp b) (h : (a ++ b)[i]? = some t) : ∃ row : List Nm, (row = [] ∨ row = tl a t.1) ∧ ∀ k d, scT ((a ++ b).take i) t.1 k d = cr row k d := by
  rcases Nat.lt_or_ge i a.length with c | c
  · rw [List.getElem?_append_left c] at h
    refine ⟨[], .inl rfl, fun k d => ?_⟩
    rw [List.take_append_of_le_length (by omega), cr_nil]
    refine scT_none fun m => ?_
    rw [List.map_take] at m
    have h1 : (a.map (·.1))[i]? = some t.1 := by rw [List.getElem?_map, h]; rfl
    exact ((pw_take (r := fun x y => x ≠ y) (show List.Pairwise _ (a.map (·.1)) from ha) h1).1 _ m) rfl
  · rw [List.getElem?_append_right c] at h
    refine ⟨tl a t.1, .inr rfl, fun k d => ?_⟩
    rw [List.take_append, List.take_of_length_le (by omega), scT_app, scT_kp ha]
    have : scT (b.take (i - a.length)) t.1 k d = 0 := by
      refine scT_none fun m => ?_
      rw [List.map_take] at m
      have h1 : (b.map (·.1))[i - a.length]? = some t.1 := by rw [List.getElem?_map, h]; rfl
      exact ((pw_take (r := fun x y => x ≠ y) (show List.Pairwise _ (b.map (·.1)) from hb) h1).1 _ m) rfl
    rw [this, Rat.add_zero]
theorem catA_any {K : PySem.W.Frag} {H : Hp} {a b : Addr} {xs ys : List V} {Q : VK} (ha : SqT K H a xs) (hb : SqT K H b ys) (hz : xs.length + ys.length ≤ 1000) (k : ∀ (p : Addr) (H' : Hp), SqT K H' p (xs ++ ys) → Same H H' → Q (.ref p) H') : rCatA K (.ref a) (.ref b) H Q := by
  refine ⟨a, b, xs, ys, rfl, rfl, ha, hb, Nat.le_of_lt (small1000 (by omega)), fun e => ?_, fun _ e => ?_, fun _ _ p hp => k p _ (SqT.of upd_same) (snew hp)⟩
  · subst e; exact k b H hb (Same.refl _)
  · subst e; rw [List.append_nil] at k; exact k a H ha (Same.refl _)
def spLSumQ : Sp := fun vs H Q _ => ∃ (u v : V) (q r : Qt) (C : Nat) (ok : Int → Prop), vs = [u, v] ∧ Dn H u (encQ q) ∧ Dn H v (encQ r) ∧ QZ ok C 20 10 10 q ∧ QZ ok C 20 10 10 r ∧ OkD ok ∧ 1 ≤ C ∧ C ≤ 60 ∧
  ∀ (s : Qt) (a : Addr) (H' : Hp), Dn H' (.ref a) (encQ s) → CQ ok s → QSum q r s → Same H H' → Q (.ref a) H'
section
variable {P : Program} {w : World} {K : PySem.W.Frag} {mg : Str → Option Value} {base : Heap}
abbrev s__law_sum : Stmt := top 67
abbrev nsLSm : List Str := ["one", "other", "tails", "pole", "row"]
theorem sc__law_sum : FnScope nsLSm ["one", "other"] (defScope s__law_sum) := ⟨rfl, rfl, rfl, by decide +kernel, rfl, by decide +kernel, by decide +kernel⟩
theorem ok__law_sum {f f__law_rows f__law_shut : Addr} {fd d__law_rows d__law_shut : FuncData}  (F : Fun K "_law_sum" "_law_sum" s__law_sum f fd) (T : Bt mg) (l_rows : Kn P w K mg base 3 "_law_rows" ["one", "other"] (spLRows K) f__law_rows d__law_rows) (l_shut : Kn P w K mg base 3 "_law_shut" ["whole", "tails"] (spLShut K) f__law_shut d__law_shut) : FnOk P w K mg base CX0 4 f fd ["one", "other"] spLSumQ := by
  refine F.ok sc__law_sum (fun vs H Q E h => ?_) (fun cdv A outer s H vs Q E hr h => ?_)
  · obtain ⟨u, v, q, r, C, ok, rfl, _⟩ := h
    rfl
  · obtain ⟨u, v, q, r, C, ok, rfl, hu0, hv0, zq, zr, o, c1, c60, k⟩ := h
    have hu := hu_of hr
    refine ⟨_, pss_cons (ps_set (i := 2) sc__law_sum.nd rfl (Or.inl rfl) pe_dnewT)
      (pss_cons (ps_for PassesOwn.never rfl (pi_tup (pe_op op_catA (pe_ix (r := rIx K) ix_seq (pv 0) pe_int (fun _ _ => rfl)) (pe_ix (r := rIx K) ix_seq (pv 1) pe_int (fun _ _ => rfl)))) (pg_tup rfl (pgs_cons (pg_name (i := 3) sc__law_sum.nd rfl (Or.inl rfl)) (pgs_cons (pg_name (i := 4) sc__law_sum.nd rfl (Or.inl rfl)) pgs_nil)))
        (pss_one (ps_dput hu (pv 2) (pv 3) (pe_call l_rows.ok (hr.mono (by decide)) rfl l_rows.mg l_rows.kp l_rows.bd .nil pass0 (pa_cons (pe_dget2 hu (pv 2) (pv 3) (pe_tup pa_nil) ⟨by rfl, by rfl, by rfl, by rfl⟩) (pa_cons (pv 4) pa_nil))) rfl)))
      (pss_one (ps_ret (pe_call l_shut.ok (hr.mono (by decide)) rfl l_shut.mg l_shut.kp l_shut.bd .nil pass0 (pa_cons (pe_call l_rows.ok (hr.mono (by decide)) rfl l_rows.mg l_rows.kp l_rows.bd .nil pass0 (pa_cons (pe_ix (r := rIx K) ix_seq (pv 0) pe_int (fun _ _ => rfl)) (pa_cons (pe_ix (r := rIx K) ix_seq (pv 1) pe_int (fun _ _ => rfl)) pa_nil))) (pa_cons (pv 2) pa_nil)))))), ?_⟩
    obtain ⟨a, v1, v2, rfl, ea, g1, g2⟩ := dn_pair hu0
    obtain ⟨a1, xs1, rfl, e1, r1⟩ := dn_t g1
    obtain ⟨a2, xs, rfl, e2, r2⟩ := dn_t g2
    obtain ⟨b, w1, w2, rfl, eb, f1, f2⟩ := dn_pair hv0
    obtain ⟨b1, ys1, rfl, i1, j1⟩ := dn_t f1
    obtain ⟨b2, ys, rfl, i2, j2⟩ := dn_t f2
    have lx : xs.length = q.2.length := by rw [r2.length, List.length_map]
    have ly : ys.length = r.2.length := by rw [j2.length, List.length_map]
    have lq := zq.lt
    have lw := zq.lw
    have lr := zr.lt
    have lwr := zr.lw
    have kpq := zq.cq.2.kp
    have kpr := zr.cq.2.kp
    have few : Few ok 30 := fun n hn => by have := o.2 n hn; omega
    intro rw_ hrw
    have s0 := snew (o := .dT []) hrw
    have frw : upd H rw_ (.dT []) rw_ = some (.dT []) := upd_same
    obtain ⟨H0, eH0⟩ : ∃ H0, upd H rw_ (.dT []) = H0 := ⟨_, rfl⟩
    rw [eH0] at s0 frw ⊢
    refine ⟨_, rfl, .inr (.inl ⟨a, _, _, .ref a2, rfl, rfl, SqT.of (s0 _ _ ea), rfl, _, rfl, .inr (.inl ⟨b, _, _, .ref b2, rfl, rfl, SqT.of (s0 _ _ eb), rfl, catA_any (SqT.of (s0 _ _ e2)) (SqT.of (s0 _ _ i2)) (by omega) fun zp H1 hz s1 => ?_⟩)⟩)⟩
    have s01 := s0.trans s1
    have rL : DnAll H1 (xs ++ ys) ((q.2 ++ r.2).map encTl) := by
      rw [List.map_append]
      exact DnAll.app (DnAll.mono s01 _ _ r2) (DnAll.mono s01 _ _ j2)
    have frw1 := s1 _ _ frw
    have mL : ∀ t ∈ q.2 ++ r.2, SPl t.1 ∧ t.2.length ≤ 10 ∧ ∀ n ∈ t.2, Nu ok C n := fun t ht => by
      rcases List.mem_append.mp ht with h | h
      · exact ⟨zq.pl t h, zq.lm t h, fun n hn => ⟨(zq.cq.2.1 t h).2.1.1 n hn, zq.zt t h n hn⟩⟩
      · exact ⟨zr.pl t h, zr.lm t h, fun n hn => ⟨(zr.cq.2.1 t h).2.1.1 n hn, zr.zt t h n hn⟩⟩
    have near := fun (i : Nat) (t : Tl) (h : (q.2 ++ r.2)[i]? = some t) => scT_near kpq kpr h
    have total : ∀ p k d, scT (q.2 ++ r.2) p k d = cr (tl q.2 p) k d + cr (tl r.2 p) k d := fun p k d => by rw [scT_app, scT_kp kpq, scT_kp kpr]
    obtain ⟨L, eL⟩ : ∃ L, q.2 ++ r.2 = L := ⟨_, rfl⟩
    obtain ⟨zs, ezs⟩ : ∃ zs, xs ++ ys = zs := ⟨_, rfl⟩
    have lz : zs.length = L.length := by rw [← ezs, ← eL, List.length_append, List.length_append, lx, ly]
    have lL : L.length ≤ 20 := by rw [← eL, List.length_append]; omega
    rw [eL] at rL mL near total
    rw [ezs] at hz rL
    have tupS : ∀ {H' : Hp}, (∀ b o, H1 b = some o → b ≠ rw_ → H' b = some o) → TupS H1 H' := fun kk b ys e => kk _ _ e (ne_of e frw1 (by intro z; cases z))
    have sqz : ∀ {H' : Hp}, (∀ b o, H1 b = some o → b ≠ rw_ → H' b = some o) → SqT K H' zp zs := fun {H'} kk => by
      rcases hz with (h | ⟨o', h⟩) | h
      · exact .inl (.inl (kk _ _ h (ne_of h frw1 (by intro z; cases z))))
      · exact .inl (.inr ⟨o', kk _ _ h (ne_of h frw1 (by intro z; cases z))⟩)
      · exact .inr h
    refine ⟨zp, rfl, ⟨_, hz⟩, for_tup (K := K) (a := zp) (xs := zs) (fun i σ H' => ∃ (x3 x4 : Option V) (kvs : List (List L2.Key × V)) (ts : List Tl), σ = [some (.ref a), some (.ref b), some (.ref rw_), x3, x4] ∧ H' rw_ = some (.dT kvs) ∧ RwT (fun _ => True) H' kvs ts ∧ Kp ts ∧ ts.length ≤ i ∧
        (∀ t ∈ ts, SPl t.1 ∧ t.2.length ≤ 10 ∧ ∀ n ∈ t.2, CN ok n) ∧ (∀ p k d, cr (tl ts p) k d = scT (L.take i) p k d) ∧ ∀ b o, H1 b = some o → b ≠ rw_ → H' b = some o)
      ⟨none, none, [], [], rfl, frw1, .nil, List.nodup_nil, Nat.le_refl _, fun t ht => by simp at ht, fun p k d => cr_nil k d, fun b o e _ => e⟩ (fun i σ H' _ ⟨_, _, _, _, _, _, _, _, _, _, _, kk⟩ => sqz kk) ?_ ?_⟩
    · rintro i x σ H2 hx ⟨x3, x4, kvs, ts, rfl, d1, rt, kp, lts, hts, con, kk⟩
      obtain ⟨t, ax, p1, rv, et, rfl, hax, dr, dp⟩ := dn_rows rL i x hx
      obtain ⟨ap, rfl, hap⟩ := dn_pl dp
      obtain ⟨ar, zr', rfl, har, rr⟩ := dn_t dr
      have ht := List.mem_of_getElem? et
      have il : i < L.length := (List.getElem?_eq_some_iff.mp et).1
      obtain ⟨spt, lt2, nut⟩ := mL t ht
      have t12 := tupS kk
      refine ⟨ax, _, rfl, SqT.of (t12 _ _ hax), rfl, _, _, rfl, _, _, rfl, rfl, ?_⟩
      refine ⟨_, rfl, rw_, rfl, .inr ⟨kvs, .inl d1⟩, _, rfl, Nat.zero_le _, fun ln hln => ?_⟩
      have sl := snew (o := .tup []) hln
      obtain ⟨row, hrow, erow⟩ := near i t et
      have brow : ∀ k d, ∃ t' b' : Int, b' ≠ 0 ∧ cr (tl ts t.1) k d = Rat.divInt t' b' ∧ t'.natAbs < 2 ^ C ∧ b'.natAbs < 2 ^ C := fun k d => by
        rw [con, erow]
        rcases hrow with rfl | rfl
        · exact row_co (ok := ok) CR.nil (fun n hn => by simp at hn) c1 k d
        · exact row_co (zq.row t.1).1 (zq.row t.1).2.2 c1 k d
      have got : ∃ (ov : Option V) (nb : Addr) (acc : List V) (nr : List Nm), DGet (upd H2 ln (.tup [])) rw_ (.ref ap) ov ∧ ov.getD (.ref ln) = .ref nb ∧ SqE K (upd H2 ln (.tup [])) nb acc ∧ DnAll (upd H2 ln (.tup [])) acc (nr.map encN) ∧ nr = tl ts t.1 ∧ (∀ n ∈ nr, CN ok n) ∧ nr.length ≤ 10 := by
        have dg := DGet.t (k := kyP t.1) (sl _ _ d1) (sl _ _ (t12 _ _ hap))
        rcases rt.get t.1 with ⟨h0, hno⟩ | ⟨nb, acc, h0, _, hnb, hd, hm⟩
        · rw [h0] at dg
          exact ⟨none, ln, [], [], dg, rfl, .inr upd_same, .nil, (tl_off hno).symm, fun n hn => by simp at hn, Nat.zero_le _⟩
        · rw [h0] at dg
          obtain ⟨_, l10, cn⟩ := hts _ hm
          exact ⟨some (.ref nb), nb, acc, tl ts t.1, dg, rfl, .inl (SqL.of (sl _ _ hnb)), DnAll.mono sl _ _ hd, rfl, cn, l10⟩
      obtain ⟨ov, nb, acc, nr, dg, eov, hnb, dacc, enr, cnr, lnr⟩ := got
      have harl := sl _ _ (t12 _ _ har)
      have rrl : DnAll (upd H2 ln (.tup [])) zr' (t.2.map encN) := DnAll.mono sl _ _ (tnA_tups t12 _ _ (tn_maps encN_tn _) rr)
      refine ⟨ov, dg, ?_⟩
      rw [eov]
      refine ⟨_, rfl, nb, ar, acc, zr', nr, t.2, C, ok, rfl, hnb, .inr harl, dacc, rrl, rows_sz cnr (by rw [enr]; exact brow), nut, by omega, by omega, few, by omega, fun Dn_ accN ns H3 h3 d3 l3 cn3 co3 s3 => ?_⟩
      have s23 := sl.trans s3
      have d3' := s23 _ _ d1
      refine ⟨_, rfl, _, rfl, rw_, _, rfl, DPut.t (k := kyP t.1) d3' (s23 _ _ (t12 _ _ hap)) (by rw [rt.length]; exact small1000 (by omega)), ?_⟩
      have rt3 : RwT (fun _ => True) H3 kvs ts := rt.move (fun _ h => h) (fun b xs _ e => s23 _ _ e) (Same.tups s23)
      have rt4 := rwt_put (p := t.1) (n := ns) d3' rt3 trivial h3 d3
      refine ⟨_, _, _, _, rfl, upd_same, rt4, putR_kp kp, ?_, fun t1 h1' => ?_, fun p k' d => ?_, fun b o' e h => ?_⟩
      · have := putR_len (ts := ts) (p := t.1) (n := ns)
        omega
      · rcases putR_mem h1' with rfl | h1'
        · exact ⟨spt, by show ns.length ≤ 10; omega, cn3⟩
        · exact hts t1 h1'
      · rw [tl_put, scT_take et, ← con]
        by_cases c : t.1 = p
        · subst c
          rw [if_pos rfl, if_pos rfl, co3, enr]
        · rw [if_neg c, if_neg c, Rat.add_zero]
      · rw [upd_ne h]
        exact s23 _ _ (kk b o' e h)
    · rintro σ H2 ⟨x3, x4, kvs, ts, rfl, d1, rt, kp, lts, hts, con, kk⟩
      rw [lz, List.take_length] at con
      have t12 := tupS kk
      have sH2 : Same H H2 := fun b o e => kk _ _ (s01 _ _ e) (ne_of_none e hrw)
      refine ⟨_, rfl, .inr (.inl ⟨a, _, _, .ref a1, rfl, rfl, SqT.of (sH2 _ _ ea), rfl, _, rfl, .inr (.inl ⟨b, _, _, .ref b1, rfl, rfl, SqT.of (sH2 _ _ eb), rfl, ?_⟩)⟩)⟩
      refine ⟨a1, b1, xs1, ys1, q.1, r.1, C, ok, rfl, .inr (sH2 _ _ e1), .inr (sH2 _ _ i1), DnAll.mono sH2 _ _ r1, DnAll.mono sH2 _ _ j1, fun n hn => ⟨zq.cq.1.1 n hn, zq.zw n hn⟩, fun n hn => ⟨zr.cq.1.1 n hn, zr.zw n hn⟩, by omega, by omega, few, by omega, fun Dw accW nW H3 h3 d3 l3 cn3 co3 s3 => ?_⟩
      refine ⟨_, rfl, Dw, rw_, accW, nW, kvs, ts, ok, rfl, .inl (SqL.of h3), d3, by omega, cn3, s3 _ _ d1, rt.move (fun _ h => h) (fun b xs _ e => s3 _ _ e) (Same.tups s3), kp, by omega, fun t ht => ⟨(hts t ht).1, by have := (hts t ht).2.1; omega, (hts t ht).2.2⟩, fun s a' H4 ds cs es1 es2 s4 => ?_⟩
      exact k s a' H4 ds cs ⟨fun j d => by rw [es1, co3], fun p j d => by rw [es2, con, total]⟩ (sH2.trans (s3.trans s4))
end
end N3

namespace N3
open PySem PySem.Spec PyProof.Rows L2 N2
/-! ### the law's menu of roots -/
def menuS : List Int := [-1, 2, 3, 1, -2, 5, 6, -3, 7, 10, -5, 30, 15, -6, 210, -1155, 999997, -999983]
def okS (d : Int) : Prop := d ∈ menuS
def sqOk1 (n : Nat) : Bool := (List.range 1001).all fun q => decide (q < 2) || decide (n % (q * q) ≠ 0)
theorem fit_mid {a : Int} (h0 : a ≠ 0) (h1 : a.natAbs ≤ 1000000) (h2 : sqOk1 a.natAbs = true) : Fit a := by
  refine ⟨h0, by omega, fun q hq d => ?_⟩
  have le := Nat.le_of_dvd (by omega) d
  have ql : q < 1001 := by
    rcases Nat.lt_or_ge q 1001 with c | c
    · exact c
    · have : 1001 * 1001 ≤ q * q := Nat.mul_le_mul c c
      omega
  have := List.all_eq_true.mp h2 q (List.mem_range.mpr ql)
  rw [Bool.or_eq_true, decide_eq_true_iff, decide_eq_true_iff] at this
  rcases this with h | h
  · omega
  · exact h (Nat.mod_eq_zero_of_dvd d)
theorem menuS_ok : menuS.all (fun a => decide (a ≠ 0) && decide (a.natAbs ≤ 1000000) && sqOk1 a.natAbs) = true := by decide +kernel
theorem okS_okd : OkD okS := by
  refine ⟨fun d hd => ?_, ?_⟩
  · have h := List.all_eq_true.mp menuS_ok d hd
    rw [Bool.and_eq_true, Bool.and_eq_true, decide_eq_true_iff, decide_eq_true_iff] at h
    exact ⟨fit_mid h.1.1 h.1.2 h.2, h.1.2⟩
  · exact few_of (ok := okS) (menu := menuS) fun d h => h
theorem okS_one : okS 1 := by unfold okS; decide
theorem nu_up {ok : Int → Prop} {C D : Nat} {n : Nm} (h : Nu ok C n) (k : C ≤ D) : Nu ok D n := ⟨h.1, fun x hx => let ⟨a, b, c⟩ := h.2 x hx; ⟨bit_up a k, b, bit_up c k⟩⟩
/-- a sum's parts -/
theorem nu_add {ok : Int → Prop} {C D : Nat} {n m s : Nm} (hn : Nu ok C n) (hm : Nu ok D m) (hC : 1 ≤ C) (hD : 1 ≤ D) (hs : CN ok s) (e : ∀ d, co s d = co n d + co m d) : Nu ok (C + D + 1) s :=
  ⟨hs, hs.sz fun z hz => by
    obtain ⟨t, b, b0, ec, bt, bb⟩ := Sz.co hn.1 hn.2 hC z.1
    obtain ⟨t', b', b0', ec', bt', bb'⟩ := Sz.co hm.1 hm.2 hD z.1
    refine ⟨t * b' + t' * b, b * b', Int.mul_ne_zero b0 b0', by rw [e, ec, ec', Rat.divInt_add_divInt _ _ b0 b0'], ?_, ?_⟩
    · exact add_bit (mul_bit bt bb') (by rw [Nat.add_comm]; exact mul_bit bt' bb)
    · exact bit_up (mul_bit bb bb') (by omega)⟩
def spLNum : Sp := fun vs H Q _ => ∃ (dk l : Addr), vs = [.ref dk] ∧ Deck H dk l ∧ ∀ (n : Nm) (r : Addr) (H' : Hp), Dn H' (.ref r) (encN n) → Nu okS 25 n → Deck H' dk l → Keep dk l H H' → Q (.ref r) H'
theorem pos_ne {H : Hp} {dk l p : Addr} {xs : List V} (D : Deck H dk l) (h : H p = some (.tup xs)) : p ≠ dk ∧ p ≠ l := ⟨(of_off (deck_tup D h)).1, (of_off (deck_tup D h)).2.1⟩
theorem dn_ints {H : Hp} : ∀ {is : List Int} {xs : List V}, DnAll H xs (is.map PyData.int) → xs = is.map V.int
  | [], _, h => by cases h; rfl
  | i :: is, _, h => by
    rw [List.map_cons] at h
    cases h with
    | cons a g => cases a; rw [dn_ints g]; rfl
theorem pick_k {K : PySem.W.Frag} {dk l : Addr} {H1 : Hp} {v : V} {is : List Int} {Q : VK} {E : XK} (D : Deck H1 dk l) (dv : Dn H1 v (.tuple (is.map PyData.int))) (ne : is ≠ []) (hl : is.length < 1000) (k : ∀ (z : Int) (H' : Hp), z ∈ is → Deck H' dk l → Keep dk l H1 H' → Q (.int z) H') : spPick K [.ref dk, v] H1 Q E := by
  obtain ⟨p, xs, rfl, e, g⟩ := dn_tupd dv
  have ex := dn_ints g
  subst ex
  obtain ⟨n1, n2⟩ := pos_ne D e
  refine ⟨dk, l, p, is.map V.int, rfl, D, .inr (SqT.of e), n1, n2, fun z => ne (List.map_eq_nil_iff.mp z), by rw [List.length_map]; omega, fun x H' hx D' kp => ?_⟩
  obtain ⟨z, hz, rfl⟩ := List.mem_map.mp hx
  exact k z H' hz D' kp
section
variable {P : Program} {w : World} {K : PySem.W.Frag} {mg : Str → Option Value} {base : Heap}
abbrev s__law_number : Stmt := top 70
abbrev nsLNu : List Str := ["deck", "way", "top", "found", "menu", "d", "bottom"]
theorem sc__law_number : FnScope nsLNu ["deck"] (defScope s__law_number) := ⟨rfl, rfl, rfl, by decide +kernel, rfl, by decide +kernel, by decide +kernel⟩
theorem ok__law_number {f f__law_draw f__law_pick f__law_fraction f__law_few f__law_plus f__law_by : Addr} {fd d__law_draw d__law_pick d__law_fraction d__law_few d__law_plus d__law_by : FuncData}  (F : Fun K "_law_number" "_law_number" s__law_number f fd) (T : Bt mg) (l_draw : Kn P w K mg base 1 "_law_draw" ["deck", "below"] spDraw f__law_draw d__law_draw) (l_pick : Kn P w K mg base 2 "_law_pick" ["deck", "some"] (spPick K) f__law_pick d__law_pick) (l_fraction : Kn P w K mg base 2 "_law_fraction" ["top", "bottom"] spFrac f__law_fraction d__law_fraction) (l_few : Kn P w K mg base 2 "_law_few" ["deck", "many", "menu"] (spFew K) f__law_few d__law_few) (l_plus : Kn P w K mg base 2 "_law_plus" ["one", "other"] spLPlus f__law_plus d__law_plus) (l_by : Kn P w K mg base 3 "_law_by" ["one", "other"] spLBy f__law_by d__law_by) : FnOk P w K mg base CX0 4 f fd ["deck"] spLNum := by
  refine F.ok sc__law_number (fun vs H Q E h => ?_) (fun cdv A outer s H vs Q E hr h => ?_)
  · obtain ⟨dk, l, rfl, _⟩ := h
    rfl
  · obtain ⟨dk, l, rfl, De, k⟩ := h
    refine ⟨_, pss_cons (ps_set (i := 1) sc__law_number.nd rfl (Or.inl rfl) (pe_call l_draw.ok (hr.mono (by decide)) rfl l_draw.mg l_draw.kp l_draw.bd .nil pass0 (pa_cons (pv 0) (pa_cons pe_int pa_nil))))
      (pss_cons (ps_if (pt_cmpR op_eq (pv 1) pe_int (nomark _))
        (pss_one (ps_ret (pe_tup pa_nil)))
        pss_nil)
      (pss_cons (ps_if (pt_cmpR op_eq (pv 1) pe_int (nomark _))
        (pss_cons (ps_set (i := 2) sc__law_number.nd rfl (Or.inl rfl) (pe_op op_add (pe_op op_mulW (pe_call l_draw.ok (hr.mono (by decide)) rfl l_draw.mg l_draw.kp l_draw.bd .nil pass0 (pa_cons (pv 0) (pa_cons pe_int pa_nil))) pe_int) (pe_call l_draw.ok (hr.mono (by decide)) rfl l_draw.mg l_draw.kp l_draw.bd .nil pass0 (pa_cons (pv 0) (pa_cons pe_int pa_nil)))))
        (pss_one (ps_ret (pe_call l_fraction.ok (hr.mono (by decide)) rfl l_fraction.mg l_fraction.kp l_fraction.bd .nil pass0 (pa_cons (pe_op op_mulW (pv 2) (pe_call l_pick.ok (hr.mono (by decide)) rfl l_pick.mg l_pick.kp l_pick.bd .nil pass0 (pa_cons (pv 0) (pa_cons (pk_tup (pka_cons pk_int (pka_cons pk_neg pka_nil))) pa_nil)))) (pa_cons (pe_op op_add (pe_op op_add pe_int (pe_op op_mulW (pe_call l_draw.ok (hr.mono (by decide)) rfl l_draw.mg l_draw.kp l_draw.bd .nil pass0 (pa_cons (pv 0) (pa_cons pe_int pa_nil))) pe_int)) (pe_call l_draw.ok (hr.mono (by decide)) rfl l_draw.mg l_draw.kp l_draw.bd .nil pass0 (pa_cons (pv 0) (pa_cons pe_int pa_nil)))) pa_nil))))))
        pss_nil)
      (pss_cons (ps_if (pt_cmpR op_lt (pv 1) pe_int (nomark _))
        (pss_one (ps_ret (pe_call l_fraction.ok (hr.mono (by decide)) rfl l_fraction.mg l_fraction.kp l_fraction.bd .nil pass0 (pa_cons (pe_op op_sub (pe_call l_draw.ok (hr.mono (by decide)) rfl l_draw.mg l_draw.kp l_draw.bd .nil pass0 (pa_cons (pv 0) (pa_cons pe_int pa_nil))) pe_int) (pa_cons (pe_call l_pick.ok (hr.mono (by decide)) rfl l_pick.mg l_pick.kp l_pick.bd .nil pass0 (pa_cons (pv 0) (pa_cons (pk_tup (pka_cons pk_int (pka_cons pk_int (pka_cons pk_int (pka_cons pk_int (pka_cons pk_int (pka_cons pk_int (pka_cons pk_int (pka_cons pk_int (pka_cons pk_int (pka_cons pk_int pka_nil))))))))))) pa_nil))) pa_nil)))))
        pss_nil)
      (pss_cons (ps_set (i := 3) sc__law_number.nd rfl (Or.inl rfl) (pe_tup pa_nil))
      (pss_cons (ps_set (i := 4) sc__law_number.nd rfl (Or.inl rfl) (pk_tup (pka_cons pk_neg (pka_cons pk_int (pka_cons pk_int (pka_cons pk_int (pka_cons pk_neg (pka_cons pk_int (pka_cons pk_int (pka_cons pk_neg (pka_cons pk_int (pka_cons pk_int (pka_cons pk_int (pka_cons pk_neg (pka_cons pk_int (pka_cons pk_int (pka_cons pk_neg (pka_cons pk_int (pka_cons pk_neg (pka_cons pk_int (pka_cons pk_neg pka_nil)))))))))))))))))))))
      (pss_cons (ps_for PassesOwn.never rfl (pi_list (pe_call l_few.ok (hr.mono (by decide)) rfl l_few.mg l_few.kp l_few.bd .nil pass0 (pa_cons (pv 0) (pa_cons (pe_op op_add pe_int (pe_call l_draw.ok (hr.mono (by decide)) rfl l_draw.mg l_draw.kp l_draw.bd .nil pass0 (pa_cons (pv 0) (pa_cons pe_int pa_nil)))) (pa_cons (pv 4) pa_nil))))) (pg_name (i := 5) sc__law_number.nd rfl (Or.inl rfl))
        (pss_cons (ps_par (i := 2) (j := 6) rfl sc__law_number.nd rfl rfl (by decide) rfl rfl (pa_cons (pe_op op_sub (pe_call l_draw.ok (hr.mono (by decide)) rfl l_draw.mg l_draw.kp l_draw.bd .nil pass0 (pa_cons (pv 0) (pa_cons pe_int pa_nil))) pe_int) (pa_cons (pe_op op_add pe_int (pe_call l_draw.ok (hr.mono (by decide)) rfl l_draw.mg l_draw.kp l_draw.bd .nil pass0 (pa_cons (pv 0) (pa_cons pe_int pa_nil)))) pa_nil)) (by rfl))
        (pss_one (ps_set (i := 3) sc__law_number.nd rfl (Or.inl rfl) (pe_call l_plus.ok (hr.mono (by decide)) rfl l_plus.mg l_plus.kp l_plus.bd .nil pass0 (pa_cons (pv 3) (pa_cons (pe_call l_by.ok (hr.mono (by decide)) rfl l_by.mg l_by.kp l_by.bd .nil pass0 (pa_cons (pe_call l_fraction.ok (hr.mono (by decide)) rfl l_fraction.mg l_fraction.kp l_fraction.bd .nil pass0 (pa_cons (pv 2) (pa_cons (pv 6) pa_nil))) (pa_cons (pe_tup (pa_cons (pe_tup (pa_cons (pv 5) (pa_cons pe_int (pa_cons pe_int pa_nil)))) pa_nil)) pa_nil))) pa_nil)))))))
      (pss_one (ps_ret (pv 3))))))))), ?_⟩
    have s1z : 1 ≤ sizeLine := by rw [sizeLine_eq]; decide
    have s2z : 2 ≤ sizeLine := by rw [sizeLine_eq]; decide
    have s3z : 3 ≤ sizeLine := by rw [sizeLine_eq]; decide
    have wm : ∀ {i j : Int}, i.natAbs < 2 ^ 60 → j.natAbs < 2 ^ 60 → CMulW i j := fun {i j} h k => by
      have := log_lt h
      have := log_lt k
      show i.natAbs.log2 + j.natAbs.log2 < 1000000
      omega
    have p60 : (2 : Nat) ^ 60 = 1152921504606846976 := rfl
    have p25 : (2 : Nat) ^ 25 = 33554432 := rfl
    refine ⟨_, rfl, dk, l, 10, rfl, De, by decide, by decide, fun way H1 r0 r1 D1 k1 => ?_⟩
    refine ⟨_, rfl, rfl, _, rfl, ite_b (fun c => ?_) (fun c => ?_)⟩
    · refine ⟨Nat.zero_le _, fun p hp => k [] p _ (.tup upd_same .nil) nu_nil (D1.same (snew hp)) (k1.trans (Keep.of (snew hp)))⟩
    refine ⟨_, rfl, rfl, _, rfl, ite_b (fun c2 => ?_) (fun c2 => ?_)⟩
    · refine ⟨_, rfl, dk, l, 10000, rfl, D1, by decide, by decide, fun x H2 x0 x1 D2 k2 => ⟨_, _, rfl, rfl, wm (by omega) (by decide), ?_⟩⟩
      refine ⟨_, rfl, dk, l, 1000, rfl, D2, by decide, by decide, fun y H3 y0 y1 D3 k3 => ⟨_, _, rfl, rfl, ?_⟩⟩
      refine ⟨_, rfl, _, rfl, fun v Hv sv dv => pick_k (E := E0) (is := [1, -1]) (D3.same sv) dv (by decide) (by decide) fun sg H4 hs D4 k4' => ?_⟩
      have k4 := (Keep.of sv).trans k4'
      have hsg : sg = 1 ∨ sg = -1 := by simpa using hs
      refine ⟨_, _, rfl, rfl, wm (by omega) (by omega), ?_⟩
      refine ⟨_, rfl, dk, l, 10000, rfl, D4, by decide, by decide, fun z H5 z0 z1 D5 k5 => ⟨_, _, rfl, rfl, wm (by omega) (by decide), _, _, rfl, rfl, ?_⟩⟩
      refine ⟨_, rfl, dk, l, 999, rfl, D5, by decide, by decide, fun u H6 u0 u1 D6 k6 => ⟨_, _, rfl, rfl, ?_⟩⟩
      have big : (33554432 : Nat) ≤ 2 ^ 8000 := by rw [← p25]; exact Nat.pow_le_pow_right (by decide) (by decide)
      have bs : (1 + z * 999 + u).natAbs < 33554432 := by omega
      refine ⟨_, _, rfl, by omega, Nat.lt_of_lt_of_le bs big, fun n a H7 dn fx s7 => ?_⟩
      refine k n a H7 dn ⟨fx.cn okS_one, fx.sz (by omega) (by rw [p25]; rcases hsg with rfl | rfl <;> omega) (by rw [p25]; exact bs)⟩ (D6.same s7) ((((((k1.trans k2).trans k3).trans k4).trans k5).trans k6).trans (Keep.of s7))
    refine ⟨_, rfl, _, _, rfl, rfl, _, rfl, ite_b (fun c3 => ?_) (fun c3 => ?_)⟩
    · refine ⟨_, rfl, dk, l, 25, rfl, D1, by decide, by decide, fun x H2 x0 x1 D2 k2 => ⟨_, _, rfl, rfl, ?_⟩⟩
      refine ⟨_, rfl, fun v Hv sv dv => pick_k (E := E0) (is := [1, 2, 3, 1, 4, 5, 1, 6, 12, 7]) (D2.same sv) dv (by decide) (by decide) fun bt H3 hs D3 k3' => ?_⟩
      have k3 := (Keep.of sv).trans k3'
      obtain ⟨b0, b1⟩ : 0 < bt ∧ bt ≤ 12 := by
        simp only [List.mem_cons, List.not_mem_nil, or_false] at hs
        rcases hs with rfl | rfl | rfl | rfl | rfl | rfl | rfl | rfl | rfl | rfl <;> exact ⟨by decide, by decide⟩
      refine ⟨_, _, rfl, b0, p8000 (by omega), fun n a H7 dn fx s7 => ?_⟩
      exact k n a H7 dn ⟨fx.cn okS_one, fx.sz (by omega) (by rw [p25]; omega) (by rw [p25]; omega)⟩ (D3.same s7) (((k1.trans k2).trans k3).trans (Keep.of s7))
    refine ⟨Nat.zero_le _, fun p0 hp0 => ?_⟩
    have s2 := snew (o := .tup []) hp0
    have f0 : Dn (upd H1 p0 (.tup [])) (.ref p0) (encN []) := .tup upd_same .nil
    intro v Hm sm dm
    obtain ⟨pm, xm, rfl, em, gm⟩ := dn_tupd dm
    have exm : xm = ([-1, 2, 3, 1, -2, 5, 6, -3, 7, 10, 1, -5, 30, 15, -6, 210, -1155, 999997, -999983] : List Int).map V.int := dn_ints (is := [-1, 2, 3, 1, -2, 5, 6, -3, 7, 10, 1, -5, 30, 15, -6, 210, -1155, 999997, -999983]) gm
    have f1 := Dn.mono sm _ _ f0
    have D2 := (D1.same s2).same sm
    have k2 := k1.trans (Keep.of (s2.trans sm))
    refine ⟨_, rfl, _, rfl, dk, l, 4, rfl, D2, by decide, by decide, fun r H3 x0 x1 D3 k3 => ⟨_, _, rfl, rfl, _, rfl, ?_⟩⟩
    have em3 := keep_tups D2 k3 _ _ em
    have f3 := tn_tups (keep_tups D2 k3) _ _ (encN_tn []) f1
    have tn : 1 + r = (((1 + r).toNat : Nat) : Int) := by omega
    obtain ⟨cnt, ecnt⟩ : ∃ c : Nat, 1 + r = (c : Int) := ⟨_, tn⟩
    refine ⟨dk, l, pm, cnt, xm, (by show [V.ref dk, V.int (1 + r), V.ref pm] = _; rw [ecnt]), D3, .inr (SqT.of em3), by rw [exm]; show cnt ≤ 19; omega, by rw [exm]; show 19 ≤ 1000; decide, fun q ys zs H4 pmm ly hq0 hq D4 k4 => ⟨q, rfl, ⟨_, SqL.of hq⟩, ?_⟩⟩
    have memS : ∀ y ∈ ys, ∃ d, y = .int d ∧ okS d := fun y hy => by
      have : y ∈ xm := pmm.mem_iff.mp (List.mem_append.mpr (.inl hy))
      rw [exm] at this
      obtain ⟨d, hd, rfl⟩ := List.mem_map.mp this
      refine ⟨d, rfl, ?_⟩
      have all : ∀ d ∈ ([-1, 2, 3, 1, -2, 5, 6, -3, 7, 10, 1, -5, 30, 15, -6, 210, -1155, 999997, -999983] : List Int), d ∈ menuS := by decide
      exact all d hd
    obtain ⟨nq1, nq2⟩ : q ≠ dk ∧ q ≠ l := ⟨fun z => D3.some1.1 (z ▸ hq0), fun z => D3.some1.2 (z ▸ hq0)⟩
    have f4 := tn_tups (keep_tups D3 k4) _ _ (encN_tn []) f3
    have k24 := (k2.trans k3).trans k4
    refine for_list (K := K) (a := q) (xs := ys) (fun i σ H' => ∃ (rf : Addr) (s : Nm) (x2 x4 x5 x6 : Option V), σ = [some (.ref dk), some (.int way), x2, some (.ref rf), x4, x5, x6] ∧ Dn H' (.ref rf) (encN s) ∧ Nu okS (6 * i + 1) s ∧ Deck H' dk l ∧ Keep dk l H4 H')
      ⟨p0, [], _, _, _, _, rfl, f4, nu_nil, D4, fun b o e _ _ => e⟩ (fun i σ H' _ ⟨_, _, _, _, _, _, _, _, _, _, kk⟩ => SqL.of (kk _ _ hq nq1 nq2)) ?_ ?_
    · rintro i y σ H5 hy ⟨rf, s, x2, x4, x5, x6, rfl, ds, ns_, D5, k5⟩
      obtain ⟨d, rfl, okd⟩ := memS y (List.mem_of_getElem? hy)
      have il : i < ys.length := (List.getElem?_eq_some_iff.mp hy).1
      refine ⟨_, rfl, dk, l, 19, rfl, D5, by decide, by decide, fun tp H6 t0 t1 D6 k6 => ⟨_, _, rfl, rfl, ?_⟩⟩
      refine ⟨_, rfl, dk, l, 6, rfl, D6, by decide, by decide, fun bt H7 b0 b1 D7 k7 => ⟨_, _, rfl, rfl, _, _, rfl, ?_⟩⟩
      have ds7 := tn_tups ((keep_tups D5 k6).trans (keep_tups D6 k7)) _ _ (encN_tn s) ds
      refine ⟨_, rfl, _, rfl, _, rfl, _, _, rfl, by omega, p8000 (by omega), fun fr af H8 df ff s8 => ?_⟩
      refine ⟨_, rfl, s3z, fun p1 hp1 => ⟨s1z, fun p2 hp2 => ?_⟩⟩
      have s9 := (snew (o := .tup [.int d, .int 1, .int 1]) hp1).trans (snew (o := .tup [.ref p1]) hp2)
      have d1 : Dn (upd (upd H8 p1 (.tup [.int d, .int 1, .int 1])) p2 (.tup [.ref p1])) (.ref p2) (encN [(d, 1, 1)]) := .tup upd_same (.cons (encT_dn ((snew hp2) _ _ upd_same)) .nil)
      have n1 : Nu okS 1 [(d, 1, 1)] := ⟨⟨fun x hx => by rw [List.mem_singleton.mp hx]; exact ⟨okd, by show (1 : Int) ≠ 0; decide, by show lowT 1 1 = true; decide⟩, fun i x y hx hy => by simp at hy⟩, fun x hx => by rw [List.mem_singleton.mp hx]; exact ⟨by show (1 : Int).natAbs < 2 ^ 1; decide, by show (1 : Int) ≠ 0; decide, by show (1 : Int).natAbs < 2 ^ 1; decide⟩⟩
      refine ⟨.ref af, .ref p2, fr, [(d, 1, 1)], tp - 9, 1 + bt, 1, 9, okS, rfl, Dn.mono s9 _ _ df, d1, ff, by omega, by show _ < 512; omega, by show _ < 512; omega, n1, okS_okd, by decide, by decide, fun m z H9 dz nz ez s10 => ?_⟩
      have n5 : Nu okS (1 + 4) m := nu_times n1 (by decide) (b := 1 + bt) (by omega) (by show _ < 16; omega) (by show _ < 16; omega) nz ez
      have i4 : i < 4 := by omega
      have s810 := s8.trans (s9.trans s10)
      refine ⟨.ref rf, .ref z, s, m, 30, okS, rfl, Dn.mono s810 _ _ ds7, dz, nu_up ns_ (by omega), nu_up n5 (by decide), by have := okS_okd.2 s ns_.1; omega, by have := okS_okd.2 m nz; omega, by decide, fun s' r' H10 ds' cs' es' s11 => ?_⟩
      exact ⟨r', s', _, _, _, _, rfl, ds', nu_up (nu_add ns_ n5 (by omega) (by decide) cs' es') (by omega), D7.same (s810.trans s11), ((k5.trans k6).trans k7).trans (Keep.of (s810.trans s11))⟩
    · rintro σ H5 ⟨rf, s, x2, x4, x5, x6, rfl, ds, ns_, D5, k5⟩
      exact ⟨_, rfl, k s rf H5 ds (nu_up ns_ (by omega)) D5 (k24.trans k5)⟩
end
end N3

namespace N3
open PySem PySem.Spec PyProof.Rows L2 N2
/-! ### the law's drawn poles, rows and quotients -/
def spLOne : Sp := fun vs H Q _ => ∃ (dk l : Addr), vs = [.ref dk] ∧ Deck H dk l ∧ ∀ (x : V) (H' : Hp), PlAt H' x → Deck H' dk l → Keep dk l H H' → Q x H'
def spLRowD : Sp := fun vs H Q _ => ∃ (dk l : Addr) (long : Int), vs = [.ref dk, .int long] ∧ Deck H dk l ∧ 0 ≤ long ∧ long ≤ 20 ∧
  ∀ (D : Addr) (acc : List V) (ns : List Nm) (H' : Hp), H' D = some (.lst acc) → DnAll H' acc (ns.map encN) → ns.length ≤ long.toNat → (∀ n ∈ ns, Nu okS 25 n) → D ≠ dk → D ≠ l → Deck H' dk l → Keep dk l H H' → Q (.ref D) H'
def spLQuot : Sp := fun vs H Q _ => ∃ (dk l pp : Addr) (xs : List V) (long whole : Int), vs = [.ref dk, .ref pp, .int long, .int whole] ∧ Deck H dk l ∧ H pp = some (.lst xs) ∧ pp ≠ dk ∧ pp ≠ l ∧ xs.length ≤ 10 ∧ (∀ x ∈ xs, PlAt H x) ∧ 0 ≤ long ∧ long ≤ 10 ∧ 0 ≤ whole ∧ whole ≤ 20 ∧
  ∀ (q : Qt) (r : Addr) (H' : Hp), Dn H' (.ref r) (encQ q) → QZ okS 25 whole.toNat long.toNat xs.length q → Deck H' dk l → Keep dk l H H' → Q (.ref r) H'
theorem spl_menu : ∀ p ∈ ([(0, 1), (1, 1), (-1, 1), (1, 2), (2, 1)] : List Pl), SPl p := by
  intro p hp
  simp only [List.mem_cons, List.not_mem_nil, or_false] at hp
  rcases hp with rfl | rfl | rfl | rfl | rfl <;> exact ⟨by decide, by decide, by decide, by show lowT _ _ = true; decide⟩
theorem pl_dn {H : Hp} {x : V} {p : Pl} (h : Dn H x (encPl p)) (hs : SPl p) : PlAt H x := by
  obtain ⟨ap, rfl, hap⟩ := dn_pl h
  exact ⟨ap, p, rfl, hap, hs⟩
section
variable {P : Program} {w : World} {K : PySem.W.Frag} {mg : Str → Option Value} {base : Heap}
abbrev s__law_one_pole : Stmt := top 71
theorem sc__law_one_pole : FnScope ["deck"] ["deck"] (defScope s__law_one_pole) := ⟨rfl, rfl, rfl, by decide +kernel, rfl, by decide +kernel, by decide +kernel⟩
theorem ok__law_one_pole {f f__law_draw f__law_pick f__law_pole : Addr} {fd d__law_draw d__law_pick d__law_pole : FuncData}  (F : Fun K "_law_one_pole" "_law_one_pole" s__law_one_pole f fd) (T : Bt mg) (l_draw : Kn P w K mg base 1 "_law_draw" ["deck", "below"] spDraw f__law_draw d__law_draw) (l_pick : Kn P w K mg base 2 "_law_pick" ["deck", "some"] (spPick K) f__law_pick d__law_pick) (l_pole : Kn P w K mg base 2 "_law_pole" ["top", "bottom"] spLPole f__law_pole d__law_pole) : FnOk P w K mg base CX0 3 f fd ["deck"] spLOne := by
  refine F.ok sc__law_one_pole (fun vs H Q E h => ?_) (fun cdv A outer s H vs Q E hr h => ?_)
  · obtain ⟨dk, l, rfl, _⟩ := h
    rfl
  · obtain ⟨dk, l, rfl, De, k⟩ := h
    refine ⟨_, pss_cons (ps_if (pt_cmpR op_eq (pe_call l_draw.ok (hr.mono (by decide)) rfl l_draw.mg l_draw.kp l_draw.bd .nil pass0 (pa_cons (pv 0) (pa_cons pe_int pa_nil))) pe_int (nomark _))
        (pss_one (ps_ret (pe_call l_pick.ok (hr.mono (by decide)) rfl l_pick.mg l_pick.kp l_pick.bd .nil pass0 (pa_cons (pv 0) (pa_cons (pk_tup (pka_cons (pk_tup (pka_cons pk_int (pka_cons pk_int pka_nil))) (pka_cons (pk_tup (pka_cons pk_int (pka_cons pk_int pka_nil))) (pka_cons (pk_tup (pka_cons pk_neg (pka_cons pk_int pka_nil))) (pka_cons (pk_tup (pka_cons pk_int (pka_cons pk_int pka_nil))) (pka_cons (pk_tup (pka_cons pk_int (pka_cons pk_int pka_nil))) pka_nil)))))) pa_nil)))))
        pss_nil)
      (pss_one (ps_ret (pe_call l_pole.ok (hr.mono (by decide)) rfl l_pole.mg l_pole.kp l_pole.bd .nil pass0 (pa_cons (pe_op op_sub (pe_call l_draw.ok (hr.mono (by decide)) rfl l_draw.mg l_draw.kp l_draw.bd .nil pass0 (pa_cons (pv 0) (pa_cons pe_int pa_nil))) pe_int) (pa_cons (pe_op op_add pe_int (pe_call l_draw.ok (hr.mono (by decide)) rfl l_draw.mg l_draw.kp l_draw.bd .nil pass0 (pa_cons (pv 0) (pa_cons pe_int pa_nil)))) pa_nil))))), ?_⟩
    refine ⟨_, rfl, dk, l, 2, rfl, De, by decide, by decide, fun r H1 r0 r1 D1 k1 => ?_⟩
    refine ⟨rfl, _, rfl, ite_b (fun c => ?_) (fun c => ?_)⟩
    · refine ⟨_, rfl, fun v Hv sv dv => ?_⟩
      obtain ⟨p, xs, rfl, e, g⟩ := dn_tupd dv
      have D2 := D1.same sv
      obtain ⟨n1, n2⟩ := pos_ne D2 e
      have lx : xs.length = 5 := g.length
      refine ⟨dk, l, p, xs, rfl, D2, .inr (SqT.of e), n1, n2, (fun z => by rw [z] at lx; cases lx), by omega, fun x H' hx D' kp => ?_⟩
      obtain ⟨j, hj⟩ := List.mem_iff_getElem?.mp hx
      obtain ⟨d, ed, dx⟩ := g.at_ hj
      have ed' : (([(0, 1), (1, 1), (-1, 1), (1, 2), (2, 1)] : List Pl).map encPl)[j]? = some d := ed
      rw [List.getElem?_map] at ed'
      obtain ⟨pl, epl, rfl⟩ := Option.map_eq_some_iff.mp ed'
      exact k x H' (pl_dn (tn_tups (keep_tups D2 kp) _ _ (encPl_tn pl) dx) (spl_menu pl (List.mem_of_getElem? epl))) D' (k1.trans ((Keep.of sv).trans kp))
    · refine ⟨_, rfl, dk, l, 41, rfl, D1, by decide, by decide, fun tp H2 t0 t1 D2 k2 => ⟨_, _, rfl, rfl, ?_⟩⟩
      refine ⟨_, rfl, dk, l, 20, rfl, D2, by decide, by decide, fun bt H3 b0 b1 D3 k3 => ⟨_, _, rfl, rfl, ?_⟩⟩
      refine ⟨_, _, rfl, by omega, p8000 (by omega), fun p t' b' hp ⟨e1, lo, le⟩ => ?_⟩
      have b1' := (low_pos lo).1
      refine k _ _ ⟨p, (t', b'), rfl, upd_same, ?_, b1', by show b' ≤ 20; omega, lo⟩ (D3.same (snew hp)) (((k1.trans k2).trans k3).trans (Keep.of (snew hp)))
      show t'.natAbs ≤ 20
      by_cases z : t' = 0
      · subst z; decide
      · have := (low_le lo z (B := 1 + bt) (T := tp - 20) (by omega) ((Rat.divInt_eq_divInt_iff (by omega) (by omega)).mpr e1)).1
        omega
abbrev s__law_row : Stmt := top 72
theorem sc__law_row : FnScope ["deck", "long", "turn"] ["deck", "long"] (defScope s__law_row) := ⟨rfl, rfl, rfl, by decide +kernel, rfl, by decide +kernel, by decide +kernel⟩
theorem ok__law_row {f f__law_draw f__law_number : Addr} {fd d__law_draw d__law_number : FuncData}  (F : Fun K "_law_row" "_law_row" s__law_row f fd) (T : Bt mg) (l_draw : Kn P w K mg base 1 "_law_draw" ["deck", "below"] spDraw f__law_draw d__law_draw) (l_number : Kn P w K mg base 4 "_law_number" ["deck"] spLNum f__law_number d__law_number) : FnOk P w K mg base CX0 5 f fd ["deck", "long"] spLRowD := by
  refine F.ok sc__law_row (fun vs H Q E h => ?_) (fun cdv A outer s H vs Q E hr h => ?_)
  · obtain ⟨dk, l, long, rfl, _⟩ := h
    rfl
  · obtain ⟨dk, l, long, rfl, De, l0, l1, k⟩ := h
    refine ⟨_, pss_one (ps_ret (pe_lc (own := [("turn", 2)]) (g := (gName 2)) (tt := tYes) rfl sc__law_row.nd (pi_range1 rfl T.range (pa_cons (pe_call l_draw.ok (hr.mono (by decide)) rfl l_draw.mg l_draw.kp l_draw.bd .nil pass0 (pa_cons (pv 0) (pa_cons (pe_op op_add (pv 1) pe_int) pa_nil))) pa_nil)) (blkOk_by (own := [("turn", 2)]) (N := ["deck", "long", "turn"]) (sc := defScope s__law_row) (by decide +kernel)) (fun _ _ _ _ _ => pg_name (i := 2) sc__law_row.nd rfl (Or.inl rfl)) (fun _ _ _ _ _ => pts_nil) (fun _ _ _ _ _ => (pe_call l_number.ok (hr.mono (by decide)) rfl l_number.mg l_number.kp l_number.bd .nil pass0 (pa_cons (pv 0) pa_nil))))), ?_⟩
    refine ⟨_, rfl, _, rfl, _, _, rfl, rfl, dk, l, _, rfl, De, by omega, by omega, fun r H1 r0 r1 D1 k1 => ⟨r, rfl, by omega, by omega, fun WD hWD => lc_numsU (φ := Nu okS 25) (lo := 0) (n := r.toNat) D1 hWD (by omega) (fun j H' Q' _ D' k' kk => ?_) fun accW nW H3 w1 w2 w3 w4 D3 k3 => ?_⟩⟩
    · exact ⟨_, rfl, dk, l, rfl, D', fun n r' H2 dn nn D2 k2 => kk r' n H2 dn nn D2 k2⟩
    · exact k WD accW nW H3 w1 w2 (by omega) w4 (fun z => D1.some1.1 (z ▸ hWD)) (fun z => D1.some1.2 (z ▸ hWD)) D3 (k1.trans k3)
abbrev s__law_quotient : Stmt := top 73
abbrev nsLQu : List Str := ["deck", "poles", "long", "whole", "tails", "pole", "row"]
theorem sc__law_quotient : FnScope nsLQu ["deck", "poles", "long", "whole"] (defScope s__law_quotient) := ⟨rfl, rfl, rfl, by decide +kernel, rfl, by decide +kernel, by decide +kernel⟩
theorem ok__law_quotient {f f__law_draw f__law_row f__law_shut : Addr} {fd d__law_draw d__law_row d__law_shut : FuncData}  (F : Fun K "_law_quotient" "_law_quotient" s__law_quotient f fd) (T : Bt mg) (l_draw : Kn P w K mg base 1 "_law_draw" ["deck", "below"] spDraw f__law_draw d__law_draw) (l_row : Kn P w K mg base 5 "_law_row" ["deck", "long"] spLRowD f__law_row d__law_row) (l_shut : Kn P w K mg base 3 "_law_shut" ["whole", "tails"] (spLShut K) f__law_shut d__law_shut) : FnOk P w K mg base CX0 6 f fd ["deck", "poles", "long", "whole"] spLQuot := by
  refine F.ok sc__law_quotient (fun vs H Q E h => ?_) (fun cdv A outer s H vs Q E hr h => ?_)
  · obtain ⟨dk, l, pp, xs, long, whole, rfl, _⟩ := h
    rfl
  · obtain ⟨dk, l, pp, xs, long, whole, rfl, De, hpp, p1, p2, p3, p4, o1, o2, d1, d2, k⟩ := h
    have hu := hu_of hr
    refine ⟨_, pss_cons (ps_set (i := 4) sc__law_quotient.nd rfl (Or.inl rfl) pe_dnewT)
      (pss_cons (ps_for PassesOwn.never rfl (pi_list (pv 1)) (pg_name (i := 5) sc__law_quotient.nd rfl (Or.inl rfl))
        (pss_one (ps_if (pt_cmpR op_gt (pe_call l_draw.ok (hr.mono (by decide)) rfl l_draw.mg l_draw.kp l_draw.bd .nil pass0 (pa_cons (pv 0) (pa_cons pe_int pa_nil))) pe_int (nomark _))
          (pss_one (ps_dput hu (pv 4) (pv 5) (pe_call l_row.ok (hr.mono (by decide)) rfl l_row.mg l_row.kp l_row.bd .nil pass0 (pa_cons (pv 0) (pa_cons (pv 2) pa_nil))) rfl))
          pss_nil)))
      (C8.pss_cut (ps_set (i := 6) sc__law_quotient.nd rfl (Or.inl rfl) (pe_ifExp (pt_cmpR op_gt (pe_call l_draw.ok (hr.mono (by decide)) rfl l_draw.mg l_draw.kp l_draw.bd .nil pass0 (pa_cons (pv 0) (pa_cons pe_int pa_nil))) pe_int (nomark _)) (pe_call l_row.ok (hr.mono (by decide)) rfl l_row.mg l_row.kp l_row.bd .nil pass0 (pa_cons (pv 0) (pa_cons (pv 3) pa_nil))) (pe_lst pa_nil)))
      (pss_one (ps_ret (pe_call l_shut.ok (hr.mono (by decide)) rfl l_shut.mg l_shut.kp l_shut.bd .nil pass0 (pa_cons (pv 6) (pa_cons (pv 4) pa_nil))))))), ?_⟩
    have na : ∀ {H' : Hp} {b : Addr}, Deck H' dk l → H' b = none → b ≠ dk ∧ b ≠ l := fun D h => ⟨fun z => D.some1.1 (z ▸ h), fun z => D.some1.2 (z ▸ h)⟩
    intro rw_ hrw
    obtain ⟨nr1, nr2⟩ := na De hrw
    have s0 := snew (o := .dT []) hrw
    have D0 := De.same s0
    have er0 : upd H rw_ (.dT []) rw_ = some (.dT []) := upd_same
    have hpp0 := s0 _ _ hpp
    obtain ⟨H0, eH0⟩ : ∃ H0, upd H rw_ (.dT []) = H0 := ⟨_, rfl⟩
    rw [eH0] at s0 D0 er0 hpp0 ⊢
    refine ⟨_, rfl, pp, rfl, ⟨_, SqL.of hpp0⟩, for_list (K := K) (a := pp) (xs := xs) (fun i σ H' => ∃ (x5 : Option V) (kvs : List (List L2.Key × V)) (ts : List Tl), σ = [some (.ref dk), some (.ref pp), some (.int long), some (.int whole), some (.ref rw_), x5, none] ∧ H' rw_ = some (.dT kvs) ∧ ts.length ≤ i ∧ RwT (fun b => b ≠ dk ∧ b ≠ l) H' kvs ts ∧ Kp ts ∧ (∀ t ∈ ts, SPl t.1 ∧ t.2.length ≤ long.toNat ∧ ∀ n ∈ t.2, Nu okS 25 n) ∧ Deck H' dk l ∧ TupS H0 H' ∧
        ∀ b o, H0 b = some o → b ≠ dk → b ≠ l → b ≠ rw_ → H' b = some o)
      ⟨none, [], [], rfl, er0, Nat.le_refl _, .nil, List.nodup_nil, fun p hp => absurd hp (by simp), D0, fun b ys e => e, fun b o e _ _ _ => e⟩ (fun i σ H' _ ⟨_, _, _, _, _, _, _, _, _, _, _, kk⟩ => SqL.of (kk _ _ hpp0 p1 p2 (ne_of hpp0 er0 (by intro z; cases z)))) ?_ ?_⟩
    · rintro i x σ H' hx ⟨x5, kvs, ts, rfl, e1, lk, rt, kp, hk, D', tu, kk⟩
      obtain ⟨ap, pl, rfl, hap, hs⟩ := p4 x (List.mem_of_getElem? hx)
      have hap0 := s0 _ _ hap
      have il := (List.getElem?_eq_some_iff.mp hx).1
      refine ⟨_, rfl, dk, l, 5, rfl, D', by decide, by decide, fun mny H4 b0 b1 D4 k4 => ?_⟩
      have e4 := k4 _ _ e1 nr1 nr2
      have tk4 := keep_tups D' k4
      have tu4 := tu.trans tk4
      have rt4 : RwT (fun b => b ≠ dk ∧ b ≠ l) H4 kvs ts := rt.move (fun _ h => h) (fun b xs g e => k4 _ _ e g.1 g.2) tk4
      refine ⟨_, _, rfl, rfl, _, rfl, ite_b (fun c => ?_) (fun c => ?_)⟩
      · refine ⟨_, rfl, _, rfl, dk, l, long, rfl, D4, o1, by omega, fun RD accR nR H5 v1 v2 v3 v4 nd1 nd2 D5 k5 => ?_⟩
        have e5 := k5 _ _ e4 nr1 nr2
        have tk5 := keep_tups D4 k5
        have tu5 := tu4.trans tk5
        have rt5 : RwT (fun b => b ≠ dk ∧ b ≠ l) H5 kvs ts := rt4.move (fun _ h => h) (fun b xs g e => k5 _ _ e g.1 g.2) tk5
        refine ⟨_, rfl, _, rfl, rw_, _, rfl, DPut.t (k := kyP pl) e5 (tu5 _ _ hap0) (by rw [rt.length]; exact small1000 (by omega)), ?_⟩
        have rt6 := (rt5.put (p := pl) (b := RD) (acc := accR) (n := nR) ⟨nd1, nd2⟩ v1 v2).move (G' := fun b => b ≠ dk ∧ b ≠ l) (H' := upd H5 rw_ (.dT (putK kvs (kyP pl) (.ref RD)))) (fun _ h => h) (fun b xs g e => by rw [upd_ne (ne_of e e5 (by intro z; cases z))]; exact e) (dt_tups e5)
        refine ⟨_, _, putR ts pl nR, rfl, upd_same, ?_, rt6, putR_kp kp, fun q hq => ?_, deck_upd D5 nr1 nr2, tu5.trans (dt_tups e5), fun b o e n1 n2 n3 => ?_⟩
        · have := putR_len (ts := ts) (p := pl) (n := nR)
          omega
        · rcases putR_mem hq with rfl | hq
          · exact ⟨hs, v3, v4⟩
          · exact hk q hq
        · rw [upd_ne n3]
          exact k5 _ _ (k4 _ _ (kk b o e n1 n2 n3) n1 n2) n1 n2
      · exact ⟨_, kvs, ts, rfl, e4, by omega, rt4, kp, hk, D4, tu4, fun b o e n1 n2 n3 => k4 _ _ (kk b o e n1 n2 n3) n1 n2⟩
    · rintro σ H' ⟨x5, kvs, ts, rfl, e1, lk, rt, kp, hk, D', tu, kk⟩
      refine ⟨fun σ' H2 => ∃ (RD : Addr) (accW : List V) (nW : List Nm), σ' = [some (.ref dk), some (.ref pp), some (.int long), some (.int whole), some (.ref rw_), x5, some (.ref RD)] ∧ H2 RD = some (.lst accW) ∧ DnAll H2 accW (nW.map encN) ∧ nW.length ≤ whole.toNat ∧ (∀ n ∈ nW, Nu okS 25 n) ∧ Deck H2 dk l ∧ Keep dk l H' H2, ?_, ?_⟩
      · refine ⟨_, rfl, dk, l, 3, rfl, D', by decide, by decide, fun mny H4 b0 b1 D4 k4 => ?_⟩
        refine ⟨_, _, rfl, rfl, _, rfl, ite_b (fun c => ?_) (fun c => ?_)⟩
        · refine ⟨_, rfl, _, rfl, dk, l, whole, rfl, D4, d1, by omega, fun RD accR nR H5 v1 v2 v3 v4 nd1 nd2 D5 k5 => ?_⟩
          exact ⟨RD, accR, nR, rfl, v1, v2, v3, v4, D5, k4.trans k5⟩
        · exact ⟨Nat.zero_le _, fun RD hRD => ⟨RD, [], [], rfl, upd_same, .nil, Nat.zero_le _, fun n hn => by simp at hn, D4.same (snew hRD), k4.trans (Keep.of (snew hRD))⟩⟩
      rintro σ' H2 ⟨RD, accW, nW, rfl, w1, w2, w3, w4, D2, k2⟩
      have tk2 := keep_tups D' k2
      refine ⟨_, rfl, _, rfl, RD, rw_, accW, nW, kvs, ts, okS, rfl, .inl (SqL.of w1), w2, by omega, fun n hn => (w4 n hn).1, k2 _ _ e1 nr1 nr2, rt.move (fun _ _ => trivial) (fun b xs g e => k2 _ _ e g.1 g.2) tk2, kp, by omega, fun t ht => ⟨(hk t ht).1, by have := (hk t ht).2.1; omega, fun n hn => ((hk t ht).2.2 n hn).1⟩, fun q r' H5 dv cq e1' e2' s5 => ?_⟩
      refine k q r' H5 dv (qz_told cq e1' e2' w3 w4 (by omega) hk (by decide)) (D2.same s5) fun b o e n1 n2 => ?_
      exact s5 _ _ (k2 _ _ (kk b o (s0 _ _ e) n1 n2 (ne_of_none e hrw)) n1 n2)
end
end N3

namespace N3
open PySem PySem.Spec PyProof.Rows L2 N2
/-! ### writings -/
def encPw (x : Pl × Nm) : PyData := .tuple [encPl x.1, encN x.2]
theorem encPw_tn (x : Pl × Nm) : Tn (encPw x) := .tup fun d hd => by
  simp only [List.mem_cons, List.not_mem_nil, or_false] at hd
  rcases hd with rfl | rfl
  · exact encPl_tn _
  · exact encN_tn _
/-- the numbers at 1 / (x - c) that are not 0 -/
def pwOf : List Tl → List (Pl × Nm)
  | [] => []
  | t :: L => (if t.2.getD 0 [] = [] then [] else [(t.1, t.2.getD 0 [])]) ++ pwOf L
theorem pwOf_app : ∀ (L M : List Tl), pwOf (L ++ M) = pwOf L ++ pwOf M
  | [], M => rfl
  | t :: L, M => by
    show _ ++ pwOf (L ++ M) = (_ ++ pwOf L) ++ pwOf M
    rw [pwOf_app L M, List.append_assoc]
theorem pwOf_take {L : List Tl} {i : Nat} {t : Tl} (h : L[i]? = some t) : pwOf (L.take (i + 1)) = pwOf (L.take i) ++ (if t.2.getD 0 [] = [] then [] else [(t.1, t.2.getD 0 [])]) := by
  rw [List.take_add_one, h, pwOf_app]
  show _ ++ (_ ++ []) = _
  rw [List.append_nil]
def pqT (pw : List (Pl × Nm)) : List Tl := pw.map fun x => (x.1, [x.2])
def pqOf (pw : List (Pl × Nm)) : Qt := ([], pqT pw)
/-- the quotient whose slope is the rest -/
def QInt (q g : Qt) : Prop := (∀ d, cr g.1 0 d = 0) ∧ (∀ (k : Nat) d, cr g.1 (k + 1) d = Rat.divInt 1 ((k : Int) + 1) * cr q.1 k d) ∧ ∀ p (k : Nat) d, cr (tl g.2 p) k d = Rat.divInt (-1) ((k : Int) + 1) * cr (tl q.2 p) (k + 1) d
def spPowOf : Sp := fun vs H Q _ => ∃ (u : V) (q : Qt), vs = [u] ∧ Dn H u (encQ q) ∧ q.2.length ≤ 400 ∧ (∀ t ∈ q.2, t.2 ≠ []) ∧
  ∀ (a : Addr) (H' : Hp), Dn H' (.ref a) (.tuple ((pwOf q.2).map encPw)) → Same H H' → Q (.ref a) H'
def spIRow : Sp := fun vs H Q _ => ∃ (u : V) (r : List Nm) (C L : Nat) (ok : Int → Prop), vs = [u] ∧ Dn H u (encR r) ∧ RZ ok C r ∧ Few ok L ∧ 1 ≤ C ∧ L < 64 ∧ L * (C + 10) ≤ 7900 ∧ C + 10 ≤ 7900 ∧
  ∀ (t : List Nm) (a : Addr) (H' : Hp), Dn H' (.ref a) (encR t) → CR ok t → t.length = r.length - 1 → (∀ (k : Nat) d, cr t k d = Rat.divInt (-1) ((k : Int) + 1) * cr r (k + 1) d) → Same H H' → Q (.ref a) H'
def spIWhole : Sp := fun vs H Q _ => ∃ (u : V) (r : List Nm) (C L : Nat) (ok : Int → Prop), vs = [u] ∧ Dn H u (encR r) ∧ RZ ok C r ∧ Few ok L ∧ 1 ≤ C ∧ L < 64 ∧ L * (C + 10) ≤ 7900 ∧ C + 10 ≤ 7900 ∧
  ∀ (t : List Nm) (a : Addr) (H' : Hp), Dn H' (.ref a) (encR t) → CR ok t → (∀ d, cr t 0 d = 0) → (∀ (k : Nat) d, cr t (k + 1) d = Rat.divInt 1 ((k : Int) + 1) * cr r k d) → Same H H' → Q (.ref a) H'
def spIOf : Sp := fun vs H Q _ => ∃ (u : V) (q : Qt) (C L : Nat) (ok : Int → Prop), vs = [u] ∧ Dn H u (encQ q) ∧ QZ ok C 20 10 10 q ∧ Few ok L ∧ 1 ≤ C ∧ L < 64 ∧ L * (C + 10) ≤ 7900 ∧ C + 10 ≤ 7900 ∧
  ∀ (g : Qt) (a : Addr) (H' : Hp), Dn H' (.ref a) (encQ g) → CQ ok g → QInt q g → Same H H' → Q (.ref a) H'
def spWriting : Sp := fun vs H Q _ => ∃ (u : V) (q : Qt) (C : Nat) (ok : Int → Prop), vs = [u] ∧ Dn H u (encQ q) ∧ QZ ok C 20 10 10 q ∧ OkD ok ∧ 1 ≤ C ∧ C ≤ 60 ∧
  ∀ (g : Qt) (a : Addr) (H' : Hp), Dn H' (.ref a) (.tuple [.tuple ((pwOf q.2).map encPw), encQ g]) → CQ ok g → QInt q g → Same H H' → Q (.ref a) H'
section
variable {P : Program} {w : World} {K : PySem.W.Frag} {mg : Str → Option Value} {base : Heap}
abbrev s_powers_of : Stmt := top 45
abbrev nsPow : List Str := ["quotient", "c", "row"]
theorem sc_powers_of : FnScope nsPow ["quotient"] (defScope s_powers_of) := ⟨rfl, rfl, rfl, by decide +kernel, rfl, by decide +kernel, by decide +kernel⟩
theorem ok_powers_of {f  : Addr} {fd  : FuncData}  (F : Fun K "powers_of" "powers_of" s_powers_of f fd) (T : Bt mg)  : FnOk P w K mg base CX0 1 f fd ["quotient"] spPowOf := by
  refine F.ok sc_powers_of (fun vs H Q E h => ?_) (fun cdv A outer s H vs Q E hr h => ?_)
  · obtain ⟨u, q, rfl, _⟩ := h
    rfl
  · obtain ⟨u, q, rfl, hu, hl, ne, k⟩ := h
    refine ⟨_, pss_one (ps_ret (pe_callTy call_tuple_of (by rfl) T.tuple (by decide +kernel) (pa_cons (pe_lc (own := [("c", 1), ("row", 2)]) (g := (gTup K 2 (gCons (gName 1) (gCons (gName 2) gNil)))) (tt := _) rfl sc_powers_of.nd (pi_tup (pe_ix (r := rIx K) ix_seq (pv 0) pe_int (fun _ _ => rfl))) (blkOk_by (own := [("c", 1), ("row", 2)]) (N := nsPow) (sc := defScope s_powers_of) (by decide +kernel)) (fun _ _ _ _ _ => pg_tup rfl (pgs_cons (pg_name (i := 1) sc_powers_of.nd rfl (Or.inl rfl)) (pgs_cons (pg_name (i := 2) sc_powers_of.nd rfl (Or.inl rfl)) pgs_nil))) (fun _ _ _ _ _ => pts_one (pt_cmpR (op_neDK (K := K) rfl hr.units) (pe_ix (r := rIx K) ix_seq (pv 2) pe_int (fun _ _ => rfl)) (pe_tup pa_nil) (nomark _))) (fun _ _ _ _ _ => (pe_tup (pa_cons (pv 1) (pa_cons (pe_ix (r := rIx K) ix_seq (pv 2) pe_int (fun _ _ => rfl)) pa_nil))))) pa_nil))), ?_⟩
    have s2z : 2 ≤ sizeLine := by rw [sizeLine_eq]; decide
    obtain ⟨a, v1, v2, rfl, ea, d1, d2⟩ := dn_pair hu
    obtain ⟨a2, xs, rfl, e2, r2⟩ := dn_t d2
    have lx : xs.length = q.2.length := by rw [r2.length, List.length_map]
    refine ⟨_, rfl, .inr (.inl ⟨a, _, _, _, rfl, rfl, SqT.of ea, rfl, a2, rfl, ⟨_, SqT.of e2⟩, fun D hD => lc_tup (K := K) (a := a2) (xs := xs) (fun i H' => ∃ acc, H' D = some (.lst acc) ∧ DnAll H' acc ((pwOf (q.2.take i)).map encPw) ∧ acc.length ≤ i ∧ Same H H')
      ⟨[], upd_same, .nil, Nat.le_refl _, snew hD⟩ (fun i H' _ ⟨_, _, _, _, s'⟩ => SqT.of (s' _ _ e2)) ?_ ?_⟩)⟩
    · rintro i x H1 hx ⟨acc, h1, da, la, s1⟩
      obtain ⟨t, ax, p1, rv, et, rfl, hax, dr, dp⟩ := dn_rows r2 i x hx
      obtain ⟨ap, rfl, hap⟩ := dn_pl dp
      obtain ⟨ar, ys, rfl, har, rr⟩ := dn_t dr
      have il : i < q.2.length := (List.getElem?_eq_some_iff.mp et).1
      have ht := List.mem_of_getElem? et
      have l0 := List.length_pos_iff.mpr (ne t ht)
      obtain ⟨n, en⟩ : ∃ n, t.2[0]? = some n := ⟨_, List.getElem?_eq_getElem l0⟩
      have egn : t.2.getD 0 [] = n := getD_at en
      obtain ⟨y, ey, dy⟩ := row_at rr en
      have har1 : ∀ {H'}, Same H1 H' → SqT K H' ar ys := fun s' => SqT.of (s' _ _ (s1 _ _ har))
      refine ⟨ax, _, rfl, SqT.of (s1 _ _ hax), rfl, _, _, rfl, _, _, rfl, rfl, rfl, ?_⟩
      refine ⟨_, rfl, .inr (.inl ⟨ar, ys, _, y, rfl, rfl, har1 (Same.refl _), atI_nat (j := 0) ey, Nat.zero_le _, fun p0 hp0 => ⟨encN n, .tuple [], tn_dp _ _ (encN_tn n) (Dn.mono (s1.trans (snew hp0)) _ _ dy), .tup (SqT.of upd_same) .nil, encN_shaped n, rfl, _, rfl, ?_⟩⟩)⟩
      rw [eqv_nil_d (encN_tn n)]
      have s0 := snew (o := .tup []) hp0
      have tkp := pwOf_take et
      rw [egn] at tkp
      refine ite_b (fun c => ?_) (fun c => ?_)
      · have nn : n ≠ [] := fun z => by
          rw [z] at c
          cases c
        refine ⟨_, rfl, _, rfl, .inr (.inl ⟨ar, ys, _, y, rfl, rfl, har1 s0, atI_nat (j := 0) ey, s2z, fun p2 hp2 => ?_⟩)⟩
        have s2 := s0.trans (snew (o := .tup [.ref ap, y]) hp2)
        have h2 := s2 _ _ h1
        have tp := lst_tups (o := .lst (acc ++ [.ref p2])) h2
        refine ⟨acc, h2, small1000 (by omega), acc ++ [.ref p2], upd_same, ?_, by rw [List.length_append]; show _ + 1 ≤ _; omega, fun b o e => ?_⟩
        · rw [tkp, if_neg nn, List.map_append]
          refine DnAll.app (tnA_tups ((Same.tups s2).trans tp) _ _ (tn_maps encPw_tn _) da) (.cons ?_ .nil)
          exact .tup (tp _ _ upd_same) (.cons (tn_tups ((Same.tups (s1.trans s2)).trans tp) _ _ (encPl_tn _) dp) (.cons (tn_tups ((Same.tups (s1.trans s2)).trans tp) _ _ (encN_tn _) dy) .nil))
        · rw [upd_ne (ne_of_none e hD)]
          exact s2 _ _ (s1 _ _ e)
      · have nn : n = [] := by
          cases n with
          | nil => rfl
          | cons _ _ => cases c
        refine ⟨acc, s0 _ _ h1, ?_, by omega, s1.trans s0⟩
        rw [tkp, if_pos nn, List.append_nil]
        exact DnAll.mono s0 _ _ da
    · rintro H1 ⟨acc, h1, da, la, s1⟩
      rw [lx, List.take_length] at da
      refine ⟨D, acc, rfl, .inl ⟨SqL.of h1, fun r hr' => ?_⟩⟩
      exact k r _ (.tup upd_same (DnAll.mono (snew hr') _ _ da)) (s1.trans (snew hr'))
abbrev s_integral_row : Stmt := top 46
abbrev nsIRo : List Str := ["row", "k"]
theorem sc_integral_row : FnScope nsIRo ["row"] (defScope s_integral_row) := ⟨rfl, rfl, rfl, by decide +kernel, rfl, by decide +kernel, by decide +kernel⟩
theorem ok_integral_row {f f_scaled : Addr} {fd d_scaled : FuncData}  (F : Fun K "integral_row" "integral_row" s_integral_row f fd) (T : Bt mg) (p_scaled : Kn P w K mg base 4 "scaled" ["number", "top", "bottom"] spScaled f_scaled d_scaled) : FnOk P w K mg base CX0 5 f fd ["row"] spIRow := by
  refine F.ok sc_integral_row (fun vs H Q E h => ?_) (fun cdv A outer s H vs Q E hr h => ?_)
  · obtain ⟨u, r, C, L, ok, rfl, _⟩ := h
    rfl
  · obtain ⟨u, r, C, L, ok, rfl, hu, hr_, few, c1, l64, lt, cw, k⟩ := h
    refine ⟨_, pss_one (ps_ret (pe_callTy call_tuple_of (by rfl) T.tuple (by decide +kernel) (pa_cons (pe_lc (own := [("k", 1)]) (g := (gName 1)) (tt := tYes) rfl sc_integral_row.nd (pi_range2 rfl T.range (pa_cons pe_int (pa_cons (pe_callB call_len (by rfl) T.len PySem.boot_len (pa_cons (pv 0) pa_nil)) pa_nil))) (blkOk_by (own := [("k", 1)]) (N := nsIRo) (sc := defScope s_integral_row) (by decide +kernel)) (fun _ _ _ _ _ => pg_name (i := 1) sc_integral_row.nd rfl (Or.inl rfl)) (fun _ _ _ _ _ => pts_nil) (fun _ _ _ _ _ => (pe_call p_scaled.ok (hr.mono (by decide)) rfl p_scaled.mg p_scaled.kp p_scaled.bd .nil pass0 (pa_cons (pe_ix (r := rIx K) ix_seq (pv 0) (pv 1) (fun _ _ => rfl)) (pa_cons (pe_un un_neg pe_int) (pa_cons (pv 1) pa_nil)))))) pa_nil))), ?_⟩
    obtain ⟨a, xs, rfl, ea, ra⟩ := dn_R hu
    have la : xs.length = r.length := by rw [ra.length, List.length_map]
    have l1 := hr_.2.2
    refine ⟨_, rfl, .ref a, xs.length, rfl, .inr ⟨xs, SqT.of ea, rfl⟩, ?_⟩
    refine ⟨1, _, rfl, ⟨by decide, by decide, by omega, by omega⟩, fun D hD => lc_enc (enc := encN) encN_tn (walk_range (lo := 1) (n := ((xs.length : Int) - 1).toNat)) (fun _ _ => trivial) (fun j m => CN ok m ∧ ∀ d, co m d = Rat.divInt (-1) ((j : Int) + 1) * cr r (j + 1) d) (by omega) hD (fun j x H2 H3 Q' hj s2 y kk => ?_) fun acc ns H2 e2 dn2 ln hn s2 => ?_⟩
    · obtain ⟨rfl, rfl⟩ := y
      obtain ⟨n, en⟩ : ∃ n, r[j + 1]? = some n := ⟨_, List.getElem?_eq_getElem (by omega)⟩
      obtain ⟨x, ex, dx⟩ := row_at ra en
      have ei : (1 : Int) + (j : Int) = ((j + 1 : Nat) : Int) := by omega
      refine ⟨rfl, _, rfl, _, rfl, .inr (.inl ⟨a, xs, _, x, rfl, rfl, SqT.of (s2 _ _ ea), by rw [ei]; exact atI_nat ex, _, rfl, _, rfl, ?_⟩)⟩
      refine ⟨x, n, -1, _, C, 9, L, ok, rfl, Dn.mono s2 _ _ dx, hr_.nu (List.mem_of_getElem? en), few, c1, by decide, by omega, by show _ < 512; omega, l64, by rw [show C + 9 + 1 = C + 10 by omega]; exact lt, by omega, fun m z H4 dz nz ez s4 => ?_⟩
      refine kk _ m H4 dz ⟨nz.1, fun d => ?_⟩ s4
      unfold cr
      rw [ez, getD_at en, Int.add_comm]
    · refine ⟨D, acc, rfl, .inl ⟨SqL.of e2, fun q hq => ?_⟩⟩
      have sq := snew (o := .tup acc) hq
      have lnr : ns.length = r.length - 1 := by omega
      have crn : ∀ (j : Nat) d, cr ns j d = Rat.divInt (-1) ((j : Int) + 1) * cr r (j + 1) d := fun j d => by
        rcases Nat.lt_or_ge j ns.length with c | c
        · show co (ns.getD j []) d = _
          rw [getD_at (List.getElem?_eq_getElem c)]
          exact (hn j _ (List.getElem?_eq_getElem c)).2 d
        · rw [cr_off c, cr_off (by omega), Rat.mul_zero]
      refine k ns q _ (.tup upd_same (DnAll.mono sq _ _ dn2)) ⟨fun n hn' => ?_, fun z => ?_⟩ lnr crn (s2.trans sq)
      · obtain ⟨j, hj⟩ := List.mem_iff_getElem?.mp hn'
        exact (hn j n hj).1
      · have l0 : 0 < ns.length := by
          rcases Nat.eq_zero_or_pos ns.length with h | h
          · rw [List.length_eq_zero_iff.mp h] at z; cases z
          · exact h
        obtain ⟨d, hd⟩ := cr_last hr_.1 (fun e => by rw [e] at lnr; have : ns.length = 0 := lnr; omega)
        have e1 := crn (ns.length - 1) d
        rw [show ns.length - 1 + 1 = r.length - 1 by omega] at e1
        have e2' : cr ns (ns.length - 1) d = 0 := by
          rw [List.getLast?_eq_getElem?] at z
          unfold cr
          rw [getD_at z]
          rfl
        rw [e2'] at e1
        rcases Rat.mul_eq_zero.mp e1.symm with h | h
        · exact frac_ne (by omega) (by decide) h
        · exact hd h
end
end N3

namespace N3
open PySem PySem.Spec PyProof.Rows L2 N2
/-! ### writings: wholes, all rows, the whole pair -/
theorem catA_raw {K : PySem.W.Frag} {H : Hp} {a b : Addr} {xs ys : List V} {Q : VK} (ha : H a = some (.tup xs)) (hb : H b = some (.tup ys)) (hz : xs.length + ys.length ≤ 1000) (k : ∀ (p : Addr) (H' : Hp), H' p = some (.tup (xs ++ ys)) → Same H H' → Q (.ref p) H') : rCatA K (.ref a) (.ref b) H Q := by
  refine ⟨a, b, xs, ys, rfl, rfl, SqT.of ha, SqT.of hb, Nat.le_of_lt (small1000 (by omega)), fun e => ?_, fun _ e => ?_, fun _ _ p hp => k p _ upd_same (snew hp)⟩
  · subst e; exact k b H hb (Same.refl _)
  · subst e; rw [List.append_nil] at k; exact k a H ha (Same.refl _)
section
variable {P : Program} {w : World} {K : PySem.W.Frag} {mg : Str → Option Value} {base : Heap}
abbrev s_integral_whole : Stmt := top 47
abbrev nsIWh : List Str := ["whole", "k", "number"]
theorem sc_integral_whole : FnScope nsIWh ["whole"] (defScope s_integral_whole) := ⟨rfl, rfl, rfl, by decide +kernel, rfl, by decide +kernel, by decide +kernel⟩
theorem ok_integral_whole {f f_scaled : Addr} {fd d_scaled : FuncData}  (F : Fun K "integral_whole" "integral_whole" s_integral_whole f fd) (T : Bt mg) (p_scaled : Kn P w K mg base 4 "scaled" ["number", "top", "bottom"] spScaled f_scaled d_scaled) : FnOk P w K mg base CX0 5 f fd ["whole"] spIWhole := by
  refine F.ok sc_integral_whole (fun vs H Q E h => ?_) (fun cdv A outer s H vs Q E hr h => ?_)
  · obtain ⟨u, r, C, L, ok, rfl, _⟩ := h
    rfl
  · obtain ⟨u, r, C, L, ok, rfl, hu0, hr_, few, c1, l64, lt, cw, k⟩ := h
    refine ⟨_, pss_one (ps_ret (pe_ifExp (pt_cmpR (op_neD hr.units) (pv 0) (pe_tup pa_nil) (nomark _)) (pe_op op_catA (pe_tup (pa_cons (pe_tup pa_nil) pa_nil)) (pe_callTy call_tuple_of (by rfl) T.tuple (by decide +kernel) (pa_cons (pe_lc (own := [("k", 1), ("number", 2)]) (g := (gTup K 2 (gCons (gName 1) (gCons (gName 2) gNil)))) (tt := tYes) rfl sc_integral_whole.nd (pi_enumA (by rfl) T.enum (pa_cons (pv 0) pa_nil)) (blkOk_by (own := [("k", 1), ("number", 2)]) (N := nsIWh) (sc := defScope s_integral_whole) (by decide +kernel)) (fun _ _ _ _ _ => pg_tup rfl (pgs_cons (pg_name (i := 1) sc_integral_whole.nd rfl (Or.inl rfl)) (pgs_cons (pg_name (i := 2) sc_integral_whole.nd rfl (Or.inl rfl)) pgs_nil))) (fun _ _ _ _ _ => pts_nil) (fun _ _ _ _ _ => (pe_call p_scaled.ok (hr.mono (by decide)) rfl p_scaled.mg p_scaled.kp p_scaled.bd .nil pass0 (pa_cons (pv 2) (pa_cons pe_int (pa_cons (pe_op op_add (pv 1) pe_int) pa_nil)))))) pa_nil))) (pe_tup pa_nil))), ?_⟩
    have s1z : 1 ≤ sizeLine := by rw [sizeLine_eq]; decide
    obtain ⟨a, xs, rfl, ea, ra⟩ := dn_R hu0
    have la : xs.length = r.length := by rw [ra.length, List.length_map]
    have l1 := hr_.2.2
    refine ⟨_, rfl, Nat.zero_le _, fun p hp => ⟨encR r, .tuple [], tn_dp _ _ (encR_tn r) (Dn.mono (snew hp) _ _ hu0), .tup (SqT.of upd_same) .nil, encR_shaped r, rfl, _, rfl, ?_⟩⟩
    rw [eqv_nil_d (encR_tn r)]
    have s0 := snew (o := .tup []) hp
    obtain ⟨H0, eH0⟩ : ∃ H0, upd H p (.tup []) = H0 := ⟨_, rfl⟩
    rw [eH0] at s0 ⊢
    refine ite_b (fun c => ?_) (fun c => ?_)
    · have rne : r ≠ [] := fun z => by rw [z] at c; cases c
      refine ⟨Nat.zero_le _, fun p1 hp1 => ⟨s1z, fun p2 hp2 => ?_⟩⟩
      have t1 := snew (o := .tup []) hp1
      have t2 := snew (o := .tup [.ref p1]) hp2
      have s2 := s0.trans (t1.trans t2)
      have h1 := t2 _ _ (upd_same (H := H0) (a := p1) (o := .tup []))
      have h2 := upd_same (H := upd H0 p1 (.tup [])) (a := p2) (o := .tup [.ref p1])
      obtain ⟨H2, eH2⟩ : ∃ H2, upd (upd H0 p1 (.tup [])) p2 (.tup [.ref p1]) = H2 := ⟨_, rfl⟩
      rw [eH2] at s2 h1 h2 ⊢
      refine ⟨_, rfl, a, xs, rfl, .inr ⟨SqT.of (s2 _ _ ea), fun D hD => lc_enc (enc := encN) encN_tn walk_enumT (fun H' s' => SqT.of (s' _ _ (s2 _ _ ea))) (fun j m => CN ok m ∧ ∀ d, co m d = Rat.divInt 1 ((j : Int) + 1) * cr r j d) (by omega) hD (fun j x H3 H4 Q' hj s3 y kk => ?_) fun acc ns H3 e3 d3 ln hn s3 => ?_⟩⟩
      · obtain ⟨T_, x1, x2', rfl, nT, rfl, ee, ex⟩ := y
        cases (Option.some.inj ee)
        obtain ⟨n, en⟩ : ∃ n, r[j]? = some n := ⟨_, List.getElem?_eq_getElem (by omega)⟩
        obtain ⟨x', ex', dx'⟩ := row_at ra en
        rw [show xs[j]? = some x2' from ex] at ex'
        cases ex'
        have sT := snew (o := .tup [.int (j : Nat), x2']) nT
        refine ⟨T_, _, rfl, SqT.of upd_same, rfl, _, _, rfl, _, _, rfl, rfl, rfl, ?_⟩
        refine ⟨_, rfl, _, rfl, _, _, rfl, rfl, ?_⟩
        refine ⟨x2', n, 1, _, C, 9, L, ok, rfl, Dn.mono ((s2.trans s3).trans sT) _ _ dx', hr_.nu (List.mem_of_getElem? en), few, c1, by decide, by omega, by show _ < 512; omega, l64, by rw [show C + 9 + 1 = C + 10 by omega]; exact lt, by omega, fun m z H5 dz nz ez s5 => ?_⟩
        refine kk _ m H5 dz ⟨nz.1, fun d => ?_⟩ (sT.trans s5)
        unfold cr
        rw [ez, getD_at en]
      · refine ⟨D, acc, rfl, .inl ⟨SqL.of e3, fun q hq => ?_⟩⟩
        have sq := snew (o := .tup acc) hq
        have lac : acc.length = ns.length := by rw [d3.length, List.length_map]
        have lnr : ns.length = r.length := by omega
        have crn : ∀ (j : Nat) d, cr ns j d = Rat.divInt 1 ((j : Int) + 1) * cr r j d := fun j d => by
          rcases Nat.lt_or_ge j ns.length with c | c
          · show co (ns.getD j []) d = _
            rw [getD_at (List.getElem?_eq_getElem c)]
            exact (hn j _ (List.getElem?_eq_getElem c)).2 d
          · rw [cr_off c, cr_off (by omega), Rat.mul_zero]
        refine catA_raw ((s3.trans sq) _ _ h2) upd_same (by show 1 + acc.length ≤ 1000; omega) fun z H5 hz s5 => ?_
        have s35 := s3.trans (sq.trans s5)
        have dd : DnAll H5 ([.ref p1] ++ acc) (([] :: ns).map encN) := .cons (.tup (s35 _ _ h1) .nil) (DnAll.mono (sq.trans s5) _ _ d3)
        have l0 : 0 < ns.length := by rw [lnr]; exact List.length_pos_iff.mpr rne
        refine k ([] :: ns) z H5 (.tup hz dd) ⟨fun n hn' => ?_, fun zz => ?_⟩ (fun d => rfl) (fun j d => crn j d) (s2.trans s35)
        · rcases List.mem_cons.mp hn' with rfl | hn'
          · exact CN.nil
          · obtain ⟨j, hj⟩ := List.mem_iff_getElem?.mp hn'
            exact (hn j n hj).1
        · obtain ⟨d, hd⟩ := cr_last hr_.1 rne
          have e1 := crn (r.length - 1) d
          have e2' : cr ns (r.length - 1) d = 0 := by
            rw [List.getLast?_eq_getElem?] at zz
            have : ([] :: ns)[([] :: ns).length - 1]? = ns[r.length - 1]? := by
              show ([] :: ns)[ns.length + 1 - 1]? = _
              rw [show ns.length + 1 - 1 = (r.length - 1) + 1 by omega, List.getElem?_cons_succ]
            rw [this] at zz
            unfold cr
            rw [getD_at zz]
            rfl
          rw [e2'] at e1
          rcases Rat.mul_eq_zero.mp e1.symm with h | h
          · exact frac_ne (by omega) (by decide) h
          · exact hd h
    · have rn : r = [] := by
        cases r with
        | nil => rfl
        | cons _ _ => cases c
      subst rn
      refine ⟨Nat.zero_le _, fun q hq => k [] q _ (.tup upd_same .nil) CR.nil (fun d => cr_nil 0 d) (fun j d => by rw [cr_nil, cr_nil, Rat.mul_zero]) (s0.trans (snew hq))⟩
abbrev s_integral_of : Stmt := top 48
abbrev nsIOf : List Str := ["quotient", "rows", "_", "row"]
theorem sc_integral_of : FnScope nsIOf ["quotient"] (defScope s_integral_of) := ⟨rfl, rfl, rfl, by decide +kernel, rfl, by decide +kernel, by decide +kernel⟩
theorem ok_integral_of {f f_integral_row f_integral_whole f_poles_of f_from_rows : Addr} {fd d_integral_row d_integral_whole d_poles_of d_from_rows : FuncData}  (F : Fun K "integral_of" "integral_of" s_integral_of f fd) (T : Bt mg) (p_integral_row : Kn P w K mg base 5 "integral_row" ["row"] spIRow f_integral_row d_integral_row) (p_integral_whole : Kn P w K mg base 5 "integral_whole" ["whole"] spIWhole f_integral_whole d_integral_whole) (p_poles_of : Kn P w K mg base 1 "poles_of" ["quotient"] spPolesOf f_poles_of d_poles_of) (p_from_rows : Kn P w K mg base 1 "from_rows" ["whole", "poles", "rows"] (spFromRows K) f_from_rows d_from_rows) : FnOk P w K mg base CX0 6 f fd ["quotient"] spIOf := by
  refine F.ok sc_integral_of (fun vs H Q E h => ?_) (fun cdv A outer s H vs Q E hr h => ?_)
  · obtain ⟨u, q, C, L, ok, rfl, _⟩ := h
    rfl
  · obtain ⟨u, q, C, L, ok, rfl, hu0, zq, few, c1, l64, lt, cw, k⟩ := h
    refine ⟨_, pss_cons (ps_setLc (i := 1) (own := [("_", 2), ("row", 3)]) (g := (gTup K 2 (gCons (gName 2) (gCons (gName 3) gNil)))) (tt := tYes) rfl sc_integral_of.nd rfl rfl (sw_true rfl rfl (by rfl) (by rfl)) (pi_tup (pe_ix (r := rIx K) ix_seq (pv 0) pe_int (fun _ _ => rfl))) (blkOk_by (own := [("_", 2), ("row", 3)]) (N := nsIOf) (sc := defScope s_integral_of) (by decide +kernel)) (fun _ _ _ _ _ => pg_tup rfl (pgs_cons (pg_name (i := 2) sc_integral_of.nd rfl (Or.inl rfl)) (pgs_cons (pg_name (i := 3) sc_integral_of.nd rfl (Or.inl rfl)) pgs_nil))) (fun _ _ _ _ _ => pts_nil) (fun _ _ _ _ _ => (pe_call p_integral_row.ok (hr.mono (by decide)) rfl p_integral_row.mg p_integral_row.kp p_integral_row.bd .nil pass0 (pa_cons (pv 3) pa_nil))))
      (pss_one (ps_ret (pe_call p_from_rows.ok (hr.mono (by decide)) rfl p_from_rows.mg p_from_rows.kp p_from_rows.bd .nil pass0 (pa_cons (pe_call p_integral_whole.ok (hr.mono (by decide)) rfl p_integral_whole.mg p_integral_whole.kp p_integral_whole.bd .nil pass0 (pa_cons (pe_ix (r := rIx K) ix_seq (pv 0) pe_int (fun _ _ => rfl)) pa_nil)) (pa_cons (pe_call p_poles_of.ok (hr.mono (by decide)) rfl p_poles_of.mg p_poles_of.kp p_poles_of.bd .nil pass0 (pa_cons (pv 0) pa_nil)) (pa_cons (pv 1) pa_nil)))))), ?_⟩
    obtain ⟨a, v1, v2, rfl, ea, g1, g2⟩ := dn_pair hu0
    obtain ⟨a2, xs, rfl, e2, r2⟩ := dn_t g2
    have lx : xs.length = q.2.length := by rw [r2.length, List.length_map]
    have lq := zq.lt
    have kpq := zq.cq.2.kp
    refine ⟨_, rfl, .inr (.inl ⟨a, _, _, .ref a2, rfl, rfl, SqT.of ea, rfl, a2, rfl, ⟨_, SqT.of e2⟩, fun D hD => lc_enc (enc := encR) encR_tn (walk_tup (K := K) (a := a2) (xs := xs)) (fun H' s' => SqT.of (s' _ _ e2)) (fun j t => CR ok t ∧ ∃ x : Tl, q.2[j]? = some x ∧ ∀ (k : Nat) d, cr t k d = Rat.divInt (-1) ((k : Int) + 1) * cr x.2 (k + 1) d) (by omega) hD (fun j x H2 H3 Q' hj s2 y kk => ?_) fun acc rs H2 e3 d3 ln hn s2 => ?_⟩)⟩
    · obtain ⟨rfl, hx⟩ := y
      obtain ⟨t, ax, p1, rv, et, rfl, hax, dr, dp⟩ := dn_rows r2 j x hx
      have ht := List.mem_of_getElem? et
      refine ⟨ax, _, rfl, SqT.of (s2 _ _ hax), rfl, _, _, rfl, _, _, rfl, rfl, rfl, _, rfl, ?_⟩
      refine ⟨rv, t.2, C, L, ok, rfl, Dn.mono s2 _ _ dr, ⟨(zq.cq.2.1 t ht).2.1, zq.zt t ht, by have := zq.lm t ht; omega⟩, few, c1, l64, lt, cw, fun t' a3 H4 d4 c4 l4 ct4 s4 => ?_⟩
      exact kk _ t' H4 d4 ⟨c4, t, et, ct4⟩ s4
    · refine ⟨_, rfl, .inr (.inl ⟨a, _, _, v1, rfl, rfl, SqT.of (s2 _ _ ea), rfl, ?_⟩)⟩
      refine ⟨v1, q.1, C, L, ok, rfl, Dn.mono s2 _ _ g1, ⟨zq.cq.1, zq.zw, by have := zq.lw; omega⟩, few, c1, l64, lt, cw, fun t0 a0 H3 d0 c0 z0 ct0 s3 => ?_⟩
      refine ⟨_, rfl, .ref a, q, rfl, Dn.mono (s2.trans s3) _ _ hu0, by omega, fun lp ps H4 _ hlp dps s4 => ?_⟩
      have s34 := s3.trans s4
      refine ⟨_, rfl, .ref a0, lp, D, ps, acc, t0, q.2.map (·.1), rs, ok, rfl, Dn.mono s4 _ _ d0, SqL.of hlp, dps, SqL.of (s34 _ _ e3), DnAll.mono s34 _ _ d3, by rw [List.length_map]; omega, by rw [List.length_map]; omega, zq.cq.2.pw, fun p hp => ?_, fun r hr' => ?_, c0, fun g a' H5 dg cg eg1 eg2 eg3 s5 => ?_⟩
      · obtain ⟨t, ht, rfl⟩ := List.mem_map.mp hp
        exact (zq.cq.2.1 t ht).1
      · obtain ⟨j, hj⟩ := List.mem_iff_getElem?.mp hr'
        exact (hn j r hj).1
      · refine k g a' H5 dg cg ⟨fun d => by rw [eg1]; exact z0 d, fun j d => by rw [eg1]; exact ct0 j d, fun p j d => ?_⟩ (s2.trans (s34.trans s5))
        by_cases c : p ∈ q.2.map (·.1)
        · obtain ⟨t, ht, rfl⟩ := List.mem_map.mp c
          obtain ⟨i, hi⟩ := List.mem_iff_getElem?.mp ht
          obtain ⟨r', er'⟩ : ∃ r', rs[i]? = some r' := ⟨_, List.getElem?_eq_getElem (by have := (List.getElem?_eq_some_iff.mp hi).1; omega)⟩
          obtain ⟨_, x, ex, hx⟩ := hn i r' er'
          rw [hi] at ex
          cases ex
          rw [eg2 i t.1 r' (by rw [List.getElem?_map, hi]; rfl) er', hx, tl_at kpq ht]
        · rw [eg3 p c, tl_off c, cr_nil, cr_nil, Rat.mul_zero]
abbrev s_writing : Stmt := top 49
theorem sc_writing : FnScope ["quotient"] ["quotient"] (defScope s_writing) := ⟨rfl, rfl, rfl, by decide +kernel, rfl, by decide +kernel, by decide +kernel⟩
theorem ok_writing {f f_check_quotient f_powers_of f_integral_of : Addr} {fd d_check_quotient d_powers_of d_integral_of : FuncData}  (F : Fun K "writing" "writing" s_writing f fd) (T : Bt mg) (p_check_quotient : Kn P w K mg base 10 "check_quotient" ["thing"] spChkQ f_check_quotient d_check_quotient) (p_powers_of : Kn P w K mg base 1 "powers_of" ["quotient"] spPowOf f_powers_of d_powers_of) (p_integral_of : Kn P w K mg base 6 "integral_of" ["quotient"] spIOf f_integral_of d_integral_of) : FnOk P w K mg base CX0 11 f fd ["quotient"] spWriting := by
  refine F.ok sc_writing (fun vs H Q E h => ?_) (fun cdv A outer s H vs Q E hr h => ?_)
  · obtain ⟨u, q, C, ok, rfl, _⟩ := h
    rfl
  · obtain ⟨u, q, C, ok, rfl, hu0, zq, o, c1, c60, k⟩ := h
    refine ⟨_, pss_cons (ps_expr (pe_call p_check_quotient.ok (hr.mono (by decide)) rfl p_check_quotient.mg p_check_quotient.kp p_check_quotient.bd .nil pass0 (pa_cons (pv 0) pa_nil)))
      (pss_one (ps_ret (pe_tup (pa_cons (pe_call p_powers_of.ok (hr.mono (by decide)) rfl p_powers_of.mg p_powers_of.kp p_powers_of.bd .nil pass0 (pa_cons (pv 0) pa_nil)) (pa_cons (pe_call p_integral_of.ok (hr.mono (by decide)) rfl p_integral_of.mg p_integral_of.kp p_integral_of.bd .nil pass0 (pa_cons (pv 0) pa_nil)) pa_nil))))), ?_⟩
    have s2z : 2 ≤ sizeLine := by rw [sizeLine_eq]; decide
    have lq := zq.lt
    refine ⟨_, rfl, u, _, rfl, hu0, gd_qz o c60 zq, ⟨q, rfl, cq_okd o zq.cq⟩, fun H1 s1 => ?_⟩
    refine ⟨_, rfl, u, q, rfl, Dn.mono s1 _ _ hu0, by omega, fun t ht => (zq.cq.2.1 t ht).2.2, fun a2 H2 d2 s2 => ?_⟩
    refine ⟨_, rfl, u, q, C, 18, ok, rfl, Dn.mono (s1.trans s2) _ _ hu0, zq, o.2, c1, by decide, by omega, by omega, fun g a3 H3 d3 cg qi s3 => ⟨s2z, fun p hp => ?_⟩⟩
    have sp := snew (o := .tup [.ref a2, .ref a3]) hp
    exact k g p _ (.tup upd_same (.cons (Dn.mono (s3.trans sp) _ _ d2) (.cons (Dn.mono sp _ _ d3) .nil))) cg qi ((s1.trans s2).trans (s3.trans sp))
end
end N3

namespace N3
open PySem PySem.Spec PyProof.Rows L2 N2
/-! ### the quotient of a writing -/
theorem dn_pws {H : Hp} {xs : List V} {pw : List (Pl × Nm)} (h : DnAll H xs (pw.map encPw)) (j : Nat) (x : V) (e : xs[j]? = some x) : ∃ (t : Pl × Nm) (ax : Addr) (p1 nv : V), pw[j]? = some t ∧ x = .ref ax ∧ H ax = some (.tup [p1, nv]) ∧ Dn H p1 (encPl t.1) ∧ Dn H nv (encN t.2) := by
  obtain ⟨d, ed, dx⟩ := h.at_ e
  rw [List.getElem?_map] at ed
  obtain ⟨t, et, rfl⟩ := Option.map_eq_some_iff.mp ed
  obtain ⟨a, v1, v2, rfl, ea, d1, d2⟩ := dn_pair dx
  exact ⟨t, a, v1, v2, et, rfl, ea, d1, d2⟩
theorem pqT_at {pw : List (Pl × Nm)} {ns : List Tl} (l : ns.length = pw.length) (h : ∀ (j : Nat) (t : Tl), ns[j]? = some t → ∃ x, pw[j]? = some x ∧ t = (x.1, [x.2])) : ns = pqT pw := by
  refine List.ext_getElem? fun j => ?_
  unfold pqT
  rw [List.getElem?_map]
  cases c : ns[j]? with
  | some t =>
    obtain ⟨x, ex, rfl⟩ := h j t c
    rw [ex]; rfl
  | none =>
    rw [List.getElem?_eq_none_iff] at c
    rw [List.getElem?_eq_none (by omega)]
    rfl
def spAreP : Sp := fun vs H Q _ => ∃ (u : V) (pw : List (Pl × Nm)) (C : Nat) (ok : Int → Prop), vs = [u] ∧ Dn H u (.tuple (pw.map encPw)) ∧ QZ ok C 20 10 10 (pqOf pw) ∧ OkD ok ∧ C ≤ 60 ∧ ∀ H', Same H H' → Q (.bl true) H'
def spIsInt : Sp := fun vs H Q _ => ∃ (u : V) (q : Qt) (C : Nat) (ok : Int → Prop), vs = [u] ∧ Dn H u (encQ q) ∧ QZ ok C 20 10 10 q ∧ OkD ok ∧ C ≤ 60 ∧ (q.1 = [] ∨ q.1[0]? = some []) ∧ ∀ H', Same H H' → Q (.bl true) H'
def spQOf : Sp := fun vs H Q _ => ∃ (u v : V) (pw : List (Pl × Nm)) (g : Qt) (C : Nat) (ok : Int → Prop), vs = [u, v] ∧ Dn H u (.tuple (pw.map encPw)) ∧ Dn H v (encQ g) ∧ QZ ok C 20 10 10 (pqOf pw) ∧ QZ ok C 20 10 10 g ∧ OkD ok ∧ 1 ≤ C ∧ C ≤ 60 ∧ (g.1 = [] ∨ g.1[0]? = some []) ∧
  ∀ (s g' : Qt) (a : Addr) (H' : Hp), Dn H' (.ref a) (encQ s) → CQ ok s → CQ ok g' → QSlo g g' → QSum (pqOf pw) g' s → Same H H' → Q (.ref a) H'
theorem pqT_len (pw : List (Pl × Nm)) : (pqT pw).length = pw.length := List.length_map ..
section
variable {P : Program} {w : World} {K : PySem.W.Frag} {mg : Str → Option Value} {base : Heap}
abbrev s_are_powers : Stmt := top 50
abbrev nsArP : List Str := ["thing", "pair", "c", "e"]
theorem sc_are_powers : FnScope nsArP ["thing"] (defScope s_are_powers) := ⟨rfl, rfl, rfl, by decide +kernel, rfl, by decide +kernel, by decide +kernel⟩
theorem ok_are_powers {f f_is_tuple_of f_are_tails : Addr} {fd d_is_tuple_of d_are_tails : FuncData}  (F : Fun K "are_powers" "are_powers" s_are_powers f fd) (T : Bt mg) (p_is_tuple_of : Kn P w K mg base 1 "is_tuple_of" ["thing", "many"] spTupOf f_is_tuple_of d_is_tuple_of) (p_are_tails : Kn P w K mg base 8 "are_tails" ["thing"] (spCk (DTs Fit)) f_are_tails d_are_tails) : FnOk P w K mg base CX0 9 f fd ["thing"] spAreP := by
  refine F.ok sc_are_powers (fun vs H Q E h => ?_) (fun cdv A outer s H vs Q E hr h => ?_)
  · obtain ⟨u, pw, C, ok, rfl, _⟩ := h
    rfl
  · obtain ⟨u, pw, C, ok, rfl, hu0, zq, o, c60, k⟩ := h
    refine ⟨_, pss_cons (ps_if (pt_not (PW.pt (pw_and (pt_val (pe_callB call_isi (by rfl) T.isi (by decide +kernel) (pa_cons (pv 0) (pa_cons (pe_bltn (v := .ty "tuple") (by rfl) T.tuple (by decide +kernel) rfl) pa_nil)))) (pw_and1 (pt_val (pe_callB (cr_all rfl) (by rfl) T.all (by decide +kernel) (pa_cons (pe_lc (own := [("pair", 1)]) (g := (gName 1)) (tt := tYes) rfl sc_are_powers.nd (pi_tup (pv 0)) (blkOk_by (own := [("pair", 1)]) (N := nsArP) (sc := defScope s_are_powers) (by decide +kernel)) (fun _ _ _ _ _ => pg_name (i := 1) sc_are_powers.nd rfl (Or.inl rfl)) (fun _ _ _ _ _ => pts_nil) (fun _ _ _ _ _ => (pe_call p_is_tuple_of.ok (hr.mono (by decide)) rfl p_is_tuple_of.mg p_is_tuple_of.kp p_is_tuple_of.bd .nil pass0 (pa_cons (pv 1) (pa_cons pe_int pa_nil))))) pa_nil)))))))
        (pss_one (ps_ret pe_bl))
        pss_nil)
      (pss_one (ps_ret (pe_call p_are_tails.ok (hr.mono (by decide)) rfl p_are_tails.mg p_are_tails.kp p_are_tails.bd .nil pass0 (pa_cons (pe_callTy call_tuple_of (by rfl) T.tuple (by decide +kernel) (pa_cons (pe_lc (own := [("c", 2), ("e", 3)]) (g := (gTup K 2 (gCons (gName 2) (gCons (gName 3) gNil)))) (tt := tYes) rfl sc_are_powers.nd (pi_tup (pv 0)) (blkOk_by (own := [("c", 2), ("e", 3)]) (N := nsArP) (sc := defScope s_are_powers) (by decide +kernel)) (fun _ _ _ _ _ => pg_tup rfl (pgs_cons (pg_name (i := 2) sc_are_powers.nd rfl (Or.inl rfl)) (pgs_cons (pg_name (i := 3) sc_are_powers.nd rfl (Or.inl rfl)) pgs_nil))) (fun _ _ _ _ _ => pts_nil) (fun _ _ _ _ _ => (pe_tup (pa_cons (pv 2) (pa_cons (pe_tup (pa_cons (pv 3) pa_nil)) pa_nil))))) pa_nil)) pa_nil)))), ?_⟩
    have s1z : 1 ≤ sizeLine := by rw [sizeLine_eq]; decide
    have s2z : 2 ≤ sizeLine := by rw [sizeLine_eq]; decide
    obtain ⟨a, xs, rfl, ea, ra⟩ := dn_tupd hu0
    have lp : pw.length ≤ 10 := by have := zq.lt; show _; rw [← pqT_len]; exact this
    have lx : xs.length = pw.length := by rw [ra.length, List.length_map]
    refine ⟨_, rfl, _, .ty "tuple", _, _, _, rfl, .ty _, dn_ty hu0, kit_ty (kit_t _), _, rfl, ?_⟩
    refine iteT ?_
    refine ⟨_, rfl, a, rfl, ⟨_, SqT.of ea⟩, fun D hD => lc_all (fun d => tupN 2 d = true) ea ra (by rw [List.length_map]; omega) hD (fun j x d H' Q' ed dn s' kk => ⟨_, rfl, x, d, 2, rfl, dn, kk _ _ Iff.rfl (Same.refl _)⟩) fun bs H1 e1 e3 s1 => ?_⟩
    have all : bs.all id = true := e3.mpr fun d hd => by
      obtain ⟨x, _, rfl⟩ := List.mem_map.mp hd
      rfl
    refine ⟨D, bs, rfl, SqL.of e1, _, rfl, ?_⟩
    rw [all]
    refine iteF ?_
    refine ⟨_, rfl, a, rfl, ⟨_, SqT.of (s1 _ _ ea)⟩, fun D2 hD2 => lc_enc (enc := encTl) encTl_tn (walk_tup (K := K) (a := a) (xs := xs)) (fun H' s' => SqT.of (s' _ _ (s1 _ _ ea))) (fun j t => ∃ x, pw[j]? = some x ∧ t = (x.1, [x.2])) (by omega) hD2 (fun j x H2 H3 Q' hj s2 y kk => ?_) fun acc ns H2 e4 d4 ln hn s2 => ?_⟩
    · obtain ⟨rfl, hx⟩ := y
      obtain ⟨t, ax, p1, nv, et, rfl, hax, dp, dn⟩ := dn_pws ra j x hx
      have s12 := s1.trans s2
      refine ⟨ax, _, rfl, SqT.of (s12 _ _ hax), rfl, _, _, rfl, _, _, rfl, rfl, rfl, _, rfl, _, rfl, s1z, fun p2 hp2 => ⟨s2z, fun p3 hp3 => ?_⟩⟩
      have s3 := (snew (o := .tup [nv]) hp2).trans (snew (o := .tup [p1, .ref p2]) hp3)
      refine kk _ (t.1, [t.2]) _ (.tup upd_same (.cons (Dn.mono (s12.trans s3) _ _ dp) (.cons (.tup ((snew hp3) _ _ upd_same) (.cons (Dn.mono (s12.trans s3) _ _ dn) .nil)) .nil))) ⟨t, et, rfl⟩ s3
    · have en := pqT_at (ns := ns) (pw := pw) (by omega) hn
      subst en
      refine ⟨D2, acc, rfl, .inl ⟨SqL.of e4, fun r hr' => ?_⟩⟩
      have sr := snew (o := .tup acc) hr'
      have gd : Gd (.tuple ((pqT pw).map encTl)) := (gd_qz o c60 zq).item mem1
      refine ⟨.ref r, _, rfl, .tup upd_same (DnAll.mono sr _ _ d4), gd, fun b H4 hb s4 => ?_⟩
      have : b = true := hb.mpr ⟨pqT pw, rfl, (cq_okd o zq.cq).2⟩
      subst this
      exact k H4 (s1.trans (s2.trans (sr.trans s4)))
abbrev s_is_integral : Stmt := top 51
theorem sc_is_integral : FnScope ["thing"] ["thing"] (defScope s_is_integral) := ⟨rfl, rfl, rfl, by decide +kernel, rfl, by decide +kernel, by decide +kernel⟩
theorem ok_is_integral {f f_is_quotient : Addr} {fd d_is_quotient : FuncData}  (F : Fun K "is_integral" "is_integral" s_is_integral f fd) (T : Bt mg) (p_is_quotient : Kn P w K mg base 9 "is_quotient" ["thing"] (spCk (DQ Fit)) f_is_quotient d_is_quotient) : FnOk P w K mg base CX0 10 f fd ["thing"] spIsInt := by
  refine F.ok sc_is_integral (fun vs H Q E h => ?_) (fun cdv A outer s H vs Q E hr h => ?_)
  · obtain ⟨u, q, C, ok, rfl, _⟩ := h
    rfl
  · obtain ⟨u, q, C, ok, rfl, hu0, zq, o, c60, hz, k⟩ := h
    refine ⟨_, pss_one (ps_ret (pe_and (pe_call p_is_quotient.ok (hr.mono (by decide)) rfl p_is_quotient.mg p_is_quotient.kp p_is_quotient.bd .nil pass0 (pa_cons (pv 0) pa_nil)) (pe_one (pe_or (pe_cmpR (op_eqD hr.units) (pe_ix (r := rIx K) ix_seq (pv 0) pe_int (fun _ _ => rfl)) (pe_tup pa_nil) (nomark _)) (pe_one (pe_cmpR (op_eqD hr.units) (pe_ix (r := rIx K) ix_seq (pe_ix (r := rIx K) ix_seq (pv 0) pe_int (fun _ _ => rfl)) pe_int (fun _ _ => rfl)) (pe_tup pa_nil) (nomark _))))))), ?_⟩
    obtain ⟨a, v1, v2, rfl, ea, g1, g2⟩ := dn_pair hu0
    refine ⟨_, rfl, .ref a, _, rfl, hu0, gd_qz o c60 zq, fun b H1 hb s1 => ?_⟩
    have : b = true := hb.mpr ⟨q, rfl, cq_okd o zq.cq⟩
    subst this
    refine ⟨_, rfl, iteT ?_⟩
    have ix : ∀ {H' : Hp} {Q' : VK}, Same H H' → Q' v1 H' → rIx K (.ref a) (.int 0) H' Q' := fun s q' => .inr (.inl ⟨a, _, _, v1, rfl, rfl, SqT.of (s _ _ ea), rfl, q'⟩)
    refine ⟨_, rfl, ix s1 ⟨Nat.zero_le _, fun p hp => ⟨encR q.1, .tuple [], tn_dp _ _ (encR_tn _) (Dn.mono (s1.trans (snew hp)) _ _ g1), .tup (SqT.of upd_same) .nil, encR_shaped _, rfl, ?_⟩⟩⟩
    rw [eqv_nil_d (encR_tn _)]
    have s2 := s1.trans (snew (o := .tup []) hp)
    refine ⟨_, rfl, ite_b (fun c => ?_) (fun c => ?_)⟩
    · exact k _ s2
    · rcases hz with hz | hz
      · rw [hz] at c; cases c
      obtain ⟨a1, xs, rfl, e1, r1⟩ := dn_R g1
      obtain ⟨x, ex, dx⟩ := row_at r1 hz
      refine ⟨_, rfl, ix s2 (.inr (.inl ⟨a1, xs, _, x, rfl, rfl, SqT.of (s2 _ _ e1), atI_nat (j := 0) ex, Nat.zero_le _, fun p2 hp2 => ⟨encN [], .tuple [], tn_dp _ _ (encN_tn _) (Dn.mono (s2.trans (snew hp2)) _ _ dx), .tup (SqT.of upd_same) .nil, encN_shaped _, rfl, ?_⟩⟩))⟩
      rw [eqv_nil_d (encN_tn _)]
      exact k _ (s2.trans (snew hp2))
abbrev s_quotient_of : Stmt := top 52
abbrev nsQOf : List Str := ["powers", "g", "c", "e"]
theorem sc_quotient_of : FnScope nsQOf ["powers", "g"] (defScope s_quotient_of) := ⟨rfl, rfl, rfl, by decide +kernel, rfl, by decide +kernel, by decide +kernel⟩
theorem ok_quotient_of {f f_are_powers f_is_integral f_quotient_slope f_quotient_sum : Addr} {fd d_are_powers d_is_integral d_quotient_slope d_quotient_sum : FuncData}  (F : Fun K "quotient_of" "quotient_of" s_quotient_of f fd) (T : Bt mg) (p_are_powers : Kn P w K mg base 9 "are_powers" ["thing"] spAreP f_are_powers d_are_powers) (p_is_integral : Kn P w K mg base 10 "is_integral" ["thing"] spIsInt f_is_integral d_is_integral) (p_quotient_slope : Kn P w K mg base 6 "quotient_slope" ["quotient"] spQSlo f_quotient_slope d_quotient_slope) (p_quotient_sum : Kn P w K mg base 6 "quotient_sum" ["one", "other"] spQSum f_quotient_sum d_quotient_sum) : FnOk P w K mg base CX0 11 f fd ["powers", "g"] spQOf := by
  refine F.ok sc_quotient_of (fun vs H Q E h => ?_) (fun cdv A outer s H vs Q E hr h => ?_)
  · obtain ⟨u, v, pw, g, C, ok, rfl, _⟩ := h
    rfl
  · obtain ⟨u, v, pw, g, C, ok, rfl, hu0, hv0, zp, zg, o, c1, c60, hz, k⟩ := h
    refine ⟨_, pss_cons (ps_if (pt_not (PW.pt (pw_and (pt_val (pe_call p_are_powers.ok (hr.mono (by decide)) rfl p_are_powers.mg p_are_powers.kp p_are_powers.bd .nil pass0 (pa_cons (pv 0) pa_nil))) (pw_and1 (pt_val (pe_call p_is_integral.ok (hr.mono (by decide)) rfl p_is_integral.mg p_is_integral.kp p_is_integral.bd .nil pass0 (pa_cons (pv 1) pa_nil)))))))
        (pss_one ps_never)
        pss_nil)
      (pss_one (ps_ret (pe_call p_quotient_sum.ok (hr.mono (by decide)) rfl p_quotient_sum.mg p_quotient_sum.kp p_quotient_sum.bd .nil pass0 (pa_cons (pe_tup (pa_cons (pe_tup pa_nil) (pa_cons (pe_callTy call_tuple_of (by rfl) T.tuple (by decide +kernel) (pa_cons (pe_lc (own := [("c", 2), ("e", 3)]) (g := (gTup K 2 (gCons (gName 2) (gCons (gName 3) gNil)))) (tt := tYes) rfl sc_quotient_of.nd (pi_tup (pv 0)) (blkOk_by (own := [("c", 2), ("e", 3)]) (N := nsQOf) (sc := defScope s_quotient_of) (by decide +kernel)) (fun _ _ _ _ _ => pg_tup rfl (pgs_cons (pg_name (i := 2) sc_quotient_of.nd rfl (Or.inl rfl)) (pgs_cons (pg_name (i := 3) sc_quotient_of.nd rfl (Or.inl rfl)) pgs_nil))) (fun _ _ _ _ _ => pts_nil) (fun _ _ _ _ _ => (pe_tup (pa_cons (pv 2) (pa_cons (pe_tup (pa_cons (pv 3) pa_nil)) pa_nil))))) pa_nil)) pa_nil))) (pa_cons (pe_call p_quotient_slope.ok (hr.mono (by decide)) rfl p_quotient_slope.mg p_quotient_slope.kp p_quotient_slope.bd .nil pass0 (pa_cons (pv 1) pa_nil)) pa_nil))))), ?_⟩
    have s1z : 1 ≤ sizeLine := by rw [sizeLine_eq]; decide
    have s2z : 2 ≤ sizeLine := by rw [sizeLine_eq]; decide
    obtain ⟨a, xs, rfl, ea, ra⟩ := dn_tupd hu0
    have lp : pw.length ≤ 10 := by have := zp.lt; show _; rw [← pqT_len]; exact this
    have lx : xs.length = pw.length := by rw [ra.length, List.length_map]
    refine ⟨_, rfl, .ref a, pw, C, ok, rfl, hu0, zp, o, c60, fun H1 s1 => ⟨_, rfl, iteT ?_⟩⟩
    refine ⟨_, rfl, v, g, C, ok, rfl, Dn.mono s1 _ _ hv0, zg, o, c60, hz, fun H2 s2 => ⟨_, rfl, iteF ?_⟩⟩
    have s12 := s1.trans s2
    refine ⟨Nat.zero_le _, fun p0 hp0 => ?_⟩
    have s3 := s12.trans (snew (o := .tup []) hp0)
    have e0 := (upd_same (H := H2) (a := p0) (o := .tup []))
    obtain ⟨H3, eH3⟩ : ∃ H3, upd H2 p0 (.tup []) = H3 := ⟨_, rfl⟩
    rw [eH3] at s3 e0 ⊢
    have ea3 := s3 _ _ ea
    refine ⟨_, rfl, a, rfl, ⟨_, SqT.of ea3⟩, fun D2 hD2 => lc_enc (enc := encTl) encTl_tn (walk_tup (K := K) (a := a) (xs := xs)) (fun H' s' => SqT.of (s' _ _ ea3)) (fun j t => ∃ x, pw[j]? = some x ∧ t = (x.1, [x.2])) (by omega) hD2 (fun j x H4 H5 Q' hj s4 y kk => ?_) fun acc ns H4 e4 d4 ln hn s4 => ?_⟩
    · obtain ⟨rfl, hx⟩ := y
      obtain ⟨t, ax, p1, nv, et, rfl, hax, dp, dn⟩ := dn_pws ra j x hx
      have s34 := s3.trans s4
      refine ⟨ax, _, rfl, SqT.of (s34 _ _ hax), rfl, _, _, rfl, _, _, rfl, rfl, rfl, _, rfl, _, rfl, s1z, fun p2 hp2 => ⟨s2z, fun p3 hp3 => ?_⟩⟩
      have s5 := (snew (o := .tup [nv]) hp2).trans (snew (o := .tup [p1, .ref p2]) hp3)
      refine kk _ (t.1, [t.2]) _ (.tup upd_same (.cons (Dn.mono (s34.trans s5) _ _ dp) (.cons (.tup ((snew hp3) _ _ upd_same) (.cons (Dn.mono (s34.trans s5) _ _ dn) .nil)) .nil))) ⟨t, et, rfl⟩ s5
    · have en := pqT_at (ns := ns) (pw := pw) (by omega) hn
      subst en
      refine ⟨D2, acc, rfl, .inl ⟨SqL.of e4, fun r hr' => ⟨s2z, fun q hq => ?_⟩⟩⟩
      have s5 := (snew (o := .tup acc) hr').trans (snew (o := .tup [.ref p0, .ref r]) hq)
      have dpq : Dn (upd (upd H4 r (.tup acc)) q (.tup [.ref p0, .ref r])) (.ref q) (encQ (pqOf pw)) := .tup upd_same (.cons (.tup ((s4.trans s5) _ _ e0) .nil) (.cons (.tup ((snew hq) _ _ upd_same) (DnAll.mono s5 _ _ d4)) .nil))
      have s35 := s3.trans (s4.trans s5)
      refine ⟨_, rfl, v, g, C, 20, 10, 10, 18, ok, rfl, Dn.mono s35 _ _ hv0, zg, by decide, by decide, by decide, o.2, c1, by decide, by omega, by omega, fun g' ag H6 dg cg slo _ _ _ s6 => ?_⟩
      have zg' := qz_slope zg c1 (by decide) (by decide) cg slo
      refine ⟨.ref q, .ref ag, pqOf pw, g', C + 6, 20, 11, 10, 10, 18, ok, rfl, Dn.mono s6 _ _ dpq, dg, zp.mono (by omega) (by decide) (by decide) (by decide), zg', by decide, by decide, by decide, by decide, o.2, by omega, by decide, by omega, by omega, fun s a' H7 ds cs qs s7 => ?_⟩
      exact k s g' a' H7 ds cs cg slo qs (s35.trans (s6.trans s7))
end
end N3

namespace N3
open PySem PySem.Spec PyProof.Rows L2 N2 LamX
/-! ### the law's writing -/
def spLWrit : Sp := fun vs H Q _ => ∃ (u : V) (q : Qt) (C : Nat) (ok : Int → Prop), vs = [u] ∧ Dn H u (encQ q) ∧ QZ ok C 20 10 10 q ∧ OkD ok ∧ 1 ≤ C ∧ C ≤ 60 ∧
  ∀ (g : Qt) (p : Addr) (u1 u2 : V) (H' : Hp), H' p = some (.tup [u1, u2]) → Dn H' u1 (.tuple ((pwOf q.2).map encPw)) → Dn H' u2 (encQ g) → CQ ok g → QInt q g → Same H H' → Q (.ref p) H'
section
variable {P : Program} {w : World} {K : PySem.W.Frag} {mg : Str → Option Value} {base : Heap}
abbrev s__law_written : Stmt := top 74
abbrev nsLWr : List Str := ["quotient", "powers", "tails", "pole", "row", "whole", "at", "x"]
theorem sc__law_written : FnScope nsLWr ["quotient"] (defScope s__law_written) := ⟨rfl, rfl, rfl, by decide +kernel, rfl, by decide +kernel, by decide +kernel⟩
theorem ok__law_written {f f__law_fraction f__law_by f__law_shut : Addr} {fd d__law_fraction d__law_by d__law_shut : FuncData}  (F : Fun K "_law_written" "_law_written" s__law_written f fd) (T : Bt mg) (l_fraction : Kn P w K mg base 2 "_law_fraction" ["top", "bottom"] spFrac f__law_fraction d__law_fraction) (l_by : Kn P w K mg base 3 "_law_by" ["one", "other"] spLBy f__law_by d__law_by) (l_shut : Kn P w K mg base 3 "_law_shut" ["whole", "tails"] (spLShut K) f__law_shut d__law_shut) : FnOk P w K mg base CX0 4 f fd ["quotient"] spLWrit := by
  refine F.ok sc__law_written (fun vs H Q E h => ?_) (fun cdv A outer s H vs Q E hr h => ?_)
  · obtain ⟨u, q, C, ok, rfl, _⟩ := h
    rfl
  · obtain ⟨u, q, C, ok, rfl, hu0, zq, o, c1, c60, k⟩ := h
    have hu := hu_of hr
    refine ⟨_, pss_cons (ps_par (i := 1) (j := 2) rfl sc__law_written.nd rfl rfl (by decide) rfl rfl (pa_cons (pe_lst pa_nil) (pa_cons pe_dnewT pa_nil)) (by rfl))
      (pss_cons (ps_for PassesOwn.never rfl (pi_tup (pe_ix (r := rIx K) ix_seq (pv 0) pe_int (fun _ _ => rfl))) (pg_tup rfl (pgs_cons (pg_name (i := 3) sc__law_written.nd rfl (Or.inl rfl)) (pgs_cons (pg_name (i := 4) sc__law_written.nd rfl (Or.inl rfl)) pgs_nil)))
        (C8.pss_cut (ps_if (pt_cmpR (op_neD hr.units) (pe_ix (r := rIx K) ix_seq (pv 4) pe_int (fun _ _ => rfl)) (pe_tup pa_nil) (nomark _))
          (pss_one (ps_expr (pe_bm PySem.F.plainAttrs_list PySem.F.slot_list_append PySem.F.type_list_append mt_append (pv 1) (pa_cons (pe_tup (pa_cons (pv 3) (pa_cons (pe_ix (r := rIx K) ix_seq (pv 4) pe_int (fun _ _ => rfl)) pa_nil))) pa_nil))))
          pss_nil)
        (pss_one (ps_dput hu (pv 2) (pv 3) (pe_lc (own := [("at", 6), ("x", 7)]) (g := (gTup K 2 (gCons (gName 6) (gCons (gName 7) gNil)))) (tt := tYes) rfl sc__law_written.nd (pi_enumA (by rfl) T.enum (pa_cons (pe_slice sl_tupA (pv 4) (po_some pe_int) po_none) pa_nil)) (blkOk_by (own := [("at", 6), ("x", 7)]) (N := nsLWr) (sc := defScope s__law_written) (by decide +kernel)) (fun _ _ _ _ _ => pg_tup rfl (pgs_cons (pg_name (i := 6) sc__law_written.nd rfl (Or.inl rfl)) (pgs_cons (pg_name (i := 7) sc__law_written.nd rfl (Or.inl rfl)) pgs_nil))) (fun _ _ _ _ _ => pts_nil) (fun _ _ _ _ _ => (pe_call l_by.ok (hr.mono (by decide)) rfl l_by.mg l_by.kp l_by.bd .nil pass0 (pa_cons (pe_call l_fraction.ok (hr.mono (by decide)) rfl l_fraction.mg l_fraction.kp l_fraction.bd .nil pass0 (pa_cons (pe_un un_neg pe_int) (pa_cons (pe_op op_add (pv 6) pe_int) pa_nil))) (pa_cons (pv 7) pa_nil))))) rfl))))
      (pss_cons (ps_setLc (i := 5) (own := [("at", 6), ("x", 7)]) (g := (gTup K 2 (gCons (gName 6) (gCons (gName 7) gNil)))) (tt := tYes) rfl sc__law_written.nd rfl rfl (sw_true rfl rfl (by rfl) (by rfl)) (pi_enumA (by rfl) T.enum (pa_cons (pe_ix (r := rIx K) ix_seq (pv 0) pe_int (fun _ _ => rfl)) pa_nil)) (blkOk_by (own := [("at", 6), ("x", 7)]) (N := nsLWr) (sc := defScope s__law_written) (by decide +kernel)) (fun _ _ _ _ _ => pg_tup rfl (pgs_cons (pg_name (i := 6) sc__law_written.nd rfl (Or.inl rfl)) (pgs_cons (pg_name (i := 7) sc__law_written.nd rfl (Or.inl rfl)) pgs_nil))) (fun _ _ _ _ _ => pts_nil) (fun _ _ _ _ _ => (pe_call l_by.ok (hr.mono (by decide)) rfl l_by.mg l_by.kp l_by.bd .nil pass0 (pa_cons (pe_call l_fraction.ok (hr.mono (by decide)) rfl l_fraction.mg l_fraction.kp l_fraction.bd .nil pass0 (pa_cons pe_int (pa_cons (pe_op op_add (pv 6) pe_int) pa_nil))) (pa_cons (pv 7) pa_nil)))))
      (pss_one (ps_ret (pe_tup (pa_cons (pe_callTy call_tuple_of (by rfl) T.tuple (by decide +kernel) (pa_cons (pv 1) pa_nil)) (pa_cons (pe_call l_shut.ok (hr.mono (by decide)) rfl l_shut.mg l_shut.kp l_shut.bd .nil pass0 (pa_cons (pe_op op_cat (pe_lst (pa_cons (pe_tup pa_nil) pa_nil)) (pv 5)) (pa_cons (pv 2) pa_nil))) pa_nil))))))), ?_⟩
    have s1z : 1 ≤ sizeLine := by rw [sizeLine_eq]; decide
    have s2z : 2 ≤ sizeLine := by rw [sizeLine_eq]; decide
    obtain ⟨a, v1, v2, rfl, ea, g1, g2⟩ := dn_pair hu0
    obtain ⟨a1, xs1, rfl, e1, r1⟩ := dn_t g1
    obtain ⟨a2, xs, rfl, e2, r2⟩ := dn_t g2
    have lx : xs.length = q.2.length := by rw [r2.length, List.length_map]
    have lx1 : xs1.length = q.1.length := by rw [r1.length, List.length_map]
    have lq := zq.lt
    have lw := zq.lw
    have kpq := zq.cq.2.kp
    refine ⟨Nat.zero_le _, fun pl_ hpl => ?_⟩
    intro rw_ hrw
    refine ⟨_, _, rfl, ?_⟩
    have s0 := (snew (o := .lst []) hpl).trans (snew (o := .dT []) hrw)
    have epl := (snew (o := .dT []) hrw) _ _ (upd_same (H := H) (a := pl_) (o := .lst []))
    have erw := upd_same (H := upd H pl_ (.lst [])) (a := rw_) (o := .dT [])
    have hrwH : H rw_ = none := (snew (o := .lst []) hpl).free hrw
    have npr : pl_ ≠ rw_ := ne_of_none upd_same hrw
    obtain ⟨H0, eH0⟩ : ∃ H0, upd (upd H pl_ (.lst [])) rw_ (.dT []) = H0 := ⟨_, rfl⟩
    rw [eH0] at s0 epl erw ⊢
    have e2' := s0 _ _ e2
    refine ⟨_, rfl, .inr (.inl ⟨a, _, _, .ref a2, rfl, rfl, SqT.of (s0 _ _ ea), rfl, a2, rfl, ⟨_, SqT.of e2'⟩, for_tup (K := K) (a := a2) (xs := xs) (fun i σ H' => ∃ (x3 x4 : Option V) (accP : List V) (kvs : List (List L2.Key × V)) (ts : List Tl), σ = [some (.ref a), some (.ref pl_), some (.ref rw_), x3, x4, none, none, none] ∧ H' pl_ = some (.lst accP) ∧ DnAll H' accP ((pwOf (q.2.take i)).map encPw) ∧ accP.length ≤ i ∧ H' rw_ = some (.dT kvs) ∧ RwT (fun b => b ≠ pl_) H' kvs ts ∧ ts.map (·.1) = (q.2.take i).map (·.1) ∧
        (∀ (j : Nat) t, ts[j]? = some t → ∃ (x : Tl) (t' : List Nm), q.2[j]? = some x ∧ t = (x.1, t') ∧ t'.length ≤ x.2.length ∧ (∀ n ∈ t', CN ok n) ∧ ∀ (k : Nat) d, cr t' k d = Rat.divInt (-1) ((k : Int) + 1) * cr x.2 (k + 1) d) ∧ (∀ b o, H0 b = some o → b ≠ pl_ → b ≠ rw_ → H' b = some o))
      ⟨none, none, [], [], [], rfl, epl, .nil, Nat.le_refl _, erw, .nil, rfl, fun j t e => by simp at e, fun b o e _ _ => e⟩ (fun i σ H' _ ⟨_, _, _, _, _, _, _, _, _, _, _, _, _, kk⟩ => SqT.of (kk _ _ e2' (ne_of e2' epl (by intro z; cases z)) (ne_of e2' erw (by intro z; cases z)))) ?_ ?_⟩)⟩
    · rintro i x σ H1 hx ⟨x3, x4, accP, kvs, ts, rfl, hP, dP, lP, f1, rt, ek, at_, kk0⟩
      have s1 : TupS H H1 := fun b ys e => kk0 _ _ (s0 _ _ e) (ne_of (s0 _ _ e) epl (by intro z; cases z)) (ne_of (s0 _ _ e) erw (by intro z; cases z))
      obtain ⟨t, ax, p1, rv, et, rfl, hax, dr, dp⟩ := dn_rows r2 i x hx
      obtain ⟨ap, rfl, hap⟩ := dn_pl dp
      obtain ⟨ar, ys, rfl, har, rr⟩ := dn_t dr
      have ht := List.mem_of_getElem? et
      have il : i < q.2.length := (List.getElem?_eq_some_iff.mp et).1
      have ly : ys.length = t.2.length := by rw [rr.length, List.length_map]
      have lt2 := zq.lm t ht
      have l0 := List.length_pos_iff.mpr (zq.cq.2.1 t ht).2.2
      have rr1 : DnAll H1 ys (t.2.map encN) := tnA_tups s1 _ _ (tn_maps encN_tn _) rr
      have lts : ts.length = i := by
        have := congrArg List.length ek
        rw [List.length_map, List.length_map, List.length_take] at this
        omega
      obtain ⟨n, en⟩ : ∃ n, t.2[0]? = some n := ⟨_, List.getElem?_eq_getElem l0⟩
      have egn : t.2.getD 0 [] = n := getD_at en
      obtain ⟨y, ey, dy⟩ := row_at rr1 en
      have tkp := pwOf_take et
      rw [egn] at tkp
      refine ⟨ax, _, rfl, SqT.of (s1 _ _ hax), rfl, _, _, rfl, _, _, rfl, rfl, ?_⟩
      refine ⟨fun σ' H' => ∃ accP' : List V, σ' = [some (.ref a), some (.ref pl_), some (.ref rw_), some (.ref ap), some (.ref ar), none, none, none] ∧ H' pl_ = some (.lst accP') ∧ DnAll H' accP' ((pwOf (q.2.take (i + 1))).map encPw) ∧ accP'.length ≤ i + 1 ∧ (∀ b o, H1 b = some o → b ≠ pl_ → H' b = some o), ?_, ?_⟩
      · refine ⟨_, rfl, .inr (.inl ⟨ar, ys, _, y, rfl, rfl, SqT.of (s1 _ _ har), atI_nat (j := 0) ey, Nat.zero_le _, fun p0 hp0 => ⟨encN n, .tuple [], tn_dp _ _ (encN_tn n) (Dn.mono (snew hp0) _ _ dy), .tup (SqT.of upd_same) .nil, encN_shaped n, rfl, _, rfl, ?_⟩⟩)⟩
        rw [eqv_nil_d (encN_tn n)]
        have sp := snew (o := .tup []) hp0
        refine ite_b (fun c => ?_) (fun c => ?_)
        · have nn : n ≠ [] := fun z => by
            rw [z] at c
            cases c
          refine ⟨_, rfl, .inl ⟨rfl, _, .inl (.inl (sp _ _ hP))⟩, _, rfl, _, rfl, .inr (.inl ⟨ar, ys, _, y, rfl, rfl, SqT.of (sp _ _ (s1 _ _ har)), atI_nat (j := 0) ey, s2z, fun p2 hp2 => ?_⟩)⟩
          have s2 := sp.trans (snew (o := .tup [.ref ap, y]) hp2)
          have hP2 := s2 _ _ hP
          have tp := lst_tups (o := .lst (accP ++ [.ref p2])) hP2
          refine ⟨pl_, accP, _, rfl, rfl, hP2, small1000 (by omega), accP ++ [.ref p2], rfl, upd_same, ?_, by rw [List.length_append]; show _ + 1 ≤ _; omega, fun b o e h => ?_⟩
          · rw [tkp, if_neg nn, List.map_append]
            refine DnAll.app (tnA_tups ((Same.tups s2).trans tp) _ _ (tn_maps encPw_tn _) dP) (.cons ?_ .nil)
            exact .tup (tp _ _ upd_same) (.cons (tn_tups ((s1.trans (Same.tups s2)).trans tp) _ _ (encPl_tn _) dp) (.cons (tn_tups ((Same.tups s2).trans tp) _ _ (encN_tn _) dy) .nil))
          · rw [upd_ne h]
            exact s2 _ _ e
        · have nn : n = [] := by
            cases n with
            | nil => rfl
            | cons _ _ => cases c
          refine ⟨accP, rfl, sp _ _ hP, ?_, by omega, fun b o e _ => sp _ _ e⟩
          rw [tkp, if_pos nn, List.append_nil]
          exact DnAll.mono sp _ _ dP
      rintro σ' H2 ⟨accP', rfl, hP', dP', lP', kk2⟩
      have t2 : TupS H1 H2 := fun b ys e => kk2 _ _ e (ne_of e hP (by intro z; cases z))
      have f2 := kk2 _ _ f1 (ne_of f1 hP (by intro z; cases z))
      have rt2 : RwT (fun b => b ≠ pl_) H2 kvs ts := rt.move (fun _ h => h) (fun b xs g e => kk2 _ _ e g) t2
      have rr2 : DnAll H2 ys (t.2.map encN) := tnA_tups t2 _ _ (tn_maps encN_tn _) rr1
      dsimp only [tNoPart]
      refine ⟨_, rfl, _, rfl, ar, ys, rfl, SqT.of (t2 _ _ (s1 _ _ har)), fun ⟨z, _⟩ => ?_, fun _ pz hpz => ?_⟩
      · exfalso
        have e1 : HT.sIx ys.length 0 (some (1 : Int)) = min 1 ys.length := HT.sIx_nat ys.length 0 1
        rw [e1] at z
        omega
      rw [cutFrom1]
      have s3 := snew (o := .tup (ys.drop 1)) hpz
      have hz : SqT K (upd H2 pz (.tup (ys.drop 1))) pz (ys.drop 1) := SqT.of upd_same
      obtain ⟨H3, eH3⟩ : ∃ H3, upd H2 pz (.tup (ys.drop 1)) = H3 := ⟨_, rfl⟩
      rw [eH3] at s3 hz ⊢
      have rr3 : DnAll H3 (ys.drop 1) ((t.2.drop 1).map encN) := by rw [List.map_drop]; exact DnAll.mono s3 _ _ (dnAll_drop' rr2 1)
      have ld : (ys.drop 1).length = t.2.length - 1 := by rw [List.length_drop, ly]
      refine ⟨pz, _, rfl, .inr ⟨hz, fun D' hD => lc_enc (enc := encN) encN_tn walk_enumT (fun H' s' => same_sqt s' hz) (fun j m => CN ok m ∧ ∀ d, co m d = Rat.divInt (-1) ((j : Int) + 1) * cr t.2 (j + 1) d) (by omega) hD (fun j x H4 H5 Q' hj s4 y kk => ?_) fun acc ns H4 e3 d3 ln hn s4 => ?_⟩⟩
      · obtain ⟨T_, x1, x2, rfl, nT, rfl, ee, ex⟩ := y
        cases (Option.some.inj ee)
        obtain ⟨n, en⟩ : ∃ n, (t.2.drop 1)[j]? = some n := ⟨_, List.getElem?_eq_getElem (by rw [List.length_drop]; omega)⟩
        obtain ⟨x', ex', dx'⟩ := row_at rr3 en
        rw [show (ys.drop 1)[j]? = some x2 from ex] at ex'
        cases ex'
        have en1 : t.2[j + 1]? = some n := by rw [List.getElem?_drop, Nat.add_comm] at en; exact en
        have sT := snew (o := .tup [.int (j : Nat), x2]) nT
        refine ⟨T_, _, rfl, SqT.of upd_same, rfl, _, _, rfl, _, _, rfl, rfl, rfl, ?_⟩
        refine ⟨_, rfl, _, rfl, _, _, rfl, rfl, ?_⟩
        refine ⟨-1, _, rfl, by omega, p8000 (by omega), fun f af H6 df ff s5 => ⟨_, rfl, ?_⟩⟩
        refine lby (E := E0) df (Dn.mono ((s4.trans sT).trans s5) _ _ dx') ff (by omega) (by decide) (by omega) ⟨(zq.cq.2.1 t ht).2.1.1 n (List.mem_of_getElem? en1), zq.zt t ht n (List.mem_of_getElem? en1)⟩ o c1 (by omega) fun m z H7 dz nz ez s6 => ?_
        refine kk _ m H7 dz ⟨nz, fun d => ?_⟩ (sT.trans (s5.trans s6))
        unfold cr
        rw [ez, getD_at en1]
      · have lac : acc.length = ns.length := by rw [d3.length, List.length_map]
        have s34 := s3.trans s4
        have f5 := s34 _ _ f2
        have rt5 : RwT (fun b => b ≠ pl_) H4 kvs ts := rt2.move (fun _ h => h) (fun b xs _ e => s34 _ _ e) (Same.tups s34)
        have nin : t.1 ∉ ts.map (·.1) := by
          rw [ek, List.map_take]
          intro m
          exact bf_irr ((pw_take zq.cq.2.pw (show (q.2.map (·.1))[i]? = some t.1 by rw [List.getElem?_map, et]; rfl)).1 _ m) rfl
        have nDp : D' ≠ pl_ := (ne_of_none (s3 _ _ hP') hD).symm
        refine ⟨_, rfl, _, rfl, rw_, _, rfl, DPut.t (k := kyP t.1) f5 (s34 _ _ (t2 _ _ (s1 _ _ hap))) (by rw [rt.length]; exact small1000 (by omega)), ?_⟩
        have rt6 := rwt_put (p := t.1) (n := ns) f5 rt5 nDp e3 d3
        rw [putR_new nin] at rt6
        have tpd := dt_tups (o := .dT (putK kvs (kyP t.1) (.ref D'))) f5
        refine ⟨_, _, accP', _, _, rfl, ?_, ?_, lP', upd_same, rt6, ?_, fun j t1 e => ?_, fun b o' e h h' => ?_⟩
        · rw [upd_ne npr]; exact s34 _ _ hP'
        · exact tnA_tups ((Same.tups s34).trans tpd) _ _ (tn_maps encPw_tn _) dP'
        · rw [List.map_append, ek, List.take_add_one, et, List.map_append]
          rfl
        · rcases Nat.lt_or_ge j ts.length with c | c
          · rw [List.getElem?_append_left c] at e
            exact at_ j t1 e
          · rw [List.getElem?_append_right c] at e
            have ej : j - ts.length = 0 := by
              rcases Nat.eq_zero_or_pos (j - ts.length) with z | z
              · exact z
              · rw [List.getElem?_eq_none (show [(t.1, ns)].length ≤ _ from z)] at e; cases e
            rw [ej] at e
            cases e
            have : j = i := by omega
            subst this
            refine ⟨t, ns, et, rfl, by omega, fun n hn' => ?_, fun k' d => ?_⟩
            · obtain ⟨j', hj'⟩ := List.mem_iff_getElem?.mp hn'
              exact (hn j' n hj').1
            · rcases Nat.lt_or_ge k' ns.length with c2 | c2
              · show co (ns.getD k' []) d = _
                rw [getD_at (List.getElem?_eq_getElem c2)]
                exact (hn k' _ (List.getElem?_eq_getElem c2)).2 d
              · rw [cr_off c2, cr_off (by omega), Rat.mul_zero]
        · rw [upd_ne h']
          exact s34 _ _ (kk2 _ _ (kk0 _ _ e h h') h)
    · rintro σ H1 ⟨x3, x4, accP, kvs, ts, rfl, hP, dP, lP, f1, rt, ek, at_, kk0⟩
      rw [lx, List.take_length] at ek dP
      have sH1 : Same H H1 := fun b o e => kk0 _ _ (s0 _ _ e) (ne_of_none e hpl) (ne_of_none e hrwH)
      refine ⟨_, rfl, .inr (.inl ⟨a, _, _, .ref a1, rfl, rfl, SqT.of (sH1 _ _ ea), rfl, a1, xs1, rfl, .inr ⟨SqT.of (sH1 _ _ e1), fun D hD => lc_enc (enc := encN) encN_tn walk_enumT (fun H' s' => SqT.of (s' _ _ (sH1 _ _ e1))) (fun j m => CN ok m ∧ ∀ d, co m d = Rat.divInt 1 ((j : Int) + 1) * cr q.1 j d) (by omega) hD (fun j x H2 H3 Q' hj s4 y kk => ?_) fun accW nW H5 w1 w2 w3 w4 sW => ?_⟩⟩)⟩
      · obtain ⟨T_, x1, x2', rfl, nT, rfl, ee, ex⟩ := y
        cases (Option.some.inj ee)
        obtain ⟨n, en⟩ : ∃ n, q.1[j]? = some n := ⟨_, List.getElem?_eq_getElem (by omega)⟩
        obtain ⟨x', ex', dx'⟩ := row_at r1 en
        rw [show xs1[j]? = some x2' from ex] at ex'
        cases ex'
        have sT := snew (o := .tup [.int (j : Nat), x2']) nT
        refine ⟨T_, _, rfl, SqT.of upd_same, rfl, _, _, rfl, _, _, rfl, rfl, rfl, ?_⟩
        refine ⟨_, rfl, _, _, rfl, rfl, ?_⟩
        refine ⟨1, _, rfl, by omega, p8000 (by omega), fun f af H4 df ff s5 => ⟨_, rfl, ?_⟩⟩
        refine lby (E := E0) df (Dn.mono (((sH1.trans s4).trans sT).trans s5) _ _ dx') ff (by omega) (by decide) (by omega) ⟨zq.cq.1.1 n (List.mem_of_getElem? en), zq.zw n (List.mem_of_getElem? en)⟩ o c1 (by omega) fun m z H6 dz nz ez s6 => ?_
        refine kk _ m H6 dz ⟨nz, fun d => ?_⟩ (sT.trans (s5.trans s6))
        unfold cr
        rw [ez, getD_at en]
      have lW : accW.length = nW.length := by rw [w2.length, List.length_map]
      refine ⟨_, rfl, pl_, accP, rfl, .inl ⟨SqL.of (sW _ _ hP), fun pt hpt => ?_⟩⟩
      have sP := snew (o := .tup accP) hpt
      refine ⟨Nat.zero_le _, fun p0 hp0 => ⟨s1z, fun l0 hl0 => ?_⟩⟩
      have t1 := snew (o := .tup []) hp0
      have t2 := snew (o := .lst [.ref p0]) hl0
      have ept := (t1.trans t2) _ _ (upd_same (H := H5) (a := pt) (o := .tup accP))
      have ep0 := t2 _ _ (upd_same (H := upd H5 pt (.tup accP)) (a := p0) (o := .tup []))
      have el0 := upd_same (H := upd (upd H5 pt (.tup accP)) p0 (.tup [])) (a := l0) (o := .lst [.ref p0])
      have s5 := sP.trans (t1.trans t2)
      refine ⟨_, rfl, l0, D, [.ref p0], accW, rfl, rfl, el0, s5 _ _ w1, ?_, fun z hz => ?_⟩
      · show 1 + accW.length ≤ sizeLine
        exact Nat.le_of_lt (small1000 (by omega))
      have s6 := snew (o := .lst ([.ref p0] ++ accW)) hz
      have s56 := s5.trans s6
      have sall := sW.trans s56
      have dz : DnAll _ ([.ref p0] ++ accW) (([] :: nW).map encN) := .cons (.tup (s6 _ _ ep0) .nil) (DnAll.mono s56 _ _ w2)
      refine ⟨_, rfl, z, rw_, _, [] :: nW, kvs, ts, ok, rfl, .inl (SqL.of upd_same), dz, by show nW.length + 1 ≤ 1000; omega, fun n hn' => ?_, sall _ _ f1, rt.move (fun _ _ => trivial) (fun b xs _ e => sall _ _ e) (Same.tups sall), ?_, ?_, fun t ht => ?_, fun s r H6 ds cs es1 es2 s7 => ⟨s2z, fun pe hpe => ?_⟩⟩
      · rcases List.mem_cons.mp hn' with rfl | hn'
        · exact CN.nil
        · obtain ⟨j, hj⟩ := List.mem_iff_getElem?.mp hn'
          exact (w4 j n hj).1
      · unfold Kp; rw [ek]; exact kpq
      · have := congrArg List.length ek
        rw [List.length_map, List.length_map] at this
        omega
      · obtain ⟨j, hj⟩ := List.mem_iff_getElem?.mp ht
        obtain ⟨x, t', ex, rfl, l', c', _⟩ := at_ j t hj
        have hx := List.mem_of_getElem? ex
        exact ⟨zq.pl x hx, by have := zq.lm x hx; show t'.length ≤ 1000; omega, c'⟩
      · have s8 := snew (o := .tup [.ref pt, .ref r]) hpe
        have s78 := s7.trans s8
        refine k s pe _ _ _ upd_same (.tup (s78 _ _ (s6 _ _ ept)) (DnAll.mono (sall.trans s78) _ _ dP)) (Dn.mono s8 _ _ ds) cs ⟨fun d => by rw [es1]; rfl, fun j d => ?_, fun p' j d => ?_⟩ ((sH1.trans sall).trans s78)
        · rw [es1]
          show cr nW j d = _
          rcases Nat.lt_or_ge j nW.length with c | c
          · show co (nW.getD j []) d = _
            rw [getD_at (List.getElem?_eq_getElem c)]
            exact (w4 j _ (List.getElem?_eq_getElem c)).2 d
          · rw [cr_off c, cr_off (by omega), Rat.mul_zero]
        · have kts : Kp ts := by unfold Kp; rw [ek]; exact kpq
          rw [es2]
          by_cases c : p' ∈ ts.map (·.1)
          · obtain ⟨t, ht, rfl⟩ := List.mem_map.mp c
            obtain ⟨j', hj⟩ := List.mem_iff_getElem?.mp ht
            obtain ⟨x, t', ex, rfl, _, _, ct'⟩ := at_ j' t hj
            have h1 : tl ts x.1 = t' := tl_at (t := (x.1, t')) kts ht
            have h2 : tl q.2 x.1 = x.2 := tl_at kpq (List.mem_of_getElem? ex)
            show cr (tl ts x.1) j d = Rat.divInt (-1) ((j : Int) + 1) * cr (tl q.2 x.1) (j + 1) d
            rw [h1, h2]
            exact ct' j d
          · have c' : p' ∉ q.2.map (·.1) := by rw [← ek]; exact c
            rw [tl_off c, tl_off c', cr_nil, cr_nil, Rat.mul_zero]
end
end N3

namespace L2
open PySem PySem.Spec PyProof.Rows
/-! ### calls by name -/
/-- how a def of one parameter binds it by name -/
def Bk (K : PySem.W.Frag) (fd : FuncData) (y : Str) : Prop := ∀ (s : Shared) (u : Value), K.In s.heap → BindsTo s fd ⟨[], [(y, u)]⟩ [(y, u)]
/-- two parameters, the second one written first -/
def Bk2 (K : PySem.W.Frag) (fd : FuncData) (y z : Str) : Prop := ∀ (s : Shared) (u v : Value), K.In s.heap → BindsTo s fd ⟨[], [(z, v), (y, u)]⟩ [(y, u), (z, v)]
/-- three parameters, written from the last to the first -/
def Bk3 (K : PySem.W.Frag) (fd : FuncData) (x y z : Str) : Prop := ∀ (s : Shared) (u v w : Value), K.In s.heap → BindsTo s fd ⟨[], [(z, w), (y, v), (x, u)]⟩ [(x, u), (y, v), (z, w)]
section
variable {X : Cx} {CX : CXT} {k : Nat} {f : Addr} {fd : FuncData} {x y z n : Str} {sp : Sp} {E : St → XK} {p pos kp kp2 kp3 : Pos} {e e2 e3 : Expr} {te te2 te3 : TE}
theorem pe_by (F : FnOk X.prog X.w X.K X.mg X.base CX k f fd [y] sp) (hr : Room k X.A) (hm : X.mg n = some (.ref f)) (hk : PySem.W.keepIn X.K (.ref f) = true) (hb : Bk X.K fd y) (hx : ∀ σ, PassesAt CX X σ (E σ)) (he : PE X e te) (hg : Gl X n := by rfl)
    (hdb : (n == ("__debug__" : Str)) = false := by decide) (hall : (backToKw pos (keywordEach [⟨some y, e, kp⟩] X.env)).all (·.1.isSome) = true := by rfl) (hks : (backToKw pos (keywordEach [⟨some y, e, kp⟩] X.env)).filterMap (·.1) = [y] := by rfl)
    (hpl : ((backTo pos (starEach [] X.env)).any (·.1) || (backToKw pos (keywordEach [⟨some y, e, kp⟩] X.env)).any (·.1.isNone)) = false := by rfl) :
    PE X (.Call (.Name n p) [] [⟨some y, e, kp⟩] pos) (fun σ H Q => te σ H fun v H1 => sp [v] H1 Q (E σ)) := by
  refine ⟨fun pins s σ H Q I h => ?_⟩
  refine wpAny_Call_Name_kw (ld_glob I hg hm ?_ hdb)
  refine PySem.W.callWith_KW0 (h₀ := X.base) I.ok.mod.kin hk hall ?_ hpl
  have kk : PK X [⟨some y, e, kp⟩] (tCons te tNil) := pk_cons he pk_nil
  refine thn (kk.run pos pins s σ H (fun vs H1 => sp vs H1 Q (E σ)) I h) fun ws s1 ⟨vs, H1, I1, rz, q1⟩ => ⟨I1.kIn, ?_⟩
  have len := F.len _ _ _ _ q1
  obtain ⟨v, rfl⟩ : ∃ v, vs = [v] := by
    match vs, len with
    | [a], _ => exact ⟨a, rfl⟩
  obtain ⟨u, rfl, r1⟩ := vals1 rz
  rw [hks]
  show wpAny _ _ (call (.ref f) [] [(y, u)]) _ _ _
  refine wpAny_call (codeAny_mono (F.run X.A X.stack s1 H1 ⟨[], [(y, u)]⟩ [u] [v] Q (E σ) hr I1.env0 (hb s1 u I1.kIn) (.cons r1 .nil) q1) fun r s' hq => ?_)
  cases r with
  | error er => exact hx σ pins H1 s1 er s' I1 hq
  | ok fl =>
    cases fl with
    | ret w => exact I1.after hq
    | next => exact False.elim hq
    | brk => exact False.elim hq
    | cont => exact False.elim hq
def turn2 : List V → List V
  | [a, b] => [b, a]
  | _ => []
/-- f(z=e2, y=e) for a def f(y, z) -/
theorem pe_by2 (F : FnOk X.prog X.w X.K X.mg X.base CX k f fd [y, z] sp) (hr : Room k X.A) (hm : X.mg n = some (.ref f)) (hk : PySem.W.keepIn X.K (.ref f) = true) (hb : Bk2 X.K fd y z) (hx : ∀ σ, PassesAt CX X σ (E σ)) (he2 : PE X e2 te2) (he : PE X e te) (hg : Gl X n := by rfl)
    (hdb : (n == ("__debug__" : Str)) = false := by decide) (hall : (backToKw pos (keywordEach [⟨some z, e2, kp2⟩, ⟨some y, e, kp⟩] X.env)).all (·.1.isSome) = true := by rfl) (hks : (backToKw pos (keywordEach [⟨some z, e2, kp2⟩, ⟨some y, e, kp⟩] X.env)).filterMap (·.1) = [z, y] := by rfl)
    (hpl : ((backTo pos (starEach [] X.env)).any (·.1) || (backToKw pos (keywordEach [⟨some z, e2, kp2⟩, ⟨some y, e, kp⟩] X.env)).any (·.1.isNone)) = false := by rfl) :
    PE X (.Call (.Name n p) [] [⟨some z, e2, kp2⟩, ⟨some y, e, kp⟩] pos) (fun σ H Q => te2 σ H fun v2 H1 => te σ H1 fun v H2 => sp [v, v2] H2 Q (E σ)) := by
  refine ⟨fun pins s σ H Q I h => ?_⟩
  refine wpAny_Call_Name_kw (ld_glob I hg hm ?_ hdb)
  refine PySem.W.callWith_KW0 (h₀ := X.base) I.ok.mod.kin hk hall ?_ hpl
  have kk : PK X [⟨some z, e2, kp2⟩, ⟨some y, e, kp⟩] (tCons te2 (tCons te tNil)) := pk_cons he2 (pk_cons he pk_nil)
  refine thn (kk.run pos pins s σ H (fun vs H1 => sp (turn2 vs) H1 Q (E σ)) I h) fun ws s1 ⟨vs, H1, I1, rz, q1⟩ => ⟨I1.kIn, ?_⟩
  have len := F.len _ _ _ _ q1
  obtain ⟨v2, v, rfl⟩ : ∃ v2 v, vs = [v2, v] := by
    match vs, len with
    | [a, b], _ => exact ⟨a, b, rfl⟩
  obtain ⟨u2, u, rfl, r2, r1⟩ := vals2 rz
  rw [hks]
  show wpAny _ _ (call (.ref f) [] [(z, u2), (y, u)]) _ _ _
  refine wpAny_call (codeAny_mono (F.run X.A X.stack s1 H1 ⟨[], [(z, u2), (y, u)]⟩ [u, u2] [v, v2] Q (E σ) hr I1.env0 (hb s1 u u2 I1.kIn) (.cons r1 (.cons r2 .nil)) q1) fun r s' hq => ?_)
  cases r with
  | error er => exact hx σ pins H1 s1 er s' I1 hq
  | ok fl =>
    cases fl with
    | ret w => exact I1.after hq
    | next => exact False.elim hq
    | brk => exact False.elim hq
    | cont => exact False.elim hq
def turn3 : List V → List V
  | [a, b, c] => [c, b, a]
  | _ => []
/-- f(z=e3, y=e2, x=e) for a def f(x, y, z) -/
theorem pe_by3 (F : FnOk X.prog X.w X.K X.mg X.base CX k f fd [x, y, z] sp) (hr : Room k X.A) (hm : X.mg n = some (.ref f)) (hk : PySem.W.keepIn X.K (.ref f) = true) (hb : Bk3 X.K fd x y z) (hx : ∀ σ, PassesAt CX X σ (E σ)) (he3 : PE X e3 te3) (he2 : PE X e2 te2) (he : PE X e te) (hg : Gl X n := by rfl)
    (hdb : (n == ("__debug__" : Str)) = false := by decide) (hall : (backToKw pos (keywordEach [⟨some z, e3, kp3⟩, ⟨some y, e2, kp2⟩, ⟨some x, e, kp⟩] X.env)).all (·.1.isSome) = true := by rfl) (hks : (backToKw pos (keywordEach [⟨some z, e3, kp3⟩, ⟨some y, e2, kp2⟩, ⟨some x, e, kp⟩] X.env)).filterMap (·.1) = [z, y, x] := by rfl)
    (hpl : ((backTo pos (starEach [] X.env)).any (·.1) || (backToKw pos (keywordEach [⟨some z, e3, kp3⟩, ⟨some y, e2, kp2⟩, ⟨some x, e, kp⟩] X.env)).any (·.1.isNone)) = false := by rfl) :
    PE X (.Call (.Name n p) [] [⟨some z, e3, kp3⟩, ⟨some y, e2, kp2⟩, ⟨some x, e, kp⟩] pos) (fun σ H Q => te3 σ H fun v3 H1 => te2 σ H1 fun v2 H2 => te σ H2 fun v H3 => sp [v, v2, v3] H3 Q (E σ)) := by
  refine ⟨fun pins s σ H Q I h => ?_⟩
  refine wpAny_Call_Name_kw (ld_glob I hg hm ?_ hdb)
  refine PySem.W.callWith_KW0 (h₀ := X.base) I.ok.mod.kin hk hall ?_ hpl
  have kk : PK X [⟨some z, e3, kp3⟩, ⟨some y, e2, kp2⟩, ⟨some x, e, kp⟩] (tCons te3 (tCons te2 (tCons te tNil))) := pk_cons he3 (pk_cons he2 (pk_cons he pk_nil))
  refine thn (kk.run pos pins s σ H (fun vs H1 => sp (turn3 vs) H1 Q (E σ)) I h) fun ws s1 ⟨vs, H1, I1, rz, q1⟩ => ⟨I1.kIn, ?_⟩
  have len := F.len _ _ _ _ q1
  obtain ⟨v3, v2, v, rfl⟩ : ∃ v3 v2 v, vs = [v3, v2, v] := by
    match vs, len with
    | [a, b, c], _ => exact ⟨a, b, c, rfl⟩
  cases rz with
  | cons r3 rz =>
    obtain ⟨u2, u, rfl, r2, r1⟩ := vals2 rz
    rw [hks]
    show wpAny _ _ (call (.ref f) [] [(z, _), (y, u2), (x, u)]) _ _ _
    refine wpAny_call (codeAny_mono (F.run X.A X.stack s1 H1 ⟨[], [(z, _), (y, u2), (x, u)]⟩ [u, u2, _] [v, v2, v3] Q (E σ) hr I1.env0 (hb s1 u u2 _ I1.kIn) (.cons r1 (.cons r2 (.cons r3 .nil))) q1) fun r s' hq => ?_)
    cases r with
    | error er => exact hx σ pins H1 s1 er s' I1 hq
    | ok fl =>
      cases fl with
      | ret w => exact I1.after hq
      | next => exact False.elim hq
      | brk => exact False.elim hq
      | cont => exact False.elim hq
end
end L2

namespace N3
open PySem PySem.Spec PyProof.Rows L2 N2
/-! ### what a writing tells -/
theorem pw_keys : ∀ {L : List Tl} {p : Pl}, p ∉ L.map (·.1) → p ∉ (pqT (pwOf L)).map (·.1)
  | [], _, _ => by simp [pwOf, pqT]
  | t :: L, p, h => by
    rw [List.map_cons, List.mem_cons, not_or] at h
    have ih := pw_keys h.2
    show p ∉ (pqT ((if t.2.getD 0 [] = [] then [] else [(t.1, t.2.getD 0 [])]) ++ pwOf L)).map (·.1)
    split
    · exact ih
    · show p ∉ t.1 :: (pqT (pwOf L)).map (·.1)
      rw [List.mem_cons, not_or]
      exact ⟨h.1, ih⟩
theorem pq_up : ∀ (pw : List (Pl × Nm)) (p : Pl) (k : Nat) (d : Int), cr (tl (pqT pw) p) (k + 1) d = 0
  | [], p, k, d => cr_nil _ _
  | x :: pw, p, k, d => by
    show cr (if x.1 = p then [x.2] else tl (pqT pw) p) (k + 1) d = 0
    split
    · exact cr_off (by show 1 ≤ k + 1; omega) d
    · exact pq_up pw p k d
theorem pw_first : ∀ {L : List Tl} {p : Pl}, Kp L → ∀ d, cr (tl (pqT (pwOf L)) p) 0 d = cr (tl L p) 0 d
  | [], p, _, d => rfl
  | t :: L, p, h, d => by
    unfold Kp at h
    rw [List.map_cons, List.nodup_cons] at h
    have ih := pw_first (p := p) h.2 d
    show cr (tl (pqT ((if t.2.getD 0 [] = [] then [] else [(t.1, t.2.getD 0 [])]) ++ pwOf L)) p) 0 d = cr (if t.1 = p then t.2 else tl L p) 0 d
    by_cases c : t.1 = p
    · rw [if_pos c]
      split
      · next z =>
        have nin : p ∉ (pqT (pwOf L)).map (·.1) := pw_keys (by rw [← c]; exact h.1)
        show cr (tl (pqT (pwOf L)) p) 0 d = co (t.2.getD 0 []) d
        rw [tl_off nin, cr_nil, z]
        rfl
      · show cr (if t.1 = p then [t.2.getD 0 []] else tl (pqT (pwOf L)) p) 0 d = _
        rw [if_pos c]
        rfl
    · rw [if_neg c]
      split
      · exact ih
      · show cr (if t.1 = p then [t.2.getD 0 []] else tl (pqT (pwOf L)) p) 0 d = _
        rw [if_neg c]
        exact ih
theorem pw_mem : ∀ {L : List Tl} {x : Pl × Nm}, x ∈ pwOf L → ∃ t ∈ L, x.1 = t.1 ∧ x.2 = t.2.getD 0 [] ∧ x.2 ≠ []
  | [], x, h => by simp [pwOf] at h
  | t :: L, x, h => by
    rcases List.mem_append.mp (show x ∈ (if t.2.getD 0 [] = [] then [] else [(t.1, t.2.getD 0 [])]) ++ pwOf L from h) with h | h
    · split at h
      · simp at h
      · next c =>
        rw [List.mem_singleton.mp h]
        exact ⟨t, List.mem_cons_self, rfl, rfl, c⟩
    · obtain ⟨s, hs, e⟩ := pw_mem h
      exact ⟨s, List.mem_cons_of_mem _ hs, e⟩
theorem pw_len : ∀ (L : List Tl), (pwOf L).length ≤ L.length
  | [] => Nat.le_refl _
  | t :: L => by
    show ((if t.2.getD 0 [] = [] then [] else [(t.1, t.2.getD 0 [])]) ++ pwOf L).length ≤ L.length + 1
    rw [List.length_append]
    have := pw_len L
    split
    · show 0 + _ ≤ _; omega
    · show 1 + _ ≤ _; omega
theorem pw_cts {ok : Int → Prop} : ∀ {L : List Tl}, CTs ok L → CTs ok (pqT (pwOf L))
  | [], _ => CTs.nil
  | t :: L, h => by
    have ih := pw_cts h.tail
    obtain ⟨pt, ct, _⟩ := h.1 t List.mem_cons_self
    show CTs ok (pqT ((if t.2.getD 0 [] = [] then [] else [(t.1, t.2.getD 0 [])]) ++ pwOf L))
    split
    · exact ih
    · next c =>
      refine ⟨fun s hs => ?_, nb_mk (fun s hs => ?_) ih.2⟩
      · rcases List.mem_cons.mp hs with rfl | hs
        · refine ⟨pt, ⟨fun n hn => ?_, fun z => ?_⟩, by simp⟩
          · rw [List.mem_singleton.mp hn]; exact ct.at_ 0
          · have : t.2.getD 0 [] = [] := by simpa using z
            exact c this
        · exact ih.1 s hs
      · obtain ⟨x, hx, rfl⟩ := List.mem_map.mp hs
        obtain ⟨u, hu, e, _⟩ := pw_mem hx
        show before t.1 x.1
        rw [e]
        exact h.up u hu
/-- the powers of a quotient as a quotient -/
theorem pw_qz {ok : Int → Prop} {C W M T : Nat} {q : Qt} (h : QZ ok C W M T q) : QZ ok C 0 1 T (pqOf (pwOf q.2)) := by
  refine ⟨⟨CR.nil, pw_cts h.cq.2⟩, Nat.le_refl _, ?_, fun t ht => ?_, fun n hn => by simp [pqOf] at hn, fun t ht n hn => ?_, fun t ht => ?_⟩
  · have := pw_len q.2
    have := h.lt
    show (pqT (pwOf q.2)).length ≤ T
    rw [pqT_len]; omega
  · obtain ⟨x, _, rfl⟩ := List.mem_map.mp ht
    exact Nat.le_refl _
  · obtain ⟨x, hx, rfl⟩ := List.mem_map.mp ht
    obtain ⟨u, hu, _, e2, ne⟩ := pw_mem hx
    rw [List.mem_singleton.mp hn, e2]
    rw [List.getD_eq_getElem?_getD]
    cases c : u.2[0]? with
    | none => exact fun y hy => by simp at hy
    | some n' => exact h.zt u hu n' (List.mem_of_getElem? c)
  · obtain ⟨x, hx, rfl⟩ := List.mem_map.mp ht
    obtain ⟨u, hu, e, _⟩ := pw_mem hx
    show SPl x.1
    rw [e]
    exact h.pl u hu
theorem one_fr (k : Nat) : Rat.divInt ((k : Int) + 1) 1 * Rat.divInt 1 ((k : Int) + 1) = 1 := by
  rw [Rat.divInt_mul_divInt]
  have : Rat.divInt 1 1 = 1 := rfl
  rw [← this]
  exact frac_same (by omega) (by decide) (by omega)
theorem neg_fr (k : Nat) : Rat.divInt (-(k : Int) - 1) 1 * Rat.divInt (-1) ((k : Int) + 1) = 1 := by
  rw [Rat.divInt_mul_divInt]
  have : Rat.divInt 1 1 = 1 := rfl
  rw [← this]
  exact frac_same (by omega) (by decide) (by omega)
theorem one_fr' (k : Nat) : Rat.divInt 1 ((k : Int) + 1) * Rat.divInt ((k : Int) + 1) 1 = 1 := by rw [Rat.mul_comm]; exact one_fr k
theorem neg_fr' (k : Nat) : Rat.divInt (-1) ((k : Int) + 1) * Rat.divInt (-(k : Int) - 1) 1 = 1 := by rw [Rat.mul_comm]; exact neg_fr k
/-- the quotient of a writing is the quotient -/
theorem writ_back {ok : Int → Prop} {q g g' s : Qt} (hq : CQ ok q) (hs : CQ ok s) (qi : QInt q g) (sl : QSlo g g') (qs : QSum (pqOf (pwOf q.2)) g' s) : s = q := by
  refine q_inj hs hq (fun k d => ?_) fun p k d => ?_
  · rw [qs.1, sl.1, qi.2.1, ← Rat.mul_assoc, one_fr, Rat.one_mul]
    show cr [] k d + _ = _
    rw [cr_nil, Rat.zero_add]
  · rw [qs.2]
    show cr (tl (pqT (pwOf q.2)) p) k d + _ = _
    cases k with
    | zero => rw [(sl.2 p d).1, Rat.add_zero, pw_first hq.2.kp]
    | succ k => rw [pq_up, (sl.2 p d).2, qi.2.2, ← Rat.mul_assoc, neg_fr, Rat.one_mul, Rat.zero_add]
theorem int_same {ok : Int → Prop} {q g h : Qt} (hg : CQ ok g) (hh : CQ ok h) (a : QInt q g) (b : QInt q h) : g = h := by
  refine q_inj hg hh (fun k d => ?_) fun p k d => ?_
  · cases k with
    | zero => rw [a.1, b.1]
    | succ k => rw [a.2.1, b.2.1]
  · rw [a.2.2, b.2.2]
theorem int_zero {ok : Int → Prop} {g : Qt} (hg : CQ ok g) (z : ∀ d, cr g.1 0 d = 0) : g.1 = [] ∨ g.1[0]? = some [] := by
  have : g.1.getD 0 [] = [] := co_zero (hg.1.at_ 0) z
  rw [List.getD_eq_getElem?_getD] at this
  cases c : g.1[0]? with
  | none => exact .inl (List.length_eq_zero_iff.mp (by rw [List.getElem?_eq_none_iff] at c; omega))
  | some n =>
    rw [c] at this
    exact .inr (by show some n = some []; rw [show n = [] from this])
theorem bits_div {C : Nat} {x : Int} {k : Nat} {t b : Int} (hx : x = 1 ∨ x = -1) (hk : k < 60) (b0 : b ≠ 0) (bt : t.natAbs < 2 ^ C) (bb : b.natAbs < 2 ^ C) : ∃ u v : Int, v ≠ 0 ∧ Rat.divInt x ((k : Int) + 1) * Rat.divInt t b = Rat.divInt u v ∧ u.natAbs < 2 ^ (C + 6) ∧ v.natAbs < 2 ^ (C + 6) := by
  refine ⟨x * t, ((k : Int) + 1) * b, Int.mul_ne_zero (by omega) b0, Rat.divInt_mul_divInt _ _, ?_, ?_⟩
  · rw [Nat.add_comm]; exact mul_bit (show x.natAbs < 2 ^ 6 by rcases hx with rfl | rfl <;> decide) bt
  · rw [Nat.add_comm]; exact mul_bit (show ((k : Int) + 1).natAbs < 2 ^ 6 by show _ < 64; omega) bb
theorem qz_int {ok : Int → Prop} {C W M T : Nat} {q g : Qt} (hq : QZ ok C W M T q) (hC : 1 ≤ C) (hW : W ≤ 60) (hM : M ≤ 60) (hg : CQ ok g) (e : QInt q g) : QZ ok (C + 6) (W + 1) M T g := by
  have zero : ∃ t b : Int, b ≠ 0 ∧ (0 : Rat) = Rat.divInt t b ∧ t.natAbs < 2 ^ (C + 6) ∧ b.natAbs < 2 ^ (C + 6) := by
    have : 2 ^ 1 ≤ 2 ^ (C + 6) := Nat.pow_le_pow_right (by decide) (by omega)
    exact ⟨0, 1, by decide, (Rat.zero_divInt _).symm, by show 0 < _; omega, by show 1 < _; omega⟩
  have z := qz_of (C := C + 6) (W := W + 1) (M := M) (q.2.map (·.1)) hg (fun p hp => ?_) (fun k hk d => ?_) (fun p k hk d => ?_) (fun k d => ?_) (fun p k d => ?_) (fun p hp k d => ?_)
  · refine ⟨z.cq, z.lw, Nat.le_trans z.lt ?_, z.lm, z.zw, z.zt, z.pl⟩
    rw [List.length_map]
    exact hq.lt
  · obtain ⟨t, ht, rfl⟩ := List.mem_map.mp hp
    exact hq.pl t ht
  · obtain ⟨k, rfl⟩ : ∃ j, k = j + 1 := ⟨k - 1, by omega⟩
    rw [e.2.1, cr_off (by have := hq.lw; omega), Rat.mul_zero]
  · rw [e.2.2, cr_off (by have := (hq.row p).2.1; omega), Rat.mul_zero]
  · cases k with
    | zero => rw [e.1]; exact zero
    | succ k =>
      rw [e.2.1]
      rcases Nat.lt_or_ge k q.1.length with c | c
      · obtain ⟨t, b, b0, e1, bt, bb⟩ := row_co hq.cq.1 hq.zw hC k d
        rw [e1]
        exact bits_div (.inl rfl) (by have := hq.lw; omega) b0 bt bb
      · rw [cr_off c, Rat.mul_zero]; exact zero
  · rw [e.2.2]
    rcases Nat.lt_or_ge (k + 1) (tl q.2 p).length with c | c
    · obtain ⟨t, b, b0, e1, bt, bb⟩ := row_co (hq.row p).1 (hq.row p).2.2 hC (k + 1) d
      rw [e1]
      exact bits_div (.inr rfl) (by have := (hq.row p).2.1; omega) b0 bt bb
    · rw [cr_off c, Rat.mul_zero]; exact zero
  · rw [e.2.2, tl_off hp, cr_nil, Rat.mul_zero]
end N3

namespace N3
open PySem PySem.Spec PyProof.Rows L2 N2
/-! ### the law's look at a writing -/
theorem gw_pws {ok : Int → Prop} (o : OkD ok) {C W M : Nat} (hC : C ≤ 60) {pw : List (Pl × Nm)} (z : QZ ok C W M 10 (pqOf pw)) : GW 69993 4 (.tuple (pw.map encPw)) := by
  refine (gw_map (enc := encPw) (m := 6997) (n := 3) (k := 10) (fun x hx => ?_) (by have := z.lt; rw [← pqT_len]; exact this)).mono (by decide) (by decide)
  have hm : (x.1, [x.2]) ∈ (pqOf pw).2 := List.mem_map.mpr ⟨x, hx, rfl⟩
  have pl := z.pl _ hm
  have gp : GW 3495 2 (encPl x.1) := (gw_two (m := 61) (n := 0) (gw_bit (by have := pl.1; show x.1.1.natAbs < _; have : x.1.1.natAbs ≤ 20 := pl.1; omega)) (gw_bit (by have h1 : 1 ≤ x.1.2 := pl.2.1; have h2 : x.1.2 ≤ 20 := pl.2.2.1; omega))).mono (by decide) (by decide)
  have gn : GW 3495 2 (encN x.2) := gw_num o hC ((z.cq.2.1 _ hm).2.1.1 x.2 List.mem_cons_self) (z.zt _ hm x.2 List.mem_cons_self)
  exact gw_two gp gn
def spLWR : Sp := fun vs H Q _ => ∃ (u : V) (q : Qt) (C : Nat) (ok : Int → Prop), vs = [u] ∧ Dn H u (encQ q) ∧ QZ ok C 19 10 10 q ∧ OkD ok ∧ 1 ≤ C ∧ C ≤ 50 ∧ ∀ H', Same H H' → Q (.bl true) H'
section
variable {P : Program} {w : World} {K : PySem.W.Frag} {mg : Str → Option Value} {base : Heap}
abbrev s__law_is_written_right : Stmt := top 75
abbrev nsLWR : List Str := ["quotient", "due"]
theorem sc__law_is_written_right : FnScope nsLWR ["quotient"] (defScope s__law_is_written_right) := ⟨rfl, rfl, rfl, by decide +kernel, rfl, by decide +kernel, by decide +kernel⟩
theorem ok__law_is_written_right {f f__law_written f__law_same f_writing f_quotient_of : Addr} {fd d__law_written d__law_same d_writing d_quotient_of : FuncData} (sy : Sy base) (nk_writing : Bk K d_writing "quotient") (nk2_quotient_of : Bk2 K d_quotient_of "powers" "g") (F : Fun K "_law_is_written_right" "_law_is_written_right" s__law_is_written_right f fd) (T : Bt mg) (l_written : Kn P w K mg base 4 "_law_written" ["quotient"] spLWrit f__law_written d__law_written) (l_same : KnG P w K mg base 1 "_law_same" ["told", "due"] spSame f__law_same d__law_same) (p_writing : Kn P w K mg base 11 "writing" ["quotient"] spWriting f_writing d_writing) (p_quotient_of : Kn P w K mg base 11 "quotient_of" ["powers", "g"] spQOf f_quotient_of d_quotient_of) : FnG P w K mg base 12 f fd ["quotient"] spLWR := by
  refine fn_idle F sc__law_is_written_right (fun vs H Q E h => ?_) (fun cdv A outer s H vs Q hr hi h => ?_)
  · obtain ⟨u, q, C, ok, rfl, _⟩ := h
    rfl
  · obtain ⟨u, q, C, ok, rfl, hu0, zq, o, c1, c50, k⟩ := h
    have at0 : ∀ {X : Cx} (σ : L2.St), PassesAt CX0 X σ E0 := fun σ pins H s e s' I c => pass0 pins σ H s e s' I c
    refine ⟨_, pss_cons (ps_set (i := 1) sc__law_is_written_right.nd rfl (Or.inl rfl) (pe_call l_written.ok (hr.mono (by decide)) rfl l_written.mg l_written.kp l_written.bd .nil pass0 (pa_cons (pv 0) pa_nil)))
      (pss_cons (ps_if (PW.pt (pw_or (pt_not (pt_val (pe_idle l_same.ok (hr.mono (by decide)) hi l_same.mg l_same.kp l_same.bd (pa_cons (pe_call p_writing.ok (hr.mono (by decide)) rfl p_writing.mg p_writing.kp p_writing.bd .nil pass0 (pa_cons (pv 0) pa_nil)) (pa_cons (pv 1) pa_nil))))) (pw_or1 (pt_not (pt_val (pe_idle l_same.ok (hr.mono (by decide)) hi l_same.mg l_same.kp l_same.bd (pa_cons (pe_by p_writing.ok (hr.mono (by decide)) p_writing.mg p_writing.kp nk_writing at0 (pv 0)) (pa_cons (pv 1) pa_nil))))))))
        (pss_one (ps_ret pe_bl))
        pss_nil)
      (pss_cons (ps_if (pt_not (pt_val (pe_idle l_same.ok (hr.mono (by decide)) hi l_same.mg l_same.kp l_same.bd (pa_cons (pe_call p_quotient_of.ok (hr.mono (by decide)) rfl p_quotient_of.mg p_quotient_of.kp p_quotient_of.bd .nil pass0 (pa_cons (pe_ix (r := rIx K) ix_seq (pv 1) pe_int (fun _ _ => rfl)) (pa_cons (pe_ix (r := rIx K) ix_seq (pv 1) pe_int (fun _ _ => rfl)) pa_nil))) (pa_cons (pv 0) pa_nil)))))
        (pss_one (ps_ret pe_bl))
        pss_nil)
      (pss_one (ps_ret (pe_idle l_same.ok (hr.mono (by decide)) hi l_same.mg l_same.kp l_same.bd (pa_cons (pe_by2 p_quotient_of.ok (hr.mono (by decide)) p_quotient_of.mg p_quotient_of.kp nk2_quotient_of at0 (pe_ix (r := rIx K) ix_seq (pv 1) pe_int (fun _ _ => rfl)) (pe_ix (r := rIx K) ix_seq (pv 1) pe_int (fun _ _ => rfl))) (pa_cons (pv 0) pa_nil))))))), ?_⟩
    have zq20 : QZ ok C 20 10 10 q := zq.mono (Nat.le_refl _) (by decide) (by decide) (by decide)
    have zpq : QZ ok C 20 10 10 (pqOf (pwOf q.2)) := (pw_qz zq).mono (Nat.le_refl _) (by decide) (by decide) (by decide)
    refine ⟨_, rfl, u, q, C, ok, rfl, hu0, zq20, o, c1, by omega, fun g p u1 u2 H1 hp d1 d2 cg qi s1 => ?_⟩
    have zg : QZ ok (C + 6) 20 10 10 g := qz_int zq c1 (by decide) (by decide) cg qi
    have hz := int_zero cg qi.1
    have hu1 := Dn.mono s1 _ _ hu0
    obtain ⟨o1, o2, o3⟩ := shown_ok (gw_two ((gw_pws o (by omega) zpq).mono (by decide) (by decide)) (gw_qz o (by omega) zg)) (by decide) (by decide)
    obtain ⟨q1, q2, q3⟩ := shown_ok (gw_qz o (by omega) zq20) (by decide) (by decide)
    have dd : Dn H1 (.ref p) (.tuple [.tuple ((pwOf q.2).map encPw), encQ g]) := dn_two hp d1 d2
    refine ⟨_, rfl, u, q, C, ok, rfl, hu1, zq20, o, c1, by omega, fun g2 a2 H2 d3 cg2 qi2 s2 => ?_⟩
    have e2 := int_same cg cg2 qi qi2
    subst e2
    refine ⟨_, rfl, .ref a2, .ref p, _, rfl, d3, Dn.mono s2 _ _ dd, o1, o2, o3, ?_⟩
    refine ⟨_, rfl, iteF ?_⟩
    refine ⟨_, rfl, u, q, C, ok, rfl, Dn.mono s2 _ _ hu1, zq20, o, c1, by omega, fun g3 a3 H3 d4 cg3 qi3 s3 => ?_⟩
    have e3 := int_same cg cg3 qi qi3
    subst e3
    have s23 := s2.trans s3
    refine ⟨_, rfl, .ref a3, .ref p, _, rfl, d4, Dn.mono s23 _ _ dd, o1, o2, o3, ?_⟩
    refine ⟨_, rfl, iteF ?_⟩
    have ix0 : ∀ {H' : Hp} {Q' : VK}, Same H1 H' → Q' u1 H' → rIx K (.ref p) (.int 0) H' Q' := fun s q' => .inr (.inl ⟨p, _, _, u1, rfl, rfl, SqT.of (s _ _ hp), rfl, q'⟩)
    have ix1 : ∀ {H' : Hp} {Q' : VK}, Same H1 H' → Q' u2 H' → rIx K (.ref p) (.int 1) H' Q' := fun s q' => .inr (.inl ⟨p, _, _, u2, rfl, rfl, SqT.of (s _ _ hp), rfl, q'⟩)
    refine ⟨_, rfl, ix0 s23 ⟨_, rfl, ix1 s23 ?_⟩⟩
    refine ⟨u1, u2, pwOf q.2, g, C + 6, ok, rfl, Dn.mono s23 _ _ d1, Dn.mono s23 _ _ d2, zpq.mono (by omega) (by decide) (by decide) (by decide), zg, o, by omega, by omega, hz, fun t g' a4 H4 dt ct cg' sl qs s4 => ?_⟩
    have e4 := writ_back zq.cq ct qi sl qs
    subst e4
    have s24 := s23.trans s4
    refine ⟨_, rfl, .ref a4, u, _, rfl, dt, Dn.mono s24 _ _ hu1, q1, q2, q3, ?_⟩
    refine ⟨_, rfl, iteF ?_⟩
    refine ⟨_, rfl, ix1 s24 ⟨_, rfl, ix0 s24 ?_⟩⟩
    refine ⟨u1, u2, pwOf t.2, g, C + 6, ok, rfl, Dn.mono s24 _ _ d1, Dn.mono s24 _ _ d2, zpq.mono (by omega) (by decide) (by decide) (by decide), zg, o, by omega, by omega, hz, fun t2 g2' a5 H5 dt2 ct2 cg2' sl2 qs2 s5 => ?_⟩
    have e5 := writ_back zq.cq ct2 qi sl2 qs2
    subst e5
    have s25 := s24.trans s5
    refine ⟨_, rfl, .ref a5, u, _, rfl, dt2, Dn.mono s25 _ _ hu1, q1, q2, q3, ?_⟩
    exact k _ (s1.trans s25)
end
end N3

namespace N3
open PySem PySem.Spec PyProof.Rows L2 N2 LamX
/-! ### drawn powers and a drawn quotient: what they make -/
theorem nb_take {α : Type} {r : α → α → Prop} {l : List α} (h : Nb r l) (j : Nat) : Nb r (l.take j) := fun i x y hx hy => by
  refine h i x y ?_ ?_
  · rw [List.getElem?_take] at hx
    split at hx
    · exact hx
    · cases hx
  · rw [List.getElem?_take] at hy
    split at hy
    · exact hy
    · cases hy
theorem CTs.takeT {ok : Int → Prop} {ts : List Tl} (h : CTs ok ts) (j : Nat) : CTs ok (ts.take j) := ⟨fun t ht => h.1 t (List.mem_of_mem_take ht), nb_take h.2 j⟩
theorem pqT_take (pw : List (Pl × Nm)) (j : Nat) : pqT (pw.take j) = (pqT pw).take j := List.map_take ..
theorem pqT_inj {a b : List (Pl × Nm)} (h : pqT a = pqT b) : a = b := by
  have h1 := congrArg (List.map fun t : Tl => (t.1, t.2.getD 0 [])) h
  unfold pqT at h1
  rw [List.map_map, List.map_map] at h1
  have e : ((fun t : Tl => (t.1, t.2.getD 0 [])) ∘ fun x : Pl × Nm => (x.1, [x.2])) = id := by
    funext x
    rfl
  rw [e, List.map_id, List.map_id] at h1
  exact h1
theorem sum_step {ok : Int → Prop} {pw : List (Pl × Nm)} {i : Nat} {x : Pl × Nm} {g' di d' : Qt} (hc : CTs ok (pqT pw)) (hx : pw[i]? = some x) (h : QSum (pqOf (pw.take i)) g' di) (k : QSum di (pqOf [x]) d') : QSum (pqOf (pw.take (i + 1))) g' d' := by
  refine ⟨fun j d => ?_, fun p j d => ?_⟩
  · rw [k.1, h.1]
    show cr [] j d + _ + cr [] j d = cr [] j d + _
    rw [cr_nil, Rat.add_zero]
  · rw [k.2, h.2]
    show cr (tl (pqT (pw.take i)) p) j d + _ + cr (tl (pqT [x]) p) j d = cr (tl (pqT (pw.take (i + 1))) p) j d + _
    have k1 : Kp (pqT (pw.take i)) := by rw [pqT_take]; exact (hc.takeT i).kp
    have k2 : Kp (pqT (pw.take (i + 1))) := by rw [pqT_take]; exact (hc.takeT (i + 1)).kp
    have k3 : Kp (pqT [x]) := by unfold Kp; show [x.1].Nodup; simp
    have e : pqT (pw.take (i + 1)) = pqT (pw.take i) ++ pqT [x] := by
      rw [List.take_add_one, hx]
      exact List.map_append ..
    rw [← scT_kp k1, ← scT_kp k2, ← scT_kp k3, e, scT_app, Rat.add_assoc, Rat.add_assoc, Rat.add_comm (scT (pqT [x]) p j d)]
theorem mix_qz {ok : Int → Prop} {C W M T T' : Nat} {pw : List (Pl × Nm)} {g' s : Qt} (hp : QZ ok C 0 1 T (pqOf pw)) (hr : QZ ok C W M T' g') (h0 : ∀ p d, cr (tl g'.2 p) 0 d = 0) (hM : 1 ≤ M) (hC : 1 ≤ C) (hs : CQ ok s) (e : QSum (pqOf pw) g' s) : QZ ok C W M (T + T') s := by
  have z := qz_of (C := C) (W := W) (M := M) ((pqT pw).map (·.1) ++ g'.2.map (·.1)) hs (fun p hp' => ?_) (fun k hk d => ?_) (fun p k hk d => ?_) (fun k d => ?_) (fun p k d => ?_) (fun p hp' k d => ?_)
  · refine ⟨z.cq, z.lw, Nat.le_trans z.lt ?_, z.lm, z.zw, z.zt, z.pl⟩
    rw [List.length_append, List.length_map, List.length_map]
    exact Nat.add_le_add hp.lt hr.lt
  · rcases List.mem_append.mp hp' with h | h <;> obtain ⟨t, ht, rfl⟩ := List.mem_map.mp h
    · exact hp.pl t ht
    · exact hr.pl t ht
  · rw [e.1]
    show cr [] k d + _ = 0
    rw [cr_nil, Rat.zero_add, cr_off (Nat.le_trans hr.lw hk)]
  · rw [e.2, cr_off (Nat.le_trans (hr.row p).2.1 hk), Rat.add_zero]
    exact cr_off (Nat.le_trans (hp.row p).2.1 (by omega)) d
  · rw [e.1]
    show ∃ t b : Int, b ≠ 0 ∧ cr [] k d + _ = _ ∧ _
    rw [cr_nil, Rat.zero_add]
    exact row_co hr.cq.1 hr.zw hC k d
  · rw [e.2]
    cases k with
    | zero =>
      rw [h0, Rat.add_zero]
      exact row_co (hp.row p).1 (hp.row p).2.2 hC 0 d
    | succ k =>
      show ∃ t b : Int, b ≠ 0 ∧ cr (tl (pqT pw) p) (k + 1) d + _ = _ ∧ _
      rw [pq_up, Rat.zero_add]
      exact row_co (hr.row p).1 (hr.row p).2.2 hC (k + 1) d
  · rw [List.mem_append, not_or] at hp'
    rw [e.2]
    show cr (tl (pqT pw) p) k d + _ = 0
    rw [tl_off hp'.1, tl_off hp'.2, cr_nil, Rat.add_zero]
/-- the powers are found again -/
theorem pw_back {ok : Int → Prop} {pw : List (Pl × Nm)} {g g' due : Qt} (hc : CTs ok (pqT pw)) (hd : CQ ok due) (sl : QSlo g g') (qs : QSum (pqOf pw) g' due) : pwOf due.2 = pw := by
  refine pqT_inj (ts_inj (pw_cts hd.2) hc fun p => cr_inj ((pw_cts hd.2).row p) (hc.row p) fun k d => ?_)
  cases k with
  | zero =>
    rw [pw_first hd.2.kp, qs.2, (sl.2 p d).1, Rat.add_zero]
    rfl
  | succ k => rw [pq_up, pq_up]
theorem g_back {ok : Int → Prop} {pw : List (Pl × Nm)} {g g' due g2 : Qt} (hg : CQ ok g) (hg2 : CQ ok g2) (z : g.1 = [] ∨ g.1[0]? = some []) (sl : QSlo g g') (qs : QSum (pqOf pw) g' due) (qi : QInt due g2) : g2 = g := by
  refine q_inj hg2 hg (fun k d => ?_) fun p k d => ?_
  · cases k with
    | zero =>
      rw [qi.1]
      rcases z with z | z
      · rw [z, cr_nil]
      · unfold cr
        rw [getD_at z]
        rfl
    | succ k =>
      rw [qi.2.1, qs.1, sl.1]
      show _ * (cr [] k d + _) = _
      rw [cr_nil, Rat.zero_add, ← Rat.mul_assoc, one_fr', Rat.one_mul]
  · rw [qi.2.2, qs.2]
    show _ * (cr (tl (pqT pw) p) (k + 1) d + _) = _
    rw [pq_up, Rat.zero_add, (sl.2 p d).2, ← Rat.mul_assoc, neg_fr', Rat.one_mul]
theorem pq_qz {pw : List (Pl × Nm)} {T : Nat} (hc : CTs okS (pqT pw)) (h : ∀ x ∈ pw, SPl x.1 ∧ Nu okS 25 x.2) (l : pw.length ≤ T) : QZ okS 25 0 1 T (pqOf pw) := by
  refine ⟨⟨CR.nil, hc⟩, Nat.le_refl _, by show (pqT pw).length ≤ T; rw [pqT_len]; exact l, fun t ht => ?_, fun n hn => by simp [pqOf] at hn, fun t ht n hn => ?_, fun t ht => ?_⟩
  · obtain ⟨x, _, rfl⟩ := List.mem_map.mp ht
    exact Nat.le_refl _
  · obtain ⟨x, hx, rfl⟩ := List.mem_map.mp ht
    rw [List.mem_singleton.mp hn]
    exact (h x hx).2.2
  · obtain ⟨x, hx, rfl⟩ := List.mem_map.mp ht
    exact (h x hx).1
theorem front_qz {g0 : Qt} {C W M T : Nat} (z : QZ okS C W M T g0) (ne : g0.1 ≠ []) : QZ okS C (W + 1) M T ([] :: g0.1, g0.2) := by
  refine ⟨⟨⟨fun n hn => ?_, fun e => ?_⟩, z.cq.2⟩, by show g0.1.length + 1 ≤ W + 1; have := z.lw; omega, z.lt, z.lm, fun n hn => ?_, z.zt, z.pl⟩
  · rcases List.mem_cons.mp hn with rfl | hn
    · exact CN.nil
    · exact z.cq.1.1 n hn
  · refine z.cq.1.2 ?_
    cases h : g0.1 with
    | nil => exact absurd h ne
    | cons x r =>
      have e' : ([] :: g0.1 : List Nm).getLast? = some [] := e
      rw [h] at e'
      rw [List.getLast?_cons_cons] at e'
      exact e'
  · rcases List.mem_cons.mp hn with rfl | hn
    · exact fun x hx => by simp at hx
    · exact z.zw n hn
def spLMR : Sp := fun vs H Q _ => ∃ (dk l pp : Addr) (xs : List V) (ps : List Pl), vs = [.ref dk, .ref pp] ∧ Deck H dk l ∧ H pp = some (.lst xs) ∧ pp ≠ dk ∧ pp ≠ l ∧ DnAll H xs (ps.map encPl) ∧ (∀ p ∈ ps, SPl p) ∧ ps.Nodup ∧ ps.length ≤ 4 ∧
  ∀ H', Deck H' dk l → Keep dk l H H' → Q (.bl true) H'
section
variable {P : Program} {w : World} {K : PySem.W.Frag} {mg : Str → Option Value} {base : Heap}
abbrev s__law_is_made_right : Stmt := top 76
abbrev nsLMR : List Str := ["deck", "poles", "powers", "pole", "number", "g", "due"]
theorem sc__law_is_made_right : FnScope nsLMR ["deck", "poles"] (defScope s__law_is_made_right) := ⟨rfl, rfl, rfl, by decide +kernel, rfl, by decide +kernel, by decide +kernel⟩
theorem ok__law_is_made_right {f f__law_number f__law_draw f__law_quotient f__law_slope f__law_sum f__law_same f_quotient_of f_writing : Addr} {fd d__law_number d__law_draw d__law_quotient d__law_slope d__law_sum d__law_same d_quotient_of d_writing : FuncData} {fK : Addr} (ky : KyOk P w K 232792560 fK) (hmp : mg "_law_place" = some (.ref fK)) (sy : Sy base) (nk2_quotient_of : Bk2 K d_quotient_of "powers" "g") (F : Fun K "_law_is_made_right" "_law_is_made_right" s__law_is_made_right f fd) (T : Bt mg) (l_number : Kn P w K mg base 4 "_law_number" ["deck"] spLNum f__law_number d__law_number) (l_draw : Kn P w K mg base 1 "_law_draw" ["deck", "below"] spDraw f__law_draw d__law_draw) (l_quotient : Kn P w K mg base 6 "_law_quotient" ["deck", "poles", "long", "whole"] spLQuot f__law_quotient d__law_quotient) (l_slope : Kn P w K mg base 4 "_law_slope" ["quotient"] spLSlope f__law_slope d__law_slope) (l_sum : Kn P w K mg base 4 "_law_sum" ["one", "other"] spLSumQ f__law_sum d__law_sum) (l_same : KnG P w K mg base 1 "_law_same" ["told", "due"] spSame f__law_same d__law_same) (p_quotient_of : Kn P w K mg base 11 "quotient_of" ["powers", "g"] spQOf f_quotient_of d_quotient_of) (p_writing : Kn P w K mg base 11 "writing" ["quotient"] spWriting f_writing d_writing) : FnG P w K mg base 13 f fd ["deck", "poles"] spLMR := by
  refine fn_idle F sc__law_is_made_right (fun vs H Q E h => ?_) (fun cdv A outer s H vs Q hr hi h => ?_)
  · obtain ⟨dk, l, pp, xs, ps, rfl, _⟩ := h
    rfl
  · obtain ⟨dk, l, pp, xs, ps, rfl, De, hpp, np1, np2, dps, spl, nd, l4, k⟩ := h
    have at0 : ∀ {X : Cx} (σ : L2.St), PassesAt CX0 X σ E0 := fun σ pins H s e s' I c => pass0 pins σ H s e s' I c
    refine ⟨_, pss_cons (ps_set (i := 2) sc__law_is_made_right.nd rfl (Or.inl rfl) (pe_lst pa_nil))
      (pss_cons (ps_for PassesOwn.never rfl (pi_list (pe_callBK (cr_sortedF ky hr) (by rfl) T.sorted (by decide +kernel) (pa_cons (pv 1) pa_nil) (pk_cons (pe_glob (v := .ref _) rfl hmp rfl) pk_nil))) (pg_name (i := 3) sc__law_is_made_right.nd rfl (Or.inl rfl))
        (pss_cons (ps_set (i := 4) sc__law_is_made_right.nd rfl (Or.inl rfl) (pe_call l_number.ok (hr.mono (by decide)) rfl l_number.mg l_number.kp l_number.bd .nil pass0 (pa_cons (pv 0) pa_nil)))
        (pss_one (ps_if (PW.pt (pw_and (pt_cmpR (op_neD hr.units) (pv 4) (pe_tup pa_nil) (nomark _)) (pw_and1 (pt_cmpR op_gt (pe_call l_draw.ok (hr.mono (by decide)) rfl l_draw.mg l_draw.kp l_draw.bd .nil pass0 (pa_cons (pv 0) (pa_cons pe_int pa_nil))) pe_int (nomark _)))))
          (pss_one (ps_expr (pe_bm PySem.F.plainAttrs_list PySem.F.slot_list_append PySem.F.type_list_append mt_append (pv 2) (pa_cons (pe_tup (pa_cons (pv 3) (pa_cons (pv 4) pa_nil))) pa_nil))))
          pss_nil))))
      (pss_cons (ps_set (i := 5) sc__law_is_made_right.nd rfl (Or.inl rfl) (pe_call l_quotient.ok (hr.mono (by decide)) rfl l_quotient.mg l_quotient.kp l_quotient.bd .nil pass0 (pa_cons (pv 0) (pa_cons (pv 1) (pa_cons pe_int (pa_cons pe_int pa_nil))))))
      (C8.pss_cut (ps_if (pt_cmpR (op_neD hr.units) (pe_ix (r := rIx K) ix_seq (pv 5) pe_int (fun _ _ => rfl)) (pe_tup pa_nil) (nomark _))
        (pss_one (ps_set (i := 5) sc__law_is_made_right.nd rfl (Or.inl rfl) (pe_tup (pa_cons (pe_op op_catA (pe_tup (pa_cons (pe_tup pa_nil) pa_nil)) (pe_ix (r := rIx K) ix_seq (pv 5) pe_int (fun _ _ => rfl))) (pa_cons (pe_ix (r := rIx K) ix_seq (pv 5) pe_int (fun _ _ => rfl)) pa_nil)))))
        pss_nil)
      (pss_cons (ps_set (i := 6) sc__law_is_made_right.nd rfl (Or.inl rfl) (pe_call l_slope.ok (hr.mono (by decide)) rfl l_slope.mg l_slope.kp l_slope.bd .nil pass0 (pa_cons (pv 5) pa_nil)))
      (pss_cons (ps_for PassesOwn.never rfl (pi_list (pv 2)) (pg_tup rfl (pgs_cons (pg_name (i := 3) sc__law_is_made_right.nd rfl (Or.inl rfl)) (pgs_cons (pg_name (i := 4) sc__law_is_made_right.nd rfl (Or.inl rfl)) pgs_nil)))
        (pss_one (ps_set (i := 6) sc__law_is_made_right.nd rfl (Or.inl rfl) (pe_call l_sum.ok (hr.mono (by decide)) rfl l_sum.mg l_sum.kp l_sum.bd .nil pass0 (pa_cons (pv 6) (pa_cons (pe_tup (pa_cons (pe_tup pa_nil) (pa_cons (pe_tup (pa_cons (pe_tup (pa_cons (pv 3) (pa_cons (pe_tup (pa_cons (pv 4) pa_nil)) pa_nil))) pa_nil)) pa_nil))) pa_nil))))))
      (pss_cons (ps_if (pt_not (pt_val (pe_idle l_same.ok (hr.mono (by decide)) hi l_same.mg l_same.kp l_same.bd (pa_cons (pe_call p_quotient_of.ok (hr.mono (by decide)) rfl p_quotient_of.mg p_quotient_of.kp p_quotient_of.bd .nil pass0 (pa_cons (pe_callTy call_tuple_of (by rfl) T.tuple (by decide +kernel) (pa_cons (pv 2) pa_nil)) (pa_cons (pv 5) pa_nil))) (pa_cons (pv 6) pa_nil)))))
        (pss_one (ps_ret pe_bl))
        pss_nil)
      (pss_cons (ps_if (pt_not (pt_val (pe_idle l_same.ok (hr.mono (by decide)) hi l_same.mg l_same.kp l_same.bd (pa_cons (pe_by2 p_quotient_of.ok (hr.mono (by decide)) p_quotient_of.mg p_quotient_of.kp nk2_quotient_of at0 (pv 5) (pe_callTy call_tuple_of (by rfl) T.tuple (by decide +kernel) (pa_cons (pv 2) pa_nil))) (pa_cons (pv 6) pa_nil)))))
        (pss_one (ps_ret pe_bl))
        pss_nil)
      (pss_one (ps_ret (pe_idle l_same.ok (hr.mono (by decide)) hi l_same.mg l_same.kp l_same.bd (pa_cons (pe_call p_writing.ok (hr.mono (by decide)) rfl p_writing.mg p_writing.kp p_writing.bd .nil pass0 (pa_cons (pv 6) pa_nil)) (pa_cons (pe_tup (pa_cons (pe_callTy call_tuple_of (by rfl) T.tuple (by decide +kernel) (pa_cons (pv 2) pa_nil)) (pa_cons (pv 5) pa_nil))) pa_nil)))))))))))), ?_⟩
    have s1z : 1 ≤ sizeLine := by rw [sizeLine_eq]; decide
    have s2z : 2 ≤ sizeLine := by rw [sizeLine_eq]; decide
    have na : ∀ {H' : Hp} {b : Addr}, Deck H' dk l → H' b = none → b ≠ dk ∧ b ≠ l := fun D h => ⟨fun z => D.some1.1 (z ▸ h), fun z => D.some1.2 (z ▸ h)⟩
    have lx : xs.length = ps.length := by rw [dps.length, List.length_map]
    refine ⟨Nat.zero_le _, fun pw_ hpw => ?_⟩
    obtain ⟨nw1, nw2⟩ := na De hpw
    have s0 := snew (o := .lst []) hpw
    have ew0 := upd_same (H := H) (a := pw_) (o := .lst [])
    have D0 := De.same s0
    obtain ⟨H0, eH0⟩ : ∃ H0, upd H pw_ (.lst []) = H0 := ⟨_, rfl⟩
    rw [eH0] at s0 ew0 D0 ⊢
    have hpp0 := s0 _ _ hpp
    have dps0 := DnAll.mono s0 _ _ dps
    have stand : ∀ (x : V), x ∈ xs → ∃ b pl, x = .ref b ∧ pl ∈ ps ∧ SPl pl ∧ H0 b = some (.tup [.int pl.1, .int pl.2]) ∧ gV H0 x = pl := fun x hx => by
      obtain ⟨j, hj⟩ := List.mem_iff_getElem?.mp hx
      obtain ⟨d, ed, dx⟩ := dps0.at_ hj
      rw [List.getElem?_map] at ed
      obtain ⟨pl, epl, rfl⟩ := Option.map_eq_some_iff.mp ed
      obtain ⟨b, rfl, hb⟩ := dn_pl dx
      have := List.mem_of_getElem? epl
      exact ⟨b, pl, rfl, this, spl pl this, hb, gV_at hb⟩
    refine ⟨_, rfl, pp, xs, gV H0, rfl, rfl, SqL.of hpp0, fun x hx => ?_, fun lz ys hlz perm srt => ?_⟩
    · obtain ⟨b, pl, rfl, _, hs, hb, eg⟩ := stand x hx
      obtain ⟨_, f1, f2, f3⟩ := fit_pl hs
      rw [eg]
      exact ⟨b, rfl, hb, f1, f2, f3⟩
    have sz := snew (o := .lst ys) hlz
    have hlz1 := upd_same (H := H0) (a := lz) (o := .lst ys)
    have D1 := D0.same sz
    obtain ⟨nz1, nz2⟩ := na D0 hlz
    have nzw : lz ≠ pw_ := (ne_of_none ew0 hlz).symm
    have ew1 := sz _ _ ew0
    obtain ⟨H1, eH1⟩ : ∃ H1, upd H0 lz (.lst ys) = H1 := ⟨_, rfl⟩
    rw [eH1] at sz hlz1 D1 ew1 ⊢
    have s01 := s0.trans sz
    have lys : ys.length = ps.length := by rw [perm.length_eq, lx]
    obtain ⟨pz, epz⟩ : ∃ pz : List Pl, pz = ys.map (gV H0) := ⟨_, rfl⟩
    have permP : pz.Perm ps := by
      have h1 := perm.map (gV H0)
      have h2 : xs.map (gV H0) = ps := by
        refine List.ext_getElem? fun j => ?_
        rw [List.getElem?_map]
        cases c : xs[j]? with
        | some x =>
          obtain ⟨d, ed, dx⟩ := dps0.at_ c
          rw [List.getElem?_map] at ed
          obtain ⟨pl, epl, rfl⟩ := Option.map_eq_some_iff.mp ed
          obtain ⟨b, rfl, hb⟩ := dn_pl dx
          rw [epl]
          show some (gV H0 (.ref b)) = _
          rw [gV_at hb]
        | none =>
          rw [List.getElem?_eq_none_iff] at c
          rw [List.getElem?_eq_none (by omega)]
          rfl
      rw [h2] at h1
      rw [epz]
      exact h1
    have srtP : pz.Pairwise before := by
      have n1 : pz.Nodup := permP.nodup_iff.mpr nd
      have n2 : pz.Pairwise (fun p q : Pl => (p.1 * 232792560).fdiv p.2 ≤ (q.1 * 232792560).fdiv q.2) := by
        rw [epz]
        exact List.Pairwise.map _ (fun a b h => h) srt
      refine List.Pairwise.imp_of_mem (fun {a b} ha hb h => ?_) (n1.and n2)
      exact key_bf (spl a (permP.mem_iff.mp ha)) (spl b (permP.mem_iff.mp hb)) h.1 h.2
    have hpp1 := sz _ _ hpp0
    have npw : pp ≠ pw_ := ne_of_none hpp hpw
    have dps1 := DnAll.mono sz _ _ dps0
    have tupF : ∀ {H' : Hp}, (∀ b o, H1 b = some o → b ≠ dk → b ≠ l → b ≠ pw_ → H' b = some o) → TupS H1 H' := fun kk b zs e => kk b _ e (pos_ne D1 e).1 (pos_ne D1 e).2 (ne_of e ew1 (by intro z; cases z))
    refine ⟨lz, rfl, ⟨_, SqL.of hlz1⟩, for_list (K := K) (a := lz) (xs := ys) (fun i σ H' => ∃ (x3 x4 : Option V) (acc : List V) (pw : List (Pl × Nm)), σ = [some (.ref dk), some (.ref pp), some (.ref pw_), x3, x4, none, none] ∧ H' pw_ = some (.lst acc) ∧ DnAll H' acc (pw.map encPw) ∧ pw.length ≤ i ∧ CTs okS (pqT pw) ∧ (∀ x ∈ pw, x.1 ∈ pz.take i ∧ SPl x.1 ∧ Nu okS 25 x.2) ∧ Deck H' dk l ∧ ∀ b o, H1 b = some o → b ≠ dk → b ≠ l → b ≠ pw_ → H' b = some o)
      ⟨none, none, [], [], rfl, ew1, .nil, Nat.le_refl _, CTs.nil, fun x hx => by simp at hx, D1, fun b o e _ _ _ => e⟩ (fun i σ H' _ ⟨_, _, _, _, _, _, _, _, _, _, _, kk⟩ => SqL.of (kk _ _ hlz1 nz1 nz2 nzw)) ?_ ?_⟩
    · rintro i x σ H' hx ⟨x3, x4, acc, pw, rfl, hw, da, lw, cts, hpw', D', kk⟩
      have hxm : x ∈ xs := perm.mem_iff.mp (List.mem_of_getElem? hx)
      obtain ⟨b, pl, rfl, _, hs, hb, eg⟩ := stand x hxm
      have il := (List.getElem?_eq_some_iff.mp hx).1
      have epi : pz[i]? = some pl := by
        rw [epz, List.getElem?_map, hx]
        show some (gV H0 (.ref b)) = some pl
        rw [eg]
      have tk := mem_take_succ epi
      have below := (pw_take srtP epi).1
      have lac : acc.length = pw.length := by rw [da.length, List.length_map]
      have mem' : ∀ x ∈ pw, x.1 ∈ pz.take (i + 1) ∧ SPl x.1 ∧ Nu okS 25 x.2 := fun x hx => ⟨(tk _).mpr (.inl (hpw' x hx).1), (hpw' x hx).2⟩
      refine ⟨_, rfl, dk, l, rfl, D', fun n r H2 dn nn D2 k2 => ?_⟩
      have hw2 := k2 _ _ hw nw1 nw2
      have da2 := tnA_tups (keep_tups D' k2) _ _ (tn_maps encPw_tn _) da
      refine ⟨_, rfl, Nat.zero_le _, fun p0 hp0 => ⟨encN n, .tuple [], tn_dp _ _ (encN_tn n) (Dn.mono (snew hp0) _ _ dn), .tup (SqT.of upd_same) .nil, encN_shaped n, rfl, _, rfl, ?_⟩⟩
      rw [eqv_nil_d (encN_tn n)]
      have sp := snew (o := .tup []) hp0
      have skip : ∀ {σ' : L2.St} {H3 : Hp}, σ' = [some (.ref dk), some (.ref pp), some (.ref pw_), some (.ref b), some (.ref r), none, none] → Deck H3 dk l → Keep dk l H2 H3 → ∃ (x3 x4 : Option V) (acc : List V) (pw : List (Pl × Nm)), σ' = [some (.ref dk), some (.ref pp), some (.ref pw_), x3, x4, none, none] ∧ H3 pw_ = some (.lst acc) ∧ DnAll H3 acc (pw.map encPw) ∧ pw.length ≤ i + 1 ∧ CTs okS (pqT pw) ∧ (∀ x ∈ pw, x.1 ∈ pz.take (i + 1) ∧ SPl x.1 ∧ Nu okS 25 x.2) ∧ Deck H3 dk l ∧ ∀ b o, H1 b = some o → b ≠ dk → b ≠ l → b ≠ pw_ → H3 b = some o := fun e D3 k3 =>
        ⟨_, _, acc, pw, e, k3 _ _ hw2 nw1 nw2, tnA_tups (keep_tups D2 k3) _ _ (tn_maps encPw_tn _) da2, by omega, cts, mem', D3, fun b o e n1 n2 n3 => k3 _ _ (k2 _ _ (kk b o e n1 n2 n3) n1 n2) n1 n2⟩
      refine ite_b (fun c => ?_) (fun c => ?_)
      · have nne : n ≠ [] := fun z => by
          rw [z] at c
          cases c
        refine ⟨_, rfl, dk, l, 4, rfl, D2.same sp, by decide, by decide, fun r4 H4 r0 r1 D4 k4 => ⟨_, _, rfl, rfl, _, rfl, ite_b (fun c2 => ?_) (fun c2 => ?_)⟩⟩
        · have k24 := (Keep.of sp).trans k4
          have hw4 := k24 _ _ hw2 nw1 nw2
          have t24 := keep_tups D2 k24
          refine ⟨_, rfl, .inl ⟨rfl, _, SqL.of hw4⟩, _, rfl, _, rfl, s2z, fun p2 hp2 => ?_⟩
          have s5 := snew (o := .tup [.ref b, .ref r]) hp2
          have hw5 := s5 _ _ hw4
          have tp := lst_tups (o := .lst (acc ++ [.ref p2])) hw5
          have hbl : H' b = some (.tup [.int pl.1, .int pl.2]) := tupF kk _ _ (sz _ _ hb)
          have dplb : Dn H' (.ref b) (encPl pl) := .tup hbl (.cons (.int _) (.cons (.int _) .nil))
          refine ⟨pw_, acc, _, rfl, rfl, hw5, small1000 (by omega), ?_⟩
          refine ⟨_, _, acc ++ [.ref p2], pw ++ [(pl, n)], rfl, upd_same, ?_, by rw [List.length_append]; show _ + 1 ≤ _; omega, ?_, fun x hx => ?_, deck_upd (D4.same s5) nw1 nw2, fun b' o e n1 n2 n3 => ?_⟩
          · rw [List.map_append]
            have tall := ((Same.tups s5).trans tp)
            refine DnAll.app (tnA_tups (t24.trans tall) _ _ (tn_maps encPw_tn _) da2) (.cons ?_ .nil)
            exact .tup (tp _ _ upd_same) (.cons (tn_tups ((keep_tups D' k2).trans (t24.trans tall)) _ _ (encPl_tn _) dplb) (.cons (tn_tups (t24.trans tall) _ _ (encN_tn _) dn) .nil))
          · have e : pqT (pw ++ [(pl, n)]) = pqT pw ++ [(pl, [n])] := List.map_append ..
            rw [e]
            refine cts.snoc ⟨hs.2.2.2, ⟨fun m hm => by rw [List.mem_singleton.mp hm]; exact nn.1, fun z => ?_⟩, by simp⟩ fun s hs' => ?_
            · have : n = [] := by simpa using z
              exact nne this
            · obtain ⟨x, hx, rfl⟩ := List.mem_map.mp hs'
              exact below _ (hpw' x hx).1
          · rcases List.mem_append.mp hx with hx | hx
            · exact mem' x hx
            · rw [List.mem_singleton.mp hx]
              exact ⟨(tk _).mpr (.inr rfl), hs, nn⟩
          · rw [upd_ne n3]
            exact s5 _ _ (k24 _ _ (k2 _ _ (kk b' o e n1 n2 n3) n1 n2) n1 n2)
        · exact skip rfl D4 ((Keep.of sp).trans k4)
      · exact iteF (skip rfl (D2.same sp) (Keep.of sp))
    rintro σ H' ⟨x3, x4, acc, pw, rfl, hw, da, lw, cts, hpw', D', kk⟩
    have lp4 : pw.length ≤ 4 := by omega
    have zpw := pq_qz cts (fun x hx => (hpw' x hx).2) lp4
    have hpp' := kk _ _ hpp1 np1 np2 npw
    have t1' := tupF kk
    have dps' := tnA_tups t1' _ _ (tn_maps encPl_tn _) dps1
    have kH' : Keep dk l H H' := fun b o e n1 n2 => kk b o (s01 _ _ e) n1 n2 (ne_of_none e hpw)
    refine ⟨_, rfl, _, rfl, dk, l, pp, xs, 5, 8, rfl, D', hpp', np1, np2, by omega, fun x hx => ?_, by decide, by decide, by decide, by decide, fun g0 r H5 dg0 zg0 D5 k5 => ?_⟩
    · obtain ⟨j, hj⟩ := List.mem_iff_getElem?.mp hx
      obtain ⟨d, ed, dx⟩ := dps'.at_ hj
      rw [List.getElem?_map] at ed
      obtain ⟨pl, epl, rfl⟩ := Option.map_eq_some_iff.mp ed
      exact pl_dn dx (spl pl (List.mem_of_getElem? epl))
    have hw5 := k5 _ _ hw nw1 nw2
    have da5 := tnA_tups (keep_tups D' k5) _ _ (tn_maps encPw_tn _) da
    have zg0' : QZ okS 25 8 5 4 g0 := zg0.mono (Nat.le_refl _) (by decide) (by decide) (by omega)
    refine ⟨fun σ' H6 => ∃ (rg : Addr) (g : Qt), σ' = [some (.ref dk), some (.ref pp), some (.ref pw_), x3, x4, some (.ref rg), none] ∧ Dn H6 (.ref rg) (encQ g) ∧ QZ okS 25 9 5 4 g ∧ (g.1 = [] ∨ g.1[0]? = some []) ∧ Same H5 H6, ?_, ?_⟩
    · obtain ⟨a, v1, v2, ea0, ea, g1, g2⟩ := dn_pair dg0
      cases ea0
      obtain ⟨a1, xs1, rfl, e1, r1⟩ := dn_t g1
      have lx1 : xs1.length = g0.1.length := by rw [r1.length, List.length_map]
      refine ⟨_, rfl, .inr (.inl ⟨r, _, _, .ref a1, rfl, rfl, SqT.of ea, rfl, Nat.zero_le _, fun p0 hp0 => ⟨encR g0.1, .tuple [], tn_dp _ _ (encR_tn _) (Dn.mono (snew hp0) _ _ g1), .tup (SqT.of upd_same) .nil, encR_shaped _, rfl, _, rfl, ?_⟩⟩)⟩
      rw [eqv_nil_d (encR_tn _)]
      have sp := snew (o := .tup []) hp0
      refine ite_b (fun c => ?_) (fun c => ?_)
      · have gne : g0.1 ≠ [] := fun z => by
          rw [z] at c
          cases c
        refine ⟨Nat.zero_le _, fun p1 hp1 => ⟨s1z, fun p2 hp2 => ?_⟩⟩
        have t1 := snew (o := .tup []) hp1
        have t2 := snew (o := .tup [.ref p1]) hp2
        have s2 := sp.trans (t1.trans t2)
        have h1 := t2 _ _ (upd_same (H := upd H5 p0 (.tup [])) (a := p1) (o := .tup []))
        refine ⟨_, rfl, .inr (.inl ⟨r, _, _, .ref a1, rfl, rfl, SqT.of (s2 _ _ ea), rfl, catA_raw upd_same (s2 _ _ e1) (by have := zg0'.lw; show 1 + xs1.length ≤ 1000; omega) fun z H6 hz s6 => ?_⟩)⟩
        refine ⟨_, rfl, .inr (.inl ⟨r, _, _, v2, rfl, rfl, SqT.of ((s2.trans s6) _ _ ea), rfl, s2z, fun pe hpe => ?_⟩)⟩
        have s7 := snew (o := .tup [.ref z, v2]) hpe
        have s27 := s2.trans (s6.trans s7)
        refine ⟨pe, ([] :: g0.1, g0.2), rfl, .tup upd_same (.cons (.tup (s7 _ _ hz) (.cons (.tup ((s6.trans s7) _ _ h1) .nil) (DnAll.mono s27 _ _ r1))) (.cons (Dn.mono s27 _ _ g2) .nil)), front_qz zg0' gne, .inr rfl, s27⟩
      · have gn : g0.1 = [] := by
          cases h : g0.1 with
          | nil => rfl
          | cons _ _ => rw [h] at c; cases c
        exact ⟨r, g0, rfl, Dn.mono sp _ _ dg0, zg0'.mono (Nat.le_refl _) (by decide) (by decide) (by decide), .inl gn, sp⟩
    rintro σ' H6 ⟨rg, g, rfl, dg, zg, hz, s6⟩
    have hw6 := s6 _ _ hw5
    have da6 := DnAll.mono s6 _ _ da5
    have zg20 : QZ okS 25 20 10 10 g := zg.mono (Nat.le_refl _) (by decide) (by decide) (by decide)
    refine ⟨_, rfl, .ref rg, g, 25, okS, rfl, dg, zg20, okS_okd, by decide, by decide, fun g' ag H7 dg' cg' sl s7 => ?_⟩
    have zg' : QZ okS 31 9 6 4 g' := qz_slope zg (by decide) (by decide) (by decide) cg' sl
    have hw7 := s7 _ _ hw6
    have da7 := DnAll.mono s7 _ _ da6
    have lac : acc.length = pw.length := by rw [da.length, List.length_map]
    have ztk : ∀ i, QZ okS 31 0 1 4 (pqOf (pw.take i)) := fun i => (pq_qz (by rw [pqT_take]; exact cts.takeT i) (fun x hx => (hpw' x (List.mem_of_mem_take hx)).2) (by rw [List.length_take]; omega)).mono (by decide) (Nat.le_refl _) (Nat.le_refl _) (Nat.le_refl _)
    have zsum : ∀ (i : Nat) (di : Qt), CQ okS di → QSum (pqOf (pw.take i)) g' di → QZ okS 31 20 10 10 di := fun i di cd qd => (mix_qz (ztk i) zg' (fun p d => (sl.2 p d).1) (by decide) (by decide) cd qd).mono (Nat.le_refl _) (by decide) (by decide) (by decide)
    refine ⟨_, rfl, pw_, rfl, ⟨_, SqL.of hw7⟩, for_list (K := K) (a := pw_) (xs := acc) (fun i σ H' => ∃ (x3 x4 : Option V) (rd : Addr) (di : Qt), σ = [some (.ref dk), some (.ref pp), some (.ref pw_), x3, x4, some (.ref rg), some (.ref rd)] ∧ Dn H' (.ref rd) (encQ di) ∧ CQ okS di ∧ QSum (pqOf (pw.take i)) g' di ∧ Same H7 H')
      ⟨x3, x4, ag, g', rfl, dg', cg', ⟨fun k d => by show _ = cr [] k d + _; rw [cr_nil, Rat.zero_add], fun p k d => by show _ = cr [] k d + _; rw [cr_nil, Rat.zero_add]⟩, Same.refl _⟩ (fun i σ H' _ ⟨_, _, _, _, _, _, _, _, s'⟩ => SqL.of (s' _ _ hw7)) ?_ ?_⟩
    · rintro i x σ H8 hx ⟨y3, y4, rd, di, rfl, dd, cd, qd, s8⟩
      obtain ⟨t, ax, p1, nv, et, rfl, hax, dp, dn⟩ := dn_pws da7 i x hx
      have hm := hpw' t (List.mem_of_getElem? et)
      refine ⟨ax, _, rfl, SqT.of (s8 _ _ hax), rfl, _, _, rfl, _, _, rfl, rfl, ?_⟩
      refine ⟨_, rfl, Nat.zero_le _, fun q1 hq1 => ⟨_, rfl, _, rfl, s1z, fun q2 hq2 => ⟨s2z, fun q3 hq3 => ⟨s1z, fun q4 hq4 => ⟨s2z, fun q5 hq5 => ?_⟩⟩⟩⟩⟩
      have t1 := snew (o := .tup []) hq1
      have t2 := snew (o := .tup [nv]) hq2
      have t3 := snew (o := .tup [p1, .ref q2]) hq3
      have t4 := snew (o := .tup [.ref q3]) hq4
      have t5 := snew (o := .tup [.ref q1, .ref q4]) hq5
      have t25 := t2.trans (t3.trans (t4.trans t5))
      have s9 := t1.trans t25
      have ctx : CTs okS (pqT [t]) := ⟨fun s hs => by
        rw [List.mem_singleton.mp hs]
        exact cts.1 _ (List.mem_map.mpr ⟨t, List.mem_of_getElem? et, rfl⟩), fun i x y hx hy => by simp [pqT] at hy⟩
      have zx : QZ okS 31 20 10 10 (pqOf [t]) := (pq_qz (T := 1) ctx (fun x hx => by rw [List.mem_singleton.mp hx]; exact hm.2) (by show 1 ≤ 1; decide)).mono (by decide) (by decide) (by decide) (by decide)
      refine ⟨.ref rd, .ref q5, di, pqOf [t], 31, okS, rfl, Dn.mono s9 _ _ dd, ?_, zsum i di cd qd, zx, okS_okd, by decide, by decide, fun d' a' H9 dd' cd' qs' s10 => ?_⟩
      · refine .tup upd_same (.cons (.tup (t25 _ _ upd_same) .nil) (.cons (.tup (t5 _ _ upd_same) (.cons (.tup ((t4.trans t5) _ _ upd_same) (.cons (Dn.mono (s8.trans s9) _ _ dp) (.cons (.tup ((t3.trans (t4.trans t5)) _ _ upd_same) (.cons (Dn.mono (s8.trans s9) _ _ dn) .nil)) .nil))) .nil)) .nil))
      · exact ⟨_, _, a', d', rfl, dd', cd', sum_step cts et qd qs', s8.trans (s9.trans s10)⟩
    rintro σ H8 ⟨y3, y4, rd, due, rfl, dd, cd, qd, s8⟩
    have etk : pw.take acc.length = pw := by rw [lac, List.take_length]
    have zdue := zsum _ _ cd qd
    rw [etk] at qd
    have hw8 := s8 _ _ hw7
    have da8 := DnAll.mono s8 _ _ da7
    have s78 := s7.trans s8
    have zpw20 : QZ okS 25 20 10 10 (pqOf pw) := zpw.mono (Nat.le_refl _) (by decide) (by decide) (by decide)
    obtain ⟨q1, q2, q3⟩ := shown_ok (gw_qz okS_okd (by decide) zdue) (by decide) (by decide)
    obtain ⟨o1, o2, o3⟩ := shown_ok (gw_two ((gw_pws okS_okd (by decide) zpw20).mono (by decide) (by decide)) (gw_qz okS_okd (by decide) zg20)) (by decide) (by decide)
    have rgt : ∀ {H' : Hp}, Same H8 H' → Dn H' (.ref rg) (encQ g) := fun s' => Dn.mono (s78.trans s') _ _ dg
    refine ⟨_, rfl, pw_, acc, rfl, .inl ⟨SqL.of hw8, fun b1 hb1 => ⟨_, rfl, ?_⟩⟩⟩
    have u1 := snew (o := .tup acc) hb1
    refine ⟨.ref b1, .ref rg, pw, g, 25, okS, rfl, .tup upd_same (DnAll.mono u1 _ _ da8), rgt u1, zpw20, zg20, okS_okd, by decide, by decide, hz, fun t g2' a4 H9 dt ct cg2 sl2 qs2 s9 => ?_⟩
    have e2 := slo_same cg' cg2 sl sl2
    subst e2
    have e3 := sum_same ct cd qs2 qd
    subst e3
    have u2 := u1.trans s9
    refine ⟨_, rfl, .ref a4, .ref rd, _, rfl, dt, Dn.mono u2 _ _ dd, q1, q2, q3, ?_⟩
    refine ⟨_, rfl, iteF ?_⟩
    refine ⟨_, rfl, _, rfl, pw_, acc, rfl, .inl ⟨SqL.of (u2 _ _ hw8), fun b2 hb2 => ?_⟩⟩
    have u3' := snew (o := .tup acc) hb2
    have u3 := u2.trans u3'
    refine ⟨.ref b2, .ref rg, pw, g, 25, okS, rfl, .tup upd_same (DnAll.mono u3 _ _ da8), rgt u3, zpw20, zg20, okS_okd, by decide, by decide, hz, fun t2 g3' a5 H10 dt2 ct2 cg3 sl3 qs3 s10 => ?_⟩
    have e4 := slo_same cg' cg3 sl sl3
    subst e4
    have e5 := sum_same ct2 cd qs3 qd
    subst e5
    have u4 := u3.trans s10
    refine ⟨_, rfl, .ref a5, .ref rd, _, rfl, dt2, Dn.mono u4 _ _ dd, q1, q2, q3, ?_⟩
    refine ⟨_, rfl, iteF ?_⟩
    refine ⟨_, rfl, .ref rd, t2, 31, okS, rfl, Dn.mono u4 _ _ dd, zdue, okS_okd, by decide, by decide, fun g4 a6 H11 dw cg4 qi s11 => ?_⟩
    have e6 := pw_back cts cd sl qd
    have e7 := g_back zg.cq cg4 hz sl qd qi
    subst e7
    rw [e6] at dw
    have u5 := u4.trans s11
    refine ⟨_, rfl, pw_, acc, rfl, .inl ⟨SqL.of (u5 _ _ hw8), fun b3 hb3 => ⟨_, rfl, s2z, fun pe hpe => ?_⟩⟩⟩
    have u6 := (snew (o := .tup acc) hb3).trans (snew (o := .tup [.ref b3, .ref rg]) hpe)
    have u56 := u5.trans u6
    refine ⟨.ref a6, .ref pe, _, rfl, Dn.mono u6 _ _ dw, dn_two upd_same (.tup ((snew hpe) _ _ upd_same) (DnAll.mono u56 _ _ da8)) (rgt u56), o1, o2, o3, ?_⟩
    have sfin := s6.trans (s78.trans u56)
    exact k _ (D5.same sfin) ((kH'.trans k5).trans (Keep.of sfin))
end
end N3

namespace N3
open PySem PySem.Spec PyProof.Rows L2 N2 LamX
/-! ### the law of writings -/
def spLaw (K : PySem.W.Frag) : Sp := fun vs H Q _ => ∃ (a : Addr) (ns : List Int), vs = [.ref a] ∧ SqL K H a (ns.map V.int) ∧ ns.length ≤ 63 ∧ ∀ H', Q (.bl true) H'
theorem encPl_shape1 (p : Pl) : PyData.canLay0 (encPl p) = true ∧ (encPl p).depth ≤ 1 := by
  constructor <;> simp [encPl, PyData.canLay0, PyData.canLayAll0, PyData.depth, PyData.depthAll]
theorem any_pl (ps : List Pl) (p : Pl) : ((ps.map encPl).any fun z => PyData.eqv z (encPl p)) = true ↔ p ∈ ps := by
  rw [List.any_eq_true]
  constructor
  · rintro ⟨z, hz, e⟩
    obtain ⟨q, hq, rfl⟩ := List.mem_map.mp hz
    rw [eqv_pl, decide_eq_true_iff] at e
    rw [← e]; exact hq
  · intro h
    exact ⟨encPl p, List.mem_map.mpr ⟨p, h, rfl⟩, by rw [eqv_pl]; exact decide_eq_true rfl⟩
section
variable {P : Program} {w : World} {K : PySem.W.Frag} {mg : Str → Option Value} {base : Heap}
abbrev s_law : Stmt := top 77
abbrev nsLw : List Str := ["script", "deck", "turn", "poles", "go", "pole", "quotient"]
theorem sc_law : FnScope nsLw ["script"] (defScope s_law) := ⟨rfl, rfl, rfl, by decide +kernel, rfl, by decide +kernel, by decide +kernel⟩
theorem ok_law {f f__law_deck f__law_pick f__law_one_pole f__law_quotient f__law_is_written_right f__law_is_made_right : Addr} {fd d__law_deck d__law_pick d__law_one_pole d__law_quotient d__law_is_written_right d__law_is_made_right : FuncData}  (F : Fun K "law" "law" s_law f fd) (T : Bt mg) (l_deck : Kn P w K mg base 1 "_law_deck" ["script"] (spDeck K) f__law_deck d__law_deck) (l_pick : Kn P w K mg base 2 "_law_pick" ["deck", "some"] (spPick K) f__law_pick d__law_pick) (l_one_pole : Kn P w K mg base 3 "_law_one_pole" ["deck"] spLOne f__law_one_pole d__law_one_pole) (l_quotient : Kn P w K mg base 6 "_law_quotient" ["deck", "poles", "long", "whole"] spLQuot f__law_quotient d__law_quotient) (l_is_written_right : KnG P w K mg base 12 "_law_is_written_right" ["quotient"] spLWR f__law_is_written_right d__law_is_written_right) (l_is_made_right : KnG P w K mg base 13 "_law_is_made_right" ["deck", "poles"] spLMR f__law_is_made_right d__law_is_made_right) : FnG P w K mg base 14 f fd ["script"] (spLaw K) := by
  refine fn_idle F sc_law (fun vs H Q E h => ?_) (fun cdv A outer s H vs Q hr hi h => ?_)
  · obtain ⟨a, ns, rfl, _⟩ := h
    rfl
  · obtain ⟨a, ns, rfl, hS, hl, k⟩ := h
    have at0 : ∀ {X : Cx} (σ : L2.St), PassesAt CX0 X σ E0 := fun σ pins H s e s' I c => pass0 pins σ H s e s' I c
    have hu65 : (A.deeper (envOfC "law" (defScope s_law) s.heap.objs.size f cdv)).units + 65 < cLine := by have := hr.un; omega
    refine ⟨_, pss_cons (ps_set (i := 1) sc_law.nd rfl (Or.inl rfl) (pe_call l_deck.ok (hr.mono (by decide)) rfl l_deck.mg l_deck.kp l_deck.bd .nil pass0 (pa_cons (pv 0) pa_nil)))
      (pss_cons (ps_for PassesOwn.never rfl (pi_range1 rfl T.range (pa_cons pe_int pa_nil)) (pg_name (i := 2) sc_law.nd rfl (Or.inl rfl))
        (pss_cons (ps_set (i := 3) sc_law.nd rfl (Or.inl rfl) (pe_lst pa_nil))
        (pss_cons (ps_for PassesOwn.never rfl (pi_range1 rfl T.range (pa_cons (pe_call l_pick.ok (hr.mono (by decide)) rfl l_pick.mg l_pick.kp l_pick.bd .nil pass0 (pa_cons (pv 1) (pa_cons (pk_tup (pka_cons pk_int (pka_cons pk_int (pka_cons pk_int (pka_cons pk_int (pka_cons pk_int (pka_cons pk_int (pka_cons pk_int pka_nil)))))))) pa_nil))) pa_nil)) (pg_name (i := 4) sc_law.nd rfl (Or.inl rfl))
          (pss_cons (ps_set (i := 5) sc_law.nd rfl (Or.inl rfl) (pe_call l_one_pole.ok (hr.mono (by decide)) rfl l_one_pole.mg l_one_pole.kp l_one_pole.bd .nil pass0 (pa_cons (pv 1) pa_nil)))
          (pss_one (ps_if (pt_cmpR (op_notInD hu65) (pv 5) (pv 3) (by with_unfolding_all rfl))
            (pss_one (ps_expr (pe_bm PySem.F.plainAttrs_list PySem.F.slot_list_append PySem.F.type_list_append mt_append (pv 3) (pa_cons (pv 5) pa_nil))))
            pss_nil))))
        (pss_cons (ps_set (i := 6) sc_law.nd rfl (Or.inl rfl) (pe_call l_quotient.ok (hr.mono (by decide)) rfl l_quotient.mg l_quotient.kp l_quotient.bd .nil pass0 (pa_cons (pv 1) (pa_cons (pv 3) (pa_cons pe_int (pa_cons pe_int pa_nil))))))
        (pss_one (ps_if (PW.pt (pw_or (pt_not (pt_val (pe_idle l_is_written_right.ok (hr.mono (by decide)) hi l_is_written_right.mg l_is_written_right.kp l_is_written_right.bd (pa_cons (pv 6) pa_nil)))) (pw_or1 (pt_not (pt_val (pe_idle l_is_made_right.ok (hr.mono (by decide)) hi l_is_made_right.mg l_is_made_right.kp l_is_made_right.bd (pa_cons (pv 1) (pa_cons (pv 3) pa_nil))))))))
          (pss_one (ps_ret pe_bl))
          pss_nil))))))
      (pss_one (ps_ret pe_bl))), ?_⟩
    refine ⟨_, rfl, a, ns, rfl, hS, hl, fun H1 dk l D1 s1 _ _ => ?_⟩
    refine ⟨2, rfl, by decide, by decide, for_range (lo := 0) (n := 2) (fun i σ H' => (∃ x2 x3 x4 x5 x6 : Option V, σ = [some (.ref a), some (.ref dk), x2, x3, x4, x5, x6]) ∧ Deck H' dk l) ⟨⟨_, _, _, _, _, rfl⟩, D1⟩ ?_ ?_⟩
    · rintro i σ H' hi' ⟨⟨x2, x3, x4, x5, x6, rfl⟩, D⟩
      refine ⟨Nat.zero_le _, fun pp hpp => ?_⟩
      have np1 : pp ≠ dk := fun z => D.some1.1 (z ▸ hpp)
      have np2 : pp ≠ l := fun z => D.some1.2 (z ▸ hpp)
      have sp := snew (o := .lst []) hpp
      have ep := upd_same (H := H') (a := pp) (o := .lst [])
      have D0 := D.same sp
      refine ⟨_, rfl, fun v Hv sv dv => pick_k (E := E0) (is := [2, 1, 3, 0, 4, 2, 3]) (D0.same sv) dv (by decide) (by decide) fun z H2 hz D2 k2 => ?_⟩
      have z4 : 0 ≤ z ∧ z ≤ 4 := by
        simp only [List.mem_cons, List.not_mem_nil, or_false] at hz
        rcases hz with rfl | rfl | rfl | rfl | rfl | rfl | rfl <;> exact ⟨by decide, by decide⟩
      have ep2 := k2 _ _ (sv _ _ ep) np1 np2
      refine ⟨z, rfl, by omega, by omega, for_range (lo := 0) (n := z.toNat) (fun i σ H' => ∃ (x2 x4 x5 x6 : Option V) (xs : List V) (ps : List Pl), σ = [some (.ref a), some (.ref dk), x2, some (.ref pp), x4, x5, x6] ∧ H' pp = some (.lst xs) ∧ DnAll H' xs (ps.map encPl) ∧ (∀ p ∈ ps, SPl p) ∧ ps.Nodup ∧ ps.length ≤ i ∧ Deck H' dk l)
        ⟨_, _, _, _, [], [], rfl, ep2, .nil, fun p hp => by simp at hp, List.nodup_nil, Nat.le_refl _, D2⟩ ?_ ?_⟩
      · rintro i σ H3 hi3 ⟨y2, y4, y5, y6, xs, ps, rfl, hp3, dps, spl, nd, lp, D3⟩
        refine ⟨_, rfl, dk, l, rfl, D3, fun x H4 hx D4 k4 => ?_⟩
        obtain ⟨ap, pl, rfl, hap, hs⟩ := hx
        have hp4 := k4 _ _ hp3 np1 np2
        have dps4 := tnA_tups (keep_tups D3 k4) _ _ (tn_maps encPl_tn _) dps
        have dpl : Dn H4 (.ref ap) (encPl pl) := .tup hap (.cons (.int _) (.cons (.int _) .nil))
        have lx : xs.length = ps.length := by rw [dps.length, List.length_map]
        refine ⟨_, rfl, _, rfl, encPl pl, ps.map encPl, tn_dp _ _ (encPl_tn pl) dpl, .lst (SqL.of hp4) (tn_dpA _ _ (tn_maps encPl_tn _) dps4), encPl_shaped pl, ?_, _, rfl, ite_b (fun c => ?_) (fun c => ?_)⟩
        · obtain ⟨h1, h2⟩ := list_lay (k := 1) encPl_shape1 ps
          exact shaped_of h1 (by omega)
        · have nin : pl ∉ ps := fun m => by
            rw [(any_pl ps pl).mpr m] at c
            cases c
          refine ⟨_, rfl, .inl ⟨rfl, _, SqL.of hp4⟩, _, rfl, pp, xs, _, rfl, rfl, hp4, small1000 (by omega), ?_⟩
          have tp := lst_tups (o := .lst (xs ++ [.ref ap])) hp4
          refine ⟨_, _, _, _, xs ++ [.ref ap], ps ++ [pl], rfl, upd_same, ?_, fun p hp => ?_, ?_, by rw [List.length_append]; show _ + 1 ≤ _; omega, deck_upd D4 np1 np2⟩
          · rw [List.map_append]
            exact DnAll.app (tnA_tups tp _ _ (tn_maps encPl_tn _) dps4) (.cons (tn_tups tp _ _ (encPl_tn pl) dpl) .nil)
          · rcases List.mem_append.mp hp with hp | hp
            · exact spl p hp
            · rw [List.mem_singleton.mp hp]; exact hs
          · rw [List.nodup_append]
            exact ⟨nd, by simp, fun x hx y hy e => nin (by rw [List.mem_singleton.mp hy] at e; exact e ▸ hx)⟩
        · exact ⟨_, _, _, _, xs, ps, rfl, hp4, dps4, spl, nd, by omega, D4⟩
      · rintro σ H3 ⟨y2, y4, y5, y6, xs, ps, rfl, hp3, dps, spl, nd, lp, D3⟩
        have lx : xs.length = ps.length := by rw [dps.length, List.length_map]
        refine ⟨_, rfl, _, rfl, dk, l, pp, xs, 6, 8, rfl, D3, hp3, np1, np2, by omega, fun x hx => ?_, by decide, by decide, by decide, by decide, fun q r H5 dq zq D5 k5 => ?_⟩
        · obtain ⟨j, hj⟩ := List.mem_iff_getElem?.mp hx
          obtain ⟨d, ed, dx⟩ := dps.at_ hj
          rw [List.getElem?_map] at ed
          obtain ⟨pl, epl, rfl⟩ := Option.map_eq_some_iff.mp ed
          exact pl_dn dx (spl pl (List.mem_of_getElem? epl))
        refine ⟨_, rfl, .ref r, q, 25, okS, rfl, dq, zq.mono (Nat.le_refl _) (by decide) (by decide) (by omega), okS_okd, by decide, by decide, fun H6 s6 => ?_⟩
        refine ⟨_, rfl, iteF ?_⟩
        have hp6 := s6 _ _ (k5 _ _ hp3 np1 np2)
        have dps6 := DnAll.mono s6 _ _ (tnA_tups (keep_tups D3 k5) _ _ (tn_maps encPl_tn _) dps)
        refine ⟨_, rfl, _, rfl, dk, l, pp, xs, ps, rfl, D5.same s6, hp6, np1, np2, dps6, spl, nd, by omega, fun H7 D7 k7 => ?_⟩
        exact ⟨_, rfl, iteF ⟨⟨_, _, _, _, _, rfl⟩, D7⟩⟩
    · rintro σ H' ⟨⟨x2, x3, x4, x5, x6, rfl⟩, D⟩
      exact k _
theorem bk_one {x : Str} {st : Stmt} {y : Str} {f : Addr} {fd : FuncData} (F : Fun K x x st f fd) (h : ∀ (kV doc pm : Value) (an : Option Addr) (cdv ct : Value) (u : Value), bindArgs (PySem.W.fnOf x x (defArgs st) (defBody st) (defScope st) .none kV doc pm an cdv ct) ⟨[], [(y, u)]⟩ = pure [(y, u)]) : Bk K fd y := by
  obtain ⟨oc, od, kV, doc, pm, an, cdv, ct, osl, rfl, lk, hcd⟩ := F.ex
  exact fun s u X => .of_eq (h _ _ _ _ _ _ _)
theorem bk_two {x : Str} {st : Stmt} {y z : Str} {f : Addr} {fd : FuncData} (F : Fun K x x st f fd) (h : ∀ (kV doc pm : Value) (an : Option Addr) (cdv ct : Value) (u v : Value), bindArgs (PySem.W.fnOf x x (defArgs st) (defBody st) (defScope st) .none kV doc pm an cdv ct) ⟨[], [(z, v), (y, u)]⟩ = pure [(y, u), (z, v)]) : Bk2 K fd y z := by
  obtain ⟨oc, od, kV, doc, pm, an, cdv, ct, osl, rfl, lk, hcd⟩ := F.ex
  exact fun s u v X => .of_eq (h _ _ _ _ _ _ _ _)
theorem bk_writing {f : Addr} {fd : FuncData} (F : Fun K "writing" "writing" s_writing f fd) : Bk K fd "quotient" := bk_one F fun _ _ _ _ _ _ _ => by first | rfl | with_unfolding_all rfl | kernel_rfl
theorem bk_quotient_of {f : Addr} {fd : FuncData} (F : Fun K "quotient_of" "quotient_of" s_quotient_of f fd) : Bk2 K fd "powers" "g" := bk_two F fun _ _ _ _ _ _ _ _ => by first | rfl | with_unfolding_all rfl | kernel_rfl
end
end N3

namespace N3
open PySem PySem.Spec PyProof.Rows L2 N2
section
variable {P : Program} {w : World} {K : PySem.W.Frag} {mg : Str → Option Value} {base : Heap}
theorem bd0 : Bds "is_integer" sInt ["thing"] := fun _ _ _ _ _ _ us hl => match us, hl with | [_], _ => rfl
theorem bd1 : Bds "is_tuple_of" sTupOf ["thing", "many"] := fun _ _ _ _ _ _ us hl => match us, hl with | [_, _], _ => rfl
theorem bd2 : Bds "all_integers" sAllInt ["things"] := fun _ _ _ _ _ _ us hl => match us, hl with | [_], _ => rfl
theorem bd3 : Bds "in_lowest_terms" sLowest ["top", "bottom"] := fun _ _ _ _ _ _ us hl => match us, hl with | [_, _], _ => rfl
theorem bd4 : Bds "square_split" sSplit ["size"] := fun _ _ _ _ _ _ us hl => match us, hl with | [_], _ => rfl
theorem bd5 : Bds "free_of_squares" sFree ["size"] := fun _ _ _ _ _ _ us hl => match us, hl with | [_], _ => rfl
theorem bd6 : Bds "lowest" sLowest2 ["top", "bottom"] := fun _ _ _ _ _ _ us hl => match us, hl with | [_, _], _ => rfl
theorem bd7 : Bds "fits_as_d" sFits ["d"] := fun _ _ _ _ _ _ us hl => match us, hl with | [_], _ => rfl
theorem bd8 : Bds "is_triple" sTriple ["thing"] := fun _ _ _ _ _ _ us hl => match us, hl with | [_], _ => rfl
theorem bd9 : Bds "is_number" sNumber ["thing"] := fun _ _ _ _ _ _ us hl => match us, hl with | [_], _ => rfl
theorem bd10 : Bds "is_pole" s_is_pole ["thing"] := fun _ _ _ _ _ _ us hl => match us, hl with | [_], _ => rfl
theorem bd11 : Bds "comes_before" s_comes_before ["one", "other"] := fun _ _ _ _ _ _ us hl => match us, hl with | [_, _], _ => rfl
theorem bd12 : Bds "is_polynomial" s_is_polynomial ["thing"] := fun _ _ _ _ _ _ us hl => match us, hl with | [_], _ => rfl
theorem bd13 : Bds "is_tail" s_is_tail ["thing"] := fun _ _ _ _ _ _ us hl => match us, hl with | [_], _ => rfl
theorem bd14 : Bds "are_tails" s_are_tails ["thing"] := fun _ _ _ _ _ _ us hl => match us, hl with | [_], _ => rfl
theorem bd15 : Bds "is_quotient" s_is_quotient ["thing"] := fun _ _ _ _ _ _ us hl => match us, hl with | [_], _ => rfl
theorem bd16 : Bds "add_term" s_add_term ["totals", "d", "top", "bottom"] := fun _ _ _ _ _ _ us hl => match us, hl with | [_, _, _, _], _ => rfl
theorem bd17 : Bds "from_totals" s_from_totals ["totals"] := fun _ _ _ _ _ _ us hl => match us, hl with | [_], _ => rfl
theorem bd18 : Bds "weighted_sum" s_weighted_sum ["parts"] := fun _ _ _ _ _ _ us hl => match us, hl with | [_], _ => rfl
theorem bd19 : Bds "scaled" s_scaled ["number", "top", "bottom"] := fun _ _ _ _ _ _ us hl => match us, hl with | [_, _, _], _ => rfl
theorem bd20 : Bds "number_sum" s_number_sum ["one", "other"] := fun _ _ _ _ _ _ us hl => match us, hl with | [_, _], _ => rfl
theorem bd21 : Bds "trimmed" s_trimmed ["numbers"] := fun _ _ _ _ _ _ us hl => match us, hl with | [_], _ => rfl
theorem bd22 : Bds "row_sum" s_row_sum ["one", "other"] := fun _ _ _ _ _ _ us hl => match us, hl with | [_, _], _ => rfl
theorem bd23 : Bds "whole_slope" s_whole_slope ["whole"] := fun _ _ _ _ _ _ us hl => match us, hl with | [_], _ => rfl
theorem bd24 : Bds "poles_of" s_poles_of ["quotient"] := fun _ _ _ _ _ _ us hl => match us, hl with | [_], _ => rfl
theorem bd25 : Bds "all_poles" s_all_poles ["one", "other"] := fun _ _ _ _ _ _ us hl => match us, hl with | [_, _], _ => rfl
theorem bd26 : Bds "row_of_pole" s_row_of_pole ["quotient", "c"] := fun _ _ _ _ _ _ us hl => match us, hl with | [_, _], _ => rfl
theorem bd27 : Bds "from_rows" s_from_rows ["whole", "poles", "rows"] := fun _ _ _ _ _ _ us hl => match us, hl with | [_, _, _], _ => rfl
theorem bd28 : Bds "quotient_sum" s_quotient_sum ["one", "other"] := fun _ _ _ _ _ _ us hl => match us, hl with | [_, _], _ => rfl
theorem bd29 : Bds "slope_row" s_slope_row ["row"] := fun _ _ _ _ _ _ us hl => match us, hl with | [_], _ => rfl
theorem bd30 : Bds "quotient_slope" s_quotient_slope ["quotient"] := fun _ _ _ _ _ _ us hl => match us, hl with | [_], _ => rfl
theorem bd31 : Bds "check_quotient" s_check_quotient ["thing"] := fun _ _ _ _ _ _ us hl => match us, hl with | [_], _ => rfl
theorem bd32 : Bds "powers_of" s_powers_of ["quotient"] := fun _ _ _ _ _ _ us hl => match us, hl with | [_], _ => rfl
theorem bd33 : Bds "integral_row" s_integral_row ["row"] := fun _ _ _ _ _ _ us hl => match us, hl with | [_], _ => rfl
theorem bd34 : Bds "integral_whole" s_integral_whole ["whole"] := fun _ _ _ _ _ _ us hl => match us, hl with | [_], _ => rfl
theorem bd35 : Bds "integral_of" s_integral_of ["quotient"] := fun _ _ _ _ _ _ us hl => match us, hl with | [_], _ => rfl
theorem bd36 : Bds "writing" s_writing ["quotient"] := fun _ _ _ _ _ _ us hl => match us, hl with | [_], _ => rfl
theorem bd37 : Bds "are_powers" s_are_powers ["thing"] := fun _ _ _ _ _ _ us hl => match us, hl with | [_], _ => rfl
theorem bd38 : Bds "is_integral" s_is_integral ["thing"] := fun _ _ _ _ _ _ us hl => match us, hl with | [_], _ => rfl
theorem bd39 : Bds "quotient_of" s_quotient_of ["powers", "g"] := fun _ _ _ _ _ _ us hl => match us, hl with | [_, _], _ => rfl
theorem bd40 : Bds "_law_deck" s__law_deck ["script"] := fun _ _ _ _ _ _ us hl => match us, hl with | [_], _ => rfl
theorem bd41 : Bds "_law_draw" s__law_draw ["deck", "below"] := fun _ _ _ _ _ _ us hl => match us, hl with | [_, _], _ => rfl
theorem bd42 : Bds "_law_pick" s__law_pick ["deck", "some"] := fun _ _ _ _ _ _ us hl => match us, hl with | [_, _], _ => rfl
theorem bd43 : Bds "_law_same" s__law_same ["told", "due"] := fun _ _ _ _ _ _ us hl => match us, hl with | [_, _], _ => rfl
theorem bd44 : Bds "_law_gcd" s__law_gcd ["one", "other"] := fun _ _ _ _ _ _ us hl => match us, hl with | [_, _], _ => rfl
theorem bd45 : Bds "_law_pole" s__law_pole ["top", "bottom"] := fun _ _ _ _ _ _ us hl => match us, hl with | [_, _], _ => rfl
theorem bd46 : Bds "_law_few" s__law_few ["deck", "many", "menu"] := fun _ _ _ _ _ _ us hl => match us, hl with | [_, _, _], _ => rfl
theorem bd47 : Bds "_law_place" s__law_place ["pole"] := fun _ _ _ _ _ _ us hl => match us, hl with | [_], _ => rfl
theorem bd48 : Bds "_law_fraction" s__law_fraction ["top", "bottom"] := fun _ _ _ _ _ _ us hl => match us, hl with | [_, _], _ => rfl
theorem bd49 : Bds "_law_plus" s__law_plus ["one", "other"] := fun _ _ _ _ _ _ us hl => match us, hl with | [_, _], _ => rfl
theorem bd50 : Bds "_law_by" s__law_by ["one", "other"] := fun _ _ _ _ _ _ us hl => match us, hl with | [_, _], _ => rfl
theorem bd51 : Bds "_law_rows" s__law_rows ["one", "other"] := fun _ _ _ _ _ _ us hl => match us, hl with | [_, _], _ => rfl
theorem bd52 : Bds "_law_cut" s__law_cut ["row"] := fun _ _ _ _ _ _ us hl => match us, hl with | [_], _ => rfl
theorem bd53 : Bds "_law_shut" s__law_shut ["whole", "tails"] := fun _ _ _ _ _ _ us hl => match us, hl with | [_, _], _ => rfl
theorem bd54 : Bds "_law_sum" s__law_sum ["one", "other"] := fun _ _ _ _ _ _ us hl => match us, hl with | [_, _], _ => rfl
theorem bd55 : Bds "_law_slope" s__law_slope ["quotient"] := fun _ _ _ _ _ _ us hl => match us, hl with | [_], _ => rfl
theorem bd56 : Bds "_law_number" s__law_number ["deck"] := fun _ _ _ _ _ _ us hl => match us, hl with | [_], _ => rfl
theorem bd57 : Bds "_law_one_pole" s__law_one_pole ["deck"] := fun _ _ _ _ _ _ us hl => match us, hl with | [_], _ => rfl
theorem bd58 : Bds "_law_row" s__law_row ["deck", "long"] := fun _ _ _ _ _ _ us hl => match us, hl with | [_, _], _ => rfl
theorem bd59 : Bds "_law_quotient" s__law_quotient ["deck", "poles", "long", "whole"] := fun _ _ _ _ _ _ us hl => match us, hl with | [_, _, _, _], _ => rfl
theorem bd60 : Bds "_law_written" s__law_written ["quotient"] := fun _ _ _ _ _ _ us hl => match us, hl with | [_], _ => rfl
theorem bd61 : Bds "_law_is_written_right" s__law_is_written_right ["quotient"] := fun _ _ _ _ _ _ us hl => match us, hl with | [_], _ => rfl
theorem bd62 : Bds "_law_is_made_right" s__law_is_made_right ["deck", "poles"] := fun _ _ _ _ _ _ us hl => match us, hl with | [_, _], _ => rfl
theorem all_ok { fL : Addr} { fdL : FuncData} {t_TOO_LARGE : Tok} (sy : Sy base) (T : Bt mg)
    (i_TOO_LARGE : mg "TOO_LARGE" = some (.int 1000000000000000 t_TOO_LARGE))
    (h0 : ∃ f fd, Df K mg "is_integer" sInt ["thing"] f fd)
    (h1 : ∃ f fd, Df K mg "is_tuple_of" sTupOf ["thing", "many"] f fd)
    (h2 : ∃ f fd, Df K mg "all_integers" sAllInt ["things"] f fd)
    (h3 : ∃ f fd, Df K mg "in_lowest_terms" sLowest ["top", "bottom"] f fd)
    (h4 : ∃ f fd, Df K mg "square_split" sSplit ["size"] f fd)
    (h5 : ∃ f fd, Df K mg "free_of_squares" sFree ["size"] f fd)
    (h6 : ∃ f fd, Df K mg "lowest" sLowest2 ["top", "bottom"] f fd)
    (h7 : ∃ f fd, Df K mg "fits_as_d" sFits ["d"] f fd)
    (h8 : ∃ f fd, Df K mg "is_triple" sTriple ["thing"] f fd)
    (h9 : ∃ f fd, Df K mg "is_number" sNumber ["thing"] f fd)
    (h10 : ∃ f fd, Df K mg "is_pole" s_is_pole ["thing"] f fd)
    (h11 : ∃ f fd, Df K mg "comes_before" s_comes_before ["one", "other"] f fd)
    (h12 : ∃ f fd, Df K mg "is_polynomial" s_is_polynomial ["thing"] f fd)
    (h13 : ∃ f fd, Df K mg "is_tail" s_is_tail ["thing"] f fd)
    (h14 : ∃ f fd, Df K mg "are_tails" s_are_tails ["thing"] f fd)
    (h15 : ∃ f fd, Df K mg "is_quotient" s_is_quotient ["thing"] f fd)
    (h16 : ∃ f fd, Df K mg "add_term" s_add_term ["totals", "d", "top", "bottom"] f fd)
    (h17 : ∃ f fd, Df K mg "from_totals" s_from_totals ["totals"] f fd)
    (h18 : ∃ f fd, Df K mg "weighted_sum" s_weighted_sum ["parts"] f fd)
    (h19 : ∃ f fd, Df K mg "scaled" s_scaled ["number", "top", "bottom"] f fd)
    (h20 : ∃ f fd, Df K mg "number_sum" s_number_sum ["one", "other"] f fd)
    (h21 : ∃ f fd, Df K mg "trimmed" s_trimmed ["numbers"] f fd)
    (h22 : ∃ f fd, Df K mg "row_sum" s_row_sum ["one", "other"] f fd)
    (h23 : ∃ f fd, Df K mg "whole_slope" s_whole_slope ["whole"] f fd)
    (h24 : ∃ f fd, Df K mg "poles_of" s_poles_of ["quotient"] f fd)
    (h25 : ∃ f fd, Df K mg "all_poles" s_all_poles ["one", "other"] f fd)
    (h26 : ∃ f fd, Df K mg "row_of_pole" s_row_of_pole ["quotient", "c"] f fd)
    (h27 : ∃ f fd, Df K mg "from_rows" s_from_rows ["whole", "poles", "rows"] f fd)
    (h28 : ∃ f fd, Df K mg "quotient_sum" s_quotient_sum ["one", "other"] f fd)
    (h29 : ∃ f fd, Df K mg "slope_row" s_slope_row ["row"] f fd)
    (h30 : ∃ f fd, Df K mg "quotient_slope" s_quotient_slope ["quotient"] f fd)
    (h31 : ∃ f fd, Df K mg "check_quotient" s_check_quotient ["thing"] f fd)
    (h32 : ∃ f fd, Df K mg "powers_of" s_powers_of ["quotient"] f fd)
    (h33 : ∃ f fd, Df K mg "integral_row" s_integral_row ["row"] f fd)
    (h34 : ∃ f fd, Df K mg "integral_whole" s_integral_whole ["whole"] f fd)
    (h35 : ∃ f fd, Df K mg "integral_of" s_integral_of ["quotient"] f fd)
    (h36 : ∃ f fd, Df K mg "writing" s_writing ["quotient"] f fd)
    (h37 : ∃ f fd, Df K mg "are_powers" s_are_powers ["thing"] f fd)
    (h38 : ∃ f fd, Df K mg "is_integral" s_is_integral ["thing"] f fd)
    (h39 : ∃ f fd, Df K mg "quotient_of" s_quotient_of ["powers", "g"] f fd)
    (h40 : ∃ f fd, Df K mg "_law_deck" s__law_deck ["script"] f fd)
    (h41 : ∃ f fd, Df K mg "_law_draw" s__law_draw ["deck", "below"] f fd)
    (h42 : ∃ f fd, Df K mg "_law_pick" s__law_pick ["deck", "some"] f fd)
    (h43 : ∃ f fd, Df K mg "_law_same" s__law_same ["told", "due"] f fd)
    (h44 : ∃ f fd, Df K mg "_law_gcd" s__law_gcd ["one", "other"] f fd)
    (h45 : ∃ f fd, Df K mg "_law_pole" s__law_pole ["top", "bottom"] f fd)
    (h46 : ∃ f fd, Df K mg "_law_few" s__law_few ["deck", "many", "menu"] f fd)
    (h47 : ∃ f fd, Df K mg "_law_place" s__law_place ["pole"] f fd)
    (h48 : ∃ f fd, Df K mg "_law_fraction" s__law_fraction ["top", "bottom"] f fd)
    (h49 : ∃ f fd, Df K mg "_law_plus" s__law_plus ["one", "other"] f fd)
    (h50 : ∃ f fd, Df K mg "_law_by" s__law_by ["one", "other"] f fd)
    (h51 : ∃ f fd, Df K mg "_law_rows" s__law_rows ["one", "other"] f fd)
    (h52 : ∃ f fd, Df K mg "_law_cut" s__law_cut ["row"] f fd)
    (h53 : ∃ f fd, Df K mg "_law_shut" s__law_shut ["whole", "tails"] f fd)
    (h54 : ∃ f fd, Df K mg "_law_sum" s__law_sum ["one", "other"] f fd)
    (h55 : ∃ f fd, Df K mg "_law_slope" s__law_slope ["quotient"] f fd)
    (h56 : ∃ f fd, Df K mg "_law_number" s__law_number ["deck"] f fd)
    (h57 : ∃ f fd, Df K mg "_law_one_pole" s__law_one_pole ["deck"] f fd)
    (h58 : ∃ f fd, Df K mg "_law_row" s__law_row ["deck", "long"] f fd)
    (h59 : ∃ f fd, Df K mg "_law_quotient" s__law_quotient ["deck", "poles", "long", "whole"] f fd)
    (h60 : ∃ f fd, Df K mg "_law_written" s__law_written ["quotient"] f fd)
    (h61 : ∃ f fd, Df K mg "_law_is_written_right" s__law_is_written_right ["quotient"] f fd)
    (h62 : ∃ f fd, Df K mg "_law_is_made_right" s__law_is_made_right ["deck", "poles"] f fd)
    (FL : Fun K "law" "law" s_law fL fdL) : FnG P w K mg base 14 fL fdL ["script"] (spLaw K) := by
  obtain ⟨f_is_integer, d_is_integer, D_is_integer⟩ := h0
  obtain ⟨f_is_tuple_of, d_is_tuple_of, D_is_tuple_of⟩ := h1
  obtain ⟨f_all_integers, d_all_integers, D_all_integers⟩ := h2
  obtain ⟨f_in_lowest_terms, d_in_lowest_terms, D_in_lowest_terms⟩ := h3
  obtain ⟨f_square_split, d_square_split, D_square_split⟩ := h4
  obtain ⟨f_free_of_squares, d_free_of_squares, D_free_of_squares⟩ := h5
  obtain ⟨f_lowest, d_lowest, D_lowest⟩ := h6
  obtain ⟨f_fits_as_d, d_fits_as_d, D_fits_as_d⟩ := h7
  obtain ⟨f_is_triple, d_is_triple, D_is_triple⟩ := h8
  obtain ⟨f_is_number, d_is_number, D_is_number⟩ := h9
  obtain ⟨f_is_pole, d_is_pole, D_is_pole⟩ := h10
  obtain ⟨f_comes_before, d_comes_before, D_comes_before⟩ := h11
  obtain ⟨f_is_polynomial, d_is_polynomial, D_is_polynomial⟩ := h12
  obtain ⟨f_is_tail, d_is_tail, D_is_tail⟩ := h13
  obtain ⟨f_are_tails, d_are_tails, D_are_tails⟩ := h14
  obtain ⟨f_is_quotient, d_is_quotient, D_is_quotient⟩ := h15
  obtain ⟨f_add_term, d_add_term, D_add_term⟩ := h16
  obtain ⟨f_from_totals, d_from_totals, D_from_totals⟩ := h17
  obtain ⟨f_weighted_sum, d_weighted_sum, D_weighted_sum⟩ := h18
  obtain ⟨f_scaled, d_scaled, D_scaled⟩ := h19
  obtain ⟨f_number_sum, d_number_sum, D_number_sum⟩ := h20
  obtain ⟨f_trimmed, d_trimmed, D_trimmed⟩ := h21
  obtain ⟨f_row_sum, d_row_sum, D_row_sum⟩ := h22
  obtain ⟨f_whole_slope, d_whole_slope, D_whole_slope⟩ := h23
  obtain ⟨f_poles_of, d_poles_of, D_poles_of⟩ := h24
  obtain ⟨f_all_poles, d_all_poles, D_all_poles⟩ := h25
  obtain ⟨f_row_of_pole, d_row_of_pole, D_row_of_pole⟩ := h26
  obtain ⟨f_from_rows, d_from_rows, D_from_rows⟩ := h27
  obtain ⟨f_quotient_sum, d_quotient_sum, D_quotient_sum⟩ := h28
  obtain ⟨f_slope_row, d_slope_row, D_slope_row⟩ := h29
  obtain ⟨f_quotient_slope, d_quotient_slope, D_quotient_slope⟩ := h30
  obtain ⟨f_check_quotient, d_check_quotient, D_check_quotient⟩ := h31
  obtain ⟨f_powers_of, d_powers_of, D_powers_of⟩ := h32
  obtain ⟨f_integral_row, d_integral_row, D_integral_row⟩ := h33
  obtain ⟨f_integral_whole, d_integral_whole, D_integral_whole⟩ := h34
  obtain ⟨f_integral_of, d_integral_of, D_integral_of⟩ := h35
  obtain ⟨f_writing, d_writing, D_writing⟩ := h36
  obtain ⟨f_are_powers, d_are_powers, D_are_powers⟩ := h37
  obtain ⟨f_is_integral, d_is_integral, D_is_integral⟩ := h38
  obtain ⟨f_quotient_of, d_quotient_of, D_quotient_of⟩ := h39
  obtain ⟨f__law_deck, d__law_deck, D__law_deck⟩ := h40
  obtain ⟨f__law_draw, d__law_draw, D__law_draw⟩ := h41
  obtain ⟨f__law_pick, d__law_pick, D__law_pick⟩ := h42
  obtain ⟨f__law_same, d__law_same, D__law_same⟩ := h43
  obtain ⟨f__law_gcd, d__law_gcd, D__law_gcd⟩ := h44
  obtain ⟨f__law_pole, d__law_pole, D__law_pole⟩ := h45
  obtain ⟨f__law_few, d__law_few, D__law_few⟩ := h46
  obtain ⟨f__law_place, d__law_place, D__law_place⟩ := h47
  obtain ⟨f__law_fraction, d__law_fraction, D__law_fraction⟩ := h48
  obtain ⟨f__law_plus, d__law_plus, D__law_plus⟩ := h49
  obtain ⟨f__law_by, d__law_by, D__law_by⟩ := h50
  obtain ⟨f__law_rows, d__law_rows, D__law_rows⟩ := h51
  obtain ⟨f__law_cut, d__law_cut, D__law_cut⟩ := h52
  obtain ⟨f__law_shut, d__law_shut, D__law_shut⟩ := h53
  obtain ⟨f__law_sum, d__law_sum, D__law_sum⟩ := h54
  obtain ⟨f__law_slope, d__law_slope, D__law_slope⟩ := h55
  obtain ⟨f__law_number, d__law_number, D__law_number⟩ := h56
  obtain ⟨f__law_one_pole, d__law_one_pole, D__law_one_pole⟩ := h57
  obtain ⟨f__law_row, d__law_row, D__law_row⟩ := h58
  obtain ⟨f__law_quotient, d__law_quotient, D__law_quotient⟩ := h59
  obtain ⟨f__law_written, d__law_written, D__law_written⟩ := h60
  obtain ⟨f__law_is_written_right, d__law_is_written_right, D__law_is_written_right⟩ := h61
  obtain ⟨f__law_is_made_right, d__law_is_made_right, D__law_is_made_right⟩ := h62
  have p_is_integer := D_is_integer.kn (P := P) (w := w) (base := base) (ok_int D_is_integer.F T)
  have p_is_tuple_of := D_is_tuple_of.kn (P := P) (w := w) (base := base) (ok_tupOf D_is_tuple_of.F T)
  have p_all_integers := D_all_integers.kn (ok_allInt D_all_integers.F T p_is_integer)
  have p_in_lowest_terms := D_in_lowest_terms.kn (P := P) (w := w) (base := base) (ok_low D_in_lowest_terms.F T)
  have iS := D_square_split.kn (P := P) (w := w) (base := base) (ok_split D_square_split.F T)
  have iF := D_free_of_squares.kn (ok_free D_free_of_squares.F iS)
  have iX := D_fits_as_d.kn (ok_fits D_fits_as_d.F T i_TOO_LARGE iF)
  have iR := D_is_triple.kn (ok_triple D_is_triple.F p_is_tuple_of p_all_integers p_in_lowest_terms iX)
  have p_is_number := D_is_number.kn (ok_number D_is_number.F T iR)
  have p_lowest := D_lowest.kn (P := P) (w := w) (base := base) (ok_lowest D_lowest.F T)
  have p_is_pole := D_is_pole.kn (P := P) (w := w) (base := base) (ok_is_pole  D_is_pole.F T p_is_tuple_of p_all_integers p_in_lowest_terms)
  have p_comes_before := D_comes_before.kn (P := P) (w := w) (base := base) (ok_comes_before  D_comes_before.F T )
  have p_is_polynomial := D_is_polynomial.kn (P := P) (w := w) (base := base) (ok_is_polynomial  D_is_polynomial.F T p_is_number)
  have p_is_tail := D_is_tail.kn (P := P) (w := w) (base := base) (ok_is_tail  D_is_tail.F T p_is_tuple_of p_is_pole p_is_polynomial)
  have p_are_tails := D_are_tails.kn (P := P) (w := w) (base := base) (ok_are_tails  D_are_tails.F T p_is_tail p_comes_before)
  have p_is_quotient := D_is_quotient.kn (P := P) (w := w) (base := base) (ok_is_quotient  D_is_quotient.F T p_is_tuple_of p_is_polynomial p_are_tails)
  have p_add_term := D_add_term.kn (P := P) (w := w) (base := base) (ok_add_term  D_add_term.F T )
  have p_from_totals := D_from_totals.kn (P := P) (w := w) (base := base) (ok_from_totals  D_from_totals.F T p_lowest)
  have p_weighted_sum := D_weighted_sum.kn (P := P) (w := w) (base := base) (ok_weighted_sum  D_weighted_sum.F T p_add_term p_from_totals)
  have p_scaled := D_scaled.kn (P := P) (w := w) (base := base) (ok_scaled  D_scaled.F T p_weighted_sum)
  have p_number_sum := D_number_sum.kn (P := P) (w := w) (base := base) (ok_number_sum  D_number_sum.F T p_weighted_sum)
  have p_trimmed := D_trimmed.kn (P := P) (w := w) (base := base) (ok_trimmed  D_trimmed.F T )
  have p_row_sum := D_row_sum.kn (P := P) (w := w) (base := base) (ok_row_sum  D_row_sum.F T p_number_sum p_trimmed)
  have p_whole_slope := D_whole_slope.kn (P := P) (w := w) (base := base) (ok_whole_slope  D_whole_slope.F T p_scaled)
  have p_poles_of := D_poles_of.kn (P := P) (w := w) (base := base) (ok_poles_of  D_poles_of.F T )
  have p_all_poles := D_all_poles.kn (P := P) (w := w) (base := base) (ok_all_poles  D_all_poles.F T p_poles_of p_comes_before)
  have p_row_of_pole := D_row_of_pole.kn (P := P) (w := w) (base := base) (ok_row_of_pole  D_row_of_pole.F T )
  have p_from_rows := D_from_rows.kn (P := P) (w := w) (base := base) (ok_from_rows  D_from_rows.F T )
  have p_quotient_sum := D_quotient_sum.kn (P := P) (w := w) (base := base) (ok_quotient_sum  D_quotient_sum.F T p_all_poles p_row_of_pole p_row_sum p_from_rows)
  have p_slope_row := D_slope_row.kn (P := P) (w := w) (base := base) (ok_slope_row  D_slope_row.F T p_scaled)
  have p_quotient_slope := D_quotient_slope.kn (P := P) (w := w) (base := base) (ok_quotient_slope  D_quotient_slope.F T p_whole_slope p_slope_row)
  have p_check_quotient := D_check_quotient.kn (P := P) (w := w) (base := base) (ok_check_quotient  D_check_quotient.F T p_is_quotient)
  have p_powers_of := D_powers_of.kn (P := P) (w := w) (base := base) (ok_powers_of  D_powers_of.F T )
  have p_integral_row := D_integral_row.kn (P := P) (w := w) (base := base) (ok_integral_row  D_integral_row.F T p_scaled)
  have p_integral_whole := D_integral_whole.kn (P := P) (w := w) (base := base) (ok_integral_whole  D_integral_whole.F T p_scaled)
  have p_integral_of := D_integral_of.kn (P := P) (w := w) (base := base) (ok_integral_of  D_integral_of.F T p_integral_row p_integral_whole p_poles_of p_from_rows)
  have p_writing := D_writing.kn (P := P) (w := w) (base := base) (ok_writing  D_writing.F T p_check_quotient p_powers_of p_integral_of)
  have p_are_powers := D_are_powers.kn (P := P) (w := w) (base := base) (ok_are_powers  D_are_powers.F T p_is_tuple_of p_are_tails)
  have p_is_integral := D_is_integral.kn (P := P) (w := w) (base := base) (ok_is_integral  D_is_integral.F T p_is_quotient)
  have p_quotient_of := D_quotient_of.kn (P := P) (w := w) (base := base) (ok_quotient_of  D_quotient_of.F T p_are_powers p_is_integral p_quotient_slope p_quotient_sum)
  have l_deck := D__law_deck.kn (P := P) (w := w) (base := base) (ok__law_deck  D__law_deck.F T )
  have l_draw := D__law_draw.kn (P := P) (w := w) (base := base) (ok__law_draw  D__law_draw.F T )
  have l_pick := D__law_pick.kn (P := P) (w := w) (base := base) (ok__law_pick  D__law_pick.F T l_draw)
  have l_same : KnG P w K mg base 1 "_law_same" ["told", "due"] spSame f__law_same d__law_same := ⟨ok__law_same sy D__law_same.F T , D__law_same.m, D__law_same.F.kp, D__law_same.b⟩
  have l_gcd := D__law_gcd.kn (P := P) (w := w) (base := base) (ok__law_gcd  D__law_gcd.F T )
  have l_pole := D__law_pole.kn (P := P) (w := w) (base := base) (ok__law_pole  D__law_pole.F T l_gcd)
  have l_few := D__law_few.kn (P := P) (w := w) (base := base) (ok__law_few  D__law_few.F T l_draw)
  have ky := ky_place (P := P) (w := w) D__law_place.F D__law_place.b
  have hmp := D__law_place.m
  have l_fraction := D__law_fraction.kn (P := P) (w := w) (base := base) (ok__law_fraction  D__law_fraction.F T l_gcd)
  have l_plus := D__law_plus.kn (P := P) (w := w) (base := base) (ok__law_plus  D__law_plus.F T l_gcd)
  have l_by := D__law_by.kn (P := P) (w := w) (base := base) (ok__law_by  D__law_by.F T l_gcd l_plus)
  have l_rows := D__law_rows.kn (P := P) (w := w) (base := base) (ok__law_rows  D__law_rows.F T l_plus)
  have l_cut := D__law_cut.kn (P := P) (w := w) (base := base) (ok__law_cut  D__law_cut.F T )
  have l_shut := D__law_shut.kn (P := P) (w := w) (base := base) (ok__law_shut ky hmp D__law_shut.F T l_cut)
  have l_sum := D__law_sum.kn (P := P) (w := w) (base := base) (ok__law_sum  D__law_sum.F T l_rows l_shut)
  have l_slope := D__law_slope.kn (P := P) (w := w) (base := base) (ok__law_slope  D__law_slope.F T l_fraction l_by l_shut)
  have l_number := D__law_number.kn (P := P) (w := w) (base := base) (ok__law_number  D__law_number.F T l_draw l_pick l_fraction l_few l_plus l_by)
  have l_one_pole := D__law_one_pole.kn (P := P) (w := w) (base := base) (ok__law_one_pole  D__law_one_pole.F T l_draw l_pick l_pole)
  have l_row := D__law_row.kn (P := P) (w := w) (base := base) (ok__law_row  D__law_row.F T l_draw l_number)
  have l_quotient := D__law_quotient.kn (P := P) (w := w) (base := base) (ok__law_quotient  D__law_quotient.F T l_draw l_row l_shut)
  have l_written := D__law_written.kn (P := P) (w := w) (base := base) (ok__law_written  D__law_written.F T l_fraction l_by l_shut)
  have nk_writing := bk_writing D_writing.F
  have nk2_quotient_of := bk_quotient_of D_quotient_of.F
  have l_is_written_right : KnG P w K mg base 12 "_law_is_written_right" ["quotient"] spLWR f__law_is_written_right d__law_is_written_right := ⟨ok__law_is_written_right sy nk_writing nk2_quotient_of D__law_is_written_right.F T l_written l_same p_writing p_quotient_of, D__law_is_written_right.m, D__law_is_written_right.F.kp, D__law_is_written_right.b⟩
  have l_is_made_right : KnG P w K mg base 13 "_law_is_made_right" ["deck", "poles"] spLMR f__law_is_made_right d__law_is_made_right := ⟨ok__law_is_made_right ky hmp sy nk2_quotient_of D__law_is_made_right.F T l_number l_draw l_quotient l_slope l_sum l_same p_quotient_of p_writing, D__law_is_made_right.m, D__law_is_made_right.F.kp, D__law_is_made_right.b⟩
  exact ok_law FL T l_deck l_pick l_one_pole l_quotient l_is_written_right l_is_made_right

end
theorem all_mk {l : PySem.W.OpenLaw} {w : World} {K : PySem.W.Frag} {h : Heap} {mg : Str → Option Value} {fa fL : Addr} (X : K.In h) (G : h.Ns mainGlobals mg) (hfa : mg "law" = some (.ref fa))
    {odL anL : Option Addr} {slL : Array (Option Value)} {ocL kVL dcL pmL cdL ctL : Value} {t_TOO_LARGE : Tok}
    (n0 : PySem.W.nsIn K mainGlobals "TOO_LARGE" = some (some (.int 1000000000000000 t_TOO_LARGE)))
    (h0 : ∃ f fd, Df K mg "is_integer" sInt ["thing"] f fd)
    (h1 : ∃ f fd, Df K mg "is_tuple_of" sTupOf ["thing", "many"] f fd)
    (h2 : ∃ f fd, Df K mg "all_integers" sAllInt ["things"] f fd)
    (h3 : ∃ f fd, Df K mg "in_lowest_terms" sLowest ["top", "bottom"] f fd)
    (h4 : ∃ f fd, Df K mg "square_split" sSplit ["size"] f fd)
    (h5 : ∃ f fd, Df K mg "free_of_squares" sFree ["size"] f fd)
    (h6 : ∃ f fd, Df K mg "lowest" sLowest2 ["top", "bottom"] f fd)
    (h7 : ∃ f fd, Df K mg "fits_as_d" sFits ["d"] f fd)
    (h8 : ∃ f fd, Df K mg "is_triple" sTriple ["thing"] f fd)
    (h9 : ∃ f fd, Df K mg "is_number" sNumber ["thing"] f fd)
    (h10 : ∃ f fd, Df K mg "is_pole" s_is_pole ["thing"] f fd)
    (h11 : ∃ f fd, Df K mg "comes_before" s_comes_before ["one", "other"] f fd)
    (h12 : ∃ f fd, Df K mg "is_polynomial" s_is_polynomial ["thing"] f fd)
    (h13 : ∃ f fd, Df K mg "is_tail" s_is_tail ["thing"] f fd)
    (h14 : ∃ f fd, Df K mg "are_tails" s_are_tails ["thing"] f fd)
    (h15 : ∃ f fd, Df K mg "is_quotient" s_is_quotient ["thing"] f fd)
    (h16 : ∃ f fd, Df K mg "add_term" s_add_term ["totals", "d", "top", "bottom"] f fd)
    (h17 : ∃ f fd, Df K mg "from_totals" s_from_totals ["totals"] f fd)
    (h18 : ∃ f fd, Df K mg "weighted_sum" s_weighted_sum ["parts"] f fd)
    (h19 : ∃ f fd, Df K mg "scaled" s_scaled ["number", "top", "bottom"] f fd)
    (h20 : ∃ f fd, Df K mg "number_sum" s_number_sum ["one", "other"] f fd)
    (h21 : ∃ f fd, Df K mg "trimmed" s_trimmed ["numbers"] f fd)
    (h22 : ∃ f fd, Df K mg "row_sum" s_row_sum ["one", "other"] f fd)
    (h23 : ∃ f fd, Df K mg "whole_slope" s_whole_slope ["whole"] f fd)
    (h24 : ∃ f fd, Df K mg "poles_of" s_poles_of ["quotient"] f fd)
    (h25 : ∃ f fd, Df K mg "all_poles" s_all_poles ["one", "other"] f fd)
    (h26 : ∃ f fd, Df K mg "row_of_pole" s_row_of_pole ["quotient", "c"] f fd)
    (h27 : ∃ f fd, Df K mg "from_rows" s_from_rows ["whole", "poles", "rows"] f fd)
    (h28 : ∃ f fd, Df K mg "quotient_sum" s_quotient_sum ["one", "other"] f fd)
    (h29 : ∃ f fd, Df K mg "slope_row" s_slope_row ["row"] f fd)
    (h30 : ∃ f fd, Df K mg "quotient_slope" s_quotient_slope ["quotient"] f fd)
    (h31 : ∃ f fd, Df K mg "check_quotient" s_check_quotient ["thing"] f fd)
    (h32 : ∃ f fd, Df K mg "powers_of" s_powers_of ["quotient"] f fd)
    (h33 : ∃ f fd, Df K mg "integral_row" s_integral_row ["row"] f fd)
    (h34 : ∃ f fd, Df K mg "integral_whole" s_integral_whole ["whole"] f fd)
    (h35 : ∃ f fd, Df K mg "integral_of" s_integral_of ["quotient"] f fd)
    (h36 : ∃ f fd, Df K mg "writing" s_writing ["quotient"] f fd)
    (h37 : ∃ f fd, Df K mg "are_powers" s_are_powers ["thing"] f fd)
    (h38 : ∃ f fd, Df K mg "is_integral" s_is_integral ["thing"] f fd)
    (h39 : ∃ f fd, Df K mg "quotient_of" s_quotient_of ["powers", "g"] f fd)
    (h40 : ∃ f fd, Df K mg "_law_deck" s__law_deck ["script"] f fd)
    (h41 : ∃ f fd, Df K mg "_law_draw" s__law_draw ["deck", "below"] f fd)
    (h42 : ∃ f fd, Df K mg "_law_pick" s__law_pick ["deck", "some"] f fd)
    (h43 : ∃ f fd, Df K mg "_law_same" s__law_same ["told", "due"] f fd)
    (h44 : ∃ f fd, Df K mg "_law_gcd" s__law_gcd ["one", "other"] f fd)
    (h45 : ∃ f fd, Df K mg "_law_pole" s__law_pole ["top", "bottom"] f fd)
    (h46 : ∃ f fd, Df K mg "_law_few" s__law_few ["deck", "many", "menu"] f fd)
    (h47 : ∃ f fd, Df K mg "_law_place" s__law_place ["pole"] f fd)
    (h48 : ∃ f fd, Df K mg "_law_fraction" s__law_fraction ["top", "bottom"] f fd)
    (h49 : ∃ f fd, Df K mg "_law_plus" s__law_plus ["one", "other"] f fd)
    (h50 : ∃ f fd, Df K mg "_law_by" s__law_by ["one", "other"] f fd)
    (h51 : ∃ f fd, Df K mg "_law_rows" s__law_rows ["one", "other"] f fd)
    (h52 : ∃ f fd, Df K mg "_law_cut" s__law_cut ["row"] f fd)
    (h53 : ∃ f fd, Df K mg "_law_shut" s__law_shut ["whole", "tails"] f fd)
    (h54 : ∃ f fd, Df K mg "_law_sum" s__law_sum ["one", "other"] f fd)
    (h55 : ∃ f fd, Df K mg "_law_slope" s__law_slope ["quotient"] f fd)
    (h56 : ∃ f fd, Df K mg "_law_number" s__law_number ["deck"] f fd)
    (h57 : ∃ f fd, Df K mg "_law_one_pole" s__law_one_pole ["deck"] f fd)
    (h58 : ∃ f fd, Df K mg "_law_row" s__law_row ["deck", "long"] f fd)
    (h59 : ∃ f fd, Df K mg "_law_quotient" s__law_quotient ["deck", "poles", "long", "whole"] f fd)
    (h60 : ∃ f fd, Df K mg "_law_written" s__law_written ["quotient"] f fd)
    (h61 : ∃ f fd, Df K mg "_law_is_written_right" s__law_is_written_right ["quotient"] f fd)
    (h62 : ∃ f fd, Df K mg "_law_is_made_right" s__law_is_made_right ["deck", "poles"] f fd)
    (z0 : PySem.W.nsIn K mainGlobals "int" = some none)
    (z1 : PySem.W.nsIn K mainGlobals "bool" = some none)
    (z2 : PySem.W.nsIn K mainGlobals "tuple" = some none)
    (z3 : PySem.W.nsIn K mainGlobals "list" = some none)
    (z4 : PySem.W.nsIn K mainGlobals "isinstance" = some none)
    (z5 : PySem.W.nsIn K mainGlobals "len" = some none)
    (z6 : PySem.W.nsIn K mainGlobals "all" = some none)
    (z7 : PySem.W.nsIn K mainGlobals "range" = some none)
    (z8 : PySem.W.nsIn K mainGlobals "abs" = some none)
    (z9 : PySem.W.nsIn K mainGlobals "repr" = some none)
    (z10 : PySem.W.nsIn K mainGlobals "zip" = some none)
    (z11 : PySem.W.nsIn K mainGlobals "max" = some none)
    (z12 : PySem.W.nsIn K mainGlobals "sorted" = some none)
    (z13 : PySem.W.nsIn K mainGlobals "str" = some none)
    (z14 : PySem.W.nsIn K mainGlobals "gcd" = some (some (.builtin "math.gcd")))
    (z15 : PySem.W.nsIn K mainGlobals "enumerate" = some none)
    (z16 : PySem.W.nsIn K mainGlobals "isqrt" = some (some (.builtin "math.isqrt")))
    (aL : PySem.W.nsIn K mainGlobals "law" = some (some (.ref fL))) (lL : K.lookup fL = some ⟨ocL, odL, .func (PySem.W.fnOf "law" "law" (defArgs s_law) (defBody s_law) (defScope s_law) .none kVL dcL pmL anL cdL ctL), slL⟩) (cL : PySem.W.codeIn K cdL "law" = true) (kL : PySem.W.keepIn K (.ref fL) = true) :
    ∃ fd : FuncData, (∀ (s : Shared) (v : Value), BindsTo s fd ⟨[v], []⟩ [("script", v)]) ∧ ∀ base : Heap, K.In base → base.Ns mainGlobals mg → Sy base → FnG l.prog w K mg base 14 fa fd ["script"] (spLaw K) := by
  have e := hfa.symm.trans (PySem.W.mg_of X G aL)
  cases e
  have no : ∀ {x : Str}, PySem.W.nsIn K mainGlobals x = some none → mg x = none := fun z => PySem.W.mg_none_of X G z
  have T : Bt mg := ⟨no z0, no z1, no z2, no z3, no z4, no z5, no z6, no z7, no z8, no z9, no z10, no z11, no z12, no z13, PySem.W.mg_of X G z14, no z15, PySem.W.mg_of X G z16⟩
  exact ⟨_, fun s v => .of_eq rfl, fun base _ _ sy => all_ok sy T (PySem.W.mg_of X G n0) h0 h1 h2 h3 h4 h5 h6 h7 h8 h9 h10 h11 h12 h13 h14 h15 h16 h17 h18 h19 h20 h21 h22 h23 h24 h25 h26 h27 h28 h29 h30 h31 h32 h33 h34 h35 h36 h37 h38 h39 h40 h41 h42 h43 h44 h45 h46 h47 h48 h49 h50 h51 h52 h53 h54 h55 h56 h57 h58 h59 h60 h61 h62 (fun_mk (st := s_law) lL cL kL)⟩
end N3

open PySem PySem.W PyProof.Rows
set_option maxHeartbeats 0 in
theorem PySem.Challenge.cw_twiceslope_k54_writings_of_any_quotient_holds : PySem.Challenge.rw_twiceslope_k54_writings_of_any_quotient.Holds := by
  w_on; o_law; k_head; (case hw => w_witness2)
  k_fill
  refine L2.walk_idle (l := PySem.Challenge.rw_twiceslope_k54_writings_of_any_quotient) (n := 63) (k := 14) (x := "script") (sp := fun w => N3.spLaw _) rfl (by decide) rfl (by decide +kernel) ⟨rfl, by decide, by decide⟩ (fun w h Y => PySem.W.kIn_of Y) ?F (fun _ _ a ns hl _ hS => ⟨a, ns, rfl, hS, hl, fun _ => rfl⟩)
  case F =>
    intro w mg fa h KX G hmg
    refine' N3.all_mk KX G hmg ?n0 ?d0 ?d1 ?d2 ?d3 ?d4 ?d5 ?d6 ?d7 ?d8 ?d9 ?d10 ?d11 ?d12 ?d13 ?d14 ?d15 ?d16 ?d17 ?d18 ?d19 ?d20 ?d21 ?d22 ?d23 ?d24 ?d25 ?d26 ?d27 ?d28 ?d29 ?d30 ?d31 ?d32 ?d33 ?d34 ?d35 ?d36 ?d37 ?d38 ?d39 ?d40 ?d41 ?d42 ?d43 ?d44 ?d45 ?d46 ?d47 ?d48 ?d49 ?d50 ?d51 ?d52 ?d53 ?d54 ?d55 ?d56 ?d57 ?d58 ?d59 ?d60 ?d61 ?d62 ?z0 ?z1 ?z2 ?z3 ?z4 ?z5 ?z6 ?z7 ?z8 ?z9 ?z10 ?z11 ?z12 ?z13 ?z14 ?z15 ?z16 ?aL ?lL ?cL ?kL
    (case n0 => k_is)
    case d0 => (refine' N3.df_mk (st := N3.sInt) KX G ?v_a ?v_l ?v_c ?v_k N3.bd0; (case v_a => k_is); (case v_l => k_is); (case v_c => k_is); (case v_k => k_is))
    case d1 => (refine' N3.df_mk (st := N3.sTupOf) KX G ?v_a ?v_l ?v_c ?v_k N3.bd1; (case v_a => k_is); (case v_l => k_is); (case v_c => k_is); (case v_k => k_is))
    case d2 => (refine' N3.df_mk (st := N3.sAllInt) KX G ?v_a ?v_l ?v_c ?v_k N3.bd2; (case v_a => k_is); (case v_l => k_is); (case v_c => k_is); (case v_k => k_is))
    case d3 => (refine' N3.df_mk (st := N3.sLowest) KX G ?v_a ?v_l ?v_c ?v_k N3.bd3; (case v_a => k_is); (case v_l => k_is); (case v_c => k_is); (case v_k => k_is))
    case d4 => (refine' N3.df_mk (st := N3.sSplit) KX G ?v_a ?v_l ?v_c ?v_k N3.bd4; (case v_a => k_is); (case v_l => k_is); (case v_c => k_is); (case v_k => k_is))
    case d5 => (refine' N3.df_mk (st := N3.sFree) KX G ?v_a ?v_l ?v_c ?v_k N3.bd5; (case v_a => k_is); (case v_l => k_is); (case v_c => k_is); (case v_k => k_is))
    case d6 => (refine' N3.df_mk (st := N3.sLowest2) KX G ?v_a ?v_l ?v_c ?v_k N3.bd6; (case v_a => k_is); (case v_l => k_is); (case v_c => k_is); (case v_k => k_is))
    case d7 => (refine' N3.df_mk (st := N3.sFits) KX G ?v_a ?v_l ?v_c ?v_k N3.bd7; (case v_a => k_is); (case v_l => k_is); (case v_c => k_is); (case v_k => k_is))
    case d8 => (refine' N3.df_mk (st := N3.sTriple) KX G ?v_a ?v_l ?v_c ?v_k N3.bd8; (case v_a => k_is); (case v_l => k_is); (case v_c => k_is); (case v_k => k_is))
    case d9 => (refine' N3.df_mk (st := N3.sNumber) KX G ?v_a ?v_l ?v_c ?v_k N3.bd9; (case v_a => k_is); (case v_l => k_is); (case v_c => k_is); (case v_k => k_is))
    case d10 => (refine' N3.df_mk (st := N3.s_is_pole) KX G ?v_a ?v_l ?v_c ?v_k N3.bd10; (case v_a => k_is); (case v_l => k_is); (case v_c => k_is); (case v_k => k_is))
    case d11 => (refine' N3.df_mk (st := N3.s_comes_before) KX G ?v_a ?v_l ?v_c ?v_k N3.bd11; (case v_a => k_is); (case v_l => k_is); (case v_c => k_is); (case v_k => k_is))
    case d12 => (refine' N3.df_mk (st := N3.s_is_polynomial) KX G ?v_a ?v_l ?v_c ?v_k N3.bd12; (case v_a => k_is); (case v_l => k_is); (case v_c => k_is); (case v_k => k_is))
    case d13 => (refine' N3.df_mk (st := N3.s_is_tail) KX G ?v_a ?v_l ?v_c ?v_k N3.bd13; (case v_a => k_is); (case v_l => k_is); (case v_c => k_is); (case v_k => k_is))
    case d14 => (refine' N3.df_mk (st := N3.s_are_tails) KX G ?v_a ?v_l ?v_c ?v_k N3.bd14; (case v_a => k_is); (case v_l => k_is); (case v_c => k_is); (case v_k => k_is))
    case d15 => (refine' N3.df_mk (st := N3.s_is_quotient) KX G ?v_a ?v_l ?v_c ?v_k N3.bd15; (case v_a => k_is); (case v_l => k_is); (case v_c => k_is); (case v_k => k_is))
    case d16 => (refine' N3.df_mk (st := N3.s_add_term) KX G ?v_a ?v_l ?v_c ?v_k N3.bd16; (case v_a => k_is); (case v_l => k_is); (case v_c => k_is); (case v_k => k_is))
    case d17 => (refine' N3.df_mk (st := N3.s_from_totals) KX G ?v_a ?v_l ?v_c ?v_k N3.bd17; (case v_a => k_is); (case v_l => k_is); (case v_c => k_is); (case v_k => k_is))
    case d18 => (refine' N3.df_mk (st := N3.s_weighted_sum) KX G ?v_a ?v_l ?v_c ?v_k N3.bd18; (case v_a => k_is); (case v_l => k_is); (case v_c => k_is); (case v_k => k_is))
    case d19 => (refine' N3.df_mk (st := N3.s_scaled) KX G ?v_a ?v_l ?v_c ?v_k N3.bd19; (case v_a => k_is); (case v_l => k_is); (case v_c => k_is); (case v_k => k_is))
    case d20 => (refine' N3.df_mk (st := N3.s_number_sum) KX G ?v_a ?v_l ?v_c ?v_k N3.bd20; (case v_a => k_is); (case v_l => k_is); (case v_c => k_is); (case v_k => k_is))
    case d21 => (refine' N3.df_mk (st := N3.s_trimmed) KX G ?v_a ?v_l ?v_c ?v_k N3.bd21; (case v_a => k_is); (case v_l => k_is); (case v_c => k_is); (case v_k => k_is))
    case d22 => (refine' N3.df_mk (st := N3.s_row_sum) KX G ?v_a ?v_l ?v_c ?v_k N3.bd22; (case v_a => k_is); (case v_l => k_is); (case v_c => k_is); (case v_k => k_is))
    case d23 => (refine' N3.df_mk (st := N3.s_whole_slope) KX G ?v_a ?v_l ?v_c ?v_k N3.bd23; (case v_a => k_is); (case v_l => k_is); (case v_c => k_is); (case v_k => k_is))
    case d24 => (refine' N3.df_mk (st := N3.s_poles_of) KX G ?v_a ?v_l ?v_c ?v_k N3.bd24; (case v_a => k_is); (case v_l => k_is); (case v_c => k_is); (case v_k => k_is))
    case d25 => (refine' N3.df_mk (st := N3.s_all_poles) KX G ?v_a ?v_l ?v_c ?v_k N3.bd25; (case v_a => k_is); (case v_l => k_is); (case v_c => k_is); (case v_k => k_is))
    case d26 => (refine' N3.df_mk (st := N3.s_row_of_pole) KX G ?v_a ?v_l ?v_c ?v_k N3.bd26; (case v_a => k_is); (case v_l => k_is); (case v_c => k_is); (case v_k => k_is))
    case d27 => (refine' N3.df_mk (st := N3.s_from_rows) KX G ?v_a ?v_l ?v_c ?v_k N3.bd27; (case v_a => k_is); (case v_l => k_is); (case v_c => k_is); (case v_k => k_is))
    case d28 => (refine' N3.df_mk (st := N3.s_quotient_sum) KX G ?v_a ?v_l ?v_c ?v_k N3.bd28; (case v_a => k_is); (case v_l => k_is); (case v_c => k_is); (case v_k => k_is))
    case d29 => (refine' N3.df_mk (st := N3.s_slope_row) KX G ?v_a ?v_l ?v_c ?v_k N3.bd29; (case v_a => k_is); (case v_l => k_is); (case v_c => k_is); (case v_k => k_is))
    case d30 => (refine' N3.df_mk (st := N3.s_quotient_slope) KX G ?v_a ?v_l ?v_c ?v_k N3.bd30; (case v_a => k_is); (case v_l => k_is); (case v_c => k_is); (case v_k => k_is))
    case d31 => (refine' N3.df_mk (st := N3.s_check_quotient) KX G ?v_a ?v_l ?v_c ?v_k N3.bd31; (case v_a => k_is); (case v_l => k_is); (case v_c => k_is); (case v_k => k_is))
    case d32 => (refine' N3.df_mk (st := N3.s_powers_of) KX G ?v_a ?v_l ?v_c ?v_k N3.bd32; (case v_a => k_is); (case v_l => k_is); (case v_c => k_is); (case v_k => k_is))
    case d33 => (refine' N3.df_mk (st := N3.s_integral_row) KX G ?v_a ?v_l ?v_c ?v_k N3.bd33; (case v_a => k_is); (case v_l => k_is); (case v_c => k_is); (case v_k => k_is))
    case d34 => (refine' N3.df_mk (st := N3.s_integral_whole) KX G ?v_a ?v_l ?v_c ?v_k N3.bd34; (case v_a => k_is); (case v_l => k_is); (case v_c => k_is); (case v_k => k_is))
    case d35 => (refine' N3.df_mk (st := N3.s_integral_of) KX G ?v_a ?v_l ?v_c ?v_k N3.bd35; (case v_a => k_is); (case v_l => k_is); (case v_c => k_is); (case v_k => k_is))
    case d36 => (refine' N3.df_mk (st := N3.s_writing) KX G ?v_a ?v_l ?v_c ?v_k N3.bd36; (case v_a => k_is); (case v_l => k_is); (case v_c => k_is); (case v_k => k_is))
    case d37 => (refine' N3.df_mk (st := N3.s_are_powers) KX G ?v_a ?v_l ?v_c ?v_k N3.bd37; (case v_a => k_is); (case v_l => k_is); (case v_c => k_is); (case v_k => k_is))
    case d38 => (refine' N3.df_mk (st := N3.s_is_integral) KX G ?v_a ?v_l ?v_c ?v_k N3.bd38; (case v_a => k_is); (case v_l => k_is); (case v_c => k_is); (case v_k => k_is))
    case d39 => (refine' N3.df_mk (st := N3.s_quotient_of) KX G ?v_a ?v_l ?v_c ?v_k N3.bd39; (case v_a => k_is); (case v_l => k_is); (case v_c => k_is); (case v_k => k_is))
    case d40 => (refine' N3.df_mk (st := N3.s__law_deck) KX G ?v_a ?v_l ?v_c ?v_k N3.bd40; (case v_a => k_is); (case v_l => k_is); (case v_c => k_is); (case v_k => k_is))
    case d41 => (refine' N3.df_mk (st := N3.s__law_draw) KX G ?v_a ?v_l ?v_c ?v_k N3.bd41; (case v_a => k_is); (case v_l => k_is); (case v_c => k_is); (case v_k => k_is))
    case d42 => (refine' N3.df_mk (st := N3.s__law_pick) KX G ?v_a ?v_l ?v_c ?v_k N3.bd42; (case v_a => k_is); (case v_l => k_is); (case v_c => k_is); (case v_k => k_is))
    case d43 => (refine' N3.df_mk (st := N3.s__law_same) KX G ?v_a ?v_l ?v_c ?v_k N3.bd43; (case v_a => k_is); (case v_l => k_is); (case v_c => k_is); (case v_k => k_is))
    case d44 => (refine' N3.df_mk (st := N3.s__law_gcd) KX G ?v_a ?v_l ?v_c ?v_k N3.bd44; (case v_a => k_is); (case v_l => k_is); (case v_c => k_is); (case v_k => k_is))
    case d45 => (refine' N3.df_mk (st := N3.s__law_pole) KX G ?v_a ?v_l ?v_c ?v_k N3.bd45; (case v_a => k_is); (case v_l => k_is); (case v_c => k_is); (case v_k => k_is))
    case d46 => (refine' N3.df_mk (st := N3.s__law_few) KX G ?v_a ?v_l ?v_c ?v_k N3.bd46; (case v_a => k_is); (case v_l => k_is); (case v_c => k_is); (case v_k => k_is))
    case d47 => (refine' N3.df_mk (st := N3.s__law_place) KX G ?v_a ?v_l ?v_c ?v_k N3.bd47; (case v_a => k_is); (case v_l => k_is); (case v_c => k_is); (case v_k => k_is))
    case d48 => (refine' N3.df_mk (st := N3.s__law_fraction) KX G ?v_a ?v_l ?v_c ?v_k N3.bd48; (case v_a => k_is); (case v_l => k_is); (case v_c => k_is); (case v_k => k_is))
    case d49 => (refine' N3.df_mk (st := N3.s__law_plus) KX G ?v_a ?v_l ?v_c ?v_k N3.bd49; (case v_a => k_is); (case v_l => k_is); (case v_c => k_is); (case v_k => k_is))
    case d50 => (refine' N3.df_mk (st := N3.s__law_by) KX G ?v_a ?v_l ?v_c ?v_k N3.bd50; (case v_a => k_is); (case v_l => k_is); (case v_c => k_is); (case v_k => k_is))
    case d51 => (refine' N3.df_mk (st := N3.s__law_rows) KX G ?v_a ?v_l ?v_c ?v_k N3.bd51; (case v_a => k_is); (case v_l => k_is); (case v_c => k_is); (case v_k => k_is))
    case d52 => (refine' N3.df_mk (st := N3.s__law_cut) KX G ?v_a ?v_l ?v_c ?v_k N3.bd52; (case v_a => k_is); (case v_l => k_is); (case v_c => k_is); (case v_k => k_is))
    case d53 => (refine' N3.df_mk (st := N3.s__law_shut) KX G ?v_a ?v_l ?v_c ?v_k N3.bd53; (case v_a => k_is); (case v_l => k_is); (case v_c => k_is); (case v_k => k_is))
    case d54 => (refine' N3.df_mk (st := N3.s__law_sum) KX G ?v_a ?v_l ?v_c ?v_k N3.bd54; (case v_a => k_is); (case v_l => k_is); (case v_c => k_is); (case v_k => k_is))
    case d55 => (refine' N3.df_mk (st := N3.s__law_slope) KX G ?v_a ?v_l ?v_c ?v_k N3.bd55; (case v_a => k_is); (case v_l => k_is); (case v_c => k_is); (case v_k => k_is))
    case d56 => (refine' N3.df_mk (st := N3.s__law_number) KX G ?v_a ?v_l ?v_c ?v_k N3.bd56; (case v_a => k_is); (case v_l => k_is); (case v_c => k_is); (case v_k => k_is))
    case d57 => (refine' N3.df_mk (st := N3.s__law_one_pole) KX G ?v_a ?v_l ?v_c ?v_k N3.bd57; (case v_a => k_is); (case v_l => k_is); (case v_c => k_is); (case v_k => k_is))
    case d58 => (refine' N3.df_mk (st := N3.s__law_row) KX G ?v_a ?v_l ?v_c ?v_k N3.bd58; (case v_a => k_is); (case v_l => k_is); (case v_c => k_is); (case v_k => k_is))
    case d59 => (refine' N3.df_mk (st := N3.s__law_quotient) KX G ?v_a ?v_l ?v_c ?v_k N3.bd59; (case v_a => k_is); (case v_l => k_is); (case v_c => k_is); (case v_k => k_is))
    case d60 => (refine' N3.df_mk (st := N3.s__law_written) KX G ?v_a ?v_l ?v_c ?v_k N3.bd60; (case v_a => k_is); (case v_l => k_is); (case v_c => k_is); (case v_k => k_is))
    case d61 => (refine' N3.df_mk (st := N3.s__law_is_written_right) KX G ?v_a ?v_l ?v_c ?v_k N3.bd61; (case v_a => k_is); (case v_l => k_is); (case v_c => k_is); (case v_k => k_is))
    case d62 => (refine' N3.df_mk (st := N3.s__law_is_made_right) KX G ?v_a ?v_l ?v_c ?v_k N3.bd62; (case v_a => k_is); (case v_l => k_is); (case v_c => k_is); (case v_k => k_is))
    (case z0 => k_is)
    (case z1 => k_is)
    (case z2 => k_is)
    (case z3 => k_is)
    (case z4 => k_is)
    (case z5 => k_is)
    (case z6 => k_is)
    (case z7 => k_is)
    (case z8 => k_is)
    (case z9 => k_is)
    (case z10 => k_is)
    (case z11 => k_is)
    (case z12 => k_is)
    (case z13 => k_is)
    (case z14 => k_is)
    (case z15 => k_is)
    (case z16 => k_is)
    (case aL => k_is)
    (case lL => k_is)
    (case cL => k_is)
    (case kL => k_is)
