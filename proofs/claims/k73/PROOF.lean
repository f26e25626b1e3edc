import PyProof.Rows.All
import Wide.All
import OpenK.AllK
import Wide.FinOn
import HandS.ForMost
import HandS.ForExc
import HandS.ExcSuper
import HandS.ClsMeth
import KE.KExcIs
import HandS.ExcInit
import HandS.IsInst
import HandS.HotCalls
import HandS.Defaults
import HandS.Iter
import KE.GoesEnum
import HandS.Ends
import PyProof.ReprRoads
import PyProof.RowDictHeap
import HandS.Dict
import PyProof.Rows.RegStrFacts
import HandS.Style
import HandS.TupAny
import HandS.List
import HandS.Comp
import HandS.Wide
import HandS.Codes
import HandS.Walk
import HandS.Gcd
import Flt.RightSqrt
import HandS.Zip
import HandS.NoneIn
import PySem.Challenge.RW_twiceslope_k73_verdicts_by_parameters
set_option Elab.async false
set_option linter.all false
set_option maxRecDepth 100000
set_option maxHeartbeats 4000000
namespace PySem
namespace Sl
open PySem.W PySem.Calls PyProof.Rows PySem.HandSPX
open Builtin Builtin.ObjectAttr
/-- own classes, then Exception's line -/
abbrev xTail : List Value := [.type "Exception", .type "BaseException", .type "object"]
def refsX : List Value → Bool
  | .ref _ :: r => refsX r
  | l => l == xTail
theorem refsX_two (a b : Addr) : refsX (.ref a :: .ref b :: xTail) = true := by
  show (xTail == xTail) = true
  decide +kernel
/-- the class at C stands over SlopeError at S -/
structure SubCls (K : Frag) (C S : Addr) : Prop where
  cls : ∃ nm q N bs sn sub ab col dd k0 k1 k2 k3 k5, K.lookup C = some (excClassObj nm q C N bs (.ref S :: xTail) true sn sub ab col dd k0 k1 k2 k3 k5 "Exception.__new__")
theorem pass_sub (self : Value) (C S : Addr) : refuseLoop self "__setattr__" (.ref C :: .ref S :: xTail) = pure () := by
  rw [refuseLoop_ref, refuseLoop_ref]
  exact F.store_Exception.passes self
theorem has_sub (C S : Addr) (T : String) (hT : xTail.contains (.type T) = true) : (Value.ref C :: .ref S :: xTail).contains (.type T) = true := by
  rw [List.contains_cons, List.contains_cons, hT]
  simp
theorem tail_sub (S : Addr) (T : String) : (Value.ref S :: xTail).contains (.type T) = xTail.contains (.type T) := by
  rw [List.contains_cons]
  rfl
end Sl
end PySem
namespace PySem
namespace Sl
open PySem.W PySem.Calls PyProof.Rows PySem.HandSPX
open Builtin Builtin.ObjectAttr
section
variable {prog : Program} {w : World} {A : Around} {E : Value → Shared → Prop} {R : Result → Shared → Prop} {hp : Heap} {g : Array GenState} {d : Drawn} {t : Nat} {os : OsState}
/-- self.name = v on a fresh exception of such a class -/
theorem osa_sub {K : W.Frag} {name : Str} {tk : Tok} {v : Value} {x C S : Addr} {fv : Array Value} {cd : ClassData}
    (X : K.In hp) (hx : hp.get? x = some { cls := .ref C, data := .fields fv }) (hcd : W.clsIn K C = some cd) (hm : cd.mro = .ref C :: .ref S :: xTail) (hh : cd.hasDict = true) (ha : W.findIn K (.ref C) name = some none)
    (hq : ∀ h' tk' dx, (∀ b o, b ≠ x → hp.get? b = some o → h'.get? b = some o) → hp.objs.size ≤ dx → dx ≠ x →
      h'.get? x = some { cls := .ref C, dict := some dx, data := .fields fv } → h'.Ns1 dx (fun y => if y = name then some v else none) → R (.ok (.ret .none)) ⟨h', g, d, tk', os⟩) :
    codeAny (model prog w) A (.call (.builtin "object.__setattr__") ⟨[.ref x, .str name tk, v], []⟩) R ⟨hp, g, d, t, os⟩ := by
  have I : W.InstAt hp x { cls := .ref C, data := .fields fv } C none := ⟨hx, rfl, rfl, trivial⟩
  have far : x ≠ hp.objs.size := Nat.ne_of_lt (Heap.lt_size hx)
  have mo : W.mroIn K C (.type "object") = some true := by
    unfold W.mroIn
    rw [hcd, Option.bind_some, hm, if_neg (show ¬ (List.isEmpty (Value.ref C :: .ref S :: xTail) = true) from Bool.false_ne_true), has_sub C S "object" (by decide +kernel)]
  have lm : W.Looks (model prog w) hp (isInstance (.ref x) (.type "object")) true := I.type.andThen (W.looks_mroIn X mo)
  have lr : W.Looks (model prog w) hp (mroOf (.ref C)) cd.mro := (W.looks_clsIn X hcd).andThen .now
  have lt : W.Looks (model prog w) hp (storeTaker? none) none := .now
  have lc : W.Looks (model prog w) hp (classData C) cd := W.looks_clsIn X hcd
  have stops : refuseLoop (.ref x) "__setattr__" cd.mro = pure () := by rw [hm]; exact pass_sub _ C S
  refine codeAny_call_builtin F.store_object.slot.plain F.store_object.entry
    (@W.check_slot (model prog w) _ _ ⟨hp, g, d, t, os⟩ "object.__setattr__" "object" "__setattr__" (.ref x) [.str name tk, v] [] _ F.store_object.kind F.store_object.split lm (F.store_object.args (.ref x) (.str name tk) v) ?_)
  rw [W.osa_eq, refuse_eq]
  refine wpAny_bind (wpAny_bind (I.type.at (wpAny_bind (lr.at ?_)))); rw [stops]
  refine wpAny_pure (wpAny_bind (I.type.at (wpAny_bind ((W.looks_findIn X ha).at (wpAny_bind (lt.at ?_))))))
  show wpAny _ _ (storeInOwnDict (.ref x) (.ref C) (.str name tk) name v false) _ _ _
  obtain ⟨nm, bs, mro, ns, qn, hd, sn, sb, ab, col, del⟩ := cd
  dsimp only at hh; subst hh
  unfold storeInOwnDict ownDictForStores
  repeat (first
    | with_reducible refine HandSPX.store_in_new ?_ ?_
    | with_reducible refine wpAny_loadPart_at hx ?_
    | with_reducible refine lc.at ?_
    | wp_step)
  · exact ⟨_, #[], _, (Heap.get?_update_ne _ _ _ _ far.symm).trans (Heap.get?_push_at rfl rfl), rfl, fun e he => absurd he (by simp), fun _ => rfl⟩
  · intro h' tk' hn' hs
    have hx1 : (hp.push { cls := .type "dict", data := .dict #[] }).get? x = some { cls := .ref C, data := .fields fv } := Heap.get?_push_of_some _ hx
    refine hq h' tk' hp.objs.size (fun b o hb ho => ?_) (Nat.le_refl _) far.symm ?_ hn'
    · exact (hs.2 b (Nat.ne_of_lt (Heap.lt_size ho))).trans ((Heap.get?_update_ne _ _ _ _ hb).trans (Heap.get?_push_of_some _ ho))
    · exact (hs.2 x far).trans (Heap.get?_update_self _ hx1 rfl)
end
end Sl
end PySem

namespace PySem
namespace Sl
open PySem.W PySem.Calls PyProof.Rows PySem.HandSPX
open Builtin Builtin.ObjectAttr
section
variable {M : Model} {A : Around} {E : Value → Shared → Prop} {h : Heap} {g : Array GenState} {d : Drawn} {t : Nat} {os : OsState}
variable {nm q : Str} {C N : Addr} {bs bm : List Value} {hdct : Bool} {sn : List Str} {sub : List Value} {ab : Bool} {col : Option Bool} {dd : Option Addr} {k0 k1 k2 k3 k5 : Option Value}
abbrev xb := F.excBase_Exception
theorem check_kw (hT : ∀ T : String, bm.contains (.type T) = xTail.contains (.type T)) {rest : List Value} {kw : List (Str × Value)} {Q : Unit → Shared → Prop}
    (hC : h.get? C = some (excClassObj nm q C N bs bm hdct sn sub ab col dd k0 k1 k2 k3 k5 "Exception.__new__")) (hq : Q () ⟨h, g, d, t, os⟩) :
    wpAny M A (checkBuiltinCall "Exception.__new__" ⟨.ref C :: rest, kw⟩) Q E ⟨h, g, d, t, os⟩ := by
  have hcont : (Value.ref C :: bm).contains (.type "Exception") = true := by rw [List.contains_cons, hT, xb.hasB, Bool.or_true]
  have hstar := xb.noStar
  simp only [checkBuiltinCall, xb.newKind, xb.newSplit, xb.newRow]
  repeat (first
    | refine wpAny_loadPart_at hC ?_
    | (refine wpAny_isSubtype_exc hC ?_; rw [hcont])
    | refine wpAny_staticBase_exc hC ?_
    | refine wpAny_madeBy_exc hC ?_
    | simp only [bne_self_eq_false, Bool.false_eq_true, if_false]
    | wp_step)
  exact hq
end
section
variable {prog : Program} {w : World} {A : Around} {E : Value → Shared → Prop} {R : Result → Shared → Prop} {h : Heap} {g : Array GenState} {d : Drawn} {t : Nat} {os : OsState}
variable {nm q : Str} {C N : Addr} {bs bm : List Value} {hdct : Bool} {sn : List Str} {sub : List Value} {ab : Bool} {col : Option Bool} {dd : Option Addr} {k0 k1 k2 k3 k5 : Option Value}
theorem new_kw (hT : ∀ T : String, bm.contains (.type T) = xTail.contains (.type T)) {rest : List Value} {kw : List (Str × Value)}
    (hC : h.get? C = some (excClassObj nm q C N bs bm hdct sn sub ab col dd k0 k1 k2 k3 k5 "Exception.__new__"))
    (hq : R (.ok (.ret (.ref (h.objs.size + 1)))) ⟨(h.push (W.kdv_tup rest)).push (excO C h.objs.size), g, d, t, os⟩) (hrest : rest.length ≤ sizeLine) :
    codeAny (model prog w) A (.builtin "Exception.__new__" ⟨.ref C :: rest, kw⟩) R ⟨h, g, d, t, os⟩ := by
  have hends := xb.ends
  have hcB : (Value.ref C :: bm).contains (.type "Exception") = true := by rw [List.contains_cons, hT, xb.hasB, Bool.or_true]
  have hcA : (Value.ref C :: bm).contains (.type "AttributeError") = false := by rw [List.contains_cons, hT, xb.noAttr]; rfl
  have hcN : (Value.ref C :: bm).contains (.type "NameError") = false := by rw [List.contains_cons, hT, xb.noName]; rfl
  refine codeAny_builtinAt xb.entry ?_
  unfold Builtin.«BaseException.__new__»
  refine wpAt_bind ?_
  show wpAt _ _ _ (stack >>= _) _ _ _
  refine wpAt_bind (wpAt_stack fun p below => wpAt_of_wpAny ?_)
  wp_walk
  refine wpAt_of_wpAny ?_
  rw [xb.owner]
  repeat (first
    | with_reducible refine wpAny_madeHere_exc xb.canon hC ?_
    | with_reducible refine wpAny_loadPart_at hC ?_
    | (with_reducible refine wpAny_isSubtype_exc hC ?_; first | rw [hcB] | rw [hcA] | rw [hcN])
    | wp_step)
  show R _ _
  rw [Heap.size_push]
  exact hq
theorem call_kw (hT : ∀ T : String, bm.contains (.type T) = xTail.contains (.type T)) {rest : List Value} {kw : List (Str × Value)} {fI : Addr}
    (hC : h.get? C = some (excClassObj nm q C N bs bm hdct sn sub ab col dd k0 k1 k2 k3 k5 "Exception.__new__"))
    (hi : W.Looks (model prog w) h (typeLookup (.ref C) "__init__") (some (.ref fI))) (hb : ∀ self, W.Looks (model prog w) h (bindSpecial (.ref fI) self) (.ref fI, [self])) (hrest : rest.length ≤ sizeLine)
    (hq : codeAny (model prog w) (A.under (.builtin "type.__call__" ⟨.ref C :: rest, kw⟩)) (.call (.ref fI) ⟨.ref (h.objs.size + 1) :: rest, kw⟩) (W.InitBack (h.objs.size + 1) R)
      ⟨(h.push (W.kdv_tup rest)).push (excO C h.objs.size), g, d, t, os⟩) :
    codeAny (model prog w) A (.call (.ref C) ⟨rest, kw⟩) R ⟨h, g, d, t, os⟩ := by
  have f1 := tc_lookup
  have f2 := tc_bind (.ref C)
  have f3 := tc_sub
  have hTy : (⟨h, g, d, t, os⟩ : Shared).TypeIs (.ref C) "type" := ⟨_, hC, rfl⟩
  refine codeAny_of_tree ?_
  show wpAny _ _ (callAny (.ref C) _) _ _ _
  repeat (any_goals (first | assumption | with_reducible refine wpAny_loadPart_at hC ?_ | wp_step))
  refine ⟨rfl, ?_⟩
  refine codeAny_call_builtin_at (Code.quiet_builtin _ (by decide +kernel)) entry_typeCall ?_
  have after : wpAny (model prog w) (A.under (.builtin "type.__call__" ⟨.ref C :: rest, kw⟩)) (Builtin.«type.__call__» ⟨.ref C :: rest, kw⟩)
      (fun fin s' => match fin with | .done f => R (.ok f) s' | .again c' => c'.quiet = true ∧ codeAny (model prog w) A c' R s') (fun e s' => R (.error e) s') ⟨h, g, d, t, os⟩ := by
    repeat (first | with_reducible refine wpAny_loadPart_at hC ?_ | with_reducible refine wpAny_madeBy_exc hC ?_ | wp_step)
    refine codeAny_call_builtin_code (Code.quiet_builtin _ xb.quiet) (check_kw hT hC ?_)
    refine new_kw hT hC ?_ hrest
    show wpAny _ _ _ _ _ _
    have k : ∀ b o, h.get? b = some o → ((h.push (W.kdv_tup rest)).push (excO C h.objs.size)).get? b = some o := fun b o e => Heap.get?_push_of_some _ (Heap.get?_push_of_some _ e)
    have hC1 := k _ _ hC
    have hget : ((h.push (W.kdv_tup rest)).push (excO C h.objs.size)).get? (h.objs.size + 1) = some (excO C h.objs.size) := by heap_get
    have hcC : (Value.ref C :: bm).contains (.ref C) = true := by simp
    have i1 := hi.keeps k
    have b1 := (hb (.ref (h.objs.size + 1))).keeps k
    unfold isInstance
    repeat (first
      | with_reducible refine wpAny_loadPart_at hget ?_
      | (with_reducible refine wpAny_isSubtype_exc hC1 ?_; rw [hcC])
      | wp_step)
    show wpAny _ _ (typeLookup (.ref C) _) _ _ _
    refine i1.at ?_
    refine wpAny_holding (wpAny_bind (b1.at ?_))
    refine wpAny_bind (wpAny_call (codeAny_mono hq fun r s' z => ?_))
    rcases r with e | (v | _ | _ | _) <;> first | exact z | exact z.elim | skip
    obtain ⟨rfl, z⟩ := z
    first
      | exact wpAny_pure (wpAny_pure z)
      | (wp_walk; exact z)
  simp only [checkBuiltinCall, tc_kind, tc_split]
  repeat (any_goals (first | exact after | assumption | with_reducible refine wpAny_loadPart_at hC ?_ | with_reducible refine wpAny_onRaise ?_ | with_reducible refine wpAny_map ?_ | wp_step))
end
end Sl
end PySem

namespace L2
open PySem PySem.Spec PyProof.Rows
/-- what the written part says of an error's class at C, over SlopeError at S -/
structure SlC (K : PySem.W.Frag) (C S : Addr) : Prop where
  cls : PySem.Sl.SubCls K C S
  sa : PySem.W.findIn K (.ref C) "__setattr__" = some (some (.builtin "object.__setattr__"))
  exC : PySem.W.subIn K (.ref C) (.type "BaseException") = some true
  tyC : PySem.W.typeIn K (.ref C) = some (.type "type")
  kC : PySem.W.keepIn K (.ref C) = true
  ga : PySem.W.findIn K (.ref C) "__getattribute__" = some (some (.builtin "BaseException.__getattribute__"))
  gg : PySem.W.findIn K (.ref C) "__getattr__" = some none
  noT : PySem.W.findIn K (.ref C) "thing" = some none
  hd : PySem.W.hasDictIn K C = true
  hc : PySem.W.findIn K (.ref C) "__class__" = some (some (.builtin "object.__class__"))
  hn : PySem.W.specialIn K (.builtin "object.__class__") "__get__" = some (some (.builtin "getset_descriptor.__get__"))
  ht : PySem.W.takesIn K (.builtin "object.__class__") = some true
  hm : PySem.W.mroIn K C (.type "object") = some true
theorem SlC.clsIn {K : PySem.W.Frag} {C S : Addr} (T : SlC K C S) : ∃ cd : ClassData, PySem.W.clsIn K C = some cd ∧ cd.mro = .ref C :: .ref S :: PySem.Sl.xTail ∧ cd.hasDict = true := by
  obtain ⟨nm, q, N, bs, sn, sub, ab, col, dd, k0, k1, k2, k3, k5, hC⟩ := T.cls
  refine ⟨{ name := nm, bases := bs, mro := .ref C :: .ref S :: PySem.Sl.xTail, ns := N, qualname := q, hasDict := true, slotNames := sn, subclasses := sub, abstract := ab, collection := col, hasDel := false }, ?_, rfl, rfl⟩
  unfold PySem.W.clsIn
  rw [hC]
section
variable {X : Cx} {pins : List (Addr × Obj)} {σ : St} {H : Hp} {s : Shared} {a C S dx : Addr} {y : V} {u : Value} {A : Around} {E : Value → Shared → Prop}
/-- self.thing = y, self a fresh error -/
theorem sl_store {Q : Unit → Shared → Prop} (T : SlC X.K C S) (I : Inv X pins σ H s) (e : H a = some (exo a C none)) (ry : RelV y u)
    (h : ∀ dx s', H dx = none → dx ≠ a → Inv X pins σ (upd (upd H dx (exd dx [("thing", y)])) a (exo a C (some dx))) s' → Q () s') :
    wpAny (model X.prog X.w) A (setAttr (.ref a) "thing" u) Q E s := by
  obtain ⟨cd, hcl, hmr, hdi⟩ := T.clsIn
  obtain ⟨t1, ho⟩ := exo_at I.hok e
  obtain ⟨hp, g, d, t, os⟩ := s
  refine PySem.W.set_plain I.kIn (ox := { cls := .ref C, dict := none, data := .fields #[.ref t1, .none, .none, .none, .bool false, .none] }) (od := none) ⟨ho, rfl, rfl, trivial⟩ T.sa ?_
  refine PySem.Sl.osa_sub I.kIn ho hcl hmr hdi T.noT (fun h' tk' dx k dn dne hx hn => ?_)
  have hnd : H dx = none := I.hok.fresh dn
  have nd : ∀ {b : Addr} {o : Obj}, hp.get? b = some o → b ≠ dx := fun {b o} q => Nat.ne_of_lt (Nat.lt_of_lt_of_le (Heap.lt_size q) dn)
  have na : ∀ {b : Addr}, H b = none → b ≠ a := fun {b} n z => by rw [z, e] at n; cases n
  have U : Un X.fs [] H (upd (upd H dx (exd dx [("thing", y)])) a (exo a C (some dx))) hp h' := {
    keep := fun b o q n _ _ => k b o (na n) q
    slot := fun b o q n _ _ => ⟨o.slots, k b o (na n) q⟩
    free := fun b o q n _ => by rw [upd_ne (na n), upd_ne (nd q)]; exact n
    there := fun b o q _ => by
      by_cases hb : b = a
      · rw [hb]; exact ⟨_, hx⟩
      · exact ⟨o, k b o hb q⟩
    tups := fun b xs q => by rw [upd_ne (at_ne e q exo_tup), upd_ne (ne_of_none q hnd)]; exact q
    frzs := fun b o v q => by rw [upd_ne (at_ne e q exo_frz), upd_ne (ne_of_none q hnd)]; exact q
    tbls := fun b ps q => ⟨#[], by rw [upd_ne (at_ne e q exo_tbl), upd_ne (ne_of_none q hnd), q]; simp⟩ }
  refine h dx _ hnd dne (I.un (t' := tk') U fun b o q => ?_)
  by_cases hb : b = a
  · subst hb
    rw [upd_same] at q; cases q
    exact exo_ok hx
  · rw [upd_ne hb] at q
    by_cases hd : b = dx
    · subst hd
      rw [upd_same] at q; cases q
      exact exd_ok hn (relO_put (fs := []) ry fun g => True.intro)
    · rw [upd_ne hd] at q
      refine (I.hok b o q).stay (fun c v hc z => k c v ?_ z) (fun c hc => ?_) (fun c xs hc => ?_)
      · rcases hc with hc | hc
        · rw [hc]; exact hb
        · exact at_ne e hc exo_own
      · rw [upd_ne (at_ne e hc exo_own), upd_ne (ne_of_none hc hnd)]; exact hc
      · rw [upd_ne (at_ne e hc exo_tup), upd_ne (ne_of_none hc hnd)]; exact hc
/-- the reading of self.thing = e -/
def tSto (K : PySem.W.Frag) (to te : TE) : TS := fun D σ H => te σ H fun y H1 => to σ H1 fun x H2 => ∃ a C S : Addr, x = .ref a ∧ SlC K C S ∧ H2 a = some (exo a C none) ∧
  ∀ dx, H2 dx = none → dx ≠ a → D.nx σ (upd (upd H2 dx (exd dx [("thing", y)])) a (exo a C (some dx)))
theorem ps_sto {o e : Expr} {to te : TE} {p' pos : Pos} (ho : PE X o to) (he : PE X e te) (hs : swapsWith e (some (.Attribute o "thing" p')) pos.line X.env = pure false := by rfl) :
    PS X (.Assign [.Attribute o "thing" p'] e pos) (tSto X.K to te) := by
  refine ⟨fun pins s σ H D I h => ?_⟩
  refine plainObj_wpAny_Assign_Attribute (thn (he.run pins s σ H _ I h) fun v s1 ⟨y, H1, I1, r1, q1⟩ => thn (ho.run pins s1 σ H1 _ I1 q1) fun u s2 ⟨x, H2, I2, r2, a, C, S, ex, T, ea, q⟩ => ?_) hs
  subst ex
  obtain rfl : u = Value.ref a := r2
  exact sl_store T I2 ea r1 fun dx s' n ne J => ⟨σ, _, J, q dx n ne⟩
end
/-- the promise of both __init__: the error at a, fresh, gets its dict with the thing -/
def spSet (K : PySem.W.Frag) : Sp := fun vs H Q _ => ∃ (a C S : Addr) (y : V), vs = [.ref a, y] ∧ SlC K C S ∧ H a = some (exo a C none) ∧
  ∀ dx, H dx = none → dx ≠ a → Q .non (upd (upd H dx (exd dx [("thing", y)])) a (exo a C (some dx)))
/-- SlopeError's class at S, its __init__ at fS -/
structure SlB (K : PySem.W.Frag) (mg : Str → Option Value) (S fS : Addr) : Prop where
  mgS : mg "SlopeError" = some (.ref S)
  rd : PySem.W.readsIn K S (.type "type") = true
  ga : PySem.W.specialIn K (.ref S) "__getattribute__" = some (some (.builtin "type.__getattribute__"))
  at_ : PySem.W.findCls K (.ref S) (.type "type") "__init__" = some (.val (.ref fS))
  kf : PySem.W.keepIn K (.ref fS) = true
section
variable {X : Cx} {S fS : Addr} {k : Nat} {fd : FuncData} {sp : Sp} {E : XK} {CX : CXT} {e : Expr} {es : List Expr} {ta : TA} {p1 p2 pos : Pos} {ps : List Str}
/-- SlopeError.__init__(e, ..) -/
theorem pe_slInit {pl : Sem Bool} (B : SlB X.K X.mg S fS) (F : FnOk X.prog X.w X.K X.mg X.base CX k fS fd ps sp) (hr : Room k X.A) (hb : Binds X.K fd ps []) (hx : Passes CX X E) (hg : Gl X "SlopeError") (ha : PA X (e :: es) ta)
    (hc : eval (.Call (.Attribute (.Name "SlopeError" p1) "__init__" p2) (e :: es) [] pos) X.env = (do
      let ov ← eval (.Name "SlopeError" p1) X.env
      standAt p2.atName
      let (f, first) ← holding [ov] (getMethod ov "__init__" pl)
      callWith pos f first (backTo pos (starEach (e :: es) X.env)) (backToKw pos (keywordEach [] X.env))) := by rfl)
    (he : starEach (e :: es) X.env = (false, eval e X.env) :: starEach es X.env := by rfl) (hpl : (backTo pos (starEach es X.env)).any (·.1) = false := by rfl) :
    PE X (.Call (.Attribute (.Name "SlopeError" p1) "__init__" p2) (e :: es) [] pos) (fun σ H Q => ta σ H fun vs H1 => sp vs H1 Q E) := by
  refine ⟨fun pins s σ H Q I h => ?_⟩
  refine PySem.W.methodCall_KW (pl := pl) (ld_glob I hg B.mgS ?_ (by decide)) hc
  refine PySem.W.method_cls I.kIn B.ga (PySem.W.cls_value I.kIn B.rd B.at_ (by rfl) ?_)
  show wpAny _ _ (callWith pos (Value.ref fS) [] (backTo pos (starEach (e :: es) X.env)) []) _ _ _
  refine PySem.W.callWith_K (h₀ := X.base) I.ok.mod.kin B.kf (thn (ha.run pos pins _ σ H _ (I.tok _) h) fun us s1 ⟨vs, H1, I1, r, q⟩ => ⟨I1.kIn, ?_⟩) he hpl
  exact run_fn F hr hb .nil hx I1 r (by rw [List.append_nil]; exact q)
end
end L2

namespace L2
open PySem PySem.Spec PyProof.Rows
/-- the heap with a new error at a, its dict at dx -/
def slH (H : Hp) (a C dx : Addr) (y : V) : Hp := upd (upd H dx (exd dx [("thing", y)])) a (exo a C (some dx))
theorem slH_new {H : Hp} {a C dx : Addr} {y : V} {o : HO} : upd (upd (upd H a o) dx (exd dx [("thing", y)])) a (exo a C (some dx)) = slH H a C dx y := by
  funext b
  unfold slH
  by_cases h : b = a
  · rw [h, upd_same, upd_same]
  · rw [upd_ne h, upd_ne h]
    by_cases hd : b = dx
    · rw [hd, upd_same, upd_same]
    · rw [upd_ne hd, upd_ne hd, upd_ne h]
theorem slH_a {H : Hp} {a C dx : Addr} {y : V} : slH H a C dx y a = some (exo a C (some dx)) := upd_same
theorem slH_d {H : Hp} {a C dx : Addr} {y : V} (h : dx ≠ a) : slH H a C dx y dx = some (exd dx [("thing", y)]) := (upd_ne h).trans upd_same
theorem slH_ne {H : Hp} {a C dx b : Addr} {y : V} (h1 : b ≠ a) (h2 : b ≠ dx) : slH H a C dx y b = H b := (upd_ne h1).trans (upd_ne h2)
/-- an error's class at C: its own __init__ -/
structure SlM (K : PySem.W.Frag) (C S fI : Addr) : Prop where
  T : SlC K C S
  iC : PySem.W.findIn K (.ref C) "__init__" = some (some (.ref fI))
  tI : PySem.W.typeIn K (.ref fI) = some (.type "function")
/-- how the call of the class binds in __init__ -/
def SlBnd (K : PySem.W.Frag) (fd : FuncData) (us : List Value) (kw : List (Str × Value)) (u : Value) : Prop :=
  ∀ (s : Shared) (x : Value), K.In s.heap → BindsTo s fd ⟨x :: us, kw⟩ ((["self", "thing"] : List Str).zip [x, u])
section
variable {X : Cx} {pins : List (Addr × Obj)} {σ : St} {H : Hp} {s : Shared} {C S fI : Addr} {y : V} {u : Value} {k : Nat} {fd : FuncData} {CX : CXT} {us : List Value} {kw : List (Str × Value)}
/-- what is known behind the call of the class -/
structure SlGot (X : Cx) (pins : List (Addr × Obj)) (σ : St) (H : Hp) (s : Shared) (C a dx : Addr) (y : V) (s' : Shared) : Prop where
  new : s.heap.objs.size ≤ a
  na : H a = none
  nd : H dx = none
  ne : dx ≠ a
  mid : ∃ h1 : Heap, (∀ b o, s.heap.get? b = some o → h1.get? b = some o) ∧ Un (frs X.stack) [] (upd H a (exo a C none)) (slH H a C dx y) h1 s'.heap
  hok : HOk X.prog X.w (slH H a C dx y) s'.heap
  os : s'.os = s.os
  bare : AllBare s'.gens
  inv : Inv X pins σ (slH H a C dx y) s'
theorem sl_run {Q : Value → Shared → Prop} (M : SlM X.K C S fI) (F : FnOk X.prog X.w X.K X.mg X.base CX k fI fd ["self", "thing"] (spSet X.K)) (hr : Room (k + 1) X.A) (hx : Passes CX X E0)
    (hb : SlBnd X.K fd us kw u) (hl : us.length ≤ sizeLine) (I : Inv X pins σ H s) (ry : RelV y u) (h : ∀ a dx s', SlGot X pins σ H s C a dx y s' → Q (.ref a) s') :
    wpAny (model X.prog X.w) X.A (call (.ref C) us kw) Q X.xe s := by
  obtain ⟨nm, q, N, bs, sn, sub, ab, col, dd, k0, k1, k2, k3, k5, hC⟩ := M.T.cls
  obtain ⟨hp, g, dr, tk, os⟩ := s
  have hsz : hp.objs.size ≤ hp.objs.size + 1 := Nat.le_succ _
  have hn : H (hp.objs.size + 1) = none := I.hok.fresh hsz
  have kk : ∀ b o, hp.get? b = some o → ((hp.push (PySem.W.kdv_tup us)).push (PySem.HandSPX.excO C hp.objs.size)).get? b = some o := fun b o e => Heap.get?_push_of_some _ (Heap.get?_push_of_some _ e)
  have hget : ((hp.push (PySem.W.kdv_tup us)).push (PySem.HandSPX.excO C hp.objs.size)).get? (hp.objs.size + 1) = some (PySem.HandSPX.excO C hp.objs.size) := by heap_get
  have I2 : Inv X pins σ (upd H (hp.objs.size + 1) (exo (hp.objs.size + 1) C none)) ⟨(hp.push (PySem.W.kdv_tup us)).push (PySem.HandSPX.excO C hp.objs.size), g, dr, tk, os⟩ :=
    I.laid (t' := tk) (a := hp.objs.size + 1) (o := exo (hp.objs.size + 1) C none) (h' := (hp.push (PySem.W.kdv_tup us)).push (PySem.HandSPX.excO C hp.objs.size)) kk hsz (exo_ok hget)
  have r2 : Vals [V.ref (hp.objs.size + 1), y] [Value.ref (hp.objs.size + 1), u] := .cons rfl (.cons ry .nil)
  have room : Room k (X.A.under (.builtin "type.__call__" ⟨.ref C :: us, kw⟩)) := hr.make C us kw
  have e0 := I2.env0.make C us kw
  refine wpAny_call (PySem.Sl.call_kw (fun T => PySem.Sl.tail_sub S T) (I.kIn _ _ hC) (PySem.W.looks_findIn I.kIn M.iC) (fun self => PySem.W.bind_fn I.kIn self M.tI) hl
    (codeAny_mono (F.run _ X.stack _ _ ⟨Value.ref (hp.objs.size + 1) :: us, kw⟩ [Value.ref (hp.objs.size + 1), u] [V.ref (hp.objs.size + 1), y]
      (fun v H2 => v = .non ∧ ∃ dx, H dx = none ∧ dx ≠ hp.objs.size + 1 ∧ H2 = slH H (hp.objs.size + 1) C dx y) E0 room e0 (hb _ _ I2.kIn) r2
      ⟨hp.objs.size + 1, C, S, y, rfl, M.T, upd_same, fun dx n ne => ⟨rfl, dx, by rw [upd_ne ne] at n; exact n, ne, slH_new⟩⟩) fun r s' hq => ?_))
  cases r with
  | error er => exact hx pins σ _ _ er s' I2 hq
  | ok fl =>
    cases fl with
    | ret v0 =>
      obtain ⟨v, H2, os2, bare2, un2, hok2, rv, ev, dx, nd, ne, rfl⟩ := hq
      subst ev
      refine ⟨rv, h _ dx s' ⟨hsz, hn, nd, ne, ⟨_, kk, un2⟩, hok2, os2, bare2, ?_⟩⟩
      exact I2.call' (ch := []) os2 un2 hok2 bare2 (fun b z => absurd z (by simp))
    | next => exact False.elim hq
    | brk => exact False.elim hq
    | cont => exact False.elim hq
/-- such an error, made to be raised -/
theorem SlGot.raised {Q : XK} {a dx : Addr} {s' : Shared} (M : SlM X.K C S fI) (I : Inv X pins σ H s) (G : SlGot X pins σ H s C a dx y s')
    (q : ∀ H', H' dx = some (.xd [("thing", y)]) → H' a = none → (∀ b, b ≠ a → b ≠ dx → H' b = H b) → Q (.ref C) (some dx) H') : MkP X pins σ Q (.ref a) s' := by
  obtain ⟨h1, kk, un⟩ := G.mid
  obtain ⟨hp, g, dr, tk, os⟩ := s
  obtain ⟨h2, g2, d2, t2, os'⟩ := s'
  obtain ⟨t0, GG, J, kG, ge, hoe, na⟩ := mk_end0 (d2 := d2) (t2 := t2) (d := dx) (fs := [("thing", y)]) I G.new kk un G.hok G.os G.bare slH_a (slH_d G.ne) G.nd
  exact ⟨a, _, _, ⟨GG, g2, d2, t2, os'⟩, _, .ref C, some dx, rfl, J, kG, ge, hoe, ⟨rfl, rfl⟩, rfl, rfl, na, rfl, G.bare, raises_own M.T.exC M.T.tyC,
    q _ upd_same na fun b h1 h2 => by rw [upd_ne h2, del_ne h1, slH_ne h1 h2]⟩
end
end L2

namespace L2
open PySem PySem.Spec PyProof.Rows
/-! ### C(e), C(thing=e): the error as a value, and as what is raised -/
def rNew (C : Addr) (te : TE) : TE := fun σ H Q => te σ H fun y H1 => ∀ a dx, H1 a = none → H1 dx = none → dx ≠ a → Q (.ref a) (slH H1 a C dx y)
def rAir (C : Addr) (te : TE) : St → Hp → XK → Prop := fun σ H Q => te σ H fun y H1 => ∀ a dx H', H1 a = none → H1 dx = none → dx ≠ a →
  H' dx = some (.xd [("thing", y)]) → H' a = none → (∀ b, b ≠ a → b ≠ dx → H' b = H1 b) → Q (.ref C) (some dx) H'
section
variable {X : Cx} {C S fI : Addr} {k : Nat} {fd : FuncData} {CX : CXT} {x : Str} {e : Expr} {te : TE} {p pos kp : Pos}
theorem sl_name {Q : Value → Shared → Prop} (M : SlM X.K C S fI) (F : FnOk X.prog X.w X.K X.mg X.base CX k fI fd ["self", "thing"] (spSet X.K)) (hr : Room (k + 1) X.A) (hx : Passes CX X E0)
    (hb : ∀ u, SlBnd X.K fd [u] [] u) (hg : Gl X x) (hm : X.mg x = some (.ref C)) (he : PE X e te) {pins : List (Addr × Obj)} {σ : St} {H : Hp} {s : Shared} (I : Inv X pins σ H s) {R : V → Hp → Prop} (h : te σ H R)
    (hq : ∀ y H1 a dx s1 s', Inv X pins σ H1 s1 → R y H1 → SlGot X pins σ H1 s1 C a dx y s' → Q (.ref a) s') (hdb : (x == ("__debug__" : Str)) = false := by decide)
    (hs : starEach [e] X.env = (false, eval e X.env) :: starEach [] X.env := by rfl) : wpAny (model X.prog X.w) X.A (eval (.Call (.Name x p) [e] [] pos) X.env) Q X.xe s := by
  refine wpAny_Call_Name_kw (ld_glob I hg hm ?_ hdb)
  refine PySem.W.callWith_K (h₀ := X.base) I.ok.mod.kin M.T.kC ?_ hs (by rfl)
  rw [hs]
  show wpAny _ _ (spliced ((false, eval e X.env) :: backTo pos (starEach [] X.env))) _ _ s
  refine Calls.spliced_cons (thn (he.run pins s σ H _ I h) fun u s1 ⟨y, H1, I1, r1, q1⟩ => ?_)
  refine Calls.spliced_nil ⟨I1.kIn, ?_⟩
  show wpAny _ _ (call (.ref C) [u]) _ _ _
  exact sl_run M F hr hx (hb u) (by show 1 ≤ sizeLine; rw [sizeLine_eq]; omega) I1 r1 fun a dx s' G => hq y H1 a dx s1 s' I1 q1 G
theorem sl_kw {Q : Value → Shared → Prop} (M : SlM X.K C S fI) (F : FnOk X.prog X.w X.K X.mg X.base CX k fI fd ["self", "thing"] (spSet X.K)) (hr : Room (k + 1) X.A) (hx : Passes CX X E0)
    (hb : ∀ u, SlBnd X.K fd [] [("thing", u)] u) (hg : Gl X x) (hm : X.mg x = some (.ref C)) (he : PE X e te) {pins : List (Addr × Obj)} {σ : St} {H : Hp} {s : Shared} (I : Inv X pins σ H s) {R : V → Hp → Prop} (h : te σ H R)
    (hq : ∀ y H1 a dx s1 s', Inv X pins σ H1 s1 → R y H1 → SlGot X pins σ H1 s1 C a dx y s' → Q (.ref a) s') (hdb : (x == ("__debug__" : Str)) = false := by decide)
    (hall : (backToKw pos (keywordEach [⟨some "thing", e, kp⟩] X.env)).all (·.1.isSome) = true := by rfl) (hks : (backToKw pos (keywordEach [⟨some "thing", e, kp⟩] X.env)).filterMap (·.1) = [("thing" : Str)] := by rfl)
    (hpl : ((backTo pos (starEach [] X.env)).any (·.1) || (backToKw pos (keywordEach [⟨some "thing", e, kp⟩] X.env)).any (·.1.isNone)) = false := by rfl) :
    wpAny (model X.prog X.w) X.A (eval (.Call (.Name x p) [] [⟨some "thing", e, kp⟩] pos) X.env) Q X.xe s := by
  refine wpAny_Call_Name_kw (ld_glob I hg hm ?_ hdb)
  refine PySem.W.callWith_KW0 (h₀ := X.base) I.ok.mod.kin M.T.kC hall ?_ hpl
  have hk : PK X [⟨some "thing", e, kp⟩] (tCons te tNil) := pk_cons he pk_nil
  refine thn (hk.run pos pins s σ H (fun vs H1 => match vs with | [y] => R y H1 | _ => False) I h) fun ws s1 ⟨vs, H1, I1, rz, q1⟩ => ⟨I1.kIn, ?_⟩
  match vs, rz, q1 with
  | [y], rz, q1 =>
    obtain ⟨u, rfl, ry⟩ := vals1 rz
    rw [hks]
    show wpAny _ _ (call (.ref C) [] [("thing", u)]) _ _ _
    exact sl_run M F hr hx (hb u) (Nat.zero_le _) I1 ry fun a dx s' G => hq y H1 a dx s1 s' I1 q1 G
end
end L2
namespace L2
open PySem PySem.Spec PyProof.Rows
section
variable {X : Cx} {C S fI : Addr} {k : Nat} {fd : FuncData} {CX : CXT} {x : Str} {e : Expr} {te : TE} {p pos kp : Pos}
theorem pe_sl (M : SlM X.K C S fI) (F : FnOk X.prog X.w X.K X.mg X.base CX k fI fd ["self", "thing"] (spSet X.K)) (hr : Room (k + 1) X.A) (hx : Passes CX X E0)
    (hb : ∀ u, SlBnd X.K fd [u] [] u) (hm : X.mg x = some (.ref C)) (he : PE X e te) (hg : Gl X x := by rfl) (hdb : (x == ("__debug__" : Str)) = false := by decide)
    (hs : starEach [e] X.env = (false, eval e X.env) :: starEach [] X.env := by rfl) : PE X (.Call (.Name x p) [e] [] pos) (rNew C te) :=
  ⟨fun pins s σ H Q I h => sl_name M F hr hx hb hg hm he I h (fun y H1 a dx s1 s' I1 q G => ⟨.ref a, _, G.inv, rfl, q a dx G.na G.nd G.ne⟩) hdb hs⟩
theorem pe_slK (M : SlM X.K C S fI) (F : FnOk X.prog X.w X.K X.mg X.base CX k fI fd ["self", "thing"] (spSet X.K)) (hr : Room (k + 1) X.A) (hx : Passes CX X E0)
    (hb : ∀ u, SlBnd X.K fd [] [("thing", u)] u) (hm : X.mg x = some (.ref C)) (he : PE X e te) (hg : Gl X x := by rfl) (hdb : (x == ("__debug__" : Str)) = false := by decide)
    (hall : (backToKw pos (keywordEach [⟨some "thing", e, kp⟩] X.env)).all (·.1.isSome) = true := by rfl) (hks : (backToKw pos (keywordEach [⟨some "thing", e, kp⟩] X.env)).filterMap (·.1) = [("thing" : Str)] := by rfl)
    (hpl : ((backTo pos (starEach [] X.env)).any (·.1) || (backToKw pos (keywordEach [⟨some "thing", e, kp⟩] X.env)).any (·.1.isNone)) = false := by rfl) : PE X (.Call (.Name x p) [] [⟨some "thing", e, kp⟩] pos) (rNew C te) :=
  ⟨fun pins s σ H Q I h => sl_kw M F hr hx hb hg hm he I h (fun y H1 a dx s1 s' I1 q G => ⟨.ref a, _, G.inv, rfl, q a dx G.na G.nd G.ne⟩) hdb hall hks hpl⟩
theorem pmk_sl (M : SlM X.K C S fI) (F : FnOk X.prog X.w X.K X.mg X.base CX k fI fd ["self", "thing"] (spSet X.K)) (hr : Room (k + 1) X.A) (hx : Passes CX X E0)
    (hb : ∀ u, SlBnd X.K fd [u] [] u) (hm : X.mg x = some (.ref C)) (he : PE X e te) (hg : Gl X x := by rfl) (hdb : (x == ("__debug__" : Str)) = false := by decide)
    (hs : starEach [e] X.env = (false, eval e X.env) :: starEach [] X.env := by rfl) : PMk X (.Call (.Name x p) [e] [] pos) (rAir C te) :=
  fun pins s σ H Q I h => sl_name M F hr hx hb hg hm he I h (fun y H1 a dx s1 s' I1 q G => G.raised M I1 fun H' => q a dx H' G.na G.nd G.ne) hdb hs
theorem pmk_slK (M : SlM X.K C S fI) (F : FnOk X.prog X.w X.K X.mg X.base CX k fI fd ["self", "thing"] (spSet X.K)) (hr : Room (k + 1) X.A) (hx : Passes CX X E0)
    (hb : ∀ u, SlBnd X.K fd [] [("thing", u)] u) (hm : X.mg x = some (.ref C)) (he : PE X e te) (hg : Gl X x := by rfl) (hdb : (x == ("__debug__" : Str)) = false := by decide)
    (hall : (backToKw pos (keywordEach [⟨some "thing", e, kp⟩] X.env)).all (·.1.isSome) = true := by rfl) (hks : (backToKw pos (keywordEach [⟨some "thing", e, kp⟩] X.env)).filterMap (·.1) = [("thing" : Str)] := by rfl)
    (hpl : ((backTo pos (starEach [] X.env)).any (·.1) || (backToKw pos (keywordEach [⟨some "thing", e, kp⟩] X.env)).any (·.1.isNone)) = false := by rfl) : PMk X (.Call (.Name x p) [] [⟨some "thing", e, kp⟩] pos) (rAir C te) :=
  fun pins s σ H Q I h => sl_kw M F hr hx hb hg hm he I h (fun y H1 a dx s1 s' I1 q G => G.raised M I1 fun H' => q a dx H' G.na G.nd G.ne) hdb hall hks hpl
end
/-! ### an error that stands: tracked, or pinned with its dict tracked -/
/-- at a an error of the class at C is to be read, its thing v -/
def ErrIs (X : Cx) (H : Hp) (a C : Addr) (v : V) : Prop := ∀ (pins : List (Addr × Obj)) (σ : St) (s : Shared), Inv X pins σ H s →
  ∃ (oe od : Obj) (u : Value), PySem.W.InstAt s.heap a oe C (some od) ∧ PySem.W.lookIn "thing" od = some (some u) ∧ RelV v u
theorem thing_at {h : Heap} {dx : Addr} {v : V} {mA : Str → Option Value} (hns : h.Ns1 dx mA) (r : ∀ f, RelO (List.lookup f [(("thing" : Str), v)]) (mA f)) :
    ∃ (od : Obj) (u : Value), h.get? dx = some od ∧ PySem.W.lookIn "thing" od = some (some u) ∧ RelV v u := by
  obtain ⟨od, ho, hl⟩ := lookIn_ns hns
  have l : List.lookup ("thing" : Str) [(("thing" : Str), v)] = some v := by simp [List.lookup]
  obtain ⟨u, hu, ru⟩ := RelO.some_of (v := v) (o := mA "thing") (by rw [← l]; exact r "thing")
  exact ⟨od, u, ho, by rw [hl, hu], ru⟩
theorem ErrIs.tracked {X : Cx} {H : Hp} {a C dx : Addr} {v : V} (ha : H a = some (exo a C (some dx))) (hd : H dx = some (exd dx [("thing", v)])) : ErrIs X H a C v := fun pins σ s I => by
  obtain ⟨t1, ho⟩ := exo_at I.hok ha
  obtain ⟨mA, hns, r⟩ := exd_at I.hok hd
  obtain ⟨od, u, h1, h2, h3⟩ := thing_at hns r
  exact ⟨_, od, u, ⟨ho, rfl, rfl, h1⟩, h2, h3⟩
theorem ErrIs.pinned {X : Cx} {H : Hp} {a C dx : Addr} {v : V} {oe : Obj} (hp : (a, oe) ∈ X.pn) (hz : Zc (.ref C) (some dx) oe) (hf : ∃ vs, oe.data = .fields vs) (hd : H dx = some (.xd [("thing", v)])) : ErrIs X H a C v := fun pins σ s I => by
  obtain ⟨ho, _⟩ := I.pin (a, oe) (List.mem_append_left _ hp)
  obtain ⟨mA, hns, r⟩ := (show ObjOk X.prog X.w H s.heap dx (.xd [("thing", v)]) from I.hok dx _ hd)
  obtain ⟨od, u, h1, h2, h3⟩ := thing_at hns r
  obtain ⟨vs, hv⟩ := hf
  exact ⟨oe, od, u, ⟨ho, hz.1, by unfold PySem.W.notCls; rw [hv], by rw [hz.2]; exact h1⟩, h2, h3⟩
section
variable {X : Cx} {e : Expr} {te : TE} {pos : Pos}
theorem pe_thing (he : PE X e te) (hb : attributeBase e "thing" X.env (eval e X.env) = eval e X.env := by rfl) :
    PE X (.Attribute e "thing" pos) (fun σ H Q => te σ H fun x H1 => ∃ (a C S : Addr) (v : V), x = .ref a ∧ SlC X.K C S ∧ ErrIs X H1 a C v ∧ Q v H1) := by
  refine ⟨fun pins s σ H Q I h => ?_⟩
  refine attr_of hb (thn (he.run pins s σ H _ I h) fun u s1 ⟨x, H1, I1, rx, a, C, S, v, ex, T, er, q⟩ => ?_)
  subst ex
  obtain rfl : u = Value.ref a := rx
  obtain ⟨oe, od, u, J, hl, ru⟩ := er pins σ s1 I1
  exact HandSPX.exc_get I1.kIn J T.ga T.gg T.exC (PySem.W.findObj_own T.hd T.noT rfl hl) (handed_of ru) ⟨v, H1, I1.tok _, ru, q⟩
theorem sl_kit {a C S : Addr} {v : V} {H : Hp} {pins : List (Addr × Obj)} {σ : St} {s : Shared} (T : SlC X.K C S) (er : ErrIs X H a C v) (I : Inv X pins σ H s) :
    ∃ P : Heap → Prop, PySem.W.KitX X.K (.ref a) (.ref C) P ∧ P s.heap := by
  obtain ⟨oe, od, u, J, _, _⟩ := er pins σ s I
  obtain ⟨cd, hcl, _⟩ := T.clsIn
  exact ⟨_, PySem.W.kitx_exc (by rw [hcl]; rfl) T.ga T.gg T.exC T.hc T.hn T.ht T.hm, J⟩
/-- isinstance(error, T); isinstance(error, (T1, T2, ..)) -/
theorem call_isE1 : CallR X (.builtin "isinstance") (fun xs H Q => ∃ (a C S : Addr) (v c : V) (u : Value) (b : Bool), xs = [.ref a, c] ∧ ClsV c u ∧ SlC X.K C S ∧ ErrIs X H a C v ∧ PySem.W.kitOne X.K (.ref C) u = some b ∧ Q (.bl b) H) := by
  intro pins s σ H xs us Q I r h
  obtain ⟨a, C, S, v, c, u, b, rfl, k, T, er, e, q⟩ := h
  obtain ⟨u1, u2, rfl, r1, r2⟩ := vals2 r
  have e2 := k.eq r2
  subst e2
  cases (show u1 = Value.ref a from r1)
  obtain ⟨P, Z, p⟩ := sl_kit T er I
  exact PySem.W.kia_one Z I.kIn p e (fun z => nomatch z) fun tk => ⟨.bl b, H, I.tok tk, rfl, q⟩
theorem call_isET : CallR X (.builtin "isinstance") (fun xs H Q => ∃ (a C S tp : Addr) (v : V) (cs : List V) (us : List Value) (b : Bool), xs = [.ref a, .ref tp] ∧ H tp = some (.tup cs) ∧ Paired ClsV cs us ∧ SlC X.K C S ∧ ErrIs X H a C v ∧ PySem.W.kitAny X.K (.ref C) us = some b ∧ Q (.bl b) H) := by
  intro pins s σ H xs us Q I r h
  obtain ⟨a, C, S, tp, v, cs, ws, b, rfl, hT, k, T, er, e, q⟩ := h
  obtain ⟨u1, u2, rfl, r1, r2⟩ := vals2 r
  cases (show u1 = Value.ref a from r1)
  cases (show u2 = Value.ref tp from r2)
  obtain ⟨P, Z, p⟩ := sl_kit T er I
  obtain ⟨_, its, rv, o, h1, h2, n, h3⟩ := (show ObjOk X.prog X.w H s.heap tp (.tup cs) from I.hok tp _ hT)
  have e3 := ClsV.all k rv
  subst e3
  obtain ⟨oc, od, dt, sl⟩ := o
  simp only at h2 h3
  subst h2 h3
  exact PySem.W.kia_tup Z I.kIn p h1 e (fun z => nomatch z) fun tk => ⟨.bl b, H, I.tok tk, rfl, q⟩
end
end L2

namespace L2
open PySem PySem.Spec PyProof.Rows
/-! ### the two __init__ -/
def scpS : Scope := { kind := .function, names := [(PySem.Str.ofString "self", .local), (PySem.Str.ofString "thing", .local)], isGenerator := false, isCoroutine := false, more := [] }
def scpC : Scope := { kind := .function, names := [(PySem.Str.ofString "self", .local), (PySem.Str.ofString "thing", .local), (PySem.Str.ofString "SlopeError", .globalImplicit)], isGenerator := false, isCoroutine := false, more := [] }
def argsS (p1 p2 : Pos) (ds : List Expr) : Arguments := { posonlyargs := [], args := [{ arg := "self", annotation := none, pos := p1 }, { arg := "thing", annotation := none, pos := p2 }], vararg := none, kwonlyargs := [], kw_defaults := [], kwarg := none, defaults := ds }
def bodyS (q1 q2 q3 q4 : Pos) : List Stmt := [.Assign [.Attribute (.Name "self" q1) "thing" q2] (.Name "thing" q3) q4]
def bodyC (q1 q2 q3 q4 q5 q6 : Pos) : List Stmt := [.Expr (.Call (.Attribute (.Name "SlopeError" q1) "__init__" q2) [.Name "self" q3, .Name "thing" q4] [] q5) q6]
theorem fsS : FnScope ["self", "thing"] ["self", "thing"] scpS := ⟨rfl, rfl, rfl, by decide +kernel, rfl, by decide +kernel, by decide +kernel⟩
theorem fsC : FnScope ["self", "thing"] ["self", "thing"] scpC := ⟨rfl, rfl, rfl, by decide +kernel, rfl, by decide +kernel, by decide +kernel⟩
section
variable {P : Program} {w : World} {K : PySem.W.Frag} {mg : Str → Option Value} {base : Heap} {qual : Str} {f fS S : Addr} {fd fdS : FuncData} {p1 p2 q1 q2 q3 q4 q5 q6 : Pos} {ds : List Expr}
theorem ok_slS (F : FunD K "__init__" qual (argsS p1 p2 ds) (bodyS q1 q2 q3 q4) scpS [.non] [] f fd) : FnOk P w K mg base CX0 1 f fd ["self", "thing"] (spSet K) := by
  refine F.ok fsS (fun vs H Q E h => ?_) (fun cdv A outer s H vs Q E hr h => ?_)
  · obtain ⟨a, C, S, y, rfl, _⟩ := h
    rfl
  · obtain ⟨a, C, S, y, rfl, T, ha, k⟩ := h
    exact ⟨_, pss_one (ps_sto (pv 0) (pv 1)), _, rfl, _, rfl, a, C, S, rfl, T, ha, fun dx n ne => k dx n ne⟩
theorem bnd_slS (F : FunD K "__init__" qual (argsS p1 p2 ds) (bodyS q1 q2 q3 q4) scpS [.non] [] f fd) : Binds K fd ["self", "thing"] [] := by
  obtain ⟨es, r, b⟩ := F.binds1 (ps := ["self", "thing"]) 2 1 (by simp) rfl (fun T kV doc pm an cdv ct us its h1 h2 => by
    match us, its, h1, h2 with
    | [u, v], [d], _, _ => exact ⟨_, rfl, by rfl⟩)
  have e : es = [] := by cases r; rfl
  rw [e] at b
  exact b
theorem arm_slC {env : Env} (h : (q2.endLine == q5.line) = true) :
    eval (.Call (.Attribute (.Name "SlopeError" q1) "__init__" q2) [.Name "self" q3, .Name "thing" q4] [] q5) env = (do
      let ov ← eval (.Name "SlopeError" q1) env
      standAt q2.atName
      let (f, first) ← holding [ov] (getMethod ov "__init__" (do return (← importBound (.Name "SlopeError" q1) env).getD true))
      callWith q5 f first (backTo q5 (starEach [.Name "self" q3, .Name "thing" q4] env)) (backToKw q5 (keywordEach [] env))) := by
  show (do
    let ov ← eval (.Name "SlopeError" q1) env
    standAt q2.atName
    methodCall (.Name "SlopeError" q1) "__init__" q2 q5 env ov 2 (backTo q5 (starEach [.Name "self" q3, .Name "thing" q4] env)) (backToKw q5 (keywordEach [] env))) = _
  unfold methodCall methodCallPos
  rw [h]
  rfl
theorem ok_slC (hl : (q2.endLine == q5.line) = true) (F : FunD K "__init__" qual (argsS p1 p2 []) (bodyC q1 q2 q3 q4 q5 q6) scpC [] [] f fd) (B : SlB K mg S fS) (FS : FnOk P w K mg base CX0 1 fS fdS ["self", "thing"] (spSet K)) (bS : Binds K fdS ["self", "thing"] []) :
    FnOk P w K mg base CX0 2 f fd ["self", "thing"] (spSet K) := by
  refine F.ok fsC (fun vs H Q E h => ?_) (fun cdv A outer s H vs Q E hr h => ?_)
  · obtain ⟨a, C, S, y, rfl, _⟩ := h
    rfl
  · obtain ⟨a, C, S', y, rfl, T, ha, k⟩ := h
    refine ⟨_, pss_one (ps_expr (pe_slInit (E := E0) B FS hr bS pass0 rfl (pa_cons (pv 0) (pa_cons (pv 1) pa_nil)) (arm_slC hl))), ?_⟩
    exact ⟨_, rfl, _, rfl, a, C, S', y, rfl, T, ha, fun dx n ne => k dx n ne⟩
theorem bnd_sl1 (F : FunD K "__init__" qual (argsS p1 p2 []) (bodyC q1 q2 q3 q4 q5 q6) scpC [] [] f fd) (u : Value) : SlBnd K fd [u] [] u := by
  obtain ⟨oc, od, dV, kV, doc, pm, an, cdv, ct, osl, rfl, lk, hcd, hD, hK⟩ := F.ex
  rcases hD with ⟨_, rfl⟩ | ⟨e, _⟩
  · exact fun s x X => .of_eq (by rfl)
  · exact absurd rfl e
theorem bnd_slK (F : FunD K "__init__" qual (argsS p1 p2 []) (bodyC q1 q2 q3 q4 q5 q6) scpC [] [] f fd) (u : Value) : SlBnd K fd [] [("thing", u)] u := by
  obtain ⟨oc, od, dV, kV, doc, pm, an, cdv, ct, osl, rfl, lk, hcd, hD, hK⟩ := F.ex
  rcases hD with ⟨_, rfl⟩ | ⟨e, _⟩
  · exact fun s x X => .of_eq (by first | rfl | with_unfolding_all rfl | kernel_rfl)
  · exact absurd rfl e
end
end L2

namespace L2
open PySem PySem.Spec PyProof.Rows
/-! ### try: body, except A as n: .., except B as n: .. (one name for all clauses) -/
abbrev Suite := Addr → Value → Option Addr → TS
def endsAs (i : Nat) (D : Ends) : Ends := { nx := fun σ' H' => D.nx (σ'.set i none) H', rt := D.rt, bk := fun σ' H' => D.bk (σ'.set i none) H', ct := fun σ' H' => D.ct (σ'.set i none) H' }
def wSeq (K : PySem.W.Frag) (i : Nat) (Wout : WX) (D : Ends) : List (Value × Suite) → WX
  | [] => Wout
  | (c, ts) :: r => fun cls d σ H => ∃ b, PySem.W.exmOne K cls c = some b ∧ (b = true → ∀ a, H a = none → ts a cls d (endsAs i D) (σ.set i (some (.ref a))) H) ∧ (b = false → wSeq K i Wout D r cls d σ H)
inductive SeqOk (X : Cx) (n : Str) : List ExceptHandler → List (Value × Suite) → Prop
  | nil : SeqOk X n [] []
  | cons {x : Str} {c : Value} {ts : Suite} {b0 : Stmt} {suite : List Stmt} {np hp : Pos} {hds : List ExceptHandler} {l : List (Value × Suite)} (named : Names X x c)
      (does : ∀ (a : Addr) (oe : Obj) (cls : Value) (d : Option Addr) (pn : List (Addr × Obj)), Zc cls d oe → (∃ vs, oe.data = .fields vs) → PSs (X.suite a ((a, oe) :: pn)) (b0 :: suite) (ts a cls d)) (r : SeqOk X n hds l) :
      SeqOk X n (.ExceptHandler (some (.Name x np)) (some n) (b0 :: suite) hp :: hds) ((c, ts) :: l)
section
variable {X : Cx} {n : Str} {i : Nat} {body : List Stmt} {h0 : ExceptHandler} {hds : List ExceptHandler} {l : List (Value × Suite)} {pos : Pos} {tb : WX → TS} {Wout : WX}
theorem ps_try_seq (sta : X.stack = X.env :: X.outer) (own : X.env.frame = some X.env.locals) (nod : X.N.Nodup) (slot : X.N[i]? = some n) (loc : X.env.kindOf n = some .local) (tk : Takes X Wout)
    (hb : ∀ (W : WX) (pn : List (Addr × Obj)) (xe : Value → Shared → Prop), Takes (X.tr pn xe) W → PassesOwn (model X.prog X.w) X.A X.env xe → PSs (X.tr pn xe) body (tb W))
    (hh : SeqOk X n (h0 :: hds) l) : PS X (.Try body (h0 :: hds) [] [] pos) (fun D σ H => tb (wSeq X.K i Wout D l) D σ H) := by
  refine ⟨fun pins s σ H D I h => ?_⟩
  have fine := I.ok
  have frs0 : X.A.frames = some (X.env :: X.outer) := by rw [fine.frames, sta]
  refine wpAny_Try_except ?_
  refine wpAny_mono ((hb (wSeq X.K i Wout D l) (X.pn ++ pins) (fun e t1 => wpAny (model X.prog X.w) X.A (noteFrame e X.env) (fun _ t2 => wpAny (model X.prog X.w) X.A (setFlight e none)
    (fun _ t3 => wpAny (model X.prog X.w) X.A (handleBy e X.env (h0 :: hds)) (SP X pins D) X.xe t3) X.xe t2) X.xe t1) (fun u s' air => ?_) PassesOwn.looking).run [] s σ H D (I.toTry _) h) (fun f s1 got => ?_) (fun e s1 he => he)
  · obtain ⟨a, B, sI, pins', σ', H', cls, d, rfl, J', nb, up, sky, na, os, ag, wish⟩ := air
    have J : Inv X pins σ' H' sI := J'.ofTry fine
    have sky1 : Sky B (X.env :: X.outer) a (Zc cls d) X.env.locals s'.heap := by rw [← sta]; exact sky
    show wpAny (model X.prog X.w) X.A (noteFrame (.ref a) X.env) _ _ _
    refine Sky.land Zc.steady frs0 own sky1 fun k3 fl3 up3 => ?_
    have J3 : Inv X pins σ' H' { s' with heap := k3 } := J.landed nb fl3.1 (up.trans up3) os ag
    obtain ⟨oe3, vs3, he3, hz3, hd3⟩ := fl3.there
    have off : a ∉ frs (X.env :: X.outer) := fun hm => by
      obtain ⟨_, o', e', nof⟩ := fl3.2.2.1.mem hm
      rw [he3] at e'; cases e'
      exact nof _ hd3
    have offL : a ≠ X.env.locals := fun z => off (List.mem_filterMap.mpr ⟨X.env, List.mem_cons_self, by rw [own, z]⟩)
    have offF : a ∉ X.fs := fun hm => by
      obtain ⟨v, hv, q⟩ := List.mem_filterMap.mp hm
      exact off (List.mem_filterMap.mpr ⟨v, List.mem_cons_of_mem _ hv, q⟩)
    have S3 := J3.suite he3 hd3 na offL offF
    have walk : ∀ {hds' : List ExceptHandler} {l' : List (Value × Suite)}, SeqOk X n hds' l' → wSeq X.K i Wout D l' cls d σ' H' →
        wpAny (model X.prog X.w) X.A (handleBy (.ref a) X.env hds') (SP X pins D) X.xe { s' with heap := k3 } := by
      intro hds' l' hk
      induction hk with
      | nil =>
        intro wi
        refine wpAny_handleBy_nil ?_
        obtain ⟨z1, z2, z3, oe, vs, T, oT, ts', he, hz, hd, h1, hr⟩ := id fl3
        unfold PySem.passOn
        refine wpAny_bind (wpAny_field he hd h1 ?_); rw [if_neg (show ¬ ((Value.ref T == Value.none) = true) from by simp)]
        have fin : wpAny (model X.prog X.w) X.A (setFlight (.ref a) X.env.frame) (fun _ s4 => wpAny (model X.prog X.w) X.A (throw (.ref a) : Sem Flow) (SP X pins D) X.xe s4) X.xe { s' with heap := k3 } := by
          rw [own]
          refine HandSPX.setFlight_upZ fl3 fun k4 hk4 up4 => wpAny_throw (tk _ _ ?_)
          exact ⟨a, B, sI, pins, σ', H', cls, d, rfl, J, nb, (up.trans up3).trans up4, .inr (.inr (by rw [sta]; exact hk4)), na, os, ag, wi⟩
        first | exact wpAny_bind (wpAny_pure (wpAny_bind fin)) | exact wpAny_bind fin
      | @cons x c ts b0 suite np hp hds2 l2 named does r ih =>
        intro wi
        obtain ⟨b, eb, yes, no⟩ := wi
        refine wpAny_handleBy_cons (codeAny_handlers_test ?_) (by intro q; cases q)
        have lt : PySem.W.Looks (model X.prog X.w) k3 (typeOf (.ref a)) cls := fun A Q E s k q => wpAny_typeOf_ref (k _ _ he3) (by rw [hz3.1]; exact q)
        have lm := PySem.W.exm_one (M := model X.prog X.w) (J3.kIn) lt eb
        have names : ∀ {Q : Value → Shared → Prop} {E : Value → Shared → Prop}, Q c { s' with heap := k3 } → wpAny (model X.prog X.w) (X.A.mark (some (.ref a))) (eval (.Name x np) X.env) Q E { s' with heap := k3 } := fun {Q E} q => by
          obtain ⟨hg, nd, hm | ⟨hm, hv, hnn⟩⟩ := named
          · exact ld_glob (X := X.suite a ((a, oe3) :: (X.pn ++ pins))) S3 hg hm q nd
          · exact ld_blt (X := X.suite a ((a, oe3) :: (X.pn ++ pins))) S3 hg hm hv q hnn nd
        refine names (lm.here ?_)
        cases b with
        | true =>
          refine codeAny_handlers_suite_as ?_
          refine HandSPX.lands_againZ fl3 fun k4 fl4 up4 => ?_
          have J4 : Inv X pins σ' H' { s' with heap := k4 } := J.landed nb fl4.1 ((up.trans up3).trans up4) os ag
          obtain ⟨oe4, vs4, he4, hz4, hd4⟩ := fl4.there
          have S4 := J4.suite he4 hd4 na offL offF
          refine store_ok (X := X.suite a ((a, oe4) :: (X.pn ++ pins))) (v := .ref a) S4 nod slot (.inl loc) rfl (fun s5 S5 => ?_) (.inr loc)
          refine wpAny_mono ((does a oe4 cls d (X.pn ++ pins) hz4 ⟨_, hd4⟩).run [] s5 _ H' _ S5 (yes rfl a na)) (fun f s6 got => ?_) (fun _ _ z => False.elim z)
          have close : ∀ {σ6 : St} {H6 : Hp} {Q : Shared → Prop}, Inv (X.suite a ((a, oe4) :: (X.pn ++ pins))) [] σ6 H6 s6 → (∀ s7, Inv X pins (σ6.set i none) H6 s7 → Q s7) →
              wpAny (model X.prog X.w) X.A (do bindName X.env n .none; unbindBehindTheSuite X.env n hp) (fun _ s7 => Q s7) X.xe s6 := fun {σ6 H6 Q} S6 hq => gone_ok (S6.unsuite fine) nod slot loc hq
          cases f with
          | next => obtain ⟨σ6, H6, S6, q6⟩ := got; exact close S6 fun s7 J7 => ⟨_, _, J7, q6⟩
          | brk => obtain ⟨σ6, H6, S6, q6⟩ := got; exact close S6 fun s7 J7 => ⟨_, _, J7, q6⟩
          | cont => obtain ⟨σ6, H6, S6, q6⟩ := got; exact close S6 fun s7 J7 => ⟨_, _, J7, q6⟩
          | ret u => obtain ⟨v6, σ6, H6, S6, r6, q6⟩ := got; exact close S6 fun s7 J7 => ⟨_, _, _, J7, r6, q6⟩
        | false =>
          show wpAny _ X.A (handleBy (.ref a) X.env hds2) _ _ _
          exact ih (no rfl)
    exact walk hh wish
  · cases f with
    | next => obtain ⟨σ', H', J', q⟩ := got; exact wpAny_execs_nil ⟨σ', H', J'.ofTry fine, q⟩
    | brk => obtain ⟨σ', H', J', q⟩ := got; exact ⟨σ', H', J'.ofTry fine, q⟩
    | cont => obtain ⟨σ', H', J', q⟩ := got; exact ⟨σ', H', J'.ofTry fine, q⟩
    | ret u => obtain ⟨v, σ', H', J', r, q⟩ := got; exact ⟨v, σ', H', J'.ofTry fine, r, q⟩
end
/-! ### a def called within an except suite (nothing is raised there) -/
structure FnW (P : Program) (w : World) (K : PySem.W.Frag) (mg : Str → Option Value) (base : Heap) (k : Nat) (f : Addr) (fd : FuncData) (ps : List Str) (p : Addr × Obj) (sp : Sp) : Prop where
  len : ∀ vs H Q E, sp vs H Q E → vs.length = ps.length
  run : ∀ (A : Around) (outer : List Env) (s : Shared) (H : Hp) (args : Args) (us : List Value) (vs : List V) (Q : VK), L2H.RoomH k A → L2H.PinOk outer H s p → Env0 P w K mg base A outer s H → BindsTo s fd args (ps.zip us) → Vals vs us → sp vs H Q E0 →
    codeAny (model P w) A (.call (.ref f) args) (CR CX0 outer P w H s Q E0) s
theorem fn_warm {P : Program} {w : World} {K : PySem.W.Frag} {mg : Str → Option Value} {base : Heap} {k : Nat} {f : Addr} {name qual : Str} {st : Stmt} {fd : FuncData} {N ps : List Str} {p : Addr × Obj} {sp : Sp} (F : Fun K name qual st f fd) (S : FnScope N ps (defScope st))
    (len : ∀ vs H Q E, sp vs H Q E → vs.length = ps.length)
    (hbody : ∀ (cdv : Value) (A : Around) (outer : List Env) (s : Shared) (H : Hp) (vs : List V) (Q : VK), L2H.RoomH k (A.deeper (envOfC qual (defScope st) s.heap.objs.size f cdv)) → sp vs H Q E0 →
      ∃ t, PSs (L2H.cxH CX0 P w K mg base N qual (defScope st) f cdv A outer s H E0 p) (defBody st) t ∧ t { nx := fun _ H' => Q .non H', rt := Q } (L2.start N vs) H) :
    FnW P w K mg base (k + 1) f fd ps p sp := by
  obtain ⟨oc, od, kV, doc, pm, an, cdv, ct, osl, rfl, lk, hcd⟩ := F.ex
  refine ⟨len, fun A outer s H args us vs Q hr hpin e0 hb r hsp => ?_⟩
  have kin : K.In s.heap := e0.mod.kin.keeps fun b o e => (e0.bs b o e).1
  have lim : s.heap.NoLimit := e0.mod.nolimit.keeps fun b o e => (e0.bs b o e).1
  have kinds : ∀ y ∈ ps.zip us, (defScope st).names.lookup y.1 = some .local ∨ ((defScope st).names.lookup y.1 = some .cell ∧ ((cellsFrom (s.heap.objs.size + 1) (defScope st).names []).lookup y.1).isSome = true) := fun ⟨m, v⟩ hy =>
    (S.par m (List.of_mem_zip hy).1).elim .inl fun q => .inr ⟨q, PySem.W.cellsFrom_some _ _ _ (.inl q)⟩
  refine codeAny_call_function hr.depth (kin _ _ lk) rfl S.co S.gen rfl (PySem.W.codeRec_of kin hcd) (hb _ _ _ _ ?_)
  refine wpAny_newFunctionEnv_cells S.kind kinds fun env he s1 x => ?_
  subst he
  refine ⟨lim.keeps x.toInCall.keep, codeAny_func ?_⟩
  obtain ⟨t, ht, hq⟩ := hbody cdv A outer s H vs Q (hr.deeper _) hsp
  have I : Inv (L2H.cxH CX0 P w K mg base N qual (defScope st) f cdv A outer s H E0 p) [] (L2.start N vs) H s1 := L2H.inv_startH S hpin e0 (len _ _ _ _ hsp) r x
  refine wpAny_mono (ht.run [] s1 (L2.start N vs) H _ I hq) (fun fl s' got => ?_) fun e s' z => z
  cases fl with
  | ret u => obtain ⟨v, σ', H', J, rv, q⟩ := got; exact ⟨v, H', J.os, J.bare, J.base, J.hok, rv, q⟩
  | next => obtain ⟨σ', H', J, q⟩ := got; exact ⟨V.non, H', J.os, J.bare, J.base, J.hok, (rfl : Value.none = Value.none), q⟩
  | brk => obtain ⟨_, _, _, q⟩ := got; exact False.elim q
  | cont => obtain ⟨_, _, _, q⟩ := got; exact False.elim q
section
variable {X : Cx} {k : Nat} {f : Addr} {fd : FuncData} {ps : List Str} {sp : Sp} {x : Str} {q pos : Pos} {e : Expr} {es : List Expr} {t : TA} {p : Addr × Obj}
theorem pe_warm (F : FnW X.prog X.w X.K X.mg X.base k f fd ps p sp) (hr : L2H.RoomH k X.A) (hp : p ∈ X.pn) (hm : X.mg x = some (.ref f)) (hk : PySem.W.keepIn X.K (.ref f) = true) (hb : Binds X.K fd ps []) (ha : PA X (e :: es) t) (hg : Gl X x := by rfl)
    (hdb : (x == ("__debug__" : Str)) = false := by decide) (he : starEach (e :: es) X.env = (false, eval e X.env) :: starEach es X.env := by rfl) (hpl : (backTo pos (starEach es X.env)).any (·.1) = false := by rfl) :
    PE X (.Call (.Name x q) (e :: es) [] pos) (fun σ H Q => t σ H fun vs H1 => sp vs H1 Q E0) := by
  refine ⟨fun pins s σ H Q I h => ?_⟩
  refine wpAny_Call_Name_kw (ld_glob I hg hm ?_ hdb)
  refine PySem.W.callWith_K (h₀ := X.base) I.ok.mod.kin hk (thn (ha.run pos pins s σ H _ I h) fun us s1 ⟨vs, H1, I1, r, qq⟩ => ⟨I1.kIn, ?_⟩) he hpl
  have hl : us.length = ps.length := by rw [← r.length]; exact F.len _ _ _ _ qq
  have bb := hb s1 us I1.kIn (by rw [List.append_nil]; exact hl)
  rw [List.append_nil] at bb
  have pin := I1.pin p (List.mem_append_left _ hp)
  have pok : L2H.PinOk X.stack H1 s1 p := ⟨pin.1, pin.2.1, fun hm => (List.mem_cons.mp (I1.stkSub p.1 hm)).elim pin.2.2.1 pin.2.2.2.1, pin.2.2.2.2⟩
  refine wpAny_call (codeAny_mono (F.run X.A X.stack s1 H1 ⟨us, []⟩ us vs Q hr pok I1.env0 bb r qq) fun r s' hq => ?_)
  cases r with
  | error e => exact False.elim hq
  | ok fl =>
    cases fl with
    | ret u => exact I1.after hq
    | next => exact False.elim hq
    | brk => exact False.elim hq
    | cont => exact False.elim hq
end
end L2

namespace PySem
open Sem (wp)
/-! enumerate(v) with one argument, v by how its iterator begins -/
theorem meets_enum_one {v : Value} {o : Obj} {H : Heap → Prop} (B : Begins v o H) :
    Meets (Builtin.«enumerate.__new__» ⟨[.type "enumerate", v], []⟩) (fun _ R s => H s.heap ∧
      R (.ok (.ret (.ref (s.heap.push o).objs.size))) { s with heap := (s.heap.push o).push { cls := .type "enumerate", data := .fields #[.none, .bool false, .ref s.heap.objs.size, rawInt 0, .none, .none] } }) :=
  .of_wp fun prog w A R s h => by
    obtain ⟨hp, g, d, tk, os⟩ := s
    obtain ⟨h1, h⟩ := h
    have sub1 := sub_enumerate
    have its : ∀ {A' : Around} {E : Value → Shared → Prop} {Q : Value → Shared → Prop}, Q (.ref hp.objs.size) ⟨hp.push o, g, d, tk, os⟩ → wpAny (model prog w) A' (pyIter v) Q E ⟨hp, g, d, tk, os⟩ :=
      fun q => B.iter prog w _ _ ⟨hp, g, d, tk, os⟩ _ h1 q
    wp_walk using its
    refine wpAny_stack_any fun st => wpAny_pure ?_
    split
    · rename_i c _ _ _ _ _
      cases (c == Value.type "enumerate") <;> (wp_walk using its; exact ⟨_, rfl, h⟩)
    · wp_walk using its
      exact ⟨_, rfl, h⟩
theorem call_enum_one {prog : Program} {w : World} {A : Around} {E : Value → Shared → Prop} {s : Shared} {v : Value} {o : Obj} {H : Heap → Prop} {Q : Value → Shared → Prop} (B : Begins v o H) (h1 : H s.heap)
    (h : ∀ h', IsEnum h' (s.heap.objs.size + 1) s.heap.objs.size 0 .none → h'.get? s.heap.objs.size = some o → (∀ b u, s.heap.get? b = some u → h'.get? b = some u) → Q (.ref (s.heap.objs.size + 1)) { s with heap := h' }) :
    wpAny (model prog w) A (call (.type "enumerate") [v]) Q E s := by
  refine callType_new F.called_enumerate (by decide) (F.typeCall_enumerate_1 _) (F.newCall_enumerate_1 _) (fun obj => F.args_object_init_2 obj _) F.entry_enumerate_new (meets_enum_one B) ⟨h1, ?_⟩
  have hz : (s.heap.push o).objs.size = s.heap.objs.size + 1 := Heap.size_push ..
  show _ ∧ _
  rw [hz]
  have he : IsEnum ((s.heap.push o).push { cls := .type "enumerate", data := .fields #[.none, .bool false, .ref s.heap.objs.size, rawInt 0, .none, .none] }) (s.heap.objs.size + 1) s.heap.objs.size 0 .none := by
    have z := Heap.get?_push_size (s.heap.push o) (o := { cls := .type "enumerate", data := .fields #[.none, .bool false, .ref s.heap.objs.size, rawInt 0, .none, .none] }) rfl
    rw [hz] at z; exact z
  exact ⟨⟨_, he, rfl⟩, h _ he (Heap.get?_push_of_some _ (Heap.get?_push_size _ B.free)) fun b u x => Heap.get?_push_of_some _ (Heap.get?_push_of_some _ x)⟩
end PySem
namespace L2
open PySem PySem.Spec PyProof.Rows
/-- the tuple at a, each item in a new pair with its place -/
def ItT (K : PySem.W.Frag) (a : Addr) : It :=
  ⟨fun i H => ∃ (xs : List V) (x : V), SqT K H a xs ∧ xs[i]? = some x, fun i H v H' => ∃ T x, v = .ref T ∧ H T = none ∧ H' = upd H T (.tup [.int (i : Nat), x]) ∧ ∀ xs, SqT K H a xs → xs[i]? = some x, fun i H => ∃ xs : List V, SqT K H a xs ∧ xs.length = i⟩
theorem turn_pairs {P : Program} {w : World} {K : PySem.W.Frag} {elts : List Expr} {kk : Nat} {tpos : Pos} (a e it : Addr) (hea : e ≠ a) (hia : a ≠ it) :
    Turn P w K (.Tuple elts kk tpos) (ItT K a) [e, it] e (fun i h => (∃ old, IsEnum h e it ((i : Nat) : Int) old) ∧ h.IsTupleIter it a i ∧ e ≠ it) where
  mem := by simp
  obj := fun i h st b hb => by
    obtain ⟨⟨old, he⟩, ⟨o, ho, hc, hd⟩, _⟩ := st
    have eb : b = e ∨ b = it := by simpa using hb
    rcases eb with z | z
    · rw [z]; exact ⟨_, he, fun v q => nomatch q⟩
    · rw [z]; exact ⟨o, ho, fun v q => by rw [hd] at q; cases q⟩
  keep := fun i h h' st k => let ⟨⟨old, he⟩, ⟨o, ho, hc, hd⟩, hne⟩ := st; ⟨⟨old, k e (by simp) _ he⟩, ⟨o, k it (by simp) _ ho, hc, hd⟩, hne⟩
  item := by
    intro X hP hw hK hc i pins s σ H E I hf st hg
    subst hP hw hK
    obtain ⟨⟨old, he⟩, hit, hne⟩ := st
    obtain ⟨xs, x, hq, hx⟩ := hg
    obtain ⟨its, rv, p, hz⟩ := I.tuple hq
    obtain ⟨u, hu, ru⟩ := rv.get hx
    have hel : e < s.heap.objs.size := Heap.lt_size he
    have hil : it < s.heap.objs.size := by obtain ⟨_, q, _⟩ := hit; exact Heap.lt_size q
    have D := Draws.tuple (prog := X.prog) (w := X.w) (A := X.A.in1) (I.ok.hd hc) it a hia its.toArray
    have hlt : i < its.toArray.size := by
      have := (List.getElem?_eq_some_iff.mp hu).1
      simpa using this
    refine wpAny_pyNext_enum_itemD D he ⟨hit, p⟩ hlt hne (by simp [hne, hea]) fun x1 h' tk hx1 ho hit' hT hsz hk => ?_
    have ex : x1 = u := by
      have q : its.toArray[i]? = some x1 := hx1
      have q2 : its.toArray[i]? = some u := by simpa using hu
      rw [q] at q2
      exact Option.some.inj q2
    subst ex
    refine ⟨_, rfl, wpAny_letOwnedTupleGo_enum (s := { s with heap := h', toks := tk + 1 }) ho fun h'' he' sb => ?_⟩
    have hT2 : h''.get? s.heap.objs.size = some { cls := .type "tuple", data := .seq #[.int i tk, x1] } := (sb.2 _ (Nat.ne_of_gt hel)).trans hT
    have fresh : ObjOk X.prog X.w (upd H s.heap.objs.size (.tup [.int (i : Nat), x])) h'' s.heap.objs.size (.tup [.int (i : Nat), x]) :=
      ⟨by show 2 ≤ sizeLine; decide, [.int i tk, x1], .cons ⟨_, rfl⟩ (.cons ru .nil), ⟨_, hT2, rfl, _, rfl⟩⟩
    have I1 : Inv X pins σ (upd H s.heap.objs.size (.tup [.int (i : Nat), x])) { s with heap := h'', toks := tk + 1 } :=
      I.turnedNew (ch := [e, it]) (fun b ob hb q => (sb.2 b (fun z => hb (by simp [z]))).trans (hk b ob (fun z => hb (by simp [z])) (fun z => hb (by simp [z])) q)) hf (Nat.le_refl _) fresh
    refine ⟨.ref s.heap.objs.size, _, I1, rfl, ⟨_, x, rfl, I.hok.fresh (Nat.le_refl _), rfl, fun ys hy => by rw [I.tuple_inj hy hq]; exact hx⟩, ⟨⟨x1, ?_⟩, ?_, hne⟩, fun b hb => ?_⟩
    · have e1 : ((i + 1 : Nat) : Int) = (i : Int) + 1 := by omega
      rw [e1]; exact he'
    · obtain ⟨⟨o, ho2, hc2, hd2⟩, _⟩ := hit'
      exact ⟨o, (sb.2 it (Ne.symm hne)).trans ho2, hc2, hd2⟩
    · have hb' : b < s.heap.objs.size := by
        have eb : b = e ∨ b = it := by simpa using hb
        rcases eb with z | z
        · rw [z]; exact hel
        · rw [z]; exact hil
      rw [upd_ne (Nat.ne_of_lt hb')]
      exact (hf b hb).1
  done := by
    intro X hP hw hK hc i pins s σ H E I hf st hg
    subst hP hw hK
    obtain ⟨⟨old, he⟩, hit, hne⟩ := st
    obtain ⟨xs, hq, hx⟩ := hg
    obtain ⟨its, rv, p, hz⟩ := I.tuple hq
    obtain ⟨f0, f1, f2, f3, f4, f5⟩ := hf it (by simp)
    have D := Draws.tuple (prog := X.prog) (w := X.w) (A := X.A.in1) (I.ok.hd hc) it a hia its.toArray
    have hn : i = its.toArray.size := by
      have := rv.length
      simp only [List.size_toArray]
      omega
    subst hn
    exact wpAny_pyNext_enum_endD D he ⟨hit, p⟩ fun h' eb => ⟨rfl, I.turned (t' := s.toks) (fun b o hb q => eb b o hb q) f0 f1 f3 f4 f5⟩
  self := fun A i s Q E st h => let ⟨⟨_, he⟩, _⟩ := st; wpAny_pyIter_enum he h
/-- enumerate(e), e a list or a tuple -/
def iEnumA (K : PySem.W.Frag) (ta : TA) : TI := fun σ H R => ta σ H fun vs H1 => ∃ a xs, vs = [.ref a] ∧ ((SqL K H1 a xs ∧ R (Ite K a) H1) ∨ (SqT K H1 a xs ∧ R (ItT K a) H1))
theorem pi_enumA {X : Cx} {e : Expr} {ta : TA} {p pos tpos : Pos} {elts : List Expr} {kk : Nat} (hg : Gl X "enumerate") (hm : X.mg "enumerate" = none) (ha : PA X [e] ta) (hs : starEach [e] X.env = [(false, eval e X.env)] := by rfl) :
    PI X (.Tuple elts kk tpos) (.Call (.Name "enumerate" p) [e] [] pos) (iEnumA X.K ta) := by
  refine ⟨fun pins s σ H R I h => ?_⟩
  refine Call_ (ld_blt I hg hm boot_enumerate (PyProof.Rows.callWith_type1 (thn (ha.run pos pins s σ H _ I h) fun us s1 ⟨vs, H1, I1, r1, q1⟩ => ?_) hs rfl))
  obtain ⟨a, xs, ex, q⟩ := q1
  subst ex
  obtain ⟨u, rfl, ru⟩ := vals1 r1
  cases (show u = Value.ref a from ru)
  have place : ∀ b ∈ [s1.heap.objs.size + 1, s1.heap.objs.size], FpOk X pins H1 b → True := fun _ _ _ => trivial
  rcases q with ⟨hq, q⟩ | ⟨hq, q⟩
  · obtain ⟨its, rv, p', hz⟩ := I1.list hq
    refine call_enumerate_list p'.isList fun h' he hit hsz hk => wpAny_pyIter_enum he ?_
    have I2 : Inv X pins σ H1 { s1 with heap := h' } := I1.kept (t' := s1.toks) hk
    refine ⟨s1.heap.objs.size + 1, [s1.heap.objs.size + 1, s1.heap.objs.size], _, _, H1, rfl, I2, turn_enum a (s1.heap.objs.size + 1) s1.heap.objs.size, ⟨⟨.none, he⟩, hit, Nat.succ_ne_self _⟩, fun b hb => ?_, q⟩
    have eb : b = s1.heap.objs.size + 1 ∨ b = s1.heap.objs.size := by simpa using hb
    have hle : s1.heap.objs.size ≤ b := eb.elim (fun z => z ▸ Nat.le_add_right _ _) (fun z => z ▸ Nat.le_refl _)
    exact I1.fpOk hle (I1.hok.fresh hle)
  · obtain ⟨its, rv, p', hz⟩ := I1.tuple hq
    have hlt : a < s1.heap.objs.size := p'.lt
    refine call_enum_one (begins_tuple a its.toArray) p' fun h' he hit hk => wpAny_pyIter_enum he ?_
    have I2 : Inv X pins σ H1 { s1 with heap := h' } := I1.kept (t' := s1.toks) hk
    refine ⟨s1.heap.objs.size + 1, [s1.heap.objs.size + 1, s1.heap.objs.size], _, _, H1, rfl, I2, turn_pairs a (s1.heap.objs.size + 1) s1.heap.objs.size (Nat.ne_of_gt (Nat.lt_succ_of_lt hlt)) (Nat.ne_of_lt hlt), ⟨⟨.none, he⟩, ⟨_, hit, rfl, rfl⟩, Nat.succ_ne_self _⟩, fun b hb => ?_, q⟩
    have eb : b = s1.heap.objs.size + 1 ∨ b = s1.heap.objs.size := by simpa using hb
    have hle : s1.heap.objs.size ≤ b := eb.elim (fun z => z ▸ Nat.le_add_right _ _) (fun z => z ▸ Nat.le_refl _)
    exact I1.fpOk hle (I1.hok.fresh hle)
end L2

namespace L2
open PySem PySem.Spec PyProof.Rows
/-! ### defs that may show data: called where no text is being made (guards) -/
abbrev Idle (A : Around) : Prop := A.guards = some []
theorem Idle.deeper {A : Around} (g : Idle A) (env : Env) : Idle (A.deeper env) := by
  show A.guards = some []
  exact g
structure FnG (P : Program) (w : World) (K : PySem.W.Frag) (mg : Str → Option Value) (base : Heap) (k : Nat) (f : Addr) (fd : FuncData) (ps : List Str) (sp : Sp) : Prop where
  len : ∀ vs H Q E, sp vs H Q E → vs.length = ps.length
  run : ∀ (A : Around) (outer : List Env) (s : Shared) (H : Hp) (args : Args) (us : List Value) (vs : List V) (Q : VK), Room k A → Idle A → Env0 P w K mg base A outer s H → BindsTo s fd args (ps.zip us) → Vals vs us → sp vs H Q E0 →
    codeAny (model P w) A (.call (.ref f) args) (CR CX0 outer P w H s Q E0) s
theorem fn_idle {P : Program} {w : World} {K : PySem.W.Frag} {mg : Str → Option Value} {base : Heap} {k : Nat} {f : Addr} {name qual : Str} {st : Stmt} {fd : FuncData} {N ps : List Str} {sp : Sp} (F : Fun K name qual st f fd) (S : FnScope N ps (defScope st))
    (len : ∀ vs H Q E, sp vs H Q E → vs.length = ps.length)
    (hbody : ∀ (cdv : Value) (A : Around) (outer : List Env) (s : Shared) (H : Hp) (vs : List V) (Q : VK), Room k (A.deeper (envOfC qual (defScope st) s.heap.objs.size f cdv)) → Idle (A.deeper (envOfC qual (defScope st) s.heap.objs.size f cdv)) → sp vs H Q E0 →
      ∃ t, PSs (cxOf CX0 P w K mg base N qual (defScope st) f cdv A outer s H E0).nox (defBody st) t ∧ t { nx := fun _ H' => Q .non H', rt := Q } (L2.start N vs) H) :
    FnG P w K mg base (k + 1) f fd ps sp := by
  obtain ⟨oc, od, kV, doc, pm, an, cdv, ct, osl, rfl, lk, hcd⟩ := F.ex
  refine ⟨len, fun A outer s H args us vs Q hr hgd e0 hb r hsp => ?_⟩
  have kin : K.In s.heap := e0.mod.kin.keeps fun b o e => (e0.bs b o e).1
  have lim : s.heap.NoLimit := e0.mod.nolimit.keeps fun b o e => (e0.bs b o e).1
  have kinds : ∀ y ∈ ps.zip us, (defScope st).names.lookup y.1 = some .local ∨ ((defScope st).names.lookup y.1 = some .cell ∧ ((cellsFrom (s.heap.objs.size + 1) (defScope st).names []).lookup y.1).isSome = true) := fun ⟨m, v⟩ hy =>
    (S.par m (List.of_mem_zip hy).1).elim .inl fun q => .inr ⟨q, PySem.W.cellsFrom_some _ _ _ (.inl q)⟩
  refine codeAny_call_function hr.depth (kin _ _ lk) rfl S.co S.gen rfl (PySem.W.codeRec_of kin hcd) (hb _ _ _ _ ?_)
  refine wpAny_newFunctionEnv_cells S.kind kinds fun env he s1 x => ?_
  subst he
  refine ⟨lim.keeps x.toInCall.keep, codeAny_func ?_⟩
  obtain ⟨t, ht, hq⟩ := hbody cdv A outer s H vs Q (hr.deeper _) (hgd.deeper _) hsp
  have I : Inv (cxOf CX0 P w K mg base N qual (defScope st) f cdv A outer s H E0) [] (L2.start N vs) H s1 := inv_start S hr.hd e0 (len _ _ _ _ hsp) r x
  refine wpAny_mono (ht.nox.run [] s1 (L2.start N vs) H _ I hq) (fun fl s' got => ?_) fun e s' z => z
  cases fl with
  | ret u => obtain ⟨v, σ', H', J, rv, q⟩ := got; exact ⟨v, H', J.os, J.bare, J.base, J.hok, rv, q⟩
  | next => obtain ⟨σ', H', J, q⟩ := got; exact ⟨V.non, H', J.os, J.bare, J.base, J.hok, (rfl : Value.none = Value.none), q⟩
  | brk => obtain ⟨_, _, _, q⟩ := got; exact False.elim q
  | cont => obtain ⟨_, _, _, q⟩ := got; exact False.elim q
section
variable {X : Cx} {k : Nat} {f : Addr} {fd : FuncData} {ps : List Str} {sp : Sp} {x : Str} {q pos : Pos} {e : Expr} {es : List Expr} {t : TA}
theorem pe_idle (F : FnG X.prog X.w X.K X.mg X.base k f fd ps sp) (hr : Room k X.A) (hi : Idle X.A) (hm : X.mg x = some (.ref f)) (hk : PySem.W.keepIn X.K (.ref f) = true) (hb : Binds X.K fd ps []) (ha : PA X (e :: es) t) (hg : Gl X x := by rfl)
    (hdb : (x == ("__debug__" : Str)) = false := by decide) (he : starEach (e :: es) X.env = (false, eval e X.env) :: starEach es X.env := by rfl) (hpl : (backTo pos (starEach es X.env)).any (·.1) = false := by rfl) :
    PE X (.Call (.Name x q) (e :: es) [] pos) (fun σ H Q => t σ H fun vs H1 => sp vs H1 Q E0) := by
  refine ⟨fun pins s σ H Q I h => ?_⟩
  refine wpAny_Call_Name_kw (ld_glob I hg hm ?_ hdb)
  refine PySem.W.callWith_K (h₀ := X.base) I.ok.mod.kin hk (thn (ha.run pos pins s σ H _ I h) fun us s1 ⟨vs, H1, I1, r, qq⟩ => ⟨I1.kIn, ?_⟩) he hpl
  have hl : us.length = ps.length := by rw [← r.length]; exact F.len _ _ _ _ qq
  have bb := hb s1 us I1.kIn (by rw [List.append_nil]; exact hl)
  rw [List.append_nil] at bb
  refine wpAny_call (codeAny_mono (F.run X.A X.stack s1 H1 ⟨us, []⟩ us vs Q hr hi I1.env0 bb r qq) fun r s' hq => ?_)
  cases r with
  | error e => exact False.elim hq
  | ok fl =>
    cases fl with
    | ret u => exact I1.after hq
    | next => exact False.elim hq
    | brk => exact False.elim hq
    | cont => exact False.elim hq
end
/-! ### the law's own head for such a def -/
/-- the base has the object of all modules (so nothing tracked stands there) -/
def Sy (base : Heap) : Prop := ∃ o, base.get? sysModules = some o
theorem idle_law {P : Program} {w : World} {K : PySem.W.Frag} {mg mb : Str → Option Value} {k : Nat} {fa a : Addr} {fd : FuncData} {x : Str} {sp : Sp} {s1 : Shared} {vs : List Value} {ns : List Int}
    (inK : K.In s1.heap) (hn : s1.heap.Ns mainGlobals mg) (hb : s1.heap.Ns builtinsNs mb) (hm : ∀ y : Str, y ≠ "__name__" → mb y = bootBuiltins y) (lim : s1.heap.NoLimit) (hg : s1.gens = #[])
    (sc : s1.heap.get? a = some { cls := .type "list", data := .seq vs.toArray }) (hi : IntsAre vs ns) (small : ns.length ≤ sizeLine) (room : Room k callerA)
    (mods : ∃ mm, s1.heap.Ns sysModules mm)
    (F : ∀ base : Heap, K.In base → base.Ns mainGlobals mg → Sy base → FnG P w K mg base k fa fd [x] sp) (bnd : ∀ (s : Shared) (u : Value), BindsTo s fd ⟨[u], []⟩ [(x, u)])
    (prom : ∀ H : Hp, Only H → SqL K H a (ns.map V.int) → sp [.ref a] H (fun v _ => v = .bl true) E0) :
    codeAny (model P w) callerA (.call (.ref fa) ⟨[.ref a], []⟩) (fun r s' => r = .ok (.ret (.bool true)) ∧ OldK s1.heap s'.heap ∧ s'.os = s1.os ∧ AllBare s'.gens) s1 := by
  have rv := vals_ints hi
  have lv := hi.length
  have main : ∀ H : Hp, Only H → SqL K H a (ns.map V.int) → HOk P w H s1.heap → (∀ b, H b ≠ none → b = a) → (H a ≠ none → K.lookup a = none) →
      codeAny (model P w) callerA (.call (.ref fa) ⟨[.ref a], []⟩) (fun r s' => r = .ok (.ret (.bool true)) ∧ OldK s1.heap s'.heap ∧ s'.os = s1.os ∧ AllBare s'.gens) s1 := by
    intro H only sq hok just none_a
    have ns_of : ∀ {b : Addr} {m : Str → Option Value}, s1.heap.Ns b m → (hidT s1.heap H).Ns b m := by
      rintro b m ⟨o, es, ep, e, d, r⟩
      refine ⟨o, es, ep, hidT_get e ?_, d, r⟩
      cases q : H b with
      | none => rfl
      | some u =>
        obtain rfl := just b (by rw [q]; simp)
        rw [sc] at e
        cases e
        exact absurd d (by intro z; cases z)
    have k_of : K.In (hidT s1.heap H) := by
      intro b o e
      refine hidT_get (inK b o e) ?_
      cases q : H b with
      | none => rfl
      | some u =>
        obtain rfl := just b (by rw [q]; simp)
        rw [none_a (by rw [q]; simp)] at e
        cases e
    have md : Mod K mg (hidT s1.heap H) := by
      obtain ⟨mc, l1, l2⟩ := lim
      exact ⟨k_of, ns_of hn, ⟨mb, ns_of hb, hm⟩, ⟨mc, ns_of l1, l2⟩⟩
    have e0 : Env0 P w K mg (hidT s1.heap H) callerA [] s1 H :=
      { frames := rfl, mod := md, bs := fun b o e => of_hidT e, bsz := Nat.le_of_eq (hidT_size _ _), funs := trivial, frf := fun b hb => (List.not_mem_nil (show b ∈ ([] : List Addr) from hb)).elim, hok := hok, bare := .of_eq hg }
    have sy : Sy (hidT s1.heap H) := by
      obtain ⟨mm, hm⟩ := mods
      obtain ⟨o, es, ep, e, _⟩ := ns_of hm
      exact ⟨o, e⟩
    have go := (F _ k_of (ns_of hn) sy).run callerA [] s1 H ⟨[.ref a], []⟩ [.ref a] [.ref a] _ room rfl e0 (bnd s1 (.ref a)) (.cons rfl .nil) (prom H only sq)
    refine codeAny_mono go fun r s' out => ?_
    cases r with
    | error e => exact False.elim out
    | ok fl =>
      cases fl with
      | next => exact False.elim out
      | brk => exact False.elim out
      | cont => exact False.elim out
      | ret u =>
        obtain ⟨v, H', os, bare, un, hok', rel, ev⟩ := out
        cases (show v = .bl true from ev)
        cases (show u = Value.bool true from rel)
        refine ⟨rfl, OldK.of_keep fun b o e => ?_, os, bare⟩
        cases q : H b with
        | none => exact un.keep b o e q (fun z => List.not_mem_nil (show b ∈ ([] : List Addr) from z)) (by simp)
        | some u =>
          rcases only b with z | ⟨ob, xs, z⟩
          · rw [q] at z; cases z
          · obtain ⟨e1, _⟩ := hok b _ z
            obtain ⟨e2, _⟩ := hok' b _ (un.frzs b ob _ z)
            rw [e] at e1; cases e1
            exact e2
  cases hk : K.lookup a with
  | some o =>
    have e := inK a o hk
    rw [sc] at e
    cases e
    exact main (fun _ => none) (fun _ => .inl rfl) (.inr ⟨_, vs.toArray, _, hk, rfl, rfl, rfl, by rw [List.size_toArray, lv]; exact small, by simpa using rv⟩) (fun b u z => nomatch (show (none : Option HO) = some u from z)) (fun b z => (z rfl).elim) (fun z => (z rfl).elim)
  | none =>
    obtain ⟨G, hG⟩ : ∃ G : Hp, G = fun b => if b = a then some (.frz { cls := .type "list", data := .seq vs.toArray } (.lst (ns.map V.int))) else none := ⟨_, rfl⟩
    have at_a : G a = some (.frz { cls := .type "list", data := .seq vs.toArray } (.lst (ns.map V.int))) := by rw [hG]; exact if_pos rfl
    have off : ∀ b, b ≠ a → G b = none := fun b hb => by rw [hG]; exact if_neg hb
    refine main G (fun b => ?_) (.inl (.inr ⟨_, at_a⟩)) (fun b u z => ?_) (fun b z => ?_) (fun _ => hk)
    · by_cases hb : b = a
      · subst hb; exact .inr ⟨_, _, at_a⟩
      · exact .inl (off b hb)
    · by_cases hb : b = a
      · subst hb
        rw [at_a] at z
        cases z
        exact ⟨sc, by rw [List.length_map]; exact small, vs, _, rv, sc⟩
      · rw [off b hb] at z; cases z
    · by_cases hb : b = a
      · exact hb
      · exact absurd (off b hb) z
theorem walk_idle {l : PySem.W.OpenLaw} {n k : Nat} {q : Program} {loose : List Str} {XP : (Str → Option Value) → Heap → Prop} {YP : World → Heap → Prop} {d : DefRec} {K : Params → PySem.W.Frag} {sp : World → Sp} {x : Str}
    (hn : l.most = some n) (small : n ≤ sizeLine) (hd : d.params.defaults = []) (hq : importsNone q = true) (room : Room k callerA) (hY : ∀ (w : World) (h : Heap), YP w h → (K w.params).In h)
    (F : ∀ (w : World) (mg : Str → Option Value) (fa : Addr) (h : Heap), (K w.params).In h → h.Ns mainGlobals mg → mg d.name = some (.ref fa) →
      ∃ fd : FuncData, (∀ (s : Shared) (u : Value), BindsTo s fd ⟨[u], []⟩ [(x, u)]) ∧ ∀ base : Heap, (K w.params).In base → base.Ns mainGlobals mg → Sy base → FnG l.prog w (K w.params) mg base k fa fd [x] (sp w))
    (prom : ∀ (w : World) (H : Hp) (a : Addr) (ns : List Int), ns.length ≤ n → Only H → SqL (K w.params) H a (ns.map V.int) → sp w [.ref a] H (fun v _ => v = .bl true) E0) :
    PySem.W.WalkO q loose XP YP l.row.toRowW d [] (fun f vs => PySem.call f vs) := by
  refine Att.attach_call hn hd fun w s0 s1 mg mb fa o pm cd doc a vs ns G Y ho hd hcd hmg hobj hints hlen hg => ?_
  have inK := hY w _ Y
  obtain ⟨fd, hb, hF⟩ := F w mg fa _ inK G.T.g hmg
  exact idle_law inK G.T.g G.T.b G.T.builtins G.T.nolimit hg hobj hints (Nat.le_trans hlen small) room (let ⟨mm, h1, _⟩ := (G.T.seer hq).mods; ⟨mm, h1⟩) hF hb (fun H hO hS => prom w H a ns hlen hO hS)
end L2

namespace L2
open PySem PySem.Spec PyProof.Rows
/-! ### data: None, bools, ints, texts; lists, tuples, dicts (keys ints and texts) of such -/
def encK : Key → PyData
  | .inl i => .int i
  | .inr x => .str x
mutual
inductive Dn (H : Hp) : V → PyData → Prop
  | non : Dn H .non .none
  | bl (b : Bool) : Dn H (.bl b) (.bool b)
  | int (i : Int) : Dn H (.int i) (.int i)
  | str (x : Str) : Dn H (.str x) (.str x)
  | lst {a : Addr} {xs : List V} {ds : List PyData} : H a = some (.lst xs) → DnAll H xs ds → Dn H (.ref a) (.list ds)
  | tup {a : Addr} {xs : List V} {ds : List PyData} : H a = some (.tup xs) → DnAll H xs ds → Dn H (.ref a) (.tuple ds)
  | dct {a : Addr} {kvs : List (Key × V)} {ds : List (PyData × PyData)} : H a = some (.dK kvs) → DnKv H kvs ds → Dn H (.ref a) (.dict ds)
inductive DnAll (H : Hp) : List V → List PyData → Prop
  | nil : DnAll H [] []
  | cons {v : V} {vs : List V} {d : PyData} {ds : List PyData} : Dn H v d → DnAll H vs ds → DnAll H (v :: vs) (d :: ds)
inductive DnKv (H : Hp) : List (Key × V) → List (PyData × PyData) → Prop
  | nil : DnKv H [] []
  | cons {k : Key} {v : V} {r : List (Key × V)} {d : PyData} {ds : List (PyData × PyData)} : Dn H v d → DnKv H r ds → DnKv H ((k, v) :: r) ((encK k, d) :: ds)
end
section
variable {H H' : Hp}
mutual
theorem Dn.mono (h : Same H H') : ∀ (d : PyData) (v : V), Dn H v d → Dn H' v d
  | .none, _, q => by cases q; exact .non
  | .bool b, _, q => by cases q; exact .bl b
  | .int i, _, q => by cases q; exact .int i
  | .str x, _, q => by cases q; exact .str x
  | .list ds, _, q => by
    cases q with
    | lst e r => exact .lst (h _ _ e) (DnAll.mono h ds _ r)
  | .tuple ds, _, q => by
    cases q with
    | tup e r => exact .tup (h _ _ e) (DnAll.mono h ds _ r)
  | .dict ds, _, q => by
    cases q with
    | dct e r => exact .dct (h _ _ e) (DnKv.mono h ds _ r)
theorem DnAll.mono (h : Same H H') : ∀ (ds : List PyData) (vs : List V), DnAll H vs ds → DnAll H' vs ds
  | [], _, q => by cases q; exact .nil
  | d :: ds, _, q => by
    cases q with
    | cons a b => exact .cons (Dn.mono h d _ a) (DnAll.mono h ds _ b)
theorem DnKv.mono (h : Same H H') : ∀ (ds : List (PyData × PyData)) (vs : List (Key × V)), DnKv H vs ds → DnKv H' vs ds
  | [], _, q => by cases q; exact .nil
  | (_, d) :: ds, _, q => by
    cases q with
    | cons a b => exact .cons (Dn.mono h d _ a) (DnKv.mono h ds _ b)
end
end
theorem sys_new {X : Cx} {pins : List (Addr × Obj)} {σ : St} {H : Hp} {s : Shared} (sy : Sy X.base) (I : Inv X pins σ H s) {a : Addr} {o : HO} (e : H a = some o) : a ≠ sysModules := by
  rintro rfl
  obtain ⟨o', eo⟩ := sy
  rw [(I.env0.bs _ _ eo).2] at e
  cases e
theorem enc_reads {P : Program} {w : World} {h : Heap} (k : Key) (key : Value) (e : (mixKind P w).is k key = true) : Reads h key (encK k) [] := by
  rcases keyIs_shape (show keyIs k key = true from e) with ⟨i, t, rfl, rfl⟩ | ⟨x, t, rfl, rfl⟩
  · exact Reads.int i t
  · exact Reads.str x t
section
variable {X : Cx} {pins : List (Addr × Obj)} {σ : St} {H : Hp} {s : Shared}
mutual
theorem Dn.reads (sy : Sy X.base) (I : Inv X pins σ H s) : ∀ (d : PyData) (v : V) (u : Value), Dn H v d → RelV v u → ∃ as, Reads s.heap u d as ∧ sysModules ∉ as
  | .none, _, _, h, r => by
    cases h
    cases r
    exact ⟨_, Reads.none, by simp⟩
  | .bool b, _, _, h, r => by
    cases h
    cases r
    exact ⟨_, Reads.bool b, by simp⟩
  | .int i, _, _, h, r => by
    cases h
    obtain ⟨t, rfl⟩ := r
    exact ⟨_, Reads.int i t, by simp⟩
  | .str x, _, _, h, r => by
    cases h
    obtain ⟨t, rfl⟩ := r
    exact ⟨_, Reads.str x t, by simp⟩
  | .list ds, _, _, h, r => by
    cases h with
    | lst hs ha =>
      cases r
      obtain ⟨its, rv, ⟨o, n, ho, hc, _, hd⟩, _⟩ := I.list (SqL.of (K := X.K) hs)
      obtain ⟨as, hr, nm⟩ := DnAll.reads sy I ds _ its ha rv
      refine ⟨_, Reads.list ho hc hd hr, fun z => ?_⟩
      exact (List.mem_cons.mp z).elim (fun e => sys_new sy I hs e.symm) nm
  | .tuple ds, _, _, h, r => by
    cases h with
    | tup hs ha =>
      cases r
      obtain ⟨its, rv, ⟨o, ho, hc, n, hd⟩, _⟩ := I.tuple (SqT.of (K := X.K) hs)
      obtain ⟨as, hr, nm⟩ := DnAll.reads sy I ds _ its ha rv
      exact ⟨_, Reads.tuple ho hc hd hr, nm⟩
  | .dict ds, _, _, h, r => by
    cases h with
    | dct hs ha =>
      cases r
      obtain ⟨_, _, vs, rv, hd⟩ := dk_of I.hok hs
      obtain ⟨bs, hr, nm⟩ := DnKv.reads sy I ds _ vs ha rv
      refine ⟨_, PyProof.V.reads_dictOf (fun k key e => enc_reads k key e) hd hr, fun z => ?_⟩
      exact (List.mem_cons.mp z).elim (fun e => sys_new sy I hs e.symm) nm
theorem DnAll.reads (sy : Sy X.base) (I : Inv X pins σ H s) : ∀ (ds : List PyData) (vs : List V) (us : List Value), DnAll H vs ds → Vals vs us → ∃ as, ReadsAll s.heap us ds as ∧ sysModules ∉ as
  | [], _, _, h, r => by
    cases h
    cases r
    exact ⟨_, ReadsAll.nil, by simp⟩
  | d :: ds, _, _, h, r => by
    cases h with
    | cons h1 h2 =>
      cases r with
      | cons r1 r2 =>
        obtain ⟨as, q1, n1⟩ := Dn.reads sy I d _ _ h1 r1
        obtain ⟨bs, q2, n2⟩ := DnAll.reads sy I ds _ _ h2 r2
        exact ⟨_, ReadsAll.cons q1 q2, fun z => (List.mem_append.mp z).elim n1 n2⟩
theorem DnKv.reads (sy : Sy X.base) (I : Inv X pins σ H s) : ∀ (ds : List (PyData × PyData)) (kvs : List (Key × V)) (us : List (Key × Value)), DnKv H kvs ds → KV kvs us → ∃ as, PyProof.V.PairsRead s.heap encK us ds as ∧ sysModules ∉ as
  | [], _, _, h, r => by
    cases h
    cases r
    exact ⟨_, .nil, by simp⟩
  | (_, d) :: ds, _, _, h, r => by
    cases h with
    | cons h1 h2 =>
      cases r with
      | @cons _ y _ ys r1 r2 =>
        obtain ⟨k', u⟩ := y
        obtain ⟨e1, r1'⟩ := r1
        obtain ⟨as, q1, n1⟩ := Dn.reads sy I d _ _ h1 r1'
        obtain ⟨bs, q2, n2⟩ := DnKv.reads sy I ds _ _ h2 r2
        cases e1
        exact ⟨_, .cons q1 q2, fun z => (List.mem_append.mp z).elim n1 n2⟩
end
/-- repr(x), x such data: its text -/
theorem call_repr (sy : Sy X.base) (hi : Idle X.A) (hu : X.A.units + 70 < cLine) : CallR X (.builtin "repr") (fun xs H Q => ∃ (x : V) (d : PyData), xs = [x] ∧ Dn H x d ∧ d.showable = true ∧ d.depth ≤ 64 ∧ d.shown.length ≤ sizeLine ∧ Q (.str d.shown) H) := by
  intro pins s σ H xs us Q I r h
  obtain ⟨x, d, rfl, hx, hs, hd, hz, q⟩ := h
  obtain ⟨u, rfl, ru⟩ := vals1 r
  cases hx with
  | non => cases ru; exact PySem.P.repr_of_none ⟨.str _, H, I.tok _, ⟨_, rfl⟩, by simpa only [PyData.shown] using q⟩
  | bl b => cases ru; exact PySem.P.repr_of_bool ⟨.str _, H, I.tok _, ⟨_, rfl⟩, by simpa only [PyData.shown] using q⟩
  | int i =>
    obtain ⟨t, rfl⟩ := ru
    exact PySem.P.repr_of_int (by simpa [PyData.showable] using hs) ⟨.str _, H, I.tok _, ⟨_, rfl⟩, by simpa only [PyData.shown] using q⟩
  | str y =>
    obtain ⟨t, rfl⟩ := ru
    exact PySem.P.repr_of_str ⟨.str _, H, I.tok _, ⟨_, rfl⟩, by simpa only [PyData.shown] using q⟩ (by simpa only [PyData.shown] using hz)
  | lst e ha =>
    cases ru
    obtain ⟨as, rd, nm⟩ := Dn.reads sy I _ _ _ (.lst e ha) rfl
    exact PySem.repr_of_reads' rd hs (fun _ => nm) hi (by omega) (fun _ _ z => z) (fun h' t tk k => ⟨.str _, H, I.kept (t' := tk) k, ⟨_, rfl⟩, q⟩) hz
  | tup e ha =>
    cases ru
    obtain ⟨as, rd, nm⟩ := Dn.reads sy I _ _ _ (.tup e ha) rfl
    exact PySem.repr_of_reads' rd hs (fun _ => nm) hi (by omega) (fun _ _ z => z) (fun h' t tk k => ⟨.str _, H, I.kept (t' := tk) k, ⟨_, rfl⟩, q⟩) hz
  | dct e ha =>
    cases ru
    obtain ⟨as, rd, nm⟩ := Dn.reads sy I _ _ _ (.dct e ha) rfl
    exact PySem.repr_of_reads' rd hs (fun _ => nm) hi (by omega) (fun _ _ z => z) (fun h' t tk k => ⟨.str _, H, I.kept (t' := tk) k, ⟨_, rfl⟩, q⟩) hz
end
end L2

namespace L2
open PySem PySem.Spec PyProof.Rows
/-- data with a text of at most m signs, at most n deep -/
structure Okd (m n : Nat) (d : PyData) : Prop where
  sh : d.showable = true
  dp : d.depth ≤ n
  ln : d.shown.length ≤ m
theorem Okd.mono {m n m' n' : Nat} {d : PyData} (h : Okd m n d) (hm : m ≤ m') (hn : n ≤ n') : Okd m' n' d := ⟨h.sh, Nat.le_trans h.dp hn, Nat.le_trans h.ln hm⟩
theorem ok_all {m n : Nat} : ∀ {ds : List PyData}, (∀ d ∈ ds, Okd m n d) → PyData.showableAll ds = true ∧ PyData.depthAll ds ≤ n ∧ piled (PyData.shownAll ds) ≤ ds.length * (m + 2) ∧ (PyData.shownAll ds).length = ds.length
  | [], _ => by simp [PyData.showableAll, PyData.depthAll, PyData.shownAll, piled]
  | d :: ds, h => by
    obtain ⟨a, b, c, e⟩ := ok_all (ds := ds) fun x hx => h x (List.mem_cons_of_mem _ hx)
    have q := h d List.mem_cons_self
    have q1 := q.sh
    have q2 := q.dp
    have q3 := q.ln
    refine ⟨by simp [PyData.showableAll, q1, a], by simp only [PyData.depthAll]; omega, ?_, by simp [PyData.shownAll, e]⟩
    simp only [PyData.shownAll, piled_cons, List.length_cons]
    rw [Nat.succ_mul]
    omega
theorem text_up : ∀ (ts : List Str) (k : Nat) (acc : Str), (textFrom k acc ts).length ≤ acc.length + piled ts
  | [], k, acc => by simp [textFrom, piled]
  | t :: r, k, acc => by
    have h := text_up r (k + 1) (acc ++ (if k > 0 then ", " else "" : String) ++ t)
    have e : (acc ++ (if k > 0 then ", " else "" : String) ++ t).length = acc.length + (if k > 0 then 2 else 0) + t.length := by
      rw [strLen_append, strLen_append]
      by_cases c : k > 0
      · rw [if_pos c, if_pos c]; rfl
      · rw [if_neg c, if_neg c]; rfl
    rw [e] at h
    rw [piled_cons]
    show (textFrom (k + 1) _ r).length ≤ _
    have e4 : (if k > 0 then 2 else 0) ≤ 2 := by split <;> omega
    omega
theorem join_up (ts : List Str) : (Str.join ", " ts).length ≤ piled ts := by
  by_cases h : ts = []
  · subst h; simp [piled, Str.join]; decide
  · have := join_length_add ts h; omega
theorem okd_non : Okd 4 0 .none := ⟨rfl, by simp [PyData.depth], by simp only [PyData.shown]; decide⟩
theorem okd_bl (b : Bool) : Okd 5 0 (.bool b) := ⟨rfl, by simp [PyData.depth], by cases b <;> simp only [PyData.shown] <;> decide⟩
theorem okd_int {i : Int} (h : i.natAbs.log2 < 1920) : Okd 1921 0 (.int i) := ⟨by simpa [PyData.showable] using h, by simp [PyData.depth], by simp only [PyData.shown]; exact int_text_len_1921 h⟩
theorem okd_str {x : Str} {m : Nat} (h : (reprText x).length ≤ m) : Okd m 0 (.str x) := ⟨rfl, by simp [PyData.depth], by simpa only [PyData.shown] using h⟩
theorem okd_list {m n : Nat} {ds : List PyData} (h : ∀ d ∈ ds, Okd m n d) : Okd (ds.length * (m + 2) + 2) (n + 1) (.list ds) := by
  obtain ⟨a, b, c, e⟩ := ok_all h
  refine ⟨by simpa [PyData.showable] using a, by simp only [PyData.depth]; omega, ?_⟩
  simp only [PyData.shown, listText]
  rw [strLen_append]
  have := text_up (PyData.shownAll ds) 0 "["
  have e1 : (("[" : String) : Str).length = 1 := rfl
  have e2 : (("]" : String) : Str).length = 1 := rfl
  omega
theorem okd_tup {m n : Nat} {ds : List PyData} (h : ∀ d ∈ ds, Okd m n d) : Okd (ds.length * (m + 2) + 3) (n + 1) (.tuple ds) := by
  obtain ⟨a, b, c, e⟩ := ok_all h
  refine ⟨by simpa [PyData.showable] using a, by simp only [PyData.depth]; omega, ?_⟩
  simp only [PyData.shown, tupleText]
  rw [strLen_append, strLen_append]
  have := join_up (PyData.shownAll ds)
  have e1 : (("(" : String) : Str).length = 1 := rfl
  have e2 : (((if (PyData.shownAll ds).length == 1 then ",)" else ")" : String) : String) : Str).length ≤ 2 := by
    by_cases z : ((PyData.shownAll ds).length == 1) = true
    · rw [if_pos z]; decide
    · rw [if_neg z]; decide
  omega
theorem okd_dict2 {m1 m2 m3 m4 n : Nat} {a b c d : PyData} (h1 : Okd m1 n a) (h2 : Okd m2 n b) (h3 : Okd m3 n c) (h4 : Okd m4 n d) : Okd (m1 + m2 + m3 + m4 + 12) (n + 1) (.dict [(a, b), (c, d)]) := by
  have s1 := h1.sh
  have s2 := h2.sh
  have s3 := h3.sh
  have s4 := h4.sh
  have d1 := h1.dp
  have d2 := h2.dp
  have d3 := h3.dp
  have d4 := h4.dp
  have l1 := h1.ln
  have l2 := h2.ln
  have l3 := h3.ln
  have l4 := h4.ln
  refine ⟨by simp [PyData.showable, PyData.showableKv, s1, s2, s3, s4], by simp only [PyData.depth, PyData.depthKv]; omega, ?_⟩
  simp only [PyData.shown, PyData.shownKv, dictText]
  rw [strLen_append, strLen_append]
  have := join_up [a.shown ++ ": " ++ b.shown, c.shown ++ ": " ++ d.shown]
  simp only [piled_cons, piled_nil, strLen_append] at this
  have e1 : (("{" : String) : Str).length = 1 := rfl
  have e2 : (("}" : String) : Str).length = 1 := rfl
  have e3 : ((": " : String) : Str).length = 2 := rfl
  omega
theorem piled_two (ts : List Str) : 2 * ts.length ≤ piled ts := by
  induction ts with
  | nil => simp [piled]
  | cons t r ih => rw [piled_cons, List.length_cons]; omega
theorem okd_short {m n : Nat} {ds : List PyData} (h : Okd m n (.tuple ds)) : 2 * ds.length ≤ m + 1 := by
  have hl := h.ln
  simp only [PyData.shown, tupleText] at hl
  rw [strLen_append, strLen_append] at hl
  have e1 : (("(" : String) : Str).length = 1 := rfl
  have len : (PyData.shownAll ds).length = ds.length := by
    clear hl h
    induction ds with
    | nil => simp [PyData.shownAll]
    | cons d r ih => simp [PyData.shownAll, ih]
  by_cases z : PyData.shownAll ds = []
  · rw [z] at len; simp at len; rw [← len]; simp
  · have h1 := join_length_add _ z
    have h2 := piled_two (PyData.shownAll ds)
    omega
/-- nice data at v -/
def NiceD (H : Hp) (m n : Nat) (v : V) : Prop := ∃ d, Dn H v d ∧ Okd m n d
theorem NiceD.mono {H H' : Hp} {m n m' n' : Nat} {v : V} (h : NiceD H m n v) (s : Same H H') (hm : m ≤ m') (hn : n ≤ n') : NiceD H' m' n' v :=
  let ⟨d, a, b⟩ := h; ⟨d, Dn.mono s d v a, b.mono hm hn⟩
theorem dn_of : ∀ {H : Hp} {m n : Nat} {vs : List V}, (∀ v ∈ vs, NiceD H m n v) → ∃ ds, DnAll H vs ds ∧ (∀ d ∈ ds, Okd m n d) ∧ ds.length = vs.length
  | _, _, _, [], _ => ⟨[], .nil, by simp, rfl⟩
  | H, m, n, v :: vs, h => by
    obtain ⟨d, a, b⟩ := h v List.mem_cons_self
    obtain ⟨ds, x, y, z⟩ := dn_of (vs := vs) fun u hu => h u (List.mem_cons_of_mem _ hu)
    exact ⟨d :: ds, .cons a x, fun e he => (List.mem_cons.mp he).elim (fun q => q ▸ b) (y e), by rw [List.length_cons, List.length_cons, z]⟩
theorem nd_list {H : Hp} {m n : Nat} {a : Addr} {vs : List V} (e : H a = some (.lst vs)) (h : ∀ v ∈ vs, NiceD H m n v) : NiceD H (vs.length * (m + 2) + 2) (n + 1) (.ref a) := by
  obtain ⟨ds, x, y, z⟩ := dn_of h
  exact ⟨.list ds, .lst e x, by rw [← z]; exact okd_list y⟩
theorem nd_tup {H : Hp} {m n : Nat} {a : Addr} {vs : List V} (e : H a = some (.tup vs)) (h : ∀ v ∈ vs, NiceD H m n v) : NiceD H (vs.length * (m + 2) + 3) (n + 1) (.ref a) := by
  obtain ⟨ds, x, y, z⟩ := dn_of h
  exact ⟨.tuple ds, .tup e x, by rw [← z]; exact okd_tup y⟩
theorem nd_int {H : Hp} {i : Int} (h : i.natAbs.log2 < 1920) : NiceD H 1921 0 (.int i) := ⟨_, .int i, okd_int h⟩
theorem nd_bl (H : Hp) (b : Bool) : NiceD H 5 0 (.bl b) := ⟨_, .bl b, okd_bl b⟩
theorem nd_non (H : Hp) : NiceD H 4 0 .non := ⟨_, .non, okd_non⟩
theorem nd_str {H : Hp} {x : Str} {m : Nat} (h : (reprText x).length ≤ m) : NiceD H m 0 (.str x) := ⟨_, .str x, okd_str h⟩
theorem nd_dict2 {H : Hp} {m1 m2 m3 m4 n : Nat} {a : Addr} {k1 k2 : Key} {x y : V} (e : H a = some (.dK [(k1, x), (k2, y)])) (h1 : Okd m1 n (encK k1)) (hx : NiceD H m2 n x) (h2 : Okd m3 n (encK k2)) (hy : NiceD H m4 n y) : NiceD H (m1 + m2 + m3 + m4 + 12) (n + 1) (.ref a) := by
  obtain ⟨d1, p1, q1⟩ := hx
  obtain ⟨d2, p2, q2⟩ := hy
  exact ⟨.dict [(encK k1, d1), (encK k2, d2)], .dct e (.cons p1 (.cons p2 .nil)), okd_dict2 h1 q1 h2 q2⟩
theorem DnAll.length {H : Hp} : ∀ {xs : List V} {ds : List PyData}, DnAll H xs ds → xs.length = ds.length
  | _, _, .nil => rfl
  | _, _, .cons _ r => by rw [List.length_cons, List.length_cons, DnAll.length r]
theorem DnAll.at_ {H : Hp} : ∀ {xs : List V} {ds : List PyData} {i : Nat} {x : V}, DnAll H xs ds → xs[i]? = some x → ∃ d, ds[i]? = some d ∧ Dn H x d
  | _, _, _, _, .nil, e => by simp at e
  | _, _, 0, _, .cons a r, e => by cases (show some _ = some _ from e); exact ⟨_, rfl, a⟩
  | _, _, i + 1, x, .cons _ r, e => DnAll.at_ (i := i) r e
end L2

namespace N2
/-- no square above 1 divides n -/
def SqF (n : Nat) : Prop := ∀ q, 2 ≤ q → ¬ q * q ∣ n
theorem sqf_one : SqF 1 := fun q h d => by
  have := Nat.le_of_dvd (by decide) d
  have : 2 * 2 ≤ q * q := Nat.mul_le_mul h h
  omega
/-- no number from 2 to p - 1 divides s -/
def Low (p s : Nat) : Prop := ∀ q, 2 ≤ q → q < p → ¬ q ∣ s
theorem low_two (s : Nat) : Low 2 s := fun q h1 h2 => by omega
theorem Low.dvd {p s t : Nat} (h : Low p s) (d : t ∣ s) : Low p t := fun q h1 h2 e => h q h1 h2 (Nat.dvd_trans e d)
theorem Low.succ {p s : Nat} (h : Low p s) (d : ¬ p ∣ s) : Low (p + 1) s := fun q h1 h2 e => by
  by_cases c : q = p
  · exact d (c ▸ e)
  · exact h q h1 (by omega) e
/-- s = p t, p not in t, nothing below p in s: a square in s is one in t -/
theorem sqf_step {p s t : Nat} (hp : 2 ≤ p) (hl : Low p s) (e : s = p * t) (ht : ¬ p ∣ t) (h : SqF t) : SqF s := by
  intro q hq d
  have g1 : Nat.gcd p q ∣ p := Nat.gcd_dvd_left p q
  have pos : 0 < p := by omega
  have gp : 0 < Nat.gcd p q := Nat.gcd_pos_of_pos_left q pos
  by_cases c1 : Nat.gcd p q = 1
  · have co : Nat.Coprime q p := by
      show Nat.gcd q p = 1
      rw [Nat.gcd_comm]; exact c1
    have co2 : Nat.Coprime (q * q) p := Nat.Coprime.mul_left co co
    rw [e] at d
    exact h q hq (co2.dvd_of_dvd_mul_left d)
  · have g2 : Nat.gcd p q = p := by
      have le := Nat.le_of_dvd pos g1
      by_cases c2 : Nat.gcd p q < p
      · exact absurd (Nat.dvd_trans g1 ⟨t, e⟩) (hl _ (by omega) c2)
      · omega
    have pq : p ∣ q := by
      have := Nat.gcd_dvd_right p q
      rw [g2] at this; exact this
    have pp : p * p ∣ p * t := by
      rw [← e]
      exact Nat.dvd_trans (Nat.mul_dvd_mul pq pq) d
    exact ht ((Nat.mul_dvd_mul_iff_left pos).mp pp)
/-- behind the loop: s below the third power, nothing below p in it -/
theorem sqf_end {p s : Nat} (hl : Low p s) (hs : 1 ≤ s) (h3 : s < p * p * p) (sq : ∀ r, r * r = s → r = 1) : SqF s := by
  intro q hq d
  obtain ⟨t, e⟩ := d
  have tpos : 1 ≤ t := by
    rcases Nat.eq_zero_or_pos t with z | z
    · rw [z] at e; omega
    · exact z
  have qs : q ∣ s := ⟨q * t, by rw [e, Nat.mul_assoc]⟩
  have qp : p ≤ q := by
    by_cases c : q < p
    · exact absurd qs (hl q hq c)
    · omega
  by_cases c : t = 1
  · rw [c, Nat.mul_one] at e
    have := sq q e.symm
    omega
  · have ts : t ∣ s := ⟨q * q, by rw [e, Nat.mul_comm]⟩
    have tp : p ≤ t := by
      by_cases c2 : t < p
      · exact absurd ts (hl t (by omega) c2)
      · omega
    have : p * p * p ≤ q * q * t := Nat.mul_le_mul (Nat.mul_le_mul qp qp) tp
    omega
/-- the state of the splitting: n the first size, s what is left, r the root so far, p the factor -/
structure Spl (n s r p : Nat) : Prop where
  s1 : 1 ≤ s
  r1 : 1 ≤ r
  p2 : 2 ≤ p
  dv : s * (r * r) ∣ n
  low : Low p s
  up : r = 1 → SqF s → SqF n
theorem spl_0 {n : Nat} (h : 1 ≤ n) : Spl n n 1 2 := ⟨h, Nat.le_refl _, Nat.le_refl _, ⟨1, by simp⟩, low_two n, fun _ q => q⟩
theorem Spl.le {n s r p : Nat} (S : Spl n s r p) (hn : 1 ≤ n) : s ≤ n := by
  have h1 := Nat.le_of_dvd hn S.dv
  have h2 : s * 1 ≤ s * (r * r) := Nat.mul_le_mul_left s (Nat.mul_le_mul S.r1 S.r1)
  omega
/-- s is divided by the square -/
theorem Spl.sq {n s r p : Nat} (S : Spl n s r p) (d : s % (p * p) = 0) : Spl n (s / (p * p)) (r * p) p ∧ s / (p * p) < s := by
  have pp : 0 < p * p := Nat.mul_pos (by have := S.p2; omega) (by have := S.p2; omega)
  obtain ⟨t, e⟩ := Nat.dvd_of_mod_eq_zero d
  have et : s / (p * p) = t := by rw [e, Nat.mul_div_cancel_left _ pp]
  have t1 : 1 ≤ t := by
    rcases Nat.eq_zero_or_pos t with z | z
    · rw [z] at e; have := S.s1; omega
    · exact z
  have h2 := S.p2
  have rp : 2 ≤ r * p := by
    have : 1 * 2 ≤ r * p := Nat.mul_le_mul S.r1 h2
    omega
  refine ⟨?_, Nat.div_lt_self (by have := S.s1; omega) (by have : 2 * 2 ≤ p * p := Nat.mul_le_mul h2 h2; omega)⟩
  rw [et]
  refine ⟨t1, by omega, h2, ?_, S.low.dvd ⟨p * p, by rw [e, Nat.mul_comm]⟩, fun z => by omega⟩
  have := S.dv
  rw [e] at this
  have q : t * (r * p * (r * p)) = p * p * t * (r * r) := by
    simp only [Nat.mul_comm, Nat.mul_left_comm, Nat.mul_assoc]
  rw [q]; exact this
/-- s is divided by the factor once -/
theorem Spl.one {n s r p : Nat} (S : Spl n s r p) (d2 : ¬ s % (p * p) = 0) (d : s % p = 0) : Spl n (s / p) r (p + 1) := by
  have h2 := S.p2
  have pos : 0 < p := by omega
  obtain ⟨t, e⟩ := Nat.dvd_of_mod_eq_zero d
  have et : s / p = t := by rw [e, Nat.mul_div_cancel_left _ pos]
  have t1 : 1 ≤ t := by
    rcases Nat.eq_zero_or_pos t with z | z
    · rw [z] at e; have := S.s1; omega
    · exact z
  have nt : ¬ p ∣ t := fun ⟨u, eu⟩ => d2 (Nat.mod_eq_zero_of_dvd ⟨u, by rw [e, eu, Nat.mul_assoc]⟩)
  have ts : t ∣ s := ⟨p, by rw [e, Nat.mul_comm]⟩
  rw [et]
  exact ⟨t1, S.r1, by omega, Nat.dvd_trans (Nat.mul_dvd_mul_right ts _) S.dv, (S.low.dvd ts).succ nt, fun r1 q => S.up r1 (sqf_step h2 S.low e nt q)⟩
theorem Spl.no {n s r p : Nat} (S : Spl n s r p) (d : ¬ s % p = 0) : Spl n s r (p + 1) :=
  ⟨S.s1, S.r1, by have := S.p2; omega, S.dv, S.low.succ (fun z => d (Nat.mod_eq_zero_of_dvd z)), S.up⟩
/-- the end: the root is 1 exactly if no square divides -/
theorem Spl.fin_sq {n s r p k : Nat} (S : Spl n s r p) (hk : k * k = s) : r * k = 1 ↔ SqF n := by
  constructor
  · intro h
    have r1 : r = 1 := Nat.eq_one_of_mul_eq_one_right h
    have k1 : k = 1 := Nat.eq_one_of_mul_eq_one_left h
    refine S.up r1 ?_
    rw [← hk, k1]; exact sqf_one
  · intro h
    by_cases c : r * k = 1
    · exact c
    · have s1 := S.s1
      have r1 := S.r1
      have k1 : 1 ≤ k := by
        rcases Nat.eq_zero_or_pos k with z | z
        · rw [z] at hk; omega
        · exact z
      have two : 2 ≤ r * k := by
        have : 1 * 1 ≤ r * k := Nat.mul_le_mul r1 k1
        omega
      refine absurd ?_ (h _ two)
      have q : r * k * (r * k) = s * (r * r) := by
        rw [← hk]; simp only [Nat.mul_comm, Nat.mul_left_comm, Nat.mul_assoc]
      rw [q]; exact S.dv
theorem Spl.fin_no {n s r p : Nat} (S : Spl n s r p) (h3 : s < p * p * p) (sq : ∀ k, k * k ≠ s) : r = 1 ↔ SqF n := by
  constructor
  · intro r1
    exact S.up r1 (sqf_end S.low S.s1 h3 fun k e => absurd e (sq k))
  · intro h
    by_cases c : r = 1
    · exact c
    · have r1 := S.r1
      refine absurd ?_ (h r (by omega))
      exact Nat.dvd_trans ⟨s, by rw [Nat.mul_comm]⟩ S.dv
end N2

namespace N2
/-- the splitting with the free part: n = s f r r -/
structure Spf (n s f r p : Nat) : Prop where
  s1 : 1 ≤ s
  f1 : 1 ≤ f
  r1 : 1 ≤ r
  p2 : 2 ≤ p
  eq : s * f * (r * r) = n
  low : Low p s
  up : ∀ t, t ∣ s → SqF t → SqF (f * t)
theorem spf_0 {n : Nat} (h : 1 ≤ n) : Spf n n 1 1 2 := ⟨h, Nat.le_refl _, Nat.le_refl _, Nat.le_refl _, by simp, low_two n, fun t _ q => by rw [Nat.one_mul]; exact q⟩
theorem Spf.le {n s f r p : Nat} (S : Spf n s f r p) : s ≤ n := by
  have h1 : s * 1 * 1 ≤ s * f * (r * r) := Nat.mul_le_mul (Nat.mul_le_mul_left s S.f1) (Nat.mul_le_mul S.r1 S.r1)
  rw [S.eq] at h1
  omega
theorem Spf.sq {n s f r p : Nat} (S : Spf n s f r p) (d : s % (p * p) = 0) : Spf n (s / (p * p)) f (r * p) p ∧ s / (p * p) < s := by
  have h2 := S.p2
  have pp : 4 ≤ p * p := Nat.mul_le_mul h2 h2
  obtain ⟨t, e⟩ := Nat.dvd_of_mod_eq_zero d
  have et : s / (p * p) = t := by rw [e, Nat.mul_div_cancel_left _ (by omega)]
  have t1 : 1 ≤ t := by
    rcases Nat.eq_zero_or_pos t with z | z
    · rw [z] at e; have := S.s1; omega
    · exact z
  have ts : t ∣ s := ⟨p * p, by rw [e, Nat.mul_comm]⟩
  refine ⟨?_, Nat.div_lt_self (by have := S.s1; omega) (by omega)⟩
  rw [et]
  have rp : 1 * 1 ≤ r * p := Nat.mul_le_mul S.r1 (by omega)
  refine ⟨t1, S.f1, by omega, h2, ?_, S.low.dvd ts, fun u hu => S.up u (Nat.dvd_trans hu ts)⟩
  rw [← S.eq, e]
  simp only [Nat.mul_comm, Nat.mul_left_comm, Nat.mul_assoc]
theorem Spf.one {n s f r p : Nat} (S : Spf n s f r p) (d2 : ¬ s % (p * p) = 0) (d : s % p = 0) : Spf n (s / p) (f * p) r (p + 1) := by
  have h2 := S.p2
  have pos : 0 < p := by omega
  obtain ⟨t, e⟩ := Nat.dvd_of_mod_eq_zero d
  have et : s / p = t := by rw [e, Nat.mul_div_cancel_left _ pos]
  have t1 : 1 ≤ t := by
    rcases Nat.eq_zero_or_pos t with z | z
    · rw [z] at e; have := S.s1; omega
    · exact z
  have nt : ¬ p ∣ t := fun ⟨u, eu⟩ => d2 (Nat.mod_eq_zero_of_dvd ⟨u, by rw [e, eu, Nat.mul_assoc]⟩)
  have ts : t ∣ s := ⟨p, by rw [e, Nat.mul_comm]⟩
  have fp : 1 * 1 ≤ f * p := Nat.mul_le_mul S.f1 (by omega)
  rw [et]
  refine ⟨t1, by omega, S.r1, by omega, ?_, (S.low.dvd ts).succ nt, fun u hu q => ?_⟩
  · rw [← S.eq, e]
    simp only [Nat.mul_comm, Nat.mul_left_comm, Nat.mul_assoc]
  · have pu : p * u ∣ s := by rw [e]; exact Nat.mul_dvd_mul_left p hu
    rw [Nat.mul_assoc]
    refine S.up (p * u) pu (sqf_step h2 (S.low.dvd pu) rfl (fun z => nt (Nat.dvd_trans z hu)) q)
theorem Spf.no {n s f r p : Nat} (S : Spf n s f r p) (d : ¬ s % p = 0) : Spf n s f r (p + 1) :=
  ⟨S.s1, S.f1, S.r1, by have := S.p2; omega, S.eq, S.low.succ (fun z => d (Nat.mod_eq_zero_of_dvd z)), S.up⟩
/-- n is f times the square of r, f without squares -/
def Split (n f r : Nat) : Prop := n = f * (r * r) ∧ SqF f ∧ 1 ≤ f ∧ 1 ≤ r
theorem Spf.fin_sq {n s f r p k : Nat} (S : Spf n s f r p) (hk : k * k = s) : Split n f (r * k) := by
  have s1 := S.s1
  have k1 : 1 ≤ k := by
    rcases Nat.eq_zero_or_pos k with z | z
    · rw [z] at hk; omega
    · exact z
  have rk : 1 * 1 ≤ r * k := Nat.mul_le_mul S.r1 k1
  refine ⟨?_, ?_, S.f1, by omega⟩
  · rw [← S.eq, ← hk]
    simp only [Nat.mul_comm, Nat.mul_left_comm, Nat.mul_assoc]
  · have := S.up 1 (Nat.one_dvd s) sqf_one
    rw [Nat.mul_one] at this; exact this
theorem Spf.fin_no {n s f r p : Nat} (S : Spf n s f r p) (h3 : s < p * p * p) (sq : ∀ k, k * k ≠ s) : Split n (f * s) r := by
  have fs : 1 * 1 ≤ f * s := Nat.mul_le_mul S.f1 S.s1
  refine ⟨?_, S.up s (Nat.dvd_refl s) (sqf_end S.low S.s1 h3 fun k e => absurd e (sq k)), by omega, S.r1⟩
  rw [← S.eq, Nat.mul_comm f s]
theorem Split.one {n f r : Nat} (h : Split n f r) : r = 1 ↔ SqF n := by
  obtain ⟨e, q, f1, r1⟩ := h
  constructor
  · intro z
    rw [e, z]; simpa using q
  · intro z
    by_cases c : r = 1
    · exact c
    · exact absurd ⟨f, by rw [e, Nat.mul_comm]⟩ (z r (by omega))
/-- there is one free part only: f r r = g s s -/
theorem sqf_uniq {f g r s : Nat} (hf : SqF f) (hg : SqF g) (r1 : 1 ≤ r) (s1 : 1 ≤ s) (e : f * (r * r) = g * (s * s)) : f = g ∧ r = s := by
  have cp : 0 < Nat.gcd r s := Nat.gcd_pos_of_pos_left _ r1
  obtain ⟨c, ec⟩ : ∃ c, Nat.gcd r s = c := ⟨_, rfl⟩
  obtain ⟨a, ea⟩ : c ∣ r := ec ▸ Nat.gcd_dvd_left r s
  obtain ⟨b, eb⟩ : c ∣ s := ec ▸ Nat.gcd_dvd_right r s
  rw [ec] at cp
  have co : Nat.Coprime a b := by
    have : Nat.gcd (c * a) (c * b) = c := by rw [← ea, ← eb]; exact ec
    rw [Nat.gcd_mul_left] at this
    exact Nat.eq_of_mul_eq_mul_left cp (by rw [this, Nat.mul_one])
  have e2 : f * (a * a) = g * (b * b) := by
    have h : (c * c) * (f * (a * a)) = (c * c) * (g * (b * b)) := by
      have h1 : (c * c) * (f * (a * a)) = f * (r * r) := by rw [ea]; simp only [Nat.mul_comm, Nat.mul_left_comm, Nat.mul_assoc]
      have h2 : (c * c) * (g * (b * b)) = g * (s * s) := by rw [eb]; simp only [Nat.mul_comm, Nat.mul_left_comm, Nat.mul_assoc]
      rw [h1, h2, e]
    exact Nat.eq_of_mul_eq_mul_left (Nat.mul_pos cp cp) h
  have ab : Nat.Coprime (a * a) (b * b) := (co.mul_left co).mul_right (co.mul_left co)
  have a1 : a = 1 := by
    have d : a * a ∣ g := ab.dvd_of_dvd_mul_right ⟨f, by rw [← e2, Nat.mul_comm]⟩
    by_cases z : 2 ≤ a
    · exact absurd d (hg a z)
    · rcases Nat.eq_zero_or_pos a with y | y
      · rw [y] at ea; omega
      · omega
  have b1 : b = 1 := by
    have d : b * b ∣ f := ab.symm.dvd_of_dvd_mul_right ⟨g, by rw [e2, Nat.mul_comm]⟩
    by_cases z : 2 ≤ b
    · exact absurd d (hf b z)
    · rcases Nat.eq_zero_or_pos b with y | y
      · rw [y] at eb; omega
      · omega
  rw [a1, b1] at e2
  exact ⟨by omega, by rw [ea, eb, a1, b1]⟩
/-- the product of two free numbers without a common divisor -/
theorem sqf_mul {f g : Nat} (hf : SqF f) (hg : SqF g) (co : Nat.Coprime f g) : SqF (f * g) := by
  intro q hq d
  -- q q in f g: gcd(q, f) and gcd(q, g)
  have q1 : q ∣ f * g := Nat.dvd_trans ⟨q, rfl⟩ d
  obtain ⟨a, ea⟩ : ∃ a, Nat.gcd q f = a := ⟨_, rfl⟩
  obtain ⟨b, eb⟩ : ∃ b, Nat.gcd q g = b := ⟨_, rfl⟩
  have af : a ∣ f := ea ▸ Nat.gcd_dvd_right q f
  have bg : b ∣ g := eb ▸ Nat.gcd_dvd_right q g
  have eq : q = a * b := by
    have := Nat.Coprime.gcd_mul q co
    rw [Nat.gcd_eq_left q1, ea, eb] at this; exact this
  have ca : Nat.Coprime a g := Nat.Coprime.coprime_dvd_left af co
  have cb : Nat.Coprime b f := (Nat.Coprime.coprime_dvd_left bg co.symm)
  have da : a * a ∣ f := by
    have : a * a ∣ f * g := Nat.dvd_trans ⟨b * b, by rw [eq]; simp only [Nat.mul_comm, Nat.mul_left_comm, Nat.mul_assoc]⟩ d
    exact (ca.mul_left ca).dvd_of_dvd_mul_right this
  have db : b * b ∣ g := by
    have : b * b ∣ f * g := Nat.dvd_trans ⟨a * a, by rw [eq]; simp only [Nat.mul_comm, Nat.mul_left_comm, Nat.mul_assoc]⟩ d
    exact (cb.mul_left cb).dvd_of_dvd_mul_left this
  by_cases z : 2 ≤ a
  · exact hf a z da
  · by_cases y : 2 ≤ b
    · exact hg b y db
    · have : a * b ≤ 1 * 1 := Nat.mul_le_mul (by omega) (by omega)
      omega
end N2

namespace L2
open PySem PySem.Spec PyProof.Rows
/-- what the top has written of a class of errors: its name n, its own __init__ at f -/
structure ClsF (K : PySem.W.Frag) (mg : Str → Option Value) (S : Addr) (n : Str) (C f : Addr) (fd : FuncData) : Prop where
  M : SlM K C S f
  at_ : ∃ q N bs sn sub ab col dd k0 k1 k2 k3 k5, K.lookup C = some (excClassObj n q C N bs (.ref S :: PySem.Sl.xTail) true sn sub ab col dd k0 k1 k2 k3 k5 "Exception.__new__")
  gC : mg n = some (.ref C)
  F : ∃ (qual : Str) (p1 p2 q1 q2 q3 q4 q5 q6 : Pos), (q2.endLine == q5.line) = true ∧ FunD K "__init__" qual (argsS p1 p2 []) (bodyC q1 q2 q3 q4 q5 q6) scpC [] [] f fd
/-- the class of an error's data -/
def nmOf (o : Obj) : Str := match o.data with | .cls cd => cd.name | _ => ""
theorem one_name {K : PySem.W.Frag} {mg : Str → Option Value} {S : Addr} {n n' : Str} {C C' f f' : Addr} {fd fd' : FuncData} (A : ClsF K mg S n C f fd) (B : ClsF K mg S n' C' f' fd') (e : C = C') : n = n' := by
  subst e
  obtain ⟨q, N, bs, sn, sub, ab, col, dd, k0, k1, k2, k3, k5, h⟩ := A.at_
  obtain ⟨q', N', bs', sn', sub', ab', col', dd', k0', k1', k2', k3', k5', h'⟩ := B.at_
  have z := congrArg nmOf (Option.some.inj (h.symm.trans h'))
  exact z
section
variable {K : PySem.W.Frag} {mg : Str → Option Value} {S : Addr} {n : Str} {C f : Addr} {fd : FuncData}
theorem ClsF.cd (A : ClsF K mg S n C f fd) : ∃ cd : ClassData, PySem.W.clsIn K C = some cd ∧ cd.mro = .ref C :: .ref S :: PySem.Sl.xTail := by
  obtain ⟨q, N, bs, sn, sub, ab, col, dd, k0, k1, k2, k3, k5, h⟩ := A.at_
  refine ⟨{ name := n, bases := bs, mro := .ref C :: .ref S :: PySem.Sl.xTail, ns := N, qualname := q, hasDict := true, slotNames := sn, subclasses := sub, abstract := ab, collection := col, hasDel := false }, ?_, rfl⟩
  unfold PySem.W.clsIn
  rw [h]
theorem ClsF.sub (A : ClsF K mg S n C f fd) (c : Value) : PySem.W.subIn K (.ref C) c = some ((Value.ref C :: .ref S :: PySem.Sl.xTail).contains c) := by
  obtain ⟨cd, h1, h2⟩ := A.cd
  show PySem.W.mroIn K C c = _
  unfold PySem.W.mroIn
  rw [h1, Option.bind_some, h2]
  rfl
theorem ClsF.cls (A : ClsF K mg S n C f fd) : ((PySem.W.clsIn K C).isSome && PySem.W.typeIn K (.ref C) == some (.type "type")) = true := by
  obtain ⟨cd, h1, _⟩ := A.cd
  rw [h1, A.M.T.tyC]
  rfl
theorem ClsF.kit (A : ClsF K mg S n C f fd) {n' : Str} {C' f' : Addr} {fd' : FuncData} (B : ClsF K mg S n' C' f' fd') (hS : C' ≠ S) : PySem.W.kitOne K (.ref C) (.ref C') = some (decide (C = C')) ∧ PySem.W.exmOne K (.ref C) (.ref C') = some (decide (C = C')) := by
  have e1 : (Value.ref C :: .ref S :: PySem.Sl.xTail).contains (.ref C') = decide (C = C') := by
    rw [List.contains_cons, List.contains_cons]
    have a1 : (Value.ref C' == Value.ref S) = false := by
      rw [beq_eq_false_iff_ne]
      exact fun z => hS (Value.ref.inj z)
    have a2 : (PySem.Sl.xTail.contains (Value.ref C')) = false := rfl
    have a3 : (Value.ref C' == Value.ref C) = decide (C = C') := by
      by_cases h : C = C'
      · rw [h, decide_eq_true rfl]; exact beq_self_eq_true _
      · rw [decide_eq_false h, beq_eq_false_iff_ne]
        exact fun z => h (Value.ref.inj z).symm
    rw [a1, a2, a3]
    simp
  have e2 : PySem.W.kitCls K (.ref C) (.ref C') = some (decide (C = C')) := by
    show (if ((PySem.W.clsIn K C').isSome && PySem.W.typeIn K (.ref C') == some (.type "type")) = true then PySem.W.subIn K (.ref C) (.ref C') else none) = _
    rw [if_pos B.cls, A.sub, e1]
  constructor
  · unfold PySem.W.kitOne
    by_cases h : C = C'
    · rw [h, if_pos (beq_self_eq_true _), decide_eq_true rfl]
    · rw [if_neg (fun z => h (Value.ref.inj (eq_of_beq z))), e2]
  · unfold PySem.W.exmOne
    rw [if_pos (by rw [B.M.T.exC]; rfl), e2]
theorem ClsF.up (A : ClsF K mg S n C f fd) (hcS : (PySem.W.clsIn K S).isSome = true) (htS : PySem.W.typeIn K (.ref S) = some (.type "type")) (hbS : PySem.W.subIn K (.ref S) (.type "BaseException") = some true) :
    PySem.W.kitOne K (.ref C) (.ref S) = some true ∧ PySem.W.exmOne K (.ref C) (.ref S) = some true := by
  have e1 : (Value.ref C :: .ref S :: PySem.Sl.xTail).contains (.ref S) = true := by
    rw [List.contains_cons, List.contains_cons, beq_self_eq_true, Bool.true_or, Bool.or_true]
  have e2 : PySem.W.kitCls K (.ref C) (.ref S) = some true := by
    show (if ((PySem.W.clsIn K S).isSome && PySem.W.typeIn K (.ref S) == some (.type "type")) = true then PySem.W.subIn K (.ref C) (.ref S) else none) = _
    rw [if_pos (by rw [hcS, htS]; rfl), A.sub, e1]
  constructor
  · unfold PySem.W.kitOne
    by_cases h : C = S
    · rw [h, if_pos (beq_self_eq_true _)]
    · rw [if_neg (fun z => h (Value.ref.inj (eq_of_beq z))), e2]
  · unfold PySem.W.exmOne
    rw [if_pos (by rw [hbS]; rfl), e2]
theorem ClsF.ty (A : ClsF K mg S n C f fd) {T : String} {b : Bool} (hm : PySem.W.kitMeta T = true) (hb : PySem.Sl.xTail.contains (.type T) = b) : PySem.W.kitOne K (.ref C) (.type T) = some b := by
  have e1 : (Value.ref C :: .ref S :: PySem.Sl.xTail).contains (.type T) = b := by
    rw [List.contains_cons, List.contains_cons, hb]
    rfl
  show (if (Value.ref C == Value.type T) = true then some true else if PySem.W.kitMeta T = true then PySem.W.subIn K (.ref C) (.type T) else none) = _
  rw [if_neg (show ¬ ((Value.ref C == Value.type T) = true) from fun z => nomatch (eq_of_beq z)), if_pos hm, A.sub, e1]
end
theorem cls_mk {K : PySem.W.Frag} {h : Heap} {mg : Str → Option Value} {S C f : Addr} {n q qual : Str} (X : K.In h) (G : h.Ns mainGlobals mg) {N : Addr} {bs : List Value} {sn : List Str} {sub : List Value} {ab : Bool} {col : Option Bool} {dd : Option Addr} {m0 m1 m2 m3 m5 : Option Value}
    {od an : Option Addr} {sl : Array (Option Value)} {oc dc pm cd ct : Value} {p1 p2 q1 q2 q3 q4 q5 q6 : Pos}
    (aC : PySem.W.nsIn K mainGlobals n = some (some (.ref C)))
    (xL : K.lookup C = some (excClassObj n q C N bs (.ref S :: PySem.Sl.xTail) true sn sub ab col dd m0 m1 m2 m3 m5 "Exception.__new__"))
    (sa : PySem.W.findIn K (.ref C) "__setattr__" = some (some (.builtin "object.__setattr__"))) (ga : PySem.W.findIn K (.ref C) "__getattribute__" = some (some (.builtin "BaseException.__getattribute__"))) (gg : PySem.W.findIn K (.ref C) "__getattr__" = some none) (nb : PySem.W.findIn K (.ref C) "thing" = some none)
    (hc : PySem.W.findIn K (.ref C) "__class__" = some (some (.builtin "object.__class__")))
    (a1 : PySem.W.findIn K (.ref C) "__init__" = some (some (.ref f))) (t1 : PySem.W.typeIn K (.ref f) = some (.type "function"))
    (l1 : K.lookup f = some ⟨oc, od, .func (PySem.W.fnOf "__init__" qual (argsS p1 p2 []) (bodyC q1 q2 q3 q4 q5 q6) scpC .none .none dc pm an cd ct), sl⟩) (c1 : PySem.W.codeIn K cd qual = true) (kf : PySem.W.keepIn K (.ref f) = true)
    (kC : PySem.W.keepIn K (.ref C) = true) (tC : PySem.W.typeIn K (.ref C) = some (.type "type"))
    (hn : PySem.W.specialIn K (.builtin "object.__class__") "__get__" = some (some (.builtin "getset_descriptor.__get__"))) (ht : PySem.W.takesIn K (.builtin "object.__class__") = some true)
    (hl : (q2.endLine == q5.line) = true) : ClsF K mg S n C f (PySem.W.fnOf "__init__" qual (argsS p1 p2 []) (bodyC q1 q2 q3 q4 q5 q6) scpC .none .none dc pm an cd ct) := by
  have cl : PySem.W.clsIn K C = some { name := n, bases := bs, mro := .ref C :: .ref S :: PySem.Sl.xTail, ns := N, qualname := q, hasDict := true, slotNames := sn, subclasses := sub, abstract := ab, collection := col, hasDel := false } := by
    unfold PySem.W.clsIn; rw [xL]
  have sb : ∀ T : String, PySem.Sl.xTail.contains (.type T) = true → PySem.W.mroIn K C (.type T) = some true := fun T e => by
    unfold PySem.W.mroIn
    rw [cl, Option.bind_some]
    show some ((Value.ref C :: .ref S :: PySem.Sl.xTail).contains (.type T)) = _
    rw [PySem.Sl.has_sub C S T e]
  exact
    { M := ⟨{ cls := ⟨n, q, N, bs, sn, sub, ab, col, dd, m0, m1, m2, m3, m5, xL⟩, sa := sa, exC := sb _ (by decide +kernel), tyC := tC, kC := kC, ga := ga, gg := gg, noT := nb, hd := by unfold PySem.W.hasDictIn; rw [cl]; rfl, hc := hc, hn := hn, ht := ht, hm := sb _ (by decide +kernel) }, a1, t1⟩
      at_ := ⟨q, N, bs, sn, sub, ab, col, dd, m0, m1, m2, m3, m5, xL⟩
      gC := PySem.W.mg_of X G aC
      F := ⟨qual, p1, p2, q1, q2, q3, q4, q5, q6, hl, ⟨oc, od, .none, .none, dc, pm, an, cd, ct, sl, rfl, l1, c1, .inl ⟨rfl, rfl⟩, .inl rfl⟩, kf⟩ }
end L2

namespace HT
open PySem PySem.Spec PyProof.Rows
section
variable {prog : Program} {w : World} {A : Around} {E : Value → Shared → Prop} {s : Shared}
theorem back_places (n : Nat) : Builtin.Slice.slicePlaces ((n : Int) - 1) (-1) (-1) = n := by
  unfold Builtin.Slice.slicePlaces
  rw [if_neg (by decide)]
  by_cases h : (n : Int) - 1 > -1
  · rw [if_pos h, show -(-1 : Int) = 1 by decide, Int.ediv_one]; omega
  · rw [if_neg h]; omega
theorem back_pick (xs : Array Value) : ((List.range xs.size).filterMap fun (m : Nat) => xs[(((xs.size : Int) - 1) + (m : Int) * (-1)).toNat]?).toArray = xs.toList.reverse.toArray := by
  congr 1
  have e : ∀ l : List Nat, (∀ m ∈ l, m < xs.size) → (l.filterMap fun (m : Nat) => xs[(((xs.size : Int) - 1) + (m : Int) * (-1)).toNat]?) = l.filterMap fun m => xs.toList.reverse[m]? := by
    intro l hl
    induction l with
    | nil => rfl
    | cons m r ih =>
      have hm := hl m List.mem_cons_self
      have q : xs[(((xs.size : Int) - 1) + (m : Int) * (-1)).toNat]? = xs.toList.reverse[m]? := by
        rw [List.getElem?_reverse (by rw [Array.length_toList]; exact hm), Array.length_toList, Array.getElem?_toList]
        congr 1
        omega
      rw [List.filterMap_cons, List.filterMap_cons, q, ih fun x hx => hl x (List.mem_cons_of_mem _ hx)]
  rw [e _ fun m hm => List.mem_range.mp hm]
  have g : ∀ zs : List Value, (List.range zs.length).filterMap (fun m => zs[m]?) = zs := by
    intro zs
    have p := pick_gen zs.toArray 0 zs.length
    have e2 : (fun (m : Nat) => zs.toArray[(((0 : Nat) : Int) + (m : Int) * 1).toNat]?) = fun m => zs[m]? := by
      funext m
      rw [List.getElem?_toArray]
      congr 1
      omega
    rw [e2] at p
    have q := congrArg Array.toList p
    simpa using q
  have := g xs.toList.reverse
  rw [List.length_reverse, Array.length_toList] at this
  exact this
theorem back_applied {sl : Addr} {vl vu vs : Value} {n : Nat} {Q : Int × Int × Nat → Shared → Prop} (isl : s.heap.IsSliceOf sl vl vu vs) (p1 : IsPart vl none) (p2 : IsPart vu none) (p3 : IsPart vs (some (-1)))
    (goal : Q ((n : Int) - 1, -1, n) s) : wpAny (model prog w) A (Builtin.Slice.sliceApplied (.ref sl) (pure (n : Int))) Q E s := by
  obtain ⟨ob, hob, _, dob⟩ := id isl
  unfold Builtin.Slice.sliceApplied Builtin.Slice.sliceFields
  refine wpAny_bind (wpAny_bind (wpAny_field hob dob (x := vl) rfl (wpAny_bind (wpAny_field hob dob (x := vu) rfl (wpAny_bind (wpAny_field hob dob (x := vs) rfl (wpAny_pure ?_)))))))
  refine wpAny_bind (slicePart_ p3 ?_)
  show wpAny _ _ (if ((-1 : Int) == 0) = true then _ else _) _ _ s
  rw [if_neg (show ¬ (((-1 : Int) == 0) = true) by decide)]
  refine wpAny_bind (slicePart_ p1 (wpAny_bind (slicePart_ p2 (wpAny_bind (wpAny_pure ?_)))))
  have adj : Builtin.Slice.sliceAdjust none none (-1) (n : Int) = ((n : Int) - 1, -1) := by
    unfold Builtin.Slice.sliceAdjust
    rfl
  show wpAny _ _ (match Builtin.Slice.sliceAdjust none none (-1) (n : Int) with | (lo, hi) => pure (lo, (-1 : Int), Builtin.Slice.slicePlaces lo hi (-1))) _ _ s
  rw [adj]
  show wpAny _ _ (pure ((n : Int) - 1, (-1 : Int), Builtin.Slice.slicePlaces ((n : Int) - 1) (-1) (-1))) _ _ s
  rw [back_places]
  exact wpAny_pure goal
theorem getItem_tuple_back {t sl : Addr} {items : Array Value} {vl vu vs : Value} {Q : Value → Shared → Prop} (tup : IsTup s.heap t items) (isl : s.heap.IsSliceOf sl vl vu vs) (p1 : IsPart vl none) (p2 : IsPart vu none) (p3 : IsPart vs (some (-1)))
    (goal : Q (.ref s.heap.objs.size) { s with heap := s.heap.push { cls := .type "tuple", data := .seq items.toList.reverse.toArray } }) (small : items.size ≤ sizeLine) : wpAny (model prog w) A (getItem (.ref t) (.ref sl)) Q E s := by
  obtain ⟨ob, hob, cob, _⟩ := id isl
  have isT : s.TypeIs (.ref sl) "slice" := ⟨ob, hob, cob⟩
  have sz : sizeOk (.seq items.toList.reverse.toArray) := by
    show items.toList.reverse.toArray.size ≤ sizeLine
    rw [List.size_toArray, List.length_reverse, Array.length_toList]; exact small
  unfold getItem
  try with_reducible refine wpAny_holding ?_
  first | refine wpAny_bind (wpAny_pure ?_) | skip
  refine wpAny_bind (wpAny_sequenceKey tup.typeIs (by decide) ?_)
  refine wpAny_bind (wpAny_callSpecial?_slot (name := Str.ofString "__getitem__") tup.typeIs PyProof.Rows.slot_tuple_getitem (wpAny_call_entry PyProof.Rows.slot_tuple_getitem tup.typeIs entry_tuple_getitem ?_ (args_tuple_getitem _ _)))
  show wpAny _ _ (Builtin.Tuple.tupleItemsOf (.ref t) >>= _) _ _ s
  refine wpAny_bind (tupleItemsOf_ tup ?_)
  refine wpAny_bind (wpAny_typeOf isT ?_)
  rw [if_pos (show (Value.type "slice" == Value.type "slice") = true by decide)]
  refine wpAny_bind (back_applied isl p1 p2 p3 ?_)
  have nn : ¬ ((((items.size : Int) - 1) == 0 && (-1 : Int) == 1 && items.size == items.size) = true) := by
    intro q
    rw [Bool.and_eq_true, Bool.and_eq_true] at q
    exact absurd q.1.2 (by decide)
  show wpAny _ _ (if (((items.size : Int) - 1) == 0 && (-1 : Int) == 1 && items.size == items.size) = true then _ else _) _ _ s
  rw [if_neg nn, back_pick]
  first
    | exact wpAny_bind (m := Builtin.Tuple.tupleExact _) (wpAny_newObj_type (wpAny_pure ⟨_, rfl, wpAny_pure goal⟩) sz)
    | exact wpAny_bind (m := Builtin.Tuple.tupleExact _) (wpAny_newObj_type (wpAny_bind (wpAny_pure (wpAny_pure ⟨_, rfl, wpAny_pure goal⟩))) sz)
    | exact wpAny_bind (wpAny_bind (m := Builtin.Tuple.tupleExact _) (wpAny_newObj_type (wpAny_pure (wpAny_pure ⟨_, rfl, wpAny_pure goal⟩)) sz))
    | exact wpAny_bind (wpAny_bind (m := Builtin.Tuple.tupleExact _) (wpAny_newObj_type (wpAny_pure ⟨_, rfl, wpAny_pure goal⟩) sz))
end
end HT
namespace L2
open PySem PySem.Spec PyProof.Rows
/-- t[::-1], t a tuple -/
def tBack (K : PySem.W.Frag) (te : TE) : TE := fun σ H Q => te σ H fun x H1 => ∃ a xs, x = .ref a ∧ SqT K H1 a xs ∧ ∀ p, H1 p = none → Q (.ref p) (upd H1 p (.tup xs.reverse))
theorem pe_back {X : Cx} {e : Expr} {te : TE} {k : Nat} {p1 p2 p3 pos : Pos} (he : PE X e te) : PE X (.Subscript e (.Slice none none (some (.UnaryOp .USub (.Constant (.int 1) k p1) p2)) p3) pos) (tBack X.K te) := by
  refine ⟨fun pins s σ H Q I h => ?_⟩
  refine Subscript_ (thn (he.run pins s σ H _ I h) fun v s1 ⟨x, H1, I1, r1, a, xs, ex, hx, q⟩ => ?_)
  subst ex
  cases r1
  have step : PO X (some (.UnaryOp .USub (.Constant (.int 1) k p1) p2)) (tPart (tUn (rU fun i => .int (-i)) (tC (.int 1)))) := po_some (pe_un un_neg pe_int)
  refine wpAny_Slice (thn (po_none.run pins s1 σ H1 (fun o G => o = none ∧ G = H1) I1 ⟨rfl, rfl⟩) fun vl s2 ⟨l, H2, I2, pl, el, e2⟩ => ?_)
  subst el e2
  refine thn (po_none.run pins s2 σ H2 (fun o G => o = none ∧ G = H2) I2 ⟨rfl, rfl⟩) fun vu s3 ⟨u, H3, I3, pu, eu, e3⟩ => ?_
  subst eu e3
  refine thn (step.run pins s3 σ H3 (fun o G => o = some (-1) ∧ G = H3) I3 ⟨1, rfl, -1, rfl, rfl, rfl⟩) fun vs s4 ⟨o, H4, I4, ps, eo, e4⟩ => ?_
  subst eo e4
  have J : Inv X pins σ H4 { s4 with heap := s4.heap.push { cls := .type "slice", data := .fields #[vl, vu, vs] } } := I4.kept (t' := s4.toks) fun _ _ q => Heap.get?_push_of_some _ q
  obtain ⟨its, r, ht, hz⟩ := J.tuple hx
  have len := r.length
  show wpAny (model X.prog X.w) X.A (subscriptTail e (.Slice none none (some (.UnaryOp .USub (.Constant (.int 1) k p1) p2)) p3) (.ref a) (.ref s4.heap.objs.size)) _ _ _
  refine tail_any (ops := [.ref a, .ref s4.heap.objs.size]) ht.typeIs (PyProof.Rows.slot_tuple_getitem.lookup) ?_ (by with_unfolding_all rfl)
  refine HT.getItem_tuple_back ht (Heap.IsSliceOf.new _ vl vu vs) pl pu ps ?_ (by rw [List.size_toArray]; omega)
  refine ⟨.ref _, _, J.laid (t' := s4.toks) (o := .tup xs.reverse) (fun _ _ q => Heap.get?_push_of_some _ q) (Nat.le_refl _) ?_, rfl, q _ (J.hok.fresh (Nat.le_refl _))⟩
  exact ⟨by rw [List.length_reverse]; exact hz, _, r.reverse, _, Heap.get?_push_size _ rfl, rfl, _, rfl⟩
end L2

namespace PmX
open PySem PySem.Spec PyProof.Rows
abbrev pT : String := "itertools.permutations"
theorem p_mro : mroOf (.type pT) = pure [.type pT, .type "object"] := by
  rw [mroOf_type]; kernel_rfl
theorem p_new : typeLookup (.type pT) "__new__" = pure (some (.builtin "itertools.permutations.__new__")) := by
  rw [typeLookup_type, builtinLookup_eq_fast]; kernel_rfl
theorem p_sub : isSubtype (.type pT) (.type pT) = pure true := by
  rw [isSubtype_type]; kernel_rfl
theorem p_init : Slot pT "__init__" "object.__init__" := by
  refine .of (owner := "object") (n := "__init__") ?_ (by decide +kernel) (by decide +kernel) (by decide +kernel) ?_ ?_
  · rw [typeLookup_type, builtinLookup_eq_fast]; kernel_rfl
  · first | exact .inl (by decide +kernel) | exact .inr (by decide +kernel)
  · rw [isSubtype_type]; kernel_rfl
theorem p_iter : Slot pT "__iter__" "itertools.permutations.__iter__" := by
  refine .of (owner := pT) (n := "__iter__") ?_ (by decide +kernel) (by decide +kernel) (by decide +kernel) ?_ p_sub
  · rw [typeLookup_type, builtinLookup_eq_fast]; kernel_rfl
  · first | exact .inl (by decide +kernel) | exact .inr (by decide +kernel)
theorem p_next : Slot pT "__next__" "itertools.permutations.__next__" := by
  refine .of (owner := pT) (n := "__next__") ?_ (by decide +kernel) (by decide +kernel) (by decide +kernel) ?_ p_sub
  · rw [typeLookup_type, builtinLookup_eq_fast]; kernel_rfl
  · first | exact .inl (by decide +kernel) | exact .inr (by decide +kernel)
theorem p_called : TypeCalled pT "itertools.permutations.__new__" "object.__init__" := by
  refine ⟨by decide +kernel, by decide +kernel, ⟨_, _, p_mro⟩, ?_, by decide +kernel, p_sub, p_init⟩
  exact madeBy_type p_mro p_new (by decide +kernel)
theorem p_tcall (a : Value) : checkTypeCall pT ⟨[a], []⟩ = pure () := by kernel_rfl
theorem p_bcall (a : Value) : checkBuiltinCall "itertools.permutations.__new__" ⟨[.type pT, a], []⟩ = pure () := by kernel_rfl
theorem p_enew : entryFor table "itertools.permutations.__new__" = some Builtin.«itertools.permutations.__new__» := entryFor_of_tree (by kernel_rfl)
theorem p_enext : entryFor table "itertools.permutations.__next__" = some Builtin.«itertools.permutations.__next__» := entryFor_of_tree (by kernel_rfl)
theorem p_eiter : entryFor table "itertools.permutations.__iter__" = some Builtin.«dict_keyiterator.__iter__» := by
  refine entryFor_alias (id' := "dict_keyiterator.__iter__") (by kernel_rfl) ?_ (by decide +kernel) (by kernel_rfl)
  first | rfl | decide +kernel | (unfold String.splitOn; simp +decide [String.splitOnAux])
theorem p_ainit (obj a : Value) : argsOk "object.__init__" ⟨[obj, a], []⟩ := by exact F.args_object_init_2 obj a
end PmX

namespace PmX
open PySem PySem.Spec PyProof.Rows
/-- the figures of a walk over three things, at its turns -/
def nm : Nat → List Nat
  | 0 => [0, 1, 2, 3, 2, 1] | 1 => [0, 2, 1, 3, 1, 1] | 2 => [1, 0, 2, 2, 2, 1] | 3 => [1, 2, 0, 2, 1, 1] | 4 => [2, 0, 1, 1, 2, 1] | _ => [2, 1, 0, 1, 1, 1]
/-- a walk over the arrangements of the three things in the tuple at T -/
abbrev IsPm (h : Heap) (it T : Addr) (st : Int) (last : Value) (ns : List Nat) : Prop :=
  h.get? it = some { cls := .type pT, dict := none, data := .fields (([.ref T, .int st 0, .int 3 0, last] ++ ns.map fun (n : Nat) => Value.int (n : Int) 0).toArray), slots := #[] }
theorem p_aiter (a : Value) : argsOk "itertools.permutations.__iter__" ⟨[a], []⟩ := by unfold argsOk; kernel_rfl
theorem p_anext (a : Value) : argsOk "itertools.permutations.__next__" ⟨[a], []⟩ := by unfold argsOk; kernel_rfl
theorem p_meets (l : Addr) (a b c : Value) :
    Meets (Builtin.«itertools.permutations.__new__» ⟨[.type pT, .ref l], []⟩) (fun _ R s => s.heap.IsList l #[a, b, c] ∧
      ∀ h' it T, IsPm h' it T 0 .none (nm 0) → h'.get? T = some (seqObj "tuple" #[a, b, c] 0) → s.heap.objs.size ≤ it → s.heap.objs.size ≤ T → it ≠ T → (∀ x o, s.heap.get? x = some o → h'.get? x = some o) → R (.ok (.ret (.ref it))) { s with heap := h' }) :=
  .of_wp fun prog w A R s ⟨hl, h⟩ => by
    have hs := p_sub
    have hd : typeHasDict (.type pT) = false := by decide +kernel
    have hs2 : isSubtype (.type pT) (.type ("itertools." ++ "permutations")) = pure true := p_sub
    unfold Builtin.«itertools.permutations.__new__»
    repeat (first | (refine wpAny_of_eq hs2 ?_) | (refine PyProof.Rows.collect_list (vs := [a, b, c]) hl ?_ (by size_fits)) | wp_step)
    have g0 : (s.heap.push (seqObj "list" #[] 0)).get? s.heap.objs.size = some (seqObj "list" #[] 0) := Heap.get?_push_size _ rfl
    refine ⟨_, rfl, h _ _ ((s.heap.push (seqObj "list" #[] 0)).update s.heap.objs.size (Obj.mapSeq fun x => x ++ #[a, b, c])).objs.size (Heap.get?_push_size _ rfl) (Heap.get?_push_of_some _ (Heap.get?_push_size _ rfl)) ?_ ?_ ?_ fun x o e => ?_⟩
    · simp [Heap.size_push]; omega
    · simp [Heap.size_push]
    · simp [Heap.size_push]
    · refine Heap.get?_push_of_some _ (Heap.get?_push_of_some _ ?_)
      have lt := Heap.lt_size e
      exact ((Heap.SameBut.update (Obj.mapSeq fun x => x ++ #[a, b, c]) (h := s.heap.push (seqObj "list" #[] 0)) (a := s.heap.objs.size)).2 x (Nat.ne_of_lt lt)).trans (Heap.get?_push_of_some _ e)
end PmX

namespace PmX
open PySem PySem.Spec PyProof.Rows
section
variable {prog : Program} {w : World} {A : Around} {E : Value → Shared → Prop} {s : Shared}
theorem p_call {l : Addr} {a b c : Value} {Q : Value → Shared → Prop} (hl : s.heap.IsList l #[a, b, c])
    (h : ∀ h' it T, IsPm h' it T 0 .none (nm 0) → h'.get? T = some (seqObj "tuple" #[a, b, c] 0) → s.heap.objs.size ≤ it → s.heap.objs.size ≤ T → it ≠ T → (∀ x o, s.heap.get? x = some o → h'.get? x = some o) → Q (.ref it) { s with heap := h' }) :
    wpAny (model prog w) A (call (.type pT) [.ref l]) Q E s := by
  refine callType_new p_called (by decide +kernel) (p_tcall _) (p_bcall _) (fun obj => F.args_object_init_2 obj _) p_enew (p_meets l a b c) ⟨hl, fun h' it T h1 h2 h3 h4 h5 h6 => ?_⟩
  exact ⟨⟨_, h1, rfl⟩, h h' it T h1 h2 h3 h4 h5 h6⟩
theorem p_self {it T : Addr} {st : Int} {last : Value} {ns : List Nat} {Q : Value → Shared → Prop} (hit : IsPm s.heap it T st last ns) (h : Q (.ref it) s) :
    wpAny (model prog w) A (pyIter (.ref it)) Q E s := by
  have ty : s.TypeIs (.ref it) pT := ⟨_, hit, rfl⟩
  refine wpAny_pyIter_slot ty p_iter (wpAny_call_entry p_iter ty p_eiter ?_ (p_aiter _))
  show wpAny _ _ (ret (.ref it)) _ _ s
  exact wpAny_pure ⟨_, rfl, pT, _, ty, p_next.lookup, h⟩
/-- the first thing handed out -/
theorem p_item0 {it T : Addr} {a b c : Value} {Q : Option Value → Shared → Prop} (hit : IsPm s.heap it T 0 .none (nm 0)) (hT : s.heap.get? T = some (seqObj "tuple" #[a, b, c] 0)) (ne : it ≠ T)
    (hQ : ∀ h' p, IsPm h' it T 1 (.ref p) (nm 0) → s.heap.objs.size ≤ p → h'.get? p = some (seqObj "tuple" #[a, b, c] 0) → (∀ x o, x ≠ it → s.heap.get? x = some o → h'.get? x = some o) → Q (some (.ref p)) { s with heap := h' }) :
    wpAny (model prog w) A (callSpecial? (.ref it) "__next__") Q E s := by
  have ty : s.TypeIs (.ref it) pT := ⟨_, hit, rfl⟩
  refine wpAny_callSpecial?_slot (name := Str.ofString "__next__") ty p_next (wpAny_call_entry p_next ty p_enext ?_ (p_anext _))
  unfold Builtin.«itertools.permutations.__next__»
  repeat (first | (refine wpAny_field hit rfl rfl ?_) | wp_step)
  have lt := Heap.lt_size hit
  have z : (s.heap.update it (Obj.mapFields fun x => x.setIfInBounds 1 (rawInt 1))).objs.size = s.heap.objs.size := by simp
  refine ⟨_, rfl, hQ _ _ ?_ (Nat.le_of_eq z.symm) ?_ fun x o hx e => ?_⟩
  · refine Heap.get?_update_self _ (Heap.get?_push_of_some _ (Heap.get?_update_self _ hit rfl)) rfl
  · refine ((Heap.SameBut.update ..).2 _ ?_).trans (Heap.get?_push_size _ rfl)
    rw [z]; exact Nat.ne_of_gt lt
  · exact ((Heap.SameBut.update ..).2 x hx).trans (Heap.get?_push_of_some _ (((Heap.SameBut.update ..).2 x hx).trans e))
end
end PmX

namespace PmX
open PySem PySem.Spec PyProof.Rows
section
variable {prog : Program} {w : World} {A : Around} {E : Value → Shared → Prop} {s : Shared} {it T : Addr} {a b c last : Value}
theorem p_item1 {Q : Option Value → Shared → Prop} (hit : IsPm s.heap it T 1 last (nm 0)) (hT : s.heap.get? T = some (seqObj "tuple" #[a, b, c] 0))
    (hQ : ∀ h' p, IsPm h' it T 1 (.ref p) (nm 1) → s.heap.objs.size ≤ p → h'.get? p = some (seqObj "tuple" #[a, c, b] 0) → (∀ x o, x ≠ it → s.heap.get? x = some o → h'.get? x = some o) → Q (some (.ref p)) { s with heap := h' }) :
    wpAny (model prog w) A (callSpecial? (.ref it) "__next__") Q E s := by
  have ty : s.TypeIs (.ref it) pT := ⟨_, hit, rfl⟩
  refine wpAny_callSpecial?_slot (name := Str.ofString "__next__") ty p_next (wpAny_call_entry p_next ty p_enext ?_ (p_anext _))
  unfold Builtin.«itertools.permutations.__next__»
  iterate 25 (first | (refine wpAny_field hit rfl rfl ?_) | wp_step)
  refine wpAny_of_eq (a := [0, 1, 2, 3, 2, 1]) rfl ?_
  iterate 4 (first | (refine wpAny_field hit rfl rfl ?_) | wp_step)
  refine wpAny_of_eq (a := 1) rfl ?_
  show wpAny _ _ (Builtin.Itertools.itSetNumbersFrom (.ref it) 4 ([0, 2, 1] ++ [3, 1, 1]) >>= _) _ _ _
  iterate 8 (first | (refine wpAny_field hit rfl rfl ?_) | wp_step)
  have hit2 : IsPm (s.heap.update it (Obj.mapFields fun fs => fs.extract 0 4 ++ (List.map (fun (n : Nat) => rawInt n) ([0, 2, 1] ++ [3, 1, 1])).toArray)) it T 1 last (nm 1) := Heap.get?_update_self _ hit rfl
  iterate 6 (first | (refine wpAny_field hit2 rfl rfl ?_) | wp_step)
  show wpAny _ _ (newObj (.type "tuple") (Data.seq #[a, c, b])) _ _ _
  have hit3 := Heap.get?_push_of_some ({ cls := Value.type "tuple", data := Data.seq #[a, c, b] } : Obj) hit2
  refine wpAny_newObj_type ?_ (by size_fits)
  refine wpAny_bind (wpAny_field hit3 rfl (x := last) rfl (wpAny_bind (wpAny_setField hit3 rfl (by simp) ?_)))
  refine wpAny_bind (wpAny_letGo (wpAny_pure ?_))
  have lt := Heap.lt_size hit
  have z : (s.heap.update it (Obj.mapFields fun fs => fs.extract 0 4 ++ (List.map (fun (n : Nat) => rawInt n) ([0, 2, 1] ++ [3, 1, 1])).toArray)).objs.size = s.heap.objs.size := by simp
  refine ⟨_, rfl, hQ _ _ ?_ (Nat.le_of_eq z.symm) ?_ fun x o hx e => ?_⟩
  · exact Heap.get?_update_self _ hit3 rfl
  · refine ((Heap.SameBut.update ..).2 _ ?_).trans (Heap.get?_push_size _ rfl)
    rw [z]; exact Nat.ne_of_gt lt
  · exact ((Heap.SameBut.update ..).2 x hx).trans (Heap.get?_push_of_some _ (((Heap.SameBut.update ..).2 x hx).trans e))
theorem p_item2 {Q : Option Value → Shared → Prop} (hit : IsPm s.heap it T 1 last (nm 1)) (hT : s.heap.get? T = some (seqObj "tuple" #[a, b, c] 0))
    (hQ : ∀ h' p, IsPm h' it T 1 (.ref p) (nm 2) → s.heap.objs.size ≤ p → h'.get? p = some (seqObj "tuple" #[b, a, c] 0) → (∀ x o, x ≠ it → s.heap.get? x = some o → h'.get? x = some o) → Q (some (.ref p)) { s with heap := h' }) :
    wpAny (model prog w) A (callSpecial? (.ref it) "__next__") Q E s := by
  have ty : s.TypeIs (.ref it) pT := ⟨_, hit, rfl⟩
  refine wpAny_callSpecial?_slot (name := Str.ofString "__next__") ty p_next (wpAny_call_entry p_next ty p_enext ?_ (p_anext _))
  unfold Builtin.«itertools.permutations.__next__»
  iterate 25 (first | (refine wpAny_field hit rfl rfl ?_) | wp_step)
  refine wpAny_of_eq (a := [0, 2, 1, 3, 1, 1]) rfl ?_
  iterate 4 (first | (refine wpAny_field hit rfl rfl ?_) | wp_step)
  refine wpAny_of_eq (a := 1) rfl ?_
  show wpAny _ _ (Builtin.Itertools.itSetNumbersFrom (.ref it) 4 ([1, 0, 2] ++ [2, 2, 1]) >>= _) _ _ _
  iterate 8 (first | (refine wpAny_field hit rfl rfl ?_) | wp_step)
  have hit2 : IsPm (s.heap.update it (Obj.mapFields fun fs => fs.extract 0 4 ++ (List.map (fun (n : Nat) => rawInt n) ([1, 0, 2] ++ [2, 2, 1])).toArray)) it T 1 last (nm 2) := Heap.get?_update_self _ hit rfl
  iterate 6 (first | (refine wpAny_field hit2 rfl rfl ?_) | wp_step)
  show wpAny _ _ (newObj (.type "tuple") (Data.seq #[b, a, c])) _ _ _
  have hit3 := Heap.get?_push_of_some ({ cls := Value.type "tuple", data := Data.seq #[b, a, c] } : Obj) hit2
  refine wpAny_newObj_type ?_ (by size_fits)
  refine wpAny_bind (wpAny_field hit3 rfl (x := last) rfl (wpAny_bind (wpAny_setField hit3 rfl (by simp) ?_)))
  refine wpAny_bind (wpAny_letGo (wpAny_pure ?_))
  have lt := Heap.lt_size hit
  have z : (s.heap.update it (Obj.mapFields fun fs => fs.extract 0 4 ++ (List.map (fun (n : Nat) => rawInt n) ([1, 0, 2] ++ [2, 2, 1])).toArray)).objs.size = s.heap.objs.size := by simp
  refine ⟨_, rfl, hQ _ _ ?_ (Nat.le_of_eq z.symm) ?_ fun x o hx e => ?_⟩
  · exact Heap.get?_update_self _ hit3 rfl
  · refine ((Heap.SameBut.update ..).2 _ ?_).trans (Heap.get?_push_size _ rfl)
    rw [z]; exact Nat.ne_of_gt lt
  · exact ((Heap.SameBut.update ..).2 x hx).trans (Heap.get?_push_of_some _ (((Heap.SameBut.update ..).2 x hx).trans e))
theorem p_item3 {Q : Option Value → Shared → Prop} (hit : IsPm s.heap it T 1 last (nm 2)) (hT : s.heap.get? T = some (seqObj "tuple" #[a, b, c] 0))
    (hQ : ∀ h' p, IsPm h' it T 1 (.ref p) (nm 3) → s.heap.objs.size ≤ p → h'.get? p = some (seqObj "tuple" #[b, c, a] 0) → (∀ x o, x ≠ it → s.heap.get? x = some o → h'.get? x = some o) → Q (some (.ref p)) { s with heap := h' }) :
    wpAny (model prog w) A (callSpecial? (.ref it) "__next__") Q E s := by
  have ty : s.TypeIs (.ref it) pT := ⟨_, hit, rfl⟩
  refine wpAny_callSpecial?_slot (name := Str.ofString "__next__") ty p_next (wpAny_call_entry p_next ty p_enext ?_ (p_anext _))
  unfold Builtin.«itertools.permutations.__next__»
  iterate 25 (first | (refine wpAny_field hit rfl rfl ?_) | wp_step)
  refine wpAny_of_eq (a := [1, 0, 2, 2, 2, 1]) rfl ?_
  iterate 4 (first | (refine wpAny_field hit rfl rfl ?_) | wp_step)
  refine wpAny_of_eq (a := 1) rfl ?_
  show wpAny _ _ (Builtin.Itertools.itSetNumbersFrom (.ref it) 4 ([1, 2, 0] ++ [2, 1, 1]) >>= _) _ _ _
  iterate 8 (first | (refine wpAny_field hit rfl rfl ?_) | wp_step)
  have hit2 : IsPm (s.heap.update it (Obj.mapFields fun fs => fs.extract 0 4 ++ (List.map (fun (n : Nat) => rawInt n) ([1, 2, 0] ++ [2, 1, 1])).toArray)) it T 1 last (nm 3) := Heap.get?_update_self _ hit rfl
  iterate 6 (first | (refine wpAny_field hit2 rfl rfl ?_) | wp_step)
  show wpAny _ _ (newObj (.type "tuple") (Data.seq #[b, c, a])) _ _ _
  have hit3 := Heap.get?_push_of_some ({ cls := Value.type "tuple", data := Data.seq #[b, c, a] } : Obj) hit2
  refine wpAny_newObj_type ?_ (by size_fits)
  refine wpAny_bind (wpAny_field hit3 rfl (x := last) rfl (wpAny_bind (wpAny_setField hit3 rfl (by simp) ?_)))
  refine wpAny_bind (wpAny_letGo (wpAny_pure ?_))
  have lt := Heap.lt_size hit
  have z : (s.heap.update it (Obj.mapFields fun fs => fs.extract 0 4 ++ (List.map (fun (n : Nat) => rawInt n) ([1, 2, 0] ++ [2, 1, 1])).toArray)).objs.size = s.heap.objs.size := by simp
  refine ⟨_, rfl, hQ _ _ ?_ (Nat.le_of_eq z.symm) ?_ fun x o hx e => ?_⟩
  · exact Heap.get?_update_self _ hit3 rfl
  · refine ((Heap.SameBut.update ..).2 _ ?_).trans (Heap.get?_push_size _ rfl)
    rw [z]; exact Nat.ne_of_gt lt
  · exact ((Heap.SameBut.update ..).2 x hx).trans (Heap.get?_push_of_some _ (((Heap.SameBut.update ..).2 x hx).trans e))
theorem p_item4 {Q : Option Value → Shared → Prop} (hit : IsPm s.heap it T 1 last (nm 3)) (hT : s.heap.get? T = some (seqObj "tuple" #[a, b, c] 0))
    (hQ : ∀ h' p, IsPm h' it T 1 (.ref p) (nm 4) → s.heap.objs.size ≤ p → h'.get? p = some (seqObj "tuple" #[c, a, b] 0) → (∀ x o, x ≠ it → s.heap.get? x = some o → h'.get? x = some o) → Q (some (.ref p)) { s with heap := h' }) :
    wpAny (model prog w) A (callSpecial? (.ref it) "__next__") Q E s := by
  have ty : s.TypeIs (.ref it) pT := ⟨_, hit, rfl⟩
  refine wpAny_callSpecial?_slot (name := Str.ofString "__next__") ty p_next (wpAny_call_entry p_next ty p_enext ?_ (p_anext _))
  unfold Builtin.«itertools.permutations.__next__»
  iterate 25 (first | (refine wpAny_field hit rfl rfl ?_) | wp_step)
  refine wpAny_of_eq (a := [1, 2, 0, 2, 1, 1]) rfl ?_
  iterate 4 (first | (refine wpAny_field hit rfl rfl ?_) | wp_step)
  refine wpAny_of_eq (a := 1) rfl ?_
  show wpAny _ _ (Builtin.Itertools.itSetNumbersFrom (.ref it) 4 ([2, 0, 1] ++ [1, 2, 1]) >>= _) _ _ _
  iterate 8 (first | (refine wpAny_field hit rfl rfl ?_) | wp_step)
  have hit2 : IsPm (s.heap.update it (Obj.mapFields fun fs => fs.extract 0 4 ++ (List.map (fun (n : Nat) => rawInt n) ([2, 0, 1] ++ [1, 2, 1])).toArray)) it T 1 last (nm 4) := Heap.get?_update_self _ hit rfl
  iterate 6 (first | (refine wpAny_field hit2 rfl rfl ?_) | wp_step)
  show wpAny _ _ (newObj (.type "tuple") (Data.seq #[c, a, b])) _ _ _
  have hit3 := Heap.get?_push_of_some ({ cls := Value.type "tuple", data := Data.seq #[c, a, b] } : Obj) hit2
  refine wpAny_newObj_type ?_ (by size_fits)
  refine wpAny_bind (wpAny_field hit3 rfl (x := last) rfl (wpAny_bind (wpAny_setField hit3 rfl (by simp) ?_)))
  refine wpAny_bind (wpAny_letGo (wpAny_pure ?_))
  have lt := Heap.lt_size hit
  have z : (s.heap.update it (Obj.mapFields fun fs => fs.extract 0 4 ++ (List.map (fun (n : Nat) => rawInt n) ([2, 0, 1] ++ [1, 2, 1])).toArray)).objs.size = s.heap.objs.size := by simp
  refine ⟨_, rfl, hQ _ _ ?_ (Nat.le_of_eq z.symm) ?_ fun x o hx e => ?_⟩
  · exact Heap.get?_update_self _ hit3 rfl
  · refine ((Heap.SameBut.update ..).2 _ ?_).trans (Heap.get?_push_size _ rfl)
    rw [z]; exact Nat.ne_of_gt lt
  · exact ((Heap.SameBut.update ..).2 x hx).trans (Heap.get?_push_of_some _ (((Heap.SameBut.update ..).2 x hx).trans e))
theorem p_item5 {Q : Option Value → Shared → Prop} (hit : IsPm s.heap it T 1 last (nm 4)) (hT : s.heap.get? T = some (seqObj "tuple" #[a, b, c] 0))
    (hQ : ∀ h' p, IsPm h' it T 1 (.ref p) (nm 5) → s.heap.objs.size ≤ p → h'.get? p = some (seqObj "tuple" #[c, b, a] 0) → (∀ x o, x ≠ it → s.heap.get? x = some o → h'.get? x = some o) → Q (some (.ref p)) { s with heap := h' }) :
    wpAny (model prog w) A (callSpecial? (.ref it) "__next__") Q E s := by
  have ty : s.TypeIs (.ref it) pT := ⟨_, hit, rfl⟩
  refine wpAny_callSpecial?_slot (name := Str.ofString "__next__") ty p_next (wpAny_call_entry p_next ty p_enext ?_ (p_anext _))
  unfold Builtin.«itertools.permutations.__next__»
  iterate 25 (first | (refine wpAny_field hit rfl rfl ?_) | wp_step)
  refine wpAny_of_eq (a := [2, 0, 1, 1, 2, 1]) rfl ?_
  iterate 4 (first | (refine wpAny_field hit rfl rfl ?_) | wp_step)
  refine wpAny_of_eq (a := 1) rfl ?_
  show wpAny _ _ (Builtin.Itertools.itSetNumbersFrom (.ref it) 4 ([2, 1, 0] ++ [1, 1, 1]) >>= _) _ _ _
  iterate 8 (first | (refine wpAny_field hit rfl rfl ?_) | wp_step)
  have hit2 : IsPm (s.heap.update it (Obj.mapFields fun fs => fs.extract 0 4 ++ (List.map (fun (n : Nat) => rawInt n) ([2, 1, 0] ++ [1, 1, 1])).toArray)) it T 1 last (nm 5) := Heap.get?_update_self _ hit rfl
  iterate 6 (first | (refine wpAny_field hit2 rfl rfl ?_) | wp_step)
  show wpAny _ _ (newObj (.type "tuple") (Data.seq #[c, b, a])) _ _ _
  have hit3 := Heap.get?_push_of_some ({ cls := Value.type "tuple", data := Data.seq #[c, b, a] } : Obj) hit2
  refine wpAny_newObj_type ?_ (by size_fits)
  refine wpAny_bind (wpAny_field hit3 rfl (x := last) rfl (wpAny_bind (wpAny_setField hit3 rfl (by simp) ?_)))
  refine wpAny_bind (wpAny_letGo (wpAny_pure ?_))
  have lt := Heap.lt_size hit
  have z : (s.heap.update it (Obj.mapFields fun fs => fs.extract 0 4 ++ (List.map (fun (n : Nat) => rawInt n) ([2, 1, 0] ++ [1, 1, 1])).toArray)).objs.size = s.heap.objs.size := by simp
  refine ⟨_, rfl, hQ _ _ ?_ (Nat.le_of_eq z.symm) ?_ fun x o hx e => ?_⟩
  · exact Heap.get?_update_self _ hit3 rfl
  · refine ((Heap.SameBut.update ..).2 _ ?_).trans (Heap.get?_push_size _ rfl)
    rw [z]; exact Nat.ne_of_gt lt
  · exact ((Heap.SameBut.update ..).2 x hx).trans (Heap.get?_push_of_some _ (((Heap.SameBut.update ..).2 x hx).trans e))
end
end PmX

namespace PmX
open PySem PySem.Spec PyProof.Rows
section
variable {prog : Program} {w : World} {A : Around} {E : Value → Shared → Prop} {s : Shared}
/-- what stands behind an exception that ends a walk -/
def StopX (e : Value) (h : Heap) : Prop := ∃ a o vs, e = .ref a ∧ h.get? a = some o ∧ o.cls = .type "StopIteration" ∧ o.data = .fields vs ∧ vs[5]? = some Value.none
theorem p_end {it T : Addr} {a b c last : Value} {Q : Option Value → Shared → Prop} (hh : A.handled = none) (hit : IsPm s.heap it T 1 last (nm 5)) (hT : s.heap.get? T = some (seqObj "tuple" #[a, b, c] 0))
    (hQ : ∀ e h', StopX e h' → Heap.ExtBut it s.heap h' → E e { s with heap := h' }) :
    wpAny (model prog w) A (callSpecial? (.ref it) "__next__") Q E s := by
  have ty : s.TypeIs (.ref it) pT := ⟨_, hit, rfl⟩
  refine wpAny_callSpecial?_slot (name := Str.ofString "__next__") ty p_next (wpAny_call_entry p_next ty p_enext ?_ (p_anext _))
  unfold Builtin.«itertools.permutations.__next__»
  iterate 25 (first | (refine wpAny_field hit rfl rfl ?_) | wp_step)
  refine wpAny_of_eq (a := nm 5) rfl ?_
  iterate 4 (first | (refine wpAny_field hit rfl rfl ?_) | wp_step)
  refine wpAny_of_eq (a := 1) rfl ?_
  show wpAny _ _ (setField (.ref it) 1 (rawInt 2) >>= _) _ _ _
  refine wpAny_bind (wpAny_setField hit rfl (by simp) ?_)
  refine wpAny_bind ?_
  show wpAny _ _ (newExc (.type "StopIteration") [] >>= _) _ _ _
  simp only [newExc, newTuple]
  refine wpAny_bind (wpAny_bind (wpAny_newObj_type ?_ (by size_fits)))
  refine wpAny_bind (wpAny_of_eq (t := firstArgMember _ _) (a := Value.none) ?_ ?_)
  · first | rfl | (simp only [firstArgMember]; rfl)
  refine wpAny_newObj_type (wpAny_pure ?_) (by size_fits)
  simp only [raiseNew]
  refine wpAny_bind (wpAny_handled ?_)
  first | rw [show A.in1.handled = none from hh] | rw [hh]
  refine wpAny_bind (wpAny_pure (wpAny_throw (hQ _ _ ⟨_, _, _, rfl, Heap.get?_push_size _ rfl, rfl, rfl, rfl⟩ fun x o hx e => ?_)))
  exact Heap.get?_push_of_some _ (Heap.get?_push_of_some _ (((Heap.SameBut.update ..).2 x hx).trans e))
theorem p_stop {it T : Addr} {a b c last : Value} {Q : Option Value → Shared → Prop} (hh : A.handled = none) (hit : IsPm s.heap it T 1 last (nm 5)) (hT : s.heap.get? T = some (seqObj "tuple" #[a, b, c] 0))
    (hQ : ∀ h', Heap.ExtBut it s.heap h' → Q none { s with heap := h' }) : wpAny (model prog w) A (pyNext (.ref it)) Q E s := by
  unfold pyNext
  refine wpAny_bind (wpAny_attempt (p_end hh hit hT fun e h' ⟨x, o, vs, ee, ho, hc, _⟩ k => ?_))
  subst ee
  refine wpAny_bind (wpAny_isInstance (T := "StopIteration") (b := true) ⟨o, ho, hc⟩ isSubtype_stop ?_)
  exact wpAny_pure (hQ _ k)
theorem p_give {it : Addr} {Q : Option Value → Shared → Prop} (h : wpAny (model prog w) A (callSpecial? (.ref it) "__next__") (fun r s' => ∃ v, r = some v ∧ Q (some v) s') (fun _ _ => False) s) :
    wpAny (model prog w) A (pyNext (.ref it)) Q E s := by
  unfold pyNext
  refine wpAny_bind (wpAny_attempt (wpAny_mono h (fun r s' h' => ?_) fun e s' h' => h'.elim))
  obtain ⟨v, rfl, q⟩ := h'
  exact wpAny_pure q
end
/-! ### as a walk -/
open L2
/-- the places of the three things at a turn -/
def px (k : Nat) : List Nat := (nm k).take 3
def arr (xs : List V) (k : Nat) : List V := (px k).map fun i => xs.getD i .non
/-- six turns, each with a new tuple -/
def Itm (xs : List V) : It :=
  ⟨fun i _ => i < 6, fun i H v H' => ∃ p, v = .ref p ∧ H p = none ∧ H' = upd H p (.tup (arr xs i)), fun i _ => 6 ≤ i⟩
theorem lt6 {k : Nat} (h : k < 6) : k = 0 ∨ k = 1 ∨ k = 2 ∨ k = 3 ∨ k = 4 ∨ k = 5 := by omega
theorem p_nextAny {prog : Program} {w : World} {A : Around} {E : Value → Shared → Prop} {s : Shared} {it T : Addr} {u0 u1 u2 last : Value} {k : Nat} {Q : Option Value → Shared → Prop} (hk : k < 6)
    (hit : if k = 0 then IsPm s.heap it T 0 .none (nm 0) else IsPm s.heap it T 1 last (nm (k - 1))) (hT : s.heap.get? T = some (seqObj "tuple" #[u0, u1, u2] 0)) (ne : it ≠ T)
    (hQ : ∀ h' p, IsPm h' it T 1 (.ref p) (nm k) → s.heap.objs.size ≤ p → h'.get? p = some (seqObj "tuple" ((px k).map fun i => [u0, u1, u2].getD i .none).toArray 0) → (∀ x o, x ≠ it → s.heap.get? x = some o → h'.get? x = some o) → Q (some (.ref p)) { s with heap := h' }) :
    wpAny (model prog w) A (pyNext (.ref it)) Q E s := by
  refine p_give ?_
  rcases lt6 hk with rfl | rfl | rfl | rfl | rfl | rfl
  · exact p_item0 hit hT ne fun h' p a b c d => ⟨_, rfl, hQ h' p a b c d⟩
  · exact p_item1 hit hT fun h' p a b c d => ⟨_, rfl, hQ h' p a b c d⟩
  · exact p_item2 hit hT fun h' p a b c d => ⟨_, rfl, hQ h' p a b c d⟩
  · exact p_item3 hit hT fun h' p a b c d => ⟨_, rfl, hQ h' p a b c d⟩
  · exact p_item4 hit hT fun h' p a b c d => ⟨_, rfl, hQ h' p a b c d⟩
  · exact p_item5 hit hT fun h' p a b c d => ⟨_, rfl, hQ h' p a b c d⟩
/-- how the walk stands ahead of a turn -/
def Stm (it T : Addr) (u : List Value) (k : Nat) (h : Heap) : Prop :=
  (∃ last, if k = 0 then IsPm h it T 0 .none (nm 0) else IsPm h it T 1 last (nm (k - 1))) ∧ h.get? T = some (seqObj "tuple" u.toArray 0) ∧ it ≠ T
theorem Stm.at {it T : Addr} {u : List Value} {k : Nat} {h : Heap} (x : Stm it T u k h) : ∃ o vs, h.get? it = some o ∧ o.cls = .type pT ∧ o.data = .fields vs := by
  obtain ⟨⟨last, x⟩, _⟩ := x
  by_cases c : k = 0
  · rw [if_pos c] at x; exact ⟨_, _, x, rfl, rfl⟩
  · rw [if_neg c] at x; exact ⟨_, _, x, rfl, rfl⟩
theorem turn_perm {P : Program} {w : World} {K : PySem.W.Frag} {tg : Expr} {it T : Addr} {x0 x1 x2 : V} {u0 u1 u2 : Value} (r0 : RelV x0 u0) (r1 : RelV x1 u1) (r2 : RelV x2 u2) :
    Turn P w K tg (Itm [x0, x1, x2]) [it, T] it (Stm it T [u0, u1, u2]) where
  mem := by simp
  obj := fun i h st b hb => by
    have e : b = it ∨ b = T := by simpa using hb
    rcases e with e | e
    · obtain ⟨o, vs, h1, _, h2⟩ := st.at
      exact ⟨o, by rw [e]; exact h1, fun v z => by rw [h2] at z; cases z⟩
    · exact ⟨_, by rw [e]; exact st.2.1, fun v z => by cases z⟩
  keep := fun i h h' st k => by
    obtain ⟨⟨last, x⟩, y, z⟩ := st
    refine ⟨⟨last, ?_⟩, k T (by simp) _ y, z⟩
    by_cases c : i = 0
    · rw [if_pos c] at x ⊢; exact k it (by simp) _ x
    · rw [if_neg c] at x ⊢; exact k it (by simp) _ x
  item := by
    intro X hP hw hK hc i pins s σ H E I hf st hg
    subst hP hw hK
    have hi : i < 6 := hg
    obtain ⟨⟨last, x⟩, y, z⟩ := st
    have lt := Heap.lt_size (show s.heap.get? T = _ from y)
    have lt2 : it < s.heap.objs.size := by
      obtain ⟨o, _, h1, _⟩ := (show Stm it T [u0, u1, u2] i s.heap from ⟨⟨last, x⟩, y, z⟩).at
      exact Heap.lt_size h1
    refine p_nextAny hi x y z fun h' p a b c d => ⟨_, rfl, ?_⟩
    have pit : it ≠ p := fun e => Nat.lt_irrefl _ (Nat.lt_of_lt_of_le (e ▸ lt2) b)
    have pT' : T ≠ p := fun e => Nat.lt_irrefl _ (Nat.lt_of_lt_of_le (e ▸ lt) b)
    have new : ObjOk X.prog X.w (upd H p (.tup (arr [x0, x1, x2] i))) h' p (.tup (arr [x0, x1, x2] i)) := by
      refine ⟨?_, (px i).map fun i => [u0, u1, u2].getD i .none, ?_, ⟨_, c, rfl, _, rfl⟩⟩
      · rcases lt6 hi with rfl | rfl | rfl | rfl | rfl | rfl <;> (show 3 ≤ sizeLine; rw [sizeLine_eq]; decide)
      · rcases lt6 hi with rfl | rfl | rfl | rfl | rfl | rfl
        · exact .cons r0 (.cons r1 (.cons r2 .nil))
        · exact .cons r0 (.cons r2 (.cons r1 .nil))
        · exact .cons r1 (.cons r0 (.cons r2 .nil))
        · exact .cons r1 (.cons r2 (.cons r0 .nil))
        · exact .cons r2 (.cons r0 (.cons r1 .nil))
        · exact .cons r2 (.cons r1 (.cons r0 .nil))
    have I1 := I.turnedNew (h' := h') (t' := s.toks) (ch := [it, T]) (fun b' o hb e => d b' o (fun q => hb (by simp [q])) e) hf b new
    have go := go_of (M := model X.prog X.w) (A := X.A) (E := E) (s := { s with heap := h' }) (tg := tg) (u := .ref p) (Q := fun _ s2 => ∃ x H', Inv X pins σ H' s2 ∧ RelV x (.ref p) ∧ (Itm [x0, x1, x2]).yld i H x H' ∧ Stm it T [u0, u1, u2] (i + 1) s2.heap ∧ ∀ b ∈ [it, T], H' b = none) a rfl rfl (by decide)
    refine go ⟨.ref p, _, I1, rfl, ⟨p, rfl, I.hok.fresh b, rfl⟩, ⟨⟨.ref p, ?_⟩, d T _ z.symm y, z⟩, fun b' hb => ?_⟩
    · rw [if_neg (by omega)]; exact a
    · have e : b' = it ∨ b' = T := by simpa using hb
      rcases e with e | e
      · rw [e, upd_ne pit]; exact (hf it (by simp)).1
      · rw [e, upd_ne pT']; exact (hf T (by simp)).1
  done := by
    intro X hP hw hK hc i pins s σ H E I hf st hg
    subst hP hw hK
    obtain ⟨⟨last, x⟩, y, z⟩ := st
    have hi : 6 ≤ i := hg
    rw [if_neg (by omega)] at x
    have e5 : nm (i - 1) = nm 5 := by
      obtain ⟨j, rfl⟩ : ∃ j, i = j + 6 := ⟨i - 6, by omega⟩
      rfl
    rw [e5] at x
    refine p_stop (I.ok.hd hc) x y fun h' k => ⟨rfl, I.turnedL (t' := s.toks) (ch := [it, T]) (fun b o hb e => k b o (fun q => hb (by simp [q])) e) hf⟩
  self := fun A i s Q E st h => by
    obtain ⟨⟨last, x⟩, y, z⟩ := st
    by_cases c : i = 0
    · rw [if_pos c] at x; exact p_self x h
    · rw [if_neg c] at x; exact p_self x h
end PmX

namespace PmX
open PySem PySem.Spec PyProof.Rows L2
def iPerm (K : PySem.W.Frag) (ta : TA) : TI := fun σ H R => ta σ H fun vs H1 => ∃ a x0 x1 x2, vs = [.ref a] ∧ SqL K H1 a [x0, x1, x2] ∧ R (Itm [x0, x1, x2]) H1
theorem pi_perm {X : Cx} {tg e : Expr} {ta : TA} {p pos : Pos} (hg : Gl X "permutations") (hm : X.mg "permutations" = some (.type pT)) (ha : PA X [e] ta) (hs : starEach [e] X.env = [(false, eval e X.env)] := by rfl) :
    PI X tg (.Call (.Name "permutations" p) [e] [] pos) (iPerm X.K ta) := by
  refine ⟨fun pins s σ H R I h => ?_⟩
  refine Call_ (ld_glob I hg hm (PyProof.Rows.callWith_type1 (thn (ha.run pos pins s σ H _ I h) fun us s1 ⟨vs, H1, I1, r1, q1⟩ => ?_) hs rfl) (by decide))
  obtain ⟨a, x0, x1, x2, ex, hq, q⟩ := q1
  subst ex
  cases r1 with
  | cons r rr =>
    cases rr
    cases r
    obtain ⟨its, rv, p1, _⟩ := I1.list hq
    obtain ⟨u0, hu0, r0⟩ := rv.get (show [x0, x1, x2][0]? = some x0 from rfl)
    obtain ⟨u1, hu1, r1⟩ := rv.get (show [x0, x1, x2][1]? = some x1 from rfl)
    obtain ⟨u2, hu2, r2⟩ := rv.get (show [x0, x1, x2][2]? = some x2 from rfl)
    have lr := rv.length
    have ei : its = [u0, u1, u2] := by
      match its, lr, hu0, hu1, hu2 with
      | [a, b, c], _, h0, h1, h2 => cases h0; cases h1; cases h2; rfl
    subst ei
    refine p_call p1.isList fun h' it T h1 h2 h3 h4 h5 h6 => ?_
    have I2 : Inv X pins σ H1 { s1 with heap := h' } := I1.kept (t' := s1.toks) h6
    refine p_self h1 ⟨it, [it, T], _, _, H1, rfl, I2, turn_perm r0 r1 r2, ⟨⟨.none, h1⟩, h2, h5⟩, fun b hb => ?_, q⟩
    have e' : b = it ∨ b = T := by simpa using hb
    have hle : s1.heap.objs.size ≤ b := by
      rcases e' with z | z
      · rw [z]; exact h3
      · rw [z]; exact h4
    exact I1.fpOk hle (I1.hok.fresh hle)
/-- the turns, for the loop -/
theorem for_perm {xs : List V} {g : TG} {tb : TS} {D : Ends} {σ : L2.St} {H : Hp} (Pv : Nat → L2.St → Hp → Prop) (h0 : Pv 0 σ H)
    (hs : ∀ i σ H p, i < 6 → Pv i σ H → H p = none → g (.ref p) σ (upd H p (.tup (arr xs i))) fun σ2 H2 => tb { D with nx := Pv (i + 1), ct := Pv (i + 1), bk := D.nx } σ2 H2) (hd : ∀ σ H, Pv 6 σ H → D.nx σ H) :
    ∃ W : Nat → Nat → L2.St → Hp → Prop, (∃ m, W 0 m σ H) ∧ ∀ i m σ H, W i m σ H →
      ((Itm xs).stop i H ∧ D.nx σ H) ∨ ((Itm xs).go i H ∧ ∃ N : L2.St → Hp → Prop, (∀ σ' H', N σ' H' → ∃ m', m' < m ∧ W (i + 1) m' σ' H') ∧ ∀ x H', (Itm xs).yld i H x H' → g x σ H' fun σ2 H2 => tb { D with nx := N, ct := N, bk := D.nx } σ2 H2) := by
  refine ⟨fun i m σ H => m = 6 - i ∧ i ≤ 6 ∧ Pv i σ H, ⟨6, rfl, by decide, h0⟩, fun i m σ H ⟨em, hi, p⟩ => ?_⟩
  by_cases c : i < 6
  · refine .inr ⟨c, Pv (i + 1), fun σ' H' p' => ⟨6 - (i + 1), by omega, rfl, c, p'⟩, fun x H' ⟨q, ex, hn, eH⟩ => ?_⟩
    subst ex eH
    exact hs i σ H q c p hn
  · have e : i = 6 := by omega
    subst e
    exact .inl ⟨Nat.le_refl _, hd σ H p⟩
end PmX

namespace LcX
open PySem PySem.Spec PyProof.Rows L2
/-- the tests of a clause -/
def tstS (ifs : List Expr) (env : Env) : Sem Bool := forIn ifs true fun c r => if r = true then (isTrue c env (eval c env) >>= fun q => pure (ForInStep.yield q)) else pure (ForInStep.yield r)
/-- one turn of a clause -/
def oneS (i t : Expr) (ifs : List Expr) (it : Value) (env : Env) (body : Sem Unit) (back : Sem PySem.Fin) : Sem PySem.Fin :=
  standAt i.pos >>= fun _ => pyNext it >>= fun r => match r with
    | none => pure (.done .next)
    | some v => letOwnedTupleGo t it v >>= fun _ => assign t env v >>= fun _ => tstS ifs env >>= fun ok => if ok = true then body >>= fun _ => back else back
/-- the next clause is begun -/
def begS (e : Expr) (d : Nat) (i : Expr) (acc : Value) (env : Env) : Sem Unit :=
  eval i env >>= fun x => standAt i.pos >>= fun _ => foldedSetIterable i env x >>= fun x => holding [x] (pyIter x) >>= fun z => runOwn (.compStart e d z acc env) env >>= fun _ => pure ()
/-- the item is appended -/
def appS (elt : Expr) (acc : Value) (env : Env) : Sem Unit := eval elt env >>= fun x => call (.builtin "list.append") [acc, x] >>= fun _ => pure ()
section
variable (elt t0 i0 t1 i1 t2 i2 : Expr) (f0 f1 f2 : List Expr) (scope : Scope) (pos : Pos)
abbrev three : Expr := .ListComp elt [⟨t0, i0, f0, 0⟩, ⟨t1, i1, f1, 0⟩, ⟨t2, i2, f2, 0⟩] scope pos
theorem turn_0 (it acc : Value) (env : Env) : compTurn (three elt t0 i0 t1 i1 t2 i2 f0 f1 f2 scope pos) 0 it acc env =
    oneS i0 t0 f0 it env (begS (three elt t0 i0 t1 i1 t2 i2 f0 f1 f2 scope pos) 1 i1 acc env) (again (.compLoop (three elt t0 i0 t1 i1 t2 i2 f0 f1 f2 scope pos) 0 it acc env)) := by
  simp only [oneS, begS, tstS, compTurn, bind_assoc]; rfl
theorem turn_1 (it acc : Value) (env : Env) : compTurn (three elt t0 i0 t1 i1 t2 i2 f0 f1 f2 scope pos) 1 it acc env =
    oneS i1 t1 f1 it env (begS (three elt t0 i0 t1 i1 t2 i2 f0 f1 f2 scope pos) 2 i2 acc env) (again (.compLoop (three elt t0 i0 t1 i1 t2 i2 f0 f1 f2 scope pos) 1 it acc env)) := by
  simp only [oneS, begS, tstS, compTurn, bind_assoc]; rfl
theorem turn_2 (it acc : Value) (env : Env) : compTurn (three elt t0 i0 t1 i1 t2 i2 f0 f1 f2 scope pos) 2 it acc env =
    oneS i2 t2 f2 it env (appS elt acc env) (again (.compLoop (three elt t0 i0 t1 i1 t2 i2 f0 f1 f2 scope pos) 2 it acc env)) := by
  simp only [oneS, appS, tstS, compTurn, bind_assoc]; rfl
end
section
variable {prog : Program} {w : World} {A : Around} {R : Result → Shared → Prop} {s : Shared} {elt t i : Expr} {ifs : List Expr} {gens : List Comprehension} {scope : Scope} {pos : Pos} {it acc : Value} {env : Env} {d : Nat} {body : Sem Unit}
abbrev noR (prog : Program) (w : World) (A : Around) (env : Env) (R : Result → Shared → Prop) : Value → Shared → Prop := notedBy (model prog w) A env fun x s' => R (.error x) s'
/-- a clause's loop -/
theorem loopS (ht : compTurn (.ListComp elt gens scope pos) d it acc env = oneS i t ifs it env body (again (.compLoop (.ListComp elt gens scope pos) d it acc env))) (I : Nat → Shared → Prop)
    (turn : ∀ n s, I n s → wpAny (model prog w) A (pyNext it) (fun r s1 => match r with
      | none => R (.ok .next) s1
      | some v => wpAny (model prog w) A (letOwnedTupleGo t it v) (fun _ s2 => wpAny (model prog w) A (assign t env v) (fun _ s3 => wpAny (model prog w) A (tstS ifs env) (fun ok s4 =>
          if ok = true then wpAny (model prog w) A body (fun _ s5 => ∃ m, m < n ∧ I m s5) (noR prog w A env R) s4 else ∃ m, m < n ∧ I m s4) (noR prog w A env R) s3) (noR prog w A env R) s2) (noR prog w A env R) s1) (noR prog w A env R) s)
    (n : Nat) (h : I n s) : codeAny (model prog w) A (.compLoop (.ListComp elt gens scope pos) d it acc env) R s := by
  refine codeAny_loop rfl I (fun n s hI => ?_) n h
  show wpAny _ A ((compTurn (.ListComp elt gens scope pos) d it acc env).onRaise (fun x => do noteFrame x env; theTreesLotGoes x)) _ _ s
  refine wpAny_noted ?_
  rw [ht]
  unfold oneS
  refine wpAny_bind (wpAny_standAt (wpAny_bind (wpAny_mono (turn n s hI) (fun r s1 h1 => ?_) fun _ _ z => z)))
  cases r with
  | none => exact wpAny_pure h1
  | some v =>
    refine wpAny_bind (wpAny_mono h1 (fun _ s2 h2 => ?_) fun _ _ z => z)
    refine wpAny_bind (wpAny_mono h2 (fun _ s3 h3 => ?_) fun _ _ z => z)
    refine wpAny_bind (wpAny_mono h3 (fun ok s4 h4 => ?_) fun _ _ z => z)
    cases ok with
    | false => exact wpAny_pure ⟨rfl, h4⟩
    | true => exact wpAny_bind (wpAny_mono h4 (fun _ s5 h5 => wpAny_pure ⟨rfl, h5⟩) fun _ _ z => z)
/-- a next clause's beginning -/
theorem begW {E : Value → Shared → Prop} {P : Shared → Prop} (hs : ∀ x, foldedSetIterable i env x = pure x)
    (h : wpAny (model prog w) A (eval i env) (fun x s4 => wpAny (model prog w) A (pyIter x) (fun z s5 => codeAny (model prog w) A (.compStart (.ListComp elt gens scope pos) d z acc env) (fun r s' => match r with
      | .ok _ => P s'
      | .error _ => False) s5) E s4) E s) : wpAny (model prog w) A (begS (.ListComp elt gens scope pos) d i acc env) (fun _ s' => P s') E s := by
  unfold begS
  refine wpAny_bind (wpAny_mono h (fun x s4 h4 => ?_) fun _ _ z => z)
  refine wpAny_bind (wpAny_standAt (wpAny_bind (wpAny_of_eq (hs x) (wpAny_bind (wpAny_holding (wpAny_mono h4 (fun z s5 h5 => ?_) fun _ _ z => z))))))
  refine wpAny_bind (wpAny_runOwn ?_)
  rw [Around.mark_none]
  refine codeAny_mono h5 fun r s' hr => ?_
  cases r with
  | ok f => exact wpAny_pure hr
  | error x => exact hr.elim
end
section
variable {prog : Program} {w : World} {A : Around} {R : Result → Shared → Prop} {s : Shared} {elt t0 i0 t1 i1 t2 i2 : Expr} {f0 f1 f2 : List Expr} {scope : Scope} {pos : Pos} {it acc : Value} {env : Env}
theorem start_1 (h0 : codeAny (model prog w) A (.compLoop (three elt t0 i0 t1 i1 t2 i2 f0 f1 f2 scope pos) 1 it acc env) R s)
    (h : wpAny (model prog w) A (pyIter it) (fun z s' => codeAny (model prog w) A (.compLoop (three elt t0 i0 t1 i1 t2 i2 f0 f1 f2 scope pos) 1 z acc env) R s') (noR prog w A env R) s) :
    codeAny (model prog w) A (.compStart (three elt t0 i0 t1 i1 t2 i2 f0 f1 f2 scope pos) 1 it acc env) R s := by
  refine codeAny_of_tree ?_
  show wpAny _ _ ((compStart (three elt t0 i0 t1 i1 t2 i2 f0 f1 f2 scope pos) 1 it acc env).onRaise _) _ _ s
  refine wpAny_notedAt ?_
  unfold compStart
  show wpAny _ _ (ask >>= _) _ _ s
  refine wpAny_bind (wpAny_askSetting (wpAny_ite ?_))
  split
  · exact wpAny_pure ⟨rfl, h0⟩
  · refine wpAny_bind (wpAny_rule ?_)
    show wpAny _ _ (standAt i1.pos >>= _) _ _ s
    exact wpAny_bind (wpAny_standAt (wpAny_bind (wpAny_mono h (fun z s' h' => wpAny_pure ⟨rfl, h'⟩) fun _ _ x => x)))
theorem start_2 (h0 : codeAny (model prog w) A (.compLoop (three elt t0 i0 t1 i1 t2 i2 f0 f1 f2 scope pos) 2 it acc env) R s)
    (h : wpAny (model prog w) A (pyIter it) (fun z s' => codeAny (model prog w) A (.compLoop (three elt t0 i0 t1 i1 t2 i2 f0 f1 f2 scope pos) 2 z acc env) R s') (noR prog w A env R) s) :
    codeAny (model prog w) A (.compStart (three elt t0 i0 t1 i1 t2 i2 f0 f1 f2 scope pos) 2 it acc env) R s := by
  refine codeAny_of_tree ?_
  show wpAny _ _ ((compStart (three elt t0 i0 t1 i1 t2 i2 f0 f1 f2 scope pos) 2 it acc env).onRaise _) _ _ s
  refine wpAny_notedAt ?_
  unfold compStart
  show wpAny _ _ (ask >>= _) _ _ s
  refine wpAny_bind (wpAny_askSetting (wpAny_ite ?_))
  split
  · exact wpAny_pure ⟨rfl, h0⟩
  · refine wpAny_bind (wpAny_rule ?_)
    show wpAny _ _ (standAt i2.pos >>= _) _ _ s
    exact wpAny_bind (wpAny_standAt (wpAny_bind (wpAny_mono h (fun z s' h' => wpAny_pure ⟨rfl, h'⟩) fun _ _ x => x)))
end
end LcX

namespace LcX
open PySem PySem.Spec PyProof.Rows L2
abbrev Rd := L2.St → Hp → (Hp → Prop) → Prop
/-- an inner clause, vs the names that are forgotten at its turns -/
def tIn (wi : L2.TI) (g : TG) (tt : TT) (vs : List Nat) (k : Rd) : Rd := fun σ H Nx => wi σ H fun J H4 => ∃ W : Nat → Nat → Hp → Prop, (∃ m, W 0 m H4) ∧ ∀ j m H, W j m H →
  (J.stop j H ∧ Nx H) ∨ (J.go j H ∧ ∃ N : Hp → Prop, (∀ H', N H' → ∃ m', m' < m ∧ W (j + 1) m' H') ∧ ∀ x H', J.yld j H x H' → g x (wipe σ vs) H' fun σ3 H5 => wipe σ3 vs = wipe σ vs ∧ tt σ3 H5 fun b H6 => if b = true then k σ3 H6 N else N H6)
/-- the item goes to the list at D -/
def tEm (te : TE) (D : Addr) : Rd := fun σ H Nx => te σ H fun y H7 => ∃ acc, H7 D = some (.lst acc) ∧ acc.length < sizeLine ∧ Nx (upd H7 D (.lst (acc ++ [y])))
def tLc3 (wi : L2.TI) (g : TG) (tt : TT) (k : Addr → Rd) (vs : List Nat) : TE := fun σ H Q => wi σ H fun J H1 => ∀ D, H1 D = none → ∃ W : Nat → Nat → Hp → Prop, (∃ m, W 0 m (upd H1 D (.lst []))) ∧ ∀ i m H, W i m H →
  (J.stop i H ∧ Q (.ref D) H) ∨ (J.go i H ∧ ∃ N : Hp → Prop, (∀ H', N H' → ∃ m', m' < m ∧ W (i + 1) m' H') ∧ ∀ x H', J.yld i H x H' → g x (wipe σ vs) H' fun σ2 H2 => wipe σ2 vs = wipe σ vs ∧ tt σ2 H2 fun b H3 => if b = true then k D σ2 H3 N else N H3)
/-- a body keeps its reading -/
def BodyOk (Y : Cx) (A : Around) (body : Sem Unit) (k : Rd) (vs : List Nat) : Prop := ∀ (pins : List (Addr × Obj)) (s : Shared) (σ : L2.St) (H : Hp) (Nx : Hp → Prop), Inv Y pins σ H s → k σ H Nx →
  wpAny (model Y.prog Y.w) A body (fun _ s' => ∃ H', Inv Y pins (wipe σ vs) H' s' ∧ Nx H') (fun _ _ => False) s
theorem wipe_sub {σ : L2.St} {a b : List Nat} (h : ∀ i ∈ a, i ∈ b) : (wipe σ b).length = (wipe σ a).length ∧ ∀ (j : Nat) v, (wipe σ b)[j]? = some (some v) → (wipe σ a)[j]? = some (some v) := by
  refine ⟨by rw [wipe_length, wipe_length], fun j v e => ?_⟩
  obtain ⟨e1, e2⟩ := wipe_some e
  rw [wipe_out fun z => e2 (h j z)]
  exact e1
theorem body_app {Y : Cx} {elt : Expr} {te : TE} {D : Addr} (pe : PE Y elt te) (hx : Y.xe = fun _ _ => False) : BodyOk Y Y.A (appS elt (.ref D) Y.env) (tEm te D) [] := by
  intro pins s σ H Nx I h
  unfold appS
  refine wpAny_bind (thn (hx ▸ pe.run pins s σ H _ I h) fun z s1 ⟨y, H1, I1, r, acc, hD, hz, nx⟩ => ?_)
  exact wpAny_bind (app_ok I1 hD hz r fun s2 I2 => wpAny_pure ⟨_, I2, nx⟩)
section
variable {X : Cx}
/-- an inner clause keeps its reading, if what stands behind it does -/
theorem body_in {s3 : Shared} {H3 : Hp} {scope : Scope} {ce : Env} {fp : List Addr} {elt tg iter : Expr} {gens : List Comprehension} {ifs : List Expr} {pos : Pos} {d : Nat} {D : Addr} {wi : L2.TI} {g : TG} {tt : TT} {vs vs' : List Nat} {k : Rd} {body : Sem Unit} {sc : Scope}
    (hc : X.calm = true) (pi : PI (X.blk s3 H3 scope ce fp) tg iter wi) (pg : PG (X.blk s3 H3 scope ce fp) tg g) (pt : PTs (X.blk s3 H3 scope ce fp) ifs tt) (hs : ∀ env x, foldedSetIterable iter env x = pure x)
    (sub : ∀ i ∈ vs', i ∈ vs) (ht : ∀ it, compTurn (.ListComp elt gens sc pos) d it (.ref D) ce = oneS iter tg ifs it ce body (again (.compLoop (.ListComp elt gens sc pos) d it (.ref D) ce)))
    (hst : ∀ {R : Result → Shared → Prop} {s : Shared} {it : Value}, codeAny (model X.prog X.w) X.A (.compLoop (.ListComp elt gens sc pos) d it (.ref D) ce) R s →
      wpAny (model X.prog X.w) X.A (pyIter it) (fun z s' => codeAny (model X.prog X.w) X.A (.compLoop (.ListComp elt gens sc pos) d z (.ref D) ce) R s') (noR X.prog X.w X.A ce R) s → codeAny (model X.prog X.w) X.A (.compStart (.ListComp elt gens sc pos) d it (.ref D) ce) R s)
    (ok : BodyOk (X.blk s3 H3 scope ce fp) X.A body k vs') :
    BodyOk (X.blk s3 H3 scope ce fp) X.A (begS (.ListComp elt gens sc pos) d iter (.ref D) ce) (tIn wi g tt vs k) vs := by
  intro pins s σ H Nx I h
  refine begW (P := fun s' => ∃ H', Inv (X.blk s3 H3 scope ce fp) pins (wipe σ vs) H' s' ∧ Nx H') (hs ce) (thnF (pi.run pins s σ H _ I h) fun xv s1 hx => thnF hx fun itv s2 h2 => ?_)
  obtain ⟨it, fq, tn, J, H2, e, I2, T, st2, f2, W, ⟨m0, w0⟩, turn⟩ := h2
  subst e
  have stat : ∀ {H' : Hp}, (∀ b ∈ fq, H' b = none) → ∀ b ∈ fq, FpOk (X.blk s3 H3 scope ce fp) pins H' b := fun hn b hb => ⟨hn b hb, (f2 b hb).2⟩
  have loop : codeAny (model X.prog X.w) X.A (.compLoop (.ListComp elt gens sc pos) d (.ref it) (.ref D) ce) (fun r s' => match r with
      | .ok _ => ∃ H', Inv (X.blk s3 H3 scope ce fp) pins (wipe σ vs) H' s' ∧ Nx H'
      | .error _ => False) s2 := by
    refine loopS (ht _) (fun m s' => ∃ j H', Inv (X.blk s3 H3 scope ce fp) pins (wipe σ vs) H' s' ∧ tn j s'.heap ∧ (∀ b ∈ fq, H' b = none) ∧ W j m H') (fun m s4 h4 => ?_) m0
      ⟨0, H2, I2.weak (wipe_length _ _) (fun j v e => (wipe_some e).1), st2, fun b hb => (f2 b hb).1, w0⟩
    obtain ⟨j, H4, I4, st4, n4, w4⟩ := h4
    rcases turn j m H4 w4 with ⟨stop, nx⟩ | ⟨go, N, hN, step⟩
    · refine thnF (T.done (X.blk s3 H3 scope ce fp) rfl rfl rfl hc j _ s4 _ H4 (fun _ _ => False) I4 (stat n4) st4 stop) fun r s5 ⟨hr, I5⟩ => ?_
      subst hr
      exact ⟨H4, I5, nx⟩
    · refine thnF (T.item (X.blk s3 H3 scope ce fp) rfl rfl rfl hc j _ s4 _ H4 (fun _ _ => False) I4 (stat n4) st4 go) fun r s5 ⟨u, hr, h5⟩ => ?_
      subst hr
      refine thnF h5 fun _ s6 ⟨x, H6, I6, r6, y6, st6, n6⟩ => ?_
      have I6' := I6.pinned (stat n6) (T.obj _ _ st6)
      refine thnF (pg.run _ s6 _ H6 x u _ I6' r6 (step x H6 y6)) fun _ s7 ⟨σ7, H7, I7, hw7, q7⟩ => ?_
      refine thnF (pt.run _ s7 σ7 H7 _ I7 q7) fun b s8 ⟨H8, I8, q8⟩ => ?_
      have fin : ∀ {σ' : L2.St} {s' : Shared} {H' : Hp}, Inv (X.blk s3 H3 scope ce fp) (pins ++ pinsAt fq s6.heap) σ' H' s' → (wipe σ vs).length = σ'.length → (∀ (j : Nat) v, (wipe σ vs)[j]? = some (some v) → σ'[j]? = some (some v)) → N H' →
          ∃ m', m' < m ∧ ∃ j H', Inv (X.blk s3 H3 scope ce fp) pins (wipe σ vs) H' s' ∧ tn j s'.heap ∧ (∀ b ∈ fq, H' b = none) ∧ W j m' H' := fun {σ' s' H'} I' hl hk nx => by
        obtain ⟨m', hm, w'⟩ := hN H' nx
        have kept : ∀ b ∈ fq, ∀ o, s6.heap.get? b = some o → s'.heap.get? b = some o ∧ H' b = none := fun b hb o e => by
          have z := I'.pin (b, o) (List.mem_append_right _ (List.mem_append_right _ (mem_pinsAt hb e)))
          exact ⟨z.1, z.2.1⟩
        refine ⟨m', hm, j + 1, H', I'.unpinned.weak hl hk, T.keep _ _ _ st6 fun b hb o e => (kept b hb o e).1, fun b hb => ?_, w'⟩
        obtain ⟨o, e, _⟩ := T.obj _ _ st6 b hb
        exact (kept b hb o e).2
      have l7 : (wipe σ vs).length = σ7.length := by rw [← hw7, wipe_length]
      have k7 : ∀ (j : Nat) v, (wipe σ vs)[j]? = some (some v) → σ7[j]? = some (some v) := fun j v e => by
        rw [← hw7] at e
        exact (wipe_some e).1
      cases b with
      | false =>
        simp only [Bool.false_eq_true, if_false] at q8 ⊢
        exact fin I8 l7 k7 q8
      | true =>
        simp only [if_true] at q8 ⊢
        refine thnF (ok _ s8 σ7 H8 N I8 q8) fun _ s9 ⟨H9, I9, nx⟩ => ?_
        have ws := wipe_sub (σ := σ7) sub
        rw [hw7] at ws
        exact fin I9 ws.1 ws.2 nx
  exact hst loop (T.self X.A 0 _ _ _ st2 loop)
end
end LcX

namespace LcX
open PySem PySem.Spec PyProof.Rows L2
section
variable {X : Cx}
theorem pe_lc3 {elt t0 i0 t1 i1 t2 i2 : Expr} {f0 f1 f2 : List Expr} {sc : Scope} {own : List (Str × Nat)} {vs1 vs2 : List Nat} {pos : Pos} {w0 w1 w2 : L2.TI} {g0 g1 g2 : TG} {u0 u1 u2 : TT} {te : TE}
    (hc : X.calm = true) (hN : X.N.Nodup) (hi : PI X t0 i0 w0) (ok : BlkOk X.N X.env.scope sc own) (hv1 : ∀ i ∈ vs1, i ∈ own.map (·.2)) (hv2 : ∀ i ∈ vs2, i ∈ vs1)
    (hg0 : ∀ (s : Shared) (H : Hp) (C : Addr) (cl : List (Str × Addr)) (fp : List Addr), PG (X.blk s H sc (compEnvC sc cl C X.env) fp) t0 g0)
    (ht0 : ∀ (s : Shared) (H : Hp) (C : Addr) (cl : List (Str × Addr)) (fp : List Addr), PTs (X.blk s H sc (compEnvC sc cl C X.env) fp) f0 u0)
    (hi1 : ∀ (s : Shared) (H : Hp) (C : Addr) (cl : List (Str × Addr)) (fp : List Addr), PI (X.blk s H sc (compEnvC sc cl C X.env) fp) t1 i1 w1)
    (hg1 : ∀ (s : Shared) (H : Hp) (C : Addr) (cl : List (Str × Addr)) (fp : List Addr), PG (X.blk s H sc (compEnvC sc cl C X.env) fp) t1 g1)
    (ht1 : ∀ (s : Shared) (H : Hp) (C : Addr) (cl : List (Str × Addr)) (fp : List Addr), PTs (X.blk s H sc (compEnvC sc cl C X.env) fp) f1 u1)
    (hi2 : ∀ (s : Shared) (H : Hp) (C : Addr) (cl : List (Str × Addr)) (fp : List Addr), PI (X.blk s H sc (compEnvC sc cl C X.env) fp) t2 i2 w2)
    (hg2 : ∀ (s : Shared) (H : Hp) (C : Addr) (cl : List (Str × Addr)) (fp : List Addr), PG (X.blk s H sc (compEnvC sc cl C X.env) fp) t2 g2)
    (ht2 : ∀ (s : Shared) (H : Hp) (C : Addr) (cl : List (Str × Addr)) (fp : List Addr), PTs (X.blk s H sc (compEnvC sc cl C X.env) fp) f2 u2)
    (he : ∀ (s : Shared) (H : Hp) (C : Addr) (cl : List (Str × Addr)) (fp : List Addr), PE (X.blk s H sc (compEnvC sc cl C X.env) fp) elt te)
    (hs0 : ∀ x, foldedSetIterable i0 X.env x = pure x := by intro _; rfl) (hs1 : ∀ env x, foldedSetIterable i1 env x = pure x := by intro _ _; rfl) (hs2 : ∀ env x, foldedSetIterable i2 env x = pure x := by intro _ _; rfl) :
    PE X (.ListComp elt [⟨t0, i0, f0, 0⟩, ⟨t1, i1, f1, 0⟩, ⟨t2, i2, f2, 0⟩] sc pos) (tLc3 w0 g0 u0 (fun D => tIn w1 g1 u1 vs1 (tIn w2 g2 u2 vs2 (tEm te D))) (own.map (·.2))) := by
  refine ⟨fun pins s σ H Q I h => ?_⟩
  rw [eval_ListComp]
  have free : ∀ y ∈ sc.names, y.2 = .free → ∃ c, X.env.cells.lookup y.1 = some c := fun y hy e => (ok.free y hy e).elim (fun k => I.ok.has _ (.inl k)) fun k => I.ok.has _ (.inr k)
  refine wpAny_comprehension_free rfl hs0 (closure_ok free) ok.kind (fun y hy e => by rw [ok.uniq y hy, e]) (thn (hi.run pins s σ H _ I h) fun xv s1 hx => thn hx fun itv s2 h2 => ?_)
  obtain ⟨it, fp, tn, J, H2, e, I2, T, st2, f2', q⟩ := h2
  subst e
  refine wpAny_newObj_type (newEnv_comp ?_) (Nat.zero_le _)
  generalize hD : s2.heap.objs.size = D
  obtain ⟨W, ⟨m0, w0'⟩, turn⟩ := q D (I2.hok.fresh (Nat.le_of_eq hD))
  generalize hs3 : ({ s2 with heap := s2.heap.push { cls := .type "list", data := .seq ([] : List Value).toArray } } : Shared) = s3
  have h3 : s3.heap = s2.heap.push { cls := .type "list", data := .seq ([] : List Value).toArray } := by rw [← hs3]
  have I3 : Inv X pins σ (upd H2 D (.lst [])) s3 := by
    subst hs3
    refine I2.laid (t' := s2.toks) (fun b o e => Heap.get?_push_of_some _ e) (Nat.le_of_eq hD) ⟨Nat.zero_le _, [], 0, .nil, ?_⟩
    subst hD
    exact Heap.get?_push_size _ rfl
  have f3 : ∀ b ∈ fp, FpOk X pins (upd H2 D (.lst [])) b ∧ b < s3.heap.objs.size := fun b hb => by
    obtain ⟨o, eo, _⟩ := T.obj _ _ st2 b hb
    have lt := Heap.lt_size eo
    refine ⟨⟨(upd_ne (Nat.ne_of_lt (hD ▸ lt))).trans (f2' b hb).1, (f2' b hb).2⟩, ?_⟩
    rw [h3, Heap.size_push]
    exact Nat.lt_succ_of_lt lt
  have st3 : tn 0 s3.heap := T.keep _ _ _ st2 fun b _ o e => by rw [h3]; exact Heap.get?_push_of_some _ e
  have I4 := block_start I3 ok hN f3
  generalize hH3 : upd H2 D (.lst []) = H3 at I3 I4 w0' f3
  have pg := hg0 s3 H3 s3.heap.objs.size (cellsFrom (s3.heap.objs.size + 1) sc.names (cloFrom X.env.cells sc.names [])) fp
  have pt := ht0 s3 H3 s3.heap.objs.size (cellsFrom (s3.heap.objs.size + 1) sc.names (cloFrom X.env.cells sc.names [])) fp
  have pe := he s3 H3 s3.heap.objs.size (cellsFrom (s3.heap.objs.size + 1) sc.names (cloFrom X.env.cells sc.names [])) fp
  have p1 := hi1 s3 H3 s3.heap.objs.size (cellsFrom (s3.heap.objs.size + 1) sc.names (cloFrom X.env.cells sc.names [])) fp
  have pg1 := hg1 s3 H3 s3.heap.objs.size (cellsFrom (s3.heap.objs.size + 1) sc.names (cloFrom X.env.cells sc.names [])) fp
  have pt1 := ht1 s3 H3 s3.heap.objs.size (cellsFrom (s3.heap.objs.size + 1) sc.names (cloFrom X.env.cells sc.names [])) fp
  have p2 := hi2 s3 H3 s3.heap.objs.size (cellsFrom (s3.heap.objs.size + 1) sc.names (cloFrom X.env.cells sc.names [])) fp
  have pg2 := hg2 s3 H3 s3.heap.objs.size (cellsFrom (s3.heap.objs.size + 1) sc.names (cloFrom X.env.cells sc.names [])) fp
  have pt2 := ht2 s3 H3 s3.heap.objs.size (cellsFrom (s3.heap.objs.size + 1) sc.names (cloFrom X.env.cells sc.names [])) fp
  show codeAny _ _ (.compStart (three elt t0 i0 t1 i1 t2 i2 f0 f1 f2 sc pos) 0 (.ref it) (.ref D) (compEnvC sc (cellsFrom (s3.heap.objs.size + 1) sc.names (cloFrom X.env.cells sc.names [])) s3.heap.objs.size X.env)) (compPost (model X.prog X.w) X.A X.xe _ _ (.ref D) s3.heap.objs.size) { s3 with heap := pushCells (s3.heap.push { cls := .type "dict", data := .dict #[] }) sc.names }
  have nf : ∀ b ∈ fp, H3 b = none := fun b hb => (f3 b hb).1.1
  generalize hce : compEnvC sc (cellsFrom (s3.heap.objs.size + 1) sc.names (cloFrom X.env.cells sc.names [])) s3.heap.objs.size X.env = ce at I4 pg pt pe p1 pg1 pt1 p2 pg2 pt2 ⊢
  have cL : ce.locals = s3.heap.objs.size := by subst hce; rfl
  generalize hs4 : ({ s3 with heap := pushCells (s3.heap.push { cls := .type "dict", data := .dict #[] }) sc.names } : Shared) = s4 at I4 ⊢
  have st4 : tn 0 s4.heap := T.keep _ _ _ st3 fun b _ o e => by subst hs4; exact pushCells_keeps _ _ _ _ (Heap.get?_push_of_some _ e)
  have stat : ∀ {σ' : L2.St} {H' : Hp} {s' : Shared}, Inv (X.blk s3 H3 sc ce fp) [] σ' H' s' → (∀ b ∈ fp, H' b = none) → ∀ b ∈ fp, FpOk (X.blk s3 H3 sc ce fp) [] H' b := fun {σ' H' s'} I' hn b hb =>
    ⟨hn b hb, (I'.ok.exf b hb).1, I'.ok.exfs b hb, .inl hb, fun x c e => (I'.ok.exf b hb).2 x c e, fun p hp => nomatch hp⟩
  -- what stands behind the first clause
  have inner : BodyOk (X.blk s3 H3 sc ce fp) X.A (begS (three elt t0 i0 t1 i1 t2 i2 f0 f1 f2 sc pos) 1 i1 (.ref D) ce) (tIn w1 g1 u1 vs1 (tIn w2 g2 u2 vs2 (tEm te D))) vs1 :=
    body_in hc p1 pg1 pt1 hs1 hv2 (fun it => turn_1 ..) start_1 (body_in (vs' := []) hc p2 pg2 pt2 hs2 (fun i z => nomatch z) (fun it => turn_2 ..) start_2 (body_app pe rfl))
  have loop : codeAny (model X.prog X.w) X.A (.compLoop (three elt t0 i0 t1 i1 t2 i2 f0 f1 f2 sc pos) 0 (.ref it) (.ref D) ce) (compPost (model X.prog X.w) X.A X.xe none (fun v s' => ∃ x H', Inv X pins σ H' s' ∧ RelV x v ∧ Q x H') (.ref D) s3.heap.objs.size) s4 := by
    refine loopS (turn_0 ..) (fun n s' => ∃ i H', Inv (X.blk s3 H3 sc ce fp) [] (wipe σ (own.map (·.2))) H' s' ∧ tn i s'.heap ∧ (∀ b ∈ fp, H' b = none) ∧ W i n H') (fun n s5 h5 => ?_) m0 ⟨0, H3, I4, st4, nf, w0'⟩
    obtain ⟨i, H5, I5, st5, n5, w5⟩ := h5
    rcases turn i n H5 w5 with ⟨stop, qq⟩ | ⟨go, N, hN', step⟩
    · refine thnF (T.done (X.blk s3 H3 sc ce fp) rfl rfl rfl hc i [] s5 _ H5 (fun _ _ => False) I5 (stat I5 n5) st5 stop) fun r s6 ⟨hr, I6⟩ => ?_
      subst hr
      have I7 : Inv X pins σ H5 s6 := I3.call' (ch := fp) I6.os I6.base I6.hok I6.bare fun b hb => by
        have z := (f3 b hb).1.2
        exact ⟨z.2.2.1, z.1, z.2.2.2.1, z.2.2.2.2⟩
      have nC : H5 s3.heap.objs.size = none := cL ▸ (show H5 ce.locals = none from I6.free)
      obtain ⟨m, hn, _⟩ := I6.loc
      have hn : s6.heap.Ns s3.heap.objs.size m := cL ▸ (show s6.heap.Ns ce.locals m from hn)
      refine ⟨m, hn, fun h'' sb => ?_⟩
      obtain ⟨a0, a1, a2, a3, a4, a5⟩ := I3.fpOk (Nat.le_refl _) (show (upd H2 D (.lst [])) s3.heap.objs.size = none from hH3 ▸ I3.hok.fresh (Nat.le_refl _))
      exact ⟨.ref D, H5, I7.turned (t' := s6.toks) (fun b o hb e => (sb.2 b hb).trans e) nC a1 a3 a4 a5, rfl, qq⟩
    · refine thnF (T.item (X.blk s3 H3 sc ce fp) rfl rfl rfl hc i [] s5 _ H5 (fun _ _ => False) I5 (stat I5 n5) st5 go) fun r s6 ⟨u, hr, h6⟩ => ?_
      subst hr
      refine thnF h6 fun _ s7 ⟨x, H7, I7, r7, y7, st7, n7⟩ => ?_
      have I7' := I7.pinned (stat I7 n7) (T.obj _ _ st7)
      refine thnF (pg.run _ s7 _ H7 x u _ I7' r7 (step x H7 y7)) fun _ s8 ⟨σ8, H8, I8, hw8, q8⟩ => ?_
      refine thnF (pt.run _ s8 σ8 H8 _ I8 q8) fun b s9 ⟨H9, I9, q9⟩ => ?_
      have fin : ∀ {σ' : L2.St} {s' : Shared} {H' : Hp}, Inv (X.blk s3 H3 sc ce fp) ([] ++ pinsAt fp s7.heap) σ' H' s' → (wipe σ (own.map (·.2))).length = σ'.length → (∀ (j : Nat) v, (wipe σ (own.map (·.2)))[j]? = some (some v) → σ'[j]? = some (some v)) → N H' →
          ∃ m, m < n ∧ ∃ i H', Inv (X.blk s3 H3 sc ce fp) [] (wipe σ (own.map (·.2))) H' s' ∧ tn i s'.heap ∧ (∀ b ∈ fp, H' b = none) ∧ W i m H' := fun {σ' s' H'} I' hl hk nx => by
        obtain ⟨m', hm, w'⟩ := hN' H' nx
        have kept : ∀ b ∈ fp, ∀ o, s7.heap.get? b = some o → s'.heap.get? b = some o ∧ H' b = none := fun b hb o e => by
          have z := I'.pin (b, o) (List.mem_append_right _ (List.mem_append_right _ (mem_pinsAt hb e)))
          exact ⟨z.1, z.2.1⟩
        refine ⟨m', hm, i + 1, H', (I'.unpinned (pins := [])).weak hl hk, T.keep _ _ _ st7 fun b hb o e => (kept b hb o e).1, fun b hb => ?_, w'⟩
        obtain ⟨o, e, _⟩ := T.obj _ _ st7 b hb
        exact (kept b hb o e).2
      have l8 : (wipe σ (own.map (·.2))).length = σ8.length := by rw [← hw8, wipe_length]
      have k8 : ∀ (j : Nat) v, (wipe σ (own.map (·.2)))[j]? = some (some v) → σ8[j]? = some (some v) := fun j v e => by
        rw [← hw8] at e
        exact (wipe_some e).1
      cases b with
      | false =>
        simp only [Bool.false_eq_true, if_false] at q9 ⊢
        exact fin I9 l8 k8 q9
      | true =>
        simp only [if_true] at q9 ⊢
        refine thnF (inner _ s9 σ8 H9 N I9 q9) fun _ s10 ⟨H10, I10, nx⟩ => ?_
        have ws := wipe_sub (σ := σ8) hv1
        rw [hw8] at ws
        exact fin I10 ws.1 ws.2 nx
  exact codeAny_compStart_list loop (T.self X.A 0 _ _ _ st4 loop)
end
end LcX

namespace N3
open PySem PySem.Spec PyProof.Rows L2 N2
def top (i : Nat) : Stmt := PySem.Challenge.pw_twiceslope_k73_verdicts_by_parameters.main.body.getD i (.Pass ⟨0, 0, 0, 0⟩)
abbrev sInt : Stmt := top 3
abbrev sTupOf : Stmt := top 4
abbrev sAllInt : Stmt := top 5
abbrev sLowest : Stmt := top 6
/-- a def as callers know it -/
structure Kn (P : Program) (w : World) (K : PySem.W.Frag) (mg : Str → Option Value) (base : Heap) (k : Nat) (x : Str) (ps : List Str) (sp : Sp) (f : Addr) (fd : FuncData) : Prop where
  ok : FnOk P w K mg base CX0 k f fd ps sp
  mg : mg x = some (.ref f)
  kp : PySem.W.keepIn K (.ref f) = true
  bd : Binds K fd ps []
/-- the names of built-in things that stay so -/
structure Bt (mg : Str → Option Value) : Prop where
  int : mg "int" = none
  bool : mg "bool" = none
  tuple : mg "tuple" = none
  list : mg "list" = none
  isi : mg "isinstance" = none
  len : mg "len" = none
  all : mg "all" = none
  range : mg "range" = none
  abs : mg "abs" = none
  repr : mg "repr" = none
  zip : mg "zip" = none
  max : mg "max" = none
  sorted : mg "sorted" = none
  str : mg "str" = none
  gcd : mg "gcd" = some (.builtin "math.gcd")
  perm : mg "permutations" = some (.type "itertools.permutations")
  any : mg "any" = none
  sum : mg "sum" = none
def tn : PyData → String
  | .none => "NoneType" | .bool _ => "bool" | .int _ => "int" | .str _ => "str" | .list _ => "list" | .tuple _ => "tuple" | .dict _ => "dict"
def isI : PyData → Bool
  | .int _ => true
  | _ => false
def isB : PyData → Bool
  | .bool _ => true
  | _ => false
def isTp : PyData → Bool
  | .tuple _ => true
  | _ => false
theorem dn_ty {K : PySem.W.Frag} {H : Hp} {v : V} {d : PyData} (h : Dn H v d) : TyX K H v (.type (tn d)) := by
  cases h with
  | non => exact .base .non
  | bl b => exact .base (.bl b)
  | int i => exact .base (.int i)
  | str x => exact .base (.str x)
  | lst e _ => exact .base (.lst e)
  | tup e _ => exact .base (.tup e)
  | dct e _ => exact .base (.dK e)
theorem kit_i : ∀ d : PyData, kitB (tn d) "int" = some (isI d || isB d)
  | .none => by decide +kernel
  | .bool _ => by show kitB "bool" "int" = some true; decide +kernel
  | .int _ => by show kitB "int" "int" = some true; decide +kernel
  | .str _ => by show kitB "str" "int" = some false; decide +kernel
  | .list _ => by show kitB "list" "int" = some false; decide +kernel
  | .tuple _ => by show kitB "tuple" "int" = some false; decide +kernel
  | .dict _ => by show kitB "dict" "int" = some false; decide +kernel
theorem kit_b : ∀ d : PyData, kitB (tn d) "bool" = some (isB d)
  | .none => by decide +kernel
  | .bool _ => by show kitB "bool" "bool" = some true; decide +kernel
  | .int _ => by show kitB "int" "bool" = some false; decide +kernel
  | .str _ => by show kitB "str" "bool" = some false; decide +kernel
  | .list _ => by show kitB "list" "bool" = some false; decide +kernel
  | .tuple _ => by show kitB "tuple" "bool" = some false; decide +kernel
  | .dict _ => by show kitB "dict" "bool" = some false; decide +kernel
theorem kit_t : ∀ d : PyData, kitB (tn d) "tuple" = some (isTp d)
  | .none => by decide +kernel
  | .bool _ => by show kitB "bool" "tuple" = some false; decide +kernel
  | .int _ => by show kitB "int" "tuple" = some false; decide +kernel
  | .str _ => by show kitB "str" "tuple" = some false; decide +kernel
  | .list _ => by show kitB "list" "tuple" = some false; decide +kernel
  | .tuple _ => by show kitB "tuple" "tuple" = some true; decide +kernel
  | .dict _ => by show kitB "dict" "tuple" = some false; decide +kernel
theorem dn_tup {H : Hp} {v : V} {d : PyData} (h : Dn H v d) (e : isTp d = true) : ∃ (a : Addr) (xs : List V) (ds : List PyData), v = .ref a ∧ d = .tuple ds ∧ H a = some (.tup xs) ∧ DnAll H xs ds := by
  cases h with
  | tup e1 r => exact ⟨_, _, _, rfl, rfl, e1, r⟩
  | _ => cases e
theorem dn_int {H : Hp} {v : V} {d : PyData} (h : Dn H v d) (e : isI d = true) : ∃ i, v = .int i ∧ d = .int i := by
  cases h with
  | int i => exact ⟨i, rfl, rfl⟩
  | _ => cases e
theorem snew {H : Hp} {p : Addr} {o : HO} (h : H p = none) : Same H (upd H p o) := fun b u e => by rw [upd_ne (ne_of_none e h)]; exact e
theorem ite_b {c : Bool} {A B : Prop} (h1 : c = true → A) (h2 : c = false → B) : if c = true then A else B := by
  cases c with
  | true => exact iteT (h1 rfl)
  | false => exact iteF (h2 rfl)
def spInt : Sp := fun vs H Q _ => ∃ (v : V) (d : PyData), vs = [v] ∧ Dn H v d ∧ Q (.bl (isI d)) H
/-- a tuple of n items -/
def tupN (n : Nat) : PyData → Bool
  | .tuple ds => decide (ds.length = n)
  | _ => false
def spTupOf : Sp := fun vs H Q _ => ∃ (v : V) (d : PyData) (n : Nat), vs = [v, .int (n : Int)] ∧ Dn H v d ∧ Q (.bl (tupN n d)) H
def spAllInt : Sp := fun vs H Q _ => ∃ (a : Addr) (xs : List V) (ds : List PyData), vs = [.ref a] ∧ H a = some (.tup xs) ∧ DnAll H xs ds ∧ ds.length ≤ 1000 ∧ ∀ H', Same H H' → Q (.bl (ds.all isI)) H'
section
variable {P : Program} {w : World} {K : PySem.W.Frag} {mg : Str → Option Value} {base : Heap}
theorem scInt : FnScope ["thing"] ["thing"] (defScope sInt) := ⟨rfl, rfl, rfl, by decide +kernel, rfl, by decide +kernel, by decide +kernel⟩
theorem ok_int {f : Addr} {fd : FuncData} (F : Fun K "is_integer" "is_integer" sInt f fd) (T : Bt mg) : FnOk P w K mg base CX0 1 f fd ["thing"] spInt := by
  refine F.ok scInt (fun vs H Q E h => ?_) (fun cdv A outer s H vs Q E hr h => ?_)
  · obtain ⟨v, d, rfl, _⟩ := h
    rfl
  · obtain ⟨v, d, rfl, hd, k⟩ := h
    refine ⟨_, pss_one (ps_ret (pe_and (pe_callB call_isi (by rfl) T.isi (by decide +kernel) (pa_cons (pv 0) (pa_cons (pe_bltn (v := .ty "int") (by rfl) T.int (by decide +kernel) rfl) pa_nil)))
      (pe_one (pe_not (pe_callB call_isi (by rfl) T.isi (by decide +kernel) (pa_cons (pv 0) (pa_cons (pe_bltn (v := .ty "bool") (by rfl) T.bool (by decide +kernel) rfl) pa_nil))))))), ?_⟩
    refine ⟨_, rfl, v, .ty "int", _, _, _, rfl, .ty _, dn_ty hd, kit_ty (kit_i d), _, rfl, ite_b (fun e => ?_) (fun e => ?_)⟩
    · refine ⟨_, rfl, v, .ty "bool", _, _, _, rfl, .ty _, dn_ty hd, kit_ty (kit_b d), _, rfl, ?_⟩
      have : (!isB d) = isI d := by cases d <;> first | rfl | cases e
      rw [this]; exact k
    · have : isI d = false := by cases d <;> first | rfl | cases e
      rw [this] at k; exact k
theorem scTupOf : FnScope ["thing", "many"] ["thing", "many"] (defScope sTupOf) := ⟨rfl, rfl, rfl, by decide +kernel, rfl, by decide +kernel, by decide +kernel⟩
theorem ok_tupOf {f : Addr} {fd : FuncData} (F : Fun K "is_tuple_of" "is_tuple_of" sTupOf f fd) (T : Bt mg) : FnOk P w K mg base CX0 1 f fd ["thing", "many"] spTupOf := by
  refine F.ok scTupOf (fun vs H Q E h => ?_) (fun cdv A outer s H vs Q E hr h => ?_)
  · obtain ⟨v, d, n, rfl, _⟩ := h
    rfl
  · obtain ⟨v, d, n, rfl, hd, k⟩ := h
    refine ⟨_, pss_one (ps_ret (pe_and (pe_callB call_isi (by rfl) T.isi (by decide +kernel) (pa_cons (pv 0) (pa_cons (pe_bltn (v := .ty "tuple") (by rfl) T.tuple (by decide +kernel) rfl) pa_nil)))
      (pe_one (pe_cmpR op_eq (pe_callB call_len (by rfl) T.len PySem.boot_len (pa_cons (pv 0) pa_nil)) (pv 1) (nomark _))))), ?_⟩
    refine ⟨_, rfl, v, .ty "tuple", _, _, _, rfl, .ty _, dn_ty hd, kit_ty (kit_t d), _, rfl, ite_b (fun e => ?_) (fun e => ?_)⟩
    · obtain ⟨a, xs, ds, rfl, rfl, e1, r⟩ := dn_tup hd e
      refine ⟨_, rfl, .ref a, xs.length, rfl, .inr ⟨xs, SqT.of e1, rfl⟩, _, rfl, rfl, ?_⟩
      have : decide (V.int (xs.length : Int) = V.int (n : Int)) = tupN n (.tuple ds) := by
        show _ = decide (ds.length = n)
        rw [r.length]
        exact decide_eq_decide.mpr ⟨fun h => by have := V.int.inj h; omega, fun h => by rw [h]⟩
      rw [this]; exact k
    · have : tupN n d = false := by cases d <;> first | rfl | cases e
      rw [this] at k; exact k
theorem scAllInt : FnScope ["things", "thing"] ["things"] (defScope sAllInt) := ⟨rfl, rfl, rfl, by decide +kernel, rfl, by decide +kernel, by decide +kernel⟩
theorem take_succ_all {α : Type} (p : α → Bool) {l : List α} {i : Nat} {x : α} (h : l[i]? = some x) : l.take (i + 1) = l.take i ++ [x] := by
  rw [List.take_add_one, h]; rfl
theorem ok_allInt {f fI : Addr} {fd fdI : FuncData} (F : Fun K "all_integers" "all_integers" sAllInt f fd) (T : Bt mg) (I : Kn P w K mg base 1 "is_integer" ["thing"] spInt fI fdI) : FnOk P w K mg base CX0 2 f fd ["things"] spAllInt := by
  refine F.ok scAllInt (fun vs H Q E h => ?_) (fun cdv A outer s H vs Q E hr h => ?_)
  · obtain ⟨a, xs, ds, rfl, _⟩ := h
    rfl
  · obtain ⟨a, xs, ds, rfl, ha, r, hl, k⟩ := h
    refine ⟨_, pss_one (ps_ret (pe_callB (cr_all rfl) (by rfl) T.all (by decide +kernel) (pa_cons (pe_lc (own := [("thing", 1)]) (g := gName 1) (tt := tYes) rfl scAllInt.nd (pi_tup (pv 0))
      (blkOk_by (own := [("thing", 1)]) (N := ["things", "thing"]) (sc := defScope sAllInt) (by decide +kernel)) (fun _ _ _ _ _ => pg_name (i := 1) scAllInt.nd rfl (Or.inl rfl)) (fun _ _ _ _ _ => pts_nil)
      (fun _ _ _ _ _ => pe_call I.ok hr rfl I.mg I.kp I.bd .nil pass0 (pa_cons (pv 1) pa_nil))) pa_nil))), ?_⟩
    refine ⟨_, rfl, a, rfl, ⟨_, SqT.of ha⟩, fun D hD => lc_tup (K := K) (a := a) (xs := xs) (fun i H' => H' D = some (.lst ((ds.take i).map fun d => V.bl (isI d))) ∧ Same H H') ⟨upd_same, snew hD⟩ (fun i H' _ s' => SqT.of (s'.2 _ _ ha)) ?_ ?_⟩
    · rintro i x H' hx ⟨e1, e2⟩
      obtain ⟨d, ed, dn⟩ := r.at_ hx
      have il : i < ds.length := (List.getElem?_eq_some_iff.mp ed).1
      refine ⟨rfl, ?_⟩
      refine ⟨_, rfl, x, d, rfl, Dn.mono e2 d x dn, _, e1, ?_, ?_, fun b o e => ?_⟩
      · rw [List.length_map, List.length_take]; exact small1000 (by omega)
      · rw [take_succ_all isI ed, List.map_append, upd_same]; rfl
      · rw [upd_ne (ne_of_none e hD)]; exact e2 _ _ e
    · rintro H' ⟨e1, e2⟩
      rw [r.length, List.take_length] at e1
      refine ⟨D, ds.map isI, rfl, SqL.of (by rw [List.map_map]; exact e1), ?_⟩
      rw [show (ds.map isI).all id = ds.all isI by rw [List.all_map]; rfl]
      exact k _ e2
end
end N3

namespace N3
open PySem PySem.Spec PyProof.Rows L2 N2
def lowT (b c : Int) : Bool := decide (1 ≤ c) && decide (Nat.gcd b.natAbs c.natAbs = 1)
def spLow : Sp := fun vs H Q _ => ∃ b c : Int, vs = [.int b, .int c] ∧ Q (.bl (lowT b c)) H
def spSplit : Sp := fun vs H Q _ => ∃ n : Nat, vs = [.int (n : Int)] ∧ 1 ≤ n ∧ n < 10 ^ 15 ∧ ∀ (f r : Nat) (a : Addr) (H' : Hp), Split n f r → H' a = some (.tup [.int (f : Int), .int (r : Int)]) → Same H H' → Q (.ref a) H'
def spFree : Sp := fun vs H Q _ => ∃ n : Nat, vs = [.int (n : Int)] ∧ 1 ≤ n ∧ n < 10 ^ 15 ∧ ∀ (b : Bool) (H' : Hp), (b = true ↔ SqF n) → Same H H' → Q (.bl b) H'
/-- a number that may stand as d -/
def Fit (a : Int) : Prop := a ≠ 0 ∧ a.natAbs < 10 ^ 15 ∧ SqF a.natAbs
def spFits : Sp := fun vs H Q _ => ∃ a : Int, vs = [.int a] ∧ ∀ (b : Bool) (H' : Hp), (b = true ↔ Fit a) → Same H H' → Q (.bl b) H'
theorem le_cube {p s : Nat} (hp : 1 ≤ p) (h : p * p * p ≤ s) : p ≤ s ∧ p * p ≤ s := by
  have h1 : p * p * 1 ≤ p * p * p := Nat.mul_le_mul_left (p * p) hp
  have h2 : p * 1 ≤ p * p := Nat.mul_le_mul_left p hp
  omega
theorem small_log {n : Nat} (h : n < 2 ^ 64) : n.log2 < 9000 := by
  rcases Nat.eq_zero_or_pos n with z | z
  · rw [z]; decide
  · have := (Nat.log2_lt (by omega : n ≠ 0)).mpr h; omega
section
variable {P : Program} {w : World} {K : PySem.W.Frag} {mg : Str → Option Value} {base : Heap}
theorem scLow : FnScope ["top", "bottom"] ["top", "bottom"] (defScope sLowest) := ⟨rfl, rfl, rfl, by decide +kernel, rfl, by decide +kernel, by decide +kernel⟩
theorem ok_low {f : Addr} {fd : FuncData} (F : Fun K "in_lowest_terms" "in_lowest_terms" sLowest f fd) (T : Bt mg) : FnOk P w K mg base CX0 1 f fd ["top", "bottom"] spLow := by
  refine F.ok scLow (fun vs H Q E h => ?_) (fun cdv A outer s H vs Q E hr h => ?_)
  · obtain ⟨b, c, rfl, _⟩ := h
    rfl
  · obtain ⟨b, c, rfl, k⟩ := h
    refine ⟨_, pss_one (ps_ret (pe_and (pe_cmpR op_ge (pv 1) pe_int (nomark _)) (pe_one (pe_cmpR op_eq (pe_callBfun cr_gcd (by rfl) T.gcd (pa_cons (pv 0) (pa_cons (pv 1) pa_nil))) pe_int (nomark _))))), ?_⟩
    refine ⟨_, rfl, _, _, rfl, rfl, _, rfl, ite_b (fun e => ?_) (fun e => ?_)⟩
    · refine ⟨_, rfl, _, rfl, _, _, rfl, rfl, ?_⟩
      have q : decide (V.int ((Nat.gcd b.natAbs c.natAbs : Nat) : Int) = V.int 1) = lowT b c := by
        unfold lowT
        rw [e, Bool.true_and]
        exact decide_eq_decide.mpr ⟨fun h => by have := V.int.inj h; omega, fun h => by rw [h]; rfl⟩
      rw [q]; exact k
    · have q : lowT b c = false := by
        unfold lowT
        rw [e, Bool.false_and]
      rw [q] at k; exact k
end
end N3

namespace N3
open PySem PySem.Spec PyProof.Rows L2
section
variable {P : Program} {w : World} {K : PySem.W.Frag} {mg : Str → Option Value} {base : Heap}
/-- a def behind the top -/
structure Df (K : PySem.W.Frag) (mg : Str → Option Value) (x : Str) (st : Stmt) (ps : List Str) (f : Addr) (fd : FuncData) : Prop where
  F : Fun K x x st f fd
  m : mg x = some (.ref f)
  b : Binds K fd ps []
/-- how a def binds what is handed by position -/
def Bds (x : Str) (st : Stmt) (ps : List Str) : Prop := ∀ (kV doc pm : Value) (an : Option Addr) (cdv ct : Value) (us : List Value), us.length = ps.length → bindArgs (PySem.W.fnOf x x (defArgs st) (defBody st) (defScope st) .none kV doc pm an cdv ct) ⟨us, []⟩ = pure (ps.zip us)
theorem df_mk {h : Heap} (X : K.In h) (G : h.Ns mainGlobals mg) {x : Str} {st : Stmt} {ps : List Str} {f : Addr} {oc : Value} {od an : Option Addr} {osl : Array (Option Value)} {kV doc pm cdv ct : Value}
    (a : PySem.W.nsIn K mainGlobals x = some (some (.ref f))) (l : K.lookup f = some ⟨oc, od, .func (PySem.W.fnOf x x (defArgs st) (defBody st) (defScope st) .none kV doc pm an cdv ct), osl⟩) (c : PySem.W.codeIn K cdv x = true) (k : PySem.W.keepIn K (.ref f) = true)
    (b : Bds x st ps) : ∃ f fd, Df K mg x st ps f fd := ⟨f, _, fun_mk (st := st) l c k, PySem.W.mg_of X G a, (fun_mk (st := st) l c k).binds b⟩
theorem Df.kn {x : Str} {st : Stmt} {ps : List Str} {f : Addr} {fd : FuncData} {k : Nat} {sp : Sp} (D : Df K mg x st ps f fd) (ok : FnOk P w K mg base CX0 k f fd ps sp) : Kn P w K mg base k x ps sp f fd := ⟨ok, D.m, D.F.kp, D.b⟩
end
end N3

namespace N3
open PySem PySem.Spec PyProof.Rows L2 N2
/-- the error's class BadNumber, its __init__ -/
structure BnC (P : Program) (w : World) (K : PySem.W.Frag) (mg : Str → Option Value) (base : Heap) (x : Str) (S C fI : Addr) (fd : FuncData) : Prop where
  M : SlM K C S fI
  ok : FnOk P w K mg base CX0 2 fI fd ["self", "thing"] (spSet K)
  nm : mg x = some (.ref C)
  b1 : ∀ u, SlBnd K fd [u] [] u
abbrev Bn (P : Program) (w : World) (K : PySem.W.Frag) (mg : Str → Option Value) (base : Heap) (S C fI : Addr) (fd : FuncData) : Prop := BnC P w K mg base "BadNumber" S C fI fd
def Air (H : Hp) (E : XK) (C : Addr) (v : V) : Prop := ∀ (dx : Addr) (H' : Hp), H dx = none → H' dx = some (.xd [("thing", v)]) → Same H H' → E (.ref C) (some dx) H'
theorem Air.later {H H1 : Hp} {E : XK} {C : Addr} {v : V} (a : Air H E C v) (s : Same H H1) : Air H1 E C v := fun dx H' h1 h2 h3 => a dx H' (s.free h1) h2 (s.trans h3)
/-- a def that may raise, as callers know it -/
structure KnX (P : Program) (w : World) (K : PySem.W.Frag) (mg : Str → Option Value) (base : Heap) (k : Nat) (x : Str) (ps : List Str) (sp : Sp) (f : Addr) (fd : FuncData) : Prop where
  ok : FnOk P w K mg base (L2.CX P w) k f fd ps sp
  mg : mg x = some (.ref f)
  kp : PySem.W.keepIn K (.ref f) = true
  bd : Binds K fd ps []
/-- a promise where nothing may be raised -/
def quiet (sp : Sp) : Sp := fun vs H Q _ => sp vs H Q (fun _ _ _ => False)
theorem _root_.L2.FnOk.hush {P : Program} {w : World} {K : PySem.W.Frag} {mg : Str → Option Value} {base : Heap} {k : Nat} {f : Addr} {fd : FuncData} {ps : List Str} {sp : Sp} (F : FnOk P w K mg base (L2.CX P w) k f fd ps sp) : FnOk P w K mg base CX0 k f fd ps (quiet sp) :=
  ⟨fun vs H Q E h => F.len vs H Q _ h, fun A outer s H args us vs Q E hr e0 hb hv h => codeAny_mono (F.run A outer s H args us vs Q _ hr e0 hb hv h) fun r s' hq => by
    cases r with
    | error e =>
      obtain ⟨_, _, _, _, _, _, _, _, _, _, _, _, z⟩ := hq
      exact z.elim
    | ok fl => cases fl <;> exact hq⟩
theorem KnX.hush {P : Program} {w : World} {K : PySem.W.Frag} {mg : Str → Option Value} {base : Heap} {k : Nat} {x : Str} {ps : List Str} {sp : Sp} {f : Addr} {fd : FuncData} (A : KnX P w K mg base k x ps sp f fd) : Kn P w K mg base k x ps (quiet sp) f fd := ⟨A.ok.hush, A.mg, A.kp, A.bd⟩
end N3

namespace N3
open PySem PySem.Spec PyProof.Rows L2
/-! ### plain data that the program's top has written -/
mutual
inductive WrD (K : PySem.W.Frag) : Value → PyData → Prop
  | int (i : Int) (t : Tok) : WrD K (.int i t) (.int i)
  | str (x : Str) (t : Tok) : WrD K (.str x t) (.str x)
  | tup {a : Addr} {od : Option Addr} {its : Array Value} {n : Nat} {sl : Array (Option Value)} {ds : List PyData} (l : K.lookup a = some ⟨.type "tuple", od, .seq its n, sl⟩) (hn : ds.length ≤ 1000) (r : WrL K its.toList ds) : WrD K (.ref a) (.tuple ds)
inductive WrL (K : PySem.W.Frag) : List Value → List PyData → Prop
  | nil : WrL K [] []
  | cons {v : Value} {d : PyData} {vs : List Value} {ds : List PyData} (h : WrD K v d) (r : WrL K vs ds) : WrL K (v :: vs) (d :: ds)
end
/-- written data, as values -/
inductive Wv (K : PySem.W.Frag) : V → PyData → Prop
  | int (i : Int) : Wv K (.int i) (.int i)
  | str (x : Str) : Wv K (.str x) (.str x)
  | tup {a : Addr} {xs : List V} {ds : List PyData} (l : ∀ H, SqT K H a xs) (hn : xs.length = ds.length) (r : ∀ (i : Nat) (x : V) (d : PyData), xs[i]? = some x → ds[i]? = some d → Wv K x d) : Wv K (.ref a) (.tuple ds)
mutual
theorem wv_of {K : PySem.W.Frag} : ∀ {v : Value} {d : PyData}, WrD K v d → ∃ x, RelV x v ∧ Wv K x d
  | _, _, .int i t => ⟨.int i, ⟨t, rfl⟩, .int i⟩
  | _, _, .str x t => ⟨.str x, ⟨t, rfl⟩, .str x⟩
  | _, _, .tup (a := a) (its := its) l hn r => by
    obtain ⟨xs, rv, hl, w⟩ := wl_of r
    have sz : its.size ≤ sizeLine := by
      have h1 := rv.length
      have h2 : its.toList.length = its.size := Array.length_toList
      have h3 : 1000 ≤ sizeLine := by rw [sizeLine_eq]; decide
      omega
    exact ⟨.ref a, rfl, .tup (fun H => .inr ⟨_, its, _, l, rfl, rfl, sz, rv⟩) hl w⟩
theorem wl_of {K : PySem.W.Frag} : ∀ {vs : List Value} {ds : List PyData}, WrL K vs ds → ∃ xs : List V, Vals xs vs ∧ xs.length = ds.length ∧ ∀ (i : Nat) (x : V) (d : PyData), xs[i]? = some x → ds[i]? = some d → Wv K x d
  | _, _, .nil => ⟨[], .nil, rfl, fun i x d h _ => by simp at h⟩
  | _, _, .cons h r => by
    obtain ⟨x, rx, wx⟩ := wv_of h
    obtain ⟨xs, rv, hl, w⟩ := wl_of r
    refine ⟨x :: xs, .cons rx rv, by rw [List.length_cons, List.length_cons, hl], fun i y d hy hd => ?_⟩
    cases i with
    | zero => cases hy; cases hd; exact wx
    | succ i => exact w i y d hy hd
end
theorem wv_ref {K : PySem.W.Frag} {a : Addr} {d : PyData} (h : WrD K (.ref a) d) : Wv K (.ref a) d := by
  obtain ⟨x, r, w⟩ := wv_of h
  cases w with
  | int i => obtain ⟨t, e⟩ := r; cases e
  | str i => obtain ⟨t, e⟩ := r; cases e
  | tup l hn w =>
    have e : Value.ref a = Value.ref _ := r
    cases e
    exact .tup l hn w
theorem wv_int {K : PySem.W.Frag} {x : V} {i : Int} (h : Wv K x (.int i)) : x = .int i := by cases h; rfl
theorem wv_str {K : PySem.W.Frag} {x : V} {s : Str} (h : Wv K x (.str s)) : x = .str s := by cases h; rfl
theorem wv_tup {K : PySem.W.Frag} {x : V} {ds : List PyData} (h : Wv K x (.tuple ds)) : ∃ (a : Addr) (xs : List V), x = .ref a ∧ (∀ H, SqT K H a xs) ∧ xs.length = ds.length ∧ ∀ (i : Nat) (y : V) (d : PyData), xs[i]? = some y → ds[i]? = some d → Wv K y d := by
  cases h with
  | tup l hn r => exact ⟨_, _, rfl, l, hn, r⟩
theorem wv_pair {K : PySem.W.Frag} {x : V} {t b : Int} (h : Wv K x (.tuple [.int t, .int b])) : ∃ a : Addr, x = .ref a ∧ ∀ H, SqT K H a [.int t, .int b] := by
  obtain ⟨a, xs, rfl, l, hn, r⟩ := wv_tup h
  match xs, hn with
  | [y, z], _ =>
    obtain rfl := wv_int (r 0 _ _ rfl rfl)
    obtain rfl := wv_int (r 1 _ _ rfl rfl)
    exact ⟨a, rfl, l⟩
end N3

namespace N3
open PySem PySem.Spec PyProof.Rows L2
def dkv (x y z : V) : List (Key × V) := [(Sum.inr "cells", x), (Sum.inr "mixed", y), (Sum.inr "turn", z)]
/-- a deck stands at dk, its list at l -/
def Deck (H : Hp) (dk l : Addr) : Prop := ∃ (ns : List Int) (m j : Int), H dk = some (.dK (dkv (.ref l) (.int m) (.int j))) ∧ H l = some (.lst (ns.map V.int)) ∧ ns.length ≤ 63
def Keep (dk l : Addr) (H H' : Hp) : Prop := ∀ b o, H b = some o → b ≠ dk → b ≠ l → H' b = some o
theorem Keep.of {dk l : Addr} {H H' : Hp} (h : Same H H') : Keep dk l H H' := fun b o e _ _ => h b o e
theorem Keep.trans {dk l : Addr} {H H1 H2 : Hp} (h : Keep dk l H H1) (k : Keep dk l H1 H2) : Keep dk l H H2 := fun b o e h1 h2 => k b o (h b o e h1 h2) h1 h2
theorem Deck.same {H H' : Hp} {dk l : Addr} (D : Deck H dk l) (h : Same H H') : Deck H' dk l := by
  obtain ⟨ns, m, j, h1, h2, h3⟩ := D
  exact ⟨ns, m, j, h _ _ h1, h _ _ h2, h3⟩
theorem Deck.ne {H : Hp} {dk l : Addr} (D : Deck H dk l) : dk ≠ l := by
  obtain ⟨ns, m, j, h1, h2, h3⟩ := D
  exact ne_of h1 h2 (by intro z; cases z)
theorem map_get {ns : List Int} {i : Nat} {y : V} (h : (ns.map V.int)[i]? = some y) : ∃ z : Int, ns[i]? = some z ∧ y = .int z := by
  rw [List.getElem?_map] at h
  cases e : ns[i]? with
  | none => rw [e] at h; cases h
  | some z => rw [e] at h; exact ⟨z, rfl, (Option.some.inj h).symm⟩
theorem cut_ints (ns : List Int) (lo hi : Option Int) : ∃ ms : List Int, cutV (ns.map V.int) lo hi = ms.map V.int ∧ ms.length ≤ ns.length := by
  unfold cutV
  refine ⟨(ns.drop (HT.sIx (ns.map V.int).length 0 lo)).take (HT.sIx (ns.map V.int).length (ns.map V.int).length hi - HT.sIx (ns.map V.int).length 0 lo), ?_, ?_⟩
  · rw [List.map_take, List.map_drop]
  · rw [List.length_take, List.length_drop]; omega
theorem kLM : ¬ (("cells" : Str) = "mixed") := by decide +kernel
theorem kLD : ¬ (("cells" : Str) = "turn") := by decide +kernel
theorem kMD : ¬ (("mixed" : Str) = "turn") := by decide +kernel
theorem deck3 (x y z : V) : mergeK [] (dkv x y z) = dkv x y z := by
  have h1 := kLM
  have h2 := kLD
  have h3 := kMD
  simp [mergeK, putK, dkv, h1, h2, h3]
def spDeck (K : PySem.W.Frag) : Sp := fun vs H Q _ => ∃ (a : Addr) (ns : List Int), vs = [.ref a] ∧ SqL K H a (ns.map V.int) ∧ ns.length ≤ 63 ∧
  ∀ (H' : Hp) (dk l : Addr), Deck H' dk l → Same H H' → H dk = none → H l = none → Q (.ref dk) H'
section
variable {P : Program} {w : World} {K : PySem.W.Frag} {mg : Str → Option Value} {base : Heap}
abbrev s__law_deck : Stmt := top 34
theorem sc__law_deck : FnScope ["script", "mixed", "cell"] ["script"] (defScope s__law_deck) := ⟨rfl, rfl, rfl, by decide +kernel, rfl, by decide +kernel, by decide +kernel⟩
theorem ok__law_deck {f  : Addr} {fd  : FuncData}  (F : Fun K "_law_deck" "_law_deck" s__law_deck f fd) (T : Bt mg)  : FnOk P w K mg base CX0 1 f fd ["script"] (spDeck K) := by
  refine F.ok sc__law_deck (fun vs H Q E h => ?_) (fun cdv A outer s H vs Q E hr h => ?_)
  · obtain ⟨a, ns, rfl, _⟩ := h
    rfl
  · obtain ⟨a, ns, rfl, hS, hl, k⟩ := h
    refine ⟨_, pss_cons (ps_set (i := 1) sc__law_deck.nd rfl (Or.inl rfl) pe_int)
      (pss_cons (ps_for PassesOwn.never rfl (pi_list (pe_slice sl_list (pv 0) po_none (po_some pe_int))) (pg_name (i := 2) sc__law_deck.nd rfl (Or.inl rfl))
        (pss_one (ps_set (i := 1) sc__law_deck.nd rfl (Or.inl rfl) (pe_op op_mod (pe_callTy call_int1 (by rfl) T.int (by decide +kernel) (pa_cons (pe_op op_add (pe_op op_add (pe_op op_mul (pv 1) pe_int) (pe_op op_mod (pe_callTy call_int1 (by rfl) T.int (by decide +kernel) (pa_cons (pv 2) pa_nil)) pe_int)) pe_int) pa_nil)) pe_int))))
      (pss_one (ps_ret (pe_disp (pps_cons pe_str (pe_revL (pe_lc (own := [("cell", 2)]) (g := (gName 2)) (tt := tYes) rfl sc__law_deck.nd (pi_list (pe_slice sl_list (pv 0) po_none (po_some pe_int))) (blkOk_by (own := [("cell", 2)]) (N := ["script", "mixed", "cell"]) (sc := defScope s__law_deck) (by decide +kernel)) (fun _ _ _ _ _ => pg_name (i := 2) sc__law_deck.nd rfl (Or.inl rfl)) (fun _ _ _ _ _ => pts_nil) (fun _ _ _ _ _ => (pe_callTy call_int1 (by rfl) T.int (by decide +kernel) (pa_cons (pv 2) pa_nil))))) (pps_cons pe_str (pv 1) (pps_cons pe_str pe_int pps_nil))) (by rfl) (by rfl) (fun z => by cases z) (by decide))))), ?_⟩
    obtain ⟨ms, em, hm⟩ := cut_ints ns none (some 63)
    refine ⟨_, rfl, _, rfl, a, _, rfl, hS, fun p hp => ⟨p, rfl, ⟨_, SqL.of upd_same⟩, ?_⟩⟩
    rw [em]
    refine for_list (K := K) (a := p) (xs := ms.map V.int) (fun i σ H' => ∃ (m : Int) (v : Option V), σ = [some (.ref a), some (.int m), v] ∧ H' = upd H p (.lst (ms.map V.int)))
      ⟨_, none, rfl, rfl⟩ (fun i σ H' _ ⟨_, _, _, e⟩ => by rw [e]; exact SqL.of upd_same) ?_ ?_
    · rintro i y σ H' hi ⟨m, v, rfl, rfl⟩
      obtain ⟨z, hz, rfl⟩ := map_get hi
      refine ⟨_, rfl, _, _, rfl, rfl, .inr ⟨by decide, by decide⟩, ?_⟩
      refine ⟨_, rfl, .inl ⟨_, rfl, ?_⟩⟩
      refine ⟨_, _, rfl, rfl, (by show (0 : Int) < 2147483497; decide), ?_⟩
      refine ⟨_, _, rfl, rfl, _, _, rfl, rfl, .inl ⟨_, rfl, ?_⟩⟩
      exact ⟨_, _, rfl, rfl, (by show (0 : Int) < 2147483629; decide), _, _, rfl, rfl⟩
    · rintro σ H' ⟨m, v, rfl, rfl⟩
      have s1 : Same H (upd H p (.lst (ms.map V.int))) := snew hp
      intro d hd
      have sd := snew (o := .dK []) hd
      refine ⟨_, rfl, _, rfl, a, ns.map V.int, rfl, (s1.trans sd).seq hS, fun p2 hp2 => ?_⟩
      rw [em]
      have s2 := snew (o := .lst (ms.map V.int)) hp2
      refine ⟨p2, rfl, ⟨_, SqL.of upd_same⟩, fun D hD => ?_⟩
      refine lc_list (K := K) (a := p2) (xs := ms.map V.int) (fun i H' => H' D = some (.lst ((ms.take i).map V.int)) ∧ Same (upd (upd (upd H p (.lst (ms.map V.int))) d (.dK [])) p2 (.lst (ms.map V.int))) H')
        ⟨upd_same, snew hD⟩ (fun i H' _ e => SqL.of (e.2 _ _ upd_same)) ?_ ?_
      · rintro i y H' hi ⟨e1, e2⟩
        obtain ⟨z, hz, rfl⟩ := map_get hi
        refine ⟨rfl, ?_⟩
        have il : i < ms.length := (List.getElem?_eq_some_iff.mp hz).1
        refine ⟨_, rfl, .inl ⟨z, rfl, _, e1, ?_, ?_, fun b o e => ?_⟩⟩
        · rw [List.length_map, List.length_take]; exact small1000 (by omega)
        · rw [List.take_add_one, hz, upd_same, List.map_append]; rfl
        · rw [upd_ne (ne_of_none e hD)]; exact e2 _ _ e
      · rintro H' ⟨e1, e2⟩
        rw [List.length_map, List.take_length] at e1
        refine ⟨D, _, rfl, SqL.of e1, fun p4 hp4 => ?_⟩
        have s4 := e2.trans (snew (o := .lst ((ms.map V.int)).reverse) hp4)
        have hd4 := s4 _ _ (s2 _ _ upd_same)
        have nd4 : d ≠ p4 := ne_of_none (e2 _ _ (s2 _ _ upd_same)) hp4
        refine ⟨_, rfl, hd4, dkv (.ref p4) (.int m) (.int 0), rfl, (by show 3 ≤ 15; decide), ?_⟩
        have e4 := deck3 (.ref p4) (.int m) (.int 0)
        have f4 : H p4 = none := s1.free (sd.free (s2.free (e2.free hp4)))
        refine k _ d p4 ⟨ms.reverse, m, 0, ?_, ?_, ?_⟩ (fun b o e => ?_) (s1.free hd) f4
        · exact upd_same.trans (congrArg (fun l => some (HO.dK l)) e4)
        · rw [upd_ne nd4.symm, List.map_reverse]; exact upd_same
        · rw [List.length_reverse]; omega
        · have e1 := s1 b o e
          rw [upd_ne (ne_of_none e1 hd)]
          exact s4 _ _ (s2 _ _ (sd _ _ e1))
end
theorem val_left (x y z : V) : valV (dkv x y z) (Sum.inr "cells" : Key) = some x := valV_pos rfl
theorem val_mixed (x y z : V) : valV (dkv x y z) (Sum.inr "mixed" : Key) = some y := by
  unfold dkv
  rw [valV_neg (by show ¬ (Sum.inr ("cells" : Str) : Key) = Sum.inr ("mixed" : Str); exact fun e => kLM (Sum.inr.inj e)), valV_pos rfl]
theorem val_draws (x y z : V) : valV (dkv x y z) (Sum.inr "turn" : Key) = some z := by
  unfold dkv
  rw [valV_neg (by show ¬ (Sum.inr ("cells" : Str) : Key) = Sum.inr ("turn" : Str); exact fun e => kLD (Sum.inr.inj e)),
    valV_neg (by show ¬ (Sum.inr ("mixed" : Str) : Key) = Sum.inr ("turn" : Str); exact fun e => kMD (Sum.inr.inj e)), valV_pos rfl]
theorem put_draws (x y z v : V) : putK (dkv x y z) (Sum.inr "turn" : Key) v = dkv x y v := by
  have h1 := kLD
  have h2 := kMD
  simp [putK, dkv, h1, h2]
theorem put_mixed (x y z v : V) : putK (dkv x y z) (Sum.inr "mixed" : Key) v = dkv x v z := by
  have h1 := kLM
  have h2 : ¬ (("turn" : Str) = "mixed") := fun e => kMD e.symm
  simp [putK, dkv, h1, h2]
theorem dk_get {H : Hp} {d : Addr} {x y z : V} {k : Str} {v : V} (h : H d = some (.dK (dkv x y z))) (e : valV (dkv x y z) (Sum.inr k : Key) = some v) : DGet H d (.str k) (some v) := by
  rw [← e]
  exact DGet.k (k := Sum.inr k) h
theorem dk_put {H : Hp} {d : Addr} {x y z : V} {k : Str} {v : V} {l : List (Key × V)} (h : H d = some (.dK (dkv x y z))) (e : putK (dkv x y z) (Sum.inr k : Key) v = l) : DPut H d (.str k) v (upd H d (.dK l)) := by
  rw [← e]
  exact DPut.k (k := Sum.inr k) h (by show 3 < sizeLine; rw [sizeLine_eq]; decide)
theorem ints_lay : ∀ ns : List Int, PyData.canLayAll0 (ns.map PyData.int) = true
  | [] => by simp [PyData.canLayAll0]
  | z :: zs => by simp [PyData.canLayAll0, PyData.canLay0, ints_lay zs]
theorem ints_deep : ∀ ns : List Int, PyData.depthAll (ns.map PyData.int) = 0
  | [] => by simp [PyData.depthAll]
  | z :: zs => by simp [PyData.depthAll, PyData.depth, ints_deep zs]
theorem ints_shaped (ns : List Int) : SeqAt.shaped (.list (ns.map PyData.int)) = true := by
  have h1 := ints_deep ns
  show (PyData.canLay0 (.list (ns.map PyData.int)) && decide (PyData.depth (.list (ns.map PyData.int)) ≤ 64)) = true
  rw [Bool.and_eq_true]
  exact ⟨by simp only [PyData.canLay0]; exact ints_lay ns, decide_eq_true (by simp only [PyData.depth]; omega)⟩
theorem nil_shaped : SeqAt.shaped (.list []) = true := ints_shaped []
theorem eqv_nil (ds : List PyData) : PyData.eqv (.list ds) (.list []) = ds.isEmpty := by
  cases ds <;> simp [PyData.eqv, PyData.eqvAll]
theorem ints_dp {K : PySem.W.Frag} {H : Hp} : ∀ ns : List Int, DpAll K H (ns.map V.int) (ns.map PyData.int)
  | [] => .nil
  | z :: zs => .cons (.int z) (ints_dp zs)
/-- a draw: some number below many; the deck alone changes -/
def spDraw : Sp := fun vs H Q _ => ∃ (dk l : Addr) (many : Int), vs = [.ref dk, .int many] ∧ Deck H dk l ∧ 0 < many ∧ many < 1073741824 ∧
  ∀ (r : Int) (H' : Hp), 0 ≤ r → r < many → Deck H' dk l → Keep dk l H H' → Q (.int r) H'
section
variable {P : Program} {w : World} {K : PySem.W.Frag} {mg : Str → Option Value} {base : Heap}
abbrev s__law_draw : Stmt := top 35
theorem sc__law_draw : FnScope ["deck", "below", "figure", "cell"] ["deck", "below"] (defScope s__law_draw) := ⟨rfl, rfl, rfl, by decide +kernel, rfl, by decide +kernel, by decide +kernel⟩
theorem ok__law_draw {f  : Addr} {fd  : FuncData}  (F : Fun K "_law_draw" "_law_draw" s__law_draw f fd) (T : Bt mg)  : FnOk P w K mg base CX0 1 f fd ["deck", "below"] spDraw := by
  refine F.ok sc__law_draw (fun vs H Q E h => ?_) (fun cdv A outer s H vs Q E hr h => ?_)
  · obtain ⟨dk, l, many, rfl, _⟩ := h
    rfl
  · obtain ⟨dk, l, many, rfl, D, m0, m1, k⟩ := h
    have hu := hu_of hr
    refine ⟨_, pss_cons (ps_dput hu (pv 0) pe_str (pe_op op_add (pe_dget hu (pv 0) pe_str (fun _ _ => rfl)) pe_int) rfl)
      (pss_cons (ps_set (i := 2) sc__law_draw.nd rfl (Or.inl rfl) (pe_op op_add (pe_dget hu (pv 0) pe_str (fun _ _ => rfl)) (pe_op op_mul pe_int (pe_dget hu (pv 0) pe_str (fun _ _ => rfl)))))
      (C8.pss_cut (ps_if (pt_cmpR (op_neD hr.units) (pe_dget hu (pv 0) pe_str (fun _ _ => rfl)) (pe_lst pa_nil) (nomark _))
        (pss_cons (ps_set (i := 3) sc__law_draw.nd rfl (Or.inl rfl) (pe_bm0 PySem.F.plainAttrs_list PySem.F.slot_list_pop PySem.F.type_list_pop mt_pop (pe_dget hu (pv 0) pe_str (fun _ _ => rfl))))
        (pss_cons (ps_if (pt_cmpR op_ge (pv 3) (pe_op op_pow pe_int pe_int) (nomark _))
          (pss_cons (ps_expr (pe_bm PySem.F.plainAttrs_list PySem.F.slot_list_append PySem.F.type_list_append mt_append (pe_dget hu (pv 0) pe_str (fun _ _ => rfl)) (pa_cons (pe_op op_fdiv (pv 3) (pe_callB (call_max2 rfl) (by rfl) T.max (by decide +kernel) (pa_cons pe_int (pa_cons (pv 1) pa_nil)))) pa_nil)))
          (pss_one (ps_ret (pe_op op_mod (pe_callTy call_int1 (by rfl) T.int (by decide +kernel) (pa_cons (pv 3) pa_nil)) (pv 1)))))
          pss_nil)
        (pss_one (ps_set (i := 2) sc__law_draw.nd rfl (Or.inl rfl) (pe_op op_add (pv 2) (pe_op op_mod (pe_callTy call_int1 (by rfl) T.int (by decide +kernel) (pa_cons (pv 3) pa_nil)) pe_int))))))
        pss_nil)
      (pss_cons (ps_set (i := 2) sc__law_draw.nd rfl (Or.inl rfl) (pe_op op_mod (pe_callTy call_int1 (by rfl) T.int (by decide +kernel) (pa_cons (pe_op op_add (pe_op op_mul (pv 2) pe_int) pe_int) pa_nil)) pe_int))
      (pss_cons (ps_set (i := 2) sc__law_draw.nd rfl (Or.inl rfl) (pe_op op_mod (pe_callTy call_int1 (by rfl) T.int (by decide +kernel) (pa_cons (pe_op op_add (pe_op op_add (pe_op op_mul (pv 2) (pv 2)) (pe_op op_mul pe_int (pe_dget hu (pv 0) pe_str (fun _ _ => rfl)))) pe_int) pa_nil)) pe_int))
      (pss_cons (ps_set (i := 2) sc__law_draw.nd rfl (Or.inl rfl) (pe_op op_mod (pe_callTy call_int1 (by rfl) T.int (by decide +kernel) (pa_cons (pe_op op_mul (pv 2) pe_int) pa_nil)) pe_int))
      (pss_one (ps_ret (pe_op op_mod (pe_callTy call_int1 (by rfl) T.int (by decide +kernel) (pa_cons (pe_op op_fdiv (pv 2) pe_int) pa_nil)) (pv 1))))))))), ?_⟩
    obtain ⟨ns, m, j, h1, h2, h3⟩ := id D
    have ne := D.ne
    refine ⟨_, rfl, dk, _, rfl, dk_get h1 (val_draws _ _ _), _, _, rfl, rfl, _, rfl, dk, _, rfl, dk_put h1 (put_draws _ _ _ _), ?_⟩
    have g1 : (upd H dk (.dK (dkv (.ref l) (.int m) (.int (j + 1))))) dk = some (.dK (dkv (.ref l) (.int m) (.int (j + 1)))) := upd_same
    have g2 : (upd H dk (.dK (dkv (.ref l) (.int m) (.int (j + 1))))) l = some (.lst (ns.map V.int)) := by rw [upd_ne ne.symm]; exact h2
    have kp : Keep dk l H (upd H dk (.dK (dkv (.ref l) (.int m) (.int (j + 1))))) := fun b o e hb _ => by rw [upd_ne hb]; exact e
    refine ⟨_, rfl, dk, _, rfl, dk_get g1 (val_mixed _ _ _), _, rfl, dk, _, rfl, dk_get g1 (val_draws _ _ _), _, _, rfl, rfl, .inl ⟨by decide, by decide⟩, _, _, rfl, rfl, ?_⟩
    refine ⟨fun σ' H' => ∃ (fg : Int) (c : Option V), σ' = [some (.ref dk), some (.int many), some (.int fg), c] ∧ Deck H' dk l ∧ Keep dk l H H', ?_, ?_⟩
    · refine ⟨_, rfl, dk, _, rfl, dk_get g1 (val_left _ _ _), ?_⟩
      refine ⟨(by show 0 ≤ sizeLine; exact Nat.zero_le _), fun p hp => ⟨.list (ns.map PyData.int), .list [], .lst (SqL.of ((snew hp) _ _ g2)) (ints_dp ns), .lst (SqL.of upd_same) .nil, ints_shaped ns, nil_shaped, _, rfl, ?_⟩⟩
      rw [eqv_nil]
      have sp := snew (o := .lst []) hp
      have q1 := sp _ _ g1
      have q2 := sp _ _ g2
      have kp1 := kp.trans (Keep.of sp)
      cases ns with
      | nil =>
        refine iteF ?_
        exact ⟨_, none, rfl, ⟨[], m, j + 1, q1, q2, h3⟩, kp1⟩
      | cons z zs =>
        refine iteT ?_
        obtain ⟨H1, eH1⟩ : ∃ H1, upd (upd H dk (.dK (dkv (.ref l) (.int m) (.int (j + 1))))) p (.lst []) = H1 := ⟨_, rfl⟩
        rw [eH1] at q1 q2 kp1
        show (tSeq _ _) _ _ (upd (upd H dk (.dK (dkv (.ref l) (.int m) (.int (j + 1))))) p (.lst []))
        rw [eH1]
        obtain ⟨y, hy⟩ : ∃ y : Int, ((z :: zs).map V.int)[((z :: zs).map V.int).length - 1]? = some (.int y) := by
          rw [List.length_map, List.getElem?_map]
          have hlt : (z :: zs).length - 1 < (z :: zs).length := by show zs.length < zs.length + 1; omega
          exact ⟨(z :: zs)[(z :: zs).length - 1], by rw [List.getElem?_eq_getElem hlt]; rfl⟩
        have hdl : ((z :: zs).map V.int).dropLast = ((z :: zs).dropLast).map V.int := by rw [List.map_dropLast]
        have hlen : ((z :: zs).dropLast).length ≤ 62 := by rw [List.length_dropLast]; omega
        refine ⟨_, rfl, dk, _, rfl, dk_get q1 (val_left _ _ _), .inl ⟨rfl, _, .inl (.inl q2)⟩, l, _, _, rfl, rfl, q2, hy, ?_⟩
        rw [hdl]
        have n1 : (upd H1 l (.lst (((z :: zs).dropLast).map V.int))) dk = some (.dK (dkv (.ref l) (.int m) (.int (j + 1)))) := by rw [upd_ne ne]; exact q1
        have kp2 : Keep dk l H (upd H1 l (.lst (((z :: zs).dropLast).map V.int))) := fun b o e hb hl => by rw [upd_ne hl]; exact kp1 b o e hb hl
        refine ⟨_, rfl, _, _, rfl, rfl, ⟨by decide, by decide, by decide⟩, _, _, rfl, rfl, _, rfl, ite2 (fun _ => ?_) (fun _ => ?_)⟩
        · refine ⟨_, rfl, dk, _, rfl, dk_get n1 (val_left _ _ _), .inl ⟨rfl, _, .inl (.inl upd_same)⟩, ?_⟩
          refine ⟨_, rfl, _, rfl, _, _, rfl, ?_⟩
          have cd : CDiv y (if many > 2 then many else 2) := by
            by_cases c : many > 2
            · rw [if_pos c]; exact ⟨m0, m1⟩
            · rw [if_neg c]; exact ⟨by decide, by decide⟩
          obtain ⟨by_, eby⟩ : ∃ b, (if many > 2 then many else 2) = b := ⟨_, rfl⟩
          rw [eby] at cd
          refine ⟨y, by_, rfl, (by rw [← eby]), cd, l, _, _, rfl, rfl, upd_same, small1000 (by rw [List.length_map]; omega), ?_⟩
          refine ⟨_, rfl, .inl ⟨_, rfl, _, rfl, _, _, rfl, rfl, m0, ?_⟩⟩
          refine k _ _ (Int.emod_nonneg _ (by omega)) (Int.emod_lt_of_pos _ m0) ⟨(z :: zs).dropLast ++ [y / by_], m, j + 1, ?_, ?_, ?_⟩ fun b o e hb hl => ?_
          · rw [upd_ne ne]; exact n1
          · rw [upd_same, List.map_append]; rfl
          · rw [List.length_append]; show _ + 1 ≤ 63; omega
          · rw [upd_ne hl]; exact kp2 b o e hb hl
        · refine ⟨_, rfl, _, rfl, .inl ⟨_, rfl, _, _, rfl, rfl, (by show (0 : Int) < 2147483497; decide), _, _, rfl, rfl, ?_⟩⟩
          exact ⟨_, some (.int y), rfl, ⟨(z :: zs).dropLast, m, j + 1, n1, upd_same, by omega⟩, kp2⟩
    · rintro σ' H' ⟨fg, c, rfl, ⟨ns', m', j', e1, e2, e3⟩, kp'⟩
      refine ⟨_, rfl, _, _, rfl, rfl, .inr ⟨by decide, by decide⟩, _, _, rfl, rfl, .inl ⟨_, rfl, _, _, rfl, rfl, (by show (0 : Int) < 2147483587; decide), ?_⟩⟩
      refine ⟨_, rfl, _, rfl, _, _, rfl, rfl, .inl ⟨by omega, by omega⟩, ?_⟩
      refine ⟨_, rfl, dk, _, rfl, dk_get e1 (val_draws _ _ _), _, _, rfl, rfl, .inl ⟨by decide, by decide⟩, _, _, rfl, rfl, _, _, rfl, rfl, .inl ⟨_, rfl, _, _, rfl, rfl, (by show (0 : Int) < 2147483629; decide), ?_⟩⟩
      refine ⟨_, rfl, _, _, rfl, rfl, .inr ⟨by decide, by decide⟩, .inl ⟨_, rfl, _, _, rfl, rfl, (by show (0 : Int) < 2147483543; decide), ?_⟩⟩
      refine ⟨_, rfl, _, _, rfl, rfl, ⟨by decide, by decide⟩, .inl ⟨_, rfl, _, rfl, _, _, rfl, rfl, m0, ?_⟩⟩
      exact k _ _ (Int.emod_nonneg _ (by omega)) (Int.emod_lt_of_pos _ m0) ⟨ns', m', j', e1, e2, e3⟩ kp'
end
theorem keepL {K : PySem.W.Frag} {dk l p : Addr} {H H' : Hp} {xs : List V} (k : Keep dk l H H') (h1 : p ≠ dk) (h2 : p ≠ l) (h : SqL K H p xs) : SqL K H' p xs := by
  rcases h with (h | ⟨o, h⟩) | h
  · exact .inl (.inl (k _ _ h h1 h2))
  · exact .inl (.inr ⟨o, k _ _ h h1 h2⟩)
  · exact .inr h
/-- what is new since -/
def new (H H' : Hp) : Hp := fun b => if H b = none then H' b else none
theorem new_at {H H' : Hp} {b : Addr} {o : HO} (h : H b = none) (e : H' b = some o) : new H H' b = some o := by
  unfold new
  rw [if_pos h]; exact e
theorem of_new {H H' : Hp} {b : Addr} {o : HO} (e : new H H' b = some o) : H b = none ∧ H' b = some o := by
  unfold new at e
  by_cases c : H b = none
  · rw [if_pos c] at e; exact ⟨c, e⟩
  · rw [if_neg c] at e; cases e
/-- what was there is there -/
def There (H H' : Hp) : Prop := ∀ b, H' b = none → H b = none
theorem Same.there {H H' : Hp} (h : Same H H') : There H H' := fun b e => h.free e
theorem There.trans {H H1 H2 : Hp} (h : There H H1) (k : There H1 H2) : There H H2 := fun b e => h b (k b e)
theorem Keep.there {dk l : Addr} {H H' : Hp} (k : Keep dk l H H') (D' : Deck H' dk l) : There H H' := fun b e => by
  cases q : H b with
  | none => rfl
  | some o =>
    obtain ⟨ns, m, j, h1, h2, _⟩ := D'
    by_cases c1 : b = dk
    · rw [c1, h1] at e; cases e
    · by_cases c2 : b = l
      · rw [c2, h2] at e; cases e
      · rw [k b o q c1 c2] at e; cases e
theorem new_back {H0 H H' : Hp} (t : There H0 H) : Same (new H H') (new H0 H') := fun b o e => new_at (t b (of_new e).1) (of_new e).2
theorem new_on {dk l : Addr} {H0 H H' : Hp} (k : Keep dk l H H') (h1 : H0 dk ≠ none) (h2 : H0 l ≠ none) : Same (new H0 H) (new H0 H') := fun b o e => by
  obtain ⟨e1, e2⟩ := of_new e
  exact new_at e1 (k b o e2 (fun z => h1 (z ▸ e1)) (fun z => h2 (z ▸ e1)))
theorem new_upd {H0 H : Hp} {d : Addr} {o : HO} (h : H0 d ≠ none) : Same (new H0 H) (new H0 (upd H d o)) := fun b u e => by
  obtain ⟨e1, e2⟩ := of_new e
  exact new_at e1 (by rw [upd_ne (fun z => h (by rw [← z]; exact e1))]; exact e2)
theorem new_same {H0 H H' : Hp} (h : Same H H') : Same (new H0 H) (new H0 H') := fun b o e => new_at (of_new e).1 (h _ _ (of_new e).2)
theorem Deck.some1 {H : Hp} {dk l : Addr} (D : Deck H dk l) : H dk ≠ none ∧ H l ≠ none := by
  obtain ⟨ns, m, j, h1, h2, _⟩ := D
  exact ⟨(by rw [h1]; exact fun z => nomatch z), by rw [h2]; exact fun z => nomatch z⟩
end N3

namespace N3
open PySem PySem.Spec PyProof.Rows L2 N2
/-! ### draws, picks, texts, common divisors of the laws with cells -/
theorem nat_abs (a : Int) : (if a < 0 then -a else a) = (a.natAbs : Int) := by split <;> omega
/-- a list or a tuple -/
def Sq (K : PySem.W.Frag) (H : Hp) (p : Addr) (xs : List V) : Prop := SqL K H p xs ∨ SqT K H p xs
theorem keepT {K : PySem.W.Frag} {dk l p : Addr} {H H' : Hp} {xs : List V} (k : Keep dk l H H') (h1 : p ≠ dk) (h2 : p ≠ l) (h : SqT K H p xs) : SqT K H' p xs := by
  rcases h with (h | ⟨o, h⟩) | h
  · exact .inl (.inl (k _ _ h h1 h2))
  · exact .inl (.inr ⟨o, k _ _ h h1 h2⟩)
  · exact .inr h
theorem keepS {K : PySem.W.Frag} {dk l p : Addr} {H H' : Hp} {xs : List V} (k : Keep dk l H H') (h1 : p ≠ dk) (h2 : p ≠ l) (h : Sq K H p xs) : Sq K H' p xs := h.imp (keepL k h1 h2) (keepT k h1 h2)
/-- one item of a list or a tuple, any -/
def spPick (K : PySem.W.Frag) : Sp := fun vs H Q _ => ∃ (dk l p : Addr) (xs : List V), vs = [.ref dk, .ref p] ∧ Deck H dk l ∧ Sq K H p xs ∧ p ≠ dk ∧ p ≠ l ∧ xs ≠ [] ∧ xs.length < 1073741824 ∧
  ∀ (x : V) (H' : Hp), x ∈ xs → Deck H' dk l → Keep dk l H H' → Q x H'
/-- two alike values have the same text -/
def spSame : Sp := fun vs H Q _ => ∃ (v v' : V) (d : PyData), vs = [v, v'] ∧ Dn H v d ∧ Dn H v' d ∧ d.showable = true ∧ d.depth ≤ 64 ∧ d.shown.length ≤ sizeLine ∧ Q (.bl true) H
def spCommon : Sp := fun vs H Q _ => ∃ a b : Int, vs = [.int a, .int b] ∧ Q (.int (Nat.gcd a.natAbs b.natAbs : Nat)) H
/-- a fraction in lowest terms -/
def Low (t b t' b' : Int) : Prop := t' * b = t * b' ∧ lowT t' b' = true ∧ b' ≤ b
def spLPole : Sp := fun vs H Q _ => ∃ t b : Int, vs = [.int t, .int b] ∧ 0 < b ∧ b.natAbs < 2 ^ 8000 ∧ ∀ (p : Addr) (t' b' : Int), H p = none → Low t b t' b' → Q (.ref p) (upd H p (.tup [.int t', .int b']))
/-- so many items of a list or a tuple, none twice -/
def spFew (K : PySem.W.Frag) : Sp := fun vs H Q _ => ∃ (dk l p : Addr) (n : Nat) (xs : List V), vs = [.ref dk, .int (n : Int), .ref p] ∧ Deck H dk l ∧ Sq K H p xs ∧ n ≤ xs.length ∧ xs.length ≤ 1000 ∧
  ∀ (q : Addr) (ys zs : List V) (H' : Hp), (ys ++ zs).Perm xs → ys.length = n → H q = none → H' q = some (.lst ys) → Deck H' dk l → Keep dk l H H' → Q (.ref q) H'
theorem pull_perm {α : Type} : ∀ (zs : List α) (j : Nat) (h : j < zs.length), (zs[j] :: zs.eraseIdx j).Perm zs
  | x :: xs, 0, _ => List.Perm.refl _
  | x :: xs, j + 1, h => by
    have q := pull_perm xs j (by simpa using h)
    show (xs[j]'(by simpa using h) :: x :: xs.eraseIdx j).Perm (x :: xs)
    exact (List.Perm.swap _ _ _).trans (List.Perm.cons x q)
theorem low_of {t b : Int} (hb : 0 < b) : Low t b (t / (Nat.gcd t.natAbs b.natAbs : Nat)) (b / (Nat.gcd t.natAbs b.natAbs : Nat)) := by
  have gp : 0 < Nat.gcd t.natAbs b.natAbs := Nat.gcd_pos_of_pos_right _ (by omega)
  obtain ⟨u, hu⟩ := Int.ofNat_dvd_left.mpr (Nat.gcd_dvd_left t.natAbs b.natAbs)
  obtain ⟨v, hv⟩ := Int.ofNat_dvd_left.mpr (Nat.gcd_dvd_right t.natAbs b.natAbs)
  obtain ⟨g, eg⟩ : ∃ g, Nat.gcd t.natAbs b.natAbs = g := ⟨_, rfl⟩
  rw [eg] at gp hu hv ⊢
  have g0 : (g : Int) ≠ 0 := by omega
  have eu : t / (g : Int) = u := by rw [hu]; exact Int.mul_ediv_cancel_left _ g0
  have ev : b / (g : Int) = v := by rw [hv]; exact Int.mul_ediv_cancel_left _ g0
  rw [eu, ev]
  have v1 : 0 < v := by
    rcases Int.lt_or_le 0 v with z | z
    · exact z
    · have := Int.mul_nonpos_of_nonneg_of_nonpos (show (0 : Int) ≤ g by omega) z
      omega
  refine ⟨by rw [hu, hv]; simp only [Int.mul_comm, Int.mul_left_comm, Int.mul_assoc], ?_, ?_⟩
  · unfold lowT
    rw [Bool.and_eq_true, decide_eq_true_iff, decide_eq_true_iff]
    refine ⟨by omega, ?_⟩
    have e1 : t.natAbs = g * u.natAbs := by rw [hu, Int.natAbs_mul]; rfl
    have e2 : b.natAbs = g * v.natAbs := by rw [hv, Int.natAbs_mul]; rfl
    rw [e1, e2, Nat.gcd_mul_left] at eg
    exact Nat.eq_of_mul_eq_mul_left gp (by omega)
  · have : 1 * v ≤ (g : Int) * v := Int.mul_le_mul_of_nonneg_right (by omega) (by omega)
    omega
section
variable {P : Program} {w : World} {K : PySem.W.Frag} {mg : Str → Option Value} {base : Heap}
abbrev s__law_pick : Stmt := top 36
theorem sc__law_pick : FnScope ["deck", "some"] ["deck", "some"] (defScope s__law_pick) := ⟨rfl, rfl, rfl, by decide +kernel, rfl, by decide +kernel, by decide +kernel⟩
theorem ok__law_pick {f f__law_draw : Addr} {fd d__law_draw : FuncData}  (F : Fun K "_law_pick" "_law_pick" s__law_pick f fd) (T : Bt mg) (l_draw : Kn P w K mg base 1 "_law_draw" ["deck", "below"] spDraw f__law_draw d__law_draw) : FnOk P w K mg base CX0 2 f fd ["deck", "some"] (spPick K) := by
  refine F.ok sc__law_pick (fun vs H Q E h => ?_) (fun cdv A outer s H vs Q E hr h => ?_)
  · obtain ⟨dk, l, p, xs, rfl, _⟩ := h
    rfl
  · obtain ⟨dk, l, p, xs, rfl, De, hS, n1, n2, ne, hl, k⟩ := h
    refine ⟨_, pss_one (ps_ret (pe_ix (r := rIx K) ix_seq (pv 1) (pe_call l_draw.ok (hr.mono (by decide)) rfl l_draw.mg l_draw.kp l_draw.bd .nil pass0 (pa_cons (pv 0) (pa_cons (pe_callB call_len (by rfl) T.len PySem.boot_len (pa_cons (pv 1) pa_nil)) pa_nil))) (fun _ _ => rfl))), ?_⟩
    have hpos : 0 < xs.length := List.length_pos_iff.mpr ne
    refine ⟨_, rfl, _, rfl, _, rfl, .ref p, xs.length, rfl, ?_, dk, l, (xs.length : Int), rfl, De, by omega, by omega, fun r H' r0 r1 De' kp => ?_⟩
    · rcases hS with h | h
      · exact .inl ⟨xs, h, rfl⟩
      · exact .inr ⟨xs, h, rfl⟩
    obtain ⟨j, rfl⟩ : ∃ j : Nat, r = (j : Int) := ⟨r.toNat, by omega⟩
    have hj : j < xs.length := by omega
    have fin := k _ H' (List.getElem_mem hj) De' kp
    rcases keepS kp n1 n2 hS with h | h
    · exact .inl ⟨p, xs, _, _, rfl, rfl, h, atI_nat (List.getElem?_eq_getElem hj), fin⟩
    · exact .inr (.inl ⟨p, xs, _, _, rfl, rfl, h, atI_nat (List.getElem?_eq_getElem hj), fin⟩)
abbrev s__law_same : Stmt := top 37
theorem sc__law_same : FnScope ["told", "due"] ["told", "due"] (defScope s__law_same) := ⟨rfl, rfl, rfl, by decide +kernel, rfl, by decide +kernel, by decide +kernel⟩
theorem ok__law_same {f  : Addr} {fd  : FuncData} (sy : Sy base) (F : Fun K "_law_same" "_law_same" s__law_same f fd) (T : Bt mg)  : FnG P w K mg base 1 f fd ["told", "due"] spSame := by
  refine fn_idle F sc__law_same (fun vs H Q E h => ?_) (fun cdv A outer s H vs Q hr hi h => ?_)
  · obtain ⟨v, v', d, rfl, _⟩ := h
    rfl
  · obtain ⟨v, v', d, rfl, h1, h2, o1, o2, o3, k⟩ := h
    have hu : (A.deeper (envOfC "_law_same" (defScope s__law_same) s.heap.objs.size f cdv)).units + 70 < cLine := by have := hr.un; omega
    refine ⟨_, pss_one (ps_ret (pe_cmpR op_eq (pe_callB (call_repr sy hi hu) (by rfl) T.repr (by decide +kernel) (pa_cons (pv 0) pa_nil)) (pe_callB (call_repr sy hi hu) (by rfl) T.repr (by decide +kernel) (pa_cons (pv 1) pa_nil)) (nomark _))), ?_⟩
    refine ⟨_, rfl, v, d, rfl, h1, o1, o2, o3, _, rfl, v', d, rfl, h2, o1, o2, o3, ?_⟩
    generalize d.shown = S
    refine ⟨rfl, ?_⟩
    rw [decide_eq_true (rfl : V.str S = V.str S)]
    exact k
abbrev s__law_gcd : Stmt := top 38
theorem sc__law_gcd : FnScope ["one", "other"] ["one", "other"] (defScope s__law_gcd) := ⟨rfl, rfl, rfl, by decide +kernel, rfl, by decide +kernel, by decide +kernel⟩
theorem ok__law_gcd {f  : Addr} {fd  : FuncData}  (F : Fun K "_law_gcd" "_law_gcd" s__law_gcd f fd) (T : Bt mg)  : FnOk P w K mg base CX0 1 f fd ["one", "other"] spCommon := by
  refine F.ok sc__law_gcd (fun vs H Q E h => ?_) (fun cdv A outer s H vs Q E hr h => ?_)
  · obtain ⟨a, b, rfl, _⟩ := h
    rfl
  · obtain ⟨a, b, rfl, k⟩ := h
    refine ⟨_, pss_cons (ps_par (i := 0) (j := 1) rfl sc__law_gcd.nd rfl rfl (by decide) rfl rfl (pa_cons (pe_callB call_abs (by rfl) T.abs (by decide +kernel) (pa_cons (pv 0) pa_nil)) (pa_cons (pe_callB call_abs (by rfl) T.abs (by decide +kernel) (pa_cons (pv 1) pa_nil)) pa_nil)) (by rfl))
      (pss_cons (ps_while PassesOwn.never (pt_cmpR op_ne (pv 1) pe_int (nomark _))
        (pss_one (ps_par (i := 0) (j := 1) rfl sc__law_gcd.nd rfl rfl (by decide) rfl rfl (pa_cons (pv 1) (pa_cons (pe_op op_mod (pe_callTy call_int1 (by rfl) T.int (by decide +kernel) (pa_cons (pv 0) pa_nil)) (pv 1)) pa_nil)) (by rfl))))
      (pss_one (ps_ret (pv 0)))), ?_⟩
    refine ⟨_, rfl, a, rfl, _, rfl, b, rfl, _, _, rfl, ?_⟩
    refine ⟨fun m σ H' => ∃ x y : Nat, σ = [some (.int (x : Int)), some (.int (y : Int))] ∧ H' = H ∧ Nat.gcd x y = Nat.gcd a.natAbs b.natAbs ∧ m = y, ⟨_, a.natAbs, b.natAbs, by rw [← nat_abs, ← nat_abs]; rfl, rfl, rfl, rfl⟩, ?_⟩
    rintro m σ H1 ⟨x, y, rfl, rfl, g, rfl⟩
    refine ⟨_, rfl, rfl, _, rfl, ite_b (fun c => ?_) (fun c => ?_)⟩
    · have c' : 0 < m := by
        rcases Nat.eq_zero_or_pos m with z | z
        · subst z; simp at c
        · exact z
      refine ⟨fun σ' H' => σ' = [some (.int (m : Int)), some (.int ((x % m : Nat) : Int))] ∧ H' = H1, fun σ' H' ⟨e1, e2⟩ => ⟨x % m, Nat.mod_lt _ c', m, x % m, e1, e2, ?_, rfl⟩, ?_⟩
      · rw [← g, Nat.gcd_comm x m, Nat.gcd_rec m x, Nat.gcd_comm]
      · refine ⟨_, rfl, _, rfl, .inl ⟨_, rfl, _, rfl, _, _, rfl, rfl, by omega, _, _, rfl, ?_⟩⟩
        exact ⟨by rw [Int.natCast_emod]; rfl, rfl⟩
    · have c' : m = 0 := by
        rcases Nat.eq_zero_or_pos m with z | z
        · exact z
        · exfalso
          have : (V.int (m : Int)) = V.int 0 := by simpa using c
          have := V.int.inj this
          omega
      subst c'
      rw [Nat.gcd_zero_right] at g
      exact ⟨_, rfl, by rw [g]; exact k⟩
abbrev s__law_pole : Stmt := top 39
theorem sc__law_pole : FnScope ["top", "bottom", "shared"] ["top", "bottom"] (defScope s__law_pole) := ⟨rfl, rfl, rfl, by decide +kernel, rfl, by decide +kernel, by decide +kernel⟩
theorem ok__law_pole {f f__law_gcd : Addr} {fd d__law_gcd : FuncData}  (F : Fun K "_law_pole" "_law_pole" s__law_pole f fd) (T : Bt mg) (l_gcd : Kn P w K mg base 1 "_law_gcd" ["one", "other"] spCommon f__law_gcd d__law_gcd) : FnOk P w K mg base CX0 2 f fd ["top", "bottom"] spLPole := by
  refine F.ok sc__law_pole (fun vs H Q E h => ?_) (fun cdv A outer s H vs Q E hr h => ?_)
  · obtain ⟨t, b, rfl, _⟩ := h
    rfl
  · obtain ⟨t, b, rfl, b0, bl, k⟩ := h
    refine ⟨_, pss_cons (ps_set (i := 2) sc__law_pole.nd rfl (Or.inl rfl) (pe_call l_gcd.ok (hr.mono (by decide)) rfl l_gcd.mg l_gcd.kp l_gcd.bd .nil pass0 (pa_cons (pv 0) (pa_cons (pv 1) pa_nil))))
      (C8.pss_cut (ps_if (pt_cmpR op_lt (pv 1) pe_int (nomark _))
        (pss_one (ps_set (i := 2) sc__law_pole.nd rfl (Or.inl rfl) (pe_un un_neg (pv 2))))
        pss_nil)
      (pss_one (ps_ret (pe_tup (pa_cons (pe_op op_fdivW (pv 0) (pv 2)) (pa_cons (pe_op op_fdivW (pv 1) (pv 2)) pa_nil)))))), ?_⟩
    refine ⟨_, rfl, _, rfl, t, b, rfl, ?_⟩
    refine ⟨fun σ' H' => σ' = [some (.int t), some (.int b), some (.int (Nat.gcd t.natAbs b.natAbs : Nat))] ∧ H' = H, ⟨_, rfl, _, _, rfl, rfl, _, rfl, ?_⟩, ?_⟩
    · have c : decide (b < 0) = false := decide_eq_false (by omega)
      rw [c]
      exact iteF ⟨rfl, rfl⟩
    · rintro σ' H' ⟨rfl, rfl⟩
      have gp : 0 < Nat.gcd t.natAbs b.natAbs := Nat.gcd_pos_of_pos_right _ (by omega)
      have gl : Nat.gcd t.natAbs b.natAbs ≤ b.natAbs := Nat.le_of_dvd (by omega) (Nat.gcd_dvd_right _ _)
      have lg : ((Nat.gcd t.natAbs b.natAbs : Nat) : Int).natAbs.log2 < 9000 := by
        show (Nat.gcd t.natAbs b.natAbs).log2 < 9000
        have := (Nat.log2_lt (by omega : Nat.gcd t.natAbs b.natAbs ≠ 0)).mpr (show Nat.gcd t.natAbs b.natAbs < 2 ^ 8000 from Nat.lt_of_le_of_lt gl bl)
        omega
      have gz : (0 : Int) < (Nat.gcd t.natAbs b.natAbs : Nat) := by omega
      refine ⟨_, rfl, _, rfl, _, _, rfl, rfl, ⟨gz, lg⟩, _, rfl, _, rfl, _, _, rfl, rfl, ⟨gz, lg⟩, by show 2 ≤ sizeLine; rw [sizeLine_eq]; decide, fun p hp => ?_⟩
      exact k p _ _ hp (low_of b0)
abbrev s__law_few : Stmt := top 40
theorem sc__law_few : FnScope ["deck", "many", "menu", "left", "found", "turn"] ["deck", "many", "menu"] (defScope s__law_few) := ⟨rfl, rfl, rfl, by decide +kernel, rfl, by decide +kernel, by decide +kernel⟩
theorem ok__law_few {f f__law_draw : Addr} {fd d__law_draw : FuncData}  (F : Fun K "_law_few" "_law_few" s__law_few f fd) (T : Bt mg) (l_draw : Kn P w K mg base 1 "_law_draw" ["deck", "below"] spDraw f__law_draw d__law_draw) : FnOk P w K mg base CX0 2 f fd ["deck", "many", "menu"] (spFew K) := by
  refine F.ok sc__law_few (fun vs H Q E h => ?_) (fun cdv A outer s H vs Q E hr h => ?_)
  · obtain ⟨dk, l, p, n, xs, rfl, _⟩ := h
    rfl
  · obtain ⟨dk, l, p, n, xs, rfl, De, hS, hn, hl, k⟩ := h
    refine ⟨_, pss_cons (ps_par (i := 3) (j := 4) rfl sc__law_few.nd rfl rfl (by decide) rfl rfl (pa_cons (pe_callTy call_list_of (by rfl) T.list (by decide +kernel) (pa_cons (pv 2) pa_nil)) (pa_cons (pe_lst pa_nil) pa_nil)) (by rfl))
      (pss_cons (ps_for PassesOwn.never rfl (pi_range1 rfl T.range (pa_cons (pv 1) pa_nil)) (pg_name (i := 5) sc__law_few.nd rfl (Or.inl rfl))
        (pss_one (ps_expr (pe_bm PySem.F.plainAttrs_list PySem.F.slot_list_append PySem.F.type_list_append mt_append (pv 4) (pa_cons (pe_bm PySem.F.plainAttrs_list PySem.F.slot_list_pop PySem.F.type_list_pop mt_popAt (pv 3) (pa_cons (pe_call l_draw.ok (hr.mono (by decide)) rfl l_draw.mg l_draw.kp l_draw.bd .nil pass0 (pa_cons (pv 0) (pa_cons (pe_callB call_len (by rfl) T.len PySem.boot_len (pa_cons (pv 3) pa_nil)) pa_nil))) pa_nil)) pa_nil)))))
      (pss_one (ps_ret (pv 4)))), ?_⟩
    refine ⟨_, rfl, p, xs, rfl, hS, fun a ha => ⟨Nat.zero_le _, fun fl hf => ?_⟩⟩
    have n1 : fl ≠ a := (ne_of_none upd_same hf).symm
    have sa := snew (o := .lst xs) ha
    have sf := snew (o := .lst []) hf
    have hfH : H fl = none := sa.free hf
    have nd1 : a ≠ dk := fun z => De.some1.1 (z ▸ ha)
    have nd2 : a ≠ l := fun z => De.some1.2 (z ▸ ha)
    have nf1 : fl ≠ dk := fun z => De.some1.1 (z ▸ hfH)
    have nf2 : fl ≠ l := fun z => De.some1.2 (z ▸ hfH)
    refine ⟨_, _, rfl, _, rfl, n, rfl, by omega, by omega, for_range (lo := 0) (n := n) (fun i σ H' => ∃ (ys zs : List V) (x : Option V), σ = [some (.ref dk), some (.int (n : Int)), some (.ref p), some (.ref a), some (.ref fl), x] ∧ (ys ++ zs).Perm xs ∧ ys.length = i ∧
        H' a = some (.lst zs) ∧ H' fl = some (.lst ys) ∧ Deck H' dk l ∧ Keep dk l H H') ⟨[], xs, none, rfl, List.Perm.refl _, rfl, sf _ _ upd_same, upd_same, (De.same sa).same sf, Keep.of (sa.trans sf)⟩ ?_ ?_⟩
    · rintro i σ H' hi ⟨ys, zs, x, rfl, pm, ly, ea, ef, D', kp⟩
      have lz : zs.length = xs.length - i := by
        have := pm.length_eq
        rw [List.length_append] at this; omega
      refine ⟨_, rfl, .inl ⟨rfl, _, .inl (.inl ef)⟩, _, rfl, .inl ⟨rfl, _, .inl (.inl ea)⟩, _, rfl, _, rfl, .ref a, zs.length, rfl, .inl ⟨zs, SqL.of ea, rfl⟩, dk, l, (zs.length : Int), rfl, D', by omega, by omega, fun r H2 r0 r1 D2 k2 => ?_⟩
      obtain ⟨j, rfl⟩ : ∃ j : Nat, r = (j : Int) := ⟨r.toNat, by omega⟩
      have hj : j < zs.length := by omega
      have ea2 := k2 _ _ ea nd1 nd2
      have ef2 := k2 _ _ ef nf1 nf2
      refine ⟨a, zs, (j : Int), j, zs[j], rfl, rfl, ea2, by omega, by omega, PySem.seqIndex_of (by omega) (by omega), List.getElem?_eq_getElem hj, ?_⟩
      refine ⟨fl, ys, _, rfl, rfl, by rw [upd_ne n1]; exact ef2, small1000 (by omega), ?_⟩
      refine ⟨ys ++ [zs[j]], zs.eraseIdx j, _, rfl, ?_, by rw [List.length_append, ly]; rfl, by rw [upd_ne n1.symm]; exact upd_same, upd_same, ?_, fun b o e h1 h2 => ?_⟩
      · have q : (zs[j] :: zs.eraseIdx j).Perm zs := pull_perm zs j hj
        have : (ys ++ [zs[j]] ++ zs.eraseIdx j) = ys ++ (zs[j] :: zs.eraseIdx j) := by rw [List.append_assoc]; rfl
        rw [this]
        exact (List.Perm.append_left ys q).trans pm
      · obtain ⟨ns', m', j', x1, x2, x3⟩ := D2
        exact ⟨ns', m', j', by rw [upd_ne nf1.symm, upd_ne nd1.symm]; exact x1, by rw [upd_ne nf2.symm, upd_ne nd2.symm]; exact x2, x3⟩
      · have q := k2 b o (kp b o e h1 h2) h1 h2
        rw [upd_ne (ne_of_none e hfH), upd_ne (ne_of_none e ha)]
        exact q
    · rintro σ H' ⟨ys, zs, x, rfl, pm, ly, ea, ef, D', kp⟩
      exact ⟨_, rfl, k fl ys zs H' pm ly hfH ef D' kp⟩
end
end N3

namespace N3
open PySem PySem.Spec PyProof.Rows L2
theorem walk_zipT {K : PySem.W.Frag} {a b : Addr} {xs ys : List V} {n : Nat} (hn : n = min xs.length ys.length) : Walk (RZ.ItzT K a b) n (fun H => SqT K H a xs ∧ SqT K H b ys) (YPair (fun i => xs[i]?) (fun i => ys[i]?)) where
  goes := fun i H hi q => by
    have h1 : i < xs.length := by omega
    have h2 : i < ys.length := by omega
    exact ⟨xs, ys, xs[i], ys[i], q.1, q.2, List.getElem?_eq_getElem h1, List.getElem?_eq_getElem h2⟩
  stops := fun H q => ⟨xs, ys, q.1, q.2, by omega⟩
  yields := fun i H v H' hi q y => by
    obtain ⟨T, x, z, e, n1, h, f1, f2⟩ := y
    exact ⟨T, x, z, e, n1, h, f1 xs q.1, f2 ys q.2⟩
theorem walk_zipL {K : PySem.W.Frag} {a b : Addr} {xs ys : List V} {n : Nat} (hn : n = min xs.length ys.length) : Walk (Itz K a b) n (fun H => SqL K H a xs ∧ SqL K H b ys) (YPair (fun i => xs[i]?) (fun i => ys[i]?)) where
  goes := fun i H hi q => by
    have h1 : i < xs.length := by omega
    have h2 : i < ys.length := by omega
    exact ⟨xs, ys, xs[i], ys[i], q.1, q.2, List.getElem?_eq_getElem h1, List.getElem?_eq_getElem h2⟩
  stops := fun H q => ⟨xs, ys, q.1, q.2, by omega⟩
  yields := fun i H v H' hi q y => by
    obtain ⟨T, x, z, e, n1, h, f1, f2⟩ := y
    exact ⟨T, x, z, e, n1, h, f1 xs q.1, f2 ys q.2⟩
end N3

namespace N3
open PySem PySem.Spec PyProof.Rows L2
/-! ### comprehensions that map, and that choose -/
theorem small_m' {n : Nat} (h : n ≤ 1000000) : n < sizeLine := by rw [sizeLine_eq]; omega
/-- tuples stay -/
def Tst (H H' : Hp) : Prop := ∀ (a : Addr) (xs : List V), H a = some (.tup xs) → H' a = some (.tup xs)
theorem Tst.of {H H' : Hp} (s : Same H H') : Tst H H' := fun a xs e => s _ _ e
theorem Tst.trans {H H1 H2 : Hp} (s : Tst H H1) (t : Tst H1 H2) : Tst H H2 := fun a xs e => t _ _ (s _ _ e)
theorem Tst.refl (H : Hp) : Tst H H := fun _ _ e => e
theorem Tst.deck {H H' : Hp} {dk l : Addr} (D : Deck H dk l) (k : Keep dk l H H') : Tst H H' := fun a xs e => by
  obtain ⟨ns, m, j, h1, h2, _⟩ := D
  exact k a _ e (fun z => by rw [z, h1] at e; cases e) fun z => by rw [z, h2] at e; cases e
theorem Tst.put {H : Hp} {D : Addr} {l l' : List V} (h : H D = some (.lst l)) : Tst H (upd H D (.lst l')) := fun a xs e => by
  rw [upd_ne (fun z => by rw [z, h] at e; cases e)]; exact e
theorem same_sqt {K : PySem.W.Frag} {H H' : Hp} {a : Addr} {xs : List V} (s : Same H H') (h : SqT K H a xs) : SqT K H' a xs := by
  rcases h with (h | ⟨o, h⟩) | h
  · exact .inl (.inl (s _ _ h))
  · exact .inl (.inr ⟨o, s _ _ h⟩)
  · exact .inr h
section
variable {J : It} {n : Nat} {G : Hp → Prop} {Y : Nat → Hp → V → Hp → Prop} {g : TG} {tt : TT} {te : TE} {vs : List Nat} {σ : L2.St} {H : Hp} {D : Addr} {Qd : Hp → Prop}
theorem lc_map (W : Walk J n G Y) (hG : ∀ H', Same H H' → G H') (R : Nat → V → Hp → Prop) (Rm : ∀ j y H1 H2, Tst H1 H2 → R j y H1 → R j y H2) (hn : n ≤ 1000000) (hD : H D = none)
    (step : ∀ (j : Nat) (x : V) (H1 H2 : Hp) (Q' : V → Hp → Prop), j < n → Same H H1 → Y j H1 x H2 → (∀ y H3, R j y H3 → Same H1 H3 → Q' y H3) → g x (wipe σ vs) H2 fun σ2 H3 => wipe σ2 vs = wipe σ vs ∧ te σ2 H3 Q')
    (fin : ∀ (ys : List V) (H' : Hp), H' D = some (.lst ys) → ys.length = n → (∀ (j : Nat) (y : V), ys[j]? = some y → R j y H') → Same H H' → Qd H') :
    ∃ W : Nat → Nat → Hp → Prop, (∃ m, W 0 m (upd H D (.lst []))) ∧ ∀ i m H, W i m H →
      (J.stop i H ∧ Qd H) ∨ (J.go i H ∧ ∃ Nx : Hp → Prop, (∀ H', Nx H' → ∃ m', m' < m ∧ W (i + 1) m' H') ∧ ∀ x H', J.yld i H x H' → g x (wipe σ vs) H' fun σ2 H2 => wipe σ2 vs = wipe σ vs ∧ tYes σ2 H2 fun b H3 =>
        if b = true then te σ2 H3 fun y H4 => ∃ acc, H4 D = some (.lst acc) ∧ acc.length < sizeLine ∧ Nx (upd H4 D (.lst (acc ++ [y]))) else Nx H3) := by
  refine lc_it W (fun i H' => ∃ ys : List V, H' D = some (.lst ys) ∧ ys.length = i ∧ (∀ (j : Nat) (y : V), ys[j]? = some y → R j y H') ∧ Same H H') ⟨[], upd_same, rfl, fun j y e => by simp at e, snew hD⟩ (fun i H' _ ⟨_, _, _, _, s⟩ => hG H' s) ?_ ?_
  · rintro i x H1 H2 hi ⟨ys, e1, e2, e3, s1⟩ y
    refine step i x H1 H2 _ hi s1 y fun v H3 r s3 => ?_
    have e1' := s3 _ _ e1
    refine ⟨ys, e1', small_m' (by omega), ys ++ [v], upd_same, by rw [List.length_append, e2]; rfl, fun j u e => ?_, fun b o e => ?_⟩
    · have tp : Tst H3 (upd H3 D (.lst (ys ++ [v]))) := Tst.put e1'
      rcases Nat.lt_or_ge j ys.length with c | c
      · rw [List.getElem?_append_left c] at e
        exact Rm _ _ _ _ ((Tst.of s3).trans tp) (e3 j u e)
      · rw [List.getElem?_append_right c] at e
        have : j = ys.length := by
          rcases Nat.lt_or_ge (j - ys.length) 1 with d | d
          · omega
          · rw [List.getElem?_eq_none (by simpa using d)] at e; cases e
        subst this
        rw [Nat.sub_self] at e
        cases e
        rw [e2]
        exact Rm _ _ _ _ tp r
    · rw [upd_ne (ne_of_none e hD)]; exact s3 _ _ (s1 _ _ e)
  · rintro H' ⟨ys, e1, e2, e3, s1⟩
    exact fin ys H' e1 e2 e3 s1
theorem fil_succ {p : Nat → Bool} {f : Nat → V} {i : Nat} : ((List.range (i + 1)).filter p).map f = ((List.range i).filter p).map f ++ (if p i = true then [f i] else []) := by
  rw [List.range_succ, List.filter_append, List.map_append]
  congr 1
  by_cases c : p i = true
  · rw [if_pos c]; simp [c]
  · rw [if_neg c]; simp [c]
theorem lc_fil (W : Walk J n G Y) (hG : ∀ H', Same H H' → G H') (p : Nat → Bool) (f : Nat → V) (hn : n ≤ 1000000) (hD : H D = none)
    (step : ∀ (j : Nat) (x : V) (H1 H2 : Hp) (Q1 : V → Hp → Prop) (Q0 : Hp → Prop), j < n → Same H H1 → Y j H1 x H2 → (∀ H3, Same H1 H3 → p j = true → Q1 (f j) H3) → (∀ H3, Same H1 H3 → p j = false → Q0 H3) →
      g x (wipe σ vs) H2 fun σ2 H3 => wipe σ2 vs = wipe σ vs ∧ tt σ2 H3 fun b H4 => if b = true then te σ2 H4 Q1 else Q0 H4)
    (fin : ∀ (H' : Hp), H' D = some (.lst (((List.range n).filter p).map f)) → Same H H' → Qd H') :
    ∃ W : Nat → Nat → Hp → Prop, (∃ m, W 0 m (upd H D (.lst []))) ∧ ∀ i m H, W i m H →
      (J.stop i H ∧ Qd H) ∨ (J.go i H ∧ ∃ Nx : Hp → Prop, (∀ H', Nx H' → ∃ m', m' < m ∧ W (i + 1) m' H') ∧ ∀ x H', J.yld i H x H' → g x (wipe σ vs) H' fun σ2 H2 => wipe σ2 vs = wipe σ vs ∧ tt σ2 H2 fun b H3 =>
        if b = true then te σ2 H3 fun y H4 => ∃ acc, H4 D = some (.lst acc) ∧ acc.length < sizeLine ∧ Nx (upd H4 D (.lst (acc ++ [y]))) else Nx H3) := by
  refine lc_it W (fun i H' => H' D = some (.lst (((List.range i).filter p).map f)) ∧ Same H H') ⟨upd_same, snew hD⟩ (fun i H' _ h => hG H' h.2) ?_ ?_
  · rintro i x H1 H2 hi ⟨e1, s1⟩ y
    refine step i x H1 H2 _ _ hi s1 y (fun H3 s3 c => ?_) (fun H3 s3 c => ?_)
    · refine ⟨_, s3 _ _ e1, small_m' ?_, ?_, fun b o e => ?_⟩
      · have : ((List.range i).filter p).length ≤ (List.range i).length := List.length_filter_le _ _
        rw [List.length_range] at this
        rw [List.length_map]; omega
      · rw [fil_succ, if_pos c]; exact upd_same
      · rw [upd_ne (ne_of_none e hD)]; exact s3 _ _ (s1 _ _ e)
    · refine ⟨?_, s1.trans s3⟩
      rw [fil_succ, if_neg (by rw [c]; exact fun z => nomatch z), List.append_nil]
      exact s3 _ _ e1
  · rintro H' ⟨e1, s1⟩
    exact fin H' e1 s1
end
section
variable {J : It} {n : Nat} {G : Hp → Prop} {Y : Nat → Hp → V → Hp → Prop} {g : TG} {tt : TT} {R : L2.St → Hp → (Hp → Prop) → Prop} {vs : List Nat} {σ : L2.St} {H1 : Hp} {D : Addr} {Qd : Hp → Prop}
/-- the outer walk of a comprehension with more -/
theorem l3_out (w : Walk J n G Y) (Pv : Nat → Hp → Prop) (h0 : Pv 0 (upd H1 D (.lst []))) (hG : ∀ i H, i ≤ n → Pv i H → G H)
    (hs : ∀ i x H H', i < n → Pv i H → Y i H x H' → g x (wipe σ vs) H' fun σ2 H2 => wipe σ2 vs = wipe σ vs ∧ tt σ2 H2 fun b H3 => if b = true then R σ2 H3 (Pv (i + 1)) else Pv (i + 1) H3) (hd : ∀ H, Pv n H → Qd H) :
    ∃ W : Nat → Nat → Hp → Prop, (∃ m, W 0 m (upd H1 D (.lst []))) ∧ ∀ i m H, W i m H → (J.stop i H ∧ Qd H) ∨ (J.go i H ∧ ∃ N : Hp → Prop, (∀ H', N H' → ∃ m', m' < m ∧ W (i + 1) m' H') ∧
      ∀ x H', J.yld i H x H' → g x (wipe σ vs) H' fun σ2 H2 => wipe σ2 vs = wipe σ vs ∧ tt σ2 H2 fun b H3 => if b = true then R σ2 H3 N else N H3) := by
  refine ⟨fun i m H => m = n - i ∧ i ≤ n ∧ Pv i H, ⟨n, by simp, Nat.zero_le _, h0⟩, fun i m H ⟨em, hi, p⟩ => ?_⟩
  by_cases lt : i < n
  · exact .inr ⟨w.goes i H lt (hG i H hi p), Pv (i + 1), fun H' p' => ⟨n - (i + 1), by omega, rfl, lt, p'⟩, fun x H' y => hs i x H H' lt p (w.yields i H x H' lt (hG i H hi p) y)⟩
  · obtain rfl : i = n := by omega
    exact .inl ⟨w.stops H (hG i H hi p), hd H p⟩
/-- an inner walk -/
theorem l3_in (w : Walk J n G Y) (Pv : Nat → Hp → Prop) (h0 : Pv 0 H1) (hG : ∀ i H, i ≤ n → Pv i H → G H)
    (hs : ∀ i x H H', i < n → Pv i H → Y i H x H' → g x (wipe σ vs) H' fun σ2 H2 => wipe σ2 vs = wipe σ vs ∧ tt σ2 H2 fun b H3 => if b = true then R σ2 H3 (Pv (i + 1)) else Pv (i + 1) H3) (hd : ∀ H, Pv n H → Qd H) :
    ∃ W : Nat → Nat → Hp → Prop, (∃ m, W 0 m H1) ∧ ∀ i m H, W i m H → (J.stop i H ∧ Qd H) ∨ (J.go i H ∧ ∃ N : Hp → Prop, (∀ H', N H' → ∃ m', m' < m ∧ W (i + 1) m' H') ∧
      ∀ x H', J.yld i H x H' → g x (wipe σ vs) H' fun σ2 H2 => wipe σ2 vs = wipe σ vs ∧ tt σ2 H2 fun b H3 => if b = true then R σ2 H3 N else N H3) := by
  refine ⟨fun i m H => m = n - i ∧ i ≤ n ∧ Pv i H, ⟨n, by simp, Nat.zero_le _, h0⟩, fun i m H ⟨em, hi, p⟩ => ?_⟩
  by_cases lt : i < n
  · exact .inr ⟨w.goes i H lt (hG i H hi p), Pv (i + 1), fun H' p' => ⟨n - (i + 1), by omega, rfl, lt, p'⟩, fun x H' y => hs i x H H' lt p (w.yields i H x H' lt (hG i H hi p) y)⟩
  · obtain rfl : i = n := by omega
    exact .inl ⟨w.stops H (hG i H hi p), hd H p⟩
end
theorem map_of_at {α : Type} {L : List α} {f : α → V} {ys : List V} (hl : ys.length = L.length) (h : ∀ (j : Nat) (y : V), ys[j]? = some y → ∃ z, L[j]? = some z ∧ y = f z) : ys = L.map f := by
  refine List.ext_getElem? fun j => ?_
  rw [List.getElem?_map]
  rcases Nat.lt_or_ge j ys.length with c | c
  · obtain ⟨z, hz, e⟩ := h j ys[j] (List.getElem?_eq_getElem c)
    rw [hz, List.getElem?_eq_getElem c, e]; rfl
  · rw [List.getElem?_eq_none c, List.getElem?_eq_none (by omega)]; rfl
theorem gName_mono {i : Nat} : ∀ (x : V) (σ1 : L2.St) (H1 : Hp) (A B : L2.St → Hp → Prop), (∀ σ2 H2, A σ2 H2 → B σ2 H2) → gName i x σ1 H1 A → gName i x σ1 H1 B := fun _ _ _ _ _ h k => h _ _ k
end N3

namespace N3
open PySem PySem.Spec PyProof.Rows L2
/-! ### written tuples inside a def, each told as data at once -/
def tK (d : PyData) : TE := fun _ H Q => ∀ (v : V) (H' : Hp), Same H H' → Dn H' v d → Q v H'
def tKs (ds : List PyData) : TA := fun _ H Q => ∀ (vs : List V) (H' : Hp), Same H H' → DnAll H' vs ds → Q vs H'
section
variable {X : Cx}
theorem pk_int {i : Int} {j pos} : PE X (.Constant (.int i) j pos) (tK (.int i)) := ⟨fun pins s σ H Q I h => pe_int.run pins s σ H Q I (h _ _ (Same.refl _) (.int i))⟩
theorem pk_str {x : Str} {j pos} : PE X (.Constant (.str x) j pos) (tK (.str x)) := ⟨fun pins s σ H Q I h => pe_str.run pins s σ H Q I (h _ _ (Same.refl _) (.str x))⟩
theorem pk_neg {i : Int} {j p pos} : PE X (.UnaryOp .USub (.Constant (.int i) j p) pos) (tK (.int (-i))) := ⟨fun pins s σ H Q I h => (pe_un un_neg pe_int).run pins s σ H Q I ⟨_, rfl, h _ _ (Same.refl _) (.int (-i))⟩⟩
theorem pka_nil : PA X [] (tKs []) := ⟨fun pos pins s σ H Q I h => pa_nil.run pos pins s σ H Q I (h _ _ (Same.refl _) .nil)⟩
theorem pka_cons {e : Expr} {es : List Expr} {d : PyData} {ds : List PyData} (h : PE X e (tK d)) (k : PA X es (tKs ds)) (hs : starEach (e :: es) X.env = (false, eval e X.env) :: starEach es X.env := by rfl) : PA X (e :: es) (tKs (d :: ds)) :=
  ⟨fun pos pins s σ H Q I q => (pa_cons h k hs).run pos pins s σ H Q I fun v H1 s1 dn vs H2 s2 da => q _ _ (s1.trans s2) (.cons (Dn.mono s2 d v dn) da)⟩
theorem pk_tup {es : List Expr} {ds : List PyData} {x1 pos} (h : PA X es (tKs ds)) (hn : ds.length ≤ 1000 := by decide) : PE X (.Tuple es x1 pos) (tK (.tuple ds)) :=
  ⟨fun pins s σ H Q I q => (pe_tup h).run pins s σ H Q I fun vs H1 s1 da => by
    refine ⟨?_, fun p hp => q _ _ (s1.trans (snew hp)) (.tup upd_same (DnAll.mono (snew hp) ds vs da))⟩
    have h1 := da.length
    have h2 : 1000 ≤ sizeLine := by rw [sizeLine_eq]; decide
    omega⟩
end
theorem dn_app' {H : Hp} : ∀ {xs ys : List V} {ds es : List PyData}, DnAll H xs ds → DnAll H ys es → DnAll H (xs ++ ys) (ds ++ es)
  | [], _, _, _, .nil, k => k
  | _ :: _, _, _, _, .cons a b, k => .cons a (dn_app' b k)
theorem dn_tupd {H : Hp} {v : V} {ds : List PyData} (h : Dn H v (.tuple ds)) : ∃ a xs, v = .ref a ∧ H a = some (.tup xs) ∧ DnAll H xs ds := by
  cases h with
  | tup e r => exact ⟨_, _, rfl, e, r⟩
end N3

namespace N3
open PySem PySem.Spec PyProof.Rows L2
/-! ### comprehensions that draw -/
section
variable {J : It} {n : Nat} {G : Hp → Prop} {Y : Nat → Hp → V → Hp → Prop} {g : TG} {te : TE} {vs : List Nat} {σ : L2.St} {H : Hp} {D dk l : Addr} {Qd : Hp → Prop}
theorem Deck.put {H : Hp} {dk l D : Addr} {o : HO} (De : Deck H dk l) (h1 : D ≠ dk) (h2 : D ≠ l) : Deck (upd H D o) dk l := by
  obtain ⟨ns, m, j, a, b, c⟩ := De
  exact ⟨ns, m, j, by rw [upd_ne h1.symm]; exact a, by rw [upd_ne h2.symm]; exact b, c⟩
/-- a map whose items draw: the deck alone changes -/
theorem lc_mapD (W : Walk J n G Y) (De : Deck H dk l) (hG : ∀ H', Keep dk l H H' → Deck H' dk l → G H') (R : Nat → V → Hp → Prop) (Rm : ∀ j y H1 H2, Tst H1 H2 → R j y H1 → R j y H2) (hn : n ≤ 1000000) (hD : H D = none)
    (step : ∀ (j : Nat) (x : V) (H1 H2 : Hp) (Q' : V → Hp → Prop), j < n → Keep dk l H H1 → Deck H1 dk l → Y j H1 x H2 → (∀ y H3, R j y H3 → Keep dk l H1 H3 → Deck H3 dk l → Q' y H3) → g x (wipe σ vs) H2 fun σ2 H3 => wipe σ2 vs = wipe σ vs ∧ te σ2 H3 Q')
    (fin : ∀ (ys : List V) (H' : Hp), H' D = some (.lst ys) → ys.length = n → (∀ (j : Nat) (y : V), ys[j]? = some y → R j y H') → Keep dk l H H' → Deck H' dk l → Qd H') :
    ∃ W : Nat → Nat → Hp → Prop, (∃ m, W 0 m (upd H D (.lst []))) ∧ ∀ i m H, W i m H →
      (J.stop i H ∧ Qd H) ∨ (J.go i H ∧ ∃ Nx : Hp → Prop, (∀ H', Nx H' → ∃ m', m' < m ∧ W (i + 1) m' H') ∧ ∀ x H', J.yld i H x H' → g x (wipe σ vs) H' fun σ2 H2 => wipe σ2 vs = wipe σ vs ∧ tYes σ2 H2 fun b H3 =>
        if b = true then te σ2 H3 fun y H4 => ∃ acc, H4 D = some (.lst acc) ∧ acc.length < sizeLine ∧ Nx (upd H4 D (.lst (acc ++ [y]))) else Nx H3) := by
  have d1 : D ≠ dk := fun z => De.some1.1 (z ▸ hD)
  have d2 : D ≠ l := fun z => De.some1.2 (z ▸ hD)
  refine lc_it W (fun i H' => ∃ ys : List V, H' D = some (.lst ys) ∧ ys.length = i ∧ (∀ (j : Nat) (y : V), ys[j]? = some y → R j y H') ∧ Keep dk l H H' ∧ Deck H' dk l) ⟨[], upd_same, rfl, fun j y e => by simp at e, Keep.of (snew hD), De.put d1 d2⟩ (fun i H' _ ⟨_, _, _, _, s, d⟩ => hG H' s d) ?_ ?_
  · rintro i x H1 H2 hi ⟨ys, e1, e2, e3, s1, De1⟩ y
    refine step i x H1 H2 _ hi s1 De1 y fun v H3 r s3 De3 => ?_
    have e1' := s3 _ _ e1 d1 d2
    refine ⟨ys, e1', small_m' (by omega), ys ++ [v], upd_same, by rw [List.length_append, e2]; rfl, fun j u e => ?_, fun b o e h1 h2 => ?_, De3.put d1 d2⟩
    · have tp : Tst H3 (upd H3 D (.lst (ys ++ [v]))) := Tst.put e1'
      rcases Nat.lt_or_ge j ys.length with c | c
      · rw [List.getElem?_append_left c] at e
        exact Rm _ _ _ _ ((Tst.deck De1 s3).trans tp) (e3 j u e)
      · rw [List.getElem?_append_right c] at e
        have : j = ys.length := by
          rcases Nat.lt_or_ge (j - ys.length) 1 with d | d
          · omega
          · rw [List.getElem?_eq_none (by simpa using d)] at e; cases e
        subst this
        rw [Nat.sub_self] at e
        cases e
        rw [e2]
        exact Rm _ _ _ _ tp r
    · rw [upd_ne (ne_of_none e hD)]; exact s3 _ _ (s1 _ _ e h1 h2) h1 h2
  · rintro H' ⟨ys, e1, e2, e3, s1, De1⟩
    exact fin ys H' e1 e2 e3 s1 De1
end
end N3

namespace N3
open PySem PySem.Spec PyProof.Rows L2 N2
/-! ### parameters of named equations -/
def poleD : PyData → Bool
  | .tuple [.int t, .int b] => lowT t b
  | _ => false
def parD : PyData → Bool
  | .tuple [.int t, .int b] => lowT t b && (decide (b ≤ 12) && decide ((t.natAbs : Int) ≤ 6 * b))
  | _ => false
abbrev prD (t b : Int) : PyData := .tuple [.int t, .int b]
theorem par_pole {d : PyData} (h : parD d = true) : ∃ t b : Int, d = prD t b ∧ lowT t b = true ∧ 1 ≤ b ∧ b ≤ 12 ∧ (t.natAbs : Int) ≤ 6 * b := by
  unfold parD at h
  split at h
  · rename_i t b
    rw [Bool.and_eq_true, Bool.and_eq_true, decide_eq_true_iff, decide_eq_true_iff] at h
    refine ⟨t, b, rfl, h.1, ?_, h.2.1, h.2.2⟩
    have := h.1
    unfold lowT at this
    rw [Bool.and_eq_true, decide_eq_true_iff] at this
    exact this.1
  · cases h
theorem tup2_of {d : PyData} (h : tupN 2 d = true) : ∃ x y, d = .tuple [x, y] := by
  unfold tupN at h
  split at h
  · rename_i ds
    have l : ds.length = 2 := of_decide_eq_true h
    match ds, l with
    | [x, y], _ => exact ⟨x, y, rfl⟩
  · cases h
theorem ints2 {x y : PyData} (h : [x, y].all isI = true) : ∃ t b, x = .int t ∧ y = .int b := by
  cases x <;> cases y <;> first | (cases h; done) | exact ⟨_, _, rfl, rfl⟩ | (simp [isI] at h)
theorem pole_no {d : PyData} (h : tupN 2 d = false) : poleD d = false := by
  unfold poleD
  split
  · cases h
  · rfl
theorem pole_no2 {x y : PyData} (h : [x, y].all isI = false) : poleD (.tuple [x, y]) = false := by
  unfold poleD
  split
  · rename_i e
    injection e with e
    injection e with e1 e
    injection e with e2 _
    subst e1 e2
    cases h
  · rfl
theorem dn_pr {H : Hp} {v : V} {t b : Int} (h : Dn H v (prD t b)) : ∃ a, v = .ref a ∧ H a = some (.tup [.int t, .int b]) := by
  cases h with
  | tup e r =>
    cases r with
    | cons h1 r =>
      cases r with
      | cons h2 r =>
        cases r
        cases h1
        cases h2
        exact ⟨_, rfl, e⟩
def spPole : Sp := fun vs H Q _ => ∃ (v : V) (d : PyData), vs = [v] ∧ Dn H v d ∧ ∀ H', Same H H' → Q (.bl (poleD d)) H'
def spParam : Sp := fun vs H Q _ => ∃ (v : V) (d : PyData), vs = [v] ∧ Dn H v d ∧ ∀ H', Same H H' → Q (.bl (parD d)) H'
/-- all of them are parameters, or the first that is none is told -/
def spChkPar (C : Addr) : Sp := fun vs H Q E => ∃ (a : Addr) (xs : List V) (ds : List PyData), vs = [.ref a] ∧ H a = some (.lst xs) ∧ DnAll H xs ds ∧ ds.length ≤ 1000 ∧
  ((∀ d ∈ ds, parD d = true) → ∀ H', Same H H' → Q .non H') ∧ ∀ (i : Nat) (v : V) (d : PyData), xs[i]? = some v → ds[i]? = some d → (∀ (j : Nat) (e : PyData), j < i → ds[j]? = some e → parD e = true) → parD d = false → Air H E C v
def smallI (d : PyData) : Bool := match d with | .int n => decide ((n.natAbs : Int) ≤ 6) | _ => false
def spChkPow (C : Addr) : Sp := fun vs H Q E => ∃ (v : V) (d : PyData), vs = [v] ∧ Dn H v d ∧ (smallI d = true → Q .non H) ∧ (smallI d = false → Air H E C v)
def prt (t b : Int) : Int := t * (27720 / b)
def oddC (x : Int) : Bool := decide (x % 55440 = 27720)
def toldS (b : Bool) : Str := if b then "quotient" else "nothing"
def spParts (K : PySem.W.Frag) : Sp := fun vs H Q _ => ∃ (a : Addr) (t b : Int), vs = [.ref a] ∧ SqT K H a [.int t, .int b] ∧ 0 < b ∧ b < 1000 ∧ Q (.int (prt t b)) H
def spOdd : Sp := fun vs H Q _ => ∃ x : Int, vs = [.int x] ∧ Q (.bl (oddC x)) H
def spTold : Sp := fun vs H Q _ => ∃ b : Bool, vs = [.bl b] ∧ Q (.str (toldS b)) H
def spPowV (C : Addr) : Sp := fun vs H Q E => ∃ (v : V) (d : PyData), vs = [v] ∧ Dn H v d ∧ (∀ n : Int, d = .int n → smallI d = true → Q (.str (toldS (decide (n = 0 ∨ n = -2 ∨ n = -4)))) H) ∧ (smallI d = false → Air H E C v)
def spOneV (C : Addr) : Sp := fun vs H Q E => ∃ (v : V) (d : PyData), vs = [v] ∧ Dn H v d ∧ (∀ t b : Int, d = prD t b → parD d = true → ∀ H', Same H H' → Q (.str (toldS (oddC (2 * prt t b)))) H') ∧ (parD d = false → Air H E C v)
def whitB (p q : Int) : Bool := [p + q, p - q, q - p, -p - q].any fun x => decide (0 ≤ x - 13860) && decide ((x - 13860) % 27720 = 0)
def spTwoV (C : Addr) : Sp := fun vs H Q E => ∃ (v v' : V) (d d' : PyData), vs = [v, v'] ∧ Dn H v d ∧ Dn H v' d' ∧ (∀ t b t' b' : Int, d = prD t b → d' = prD t' b' → parD d = true → parD d' = true → ∀ H', Same H H' → Q (.str (toldS (whitB (prt t b) (prt t' b')))) H') ∧
  (parD d = false → Air H E C v) ∧ (parD d = true → parD d' = false → Air H E C v')
theorem parts_div {b : Int} (h : 0 < b) : 0 ≤ 27720 / b ∧ 27720 / b ≤ 27720 := ⟨Int.ediv_nonneg (by decide) (by omega), Int.ediv_le_self _ (by decide)⟩
section
variable {P : Program} {w : World} {K : PySem.W.Frag} {mg : Str → Option Value} {base : Heap}
abbrev s_is_pole : Stmt := top 7
theorem sc_is_pole : FnScope ["thing"] ["thing"] (defScope s_is_pole) := ⟨rfl, rfl, rfl, by decide +kernel, rfl, by decide +kernel, by decide +kernel⟩
theorem ok_is_pole {f f_is_tuple_of f_all_integers f_in_lowest_terms : Addr} {fd d_is_tuple_of d_all_integers d_in_lowest_terms : FuncData}  (F : Fun K "is_pole" "is_pole" s_is_pole f fd) (T : Bt mg) (p_is_tuple_of : Kn P w K mg base 1 "is_tuple_of" ["thing", "many"] spTupOf f_is_tuple_of d_is_tuple_of) (p_all_integers : Kn P w K mg base 2 "all_integers" ["things"] spAllInt f_all_integers d_all_integers) (p_in_lowest_terms : Kn P w K mg base 1 "in_lowest_terms" ["top", "bottom"] spLow f_in_lowest_terms d_in_lowest_terms) : FnOk P w K mg base CX0 3 f fd ["thing"] spPole := by
  refine F.ok sc_is_pole (fun vs H Q E h => ?_) (fun cdv A outer s H vs Q E hr h => ?_)
  · obtain ⟨v, d, rfl, _⟩ := h
    rfl
  · obtain ⟨v, d, rfl, hd, k⟩ := h
    refine ⟨_, pss_one (ps_ret (pe_and (pe_call p_is_tuple_of.ok (hr.mono (by decide)) rfl p_is_tuple_of.mg p_is_tuple_of.kp p_is_tuple_of.bd .nil pass0 (pa_cons (pv 0) (pa_cons pe_int pa_nil))) (pe_and (pe_call p_all_integers.ok (hr.mono (by decide)) rfl p_all_integers.mg p_all_integers.kp p_all_integers.bd .nil pass0 (pa_cons (pv 0) pa_nil)) (pe_one (pe_call p_in_lowest_terms.ok (hr.mono (by decide)) rfl p_in_lowest_terms.mg p_in_lowest_terms.kp p_in_lowest_terms.bd .nil pass0 (pa_cons (pe_ix (r := rIx K) ix_seq (pv 0) pe_int (fun _ _ => rfl)) (pa_cons (pe_ix (r := rIx K) ix_seq (pv 0) pe_int (fun _ _ => rfl)) pa_nil))))))), ?_⟩
    refine ⟨_, rfl, v, d, 2, rfl, hd, _, rfl, ite_b (fun e => ?_) (fun e => ?_)⟩
    · obtain ⟨x, y, rfl⟩ := tup2_of e
      obtain ⟨a, xs, ds, rfl, eq, ea, ra⟩ := dn_tup hd rfl
      injection eq with eq
      subst eq
      refine ⟨_, rfl, a, xs, _, rfl, ea, ra, by show 2 ≤ 1000; decide, fun H1 s1 => ⟨_, rfl, ite_b (fun e2 => ?_) (fun e2 => ?_)⟩⟩
      · obtain ⟨p, q, rfl, rfl⟩ := ints2 e2
        obtain ⟨a', ev, ea'⟩ := dn_pr (Dn.mono s1 _ _ hd)
        cases ev
        refine ⟨_, rfl, .inr (.inl ⟨a, _, _, _, rfl, rfl, SqT.of ea', rfl, _, rfl, .inr (.inl ⟨a, _, _, _, rfl, rfl, SqT.of ea', rfl, p, q, rfl, k H1 s1⟩)⟩)⟩
      · have := k H1 s1
        rw [pole_no2 e2] at this
        exact this
    · have := k H (Same.refl _)
      rw [pole_no e] at this
      exact this
abbrev s_is_parameter : Stmt := top 19
theorem sc_is_parameter : FnScope ["thing"] ["thing"] (defScope s_is_parameter) := ⟨rfl, rfl, rfl, by decide +kernel, rfl, by decide +kernel, by decide +kernel⟩
theorem ok_is_parameter {f f_is_pole : Addr} {fd d_is_pole : FuncData} {t_MOST_BOTTOM t_MOST_SIZE : Tok} (i_MOST_BOTTOM : mg "MOST_BOTTOM" = some (.int 12 t_MOST_BOTTOM)) (i_MOST_SIZE : mg "MOST_SIZE" = some (.int 6 t_MOST_SIZE)) (F : Fun K "is_parameter" "is_parameter" s_is_parameter f fd) (T : Bt mg) (p_is_pole : Kn P w K mg base 3 "is_pole" ["thing"] spPole f_is_pole d_is_pole) : FnOk P w K mg base CX0 4 f fd ["thing"] spParam := by
  refine F.ok sc_is_parameter (fun vs H Q E h => ?_) (fun cdv A outer s H vs Q E hr h => ?_)
  · obtain ⟨v, d, rfl, _⟩ := h
    rfl
  · obtain ⟨v, d, rfl, hd, k⟩ := h
    refine ⟨_, pss_one (ps_ret (pe_and (pe_call p_is_pole.ok (hr.mono (by decide)) rfl p_is_pole.mg p_is_pole.kp p_is_pole.bd .nil pass0 (pa_cons (pv 0) pa_nil)) (pe_and (pe_cmpR op_le (pe_ix (r := rIx K) ix_seq (pv 0) pe_int (fun _ _ => rfl)) (pe_glob (v := .int _) rfl i_MOST_BOTTOM ⟨_, rfl⟩) (nomark _)) (pe_one (pe_cmpR op_le (pe_callB call_abs (by rfl) T.abs (by decide +kernel) (pa_cons (pe_ix (r := rIx K) ix_seq (pv 0) pe_int (fun _ _ => rfl)) pa_nil)) (pe_op op_mul (pe_glob (v := .int _) rfl i_MOST_SIZE ⟨_, rfl⟩) (pe_ix (r := rIx K) ix_seq (pv 0) pe_int (fun _ _ => rfl))) (nomark _)))))), ?_⟩
    refine ⟨_, rfl, v, d, rfl, hd, fun H1 s1 => ⟨_, rfl, ite_b (fun e => ?_) (fun e => ?_)⟩⟩
    · obtain ⟨t, b, rfl⟩ : ∃ t b, d = prD t b := by
        unfold poleD at e
        split at e
        · exact ⟨_, _, rfl⟩
        · cases e
      have e' : lowT t b = true := e
      obtain ⟨a, rfl, ea⟩ := dn_pr (Dn.mono s1 _ _ hd)
      have kk := k H1 s1
      have pe : parD (prD t b) = (decide (b ≤ 12) && decide ((t.natAbs : Int) ≤ 6 * b)) := by
        show (lowT t b && _) = _
        rw [e', Bool.true_and]
      rw [pe] at kk
      refine ⟨_, rfl, .inr (.inl ⟨a, _, _, _, rfl, rfl, SqT.of ea, rfl, _, _, rfl, rfl, _, rfl, ite_b (fun c => ?_) (fun c => ?_)⟩)⟩
      · rw [c, Bool.true_and] at kk
        have b1 : 1 ≤ b := by
          unfold lowT at e'
          rw [Bool.and_eq_true, decide_eq_true_iff] at e'
          exact e'.1
        have b2 := of_decide_eq_true c
        refine ⟨_, rfl, .inr (.inl ⟨a, _, _, _, rfl, rfl, SqT.of ea, rfl, t, rfl, _, rfl, .inr (.inl ⟨a, _, _, _, rfl, rfl, SqT.of ea, rfl, _, _, rfl, rfl, .inl ⟨by decide, by decide⟩, _, _, rfl, rfl, ?_⟩)⟩)⟩
        show Q (.bl (decide ((if t < 0 then -t else t) ≤ 6 * b))) H1
        rw [nat_abs]
        exact kk
      · rw [c, Bool.false_and] at kk
        exact kk
    · have pe : parD d = false := by
        unfold parD
        split
        · have e' : lowT _ _ = false := e
          rw [e', Bool.false_and]
        · rfl
      have := k H1 s1
      rw [pe] at this
      exact this
abbrev s_check_parameters : Stmt := top 20
theorem sc_check_parameters : FnScope ["things", "thing"] ["things"] (defScope s_check_parameters) := ⟨rfl, rfl, rfl, by decide +kernel, rfl, by decide +kernel, by decide +kernel⟩
theorem ok_check_parameters {f f_is_parameter : Addr} {fd d_is_parameter : FuncData} {S C fI : Addr} {fdI : FuncData} (B_BadFraction : BnC P w K mg base "BadFraction" S C fI fdI) (F : Fun K "check_parameters" "check_parameters" s_check_parameters f fd) (T : Bt mg) (p_is_parameter : Kn P w K mg base 4 "is_parameter" ["thing"] spParam f_is_parameter d_is_parameter) : FnOk P w K mg base (L2.CX P w) 5 f fd ["things"] (spChkPar C) := by
  refine F.okX sc_check_parameters (fun vs H Q E h => ?_) (fun cdv A outer s H vs Q E hr h => ?_)
  · obtain ⟨a, xs, ds, rfl, _⟩ := h
    rfl
  · obtain ⟨a, xs, ds, rfl, ha, hd, hl, k1, k2⟩ := h
    have r3 : Room 3 _ := hr.mono (by decide)
    refine ⟨_, pss_one (ps_for (passes_of rfl) rfl (pi_list (pv 0)) (pg_name (i := 1) sc_check_parameters.nd rfl (Or.inl rfl))
        (pss_one (ps_if (pt_not (pt_val (pe_call p_is_parameter.ok (hr.mono (by decide)) rfl p_is_parameter.mg p_is_parameter.kp p_is_parameter.bd .nil pass0 (pa_cons (pv 1) pa_nil))))
          (pss_one (ps_raise rfl (takes_of rfl rfl rfl rfl) (pmk_sl B_BadFraction.M B_BadFraction.ok r3 pass0 B_BadFraction.b1 B_BadFraction.nm (pv 1))))
          pss_nil))), ?_⟩
    refine ⟨_, rfl, a, rfl, ⟨xs, SqL.of ha⟩, ?_⟩
    refine for_list (K := K) (a := a) (xs := xs) (fun i σ H' => ∃ x : Option V, σ = [some (.ref a), x] ∧ (∀ (j : Nat) (e : PyData), j < i → ds[j]? = some e → parD e = true) ∧ Same H H')
      ⟨none, rfl, fun j e hj => by omega, Same.refl _⟩ (fun i σ H' _ ⟨_, _, _, e⟩ => SqL.of (e _ _ ha)) ?_ ?_
    · rintro i v σ H' hv ⟨x, rfl, all, s1⟩
      obtain ⟨d, ed, dn⟩ := hd.at_ hv
      refine ⟨_, rfl, v, d, rfl, Dn.mono s1 d v dn, fun H2 s2 => ⟨_, rfl, ?_⟩⟩
      cases e : parD d with
      | true =>
        refine iteF ?_
        refine ⟨_, rfl, fun j e' hj he => ?_, s1.trans s2⟩
        by_cases c : j = i
        · subst c
          rw [ed] at he
          cases he
          exact e
        · exact all j e' (by omega) he
      | false =>
        refine iteT ?_
        refine ⟨_, rfl, fun b dx H3 h1 h2 h3 h4 h5 h6 => (k2 i v d hv ed all e) dx H3 ((s1.trans s2).free h2) h4 ((s1.trans s2).trans fun b o e => ?_)⟩
        rw [h6 b (ne_of_none e h1) (ne_of_none e h2)]; exact e
    · rintro σ H' ⟨x, rfl, all, s1⟩
      refine k1 (fun d hm => ?_) H' s1
      obtain ⟨j, hj, ej⟩ := List.mem_iff_getElem.mp hm
      exact all j d (by rw [hd.length]; exact hj) (by rw [List.getElem?_eq_getElem hj, ej])
abbrev s_check_power : Stmt := top 21
theorem sc_check_power : FnScope ["n"] ["n"] (defScope s_check_power) := ⟨rfl, rfl, rfl, by decide +kernel, rfl, by decide +kernel, by decide +kernel⟩
theorem ok_check_power {f f_is_integer : Addr} {fd d_is_integer : FuncData} {S C fI : Addr} {fdI : FuncData} {t_MOST_SIZE : Tok} (i_MOST_SIZE : mg "MOST_SIZE" = some (.int 6 t_MOST_SIZE)) (B_BadFraction : BnC P w K mg base "BadFraction" S C fI fdI) (F : Fun K "check_power" "check_power" s_check_power f fd) (T : Bt mg) (p_is_integer : Kn P w K mg base 1 "is_integer" ["thing"] spInt f_is_integer d_is_integer) : FnOk P w K mg base (L2.CX P w) 4 f fd ["n"] (spChkPow C) := by
  refine F.okX sc_check_power (fun vs H Q E h => ?_) (fun cdv A outer s H vs Q E hr h => ?_)
  · obtain ⟨v, d, rfl, _⟩ := h
    rfl
  · obtain ⟨v, d, rfl, hd, k1, k2⟩ := h
    have r3 : Room 3 _ := hr.mono (by decide)
    refine ⟨_, pss_one (ps_if (pt_not (PW.pt (pw_and (pt_val (pe_call p_is_integer.ok (hr.mono (by decide)) rfl p_is_integer.mg p_is_integer.kp p_is_integer.bd .nil pass0 (pa_cons (pv 0) pa_nil))) (pw_and1 (pt_cmpR op_le (pe_callB call_abs (by rfl) T.abs (by decide +kernel) (pa_cons (pv 0) pa_nil)) (pe_glob (v := .int _) rfl i_MOST_SIZE ⟨_, rfl⟩) (nomark _))))))
        (pss_one (ps_raise rfl (takes_of rfl rfl rfl rfl) (pmk_sl B_BadFraction.M B_BadFraction.ok r3 pass0 B_BadFraction.b1 B_BadFraction.nm (pv 0))))
        pss_nil), ?_⟩
    refine ⟨_, rfl, v, d, rfl, hd, _, rfl, ite_b (fun e => ?_) (fun e => ?_)⟩
    · obtain ⟨n, rfl, rfl⟩ := dn_int hd e
      refine ⟨_, rfl, n, rfl, _, _, rfl, rfl, _, rfl, ?_⟩
      have ee : decide ((if n < 0 then -n else n) ≤ 6) = smallI (.int n) := by
        rw [nat_abs]; rfl
      rw [ee]
      cases c : smallI (.int n) with
      | true => exact iteF (k1 c)
      | false =>
        refine iteT ?_
        refine ⟨_, rfl, fun b dx H3 h1 h2 h3 h4 h5 h6 => (k2 c) dx H3 h2 h4 fun b o e => ?_⟩
        rw [h6 b (ne_of_none e h1) (ne_of_none e h2)]; exact e
    · have c : smallI d = false := by
        cases d <;> first | rfl | cases e
      refine iteT ?_
      refine ⟨_, rfl, fun b dx H3 h1 h2 h3 h4 h5 h6 => (k2 c) dx H3 h2 h4 fun b o e => ?_⟩
      rw [h6 b (ne_of_none e h1) (ne_of_none e h2)]; exact e
abbrev s_parts_in : Stmt := top 22
theorem sc_parts_in : FnScope ["fraction"] ["fraction"] (defScope s_parts_in) := ⟨rfl, rfl, rfl, by decide +kernel, rfl, by decide +kernel, by decide +kernel⟩
theorem ok_parts_in {f  : Addr} {fd  : FuncData} {t_PARTS : Tok} (i_PARTS : mg "PARTS" = some (.int 27720 t_PARTS)) (F : Fun K "parts_in" "parts_in" s_parts_in f fd) (T : Bt mg)  : FnOk P w K mg base CX0 1 f fd ["fraction"] (spParts K) := by
  refine F.ok sc_parts_in (fun vs H Q E h => ?_) (fun cdv A outer s H vs Q E hr h => ?_)
  · obtain ⟨a, t, b, rfl, _⟩ := h
    rfl
  · obtain ⟨a, t, b, rfl, ha, b0, b1, k⟩ := h
    refine ⟨_, pss_one (ps_ret (pe_op op_mul (pe_ix (r := rIx K) ix_seq (pv 0) pe_int (fun _ _ => rfl)) (pe_op op_fdiv (pe_glob (v := .int _) rfl i_PARTS ⟨_, rfl⟩) (pe_ix (r := rIx K) ix_seq (pv 0) pe_int (fun _ _ => rfl))))), ?_⟩
    have bd := parts_div b0
    refine ⟨_, rfl, .inr (.inl ⟨a, _, _, _, rfl, rfl, ha, rfl, _, rfl, .inr (.inl ⟨a, _, _, _, rfl, rfl, ha, rfl, _, _, rfl, rfl, ⟨b0, by omega⟩, _, _, rfl, rfl, .inr ⟨by omega, by omega⟩, k⟩)⟩)⟩
abbrev s_tells_odd : Stmt := top 23
theorem sc_tells_odd : FnScope ["parts"] ["parts"] (defScope s_tells_odd) := ⟨rfl, rfl, rfl, by decide +kernel, rfl, by decide +kernel, by decide +kernel⟩
theorem ok_tells_odd {f  : Addr} {fd  : FuncData} {t_PARTS : Tok} (i_PARTS : mg "PARTS" = some (.int 27720 t_PARTS)) (F : Fun K "tells_odd" "tells_odd" s_tells_odd f fd) (T : Bt mg)  : FnOk P w K mg base CX0 1 f fd ["parts"] spOdd := by
  refine F.ok sc_tells_odd (fun vs H Q E h => ?_) (fun cdv A outer s H vs Q E hr h => ?_)
  · obtain ⟨x, rfl, _⟩ := h
    rfl
  · obtain ⟨x, rfl, k⟩ := h
    refine ⟨_, pss_one (ps_ret (pe_cmpR op_eq (pe_op op_mod (pv 0) (pe_op op_mul pe_int (pe_glob (v := .int _) rfl i_PARTS ⟨_, rfl⟩))) (pe_glob (v := .int _) rfl i_PARTS ⟨_, rfl⟩) (nomark _))), ?_⟩
    refine ⟨_, rfl, _, _, rfl, rfl, .inl ⟨by decide, by decide⟩, _, _, rfl, rfl, by show (0 : Int) < 2 * 27720; decide, rfl, ?_⟩
    have e : decide (V.int (x % (2 * 27720)) = V.int 27720) = oddC x := by
      unfold oddC
      exact decide_eq_decide.mpr ⟨fun h => V.int.inj h, fun h => congrArg V.int h⟩
    rw [← e] at k
    exact k
abbrev s_told_if : Stmt := top 24
theorem sc_told_if : FnScope ["holds"] ["holds"] (defScope s_told_if) := ⟨rfl, rfl, rfl, by decide +kernel, rfl, by decide +kernel, by decide +kernel⟩
theorem ok_told_if {f  : Addr} {fd  : FuncData} {t_QUOTIENT t_NOTHING : Tok} (i_QUOTIENT : mg "QUOTIENT" = some (.str "quotient" t_QUOTIENT)) (i_NOTHING : mg "NOTHING" = some (.str "nothing" t_NOTHING)) (F : Fun K "told_if" "told_if" s_told_if f fd) (T : Bt mg)  : FnOk P w K mg base CX0 1 f fd ["holds"] spTold := by
  refine F.ok sc_told_if (fun vs H Q E h => ?_) (fun cdv A outer s H vs Q E hr h => ?_)
  · obtain ⟨b, rfl, _⟩ := h
    rfl
  · obtain ⟨b, rfl, k⟩ := h
    refine ⟨_, pss_one (ps_ret (pe_ifExp (pt_val (pv 0)) (pe_glob (v := .str _) rfl i_QUOTIENT ⟨_, rfl⟩) (pe_glob (v := .str _) rfl i_NOTHING ⟨_, rfl⟩))), ?_⟩
    refine ⟨_, rfl, _, rfl, ?_⟩
    cases b with
    | true => exact iteT k
    | false => exact iteF k
end
end N3

namespace N3
open PySem PySem.Spec PyProof.Rows L2 N2
/-! ### the verdicts of powers, of one and of two parameters -/
abbrev powD : PyData := .tuple [.int 0, .int (-2), .int (-4)]
theorem oneL {H : Hp} {v : V} {d : PyData} {p : Addr} (h : Dn H v d) (hp : H p = none) : DnAll (upd H p (.lst [v])) [v] [d] := .cons (Dn.mono (snew hp) d v h) .nil
theorem mem1 {α : Type} {x y : α} {p : α → Prop} (h : p x) : y ∈ [x] → p y := fun m => by rw [List.mem_singleton.mp m]; exact h
theorem pow_in (n : Int) : inV (.int n) [.int 0, .int (-2), .int (-4)] = decide (n = 0 ∨ n = -2 ∨ n = -4) := by
  show (((0 : Int) == n) || (((-2 : Int) == n) || (((-4 : Int) == n) || false))) = _
  rw [Bool.eq_iff_iff]
  simp only [Bool.or_eq_true, beq_iff_eq, Bool.false_eq_true, or_false, decide_eq_true_iff]
  omega
section
variable {P : Program} {w : World} {K : PySem.W.Frag} {mg : Str → Option Value} {base : Heap}
abbrev s_power_verdict : Stmt := top 25
theorem sc_power_verdict : FnScope ["n"] ["n"] (defScope s_power_verdict) := ⟨rfl, rfl, rfl, by decide +kernel, rfl, by decide +kernel, by decide +kernel⟩
theorem ok_power_verdict {f f_check_power f_told_if : Addr} {fd d_check_power d_told_if : FuncData} {C : Addr} (w_TOLD_POWERS : ∃ a, mg "TOLD_POWERS" = some (.ref a) ∧ WrD K (.ref a) powD) (F : Fun K "power_verdict" "power_verdict" s_power_verdict f fd) (T : Bt mg) (p_check_power : KnX P w K mg base 4 "check_power" ["n"] (spChkPow C) f_check_power d_check_power) (p_told_if : Kn P w K mg base 1 "told_if" ["holds"] spTold f_told_if d_told_if) : FnOk P w K mg base (L2.CX P w) 5 f fd ["n"] (spPowV C) := by
  refine F.okX sc_power_verdict (fun vs H Q E h => ?_) (fun cdv A outer s H vs Q E hr h => ?_)
  · obtain ⟨v, d, rfl, _⟩ := h
    rfl
  · obtain ⟨v, d, rfl, hd, k1, k2⟩ := h
    obtain ⟨aT, mT, wT⟩ := w_TOLD_POWERS
    have tk : Takes (cxOf (L2.CX P w) P w K mg base ["n"] "power_verdict" (defScope s_power_verdict) f cdv A outer s H E) (fun cls d _ H => E cls d H) := takes_of rfl rfl rfl rfl
    refine ⟨_, pss_cons (ps_expr (pe_callS p_check_power.ok (hr.mono (by decide)) rfl p_check_power.mg p_check_power.kp p_check_power.bd (fun σ => passAt tk σ) (pa_cons (pv 0) pa_nil)))
      (pss_one (ps_ret (pe_call p_told_if.ok (hr.mono (by decide)) rfl p_told_if.mg p_told_if.kp p_told_if.bd .nil pass0 (pa_cons (pe_cmpR op_in_seq (pv 0) (pe_glob (v := .ref aT) rfl mT rfl) (by with_unfolding_all rfl)) pa_nil)))), ?_⟩
    refine ⟨_, rfl, v, d, rfl, hd, fun c => ?_, fun c => k2 c⟩
    obtain ⟨n, rfl⟩ : ∃ n, d = .int n := by
      cases d <;> first | exact ⟨_, rfl⟩ | cases c
    obtain ⟨n', rfl, e⟩ := dn_int hd rfl
    cases e
    obtain ⟨a', xs, ea, l, hn, r⟩ := wv_tup (wv_ref wT)
    cases ea
    match xs, hn, r with
    | [x, y, z], _, r =>
      obtain rfl := wv_int (r 0 _ _ rfl rfl)
      obtain rfl := wv_int (r 1 _ _ rfl rfl)
      obtain rfl := wv_int (r 2 _ _ rfl rfl)
      have kk := k1 n rfl c
      rw [← pow_in] at kk
      exact ⟨_, rfl, aT, _, rfl, .inr (l _), rfl, rfl, _, rfl, kk⟩
abbrev s_bessel_verdict : Stmt := top 26
theorem sc_bessel_verdict : FnScope ["n"] ["n"] (defScope s_bessel_verdict) := ⟨rfl, rfl, rfl, by decide +kernel, rfl, by decide +kernel, by decide +kernel⟩
theorem ok_bessel_verdict {f f_check_parameters f_told_if f_tells_odd f_parts_in : Addr} {fd d_check_parameters d_told_if d_tells_odd d_parts_in : FuncData} {C : Addr} (F : Fun K "bessel_verdict" "bessel_verdict" s_bessel_verdict f fd) (T : Bt mg) (p_check_parameters : KnX P w K mg base 5 "check_parameters" ["things"] (spChkPar C) f_check_parameters d_check_parameters) (p_told_if : Kn P w K mg base 1 "told_if" ["holds"] spTold f_told_if d_told_if) (p_tells_odd : Kn P w K mg base 1 "tells_odd" ["parts"] spOdd f_tells_odd d_tells_odd) (p_parts_in : Kn P w K mg base 1 "parts_in" ["fraction"] (spParts K) f_parts_in d_parts_in) : FnOk P w K mg base (L2.CX P w) 6 f fd ["n"] (spOneV C) := by
  refine F.okX sc_bessel_verdict (fun vs H Q E h => ?_) (fun cdv A outer s H vs Q E hr h => ?_)
  · obtain ⟨v, d, rfl, _⟩ := h
    rfl
  · obtain ⟨v, d, rfl, hd, k1, k2⟩ := h
    have tk : Takes (cxOf (L2.CX P w) P w K mg base ["n"] "bessel_verdict" (defScope s_bessel_verdict) f cdv A outer s H E) (fun cls d _ H => E cls d H) := takes_of rfl rfl rfl rfl
    refine ⟨_, pss_cons (ps_expr (pe_callS p_check_parameters.ok (hr.mono (by decide)) rfl p_check_parameters.mg p_check_parameters.kp p_check_parameters.bd (fun σ => passAt tk σ) (pa_cons (pe_lst (pa_cons (pv 0) pa_nil)) pa_nil)))
      (pss_one (ps_ret (pe_call p_told_if.ok (hr.mono (by decide)) rfl p_told_if.mg p_told_if.kp p_told_if.bd .nil pass0 (pa_cons (pe_call p_tells_odd.ok (hr.mono (by decide)) rfl p_tells_odd.mg p_tells_odd.kp p_tells_odd.bd .nil pass0 (pa_cons (pe_op op_mul pe_int (pe_call p_parts_in.ok (hr.mono (by decide)) rfl p_parts_in.mg p_parts_in.kp p_parts_in.bd .nil pass0 (pa_cons (pv 0) pa_nil))) pa_nil)) pa_nil)))), ?_⟩
    refine ⟨_, rfl, by show 1 ≤ sizeLine; rw [sizeLine_eq]; decide, fun p hp => ⟨p, [v], [d], rfl, upd_same, oneL hd hp, by show 1 ≤ 1000; decide, fun all H1 s1 => ?_, fun i u e hu he _ no => ?_⟩⟩
    · have pd := all d (List.mem_singleton.mpr rfl)
      obtain ⟨t, b, rfl, lt, b1, b2, bt⟩ := par_pole pd
      have sH := (snew (o := .lst [v]) hp).trans s1
      obtain ⟨a, rfl, ea⟩ := dn_pr (Dn.mono sH _ _ hd)
      refine ⟨_, rfl, a, t, b, rfl, SqT.of ea, by omega, by omega, _, _, rfl, rfl, .inl ⟨by decide, by decide⟩, _, rfl, _, rfl, ?_⟩
      exact k1 t b rfl pd H1 sH
    · cases i with
      | zero => cases hu; cases he; exact (k2 no).later (snew hp)
      | succ i => simp at hu
abbrev s_weber_verdict : Stmt := top 27
theorem sc_weber_verdict : FnScope ["a"] ["a"] (defScope s_weber_verdict) := ⟨rfl, rfl, rfl, by decide +kernel, rfl, by decide +kernel, by decide +kernel⟩
theorem ok_weber_verdict {f f_check_parameters f_told_if f_tells_odd f_parts_in : Addr} {fd d_check_parameters d_told_if d_tells_odd d_parts_in : FuncData} {C : Addr} (F : Fun K "weber_verdict" "weber_verdict" s_weber_verdict f fd) (T : Bt mg) (p_check_parameters : KnX P w K mg base 5 "check_parameters" ["things"] (spChkPar C) f_check_parameters d_check_parameters) (p_told_if : Kn P w K mg base 1 "told_if" ["holds"] spTold f_told_if d_told_if) (p_tells_odd : Kn P w K mg base 1 "tells_odd" ["parts"] spOdd f_tells_odd d_tells_odd) (p_parts_in : Kn P w K mg base 1 "parts_in" ["fraction"] (spParts K) f_parts_in d_parts_in) : FnOk P w K mg base (L2.CX P w) 6 f fd ["a"] (spOneV C) := by
  refine F.okX sc_weber_verdict (fun vs H Q E h => ?_) (fun cdv A outer s H vs Q E hr h => ?_)
  · obtain ⟨v, d, rfl, _⟩ := h
    rfl
  · obtain ⟨v, d, rfl, hd, k1, k2⟩ := h
    have tk : Takes (cxOf (L2.CX P w) P w K mg base ["a"] "weber_verdict" (defScope s_weber_verdict) f cdv A outer s H E) (fun cls d _ H => E cls d H) := takes_of rfl rfl rfl rfl
    refine ⟨_, pss_cons (ps_expr (pe_callS p_check_parameters.ok (hr.mono (by decide)) rfl p_check_parameters.mg p_check_parameters.kp p_check_parameters.bd (fun σ => passAt tk σ) (pa_cons (pe_lst (pa_cons (pv 0) pa_nil)) pa_nil)))
      (pss_one (ps_ret (pe_call p_told_if.ok (hr.mono (by decide)) rfl p_told_if.mg p_told_if.kp p_told_if.bd .nil pass0 (pa_cons (pe_call p_tells_odd.ok (hr.mono (by decide)) rfl p_tells_odd.mg p_tells_odd.kp p_tells_odd.bd .nil pass0 (pa_cons (pe_op op_mul pe_int (pe_call p_parts_in.ok (hr.mono (by decide)) rfl p_parts_in.mg p_parts_in.kp p_parts_in.bd .nil pass0 (pa_cons (pv 0) pa_nil))) pa_nil)) pa_nil)))), ?_⟩
    refine ⟨_, rfl, by show 1 ≤ sizeLine; rw [sizeLine_eq]; decide, fun p hp => ⟨p, [v], [d], rfl, upd_same, oneL hd hp, by show 1 ≤ 1000; decide, fun all H1 s1 => ?_, fun i u e hu he _ no => ?_⟩⟩
    · have pd := all d (List.mem_singleton.mpr rfl)
      obtain ⟨t, b, rfl, lt, b1, b2, bt⟩ := par_pole pd
      have sH := (snew (o := .lst [v]) hp).trans s1
      obtain ⟨a, rfl, ea⟩ := dn_pr (Dn.mono sH _ _ hd)
      refine ⟨_, rfl, a, t, b, rfl, SqT.of ea, by omega, by omega, _, _, rfl, rfl, .inl ⟨by decide, by decide⟩, _, rfl, _, rfl, ?_⟩
      exact k1 t b rfl pd H1 sH
    · cases i with
      | zero => cases hu; cases he; exact (k2 no).later (snew hp)
      | succ i => simp at hu
abbrev s_whittaker_verdict : Stmt := top 28
abbrev nsWh : List Str := ["k", "m", "one", "other", "lessened", "total", "parts"]
theorem sc_whittaker_verdict : FnScope nsWh ["k", "m"] (defScope s_whittaker_verdict) := ⟨rfl, rfl, rfl, by decide +kernel, rfl, by decide +kernel, by decide +kernel⟩
theorem ok_whittaker_verdict {f f_check_parameters f_told_if f_parts_in : Addr} {fd d_check_parameters d_told_if d_parts_in : FuncData} {C : Addr} {t_PARTS : Tok} (i_PARTS : mg "PARTS" = some (.int 27720 t_PARTS)) (F : Fun K "whittaker_verdict" "whittaker_verdict" s_whittaker_verdict f fd) (T : Bt mg) (p_check_parameters : KnX P w K mg base 5 "check_parameters" ["things"] (spChkPar C) f_check_parameters d_check_parameters) (p_told_if : Kn P w K mg base 1 "told_if" ["holds"] spTold f_told_if d_told_if) (p_parts_in : Kn P w K mg base 1 "parts_in" ["fraction"] (spParts K) f_parts_in d_parts_in) : FnOk P w K mg base (L2.CX P w) 6 f fd ["k", "m"] (spTwoV C) := by
  refine F.okX sc_whittaker_verdict (fun vs H Q E h => ?_) (fun cdv A outer s H vs Q E hr h => ?_)
  · obtain ⟨v, v', d, d', rfl, _⟩ := h
    rfl
  · obtain ⟨v, v', d, d', rfl, hd, hd', k1, k2, k3⟩ := h
    have tk : Takes (cxOf (L2.CX P w) P w K mg base nsWh "whittaker_verdict" (defScope s_whittaker_verdict) f cdv A outer s H E) (fun cls d _ H => E cls d H) := takes_of rfl rfl rfl rfl
    refine ⟨_, pss_cons (ps_expr (pe_callS p_check_parameters.ok (hr.mono (by decide)) rfl p_check_parameters.mg p_check_parameters.kp p_check_parameters.bd (fun σ => passAt tk σ) (pa_cons (pe_lst (pa_cons (pv 0) (pa_cons (pv 1) pa_nil))) pa_nil)))
      (pss_cons (ps_par (i := 2) (j := 3) rfl sc_whittaker_verdict.nd rfl rfl (by decide) rfl rfl (pa_cons (pe_call p_parts_in.ok (hr.mono (by decide)) rfl p_parts_in.mg p_parts_in.kp p_parts_in.bd .nil pass0 (pa_cons (pv 0) pa_nil)) (pa_cons (pe_call p_parts_in.ok (hr.mono (by decide)) rfl p_parts_in.mg p_parts_in.kp p_parts_in.bd .nil pass0 (pa_cons (pv 1) pa_nil)) pa_nil)) (by rfl))
      (pss_cons (ps_setLc (i := 4) (own := [("total", 5)]) (g := (gName 5)) (tt := tYes) rfl sc_whittaker_verdict.nd rfl rfl (sw_true rfl rfl (by rfl) (by rfl)) (pi_tup (pe_tup (pa_cons (pe_op op_add (pv 2) (pv 3)) (pa_cons (pe_op op_sub (pv 2) (pv 3)) (pa_cons (pe_op op_sub (pv 3) (pv 2)) (pa_cons (pe_op op_sub (pe_un un_neg (pv 2)) (pv 3)) pa_nil)))))) (blkOk_by (own := [("total", 5)]) (N := nsWh) (sc := defScope s_whittaker_verdict) (by decide +kernel)) (fun _ _ _ _ _ => pg_name (i := 5) sc_whittaker_verdict.nd rfl (Or.inl rfl)) (fun _ _ _ _ _ => pts_nil) (fun _ _ _ _ _ => (pe_op op_sub (pv 5) (pe_op op_fdiv (pe_glob (v := .int _) rfl i_PARTS ⟨_, rfl⟩) pe_int))))
      (pss_one (ps_ret (pe_call p_told_if.ok (hr.mono (by decide)) rfl p_told_if.mg p_told_if.kp p_told_if.bd .nil pass0 (pa_cons (pe_callB (cr_any rfl) (by rfl) T.any (by decide +kernel) (pa_cons (pe_lc (own := [("parts", 6)]) (g := (gName 6)) (tt := tYes) rfl sc_whittaker_verdict.nd (pi_list (pv 4)) (blkOk_by (own := [("parts", 6)]) (N := nsWh) (sc := defScope s_whittaker_verdict) (by decide +kernel)) (fun _ _ _ _ _ => pg_name (i := 6) sc_whittaker_verdict.nd rfl (Or.inl rfl)) (fun _ _ _ _ _ => pts_nil) (fun _ _ _ _ _ => (pe_and (pe_cmpR op_ge (pv 6) pe_int (nomark _)) (pe_one (pe_cmpR op_eq (pe_op op_mod (pv 6) (pe_glob (v := .int _) rfl i_PARTS ⟨_, rfl⟩)) pe_int (nomark _)))))) pa_nil)) pa_nil)))))), ?_⟩
    refine ⟨_, rfl, _, rfl, by show 2 ≤ sizeLine; rw [sizeLine_eq]; decide, fun p hp => ⟨p, [v, v'], [d, d'], rfl, upd_same, .cons (Dn.mono (snew hp) d v hd) (.cons (Dn.mono (snew hp) d' v' hd') .nil), by show 2 ≤ 1000; decide, fun all H1 s1 => ?_, fun i u e hu he ear no => ?_⟩⟩
    · have pd := all d List.mem_cons_self
      have pd' := all d' (List.mem_cons_of_mem _ List.mem_cons_self)
      obtain ⟨t, b, rfl, lt, b1, b2, bt⟩ := par_pole pd
      obtain ⟨t', b', rfl, lt', b1', b2', bt'⟩ := par_pole pd'
      have sH := (snew (o := .lst [v, v']) hp).trans s1
      obtain ⟨a, rfl, ea⟩ := dn_pr (Dn.mono sH _ _ hd)
      obtain ⟨a', rfl, ea'⟩ := dn_pr (Dn.mono sH _ _ hd')
      refine ⟨_, rfl, a, t, b, rfl, SqT.of ea, by omega, by omega, _, rfl, a', t', b', rfl, SqT.of ea', by omega, by omega, ?_⟩
      have kk := k1 t b t' b' rfl rfl pd pd'
      obtain ⟨p1, ep1⟩ : ∃ x, prt t b = x := ⟨_, rfl⟩
      obtain ⟨p2, ep2⟩ : ∃ x, prt t' b' = x := ⟨_, rfl⟩
      rw [ep1, ep2] at kk ⊢
      refine ⟨_, _, rfl, ?_⟩
      refine ⟨_, rfl, _, rfl, _, _, rfl, rfl, _, rfl, _, rfl, _, _, rfl, rfl, _, rfl, _, rfl, _, _, rfl, rfl, _, rfl, _, rfl, _, rfl, _, _, rfl, rfl, by show 4 ≤ sizeLine; rw [sizeLine_eq]; decide, fun q hq => ?_⟩
      have sq := snew (o := .tup [.int (p1 + p2), .int (p1 - p2), .int (p2 - p1), .int (-p1 - p2)]) hq
      obtain ⟨L, eL⟩ : ∃ L : List Int, [p1 + p2, p1 - p2, p2 - p1, -p1 - p2] = L := ⟨_, rfl⟩
      have eX : ([.int (p1 + p2), .int (p1 - p2), .int (p2 - p1), .int (-p1 - p2)] : List V) = L.map V.int := by rw [← eL]; rfl
      have l4 : L.length = 4 := by rw [← eL]; rfl
      rw [eX] at sq ⊢
      refine ⟨q, rfl, ⟨_, SqT.of upd_same⟩, fun D hD => lc_map (walk_tup (K := K) (a := q) (xs := L.map V.int)) (fun H' s' => SqT.of (s' _ _ upd_same)) (fun j y _ => ∃ z, L[j]? = some z ∧ y = .int (z - 13860)) (fun _ _ _ _ _ h => h) (by rw [List.length_map, l4]; decide) hD (fun j x Ha Hb Q' hj sa ⟨ey, hy⟩ kk' => ?_) (fun ys H2 e1 e2 e3 s2 => ?_)⟩
      · subst ey
        obtain ⟨z, hz, rfl⟩ := map_get hy
        refine ⟨rfl, _, rfl, _, _, rfl, rfl, ⟨by decide, by decide⟩, _, _, rfl, rfl, kk' _ _ ⟨z, hz, rfl⟩ (Same.refl _)⟩
      · rw [List.length_map] at e2
        obtain rfl := map_of_at e2 e3
        refine ⟨_, rfl, D, rfl, ⟨_, SqL.of e1⟩, fun D2 hD2 => lc_map (walk_list (K := K) (a := D) (xs := L.map fun z => V.int (z - 13860))) (fun H' s' => SqL.of (s' _ _ e1)) (fun j y _ => ∃ z, L[j]? = some z ∧ y = .bl (decide (0 ≤ z - 13860) && decide ((z - 13860) % 27720 = 0))) (fun _ _ _ _ _ h => h) (by rw [List.length_map, l4]; decide) hD2 (fun j x Ha Hb Q' hj sa ⟨ey, hy⟩ kk' => ?_) (fun ys H3 f1 f2 f3 s3 => ?_)⟩
        · subst ey
          rw [List.getElem?_map] at hy
          obtain ⟨z, hz, rfl⟩ := Option.map_eq_some_iff.mp hy
          refine ⟨rfl, _, rfl, _, _, rfl, rfl, _, rfl, ite_b (fun c => ?_) (fun c => ?_)⟩
          · refine ⟨_, rfl, _, _, rfl, rfl, by show (0 : Int) < 27720; decide, rfl, kk' _ _ ⟨z, hz, ?_⟩ (Same.refl _)⟩
            have e : decide (V.int ((z - 13860) % 27720) = V.int 0) = decide ((z - 13860) % 27720 = 0) := decide_eq_decide.mpr ⟨fun h => V.int.inj h, fun h => congrArg V.int h⟩
            rw [show decide (0 ≤ z - 13860) = true from c, Bool.true_and, ← e]
          · refine kk' _ _ ⟨z, hz, ?_⟩ (Same.refl _)
            rw [show decide (0 ≤ z - 13860) = false from c, Bool.false_and]
        · rw [List.length_map] at f2
          obtain rfl := map_of_at f2 f3
          refine ⟨D2, L.map fun z => decide (0 ≤ z - 13860) && decide ((z - 13860) % 27720 = 0), rfl, SqL.of (by rw [List.map_map]; exact f1), _, rfl, ?_⟩
          have ew : (L.map fun z => decide (0 ≤ z - 13860) && decide ((z - 13860) % 27720 = 0)).any id = whitB p1 p2 := by
            unfold whitB
            rw [eL, List.any_map]; rfl
          rw [ew]
          exact kk H3 (sH.trans (sq.trans (s2.trans s3)))
    · match i, hu, he with
      | 0, hu, he => cases hu; cases he; exact (k2 no).later (snew hp)
      | 1, hu, he => cases hu; cases he; exact (k3 (ear 0 d (by decide) rfl) no).later (snew hp)
end
end N3

namespace N3
open PySem PySem.Spec PyProof.Rows L2 N2
/-! ### the rows of H. Schwarz -/
abbrev Fr := Int × Int
abbrev Rw := Fr × Fr × Fr
def sgn : List (Int × Int × Int) := [(1, 1, 1), (1, 1, -1), (1, -1, 1), (1, -1, -1), (-1, 1, 1), (-1, 1, -1), (-1, -1, 1), (-1, -1, -1)]
def apB (x y z : Int) (r : Rw) : Bool := ([x - prt r.1.1 r.1.2, y - prt r.2.1.1 r.2.1.2, z - prt r.2.2.1 r.2.2.2].all fun a => decide (a % 27720 = 0)) && decide ([x - prt r.1.1 r.1.2, y - prt r.2.1.1 r.2.1.2, z - prt r.2.2.1 r.2.2.2].sum % 55440 = 0)
def fitO (x y z : Int) (r : Rw) : Bool := sgn.any fun s => apB (s.1 * x) (s.2.1 * y) (s.2.2 * z) r
def ords (p q r : Int) : List (Int × Int × Int) := [(p, q, r), (p, r, q), (q, p, r), (q, r, p), (r, p, q), (r, q, p)]
def fitB (p q r : Int) (row : Rw) : Bool := (ords p q r).any fun o => fitO o.1 o.2.1 o.2.2 row
/-- a pair of ints, read -/
def PrS (K : PySem.W.Frag) (H : Hp) (v : V) (x : Fr) : Prop := ∃ a, v = .ref a ∧ SqT K H a [.int x.1, .int x.2] ∧ 0 < x.2 ∧ x.2 < 1000
/-- a row, read -/
def RwS (K : PySem.W.Frag) (H : Hp) (b : Addr) (r : Rw) : Prop := ∃ u v w, SqT K H b [u, v, w] ∧ PrS K H u r.1 ∧ PrS K H v r.2.1 ∧ PrS K H w r.2.2
theorem PrS.same {K : PySem.W.Frag} {H H' : Hp} {v : V} {x : Fr} (s : Same H H') (h : PrS K H v x) : PrS K H' v x := let ⟨a, e, q, p⟩ := h; ⟨a, e, same_sqt s q, p⟩
theorem RwS.same {K : PySem.W.Frag} {H H' : Hp} {b : Addr} {r : Rw} (s : Same H H') (h : RwS K H b r) : RwS K H' b r := let ⟨u, v, w, e, p1, p2, p3⟩ := h; ⟨u, v, w, same_sqt s e, p1.same s, p2.same s, p3.same s⟩
def spSigned (K : PySem.W.Frag) : Sp := fun vs H Q _ => ∃ (a : Addr) (x y z : Int), vs = [.ref a] ∧ SqT K H a [.int x, .int y, .int z] ∧
  ∀ (l : Addr) (xs : List V) (H' : Hp), H' l = some (.lst xs) → xs.length = 8 → (∀ (j : Nat) (v : V), xs[j]? = some v → ∃ s b, sgn[j]? = some s ∧ v = .ref b ∧ H' b = some (.tup [.int (s.1 * x), .int (s.2.1 * y), .int (s.2.2 * z)])) → Same H H' → Q (.ref l) H'
def spLies (K : PySem.W.Frag) : Sp := fun vs H Q _ => ∃ (a b : Addr) (x y z : Int) (r : Rw), vs = [.ref a, .ref b] ∧ SqT K H a [.int x, .int y, .int z] ∧ RwS K H b r ∧ ∀ H', Same H H' → Q (.bl (apB x y z r)) H'
def spFit3 (K : PySem.W.Frag) : Sp := fun vs H Q _ => ∃ (a b : Addr) (x y z : Int) (r : Rw), vs = [.ref a, .ref b] ∧ SqL K H a [.int x, .int y, .int z] ∧ RwS K H b r ∧ ∀ H', Same H H' → Q (.bl (fitB x y z r)) H'
section
variable {P : Program} {w : World} {K : PySem.W.Frag} {mg : Str → Option Value} {base : Heap}
abbrev s_signed : Stmt := top 29
abbrev nsSg : List Str := ["parts", "first", "second", "third", "sign", "other", "last"]
theorem sc_signed : FnScope nsSg ["parts"] (defScope s_signed) := ⟨rfl, rfl, rfl, by decide +kernel, rfl, by decide +kernel, by decide +kernel⟩
theorem ok_signed {f  : Addr} {fd  : FuncData}  (F : Fun K "signed" "signed" s_signed f fd) (T : Bt mg)  : FnOk P w K mg base CX0 1 f fd ["parts"] (spSigned K) := by
  refine F.ok sc_signed (fun vs H Q E h => ?_) (fun cdv A outer s H vs Q E hr h => ?_)
  · obtain ⟨a, x, y, z, rfl, _⟩ := h
    rfl
  · obtain ⟨a, x, y, z, rfl, ha, k⟩ := h
    refine ⟨_, pss_cons (ps_asg (pv 0) (pg_tup rfl (pgs_cons (pg_name (i := 1) sc_signed.nd rfl (Or.inr rfl)) (pgs_cons (pg_name (i := 2) sc_signed.nd rfl (Or.inr rfl)) (pgs_cons (pg_name (i := 3) sc_signed.nd rfl (Or.inr rfl)) pgs_nil)))))
      (pss_one (ps_ret (LcX.pe_lc3 (own := [("sign", 4), ("other", 5), ("last", 6)]) (vs1 := [5, 6]) (vs2 := [6]) (g0 := gName 4) (g1 := gName 5) (g2 := gName 6) (u0 := tYes) (u1 := tYes) (u2 := tYes) (w1 := iTup K (tTup (tCons (tC (.int 1)) (tCons (tUn (rU fun i => V.int (-i)) (tC (.int 1))) tNil)))) (w2 := iTup K (tTup (tCons (tC (.int 1)) (tCons (tUn (rU fun i => V.int (-i)) (tC (.int 1))) tNil)))) rfl sc_signed.nd (pi_tup (pe_tup (pa_cons pe_int (pa_cons (pe_un un_neg pe_int) pa_nil)))) (blkOk_by (own := [("sign", 4), ("other", 5), ("last", 6)]) (N := nsSg) (sc := defScope s_signed) (by decide +kernel)) (by decide) (by decide) (fun _ _ _ _ _ => pg_name (i := 4) sc_signed.nd rfl (Or.inl rfl)) (fun _ _ _ _ _ => pts_nil) (fun _ _ _ _ _ => (pi_tup (pe_tup (pa_cons pe_int (pa_cons (pe_un un_neg pe_int) pa_nil))))) (fun _ _ _ _ _ => pg_name (i := 5) sc_signed.nd rfl (Or.inl rfl)) (fun _ _ _ _ _ => pts_nil) (fun _ _ _ _ _ => (pi_tup (pe_tup (pa_cons pe_int (pa_cons (pe_un un_neg pe_int) pa_nil))))) (fun _ _ _ _ _ => pg_name (i := 6) sc_signed.nd rfl (Or.inl rfl)) (fun _ _ _ _ _ => pts_nil) (fun _ _ _ _ _ => (pe_tup (pa_cons (pe_op op_mul (pv 4) (pv 1)) (pa_cons (pe_op op_mul (pv 5) (pv 2)) (pa_cons (pe_op op_mul (pv 6) (pv 3)) pa_nil)))))))), ?_⟩
    refine ⟨_, rfl, a, _, rfl, ha, rfl, _, _, rfl, _, _, rfl, _, _, rfl, rfl, ?_⟩
    have s2 : 2 ≤ sizeLine := by rw [sizeLine_eq]; decide
    have s3' : 3 ≤ sizeLine := by rw [sizeLine_eq]; decide
    refine ⟨_, rfl, s2, fun q0 hq0 => ⟨q0, rfl, ⟨_, SqT.of upd_same⟩, fun D hD => ?_⟩⟩
    have sq0 := snew (o := .tup [.int 1, .int (-1)]) hq0
    have hD0 : H D = none := sq0.free hD
    -- the first so many are made
    obtain ⟨Iv, eIv⟩ : ∃ Iv : Nat → Hp → Prop, Iv = fun m H' => ∃ ys : List V, H' D = some (.lst ys) ∧ ys.length = m ∧ (∀ (j : Nat) (v : V), ys[j]? = some v → ∃ s b, sgn[j]? = some s ∧ v = .ref b ∧ H' b = some (.tup [.int (s.1 * x), .int (s.2.1 * y), .int (s.2.2 * z)])) ∧ Same H H' ∧ H' q0 = some (.tup [.int 1, .int (-1)]) := ⟨_, rfl⟩
    have Is : ∀ {m : Nat} {H1 H2 : Hp}, Iv m H1 → Same H1 H2 → Iv m H2 := fun {m H1 H2} h s => by
      subst eIv
      obtain ⟨ys, e1, e2, e3, e4, e5⟩ := h
      exact ⟨ys, s _ _ e1, e2, fun j v e => let ⟨s', b, f1, f2, f3⟩ := e3 j v e; ⟨s', b, f1, f2, s _ _ f3⟩, e4.trans s, s _ _ e5⟩
    have gets : ∀ (i : Nat) (v : V), [V.int 1, V.int (-1)][i]? = some v → i < 2 ∧ v = .int (if i = 0 then 1 else -1) := fun i v e => by
      match i, e with
      | 0, e => cases e; exact ⟨by decide, rfl⟩
      | 1, e => cases e; exact ⟨by decide, rfl⟩
    have sg : ∀ i j k : Nat, i < 2 → j < 2 → k < 2 → sgn[4 * i + 2 * j + k]? = some ((if i = 0 then 1 else -1), (if j = 0 then 1 else -1), (if k = 0 then 1 else -1)) := fun i j k hi hj hk => by
      have h1 : i = 0 ∨ i = 1 := by omega
      have h2 : j = 0 ∨ j = 1 := by omega
      have h3 : k = 0 ∨ k = 1 := by omega
      rcases h1 with rfl | rfl <;> rcases h2 with rfl | rfl <;> rcases h3 with rfl | rfl <;> rfl
    have un : ∀ i : Nat, ∀ y : Int, CMul (if i = 0 then 1 else -1) y := fun i y => .inl ⟨by split <;> decide, by split <;> decide⟩
    refine l3_out (walk_tup (K := K) (a := q0) (xs := [.int 1, .int (-1)])) (fun i H' => Iv (4 * i) H') (by rw [eIv]; exact ⟨[], upd_same, rfl, fun j v e => by simp at e, sq0.trans (snew hD), (snew hD) _ _ upd_same⟩) (fun i H' _ h => by rw [eIv] at h; obtain ⟨_, _, _, _, _, e⟩ := h; exact SqT.of e) ?_ ?_
    · rintro i v0 Ha Hb hi iv ⟨rfl, ev0⟩
      obtain ⟨i2, rfl⟩ := gets i v0 ev0
      refine ⟨rfl, ?_⟩
      refine ⟨_, rfl, s2, fun q1 hq1 => ⟨q1, rfl, ⟨_, SqT.of upd_same⟩, ?_⟩⟩
      have sq1 := snew (o := .tup [.int 1, .int (-1)]) hq1
      refine l3_in (walk_tup (K := K) (a := q1) (xs := [.int 1, .int (-1)])) (fun j H' => Iv (4 * i + 2 * j) H' ∧ H' q1 = some (.tup [.int 1, .int (-1)])) ⟨Is iv sq1, upd_same⟩ (fun j H' _ h => SqT.of h.2) ?_ ?_
      · rintro j v1 Hc Hd hj ⟨jv, hq1c⟩ ⟨rfl, ev1⟩
        obtain ⟨j2, rfl⟩ := gets j v1 ev1
        refine ⟨rfl, ?_⟩
        refine ⟨_, rfl, s2, fun q2 hq2 => ⟨q2, rfl, ⟨_, SqT.of upd_same⟩, ?_⟩⟩
        have sq2 := snew (o := .tup [.int 1, .int (-1)]) hq2
        refine l3_in (walk_tup (K := K) (a := q2) (xs := [.int 1, .int (-1)])) (fun k H' => Iv (4 * i + 2 * j + k) H' ∧ H' q1 = some (.tup [.int 1, .int (-1)]) ∧ H' q2 = some (.tup [.int 1, .int (-1)])) ⟨Is jv sq2, sq2 _ _ hq1c, upd_same⟩ (fun k H' _ h => SqT.of h.2.2) ?_ ?_
        · rintro k v2 He Hf hk ⟨kv, hq1e, hq2e⟩ ⟨rfl, ev2⟩
          obtain ⟨k2, rfl⟩ := gets k v2 ev2
          refine ⟨rfl, ?_⟩
          refine ⟨_, rfl, _, rfl, _, _, rfl, rfl, un _ _, _, rfl, _, rfl, _, _, rfl, rfl, un _ _, _, rfl, _, rfl, _, _, rfl, rfl, un _ _, s3', fun b hb => ?_⟩
          rw [eIv] at kv ⊢
          obtain ⟨ys, e1, e2, e3, e4, e5⟩ := kv
          have sb := snew (o := .tup [.int ((if i = 0 then 1 else -1) * x), .int ((if j = 0 then 1 else -1) * y), .int ((if k = 0 then 1 else -1) * z)]) hb
          have nbD : b ≠ D := (ne_of_none e1 hb).symm
          have tp : Tst Hf (upd (upd Hf b (.tup [.int ((if i = 0 then 1 else -1) * x), .int ((if j = 0 then 1 else -1) * y), .int ((if k = 0 then 1 else -1) * z)])) D (.lst (ys ++ [.ref b]))) := (Tst.of sb).trans (Tst.put (sb _ _ e1))
          refine ⟨ys, sb _ _ e1, small_m' (by omega), ⟨ys ++ [.ref b], upd_same, by rw [List.length_append, e2]; rfl, fun m v e => ?_, fun c o e => ?_, tp _ _ e5⟩, tp _ _ hq1e, tp _ _ hq2e⟩
          · rcases Nat.lt_or_ge m ys.length with c | c
            · rw [List.getElem?_append_left c] at e
              obtain ⟨s', b', f1, f2, f3⟩ := e3 m v e
              exact ⟨s', b', f1, f2, tp _ _ f3⟩
            · rw [List.getElem?_append_right c] at e
              have em : m = 4 * i + 2 * j + k := by
                rcases Nat.lt_or_ge (m - ys.length) 1 with d | d
                · omega
                · rw [List.getElem?_eq_none (by simpa using d)] at e; cases e
              rw [show m - ys.length = 0 by omega] at e
              cases e
              refine ⟨_, b, by rw [em]; exact sg i j k i2 j2 k2, rfl, ?_⟩
              rw [upd_ne nbD]; exact upd_same
          · rw [upd_ne (ne_of_none e hD0)]
            exact sb _ _ (e4 _ _ e)
        · rintro He ⟨kv, hq1e, _⟩
          exact ⟨by rw [show 4 * i + 2 * (j + 1) = 4 * i + 2 * j + 2 by omega]; exact kv, hq1e⟩
      · rintro Hc ⟨jv, _⟩
        show Iv (4 * (i + 1)) Hc
        rw [show 4 * (i + 1) = 4 * i + 2 * 2 by omega]
        exact jv
    · intro Ha iv
      rw [eIv] at iv
      obtain ⟨ys, e1, e2, e3, e4, _⟩ := iv
      exact k D ys Ha e1 e2 e3 e4
end
end N3

namespace N3
open PySem PySem.Spec PyProof.Rows L2 N2
theorem arr_ords {x y z : Int} {i : Nat} (h : i < 6) : ∃ o, (ords x y z)[i]? = some o ∧ PmX.arr [.int x, .int y, .int z] i = [.int o.1, .int o.2.1, .int o.2.2] := by
  rcases PmX.lt6 h with rfl | rfl | rfl | rfl | rfl | rfl <;> exact ⟨_, rfl, rfl⟩
theorem any_at {α : Type} {p : α → Bool} {l : List α} {n : Nat} (hl : l.length = n) : l.any p = false ↔ ∀ j, j < n → ∀ o, l[j]? = some o → p o = false := by
  rw [List.any_eq_false]
  constructor
  · intro h j _ o e
    have := h o (List.mem_of_getElem? e)
    simpa using this
  · intro h o ho
    obtain ⟨j, hj, e⟩ := List.mem_iff_getElem.mp ho
    have := h j (by omega) o (by rw [List.getElem?_eq_getElem hj, e])
    rw [this]; simp
section
variable {P : Program} {w : World} {K : PySem.W.Frag} {mg : Str → Option Value} {base : Heap}
abbrev s_lies_over : Stmt := top 30
abbrev nsLo : List Str := ["parts", "row", "apart", "one", "other"]
theorem sc_lies_over : FnScope nsLo ["parts", "row"] (defScope s_lies_over) := ⟨rfl, rfl, rfl, by decide +kernel, rfl, by decide +kernel, by decide +kernel⟩
theorem ok_lies_over {f f_parts_in : Addr} {fd d_parts_in : FuncData} {t_PARTS : Tok} (i_PARTS : mg "PARTS" = some (.int 27720 t_PARTS)) (F : Fun K "lies_over" "lies_over" s_lies_over f fd) (T : Bt mg) (p_parts_in : Kn P w K mg base 1 "parts_in" ["fraction"] (spParts K) f_parts_in d_parts_in) : FnOk P w K mg base CX0 2 f fd ["parts", "row"] (spLies K) := by
  refine F.ok sc_lies_over (fun vs H Q E h => ?_) (fun cdv A outer s H vs Q E hr h => ?_)
  · obtain ⟨a, b, x, y, z, r, rfl, _⟩ := h
    rfl
  · obtain ⟨a, b, x, y, z, r, rfl, ha, hb, k⟩ := h
    refine ⟨_, pss_cons (ps_setLc (i := 2) (own := [("one", 3), ("other", 4)]) (g := (gTup K 2 (gCons (gName 3) (gCons (gName 4) gNil)))) (tt := tYes) rfl sc_lies_over.nd rfl rfl (sw_true rfl rfl (by rfl) (by rfl)) (RZ.pi_zipA (by rfl) T.zip (pa_cons (pv 0) (pa_cons (pv 1) pa_nil))) (blkOk_by (own := [("one", 3), ("other", 4)]) (N := nsLo) (sc := defScope s_lies_over) (by decide +kernel)) (fun _ _ _ _ _ => pg_tup rfl (pgs_cons (pg_name (i := 3) sc_lies_over.nd rfl (Or.inl rfl)) (pgs_cons (pg_name (i := 4) sc_lies_over.nd rfl (Or.inl rfl)) pgs_nil))) (fun _ _ _ _ _ => pts_nil) (fun _ _ _ _ _ => (pe_op op_sub (pv 3) (pe_call p_parts_in.ok (hr.mono (by decide)) rfl p_parts_in.mg p_parts_in.kp p_parts_in.bd .nil pass0 (pa_cons (pv 4) pa_nil)))))
      (pss_one (ps_ret (pe_and (pe_callB (cr_all rfl) (by rfl) T.all (by decide +kernel) (pa_cons (pe_lc (own := [("one", 3)]) (g := (gName 3)) (tt := tYes) rfl sc_lies_over.nd (pi_list (pv 2)) (blkOk_by (own := [("one", 3)]) (N := nsLo) (sc := defScope s_lies_over) (by decide +kernel)) (fun _ _ _ _ _ => pg_name (i := 3) sc_lies_over.nd rfl (Or.inl rfl)) (fun _ _ _ _ _ => pts_nil) (fun _ _ _ _ _ => (pe_cmpR op_eq (pe_op op_mod (pv 3) (pe_glob (v := .int _) rfl i_PARTS ⟨_, rfl⟩)) pe_int (nomark _)))) pa_nil)) (pe_one (pe_cmpR op_eq (pe_op op_mod (pe_callB (cr_sum rfl) (by rfl) T.sum (by decide +kernel) (pa_cons (pv 2) pa_nil)) (pe_op op_mul pe_int (pe_glob (v := .int _) rfl i_PARTS ⟨_, rfl⟩))) pe_int (nomark _)))))), ?_⟩
    obtain ⟨u, v, w', hq, pu, pv', pw⟩ := hb
    obtain ⟨Ls, eL⟩ : ∃ Ls : List Int, [x - prt r.1.1 r.1.2, y - prt r.2.1.1 r.2.1.2, z - prt r.2.2.1 r.2.2.2] = Ls := ⟨_, rfl⟩
    have l3 : Ls.length = 3 := by rw [← eL]; rfl
    have ats : ∀ (j : Nat) (c o : V), [V.int x, V.int y, V.int z][j]? = some c → [u, v, w'][j]? = some o → ∃ (i : Int) (fr : Fr), c = .int i ∧ PrS K H o fr ∧ Ls[j]? = some (i - prt fr.1 fr.2) := fun j c o e1 e2 => by
      rw [← eL]
      match j, e1, e2 with
      | 0, e1, e2 => cases e1; cases e2; exact ⟨x, r.1, rfl, pu, rfl⟩
      | 1, e1, e2 => cases e1; cases e2; exact ⟨y, r.2.1, rfl, pv', rfl⟩
      | 2, e1, e2 => cases e1; cases e2; exact ⟨z, r.2.2, rfl, pw, rfl⟩
    refine ⟨_, rfl, _, rfl, a, b, [.int x, .int y, .int z], [u, v, w'], rfl, .inr ⟨ha, hq, fun D hD => lc_map (walk_zipT (K := K) (a := a) (b := b) (xs := [.int x, .int y, .int z]) (ys := [u, v, w']) (n := 3) rfl) (fun H' s' => ⟨same_sqt s' ha, same_sqt s' hq⟩)
      (fun j q _ => ∃ i, Ls[j]? = some i ∧ q = .int i) (fun _ _ _ _ _ h => h) (by decide) hD (fun j e Ha Hb Q' hj sa yp kk => ?_) (fun ys H1 e1 e2 e3 s1 => ?_)⟩⟩
    · obtain ⟨p, c, o, rfl, hp, rfl, ec, eo⟩ := yp
      obtain ⟨i, fr, rfl, po, el⟩ := ats j c o ec eo
      have sp := snew (o := .tup [.int i, o]) hp
      obtain ⟨ao, rfl, qo, o0, o1⟩ := (po.same sa).same sp
      refine ⟨p, _, rfl, SqT.of upd_same, rfl, _, _, rfl, _, _, rfl, rfl, rfl, _, rfl, _, rfl, ao, _, _, rfl, qo, o0, o1, _, _, rfl, rfl, kk _ _ ⟨_, el, rfl⟩ sp⟩
    · obtain rfl := map_of_at (e2.trans l3.symm) e3
      refine ⟨_, rfl, D, rfl, ⟨_, SqL.of e1⟩, fun D2 hD2 => lc_map (walk_list (K := K) (a := D) (xs := Ls.map V.int)) (fun H' s' => SqL.of (s' _ _ e1)) (fun j q _ => ∃ i, Ls[j]? = some i ∧ q = .bl (decide (i % 27720 = 0))) (fun _ _ _ _ _ h => h) (by rw [List.length_map, l3]; decide) hD2 (fun j e Ha Hb Q' hj sa ⟨ey, hy⟩ kk => ?_) (fun ys H2 f1 f2 f3 s2 => ?_)⟩
      · subst ey
        obtain ⟨i, hi', rfl⟩ := map_get hy
        have de : decide (V.int (i % 27720) = V.int 0) = decide (i % 27720 = 0) := decide_eq_decide.mpr ⟨fun h => V.int.inj h, fun h => congrArg V.int h⟩
        exact ⟨rfl, _, rfl, _, _, rfl, rfl, by show (0 : Int) < 27720; decide, rfl, kk _ _ ⟨i, hi', congrArg V.bl de⟩ (Same.refl _)⟩
      · rw [List.length_map] at f2
        obtain rfl := map_of_at f2 f3
        have kk := k H2 (s1.trans s2)
        have ea : apB x y z r = ((Ls.all fun a => decide (a % 27720 = 0)) && decide (Ls.sum % 55440 = 0)) := by
          unfold apB
          rw [eL]
        rw [ea] at kk
        refine ⟨D2, Ls.map fun i => decide (i % 27720 = 0), rfl, SqL.of (by rw [List.map_map]; exact f1), _, rfl, ?_⟩
        have eb : (Ls.map fun i => decide (i % 27720 = 0)).all id = Ls.all fun a => decide (a % 27720 = 0) := by rw [List.all_map]; rfl
        rw [eb]
        refine ite_b (fun c => ?_) (fun c => ?_)
        · rw [c, Bool.true_and] at kk
          refine ⟨_, rfl, D, Ls, rfl, SqL.of (s2 _ _ e1), _, _, rfl, rfl, .inl ⟨by decide, by decide⟩, _, _, rfl, rfl, by show (0 : Int) < 2 * 27720; decide, rfl, ?_⟩
          have de : decide (V.int (Ls.sum % (2 * 27720)) = V.int 0) = decide (Ls.sum % 55440 = 0) := decide_eq_decide.mpr ⟨fun h => V.int.inj h, fun h => congrArg V.int h⟩
          rw [← de] at kk
          exact kk
        · rw [c, Bool.false_and] at kk
          exact kk
abbrev s_fits_row : Stmt := top 31
abbrev nsFr : List Str := ["parts", "row", "order", "told"]
theorem sc_fits_row : FnScope nsFr ["parts", "row"] (defScope s_fits_row) := ⟨rfl, rfl, rfl, by decide +kernel, rfl, by decide +kernel, by decide +kernel⟩
theorem ok_fits_row {f f_signed f_lies_over : Addr} {fd d_signed d_lies_over : FuncData}  (F : Fun K "fits_row" "fits_row" s_fits_row f fd) (T : Bt mg) (p_signed : Kn P w K mg base 1 "signed" ["parts"] (spSigned K) f_signed d_signed) (p_lies_over : Kn P w K mg base 2 "lies_over" ["parts", "row"] (spLies K) f_lies_over d_lies_over) : FnOk P w K mg base CX0 3 f fd ["parts", "row"] (spFit3 K) := by
  refine F.ok sc_fits_row (fun vs H Q E h => ?_) (fun cdv A outer s H vs Q E hr h => ?_)
  · obtain ⟨a, b, x, y, z, r, rfl, _⟩ := h
    rfl
  · obtain ⟨a, b, x, y, z, r, rfl, ha, hb, k⟩ := h
    refine ⟨_, pss_cons (ps_for PassesOwn.never rfl (PmX.pi_perm (by rfl) T.perm (pa_cons (pv 0) pa_nil)) (pg_name (i := 2) sc_fits_row.nd rfl (Or.inl rfl))
        (pss_one (ps_if (pt_val (pe_callB (cr_any rfl) (by rfl) T.any (by decide +kernel) (pa_cons (pe_lc (own := [("told", 3)]) (g := (gName 3)) (tt := tYes) rfl sc_fits_row.nd (pi_list (pe_call p_signed.ok (hr.mono (by decide)) rfl p_signed.mg p_signed.kp p_signed.bd .nil pass0 (pa_cons (pv 2) pa_nil))) (blkOk_by (own := [("told", 3)]) (N := nsFr) (sc := defScope s_fits_row) (by decide +kernel)) (fun _ _ _ _ _ => pg_name (i := 3) sc_fits_row.nd rfl (Or.inl rfl)) (fun _ _ _ _ _ => pts_nil) (fun _ _ _ _ _ => (pe_call p_lies_over.ok (hr.mono (by decide)) rfl p_lies_over.mg p_lies_over.kp p_lies_over.bd .nil pass0 (pa_cons (pv 3) (pa_cons (pv 1) pa_nil))))) pa_nil)))
          (pss_one (ps_ret pe_bl))
          pss_nil)))
      (pss_one (ps_ret pe_bl)), ?_⟩
    refine ⟨_, rfl, a, .int x, .int y, .int z, rfl, ha, PmX.for_perm (xs := [.int x, .int y, .int z]) (fun i σ H' => (∃ o : Option V, σ = [some (.ref a), some (.ref b), o, none]) ∧ Same H H' ∧ ∀ j, j < i → ∀ o, (ords x y z)[j]? = some o → fitO o.1 o.2.1 o.2.2 r = false)
      ⟨⟨_, rfl⟩, Same.refl _, fun j hj => by omega⟩ ?_ ?_⟩
    · rintro i σ H1 p hi ⟨⟨o0, rfl⟩, s1, all⟩ hp
      obtain ⟨o, eo, ea⟩ := arr_ords (x := x) (y := y) (z := z) hi
      rw [ea]
      have sp := snew (o := .tup [.int o.1, .int o.2.1, .int o.2.2]) hp
      refine ⟨_, rfl, p, o.1, o.2.1, o.2.2, rfl, SqT.of upd_same, fun l xs H2 e1 e2 e3 s2 => ⟨l, rfl, ⟨_, SqL.of e1⟩, fun D hD => lc_map (walk_list (K := K) (a := l) (xs := xs)) (fun H' s' => SqL.of (s' _ _ e1)) (fun j q _ => ∃ s, sgn[j]? = some s ∧ q = .bl (apB (s.1 * o.1) (s.2.1 * o.2.1) (s.2.2 * o.2.2) r)) (fun _ _ _ _ _ h => h) (by rw [e2]; decide) hD (fun j e Ha Hb' Q' hj sa ⟨ey, hy⟩ kk => ?_) (fun ys H3 f1 f2 f3 s3 => ?_)⟩⟩
      · subst ey
        obtain ⟨s', b', es, rfl, eb⟩ := e3 j e hy
        exact ⟨rfl, _, rfl, _, rfl, b', b, _, _, _, r, rfl, SqT.of (sa _ _ eb), ((((hb.same s1).same sp).same s2).same sa), fun H' s'' => kk _ _ ⟨s', es, rfl⟩ s''⟩
      · rw [e2] at f2
        obtain rfl := map_of_at (L := sgn) (f := fun s => .bl (apB (s.1 * o.1) (s.2.1 * o.2.1) (s.2.2 * o.2.2) r)) f2 f3
        refine ⟨D, sgn.map fun s => apB (s.1 * o.1) (s.2.1 * o.2.1) (s.2.2 * o.2.2) r, rfl, SqL.of (by rw [List.map_map]; exact f1), ?_⟩
        have eq : (sgn.map fun s => apB (s.1 * o.1) (s.2.1 * o.2.1) (s.2.2 * o.2.2) r).any id = fitO o.1 o.2.1 o.2.2 r := by
          unfold fitO
          rw [List.any_map]; rfl
        rw [eq]
        have st := ((s1.trans sp).trans s2).trans s3
        refine ⟨_, rfl, ite_b (fun c => ?_) (fun c => ?_)⟩
        · have kk := k H3 st
          have ef : fitB x y z r = true := by
            unfold fitB
            exact List.any_eq_true.mpr ⟨o, List.mem_of_getElem? eo, c⟩
          rw [ef] at kk
          exact kk
        · refine ⟨⟨_, rfl⟩, st, fun j hj o' eo' => ?_⟩
          by_cases q : j = i
          · subst q
            rw [eo] at eo'
            cases eo'
            exact c
          · exact all j (by omega) o' eo'
    · rintro σ H1 ⟨_, s1, all⟩
      have kk := k H1 s1
      have ef : fitB x y z r = false := by
        unfold fitB
        exact (any_at rfl).mpr all
      rw [ef] at kk
      exact kk
end
end N3

namespace N3
open PySem PySem.Spec PyProof.Rows L2 N2
/-! ### the verdict of three points -/
def rowsT : List (Str × Rw) := [("four faces", (1, 2), (1, 3), (1, 3)), ("four faces", (2, 3), (1, 3), (1, 3)), ("eight faces", (1, 2), (1, 3), (1, 4)), ("eight faces", (2, 3), (1, 4), (1, 4)),
  ("twenty faces", (1, 2), (1, 3), (1, 5)), ("twenty faces", (2, 5), (1, 3), (1, 3)), ("twenty faces", (2, 3), (1, 5), (1, 5)), ("twenty faces", (1, 2), (2, 5), (1, 5)), ("twenty faces", (3, 5), (1, 3), (1, 5)),
  ("twenty faces", (2, 5), (2, 5), (2, 5)), ("twenty faces", (2, 3), (1, 3), (1, 5)), ("twenty faces", (4, 5), (1, 5), (1, 5)), ("twenty faces", (1, 2), (2, 5), (1, 3)), ("twenty faces", (3, 5), (2, 5), (1, 3))]
def encRow (x : Str × Rw) : PyData := .tuple [.str x.1, prD x.2.1.1 x.2.1.2, prD x.2.2.1.1 x.2.2.1.2, prD x.2.2.2.1 x.2.2.2.2]
abbrev rowsD : PyData := .tuple [encRow ("four faces", (1, 2), (1, 3), (1, 3)), encRow ("four faces", (2, 3), (1, 3), (1, 3)), encRow ("eight faces", (1, 2), (1, 3), (1, 4)), encRow ("eight faces", (2, 3), (1, 4), (1, 4)),
  encRow ("twenty faces", (1, 2), (1, 3), (1, 5)), encRow ("twenty faces", (2, 5), (1, 3), (1, 3)), encRow ("twenty faces", (2, 3), (1, 5), (1, 5)), encRow ("twenty faces", (1, 2), (2, 5), (1, 5)), encRow ("twenty faces", (3, 5), (1, 3), (1, 5)),
  encRow ("twenty faces", (2, 5), (2, 5), (2, 5)), encRow ("twenty faces", (2, 3), (1, 3), (1, 5)), encRow ("twenty faces", (4, 5), (1, 5), (1, 5)), encRow ("twenty faces", (1, 2), (2, 5), (1, 3)), encRow ("twenty faces", (3, 5), (2, 5), (1, 3))]
def findR (p q r : Int) : List (Str × Rw) → Str
  | [] => "nothing"
  | x :: xs => if fitB p q r x.2 = true then x.1 else findR p q r xs
def oddAny (Ls : List Int) : Bool := oddC Ls.sum || Ls.any fun one => oddC (Ls.sum - 2 * one)
def halvesN (Ls : List Int) : Nat := ((List.range Ls.length).filter fun j => oddC (2 * Ls.getD j 0)).length
def wordP (p q r : Int) : Str :=
  if oddAny [p, q, r] = true then "quotient" else if 1 < halvesN [p, q, r] then (if halvesN [p, q, r] = 3 then "eight" else "square") else findR p q r rowsT
def spThreeV (C : Addr) : Sp := fun vs H Q E => ∃ (v1 v2 v3 : V) (d1 d2 d3 : PyData), vs = [v1, v2, v3] ∧ Dn H v1 d1 ∧ Dn H v2 d2 ∧ Dn H v3 d3 ∧
  (∀ t1 b1 t2 b2 t3 b3 : Int, d1 = prD t1 b1 → d2 = prD t2 b2 → d3 = prD t3 b3 → parD d1 = true → parD d2 = true → parD d3 = true → ∀ H', Same H H' → Q (.str (wordP (prt t1 b1) (prt t2 b2) (prt t3 b3))) H') ∧
  (parD d1 = false → Air H E C v1) ∧ (parD d1 = true → parD d2 = false → Air H E C v2) ∧ (parD d1 = true → parD d2 = true → parD d3 = false → Air H E C v3)
theorem rows_in (i : Nat) (d : PyData) (h : [encRow ("four faces", (1, 2), (1, 3), (1, 3)), encRow ("four faces", (2, 3), (1, 3), (1, 3)), encRow ("eight faces", (1, 2), (1, 3), (1, 4)), encRow ("eight faces", (2, 3), (1, 4), (1, 4)),
  encRow ("twenty faces", (1, 2), (1, 3), (1, 5)), encRow ("twenty faces", (2, 5), (1, 3), (1, 3)), encRow ("twenty faces", (2, 3), (1, 5), (1, 5)), encRow ("twenty faces", (1, 2), (2, 5), (1, 5)), encRow ("twenty faces", (3, 5), (1, 3), (1, 5)),
  encRow ("twenty faces", (2, 5), (2, 5), (2, 5)), encRow ("twenty faces", (2, 3), (1, 3), (1, 5)), encRow ("twenty faces", (4, 5), (1, 5), (1, 5)), encRow ("twenty faces", (1, 2), (2, 5), (1, 3)), encRow ("twenty faces", (3, 5), (2, 5), (1, 3))][i]? = some d) :
    ∃ x, rowsT[i]? = some x ∧ d = encRow x := by
  have e : rowsT.map encRow = _ := rfl
  rw [show ([encRow ("four faces", (1, 2), (1, 3), (1, 3)), encRow ("four faces", (2, 3), (1, 3), (1, 3)), encRow ("eight faces", (1, 2), (1, 3), (1, 4)), encRow ("eight faces", (2, 3), (1, 4), (1, 4)),
  encRow ("twenty faces", (1, 2), (1, 3), (1, 5)), encRow ("twenty faces", (2, 5), (1, 3), (1, 3)), encRow ("twenty faces", (2, 3), (1, 5), (1, 5)), encRow ("twenty faces", (1, 2), (2, 5), (1, 5)), encRow ("twenty faces", (3, 5), (1, 3), (1, 5)),
  encRow ("twenty faces", (2, 5), (2, 5), (2, 5)), encRow ("twenty faces", (2, 3), (1, 3), (1, 5)), encRow ("twenty faces", (4, 5), (1, 5), (1, 5)), encRow ("twenty faces", (1, 2), (2, 5), (1, 3)), encRow ("twenty faces", (3, 5), (2, 5), (1, 3))] : List PyData) = rowsT.map encRow from rfl, List.getElem?_map] at h
  obtain ⟨x, h1, h2⟩ := Option.map_eq_some_iff.mp h
  exact ⟨x, h1, h2.symm⟩
theorem rows_pos : ∀ x ∈ rowsT, (0 < x.2.1.2 ∧ x.2.1.2 < 1000) ∧ (0 < x.2.2.1.2 ∧ x.2.2.1.2 < 1000) ∧ (0 < x.2.2.2.2 ∧ x.2.2.2.2 < 1000) := by
  intro x hx
  simp only [rowsT, List.mem_cons, List.not_mem_nil, or_false] at hx
  rcases hx with rfl | rfl | rfl | rfl | rfl | rfl | rfl | rfl | rfl | rfl | rfl | rfl | rfl | rfl <;> decide
theorem findR_at {p q r : Int} {i : Nat} {x : Str × Rw} (h : rowsT[i]? = some x) : findR p q r (rowsT.drop i) = if fitB p q r x.2 = true then x.1 else findR p q r (rowsT.drop (i + 1)) := by
  have hi : i < rowsT.length := (List.getElem?_eq_some_iff.mp h).1
  have e : rowsT.drop i = x :: rowsT.drop (i + 1) := by
    rw [List.drop_eq_getElem_cons hi]
    rw [List.getElem?_eq_getElem hi] at h
    rw [Option.some.inj h]
  rw [e]; rfl
/-- a row that is written -/
theorem wv_row {K : PySem.W.Frag} {x : V} {y : Str × Rw} (h : Wv K x (encRow y)) : ∃ (a : Addr) (u v w : V), x = .ref a ∧ (∀ H, SqT K H a [.str y.1, u, v, w]) ∧ (∃ p, u = .ref p ∧ ∀ H, SqT K H p [.int y.2.1.1, .int y.2.1.2]) ∧ (∃ p, v = .ref p ∧ ∀ H, SqT K H p [.int y.2.2.1.1, .int y.2.2.1.2]) ∧ ∃ p, w = .ref p ∧ ∀ H, SqT K H p [.int y.2.2.2.1, .int y.2.2.2.2] := by
  obtain ⟨a, xs, rfl, l, hn, r⟩ := wv_tup h
  match xs, hn with
  | [s, u, v, w], _ =>
    obtain rfl := wv_str (r 0 _ _ rfl rfl)
    exact ⟨a, u, v, w, rfl, l, wv_pair (r 1 _ _ rfl rfl), wv_pair (r 2 _ _ rfl rfl), wv_pair (r 3 _ _ rfl rfl)⟩
section
variable {P : Program} {w : World} {K : PySem.W.Frag} {mg : Str → Option Value} {base : Heap}
abbrev s_three_points_verdict : Stmt := top 32
abbrev nsTp : List Str := ["l", "m", "n", "parts", "total", "halves", "row", "one"]
theorem sc_three_points_verdict : FnScope nsTp ["l", "m", "n"] (defScope s_three_points_verdict) := ⟨rfl, rfl, rfl, by decide +kernel, rfl, by decide +kernel, by decide +kernel⟩
theorem ok_three_points_verdict {f f_check_parameters f_parts_in f_tells_odd f_fits_row : Addr} {fd d_check_parameters d_parts_in d_tells_odd d_fits_row : FuncData} {C : Addr} {t_QUOTIENT t_NOTHING : Tok} (i_QUOTIENT : mg "QUOTIENT" = some (.str "quotient" t_QUOTIENT)) (i_NOTHING : mg "NOTHING" = some (.str "nothing" t_NOTHING)) (w_ROWS : ∃ a, mg "ROWS" = some (.ref a) ∧ WrD K (.ref a) rowsD) (F : Fun K "three_points_verdict" "three_points_verdict" s_three_points_verdict f fd) (T : Bt mg) (p_check_parameters : KnX P w K mg base 5 "check_parameters" ["things"] (spChkPar C) f_check_parameters d_check_parameters) (p_parts_in : Kn P w K mg base 1 "parts_in" ["fraction"] (spParts K) f_parts_in d_parts_in) (p_tells_odd : Kn P w K mg base 1 "tells_odd" ["parts"] spOdd f_tells_odd d_tells_odd) (p_fits_row : Kn P w K mg base 3 "fits_row" ["parts", "row"] (spFit3 K) f_fits_row d_fits_row) : FnOk P w K mg base (L2.CX P w) 6 f fd ["l", "m", "n"] (spThreeV C) := by
  refine F.okX sc_three_points_verdict (fun vs H Q E h => ?_) (fun cdv A outer s H vs Q E hr h => ?_)
  · obtain ⟨v1, v2, v3, d1, d2, d3, rfl, _⟩ := h
    rfl
  · obtain ⟨v1, v2, v3, d1, d2, d3, rfl, h1, h2, h3, k1, k2, k3, k4⟩ := h
    obtain ⟨aR, mR, wR⟩ := w_ROWS
    have tk : Takes (cxOf (L2.CX P w) P w K mg base nsTp "three_points_verdict" (defScope s_three_points_verdict) f cdv A outer s H E) (fun cls d _ H => E cls d H) := takes_of rfl rfl rfl rfl
    refine ⟨_, pss_cons (ps_expr (pe_callS p_check_parameters.ok (hr.mono (by decide)) rfl p_check_parameters.mg p_check_parameters.kp p_check_parameters.bd (fun σ => passAt tk σ) (pa_cons (pe_lst (pa_cons (pv 0) (pa_cons (pv 1) (pa_cons (pv 2) pa_nil)))) pa_nil)))
      (pss_cons (ps_set (i := 3) sc_three_points_verdict.nd rfl (Or.inl rfl) (pe_lst (pa_cons (pe_call p_parts_in.ok (hr.mono (by decide)) rfl p_parts_in.mg p_parts_in.kp p_parts_in.bd .nil pass0 (pa_cons (pv 0) pa_nil)) (pa_cons (pe_call p_parts_in.ok (hr.mono (by decide)) rfl p_parts_in.mg p_parts_in.kp p_parts_in.bd .nil pass0 (pa_cons (pv 1) pa_nil)) (pa_cons (pe_call p_parts_in.ok (hr.mono (by decide)) rfl p_parts_in.mg p_parts_in.kp p_parts_in.bd .nil pass0 (pa_cons (pv 2) pa_nil)) pa_nil)))))
      (pss_cons (ps_set (i := 4) sc_three_points_verdict.nd rfl (Or.inr rfl) (pe_callB (cr_sum rfl) (by rfl) T.sum (by decide +kernel) (pa_cons (pv 3) pa_nil)))
      (pss_cons (ps_if (PW.pt (pw_or (pt_val (pe_call p_tells_odd.ok (hr.mono (by decide)) rfl p_tells_odd.mg p_tells_odd.kp p_tells_odd.bd .nil pass0 (pa_cons (pv 4) pa_nil))) (pw_or1 (pt_val (pe_callB (cr_any rfl) (by rfl) T.any (by decide +kernel) (pa_cons (pe_lc (own := [("one", 7)]) (g := (gName 7)) (tt := tYes) rfl sc_three_points_verdict.nd (pi_list (pv 3)) (blkOk_by (own := [("one", 7)]) (N := nsTp) (sc := defScope s_three_points_verdict) (by decide +kernel)) (fun _ _ _ _ _ => pg_name (i := 7) sc_three_points_verdict.nd rfl (Or.inl rfl)) (fun _ _ _ _ _ => pts_nil) (fun _ _ _ _ _ => (pe_call p_tells_odd.ok (hr.mono (by decide)) rfl p_tells_odd.mg p_tells_odd.kp p_tells_odd.bd .nil pass0 (pa_cons (pe_op op_sub (pv 4) (pe_op op_mul pe_int (pv 7))) pa_nil)))) pa_nil))))))
        (pss_one (ps_ret (pe_glob (v := .str _) rfl i_QUOTIENT ⟨_, rfl⟩)))
        pss_nil)
      (pss_cons (ps_set (i := 5) sc_three_points_verdict.nd rfl (Or.inl rfl) (pe_callB call_len (by rfl) T.len PySem.boot_len (pa_cons (pe_lc (own := [("one", 7)]) (g := (gName 7)) (tt := _) rfl sc_three_points_verdict.nd (pi_list (pv 3)) (blkOk_by (own := [("one", 7)]) (N := nsTp) (sc := defScope s_three_points_verdict) (by decide +kernel)) (fun _ _ _ _ _ => pg_name (i := 7) sc_three_points_verdict.nd rfl (Or.inl rfl)) (fun _ _ _ _ _ => pts_one (pt_val (pe_call p_tells_odd.ok (hr.mono (by decide)) rfl p_tells_odd.mg p_tells_odd.kp p_tells_odd.bd .nil pass0 (pa_cons (pe_op op_mul pe_int (pv 7)) pa_nil)))) (fun _ _ _ _ _ => (pv 7))) pa_nil)))
      (pss_cons (ps_if (pt_cmpR op_gt (pv 5) pe_int (nomark _))
        (pss_one (ps_ret (pe_ifExp (pt_cmpR op_eq (pv 5) pe_int (nomark _)) pe_str pe_str)))
        pss_nil)
      (pss_cons (ps_for (passes_of rfl) rfl (pi_tup (pe_glob (v := .ref aR) rfl mR rfl)) (pg_name (i := 6) sc_three_points_verdict.nd rfl (Or.inl rfl))
        (pss_one (ps_if (pt_val (pe_call p_fits_row.ok (hr.mono (by decide)) rfl p_fits_row.mg p_fits_row.kp p_fits_row.bd .nil pass0 (pa_cons (pv 3) (pa_cons (pe_slice sl_tup (pv 6) (po_some pe_int) po_none) pa_nil))))
          (pss_one (ps_ret (pe_ix (r := rIx K) ix_seq (pv 6) pe_int (fun _ _ => rfl))))
          pss_nil)))
      (pss_one (ps_ret (pe_glob (v := .str _) rfl i_NOTHING ⟨_, rfl⟩))))))))), ?_⟩
    refine ⟨_, rfl, _, rfl, _, rfl, by show 3 ≤ sizeLine; rw [sizeLine_eq]; decide, fun p hp => ⟨p, [v1, v2, v3], [d1, d2, d3], rfl, upd_same, .cons (Dn.mono (snew hp) _ _ h1) (.cons (Dn.mono (snew hp) _ _ h2) (.cons (Dn.mono (snew hp) _ _ h3) .nil)), by show 3 ≤ 1000; decide, fun all H1 s1 => ?_, fun i u e hu he ear no => ?_⟩⟩
    · have p1 := all d1 List.mem_cons_self
      have p2 := all d2 (List.mem_cons_of_mem _ List.mem_cons_self)
      have p3 := all d3 (List.mem_cons_of_mem _ (List.mem_cons_of_mem _ List.mem_cons_self))
      obtain ⟨t1, b1, rfl, _, b11, b12, _⟩ := par_pole p1
      obtain ⟨t2, b2, rfl, _, b21, b22, _⟩ := par_pole p2
      obtain ⟨t3, b3, rfl, _, b31, b32, _⟩ := par_pole p3
      have sH := (snew (o := .lst [v1, v2, v3]) hp).trans s1
      obtain ⟨a1, rfl, e1⟩ := dn_pr (Dn.mono sH _ _ h1)
      obtain ⟨a2, rfl, e2⟩ := dn_pr (Dn.mono sH _ _ h2)
      obtain ⟨a3, rfl, e3⟩ := dn_pr (Dn.mono sH _ _ h3)
      have kk := k1 t1 b1 t2 b2 t3 b3 rfl rfl rfl p1 p2 p3
      refine ⟨_, rfl, a1, _, _, rfl, SqT.of e1, by omega, by omega, _, rfl, a2, _, _, rfl, SqT.of e2, by omega, by omega, _, rfl, a3, _, _, rfl, SqT.of e3, by omega, by omega, by show 3 ≤ sizeLine; rw [sizeLine_eq]; decide, fun L hL => ?_⟩
      obtain ⟨x, ex⟩ : ∃ x, prt t1 b1 = x := ⟨_, rfl⟩
      obtain ⟨y, ey⟩ : ∃ x, prt t2 b2 = x := ⟨_, rfl⟩
      obtain ⟨z, ez⟩ : ∃ x, prt t3 b3 = x := ⟨_, rfl⟩
      rw [ex, ey, ez] at kk ⊢
      have sL := snew (o := .lst [.int x, .int y, .int z]) hL
      obtain ⟨Ls, eL⟩ : ∃ Ls : List Int, [x, y, z] = Ls := ⟨_, rfl⟩
      have eX : ([.int x, .int y, .int z] : List V) = Ls.map V.int := by rw [← eL]; rfl
      have l3 : Ls.length = 3 := by rw [← eL]; rfl
      have hLL : (upd H1 L (.lst [.int x, .int y, .int z])) L = some (.lst (Ls.map V.int)) := by rw [upd_same, eX]
      obtain ⟨H2, eH2⟩ : ∃ H2, upd H1 L (.lst [.int x, .int y, .int z]) = H2 := ⟨_, rfl⟩
      rw [eH2] at hLL sL ⊢
      refine ⟨_, rfl, L, Ls, rfl, SqL.of hLL, ?_⟩
      unfold wordP at kk
      rw [eL] at kk
      have fin1 : ∀ H', Same H2 H' → oddAny Ls = true → Q (.str "quotient") H' := fun H' s' c => by
        have q := kk H' (sH.trans (sL.trans s'))
        rw [if_pos c] at q
        exact q
      refine ⟨_, rfl, _, rfl, _, rfl, ite_b (fun c => ?_) (fun c => ?_)⟩
      · exact iteT (fin1 H2 (Same.refl _) (by unfold oddAny; rw [c]; rfl))
      · refine ⟨_, rfl, L, rfl, ⟨_, SqL.of hLL⟩, fun D hD => lc_map (walk_list (K := K) (a := L) (xs := Ls.map V.int)) (fun H' s' => SqL.of (s' _ _ hLL)) (fun j q _ => ∃ i, Ls[j]? = some i ∧ q = .bl (oddC (Ls.sum - 2 * i))) (fun _ _ _ _ _ h => h) (by rw [List.length_map, l3]; decide) hD (fun j e Ha Hb' Q' hj sa ⟨ey, hy⟩ kk' => ?_) (fun ys H3 f1 f2 f3 s3 => ?_)⟩
        · subst ey
          obtain ⟨i, hi', rfl⟩ := map_get hy
          exact ⟨rfl, _, rfl, _, rfl, _, _, rfl, rfl, .inl ⟨by decide, by decide⟩, _, _, rfl, rfl, _, rfl, kk' _ _ ⟨i, hi', rfl⟩ (Same.refl _)⟩
        · rw [List.length_map] at f2
          obtain rfl := map_of_at f2 f3
          refine ⟨D, Ls.map fun i => oddC (Ls.sum - 2 * i), rfl, SqL.of (by rw [List.map_map]; exact f1), _, rfl, ?_⟩
          have eb : (Ls.map fun i => oddC (Ls.sum - 2 * i)).any id = Ls.any fun i => oddC (Ls.sum - 2 * i) := by rw [List.any_map]; rfl
          rw [eb]
          refine ite_b (fun c2 => ?_) (fun c2 => ?_)
          · exact fin1 H3 s3 (by unfold oddAny; rw [c2, Bool.or_true])
          · have no : oddAny Ls = false := by unfold oddAny; rw [c, c2]; rfl
            have hL3 := s3 _ _ hLL
            refine ⟨_, rfl, L, rfl, ⟨_, SqL.of hL3⟩, fun D' hD' => lc_fil (walk_list (K := K) (a := L) (xs := Ls.map V.int)) (fun H' s' => SqL.of (s' _ _ hL3)) (fun j => oddC (2 * Ls.getD j 0)) (fun j => .int (Ls.getD j 0)) (by rw [List.length_map, l3]; decide) hD' (fun j e Ha Hb' Q1 Q0 hj sa ⟨ey, hy⟩ g1 g0 => ?_) (fun H4 e4 s4 => ?_)⟩
            · subst ey
              obtain ⟨i, hi', rfl⟩ := map_get hy
              have gd : Ls.getD j 0 = i := by rw [List.getD_eq_getElem?_getD, hi']; rfl
              rw [gd] at g1 g0
              refine ⟨rfl, _, rfl, _, _, rfl, rfl, .inl ⟨by decide, by decide⟩, _, rfl, _, rfl, ?_⟩
              cases q : oddC (2 * i) with
              | true => exact ⟨_, rfl, g1 _ (Same.refl _) q⟩
              | false => exact g0 _ (Same.refl _) q
            · have hn : ((List.range (Ls.map V.int).length).filter fun j => oddC (2 * Ls.getD j 0)).length = halvesN Ls := by
                unfold halvesN
                rw [List.length_map]
              refine ⟨.ref D', halvesN Ls, rfl, .inl ⟨_, SqL.of e4, by rw [List.length_map, hn]⟩, ?_⟩
              have st : Same H H4 := sH.trans (sL.trans (s3.trans s4))
              have fin2 : ∀ H', Same H4 H' → Q (.str (if 1 < halvesN Ls then (if halvesN Ls = 3 then "eight" else "square") else findR x y z rowsT)) H' := fun H' s' => by
                have q := kk H' (st.trans s')
                rw [if_neg (by rw [no]; exact fun z => nomatch z)] at q
                exact q
              refine ⟨_, rfl, _, _, rfl, rfl, _, rfl, ite_b (fun c3 => ?_) (fun c3 => ?_)⟩
              · have g := of_decide_eq_true c3
                have q := fin2 H4 (Same.refl _)
                rw [if_pos (by omega)] at q
                refine ⟨_, rfl, rfl, _, rfl, ite_b (fun c4 => ?_) (fun c4 => ?_)⟩
                · have e3 : halvesN Ls = 3 := by
                    have := V.int.inj (of_decide_eq_true c4)
                    omega
                  rw [if_pos e3] at q
                  exact q
                · have e3 : ¬ halvesN Ls = 3 := fun z => of_decide_eq_false c4 (by rw [z]; rfl)
                  rw [if_neg e3] at q
                  exact q
              · have g := of_decide_eq_false c3
                have fin3 : ∀ H', Same H4 H' → Q (.str (findR x y z rowsT)) H' := fun H' s' => by
                  have q := fin2 H' s'
                  rw [if_neg (by omega)] at q
                  exact q
                obtain ⟨a', xsR, ea, lR, hnR, rR⟩ := wv_tup (wv_ref wR)
                cases ea
                refine ⟨aR, rfl, ⟨_, lR _⟩, ?_⟩
                refine for_it (walk_tup (K := K) (a := aR) (xs := xsR)) (fun i σ H' => (∃ o : Option V, σ = [some (.ref a1), some (.ref a2), some (.ref a3), some (.ref L), some (.int Ls.sum), some (.int (halvesN Ls : Nat)), o, none]) ∧ Same H4 H' ∧ findR x y z (rowsT.drop i) = findR x y z rowsT)
                  ⟨⟨_, rfl⟩, Same.refl _, rfl⟩ (fun i σ H' _ _ => lR _) ?_ ?_
                · rintro i v σ H' H'' hi ⟨⟨o, rfl⟩, s', fr⟩ ⟨rfl, hv⟩
                  obtain ⟨d, hd⟩ : ∃ d, (_ : List PyData)[i]? = some d := ⟨_, List.getElem?_eq_getElem (by rw [← hnR]; exact hi)⟩
                  obtain ⟨row, erow, rfl⟩ := rows_in i d hd
                  obtain ⟨ar, u, v', w', rfl, lr, ⟨pu, rfl, lu⟩, ⟨pv', rfl, lv⟩, ⟨pw', rfl, lw⟩⟩ := wv_row (rR i v _ hv hd)
                  obtain ⟨q1, q2, q3⟩ := rows_pos row (List.mem_of_getElem? erow)
                  have fe := findR_at (p := x) (q := y) (r := z) erow
                  have hLn := s' _ _ (s4 _ _ hL3)
                  refine ⟨_, rfl, _, rfl, _, rfl, ar, _, rfl, lr _, (show ¬(HT.sIx 4 0 (some 1) = 0 ∧ HT.sIx 4 4 none = 4) by decide), fun p hp => ?_⟩
                  have sp := snew (o := .tup [.ref pu, .ref pv', .ref pw']) hp
                  refine ⟨L, p, x, y, z, row.2, rfl, SqL.of (by rw [eX]; exact sp _ _ hLn), ⟨_, _, _, SqT.of upd_same, ⟨pu, rfl, lu _, q1⟩, ⟨pv', rfl, lv _, q2⟩, ⟨pw', rfl, lw _, q3⟩⟩, fun H5 s5 => ⟨_, rfl, ?_⟩⟩
                  have sall := s'.trans (sp.trans s5)
                  refine ite_b (fun c5 => ?_) (fun c5 => ?_)
                  · rw [if_pos c5] at fe
                    have q := fin3 H5 sall
                    rw [← fr, fe] at q
                    exact ⟨_, rfl, .inr (.inl ⟨ar, _, _, _, rfl, rfl, lr _, rfl, q⟩)⟩
                  · rw [if_neg (by rw [c5]; exact fun z => nomatch z)] at fe
                    exact ⟨⟨_, rfl⟩, sall, by rw [← fe]; exact fr⟩
                · rintro σ H' ⟨⟨o, rfl⟩, s', fr⟩
                  have q := fin3 H' s'
                  have : rowsT.drop xsR.length = [] := by rw [hnR]; rfl
                  rw [← fr, this] at q
                  exact q
    · match i, hu, he with
      | 0, hu, he => cases hu; cases he; exact (k2 no).later (snew hp)
      | 1, hu, he => cases hu; cases he; exact (k3 (ear 0 d1 (by decide) rfl) no).later (snew hp)
      | 2, hu, he => cases hu; cases he; exact (k4 (ear 0 d1 (by decide) rfl) (ear 1 d2 (by decide) rfl) no).later (snew hp)
end
end N3

namespace N3
open PySem PySem.Spec PyProof.Rows L2 N2
/-! ### the law's table and its parities -/
def encR3 (r : Rw) : PyData := .tuple [prD r.1.1 r.1.2, prD r.2.1.1 r.2.1.2, prD r.2.2.1 r.2.2.2]
def spTable : Sp := fun vs H Q _ => ∃ n : Nat, vs = [.int (n : Int)] ∧ n < 14 ∧ ∀ (p : Addr) (v : V) (x : Str × Rw) (H' : Hp), rowsT[n]? = some x → Same H H' → H' p = some (.tup [v, .str x.1]) → Dn H' v (encR3 x.2) → Q (.ref p) H'
def par (x b : Int) : Int := if x % b = 0 then (x / b) % 2 else 2
def spPar : Sp := fun vs H Q _ => ∃ t b : Int, vs = [.int t, .int b] ∧ 0 < b ∧ b < 1073741824 ∧ Q (.int (par t b)) H
def prsL (x r : Fr) : List Int := [par (1 * x.1 * r.2 - r.1 * x.2) (x.2 * r.2), par (-1 * x.1 * r.2 - r.1 * x.2) (x.2 * r.2)].filter fun i => decide (i < 2)
def spPrs (K : PySem.W.Frag) : Sp := fun vs H Q _ => ∃ (v u : V) (x r : Fr), vs = [v, u] ∧ PrS K H v x ∧ PrS K H u r ∧ ∀ (l : Addr) (H' : Hp), H l = none → Same H H' → H' l = some (.lst ((prsL x r).map V.int)) → Q (.ref l) H'
theorem rows_word {n : Nat} (hn : n < 14) {x : Str × Rw} (h : rowsT[n]? = some x) : (n < 2 → x.1 = "four faces") ∧ (¬ n < 2 → n < 4 → x.1 = "eight faces") ∧ (¬ n < 4 → x.1 = "twenty faces") := by
  have c : n = 0 ∨ n = 1 ∨ n = 2 ∨ n = 3 ∨ n = 4 ∨ n = 5 ∨ n = 6 ∨ n = 7 ∨ n = 8 ∨ n = 9 ∨ n = 10 ∨ n = 11 ∨ n = 12 ∨ n = 13 := by omega
  rcases c with rfl | rfl | rfl | rfl | rfl | rfl | rfl | rfl | rfl | rfl | rfl | rfl | rfl | rfl <;> cases h <;> exact ⟨fun z => by first | rfl | omega, fun z w => by first | rfl | omega, fun z => by first | rfl | omega⟩
theorem dn_ii {H : Hp} {xs : List V} {i j : Int} (h : DnAll H xs [.int i, .int j]) : xs = [.int i, .int j] := by
  cases h with
  | cons a h =>
    cases h with
    | cons b h =>
      cases h
      cases a
      cases b
      rfl
theorem fil_list {α : Type} {L : List α} {d : α} {p : α → Bool} {f : α → V} : ((List.range L.length).filter fun j => p (L.getD j d)).map (fun j => f (L.getD j d)) = (L.filter p).map f := by
  have e : (List.range L.length).map (fun j => L.getD j d) = L := by
    refine List.ext_getElem? fun j => ?_
    rw [List.getElem?_map]
    rcases Nat.lt_or_ge j L.length with c | c
    · rw [List.getElem?_eq_getElem (by rw [List.length_range]; exact c), List.getElem_range]
      show some (L.getD j d) = L[j]?
      rw [List.getD_eq_getElem?_getD, List.getElem?_eq_getElem c]; rfl
    · rw [List.getElem?_eq_none (by rw [List.length_range]; exact c), List.getElem?_eq_none c]; rfl
  conv => rhs; rw [← e]
  rw [List.filter_map, List.map_map]
  rfl
section
variable {P : Program} {w : World} {K : PySem.W.Frag} {mg : Str → Option Value} {base : Heap}
abbrev s__law_table : Stmt := top 41
theorem sc__law_table : FnScope ["at", "some"] ["at"] (defScope s__law_table) := ⟨rfl, rfl, rfl, by decide +kernel, rfl, by decide +kernel, by decide +kernel⟩
theorem ok__law_table {f  : Addr} {fd  : FuncData}  (F : Fun K "_law_table" "_law_table" s__law_table f fd) (T : Bt mg)  : FnOk P w K mg base CX0 1 f fd ["at"] spTable := by
  refine F.ok sc__law_table (fun vs H Q E h => ?_) (fun cdv A outer s H vs Q E hr h => ?_)
  · obtain ⟨n, rfl, _⟩ := h
    rfl
  · obtain ⟨n, rfl, hn, k⟩ := h
    refine ⟨_, pss_cons (ps_set (i := 1) sc__law_table.nd rfl (Or.inl rfl) (pk_tup (pka_cons (pk_tup (pka_cons (pk_tup (pka_cons pk_int (pka_cons pk_int pka_nil))) (pka_cons (pk_tup (pka_cons pk_int (pka_cons pk_int pka_nil))) (pka_cons (pk_tup (pka_cons pk_int (pka_cons pk_int pka_nil))) pka_nil)))) (pka_cons (pk_tup (pka_cons (pk_tup (pka_cons pk_int (pka_cons pk_int pka_nil))) (pka_cons (pk_tup (pka_cons pk_int (pka_cons pk_int pka_nil))) (pka_cons (pk_tup (pka_cons pk_int (pka_cons pk_int pka_nil))) pka_nil)))) (pka_cons (pk_tup (pka_cons (pk_tup (pka_cons pk_int (pka_cons pk_int pka_nil))) (pka_cons (pk_tup (pka_cons pk_int (pka_cons pk_int pka_nil))) (pka_cons (pk_tup (pka_cons pk_int (pka_cons pk_int pka_nil))) pka_nil)))) (pka_cons (pk_tup (pka_cons (pk_tup (pka_cons pk_int (pka_cons pk_int pka_nil))) (pka_cons (pk_tup (pka_cons pk_int (pka_cons pk_int pka_nil))) (pka_cons (pk_tup (pka_cons pk_int (pka_cons pk_int pka_nil))) pka_nil)))) pka_nil))))))
      (pss_cons (ps_set (i := 1) sc__law_table.nd rfl (Or.inl rfl) (pe_op op_catT (pv 1) (pk_tup (pka_cons (pk_tup (pka_cons (pk_tup (pka_cons pk_int (pka_cons pk_int pka_nil))) (pka_cons (pk_tup (pka_cons pk_int (pka_cons pk_int pka_nil))) (pka_cons (pk_tup (pka_cons pk_int (pka_cons pk_int pka_nil))) pka_nil)))) (pka_cons (pk_tup (pka_cons (pk_tup (pka_cons pk_int (pka_cons pk_int pka_nil))) (pka_cons (pk_tup (pka_cons pk_int (pka_cons pk_int pka_nil))) (pka_cons (pk_tup (pka_cons pk_int (pka_cons pk_int pka_nil))) pka_nil)))) (pka_cons (pk_tup (pka_cons (pk_tup (pka_cons pk_int (pka_cons pk_int pka_nil))) (pka_cons (pk_tup (pka_cons pk_int (pka_cons pk_int pka_nil))) (pka_cons (pk_tup (pka_cons pk_int (pka_cons pk_int pka_nil))) pka_nil)))) (pka_cons (pk_tup (pka_cons (pk_tup (pka_cons pk_int (pka_cons pk_int pka_nil))) (pka_cons (pk_tup (pka_cons pk_int (pka_cons pk_int pka_nil))) (pka_cons (pk_tup (pka_cons pk_int (pka_cons pk_int pka_nil))) pka_nil)))) pka_nil)))))))
      (pss_cons (ps_set (i := 1) sc__law_table.nd rfl (Or.inl rfl) (pe_op op_catT (pv 1) (pk_tup (pka_cons (pk_tup (pka_cons (pk_tup (pka_cons pk_int (pka_cons pk_int pka_nil))) (pka_cons (pk_tup (pka_cons pk_int (pka_cons pk_int pka_nil))) (pka_cons (pk_tup (pka_cons pk_int (pka_cons pk_int pka_nil))) pka_nil)))) (pka_cons (pk_tup (pka_cons (pk_tup (pka_cons pk_int (pka_cons pk_int pka_nil))) (pka_cons (pk_tup (pka_cons pk_int (pka_cons pk_int pka_nil))) (pka_cons (pk_tup (pka_cons pk_int (pka_cons pk_int pka_nil))) pka_nil)))) (pka_cons (pk_tup (pka_cons (pk_tup (pka_cons pk_int (pka_cons pk_int pka_nil))) (pka_cons (pk_tup (pka_cons pk_int (pka_cons pk_int pka_nil))) (pka_cons (pk_tup (pka_cons pk_int (pka_cons pk_int pka_nil))) pka_nil)))) (pka_cons (pk_tup (pka_cons (pk_tup (pka_cons pk_int (pka_cons pk_int pka_nil))) (pka_cons (pk_tup (pka_cons pk_int (pka_cons pk_int pka_nil))) (pka_cons (pk_tup (pka_cons pk_int (pka_cons pk_int pka_nil))) pka_nil)))) pka_nil)))))))
      (pss_cons (ps_set (i := 1) sc__law_table.nd rfl (Or.inl rfl) (pe_op op_catT (pv 1) (pk_tup (pka_cons (pk_tup (pka_cons (pk_tup (pka_cons pk_int (pka_cons pk_int pka_nil))) (pka_cons (pk_tup (pka_cons pk_int (pka_cons pk_int pka_nil))) (pka_cons (pk_tup (pka_cons pk_int (pka_cons pk_int pka_nil))) pka_nil)))) (pka_cons (pk_tup (pka_cons (pk_tup (pka_cons pk_int (pka_cons pk_int pka_nil))) (pka_cons (pk_tup (pka_cons pk_int (pka_cons pk_int pka_nil))) (pka_cons (pk_tup (pka_cons pk_int (pka_cons pk_int pka_nil))) pka_nil)))) pka_nil)))))
      (pss_one (ps_ret (pe_tup (pa_cons (pe_ix (r := rIx K) ix_seq (pv 1) (pv 0) (fun _ _ => rfl)) (pa_cons (pe_ifExp (pt_cmpR op_lt (pv 0) pe_int (nomark _)) pe_str (pe_ifExp (pt_cmpR op_lt (pv 0) pe_int (nomark _)) pe_str pe_str)) pa_nil)))))))), ?_⟩
    have sl : 1000 ≤ sizeLine := by rw [sizeLine_eq]; decide
    intro v1 H1 s1 d1
    obtain ⟨a1, xs1, rfl, e1, g1⟩ := dn_tupd d1
    refine ⟨_, rfl, fun v2 H2 s2 d2 => ?_⟩
    obtain ⟨a2, xs2, rfl, e2, g2⟩ := dn_tupd d2
    have l1 := g1.length
    have l2 := g2.length
    refine ⟨a1, a2, xs1, xs2, rfl, rfl, SqT.of (s2 _ _ e1), SqT.of e2, (fun z => by rw [z] at l1; cases l1), by rw [l1, l2]; exact Nat.le_trans (by decide) sl, fun z => absurd z (fun z => by rw [z] at l2; cases l2), fun _ p3 hp3 => ?_⟩
    have s3 := snew (o := .tup (xs1 ++ xs2)) hp3
    have g12 := DnAll.mono s3 _ _ (dn_app' (DnAll.mono s2 _ _ g1) g2)
    refine ⟨_, rfl, fun v4 H4 s4 d4 => ?_⟩
    obtain ⟨a4, xs4, rfl, e4, g4⟩ := dn_tupd d4
    have l4 := g4.length
    have l12 := g12.length
    refine ⟨p3, a4, xs1 ++ xs2, xs4, rfl, rfl, SqT.of (s4 _ _ upd_same), SqT.of e4, (fun z => by rw [z] at l12; cases l12), by rw [l12, l4]; exact Nat.le_trans (by decide) sl, fun z => absurd z (fun z => by rw [z] at l4; cases l4), fun _ p5 hp5 => ?_⟩
    have s5 := snew (o := .tup (xs1 ++ xs2 ++ xs4)) hp5
    have g14 := DnAll.mono s5 _ _ (dn_app' (DnAll.mono s4 _ _ g12) g4)
    refine ⟨_, rfl, fun v6 H6 s6 d6 => ?_⟩
    obtain ⟨a6, xs6, rfl, e6, g6⟩ := dn_tupd d6
    have l6 := g6.length
    have l14 := g14.length
    refine ⟨p5, a6, xs1 ++ xs2 ++ xs4, xs6, rfl, rfl, SqT.of (s6 _ _ upd_same), SqT.of e6, (fun z => by rw [z] at l14; cases l14), by rw [l14, l6]; exact Nat.le_trans (by decide) sl, fun z => absurd z (fun z => by rw [z] at l6; cases l6), fun _ p7 hp7 => ?_⟩
    have s7 := snew (o := .tup (xs1 ++ xs2 ++ xs4 ++ xs6)) hp7
    have g16 := DnAll.mono s7 _ _ (dn_app' (DnAll.mono s6 _ _ g14) g6)
    have st := (((((s1.trans s2).trans s3).trans s4).trans s5).trans s6).trans s7
    obtain ⟨xs, exs⟩ : ∃ xs, xs1 ++ xs2 ++ xs4 ++ xs6 = xs := ⟨_, rfl⟩
    rw [exs] at st g16 ⊢
    have lx : xs.length = 14 := g16.length
    have hx : n < xs.length := by omega
    obtain ⟨d, ed, dn⟩ := g16.at_ (List.getElem?_eq_getElem hx)
    obtain ⟨row, er, ee⟩ : ∃ row, rowsT[n]? = some row ∧ d = encR3 row.2 := by
      have e : (rowsT.map fun x => encR3 x.2)[n]? = some d := ed
      rw [List.getElem?_map] at e
      obtain ⟨x, h1, h2⟩ := Option.map_eq_some_iff.mp e
      exact ⟨x, h1, h2.symm⟩
    subst ee
    obtain ⟨w1, w2, w3⟩ := rows_word hn er
    have sl2 : 2 ≤ sizeLine := Nat.le_trans (by decide) sl
    refine ⟨_, rfl, _, rfl, .inr (.inl ⟨p7, xs, _, _, rfl, rfl, SqT.of upd_same, atI_nat (List.getElem?_eq_getElem hx), ?_⟩)⟩
    have fin : ∀ (q : Addr) (Hq : Hp) (z : Str), Hq q = none → Same H Hq → Dn Hq xs[n] (encR3 row.2) → row.1 = z → Q (.ref q) (upd Hq q (.tup [xs[n], .str z])) := fun q Hq z hq sq dq ez => by
      subst ez
      exact k q _ row _ er (sq.trans (snew hq)) upd_same (Dn.mono (snew hq) _ _ dq)
    refine ⟨_, rfl, _, _, rfl, rfl, _, rfl, ite_b (fun c => ?_) (fun c => ?_)⟩
    · have g := of_decide_eq_true c
      exact ⟨sl2, fun q hq => fin q _ _ hq st dn (w1 (by omega))⟩
    · have g := of_decide_eq_false c
      refine ⟨_, rfl, _, _, rfl, rfl, _, rfl, ite_b (fun c' => ?_) (fun c' => ?_)⟩
      · have g' := of_decide_eq_true c'
        exact ⟨sl2, fun q hq => fin q _ _ hq st dn (w2 (by omega) (by omega))⟩
      · have g' := of_decide_eq_false c'
        exact ⟨sl2, fun q hq => fin q _ _ hq st dn (w3 (by omega))⟩
abbrev s__law_parity : Stmt := top 42
theorem sc__law_parity : FnScope ["top", "bottom"] ["top", "bottom"] (defScope s__law_parity) := ⟨rfl, rfl, rfl, by decide +kernel, rfl, by decide +kernel, by decide +kernel⟩
theorem ok__law_parity {f  : Addr} {fd  : FuncData}  (F : Fun K "_law_parity" "_law_parity" s__law_parity f fd) (T : Bt mg)  : FnOk P w K mg base CX0 1 f fd ["top", "bottom"] spPar := by
  refine F.ok sc__law_parity (fun vs H Q E h => ?_) (fun cdv A outer s H vs Q E hr h => ?_)
  · obtain ⟨t, b, rfl, _⟩ := h
    rfl
  · obtain ⟨t, b, rfl, b0, b1, k⟩ := h
    refine ⟨_, pss_one (ps_ret (pe_ifExp (pt_cmpR op_ne (pe_op op_mod (pe_callTy call_int1 (by rfl) T.int (by decide +kernel) (pa_cons (pv 0) pa_nil)) (pv 1)) pe_int (nomark _)) pe_int (pe_op op_mod (pe_callTy call_int1 (by rfl) T.int (by decide +kernel) (pa_cons (pe_op op_fdiv (pv 0) (pv 1)) pa_nil)) pe_int))), ?_⟩
    refine ⟨_, rfl, .inl ⟨_, rfl, _, rfl, _, _, rfl, rfl, b0, rfl, _, rfl, ite_b (fun c => ?_) (fun c => ?_)⟩⟩
    · have e : ¬ t % b = 0 := fun z => by
        rw [show decide ((fun i j => V.int (i % j)) t b = V.int 0) = true from decide_eq_true (congrArg V.int z)] at c
        cases c
      unfold par at k
      rw [if_neg e] at k
      exact k
    · have e : t % b = 0 := by
        by_cases z : t % b = 0
        · exact z
        · rw [show decide ((fun i j => V.int (i % j)) t b = V.int 0) = false from decide_eq_false (fun h => z (V.int.inj h))] at c
          cases c
      unfold par at k
      rw [if_pos e] at k
      exact ⟨_, rfl, _, rfl, _, _, rfl, rfl, ⟨b0, b1⟩, .inl ⟨_, rfl, _, _, rfl, rfl, by show (0 : Int) < 2; decide, k⟩⟩
abbrev s__law_parities : Stmt := top 43
abbrev nsPs : List Str := ["one", "other", "bottom", "both", "sign", "it"]
theorem sc__law_parities : FnScope nsPs ["one", "other"] (defScope s__law_parities) := ⟨rfl, rfl, rfl, by decide +kernel, rfl, by decide +kernel, by decide +kernel⟩
theorem ok__law_parities {f f__law_parity : Addr} {fd d__law_parity : FuncData}  (F : Fun K "_law_parities" "_law_parities" s__law_parities f fd) (T : Bt mg) (l_parity : Kn P w K mg base 1 "_law_parity" ["top", "bottom"] spPar f__law_parity d__law_parity) : FnOk P w K mg base CX0 2 f fd ["one", "other"] (spPrs K) := by
  refine F.ok sc__law_parities (fun vs H Q E h => ?_) (fun cdv A outer s H vs Q E hr h => ?_)
  · obtain ⟨v, u, x, r, rfl, _⟩ := h
    rfl
  · obtain ⟨v, u, x, r, rfl, hv, hu', k⟩ := h
    obtain ⟨a, rfl, qa, x0, x1⟩ := id hv
    obtain ⟨b, rfl, qb, r0, r1⟩ := id hu'
    refine ⟨_, pss_cons (ps_set (i := 2) sc__law_parities.nd rfl (Or.inr rfl) (pe_op op_mul (pe_ix (r := rIx K) ix_seq (pv 0) pe_int (fun _ _ => rfl)) (pe_ix (r := rIx K) ix_seq (pv 1) pe_int (fun _ _ => rfl))))
      (pss_cons (ps_setLc (i := 3) (own := [("sign", 4)]) (g := (gName 4)) (tt := tYes) rfl sc__law_parities.nd rfl rfl (sw_true rfl rfl (by rfl) (by rfl)) (pi_tup (pk_tup (pka_cons pk_int (pka_cons pk_neg pka_nil)))) (blkOk_by (own := [("sign", 4)]) (N := nsPs) (sc := defScope s__law_parities) (by decide +kernel)) (fun _ _ _ _ _ => pg_name (i := 4) sc__law_parities.nd rfl (Or.inl rfl)) (fun _ _ _ _ _ => pts_nil) (fun _ _ _ _ _ => (pe_call l_parity.ok (hr.mono (by decide)) rfl l_parity.mg l_parity.kp l_parity.bd .nil pass0 (pa_cons (pe_op op_sub (pe_op op_mul (pe_op op_mul (pv 4) (pe_ix (r := rIx K) ix_seq (pv 0) pe_int (fun _ _ => rfl))) (pe_ix (r := rIx K) ix_seq (pv 1) pe_int (fun _ _ => rfl))) (pe_op op_mul (pe_ix (r := rIx K) ix_seq (pv 1) pe_int (fun _ _ => rfl)) (pe_ix (r := rIx K) ix_seq (pv 0) pe_int (fun _ _ => rfl)))) (pa_cons (pv 2) pa_nil)))))
      (pss_one (ps_ret (pe_lc (own := [("it", 5)]) (g := (gName 5)) (tt := _) rfl sc__law_parities.nd (pi_list (pv 3)) (blkOk_by (own := [("it", 5)]) (N := nsPs) (sc := defScope s__law_parities) (by decide +kernel)) (fun _ _ _ _ _ => pg_name (i := 5) sc__law_parities.nd rfl (Or.inl rfl)) (fun _ _ _ _ _ => pts_one (pt_cmpR op_lt (pv 5) pe_int (nomark _))) (fun _ _ _ _ _ => (pv 5)))))), ?_⟩
    refine ⟨_, rfl, .inr (.inl ⟨a, _, _, _, rfl, rfl, qa, rfl, _, rfl, .inr (.inl ⟨b, _, _, _, rfl, rfl, qb, rfl, _, _, rfl, rfl, .inr ⟨by omega, by omega⟩, ?_⟩)⟩)⟩
    intro v0 H1 s1 d0
    obtain ⟨a0, xs0, rfl, e0, g0⟩ := dn_tupd d0
    obtain rfl := dn_ii g0
    have b0 : 0 < x.2 * r.2 := Int.mul_pos x0 r0
    have b1 : x.2 * r.2 < 1073741824 := by
      have : x.2 * r.2 ≤ 1000 * 1000 := Int.mul_le_mul (by omega) (by omega) (by omega) (by decide)
      omega
    obtain ⟨L, eL⟩ : ∃ L : List Int, [par (1 * x.1 * r.2 - r.1 * x.2) (x.2 * r.2), par (-1 * x.1 * r.2 - r.1 * x.2) (x.2 * r.2)] = L := ⟨_, rfl⟩
    have l2 : L.length = 2 := by rw [← eL]; rfl
    refine ⟨a0, rfl, ⟨_, SqT.of e0⟩, fun D hD => lc_map (walk_tup (K := K) (a := a0) (xs := [.int 1, .int (-1)])) (fun H' s' => SqT.of (s' _ _ e0)) (fun j q _ => ∃ i, L[j]? = some i ∧ q = .int i) (fun _ _ _ _ _ h => h) (by decide) hD (fun j e Ha Hb Q' hj sa ⟨ey, hy⟩ kk => ?_) (fun ys H2 e1 e2 e3 s2 => ?_)⟩
    · subst ey
      have qa' := same_sqt sa (same_sqt s1 qa)
      have qb' := same_sqt sa (same_sqt s1 qb)
      obtain ⟨sg, rfl, es, ss⟩ : ∃ sg : Int, e = .int sg ∧ L[j]? = some (par (sg * x.1 * r.2 - r.1 * x.2) (x.2 * r.2)) ∧ (-1 ≤ sg ∧ sg ≤ 1) := by
        match j, hy with
        | 0, hy => cases hy; exact ⟨1, rfl, by rw [← eL]; rfl, by decide⟩
        | 1, hy => cases hy; exact ⟨-1, rfl, by rw [← eL]; rfl, by decide⟩
      refine ⟨rfl, _, rfl, _, rfl, .inr (.inl ⟨a, _, _, _, rfl, rfl, qa', rfl, _, _, rfl, rfl, .inl ⟨by omega, by omega⟩, _, rfl, .inr (.inl ⟨b, _, _, _, rfl, rfl, qb', rfl, _, _, rfl, rfl, .inr ⟨by omega, by omega⟩, ?_⟩)⟩)⟩
      refine ⟨_, rfl, .inr (.inl ⟨b, _, _, _, rfl, rfl, qb', rfl, _, rfl, .inr (.inl ⟨a, _, _, _, rfl, rfl, qa', rfl, _, _, rfl, rfl, .inr ⟨by omega, by omega⟩, ?_⟩)⟩)⟩
      exact ⟨_, _, rfl, rfl, _, rfl, _, _, rfl, b0, b1, kk _ _ ⟨_, es, rfl⟩ (Same.refl _)⟩
    · obtain rfl := map_of_at (e2.trans (show 2 = L.length from l2.symm)) e3
      refine ⟨_, rfl, D, rfl, ⟨_, SqL.of e1⟩, fun D2 hD2 => lc_fil (walk_list (K := K) (a := D) (xs := L.map V.int)) (fun H' s' => SqL.of (s' _ _ e1)) (fun j => decide (L.getD j 0 < 2)) (fun j => .int (L.getD j 0)) (by rw [List.length_map, l2]; decide) hD2 (fun j e Ha Hb Q1 Q0 hj sa ⟨ey, hy⟩ g1 g0 => ?_) (fun H3 e4 s3 => ?_)⟩
      · subst ey
        obtain ⟨i, hi', rfl⟩ := map_get hy
        have gd : L.getD j 0 = i := by rw [List.getD_eq_getElem?_getD, hi']; rfl
        rw [gd] at g1 g0
        refine ⟨rfl, _, rfl, _, _, rfl, rfl, _, rfl, ?_⟩
        cases q : decide (i < 2) with
        | true => exact iteT ⟨_, rfl, g1 _ (Same.refl _) q⟩
        | false => exact iteF (g0 _ (Same.refl _) q)
      · refine k D2 H3 ((s1.trans s2).free hD2) (s1.trans (s2.trans s3)) ?_
        rw [List.length_map, fil_list (p := fun i => decide (i < 2)) (f := V.int), ← eL] at e4
        exact e4
end
end N3

namespace N3
open PySem PySem.Spec PyProof.Rows L2 N2
/-! ### the law's way through the rows -/
def ordsI : List (Nat × Nat × Nat) := [(0, 1, 2), (0, 2, 1), (1, 0, 2), (1, 2, 0), (2, 0, 1), (2, 1, 0)]
def encO (o : Nat × Nat × Nat) : PyData := .tuple [.int (o.1 : Nat), .int (o.2.1 : Nat), .int (o.2.2 : Nat)]
def stepS (s ps : List Int) : List Int := ps.flatMap fun q => s.map fun it => (it + q) % 2
def atF (fs : List Fr) (i : Nat) : Fr := fs.getD i (0, 1)
def oo (o : Nat × Nat × Nat) (t : Nat) : Nat := [o.1, o.2.1, o.2.2].getD t 0
def rr (r : Rw) (t : Nat) : Fr := [r.1, r.2.1, r.2.2].getD t (0, 1)
def sumsN (fs : List Fr) (r : Rw) (o : Nat × Nat × Nat) : Nat → List Int
  | 0 => [0]
  | t + 1 => stepS (sumsN fs r o t) (prsL (atF fs (oo o t)) (rr r t))
def isOf (fs : List Fr) (r : Rw) : Bool := ordsI.any fun o => decide ((0 : Int) ∈ sumsN fs r o 3)
/-- three pairs in a list -/
def Tri3 (K : PySem.W.Frag) (H : Hp) (a : Addr) (fs : List Fr) : Prop := ∃ us : List V, SqL K H a us ∧ us.length = 3 ∧ fs.length = 3 ∧ ∀ (i : Nat) (u : V) (x : Fr), us[i]? = some u → fs[i]? = some x → PrS K H u x
theorem Tri3.same {K : PySem.W.Frag} {H H' : Hp} {a : Addr} {fs : List Fr} (s : Same H H') (h : Tri3 K H a fs) : Tri3 K H' a fs := let ⟨us, e, l1, l2, p⟩ := h; ⟨us, s.seq e, l1, l2, fun i u x e1 e2 => (p i u x e1 e2).same s⟩
def spIsOf (K : PySem.W.Frag) : Sp := fun vs H Q _ => ∃ (a b : Addr) (fs : List Fr) (r : Rw), vs = [.ref a, .ref b] ∧ Tri3 K H a fs ∧ RwS K H b r ∧ ∀ H', Same H H' → Q (.bl (isOf fs r)) H'
theorem prs_len (x r : Fr) : (prsL x r).length ≤ 2 := Nat.le_trans (List.length_filter_le _ _) (Nat.le_refl 2)
theorem step_len {s ps : List Int} {m : Nat} (hs : s.length ≤ m) (hp : ps.length ≤ 2) : (stepS s ps).length ≤ 2 * m := by
  unfold stepS
  match ps, hp with
  | [], _ => simp
  | [a], _ => simp; omega
  | [a, b], _ => simp; omega
theorem sums_len (fs : List Fr) (r : Rw) (o : Nat × Nat × Nat) : ∀ t, (sumsN fs r o t).length ≤ 2 ^ t
  | 0 => Nat.le_refl 1
  | t + 1 => by
    have := step_len (sums_len fs r o t) (prs_len (atF fs (oo o t)) (rr r t))
    show (stepS _ _).length ≤ _
    rw [Nat.pow_succ]; omega
theorem flat_ints (L : List Int) : (L.map V.int).all flatV = true := by
  rw [List.all_map]
  exact List.all_eq_true.mpr fun x _ => rfl
theorem in_ints (n : Int) (L : List Int) : inV (.int n) (L.map V.int) = decide (n ∈ L) := by
  unfold inV
  rw [List.any_map, Bool.eq_iff_iff, List.any_eq_true, decide_eq_true_iff]
  constructor
  · rintro ⟨x, hx, e⟩
    have : x = n := by simpa [eqV] using e
    rw [← this]; exact hx
  · intro h
    exact ⟨n, h, by simp [eqV]⟩
theorem step_take {s ps : List Int} {t : Nat} {q : Int} (h : ps[t]? = some q) : stepS s (ps.take (t + 1)) = stepS s (ps.take t) ++ s.map fun it => (it + q) % 2 := by
  unfold stepS
  rw [List.take_add_one, h, List.flatMap_append]
  simp
theorem oo_lt {o : Nat × Nat × Nat} (h : o ∈ ordsI) : ∀ t, t < 3 → oo o t < 3 := by
  simp only [ordsI, List.mem_cons, List.not_mem_nil, or_false] at h
  intro t ht
  have c : t = 0 ∨ t = 1 ∨ t = 2 := by omega
  rcases h with rfl | rfl | rfl | rfl | rfl | rfl <;> rcases c with rfl | rfl | rfl <;> decide
section
variable {P : Program} {w : World} {K : PySem.W.Frag} {mg : Str → Option Value} {base : Heap}
abbrev s__law_is_of : Stmt := top 44
abbrev nsIs : List Str := ["some", "row", "order", "sums", "at", "other", "more", "parity", "it"]
theorem sc__law_is_of : FnScope nsIs ["some", "row"] (defScope s__law_is_of) := ⟨rfl, rfl, rfl, by decide +kernel, rfl, by decide +kernel, by decide +kernel⟩
theorem ok__law_is_of {f f__law_parities : Addr} {fd d__law_parities : FuncData}  (F : Fun K "_law_is_of" "_law_is_of" s__law_is_of f fd) (T : Bt mg) (l_parities : Kn P w K mg base 2 "_law_parities" ["one", "other"] (spPrs K) f__law_parities d__law_parities) : FnOk P w K mg base CX0 3 f fd ["some", "row"] (spIsOf K) := by
  refine F.ok sc__law_is_of (fun vs H Q E h => ?_) (fun cdv A outer s H vs Q E hr h => ?_)
  · obtain ⟨a, b, fs, r, rfl, _⟩ := h
    rfl
  · obtain ⟨a, b, fs, r, rfl, ha, hb, k⟩ := h
    refine ⟨_, pss_cons (ps_for PassesOwn.never rfl (pi_tup (pk_tup (pka_cons (pk_tup (pka_cons pk_int (pka_cons pk_int (pka_cons pk_int pka_nil)))) (pka_cons (pk_tup (pka_cons pk_int (pka_cons pk_int (pka_cons pk_int pka_nil)))) (pka_cons (pk_tup (pka_cons pk_int (pka_cons pk_int (pka_cons pk_int pka_nil)))) (pka_cons (pk_tup (pka_cons pk_int (pka_cons pk_int (pka_cons pk_int pka_nil)))) (pka_cons (pk_tup (pka_cons pk_int (pka_cons pk_int (pka_cons pk_int pka_nil)))) (pka_cons (pk_tup (pka_cons pk_int (pka_cons pk_int (pka_cons pk_int pka_nil)))) pka_nil)))))))) (pg_name (i := 2) sc__law_is_of.nd rfl (Or.inl rfl))
        (pss_cons (ps_set (i := 3) sc__law_is_of.nd rfl (Or.inl rfl) (pe_lst (pa_cons pe_int pa_nil)))
        (pss_cons (ps_for PassesOwn.never rfl (RZ.pi_zipA (by rfl) T.zip (pa_cons (pv 2) (pa_cons (pv 1) pa_nil))) (pg_tup rfl (pgs_cons (pg_name (i := 4) sc__law_is_of.nd rfl (Or.inl rfl)) (pgs_cons (pg_name (i := 5) sc__law_is_of.nd rfl (Or.inl rfl)) pgs_nil)))
          (pss_cons (ps_set (i := 6) sc__law_is_of.nd rfl (Or.inl rfl) (pe_lst pa_nil))
          (pss_cons (ps_for PassesOwn.never rfl (pi_list (pe_call l_parities.ok (hr.mono (by decide)) rfl l_parities.mg l_parities.kp l_parities.bd .nil pass0 (pa_cons (pe_ix (r := rIx K) ix_seq (pv 0) (pv 4) (fun _ _ => rfl)) (pa_cons (pv 5) pa_nil)))) (pg_name (i := 7) sc__law_is_of.nd rfl (Or.inr rfl))
            (pss_one (ps_expr (pe_bm PySem.F.plainAttrs_list PySem.F.slot_list_extend PySem.F.type_list_extend mt_extend (pv 6) (pa_cons (pe_lc (own := [("it", 8)]) (g := (gName 8)) (tt := tYes) rfl sc__law_is_of.nd (pi_list (pv 3)) (blkOk_by (own := [("it", 8)]) (N := nsIs) (sc := defScope s__law_is_of) (by decide +kernel)) (fun _ _ _ _ _ => pg_name (i := 8) sc__law_is_of.nd rfl (Or.inl rfl)) (fun _ _ _ _ _ => pts_nil) (fun _ _ _ _ _ => (pe_op op_mod (pe_callTy call_int1 (by rfl) T.int (by decide +kernel) (pa_cons (pe_op op_add (pv 8) (pv 7)) pa_nil)) pe_int))) pa_nil)))))
          (pss_one (ps_set (i := 3) sc__law_is_of.nd rfl (Or.inl rfl) (pv 6))))))
        (pss_one (ps_if (pt_cmpR op_in_seq pe_int (pv 3) (by with_unfolding_all rfl))
          (pss_one (ps_ret pe_bl))
          pss_nil)))))
      (pss_one (ps_ret pe_bl)), ?_⟩
    intro v0 H1 s1 d0
    obtain ⟨a0, xs0, rfl, e0, g0⟩ := dn_tupd d0
    have s1' : 1 ≤ sizeLine := by rw [sizeLine_eq]; decide
    have l0 : xs0.length = 6 := g0.length
    refine ⟨a0, rfl, ⟨_, SqT.of e0⟩, for_it (walk_tup (K := K) (a := a0) (xs := xs0)) (fun i σ H' => (∃ x2 x3 x4 x5 x6 x7 : Option V, σ = [some (.ref a), some (.ref b), x2, x3, x4, x5, x6, x7, none]) ∧ Same H1 H' ∧ ∀ j, j < i → ∀ o, ordsI[j]? = some o → decide ((0 : Int) ∈ sumsN fs r o 3) = false)
      ⟨⟨_, _, _, _, _, _, rfl⟩, Same.refl _, fun j hj => by omega⟩ (fun i σ H' _ h => SqT.of (h.2.1 _ _ e0)) ?_ ?_⟩
    · rintro i v σ H2' H2 hi ⟨⟨x2, x3, x4, x5, x6, x7, rfl⟩, s2, all⟩ ⟨rfl, hv⟩
      have i6 : i < 6 := by omega
      obtain ⟨d, ed, dn⟩ := g0.at_ hv
      obtain ⟨o, eo, rfl⟩ : ∃ o, ordsI[i]? = some o ∧ d = encO o := by
        have e : (ordsI.map encO)[i]? = some d := ed
        rw [List.getElem?_map] at e
        obtain ⟨x, h1, h2⟩ := Option.map_eq_some_iff.mp e
        exact ⟨x, h1, h2.symm⟩
      have om := List.mem_of_getElem? eo
      obtain ⟨ao, xo, rfl, eao, go⟩ := dn_tupd (Dn.mono s2 _ _ dn)
      obtain rfl : xo = [.int (o.1 : Nat), .int (o.2.1 : Nat), .int (o.2.2 : Nat)] := by
        cases go with
        | cons p go => cases go with
          | cons q go => cases go with
            | cons t go => cases go; cases p; cases q; cases t; rfl
      refine ⟨s1', fun L hL => ?_⟩
      have sL := snew (o := .lst [.int 0]) hL
      have sB : Same H H2 := s1.trans s2
      obtain ⟨u, v', w', hq, pu, pv', pw⟩ := (hb.same sB).same sL
      refine ⟨_, rfl, _, rfl, ao, b, _, [u, v', w'], rfl, .inr ⟨SqT.of (sL _ _ eao), hq, ?_⟩⟩
      refine for_it (walk_zipT (K := K) (a := ao) (b := b) (xs := [.int (o.1 : Nat), .int (o.2.1 : Nat), .int (o.2.2 : Nat)]) (ys := [u, v', w']) (n := 3) rfl) (fun j σ H' => (∃ (Lj : Addr) (x4 x5 x6 x7 : Option V), σ = [some (.ref a), some (.ref b), some (.ref ao), some (.ref Lj), x4, x5, x6, x7, none] ∧ H' Lj = some (.lst ((sumsN fs r o j).map V.int))) ∧ Same (upd H2 L (.lst [.int 0])) H')
        ⟨⟨L, _, _, _, _, rfl, upd_same⟩, Same.refl _⟩ (fun j σ H' _ h => ⟨SqT.of (h.2 _ _ (sL _ _ eao)), same_sqt h.2 hq⟩) ?_ ?_
      · rintro j e σ Ha Hb hj ⟨⟨Lj, x4', x5', x6', x7', rfl, eLj⟩, sa⟩ ⟨T', c, z, rfl, hT, rfl, ec, ez⟩
        have sT := snew (o := .tup [c, z]) hT
        obtain ⟨fr, hc, hz⟩ : ∃ fr : Fr, c = .int (oo o j : Nat) ∧ fr = rr r j ∧ PrS K (upd H2 L (.lst [.int 0])) z fr := by
          have cc : j = 0 ∨ j = 1 ∨ j = 2 := by omega
          rcases cc with rfl | rfl | rfl
          · cases ec; cases ez; exact ⟨_, rfl, rfl, pu⟩
          · cases ec; cases ez; exact ⟨_, rfl, rfl, pv'⟩
          · cases ec; cases ez; exact ⟨_, rfl, rfl, pw⟩
        obtain ⟨rfl, pz⟩ := hz
        subst hc
        refine ⟨T', _, rfl, SqT.of upd_same, rfl, _, _, rfl, _, _, rfl, rfl, Nat.zero_le _, fun M hM => ?_⟩
        have sM := snew (o := .lst []) hM
        have sall : Same H (upd (upd Ha T' (.tup [.int (oo o j : Nat), z])) M (.lst [])) := ((sB.trans sL).trans sa).trans (sT.trans sM)
        obtain ⟨us, hus, lus, lfs, pus⟩ := ha.same sall
        have ol := oo_lt om j hj
        have hu2 : us[oo o j]? = some us[oo o j] := List.getElem?_eq_getElem (by omega)
        have hf2 : fs[oo o j]? = some (atF fs (oo o j)) := by
          unfold atF
          rw [List.getD_eq_getElem?_getD, List.getElem?_eq_getElem (by omega)]; rfl
        refine ⟨_, rfl, _, rfl, .inl ⟨a, us, _, _, rfl, rfl, hus, atI_nat hu2, _, rfl, _, _, _, _, rfl, pus _ _ _ hu2 hf2, ((pz.same sa).same sT).same sM, fun l H4 nl s4 e4 => ⟨l, rfl, ⟨_, SqL.of e4⟩, ?_⟩⟩⟩
        obtain ⟨ps, eps⟩ : ∃ ps, prsL (atF fs (oo o j)) (rr r j) = ps := ⟨_, rfl⟩
        have lps : ps.length ≤ 2 := eps ▸ prs_len _ _
        rw [eps] at e4
        have lS := sums_len fs r o j
        have lS' : (sumsN fs r o j).length ≤ 8 := Nat.le_trans lS (Nat.pow_le_pow_right (by decide) (by omega) : 2 ^ j ≤ 2 ^ 3)
        obtain ⟨S, eS⟩ : ∃ S, sumsN fs r o j = S := ⟨_, rfl⟩
        have eN : sumsN fs r o (j + 1) = stepS S ps := by show stepS _ _ = _; rw [eS, eps]
        rw [eS] at eLj lS'
        have eLM : (upd Ha T' (.tup [.int (oo o j : Nat), z])) Lj = some (.lst (S.map V.int)) := sT _ _ eLj
        have eM4 : H4 M = some (.lst []) := s4 _ _ upd_same
        have nMl : M ≠ l := ne_of_none upd_same nl
        refine for_it (walk_list (K := K) (a := l) (xs := ps.map V.int)) (fun t σ H' => (∃ y7 : Option V, σ = [some (.ref a), some (.ref b), some (.ref ao), some (.ref Lj), some (.int (oo o j : Nat)), some z, some (.ref M), y7, none]) ∧ H' M = some (.lst ((stepS S (ps.take t)).map V.int)) ∧ Same (upd Ha T' (.tup [.int (oo o j : Nat), z])) H' ∧ H' l = some (.lst (ps.map V.int)))
          ⟨⟨_, rfl⟩, eM4, sM.trans s4, e4⟩ (fun t σ H' _ h => SqL.of h.2.2.2) ?_ ?_
        · rintro t e σ Hc' Hc ht ⟨⟨y7, rfl⟩, eM, sc, el⟩ ⟨rfl, hy⟩
          obtain ⟨q, hq', rfl⟩ := map_get hy
          have eLc := sc _ _ eLM
          refine ⟨_, rfl, .inl ⟨rfl, _, .inl (.inl eM)⟩, _, rfl, Lj, rfl, ⟨_, SqL.of eLc⟩, fun D hD => lc_map (walk_list (K := K) (a := Lj) (xs := S.map V.int)) (fun H' s' => SqL.of (s' _ _ eLc)) (fun m y _ => ∃ i, (S.map fun it => (it + q) % 2)[m]? = some i ∧ y = .int i) (fun _ _ _ _ _ h => h) (by rw [List.length_map]; omega) hD (fun m e Hd Hd2 Q' hm sd ⟨ey, hy2⟩ kk => ?_) (fun ys H5 f1 f2 f3 s5 => ?_)⟩
          · subst ey
            obtain ⟨it, hit, rfl⟩ := map_get hy2
            exact ⟨rfl, _, rfl, _, rfl, _, _, rfl, rfl, .inl ⟨_, rfl, _, _, rfl, rfl, by show (0 : Int) < 2; decide, kk _ _ ⟨_, by rw [List.getElem?_map, hit]; rfl, rfl⟩ (Same.refl _)⟩⟩
          · rw [List.length_map] at f2
            obtain rfl := map_of_at (f2.trans (List.length_map _).symm) f3
            have lt := step_len (s := S) (ps := ps.take t) lS' (by rw [List.length_take]; omega)
            have big : 1000 ≤ sizeLine := by rw [sizeLine_eq]; decide
            refine ⟨M, D, _, _, rfl, rfl, s5 _ _ eM, f1, by rw [List.length_map, List.length_map, List.length_map]; omega, ?_⟩
            refine ⟨⟨_, rfl⟩, ?_, fun c o' e' => ?_, ?_⟩
            · rw [upd_same, step_take hq', List.map_append]
            · rw [upd_ne (ne_of_none e' hM)]
              exact s5 _ _ (sc _ _ e')
            · rw [upd_ne nMl.symm]
              exact s5 _ _ el
        · rintro σ Hc ⟨⟨y7, rfl⟩, eM, sc, el⟩
          rw [List.length_map, List.take_length] at eM
          refine ⟨_, rfl, ⟨M, _, _, _, _, rfl, by rw [eN]; exact eM⟩, ?_⟩
          exact sa.trans (sT.trans sc)
      · rintro σ Ha ⟨⟨Lj, x4', x5', x6', x7', rfl, eLj⟩, sa⟩
        have big : 1000 ≤ sizeLine := by rw [sizeLine_eq]; decide
        have sE := (s2.trans sL).trans sa
        refine ⟨_, rfl, Lj, _, rfl, .inl (SqL.of eLj), rfl, flat_ints _, _, rfl, ?_⟩
        rw [in_ints]
        refine ite_b (fun c => ?_) (fun c => ?_)
        · have kk := k Ha (s1.trans sE)
          have e : isOf fs r = true := by
            unfold isOf
            exact List.any_eq_true.mpr ⟨o, om, c⟩
          rw [e] at kk
          exact kk
        · refine ⟨⟨_, _, _, _, _, _, rfl⟩, sE, fun j hj o' eo' => ?_⟩
          by_cases q : j = i
          · subst q
            rw [eo] at eo'
            cases eo'
            exact c
          · exact all j (by omega) o' eo'
    · rintro σ H2 ⟨_, s2, all⟩
      have kk := k H2 (s1.trans s2)
      have e : isOf fs r = false := by
        unfold isOf
        exact (any_at rfl).mpr (by rw [l0] at all; exact all)
      rw [e] at kk
      exact kk
end
end N3

namespace N3
open PySem PySem.Spec PyProof.Rows L2 N2
/-! ### the law's word -/
def findL (fs : List Fr) : List (Str × Rw) → Str
  | [] => "nothing"
  | x :: xs => if isOf fs x.2 = true then x.1 else findL fs xs
abbrev botL (x y z : Fr) : Int := x.2 * y.2 * z.2
def sumsL (x y z : Fr) : List Int :=
  [x.1 * (botL x y z / x.2) + y.1 * (botL x y z / y.2) + z.1 * (botL x y z / z.2), y.1 * (botL x y z / y.2) + z.1 * (botL x y z / z.2) - x.1 * (botL x y z / x.2),
   x.1 * (botL x y z / x.2) - y.1 * (botL x y z / y.2) + z.1 * (botL x y z / z.2), x.1 * (botL x y z / x.2) + y.1 * (botL x y z / y.2) - z.1 * (botL x y z / z.2)]
def wordL (x y z : Fr) : Str :=
  if ((sumsL x y z).any fun it => decide (par it (botL x y z) = 1)) = true then "quotient" else
    if 1 < ([x, y, z].filter fun f => decide (f.2 = 2)).length then (if ([x, y, z].filter fun f => decide (f.2 = 2)).length = 3 then "eight" else "square") else findL [x, y, z] rowsT
def B12 (x : Fr) : Prop := 1 ≤ x.2 ∧ x.2 ≤ 12
def spWord (K : PySem.W.Frag) : Sp := fun vs H Q _ => ∃ (a : Addr) (x y z : Fr), vs = [.ref a] ∧ Tri3 K H a [x, y, z] ∧ B12 x ∧ B12 y ∧ B12 z ∧ ∀ H', Same H H' → Q (.str (wordL x y z)) H'
theorem findL_at {fs : List Fr} {i : Nat} {x : Str × Rw} (h : rowsT[i]? = some x) : findL fs (rowsT.drop i) = if isOf fs x.2 = true then x.1 else findL fs (rowsT.drop (i + 1)) := by
  have hi : i < rowsT.length := (List.getElem?_eq_some_iff.mp h).1
  have e : rowsT.drop i = x :: rowsT.drop (i + 1) := by
    rw [List.drop_eq_getElem_cons hi]
    rw [List.getElem?_eq_getElem hi] at h
    rw [Option.some.inj h]
  rw [e]; rfl
theorem dn_rw {K : PySem.W.Frag} {H : Hp} {v : V} {r : Rw} (h : Dn H v (encR3 r)) (p : (0 < r.1.2 ∧ r.1.2 < 1000) ∧ (0 < r.2.1.2 ∧ r.2.1.2 < 1000) ∧ (0 < r.2.2.2 ∧ r.2.2.2 < 1000)) : ∃ b, v = .ref b ∧ RwS K H b r := by
  obtain ⟨a, xs, rfl, e, g⟩ := dn_tupd h
  cases g with
  | cons g1 g => cases g with
    | cons g2 g => cases g with
      | cons g3 g =>
        cases g
        obtain ⟨a1, rfl, e1⟩ := dn_pr g1
        obtain ⟨a2, rfl, e2⟩ := dn_pr g2
        obtain ⟨a3, rfl, e3⟩ := dn_pr g3
        exact ⟨a, rfl, _, _, _, SqT.of e, ⟨a1, rfl, SqT.of e1, p.1⟩, ⟨a2, rfl, SqT.of e2, p.2.1⟩, ⟨a3, rfl, SqT.of e3, p.2.2⟩⟩
theorem fil_empty {α : Type} (p : α → Bool) : ∀ L : List α, (L.filter p).isEmpty = !L.any p
  | [] => rfl
  | x :: L => by
    rw [List.filter_cons, List.any_cons]
    cases p x with
    | true => rfl
    | false => exact fil_empty p L
theorem emp_map {α β : Type} (f : α → β) (l : List α) : (l.map f).isEmpty = l.isEmpty := by cases l <;> rfl
theorem ones_empty {p : Int → Bool} {S : List Int} : ((((List.range S.length).filter fun j => p (S.getD j 0)).map fun _ => (1 : Int)).map PyData.int).isEmpty = !S.any p := by
  rw [emp_map, emp_map, ← fil_empty, ← emp_map V.int (S.filter p), ← fil_list (d := 0), emp_map]
theorem fil_count {α : Type} {L : List α} {d : α} {p : α → Bool} : ((List.range L.length).filter fun j => p (L.getD j d)).length = (L.filter p).length := by
  have := congrArg List.length (fil_list (L := L) (d := d) (p := p) (f := fun _ => V.non))
  rw [List.length_map, List.length_map] at this
  exact this
section
variable {P : Program} {w : World} {K : PySem.W.Frag} {mg : Str → Option Value} {base : Heap}
abbrev s__law_word : Stmt := top 45
abbrev nsWd : List Str := ["some", "bottom", "l", "m", "n", "halves", "at", "row", "word", "top", "under", "it"]
theorem sc__law_word : FnScope nsWd ["some"] (defScope s__law_word) := ⟨rfl, rfl, rfl, by decide +kernel, rfl, by decide +kernel, by decide +kernel⟩
theorem ok__law_word {f f__law_parity f__law_table f__law_is_of : Addr} {fd d__law_parity d__law_table d__law_is_of : FuncData}  (F : Fun K "_law_word" "_law_word" s__law_word f fd) (T : Bt mg) (l_parity : Kn P w K mg base 1 "_law_parity" ["top", "bottom"] spPar f__law_parity d__law_parity) (l_table : Kn P w K mg base 1 "_law_table" ["at"] spTable f__law_table d__law_table) (l_is_of : Kn P w K mg base 3 "_law_is_of" ["some", "row"] (spIsOf K) f__law_is_of d__law_is_of) : FnOk P w K mg base CX0 4 f fd ["some"] (spWord K) := by
  refine F.ok sc__law_word (fun vs H Q E h => ?_) (fun cdv A outer s H vs Q E hr h => ?_)
  · obtain ⟨a, x, y, z, rfl, _⟩ := h
    rfl
  · obtain ⟨a, x, y, z, rfl, ha, bx, by_, bz, k⟩ := h
    refine ⟨_, pss_cons (ps_set (i := 1) sc__law_word.nd rfl (Or.inr rfl) (pe_op op_mul (pe_op op_mul (pe_ix (r := rIx K) ix_seq (pe_ix (r := rIx K) ix_seq (pv 0) pe_int (fun _ _ => rfl)) pe_int (fun _ _ => rfl)) (pe_ix (r := rIx K) ix_seq (pe_ix (r := rIx K) ix_seq (pv 0) pe_int (fun _ _ => rfl)) pe_int (fun _ _ => rfl))) (pe_ix (r := rIx K) ix_seq (pe_ix (r := rIx K) ix_seq (pv 0) pe_int (fun _ _ => rfl)) pe_int (fun _ _ => rfl))))
      (pss_cons (ps_asg (pe_lc (own := [("top", 9), ("under", 10)]) (g := (gTup K 2 (gCons (gName 9) (gCons (gName 10) gNil)))) (tt := tYes) rfl sc__law_word.nd (pi_list (pv 0)) (blkOk_by (own := [("top", 9), ("under", 10)]) (N := nsWd) (sc := defScope s__law_word) (by decide +kernel)) (fun _ _ _ _ _ => pg_tup rfl (pgs_cons (pg_name (i := 9) sc__law_word.nd rfl (Or.inl rfl)) (pgs_cons (pg_name (i := 10) sc__law_word.nd rfl (Or.inl rfl)) pgs_nil))) (fun _ _ _ _ _ => pts_nil) (fun _ _ _ _ _ => (pe_op op_mul (pv 9) (pe_op op_fdiv (pv 1) (pv 10))))) (pg_unl rfl (pgs_cons (pg_name (i := 2) sc__law_word.nd rfl (Or.inl rfl)) (pgs_cons (pg_name (i := 3) sc__law_word.nd rfl (Or.inl rfl)) (pgs_cons (pg_name (i := 4) sc__law_word.nd rfl (Or.inl rfl)) pgs_nil)))))
      (pss_cons (ps_if (pt_cmpR (op_neD hr.units) (pe_lc (own := [("it", 11)]) (g := (gName 11)) (tt := _) rfl sc__law_word.nd (pi_tup (pe_tup (pa_cons (pe_op op_add (pe_op op_add (pv 2) (pv 3)) (pv 4)) (pa_cons (pe_op op_sub (pe_op op_add (pv 3) (pv 4)) (pv 2)) (pa_cons (pe_op op_add (pe_op op_sub (pv 2) (pv 3)) (pv 4)) (pa_cons (pe_op op_sub (pe_op op_add (pv 2) (pv 3)) (pv 4)) pa_nil)))))) (blkOk_by (own := [("it", 11)]) (N := nsWd) (sc := defScope s__law_word) (by decide +kernel)) (fun _ _ _ _ _ => pg_name (i := 11) sc__law_word.nd rfl (Or.inl rfl)) (fun _ _ _ _ _ => pts_one (pt_cmpR op_eq (pe_call l_parity.ok (hr.mono (by decide)) rfl l_parity.mg l_parity.kp l_parity.bd .nil pass0 (pa_cons (pv 11) (pa_cons (pv 1) pa_nil))) pe_int (nomark _))) (fun _ _ _ _ _ => pe_int)) (pe_lst pa_nil) (nomark _))
        (pss_one (ps_ret pe_str))
        pss_nil)
      (pss_cons (ps_set (i := 5) sc__law_word.nd rfl (Or.inl rfl) (pe_callB call_len (by rfl) T.len PySem.boot_len (pa_cons (pe_lc (own := [("top", 9), ("under", 10)]) (g := (gTup K 2 (gCons (gName 9) (gCons (gName 10) gNil)))) (tt := _) rfl sc__law_word.nd (pi_list (pv 0)) (blkOk_by (own := [("top", 9), ("under", 10)]) (N := nsWd) (sc := defScope s__law_word) (by decide +kernel)) (fun _ _ _ _ _ => pg_tup rfl (pgs_cons (pg_name (i := 9) sc__law_word.nd rfl (Or.inl rfl)) (pgs_cons (pg_name (i := 10) sc__law_word.nd rfl (Or.inl rfl)) pgs_nil))) (fun _ _ _ _ _ => pts_one (pt_cmpR op_eq (pv 10) pe_int (nomark _))) (fun _ _ _ _ _ => pe_int)) pa_nil)))
      (pss_cons (ps_if (pt_cmpR op_gt (pv 5) pe_int (nomark _))
        (pss_one (ps_ret (pe_ifExp (pt_cmpR op_eq (pv 5) pe_int (nomark _)) pe_str pe_str)))
        pss_nil)
      (pss_cons (ps_for PassesOwn.never rfl (pi_range1 rfl T.range (pa_cons pe_int pa_nil)) (pg_name (i := 6) sc__law_word.nd rfl (Or.inl rfl))
        (pss_cons (ps_asg (pe_call l_table.ok (hr.mono (by decide)) rfl l_table.mg l_table.kp l_table.bd .nil pass0 (pa_cons (pv 6) pa_nil)) (pg_tup rfl (pgs_cons (pg_name (i := 7) sc__law_word.nd rfl (Or.inl rfl)) (pgs_cons (pg_name (i := 8) sc__law_word.nd rfl (Or.inl rfl)) pgs_nil))))
        (pss_one (ps_if (pt_val (pe_call l_is_of.ok (hr.mono (by decide)) rfl l_is_of.mg l_is_of.kp l_is_of.bd .nil pass0 (pa_cons (pv 0) (pa_cons (pv 7) pa_nil))))
          (pss_one (ps_ret (pv 8)))
          pss_nil))))
      (pss_one (ps_ret pe_str))))))), ?_⟩
    obtain ⟨us, hus, lus, _, pus⟩ := id ha
    match us, lus, pus with
    | [u0, u1, u2], _, pus =>
    obtain ⟨a0, rfl, q0, _, _⟩ := pus 0 _ x rfl rfl
    obtain ⟨a1, rfl, q1, _, _⟩ := pus 1 _ y rfl rfl
    obtain ⟨a2, rfl, q2, _, _⟩ := pus 2 _ z rfl rfl
    obtain ⟨bx1, bx2⟩ := bx
    obtain ⟨by1, by2⟩ := by_
    obtain ⟨bz1, bz2⟩ := bz
    refine ⟨_, rfl, .inl ⟨a, _, _, _, rfl, rfl, hus, rfl, .inr (.inl ⟨a0, _, _, _, rfl, rfl, q0, rfl, ?_⟩)⟩⟩
    refine ⟨_, rfl, .inl ⟨a, _, _, _, rfl, rfl, hus, rfl, .inr (.inl ⟨a1, _, _, _, rfl, rfl, q1, rfl, _, _, rfl, rfl, .inr ⟨by omega, by omega⟩, ?_⟩)⟩⟩
    refine ⟨_, rfl, .inl ⟨a, _, _, _, rfl, rfl, hus, rfl, .inr (.inl ⟨a2, _, _, _, rfl, rfl, q2, rfl, _, _, rfl, rfl, .inr ⟨by omega, by omega⟩, ?_⟩)⟩⟩
    obtain ⟨B, eB⟩ : ∃ B, x.2 * y.2 * z.2 = B := ⟨_, rfl⟩
    have xy0 : 0 < x.2 * y.2 := Int.mul_pos (by omega) (by omega)
    have B0 : 0 < B := eB ▸ Int.mul_pos xy0 (by omega)
    have xy1 : x.2 * y.2 ≤ 12 * 12 := Int.mul_le_mul bx2 by2 (by omega) (by decide)
    have B1 : B ≤ 12 * 12 * 12 := eB ▸ Int.mul_le_mul xy1 bz2 (by omega) (by decide)
    have dv : ∀ b : Int, 1 ≤ b → 0 ≤ B / b ∧ B / b ≤ B := fun b hb => ⟨Int.ediv_nonneg (by omega) (by omega), Int.ediv_le_self _ (by omega)⟩
    obtain ⟨L, eL⟩ : ∃ L : List Int, [x.1 * (B / x.2), y.1 * (B / y.2), z.1 * (B / z.2)] = L := ⟨_, rfl⟩
    have l3 : L.length = 3 := by rw [← eL]; rfl
    have els : ∀ (j : Nat) (e : V), [V.ref a0, V.ref a1, V.ref a2][j]? = some e → ∃ (c : Addr) (f : Fr), e = .ref c ∧ [x, y, z][j]? = some f ∧ SqT K H c [.int f.1, .int f.2] ∧ 1 ≤ f.2 ∧ f.2 ≤ 12 ∧ L[j]? = some (f.1 * (B / f.2)) := fun j e h => by
      rw [← eL]
      match j, h with
      | 0, h => cases h; exact ⟨a0, x, rfl, rfl, q0, bx1, bx2, rfl⟩
      | 1, h => cases h; exact ⟨a1, y, rfl, rfl, q1, by1, by2, rfl⟩
      | 2, h => cases h; exact ⟨a2, z, rfl, rfl, q2, bz1, bz2, rfl⟩
    show (gName 1) (V.int (x.2 * y.2 * z.2)) _ H _
    rw [eB]
    refine ⟨_, rfl, a, rfl, ⟨_, hus⟩, fun D hD => lc_map (walk_list (K := K) (a := a) (xs := [.ref a0, .ref a1, .ref a2])) (fun H' s' => s'.seq hus) (fun j q _ => ∃ i, L[j]? = some i ∧ q = .int i) (fun _ _ _ _ _ h => h) (by show 3 ≤ 1000000; decide) hD (fun j e Ha Hb Q' hj sa ⟨ey, hy⟩ kk => ?_) (fun ys H2 e1 e2 e3 s2 => ?_)⟩
    · subst ey
      obtain ⟨c, f', rfl, ef, qc, f1, f2, el⟩ := els j e hy
      obtain ⟨d1, d2⟩ := dv f'.2 f1
      exact ⟨c, _, rfl, same_sqt sa qc, rfl, _, _, rfl, _, _, rfl, rfl, rfl, _, rfl, _, rfl, _, rfl, _, _, rfl, rfl, ⟨by omega, by omega⟩, _, _, rfl, rfl, .inr ⟨by omega, by omega⟩, kk _ _ ⟨_, el, rfl⟩ (Same.refl _)⟩
    · obtain rfl := map_of_at (e2.trans (show 3 = L.length from l3.symm)) e3
      have hus2 := s2.seq hus
      have kk : ∀ H', Same H2 H' → Q (.str (wordL x y z)) H' := fun H' s' => k H' (s2.trans s')
      unfold wordL sumsL botL at kk
      rw [eB] at kk
      subst eL
      obtain ⟨l, el⟩ : ∃ l, x.1 * (B / x.2) = l := ⟨_, rfl⟩
      obtain ⟨m, em⟩ : ∃ m, y.1 * (B / y.2) = m := ⟨_, rfl⟩
      obtain ⟨n, en⟩ : ∃ n, z.1 * (B / z.2) = n := ⟨_, rfl⟩
      rw [el, em, en] at e1 kk
      obtain ⟨S, eS⟩ : ∃ S : List Int, [l + m + n, m + n - l, l - m + n, l + m - n] = S := ⟨_, rfl⟩
      have eSX : ([.int (l + m + n), .int (m + n - l), .int (l - m + n), .int (l + m - n)] : List V) = S.map V.int := by rw [← eS]; rfl
      have l4 : S.length = 4 := by rw [← eS]; rfl
      rw [eS] at kk
      refine ⟨D, _, rfl, SqL.of e1, rfl, _, _, rfl, _, _, rfl, _, _, rfl, rfl, ?_⟩
      refine ⟨_, rfl, _, rfl, _, _, rfl, rfl, _, rfl, _, _, rfl, rfl, _, rfl, _, rfl, _, _, rfl, rfl, _, rfl, _, _, rfl, rfl, _, rfl, _, rfl, _, _, rfl, rfl, _, rfl, _, _, rfl, rfl, _, rfl, _, rfl, _, _, rfl, rfl, _, rfl, _, _, rfl, rfl, by show 4 ≤ sizeLine; rw [sizeLine_eq]; decide, fun q hq => ?_⟩
      have sq := snew (o := .tup [.int (l + m + n), .int (m + n - l), .int (l - m + n), .int (l + m - n)]) hq
      rw [eSX] at sq ⊢
      refine ⟨q, rfl, ⟨_, SqT.of upd_same⟩, fun D2 hD2 => lc_fil (walk_tup (K := K) (a := q) (xs := S.map V.int)) (fun H' s' => SqT.of (s' _ _ upd_same)) (fun j => decide (par (S.getD j 0) B = 1)) (fun _ => .int 1) (by rw [List.length_map, l4]; decide) hD2 (fun j e Ha Hb Q1 Q0 hj sa ⟨ey, hy⟩ g1 g0 => ?_) (fun H3 e4 s3 => ?_)⟩
      · subst ey
        obtain ⟨i, hi', rfl⟩ := map_get hy
        have gd : S.getD j 0 = i := by rw [List.getD_eq_getElem?_getD, hi']; rfl
        rw [gd] at g1 g0
        refine ⟨rfl, _, rfl, _, rfl, _, _, rfl, B0, by omega, rfl, _, rfl, ?_⟩
        have de : decide (V.int (par i B) = V.int 1) = decide (par i B = 1) := decide_eq_decide.mpr ⟨fun h => V.int.inj h, fun h => congrArg V.int h⟩
        rw [de]
        cases c : decide (par i B = 1) with
        | true => exact iteT (g1 _ (Same.refl _) c)
        | false => exact iteF (g0 _ (Same.refl _) c)
      · rw [List.length_map] at e4
        have e4' : H3 D2 = some (.lst ((((List.range S.length).filter fun j => decide (par (S.getD j 0) B = 1)).map fun _ => (1 : Int)).map V.int)) := by rw [e4, List.map_map]; rfl
        refine ⟨Nat.zero_le _, fun E hE => ⟨_, .list [], .lst (SqL.of ((snew hE) _ _ e4')) (ints_dp _), .lst (SqL.of upd_same) .nil, ints_shaped _, nil_shaped, _, rfl, ?_⟩⟩
        rw [eqv_nil, ones_empty (p := fun i => decide (par i B = 1)), Bool.not_not]
        have sE := (sq.trans s3).trans (snew (o := .lst []) hE)
        refine ite_b (fun c => ?_) (fun c => ?_)
        · have g := kk _ sE
          rw [if_pos c] at g
          exact g
        · have kk2 : ∀ H', Same (upd H3 E (.lst [])) H' → Q (.str (if 1 < ([x, y, z].filter fun f => decide (f.2 = 2)).length then (if ([x, y, z].filter fun f => decide (f.2 = 2)).length = 3 then "eight" else "square") else findL [x, y, z] rowsT)) H' := fun H' s' => by
            have g := kk H' (sE.trans s')
            rw [if_neg (by rw [c]; exact fun z => nomatch z)] at g
            exact g
          have hus4 := sE.seq hus2
          obtain ⟨H4, eH4⟩ : ∃ H4, upd H3 E (.lst []) = H4 := ⟨_, rfl⟩
          rw [eH4] at kk2 hus4 sE ⊢
          obtain ⟨h', eh⟩ : ∃ h' : Nat, ([x, y, z].filter fun f => decide (f.2 = 2)).length = h' := ⟨_, rfl⟩
          rw [eh] at kk2
          refine ⟨_, rfl, a, rfl, ⟨_, hus4⟩, fun D3 hD3 => lc_fil (walk_list (K := K) (a := a) (xs := [.ref a0, .ref a1, .ref a2])) (fun H' s' => s'.seq hus4) (fun j => decide (([x, y, z].getD j (0, 1)).2 = 2)) (fun _ => .int 1) (by show 3 ≤ 1000000; decide) hD3 (fun j e Ha Hb Q1 Q0 hj sa ⟨ey, hy⟩ g1 g0 => ?_) (fun H5 e5 s5 => ?_)⟩
          · subst ey
            obtain ⟨c', f', rfl, ef, qc, f1, f2, _⟩ := els j e hy
            have gd : [x, y, z].getD j (0, 1) = f' := by rw [List.getD_eq_getElem?_getD, ef]; rfl
            rw [gd] at g1 g0
            refine ⟨c', _, rfl, same_sqt ((s2.trans sE).trans sa) qc, rfl, _, _, rfl, _, _, rfl, rfl, rfl, _, rfl, rfl, _, rfl, ?_⟩
            have de : decide (V.int f'.2 = V.int 2) = decide (f'.2 = 2) := decide_eq_decide.mpr ⟨fun h => V.int.inj h, fun h => congrArg V.int h⟩
            rw [de]
            cases q' : decide (f'.2 = 2) with
            | true => exact iteT (g1 _ (Same.refl _) q')
            | false => exact iteF (g0 _ (Same.refl _) q')
          · have hn : ((List.range [V.ref a0, V.ref a1, V.ref a2].length).filter fun j => decide (([x, y, z].getD j (0, 1)).2 = 2)).length = h' := by
              rw [← eh]
              exact fil_count (L := [x, y, z]) (d := (0, 1)) (p := fun f => decide (f.2 = 2))
            refine ⟨.ref D3, h', rfl, .inl ⟨_, SqL.of e5, by rw [List.length_map, hn]⟩, ?_⟩
            refine ⟨_, rfl, _, _, rfl, rfl, _, rfl, ite_b (fun c3 => ?_) (fun c3 => ?_)⟩
            · have g := of_decide_eq_true c3
              have q' := kk2 H5 s5
              rw [if_pos (by omega)] at q'
              refine ⟨_, rfl, rfl, _, rfl, ite_b (fun c4 => ?_) (fun c4 => ?_)⟩
              · have e3' : h' = 3 := by
                  have := V.int.inj (of_decide_eq_true c4)
                  omega
                rw [if_pos e3'] at q'
                exact q'
              · have e3' : ¬ h' = 3 := fun z => of_decide_eq_false c4 (by rw [z]; rfl)
                rw [if_neg e3'] at q'
                exact q'
            · have g := of_decide_eq_false c3
              have fin3 : ∀ H', Same H5 H' → Q (.str (findL [x, y, z] rowsT)) H' := fun H' s' => by
                have q' := kk2 H' (s5.trans s')
                rw [if_neg (by omega)] at q'
                exact q'
              refine ⟨14, rfl, by decide, by decide, for_range (lo := 0) (n := 14) (fun i σ H' => (∃ y6 y7 y8 : Option V, σ = [some (.ref a), some (.int B), some (.int l), some (.int m), some (.int n), some (.int (h' : Nat)), y6, y7, y8, none, none, none]) ∧ Same H5 H' ∧ findL [x, y, z] (rowsT.drop i) = findL [x, y, z] rowsT)
                ⟨⟨_, _, _, rfl⟩, Same.refl _, rfl⟩ ?_ ?_⟩
              · rintro i σ H6 hi ⟨⟨y6, y7, y8, rfl⟩, s6, fr⟩
                have il : i < rowsT.length := hi
                refine ⟨_, rfl, i, by rw [Int.zero_add]; rfl, hi, fun p v row H7 er s7 ep dv' => ?_⟩
                obtain ⟨b', rfl, rwb⟩ := dn_rw (K := K) dv' (rows_pos row (List.mem_of_getElem? er))
                have fe := findL_at (fs := [x, y, z]) er
                have sA : Same H H7 := ((s2.trans sE).trans (s5.trans s6)).trans s7
                refine ⟨p, _, rfl, SqT.of ep, rfl, _, _, rfl, _, _, rfl, rfl, ?_⟩
                refine ⟨_, rfl, _, rfl, a, b', [x, y, z], row.2, rfl, ha.same sA, rwb, fun H8 s8 => ⟨_, rfl, ite_b (fun c5 => ?_) (fun c5 => ?_)⟩⟩
                · rw [if_pos c5] at fe
                  have q' := fin3 H8 (s6.trans (s7.trans s8))
                  rw [← fr, fe] at q'
                  exact ⟨_, rfl, q'⟩
                · rw [if_neg (by rw [c5]; exact fun z => nomatch z)] at fe
                  exact ⟨⟨_, _, _, rfl⟩, s6.trans (s7.trans s8), by rw [← fe]; exact fr⟩
              · rintro σ H6 ⟨_, s6, fr⟩
                have q' := fin3 H6 s6
                rw [← fr] at q'
                exact q'
end
end N3

namespace N3
open PySem PySem.Spec PyProof.Rows L2 N2
/-! ### both ways through the conditions agree -/
def ParOk (x : Fr) : Prop := lowT x.1 x.2 = true ∧ 1 ≤ x.2 ∧ x.2 ≤ 12 ∧ (x.1.natAbs : Int) ≤ 6 * x.2
theorem ParOk.d {x : Fr} (h : ParOk x) : parD (prD x.1 x.2) = true := by
  show (lowT x.1 x.2 && (decide (x.2 ≤ 12) && decide ((x.1.natAbs : Int) ≤ 6 * x.2))) = true
  rw [h.1, decide_eq_true h.2.2.1, decide_eq_true h.2.2.2]; rfl
theorem prt_mul {t b : Int} (h1 : 1 ≤ b) (h2 : b ≤ 12) : prt t b * b = t * 27720 := by
  have e : 27720 / b * b = 27720 := by
    have c : b = 1 ∨ b = 2 ∨ b = 3 ∨ b = 4 ∨ b = 5 ∨ b = 6 ∨ b = 7 ∨ b = 8 ∨ b = 9 ∨ b = 10 ∨ b = 11 ∨ b = 12 := by omega
    rcases c with rfl | rfl | rfl | rfl | rfl | rfl | rfl | rfl | rfl | rfl | rfl | rfl <;> decide
  unfold prt
  rw [Int.mul_assoc, e]
theorem oddC_iff {x : Int} : oddC x = true ↔ ∃ k, x = 27720 * (2 * k + 1) := by
  unfold oddC
  rw [decide_eq_true_iff]
  constructor
  · intro h
    exact ⟨x / 55440, by omega⟩
  · rintro ⟨k, rfl⟩
    omega
theorem par_one {x b : Int} (hb : 0 < b) : par x b = 1 ↔ ∃ k, x = b * (2 * k + 1) := by
  unfold par
  by_cases h : x % b = 0
  · rw [if_pos h]
    have e : x = b * (x / b) := (Int.mul_ediv_cancel' (Int.dvd_of_emod_eq_zero h)).symm
    constructor
    · intro g
      exact ⟨x / b / 2, by rw [show 2 * (x / b / 2) + 1 = x / b by omega]; exact e⟩
    · rintro ⟨k, hk⟩
      have : x / b = 2 * k + 1 := by rw [hk, Int.mul_ediv_cancel_left _ (by omega)]
      omega
  · rw [if_neg h]
    constructor
    · intro g; omega
    · rintro ⟨k, hk⟩
      exact absurd (by rw [hk]; exact Int.mul_emod_right b _) h
theorem par_scale {x b y c : Int} (hb : 0 < b) (hc : 0 < c) (e : y * b = x * c) : par x b = par y c := by
  have key : ∀ k, x = b * k ↔ y = c * k := fun k => by
    constructor
    · intro h
      have : y * b = (c * k) * b := by rw [e, h]; simp only [Int.mul_comm, Int.mul_left_comm]
      exact Int.eq_of_mul_eq_mul_right (by omega) this
    · intro h
      have : x * c = (b * k) * c := by rw [← e, h]; simp only [Int.mul_comm, Int.mul_left_comm]
      exact Int.eq_of_mul_eq_mul_right (by omega) this
  unfold par
  by_cases h : x % b = 0
  · have e1 : x = b * (x / b) := (Int.mul_ediv_cancel' (Int.dvd_of_emod_eq_zero h)).symm
    have e2 := (key _).mp e1
    have h2 : y % c = 0 := by rw [e2]; exact Int.mul_emod_right c _
    have e3 : y / c = x / b := by rw [e2, Int.mul_ediv_cancel_left _ (by omega)]
    rw [if_pos h, if_pos h2, e3]
  · have h2 : ¬ y % c = 0 := fun z => by
      have e1 : y = c * (y / c) := (Int.mul_ediv_cancel' (Int.dvd_of_emod_eq_zero z)).symm
      have e2 := (key _).mpr e1
      exact h (by rw [e2]; exact Int.mul_emod_right b _)
    rw [if_neg h, if_neg h2]
theorem par_odd {x b y : Int} (hb : 0 < b) (e : y * b = x * 27720) : decide (par x b = 1) = oddC y := by
  rw [par_scale hb (by decide) e, Bool.eq_iff_iff, decide_eq_true_iff, oddC_iff]
  exact par_one (by decide)
theorem par_vals (y : Int) : par y 27720 = 0 ∨ par y 27720 = 1 ∨ par y 27720 = 2 := by
  unfold par
  split <;> omega
/-! halves -/
theorem near_two {x : Fr} (h : ParOk x) : oddC (2 * prt x.1 x.2) = decide (x.2 = 2) := by
  obtain ⟨lo, b1, b2, _⟩ := h
  have e : 2 * prt x.1 x.2 * x.2 = 2 * x.1 * 27720 := by rw [Int.mul_assoc, prt_mul b1 b2, Int.mul_assoc]
  rw [← par_odd (by omega) e, Bool.eq_iff_iff, decide_eq_true_iff, decide_eq_true_iff, par_one (by omega)]
  unfold lowT at lo
  rw [Bool.and_eq_true, decide_eq_true_iff, decide_eq_true_iff] at lo
  constructor
  · rintro ⟨k, hk⟩
    have d1 : x.2 ∣ 2 * x.1 := ⟨_, hk⟩
    have d2 : x.2.natAbs ∣ 2 * x.1.natAbs := by
      have := Int.natAbs_dvd_natAbs.mpr d1
      rwa [Int.natAbs_mul] at this
    have co : Nat.Coprime x.2.natAbs x.1.natAbs := by
      rw [Nat.Coprime, Nat.gcd_comm]; exact lo.2
    have d3 : x.2.natAbs ∣ 2 := co.dvd_of_dvd_mul_right d2
    have le := Nat.le_of_dvd (by decide) d3
    have c : x.2 = 1 ∨ x.2 = 2 := by omega
    rcases c with c | c
    · rw [c] at hk; omega
    · exact c
  · intro c
    rw [c] at lo ⊢
    have : x.1 % 2 = 1 := by
      by_cases z : x.1 % 2 = 0
      · exfalso
        have h2 : 2 ∣ x.1.natAbs := by omega
        have g : 2 ∣ Nat.gcd x.1.natAbs (2 : Int).natAbs := Nat.dvd_gcd h2 (by decide)
        rw [lo.2] at g
        omega
      · omega
    exact ⟨x.1 / 2, by omega⟩
/-! whittaker -/
theorem whit_ok {k m : Fr} (hk : ParOk k) (hm : ParOk m) : whitB (prt k.1 k.2) (prt m.1 m.2) = ([1, -1].any fun s : Int => decide (par (2 * (k.1 * m.2 + s * m.1 * k.2)) (k.2 * m.2) = 1)) := by
  have b0 : 0 < k.2 * m.2 := Int.mul_pos (by have := hk.2.1; omega) (by have := hm.2.1; omega)
  obtain ⟨p, ep⟩ : ∃ p, prt k.1 k.2 = p := ⟨_, rfl⟩
  obtain ⟨q, eq⟩ : ∃ p, prt m.1 m.2 = p := ⟨_, rfl⟩
  have h1 := prt_mul (t := k.1) hk.2.1 hk.2.2.1
  have h2 := prt_mul (t := m.1) hm.2.1 hm.2.2.1
  rw [ep] at h1 ⊢
  rw [eq] at h2 ⊢
  have key : ∀ s : Int, decide (par (2 * (k.1 * m.2 + s * m.1 * k.2)) (k.2 * m.2) = 1) = oddC (2 * (p + s * q)) := fun s => by
    refine par_odd b0 ?_
    have e1 : p * (k.2 * m.2) = k.1 * m.2 * 27720 := by rw [← Int.mul_assoc, h1]; ac_rfl
    have e2 : s * q * (k.2 * m.2) = s * m.1 * k.2 * 27720 := by
      have : s * q * (k.2 * m.2) = s * k.2 * (q * m.2) := by ac_rfl
      rw [this, h2]
      ac_rfl
    rw [Int.mul_assoc, Int.add_mul, e1, e2, Int.mul_assoc 2, Int.add_mul]
  show ([p + q, p - q, q - p, -p - q].any fun x => decide (0 ≤ x - 13860) && decide ((x - 13860) % 27720 = 0)) = (decide (par (2 * (k.1 * m.2 + 1 * m.1 * k.2)) (k.2 * m.2) = 1) || (decide (par (2 * (k.1 * m.2 + -1 * m.1 * k.2)) (k.2 * m.2) = 1) || false))
  rw [key, key]
  have one : ∀ x : Int, ((decide (0 ≤ x - 13860) && decide ((x - 13860) % 27720 = 0)) || (decide (0 ≤ -x - 13860) && decide ((-x - 13860) % 27720 = 0))) = oddC (2 * x) := fun x => by
    unfold oddC
    rw [Bool.eq_iff_iff]
    simp only [Bool.or_eq_true, Bool.and_eq_true, decide_eq_true_iff]
    omega
  have e3 : oddC (2 * (p + 1 * q)) = oddC (2 * (p + q)) := by rw [Int.one_mul]
  have e4 : oddC (2 * (p + -1 * q)) = oddC (2 * (p - q)) := by rw [show p + -1 * q = p - q by omega]
  rw [e3, e4, ← one (p + q), ← one (p - q), show -(p + q) = -p - q by omega, show -(p - q) = q - p by omega]
  show (_ || (_ || (_ || (_ || false)))) = _
  simp only [Bool.or_false]
  ac_rfl
/-! three points -/
def u01 (P R : Int) : List Int := [par (1 * P - R) 27720, par (-1 * P - R) 27720]
theorem prs_eq {x r : Fr} (hx : 1 ≤ x.2 ∧ x.2 ≤ 12) (hr : 1 ≤ r.2 ∧ r.2 ≤ 12) : prsL x r = (u01 (prt x.1 x.2) (prt r.1 r.2)).filter fun i => decide (i < 2) := by
  have h1 := prt_mul (t := x.1) hx.1 hx.2
  have h2 := prt_mul (t := r.1) hr.1 hr.2
  obtain ⟨p, ep⟩ : ∃ p, prt x.1 x.2 = p := ⟨_, rfl⟩
  obtain ⟨q, eq⟩ : ∃ p, prt r.1 r.2 = p := ⟨_, rfl⟩
  rw [ep] at h1 ⊢
  rw [eq] at h2 ⊢
  have key : ∀ s : Int, par (s * x.1 * r.2 - r.1 * x.2) (x.2 * r.2) = par (s * p - q) 27720 := fun s => by
    refine par_scale (Int.mul_pos (by omega) (by omega)) (by decide) ?_
    have e1 : s * p * (x.2 * r.2) = s * x.1 * r.2 * 27720 := by
      have : s * p * (x.2 * r.2) = s * r.2 * (p * x.2) := by ac_rfl
      rw [this, h1]; ac_rfl
    have e2 : q * (x.2 * r.2) = r.1 * x.2 * 27720 := by
      have : q * (x.2 * r.2) = x.2 * (q * r.2) := by ac_rfl
      rw [this, h2]; ac_rfl
    rw [Int.sub_mul, Int.sub_mul, e1, e2]
  unfold prsL u01
  rw [key, key]
def bit3 (a b c : Int) : Bool := decide (a < 2) && (decide (b < 2) && (decide (c < 2) && decide ((a + b + c) % 2 = 0)))
theorem ap_bit (a b c : Int) : (([a, b, c].all fun a => decide (a % 27720 = 0)) && decide ([a, b, c].sum % 55440 = 0)) = bit3 (par a 27720) (par b 27720) (par c 27720) := by
  have e : [a, b, c].sum = a + b + c := by
    show a + (b + (c + 0)) = _
    omega
  rw [e]
  show ((decide (a % 27720 = 0) && (decide (b % 27720 = 0) && (decide (c % 27720 = 0) && true))) && decide ((a + b + c) % 55440 = 0)) = _
  unfold bit3 par
  rw [Bool.eq_iff_iff]
  by_cases h1 : a % 27720 = 0
  · by_cases h2 : b % 27720 = 0
    · by_cases h3 : c % 27720 = 0
      · rw [if_pos h1, if_pos h2, if_pos h3]
        obtain ⟨a', rfl⟩ : ∃ k, a = 27720 * k := ⟨a / 27720, by omega⟩
        obtain ⟨b', rfl⟩ : ∃ k, b = 27720 * k := ⟨b / 27720, by omega⟩
        obtain ⟨c', rfl⟩ : ∃ k, c = 27720 * k := ⟨c / 27720, by omega⟩
        have ea : 27720 * a' / 27720 = a' := by omega
        have eb : 27720 * b' / 27720 = b' := by omega
        have ec : 27720 * c' / 27720 = c' := by omega
        rw [ea, eb, ec, decide_eq_true h1, decide_eq_true h2, decide_eq_true h3, decide_eq_true (show a' % 2 < 2 by omega), decide_eq_true (show b' % 2 < 2 by omega), decide_eq_true (show c' % 2 < 2 by omega)]
        simp only [Bool.true_and, Bool.and_true, decide_eq_true_iff]
        constructor
        · intro h
          omega
        · intro h
          omega
      · rw [if_neg h3]; simp [h3]
    · rw [if_neg h2]; simp [h2]
  · rw [if_neg h1]; simp [h1]
theorem sums_bits : ∀ u1 v1 u2 v2 u3 v3 : Fin 3, decide ((0 : Int) ∈ stepS (stepS (stepS [0] ([(u1.val : Int), (v1.val : Int)].filter fun i => decide (i < 2))) ([(u2.val : Int), (v2.val : Int)].filter fun i => decide (i < 2))) ([(u3.val : Int), (v3.val : Int)].filter fun i => decide (i < 2))) =
    (bit3 u1.val u2.val u3.val || (bit3 u1.val u2.val v3.val || (bit3 u1.val v2.val u3.val || (bit3 u1.val v2.val v3.val || (bit3 v1.val u2.val u3.val || (bit3 v1.val u2.val v3.val || (bit3 v1.val v2.val u3.val || (bit3 v1.val v2.val v3.val || false)))))))) := by
  decide +kernel
theorem par_fin (y : Int) : ∃ u : Fin 3, par y 27720 = (u.val : Int) := by
  rcases par_vals y with h | h | h
  · exact ⟨0, h⟩
  · exact ⟨1, h⟩
  · exact ⟨2, h⟩
theorem fit_one {x y z : Fr} {r : Rw} (hx : 1 ≤ x.2 ∧ x.2 ≤ 12) (hy : 1 ≤ y.2 ∧ y.2 ≤ 12) (hz : 1 ≤ z.2 ∧ z.2 ≤ 12) (hr : (1 ≤ r.1.2 ∧ r.1.2 ≤ 12) ∧ (1 ≤ r.2.1.2 ∧ r.2.1.2 ≤ 12) ∧ (1 ≤ r.2.2.2 ∧ r.2.2.2 ≤ 12)) :
    decide ((0 : Int) ∈ stepS (stepS (stepS [0] (prsL x r.1)) (prsL y r.2.1)) (prsL z r.2.2)) = fitO (prt x.1 x.2) (prt y.1 y.2) (prt z.1 z.2) r := by
  rw [prs_eq hx hr.1, prs_eq hy hr.2.1, prs_eq hz hr.2.2]
  obtain ⟨p, ep⟩ : ∃ p, prt x.1 x.2 = p := ⟨_, rfl⟩
  obtain ⟨q, eq⟩ : ∃ p, prt y.1 y.2 = p := ⟨_, rfl⟩
  obtain ⟨s, es⟩ : ∃ p, prt z.1 z.2 = p := ⟨_, rfl⟩
  obtain ⟨a, ea⟩ : ∃ p, prt r.1.1 r.1.2 = p := ⟨_, rfl⟩
  obtain ⟨b, eb⟩ : ∃ p, prt r.2.1.1 r.2.1.2 = p := ⟨_, rfl⟩
  obtain ⟨c, ec⟩ : ∃ p, prt r.2.2.1 r.2.2.2 = p := ⟨_, rfl⟩
  have ap : ∀ i j k : Int, apB (i * p) (j * q) (k * s) r = bit3 (par (i * p - a) 27720) (par (j * q - b) 27720) (par (k * s - c) 27720) := fun i j k => by
    unfold apB
    rw [ea, eb, ec]
    exact ap_bit _ _ _
  rw [ep, eq, es, ea, eb, ec]
  show _ = (apB (1 * p) (1 * q) (1 * s) r || (apB (1 * p) (1 * q) (-1 * s) r || (apB (1 * p) (-1 * q) (1 * s) r || (apB (1 * p) (-1 * q) (-1 * s) r || (apB (-1 * p) (1 * q) (1 * s) r || (apB (-1 * p) (1 * q) (-1 * s) r || (apB (-1 * p) (-1 * q) (1 * s) r || (apB (-1 * p) (-1 * q) (-1 * s) r || false))))))))
  rw [ap, ap, ap, ap, ap, ap, ap, ap]
  unfold u01
  obtain ⟨u1, h1⟩ := par_fin (1 * p - a)
  obtain ⟨v1, g1⟩ := par_fin (-1 * p - a)
  obtain ⟨u2, h2⟩ := par_fin (1 * q - b)
  obtain ⟨v2, g2⟩ := par_fin (-1 * q - b)
  obtain ⟨u3, h3⟩ := par_fin (1 * s - c)
  obtain ⟨v3, g3⟩ := par_fin (-1 * s - c)
  rw [h1, g1, h2, g2, h3, g3]
  exact sums_bits u1 v1 u2 v2 u3 v3
theorem rows_12 : ∀ x ∈ rowsT, (1 ≤ x.2.1.2 ∧ x.2.1.2 ≤ 12) ∧ (1 ≤ x.2.2.1.2 ∧ x.2.2.1.2 ≤ 12) ∧ (1 ≤ x.2.2.2.2 ∧ x.2.2.2.2 ≤ 12) := by
  intro x hx
  simp only [rowsT, List.mem_cons, List.not_mem_nil, or_false] at hx
  rcases hx with rfl | rfl | rfl | rfl | rfl | rfl | rfl | rfl | rfl | rfl | rfl | rfl | rfl | rfl <;> decide
theorem isOf_fit {x y z : Fr} {r : Rw} (hx : 1 ≤ x.2 ∧ x.2 ≤ 12) (hy : 1 ≤ y.2 ∧ y.2 ≤ 12) (hz : 1 ≤ z.2 ∧ z.2 ≤ 12) (hr : (1 ≤ r.1.2 ∧ r.1.2 ≤ 12) ∧ (1 ≤ r.2.1.2 ∧ r.2.1.2 ≤ 12) ∧ (1 ≤ r.2.2.2 ∧ r.2.2.2 ≤ 12)) :
    isOf [x, y, z] r = fitB (prt x.1 x.2) (prt y.1 y.2) (prt z.1 z.2) r := by
  unfold fitB ords
  show (decide ((0 : Int) ∈ stepS (stepS (stepS [0] (prsL x r.1)) (prsL y r.2.1)) (prsL z r.2.2)) || (decide ((0 : Int) ∈ stepS (stepS (stepS [0] (prsL x r.1)) (prsL z r.2.1)) (prsL y r.2.2)) ||
    (decide ((0 : Int) ∈ stepS (stepS (stepS [0] (prsL y r.1)) (prsL x r.2.1)) (prsL z r.2.2)) || (decide ((0 : Int) ∈ stepS (stepS (stepS [0] (prsL y r.1)) (prsL z r.2.1)) (prsL x r.2.2)) ||
    (decide ((0 : Int) ∈ stepS (stepS (stepS [0] (prsL z r.1)) (prsL x r.2.1)) (prsL y r.2.2)) || (decide ((0 : Int) ∈ stepS (stepS (stepS [0] (prsL z r.1)) (prsL y r.2.1)) (prsL x r.2.2)) || false)))))) = _
  rw [fit_one hx hy hz hr, fit_one hx hz hy hr, fit_one hy hx hz hr, fit_one hy hz hx hr, fit_one hz hx hy hr, fit_one hz hy hx hr]
  rfl
theorem find_eq {x y z : Fr} (hx : 1 ≤ x.2 ∧ x.2 ≤ 12) (hy : 1 ≤ y.2 ∧ y.2 ≤ 12) (hz : 1 ≤ z.2 ∧ z.2 ≤ 12) : ∀ L : List (Str × Rw), (∀ r ∈ L, r ∈ rowsT) → findL [x, y, z] L = findR (prt x.1 x.2) (prt y.1 y.2) (prt z.1 z.2) L
  | [], _ => rfl
  | r :: L, h => by
    unfold findL findR
    rw [isOf_fit hx hy hz (rows_12 r (h r List.mem_cons_self)), find_eq hx hy hz L fun s hs => h s (List.mem_cons_of_mem _ hs)]
end N3

namespace N3
open PySem PySem.Spec PyProof.Rows L2 N2
theorem oddAny3 (p q r : Int) : oddAny [p, q, r] = (oddC (p + q + r) || (oddC (q + r - p) || (oddC (p - q + r) || (oddC (p + q - r) || false)))) := by
  show (oddC (p + (q + (r + 0))) || (oddC (p + (q + (r + 0)) - 2 * p) || (oddC (p + (q + (r + 0)) - 2 * q) || (oddC (p + (q + (r + 0)) - 2 * r) || false)))) = _
  rw [show p + (q + (r + 0)) = p + q + r by omega, show p + q + r - 2 * p = q + r - p by omega, show p + q + r - 2 * q = p - q + r by omega, show p + q + r - 2 * r = p + q - r by omega]
theorem halves3 (p q r : Int) : halvesN [p, q, r] = (if oddC (2 * p) = true then 1 else 0) + ((if oddC (2 * q) = true then 1 else 0) + (if oddC (2 * r) = true then 1 else 0)) := by
  unfold halvesN
  rw [fil_count (L := [p, q, r]) (d := 0) (p := fun i => oddC (2 * i)), List.filter_cons, List.filter_cons, List.filter_cons, List.filter_nil]
  cases oddC (2 * p) <;> cases oddC (2 * q) <;> cases oddC (2 * r) <;> rfl
theorem word_eq {x y z : Fr} (hx : ParOk x) (hy : ParOk y) (hz : ParOk z) : wordL x y z = wordP (prt x.1 x.2) (prt y.1 y.2) (prt z.1 z.2) := by
  have bx := hx.2
  have by_ := hy.2
  have bz := hz.2
  have hn : ([x, y, z].filter fun f => decide (f.2 = 2)).length = halvesN [prt x.1 x.2, prt y.1 y.2, prt z.1 z.2] := by
    rw [halves3, near_two hx, near_two hy, near_two hz, List.filter_cons, List.filter_cons, List.filter_cons, List.filter_nil]
    cases decide (x.2 = 2) <;> cases decide (y.2 = 2) <;> cases decide (z.2 = 2) <;> rfl
  have hf := find_eq (x := x) (y := y) (z := z) ⟨bx.1, bx.2.1⟩ ⟨by_.1, by_.2.1⟩ ⟨bz.1, bz.2.1⟩ rowsT fun _ h => h
  have h1 := prt_mul (t := x.1) bx.1 bx.2.1
  have h2 := prt_mul (t := y.1) by_.1 by_.2.1
  have h3 := prt_mul (t := z.1) bz.1 bz.2.1
  unfold wordL wordP
  rw [hn, hf]
  have ha : ((sumsL x y z).any fun it => decide (par it (botL x y z) = 1)) = oddAny [prt x.1 x.2, prt y.1 y.2, prt z.1 z.2] := by
    obtain ⟨p, ep⟩ : ∃ p, prt x.1 x.2 = p := ⟨_, rfl⟩
    obtain ⟨q, eq⟩ : ∃ p, prt y.1 y.2 = p := ⟨_, rfl⟩
    obtain ⟨r, er⟩ : ∃ p, prt z.1 z.2 = p := ⟨_, rfl⟩
    rw [ep] at h1 ⊢
    rw [eq] at h2 ⊢
    rw [er] at h3 ⊢
    have B0 : 0 < botL x y z := Int.mul_pos (Int.mul_pos (by omega) (by omega)) (by omega)
    have d1 : botL x y z / x.2 = y.2 * z.2 := by
      show x.2 * y.2 * z.2 / x.2 = _
      rw [Int.mul_assoc, Int.mul_ediv_cancel_left _ (by omega)]
    have d2 : botL x y z / y.2 = x.2 * z.2 := by
      show x.2 * y.2 * z.2 / y.2 = _
      rw [show x.2 * y.2 * z.2 = y.2 * (x.2 * z.2) by ac_rfl, Int.mul_ediv_cancel_left _ (by omega)]
    have d3 : botL x y z / z.2 = x.2 * y.2 := by
      show x.2 * y.2 * z.2 / z.2 = _
      rw [show x.2 * y.2 * z.2 = z.2 * (x.2 * y.2) by ac_rfl, Int.mul_ediv_cancel_left _ (by omega)]
    unfold sumsL
    rw [d1, d2, d3]
    have P1 : p * botL x y z = x.1 * (y.2 * z.2) * 27720 := by
      show p * (x.2 * y.2 * z.2) = _
      rw [show p * (x.2 * y.2 * z.2) = p * x.2 * (y.2 * z.2) by ac_rfl, h1]; ac_rfl
    have P2 : q * botL x y z = y.1 * (x.2 * z.2) * 27720 := by
      show q * (x.2 * y.2 * z.2) = _
      rw [show q * (x.2 * y.2 * z.2) = q * y.2 * (x.2 * z.2) by ac_rfl, h2]; ac_rfl
    have P3 : r * botL x y z = z.1 * (x.2 * y.2) * 27720 := by
      show r * (x.2 * y.2 * z.2) = _
      rw [show r * (x.2 * y.2 * z.2) = r * z.2 * (x.2 * y.2) by ac_rfl, h3]; ac_rfl
    obtain ⟨l, el⟩ : ∃ l, x.1 * (y.2 * z.2) = l := ⟨_, rfl⟩
    obtain ⟨m, em⟩ : ∃ l, y.1 * (x.2 * z.2) = l := ⟨_, rfl⟩
    obtain ⟨n, en⟩ : ∃ l, z.1 * (x.2 * y.2) = l := ⟨_, rfl⟩
    rw [el] at P1 ⊢
    rw [em] at P2 ⊢
    rw [en] at P3 ⊢
    rw [oddAny3, ← par_odd (x := l + m + n) B0 (by rw [Int.add_mul, Int.add_mul, Int.add_mul, Int.add_mul, P1, P2, P3]), ← par_odd (x := m + n - l) B0 (by rw [Int.sub_mul, Int.add_mul, Int.sub_mul, Int.add_mul, P1, P2, P3]),
      ← par_odd (x := l - m + n) B0 (by rw [Int.add_mul, Int.sub_mul, Int.add_mul, Int.sub_mul, P1, P2, P3]), ← par_odd (x := l + m - n) B0 (by rw [Int.sub_mul, Int.add_mul, Int.sub_mul, Int.add_mul, P1, P2, P3])]
    rfl
  rw [ha]
/-! ### the verdict and the order, the signs -/
theorem oddC_neg (x : Int) : oddC (-x) = oddC x := by
  unfold oddC
  exact decide_eq_decide.mpr ⟨fun h => by omega, fun h => by omega⟩
theorem fitB_swap12 (p q r : Int) (row : Rw) : fitB p q r row = fitB q p r row := by
  show (fitO p q r row || (fitO p r q row || (fitO q p r row || (fitO q r p row || (fitO r p q row || (fitO r q p row || false)))))) = (fitO q p r row || (fitO q r p row || (fitO p q r row || (fitO p r q row || (fitO r q p row || (fitO r p q row || false))))))
  ac_rfl
theorem fitB_swap23 (p q r : Int) (row : Rw) : fitB p q r row = fitB p r q row := by
  show (fitO p q r row || (fitO p r q row || (fitO q p r row || (fitO q r p row || (fitO r p q row || (fitO r q p row || false)))))) = (fitO p r q row || (fitO p q r row || (fitO r p q row || (fitO r q p row || (fitO q p r row || (fitO q r p row || false))))))
  ac_rfl
theorem fitO_neg (x y z : Int) (row : Rw) : fitO (-x) y z row = fitO x y z row ∧ fitO x (-y) z row = fitO x y z row ∧ fitO x y (-z) row = fitO x y z row := by
  have e1 : ∀ t : Int, 1 * -t = -1 * t := fun t => by omega
  have e2 : ∀ t : Int, -1 * -t = 1 * t := fun t => by omega
  have un : ∀ a b c : Int, fitO a b c row = (apB (1 * a) (1 * b) (1 * c) row || (apB (1 * a) (1 * b) (-1 * c) row || (apB (1 * a) (-1 * b) (1 * c) row || (apB (1 * a) (-1 * b) (-1 * c) row || (apB (-1 * a) (1 * b) (1 * c) row || (apB (-1 * a) (1 * b) (-1 * c) row || (apB (-1 * a) (-1 * b) (1 * c) row || (apB (-1 * a) (-1 * b) (-1 * c) row || false)))))))) := fun _ _ _ => rfl
  refine ⟨?_, ?_, ?_⟩
  · rw [un, un, e1, e2]; ac_rfl
  · rw [un, un, e1, e2]; ac_rfl
  · rw [un, un, e1, e2]; ac_rfl
theorem fitB_neg (p q r : Int) (row : Rw) : fitB (-p) q r row = fitB p q r row := by
  show (fitO (-p) q r row || (fitO (-p) r q row || (fitO q (-p) r row || (fitO q r (-p) row || (fitO r (-p) q row || (fitO r q (-p) row || false)))))) = (fitO p q r row || (fitO p r q row || (fitO q p r row || (fitO q r p row || (fitO r p q row || (fitO r q p row || false))))))
  rw [(fitO_neg p q r row).1, (fitO_neg p r q row).1, (fitO_neg q p r row).2.1, (fitO_neg q r p row).2.2, (fitO_neg r p q row).2.1, (fitO_neg r q p row).2.2]
theorem findR_of {p q r p' q' r' : Int} (h : ∀ row, fitB p q r row = fitB p' q' r' row) : ∀ L, findR p q r L = findR p' q' r' L
  | [] => rfl
  | x :: L => by
    unfold findR
    rw [h, findR_of h L]
theorem word_of {p q r p' q' r' : Int} (h1 : oddAny [p, q, r] = oddAny [p', q', r']) (h2 : halvesN [p, q, r] = halvesN [p', q', r']) (h3 : ∀ row, fitB p q r row = fitB p' q' r' row) : wordP p q r = wordP p' q' r' := by
  unfold wordP
  rw [h1, h2, findR_of h3]
theorem word_swap12 (p q r : Int) : wordP p q r = wordP q p r := by
  refine word_of ?_ ?_ (fitB_swap12 p q r)
  · rw [oddAny3, oddAny3, show q + p + r = p + q + r by omega, show p + r - q = p - q + r by omega, show q - p + r = q + r - p by omega, show q + p - r = p + q - r by omega]
    ac_rfl
  · rw [halves3, halves3]; omega
theorem word_swap23 (p q r : Int) : wordP p q r = wordP p r q := by
  refine word_of ?_ ?_ (fitB_swap23 p q r)
  · rw [oddAny3, oddAny3, show p + r + q = p + q + r by omega, show r + q - p = q + r - p by omega, show p - r + q = p + q - r by omega, show p + r - q = p - q + r by omega]
    ac_rfl
  · rw [halves3, halves3]; omega
theorem word_neg (p q r : Int) : wordP (-p) q r = wordP p q r := by
  refine word_of ?_ ?_ (fitB_neg p q r)
  · rw [oddAny3, oddAny3, show -p + q + r = q + r - p by omega, show q + r - -p = p + q + r by omega, show -p - q + r = -(p + q - r) by omega, show -p + q - r = -(p - q + r) by omega, oddC_neg, oddC_neg]
    ac_rfl
  · rw [halves3, halves3, show 2 * -p = -(2 * p) by omega, oddC_neg]
theorem word_abs (p q r : Int) : wordP p q r = wordP (p.natAbs : Int) (q.natAbs : Int) (r.natAbs : Int) := by
  have one : ∀ a b c : Int, wordP a b c = wordP (a.natAbs : Int) b c := fun a b c => by
    rcases Int.natAbs_eq a with h | h
    · rw [← h]
    · rw [← word_neg (a.natAbs : Int), ← h]
  rw [one p q r, word_swap12, one q, word_swap12, word_swap23, word_swap12, one r, word_swap12, word_swap23]
def nf (x : Fr) : Nat × Int := (x.1.natAbs, x.2)
def pn (n : Nat × Int) : Int := (n.1 : Int) * (27720 / n.2)
theorem pn_nf {x : Fr} (h : 1 ≤ x.2) : ((prt x.1 x.2).natAbs : Int) = pn (nf x) := by
  unfold prt pn nf
  have := (parts_div (b := x.2) (by omega)).1
  rw [Int.natAbs_mul]
  show ((x.1.natAbs * (27720 / x.2).natAbs : Nat) : Int) = (x.1.natAbs : Int) * (27720 / x.2)
  rw [Int.natCast_mul, Int.natAbs_of_nonneg this]
theorem perm3 {α : Type} {a b c x y z : α} (h : [a, b, c].Perm [x, y, z]) : (a, b, c) = (x, y, z) ∨ (a, b, c) = (x, z, y) ∨ (a, b, c) = (y, x, z) ∨ (a, b, c) = (y, z, x) ∨ (a, b, c) = (z, x, y) ∨ (a, b, c) = (z, y, x) := by
  have two : ∀ {u v s t : α}, [u, v].Perm [s, t] → (u = s ∧ v = t) ∨ (u = t ∧ v = s) := fun {u v s t} h => by
    have m : u ∈ [s, t] := h.mem_iff.mp List.mem_cons_self
    simp only [List.mem_cons, List.not_mem_nil, or_false] at m
    rcases m with rfl | rfl
    · have := List.perm_singleton.mp (List.Perm.cons_inv h).symm
      injection this with e
      exact .inl ⟨rfl, e.symm⟩
    · have := List.perm_singleton.mp (List.Perm.cons_inv (h.trans (List.Perm.swap _ _ _))).symm
      injection this with e
      exact .inr ⟨rfl, e.symm⟩
  have m : a ∈ [x, y, z] := h.mem_iff.mp List.mem_cons_self
  simp only [List.mem_cons, List.not_mem_nil, or_false] at m
  rcases m with rfl | rfl | rfl
  · rcases two (List.Perm.cons_inv h) with ⟨rfl, rfl⟩ | ⟨rfl, rfl⟩ <;> simp
  · rcases two (List.Perm.cons_inv (h.trans (List.Perm.swap _ _ _))) with ⟨rfl, rfl⟩ | ⟨rfl, rfl⟩ <;> simp
  · have p3 : [x, y, a].Perm [a, x, y] := (List.Perm.cons x (List.Perm.swap a y [])).trans (List.Perm.swap a x [y])
    rcases two (List.Perm.cons_inv (h.trans p3)) with ⟨rfl, rfl⟩ | ⟨rfl, rfl⟩ <;> simp
theorem word_nf {x y z x' y' z' : Fr} (h : [nf x', nf y', nf z'].Perm [nf x, nf y, nf z]) (hx : 1 ≤ x.2) (hy : 1 ≤ y.2) (hz : 1 ≤ z.2) (hx' : 1 ≤ x'.2) (hy' : 1 ≤ y'.2) (hz' : 1 ≤ z'.2) :
    wordP (prt x'.1 x'.2) (prt y'.1 y'.2) (prt z'.1 z'.2) = wordP (prt x.1 x.2) (prt y.1 y.2) (prt z.1 z.2) := by
  rw [word_abs, word_abs (prt x.1 x.2), pn_nf hx, pn_nf hy, pn_nf hz, pn_nf hx', pn_nf hy', pn_nf hz']
  rcases perm3 h with e | e | e | e | e | e <;> (injection e with e1 e; injection e with e2 e3; rw [e1, e2, e3])
  · exact word_swap23 _ _ _
  · exact word_swap12 _ _ _
  · rw [word_swap23, word_swap12]
  · rw [word_swap12, word_swap23]
  · rw [word_swap12, word_swap23, word_swap12]
end N3

namespace N3
open PySem PySem.Spec PyProof.Rows L2 N2
/-! ### the law's drawn parameters -/
/-- a tracked pair -/
def PrT (H : Hp) (v : V) (x : Fr) : Prop := ∃ a, v = .ref a ∧ H a = some (.tup [.int x.1, .int x.2])
theorem PrT.tst {H H' : Hp} {v : V} {x : Fr} (t : Tst H H') (h : PrT H v x) : PrT H' v x := let ⟨a, e, p⟩ := h; ⟨a, e, t _ _ p⟩
theorem PrT.dn {H : Hp} {v : V} {x : Fr} (h : PrT H v x) : Dn H v (prD x.1 x.2) := by
  obtain ⟨a, rfl, e⟩ := h
  exact .tup e (.cons (.int _) (.cons (.int _) .nil))
theorem PrT.of {H : Hp} {v : V} {t b : Int} (h : Dn H v (prD t b)) : PrT H v (t, b) := dn_pr h
def spLAny : Sp := fun vs H Q _ => ∃ (dk l : Addr) (sz : Int), vs = [.ref dk, .int sz] ∧ Deck H dk l ∧ 1 ≤ sz ∧ sz ≤ 6 ∧
  ∀ (v : V) (x : Fr) (H' : Hp), PrT H' v x → lowT x.1 x.2 = true → 1 ≤ x.2 → x.2 ≤ 12 → (x.1.natAbs : Int) ≤ sz * x.2 → Deck H' dk l → Keep dk l H H' → Q v H'
def spTurned (K : PySem.W.Frag) : Sp := fun vs H Q _ => ∃ (dk l p : Addr) (v0 v1 v2 : V) (x0 x1 x2 : Fr), vs = [.ref dk, .ref p] ∧ Deck H dk l ∧ Sq K H p [v0, v1, v2] ∧ PrT H v0 x0 ∧ PrT H v1 x1 ∧ PrT H v2 x2 ∧
  ∀ (q : Addr) (u0 u1 u2 : V) (y0 y1 y2 : Fr) (H' : Hp), H q = none → H' q = some (.lst [u0, u1, u2]) → PrT H' u0 y0 → PrT H' u1 y1 → PrT H' u2 y2 → [nf y0, nf y1, nf y2].Perm [nf x0, nf x1, nf x2] → Deck H' dk l → Keep dk l H H' → Q (.ref q) H'
theorem low_bound {t b t' b' s : Int} (hb : 0 < b) (h : Low t b t' b') (hs : (t.natAbs : Int) ≤ s * b) : 1 ≤ b' ∧ (t'.natAbs : Int) ≤ s * b' := by
  obtain ⟨e, lo, _⟩ := h
  unfold lowT at lo
  rw [Bool.and_eq_true, decide_eq_true_iff] at lo
  refine ⟨lo.1, ?_⟩
  have b1 : 0 ≤ b' := by have := lo.1; omega
  have h1 : t' * b ≤ s * b' * b := by
    rw [e, show s * b' * b = s * b * b' by ac_rfl]
    exact Int.mul_le_mul_of_nonneg_right (by omega) b1
  have h2 : -t' * b ≤ s * b' * b := by
    rw [Int.neg_mul, e, ← Int.neg_mul, show s * b' * b = s * b * b' by ac_rfl]
    exact Int.mul_le_mul_of_nonneg_right (by omega) b1
  have g1 := Int.le_of_mul_le_mul_right h1 hb
  have g2 := Int.le_of_mul_le_mul_right h2 hb
  omega
/-- a pick out of a tuple just laid -/
theorem pick_tup {K : PySem.W.Frag} {dk l p : Addr} {H1 : Hp} {xs : List V} {Q : VK} {E : XK} (D : Deck H1 dk l) (hp : H1 p = none) (ne : xs ≠ []) (hl : xs.length < 1073741824)
    (k : ∀ (x : V) (H' : Hp), x ∈ xs → Deck H' dk l → Keep dk l (upd H1 p (.tup xs)) H' → Q x H') : spPick K [.ref dk, .ref p] (upd H1 p (.tup xs)) Q E :=
  ⟨dk, l, p, xs, rfl, D.same (snew hp), .inr (SqT.of upd_same), (fun z => D.some1.1 (z ▸ hp)), (fun z => D.some1.2 (z ▸ hp)), ne, hl, k⟩
section
variable {P : Program} {w : World} {K : PySem.W.Frag} {mg : Str → Option Value} {base : Heap}
abbrev s__law_any : Stmt := top 46
theorem sc__law_any : FnScope ["deck", "size", "bottom"] ["deck", "size"] (defScope s__law_any) := ⟨rfl, rfl, rfl, by decide +kernel, rfl, by decide +kernel, by decide +kernel⟩
theorem ok__law_any {f f__law_draw f__law_pick f__law_pole : Addr} {fd d__law_draw d__law_pick d__law_pole : FuncData}  (F : Fun K "_law_any" "_law_any" s__law_any f fd) (T : Bt mg) (l_draw : Kn P w K mg base 1 "_law_draw" ["deck", "below"] spDraw f__law_draw d__law_draw) (l_pick : Kn P w K mg base 2 "_law_pick" ["deck", "some"] (spPick K) f__law_pick d__law_pick) (l_pole : Kn P w K mg base 2 "_law_pole" ["top", "bottom"] spLPole f__law_pole d__law_pole) : FnOk P w K mg base CX0 3 f fd ["deck", "size"] spLAny := by
  refine F.ok sc__law_any (fun vs H Q E h => ?_) (fun cdv A outer s H vs Q E hr h => ?_)
  · obtain ⟨dk, l, sz, rfl, _⟩ := h
    rfl
  · obtain ⟨dk, l, sz, rfl, De, z1, z2, k⟩ := h
    refine ⟨_, pss_cons (ps_set (i := 2) sc__law_any.nd rfl (Or.inl rfl) (pe_call l_pick.ok (hr.mono (by decide)) rfl l_pick.mg l_pick.kp l_pick.bd .nil pass0 (pa_cons (pv 0) (pa_cons (pe_tup (pa_cons pe_int (pa_cons (pe_op op_add pe_int (pe_call l_draw.ok (hr.mono (by decide)) rfl l_draw.mg l_draw.kp l_draw.bd .nil pass0 (pa_cons (pv 0) (pa_cons pe_int pa_nil)))) (pa_cons pe_int (pa_cons (pe_op op_add pe_int (pe_call l_draw.ok (hr.mono (by decide)) rfl l_draw.mg l_draw.kp l_draw.bd .nil pass0 (pa_cons (pv 0) (pa_cons pe_int pa_nil)))) pa_nil))))) pa_nil))))
      (pss_one (ps_ret (pe_call l_pole.ok (hr.mono (by decide)) rfl l_pole.mg l_pole.kp l_pole.bd .nil pass0 (pa_cons (pe_op op_sub (pe_call l_draw.ok (hr.mono (by decide)) rfl l_draw.mg l_draw.kp l_draw.bd .nil pass0 (pa_cons (pv 0) (pa_cons (pe_op op_add (pe_op op_mul (pe_op op_mul pe_int (pv 1)) (pv 2)) pe_int) pa_nil))) (pe_op op_mul (pv 1) (pv 2))) (pa_cons (pv 2) pa_nil))))), ?_⟩
    refine ⟨_, rfl, _, rfl, dk, l, 12, rfl, De, by decide, by decide, fun r1 H1 a1 a2 D1 k1 => ⟨_, _, rfl, rfl, ?_⟩⟩
    refine ⟨_, rfl, dk, l, 12, rfl, D1, by decide, by decide, fun r2 H2 c1 c2 D2 k2 => ⟨_, _, rfl, rfl, by show 4 ≤ sizeLine; rw [sizeLine_eq]; decide, fun p hp => ?_⟩⟩
    refine pick_tup (E := E0) D2 hp (by simp) (by show 4 < _; decide) fun x H3 hx D3 k3 => ?_
    obtain ⟨b, rfl, b1, b2⟩ : ∃ b : Int, x = .int b ∧ 1 ≤ b ∧ b ≤ 12 := by
      simp only [List.mem_cons, List.not_mem_nil, or_false] at hx
      rcases hx with rfl | rfl | rfl | rfl
      · exact ⟨2, rfl, by decide, by decide⟩
      · exact ⟨_, rfl, by omega, by omega⟩
      · exact ⟨3, rfl, by decide, by decide⟩
      · exact ⟨_, rfl, by omega, by omega⟩
    have kp : Keep dk l H H3 := (k1.trans k2).trans ((Keep.of (snew hp)).trans k3)
    have sb0 : 0 < sz * b := Int.mul_pos (by omega) (by omega)
    have sb1 : sz * b ≤ 6 * 12 := Int.mul_le_mul z2 b2 (by omega) (by decide)
    have e2 : 2 * sz * b = 2 * (sz * b) := Int.mul_assoc _ _ _
    refine ⟨_, rfl, _, rfl, _, _, rfl, rfl, .inl ⟨by decide, by decide⟩, _, rfl, _, _, rfl, rfl, .inr ⟨by omega, by omega⟩, _, _, rfl, rfl, dk, l, _, rfl, D3, by omega, by omega, fun r H4 r0 r1' D4 k4 => ?_⟩
    refine ⟨_, rfl, _, rfl, _, _, rfl, rfl, .inr ⟨by omega, by omega⟩, _, _, rfl, rfl, _, rfl, _, b, rfl, by omega, ?_, fun q t' b' hq lo => ?_⟩
    · have : b.natAbs ≤ 12 := by omega
      exact Nat.lt_of_le_of_lt this (Nat.lt_of_lt_of_le (by decide : 12 < 2 ^ 4) (Nat.pow_le_pow_right (by decide) (by decide)))
    · obtain ⟨g1, g2⟩ := low_bound (s := sz) (by omega) lo (by omega)
      obtain ⟨_, g3, g4⟩ := lo
      exact k (.ref q) (t', b') _ ⟨q, rfl, upd_same⟩ g3 g1 (by show b' ≤ 12; omega) g2 (D4.same (snew hq)) ((kp.trans k4).trans (Keep.of (snew hq)))
abbrev s__law_turned : Stmt := top 47
theorem sc__law_turned : FnScope ["deck", "some", "top", "bottom"] ["deck", "some"] (defScope s__law_turned) := ⟨rfl, rfl, rfl, by decide +kernel, rfl, by decide +kernel, by decide +kernel⟩
theorem ok__law_turned {f f__law_pick f__law_few : Addr} {fd d__law_pick d__law_few : FuncData}  (F : Fun K "_law_turned" "_law_turned" s__law_turned f fd) (T : Bt mg) (l_pick : Kn P w K mg base 2 "_law_pick" ["deck", "some"] (spPick K) f__law_pick d__law_pick) (l_few : Kn P w K mg base 2 "_law_few" ["deck", "many", "menu"] (spFew K) f__law_few d__law_few) : FnOk P w K mg base CX0 3 f fd ["deck", "some"] (spTurned K) := by
  refine F.ok sc__law_turned (fun vs H Q E h => ?_) (fun cdv A outer s H vs Q E hr h => ?_)
  · obtain ⟨dk, l, p, v0, v1, v2, x0, x1, x2, rfl, _⟩ := h
    rfl
  · obtain ⟨dk, l, p, v0, v1, v2, x0, x1, x2, rfl, De, hS, p0, p1, p2, k⟩ := h
    refine ⟨_, pss_one (ps_ret (pe_lc (own := [("top", 2), ("bottom", 3)]) (g := (gTup K 2 (gCons (gName 2) (gCons (gName 3) gNil)))) (tt := tYes) rfl sc__law_turned.nd (pi_list (pe_call l_few.ok (hr.mono (by decide)) rfl l_few.mg l_few.kp l_few.bd .nil pass0 (pa_cons (pv 0) (pa_cons pe_int (pa_cons (pv 1) pa_nil))))) (blkOk_by (own := [("top", 2), ("bottom", 3)]) (N := ["deck", "some", "top", "bottom"]) (sc := defScope s__law_turned) (by decide +kernel)) (fun _ _ _ _ _ => pg_tup rfl (pgs_cons (pg_name (i := 2) sc__law_turned.nd rfl (Or.inl rfl)) (pgs_cons (pg_name (i := 3) sc__law_turned.nd rfl (Or.inl rfl)) pgs_nil))) (fun _ _ _ _ _ => pts_nil) (fun _ _ _ _ _ => (pe_tup (pa_cons (pe_op op_mul (pv 2) (pe_call l_pick.ok (hr.mono (by decide)) rfl l_pick.mg l_pick.kp l_pick.bd .nil pass0 (pa_cons (pv 0) (pa_cons (pk_tup (pka_cons pk_int (pka_cons pk_neg pka_nil))) pa_nil)))) (pa_cons (pv 3) pa_nil)))))), ?_⟩
    refine ⟨_, rfl, _, rfl, dk, l, p, 3, _, rfl, De, hS, by show 3 ≤ 3; decide, by show 3 ≤ 1000; decide, fun q ys zs H1 pm ly nq eq D1 k1 => ?_⟩
    have t1 : Tst H H1 := Tst.deck De k1
    obtain rfl : zs = [] := by
      have := pm.length_eq
      rw [List.length_append, ly] at this
      exact List.length_eq_zero_iff.mp (by simpa using this)
    rw [List.append_nil] at pm
    -- the pairs in their new order
    obtain ⟨xs, hxs, px⟩ : ∃ xs : List Fr, xs.length = 3 ∧ (∀ (j : Nat) (y : V), ys[j]? = some y → ∃ f, xs[j]? = some f ∧ PrT H1 y f) ∧ (xs.map nf).Perm [nf x0, nf x1, nf x2] := by
      match ys, ly, pm with
      | [a, b, c], _, pm =>
        have q0 := p0.tst t1
        have q1 := p1.tst t1
        have q2 := p2.tst t1
        have go : ∀ (f0 f1 f2 : Fr), PrT H1 a f0 → PrT H1 b f1 → PrT H1 c f2 → [nf f0, nf f1, nf f2].Perm [nf x0, nf x1, nf x2] → ∃ xs : List Fr, xs.length = 3 ∧ (∀ (j : Nat) (y : V), [a, b, c][j]? = some y → ∃ f, xs[j]? = some f ∧ PrT H1 y f) ∧ (xs.map nf).Perm [nf x0, nf x1, nf x2] := fun f0 f1 f2 g0 g1 g2 gp => by
          refine ⟨[f0, f1, f2], rfl, fun j y e => ?_, gp⟩
          match j, e with
          | 0, e => cases e; exact ⟨f0, rfl, g0⟩
          | 1, e => cases e; exact ⟨f1, rfl, g1⟩
          | 2, e => cases e; exact ⟨f2, rfl, g2⟩
        have sw := fun (a b c : Nat × Int) => List.Perm.swap a b [c]
        have cs := fun (a b c : Nat × Int) => List.Perm.cons a (List.Perm.swap b c [])
        rcases perm3 pm with e | e | e | e | e | e <;> (injection e with e1 e; injection e with e2 e3; subst e1 e2 e3)
        · exact go _ _ _ q0 q1 q2 (List.Perm.refl _)
        · exact go _ _ _ q0 q2 q1 (cs _ _ _)
        · exact go _ _ _ q1 q0 q2 (sw _ _ _)
        · exact go _ _ _ q1 q2 q0 ((cs _ _ _).trans (sw _ _ _))
        · exact go _ _ _ q2 q0 q1 ((sw _ _ _).trans (cs _ _ _))
        · exact go _ _ _ q2 q1 q0 (((sw _ _ _).trans (cs _ _ _)).trans (sw _ _ _))
    obtain ⟨px, pf⟩ := px
    have nq1 : q ≠ dk := fun z => De.some1.1 (z ▸ nq)
    have nq2 : q ≠ l := fun z => De.some1.2 (z ▸ nq)
    refine ⟨q, rfl, ⟨_, SqL.of eq⟩, fun D hD => lc_mapD (walk_list (K := K) (a := q) (xs := ys)) D1 (fun H' kk _ => SqL.of (kk _ _ eq nq1 nq2)) (fun j y H' => ∃ f g, xs[j]? = some f ∧ nf g = nf f ∧ PrT H' y g) (fun _ _ _ _ t ⟨f, g, a, b, c⟩ => ⟨f, g, a, b, c.tst t⟩) (by rw [ly]; decide) hD (fun j e Ha Hb Q' hj ka Da ⟨ey, hy⟩ kk => ?_) (fun us H2 e1 e2 e3 k2 D2 => ?_)⟩
    · subst ey
      obtain ⟨f, ef, pf'⟩ := px j e hy
      obtain ⟨a, rfl, ea⟩ := pf'.tst (Tst.deck D1 ka)
      refine ⟨a, _, rfl, SqT.of ea, rfl, _, _, rfl, _, _, rfl, rfl, rfl, ?_⟩
      refine ⟨_, rfl, _, rfl, fun v3 H3 s3 d3 => ?_⟩
      obtain ⟨a3, xs3, rfl, e3', g3⟩ := dn_tupd d3
      obtain rfl := dn_ii g3
      have na1 : a3 ≠ dk := fun z => by
        obtain ⟨_, _, _, h1, _, _⟩ := Da.same s3
        rw [← z, e3'] at h1; cases h1
      have na2 : a3 ≠ l := fun z => by
        obtain ⟨_, _, _, _, h1, _⟩ := Da.same s3
        rw [← z, e3'] at h1; cases h1
      refine ⟨dk, l, a3, _, rfl, Da.same s3, .inr (SqT.of e3'), na1, na2, by simp, by show 2 < _; decide, fun x H4 hx D4 k4 => ?_⟩
      obtain ⟨s, rfl, es⟩ : ∃ s : Int, x = .int s ∧ (s = 1 ∨ s = -1) := by
        simp only [List.mem_cons, List.not_mem_nil, or_false] at hx
        rcases hx with rfl | rfl
        · exact ⟨1, rfl, .inl rfl⟩
        · exact ⟨-1, rfl, .inr rfl⟩
      refine ⟨_, _, rfl, rfl, .inr ⟨by omega, by omega⟩, _, rfl, by show 2 ≤ sizeLine; rw [sizeLine_eq]; decide, fun p hp => ?_⟩
      refine kk _ _ ⟨f, (f.1 * s, f.2), ef, ?_, p, rfl, upd_same⟩ (((Keep.of s3).trans k4).trans (Keep.of (snew hp))) (D4.same (snew hp))
      show ((f.1 * s).natAbs, f.2) = (f.1.natAbs, f.2)
      rcases es with rfl | rfl
      · rw [Int.mul_one]
      · rw [show f.1 * -1 = -f.1 by omega, Int.natAbs_neg]
    · rw [ly] at e2
      match us, e2, xs, hxs with
      | [u0, u1, u2], _, [f0, f1, f2], _ =>
        obtain ⟨g0', g0, h0, n0, q0⟩ := e3 0 _ rfl
        obtain ⟨g1', g1, h1, n1, q1⟩ := e3 1 _ rfl
        obtain ⟨g2', g2, h2, n2, q2⟩ := e3 2 _ rfl
        cases h0
        cases h1
        cases h2
        refine k D u0 u1 u2 g0 g1 g2 H2 (((k1.there D1) _ hD)) e1 q0 q1 q2 ?_ D2 (k1.trans k2)
        rw [n0, n1, n2]
        exact pf
end
end N3

namespace N3
open PySem PySem.Spec PyProof.Rows L2 N2
/-! ### the law's drawn triples -/
def spTriple : Sp := fun vs H Q _ => ∃ (dk l : Addr), vs = [.ref dk] ∧ Deck H dk l ∧
  ∀ (q : Addr) (v0 v1 v2 : V) (x0 x1 x2 : Fr) (H' : Hp), H q = none → H' q = some (.lst [v0, v1, v2]) → PrT H' v0 x0 → PrT H' v1 x1 → PrT H' v2 x2 → ParOk x0 → ParOk x1 → ParOk x2 → Deck H' dk l → Keep dk l H H' → Q (.ref q) H'
/-- what stands in the rows, and what may stand in their place -/
def Base (x : Fr) : Prop := lowT x.1 x.2 = true ∧ 1 ≤ x.2 ∧ x.2 ≤ 12 ∧ 0 ≤ x.1 ∧ x.1 ≤ x.2
theorem rows_base : ∀ x ∈ rowsT, Base x.2.1 ∧ Base x.2.2.1 ∧ Base x.2.2.2 := by
  intro x hx
  simp only [rowsT, List.mem_cons, List.not_mem_nil, or_false] at hx
  unfold Base
  rcases hx with rfl | rfl | rfl | rfl | rfl | rfl | rfl | rfl | rfl | rfl | rfl | rfl | rfl | rfl <;> decide
theorem low_shift {t b k : Int} : lowT (t + b * k) b = lowT t b := by
  have e : Nat.gcd (t + b * k).natAbs b.natAbs = Nat.gcd t.natAbs b.natAbs := by
    rw [← Int.gcd_eq_natAbs_gcd_natAbs, ← Int.gcd_eq_natAbs_gcd_natAbs, Int.gcd_add_mul_left_left]
  unfold lowT
  exact congrArg (fun z => decide (1 ≤ b) && z) (decide_eq_decide.mpr (by rw [e]))
theorem base_shift {x : Fr} {k : Int} (h : Base x) (h1 : -5 ≤ k) (h2 : k ≤ 5) : ParOk (x.1 + x.2 * k, x.2) := by
  obtain ⟨lo, b1, b2, t1, t2⟩ := h
  refine ⟨by show lowT (x.1 + x.2 * k) x.2 = true; rw [low_shift]; exact lo, b1, b2, ?_⟩
  show ((x.1 + x.2 * k).natAbs : Int) ≤ 6 * x.2
  have g1 : x.2 * k ≤ x.2 * 5 := Int.mul_le_mul_of_nonneg_left h2 (by omega)
  have g2 : x.2 * -5 ≤ x.2 * k := Int.mul_le_mul_of_nonneg_left h1 (by omega)
  omega
theorem parOk_nf {x y : Fr} (h : ParOk x) (e : nf y = nf x) : ParOk y := by
  obtain ⟨lo, b1, b2, t⟩ := h
  have e' : (y.1.natAbs, y.2) = (x.1.natAbs, x.2) := e
  have e1 : y.1.natAbs = x.1.natAbs := (Prod.mk.inj e').1
  have e2 : y.2 = x.2 := (Prod.mk.inj e').2
  refine ⟨?_, by rw [e2]; exact b1, by rw [e2]; exact b2, by rw [e1, e2]; exact t⟩
  simp only [lowT, e1, e2] at lo ⊢
  exact lo
theorem parOk_perm {x0 x1 x2 y0 y1 y2 : Fr} (h : [nf y0, nf y1, nf y2].Perm [nf x0, nf x1, nf x2]) (h0 : ParOk x0) (h1 : ParOk x1) (h2 : ParOk x2) : ParOk y0 ∧ ParOk y1 ∧ ParOk y2 := by
  have g : ∀ y, nf y ∈ [nf y0, nf y1, nf y2] → ParOk y := fun y hy => by
    have m := h.mem_iff.mp hy
    simp only [List.mem_cons, List.not_mem_nil, or_false] at m
    rcases m with e | e | e
    · exact parOk_nf h0 e
    · exact parOk_nf h1 e
    · exact parOk_nf h2 e
  exact ⟨g y0 (by simp), g y1 (by simp), g y2 (by simp)⟩
theorem half_ok {t : Int} (h : t % 2 = 1) (h1 : -12 ≤ t) (h2 : t ≤ 12) : ParOk (t, 2) := by
  have e : Nat.gcd t.natAbs 2 = 1 := by
    rw [Nat.gcd_comm, Nat.gcd_rec, show t.natAbs % 2 = 1 by omega]
    rfl
  have lo : lowT t 2 = true := by
    unfold lowT
    rw [Bool.and_eq_true, decide_eq_true_iff, decide_eq_true_iff]
    exact ⟨by omega, e⟩
  exact ⟨lo, by show (1 : Int) ≤ 2; omega, by show (2 : Int) ≤ 12; omega, by show (t.natAbs : Int) ≤ 6 * 2; omega⟩
/-- a pick out of written pairs -/
theorem pick_dat {K : PySem.W.Frag} {dk l : Addr} {H1 H2 : Hp} {v : V} {ds : List PyData} {Q : VK} {E : XK} (D : Deck H1 dk l) (s : Same H1 H2) (dn : Dn H2 v (.tuple ds)) (ne : ds ≠ []) (hl : ds.length ≤ 1000)
    (k : ∀ (x : V) (d : PyData) (H' : Hp), d ∈ ds → Dn H' x d → Deck H' dk l → Keep dk l H1 H' → Q x H') (pl : ∀ (d : PyData) (x : V) (H H' : Hp), d ∈ ds → Tst H H' → Dn H x d → Dn H' x d) : spPick K [.ref dk, v] H2 Q E := by
  obtain ⟨a, xs, rfl, e, g⟩ := dn_tupd dn
  have D2 := D.same s
  have n1 : a ≠ dk := fun z => by
    obtain ⟨_, _, _, h1, _, _⟩ := D2
    rw [← z, e] at h1; cases h1
  have n2 : a ≠ l := fun z => by
    obtain ⟨_, _, _, _, h1, _⟩ := D2
    rw [← z, e] at h1; cases h1
  have lx := g.length
  refine ⟨dk, l, a, xs, rfl, D2, .inr (SqT.of e), n1, n2, fun z => ne (List.length_eq_zero_iff.mp (by rw [← lx, z]; rfl)), by omega, fun x H' hx D' k' => ?_⟩
  obtain ⟨j, hj, ej⟩ := List.mem_iff_getElem.mp hx
  obtain ⟨d, ed, dx⟩ := g.at_ (show xs[j]? = some x by rw [List.getElem?_eq_getElem hj, ej])
  have md := List.mem_of_getElem? ed
  exact k x d H' md (pl d x _ _ md (Tst.deck D2 k') dx) D' ((Keep.of s).trans k')
theorem pl_pair {d : PyData} {x : V} {H H' : Hp} (h : ∃ t b, d = prD t b) (t : Tst H H') (dn : Dn H x d) : Dn H' x d := by
  obtain ⟨p, q, rfl⟩ := h
  exact ((PrT.of dn).tst t).dn
theorem pl_int {d : PyData} {x : V} {H H' : Hp} (h : ∃ t, d = .int t) (_ : Tst H H') (dn : Dn H x d) : Dn H' x d := by
  obtain ⟨t, rfl⟩ := h
  cases dn
  exact .int t
section
variable {P : Program} {w : World} {K : PySem.W.Frag} {mg : Str → Option Value} {base : Heap}
abbrev s__law_triple : Stmt := top 48
abbrev nsTr : List Str := ["deck", "way", "some", "far", "top", "one", "other", "more", "bottom", "turn"]
theorem sc__law_triple : FnScope nsTr ["deck"] (defScope s__law_triple) := ⟨rfl, rfl, rfl, by decide +kernel, rfl, by decide +kernel, by decide +kernel⟩
theorem ok__law_triple {f f__law_draw f__law_pick f__law_table f__law_turned f__law_any f__law_pole : Addr} {fd d__law_draw d__law_pick d__law_table d__law_turned d__law_any d__law_pole : FuncData}  (F : Fun K "_law_triple" "_law_triple" s__law_triple f fd) (T : Bt mg) (l_draw : Kn P w K mg base 1 "_law_draw" ["deck", "below"] spDraw f__law_draw d__law_draw) (l_pick : Kn P w K mg base 2 "_law_pick" ["deck", "some"] (spPick K) f__law_pick d__law_pick) (l_table : Kn P w K mg base 1 "_law_table" ["at"] spTable f__law_table d__law_table) (l_turned : Kn P w K mg base 3 "_law_turned" ["deck", "some"] (spTurned K) f__law_turned d__law_turned) (l_any : Kn P w K mg base 3 "_law_any" ["deck", "size"] spLAny f__law_any d__law_any) (l_pole : Kn P w K mg base 2 "_law_pole" ["top", "bottom"] spLPole f__law_pole d__law_pole) : FnOk P w K mg base CX0 4 f fd ["deck"] spTriple := by
  refine F.ok sc__law_triple (fun vs H Q E h => ?_) (fun cdv A outer s H vs Q E hr h => ?_)
  · obtain ⟨dk, l, rfl, _⟩ := h
    rfl
  · obtain ⟨dk, l, rfl, De, k⟩ := h
    refine ⟨_, pss_cons (ps_set (i := 1) sc__law_triple.nd rfl (Or.inl rfl) (pe_call l_draw.ok (hr.mono (by decide)) rfl l_draw.mg l_draw.kp l_draw.bd .nil pass0 (pa_cons (pv 0) (pa_cons pe_int pa_nil))))
      (pss_cons (ps_if (pt_cmpR op_lt (pv 1) pe_int (nomark _))
        (pss_cons (ps_set (i := 2) sc__law_triple.nd rfl (Or.inl rfl) (pe_callTy call_list_of (by rfl) T.list (by decide +kernel) (pa_cons (pe_ix (r := rIx K) ix_seq (pe_call l_table.ok (hr.mono (by decide)) rfl l_table.mg l_table.kp l_table.bd .nil pass0 (pa_cons (pe_call l_draw.ok (hr.mono (by decide)) rfl l_draw.mg l_draw.kp l_draw.bd .nil pass0 (pa_cons (pv 0) (pa_cons pe_int pa_nil))) pa_nil)) pe_int (fun _ _ => rfl)) pa_nil)))
        (C8.pss_cut (ps_if (pt_cmpR op_eq (pv 1) pe_int (nomark _))
          (pss_one (ps_asg (pe_call l_pick.ok (hr.mono (by decide)) rfl l_pick.mg l_pick.kp l_pick.bd .nil pass0 (pa_cons (pv 0) (pa_cons (pk_tup (pka_cons (pk_tup (pka_cons pk_int (pka_cons pk_int pka_nil))) (pka_cons (pk_tup (pka_cons pk_int (pka_cons pk_int pka_nil))) (pka_cons (pk_tup (pka_cons pk_int (pka_cons pk_int pka_nil))) (pka_cons (pk_tup (pka_cons pk_int (pka_cons pk_int pka_nil))) (pka_cons (pk_tup (pka_cons pk_int (pka_cons pk_int pka_nil))) (pka_cons (pk_tup (pka_cons pk_int (pka_cons pk_int pka_nil))) (pka_cons (pk_tup (pka_cons pk_int (pka_cons pk_int pka_nil))) (pka_cons (pk_tup (pka_cons pk_int (pka_cons pk_int pka_nil))) pka_nil))))))))) pa_nil))) (pg_sub (pv 2) (pe_call l_draw.ok (hr.mono (by decide)) rfl l_draw.mg l_draw.kp l_draw.bd .nil pass0 (pa_cons (pv 0) (pa_cons pe_int pa_nil))) set_list)))
          pss_nil)
        (pss_cons (ps_set (i := 3) sc__law_triple.nd rfl (Or.inr rfl) (pe_call l_pick.ok (hr.mono (by decide)) rfl l_pick.mg l_pick.kp l_pick.bd .nil pass0 (pa_cons (pv 0) (pa_cons (pk_tup (pka_cons pk_int (pka_cons pk_int (pka_cons pk_int pka_nil)))) pa_nil))))
        (pss_cons (ps_setLc (i := 2) (own := [("top", 4), ("bottom", 8)]) (g := (gTup K 2 (gCons (gName 4) (gCons (gName 8) gNil)))) (tt := tYes) rfl sc__law_triple.nd rfl rfl (sw_true rfl rfl (by rfl) (by rfl)) (pi_list (pv 2)) (blkOk_by (own := [("top", 4), ("bottom", 8)]) (N := nsTr) (sc := defScope s__law_triple) (by decide +kernel)) (fun _ _ _ _ _ => pg_tup rfl (pgs_cons (pg_name (i := 4) sc__law_triple.nd rfl (Or.inl rfl)) (pgs_cons (pg_name (i := 8) sc__law_triple.nd rfl (Or.inl rfl)) pgs_nil))) (fun _ _ _ _ _ => pts_nil) (fun _ _ _ _ _ => (pe_tup (pa_cons (pe_op op_add (pv 4) (pe_op op_mul (pv 8) (pe_op op_sub (pe_call l_draw.ok (hr.mono (by decide)) rfl l_draw.mg l_draw.kp l_draw.bd .nil pass0 (pa_cons (pv 0) (pa_cons (pe_op op_add (pe_op op_mul pe_int (pv 3)) pe_int) pa_nil))) (pv 3)))) (pa_cons (pv 8) pa_nil)))))
        (pss_one (ps_ret (pe_call l_turned.ok (hr.mono (by decide)) rfl l_turned.mg l_turned.kp l_turned.bd .nil pass0 (pa_cons (pv 0) (pa_cons (pv 2) pa_nil)))))))))
        pss_nil)
      (pss_cons (ps_if (pt_cmpR op_eq (pv 1) pe_int (nomark _))
        (pss_cons (ps_setLc (i := 2) (own := [("turn", 9)]) (g := (gName 9)) (tt := tYes) rfl sc__law_triple.nd rfl rfl (sw_true rfl rfl (by rfl) (by rfl)) (pi_range1 rfl T.range (pa_cons pe_int pa_nil)) (blkOk_by (own := [("turn", 9)]) (N := nsTr) (sc := defScope s__law_triple) (by decide +kernel)) (fun _ _ _ _ _ => pg_name (i := 9) sc__law_triple.nd rfl (Or.inl rfl)) (fun _ _ _ _ _ => pts_nil) (fun _ _ _ _ _ => (pe_tup (pa_cons (pe_op op_sub (pe_op op_mul pe_int (pe_call l_draw.ok (hr.mono (by decide)) rfl l_draw.mg l_draw.kp l_draw.bd .nil pass0 (pa_cons (pv 0) (pa_cons pe_int pa_nil)))) pe_int) (pa_cons pe_int pa_nil)))))
        (pss_one (ps_ret (pe_call l_turned.ok (hr.mono (by decide)) rfl l_turned.mg l_turned.kp l_turned.bd .nil pass0 (pa_cons (pv 0) (pa_cons (pe_op op_cat (pv 2) (pe_lst (pa_cons (pe_call l_pick.ok (hr.mono (by decide)) rfl l_pick.mg l_pick.kp l_pick.bd .nil pass0 (pa_cons (pv 0) (pa_cons (pe_tup (pa_cons (pe_tup (pa_cons (pe_op op_add (pe_op op_mul pe_int (pe_call l_draw.ok (hr.mono (by decide)) rfl l_draw.mg l_draw.kp l_draw.bd .nil pass0 (pa_cons (pv 0) (pa_cons pe_int pa_nil)))) pe_int) (pa_cons pe_int pa_nil))) (pa_cons (pe_call l_any.ok (hr.mono (by decide)) rfl l_any.mg l_any.kp l_any.bd .nil pass0 (pa_cons (pv 0) (pa_cons pe_int pa_nil))) pa_nil))) pa_nil))) pa_nil))) pa_nil))))))
        pss_nil)
      (C8.pss_cut (ps_if (pt_cmpR op_lt (pv 1) pe_int (nomark _))
        (pss_cons (ps_par3 (i := 5) (j := 6) (l := 7) rfl sc__law_triple.nd rfl rfl rfl (by decide) (by decide) (by decide) rfl rfl rfl (pa_cons (pe_call l_any.ok (hr.mono (by decide)) rfl l_any.mg l_any.kp l_any.bd .nil pass0 (pa_cons (pv 0) (pa_cons pe_int pa_nil))) (pa_cons (pe_call l_any.ok (hr.mono (by decide)) rfl l_any.mg l_any.kp l_any.bd .nil pass0 (pa_cons (pv 0) (pa_cons pe_int pa_nil))) (pa_cons (pe_call l_draw.ok (hr.mono (by decide)) rfl l_draw.mg l_draw.kp l_draw.bd .nil pass0 (pa_cons (pv 0) (pa_cons pe_int pa_nil))) pa_nil))) (by rfl))
        (pss_one (ps_if (pt_cmpR op_lt (pe_op op_mul (pe_ix (r := rIx K) ix_seq (pv 5) pe_int (fun _ _ => rfl)) (pe_ix (r := rIx K) ix_seq (pv 6) pe_int (fun _ _ => rfl))) pe_int (nomark _))
          (pss_cons (ps_set (i := 4) sc__law_triple.nd rfl (Or.inl rfl) (pe_op op_sub (pe_op op_sub (pe_op op_mul (pe_op op_mul (pv 7) (pe_ix (r := rIx K) ix_seq (pv 5) pe_int (fun _ _ => rfl))) (pe_ix (r := rIx K) ix_seq (pv 6) pe_int (fun _ _ => rfl))) (pe_op op_mul (pe_ix (r := rIx K) ix_seq (pv 5) pe_int (fun _ _ => rfl)) (pe_ix (r := rIx K) ix_seq (pv 6) pe_int (fun _ _ => rfl)))) (pe_op op_mul (pe_ix (r := rIx K) ix_seq (pv 6) pe_int (fun _ _ => rfl)) (pe_ix (r := rIx K) ix_seq (pv 5) pe_int (fun _ _ => rfl)))))
          (pss_one (ps_ret (pe_call l_turned.ok (hr.mono (by decide)) rfl l_turned.mg l_turned.kp l_turned.bd .nil pass0 (pa_cons (pv 0) (pa_cons (pe_lst (pa_cons (pv 5) (pa_cons (pv 6) (pa_cons (pe_call l_pole.ok (hr.mono (by decide)) rfl l_pole.mg l_pole.kp l_pole.bd .nil pass0 (pa_cons (pv 4) (pa_cons (pe_op op_mul (pe_ix (r := rIx K) ix_seq (pv 5) pe_int (fun _ _ => rfl)) (pe_ix (r := rIx K) ix_seq (pv 6) pe_int (fun _ _ => rfl))) pa_nil))) pa_nil)))) pa_nil))))))
          pss_nil)))
        pss_nil)
      (pss_one (ps_ret (pe_lc (own := [("turn", 9)]) (g := (gName 9)) (tt := tYes) rfl sc__law_triple.nd (pi_range1 rfl T.range (pa_cons pe_int pa_nil)) (blkOk_by (own := [("turn", 9)]) (N := nsTr) (sc := defScope s__law_triple) (by decide +kernel)) (fun _ _ _ _ _ => pg_name (i := 9) sc__law_triple.nd rfl (Or.inl rfl)) (fun _ _ _ _ _ => pts_nil) (fun _ _ _ _ _ => (pe_call l_any.ok (hr.mono (by decide)) rfl l_any.mg l_any.kp l_any.bd .nil pass0 (pa_cons (pv 0) (pa_cons pe_int pa_nil)))))))))), ?_⟩
    -- what turned hands back is fine
    have back : ∀ {H1 : Hp} {p : Addr} {v0 v1 v2 : V} {x0 x1 x2 : Fr}, Deck H1 dk l → Keep dk l H H1 → There H H1 → Sq K H1 p [v0, v1, v2] → PrT H1 v0 x0 → PrT H1 v1 x1 → PrT H1 v2 x2 → ParOk x0 → ParOk x1 → ParOk x2 → spTurned K [.ref dk, .ref p] H1 Q E0 := fun {H1 p v0 v1 v2 x0 x1 x2} D1 k1 t1 hS p0 p1 p2 o0 o1 o2 =>
      ⟨dk, l, p, v0, v1, v2, x0, x1, x2, rfl, D1, hS, p0, p1, p2, fun q u0 u1 u2 y0 y1 y2 H' nq eq q0 q1 q2 pm D' k' => by
        obtain ⟨g0, g1, g2⟩ := parOk_perm pm o0 o1 o2
        exact k q u0 u1 u2 y0 y1 y2 H' (t1 _ nq) eq q0 q1 q2 g0 g1 g2 D' (k1.trans k')⟩
    refine ⟨_, rfl, dk, l, 8, rfl, De, by decide, by decide, fun way H1 w0 w1 D1 k1 => ?_⟩
    refine ⟨_, rfl, _, _, rfl, rfl, _, rfl, ite_b (fun c => ?_) (fun c => ?_)⟩
    · -- a row of the table
      refine ⟨_, rfl, dk, l, 14, rfl, D1, by decide, by decide, fun r H2 r0 r1 D2 k2 => ?_⟩
      obtain ⟨n, rfl⟩ : ∃ n : Nat, r = (n : Int) := ⟨r.toNat, by omega⟩
      refine ⟨n, rfl, by omega, fun p v row H3 er s3 ep dv => ?_⟩
      obtain ⟨a3, xs3, rfl, e3, g3⟩ := dn_tupd dv
      obtain ⟨bs0, bs1, bs2⟩ := rows_base row (List.mem_of_getElem? er)
      obtain ⟨u0, u1, u2, rfl, t0, t1, t2⟩ : ∃ u0 u1 u2, xs3 = [u0, u1, u2] ∧ PrT H3 u0 row.2.1 ∧ PrT H3 u1 row.2.2.1 ∧ PrT H3 u2 row.2.2.2 := by
        cases g3 with
        | cons g a => cases a with
          | cons g' a => cases a with
            | cons g'' a => cases a; exact ⟨_, _, _, rfl, PrT.of g, PrT.of g', PrT.of g''⟩
      refine .inr (.inl ⟨p, _, _, _, rfl, rfl, SqT.of ep, rfl, a3, _, rfl, .inr (SqT.of e3), fun a ha => ?_⟩)
      have sa := snew (o := .lst [u0, u1, u2]) ha
      have D3 := D2.same s3
      have na1 : a ≠ dk := fun z => D3.some1.1 (z ▸ ha)
      have na2 : a ≠ l := fun z => D3.some1.2 (z ▸ ha)
      have kA : Keep dk l H (upd H3 a (.lst [u0, u1, u2])) := (k1.trans k2).trans (Keep.of (s3.trans sa))
      refine ⟨fun σ' H' => ∃ (v0 v1 v2 : V) (x0 x1 x2 : Fr), σ' = [some (.ref dk), some (.int way), some (.ref a), none, none, none, none, none, none, none] ∧ H' a = some (.lst [v0, v1, v2]) ∧ PrT H' v0 x0 ∧ PrT H' v1 x1 ∧ PrT H' v2 x2 ∧ Base x0 ∧ Base x1 ∧ Base x2 ∧ Deck H' dk l ∧ Keep dk l H H', ?_, ?_⟩
      · refine ⟨_, rfl, rfl, _, rfl, ite_b (fun c' => ?_) (fun c' => ?_)⟩
        · refine ⟨_, rfl, fun v4 H4 s4 d4 => ?_⟩
          refine pick_dat (E := E0) (D3.same sa) s4 d4 (by simp) (by decide) (fun x d H5 md dx D5 k5 => ?_) (fun d x Hx Hy md t dn => pl_pair (by
            simp only [List.mem_cons, List.not_mem_nil, or_false] at md
            rcases md with rfl | rfl | rfl | rfl | rfl | rfl | rfl | rfl <;> exact ⟨_, _, rfl⟩) t dn)
          obtain ⟨f', rfl, bf⟩ : ∃ f' : Fr, d = prD f'.1 f'.2 ∧ Base f' := by
            simp only [List.mem_cons, List.not_mem_nil, or_false] at md
            rcases md with rfl | rfl | rfl | rfl | rfl | rfl | rfl | rfl
            · exact ⟨(1, 2), rfl, by unfold Base; decide⟩
            · exact ⟨(1, 3), rfl, by unfold Base; decide⟩
            · exact ⟨(1, 4), rfl, by unfold Base; decide⟩
            · exact ⟨(1, 5), rfl, by unfold Base; decide⟩
            · exact ⟨(2, 5), rfl, by unfold Base; decide⟩
            · exact ⟨(1, 6), rfl, by unfold Base; decide⟩
            · exact ⟨(3, 4), rfl, by unfold Base; decide⟩
            · exact ⟨(1, 7), rfl, by unfold Base; decide⟩
          have pf := PrT.of dx
          refine ⟨_, rfl, _, rfl, dk, l, 3, rfl, D5, by decide, by decide, fun r H6 q0 q1 D6 k6 => ?_⟩
          obtain ⟨j, rfl⟩ : ∃ j : Nat, r = (j : Int) := ⟨r.toNat, by omega⟩
          have ea : H6 a = some (.lst [u0, u1, u2]) := k6 _ _ (k5 _ _ upd_same na1 na2) na1 na2
          have tk : Tst H3 H6 := (Tst.of sa).trans ((Tst.deck (D3.same sa) k5).trans (Tst.deck D5 k6))
          have tp : ∀ ys : List V, Tst H6 (upd H6 a (.lst ys)) := fun ys => Tst.put ea
          have kB : ∀ ys : List V, Keep dk l H (upd H6 a (.lst ys)) := fun ys b o e h1 h2 => by
            rw [upd_ne (ne_of_none (((k1.trans k2).trans (Keep.of s3)) _ _ e h1 h2) ha)]
            exact (kA.trans (k5.trans k6)) _ _ e h1 h2
          have px := pf.tst (Tst.deck D5 k6)
          have jc : j = 0 ∨ j = 1 ∨ j = 2 := by omega
          rcases jc with rfl | rfl | rfl
          · exact ⟨a, _, _, 0, rfl, rfl, ea, rfl, x, u1, u2, f', _, _, rfl, upd_same, px.tst (tp _), t1.tst (tk.trans (tp _)), t2.tst (tk.trans (tp _)), bf, bs1, bs2, D6.put na1 na2, kB _⟩
          · exact ⟨a, _, _, 1, rfl, rfl, ea, rfl, u0, x, u2, _, f', _, rfl, upd_same, t0.tst (tk.trans (tp _)), px.tst (tp _), t2.tst (tk.trans (tp _)), bs0, bf, bs2, D6.put na1 na2, kB _⟩
          · exact ⟨a, _, _, 2, rfl, rfl, ea, rfl, u0, u1, x, _, _, f', rfl, upd_same, t0.tst (tk.trans (tp _)), t1.tst (tk.trans (tp _)), px.tst (tp _), bs0, bs1, bf, D6.put na1 na2, kB _⟩
        · exact ⟨u0, u1, u2, _, _, _, rfl, upd_same, t0.tst (Tst.of sa), t1.tst (Tst.of sa), t2.tst (Tst.of sa), bs0, bs1, bs2, D3.same sa, kA⟩
      · rintro σ' H7 ⟨v0, v1, v2, x0, x1, x2, rfl, e7, p0, p1, p2, b0, b1, b2, D7, k7⟩
        refine ⟨_, rfl, fun v8 H8 s8 d8 => ?_⟩
        refine pick_dat (E := E0) D7 s8 d8 (by simp) (by decide) (fun x d H9 md dx D9 k9 => ?_) (fun d x Hx Hy md t dn => pl_int (by
            simp only [List.mem_cons, List.not_mem_nil, or_false] at md
            rcases md with rfl | rfl | rfl <;> exact ⟨_, rfl⟩) t dn)
        obtain ⟨far, rfl, f0, f1⟩ : ∃ far : Int, x = .int far ∧ 2 ≤ far ∧ far ≤ 5 := by
          simp only [List.mem_cons, List.not_mem_nil, or_false] at md
          rcases md with rfl | rfl | rfl <;> (cases dx; exact ⟨_, rfl, by decide, by decide⟩)
        have k89 : Keep dk l H7 H9 := k9
        have e9 : H9 a = some (.lst [v0, v1, v2]) := k89 _ _ e7 na1 na2
        have t9 : Tst H7 H9 := Tst.deck D7 k89
        have at_ : ∀ (j : Nat) (y : V), [v0, v1, v2][j]? = some y → ∃ f, PrT H9 y f ∧ Base f := fun j y e => by
          match j, e with
          | 0, e => cases e; exact ⟨_, p0.tst t9, b0⟩
          | 1, e => cases e; exact ⟨_, p1.tst t9, b1⟩
          | 2, e => cases e; exact ⟨_, p2.tst t9, b2⟩
        refine ⟨_, rfl, a, rfl, ⟨_, SqL.of e9⟩, fun D hD => lc_mapD (walk_list (K := K) (a := a) (xs := [v0, v1, v2])) D9 (fun H' kk _ => SqL.of (kk _ _ e9 na1 na2)) (fun j y H' => ∃ g, PrT H' y g ∧ ParOk g) (fun _ _ _ _ t ⟨g, b, c⟩ => ⟨g, b.tst t, c⟩) (by show 3 ≤ _; decide) hD (fun j e Ha Hb Q' hj ka Da ⟨ey, hy⟩ kk => ?_) (fun us H2 e1 e2 e3 k2 D2 => ?_)⟩
        · subst ey
          obtain ⟨f, pf', bf⟩ := at_ j e hy
          obtain ⟨c, rfl, ec⟩ := pf'.tst (Tst.deck D9 ka)
          have bb1 := bf.2.1
          have bb2 := bf.2.2.1
          refine ⟨c, _, rfl, SqT.of ec, rfl, _, _, rfl, _, _, rfl, rfl, rfl, ?_⟩
          refine ⟨_, rfl, _, rfl, _, rfl, _, rfl, _, _, rfl, rfl, .inl ⟨by decide, by decide⟩, _, _, rfl, rfl, dk, l, _, rfl, Da, by omega, by omega, fun r Hc r0 r1 Dc kc => ⟨_, rfl, _, _, rfl, rfl, ?_⟩⟩
          refine ⟨_, _, rfl, rfl, .inl ⟨by omega, by omega⟩, _, _, rfl, rfl, _, rfl, by show 2 ≤ sizeLine; rw [sizeLine_eq]; decide, fun p hp => ?_⟩
          exact kk _ _ ⟨(f.1 + f.2 * (r - far), f.2), ⟨p, rfl, upd_same⟩, base_shift bf (by omega) (by omega)⟩ (kc.trans (Keep.of (snew hp))) (Dc.same (snew hp))
        · match us, e2 with
          | [w0, w1, w2], _ =>
            obtain ⟨g0, q0, o0⟩ := e3 0 _ rfl
            obtain ⟨g1, q1, o1⟩ := e3 1 _ rfl
            obtain ⟨g2, q2, o2⟩ := e3 2 _ rfl
            refine ⟨_, rfl, _, rfl, back D2 ((k7.trans k89).trans k2) ((k7.trans k89).trans k2 |>.there D2) (.inl (SqL.of e1)) q0 q1 q2 o0 o1 o2⟩
    · refine ⟨_, rfl, rfl, _, rfl, ite_b (fun c' => ?_) (fun c' => ?_)⟩
      · refine ⟨2, rfl, by decide, by decide, fun D hD => lc_mapD (walk_range (lo := 0) (n := 2)) D1 (fun _ _ _ => trivial) (fun j y H' => ∃ g, PrT H' y g ∧ ParOk g) (fun _ _ _ _ t ⟨g, b, c⟩ => ⟨g, b.tst t, c⟩) (by decide) hD (fun j e Ha Hb Q' hj ka Da ⟨eh, ex⟩ kk => ?_) (fun us H2 e1 e2 e3 k2 D2 => ?_)⟩
        · subst eh
          refine ⟨rfl, _, rfl, dk, l, 6, rfl, Da, by decide, by decide, fun r Hc r0 r1 Dc kc => ⟨_, _, rfl, rfl, .inl ⟨by decide, by decide⟩, _, _, rfl, rfl, by show 2 ≤ sizeLine; rw [sizeLine_eq]; decide, fun p hp => ?_⟩⟩
          exact kk _ _ ⟨(2 * r - 5, 2), ⟨p, rfl, upd_same⟩, half_ok (by omega) (by omega) (by omega)⟩ (kc.trans (Keep.of (snew hp))) (Dc.same (snew hp))
        · match us, e2 with
          | [w0, w1], _ =>
            obtain ⟨g0, q0, o0⟩ := e3 0 _ rfl
            obtain ⟨g1, q1, o1⟩ := e3 1 _ rfl
            have nd1 : D ≠ dk := fun z => D1.some1.1 (z ▸ hD)
            have nd2 : D ≠ l := fun z => D1.some1.2 (z ▸ hD)
            refine ⟨_, rfl, _, rfl, _, rfl, _, rfl, dk, l, 6, rfl, D2, by decide, by decide, fun r H3 r0 r1 D3 k3 => ⟨_, _, rfl, rfl, .inl ⟨by decide, by decide⟩, _, _, rfl, rfl, by show 2 ≤ sizeLine; rw [sizeLine_eq]; decide, fun p1 hp1 => ?_⟩⟩
            refine ⟨_, rfl, dk, l, 2, rfl, D3.same (snew hp1), by decide, by decide, fun v x H4 pv lo b1 b2 sz D4 k4 => ⟨by show 2 ≤ sizeLine; rw [sizeLine_eq]; decide, fun p2 hp2 => ?_⟩⟩
            refine pick_tup (E := E0) D4 hp2 (by simp) (by show 2 < _; decide) fun y H5 hy D5 k5 => ?_
            have t4 := Tst.deck (D3.same (snew hp1)) k4
            have t5 : Tst H4 H5 := (Tst.of (snew hp2)).trans (Tst.deck (D4.same (snew hp2)) k5)
            obtain ⟨g, q, o⟩ : ∃ g, PrT H5 y g ∧ ParOk g := by
              simp only [List.mem_cons, List.not_mem_nil, or_false] at hy
              rcases hy with rfl | rfl
              · exact ⟨(2 * r + 1, 2), PrT.tst (t4.trans t5) ⟨p1, rfl, upd_same⟩, half_ok (by omega) (by omega) (by omega)⟩
              · exact ⟨x, pv.tst t5, lo, b1, b2, by omega⟩
            have k25 : Keep dk l H2 H5 := k3.trans ((Keep.of (snew hp1)).trans (k4.trans ((Keep.of (snew hp2)).trans k5)))
            have t25 := Tst.deck D2 k25
            refine ⟨by show 1 ≤ sizeLine; rw [sizeLine_eq]; decide, fun p3 hp3 => ⟨D, p3, _, _, rfl, rfl, (snew hp3) _ _ (k25 _ _ e1 nd1 nd2), upd_same, by show 2 + 1 ≤ sizeLine; rw [sizeLine_eq]; decide, fun p4 hp4 => ?_⟩⟩
            have s34 := (snew (o := .lst [y]) hp3).trans (snew (o := .lst ([w0, w1] ++ [y])) hp4)
            have kE := ((k1.trans k2).trans k25).trans (Keep.of s34)
            exact back (D5.same s34) kE (kE.there (D5.same s34)) (.inl (SqL.of upd_same)) (q0.tst (t25.trans (Tst.of s34))) (q1.tst (t25.trans (Tst.of s34))) (q.tst (Tst.of s34)) o0 o1 o
      · refine ⟨fun σ' H' => ∃ y5 y6 y7 : Option V, ∃ y4 : Option V, σ' = [some (.ref dk), some (.int way), none, none, y4, y5, y6, y7, none, none] ∧ Deck H' dk l ∧ Keep dk l H H', ?_, ?_⟩
        · refine ⟨_, rfl, _, _, rfl, rfl, _, rfl, ite_b (fun c2 => ?_) (fun c2 => ?_)⟩
          · refine ⟨_, rfl, dk, l, 2, rfl, D1, by decide, by decide, fun v0 x0 H2 p0 l0 b0 c0 z0 D2 k2 => ⟨_, rfl, dk, l, 2, rfl, D2, by decide, by decide, fun v1 x1 H3 p1 l1 b1 c1 z1 D3 k3 => ⟨_, rfl, dk, l, 3, rfl, D3, by decide, by decide, fun more H4 m0 m1 D4 k4 => ⟨_, _, _, rfl, ?_⟩⟩⟩⟩
            have P0 := p0.tst ((Tst.deck D2 k3).trans (Tst.deck D3 k4))
            have P1 := p1.tst (Tst.deck D3 k4)
            have kF : Keep dk l H H4 := k1.trans (k2.trans (k3.trans k4))
            obtain ⟨a, ea, qa⟩ := id P0
            obtain ⟨b, eb, qb⟩ := id P1
            have qa := SqT.of (K := K) qa
            have qb := SqT.of (K := K) qb
            subst ea eb
            refine ⟨_, rfl, .inr (.inl ⟨a, _, _, _, rfl, rfl, qa, rfl, _, rfl, .inr (.inl ⟨b, _, _, _, rfl, rfl, qb, rfl, _, _, rfl, rfl, .inr ⟨by omega, by omega⟩, _, _, rfl, rfl, _, rfl, ite_b (fun c3 => ?_) (fun c3 => ?_)⟩)⟩)⟩
            · have c3' := of_decide_eq_true c3
              refine ⟨_, rfl, _, rfl, .inr (.inl ⟨a, _, _, _, rfl, rfl, qa, rfl, _, _, rfl, rfl, .inr ⟨by omega, by omega⟩, _, rfl, .inr (.inl ⟨b, _, _, _, rfl, rfl, qb, rfl, _, _, rfl, rfl, .inr ⟨by omega, by omega⟩, ?_⟩)⟩)⟩
              refine ⟨_, rfl, .inr (.inl ⟨a, _, _, _, rfl, rfl, qa, rfl, _, rfl, .inr (.inl ⟨b, _, _, _, rfl, rfl, qb, rfl, _, _, rfl, rfl, .inr ⟨by omega, by omega⟩, _, _, rfl, rfl, ?_⟩)⟩)⟩
              refine ⟨_, rfl, .inr (.inl ⟨b, _, _, _, rfl, rfl, qb, rfl, _, rfl, .inr (.inl ⟨a, _, _, _, rfl, rfl, qa, rfl, _, _, rfl, rfl, .inr ⟨by omega, by omega⟩, _, _, rfl, rfl, ?_⟩)⟩)⟩
              refine ⟨_, rfl, _, rfl, _, rfl, _, rfl, _, rfl, .inr (.inl ⟨a, _, _, _, rfl, rfl, qa, rfl, _, rfl, .inr (.inl ⟨b, _, _, _, rfl, rfl, qb, rfl, _, _, rfl, rfl, .inr ⟨by omega, by omega⟩, _, _, rfl, ?_⟩)⟩)⟩
              have bb : 0 < x0.2 * x1.2 := Int.mul_pos (by omega) (by omega)
              refine ⟨bb, ?_, fun p t' b' hp lo => ⟨by show 3 ≤ sizeLine; rw [sizeLine_eq]; decide, fun p2 hp2 => ?_⟩⟩
              · have : (x0.2 * x1.2).natAbs ≤ 12 := by omega
                exact Nat.lt_of_le_of_lt this (Nat.lt_of_lt_of_le (by decide : 12 < 2 ^ 4) (Nat.pow_le_pow_right (by decide) (by decide)))
              · have u1 : x0.1 * x1.2 ≤ 2 * x0.2 * x1.2 := Int.mul_le_mul_of_nonneg_right (by omega) (by omega)
                have u2 : -(2 * x0.2) * x1.2 ≤ x0.1 * x1.2 := Int.mul_le_mul_of_nonneg_right (by omega) (by omega)
                have u3 : x1.1 * x0.2 ≤ 2 * x1.2 * x0.2 := Int.mul_le_mul_of_nonneg_right (by omega) (by omega)
                have u4 : -(2 * x1.2) * x0.2 ≤ x1.1 * x0.2 := Int.mul_le_mul_of_nonneg_right (by omega) (by omega)
                have u5 : 0 ≤ more * (x0.2 * x1.2) := Int.mul_nonneg (by omega) (by omega)
                have u6 : more * (x0.2 * x1.2) ≤ 2 * (x0.2 * x1.2) := Int.mul_le_mul_of_nonneg_right (by omega) (by omega)
                have w1 : 2 * x0.2 * x1.2 = 2 * (x0.2 * x1.2) := Int.mul_assoc _ _ _
                have w2 : -(2 * x0.2) * x1.2 = -(2 * (x0.2 * x1.2)) := by rw [Int.neg_mul, w1]
                have w3 : 2 * x1.2 * x0.2 = 2 * (x0.2 * x1.2) := by rw [Int.mul_assoc, Int.mul_comm x1.2]
                have w4 : -(2 * x1.2) * x0.2 = -(2 * (x0.2 * x1.2)) := by rw [Int.neg_mul, w3]
                have w5 : more * x0.2 * x1.2 = more * (x0.2 * x1.2) := Int.mul_assoc _ _ _
                obtain ⟨g1, g2⟩ := low_bound (s := 6) bb lo (by omega)
                obtain ⟨_, g3, g4⟩ := lo
                have s2 := (snew (o := .tup [.int t', .int b']) hp).trans (snew (o := .lst [.ref a, .ref b, .ref p]) hp2)
                have kG := kF.trans (Keep.of s2)
                exact back (D4.same s2) kG (kG.there (D4.same s2)) (.inl (SqL.of upd_same)) (P0.tst (Tst.of s2)) (P1.tst (Tst.of s2)) ⟨p, rfl, (snew hp2) _ _ upd_same⟩ ⟨l0, b0, c0, by omega⟩ ⟨l1, b1, c1, by omega⟩ (show ParOk (t', b') from ⟨g3, g1, by show b' ≤ 12; omega, g2⟩)
            · exact ⟨_, _, _, _, rfl, D4, kF⟩
          · exact ⟨_, _, _, _, rfl, D1, k1⟩
        · rintro σ' H7 ⟨y5, y6, y7, y4, rfl, D7, k7⟩
          refine ⟨3, rfl, by decide, by decide, fun D hD => lc_mapD (walk_range (lo := 0) (n := 3)) D7 (fun _ _ _ => trivial) (fun j y H' => ∃ g, PrT H' y g ∧ ParOk g) (fun _ _ _ _ t ⟨g, b, c⟩ => ⟨g, b.tst t, c⟩) (by decide) hD (fun j e Ha Hb Q' hj ka Da ⟨eh, ex⟩ kk => ?_) (fun us H2 e1 e2 e3 k2 D2 => ?_)⟩
          · subst eh
            exact ⟨rfl, _, rfl, dk, l, 3, rfl, Da, by decide, by decide, fun v x H4 pv lo b1 b2 sz D4 k4 => kk _ _ ⟨x, pv, lo, b1, b2, by omega⟩ k4 D4⟩
          · match us, e2 with
            | [w0, w1, w2], _ =>
              obtain ⟨g0, q0, o0⟩ := e3 0 _ rfl
              obtain ⟨g1, q1, o1⟩ := e3 1 _ rfl
              obtain ⟨g2, q2, o2⟩ := e3 2 _ rfl
              exact k D w0 w1 w2 g0 g1 g2 H2 ((k7.there D7) _ hD) e1 q0 q1 q2 o0 o1 o2 D2 (k7.trans k2)
end
end N3

namespace N3
open PySem PySem.Spec PyProof.Rows L2 N2
/-! ### the law's drawn pairs -/
def spPairOf : Sp := fun vs H Q _ => ∃ (dk l : Addr), vs = [.ref dk] ∧ Deck H dk l ∧
  ∀ (q : Addr) (v0 v1 : V) (x0 x1 : Fr) (H' : Hp), H' q = some (.tup [v0, v1]) → PrT H' v0 x0 → PrT H' v1 x1 → ParOk x0 → ParOk x1 → Deck H' dk l → Keep dk l H H' → Q (.ref q) H'
section
variable {P : Program} {w : World} {K : PySem.W.Frag} {mg : Str → Option Value} {base : Heap}
abbrev s__law_pair_of : Stmt := top 49
abbrev nsPo : List Str := ["deck", "one", "gap", "bottom", "top", "other"]
theorem sc__law_pair_of : FnScope nsPo ["deck"] (defScope s__law_pair_of) := ⟨rfl, rfl, rfl, by decide +kernel, rfl, by decide +kernel, by decide +kernel⟩
theorem ok__law_pair_of {f f__law_draw f__law_pick f__law_any f__law_pole : Addr} {fd d__law_draw d__law_pick d__law_any d__law_pole : FuncData}  (F : Fun K "_law_pair_of" "_law_pair_of" s__law_pair_of f fd) (T : Bt mg) (l_draw : Kn P w K mg base 1 "_law_draw" ["deck", "below"] spDraw f__law_draw d__law_draw) (l_pick : Kn P w K mg base 2 "_law_pick" ["deck", "some"] (spPick K) f__law_pick d__law_pick) (l_any : Kn P w K mg base 3 "_law_any" ["deck", "size"] spLAny f__law_any d__law_any) (l_pole : Kn P w K mg base 2 "_law_pole" ["top", "bottom"] spLPole f__law_pole d__law_pole) : FnOk P w K mg base CX0 4 f fd ["deck"] spPairOf := by
  refine F.ok sc__law_pair_of (fun vs H Q E h => ?_) (fun cdv A outer s H vs Q E hr h => ?_)
  · obtain ⟨dk, l, rfl, _⟩ := h
    rfl
  · obtain ⟨dk, l, rfl, De, k⟩ := h
    refine ⟨_, pss_cons (ps_par (i := 1) (j := 2) rfl sc__law_pair_of.nd rfl rfl (by decide) rfl rfl (pa_cons (pe_call l_any.ok (hr.mono (by decide)) rfl l_any.mg l_any.kp l_any.bd .nil pass0 (pa_cons (pv 0) (pa_cons pe_int pa_nil))) (pa_cons (pe_tup (pa_cons (pe_op op_sub (pe_op op_mul pe_int (pe_call l_draw.ok (hr.mono (by decide)) rfl l_draw.mg l_draw.kp l_draw.bd .nil pass0 (pa_cons (pv 0) (pa_cons pe_int pa_nil)))) pe_int) (pa_cons pe_int pa_nil))) pa_nil)) (by rfl))
      (pss_cons (ps_if (pt_cmpR op_eq (pe_call l_draw.ok (hr.mono (by decide)) rfl l_draw.mg l_draw.kp l_draw.bd .nil pass0 (pa_cons (pv 0) (pa_cons pe_int pa_nil))) pe_int (nomark _))
        (pss_one (ps_ret (pe_tup (pa_cons (pv 1) (pa_cons (pe_call l_any.ok (hr.mono (by decide)) rfl l_any.mg l_any.kp l_any.bd .nil pass0 (pa_cons (pv 0) (pa_cons pe_int pa_nil))) pa_nil)))))
        pss_nil)
      (C8.pss_cut (ps_set (i := 3) sc__law_pair_of.nd rfl (Or.inl rfl) (pe_ifExp (pt_cmpR op_eq (pe_op op_mul (pe_op op_fdiv pe_int (pe_ix (r := rIx K) ix_seq (pv 1) pe_int (fun _ _ => rfl))) (pe_ix (r := rIx K) ix_seq (pv 1) pe_int (fun _ _ => rfl))) pe_int (nomark _)) pe_int (pe_op op_mul pe_int (pe_ix (r := rIx K) ix_seq (pv 1) pe_int (fun _ _ => rfl)))))
      (C8.pss_cut (ps_set (i := 4) sc__law_pair_of.nd rfl (Or.inl rfl) (pe_ifExp (pt_cmpR op_eq (pv 3) pe_int (nomark _)) (pe_op op_sub (pe_op op_mul pe_int (pe_ix (r := rIx K) ix_seq (pv 2) pe_int (fun _ _ => rfl))) (pe_op op_mul (pe_op op_fdiv pe_int (pe_ix (r := rIx K) ix_seq (pv 1) pe_int (fun _ _ => rfl))) (pe_ix (r := rIx K) ix_seq (pv 1) pe_int (fun _ _ => rfl)))) (pe_op op_sub (pe_op op_mul (pe_ix (r := rIx K) ix_seq (pv 1) pe_int (fun _ _ => rfl)) (pe_ix (r := rIx K) ix_seq (pv 2) pe_int (fun _ _ => rfl))) (pe_op op_mul pe_int (pe_ix (r := rIx K) ix_seq (pv 1) pe_int (fun _ _ => rfl))))))
      (pss_cons (ps_set (i := 5) sc__law_pair_of.nd rfl (Or.inl rfl) (pe_call l_pole.ok (hr.mono (by decide)) rfl l_pole.mg l_pole.kp l_pole.bd .nil pass0 (pa_cons (pe_op op_mul (pe_call l_pick.ok (hr.mono (by decide)) rfl l_pick.mg l_pick.kp l_pick.bd .nil pass0 (pa_cons (pv 0) (pa_cons (pk_tup (pka_cons pk_int (pka_cons pk_neg pka_nil))) pa_nil))) (pe_op op_add (pv 4) (pe_callTy call_int1 (by rfl) T.int (by decide +kernel) (pa_cons (pe_cmpR op_eq (pe_call l_draw.ok (hr.mono (by decide)) rfl l_draw.mg l_draw.kp l_draw.bd .nil pass0 (pa_cons (pv 0) (pa_cons pe_int pa_nil))) pe_int (nomark _)) pa_nil)))) (pa_cons (pv 3) pa_nil))))
      (pss_one (ps_ret (pe_tup (pa_cons (pv 1) (pa_cons (pe_ifExp (pt_cmpR op_lt (pe_ix (r := rIx K) ix_seq (pv 5) pe_int (fun _ _ => rfl)) pe_int (nomark _)) (pv 5) (pv 2)) pa_nil))))))))), ?_⟩
    have sl2 : 2 ≤ sizeLine := by rw [sizeLine_eq]; decide
    refine ⟨_, rfl, dk, l, 2, rfl, De, by decide, by decide, fun v0 x0 H1 p0 l0 b0 c0 z0 D1 k1 => ⟨_, rfl, dk, l, 7, rfl, D1, by decide, by decide, fun d H2 d0 d1 D2 k2 => ⟨_, _, rfl, rfl, .inl ⟨by decide, by decide⟩, _, _, rfl, rfl, sl2, fun p hp => ⟨_, _, rfl, ?_⟩⟩⟩⟩
    have s2 := snew (o := .tup [.int (2 * d - 7), .int 2]) hp
    have Dp := D2.same s2
    have kp := (k1.trans k2).trans (Keep.of s2)
    refine ⟨_, rfl, dk, l, 2, rfl, Dp, by decide, by decide, fun r H3 r0 r1 D3 k3 => ⟨rfl, _, rfl, ite_b (fun c => ?_) (fun c => ?_)⟩⟩
    · have P0 := p0.tst ((Tst.deck D1 k2).trans ((Tst.of s2).trans (Tst.deck Dp k3)))
      refine ⟨_, rfl, _, rfl, dk, l, 3, rfl, D3, by decide, by decide, fun v x H4 pv lo b1 b2 sz D4 k4 => ⟨sl2, fun q hq => ?_⟩⟩
      have s5 := snew (o := .tup [v0, v]) hq
      exact k q v0 v x0 x _ upd_same (P0.tst ((Tst.deck D3 k4).trans (Tst.of s5))) (pv.tst (Tst.of s5)) ⟨l0, b0, c0, by omega⟩ ⟨lo, b1, b2, by omega⟩ (D4.same s5) ((kp.trans (k3.trans k4)).trans (Keep.of s5))
    · have P0 := p0.tst ((Tst.deck D1 k2).trans ((Tst.of s2).trans (Tst.deck Dp k3)))
      have Pg : PrT H3 (.ref p) (2 * d - 7, 2) := PrT.tst (Tst.deck Dp k3) ⟨p, rfl, upd_same⟩
      obtain ⟨a, ea, qa⟩ := id P0
      subst ea
      obtain ⟨_, ep, qp⟩ := id Pg
      cases ep
      have qa := SqT.of (K := K) qa
      have qp := SqT.of (K := K) qp
      have dv := Int.ediv_mul_le 12 (show x0.2 ≠ 0 by omega)
      have dv0 : 0 ≤ 12 / x0.2 := Int.ediv_nonneg (by decide) (by omega)
      have dv1 : 12 / x0.2 ≤ 12 := Int.ediv_le_self _ (by decide)
      refine ⟨fun σ' H' => ∃ bt : Int, σ' = [some (.ref dk), some (.ref a), some (.ref p), some (.int bt), none, none] ∧ H3 = H' ∧ (bt = 12 ∨ bt = 2 * x0.2), ?_, ?_⟩
      · refine ⟨_, rfl, .inr (.inl ⟨a, _, _, _, rfl, rfl, qa, rfl, _, _, rfl, rfl, ⟨by omega, by omega⟩, _, rfl, .inr (.inl ⟨a, _, _, _, rfl, rfl, qa, rfl, _, _, rfl, rfl, .inr ⟨by omega, by omega⟩, rfl, _, rfl, ite_b (fun c' => ?_) (fun c' => ?_)⟩)⟩)⟩
        · exact ⟨12, rfl, rfl, .inl rfl⟩
        · exact ⟨_, rfl, .inr (.inl ⟨a, _, _, _, rfl, rfl, qa, rfl, _, _, rfl, rfl, .inl ⟨by decide, by decide⟩, _, rfl, rfl, .inr rfl⟩)⟩
      · rintro σ' H' ⟨bt, rfl, rfl, hb⟩
        refine ⟨fun σ' H' => ∃ tp : Int, σ' = [some (.ref dk), some (.ref a), some (.ref p), some (.int bt), some (.int tp), none] ∧ H3 = H' ∧ (tp.natAbs : Int) + 1 ≤ 6 * bt, ?_, ?_⟩
        · have m1 : 12 / x0.2 * x0.1 ≤ 12 / x0.2 * (2 * x0.2) := Int.mul_le_mul_of_nonneg_left (by omega) dv0
          have m2 : 12 / x0.2 * (-2 * x0.2) ≤ 12 / x0.2 * x0.1 := Int.mul_le_mul_of_nonneg_left (by omega) dv0
          have m3 : 12 / x0.2 * (2 * x0.2) = 2 * (12 / x0.2 * x0.2) := by ac_rfl
          have m4 : 12 / x0.2 * (-2 * x0.2) = -2 * (12 / x0.2 * x0.2) := by ac_rfl
          have n1 : x0.2 * (2 * d - 7) ≤ x0.2 * 5 := Int.mul_le_mul_of_nonneg_left (by omega) (by omega)
          have n2 : x0.2 * -7 ≤ x0.2 * (2 * d - 7) := Int.mul_le_mul_of_nonneg_left (by omega) (by omega)
          have n3 : x0.2 * ((2 * d - 7, 2) : Fr).1 = x0.2 * (2 * d - 7) := rfl
          have n4 : ((2 * d - 7, 2) : Fr).1 = 2 * d - 7 := rfl
          refine ⟨_, rfl, rfl, _, rfl, ite_b (fun c' => ?_) (fun c' => ?_)⟩
          · have cb : bt = 12 := V.int.inj (of_decide_eq_true c')
            refine ⟨_, rfl, .inr (.inl ⟨p, _, _, _, rfl, rfl, qp, rfl, _, _, rfl, rfl, .inl ⟨by decide, by decide⟩, _, rfl, .inr (.inl ⟨a, _, _, _, rfl, rfl, qa, rfl, _, _, rfl, rfl, ⟨by omega, by omega⟩, _, rfl, .inr (.inl ⟨a, _, _, _, rfl, rfl, qa, rfl, _, _, rfl, rfl, .inl ⟨by omega, by omega⟩, _, _, rfl, rfl, ?_⟩)⟩)⟩)⟩
            exact ⟨_, rfl, rfl, by omega⟩
          · have cb : bt = 2 * x0.2 := by
              rcases hb with hb | hb
              · exact absurd (congrArg V.int hb) (of_decide_eq_false c')
              · exact hb
            refine ⟨_, rfl, .inr (.inl ⟨a, _, _, _, rfl, rfl, qa, rfl, _, rfl, .inr (.inl ⟨p, _, _, _, rfl, rfl, qp, rfl, _, _, rfl, rfl, .inl ⟨by omega, by omega⟩, _, rfl, .inr (.inl ⟨a, _, _, _, rfl, rfl, qa, rfl, _, _, rfl, rfl, .inl ⟨by decide, by decide⟩, _, _, rfl, rfl, ?_⟩)⟩)⟩)⟩
            exact ⟨_, rfl, rfl, by omega⟩
        · rintro σ' H' ⟨tp, rfl, rfl, ht⟩
          refine ⟨_, rfl, fun v4 H4 s4 d4 => ?_⟩
          refine pick_dat (E := E0) D3 s4 d4 (by simp) (by decide) (fun x dd H5 md dx D5 k5 => ?_) (fun d x Hx Hy md t dn => pl_int (by
            simp only [List.mem_cons, List.not_mem_nil, or_false] at md
            rcases md with rfl | rfl <;> exact ⟨_, rfl⟩) t dn)
          obtain ⟨s, rfl, es⟩ : ∃ s : Int, x = .int s ∧ (s = 1 ∨ s = -1) := by
            simp only [List.mem_cons, List.not_mem_nil, or_false] at md
            rcases md with rfl | rfl <;> cases dx
            · exact ⟨1, rfl, .inl rfl⟩
            · exact ⟨-1, rfl, .inr rfl⟩
          refine ⟨_, rfl, _, rfl, dk, l, 4, rfl, D5, by decide, by decide, fun r' H6 e0 e1 D6 k6 => ⟨rfl, .inr ⟨_, rfl, ?_⟩⟩⟩
          obtain ⟨e, ee, e01⟩ : ∃ e : Int, (if decide (V.int r' = V.int 0) = true then (1 : Int) else 0) = e ∧ (e = 0 ∨ e = 1) := by
            refine ⟨_, rfl, ?_⟩
            split
            · exact .inr rfl
            · exact .inl rfl
          rw [ee]
          have b24 : 0 < bt ∧ bt ≤ 24 := by omega
          refine ⟨_, _, rfl, rfl, _, _, rfl, rfl, .inl ⟨by omega, by omega⟩, _, rfl, _, bt, rfl, b24.1, ?_, fun q t' b' hq lo => ?_⟩
          · have : bt.natAbs ≤ 24 := by omega
            exact Nat.lt_of_le_of_lt this (Nat.lt_of_lt_of_le (by decide : 24 < 2 ^ 5) (Nat.pow_le_pow_right (by decide) (by decide)))
          · have sb : ((s * (tp + e)).natAbs : Int) ≤ 6 * bt := by
              rcases es with rfl | rfl
              · rw [Int.one_mul]; omega
              · rw [Int.neg_mul, Int.one_mul]; omega
            obtain ⟨g1, g2⟩ := low_bound (s := 6) b24.1 lo sb
            obtain ⟨_, g3, g4⟩ := lo
            have s7 := snew (o := .tup [.int t', .int b']) hq
            have t7 : Tst H3 (upd H6 q (.tup [.int t', .int b'])) := (Tst.deck D3 k5).trans ((Tst.deck D5 k6).trans (Tst.of s7))
            have kF := (kp.trans (k3.trans (k5.trans k6))).trans (Keep.of s7)
            refine ⟨_, rfl, _, rfl, .inr (.inl ⟨q, _, _, _, rfl, rfl, SqT.of upd_same, rfl, _, _, rfl, rfl, _, rfl, ite_b (fun c' => ?_) (fun c' => ?_)⟩)⟩
            · have cb := of_decide_eq_true c'
              refine ⟨_, rfl, sl2, fun q2 hq2 => ?_⟩
              have s8 := snew (o := .tup [.ref a, .ref q]) hq2
              exact k q2 _ _ x0 (t', b') _ upd_same (P0.tst (t7.trans (Tst.of s8))) ⟨q, rfl, s8 _ _ upd_same⟩ ⟨l0, b0, c0, by omega⟩ ⟨g3, g1, by show b' ≤ 12; omega, g2⟩ ((D6.same s7).same s8) (kF.trans (Keep.of s8))
            · refine ⟨_, rfl, sl2, fun q2 hq2 => ?_⟩
              have s8 := snew (o := .tup [.ref a, .ref p]) hq2
              exact k q2 _ _ x0 (2 * d - 7, 2) _ upd_same (P0.tst (t7.trans (Tst.of s8))) (Pg.tst (t7.trans (Tst.of s8))) ⟨l0, b0, c0, by omega⟩ (half_ok (by omega) (by omega) (by omega)) ((D6.same s7).same s8) (kF.trans (Keep.of s8))
end
end N3

namespace L2
open PySem PySem.Spec PyProof.Rows
/-! ### calls by name -/
/-- how a def of one parameter binds it by name -/
def Bk (K : PySem.W.Frag) (fd : FuncData) (y : Str) : Prop := ∀ (s : Shared) (u : Value), K.In s.heap → BindsTo s fd ⟨[], [(y, u)]⟩ [(y, u)]
/-- two parameters, the second one written first -/
def Bk2 (K : PySem.W.Frag) (fd : FuncData) (y z : Str) : Prop := ∀ (s : Shared) (u v : Value), K.In s.heap → BindsTo s fd ⟨[], [(z, v), (y, u)]⟩ [(y, u), (z, v)]
/-- three parameters, written from the last to the first -/
def Bk3 (K : PySem.W.Frag) (fd : FuncData) (x y z : Str) : Prop := ∀ (s : Shared) (u v w : Value), K.In s.heap → BindsTo s fd ⟨[], [(z, w), (y, v), (x, u)]⟩ [(x, u), (y, v), (z, w)]
section
variable {X : Cx} {CX : CXT} {k : Nat} {f : Addr} {fd : FuncData} {x y z n : Str} {sp : Sp} {E : St → XK} {p pos kp kp2 kp3 : Pos} {e e2 e3 : Expr} {te te2 te3 : TE}
theorem pe_by (F : FnOk X.prog X.w X.K X.mg X.base CX k f fd [y] sp) (hr : Room k X.A) (hm : X.mg n = some (.ref f)) (hk : PySem.W.keepIn X.K (.ref f) = true) (hb : Bk X.K fd y) (hx : ∀ σ, PassesAt CX X σ (E σ)) (he : PE X e te) (hg : Gl X n := by rfl)
    (hdb : (n == ("__debug__" : Str)) = false := by decide) (hall : (backToKw pos (keywordEach [⟨some y, e, kp⟩] X.env)).all (·.1.isSome) = true := by rfl) (hks : (backToKw pos (keywordEach [⟨some y, e, kp⟩] X.env)).filterMap (·.1) = [y] := by rfl)
    (hpl : ((backTo pos (starEach [] X.env)).any (·.1) || (backToKw pos (keywordEach [⟨some y, e, kp⟩] X.env)).any (·.1.isNone)) = false := by rfl) :
    PE X (.Call (.Name n p) [] [⟨some y, e, kp⟩] pos) (fun σ H Q => te σ H fun v H1 => sp [v] H1 Q (E σ)) := by
  refine ⟨fun pins s σ H Q I h => ?_⟩
  refine wpAny_Call_Name_kw (ld_glob I hg hm ?_ hdb)
  refine PySem.W.callWith_KW0 (h₀ := X.base) I.ok.mod.kin hk hall ?_ hpl
  have kk : PK X [⟨some y, e, kp⟩] (tCons te tNil) := pk_cons he pk_nil
  refine thn (kk.run pos pins s σ H (fun vs H1 => sp vs H1 Q (E σ)) I h) fun ws s1 ⟨vs, H1, I1, rz, q1⟩ => ⟨I1.kIn, ?_⟩
  have len := F.len _ _ _ _ q1
  obtain ⟨v, rfl⟩ : ∃ v, vs = [v] := by
    match vs, len with
    | [a], _ => exact ⟨a, rfl⟩
  obtain ⟨u, rfl, r1⟩ := vals1 rz
  rw [hks]
  show wpAny _ _ (call (.ref f) [] [(y, u)]) _ _ _
  refine wpAny_call (codeAny_mono (F.run X.A X.stack s1 H1 ⟨[], [(y, u)]⟩ [u] [v] Q (E σ) hr I1.env0 (hb s1 u I1.kIn) (.cons r1 .nil) q1) fun r s' hq => ?_)
  cases r with
  | error er => exact hx σ pins H1 s1 er s' I1 hq
  | ok fl =>
    cases fl with
    | ret w => exact I1.after hq
    | next => exact False.elim hq
    | brk => exact False.elim hq
    | cont => exact False.elim hq
def turn2 : List V → List V
  | [a, b] => [b, a]
  | _ => []
/-- f(z=e2, y=e) for a def f(y, z) -/
theorem pe_by2 (F : FnOk X.prog X.w X.K X.mg X.base CX k f fd [y, z] sp) (hr : Room k X.A) (hm : X.mg n = some (.ref f)) (hk : PySem.W.keepIn X.K (.ref f) = true) (hb : Bk2 X.K fd y z) (hx : ∀ σ, PassesAt CX X σ (E σ)) (he2 : PE X e2 te2) (he : PE X e te) (hg : Gl X n := by rfl)
    (hdb : (n == ("__debug__" : Str)) = false := by decide) (hall : (backToKw pos (keywordEach [⟨some z, e2, kp2⟩, ⟨some y, e, kp⟩] X.env)).all (·.1.isSome) = true := by rfl) (hks : (backToKw pos (keywordEach [⟨some z, e2, kp2⟩, ⟨some y, e, kp⟩] X.env)).filterMap (·.1) = [z, y] := by rfl)
    (hpl : ((backTo pos (starEach [] X.env)).any (·.1) || (backToKw pos (keywordEach [⟨some z, e2, kp2⟩, ⟨some y, e, kp⟩] X.env)).any (·.1.isNone)) = false := by rfl) :
    PE X (.Call (.Name n p) [] [⟨some z, e2, kp2⟩, ⟨some y, e, kp⟩] pos) (fun σ H Q => te2 σ H fun v2 H1 => te σ H1 fun v H2 => sp [v, v2] H2 Q (E σ)) := by
  refine ⟨fun pins s σ H Q I h => ?_⟩
  refine wpAny_Call_Name_kw (ld_glob I hg hm ?_ hdb)
  refine PySem.W.callWith_KW0 (h₀ := X.base) I.ok.mod.kin hk hall ?_ hpl
  have kk : PK X [⟨some z, e2, kp2⟩, ⟨some y, e, kp⟩] (tCons te2 (tCons te tNil)) := pk_cons he2 (pk_cons he pk_nil)
  refine thn (kk.run pos pins s σ H (fun vs H1 => sp (turn2 vs) H1 Q (E σ)) I h) fun ws s1 ⟨vs, H1, I1, rz, q1⟩ => ⟨I1.kIn, ?_⟩
  have len := F.len _ _ _ _ q1
  obtain ⟨v2, v, rfl⟩ : ∃ v2 v, vs = [v2, v] := by
    match vs, len with
    | [a, b], _ => exact ⟨a, b, rfl⟩
  obtain ⟨u2, u, rfl, r2, r1⟩ := vals2 rz
  rw [hks]
  show wpAny _ _ (call (.ref f) [] [(z, u2), (y, u)]) _ _ _
  refine wpAny_call (codeAny_mono (F.run X.A X.stack s1 H1 ⟨[], [(z, u2), (y, u)]⟩ [u, u2] [v, v2] Q (E σ) hr I1.env0 (hb s1 u u2 I1.kIn) (.cons r1 (.cons r2 .nil)) q1) fun r s' hq => ?_)
  cases r with
  | error er => exact hx σ pins H1 s1 er s' I1 hq
  | ok fl =>
    cases fl with
    | ret w => exact I1.after hq
    | next => exact False.elim hq
    | brk => exact False.elim hq
    | cont => exact False.elim hq
def turn3 : List V → List V
  | [a, b, c] => [c, b, a]
  | _ => []
/-- f(z=e3, y=e2, x=e) for a def f(x, y, z) -/
theorem pe_by3 (F : FnOk X.prog X.w X.K X.mg X.base CX k f fd [x, y, z] sp) (hr : Room k X.A) (hm : X.mg n = some (.ref f)) (hk : PySem.W.keepIn X.K (.ref f) = true) (hb : Bk3 X.K fd x y z) (hx : ∀ σ, PassesAt CX X σ (E σ)) (he3 : PE X e3 te3) (he2 : PE X e2 te2) (he : PE X e te) (hg : Gl X n := by rfl)
    (hdb : (n == ("__debug__" : Str)) = false := by decide) (hall : (backToKw pos (keywordEach [⟨some z, e3, kp3⟩, ⟨some y, e2, kp2⟩, ⟨some x, e, kp⟩] X.env)).all (·.1.isSome) = true := by rfl) (hks : (backToKw pos (keywordEach [⟨some z, e3, kp3⟩, ⟨some y, e2, kp2⟩, ⟨some x, e, kp⟩] X.env)).filterMap (·.1) = [z, y, x] := by rfl)
    (hpl : ((backTo pos (starEach [] X.env)).any (·.1) || (backToKw pos (keywordEach [⟨some z, e3, kp3⟩, ⟨some y, e2, kp2⟩, ⟨some x, e, kp⟩] X.env)).any (·.1.isNone)) = false := by rfl) :
    PE X (.Call (.Name n p) [] [⟨some z, e3, kp3⟩, ⟨some y, e2, kp2⟩, ⟨some x, e, kp⟩] pos) (fun σ H Q => te3 σ H fun v3 H1 => te2 σ H1 fun v2 H2 => te σ H2 fun v H3 => sp [v, v2, v3] H3 Q (E σ)) := by
  refine ⟨fun pins s σ H Q I h => ?_⟩
  refine wpAny_Call_Name_kw (ld_glob I hg hm ?_ hdb)
  refine PySem.W.callWith_KW0 (h₀ := X.base) I.ok.mod.kin hk hall ?_ hpl
  have kk : PK X [⟨some z, e3, kp3⟩, ⟨some y, e2, kp2⟩, ⟨some x, e, kp⟩] (tCons te3 (tCons te2 (tCons te tNil))) := pk_cons he3 (pk_cons he2 (pk_cons he pk_nil))
  refine thn (kk.run pos pins s σ H (fun vs H1 => sp (turn3 vs) H1 Q (E σ)) I h) fun ws s1 ⟨vs, H1, I1, rz, q1⟩ => ⟨I1.kIn, ?_⟩
  have len := F.len _ _ _ _ q1
  obtain ⟨v3, v2, v, rfl⟩ : ∃ v3 v2 v, vs = [v3, v2, v] := by
    match vs, len with
    | [a, b, c], _ => exact ⟨a, b, c, rfl⟩
  cases rz with
  | cons r3 rz =>
    obtain ⟨u2, u, rfl, r2, r1⟩ := vals2 rz
    rw [hks]
    show wpAny _ _ (call (.ref f) [] [(z, _), (y, u2), (x, u)]) _ _ _
    refine wpAny_call (codeAny_mono (F.run X.A X.stack s1 H1 ⟨[], [(z, _), (y, u2), (x, u)]⟩ [u, u2, _] [v, v2, v3] Q (E σ) hr I1.env0 (hb s1 u u2 _ I1.kIn) (.cons r1 (.cons r2 (.cons r3 .nil))) q1) fun r s' hq => ?_)
    cases r with
    | error er => exact hx σ pins H1 s1 er s' I1 hq
    | ok fl =>
      cases fl with
      | ret w => exact I1.after hq
      | next => exact False.elim hq
      | brk => exact False.elim hq
      | cont => exact False.elim hq
end
end L2
namespace N3
open PySem PySem.Spec PyProof.Rows L2
/-- a def that shows data, as callers know it -/
structure KnG (P : Program) (w : World) (K : PySem.W.Frag) (mg : Str → Option Value) (base : Heap) (k : Nat) (x : Str) (ps : List Str) (sp : Sp) (f : Addr) (fd : FuncData) : Prop where
  ok : FnG P w K mg base k f fd ps sp
  mg : mg x = some (.ref f)
  kp : PySem.W.keepIn K (.ref f) = true
  bd : Binds K fd ps []
end N3

namespace N3
open PySem PySem.Spec PyProof.Rows L2 N2
def spLaw (K : PySem.W.Frag) : Sp := fun vs H Q _ => ∃ (a : Addr) (ns : List Int), vs = [.ref a] ∧ SqL K H a (ns.map V.int) ∧ ns.length ≤ 63 ∧ ∀ H', Q (.bl true) H'
/-! ### words -/
def wordsL : List Str := ["quotient", "eight", "square", "four faces", "eight faces", "twenty faces", "nothing"]
theorem words_short : ∀ x ∈ wordsL, (reprText x).length ≤ 20 := by
  intro x hx
  simp only [wordsL, List.mem_cons, List.not_mem_nil, or_false] at hx
  rcases hx with rfl | rfl | rfl | rfl | rfl | rfl | rfl <;> decide +kernel
theorem find_in {p q r : Int} : ∀ L : List (Str × Rw), (∀ x ∈ L, x.1 ∈ wordsL) → findR p q r L ∈ wordsL
  | [], _ => by show ("nothing" : Str) ∈ wordsL; simp [wordsL]
  | x :: L, h => by
    unfold findR
    split
    · exact h x List.mem_cons_self
    · exact find_in L fun y hy => h y (List.mem_cons_of_mem _ hy)
theorem rows_words : ∀ x ∈ rowsT, x.1 ∈ wordsL := by
  intro x hx
  simp only [rowsT, List.mem_cons, List.not_mem_nil, or_false] at hx
  rcases hx with rfl | rfl | rfl | rfl | rfl | rfl | rfl | rfl | rfl | rfl | rfl | rfl | rfl | rfl <;> simp [wordsL]
theorem word_in (p q r : Int) : wordP p q r ∈ wordsL := by
  unfold wordP
  split
  · simp [wordsL]
  · split
    · split <;> simp [wordsL]
    · exact find_in _ rows_words
theorem told_in (b : Bool) : toldS b ∈ wordsL := by
  cases b <;> simp [toldS, wordsL]
theorem str_ok {x : Str} (h : x ∈ wordsL) : (PyData.str x).showable = true ∧ (PyData.str x).depth ≤ 64 ∧ (PyData.str x).shown.length ≤ sizeLine := by
  have o : Okd 20 0 (.str x) := okd_str (words_short x h)
  exact ⟨o.sh, by have := o.dp; omega, by have := o.ln; have : 20 ≤ sizeLine := (by rw [sizeLine_eq]; decide); omega⟩
theorem two_ok {x : Str} (h : x ∈ wordsL) : (PyData.list [.str x, .str x]).showable = true ∧ (PyData.list [.str x, .str x]).depth ≤ 64 ∧ (PyData.list [.str x, .str x]).shown.length ≤ sizeLine := by
  have o : Okd 20 0 (.str x) := okd_str (words_short x h)
  have o2 := okd_list (m := 20) (n := 0) (ds := [.str x, .str x]) fun d hd => by
    simp only [List.mem_cons, List.not_mem_nil, or_false, or_self] at hd
    subst hd
    exact o
  exact ⟨o2.sh, by have := o2.dp; omega, by have h1 : _ ≤ 2 * (20 + 2) + 2 := o2.ln; have : 46 ≤ sizeLine := (by rw [sizeLine_eq]; decide); omega⟩
theorem two_dn {H : Hp} {x : Str} {p : Addr} (h : H p = some (.lst [.str x, .str x])) : Dn H (.ref p) (.list [.str x, .str x]) := .lst h (.cons (.str x) (.cons (.str x) .nil))
theorem no_air {d : PyData} {p : Prop} (h : parD d = true) : parD d = false → p := fun c => by rw [h] at c; cases c
section
variable {P : Program} {w : World} {K : PySem.W.Frag} {mg : Str → Option Value} {base : Heap}
abbrev s_law : Stmt := top 50
abbrev nsLw : List Str := ["script", "deck", "turn", "some", "word", "more", "k", "m", "odd", "told", "near", "n", "sign"]
theorem sc_law : FnScope nsLw ["script"] (defScope s_law) := ⟨rfl, rfl, rfl, by decide +kernel, rfl, by decide +kernel, by decide +kernel⟩
theorem ok_law {f f__law_deck f__law_draw f__law_triple f__law_word f__law_same f__law_turned f__law_pair_of f__law_parity : Addr} {fd d__law_deck d__law_draw d__law_triple d__law_word d__law_same d__law_turned d__law_pair_of d__law_parity : FuncData} {C : Addr} {f_power_verdict f_bessel_verdict f_weber_verdict f_whittaker_verdict f_three_points_verdict : Addr} {d_power_verdict d_bessel_verdict d_weber_verdict d_whittaker_verdict d_three_points_verdict : FuncData} (p_power_verdict : Kn P w K mg base 5 "power_verdict" ["n"] (quiet (spPowV C)) f_power_verdict d_power_verdict) (p_bessel_verdict : Kn P w K mg base 6 "bessel_verdict" ["n"] (quiet (spOneV C)) f_bessel_verdict d_bessel_verdict) (p_weber_verdict : Kn P w K mg base 6 "weber_verdict" ["a"] (quiet (spOneV C)) f_weber_verdict d_weber_verdict) (p_whittaker_verdict : Kn P w K mg base 6 "whittaker_verdict" ["k", "m"] (quiet (spTwoV C)) f_whittaker_verdict d_whittaker_verdict) (p_three_points_verdict : Kn P w K mg base 6 "three_points_verdict" ["l", "m", "n"] (quiet (spThreeV C)) f_three_points_verdict d_three_points_verdict) (nk_weber_verdict : Bk K d_weber_verdict "a") (nk2_whittaker_verdict : Bk2 K d_whittaker_verdict "k" "m") (nk3_three_points_verdict : Bk3 K d_three_points_verdict "l" "m" "n") (F : Fun K "law" "law" s_law f fd) (T : Bt mg) (l_deck : Kn P w K mg base 1 "_law_deck" ["script"] (spDeck K) f__law_deck d__law_deck) (l_draw : Kn P w K mg base 1 "_law_draw" ["deck", "below"] spDraw f__law_draw d__law_draw) (l_triple : Kn P w K mg base 4 "_law_triple" ["deck"] spTriple f__law_triple d__law_triple) (l_word : Kn P w K mg base 4 "_law_word" ["some"] (spWord K) f__law_word d__law_word) (l_same : KnG P w K mg base 1 "_law_same" ["told", "due"] spSame f__law_same d__law_same) (l_turned : Kn P w K mg base 3 "_law_turned" ["deck", "some"] (spTurned K) f__law_turned d__law_turned) (l_pair_of : Kn P w K mg base 4 "_law_pair_of" ["deck"] spPairOf f__law_pair_of d__law_pair_of) (l_parity : Kn P w K mg base 1 "_law_parity" ["top", "bottom"] spPar f__law_parity d__law_parity) : FnG P w K mg base 8 f fd ["script"] (spLaw K) := by
  refine fn_idle F sc_law (fun vs H Q E h => ?_) (fun cdv A outer s H vs Q hr hi h => ?_)
  · obtain ⟨a, ns, rfl, _⟩ := h
    rfl
  · obtain ⟨a, ns, rfl, hS, hl, k⟩ := h
    have at0 : ∀ {X : Cx} (σ : L2.St), PassesAt CX0 X σ E0 := fun σ pins H s e s' I c => pass0 pins σ H s e s' I c
    refine ⟨_, pss_cons (ps_set (i := 1) sc_law.nd rfl (Or.inl rfl) (pe_call l_deck.ok (hr.mono (by decide)) rfl l_deck.mg l_deck.kp l_deck.bd .nil pass0 (pa_cons (pv 0) pa_nil)))
      (pss_cons (ps_for PassesOwn.never rfl (pi_range1 rfl T.range (pa_cons pe_int pa_nil)) (pg_name (i := 2) sc_law.nd rfl (Or.inl rfl))
        (pss_cons (ps_set (i := 3) sc_law.nd rfl (Or.inl rfl) (pe_call l_triple.ok (hr.mono (by decide)) rfl l_triple.mg l_triple.kp l_triple.bd .nil pass0 (pa_cons (pv 1) pa_nil)))
        (C8.pss_cut (ps_set (i := 4) sc_law.nd rfl (Or.inl rfl) (pe_call l_word.ok (hr.mono (by decide)) rfl l_word.mg l_word.kp l_word.bd .nil pass0 (pa_cons (pv 3) pa_nil)))
        (pss_cons (ps_if (pt_not (pt_val (pe_idle l_same.ok (hr.mono (by decide)) hi l_same.mg l_same.kp l_same.bd (pa_cons (pe_call p_three_points_verdict.ok (hr.mono (by decide)) rfl p_three_points_verdict.mg p_three_points_verdict.kp p_three_points_verdict.bd .nil pass0 (pa_cons (pe_ix (r := rIx K) ix_seq (pv 3) pe_int (fun _ _ => rfl)) (pa_cons (pe_ix (r := rIx K) ix_seq (pv 3) pe_int (fun _ _ => rfl)) (pa_cons (pe_ix (r := rIx K) ix_seq (pv 3) pe_int (fun _ _ => rfl)) pa_nil)))) (pa_cons (pv 4) pa_nil)))))
          (pss_one (ps_ret pe_bl))
          pss_nil)
        (pss_cons (ps_set (i := 5) sc_law.nd rfl (Or.inl rfl) (pe_call l_turned.ok (hr.mono (by decide)) rfl l_turned.mg l_turned.kp l_turned.bd .nil pass0 (pa_cons (pv 1) (pa_cons (pv 3) pa_nil))))
        (pss_one (ps_if (PW.pt (pw_and (pt_cmpR op_eq (pv 2) pe_int (nomark _)) (pw_and1 (pt_not (pt_val (pe_idle l_same.ok (hr.mono (by decide)) hi l_same.mg l_same.kp l_same.bd (pa_cons (pe_by3 p_three_points_verdict.ok (hr.mono (by decide)) p_three_points_verdict.mg p_three_points_verdict.kp nk3_three_points_verdict at0 (pe_ix (r := rIx K) ix_seq (pv 5) pe_int (fun _ _ => rfl)) (pe_ix (r := rIx K) ix_seq (pv 5) pe_int (fun _ _ => rfl)) (pe_ix (r := rIx K) ix_seq (pv 5) pe_int (fun _ _ => rfl))) (pa_cons (pv 4) pa_nil))))))))
          (pss_one (ps_ret pe_bl))
          pss_nil)))))))
      (pss_cons (ps_for PassesOwn.never rfl (pi_range1 rfl T.range (pa_cons pe_int pa_nil)) (pg_name (i := 2) sc_law.nd rfl (Or.inl rfl))
        (pss_cons (ps_asg (pe_call l_pair_of.ok (hr.mono (by decide)) rfl l_pair_of.mg l_pair_of.kp l_pair_of.bd .nil pass0 (pa_cons (pv 1) pa_nil)) (pg_tup rfl (pgs_cons (pg_name (i := 6) sc_law.nd rfl (Or.inr rfl)) (pgs_cons (pg_name (i := 7) sc_law.nd rfl (Or.inr rfl)) pgs_nil))))
        (pss_cons (ps_setLc (i := 8) (own := [("sign", 12)]) (g := (gName 12)) (tt := _) rfl sc_law.nd rfl rfl (sw_true rfl rfl (by rfl) (by rfl)) (pi_tup (pk_tup (pka_cons pk_int (pka_cons pk_neg pka_nil)))) (blkOk_by (own := [("sign", 12)]) (N := nsLw) (sc := defScope s_law) (by decide +kernel)) (fun _ _ _ _ _ => pg_name (i := 12) sc_law.nd rfl (Or.inl rfl)) (fun _ _ _ _ _ => pts_one (pt_cmpR op_eq (pe_call l_parity.ok (hr.mono (by decide)) rfl l_parity.mg l_parity.kp l_parity.bd .nil pass0 (pa_cons (pe_op op_mul pe_int (pe_op op_add (pe_op op_mul (pe_ix (r := rIx K) ix_seq (pv 6) pe_int (fun _ _ => rfl)) (pe_ix (r := rIx K) ix_seq (pv 7) pe_int (fun _ _ => rfl))) (pe_op op_mul (pe_op op_mul (pv 12) (pe_ix (r := rIx K) ix_seq (pv 7) pe_int (fun _ _ => rfl))) (pe_ix (r := rIx K) ix_seq (pv 6) pe_int (fun _ _ => rfl))))) (pa_cons (pe_op op_mul (pe_ix (r := rIx K) ix_seq (pv 6) pe_int (fun _ _ => rfl)) (pe_ix (r := rIx K) ix_seq (pv 7) pe_int (fun _ _ => rfl))) pa_nil))) pe_int (nomark _))) (fun _ _ _ _ _ => pe_int))
        (C8.pss_cut (ps_set (i := 4) sc_law.nd rfl (Or.inl rfl) (pe_ifExp (pt_cmpR (op_neD hr.units) (pv 8) (pe_lst pa_nil) (nomark _)) pe_str pe_str))
        (C8.pss_cut (ps_set (i := 9) sc_law.nd rfl (Or.inl rfl) (pe_ifExp (pt_cmpR op_eq (pv 2) pe_int (nomark _)) (pe_by2 p_whittaker_verdict.ok (hr.mono (by decide)) p_whittaker_verdict.mg p_whittaker_verdict.kp nk2_whittaker_verdict at0 (pv 7) (pv 6)) (pe_call p_whittaker_verdict.ok (hr.mono (by decide)) rfl p_whittaker_verdict.mg p_whittaker_verdict.kp p_whittaker_verdict.bd .nil pass0 (pa_cons (pv 6) (pa_cons (pv 7) pa_nil)))))
        (pss_cons (ps_if (pt_not (pt_val (pe_idle l_same.ok (hr.mono (by decide)) hi l_same.mg l_same.kp l_same.bd (pa_cons (pv 9) (pa_cons (pv 4) pa_nil)))))
          (pss_one (ps_ret pe_bl))
          pss_nil)
        (C8.pss_cut (ps_set (i := 10) sc_law.nd rfl (Or.inl rfl) (pe_ifExp (pt_cmpR op_eq (pe_ix (r := rIx K) ix_seq (pv 6) pe_int (fun _ _ => rfl)) pe_int (nomark _)) pe_str pe_str))
        (pss_one (ps_if (pt_not (pt_val (pe_idle l_same.ok (hr.mono (by decide)) hi l_same.mg l_same.kp l_same.bd (pa_cons (pe_lst (pa_cons (pe_call p_bessel_verdict.ok (hr.mono (by decide)) rfl p_bessel_verdict.mg p_bessel_verdict.kp p_bessel_verdict.bd .nil pass0 (pa_cons (pv 6) pa_nil)) (pa_cons (pe_by p_weber_verdict.ok (hr.mono (by decide)) p_weber_verdict.mg p_weber_verdict.kp nk_weber_verdict at0 (pv 6)) pa_nil))) (pa_cons (pe_lst (pa_cons (pv 10) (pa_cons (pv 10) pa_nil))) pa_nil)))))
          (pss_one (ps_ret pe_bl))
          pss_nil)))))))))
      (pss_cons (ps_set (i := 11) sc_law.nd rfl (Or.inl rfl) (pe_op op_sub (pe_call l_draw.ok (hr.mono (by decide)) rfl l_draw.mg l_draw.kp l_draw.bd .nil pass0 (pa_cons (pv 1) (pa_cons pe_int pa_nil))) pe_int))
      (pss_one (ps_ret (pe_idle l_same.ok (hr.mono (by decide)) hi l_same.mg l_same.kp l_same.bd (pa_cons (pe_call p_power_verdict.ok (hr.mono (by decide)) rfl p_power_verdict.mg p_power_verdict.kp p_power_verdict.bd .nil pass0 (pa_cons (pv 11) pa_nil)) (pa_cons (pe_ifExp (pt_cmpR op_in_seq (pv 11) (pk_tup (pka_cons pk_int (pka_cons pk_neg (pka_cons pk_neg pka_nil)))) (by with_unfolding_all rfl)) pe_str pe_str) pa_nil)))))))), ?_⟩
    have sl2 : 2 ≤ sizeLine := by rw [sizeLine_eq]; decide
    refine ⟨_, rfl, a, ns, rfl, hS, hl, fun H1 dk l D1 s1 _ _ => ?_⟩
    refine ⟨2, rfl, by decide, by decide, for_range (lo := 0) (n := 2) (fun i σ H' => (∃ x2 x3 x4 x5 : Option V, σ = [some (.ref a), some (.ref dk), x2, x3, x4, x5, none, none, none, none, none, none, none]) ∧ Deck H' dk l) ⟨⟨_, _, _, _, rfl⟩, D1⟩ ?_ ?_⟩
    · rintro i σ H' hi' ⟨⟨x2, x3, x4, x5, rfl⟩, D⟩
      refine ⟨_, rfl, dk, l, rfl, D, fun q v0 v1 v2 x0 x1 x2 H2 nq eq p0 p1 p2 o0 o1 o2 D2 k2 => ?_⟩
      have hq : SqL K H2 q [v0, v1, v2] := SqL.of eq
      have prS : ∀ {v : V} {x : Fr}, PrT H2 v x → ParOk x → PrS K H2 v x := fun {v x} ⟨c, e, h⟩ o => ⟨c, e, SqT.of h, by have := o.2.1; omega, by have := o.2.2.1; omega⟩
      have tri : Tri3 K H2 q [x0, x1, x2] := ⟨_, hq, rfl, rfl, fun j u x e1 e2 => by
        match j, e1, e2 with
        | 0, e1, e2 => cases e1; cases e2; exact prS p0 o0
        | 1, e1, e2 => cases e1; cases e2; exact prS p1 o1
        | 2, e1, e2 => cases e1; cases e2; exact prS p2 o2⟩
      obtain ⟨W, eW⟩ : ∃ W, wordP (prt x0.1 x0.2) (prt x1.1 x1.2) (prt x2.1 x2.2) = W := ⟨_, rfl⟩
      have iW : W ∈ wordsL := eW ▸ word_in _ _ _
      refine ⟨fun σ' H' => ∃ t x5 : Option V, σ' = [some (.ref a), some (.ref dk), t, some (.ref q), some (.str W), x5, none, none, none, none, none, none, none] ∧ t = some (.int (0 + (i : Nat))) ∧ Same H2 H', ?_, ?_⟩
      · refine ⟨_, rfl, q, x0, x1, x2, rfl, tri, ⟨o0.2.1, o0.2.2.1⟩, ⟨o1.2.1, o1.2.2.1⟩, ⟨o2.2.1, o2.2.2.1⟩, fun H3 s3 => ?_⟩
        rw [word_eq o0 o1 o2, eW]
        exact ⟨_, _, rfl, rfl, s3⟩
      · rintro σ' H3 ⟨t, y5, rfl, rfl, s3⟩
        have D3 := D2.same s3
        have hq3 := s3.seq hq
        refine ⟨_, rfl, .inl ⟨q, _, _, _, rfl, rfl, hq3, rfl, _, rfl, .inl ⟨q, _, _, _, rfl, rfl, hq3, rfl, _, rfl, .inl ⟨q, _, _, _, rfl, rfl, hq3, rfl, ?_⟩⟩⟩⟩
        have P0 := p0.tst (Tst.of s3)
        have P1 := p1.tst (Tst.of s3)
        have P2 := p2.tst (Tst.of s3)
        refine ⟨v0, v1, v2, _, _, _, rfl, P0.dn, P1.dn, P2.dn, fun t1 b1 t2 b2 t3 b3 e1 e2 e3 _ _ _ H4 s4 => ?_, no_air o0.d, fun _ => no_air o1.d, fun _ _ => no_air o2.d⟩
        cases e1
        cases e2
        cases e3
        rw [eW]
        refine ⟨_, rfl, _, _, _, rfl, .str W, .str W, (str_ok iW).1, (str_ok iW).2.1, (str_ok iW).2.2, _, rfl, iteF ?_⟩
        refine ⟨_, rfl, _, rfl, dk, l, q, v0, v1, v2, x0, x1, x2, rfl, D3.same s4, .inl (s4.seq hq3), P0.tst (Tst.of s4), P1.tst (Tst.of s4), P2.tst (Tst.of s4), fun q2 u0 u1 u2 y0 y1 y2 H5 nq2 eq2 r0 r1 r2 pm D5 k5 => ?_⟩
        obtain ⟨g0, g1, g2⟩ := parOk_perm pm o0 o1 o2
        have eW2 : wordP (prt y0.1 y0.2) (prt y1.1 y1.2) (prt y2.1 y2.2) = W := (word_nf pm o0.2.1 o1.2.1 o2.2.1 g0.2.1 g1.2.1 g2.2.1).trans eW
        have hq5 : SqL K H5 q2 [u0, u1, u2] := SqL.of eq2
        refine ⟨_, rfl, rfl, _, rfl, ite_b (fun c => ?_) (fun c => ?_)⟩
        · refine ⟨_, rfl, .inl ⟨q2, _, _, _, rfl, rfl, hq5, rfl, _, rfl, .inl ⟨q2, _, _, _, rfl, rfl, hq5, rfl, _, rfl, .inl ⟨q2, _, _, _, rfl, rfl, hq5, rfl, ?_⟩⟩⟩⟩
          refine ⟨u0, u1, u2, _, _, _, rfl, r0.dn, r1.dn, r2.dn, fun t1 b1 t2 b2 t3 b3 e1 e2 e3 _ _ _ H6 s6 => ?_, no_air g0.d, fun _ => no_air g1.d, fun _ _ => no_air g2.d⟩
          cases e1
          cases e2
          cases e3
          rw [eW2]
          exact ⟨_, rfl, _, _, _, rfl, .str W, .str W, (str_ok iW).1, (str_ok iW).2.1, (str_ok iW).2.2, _, rfl, iteF ⟨⟨_, _, _, _, rfl⟩, D5.same s6⟩⟩
        · exact iteF ⟨⟨_, _, _, _, rfl⟩, D5⟩
    · rintro σ H' ⟨⟨x2, x3, x4, x5, rfl⟩, D⟩
      refine ⟨3, rfl, by decide, by decide, for_range (lo := 0) (n := 3) (fun i σ H' => (∃ x2 x4 x6 x7 x8 x9 x10 x12 : Option V, σ = [some (.ref a), some (.ref dk), x2, x3, x4, x5, x6, x7, x8, x9, x10, none, x12]) ∧ Deck H' dk l) ⟨⟨_, _, _, _, _, _, _, _, rfl⟩, D⟩ ?_ ?_⟩
      · rintro i σ Ha hi' ⟨⟨y2, y4, y6, y7, y8, y9, y10, y12, rfl⟩, Da⟩
        refine ⟨_, rfl, dk, l, rfl, Da, fun q v0 v1 x0 x1 H2 eq p0 p1 o0 o1 D2 k2 => ?_⟩
        refine ⟨q, _, rfl, SqT.of eq, rfl, _, _, rfl, _, _, rfl, rfl, ?_⟩
        obtain ⟨ka, rfl, qa⟩ := id p0
        obtain ⟨kb, rfl, qb⟩ := id p1
        intro v4 H3 s3 d3
        obtain ⟨a0, xs0, rfl, e0, g0⟩ := dn_tupd d3
        obtain rfl := dn_ii g0
        have qa3 := SqT.of (K := K) (s3 _ _ qa)
        have qb3 := SqT.of (K := K) (s3 _ _ qb)
        have kb0 := o0.2.1
        have kb1 := o0.2.2.1
        have mb0 := o1.2.1
        have mb1 := o1.2.2.1
        have kt := o0.2.2.2
        have mt := o1.2.2.2
        have B0 : 0 < x0.2 * x1.2 := Int.mul_pos (by omega) (by omega)
        have B1 : x0.2 * x1.2 ≤ 12 * 12 := Int.mul_le_mul kb1 mb1 (by omega) (by decide)
        obtain ⟨p, ep⟩ : ∃ p : Int → Bool, (fun s : Int => decide (par (2 * (x0.1 * x1.2 + s * x1.1 * x0.2)) (x0.2 * x1.2) = 1)) = p := ⟨_, rfl⟩
        obtain ⟨b, eb⟩ : ∃ b, whitB (prt x0.1 x0.2) (prt x1.1 x1.2) = b := ⟨_, rfl⟩
        have ok := str_ok (told_in b)
        have pb : ([1, -1] : List Int).any p = b := by rw [← ep, ← whit_ok o0 o1, eb]
        obtain ⟨S, eS⟩ : ∃ S : List Int, [1, -1] = S := ⟨_, rfl⟩
        have eSX : ([.int 1, .int (-1)] : List V) = S.map V.int := by rw [← eS]; rfl
        have l2 : S.length = 2 := by rw [← eS]; rfl
        have sm : ∀ s ∈ S, s = 1 ∨ s = -1 := by rw [← eS]; simp
        rw [eS] at pb
        rw [eSX] at e0
        refine ⟨a0, rfl, ⟨_, SqT.of e0⟩, fun D hD => lc_fil (walk_tup (K := K) (a := a0) (xs := S.map V.int)) (fun H' s' => SqT.of (s' _ _ e0)) (fun j => p (S.getD j 0)) (fun _ => .int 1) (by rw [List.length_map, l2]; decide) hD (fun j e Hb Hc Q1 Q0 hj sa ⟨ey, hy⟩ g1 g0 => ?_) (fun H4 e4 s4 => ?_)⟩
        · subst ey
          obtain ⟨s, hs', rfl⟩ := map_get hy
          have gd : S.getD j 0 = s := by rw [List.getD_eq_getElem?_getD, hs']; rfl
          have s1 := sm s (List.mem_of_getElem? hs')
          rw [gd] at g1 g0
          have qa4 := same_sqt sa qa3
          have qb4 := same_sqt sa qb3
          refine ⟨rfl, _, rfl, .inr (.inl ⟨ka, _, _, _, rfl, rfl, qa4, rfl, _, rfl, .inr (.inl ⟨kb, _, _, _, rfl, rfl, qb4, rfl, _, _, rfl, rfl, .inr ⟨by omega, by omega⟩, ?_⟩)⟩)⟩
          refine ⟨_, rfl, _, rfl, .inr (.inl ⟨kb, _, _, _, rfl, rfl, qb4, rfl, _, _, rfl, rfl, .inl ⟨by omega, by omega⟩, _, rfl, .inr (.inl ⟨ka, _, _, _, rfl, rfl, qa4, rfl, _, _, rfl, rfl, .inr ⟨by omega, by omega⟩, _, _, rfl, rfl, _, _, rfl, rfl, .inl ⟨by decide, by decide⟩, ?_⟩)⟩)⟩
          refine ⟨_, rfl, .inr (.inl ⟨ka, _, _, _, rfl, rfl, qa4, rfl, _, rfl, .inr (.inl ⟨kb, _, _, _, rfl, rfl, qb4, rfl, _, _, rfl, rfl, .inr ⟨by omega, by omega⟩, ?_⟩)⟩)⟩
          have de : decide (V.int (par (2 * (x0.1 * x1.2 + s * x1.1 * x0.2)) (x0.2 * x1.2)) = V.int 1) = p s := by
            rw [← ep]
            exact decide_eq_decide.mpr ⟨fun h => V.int.inj h, fun h => congrArg V.int h⟩
          refine ⟨_, _, rfl, B0, by omega, rfl, _, rfl, ?_⟩
          rw [de]
          cases c : p s with
          | true => exact iteT (g1 _ (Same.refl _) c)
          | false => exact iteF (g0 _ (Same.refl _) c)
        · rw [List.length_map] at e4
          have e4' : H4 D = some (.lst ((((List.range S.length).filter fun j => p (S.getD j 0)).map fun _ => (1 : Int)).map V.int)) := by rw [e4, List.map_map]; rfl
          have s24 := s3.trans s4
          refine ⟨fun σ' H' => ∃ z9 z10 z12 : Option V, σ' = [some (.ref a), some (.ref dk), some (.int (0 + (i : Nat))), x3, some (.str (toldS b)), x5, some (.ref ka), some (.ref kb), some (.ref D), z9, z10, none, z12] ∧ Same H2 H', ?_, ?_⟩
          · refine ⟨_, rfl, Nat.zero_le _, fun E hE => ⟨_, .list [], .lst (SqL.of ((snew hE) _ _ e4')) (ints_dp _), .lst (SqL.of upd_same) .nil, ints_shaped _, nil_shaped, _, rfl, ?_⟩⟩
            rw [eqv_nil, ones_empty, Bool.not_not, pb]
            refine ite_b (fun c => ?_) (fun c => ?_)
            · subst c
              exact ⟨_, _, _, rfl, s24.trans (snew hE)⟩
            · subst c
              exact ⟨_, _, _, rfl, s24.trans (snew hE)⟩
          · rintro σ' H5 ⟨z9, z10, z12, rfl, s5⟩
            have P0 := p0.tst (Tst.of s5)
            have P1 := p1.tst (Tst.of s5)
            refine ⟨fun σ' H' => ∃ z10 z12 : Option V, σ' = [some (.ref a), some (.ref dk), some (.int (0 + (i : Nat))), x3, some (.str (toldS b)), x5, some (.ref ka), some (.ref kb), some (.ref D), some (.str (toldS b)), z10, none, z12] ∧ Same H2 H', ?_, ?_⟩
            · refine ⟨_, rfl, rfl, _, rfl, ite_b (fun c => ?_) (fun c => ?_)⟩
              · refine ⟨_, rfl, _, rfl, .ref ka, .ref kb, _, _, rfl, P0.dn, P1.dn, fun t1 b1 t2 b2 e1 e2 _ _ H6 s6 => ?_, no_air o0.d, fun _ => no_air o1.d⟩
                cases e1
                cases e2
                rw [eb]
                exact ⟨_, _, rfl, s5.trans s6⟩
              · refine ⟨_, rfl, _, rfl, .ref ka, .ref kb, _, _, rfl, P0.dn, P1.dn, fun t1 b1 t2 b2 e1 e2 _ _ H6 s6 => ?_, no_air o0.d, fun _ => no_air o1.d⟩
                cases e1
                cases e2
                rw [eb]
                exact ⟨_, _, rfl, s5.trans s6⟩
            · rintro σ' H6 ⟨w10, w12, rfl, s6⟩
              refine ⟨_, rfl, _, rfl, _, _, _, rfl, .str _, .str _, ok.1, ok.2.1, ok.2.2, _, rfl, iteF ?_⟩
              have P0 := p0.tst (Tst.of s6)
              have Q0 := SqT.of (K := K) (s6 _ _ qa)
              obtain ⟨c, ec⟩ : ∃ c, decide (x0.2 = 2) = c := ⟨_, rfl⟩
              have okc := two_ok (told_in c)
              refine ⟨fun σ' H' => ∃ z12 : Option V, σ' = [some (.ref a), some (.ref dk), some (.int (0 + (i : Nat))), x3, some (.str (toldS b)), x5, some (.ref ka), some (.ref kb), some (.ref D), some (.str (toldS b)), some (.str (toldS c)), none, z12] ∧ H6 = H', ?_, ?_⟩
              · have de : decide (V.int x0.2 = V.int 2) = c := (decide_eq_decide.mpr ⟨fun h => V.int.inj h, fun h => congrArg V.int h⟩).trans ec
                refine ⟨_, rfl, .inr (.inl ⟨ka, _, _, _, rfl, rfl, Q0, rfl, rfl, _, rfl, ite_b (fun c' => ?_) (fun c' => ?_)⟩)⟩
                · obtain rfl : c = true := de.symm.trans c'
                  exact ⟨_, rfl, rfl⟩
                · obtain rfl : c = false := de.symm.trans c'
                  exact ⟨_, rfl, rfl⟩
              · rintro σ' H7 ⟨v12, rfl, rfl⟩
                refine ⟨_, rfl, .ref ka, _, rfl, P0.dn, fun t1 b1 e1 _ H7 s7 => ?_, no_air o0.d⟩
                cases e1
                refine ⟨_, rfl, .ref ka, _, rfl, (P0.tst (Tst.of s7)).dn, fun t1 b1 e1 _ H8 s8 => ?_, no_air o0.d⟩
                cases e1
                rw [near_two o0, ec]
                refine ⟨sl2, fun p1 hp1 => ⟨_, rfl, _, rfl, sl2, fun p2 hp2 => ?_⟩⟩
                have s9 := (snew (o := .lst [.str (toldS c), .str (toldS c)]) hp1).trans (snew (o := .lst [.str (toldS c), .str (toldS c)]) hp2)
                refine ⟨_, _, _, rfl, two_dn ((snew hp2) _ _ upd_same), two_dn upd_same, okc.1, okc.2.1, okc.2.2, _, rfl, iteF ?_⟩
                exact ⟨⟨_, _, _, _, _, _, _, _, rfl⟩, (D2.same s6).same ((s7.trans s8).trans s9)⟩
      · rintro σ' H2 ⟨⟨y2, y4, y6, y7, y8, y9, y10, y12, rfl⟩, D2⟩
        refine ⟨_, rfl, dk, l, 13, rfl, D2, by decide, by decide, fun r H3 r0 r1 D3 k3 => ⟨_, _, rfl, rfl, ?_⟩⟩
        have sm : smallI (.int (r - 6)) = true := decide_eq_true (by omega)
        refine ⟨_, rfl, .int (r - 6), .int (r - 6), rfl, .int _, fun n en _ => ?_, fun c => by rw [sm] at c; cases c⟩
        cases en
        refine ⟨_, rfl, fun v4 H4 s4 d4 => ?_⟩
        obtain ⟨a0, xs0, rfl, e0, g0⟩ := dn_tupd d4
        obtain rfl : xs0 = [.int 0, .int (-2), .int (-4)] := by
          cases g0 with
          | cons p g0 => cases g0 with
            | cons q g0 => cases g0 with
              | cons t g0 => cases g0; cases p; cases q; cases t; rfl
        obtain ⟨b, eb⟩ : ∃ b, decide (r - 6 = 0 ∨ r - 6 = -2 ∨ r - 6 = -4) = b := ⟨_, rfl⟩
        have ib := (pow_in (r - 6)).trans eb
        have ok := str_ok (told_in b)
        rw [eb]
        refine ⟨a0, _, rfl, .inr (SqT.of e0), rfl, rfl, _, rfl, ite_b (fun c => ?_) (fun c => ?_)⟩
        · obtain rfl : b = true := ib.symm.trans c
          exact ⟨_, _, _, rfl, .str _, .str _, ok.1, ok.2.1, ok.2.2, k H4⟩
        · obtain rfl : b = false := ib.symm.trans c
          exact ⟨_, _, _, rfl, .str _, .str _, ok.1, ok.2.1, ok.2.2, k H4⟩
end
end N3

namespace N3
open PySem PySem.Spec PyProof.Rows L2 N2
section
variable {P : Program} {w : World} {K : PySem.W.Frag} {mg : Str → Option Value} {base : Heap}
theorem bk_1 {x : Str} {st : Stmt} {y : Str} {f : Addr} {fd : FuncData} (F : Fun K x x st f fd) (h : ∀ (kV doc pm : Value) (an : Option Addr) (cdv ct : Value) (u : Value), bindArgs (PySem.W.fnOf x x (defArgs st) (defBody st) (defScope st) .none kV doc pm an cdv ct) ⟨[], [(y, u)]⟩ = pure [(y, u)]) : Bk K fd y := by
  obtain ⟨oc, od, kV, doc, pm, an, cdv, ct, osl, rfl, lk, hcd⟩ := F.ex
  exact fun s u X => .of_eq (h _ _ _ _ _ _ _)
theorem bk_2 {x : Str} {st : Stmt} {y z : Str} {f : Addr} {fd : FuncData} (F : Fun K x x st f fd) (h : ∀ (kV doc pm : Value) (an : Option Addr) (cdv ct : Value) (u v : Value), bindArgs (PySem.W.fnOf x x (defArgs st) (defBody st) (defScope st) .none kV doc pm an cdv ct) ⟨[], [(z, v), (y, u)]⟩ = pure [(y, u), (z, v)]) : Bk2 K fd y z := by
  obtain ⟨oc, od, kV, doc, pm, an, cdv, ct, osl, rfl, lk, hcd⟩ := F.ex
  exact fun s u v X => .of_eq (h _ _ _ _ _ _ _ _)
theorem bk_3 {x : Str} {st : Stmt} {n y z : Str} {f : Addr} {fd : FuncData} (F : Fun K x x st f fd) (h : ∀ (kV doc pm : Value) (an : Option Addr) (cdv ct : Value) (u v t : Value), bindArgs (PySem.W.fnOf x x (defArgs st) (defBody st) (defScope st) .none kV doc pm an cdv ct) ⟨[], [(z, t), (y, v), (n, u)]⟩ = pure [(n, u), (y, v), (z, t)]) : Bk3 K fd n y z := by
  obtain ⟨oc, od, kV, doc, pm, an, cdv, ct, osl, rfl, lk, hcd⟩ := F.ex
  exact fun s u v t X => .of_eq (h _ _ _ _ _ _ _ _ _)
theorem bk_weber {f : Addr} {fd : FuncData} (F : Fun K "weber_verdict" "weber_verdict" s_weber_verdict f fd) : Bk K fd "a" := bk_1 F fun _ _ _ _ _ _ _ => by first | rfl | with_unfolding_all rfl | kernel_rfl
theorem bk_whittaker {f : Addr} {fd : FuncData} (F : Fun K "whittaker_verdict" "whittaker_verdict" s_whittaker_verdict f fd) : Bk2 K fd "k" "m" := bk_2 F fun _ _ _ _ _ _ _ _ => by first | rfl | with_unfolding_all rfl | kernel_rfl
theorem bk_three {f : Addr} {fd : FuncData} (F : Fun K "three_points_verdict" "three_points_verdict" s_three_points_verdict f fd) : Bk3 K fd "l" "m" "n" := bk_3 F fun _ _ _ _ _ _ _ _ _ => by first | rfl | with_unfolding_all rfl | kernel_rfl
end
end N3

namespace N3
open PySem PySem.Spec PyProof.Rows L2 N2
section
variable {P : Program} {w : World} {K : PySem.W.Frag} {mg : Str → Option Value} {base : Heap}
theorem bd0 : Bds "is_integer" sInt ["thing"] := fun _ _ _ _ _ _ us hl => match us, hl with | [_], _ => rfl
theorem bd1 : Bds "is_tuple_of" sTupOf ["thing", "many"] := fun _ _ _ _ _ _ us hl => match us, hl with | [_, _], _ => rfl
theorem bd2 : Bds "all_integers" sAllInt ["things"] := fun _ _ _ _ _ _ us hl => match us, hl with | [_], _ => rfl
theorem bd3 : Bds "in_lowest_terms" sLowest ["top", "bottom"] := fun _ _ _ _ _ _ us hl => match us, hl with | [_, _], _ => rfl
theorem bd4 : Bds "is_pole" s_is_pole ["thing"] := fun _ _ _ _ _ _ us hl => match us, hl with | [_], _ => rfl
theorem bd5 : Bds "is_parameter" s_is_parameter ["thing"] := fun _ _ _ _ _ _ us hl => match us, hl with | [_], _ => rfl
theorem bd6 : Bds "check_parameters" s_check_parameters ["things"] := fun _ _ _ _ _ _ us hl => match us, hl with | [_], _ => rfl
theorem bd7 : Bds "check_power" s_check_power ["n"] := fun _ _ _ _ _ _ us hl => match us, hl with | [_], _ => rfl
theorem bd8 : Bds "parts_in" s_parts_in ["fraction"] := fun _ _ _ _ _ _ us hl => match us, hl with | [_], _ => rfl
theorem bd9 : Bds "tells_odd" s_tells_odd ["parts"] := fun _ _ _ _ _ _ us hl => match us, hl with | [_], _ => rfl
theorem bd10 : Bds "told_if" s_told_if ["holds"] := fun _ _ _ _ _ _ us hl => match us, hl with | [_], _ => rfl
theorem bd11 : Bds "power_verdict" s_power_verdict ["n"] := fun _ _ _ _ _ _ us hl => match us, hl with | [_], _ => rfl
theorem bd12 : Bds "bessel_verdict" s_bessel_verdict ["n"] := fun _ _ _ _ _ _ us hl => match us, hl with | [_], _ => rfl
theorem bd13 : Bds "weber_verdict" s_weber_verdict ["a"] := fun _ _ _ _ _ _ us hl => match us, hl with | [_], _ => rfl
theorem bd14 : Bds "whittaker_verdict" s_whittaker_verdict ["k", "m"] := fun _ _ _ _ _ _ us hl => match us, hl with | [_, _], _ => rfl
theorem bd15 : Bds "signed" s_signed ["parts"] := fun _ _ _ _ _ _ us hl => match us, hl with | [_], _ => rfl
theorem bd16 : Bds "lies_over" s_lies_over ["parts", "row"] := fun _ _ _ _ _ _ us hl => match us, hl with | [_, _], _ => rfl
theorem bd17 : Bds "fits_row" s_fits_row ["parts", "row"] := fun _ _ _ _ _ _ us hl => match us, hl with | [_, _], _ => rfl
theorem bd18 : Bds "three_points_verdict" s_three_points_verdict ["l", "m", "n"] := fun _ _ _ _ _ _ us hl => match us, hl with | [_, _, _], _ => rfl
theorem bd19 : Bds "_law_deck" s__law_deck ["script"] := fun _ _ _ _ _ _ us hl => match us, hl with | [_], _ => rfl
theorem bd20 : Bds "_law_draw" s__law_draw ["deck", "below"] := fun _ _ _ _ _ _ us hl => match us, hl with | [_, _], _ => rfl
theorem bd21 : Bds "_law_pick" s__law_pick ["deck", "some"] := fun _ _ _ _ _ _ us hl => match us, hl with | [_, _], _ => rfl
theorem bd22 : Bds "_law_same" s__law_same ["told", "due"] := fun _ _ _ _ _ _ us hl => match us, hl with | [_, _], _ => rfl
theorem bd23 : Bds "_law_gcd" s__law_gcd ["one", "other"] := fun _ _ _ _ _ _ us hl => match us, hl with | [_, _], _ => rfl
theorem bd24 : Bds "_law_pole" s__law_pole ["top", "bottom"] := fun _ _ _ _ _ _ us hl => match us, hl with | [_, _], _ => rfl
theorem bd25 : Bds "_law_few" s__law_few ["deck", "many", "menu"] := fun _ _ _ _ _ _ us hl => match us, hl with | [_, _, _], _ => rfl
theorem bd26 : Bds "_law_table" s__law_table ["at"] := fun _ _ _ _ _ _ us hl => match us, hl with | [_], _ => rfl
theorem bd27 : Bds "_law_parity" s__law_parity ["top", "bottom"] := fun _ _ _ _ _ _ us hl => match us, hl with | [_, _], _ => rfl
theorem bd28 : Bds "_law_parities" s__law_parities ["one", "other"] := fun _ _ _ _ _ _ us hl => match us, hl with | [_, _], _ => rfl
theorem bd29 : Bds "_law_is_of" s__law_is_of ["some", "row"] := fun _ _ _ _ _ _ us hl => match us, hl with | [_, _], _ => rfl
theorem bd30 : Bds "_law_word" s__law_word ["some"] := fun _ _ _ _ _ _ us hl => match us, hl with | [_], _ => rfl
theorem bd31 : Bds "_law_any" s__law_any ["deck", "size"] := fun _ _ _ _ _ _ us hl => match us, hl with | [_, _], _ => rfl
theorem bd32 : Bds "_law_turned" s__law_turned ["deck", "some"] := fun _ _ _ _ _ _ us hl => match us, hl with | [_, _], _ => rfl
theorem bd33 : Bds "_law_triple" s__law_triple ["deck"] := fun _ _ _ _ _ _ us hl => match us, hl with | [_], _ => rfl
theorem bd34 : Bds "_law_pair_of" s__law_pair_of ["deck"] := fun _ _ _ _ _ _ us hl => match us, hl with | [_], _ => rfl
theorem all_ok {S C_BadFraction I_BadFraction fL : Addr} {J_BadFraction fdL : FuncData} {t_MOST_BOTTOM : Tok} {t_MOST_SIZE : Tok} {t_PARTS : Tok} {t_QUOTIENT : Tok} {t_NOTHING : Tok} (sy : Sy base) (T : Bt mg)
    (B_BadFraction : BnC P w K mg base "BadFraction" S C_BadFraction I_BadFraction J_BadFraction) (ex_BadFraction : PySem.W.exmOne K (.ref C_BadFraction) (.ref C_BadFraction) = some true) (ki_BadFraction : PySem.W.kitOne K (.ref C_BadFraction) (.ref S) = some true)
    (mS : mg "SlopeError" = some (.ref S))
    (i_MOST_BOTTOM : mg "MOST_BOTTOM" = some (.int 12 t_MOST_BOTTOM))
    (i_MOST_SIZE : mg "MOST_SIZE" = some (.int 6 t_MOST_SIZE))
    (i_PARTS : mg "PARTS" = some (.int 27720 t_PARTS))
    (i_QUOTIENT : mg "QUOTIENT" = some (.str "quotient" t_QUOTIENT))
    (i_NOTHING : mg "NOTHING" = some (.str "nothing" t_NOTHING))
    (w_TOLD_POWERS : ∃ a, mg "TOLD_POWERS" = some (.ref a) ∧ WrD K (.ref a) powD)
    (w_ROWS : ∃ a, mg "ROWS" = some (.ref a) ∧ WrD K (.ref a) rowsD)
    (h0 : ∃ f fd, Df K mg "is_integer" sInt ["thing"] f fd)
    (h1 : ∃ f fd, Df K mg "is_tuple_of" sTupOf ["thing", "many"] f fd)
    (h2 : ∃ f fd, Df K mg "all_integers" sAllInt ["things"] f fd)
    (h3 : ∃ f fd, Df K mg "in_lowest_terms" sLowest ["top", "bottom"] f fd)
    (h4 : ∃ f fd, Df K mg "is_pole" s_is_pole ["thing"] f fd)
    (h5 : ∃ f fd, Df K mg "is_parameter" s_is_parameter ["thing"] f fd)
    (h6 : ∃ f fd, Df K mg "check_parameters" s_check_parameters ["things"] f fd)
    (h7 : ∃ f fd, Df K mg "check_power" s_check_power ["n"] f fd)
    (h8 : ∃ f fd, Df K mg "parts_in" s_parts_in ["fraction"] f fd)
    (h9 : ∃ f fd, Df K mg "tells_odd" s_tells_odd ["parts"] f fd)
    (h10 : ∃ f fd, Df K mg "told_if" s_told_if ["holds"] f fd)
    (h11 : ∃ f fd, Df K mg "power_verdict" s_power_verdict ["n"] f fd)
    (h12 : ∃ f fd, Df K mg "bessel_verdict" s_bessel_verdict ["n"] f fd)
    (h13 : ∃ f fd, Df K mg "weber_verdict" s_weber_verdict ["a"] f fd)
    (h14 : ∃ f fd, Df K mg "whittaker_verdict" s_whittaker_verdict ["k", "m"] f fd)
    (h15 : ∃ f fd, Df K mg "signed" s_signed ["parts"] f fd)
    (h16 : ∃ f fd, Df K mg "lies_over" s_lies_over ["parts", "row"] f fd)
    (h17 : ∃ f fd, Df K mg "fits_row" s_fits_row ["parts", "row"] f fd)
    (h18 : ∃ f fd, Df K mg "three_points_verdict" s_three_points_verdict ["l", "m", "n"] f fd)
    (h19 : ∃ f fd, Df K mg "_law_deck" s__law_deck ["script"] f fd)
    (h20 : ∃ f fd, Df K mg "_law_draw" s__law_draw ["deck", "below"] f fd)
    (h21 : ∃ f fd, Df K mg "_law_pick" s__law_pick ["deck", "some"] f fd)
    (h22 : ∃ f fd, Df K mg "_law_same" s__law_same ["told", "due"] f fd)
    (h23 : ∃ f fd, Df K mg "_law_gcd" s__law_gcd ["one", "other"] f fd)
    (h24 : ∃ f fd, Df K mg "_law_pole" s__law_pole ["top", "bottom"] f fd)
    (h25 : ∃ f fd, Df K mg "_law_few" s__law_few ["deck", "many", "menu"] f fd)
    (h26 : ∃ f fd, Df K mg "_law_table" s__law_table ["at"] f fd)
    (h27 : ∃ f fd, Df K mg "_law_parity" s__law_parity ["top", "bottom"] f fd)
    (h28 : ∃ f fd, Df K mg "_law_parities" s__law_parities ["one", "other"] f fd)
    (h29 : ∃ f fd, Df K mg "_law_is_of" s__law_is_of ["some", "row"] f fd)
    (h30 : ∃ f fd, Df K mg "_law_word" s__law_word ["some"] f fd)
    (h31 : ∃ f fd, Df K mg "_law_any" s__law_any ["deck", "size"] f fd)
    (h32 : ∃ f fd, Df K mg "_law_turned" s__law_turned ["deck", "some"] f fd)
    (h33 : ∃ f fd, Df K mg "_law_triple" s__law_triple ["deck"] f fd)
    (h34 : ∃ f fd, Df K mg "_law_pair_of" s__law_pair_of ["deck"] f fd)
    (FL : Fun K "law" "law" s_law fL fdL) : FnG P w K mg base 8 fL fdL ["script"] (spLaw K) := by
  obtain ⟨f_is_integer, d_is_integer, D_is_integer⟩ := h0
  obtain ⟨f_is_tuple_of, d_is_tuple_of, D_is_tuple_of⟩ := h1
  obtain ⟨f_all_integers, d_all_integers, D_all_integers⟩ := h2
  obtain ⟨f_in_lowest_terms, d_in_lowest_terms, D_in_lowest_terms⟩ := h3
  obtain ⟨f_is_pole, d_is_pole, D_is_pole⟩ := h4
  obtain ⟨f_is_parameter, d_is_parameter, D_is_parameter⟩ := h5
  obtain ⟨f_check_parameters, d_check_parameters, D_check_parameters⟩ := h6
  obtain ⟨f_check_power, d_check_power, D_check_power⟩ := h7
  obtain ⟨f_parts_in, d_parts_in, D_parts_in⟩ := h8
  obtain ⟨f_tells_odd, d_tells_odd, D_tells_odd⟩ := h9
  obtain ⟨f_told_if, d_told_if, D_told_if⟩ := h10
  obtain ⟨f_power_verdict, d_power_verdict, D_power_verdict⟩ := h11
  obtain ⟨f_bessel_verdict, d_bessel_verdict, D_bessel_verdict⟩ := h12
  obtain ⟨f_weber_verdict, d_weber_verdict, D_weber_verdict⟩ := h13
  obtain ⟨f_whittaker_verdict, d_whittaker_verdict, D_whittaker_verdict⟩ := h14
  obtain ⟨f_signed, d_signed, D_signed⟩ := h15
  obtain ⟨f_lies_over, d_lies_over, D_lies_over⟩ := h16
  obtain ⟨f_fits_row, d_fits_row, D_fits_row⟩ := h17
  obtain ⟨f_three_points_verdict, d_three_points_verdict, D_three_points_verdict⟩ := h18
  obtain ⟨f__law_deck, d__law_deck, D__law_deck⟩ := h19
  obtain ⟨f__law_draw, d__law_draw, D__law_draw⟩ := h20
  obtain ⟨f__law_pick, d__law_pick, D__law_pick⟩ := h21
  obtain ⟨f__law_same, d__law_same, D__law_same⟩ := h22
  obtain ⟨f__law_gcd, d__law_gcd, D__law_gcd⟩ := h23
  obtain ⟨f__law_pole, d__law_pole, D__law_pole⟩ := h24
  obtain ⟨f__law_few, d__law_few, D__law_few⟩ := h25
  obtain ⟨f__law_table, d__law_table, D__law_table⟩ := h26
  obtain ⟨f__law_parity, d__law_parity, D__law_parity⟩ := h27
  obtain ⟨f__law_parities, d__law_parities, D__law_parities⟩ := h28
  obtain ⟨f__law_is_of, d__law_is_of, D__law_is_of⟩ := h29
  obtain ⟨f__law_word, d__law_word, D__law_word⟩ := h30
  obtain ⟨f__law_any, d__law_any, D__law_any⟩ := h31
  obtain ⟨f__law_turned, d__law_turned, D__law_turned⟩ := h32
  obtain ⟨f__law_triple, d__law_triple, D__law_triple⟩ := h33
  obtain ⟨f__law_pair_of, d__law_pair_of, D__law_pair_of⟩ := h34
  have p_is_integer := D_is_integer.kn (P := P) (w := w) (base := base) (ok_int D_is_integer.F T)
  have p_is_tuple_of := D_is_tuple_of.kn (P := P) (w := w) (base := base) (ok_tupOf D_is_tuple_of.F T)
  have p_all_integers := D_all_integers.kn (ok_allInt D_all_integers.F T p_is_integer)
  have p_in_lowest_terms := D_in_lowest_terms.kn (P := P) (w := w) (base := base) (ok_low D_in_lowest_terms.F T)
  have p_is_pole := D_is_pole.kn (P := P) (w := w) (base := base) (ok_is_pole  D_is_pole.F T p_is_tuple_of p_all_integers p_in_lowest_terms)
  have p_is_parameter := D_is_parameter.kn (P := P) (w := w) (base := base) (ok_is_parameter i_MOST_BOTTOM i_MOST_SIZE D_is_parameter.F T p_is_pole)
  have p_check_parameters : KnX P w K mg base 5 "check_parameters" ["things"] (spChkPar C_BadFraction) f_check_parameters d_check_parameters := ⟨ok_check_parameters B_BadFraction D_check_parameters.F T p_is_parameter, D_check_parameters.m, D_check_parameters.F.kp, D_check_parameters.b⟩
  have p_check_power : KnX P w K mg base 4 "check_power" ["n"] (spChkPow C_BadFraction) f_check_power d_check_power := ⟨ok_check_power i_MOST_SIZE B_BadFraction D_check_power.F T p_is_integer, D_check_power.m, D_check_power.F.kp, D_check_power.b⟩
  have p_parts_in := D_parts_in.kn (P := P) (w := w) (base := base) (ok_parts_in i_PARTS D_parts_in.F T )
  have p_tells_odd := D_tells_odd.kn (P := P) (w := w) (base := base) (ok_tells_odd i_PARTS D_tells_odd.F T )
  have p_told_if := D_told_if.kn (P := P) (w := w) (base := base) (ok_told_if i_QUOTIENT i_NOTHING D_told_if.F T )
  have p_power_verdict : KnX P w K mg base 5 "power_verdict" ["n"] (spPowV C_BadFraction) f_power_verdict d_power_verdict := ⟨ok_power_verdict w_TOLD_POWERS D_power_verdict.F T p_check_power p_told_if, D_power_verdict.m, D_power_verdict.F.kp, D_power_verdict.b⟩
  have p_bessel_verdict : KnX P w K mg base 6 "bessel_verdict" ["n"] (spOneV C_BadFraction) f_bessel_verdict d_bessel_verdict := ⟨ok_bessel_verdict  D_bessel_verdict.F T p_check_parameters p_told_if p_tells_odd p_parts_in, D_bessel_verdict.m, D_bessel_verdict.F.kp, D_bessel_verdict.b⟩
  have p_weber_verdict : KnX P w K mg base 6 "weber_verdict" ["a"] (spOneV C_BadFraction) f_weber_verdict d_weber_verdict := ⟨ok_weber_verdict  D_weber_verdict.F T p_check_parameters p_told_if p_tells_odd p_parts_in, D_weber_verdict.m, D_weber_verdict.F.kp, D_weber_verdict.b⟩
  have p_whittaker_verdict : KnX P w K mg base 6 "whittaker_verdict" ["k", "m"] (spTwoV C_BadFraction) f_whittaker_verdict d_whittaker_verdict := ⟨ok_whittaker_verdict i_PARTS D_whittaker_verdict.F T p_check_parameters p_told_if p_parts_in, D_whittaker_verdict.m, D_whittaker_verdict.F.kp, D_whittaker_verdict.b⟩
  have p_signed := D_signed.kn (P := P) (w := w) (base := base) (ok_signed  D_signed.F T )
  have p_lies_over := D_lies_over.kn (P := P) (w := w) (base := base) (ok_lies_over i_PARTS D_lies_over.F T p_parts_in)
  have p_fits_row := D_fits_row.kn (P := P) (w := w) (base := base) (ok_fits_row  D_fits_row.F T p_signed p_lies_over)
  have p_three_points_verdict : KnX P w K mg base 6 "three_points_verdict" ["l", "m", "n"] (spThreeV C_BadFraction) f_three_points_verdict d_three_points_verdict := ⟨ok_three_points_verdict i_QUOTIENT i_NOTHING w_ROWS D_three_points_verdict.F T p_check_parameters p_parts_in p_tells_odd p_fits_row, D_three_points_verdict.m, D_three_points_verdict.F.kp, D_three_points_verdict.b⟩
  have l_deck := D__law_deck.kn (P := P) (w := w) (base := base) (ok__law_deck  D__law_deck.F T )
  have l_draw := D__law_draw.kn (P := P) (w := w) (base := base) (ok__law_draw  D__law_draw.F T )
  have l_pick := D__law_pick.kn (P := P) (w := w) (base := base) (ok__law_pick  D__law_pick.F T l_draw)
  have l_same : KnG P w K mg base 1 "_law_same" ["told", "due"] spSame f__law_same d__law_same := ⟨ok__law_same sy D__law_same.F T , D__law_same.m, D__law_same.F.kp, D__law_same.b⟩
  have l_gcd := D__law_gcd.kn (P := P) (w := w) (base := base) (ok__law_gcd  D__law_gcd.F T )
  have l_pole := D__law_pole.kn (P := P) (w := w) (base := base) (ok__law_pole  D__law_pole.F T l_gcd)
  have l_few := D__law_few.kn (P := P) (w := w) (base := base) (ok__law_few  D__law_few.F T l_draw)
  have l_table := D__law_table.kn (P := P) (w := w) (base := base) (ok__law_table  D__law_table.F T )
  have l_parity := D__law_parity.kn (P := P) (w := w) (base := base) (ok__law_parity  D__law_parity.F T )
  have l_parities := D__law_parities.kn (P := P) (w := w) (base := base) (ok__law_parities  D__law_parities.F T l_parity)
  have l_is_of := D__law_is_of.kn (P := P) (w := w) (base := base) (ok__law_is_of  D__law_is_of.F T l_parities)
  have l_word := D__law_word.kn (P := P) (w := w) (base := base) (ok__law_word  D__law_word.F T l_parity l_table l_is_of)
  have l_any := D__law_any.kn (P := P) (w := w) (base := base) (ok__law_any  D__law_any.F T l_draw l_pick l_pole)
  have l_turned := D__law_turned.kn (P := P) (w := w) (base := base) (ok__law_turned  D__law_turned.F T l_pick l_few)
  have l_triple := D__law_triple.kn (P := P) (w := w) (base := base) (ok__law_triple  D__law_triple.F T l_draw l_pick l_table l_turned l_any l_pole)
  have l_pair_of := D__law_pair_of.kn (P := P) (w := w) (base := base) (ok__law_pair_of  D__law_pair_of.F T l_draw l_pick l_any l_pole)
  exact ok_law p_power_verdict.hush p_bessel_verdict.hush p_weber_verdict.hush p_whittaker_verdict.hush p_three_points_verdict.hush (bk_weber D_weber_verdict.F) (bk_whittaker D_whittaker_verdict.F) (bk_three D_three_points_verdict.F) FL T l_deck l_draw l_triple l_word l_same l_turned l_pair_of l_parity

end
theorem wr_mk {K : PySem.W.Frag} {x : Str} {d : PyData} {a : Addr} (e : PySem.W.nsIn K mainGlobals x = some (some (.ref a))) (r : WrD K (.ref a) d) : ∃ a, PySem.W.nsIn K mainGlobals x = some (some (.ref a)) ∧ WrD K (.ref a) d := ⟨a, e, r⟩
theorem all_mk {l : PySem.W.OpenLaw} {w : World} {K : PySem.W.Frag} {h : Heap} {mg : Str → Option Value} {fa fL : Addr} (X : K.In h) (G : h.Ns mainGlobals mg) (hfa : mg "law" = some (.ref fa))
    {S fS DS : Addr} {q qual : Str} {N : Addr} {bs : List Value} {sn : List Str} {sub : List Value} {ab : Bool} {col : Option Bool} {dd : Option Addr} {m0 m1 m2 m3 m5 : Option Value}
    {odS anS odD : Option Addr} {slS slD : Array (Option Value)} {ocS dcS pmS cdS ctS ocD : Value} {nD : Nat} {p1 p2 q1 q2 q3 q4 : Pos} {ds : List Expr}
    {odL anL : Option Addr} {slL : Array (Option Value)} {ocL kVL dcL pmL cdL ctL : Value} {t_MOST_BOTTOM : Tok} {t_MOST_SIZE : Tok} {t_PARTS : Tok} {t_QUOTIENT : Tok} {t_NOTHING : Tok}
    (aS : PySem.W.nsIn K mainGlobals "SlopeError" = some (some (.ref S)))
    (xS : K.lookup S = some (excClassObj "SlopeError" q S N bs PySem.Sl.xTail true sn sub ab col dd m0 m1 m2 m3 m5 "Exception.__new__"))
    (tS : PySem.W.typeIn K (.ref S) = some (.type "type")) (rS : PySem.W.readsIn K S (.type "type") = true) (gS : PySem.W.specialIn K (.ref S) "__getattribute__" = some (some (.builtin "type.__getattribute__")))
    (iS : PySem.W.findCls K (.ref S) (.type "type") "__init__" = some (.val (.ref fS))) (lS : K.lookup fS = some ⟨ocS, odS, .func (PySem.W.fnOf "__init__" qual (argsS p1 p2 ds) (bodyS q1 q2 q3 q4) scpS (.ref DS) .none dcS pmS anS cdS ctS), slS⟩)
    (vS : K.lookup DS = some ⟨ocD, odD, .seq #[.none] nD, slD⟩) (cS : PySem.W.codeIn K cdS qual = true) (kS : PySem.W.keepIn K (.ref fS) = true)
    (e0 : ∃ C f fd, ClsF K mg S "BadFraction" C f fd)
    (n0 : PySem.W.nsIn K mainGlobals "MOST_BOTTOM" = some (some (.int 12 t_MOST_BOTTOM)))
    (n1 : PySem.W.nsIn K mainGlobals "MOST_SIZE" = some (some (.int 6 t_MOST_SIZE)))
    (n2 : PySem.W.nsIn K mainGlobals "PARTS" = some (some (.int 27720 t_PARTS)))
    (m0 : PySem.W.nsIn K mainGlobals "QUOTIENT" = some (some (.str "quotient" t_QUOTIENT)))
    (m1 : PySem.W.nsIn K mainGlobals "NOTHING" = some (some (.str "nothing" t_NOTHING)))
    (w0 : ∃ a, PySem.W.nsIn K mainGlobals "TOLD_POWERS" = some (some (.ref a)) ∧ WrD K (.ref a) powD)
    (w1 : ∃ a, PySem.W.nsIn K mainGlobals "ROWS" = some (some (.ref a)) ∧ WrD K (.ref a) rowsD)
    (h0 : ∃ f fd, Df K mg "is_integer" sInt ["thing"] f fd)
    (h1 : ∃ f fd, Df K mg "is_tuple_of" sTupOf ["thing", "many"] f fd)
    (h2 : ∃ f fd, Df K mg "all_integers" sAllInt ["things"] f fd)
    (h3 : ∃ f fd, Df K mg "in_lowest_terms" sLowest ["top", "bottom"] f fd)
    (h4 : ∃ f fd, Df K mg "is_pole" s_is_pole ["thing"] f fd)
    (h5 : ∃ f fd, Df K mg "is_parameter" s_is_parameter ["thing"] f fd)
    (h6 : ∃ f fd, Df K mg "check_parameters" s_check_parameters ["things"] f fd)
    (h7 : ∃ f fd, Df K mg "check_power" s_check_power ["n"] f fd)
    (h8 : ∃ f fd, Df K mg "parts_in" s_parts_in ["fraction"] f fd)
    (h9 : ∃ f fd, Df K mg "tells_odd" s_tells_odd ["parts"] f fd)
    (h10 : ∃ f fd, Df K mg "told_if" s_told_if ["holds"] f fd)
    (h11 : ∃ f fd, Df K mg "power_verdict" s_power_verdict ["n"] f fd)
    (h12 : ∃ f fd, Df K mg "bessel_verdict" s_bessel_verdict ["n"] f fd)
    (h13 : ∃ f fd, Df K mg "weber_verdict" s_weber_verdict ["a"] f fd)
    (h14 : ∃ f fd, Df K mg "whittaker_verdict" s_whittaker_verdict ["k", "m"] f fd)
    (h15 : ∃ f fd, Df K mg "signed" s_signed ["parts"] f fd)
    (h16 : ∃ f fd, Df K mg "lies_over" s_lies_over ["parts", "row"] f fd)
    (h17 : ∃ f fd, Df K mg "fits_row" s_fits_row ["parts", "row"] f fd)
    (h18 : ∃ f fd, Df K mg "three_points_verdict" s_three_points_verdict ["l", "m", "n"] f fd)
    (h19 : ∃ f fd, Df K mg "_law_deck" s__law_deck ["script"] f fd)
    (h20 : ∃ f fd, Df K mg "_law_draw" s__law_draw ["deck", "below"] f fd)
    (h21 : ∃ f fd, Df K mg "_law_pick" s__law_pick ["deck", "some"] f fd)
    (h22 : ∃ f fd, Df K mg "_law_same" s__law_same ["told", "due"] f fd)
    (h23 : ∃ f fd, Df K mg "_law_gcd" s__law_gcd ["one", "other"] f fd)
    (h24 : ∃ f fd, Df K mg "_law_pole" s__law_pole ["top", "bottom"] f fd)
    (h25 : ∃ f fd, Df K mg "_law_few" s__law_few ["deck", "many", "menu"] f fd)
    (h26 : ∃ f fd, Df K mg "_law_table" s__law_table ["at"] f fd)
    (h27 : ∃ f fd, Df K mg "_law_parity" s__law_parity ["top", "bottom"] f fd)
    (h28 : ∃ f fd, Df K mg "_law_parities" s__law_parities ["one", "other"] f fd)
    (h29 : ∃ f fd, Df K mg "_law_is_of" s__law_is_of ["some", "row"] f fd)
    (h30 : ∃ f fd, Df K mg "_law_word" s__law_word ["some"] f fd)
    (h31 : ∃ f fd, Df K mg "_law_any" s__law_any ["deck", "size"] f fd)
    (h32 : ∃ f fd, Df K mg "_law_turned" s__law_turned ["deck", "some"] f fd)
    (h33 : ∃ f fd, Df K mg "_law_triple" s__law_triple ["deck"] f fd)
    (h34 : ∃ f fd, Df K mg "_law_pair_of" s__law_pair_of ["deck"] f fd)
    (z0 : PySem.W.nsIn K mainGlobals "int" = some none)
    (z1 : PySem.W.nsIn K mainGlobals "bool" = some none)
    (z2 : PySem.W.nsIn K mainGlobals "tuple" = some none)
    (z3 : PySem.W.nsIn K mainGlobals "list" = some none)
    (z4 : PySem.W.nsIn K mainGlobals "isinstance" = some none)
    (z5 : PySem.W.nsIn K mainGlobals "len" = some none)
    (z6 : PySem.W.nsIn K mainGlobals "all" = some none)
    (z7 : PySem.W.nsIn K mainGlobals "range" = some none)
    (z8 : PySem.W.nsIn K mainGlobals "abs" = some none)
    (z9 : PySem.W.nsIn K mainGlobals "repr" = some none)
    (z10 : PySem.W.nsIn K mainGlobals "zip" = some none)
    (z11 : PySem.W.nsIn K mainGlobals "max" = some none)
    (z12 : PySem.W.nsIn K mainGlobals "sorted" = some none)
    (z13 : PySem.W.nsIn K mainGlobals "str" = some none)
    (z14 : PySem.W.nsIn K mainGlobals "gcd" = some (some (.builtin "math.gcd")))
    (z15 : PySem.W.nsIn K mainGlobals "permutations" = some (some (.type "itertools.permutations")))
    (z16 : PySem.W.nsIn K mainGlobals "any" = some none)
    (z17 : PySem.W.nsIn K mainGlobals "sum" = some none)
    (aL : PySem.W.nsIn K mainGlobals "law" = some (some (.ref fL))) (lL : K.lookup fL = some ⟨ocL, odL, .func (PySem.W.fnOf "law" "law" (defArgs s_law) (defBody s_law) (defScope s_law) .none kVL dcL pmL anL cdL ctL), slL⟩) (cL : PySem.W.codeIn K cdL "law" = true) (kL : PySem.W.keepIn K (.ref fL) = true) :
    ∃ fd : FuncData, (∀ (s : Shared) (v : Value), BindsTo s fd ⟨[v], []⟩ [("script", v)]) ∧ ∀ base : Heap, K.In base → base.Ns mainGlobals mg → Sy base → FnG l.prog w K mg base 8 fa fd ["script"] (spLaw K) := by
  have e := hfa.symm.trans (PySem.W.mg_of X G aL)
  cases e
  have no : ∀ {x : Str}, PySem.W.nsIn K mainGlobals x = some none → mg x = none := fun z => PySem.W.mg_none_of X G z
  have T : Bt mg := ⟨no z0, no z1, no z2, no z3, no z4, no z5, no z6, no z7, no z8, no z9, no z10, no z11, no z12, no z13, PySem.W.mg_of X G z14, PySem.W.mg_of X G z15, no z16, no z17⟩
  have SB : SlB K mg S fS := ⟨PySem.W.mg_of X G aS, rS, gS, iS, kS⟩
  have SF : FunD K "__init__" qual (argsS p1 p2 ds) (bodyS q1 q2 q3 q4) scpS [.non] [] fS (PySem.W.fnOf "__init__" qual (argsS p1 p2 ds) (bodyS q1 q2 q3 q4) scpS (.ref DS) .none dcS pmS anS cdS ctS) :=
    ⟨⟨ocS, odS, .ref DS, .none, dcS, pmS, anS, cdS, ctS, slS, rfl, lS, cS, .inr ⟨by simp, DS, _, [.none], nD, rfl, vS, rfl, .cons rfl .nil⟩, .inl rfl⟩, kS⟩
  have cl : PySem.W.clsIn K S = some { name := "SlopeError", bases := bs, mro := .ref S :: PySem.Sl.xTail, ns := N, qualname := q, hasDict := true, slotNames := sn, subclasses := sub, abstract := ab, collection := col, hasDel := false } := by
    unfold PySem.W.clsIn; rw [xS]
  have sS : PySem.W.subIn K (.ref S) (.type "BaseException") = some true := by
    show PySem.W.mroIn K S (.type "BaseException") = _
    unfold PySem.W.mroIn
    rw [cl, Option.bind_some]
    show some ((Value.ref S :: PySem.Sl.xTail).contains (.type "BaseException")) = _
    rw [List.contains_cons, show PySem.Sl.xTail.contains (.type "BaseException") = true by decide +kernel, Bool.or_true]
  have neS : ∀ {n : Str} {C f : Addr} {fd : FuncData}, ClsF K mg S n C f fd → n ≠ "SlopeError" → C ≠ S := fun {n C f fd} A nn e => by
    obtain ⟨q', N', bs', sn', sub', ab', col', dd', k0', k1', k2', k3', k5', hx⟩ := A.at_
    rw [e] at hx
    have z := congrArg nmOf (Option.some.inj (hx.symm.trans xS))
    exact nn (show (n : Str) = "SlopeError" from z)
  obtain ⟨C_BadFraction, I_BadFraction, J_BadFraction, A_BadFraction⟩ := e0
  have ne_BadFraction := neS A_BadFraction (by decide +kernel)
  have ex_BadFraction : PySem.W.exmOne K (.ref C_BadFraction) (.ref C_BadFraction) = some true := by rw [(A_BadFraction.kit A_BadFraction ne_BadFraction).2, decide_eq_true rfl]
  obtain ⟨_, _, _, _, _, _, _, _, _, hl_BadFraction, FC_BadFraction⟩ := A_BadFraction.F
  exact ⟨_, fun s v => .of_eq rfl, fun base _ _ sy => all_ok sy T ⟨A_BadFraction.M, ok_slC hl_BadFraction FC_BadFraction SB (ok_slS SF) (bnd_slS SF), A_BadFraction.gC, fun u => bnd_sl1 FC_BadFraction u⟩ ex_BadFraction (A_BadFraction.up (by rw [cl]; rfl) tS sS).1 (PySem.W.mg_of X G aS) (PySem.W.mg_of X G n0) (PySem.W.mg_of X G n1) (PySem.W.mg_of X G n2) (PySem.W.mg_of X G m0) (PySem.W.mg_of X G m1) (let ⟨a, e, r⟩ := w0; ⟨a, PySem.W.mg_of X G e, r⟩) (let ⟨a, e, r⟩ := w1; ⟨a, PySem.W.mg_of X G e, r⟩) h0 h1 h2 h3 h4 h5 h6 h7 h8 h9 h10 h11 h12 h13 h14 h15 h16 h17 h18 h19 h20 h21 h22 h23 h24 h25 h26 h27 h28 h29 h30 h31 h32 h33 h34 (fun_mk (st := s_law) lL cL kL)⟩
end N3

open PySem PySem.W PyProof.Rows
set_option maxHeartbeats 0 in
theorem PySem.Challenge.cw_twiceslope_k73_verdicts_by_parameters_holds : PySem.Challenge.rw_twiceslope_k73_verdicts_by_parameters.Holds := by
  w_on; o_law; k_head; (case hw => w_witness2)
  k_fill
  refine L2.walk_idle (l := PySem.Challenge.rw_twiceslope_k73_verdicts_by_parameters) (n := 63) (k := 8) (x := "script") (sp := fun w => N3.spLaw _) rfl (by decide) rfl (by decide +kernel) ⟨rfl, by decide, by decide⟩ (fun w h Y => PySem.W.kIn_of Y) ?F (fun _ _ a ns hl _ hS => ⟨a, ns, rfl, hS, hl, fun _ => rfl⟩)
  case F =>
    intro w mg fa h KX G hmg
    refine' N3.all_mk KX G hmg ?aS ?xS ?tS ?rS ?gS ?iS ?lS ?vS ?cS ?kS ?e0 ?n0 ?n1 ?n2 ?m0 ?m1 ?w0 ?w1 ?d0 ?d1 ?d2 ?d3 ?d4 ?d5 ?d6 ?d7 ?d8 ?d9 ?d10 ?d11 ?d12 ?d13 ?d14 ?d15 ?d16 ?d17 ?d18 ?d19 ?d20 ?d21 ?d22 ?d23 ?d24 ?d25 ?d26 ?d27 ?d28 ?d29 ?d30 ?d31 ?d32 ?d33 ?d34 ?z0 ?z1 ?z2 ?z3 ?z4 ?z5 ?z6 ?z7 ?z8 ?z9 ?z10 ?z11 ?z12 ?z13 ?z14 ?z15 ?z16 ?z17 ?aL ?lL ?cL ?kL
    (case aS => k_is)
    (case xS => k_is)
    (case tS => k_is)
    (case rS => k_is)
    (case gS => k_is)
    (case iS => k_is)
    (case lS => k_is)
    (case vS => k_is)
    (case cS => k_is)
    (case kS => k_is)
    case e0 =>
      refine' ⟨_, _, _, L2.cls_mk KX G ?u_aC ?u_xL ?u_sa ?u_ga ?u_gg ?u_nb ?u_hc ?u_a1 ?u_t1 ?u_l1 ?u_c1 ?u_kf ?u_kC ?u_tC ?u_hn ?u_ht ?u_hl⟩
      (case u_aC => k_is)
      (case u_xL => k_is)
      (case u_sa => k_is)
      (case u_ga => k_is)
      (case u_gg => k_is)
      (case u_nb => k_is)
      (case u_hc => k_is)
      (case u_a1 => k_is)
      (case u_t1 => k_is)
      (case u_l1 => k_is)
      (case u_c1 => k_is)
      (case u_kf => k_is)
      (case u_kC => k_is)
      (case u_tC => k_is)
      (case u_hn => k_is)
      (case u_ht => k_is)
      (case u_hl => rfl)
    (case n0 => k_is)
    (case n1 => k_is)
    (case n2 => k_is)
    (case m0 => k_is)
    (case m1 => k_is)
    case w0 => (refine' N3.wr_mk ?v_a ?v_b; (case v_a => k_is); (case v_b => (repeat' (first | exact N3.WrL.nil | refine' N3.WrL.cons ?_ ?_ | exact N3.WrD.int .. | exact N3.WrD.str .. | (refine' N3.WrD.tup ?v_l ?v_h ?_; (case v_h => decide); (case v_l => k_is))))))
    case w1 => (refine' N3.wr_mk ?v_a ?v_b; (case v_a => k_is); (case v_b => (repeat' (first | exact N3.WrL.nil | refine' N3.WrL.cons ?_ ?_ | exact N3.WrD.int .. | exact N3.WrD.str .. | (refine' N3.WrD.tup ?v_l ?v_h ?_; (case v_h => decide); (case v_l => k_is))))))
    case d0 => (refine' N3.df_mk (st := N3.sInt) KX G ?v_a ?v_l ?v_c ?v_k N3.bd0; (case v_a => k_is); (case v_l => k_is); (case v_c => k_is); (case v_k => k_is))
    case d1 => (refine' N3.df_mk (st := N3.sTupOf) KX G ?v_a ?v_l ?v_c ?v_k N3.bd1; (case v_a => k_is); (case v_l => k_is); (case v_c => k_is); (case v_k => k_is))
    case d2 => (refine' N3.df_mk (st := N3.sAllInt) KX G ?v_a ?v_l ?v_c ?v_k N3.bd2; (case v_a => k_is); (case v_l => k_is); (case v_c => k_is); (case v_k => k_is))
    case d3 => (refine' N3.df_mk (st := N3.sLowest) KX G ?v_a ?v_l ?v_c ?v_k N3.bd3; (case v_a => k_is); (case v_l => k_is); (case v_c => k_is); (case v_k => k_is))
    case d4 => (refine' N3.df_mk (st := N3.s_is_pole) KX G ?v_a ?v_l ?v_c ?v_k N3.bd4; (case v_a => k_is); (case v_l => k_is); (case v_c => k_is); (case v_k => k_is))
    case d5 => (refine' N3.df_mk (st := N3.s_is_parameter) KX G ?v_a ?v_l ?v_c ?v_k N3.bd5; (case v_a => k_is); (case v_l => k_is); (case v_c => k_is); (case v_k => k_is))
    case d6 => (refine' N3.df_mk (st := N3.s_check_parameters) KX G ?v_a ?v_l ?v_c ?v_k N3.bd6; (case v_a => k_is); (case v_l => k_is); (case v_c => k_is); (case v_k => k_is))
    case d7 => (refine' N3.df_mk (st := N3.s_check_power) KX G ?v_a ?v_l ?v_c ?v_k N3.bd7; (case v_a => k_is); (case v_l => k_is); (case v_c => k_is); (case v_k => k_is))
    case d8 => (refine' N3.df_mk (st := N3.s_parts_in) KX G ?v_a ?v_l ?v_c ?v_k N3.bd8; (case v_a => k_is); (case v_l => k_is); (case v_c => k_is); (case v_k => k_is))
    case d9 => (refine' N3.df_mk (st := N3.s_tells_odd) KX G ?v_a ?v_l ?v_c ?v_k N3.bd9; (case v_a => k_is); (case v_l => k_is); (case v_c => k_is); (case v_k => k_is))
    case d10 => (refine' N3.df_mk (st := N3.s_told_if) KX G ?v_a ?v_l ?v_c ?v_k N3.bd10; (case v_a => k_is); (case v_l => k_is); (case v_c => k_is); (case v_k => k_is))
    case d11 => (refine' N3.df_mk (st := N3.s_power_verdict) KX G ?v_a ?v_l ?v_c ?v_k N3.bd11; (case v_a => k_is); (case v_l => k_is); (case v_c => k_is); (case v_k => k_is))
    case d12 => (refine' N3.df_mk (st := N3.s_bessel_verdict) KX G ?v_a ?v_l ?v_c ?v_k N3.bd12; (case v_a => k_is); (case v_l => k_is); (case v_c => k_is); (case v_k => k_is))
    case d13 => (refine' N3.df_mk (st := N3.s_weber_verdict) KX G ?v_a ?v_l ?v_c ?v_k N3.bd13; (case v_a => k_is); (case v_l => k_is); (case v_c => k_is); (case v_k => k_is))
    case d14 => (refine' N3.df_mk (st := N3.s_whittaker_verdict) KX G ?v_a ?v_l ?v_c ?v_k N3.bd14; (case v_a => k_is); (case v_l => k_is); (case v_c => k_is); (case v_k => k_is))
    case d15 => (refine' N3.df_mk (st := N3.s_signed) KX G ?v_a ?v_l ?v_c ?v_k N3.bd15; (case v_a => k_is); (case v_l => k_is); (case v_c => k_is); (case v_k => k_is))
    case d16 => (refine' N3.df_mk (st := N3.s_lies_over) KX G ?v_a ?v_l ?v_c ?v_k N3.bd16; (case v_a => k_is); (case v_l => k_is); (case v_c => k_is); (case v_k => k_is))
    case d17 => (refine' N3.df_mk (st := N3.s_fits_row) KX G ?v_a ?v_l ?v_c ?v_k N3.bd17; (case v_a => k_is); (case v_l => k_is); (case v_c => k_is); (case v_k => k_is))
    case d18 => (refine' N3.df_mk (st := N3.s_three_points_verdict) KX G ?v_a ?v_l ?v_c ?v_k N3.bd18; (case v_a => k_is); (case v_l => k_is); (case v_c => k_is); (case v_k => k_is))
    case d19 => (refine' N3.df_mk (st := N3.s__law_deck) KX G ?v_a ?v_l ?v_c ?v_k N3.bd19; (case v_a => k_is); (case v_l => k_is); (case v_c => k_is); (case v_k => k_is))
    case d20 => (refine' N3.df_mk (st := N3.s__law_draw) KX G ?v_a ?v_l ?v_c ?v_k N3.bd20; (case v_a => k_is); (case v_l => k_is); (case v_c => k_is); (case v_k => k_is))
    case d21 => (refine' N3.df_mk (st := N3.s__law_pick) KX G ?v_a ?v_l ?v_c ?v_k N3.bd21; (case v_a => k_is); (case v_l => k_is); (case v_c => k_is); (case v_k => k_is))
    case d22 => (refine' N3.df_mk (st := N3.s__law_same) KX G ?v_a ?v_l ?v_c ?v_k N3.bd22; (case v_a => k_is); (case v_l => k_is); (case v_c => k_is); (case v_k => k_is))
    case d23 => (refine' N3.df_mk (st := N3.s__law_gcd) KX G ?v_a ?v_l ?v_c ?v_k N3.bd23; (case v_a => k_is); (case v_l => k_is); (case v_c => k_is); (case v_k => k_is))
    case d24 => (refine' N3.df_mk (st := N3.s__law_pole) KX G ?v_a ?v_l ?v_c ?v_k N3.bd24; (case v_a => k_is); (case v_l => k_is); (case v_c => k_is); (case v_k => k_is))
    case d25 => (refine' N3.df_mk (st := N3.s__law_few) KX G ?v_a ?v_l ?v_c ?v_k N3.bd25; (case v_a => k_is); (case v_l => k_is); (case v_c => k_is); (case v_k => k_is))
    case d26 => (refine' N3.df_mk (st := N3.s__law_table) KX G ?v_a ?v_l ?v_c ?v_k N3.bd26; (case v_a => k_is); (case v_l => k_is); (case v_c => k_is); (case v_k => k_is))
    case d27 => (refine' N3.df_mk (st := N3.s__law_parity) KX G ?v_a ?v_l ?v_c ?v_k N3.bd27; (case v_a => k_is); (case v_l => k_is); (case v_c => k_is); (case v_k => k_is))
    case d28 => (refine' N3.df_mk (st := N3.s__law_parities) KX G ?v_a ?v_l ?v_c ?v_k N3.bd28; (case v_a => k_is); (case v_l => k_is); (case v_c => k_is); (case v_k => k_is))
    case d29 => (refine' N3.df_mk (st := N3.s__law_is_of) KX G ?v_a ?v_l ?v_c ?v_k N3.bd29; (case v_a => k_is); (case v_l => k_is); (case v_c => k_is); (case v_k => k_is))
    case d30 => (refine' N3.df_mk (st := N3.s__law_word) KX G ?v_a ?v_l ?v_c ?v_k N3.bd30; (case v_a => k_is); (case v_l => k_is); (case v_c => k_is); (case v_k => k_is))
    case d31 => (refine' N3.df_mk (st := N3.s__law_any) KX G ?v_a ?v_l ?v_c ?v_k N3.bd31; (case v_a => k_is); (case v_l => k_is); (case v_c => k_is); (case v_k => k_is))
    case d32 => (refine' N3.df_mk (st := N3.s__law_turned) KX G ?v_a ?v_l ?v_c ?v_k N3.bd32; (case v_a => k_is); (case v_l => k_is); (case v_c => k_is); (case v_k => k_is))
    case d33 => (refine' N3.df_mk (st := N3.s__law_triple) KX G ?v_a ?v_l ?v_c ?v_k N3.bd33; (case v_a => k_is); (case v_l => k_is); (case v_c => k_is); (case v_k => k_is))
    case d34 => (refine' N3.df_mk (st := N3.s__law_pair_of) KX G ?v_a ?v_l ?v_c ?v_k N3.bd34; (case v_a => k_is); (case v_l => k_is); (case v_c => k_is); (case v_k => k_is))
    (case z0 => k_is)
    (case z1 => k_is)
    (case z2 => k_is)
    (case z3 => k_is)
    (case z4 => k_is)
    (case z5 => k_is)
    (case z6 => k_is)
    (case z7 => k_is)
    (case z8 => k_is)
    (case z9 => k_is)
    (case z10 => k_is)
    (case z11 => k_is)
    (case z12 => k_is)
    (case z13 => k_is)
    (case z14 => k_is)
    (case z15 => k_is)
    (case z16 => k_is)
    (case z17 => k_is)
    (case aL => k_is)
    (case lL => k_is)
    (case cL => k_is)
    (case kL => k_is)
