import PyProof.Rows.All
import Wide.All
import OpenK.AllK
import Wide.FinOn
import HandS.ForMost
import HandS.ForExc
import HandS.ExcSuper
import HandS.ClsMeth
import KE.KExcIs
import HandS.ExcInit
import HandS.IsInst
import HandS.HotCalls
import HandS.Defaults
import HandS.Iter
import KE.GoesEnum
import HandS.Ends
import PyProof.ReprRoads
import PyProof.RowDictHeap
import HandS.Dict
import PyProof.Rows.RegStrFacts
import HandS.Style
import HandS.TupAny
import HandS.Wide
import HandS.Codes
import HandS.Walk
import HandS.Gcd
import HandS.Comp
import Flt.RightSqrt
import HandS.Zip
import HandS.More
import PyProof.StrLawsRepr
import PySem.Challenge.RW_twiceslope_k02_any_value_as_a_number
set_option Elab.async false
set_option linter.all false
set_option maxRecDepth 100000
set_option maxHeartbeats 4000000
namespace PySem
namespace Sl
open PySem.W PySem.Calls PyProof.Rows PySem.HandSPX
open Builtin Builtin.ObjectAttr
/-- own classes, then Exception's line -/
abbrev xTail : List Value := [.type "Exception", .type "BaseException", .type "object"]
def refsX : List Value → Bool
  | .ref _ :: r => refsX r
  | l => l == xTail
theorem refsX_two (a b : Addr) : refsX (.ref a :: .ref b :: xTail) = true := by
  show (xTail == xTail) = true
  decide +kernel
/-- the class at C stands over SlopeError at S -/
structure SubCls (K : Frag) (C S : Addr) : Prop where
  cls : ∃ nm q N bs sn sub ab col dd k0 k1 k2 k3 k5, K.lookup C = some (excClassObj nm q C N bs (.ref S :: xTail) true sn sub ab col dd k0 k1 k2 k3 k5 "Exception.__new__")
theorem pass_sub (self : Value) (C S : Addr) : refuseLoop self "__setattr__" (.ref C :: .ref S :: xTail) = pure () := by
  rw [refuseLoop_ref, refuseLoop_ref]
  exact F.store_Exception.passes self
theorem has_sub (C S : Addr) (T : String) (hT : xTail.contains (.type T) = true) : (Value.ref C :: .ref S :: xTail).contains (.type T) = true := by
  rw [List.contains_cons, List.contains_cons, hT]
  simp
theorem tail_sub (S : Addr) (T : String) : (Value.ref S :: xTail).contains (.type T) = xTail.contains (.type T) := by
  rw [List.contains_cons]
  rfl
end Sl
end PySem
namespace PySem
namespace Sl
open PySem.W PySem.Calls PyProof.Rows PySem.HandSPX
open Builtin Builtin.ObjectAttr
section
variable {prog : Program} {w : World} {A : Around} {E : Value → Shared → Prop} {R : Result → Shared → Prop} {hp : Heap} {g : Array GenState} {d : Drawn} {t : Nat} {os : OsState}
/-- self.name = v on a fresh exception of such a class -/
theorem osa_sub {K : W.Frag} {name : Str} {tk : Tok} {v : Value} {x C S : Addr} {fv : Array Value} {cd : ClassData}
    (X : K.In hp) (hx : hp.get? x = some { cls := .ref C, data := .fields fv }) (hcd : W.clsIn K C = some cd) (hm : cd.mro = .ref C :: .ref S :: xTail) (hh : cd.hasDict = true) (ha : W.findIn K (.ref C) name = some none)
    (hq : ∀ h' tk' dx, (∀ b o, b ≠ x → hp.get? b = some o → h'.get? b = some o) → hp.objs.size ≤ dx → dx ≠ x →
      h'.get? x = some { cls := .ref C, dict := some dx, data := .fields fv } → h'.Ns1 dx (fun y => if y = name then some v else none) → R (.ok (.ret .none)) ⟨h', g, d, tk', os⟩) :
    codeAny (model prog w) A (.call (.builtin "object.__setattr__") ⟨[.ref x, .str name tk, v], []⟩) R ⟨hp, g, d, t, os⟩ := by
  have I : W.InstAt hp x { cls := .ref C, data := .fields fv } C none := ⟨hx, rfl, rfl, trivial⟩
  have far : x ≠ hp.objs.size := Nat.ne_of_lt (Heap.lt_size hx)
  have mo : W.mroIn K C (.type "object") = some true := by
    unfold W.mroIn
    rw [hcd, Option.bind_some, hm, if_neg (show ¬ (List.isEmpty (Value.ref C :: .ref S :: xTail) = true) from Bool.false_ne_true), has_sub C S "object" (by decide +kernel)]
  have lm : W.Looks (model prog w) hp (isInstance (.ref x) (.type "object")) true := I.type.andThen (W.looks_mroIn X mo)
  have lr : W.Looks (model prog w) hp (mroOf (.ref C)) cd.mro := (W.looks_clsIn X hcd).andThen .now
  have lt : W.Looks (model prog w) hp (storeTaker? none) none := .now
  have lc : W.Looks (model prog w) hp (classData C) cd := W.looks_clsIn X hcd
  have stops : refuseLoop (.ref x) "__setattr__" cd.mro = pure () := by rw [hm]; exact pass_sub _ C S
  refine codeAny_call_builtin F.store_object.slot.plain F.store_object.entry
    (@W.check_slot (model prog w) _ _ ⟨hp, g, d, t, os⟩ "object.__setattr__" "object" "__setattr__" (.ref x) [.str name tk, v] [] _ F.store_object.kind F.store_object.split lm (F.store_object.args (.ref x) (.str name tk) v) ?_)
  rw [W.osa_eq, refuse_eq]
  refine wpAny_bind (wpAny_bind (I.type.at (wpAny_bind (lr.at ?_)))); rw [stops]
  refine wpAny_pure (wpAny_bind (I.type.at (wpAny_bind ((W.looks_findIn X ha).at (wpAny_bind (lt.at ?_))))))
  show wpAny _ _ (storeInOwnDict (.ref x) (.ref C) (.str name tk) name v false) _ _ _
  obtain ⟨nm, bs, mro, ns, qn, hd, sn, sb, ab, col, del⟩ := cd
  dsimp only at hh; subst hh
  unfold storeInOwnDict ownDictForStores
  repeat (first
    | with_reducible refine HandSPX.store_in_new ?_ ?_
    | with_reducible refine wpAny_loadPart_at hx ?_
    | with_reducible refine lc.at ?_
    | wp_step)
  · exact ⟨_, #[], _, (Heap.get?_update_ne _ _ _ _ far.symm).trans (Heap.get?_push_at rfl rfl), rfl, fun e he => absurd he (by simp), fun _ => rfl⟩
  · intro h' tk' hn' hs
    have hx1 : (hp.push { cls := .type "dict", data := .dict #[] }).get? x = some { cls := .ref C, data := .fields fv } := Heap.get?_push_of_some _ hx
    refine hq h' tk' hp.objs.size (fun b o hb ho => ?_) (Nat.le_refl _) far.symm ?_ hn'
    · exact (hs.2 b (Nat.ne_of_lt (Heap.lt_size ho))).trans ((Heap.get?_update_ne _ _ _ _ hb).trans (Heap.get?_push_of_some _ ho))
    · exact (hs.2 x far).trans (Heap.get?_update_self _ hx1 rfl)
end
end Sl
end PySem

namespace PySem
namespace Sl
open PySem.W PySem.Calls PyProof.Rows PySem.HandSPX
open Builtin Builtin.ObjectAttr
section
variable {M : Model} {A : Around} {E : Value → Shared → Prop} {h : Heap} {g : Array GenState} {d : Drawn} {t : Nat} {os : OsState}
variable {nm q : Str} {C N : Addr} {bs bm : List Value} {hdct : Bool} {sn : List Str} {sub : List Value} {ab : Bool} {col : Option Bool} {dd : Option Addr} {k0 k1 k2 k3 k5 : Option Value}
abbrev xb := F.excBase_Exception
theorem check_kw (hT : ∀ T : String, bm.contains (.type T) = xTail.contains (.type T)) {rest : List Value} {kw : List (Str × Value)} {Q : Unit → Shared → Prop}
    (hC : h.get? C = some (excClassObj nm q C N bs bm hdct sn sub ab col dd k0 k1 k2 k3 k5 "Exception.__new__")) (hq : Q () ⟨h, g, d, t, os⟩) :
    wpAny M A (checkBuiltinCall "Exception.__new__" ⟨.ref C :: rest, kw⟩) Q E ⟨h, g, d, t, os⟩ := by
  have hcont : (Value.ref C :: bm).contains (.type "Exception") = true := by rw [List.contains_cons, hT, xb.hasB, Bool.or_true]
  have hstar := xb.noStar
  simp only [checkBuiltinCall, xb.newKind, xb.newSplit, xb.newRow]
  repeat (first
    | refine wpAny_loadPart_at hC ?_
    | (refine wpAny_isSubtype_exc hC ?_; rw [hcont])
    | refine wpAny_staticBase_exc hC ?_
    | refine wpAny_madeBy_exc hC ?_
    | simp only [bne_self_eq_false, Bool.false_eq_true, if_false]
    | wp_step)
  exact hq
end
section
variable {prog : Program} {w : World} {A : Around} {E : Value → Shared → Prop} {R : Result → Shared → Prop} {h : Heap} {g : Array GenState} {d : Drawn} {t : Nat} {os : OsState}
variable {nm q : Str} {C N : Addr} {bs bm : List Value} {hdct : Bool} {sn : List Str} {sub : List Value} {ab : Bool} {col : Option Bool} {dd : Option Addr} {k0 k1 k2 k3 k5 : Option Value}
theorem new_kw (hT : ∀ T : String, bm.contains (.type T) = xTail.contains (.type T)) {rest : List Value} {kw : List (Str × Value)}
    (hC : h.get? C = some (excClassObj nm q C N bs bm hdct sn sub ab col dd k0 k1 k2 k3 k5 "Exception.__new__"))
    (hq : R (.ok (.ret (.ref (h.objs.size + 1)))) ⟨(h.push (W.kdv_tup rest)).push (excO C h.objs.size), g, d, t, os⟩) (hrest : rest.length ≤ sizeLine) :
    codeAny (model prog w) A (.builtin "Exception.__new__" ⟨.ref C :: rest, kw⟩) R ⟨h, g, d, t, os⟩ := by
  have hends := xb.ends
  have hcB : (Value.ref C :: bm).contains (.type "Exception") = true := by rw [List.contains_cons, hT, xb.hasB, Bool.or_true]
  have hcA : (Value.ref C :: bm).contains (.type "AttributeError") = false := by rw [List.contains_cons, hT, xb.noAttr]; rfl
  have hcN : (Value.ref C :: bm).contains (.type "NameError") = false := by rw [List.contains_cons, hT, xb.noName]; rfl
  refine codeAny_builtinAt xb.entry ?_
  unfold Builtin.«BaseException.__new__»
  refine wpAt_bind ?_
  show wpAt _ _ _ (stack >>= _) _ _ _
  refine wpAt_bind (wpAt_stack fun p below => wpAt_of_wpAny ?_)
  wp_walk
  refine wpAt_of_wpAny ?_
  rw [xb.owner]
  repeat (first
    | with_reducible refine wpAny_madeHere_exc xb.canon hC ?_
    | with_reducible refine wpAny_loadPart_at hC ?_
    | (with_reducible refine wpAny_isSubtype_exc hC ?_; first | rw [hcB] | rw [hcA] | rw [hcN])
    | wp_step)
  show R _ _
  rw [Heap.size_push]
  exact hq
theorem call_kw (hT : ∀ T : String, bm.contains (.type T) = xTail.contains (.type T)) {rest : List Value} {kw : List (Str × Value)} {fI : Addr}
    (hC : h.get? C = some (excClassObj nm q C N bs bm hdct sn sub ab col dd k0 k1 k2 k3 k5 "Exception.__new__"))
    (hi : W.Looks (model prog w) h (typeLookup (.ref C) "__init__") (some (.ref fI))) (hb : ∀ self, W.Looks (model prog w) h (bindSpecial (.ref fI) self) (.ref fI, [self])) (hrest : rest.length ≤ sizeLine)
    (hq : codeAny (model prog w) (A.under (.builtin "type.__call__" ⟨.ref C :: rest, kw⟩)) (.call (.ref fI) ⟨.ref (h.objs.size + 1) :: rest, kw⟩) (W.InitBack (h.objs.size + 1) R)
      ⟨(h.push (W.kdv_tup rest)).push (excO C h.objs.size), g, d, t, os⟩) :
    codeAny (model prog w) A (.call (.ref C) ⟨rest, kw⟩) R ⟨h, g, d, t, os⟩ := by
  have f1 := tc_lookup
  have f2 := tc_bind (.ref C)
  have f3 := tc_sub
  have hTy : (⟨h, g, d, t, os⟩ : Shared).TypeIs (.ref C) "type" := ⟨_, hC, rfl⟩
  refine codeAny_of_tree ?_
  show wpAny _ _ (callAny (.ref C) _) _ _ _
  repeat (any_goals (first | assumption | with_reducible refine wpAny_loadPart_at hC ?_ | wp_step))
  refine ⟨rfl, ?_⟩
  refine codeAny_call_builtin_at (Code.quiet_builtin _ (by decide +kernel)) entry_typeCall ?_
  have after : wpAny (model prog w) (A.under (.builtin "type.__call__" ⟨.ref C :: rest, kw⟩)) (Builtin.«type.__call__» ⟨.ref C :: rest, kw⟩)
      (fun fin s' => match fin with | .done f => R (.ok f) s' | .again c' => c'.quiet = true ∧ codeAny (model prog w) A c' R s') (fun e s' => R (.error e) s') ⟨h, g, d, t, os⟩ := by
    repeat (first | with_reducible refine wpAny_loadPart_at hC ?_ | with_reducible refine wpAny_madeBy_exc hC ?_ | wp_step)
    refine codeAny_call_builtin_code (Code.quiet_builtin _ xb.quiet) (check_kw hT hC ?_)
    refine new_kw hT hC ?_ hrest
    show wpAny _ _ _ _ _ _
    have k : ∀ b o, h.get? b = some o → ((h.push (W.kdv_tup rest)).push (excO C h.objs.size)).get? b = some o := fun b o e => Heap.get?_push_of_some _ (Heap.get?_push_of_some _ e)
    have hC1 := k _ _ hC
    have hget : ((h.push (W.kdv_tup rest)).push (excO C h.objs.size)).get? (h.objs.size + 1) = some (excO C h.objs.size) := by heap_get
    have hcC : (Value.ref C :: bm).contains (.ref C) = true := by simp
    have i1 := hi.keeps k
    have b1 := (hb (.ref (h.objs.size + 1))).keeps k
    unfold isInstance
    repeat (first
      | with_reducible refine wpAny_loadPart_at hget ?_
      | (with_reducible refine wpAny_isSubtype_exc hC1 ?_; rw [hcC])
      | wp_step)
    show wpAny _ _ (typeLookup (.ref C) _) _ _ _
    refine i1.at ?_
    refine wpAny_holding (wpAny_bind (b1.at ?_))
    refine wpAny_bind (wpAny_call (codeAny_mono hq fun r s' z => ?_))
    rcases r with e | (v | _ | _ | _) <;> first | exact z | exact z.elim | skip
    obtain ⟨rfl, z⟩ := z
    first
      | exact wpAny_pure (wpAny_pure z)
      | (wp_walk; exact z)
  simp only [checkBuiltinCall, tc_kind, tc_split]
  repeat (any_goals (first | exact after | assumption | with_reducible refine wpAny_loadPart_at hC ?_ | with_reducible refine wpAny_onRaise ?_ | with_reducible refine wpAny_map ?_ | wp_step))
end
end Sl
end PySem

namespace L2
open PySem PySem.Spec PyProof.Rows
/-- what the written part says of an error's class at C, over SlopeError at S -/
structure SlC (K : PySem.W.Frag) (C S : Addr) : Prop where
  cls : PySem.Sl.SubCls K C S
  sa : PySem.W.findIn K (.ref C) "__setattr__" = some (some (.builtin "object.__setattr__"))
  exC : PySem.W.subIn K (.ref C) (.type "BaseException") = some true
  tyC : PySem.W.typeIn K (.ref C) = some (.type "type")
  kC : PySem.W.keepIn K (.ref C) = true
  ga : PySem.W.findIn K (.ref C) "__getattribute__" = some (some (.builtin "BaseException.__getattribute__"))
  gg : PySem.W.findIn K (.ref C) "__getattr__" = some none
  noT : PySem.W.findIn K (.ref C) "thing" = some none
  hd : PySem.W.hasDictIn K C = true
  hc : PySem.W.findIn K (.ref C) "__class__" = some (some (.builtin "object.__class__"))
  hn : PySem.W.specialIn K (.builtin "object.__class__") "__get__" = some (some (.builtin "getset_descriptor.__get__"))
  ht : PySem.W.takesIn K (.builtin "object.__class__") = some true
  hm : PySem.W.mroIn K C (.type "object") = some true
theorem SlC.clsIn {K : PySem.W.Frag} {C S : Addr} (T : SlC K C S) : ∃ cd : ClassData, PySem.W.clsIn K C = some cd ∧ cd.mro = .ref C :: .ref S :: PySem.Sl.xTail ∧ cd.hasDict = true := by
  obtain ⟨nm, q, N, bs, sn, sub, ab, col, dd, k0, k1, k2, k3, k5, hC⟩ := T.cls
  refine ⟨{ name := nm, bases := bs, mro := .ref C :: .ref S :: PySem.Sl.xTail, ns := N, qualname := q, hasDict := true, slotNames := sn, subclasses := sub, abstract := ab, collection := col, hasDel := false }, ?_, rfl, rfl⟩
  unfold PySem.W.clsIn
  rw [hC]
section
variable {X : Cx} {pins : List (Addr × Obj)} {σ : St} {H : Hp} {s : Shared} {a C S dx : Addr} {y : V} {u : Value} {A : Around} {E : Value → Shared → Prop}
/-- self.thing = y, self a fresh error -/
theorem sl_store {Q : Unit → Shared → Prop} (T : SlC X.K C S) (I : Inv X pins σ H s) (e : H a = some (exo a C none)) (ry : RelV y u)
    (h : ∀ dx s', H dx = none → dx ≠ a → Inv X pins σ (upd (upd H dx (exd dx [("thing", y)])) a (exo a C (some dx))) s' → Q () s') :
    wpAny (model X.prog X.w) A (setAttr (.ref a) "thing" u) Q E s := by
  obtain ⟨cd, hcl, hmr, hdi⟩ := T.clsIn
  obtain ⟨t1, ho⟩ := exo_at I.hok e
  obtain ⟨hp, g, d, t, os⟩ := s
  refine PySem.W.set_plain I.kIn (ox := { cls := .ref C, dict := none, data := .fields #[.ref t1, .none, .none, .none, .bool false, .none] }) (od := none) ⟨ho, rfl, rfl, trivial⟩ T.sa ?_
  refine PySem.Sl.osa_sub I.kIn ho hcl hmr hdi T.noT (fun h' tk' dx k dn dne hx hn => ?_)
  have hnd : H dx = none := I.hok.fresh dn
  have nd : ∀ {b : Addr} {o : Obj}, hp.get? b = some o → b ≠ dx := fun {b o} q => Nat.ne_of_lt (Nat.lt_of_lt_of_le (Heap.lt_size q) dn)
  have na : ∀ {b : Addr}, H b = none → b ≠ a := fun {b} n z => by rw [z, e] at n; cases n
  have U : Un X.fs [] H (upd (upd H dx (exd dx [("thing", y)])) a (exo a C (some dx))) hp h' := {
    keep := fun b o q n _ _ => k b o (na n) q
    slot := fun b o q n _ _ => ⟨o.slots, k b o (na n) q⟩
    free := fun b o q n _ => by rw [upd_ne (na n), upd_ne (nd q)]; exact n
    there := fun b o q _ => by
      by_cases hb : b = a
      · rw [hb]; exact ⟨_, hx⟩
      · exact ⟨o, k b o hb q⟩
    tups := fun b xs q => by rw [upd_ne (at_ne e q exo_tup), upd_ne (ne_of_none q hnd)]; exact q
    frzs := fun b o v q => by rw [upd_ne (at_ne e q exo_frz), upd_ne (ne_of_none q hnd)]; exact q
    tbls := fun b ps q => ⟨#[], by rw [upd_ne (at_ne e q exo_tbl), upd_ne (ne_of_none q hnd), q]; simp⟩ }
  refine h dx _ hnd dne (I.un (t' := tk') U fun b o q => ?_)
  by_cases hb : b = a
  · subst hb
    rw [upd_same] at q; cases q
    exact exo_ok hx
  · rw [upd_ne hb] at q
    by_cases hd : b = dx
    · subst hd
      rw [upd_same] at q; cases q
      exact exd_ok hn (relO_put (fs := []) ry fun g => True.intro)
    · rw [upd_ne hd] at q
      refine (I.hok b o q).stay (fun c v hc z => k c v ?_ z) (fun c hc => ?_) (fun c xs hc => ?_)
      · rcases hc with hc | hc
        · rw [hc]; exact hb
        · exact at_ne e hc exo_own
      · rw [upd_ne (at_ne e hc exo_own), upd_ne (ne_of_none hc hnd)]; exact hc
      · rw [upd_ne (at_ne e hc exo_tup), upd_ne (ne_of_none hc hnd)]; exact hc
/-- the reading of self.thing = e -/
def tSto (K : PySem.W.Frag) (to te : TE) : TS := fun D σ H => te σ H fun y H1 => to σ H1 fun x H2 => ∃ a C S : Addr, x = .ref a ∧ SlC K C S ∧ H2 a = some (exo a C none) ∧
  ∀ dx, H2 dx = none → dx ≠ a → D.nx σ (upd (upd H2 dx (exd dx [("thing", y)])) a (exo a C (some dx)))
theorem ps_sto {o e : Expr} {to te : TE} {p' pos : Pos} (ho : PE X o to) (he : PE X e te) (hs : swapsWith e (some (.Attribute o "thing" p')) pos.line X.env = pure false := by rfl) :
    PS X (.Assign [.Attribute o "thing" p'] e pos) (tSto X.K to te) := by
  refine ⟨fun pins s σ H D I h => ?_⟩
  refine plainObj_wpAny_Assign_Attribute (thn (he.run pins s σ H _ I h) fun v s1 ⟨y, H1, I1, r1, q1⟩ => thn (ho.run pins s1 σ H1 _ I1 q1) fun u s2 ⟨x, H2, I2, r2, a, C, S, ex, T, ea, q⟩ => ?_) hs
  subst ex
  obtain rfl : u = Value.ref a := r2
  exact sl_store T I2 ea r1 fun dx s' n ne J => ⟨σ, _, J, q dx n ne⟩
end
/-- the promise of both __init__: the error at a, fresh, gets its dict with the thing -/
def spSet (K : PySem.W.Frag) : Sp := fun vs H Q _ => ∃ (a C S : Addr) (y : V), vs = [.ref a, y] ∧ SlC K C S ∧ H a = some (exo a C none) ∧
  ∀ dx, H dx = none → dx ≠ a → Q .non (upd (upd H dx (exd dx [("thing", y)])) a (exo a C (some dx)))
/-- SlopeError's class at S, its __init__ at fS -/
structure SlB (K : PySem.W.Frag) (mg : Str → Option Value) (S fS : Addr) : Prop where
  mgS : mg "SlopeError" = some (.ref S)
  rd : PySem.W.readsIn K S (.type "type") = true
  ga : PySem.W.specialIn K (.ref S) "__getattribute__" = some (some (.builtin "type.__getattribute__"))
  at_ : PySem.W.findCls K (.ref S) (.type "type") "__init__" = some (.val (.ref fS))
  kf : PySem.W.keepIn K (.ref fS) = true
section
variable {X : Cx} {S fS : Addr} {k : Nat} {fd : FuncData} {sp : Sp} {E : XK} {CX : CXT} {e : Expr} {es : List Expr} {ta : TA} {p1 p2 pos : Pos} {ps : List Str}
/-- SlopeError.__init__(e, ..) -/
theorem pe_slInit {pl : Sem Bool} (B : SlB X.K X.mg S fS) (F : FnOk X.prog X.w X.K X.mg X.base CX k fS fd ps sp) (hr : Room k X.A) (hb : Binds X.K fd ps []) (hx : Passes CX X E) (hg : Gl X "SlopeError") (ha : PA X (e :: es) ta)
    (hc : eval (.Call (.Attribute (.Name "SlopeError" p1) "__init__" p2) (e :: es) [] pos) X.env = (do
      let ov ← eval (.Name "SlopeError" p1) X.env
      standAt p2.atName
      let (f, first) ← holding [ov] (getMethod ov "__init__" pl)
      callWith pos f first (backTo pos (starEach (e :: es) X.env)) (backToKw pos (keywordEach [] X.env))) := by rfl)
    (he : starEach (e :: es) X.env = (false, eval e X.env) :: starEach es X.env := by rfl) (hpl : (backTo pos (starEach es X.env)).any (·.1) = false := by rfl) :
    PE X (.Call (.Attribute (.Name "SlopeError" p1) "__init__" p2) (e :: es) [] pos) (fun σ H Q => ta σ H fun vs H1 => sp vs H1 Q E) := by
  refine ⟨fun pins s σ H Q I h => ?_⟩
  refine PySem.W.methodCall_KW (pl := pl) (ld_glob I hg B.mgS ?_ (by decide)) hc
  refine PySem.W.method_cls I.kIn B.ga (PySem.W.cls_value I.kIn B.rd B.at_ (by rfl) ?_)
  show wpAny _ _ (callWith pos (Value.ref fS) [] (backTo pos (starEach (e :: es) X.env)) []) _ _ _
  refine PySem.W.callWith_K (h₀ := X.base) I.ok.mod.kin B.kf (thn (ha.run pos pins _ σ H _ (I.tok _) h) fun us s1 ⟨vs, H1, I1, r, q⟩ => ⟨I1.kIn, ?_⟩) he hpl
  exact run_fn F hr hb .nil hx I1 r (by rw [List.append_nil]; exact q)
end
end L2

namespace L2
open PySem PySem.Spec PyProof.Rows
/-- the heap with a new error at a, its dict at dx -/
def slH (H : Hp) (a C dx : Addr) (y : V) : Hp := upd (upd H dx (exd dx [("thing", y)])) a (exo a C (some dx))
theorem slH_new {H : Hp} {a C dx : Addr} {y : V} {o : HO} : upd (upd (upd H a o) dx (exd dx [("thing", y)])) a (exo a C (some dx)) = slH H a C dx y := by
  funext b
  unfold slH
  by_cases h : b = a
  · rw [h, upd_same, upd_same]
  · rw [upd_ne h, upd_ne h]
    by_cases hd : b = dx
    · rw [hd, upd_same, upd_same]
    · rw [upd_ne hd, upd_ne hd, upd_ne h]
theorem slH_a {H : Hp} {a C dx : Addr} {y : V} : slH H a C dx y a = some (exo a C (some dx)) := upd_same
theorem slH_d {H : Hp} {a C dx : Addr} {y : V} (h : dx ≠ a) : slH H a C dx y dx = some (exd dx [("thing", y)]) := (upd_ne h).trans upd_same
theorem slH_ne {H : Hp} {a C dx b : Addr} {y : V} (h1 : b ≠ a) (h2 : b ≠ dx) : slH H a C dx y b = H b := (upd_ne h1).trans (upd_ne h2)
/-- an error's class at C: its own __init__ -/
structure SlM (K : PySem.W.Frag) (C S fI : Addr) : Prop where
  T : SlC K C S
  iC : PySem.W.findIn K (.ref C) "__init__" = some (some (.ref fI))
  tI : PySem.W.typeIn K (.ref fI) = some (.type "function")
/-- how the call of the class binds in __init__ -/
def SlBnd (K : PySem.W.Frag) (fd : FuncData) (us : List Value) (kw : List (Str × Value)) (u : Value) : Prop :=
  ∀ (s : Shared) (x : Value), K.In s.heap → BindsTo s fd ⟨x :: us, kw⟩ ((["self", "thing"] : List Str).zip [x, u])
section
variable {X : Cx} {pins : List (Addr × Obj)} {σ : St} {H : Hp} {s : Shared} {C S fI : Addr} {y : V} {u : Value} {k : Nat} {fd : FuncData} {CX : CXT} {us : List Value} {kw : List (Str × Value)}
/-- what is known behind the call of the class -/
structure SlGot (X : Cx) (pins : List (Addr × Obj)) (σ : St) (H : Hp) (s : Shared) (C a dx : Addr) (y : V) (s' : Shared) : Prop where
  new : s.heap.objs.size ≤ a
  na : H a = none
  nd : H dx = none
  ne : dx ≠ a
  mid : ∃ h1 : Heap, (∀ b o, s.heap.get? b = some o → h1.get? b = some o) ∧ Un (frs X.stack) [] (upd H a (exo a C none)) (slH H a C dx y) h1 s'.heap
  hok : HOk X.prog X.w (slH H a C dx y) s'.heap
  os : s'.os = s.os
  bare : AllBare s'.gens
  inv : Inv X pins σ (slH H a C dx y) s'
theorem sl_run {Q : Value → Shared → Prop} (M : SlM X.K C S fI) (F : FnOk X.prog X.w X.K X.mg X.base CX k fI fd ["self", "thing"] (spSet X.K)) (hr : Room (k + 1) X.A) (hx : Passes CX X E0)
    (hb : SlBnd X.K fd us kw u) (hl : us.length ≤ sizeLine) (I : Inv X pins σ H s) (ry : RelV y u) (h : ∀ a dx s', SlGot X pins σ H s C a dx y s' → Q (.ref a) s') :
    wpAny (model X.prog X.w) X.A (call (.ref C) us kw) Q X.xe s := by
  obtain ⟨nm, q, N, bs, sn, sub, ab, col, dd, k0, k1, k2, k3, k5, hC⟩ := M.T.cls
  obtain ⟨hp, g, dr, tk, os⟩ := s
  have hsz : hp.objs.size ≤ hp.objs.size + 1 := Nat.le_succ _
  have hn : H (hp.objs.size + 1) = none := I.hok.fresh hsz
  have kk : ∀ b o, hp.get? b = some o → ((hp.push (PySem.W.kdv_tup us)).push (PySem.HandSPX.excO C hp.objs.size)).get? b = some o := fun b o e => Heap.get?_push_of_some _ (Heap.get?_push_of_some _ e)
  have hget : ((hp.push (PySem.W.kdv_tup us)).push (PySem.HandSPX.excO C hp.objs.size)).get? (hp.objs.size + 1) = some (PySem.HandSPX.excO C hp.objs.size) := by heap_get
  have I2 : Inv X pins σ (upd H (hp.objs.size + 1) (exo (hp.objs.size + 1) C none)) ⟨(hp.push (PySem.W.kdv_tup us)).push (PySem.HandSPX.excO C hp.objs.size), g, dr, tk, os⟩ :=
    I.laid (t' := tk) (a := hp.objs.size + 1) (o := exo (hp.objs.size + 1) C none) (h' := (hp.push (PySem.W.kdv_tup us)).push (PySem.HandSPX.excO C hp.objs.size)) kk hsz (exo_ok hget)
  have r2 : Vals [V.ref (hp.objs.size + 1), y] [Value.ref (hp.objs.size + 1), u] := .cons rfl (.cons ry .nil)
  have room : Room k (X.A.under (.builtin "type.__call__" ⟨.ref C :: us, kw⟩)) := hr.make C us kw
  have e0 := I2.env0.make C us kw
  refine wpAny_call (PySem.Sl.call_kw (fun T => PySem.Sl.tail_sub S T) (I.kIn _ _ hC) (PySem.W.looks_findIn I.kIn M.iC) (fun self => PySem.W.bind_fn I.kIn self M.tI) hl
    (codeAny_mono (F.run _ X.stack _ _ ⟨Value.ref (hp.objs.size + 1) :: us, kw⟩ [Value.ref (hp.objs.size + 1), u] [V.ref (hp.objs.size + 1), y]
      (fun v H2 => v = .non ∧ ∃ dx, H dx = none ∧ dx ≠ hp.objs.size + 1 ∧ H2 = slH H (hp.objs.size + 1) C dx y) E0 room e0 (hb _ _ I2.kIn) r2
      ⟨hp.objs.size + 1, C, S, y, rfl, M.T, upd_same, fun dx n ne => ⟨rfl, dx, by rw [upd_ne ne] at n; exact n, ne, slH_new⟩⟩) fun r s' hq => ?_))
  cases r with
  | error er => exact hx pins σ _ _ er s' I2 hq
  | ok fl =>
    cases fl with
    | ret v0 =>
      obtain ⟨v, H2, os2, bare2, un2, hok2, rv, ev, dx, nd, ne, rfl⟩ := hq
      subst ev
      refine ⟨rv, h _ dx s' ⟨hsz, hn, nd, ne, ⟨_, kk, un2⟩, hok2, os2, bare2, ?_⟩⟩
      exact I2.call' (ch := []) os2 un2 hok2 bare2 (fun b z => absurd z (by simp))
    | next => exact False.elim hq
    | brk => exact False.elim hq
    | cont => exact False.elim hq
/-- such an error, made to be raised -/
theorem SlGot.raised {Q : XK} {a dx : Addr} {s' : Shared} (M : SlM X.K C S fI) (I : Inv X pins σ H s) (G : SlGot X pins σ H s C a dx y s')
    (q : ∀ H', H' dx = some (.xd [("thing", y)]) → H' a = none → (∀ b, b ≠ a → b ≠ dx → H' b = H b) → Q (.ref C) (some dx) H') : MkP X pins σ Q (.ref a) s' := by
  obtain ⟨h1, kk, un⟩ := G.mid
  obtain ⟨hp, g, dr, tk, os⟩ := s
  obtain ⟨h2, g2, d2, t2, os'⟩ := s'
  obtain ⟨t0, GG, J, kG, ge, hoe, na⟩ := mk_end0 (d2 := d2) (t2 := t2) (d := dx) (fs := [("thing", y)]) I G.new kk un G.hok G.os G.bare slH_a (slH_d G.ne) G.nd
  exact ⟨a, _, _, ⟨GG, g2, d2, t2, os'⟩, _, .ref C, some dx, rfl, J, kG, ge, hoe, ⟨rfl, rfl⟩, rfl, rfl, na, rfl, G.bare, raises_own M.T.exC M.T.tyC,
    q _ upd_same na fun b h1 h2 => by rw [upd_ne h2, del_ne h1, slH_ne h1 h2]⟩
end
end L2

namespace L2
open PySem PySem.Spec PyProof.Rows
/-! ### C(e), C(thing=e): the error as a value, and as what is raised -/
def rNew (C : Addr) (te : TE) : TE := fun σ H Q => te σ H fun y H1 => ∀ a dx, H1 a = none → H1 dx = none → dx ≠ a → Q (.ref a) (slH H1 a C dx y)
def rAir (C : Addr) (te : TE) : St → Hp → XK → Prop := fun σ H Q => te σ H fun y H1 => ∀ a dx H', H1 a = none → H1 dx = none → dx ≠ a →
  H' dx = some (.xd [("thing", y)]) → H' a = none → (∀ b, b ≠ a → b ≠ dx → H' b = H1 b) → Q (.ref C) (some dx) H'
section
variable {X : Cx} {C S fI : Addr} {k : Nat} {fd : FuncData} {CX : CXT} {x : Str} {e : Expr} {te : TE} {p pos kp : Pos}
theorem sl_name {Q : Value → Shared → Prop} (M : SlM X.K C S fI) (F : FnOk X.prog X.w X.K X.mg X.base CX k fI fd ["self", "thing"] (spSet X.K)) (hr : Room (k + 1) X.A) (hx : Passes CX X E0)
    (hb : ∀ u, SlBnd X.K fd [u] [] u) (hg : Gl X x) (hm : X.mg x = some (.ref C)) (he : PE X e te) {pins : List (Addr × Obj)} {σ : St} {H : Hp} {s : Shared} (I : Inv X pins σ H s) {R : V → Hp → Prop} (h : te σ H R)
    (hq : ∀ y H1 a dx s1 s', Inv X pins σ H1 s1 → R y H1 → SlGot X pins σ H1 s1 C a dx y s' → Q (.ref a) s') (hdb : (x == ("__debug__" : Str)) = false := by decide)
    (hs : starEach [e] X.env = (false, eval e X.env) :: starEach [] X.env := by rfl) : wpAny (model X.prog X.w) X.A (eval (.Call (.Name x p) [e] [] pos) X.env) Q X.xe s := by
  refine wpAny_Call_Name_kw (ld_glob I hg hm ?_ hdb)
  refine PySem.W.callWith_K (h₀ := X.base) I.ok.mod.kin M.T.kC ?_ hs (by rfl)
  rw [hs]
  show wpAny _ _ (spliced ((false, eval e X.env) :: backTo pos (starEach [] X.env))) _ _ s
  refine Calls.spliced_cons (thn (he.run pins s σ H _ I h) fun u s1 ⟨y, H1, I1, r1, q1⟩ => ?_)
  refine Calls.spliced_nil ⟨I1.kIn, ?_⟩
  show wpAny _ _ (call (.ref C) [u]) _ _ _
  exact sl_run M F hr hx (hb u) (by show 1 ≤ sizeLine; rw [sizeLine_eq]; omega) I1 r1 fun a dx s' G => hq y H1 a dx s1 s' I1 q1 G
theorem sl_kw {Q : Value → Shared → Prop} (M : SlM X.K C S fI) (F : FnOk X.prog X.w X.K X.mg X.base CX k fI fd ["self", "thing"] (spSet X.K)) (hr : Room (k + 1) X.A) (hx : Passes CX X E0)
    (hb : ∀ u, SlBnd X.K fd [] [("thing", u)] u) (hg : Gl X x) (hm : X.mg x = some (.ref C)) (he : PE X e te) {pins : List (Addr × Obj)} {σ : St} {H : Hp} {s : Shared} (I : Inv X pins σ H s) {R : V → Hp → Prop} (h : te σ H R)
    (hq : ∀ y H1 a dx s1 s', Inv X pins σ H1 s1 → R y H1 → SlGot X pins σ H1 s1 C a dx y s' → Q (.ref a) s') (hdb : (x == ("__debug__" : Str)) = false := by decide)
    (hall : (backToKw pos (keywordEach [⟨some "thing", e, kp⟩] X.env)).all (·.1.isSome) = true := by rfl) (hks : (backToKw pos (keywordEach [⟨some "thing", e, kp⟩] X.env)).filterMap (·.1) = [("thing" : Str)] := by rfl)
    (hpl : ((backTo pos (starEach [] X.env)).any (·.1) || (backToKw pos (keywordEach [⟨some "thing", e, kp⟩] X.env)).any (·.1.isNone)) = false := by rfl) :
    wpAny (model X.prog X.w) X.A (eval (.Call (.Name x p) [] [⟨some "thing", e, kp⟩] pos) X.env) Q X.xe s := by
  refine wpAny_Call_Name_kw (ld_glob I hg hm ?_ hdb)
  refine PySem.W.callWith_KW0 (h₀ := X.base) I.ok.mod.kin M.T.kC hall ?_ hpl
  have hk : PK X [⟨some "thing", e, kp⟩] (tCons te tNil) := pk_cons he pk_nil
  refine thn (hk.run pos pins s σ H (fun vs H1 => match vs with | [y] => R y H1 | _ => False) I h) fun ws s1 ⟨vs, H1, I1, rz, q1⟩ => ⟨I1.kIn, ?_⟩
  match vs, rz, q1 with
  | [y], rz, q1 =>
    obtain ⟨u, rfl, ry⟩ := vals1 rz
    rw [hks]
    show wpAny _ _ (call (.ref C) [] [("thing", u)]) _ _ _
    exact sl_run M F hr hx (hb u) (Nat.zero_le _) I1 ry fun a dx s' G => hq y H1 a dx s1 s' I1 q1 G
end
end L2
namespace L2
open PySem PySem.Spec PyProof.Rows
section
variable {X : Cx} {C S fI : Addr} {k : Nat} {fd : FuncData} {CX : CXT} {x : Str} {e : Expr} {te : TE} {p pos kp : Pos}
theorem pe_sl (M : SlM X.K C S fI) (F : FnOk X.prog X.w X.K X.mg X.base CX k fI fd ["self", "thing"] (spSet X.K)) (hr : Room (k + 1) X.A) (hx : Passes CX X E0)
    (hb : ∀ u, SlBnd X.K fd [u] [] u) (hm : X.mg x = some (.ref C)) (he : PE X e te) (hg : Gl X x := by rfl) (hdb : (x == ("__debug__" : Str)) = false := by decide)
    (hs : starEach [e] X.env = (false, eval e X.env) :: starEach [] X.env := by rfl) : PE X (.Call (.Name x p) [e] [] pos) (rNew C te) :=
  ⟨fun pins s σ H Q I h => sl_name M F hr hx hb hg hm he I h (fun y H1 a dx s1 s' I1 q G => ⟨.ref a, _, G.inv, rfl, q a dx G.na G.nd G.ne⟩) hdb hs⟩
theorem pe_slK (M : SlM X.K C S fI) (F : FnOk X.prog X.w X.K X.mg X.base CX k fI fd ["self", "thing"] (spSet X.K)) (hr : Room (k + 1) X.A) (hx : Passes CX X E0)
    (hb : ∀ u, SlBnd X.K fd [] [("thing", u)] u) (hm : X.mg x = some (.ref C)) (he : PE X e te) (hg : Gl X x := by rfl) (hdb : (x == ("__debug__" : Str)) = false := by decide)
    (hall : (backToKw pos (keywordEach [⟨some "thing", e, kp⟩] X.env)).all (·.1.isSome) = true := by rfl) (hks : (backToKw pos (keywordEach [⟨some "thing", e, kp⟩] X.env)).filterMap (·.1) = [("thing" : Str)] := by rfl)
    (hpl : ((backTo pos (starEach [] X.env)).any (·.1) || (backToKw pos (keywordEach [⟨some "thing", e, kp⟩] X.env)).any (·.1.isNone)) = false := by rfl) : PE X (.Call (.Name x p) [] [⟨some "thing", e, kp⟩] pos) (rNew C te) :=
  ⟨fun pins s σ H Q I h => sl_kw M F hr hx hb hg hm he I h (fun y H1 a dx s1 s' I1 q G => ⟨.ref a, _, G.inv, rfl, q a dx G.na G.nd G.ne⟩) hdb hall hks hpl⟩
theorem pmk_sl (M : SlM X.K C S fI) (F : FnOk X.prog X.w X.K X.mg X.base CX k fI fd ["self", "thing"] (spSet X.K)) (hr : Room (k + 1) X.A) (hx : Passes CX X E0)
    (hb : ∀ u, SlBnd X.K fd [u] [] u) (hm : X.mg x = some (.ref C)) (he : PE X e te) (hg : Gl X x := by rfl) (hdb : (x == ("__debug__" : Str)) = false := by decide)
    (hs : starEach [e] X.env = (false, eval e X.env) :: starEach [] X.env := by rfl) : PMk X (.Call (.Name x p) [e] [] pos) (rAir C te) :=
  fun pins s σ H Q I h => sl_name M F hr hx hb hg hm he I h (fun y H1 a dx s1 s' I1 q G => G.raised M I1 fun H' => q a dx H' G.na G.nd G.ne) hdb hs
theorem pmk_slK (M : SlM X.K C S fI) (F : FnOk X.prog X.w X.K X.mg X.base CX k fI fd ["self", "thing"] (spSet X.K)) (hr : Room (k + 1) X.A) (hx : Passes CX X E0)
    (hb : ∀ u, SlBnd X.K fd [] [("thing", u)] u) (hm : X.mg x = some (.ref C)) (he : PE X e te) (hg : Gl X x := by rfl) (hdb : (x == ("__debug__" : Str)) = false := by decide)
    (hall : (backToKw pos (keywordEach [⟨some "thing", e, kp⟩] X.env)).all (·.1.isSome) = true := by rfl) (hks : (backToKw pos (keywordEach [⟨some "thing", e, kp⟩] X.env)).filterMap (·.1) = [("thing" : Str)] := by rfl)
    (hpl : ((backTo pos (starEach [] X.env)).any (·.1) || (backToKw pos (keywordEach [⟨some "thing", e, kp⟩] X.env)).any (·.1.isNone)) = false := by rfl) : PMk X (.Call (.Name x p) [] [⟨some "thing", e, kp⟩] pos) (rAir C te) :=
  fun pins s σ H Q I h => sl_kw M F hr hx hb hg hm he I h (fun y H1 a dx s1 s' I1 q G => G.raised M I1 fun H' => q a dx H' G.na G.nd G.ne) hdb hall hks hpl
end
/-! ### an error that stands: tracked, or pinned with its dict tracked -/
/-- at a an error of the class at C is to be read, its thing v -/
def ErrIs (X : Cx) (H : Hp) (a C : Addr) (v : V) : Prop := ∀ (pins : List (Addr × Obj)) (σ : St) (s : Shared), Inv X pins σ H s →
  ∃ (oe od : Obj) (u : Value), PySem.W.InstAt s.heap a oe C (some od) ∧ PySem.W.lookIn "thing" od = some (some u) ∧ RelV v u
theorem thing_at {h : Heap} {dx : Addr} {v : V} {mA : Str → Option Value} (hns : h.Ns1 dx mA) (r : ∀ f, RelO (List.lookup f [(("thing" : Str), v)]) (mA f)) :
    ∃ (od : Obj) (u : Value), h.get? dx = some od ∧ PySem.W.lookIn "thing" od = some (some u) ∧ RelV v u := by
  obtain ⟨od, ho, hl⟩ := lookIn_ns hns
  have l : List.lookup ("thing" : Str) [(("thing" : Str), v)] = some v := by simp [List.lookup]
  obtain ⟨u, hu, ru⟩ := RelO.some_of (v := v) (o := mA "thing") (by rw [← l]; exact r "thing")
  exact ⟨od, u, ho, by rw [hl, hu], ru⟩
theorem ErrIs.tracked {X : Cx} {H : Hp} {a C dx : Addr} {v : V} (ha : H a = some (exo a C (some dx))) (hd : H dx = some (exd dx [("thing", v)])) : ErrIs X H a C v := fun pins σ s I => by
  obtain ⟨t1, ho⟩ := exo_at I.hok ha
  obtain ⟨mA, hns, r⟩ := exd_at I.hok hd
  obtain ⟨od, u, h1, h2, h3⟩ := thing_at hns r
  exact ⟨_, od, u, ⟨ho, rfl, rfl, h1⟩, h2, h3⟩
theorem ErrIs.pinned {X : Cx} {H : Hp} {a C dx : Addr} {v : V} {oe : Obj} (hp : (a, oe) ∈ X.pn) (hz : Zc (.ref C) (some dx) oe) (hf : ∃ vs, oe.data = .fields vs) (hd : H dx = some (.xd [("thing", v)])) : ErrIs X H a C v := fun pins σ s I => by
  obtain ⟨ho, _⟩ := I.pin (a, oe) (List.mem_append_left _ hp)
  obtain ⟨mA, hns, r⟩ := (show ObjOk X.prog X.w H s.heap dx (.xd [("thing", v)]) from I.hok dx _ hd)
  obtain ⟨od, u, h1, h2, h3⟩ := thing_at hns r
  obtain ⟨vs, hv⟩ := hf
  exact ⟨oe, od, u, ⟨ho, hz.1, by unfold PySem.W.notCls; rw [hv], by rw [hz.2]; exact h1⟩, h2, h3⟩
section
variable {X : Cx} {e : Expr} {te : TE} {pos : Pos}
theorem pe_thing (he : PE X e te) (hb : attributeBase e "thing" X.env (eval e X.env) = eval e X.env := by rfl) :
    PE X (.Attribute e "thing" pos) (fun σ H Q => te σ H fun x H1 => ∃ (a C S : Addr) (v : V), x = .ref a ∧ SlC X.K C S ∧ ErrIs X H1 a C v ∧ Q v H1) := by
  refine ⟨fun pins s σ H Q I h => ?_⟩
  refine attr_of hb (thn (he.run pins s σ H _ I h) fun u s1 ⟨x, H1, I1, rx, a, C, S, v, ex, T, er, q⟩ => ?_)
  subst ex
  obtain rfl : u = Value.ref a := rx
  obtain ⟨oe, od, u, J, hl, ru⟩ := er pins σ s1 I1
  exact HandSPX.exc_get I1.kIn J T.ga T.gg T.exC (PySem.W.findObj_own T.hd T.noT rfl hl) (handed_of ru) ⟨v, H1, I1.tok _, ru, q⟩
theorem sl_kit {a C S : Addr} {v : V} {H : Hp} {pins : List (Addr × Obj)} {σ : St} {s : Shared} (T : SlC X.K C S) (er : ErrIs X H a C v) (I : Inv X pins σ H s) :
    ∃ P : Heap → Prop, PySem.W.KitX X.K (.ref a) (.ref C) P ∧ P s.heap := by
  obtain ⟨oe, od, u, J, _, _⟩ := er pins σ s I
  obtain ⟨cd, hcl, _⟩ := T.clsIn
  exact ⟨_, PySem.W.kitx_exc (by rw [hcl]; rfl) T.ga T.gg T.exC T.hc T.hn T.ht T.hm, J⟩
/-- isinstance(error, T); isinstance(error, (T1, T2, ..)) -/
theorem call_isE1 : CallR X (.builtin "isinstance") (fun xs H Q => ∃ (a C S : Addr) (v c : V) (u : Value) (b : Bool), xs = [.ref a, c] ∧ ClsV c u ∧ SlC X.K C S ∧ ErrIs X H a C v ∧ PySem.W.kitOne X.K (.ref C) u = some b ∧ Q (.bl b) H) := by
  intro pins s σ H xs us Q I r h
  obtain ⟨a, C, S, v, c, u, b, rfl, k, T, er, e, q⟩ := h
  obtain ⟨u1, u2, rfl, r1, r2⟩ := vals2 r
  have e2 := k.eq r2
  subst e2
  cases (show u1 = Value.ref a from r1)
  obtain ⟨P, Z, p⟩ := sl_kit T er I
  exact PySem.W.kia_one Z I.kIn p e (fun z => nomatch z) fun tk => ⟨.bl b, H, I.tok tk, rfl, q⟩
theorem call_isET : CallR X (.builtin "isinstance") (fun xs H Q => ∃ (a C S tp : Addr) (v : V) (cs : List V) (us : List Value) (b : Bool), xs = [.ref a, .ref tp] ∧ H tp = some (.tup cs) ∧ Paired ClsV cs us ∧ SlC X.K C S ∧ ErrIs X H a C v ∧ PySem.W.kitAny X.K (.ref C) us = some b ∧ Q (.bl b) H) := by
  intro pins s σ H xs us Q I r h
  obtain ⟨a, C, S, tp, v, cs, ws, b, rfl, hT, k, T, er, e, q⟩ := h
  obtain ⟨u1, u2, rfl, r1, r2⟩ := vals2 r
  cases (show u1 = Value.ref a from r1)
  cases (show u2 = Value.ref tp from r2)
  obtain ⟨P, Z, p⟩ := sl_kit T er I
  obtain ⟨_, its, rv, o, h1, h2, n, h3⟩ := (show ObjOk X.prog X.w H s.heap tp (.tup cs) from I.hok tp _ hT)
  have e3 := ClsV.all k rv
  subst e3
  obtain ⟨oc, od, dt, sl⟩ := o
  simp only at h2 h3
  subst h2 h3
  exact PySem.W.kia_tup Z I.kIn p h1 e (fun z => nomatch z) fun tk => ⟨.bl b, H, I.tok tk, rfl, q⟩
end
end L2

namespace L2
open PySem PySem.Spec PyProof.Rows
/-! ### the two __init__ -/
def scpS : Scope := { kind := .function, names := [(PySem.Str.ofString "self", .local), (PySem.Str.ofString "thing", .local)], isGenerator := false, isCoroutine := false, more := [] }
def scpC : Scope := { kind := .function, names := [(PySem.Str.ofString "self", .local), (PySem.Str.ofString "thing", .local), (PySem.Str.ofString "SlopeError", .globalImplicit)], isGenerator := false, isCoroutine := false, more := [] }
def argsS (p1 p2 : Pos) (ds : List Expr) : Arguments := { posonlyargs := [], args := [{ arg := "self", annotation := none, pos := p1 }, { arg := "thing", annotation := none, pos := p2 }], vararg := none, kwonlyargs := [], kw_defaults := [], kwarg := none, defaults := ds }
def bodyS (q1 q2 q3 q4 : Pos) : List Stmt := [.Assign [.Attribute (.Name "self" q1) "thing" q2] (.Name "thing" q3) q4]
def bodyC (q1 q2 q3 q4 q5 q6 : Pos) : List Stmt := [.Expr (.Call (.Attribute (.Name "SlopeError" q1) "__init__" q2) [.Name "self" q3, .Name "thing" q4] [] q5) q6]
theorem fsS : FnScope ["self", "thing"] ["self", "thing"] scpS := ⟨rfl, rfl, rfl, by decide +kernel, rfl, by decide +kernel, by decide +kernel⟩
theorem fsC : FnScope ["self", "thing"] ["self", "thing"] scpC := ⟨rfl, rfl, rfl, by decide +kernel, rfl, by decide +kernel, by decide +kernel⟩
section
variable {P : Program} {w : World} {K : PySem.W.Frag} {mg : Str → Option Value} {base : Heap} {qual : Str} {f fS S : Addr} {fd fdS : FuncData} {p1 p2 q1 q2 q3 q4 q5 q6 : Pos} {ds : List Expr}
theorem ok_slS (F : FunD K "__init__" qual (argsS p1 p2 ds) (bodyS q1 q2 q3 q4) scpS [.non] [] f fd) : FnOk P w K mg base CX0 1 f fd ["self", "thing"] (spSet K) := by
  refine F.ok fsS (fun vs H Q E h => ?_) (fun cdv A outer s H vs Q E hr h => ?_)
  · obtain ⟨a, C, S, y, rfl, _⟩ := h
    rfl
  · obtain ⟨a, C, S, y, rfl, T, ha, k⟩ := h
    exact ⟨_, pss_one (ps_sto (pv 0) (pv 1)), _, rfl, _, rfl, a, C, S, rfl, T, ha, fun dx n ne => k dx n ne⟩
theorem bnd_slS (F : FunD K "__init__" qual (argsS p1 p2 ds) (bodyS q1 q2 q3 q4) scpS [.non] [] f fd) : Binds K fd ["self", "thing"] [] := by
  obtain ⟨es, r, b⟩ := F.binds1 (ps := ["self", "thing"]) 2 1 (by simp) rfl (fun T kV doc pm an cdv ct us its h1 h2 => by
    match us, its, h1, h2 with
    | [u, v], [d], _, _ => exact ⟨_, rfl, by rfl⟩)
  have e : es = [] := by cases r; rfl
  rw [e] at b
  exact b
theorem arm_slC {env : Env} (h : (q2.endLine == q5.line) = true) :
    eval (.Call (.Attribute (.Name "SlopeError" q1) "__init__" q2) [.Name "self" q3, .Name "thing" q4] [] q5) env = (do
      let ov ← eval (.Name "SlopeError" q1) env
      standAt q2.atName
      let (f, first) ← holding [ov] (getMethod ov "__init__" (do return (← importBound (.Name "SlopeError" q1) env).getD true))
      callWith q5 f first (backTo q5 (starEach [.Name "self" q3, .Name "thing" q4] env)) (backToKw q5 (keywordEach [] env))) := by
  show (do
    let ov ← eval (.Name "SlopeError" q1) env
    standAt q2.atName
    methodCall (.Name "SlopeError" q1) "__init__" q2 q5 env ov 2 (backTo q5 (starEach [.Name "self" q3, .Name "thing" q4] env)) (backToKw q5 (keywordEach [] env))) = _
  unfold methodCall methodCallPos
  rw [h]
  rfl
theorem ok_slC (hl : (q2.endLine == q5.line) = true) (F : FunD K "__init__" qual (argsS p1 p2 []) (bodyC q1 q2 q3 q4 q5 q6) scpC [] [] f fd) (B : SlB K mg S fS) (FS : FnOk P w K mg base CX0 1 fS fdS ["self", "thing"] (spSet K)) (bS : Binds K fdS ["self", "thing"] []) :
    FnOk P w K mg base CX0 2 f fd ["self", "thing"] (spSet K) := by
  refine F.ok fsC (fun vs H Q E h => ?_) (fun cdv A outer s H vs Q E hr h => ?_)
  · obtain ⟨a, C, S, y, rfl, _⟩ := h
    rfl
  · obtain ⟨a, C, S', y, rfl, T, ha, k⟩ := h
    refine ⟨_, pss_one (ps_expr (pe_slInit (E := E0) B FS hr bS pass0 rfl (pa_cons (pv 0) (pa_cons (pv 1) pa_nil)) (arm_slC hl))), ?_⟩
    exact ⟨_, rfl, _, rfl, a, C, S', y, rfl, T, ha, fun dx n ne => k dx n ne⟩
theorem bnd_sl1 (F : FunD K "__init__" qual (argsS p1 p2 []) (bodyC q1 q2 q3 q4 q5 q6) scpC [] [] f fd) (u : Value) : SlBnd K fd [u] [] u := by
  obtain ⟨oc, od, dV, kV, doc, pm, an, cdv, ct, osl, rfl, lk, hcd, hD, hK⟩ := F.ex
  rcases hD with ⟨_, rfl⟩ | ⟨e, _⟩
  · exact fun s x X => .of_eq (by rfl)
  · exact absurd rfl e
theorem bnd_slK (F : FunD K "__init__" qual (argsS p1 p2 []) (bodyC q1 q2 q3 q4 q5 q6) scpC [] [] f fd) (u : Value) : SlBnd K fd [] [("thing", u)] u := by
  obtain ⟨oc, od, dV, kV, doc, pm, an, cdv, ct, osl, rfl, lk, hcd, hD, hK⟩ := F.ex
  rcases hD with ⟨_, rfl⟩ | ⟨e, _⟩
  · exact fun s x X => .of_eq (by first | rfl | with_unfolding_all rfl | kernel_rfl)
  · exact absurd rfl e
end
end L2

namespace L2
open PySem PySem.Spec PyProof.Rows
/-! ### try: body, except A as n: .., except B as n: .. (one name for all clauses) -/
abbrev Suite := Addr → Value → Option Addr → TS
def endsAs (i : Nat) (D : Ends) : Ends := { nx := fun σ' H' => D.nx (σ'.set i none) H', rt := D.rt, bk := fun σ' H' => D.bk (σ'.set i none) H', ct := fun σ' H' => D.ct (σ'.set i none) H' }
def wSeq (K : PySem.W.Frag) (i : Nat) (Wout : WX) (D : Ends) : List (Value × Suite) → WX
  | [] => Wout
  | (c, ts) :: r => fun cls d σ H => ∃ b, PySem.W.exmOne K cls c = some b ∧ (b = true → ∀ a, H a = none → ts a cls d (endsAs i D) (σ.set i (some (.ref a))) H) ∧ (b = false → wSeq K i Wout D r cls d σ H)
inductive SeqOk (X : Cx) (n : Str) : List ExceptHandler → List (Value × Suite) → Prop
  | nil : SeqOk X n [] []
  | cons {x : Str} {c : Value} {ts : Suite} {b0 : Stmt} {suite : List Stmt} {np hp : Pos} {hds : List ExceptHandler} {l : List (Value × Suite)} (named : Names X x c)
      (does : ∀ (a : Addr) (oe : Obj) (cls : Value) (d : Option Addr) (pn : List (Addr × Obj)), Zc cls d oe → (∃ vs, oe.data = .fields vs) → PSs (X.suite a ((a, oe) :: pn)) (b0 :: suite) (ts a cls d)) (r : SeqOk X n hds l) :
      SeqOk X n (.ExceptHandler (some (.Name x np)) (some n) (b0 :: suite) hp :: hds) ((c, ts) :: l)
section
variable {X : Cx} {n : Str} {i : Nat} {body : List Stmt} {h0 : ExceptHandler} {hds : List ExceptHandler} {l : List (Value × Suite)} {pos : Pos} {tb : WX → TS} {Wout : WX}
theorem ps_try_seq (sta : X.stack = X.env :: X.outer) (own : X.env.frame = some X.env.locals) (nod : X.N.Nodup) (slot : X.N[i]? = some n) (loc : X.env.kindOf n = some .local) (tk : Takes X Wout)
    (hb : ∀ (W : WX) (pn : List (Addr × Obj)) (xe : Value → Shared → Prop), Takes (X.tr pn xe) W → PassesOwn (model X.prog X.w) X.A X.env xe → PSs (X.tr pn xe) body (tb W))
    (hh : SeqOk X n (h0 :: hds) l) : PS X (.Try body (h0 :: hds) [] [] pos) (fun D σ H => tb (wSeq X.K i Wout D l) D σ H) := by
  refine ⟨fun pins s σ H D I h => ?_⟩
  have fine := I.ok
  have frs0 : X.A.frames = some (X.env :: X.outer) := by rw [fine.frames, sta]
  refine wpAny_Try_except ?_
  refine wpAny_mono ((hb (wSeq X.K i Wout D l) (X.pn ++ pins) (fun e t1 => wpAny (model X.prog X.w) X.A (noteFrame e X.env) (fun _ t2 => wpAny (model X.prog X.w) X.A (setFlight e none)
    (fun _ t3 => wpAny (model X.prog X.w) X.A (handleBy e X.env (h0 :: hds)) (SP X pins D) X.xe t3) X.xe t2) X.xe t1) (fun u s' air => ?_) PassesOwn.looking).run [] s σ H D (I.toTry _) h) (fun f s1 got => ?_) (fun e s1 he => he)
  · obtain ⟨a, B, sI, pins', σ', H', cls, d, rfl, J', nb, up, sky, na, os, ag, wish⟩ := air
    have J : Inv X pins σ' H' sI := J'.ofTry fine
    have sky1 : Sky B (X.env :: X.outer) a (Zc cls d) X.env.locals s'.heap := by rw [← sta]; exact sky
    show wpAny (model X.prog X.w) X.A (noteFrame (.ref a) X.env) _ _ _
    refine Sky.land Zc.steady frs0 own sky1 fun k3 fl3 up3 => ?_
    have J3 : Inv X pins σ' H' { s' with heap := k3 } := J.landed nb fl3.1 (up.trans up3) os ag
    obtain ⟨oe3, vs3, he3, hz3, hd3⟩ := fl3.there
    have off : a ∉ frs (X.env :: X.outer) := fun hm => by
      obtain ⟨_, o', e', nof⟩ := fl3.2.2.1.mem hm
      rw [he3] at e'; cases e'
      exact nof _ hd3
    have offL : a ≠ X.env.locals := fun z => off (List.mem_filterMap.mpr ⟨X.env, List.mem_cons_self, by rw [own, z]⟩)
    have offF : a ∉ X.fs := fun hm => by
      obtain ⟨v, hv, q⟩ := List.mem_filterMap.mp hm
      exact off (List.mem_filterMap.mpr ⟨v, List.mem_cons_of_mem _ hv, q⟩)
    have S3 := J3.suite he3 hd3 na offL offF
    have walk : ∀ {hds' : List ExceptHandler} {l' : List (Value × Suite)}, SeqOk X n hds' l' → wSeq X.K i Wout D l' cls d σ' H' →
        wpAny (model X.prog X.w) X.A (handleBy (.ref a) X.env hds') (SP X pins D) X.xe { s' with heap := k3 } := by
      intro hds' l' hk
      induction hk with
      | nil =>
        intro wi
        refine wpAny_handleBy_nil ?_
        obtain ⟨z1, z2, z3, oe, vs, T, oT, ts', he, hz, hd, h1, hr⟩ := id fl3
        unfold PySem.passOn
        refine wpAny_bind (wpAny_field he hd h1 ?_); rw [if_neg (show ¬ ((Value.ref T == Value.none) = true) from by simp)]
        have fin : wpAny (model X.prog X.w) X.A (setFlight (.ref a) X.env.frame) (fun _ s4 => wpAny (model X.prog X.w) X.A (throw (.ref a) : Sem Flow) (SP X pins D) X.xe s4) X.xe { s' with heap := k3 } := by
          rw [own]
          refine HandSPX.setFlight_upZ fl3 fun k4 hk4 up4 => wpAny_throw (tk _ _ ?_)
          exact ⟨a, B, sI, pins, σ', H', cls, d, rfl, J, nb, (up.trans up3).trans up4, .inr (.inr (by rw [sta]; exact hk4)), na, os, ag, wi⟩
        first | exact wpAny_bind (wpAny_pure (wpAny_bind fin)) | exact wpAny_bind fin
      | @cons x c ts b0 suite np hp hds2 l2 named does r ih =>
        intro wi
        obtain ⟨b, eb, yes, no⟩ := wi
        refine wpAny_handleBy_cons (codeAny_handlers_test ?_) (by intro q; cases q)
        have lt : PySem.W.Looks (model X.prog X.w) k3 (typeOf (.ref a)) cls := fun A Q E s k q => wpAny_typeOf_ref (k _ _ he3) (by rw [hz3.1]; exact q)
        have lm := PySem.W.exm_one (M := model X.prog X.w) (J3.kIn) lt eb
        have names : ∀ {Q : Value → Shared → Prop} {E : Value → Shared → Prop}, Q c { s' with heap := k3 } → wpAny (model X.prog X.w) (X.A.mark (some (.ref a))) (eval (.Name x np) X.env) Q E { s' with heap := k3 } := fun {Q E} q => by
          obtain ⟨hg, nd, hm | ⟨hm, hv, hnn⟩⟩ := named
          · exact ld_glob (X := X.suite a ((a, oe3) :: (X.pn ++ pins))) S3 hg hm q nd
          · exact ld_blt (X := X.suite a ((a, oe3) :: (X.pn ++ pins))) S3 hg hm hv q hnn nd
        refine names (lm.here ?_)
        cases b with
        | true =>
          refine codeAny_handlers_suite_as ?_
          refine HandSPX.lands_againZ fl3 fun k4 fl4 up4 => ?_
          have J4 : Inv X pins σ' H' { s' with heap := k4 } := J.landed nb fl4.1 ((up.trans up3).trans up4) os ag
          obtain ⟨oe4, vs4, he4, hz4, hd4⟩ := fl4.there
          have S4 := J4.suite he4 hd4 na offL offF
          refine store_ok (X := X.suite a ((a, oe4) :: (X.pn ++ pins))) (v := .ref a) S4 nod slot (.inl loc) rfl (fun s5 S5 => ?_) (.inr loc)
          refine wpAny_mono ((does a oe4 cls d (X.pn ++ pins) hz4 ⟨_, hd4⟩).run [] s5 _ H' _ S5 (yes rfl a na)) (fun f s6 got => ?_) (fun _ _ z => False.elim z)
          have close : ∀ {σ6 : St} {H6 : Hp} {Q : Shared → Prop}, Inv (X.suite a ((a, oe4) :: (X.pn ++ pins))) [] σ6 H6 s6 → (∀ s7, Inv X pins (σ6.set i none) H6 s7 → Q s7) →
              wpAny (model X.prog X.w) X.A (do bindName X.env n .none; unbindBehindTheSuite X.env n hp) (fun _ s7 => Q s7) X.xe s6 := fun {σ6 H6 Q} S6 hq => gone_ok (S6.unsuite fine) nod slot loc hq
          cases f with
          | next => obtain ⟨σ6, H6, S6, q6⟩ := got; exact close S6 fun s7 J7 => ⟨_, _, J7, q6⟩
          | brk => obtain ⟨σ6, H6, S6, q6⟩ := got; exact close S6 fun s7 J7 => ⟨_, _, J7, q6⟩
          | cont => obtain ⟨σ6, H6, S6, q6⟩ := got; exact close S6 fun s7 J7 => ⟨_, _, J7, q6⟩
          | ret u => obtain ⟨v6, σ6, H6, S6, r6, q6⟩ := got; exact close S6 fun s7 J7 => ⟨_, _, _, J7, r6, q6⟩
        | false =>
          show wpAny _ X.A (handleBy (.ref a) X.env hds2) _ _ _
          exact ih (no rfl)
    exact walk hh wish
  · cases f with
    | next => obtain ⟨σ', H', J', q⟩ := got; exact wpAny_execs_nil ⟨σ', H', J'.ofTry fine, q⟩
    | brk => obtain ⟨σ', H', J', q⟩ := got; exact ⟨σ', H', J'.ofTry fine, q⟩
    | cont => obtain ⟨σ', H', J', q⟩ := got; exact ⟨σ', H', J'.ofTry fine, q⟩
    | ret u => obtain ⟨v, σ', H', J', r, q⟩ := got; exact ⟨v, σ', H', J'.ofTry fine, r, q⟩
end
/-! ### a def called within an except suite (nothing is raised there) -/
structure FnW (P : Program) (w : World) (K : PySem.W.Frag) (mg : Str → Option Value) (base : Heap) (k : Nat) (f : Addr) (fd : FuncData) (ps : List Str) (p : Addr × Obj) (sp : Sp) : Prop where
  len : ∀ vs H Q E, sp vs H Q E → vs.length = ps.length
  run : ∀ (A : Around) (outer : List Env) (s : Shared) (H : Hp) (args : Args) (us : List Value) (vs : List V) (Q : VK), L2H.RoomH k A → L2H.PinOk outer H s p → Env0 P w K mg base A outer s H → BindsTo s fd args (ps.zip us) → Vals vs us → sp vs H Q E0 →
    codeAny (model P w) A (.call (.ref f) args) (CR CX0 outer P w H s Q E0) s
theorem fn_warm {P : Program} {w : World} {K : PySem.W.Frag} {mg : Str → Option Value} {base : Heap} {k : Nat} {f : Addr} {name qual : Str} {st : Stmt} {fd : FuncData} {N ps : List Str} {p : Addr × Obj} {sp : Sp} (F : Fun K name qual st f fd) (S : FnScope N ps (defScope st))
    (len : ∀ vs H Q E, sp vs H Q E → vs.length = ps.length)
    (hbody : ∀ (cdv : Value) (A : Around) (outer : List Env) (s : Shared) (H : Hp) (vs : List V) (Q : VK), L2H.RoomH k (A.deeper (envOfC qual (defScope st) s.heap.objs.size f cdv)) → sp vs H Q E0 →
      ∃ t, PSs (L2H.cxH CX0 P w K mg base N qual (defScope st) f cdv A outer s H E0 p) (defBody st) t ∧ t { nx := fun _ H' => Q .non H', rt := Q } (L2.start N vs) H) :
    FnW P w K mg base (k + 1) f fd ps p sp := by
  obtain ⟨oc, od, kV, doc, pm, an, cdv, ct, osl, rfl, lk, hcd⟩ := F.ex
  refine ⟨len, fun A outer s H args us vs Q hr hpin e0 hb r hsp => ?_⟩
  have kin : K.In s.heap := e0.mod.kin.keeps fun b o e => (e0.bs b o e).1
  have lim : s.heap.NoLimit := e0.mod.nolimit.keeps fun b o e => (e0.bs b o e).1
  have kinds : ∀ y ∈ ps.zip us, (defScope st).names.lookup y.1 = some .local ∨ ((defScope st).names.lookup y.1 = some .cell ∧ ((cellsFrom (s.heap.objs.size + 1) (defScope st).names []).lookup y.1).isSome = true) := fun ⟨m, v⟩ hy =>
    (S.par m (List.of_mem_zip hy).1).elim .inl fun q => .inr ⟨q, PySem.W.cellsFrom_some _ _ _ (.inl q)⟩
  refine codeAny_call_function hr.depth (kin _ _ lk) rfl S.co S.gen rfl (PySem.W.codeRec_of kin hcd) (hb _ _ _ _ ?_)
  refine wpAny_newFunctionEnv_cells S.kind kinds fun env he s1 x => ?_
  subst he
  refine ⟨lim.keeps x.toInCall.keep, codeAny_func ?_⟩
  obtain ⟨t, ht, hq⟩ := hbody cdv A outer s H vs Q (hr.deeper _) hsp
  have I : Inv (L2H.cxH CX0 P w K mg base N qual (defScope st) f cdv A outer s H E0 p) [] (L2.start N vs) H s1 := L2H.inv_startH S hpin e0 (len _ _ _ _ hsp) r x
  refine wpAny_mono (ht.run [] s1 (L2.start N vs) H _ I hq) (fun fl s' got => ?_) fun e s' z => z
  cases fl with
  | ret u => obtain ⟨v, σ', H', J, rv, q⟩ := got; exact ⟨v, H', J.os, J.bare, J.base, J.hok, rv, q⟩
  | next => obtain ⟨σ', H', J, q⟩ := got; exact ⟨V.non, H', J.os, J.bare, J.base, J.hok, (rfl : Value.none = Value.none), q⟩
  | brk => obtain ⟨_, _, _, q⟩ := got; exact False.elim q
  | cont => obtain ⟨_, _, _, q⟩ := got; exact False.elim q
section
variable {X : Cx} {k : Nat} {f : Addr} {fd : FuncData} {ps : List Str} {sp : Sp} {x : Str} {q pos : Pos} {e : Expr} {es : List Expr} {t : TA} {p : Addr × Obj}
theorem pe_warm (F : FnW X.prog X.w X.K X.mg X.base k f fd ps p sp) (hr : L2H.RoomH k X.A) (hp : p ∈ X.pn) (hm : X.mg x = some (.ref f)) (hk : PySem.W.keepIn X.K (.ref f) = true) (hb : Binds X.K fd ps []) (ha : PA X (e :: es) t) (hg : Gl X x := by rfl)
    (hdb : (x == ("__debug__" : Str)) = false := by decide) (he : starEach (e :: es) X.env = (false, eval e X.env) :: starEach es X.env := by rfl) (hpl : (backTo pos (starEach es X.env)).any (·.1) = false := by rfl) :
    PE X (.Call (.Name x q) (e :: es) [] pos) (fun σ H Q => t σ H fun vs H1 => sp vs H1 Q E0) := by
  refine ⟨fun pins s σ H Q I h => ?_⟩
  refine wpAny_Call_Name_kw (ld_glob I hg hm ?_ hdb)
  refine PySem.W.callWith_K (h₀ := X.base) I.ok.mod.kin hk (thn (ha.run pos pins s σ H _ I h) fun us s1 ⟨vs, H1, I1, r, qq⟩ => ⟨I1.kIn, ?_⟩) he hpl
  have hl : us.length = ps.length := by rw [← r.length]; exact F.len _ _ _ _ qq
  have bb := hb s1 us I1.kIn (by rw [List.append_nil]; exact hl)
  rw [List.append_nil] at bb
  have pin := I1.pin p (List.mem_append_left _ hp)
  have pok : L2H.PinOk X.stack H1 s1 p := ⟨pin.1, pin.2.1, fun hm => (List.mem_cons.mp (I1.stkSub p.1 hm)).elim pin.2.2.1 pin.2.2.2.1, pin.2.2.2.2⟩
  refine wpAny_call (codeAny_mono (F.run X.A X.stack s1 H1 ⟨us, []⟩ us vs Q hr pok I1.env0 bb r qq) fun r s' hq => ?_)
  cases r with
  | error e => exact False.elim hq
  | ok fl =>
    cases fl with
    | ret u => exact I1.after hq
    | next => exact False.elim hq
    | brk => exact False.elim hq
    | cont => exact False.elim hq
end
end L2

namespace PySem
open Sem (wp)
/-! enumerate(v) with one argument, v by how its iterator begins -/
theorem meets_enum_one {v : Value} {o : Obj} {H : Heap → Prop} (B : Begins v o H) :
    Meets (Builtin.«enumerate.__new__» ⟨[.type "enumerate", v], []⟩) (fun _ R s => H s.heap ∧
      R (.ok (.ret (.ref (s.heap.push o).objs.size))) { s with heap := (s.heap.push o).push { cls := .type "enumerate", data := .fields #[.none, .bool false, .ref s.heap.objs.size, rawInt 0, .none, .none] } }) :=
  .of_wp fun prog w A R s h => by
    obtain ⟨hp, g, d, tk, os⟩ := s
    obtain ⟨h1, h⟩ := h
    have sub1 := sub_enumerate
    have its : ∀ {A' : Around} {E : Value → Shared → Prop} {Q : Value → Shared → Prop}, Q (.ref hp.objs.size) ⟨hp.push o, g, d, tk, os⟩ → wpAny (model prog w) A' (pyIter v) Q E ⟨hp, g, d, tk, os⟩ :=
      fun q => B.iter prog w _ _ ⟨hp, g, d, tk, os⟩ _ h1 q
    wp_walk using its
    refine wpAny_stack_any fun st => wpAny_pure ?_
    split
    · rename_i c _ _ _ _ _
      cases (c == Value.type "enumerate") <;> (wp_walk using its; exact ⟨_, rfl, h⟩)
    · wp_walk using its
      exact ⟨_, rfl, h⟩
theorem call_enum_one {prog : Program} {w : World} {A : Around} {E : Value → Shared → Prop} {s : Shared} {v : Value} {o : Obj} {H : Heap → Prop} {Q : Value → Shared → Prop} (B : Begins v o H) (h1 : H s.heap)
    (h : ∀ h', IsEnum h' (s.heap.objs.size + 1) s.heap.objs.size 0 .none → h'.get? s.heap.objs.size = some o → (∀ b u, s.heap.get? b = some u → h'.get? b = some u) → Q (.ref (s.heap.objs.size + 1)) { s with heap := h' }) :
    wpAny (model prog w) A (call (.type "enumerate") [v]) Q E s := by
  refine callType_new F.called_enumerate (by decide) (F.typeCall_enumerate_1 _) (F.newCall_enumerate_1 _) (fun obj => F.args_object_init_2 obj _) F.entry_enumerate_new (meets_enum_one B) ⟨h1, ?_⟩
  have hz : (s.heap.push o).objs.size = s.heap.objs.size + 1 := Heap.size_push ..
  show _ ∧ _
  rw [hz]
  have he : IsEnum ((s.heap.push o).push { cls := .type "enumerate", data := .fields #[.none, .bool false, .ref s.heap.objs.size, rawInt 0, .none, .none] }) (s.heap.objs.size + 1) s.heap.objs.size 0 .none := by
    have z := Heap.get?_push_size (s.heap.push o) (o := { cls := .type "enumerate", data := .fields #[.none, .bool false, .ref s.heap.objs.size, rawInt 0, .none, .none] }) rfl
    rw [hz] at z; exact z
  exact ⟨⟨_, he, rfl⟩, h _ he (Heap.get?_push_of_some _ (Heap.get?_push_size _ B.free)) fun b u x => Heap.get?_push_of_some _ (Heap.get?_push_of_some _ x)⟩
end PySem
namespace L2
open PySem PySem.Spec PyProof.Rows
/-- the tuple at a, each item in a new pair with its place -/
def ItT (K : PySem.W.Frag) (a : Addr) : It :=
  ⟨fun i H => ∃ (xs : List V) (x : V), SqT K H a xs ∧ xs[i]? = some x, fun i H v H' => ∃ T x, v = .ref T ∧ H T = none ∧ H' = upd H T (.tup [.int (i : Nat), x]) ∧ ∀ xs, SqT K H a xs → xs[i]? = some x, fun i H => ∃ xs : List V, SqT K H a xs ∧ xs.length = i⟩
theorem turn_pairs {P : Program} {w : World} {K : PySem.W.Frag} {elts : List Expr} {kk : Nat} {tpos : Pos} (a e it : Addr) (hea : e ≠ a) (hia : a ≠ it) :
    Turn P w K (.Tuple elts kk tpos) (ItT K a) [e, it] e (fun i h => (∃ old, IsEnum h e it ((i : Nat) : Int) old) ∧ h.IsTupleIter it a i ∧ e ≠ it) where
  mem := by simp
  obj := fun i h st b hb => by
    obtain ⟨⟨old, he⟩, ⟨o, ho, hc, hd⟩, _⟩ := st
    have eb : b = e ∨ b = it := by simpa using hb
    rcases eb with z | z
    · rw [z]; exact ⟨_, he, fun v q => nomatch q⟩
    · rw [z]; exact ⟨o, ho, fun v q => by rw [hd] at q; cases q⟩
  keep := fun i h h' st k => let ⟨⟨old, he⟩, ⟨o, ho, hc, hd⟩, hne⟩ := st; ⟨⟨old, k e (by simp) _ he⟩, ⟨o, k it (by simp) _ ho, hc, hd⟩, hne⟩
  item := by
    intro X hP hw hK hc i pins s σ H E I hf st hg
    subst hP hw hK
    obtain ⟨⟨old, he⟩, hit, hne⟩ := st
    obtain ⟨xs, x, hq, hx⟩ := hg
    obtain ⟨its, rv, p, hz⟩ := I.tuple hq
    obtain ⟨u, hu, ru⟩ := rv.get hx
    have hel : e < s.heap.objs.size := Heap.lt_size he
    have hil : it < s.heap.objs.size := by obtain ⟨_, q, _⟩ := hit; exact Heap.lt_size q
    have D := Draws.tuple (prog := X.prog) (w := X.w) (A := X.A.in1) (I.ok.hd hc) it a hia its.toArray
    have hlt : i < its.toArray.size := by
      have := (List.getElem?_eq_some_iff.mp hu).1
      simpa using this
    refine wpAny_pyNext_enum_itemD D he ⟨hit, p⟩ hlt hne (by simp [hne, hea]) fun x1 h' tk hx1 ho hit' hT hsz hk => ?_
    have ex : x1 = u := by
      have q : its.toArray[i]? = some x1 := hx1
      have q2 : its.toArray[i]? = some u := by simpa using hu
      rw [q] at q2
      exact Option.some.inj q2
    subst ex
    refine ⟨_, rfl, wpAny_letOwnedTupleGo_enum (s := { s with heap := h', toks := tk + 1 }) ho fun h'' he' sb => ?_⟩
    have hT2 : h''.get? s.heap.objs.size = some { cls := .type "tuple", data := .seq #[.int i tk, x1] } := (sb.2 _ (Nat.ne_of_gt hel)).trans hT
    have fresh : ObjOk X.prog X.w (upd H s.heap.objs.size (.tup [.int (i : Nat), x])) h'' s.heap.objs.size (.tup [.int (i : Nat), x]) :=
      ⟨by show 2 ≤ sizeLine; decide, [.int i tk, x1], .cons ⟨_, rfl⟩ (.cons ru .nil), ⟨_, hT2, rfl, _, rfl⟩⟩
    have I1 : Inv X pins σ (upd H s.heap.objs.size (.tup [.int (i : Nat), x])) { s with heap := h'', toks := tk + 1 } :=
      I.turnedNew (ch := [e, it]) (fun b ob hb q => (sb.2 b (fun z => hb (by simp [z]))).trans (hk b ob (fun z => hb (by simp [z])) (fun z => hb (by simp [z])) q)) hf (Nat.le_refl _) fresh
    refine ⟨.ref s.heap.objs.size, _, I1, rfl, ⟨_, x, rfl, I.hok.fresh (Nat.le_refl _), rfl, fun ys hy => by rw [I.tuple_inj hy hq]; exact hx⟩, ⟨⟨x1, ?_⟩, ?_, hne⟩, fun b hb => ?_⟩
    · have e1 : ((i + 1 : Nat) : Int) = (i : Int) + 1 := by omega
      rw [e1]; exact he'
    · obtain ⟨⟨o, ho2, hc2, hd2⟩, _⟩ := hit'
      exact ⟨o, (sb.2 it (Ne.symm hne)).trans ho2, hc2, hd2⟩
    · have hb' : b < s.heap.objs.size := by
        have eb : b = e ∨ b = it := by simpa using hb
        rcases eb with z | z
        · rw [z]; exact hel
        · rw [z]; exact hil
      rw [upd_ne (Nat.ne_of_lt hb')]
      exact (hf b hb).1
  done := by
    intro X hP hw hK hc i pins s σ H E I hf st hg
    subst hP hw hK
    obtain ⟨⟨old, he⟩, hit, hne⟩ := st
    obtain ⟨xs, hq, hx⟩ := hg
    obtain ⟨its, rv, p, hz⟩ := I.tuple hq
    obtain ⟨f0, f1, f2, f3, f4, f5⟩ := hf it (by simp)
    have D := Draws.tuple (prog := X.prog) (w := X.w) (A := X.A.in1) (I.ok.hd hc) it a hia its.toArray
    have hn : i = its.toArray.size := by
      have := rv.length
      simp only [List.size_toArray]
      omega
    subst hn
    exact wpAny_pyNext_enum_endD D he ⟨hit, p⟩ fun h' eb => ⟨rfl, I.turned (t' := s.toks) (fun b o hb q => eb b o hb q) f0 f1 f3 f4 f5⟩
  self := fun A i s Q E st h => let ⟨⟨_, he⟩, _⟩ := st; wpAny_pyIter_enum he h
/-- enumerate(e), e a list or a tuple -/
def iEnumA (K : PySem.W.Frag) (ta : TA) : TI := fun σ H R => ta σ H fun vs H1 => ∃ a xs, vs = [.ref a] ∧ ((SqL K H1 a xs ∧ R (Ite K a) H1) ∨ (SqT K H1 a xs ∧ R (ItT K a) H1))
theorem pi_enumA {X : Cx} {e : Expr} {ta : TA} {p pos tpos : Pos} {elts : List Expr} {kk : Nat} (hg : Gl X "enumerate") (hm : X.mg "enumerate" = none) (ha : PA X [e] ta) (hs : starEach [e] X.env = [(false, eval e X.env)] := by rfl) :
    PI X (.Tuple elts kk tpos) (.Call (.Name "enumerate" p) [e] [] pos) (iEnumA X.K ta) := by
  refine ⟨fun pins s σ H R I h => ?_⟩
  refine Call_ (ld_blt I hg hm boot_enumerate (PyProof.Rows.callWith_type1 (thn (ha.run pos pins s σ H _ I h) fun us s1 ⟨vs, H1, I1, r1, q1⟩ => ?_) hs rfl))
  obtain ⟨a, xs, ex, q⟩ := q1
  subst ex
  obtain ⟨u, rfl, ru⟩ := vals1 r1
  cases (show u = Value.ref a from ru)
  have place : ∀ b ∈ [s1.heap.objs.size + 1, s1.heap.objs.size], FpOk X pins H1 b → True := fun _ _ _ => trivial
  rcases q with ⟨hq, q⟩ | ⟨hq, q⟩
  · obtain ⟨its, rv, p', hz⟩ := I1.list hq
    refine call_enumerate_list p'.isList fun h' he hit hsz hk => wpAny_pyIter_enum he ?_
    have I2 : Inv X pins σ H1 { s1 with heap := h' } := I1.kept (t' := s1.toks) hk
    refine ⟨s1.heap.objs.size + 1, [s1.heap.objs.size + 1, s1.heap.objs.size], _, _, H1, rfl, I2, turn_enum a (s1.heap.objs.size + 1) s1.heap.objs.size, ⟨⟨.none, he⟩, hit, Nat.succ_ne_self _⟩, fun b hb => ?_, q⟩
    have eb : b = s1.heap.objs.size + 1 ∨ b = s1.heap.objs.size := by simpa using hb
    have hle : s1.heap.objs.size ≤ b := eb.elim (fun z => z ▸ Nat.le_add_right _ _) (fun z => z ▸ Nat.le_refl _)
    exact I1.fpOk hle (I1.hok.fresh hle)
  · obtain ⟨its, rv, p', hz⟩ := I1.tuple hq
    have hlt : a < s1.heap.objs.size := p'.lt
    refine call_enum_one (begins_tuple a its.toArray) p' fun h' he hit hk => wpAny_pyIter_enum he ?_
    have I2 : Inv X pins σ H1 { s1 with heap := h' } := I1.kept (t' := s1.toks) hk
    refine ⟨s1.heap.objs.size + 1, [s1.heap.objs.size + 1, s1.heap.objs.size], _, _, H1, rfl, I2, turn_pairs a (s1.heap.objs.size + 1) s1.heap.objs.size (Nat.ne_of_gt (Nat.lt_succ_of_lt hlt)) (Nat.ne_of_lt hlt), ⟨⟨.none, he⟩, ⟨_, hit, rfl, rfl⟩, Nat.succ_ne_self _⟩, fun b hb => ?_, q⟩
    have eb : b = s1.heap.objs.size + 1 ∨ b = s1.heap.objs.size := by simpa using hb
    have hle : s1.heap.objs.size ≤ b := eb.elim (fun z => z ▸ Nat.le_add_right _ _) (fun z => z ▸ Nat.le_refl _)
    exact I1.fpOk hle (I1.hok.fresh hle)
end L2

namespace L2
open PySem PySem.Spec PyProof.Rows
/-! ### defs that may show data: called where no text is being made (guards) -/
abbrev Idle (A : Around) : Prop := A.guards = some []
theorem Idle.deeper {A : Around} (g : Idle A) (env : Env) : Idle (A.deeper env) := by
  show A.guards = some []
  exact g
structure FnG (P : Program) (w : World) (K : PySem.W.Frag) (mg : Str → Option Value) (base : Heap) (k : Nat) (f : Addr) (fd : FuncData) (ps : List Str) (sp : Sp) : Prop where
  len : ∀ vs H Q E, sp vs H Q E → vs.length = ps.length
  run : ∀ (A : Around) (outer : List Env) (s : Shared) (H : Hp) (args : Args) (us : List Value) (vs : List V) (Q : VK), Room k A → Idle A → Env0 P w K mg base A outer s H → BindsTo s fd args (ps.zip us) → Vals vs us → sp vs H Q E0 →
    codeAny (model P w) A (.call (.ref f) args) (CR CX0 outer P w H s Q E0) s
theorem fn_idle {P : Program} {w : World} {K : PySem.W.Frag} {mg : Str → Option Value} {base : Heap} {k : Nat} {f : Addr} {name qual : Str} {st : Stmt} {fd : FuncData} {N ps : List Str} {sp : Sp} (F : Fun K name qual st f fd) (S : FnScope N ps (defScope st))
    (len : ∀ vs H Q E, sp vs H Q E → vs.length = ps.length)
    (hbody : ∀ (cdv : Value) (A : Around) (outer : List Env) (s : Shared) (H : Hp) (vs : List V) (Q : VK), Room k (A.deeper (envOfC qual (defScope st) s.heap.objs.size f cdv)) → Idle (A.deeper (envOfC qual (defScope st) s.heap.objs.size f cdv)) → sp vs H Q E0 →
      ∃ t, PSs (cxOf CX0 P w K mg base N qual (defScope st) f cdv A outer s H E0).nox (defBody st) t ∧ t { nx := fun _ H' => Q .non H', rt := Q } (L2.start N vs) H) :
    FnG P w K mg base (k + 1) f fd ps sp := by
  obtain ⟨oc, od, kV, doc, pm, an, cdv, ct, osl, rfl, lk, hcd⟩ := F.ex
  refine ⟨len, fun A outer s H args us vs Q hr hgd e0 hb r hsp => ?_⟩
  have kin : K.In s.heap := e0.mod.kin.keeps fun b o e => (e0.bs b o e).1
  have lim : s.heap.NoLimit := e0.mod.nolimit.keeps fun b o e => (e0.bs b o e).1
  have kinds : ∀ y ∈ ps.zip us, (defScope st).names.lookup y.1 = some .local ∨ ((defScope st).names.lookup y.1 = some .cell ∧ ((cellsFrom (s.heap.objs.size + 1) (defScope st).names []).lookup y.1).isSome = true) := fun ⟨m, v⟩ hy =>
    (S.par m (List.of_mem_zip hy).1).elim .inl fun q => .inr ⟨q, PySem.W.cellsFrom_some _ _ _ (.inl q)⟩
  refine codeAny_call_function hr.depth (kin _ _ lk) rfl S.co S.gen rfl (PySem.W.codeRec_of kin hcd) (hb _ _ _ _ ?_)
  refine wpAny_newFunctionEnv_cells S.kind kinds fun env he s1 x => ?_
  subst he
  refine ⟨lim.keeps x.toInCall.keep, codeAny_func ?_⟩
  obtain ⟨t, ht, hq⟩ := hbody cdv A outer s H vs Q (hr.deeper _) (hgd.deeper _) hsp
  have I : Inv (cxOf CX0 P w K mg base N qual (defScope st) f cdv A outer s H E0) [] (L2.start N vs) H s1 := inv_start S hr.hd e0 (len _ _ _ _ hsp) r x
  refine wpAny_mono (ht.nox.run [] s1 (L2.start N vs) H _ I hq) (fun fl s' got => ?_) fun e s' z => z
  cases fl with
  | ret u => obtain ⟨v, σ', H', J, rv, q⟩ := got; exact ⟨v, H', J.os, J.bare, J.base, J.hok, rv, q⟩
  | next => obtain ⟨σ', H', J, q⟩ := got; exact ⟨V.non, H', J.os, J.bare, J.base, J.hok, (rfl : Value.none = Value.none), q⟩
  | brk => obtain ⟨_, _, _, q⟩ := got; exact False.elim q
  | cont => obtain ⟨_, _, _, q⟩ := got; exact False.elim q
section
variable {X : Cx} {k : Nat} {f : Addr} {fd : FuncData} {ps : List Str} {sp : Sp} {x : Str} {q pos : Pos} {e : Expr} {es : List Expr} {t : TA}
theorem pe_idle (F : FnG X.prog X.w X.K X.mg X.base k f fd ps sp) (hr : Room k X.A) (hi : Idle X.A) (hm : X.mg x = some (.ref f)) (hk : PySem.W.keepIn X.K (.ref f) = true) (hb : Binds X.K fd ps []) (ha : PA X (e :: es) t) (hg : Gl X x := by rfl)
    (hdb : (x == ("__debug__" : Str)) = false := by decide) (he : starEach (e :: es) X.env = (false, eval e X.env) :: starEach es X.env := by rfl) (hpl : (backTo pos (starEach es X.env)).any (·.1) = false := by rfl) :
    PE X (.Call (.Name x q) (e :: es) [] pos) (fun σ H Q => t σ H fun vs H1 => sp vs H1 Q E0) := by
  refine ⟨fun pins s σ H Q I h => ?_⟩
  refine wpAny_Call_Name_kw (ld_glob I hg hm ?_ hdb)
  refine PySem.W.callWith_K (h₀ := X.base) I.ok.mod.kin hk (thn (ha.run pos pins s σ H _ I h) fun us s1 ⟨vs, H1, I1, r, qq⟩ => ⟨I1.kIn, ?_⟩) he hpl
  have hl : us.length = ps.length := by rw [← r.length]; exact F.len _ _ _ _ qq
  have bb := hb s1 us I1.kIn (by rw [List.append_nil]; exact hl)
  rw [List.append_nil] at bb
  refine wpAny_call (codeAny_mono (F.run X.A X.stack s1 H1 ⟨us, []⟩ us vs Q hr hi I1.env0 bb r qq) fun r s' hq => ?_)
  cases r with
  | error e => exact False.elim hq
  | ok fl =>
    cases fl with
    | ret u => exact I1.after hq
    | next => exact False.elim hq
    | brk => exact False.elim hq
    | cont => exact False.elim hq
end
/-! ### the law's own head for such a def -/
/-- the base has the object of all modules (so nothing tracked stands there) -/
def Sy (base : Heap) : Prop := ∃ o, base.get? sysModules = some o
theorem idle_law {P : Program} {w : World} {K : PySem.W.Frag} {mg mb : Str → Option Value} {k : Nat} {fa a : Addr} {fd : FuncData} {x : Str} {sp : Sp} {s1 : Shared} {vs : List Value} {ns : List Int}
    (inK : K.In s1.heap) (hn : s1.heap.Ns mainGlobals mg) (hb : s1.heap.Ns builtinsNs mb) (hm : ∀ y : Str, y ≠ "__name__" → mb y = bootBuiltins y) (lim : s1.heap.NoLimit) (hg : s1.gens = #[])
    (sc : s1.heap.get? a = some { cls := .type "list", data := .seq vs.toArray }) (hi : IntsAre vs ns) (small : ns.length ≤ sizeLine) (room : Room k callerA)
    (mods : ∃ mm, s1.heap.Ns sysModules mm)
    (F : ∀ base : Heap, K.In base → base.Ns mainGlobals mg → Sy base → FnG P w K mg base k fa fd [x] sp) (bnd : ∀ (s : Shared) (u : Value), BindsTo s fd ⟨[u], []⟩ [(x, u)])
    (prom : ∀ H : Hp, Only H → SqL K H a (ns.map V.int) → sp [.ref a] H (fun v _ => v = .bl true) E0) :
    codeAny (model P w) callerA (.call (.ref fa) ⟨[.ref a], []⟩) (fun r s' => r = .ok (.ret (.bool true)) ∧ OldK s1.heap s'.heap ∧ s'.os = s1.os ∧ AllBare s'.gens) s1 := by
  have rv := vals_ints hi
  have lv := hi.length
  have main : ∀ H : Hp, Only H → SqL K H a (ns.map V.int) → HOk P w H s1.heap → (∀ b, H b ≠ none → b = a) → (H a ≠ none → K.lookup a = none) →
      codeAny (model P w) callerA (.call (.ref fa) ⟨[.ref a], []⟩) (fun r s' => r = .ok (.ret (.bool true)) ∧ OldK s1.heap s'.heap ∧ s'.os = s1.os ∧ AllBare s'.gens) s1 := by
    intro H only sq hok just none_a
    have ns_of : ∀ {b : Addr} {m : Str → Option Value}, s1.heap.Ns b m → (hidT s1.heap H).Ns b m := by
      rintro b m ⟨o, es, ep, e, d, r⟩
      refine ⟨o, es, ep, hidT_get e ?_, d, r⟩
      cases q : H b with
      | none => rfl
      | some u =>
        obtain rfl := just b (by rw [q]; simp)
        rw [sc] at e
        cases e
        exact absurd d (by intro z; cases z)
    have k_of : K.In (hidT s1.heap H) := by
      intro b o e
      refine hidT_get (inK b o e) ?_
      cases q : H b with
      | none => rfl
      | some u =>
        obtain rfl := just b (by rw [q]; simp)
        rw [none_a (by rw [q]; simp)] at e
        cases e
    have md : Mod K mg (hidT s1.heap H) := by
      obtain ⟨mc, l1, l2⟩ := lim
      exact ⟨k_of, ns_of hn, ⟨mb, ns_of hb, hm⟩, ⟨mc, ns_of l1, l2⟩⟩
    have e0 : Env0 P w K mg (hidT s1.heap H) callerA [] s1 H :=
      { frames := rfl, mod := md, bs := fun b o e => of_hidT e, bsz := Nat.le_of_eq (hidT_size _ _), funs := trivial, frf := fun b hb => (List.not_mem_nil (show b ∈ ([] : List Addr) from hb)).elim, hok := hok, bare := .of_eq hg }
    have sy : Sy (hidT s1.heap H) := by
      obtain ⟨mm, hm⟩ := mods
      obtain ⟨o, es, ep, e, _⟩ := ns_of hm
      exact ⟨o, e⟩
    have go := (F _ k_of (ns_of hn) sy).run callerA [] s1 H ⟨[.ref a], []⟩ [.ref a] [.ref a] _ room rfl e0 (bnd s1 (.ref a)) (.cons rfl .nil) (prom H only sq)
    refine codeAny_mono go fun r s' out => ?_
    cases r with
    | error e => exact False.elim out
    | ok fl =>
      cases fl with
      | next => exact False.elim out
      | brk => exact False.elim out
      | cont => exact False.elim out
      | ret u =>
        obtain ⟨v, H', os, bare, un, hok', rel, ev⟩ := out
        cases (show v = .bl true from ev)
        cases (show u = Value.bool true from rel)
        refine ⟨rfl, OldK.of_keep fun b o e => ?_, os, bare⟩
        cases q : H b with
        | none => exact un.keep b o e q (fun z => List.not_mem_nil (show b ∈ ([] : List Addr) from z)) (by simp)
        | some u =>
          rcases only b with z | ⟨ob, xs, z⟩
          · rw [q] at z; cases z
          · obtain ⟨e1, _⟩ := hok b _ z
            obtain ⟨e2, _⟩ := hok' b _ (un.frzs b ob _ z)
            rw [e] at e1; cases e1
            exact e2
  cases hk : K.lookup a with
  | some o =>
    have e := inK a o hk
    rw [sc] at e
    cases e
    exact main (fun _ => none) (fun _ => .inl rfl) (.inr ⟨_, vs.toArray, _, hk, rfl, rfl, rfl, by rw [List.size_toArray, lv]; exact small, by simpa using rv⟩) (fun b u z => nomatch (show (none : Option HO) = some u from z)) (fun b z => (z rfl).elim) (fun z => (z rfl).elim)
  | none =>
    obtain ⟨G, hG⟩ : ∃ G : Hp, G = fun b => if b = a then some (.frz { cls := .type "list", data := .seq vs.toArray } (.lst (ns.map V.int))) else none := ⟨_, rfl⟩
    have at_a : G a = some (.frz { cls := .type "list", data := .seq vs.toArray } (.lst (ns.map V.int))) := by rw [hG]; exact if_pos rfl
    have off : ∀ b, b ≠ a → G b = none := fun b hb => by rw [hG]; exact if_neg hb
    refine main G (fun b => ?_) (.inl (.inr ⟨_, at_a⟩)) (fun b u z => ?_) (fun b z => ?_) (fun _ => hk)
    · by_cases hb : b = a
      · subst hb; exact .inr ⟨_, _, at_a⟩
      · exact .inl (off b hb)
    · by_cases hb : b = a
      · subst hb
        rw [at_a] at z
        cases z
        exact ⟨sc, by rw [List.length_map]; exact small, vs, _, rv, sc⟩
      · rw [off b hb] at z; cases z
    · by_cases hb : b = a
      · exact hb
      · exact absurd (off b hb) z
theorem walk_idle {l : PySem.W.OpenLaw} {n k : Nat} {q : Program} {loose : List Str} {XP : (Str → Option Value) → Heap → Prop} {YP : World → Heap → Prop} {d : DefRec} {K : Params → PySem.W.Frag} {sp : World → Sp} {x : Str}
    (hn : l.most = some n) (small : n ≤ sizeLine) (hd : d.params.defaults = []) (hq : importsNone q = true) (room : Room k callerA) (hY : ∀ (w : World) (h : Heap), YP w h → (K w.params).In h)
    (F : ∀ (w : World) (mg : Str → Option Value) (fa : Addr) (h : Heap), (K w.params).In h → h.Ns mainGlobals mg → mg d.name = some (.ref fa) →
      ∃ fd : FuncData, (∀ (s : Shared) (u : Value), BindsTo s fd ⟨[u], []⟩ [(x, u)]) ∧ ∀ base : Heap, (K w.params).In base → base.Ns mainGlobals mg → Sy base → FnG l.prog w (K w.params) mg base k fa fd [x] (sp w))
    (prom : ∀ (w : World) (H : Hp) (a : Addr) (ns : List Int), ns.length ≤ n → Only H → SqL (K w.params) H a (ns.map V.int) → sp w [.ref a] H (fun v _ => v = .bl true) E0) :
    PySem.W.WalkO q loose XP YP l.row.toRowW d [] (fun f vs => PySem.call f vs) := by
  refine Att.attach_call hn hd fun w s0 s1 mg mb fa o pm cd doc a vs ns G Y ho hd hcd hmg hobj hints hlen hg => ?_
  have inK := hY w _ Y
  obtain ⟨fd, hb, hF⟩ := F w mg fa _ inK G.T.g hmg
  exact idle_law inK G.T.g G.T.b G.T.builtins G.T.nolimit hg hobj hints (Nat.le_trans hlen small) room (let ⟨mm, h1, _⟩ := (G.T.seer hq).mods; ⟨mm, h1⟩) hF hb (fun H hO hS => prom w H a ns hlen hO hS)
end L2

namespace L2
open PySem PySem.Spec PyProof.Rows
/-! ### data: None, bools, ints, texts; lists, tuples, dicts (keys ints and texts) of such -/
def encK : Key → PyData
  | .inl i => .int i
  | .inr x => .str x
mutual
inductive Dn (H : Hp) : V → PyData → Prop
  | non : Dn H .non .none
  | bl (b : Bool) : Dn H (.bl b) (.bool b)
  | int (i : Int) : Dn H (.int i) (.int i)
  | str (x : Str) : Dn H (.str x) (.str x)
  | lst {a : Addr} {xs : List V} {ds : List PyData} : H a = some (.lst xs) → DnAll H xs ds → Dn H (.ref a) (.list ds)
  | tup {a : Addr} {xs : List V} {ds : List PyData} : H a = some (.tup xs) → DnAll H xs ds → Dn H (.ref a) (.tuple ds)
  | dct {a : Addr} {kvs : List (Key × V)} {ds : List (PyData × PyData)} : H a = some (.dK kvs) → DnKv H kvs ds → Dn H (.ref a) (.dict ds)
inductive DnAll (H : Hp) : List V → List PyData → Prop
  | nil : DnAll H [] []
  | cons {v : V} {vs : List V} {d : PyData} {ds : List PyData} : Dn H v d → DnAll H vs ds → DnAll H (v :: vs) (d :: ds)
inductive DnKv (H : Hp) : List (Key × V) → List (PyData × PyData) → Prop
  | nil : DnKv H [] []
  | cons {k : Key} {v : V} {r : List (Key × V)} {d : PyData} {ds : List (PyData × PyData)} : Dn H v d → DnKv H r ds → DnKv H ((k, v) :: r) ((encK k, d) :: ds)
end
section
variable {H H' : Hp}
mutual
theorem Dn.mono (h : Same H H') : ∀ (d : PyData) (v : V), Dn H v d → Dn H' v d
  | .none, _, q => by cases q; exact .non
  | .bool b, _, q => by cases q; exact .bl b
  | .int i, _, q => by cases q; exact .int i
  | .str x, _, q => by cases q; exact .str x
  | .list ds, _, q => by
    cases q with
    | lst e r => exact .lst (h _ _ e) (DnAll.mono h ds _ r)
  | .tuple ds, _, q => by
    cases q with
    | tup e r => exact .tup (h _ _ e) (DnAll.mono h ds _ r)
  | .dict ds, _, q => by
    cases q with
    | dct e r => exact .dct (h _ _ e) (DnKv.mono h ds _ r)
theorem DnAll.mono (h : Same H H') : ∀ (ds : List PyData) (vs : List V), DnAll H vs ds → DnAll H' vs ds
  | [], _, q => by cases q; exact .nil
  | d :: ds, _, q => by
    cases q with
    | cons a b => exact .cons (Dn.mono h d _ a) (DnAll.mono h ds _ b)
theorem DnKv.mono (h : Same H H') : ∀ (ds : List (PyData × PyData)) (vs : List (Key × V)), DnKv H vs ds → DnKv H' vs ds
  | [], _, q => by cases q; exact .nil
  | (_, d) :: ds, _, q => by
    cases q with
    | cons a b => exact .cons (Dn.mono h d _ a) (DnKv.mono h ds _ b)
end
end
theorem sys_new {X : Cx} {pins : List (Addr × Obj)} {σ : St} {H : Hp} {s : Shared} (sy : Sy X.base) (I : Inv X pins σ H s) {a : Addr} {o : HO} (e : H a = some o) : a ≠ sysModules := by
  rintro rfl
  obtain ⟨o', eo⟩ := sy
  rw [(I.env0.bs _ _ eo).2] at e
  cases e
theorem enc_reads {P : Program} {w : World} {h : Heap} (k : Key) (key : Value) (e : (mixKind P w).is k key = true) : Reads h key (encK k) [] := by
  rcases keyIs_shape (show keyIs k key = true from e) with ⟨i, t, rfl, rfl⟩ | ⟨x, t, rfl, rfl⟩
  · exact Reads.int i t
  · exact Reads.str x t
section
variable {X : Cx} {pins : List (Addr × Obj)} {σ : St} {H : Hp} {s : Shared}
mutual
theorem Dn.reads (sy : Sy X.base) (I : Inv X pins σ H s) : ∀ (d : PyData) (v : V) (u : Value), Dn H v d → RelV v u → ∃ as, Reads s.heap u d as ∧ sysModules ∉ as
  | .none, _, _, h, r => by
    cases h
    cases r
    exact ⟨_, Reads.none, by simp⟩
  | .bool b, _, _, h, r => by
    cases h
    cases r
    exact ⟨_, Reads.bool b, by simp⟩
  | .int i, _, _, h, r => by
    cases h
    obtain ⟨t, rfl⟩ := r
    exact ⟨_, Reads.int i t, by simp⟩
  | .str x, _, _, h, r => by
    cases h
    obtain ⟨t, rfl⟩ := r
    exact ⟨_, Reads.str x t, by simp⟩
  | .list ds, _, _, h, r => by
    cases h with
    | lst hs ha =>
      cases r
      obtain ⟨its, rv, ⟨o, n, ho, hc, _, hd⟩, _⟩ := I.list (SqL.of (K := X.K) hs)
      obtain ⟨as, hr, nm⟩ := DnAll.reads sy I ds _ its ha rv
      refine ⟨_, Reads.list ho hc hd hr, fun z => ?_⟩
      exact (List.mem_cons.mp z).elim (fun e => sys_new sy I hs e.symm) nm
  | .tuple ds, _, _, h, r => by
    cases h with
    | tup hs ha =>
      cases r
      obtain ⟨its, rv, ⟨o, ho, hc, n, hd⟩, _⟩ := I.tuple (SqT.of (K := X.K) hs)
      obtain ⟨as, hr, nm⟩ := DnAll.reads sy I ds _ its ha rv
      exact ⟨_, Reads.tuple ho hc hd hr, nm⟩
  | .dict ds, _, _, h, r => by
    cases h with
    | dct hs ha =>
      cases r
      obtain ⟨_, _, vs, rv, hd⟩ := dk_of I.hok hs
      obtain ⟨bs, hr, nm⟩ := DnKv.reads sy I ds _ vs ha rv
      refine ⟨_, PyProof.V.reads_dictOf (fun k key e => enc_reads k key e) hd hr, fun z => ?_⟩
      exact (List.mem_cons.mp z).elim (fun e => sys_new sy I hs e.symm) nm
theorem DnAll.reads (sy : Sy X.base) (I : Inv X pins σ H s) : ∀ (ds : List PyData) (vs : List V) (us : List Value), DnAll H vs ds → Vals vs us → ∃ as, ReadsAll s.heap us ds as ∧ sysModules ∉ as
  | [], _, _, h, r => by
    cases h
    cases r
    exact ⟨_, ReadsAll.nil, by simp⟩
  | d :: ds, _, _, h, r => by
    cases h with
    | cons h1 h2 =>
      cases r with
      | cons r1 r2 =>
        obtain ⟨as, q1, n1⟩ := Dn.reads sy I d _ _ h1 r1
        obtain ⟨bs, q2, n2⟩ := DnAll.reads sy I ds _ _ h2 r2
        exact ⟨_, ReadsAll.cons q1 q2, fun z => (List.mem_append.mp z).elim n1 n2⟩
theorem DnKv.reads (sy : Sy X.base) (I : Inv X pins σ H s) : ∀ (ds : List (PyData × PyData)) (kvs : List (Key × V)) (us : List (Key × Value)), DnKv H kvs ds → KV kvs us → ∃ as, PyProof.V.PairsRead s.heap encK us ds as ∧ sysModules ∉ as
  | [], _, _, h, r => by
    cases h
    cases r
    exact ⟨_, .nil, by simp⟩
  | (_, d) :: ds, _, _, h, r => by
    cases h with
    | cons h1 h2 =>
      cases r with
      | @cons _ y _ ys r1 r2 =>
        obtain ⟨k', u⟩ := y
        obtain ⟨e1, r1'⟩ := r1
        obtain ⟨as, q1, n1⟩ := Dn.reads sy I d _ _ h1 r1'
        obtain ⟨bs, q2, n2⟩ := DnKv.reads sy I ds _ _ h2 r2
        cases e1
        exact ⟨_, .cons q1 q2, fun z => (List.mem_append.mp z).elim n1 n2⟩
end
/-- repr(x), x such data: its text -/
theorem call_repr (sy : Sy X.base) (hi : Idle X.A) (hu : X.A.units + 70 < cLine) : CallR X (.builtin "repr") (fun xs H Q => ∃ (x : V) (d : PyData), xs = [x] ∧ Dn H x d ∧ d.showable = true ∧ d.depth ≤ 64 ∧ d.shown.length ≤ sizeLine ∧ Q (.str d.shown) H) := by
  intro pins s σ H xs us Q I r h
  obtain ⟨x, d, rfl, hx, hs, hd, hz, q⟩ := h
  obtain ⟨u, rfl, ru⟩ := vals1 r
  cases hx with
  | non => cases ru; exact PySem.P.repr_of_none ⟨.str _, H, I.tok _, ⟨_, rfl⟩, by simpa only [PyData.shown] using q⟩
  | bl b => cases ru; exact PySem.P.repr_of_bool ⟨.str _, H, I.tok _, ⟨_, rfl⟩, by simpa only [PyData.shown] using q⟩
  | int i =>
    obtain ⟨t, rfl⟩ := ru
    exact PySem.P.repr_of_int (by simpa [PyData.showable] using hs) ⟨.str _, H, I.tok _, ⟨_, rfl⟩, by simpa only [PyData.shown] using q⟩
  | str y =>
    obtain ⟨t, rfl⟩ := ru
    exact PySem.P.repr_of_str ⟨.str _, H, I.tok _, ⟨_, rfl⟩, by simpa only [PyData.shown] using q⟩ (by simpa only [PyData.shown] using hz)
  | lst e ha =>
    cases ru
    obtain ⟨as, rd, nm⟩ := Dn.reads sy I _ _ _ (.lst e ha) rfl
    exact PySem.repr_of_reads' rd hs (fun _ => nm) hi (by omega) (fun _ _ z => z) (fun h' t tk k => ⟨.str _, H, I.kept (t' := tk) k, ⟨_, rfl⟩, q⟩) hz
  | tup e ha =>
    cases ru
    obtain ⟨as, rd, nm⟩ := Dn.reads sy I _ _ _ (.tup e ha) rfl
    exact PySem.repr_of_reads' rd hs (fun _ => nm) hi (by omega) (fun _ _ z => z) (fun h' t tk k => ⟨.str _, H, I.kept (t' := tk) k, ⟨_, rfl⟩, q⟩) hz
  | dct e ha =>
    cases ru
    obtain ⟨as, rd, nm⟩ := Dn.reads sy I _ _ _ (.dct e ha) rfl
    exact PySem.repr_of_reads' rd hs (fun _ => nm) hi (by omega) (fun _ _ z => z) (fun h' t tk k => ⟨.str _, H, I.kept (t' := tk) k, ⟨_, rfl⟩, q⟩) hz
end
end L2

namespace L2
open PySem PySem.Spec PyProof.Rows
/-- data with a text of at most m signs, at most n deep -/
structure Okd (m n : Nat) (d : PyData) : Prop where
  sh : d.showable = true
  dp : d.depth ≤ n
  ln : d.shown.length ≤ m
theorem Okd.mono {m n m' n' : Nat} {d : PyData} (h : Okd m n d) (hm : m ≤ m') (hn : n ≤ n') : Okd m' n' d := ⟨h.sh, Nat.le_trans h.dp hn, Nat.le_trans h.ln hm⟩
theorem ok_all {m n : Nat} : ∀ {ds : List PyData}, (∀ d ∈ ds, Okd m n d) → PyData.showableAll ds = true ∧ PyData.depthAll ds ≤ n ∧ piled (PyData.shownAll ds) ≤ ds.length * (m + 2) ∧ (PyData.shownAll ds).length = ds.length
  | [], _ => by simp [PyData.showableAll, PyData.depthAll, PyData.shownAll, piled]
  | d :: ds, h => by
    obtain ⟨a, b, c, e⟩ := ok_all (ds := ds) fun x hx => h x (List.mem_cons_of_mem _ hx)
    have q := h d List.mem_cons_self
    have q1 := q.sh
    have q2 := q.dp
    have q3 := q.ln
    refine ⟨by simp [PyData.showableAll, q1, a], by simp only [PyData.depthAll]; omega, ?_, by simp [PyData.shownAll, e]⟩
    simp only [PyData.shownAll, piled_cons, List.length_cons]
    rw [Nat.succ_mul]
    omega
theorem text_up : ∀ (ts : List Str) (k : Nat) (acc : Str), (textFrom k acc ts).length ≤ acc.length + piled ts
  | [], k, acc => by simp [textFrom, piled]
  | t :: r, k, acc => by
    have h := text_up r (k + 1) (acc ++ (if k > 0 then ", " else "" : String) ++ t)
    have e : (acc ++ (if k > 0 then ", " else "" : String) ++ t).length = acc.length + (if k > 0 then 2 else 0) + t.length := by
      rw [strLen_append, strLen_append]
      by_cases c : k > 0
      · rw [if_pos c, if_pos c]; rfl
      · rw [if_neg c, if_neg c]; rfl
    rw [e] at h
    rw [piled_cons]
    show (textFrom (k + 1) _ r).length ≤ _
    have e4 : (if k > 0 then 2 else 0) ≤ 2 := by split <;> omega
    omega
theorem join_up (ts : List Str) : (Str.join ", " ts).length ≤ piled ts := by
  by_cases h : ts = []
  · subst h; simp [piled, Str.join]; decide
  · have := join_length_add ts h; omega
theorem okd_non : Okd 4 0 .none := ⟨rfl, by simp [PyData.depth], by simp only [PyData.shown]; decide⟩
theorem okd_bl (b : Bool) : Okd 5 0 (.bool b) := ⟨rfl, by simp [PyData.depth], by cases b <;> simp only [PyData.shown] <;> decide⟩
theorem okd_int {i : Int} (h : i.natAbs.log2 < 1920) : Okd 1921 0 (.int i) := ⟨by simpa [PyData.showable] using h, by simp [PyData.depth], by simp only [PyData.shown]; exact int_text_len_1921 h⟩
theorem okd_str {x : Str} {m : Nat} (h : (reprText x).length ≤ m) : Okd m 0 (.str x) := ⟨rfl, by simp [PyData.depth], by simpa only [PyData.shown] using h⟩
theorem okd_list {m n : Nat} {ds : List PyData} (h : ∀ d ∈ ds, Okd m n d) : Okd (ds.length * (m + 2) + 2) (n + 1) (.list ds) := by
  obtain ⟨a, b, c, e⟩ := ok_all h
  refine ⟨by simpa [PyData.showable] using a, by simp only [PyData.depth]; omega, ?_⟩
  simp only [PyData.shown, listText]
  rw [strLen_append]
  have := text_up (PyData.shownAll ds) 0 "["
  have e1 : (("[" : String) : Str).length = 1 := rfl
  have e2 : (("]" : String) : Str).length = 1 := rfl
  omega
theorem okd_tup {m n : Nat} {ds : List PyData} (h : ∀ d ∈ ds, Okd m n d) : Okd (ds.length * (m + 2) + 3) (n + 1) (.tuple ds) := by
  obtain ⟨a, b, c, e⟩ := ok_all h
  refine ⟨by simpa [PyData.showable] using a, by simp only [PyData.depth]; omega, ?_⟩
  simp only [PyData.shown, tupleText]
  rw [strLen_append, strLen_append]
  have := join_up (PyData.shownAll ds)
  have e1 : (("(" : String) : Str).length = 1 := rfl
  have e2 : (((if (PyData.shownAll ds).length == 1 then ",)" else ")" : String) : String) : Str).length ≤ 2 := by
    by_cases z : ((PyData.shownAll ds).length == 1) = true
    · rw [if_pos z]; decide
    · rw [if_neg z]; decide
  omega
theorem okd_dict2 {m1 m2 m3 m4 n : Nat} {a b c d : PyData} (h1 : Okd m1 n a) (h2 : Okd m2 n b) (h3 : Okd m3 n c) (h4 : Okd m4 n d) : Okd (m1 + m2 + m3 + m4 + 12) (n + 1) (.dict [(a, b), (c, d)]) := by
  have s1 := h1.sh
  have s2 := h2.sh
  have s3 := h3.sh
  have s4 := h4.sh
  have d1 := h1.dp
  have d2 := h2.dp
  have d3 := h3.dp
  have d4 := h4.dp
  have l1 := h1.ln
  have l2 := h2.ln
  have l3 := h3.ln
  have l4 := h4.ln
  refine ⟨by simp [PyData.showable, PyData.showableKv, s1, s2, s3, s4], by simp only [PyData.depth, PyData.depthKv]; omega, ?_⟩
  simp only [PyData.shown, PyData.shownKv, dictText]
  rw [strLen_append, strLen_append]
  have := join_up [a.shown ++ ": " ++ b.shown, c.shown ++ ": " ++ d.shown]
  simp only [piled_cons, piled_nil, strLen_append] at this
  have e1 : (("{" : String) : Str).length = 1 := rfl
  have e2 : (("}" : String) : Str).length = 1 := rfl
  have e3 : ((": " : String) : Str).length = 2 := rfl
  omega
theorem piled_two (ts : List Str) : 2 * ts.length ≤ piled ts := by
  induction ts with
  | nil => simp [piled]
  | cons t r ih => rw [piled_cons, List.length_cons]; omega
theorem okd_short {m n : Nat} {ds : List PyData} (h : Okd m n (.tuple ds)) : 2 * ds.length ≤ m + 1 := by
  have hl := h.ln
  simp only [PyData.shown, tupleText] at hl
  rw [strLen_append, strLen_append] at hl
  have e1 : (("(" : String) : Str).length = 1 := rfl
  have len : (PyData.shownAll ds).length = ds.length := by
    clear hl h
    induction ds with
    | nil => simp [PyData.shownAll]
    | cons d r ih => simp [PyData.shownAll, ih]
  by_cases z : PyData.shownAll ds = []
  · rw [z] at len; simp at len; rw [← len]; simp
  · have h1 := join_length_add _ z
    have h2 := piled_two (PyData.shownAll ds)
    omega
/-- nice data at v -/
def NiceD (H : Hp) (m n : Nat) (v : V) : Prop := ∃ d, Dn H v d ∧ Okd m n d
theorem NiceD.mono {H H' : Hp} {m n m' n' : Nat} {v : V} (h : NiceD H m n v) (s : Same H H') (hm : m ≤ m') (hn : n ≤ n') : NiceD H' m' n' v :=
  let ⟨d, a, b⟩ := h; ⟨d, Dn.mono s d v a, b.mono hm hn⟩
theorem dn_of : ∀ {H : Hp} {m n : Nat} {vs : List V}, (∀ v ∈ vs, NiceD H m n v) → ∃ ds, DnAll H vs ds ∧ (∀ d ∈ ds, Okd m n d) ∧ ds.length = vs.length
  | _, _, _, [], _ => ⟨[], .nil, by simp, rfl⟩
  | H, m, n, v :: vs, h => by
    obtain ⟨d, a, b⟩ := h v List.mem_cons_self
    obtain ⟨ds, x, y, z⟩ := dn_of (vs := vs) fun u hu => h u (List.mem_cons_of_mem _ hu)
    exact ⟨d :: ds, .cons a x, fun e he => (List.mem_cons.mp he).elim (fun q => q ▸ b) (y e), by rw [List.length_cons, List.length_cons, z]⟩
theorem nd_list {H : Hp} {m n : Nat} {a : Addr} {vs : List V} (e : H a = some (.lst vs)) (h : ∀ v ∈ vs, NiceD H m n v) : NiceD H (vs.length * (m + 2) + 2) (n + 1) (.ref a) := by
  obtain ⟨ds, x, y, z⟩ := dn_of h
  exact ⟨.list ds, .lst e x, by rw [← z]; exact okd_list y⟩
theorem nd_tup {H : Hp} {m n : Nat} {a : Addr} {vs : List V} (e : H a = some (.tup vs)) (h : ∀ v ∈ vs, NiceD H m n v) : NiceD H (vs.length * (m + 2) + 3) (n + 1) (.ref a) := by
  obtain ⟨ds, x, y, z⟩ := dn_of h
  exact ⟨.tuple ds, .tup e x, by rw [← z]; exact okd_tup y⟩
theorem nd_int {H : Hp} {i : Int} (h : i.natAbs.log2 < 1920) : NiceD H 1921 0 (.int i) := ⟨_, .int i, okd_int h⟩
theorem nd_bl (H : Hp) (b : Bool) : NiceD H 5 0 (.bl b) := ⟨_, .bl b, okd_bl b⟩
theorem nd_non (H : Hp) : NiceD H 4 0 .non := ⟨_, .non, okd_non⟩
theorem nd_str {H : Hp} {x : Str} {m : Nat} (h : (reprText x).length ≤ m) : NiceD H m 0 (.str x) := ⟨_, .str x, okd_str h⟩
theorem nd_dict2 {H : Hp} {m1 m2 m3 m4 n : Nat} {a : Addr} {k1 k2 : Key} {x y : V} (e : H a = some (.dK [(k1, x), (k2, y)])) (h1 : Okd m1 n (encK k1)) (hx : NiceD H m2 n x) (h2 : Okd m3 n (encK k2)) (hy : NiceD H m4 n y) : NiceD H (m1 + m2 + m3 + m4 + 12) (n + 1) (.ref a) := by
  obtain ⟨d1, p1, q1⟩ := hx
  obtain ⟨d2, p2, q2⟩ := hy
  exact ⟨.dict [(encK k1, d1), (encK k2, d2)], .dct e (.cons p1 (.cons p2 .nil)), okd_dict2 h1 q1 h2 q2⟩
theorem DnAll.length {H : Hp} : ∀ {xs : List V} {ds : List PyData}, DnAll H xs ds → xs.length = ds.length
  | _, _, .nil => rfl
  | _, _, .cons _ r => by rw [List.length_cons, List.length_cons, DnAll.length r]
theorem DnAll.at_ {H : Hp} : ∀ {xs : List V} {ds : List PyData} {i : Nat} {x : V}, DnAll H xs ds → xs[i]? = some x → ∃ d, ds[i]? = some d ∧ Dn H x d
  | _, _, _, _, .nil, e => by simp at e
  | _, _, 0, _, .cons a r, e => by cases (show some _ = some _ from e); exact ⟨_, rfl, a⟩
  | _, _, i + 1, x, .cons _ r, e => DnAll.at_ (i := i) r e
end L2

namespace N2
/-- no square above 1 divides n -/
def SqF (n : Nat) : Prop := ∀ q, 2 ≤ q → ¬ q * q ∣ n
theorem sqf_one : SqF 1 := fun q h d => by
  have := Nat.le_of_dvd (by decide) d
  have : 2 * 2 ≤ q * q := Nat.mul_le_mul h h
  omega
/-- no number from 2 to p - 1 divides s -/
def Low (p s : Nat) : Prop := ∀ q, 2 ≤ q → q < p → ¬ q ∣ s
theorem low_two (s : Nat) : Low 2 s := fun q h1 h2 => by omega
theorem Low.dvd {p s t : Nat} (h : Low p s) (d : t ∣ s) : Low p t := fun q h1 h2 e => h q h1 h2 (Nat.dvd_trans e d)
theorem Low.succ {p s : Nat} (h : Low p s) (d : ¬ p ∣ s) : Low (p + 1) s := fun q h1 h2 e => by
  by_cases c : q = p
  · exact d (c ▸ e)
  · exact h q h1 (by omega) e
/-- s = p t, p not in t, nothing below p in s: a square in s is one in t -/
theorem sqf_step {p s t : Nat} (hp : 2 ≤ p) (hl : Low p s) (e : s = p * t) (ht : ¬ p ∣ t) (h : SqF t) : SqF s := by
  intro q hq d
  have g1 : Nat.gcd p q ∣ p := Nat.gcd_dvd_left p q
  have pos : 0 < p := by omega
  have gp : 0 < Nat.gcd p q := Nat.gcd_pos_of_pos_left q pos
  by_cases c1 : Nat.gcd p q = 1
  · have co : Nat.Coprime q p := by
      show Nat.gcd q p = 1
      rw [Nat.gcd_comm]; exact c1
    have co2 : Nat.Coprime (q * q) p := Nat.Coprime.mul_left co co
    rw [e] at d
    exact h q hq (co2.dvd_of_dvd_mul_left d)
  · have g2 : Nat.gcd p q = p := by
      have le := Nat.le_of_dvd pos g1
      by_cases c2 : Nat.gcd p q < p
      · exact absurd (Nat.dvd_trans g1 ⟨t, e⟩) (hl _ (by omega) c2)
      · omega
    have pq : p ∣ q := by
      have := Nat.gcd_dvd_right p q
      rw [g2] at this; exact this
    have pp : p * p ∣ p * t := by
      rw [← e]
      exact Nat.dvd_trans (Nat.mul_dvd_mul pq pq) d
    exact ht ((Nat.mul_dvd_mul_iff_left pos).mp pp)
/-- behind the loop: s below the third power, nothing below p in it -/
theorem sqf_end {p s : Nat} (hl : Low p s) (hs : 1 ≤ s) (h3 : s < p * p * p) (sq : ∀ r, r * r = s → r = 1) : SqF s := by
  intro q hq d
  obtain ⟨t, e⟩ := d
  have tpos : 1 ≤ t := by
    rcases Nat.eq_zero_or_pos t with z | z
    · rw [z] at e; omega
    · exact z
  have qs : q ∣ s := ⟨q * t, by rw [e, Nat.mul_assoc]⟩
  have qp : p ≤ q := by
    by_cases c : q < p
    · exact absurd qs (hl q hq c)
    · omega
  by_cases c : t = 1
  · rw [c, Nat.mul_one] at e
    have := sq q e.symm
    omega
  · have ts : t ∣ s := ⟨q * q, by rw [e, Nat.mul_comm]⟩
    have tp : p ≤ t := by
      by_cases c2 : t < p
      · exact absurd ts (hl t (by omega) c2)
      · omega
    have : p * p * p ≤ q * q * t := Nat.mul_le_mul (Nat.mul_le_mul qp qp) tp
    omega
/-- the state of the splitting: n the first size, s what is left, r the root so far, p the factor -/
structure Spl (n s r p : Nat) : Prop where
  s1 : 1 ≤ s
  r1 : 1 ≤ r
  p2 : 2 ≤ p
  dv : s * (r * r) ∣ n
  low : Low p s
  up : r = 1 → SqF s → SqF n
theorem spl_0 {n : Nat} (h : 1 ≤ n) : Spl n n 1 2 := ⟨h, Nat.le_refl _, Nat.le_refl _, ⟨1, by simp⟩, low_two n, fun _ q => q⟩
theorem Spl.le {n s r p : Nat} (S : Spl n s r p) (hn : 1 ≤ n) : s ≤ n := by
  have h1 := Nat.le_of_dvd hn S.dv
  have h2 : s * 1 ≤ s * (r * r) := Nat.mul_le_mul_left s (Nat.mul_le_mul S.r1 S.r1)
  omega
/-- s is divided by the square -/
theorem Spl.sq {n s r p : Nat} (S : Spl n s r p) (d : s % (p * p) = 0) : Spl n (s / (p * p)) (r * p) p ∧ s / (p * p) < s := by
  have pp : 0 < p * p := Nat.mul_pos (by have := S.p2; omega) (by have := S.p2; omega)
  obtain ⟨t, e⟩ := Nat.dvd_of_mod_eq_zero d
  have et : s / (p * p) = t := by rw [e, Nat.mul_div_cancel_left _ pp]
  have t1 : 1 ≤ t := by
    rcases Nat.eq_zero_or_pos t with z | z
    · rw [z] at e; have := S.s1; omega
    · exact z
  have h2 := S.p2
  have rp : 2 ≤ r * p := by
    have : 1 * 2 ≤ r * p := Nat.mul_le_mul S.r1 h2
    omega
  refine ⟨?_, Nat.div_lt_self (by have := S.s1; omega) (by have : 2 * 2 ≤ p * p := Nat.mul_le_mul h2 h2; omega)⟩
  rw [et]
  refine ⟨t1, by omega, h2, ?_, S.low.dvd ⟨p * p, by rw [e, Nat.mul_comm]⟩, fun z => by omega⟩
  have := S.dv
  rw [e] at this
  have q : t * (r * p * (r * p)) = p * p * t * (r * r) := by
    simp only [Nat.mul_comm, Nat.mul_left_comm, Nat.mul_assoc]
  rw [q]; exact this
/-- s is divided by the factor once -/
theorem Spl.one {n s r p : Nat} (S : Spl n s r p) (d2 : ¬ s % (p * p) = 0) (d : s % p = 0) : Spl n (s / p) r (p + 1) := by
  have h2 := S.p2
  have pos : 0 < p := by omega
  obtain ⟨t, e⟩ := Nat.dvd_of_mod_eq_zero d
  have et : s / p = t := by rw [e, Nat.mul_div_cancel_left _ pos]
  have t1 : 1 ≤ t := by
    rcases Nat.eq_zero_or_pos t with z | z
    · rw [z] at e; have := S.s1; omega
    · exact z
  have nt : ¬ p ∣ t := fun ⟨u, eu⟩ => d2 (Nat.mod_eq_zero_of_dvd ⟨u, by rw [e, eu, Nat.mul_assoc]⟩)
  have ts : t ∣ s := ⟨p, by rw [e, Nat.mul_comm]⟩
  rw [et]
  exact ⟨t1, S.r1, by omega, Nat.dvd_trans (Nat.mul_dvd_mul_right ts _) S.dv, (S.low.dvd ts).succ nt, fun r1 q => S.up r1 (sqf_step h2 S.low e nt q)⟩
theorem Spl.no {n s r p : Nat} (S : Spl n s r p) (d : ¬ s % p = 0) : Spl n s r (p + 1) :=
  ⟨S.s1, S.r1, by have := S.p2; omega, S.dv, S.low.succ (fun z => d (Nat.mod_eq_zero_of_dvd z)), S.up⟩
/-- the end: the root is 1 exactly if no square divides -/
theorem Spl.fin_sq {n s r p k : Nat} (S : Spl n s r p) (hk : k * k = s) : r * k = 1 ↔ SqF n := by
  constructor
  · intro h
    have r1 : r = 1 := Nat.eq_one_of_mul_eq_one_right h
    have k1 : k = 1 := Nat.eq_one_of_mul_eq_one_left h
    refine S.up r1 ?_
    rw [← hk, k1]; exact sqf_one
  · intro h
    by_cases c : r * k = 1
    · exact c
    · have s1 := S.s1
      have r1 := S.r1
      have k1 : 1 ≤ k := by
        rcases Nat.eq_zero_or_pos k with z | z
        · rw [z] at hk; omega
        · exact z
      have two : 2 ≤ r * k := by
        have : 1 * 1 ≤ r * k := Nat.mul_le_mul r1 k1
        omega
      refine absurd ?_ (h _ two)
      have q : r * k * (r * k) = s * (r * r) := by
        rw [← hk]; simp only [Nat.mul_comm, Nat.mul_left_comm, Nat.mul_assoc]
      rw [q]; exact S.dv
theorem Spl.fin_no {n s r p : Nat} (S : Spl n s r p) (h3 : s < p * p * p) (sq : ∀ k, k * k ≠ s) : r = 1 ↔ SqF n := by
  constructor
  · intro r1
    exact S.up r1 (sqf_end S.low S.s1 h3 fun k e => absurd e (sq k))
  · intro h
    by_cases c : r = 1
    · exact c
    · have r1 := S.r1
      refine absurd ?_ (h r (by omega))
      exact Nat.dvd_trans ⟨s, by rw [Nat.mul_comm]⟩ S.dv
end N2

namespace N2
/-- the splitting with the free part: n = s f r r -/
structure Spf (n s f r p : Nat) : Prop where
  s1 : 1 ≤ s
  f1 : 1 ≤ f
  r1 : 1 ≤ r
  p2 : 2 ≤ p
  eq : s * f * (r * r) = n
  low : Low p s
  up : ∀ t, t ∣ s → SqF t → SqF (f * t)
theorem spf_0 {n : Nat} (h : 1 ≤ n) : Spf n n 1 1 2 := ⟨h, Nat.le_refl _, Nat.le_refl _, Nat.le_refl _, by simp, low_two n, fun t _ q => by rw [Nat.one_mul]; exact q⟩
theorem Spf.le {n s f r p : Nat} (S : Spf n s f r p) : s ≤ n := by
  have h1 : s * 1 * 1 ≤ s * f * (r * r) := Nat.mul_le_mul (Nat.mul_le_mul_left s S.f1) (Nat.mul_le_mul S.r1 S.r1)
  rw [S.eq] at h1
  omega
theorem Spf.sq {n s f r p : Nat} (S : Spf n s f r p) (d : s % (p * p) = 0) : Spf n (s / (p * p)) f (r * p) p ∧ s / (p * p) < s := by
  have h2 := S.p2
  have pp : 4 ≤ p * p := Nat.mul_le_mul h2 h2
  obtain ⟨t, e⟩ := Nat.dvd_of_mod_eq_zero d
  have et : s / (p * p) = t := by rw [e, Nat.mul_div_cancel_left _ (by omega)]
  have t1 : 1 ≤ t := by
    rcases Nat.eq_zero_or_pos t with z | z
    · rw [z] at e; have := S.s1; omega
    · exact z
  have ts : t ∣ s := ⟨p * p, by rw [e, Nat.mul_comm]⟩
  refine ⟨?_, Nat.div_lt_self (by have := S.s1; omega) (by omega)⟩
  rw [et]
  have rp : 1 * 1 ≤ r * p := Nat.mul_le_mul S.r1 (by omega)
  refine ⟨t1, S.f1, by omega, h2, ?_, S.low.dvd ts, fun u hu => S.up u (Nat.dvd_trans hu ts)⟩
  rw [← S.eq, e]
  simp only [Nat.mul_comm, Nat.mul_left_comm, Nat.mul_assoc]
theorem Spf.one {n s f r p : Nat} (S : Spf n s f r p) (d2 : ¬ s % (p * p) = 0) (d : s % p = 0) : Spf n (s / p) (f * p) r (p + 1) := by
  have h2 := S.p2
  have pos : 0 < p := by omega
  obtain ⟨t, e⟩ := Nat.dvd_of_mod_eq_zero d
  have et : s / p = t := by rw [e, Nat.mul_div_cancel_left _ pos]
  have t1 : 1 ≤ t := by
    rcases Nat.eq_zero_or_pos t with z | z
    · rw [z] at e; have := S.s1; omega
    · exact z
  have nt : ¬ p ∣ t := fun ⟨u, eu⟩ => d2 (Nat.mod_eq_zero_of_dvd ⟨u, by rw [e, eu, Nat.mul_assoc]⟩)
  have ts : t ∣ s := ⟨p, by rw [e, Nat.mul_comm]⟩
  have fp : 1 * 1 ≤ f * p := Nat.mul_le_mul S.f1 (by omega)
  rw [et]
  refine ⟨t1, by omega, S.r1, by omega, ?_, (S.low.dvd ts).succ nt, fun u hu q => ?_⟩
  · rw [← S.eq, e]
    simp only [Nat.mul_comm, Nat.mul_left_comm, Nat.mul_assoc]
  · have pu : p * u ∣ s := by rw [e]; exact Nat.mul_dvd_mul_left p hu
    rw [Nat.mul_assoc]
    refine S.up (p * u) pu (sqf_step h2 (S.low.dvd pu) rfl (fun z => nt (Nat.dvd_trans z hu)) q)
theorem Spf.no {n s f r p : Nat} (S : Spf n s f r p) (d : ¬ s % p = 0) : Spf n s f r (p + 1) :=
  ⟨S.s1, S.f1, S.r1, by have := S.p2; omega, S.eq, S.low.succ (fun z => d (Nat.mod_eq_zero_of_dvd z)), S.up⟩
/-- n is f times the square of r, f without squares -/
def Split (n f r : Nat) : Prop := n = f * (r * r) ∧ SqF f ∧ 1 ≤ f ∧ 1 ≤ r
theorem Spf.fin_sq {n s f r p k : Nat} (S : Spf n s f r p) (hk : k * k = s) : Split n f (r * k) := by
  have s1 := S.s1
  have k1 : 1 ≤ k := by
    rcases Nat.eq_zero_or_pos k with z | z
    · rw [z] at hk; omega
    · exact z
  have rk : 1 * 1 ≤ r * k := Nat.mul_le_mul S.r1 k1
  refine ⟨?_, ?_, S.f1, by omega⟩
  · rw [← S.eq, ← hk]
    simp only [Nat.mul_comm, Nat.mul_left_comm, Nat.mul_assoc]
  · have := S.up 1 (Nat.one_dvd s) sqf_one
    rw [Nat.mul_one] at this; exact this
theorem Spf.fin_no {n s f r p : Nat} (S : Spf n s f r p) (h3 : s < p * p * p) (sq : ∀ k, k * k ≠ s) : Split n (f * s) r := by
  have fs : 1 * 1 ≤ f * s := Nat.mul_le_mul S.f1 S.s1
  refine ⟨?_, S.up s (Nat.dvd_refl s) (sqf_end S.low S.s1 h3 fun k e => absurd e (sq k)), by omega, S.r1⟩
  rw [← S.eq, Nat.mul_comm f s]
theorem Split.one {n f r : Nat} (h : Split n f r) : r = 1 ↔ SqF n := by
  obtain ⟨e, q, f1, r1⟩ := h
  constructor
  · intro z
    rw [e, z]; simpa using q
  · intro z
    by_cases c : r = 1
    · exact c
    · exact absurd ⟨f, by rw [e, Nat.mul_comm]⟩ (z r (by omega))
/-- there is one free part only: f r r = g s s -/
theorem sqf_uniq {f g r s : Nat} (hf : SqF f) (hg : SqF g) (r1 : 1 ≤ r) (s1 : 1 ≤ s) (e : f * (r * r) = g * (s * s)) : f = g ∧ r = s := by
  have cp : 0 < Nat.gcd r s := Nat.gcd_pos_of_pos_left _ r1
  obtain ⟨c, ec⟩ : ∃ c, Nat.gcd r s = c := ⟨_, rfl⟩
  obtain ⟨a, ea⟩ : c ∣ r := ec ▸ Nat.gcd_dvd_left r s
  obtain ⟨b, eb⟩ : c ∣ s := ec ▸ Nat.gcd_dvd_right r s
  rw [ec] at cp
  have co : Nat.Coprime a b := by
    have : Nat.gcd (c * a) (c * b) = c := by rw [← ea, ← eb]; exact ec
    rw [Nat.gcd_mul_left] at this
    exact Nat.eq_of_mul_eq_mul_left cp (by rw [this, Nat.mul_one])
  have e2 : f * (a * a) = g * (b * b) := by
    have h : (c * c) * (f * (a * a)) = (c * c) * (g * (b * b)) := by
      have h1 : (c * c) * (f * (a * a)) = f * (r * r) := by rw [ea]; simp only [Nat.mul_comm, Nat.mul_left_comm, Nat.mul_assoc]
      have h2 : (c * c) * (g * (b * b)) = g * (s * s) := by rw [eb]; simp only [Nat.mul_comm, Nat.mul_left_comm, Nat.mul_assoc]
      rw [h1, h2, e]
    exact Nat.eq_of_mul_eq_mul_left (Nat.mul_pos cp cp) h
  have ab : Nat.Coprime (a * a) (b * b) := (co.mul_left co).mul_right (co.mul_left co)
  have a1 : a = 1 := by
    have d : a * a ∣ g := ab.dvd_of_dvd_mul_right ⟨f, by rw [← e2, Nat.mul_comm]⟩
    by_cases z : 2 ≤ a
    · exact absurd d (hg a z)
    · rcases Nat.eq_zero_or_pos a with y | y
      · rw [y] at ea; omega
      · omega
  have b1 : b = 1 := by
    have d : b * b ∣ f := ab.symm.dvd_of_dvd_mul_right ⟨g, by rw [e2, Nat.mul_comm]⟩
    by_cases z : 2 ≤ b
    · exact absurd d (hf b z)
    · rcases Nat.eq_zero_or_pos b with y | y
      · rw [y] at eb; omega
      · omega
  rw [a1, b1] at e2
  exact ⟨by omega, by rw [ea, eb, a1, b1]⟩
/-- the product of two free numbers without a common divisor -/
theorem sqf_mul {f g : Nat} (hf : SqF f) (hg : SqF g) (co : Nat.Coprime f g) : SqF (f * g) := by
  intro q hq d
  -- q q in f g: gcd(q, f) and gcd(q, g)
  have q1 : q ∣ f * g := Nat.dvd_trans ⟨q, rfl⟩ d
  obtain ⟨a, ea⟩ : ∃ a, Nat.gcd q f = a := ⟨_, rfl⟩
  obtain ⟨b, eb⟩ : ∃ b, Nat.gcd q g = b := ⟨_, rfl⟩
  have af : a ∣ f := ea ▸ Nat.gcd_dvd_right q f
  have bg : b ∣ g := eb ▸ Nat.gcd_dvd_right q g
  have eq : q = a * b := by
    have := Nat.Coprime.gcd_mul q co
    rw [Nat.gcd_eq_left q1, ea, eb] at this; exact this
  have ca : Nat.Coprime a g := Nat.Coprime.coprime_dvd_left af co
  have cb : Nat.Coprime b f := (Nat.Coprime.coprime_dvd_left bg co.symm)
  have da : a * a ∣ f := by
    have : a * a ∣ f * g := Nat.dvd_trans ⟨b * b, by rw [eq]; simp only [Nat.mul_comm, Nat.mul_left_comm, Nat.mul_assoc]⟩ d
    exact (ca.mul_left ca).dvd_of_dvd_mul_right this
  have db : b * b ∣ g := by
    have : b * b ∣ f * g := Nat.dvd_trans ⟨a * a, by rw [eq]; simp only [Nat.mul_comm, Nat.mul_left_comm, Nat.mul_assoc]⟩ d
    exact (cb.mul_left cb).dvd_of_dvd_mul_left this
  by_cases z : 2 ≤ a
  · exact hf a z da
  · by_cases y : 2 ≤ b
    · exact hg b y db
    · have : a * b ≤ 1 * 1 := Nat.mul_le_mul (by omega) (by omega)
      omega
end N2

namespace L2
open PySem PySem.Spec PyProof.Rows
/-- what the top has written of a class of errors: its name n, its own __init__ at f -/
structure ClsF (K : PySem.W.Frag) (mg : Str → Option Value) (S : Addr) (n : Str) (C f : Addr) (fd : FuncData) : Prop where
  M : SlM K C S f
  at_ : ∃ q N bs sn sub ab col dd k0 k1 k2 k3 k5, K.lookup C = some (excClassObj n q C N bs (.ref S :: PySem.Sl.xTail) true sn sub ab col dd k0 k1 k2 k3 k5 "Exception.__new__")
  gC : mg n = some (.ref C)
  F : ∃ (qual : Str) (p1 p2 q1 q2 q3 q4 q5 q6 : Pos), (q2.endLine == q5.line) = true ∧ FunD K "__init__" qual (argsS p1 p2 []) (bodyC q1 q2 q3 q4 q5 q6) scpC [] [] f fd
/-- the class of an error's data -/
def nmOf (o : Obj) : Str := match o.data with | .cls cd => cd.name | _ => ""
theorem one_name {K : PySem.W.Frag} {mg : Str → Option Value} {S : Addr} {n n' : Str} {C C' f f' : Addr} {fd fd' : FuncData} (A : ClsF K mg S n C f fd) (B : ClsF K mg S n' C' f' fd') (e : C = C') : n = n' := by
  subst e
  obtain ⟨q, N, bs, sn, sub, ab, col, dd, k0, k1, k2, k3, k5, h⟩ := A.at_
  obtain ⟨q', N', bs', sn', sub', ab', col', dd', k0', k1', k2', k3', k5', h'⟩ := B.at_
  have z := congrArg nmOf (Option.some.inj (h.symm.trans h'))
  exact z
section
variable {K : PySem.W.Frag} {mg : Str → Option Value} {S : Addr} {n : Str} {C f : Addr} {fd : FuncData}
theorem ClsF.cd (A : ClsF K mg S n C f fd) : ∃ cd : ClassData, PySem.W.clsIn K C = some cd ∧ cd.mro = .ref C :: .ref S :: PySem.Sl.xTail := by
  obtain ⟨q, N, bs, sn, sub, ab, col, dd, k0, k1, k2, k3, k5, h⟩ := A.at_
  refine ⟨{ name := n, bases := bs, mro := .ref C :: .ref S :: PySem.Sl.xTail, ns := N, qualname := q, hasDict := true, slotNames := sn, subclasses := sub, abstract := ab, collection := col, hasDel := false }, ?_, rfl⟩
  unfold PySem.W.clsIn
  rw [h]
theorem ClsF.sub (A : ClsF K mg S n C f fd) (c : Value) : PySem.W.subIn K (.ref C) c = some ((Value.ref C :: .ref S :: PySem.Sl.xTail).contains c) := by
  obtain ⟨cd, h1, h2⟩ := A.cd
  show PySem.W.mroIn K C c = _
  unfold PySem.W.mroIn
  rw [h1, Option.bind_some, h2]
  rfl
theorem ClsF.cls (A : ClsF K mg S n C f fd) : ((PySem.W.clsIn K C).isSome && PySem.W.typeIn K (.ref C) == some (.type "type")) = true := by
  obtain ⟨cd, h1, _⟩ := A.cd
  rw [h1, A.M.T.tyC]
  rfl
theorem ClsF.kit (A : ClsF K mg S n C f fd) {n' : Str} {C' f' : Addr} {fd' : FuncData} (B : ClsF K mg S n' C' f' fd') (hS : C' ≠ S) : PySem.W.kitOne K (.ref C) (.ref C') = some (decide (C = C')) ∧ PySem.W.exmOne K (.ref C) (.ref C') = some (decide (C = C')) := by
  have e1 : (Value.ref C :: .ref S :: PySem.Sl.xTail).contains (.ref C') = decide (C = C') := by
    rw [List.contains_cons, List.contains_cons]
    have a1 : (Value.ref C' == Value.ref S) = false := by
      rw [beq_eq_false_iff_ne]
      exact fun z => hS (Value.ref.inj z)
    have a2 : (PySem.Sl.xTail.contains (Value.ref C')) = false := rfl
    have a3 : (Value.ref C' == Value.ref C) = decide (C = C') := by
      by_cases h : C = C'
      · rw [h, decide_eq_true rfl]; exact beq_self_eq_true _
      · rw [decide_eq_false h, beq_eq_false_iff_ne]
        exact fun z => h (Value.ref.inj z).symm
    rw [a1, a2, a3]
    simp
  have e2 : PySem.W.kitCls K (.ref C) (.ref C') = some (decide (C = C')) := by
    show (if ((PySem.W.clsIn K C').isSome && PySem.W.typeIn K (.ref C') == some (.type "type")) = true then PySem.W.subIn K (.ref C) (.ref C') else none) = _
    rw [if_pos B.cls, A.sub, e1]
  constructor
  · unfold PySem.W.kitOne
    by_cases h : C = C'
    · rw [h, if_pos (beq_self_eq_true _), decide_eq_true rfl]
    · rw [if_neg (fun z => h (Value.ref.inj (eq_of_beq z))), e2]
  · unfold PySem.W.exmOne
    rw [if_pos (by rw [B.M.T.exC]; rfl), e2]
theorem ClsF.up (A : ClsF K mg S n C f fd) (hcS : (PySem.W.clsIn K S).isSome = true) (htS : PySem.W.typeIn K (.ref S) = some (.type "type")) (hbS : PySem.W.subIn K (.ref S) (.type "BaseException") = some true) :
    PySem.W.kitOne K (.ref C) (.ref S) = some true ∧ PySem.W.exmOne K (.ref C) (.ref S) = some true := by
  have e1 : (Value.ref C :: .ref S :: PySem.Sl.xTail).contains (.ref S) = true := by
    rw [List.contains_cons, List.contains_cons, beq_self_eq_true, Bool.true_or, Bool.or_true]
  have e2 : PySem.W.kitCls K (.ref C) (.ref S) = some true := by
    show (if ((PySem.W.clsIn K S).isSome && PySem.W.typeIn K (.ref S) == some (.type "type")) = true then PySem.W.subIn K (.ref C) (.ref S) else none) = _
    rw [if_pos (by rw [hcS, htS]; rfl), A.sub, e1]
  constructor
  · unfold PySem.W.kitOne
    by_cases h : C = S
    · rw [h, if_pos (beq_self_eq_true _)]
    · rw [if_neg (fun z => h (Value.ref.inj (eq_of_beq z))), e2]
  · unfold PySem.W.exmOne
    rw [if_pos (by rw [hbS]; rfl), e2]
theorem ClsF.ty (A : ClsF K mg S n C f fd) {T : String} {b : Bool} (hm : PySem.W.kitMeta T = true) (hb : PySem.Sl.xTail.contains (.type T) = b) : PySem.W.kitOne K (.ref C) (.type T) = some b := by
  have e1 : (Value.ref C :: .ref S :: PySem.Sl.xTail).contains (.type T) = b := by
    rw [List.contains_cons, List.contains_cons, hb]
    rfl
  show (if (Value.ref C == Value.type T) = true then some true else if PySem.W.kitMeta T = true then PySem.W.subIn K (.ref C) (.type T) else none) = _
  rw [if_neg (show ¬ ((Value.ref C == Value.type T) = true) from fun z => nomatch (eq_of_beq z)), if_pos hm, A.sub, e1]
end
theorem cls_mk {K : PySem.W.Frag} {h : Heap} {mg : Str → Option Value} {S C f : Addr} {n q qual : Str} (X : K.In h) (G : h.Ns mainGlobals mg) {N : Addr} {bs : List Value} {sn : List Str} {sub : List Value} {ab : Bool} {col : Option Bool} {dd : Option Addr} {m0 m1 m2 m3 m5 : Option Value}
    {od an : Option Addr} {sl : Array (Option Value)} {oc dc pm cd ct : Value} {p1 p2 q1 q2 q3 q4 q5 q6 : Pos}
    (aC : PySem.W.nsIn K mainGlobals n = some (some (.ref C)))
    (xL : K.lookup C = some (excClassObj n q C N bs (.ref S :: PySem.Sl.xTail) true sn sub ab col dd m0 m1 m2 m3 m5 "Exception.__new__"))
    (sa : PySem.W.findIn K (.ref C) "__setattr__" = some (some (.builtin "object.__setattr__"))) (ga : PySem.W.findIn K (.ref C) "__getattribute__" = some (some (.builtin "BaseException.__getattribute__"))) (gg : PySem.W.findIn K (.ref C) "__getattr__" = some none) (nb : PySem.W.findIn K (.ref C) "thing" = some none)
    (hc : PySem.W.findIn K (.ref C) "__class__" = some (some (.builtin "object.__class__")))
    (a1 : PySem.W.findIn K (.ref C) "__init__" = some (some (.ref f))) (t1 : PySem.W.typeIn K (.ref f) = some (.type "function"))
    (l1 : K.lookup f = some ⟨oc, od, .func (PySem.W.fnOf "__init__" qual (argsS p1 p2 []) (bodyC q1 q2 q3 q4 q5 q6) scpC .none .none dc pm an cd ct), sl⟩) (c1 : PySem.W.codeIn K cd qual = true) (kf : PySem.W.keepIn K (.ref f) = true)
    (kC : PySem.W.keepIn K (.ref C) = true) (tC : PySem.W.typeIn K (.ref C) = some (.type "type"))
    (hn : PySem.W.specialIn K (.builtin "object.__class__") "__get__" = some (some (.builtin "getset_descriptor.__get__"))) (ht : PySem.W.takesIn K (.builtin "object.__class__") = some true)
    (hl : (q2.endLine == q5.line) = true) : ClsF K mg S n C f (PySem.W.fnOf "__init__" qual (argsS p1 p2 []) (bodyC q1 q2 q3 q4 q5 q6) scpC .none .none dc pm an cd ct) := by
  have cl : PySem.W.clsIn K C = some { name := n, bases := bs, mro := .ref C :: .ref S :: PySem.Sl.xTail, ns := N, qualname := q, hasDict := true, slotNames := sn, subclasses := sub, abstract := ab, collection := col, hasDel := false } := by
    unfold PySem.W.clsIn; rw [xL]
  have sb : ∀ T : String, PySem.Sl.xTail.contains (.type T) = true → PySem.W.mroIn K C (.type T) = some true := fun T e => by
    unfold PySem.W.mroIn
    rw [cl, Option.bind_some]
    show some ((Value.ref C :: .ref S :: PySem.Sl.xTail).contains (.type T)) = _
    rw [PySem.Sl.has_sub C S T e]
  exact
    { M := ⟨{ cls := ⟨n, q, N, bs, sn, sub, ab, col, dd, m0, m1, m2, m3, m5, xL⟩, sa := sa, exC := sb _ (by decide +kernel), tyC := tC, kC := kC, ga := ga, gg := gg, noT := nb, hd := by unfold PySem.W.hasDictIn; rw [cl]; rfl, hc := hc, hn := hn, ht := ht, hm := sb _ (by decide +kernel) }, a1, t1⟩
      at_ := ⟨q, N, bs, sn, sub, ab, col, dd, m0, m1, m2, m3, m5, xL⟩
      gC := PySem.W.mg_of X G aC
      F := ⟨qual, p1, p2, q1, q2, q3, q4, q5, q6, hl, ⟨oc, od, .none, .none, dc, pm, an, cd, ct, sl, rfl, l1, c1, .inl ⟨rfl, rfl⟩, .inl rfl⟩, kf⟩ }
end L2

namespace HT
open PySem PySem.Spec PyProof.Rows
section
variable {prog : Program} {w : World} {A : Around} {E : Value → Shared → Prop} {s : Shared}
theorem back_places (n : Nat) : Builtin.Slice.slicePlaces ((n : Int) - 1) (-1) (-1) = n := by
  unfold Builtin.Slice.slicePlaces
  rw [if_neg (by decide)]
  by_cases h : (n : Int) - 1 > -1
  · rw [if_pos h, show -(-1 : Int) = 1 by decide, Int.ediv_one]; omega
  · rw [if_neg h]; omega
theorem back_pick (xs : Array Value) : ((List.range xs.size).filterMap fun (m : Nat) => xs[(((xs.size : Int) - 1) + (m : Int) * (-1)).toNat]?).toArray = xs.toList.reverse.toArray := by
  congr 1
  have e : ∀ l : List Nat, (∀ m ∈ l, m < xs.size) → (l.filterMap fun (m : Nat) => xs[(((xs.size : Int) - 1) + (m : Int) * (-1)).toNat]?) = l.filterMap fun m => xs.toList.reverse[m]? := by
    intro l hl
    induction l with
    | nil => rfl
    | cons m r ih =>
      have hm := hl m List.mem_cons_self
      have q : xs[(((xs.size : Int) - 1) + (m : Int) * (-1)).toNat]? = xs.toList.reverse[m]? := by
        rw [List.getElem?_reverse (by rw [Array.length_toList]; exact hm), Array.length_toList, Array.getElem?_toList]
        congr 1
        omega
      rw [List.filterMap_cons, List.filterMap_cons, q, ih fun x hx => hl x (List.mem_cons_of_mem _ hx)]
  rw [e _ fun m hm => List.mem_range.mp hm]
  have g : ∀ zs : List Value, (List.range zs.length).filterMap (fun m => zs[m]?) = zs := by
    intro zs
    have p := pick_gen zs.toArray 0 zs.length
    have e2 : (fun (m : Nat) => zs.toArray[(((0 : Nat) : Int) + (m : Int) * 1).toNat]?) = fun m => zs[m]? := by
      funext m
      rw [List.getElem?_toArray]
      congr 1
      omega
    rw [e2] at p
    have q := congrArg Array.toList p
    simpa using q
  have := g xs.toList.reverse
  rw [List.length_reverse, Array.length_toList] at this
  exact this
theorem back_applied {sl : Addr} {vl vu vs : Value} {n : Nat} {Q : Int × Int × Nat → Shared → Prop} (isl : s.heap.IsSliceOf sl vl vu vs) (p1 : IsPart vl none) (p2 : IsPart vu none) (p3 : IsPart vs (some (-1)))
    (goal : Q ((n : Int) - 1, -1, n) s) : wpAny (model prog w) A (Builtin.Slice.sliceApplied (.ref sl) (pure (n : Int))) Q E s := by
  obtain ⟨ob, hob, _, dob⟩ := id isl
  unfold Builtin.Slice.sliceApplied Builtin.Slice.sliceFields
  refine wpAny_bind (wpAny_bind (wpAny_field hob dob (x := vl) rfl (wpAny_bind (wpAny_field hob dob (x := vu) rfl (wpAny_bind (wpAny_field hob dob (x := vs) rfl (wpAny_pure ?_)))))))
  refine wpAny_bind (slicePart_ p3 ?_)
  show wpAny _ _ (if ((-1 : Int) == 0) = true then _ else _) _ _ s
  rw [if_neg (show ¬ (((-1 : Int) == 0) = true) by decide)]
  refine wpAny_bind (slicePart_ p1 (wpAny_bind (slicePart_ p2 (wpAny_bind (wpAny_pure ?_)))))
  have adj : Builtin.Slice.sliceAdjust none none (-1) (n : Int) = ((n : Int) - 1, -1) := by
    unfold Builtin.Slice.sliceAdjust
    rfl
  show wpAny _ _ (match Builtin.Slice.sliceAdjust none none (-1) (n : Int) with | (lo, hi) => pure (lo, (-1 : Int), Builtin.Slice.slicePlaces lo hi (-1))) _ _ s
  rw [adj]
  show wpAny _ _ (pure ((n : Int) - 1, (-1 : Int), Builtin.Slice.slicePlaces ((n : Int) - 1) (-1) (-1))) _ _ s
  rw [back_places]
  exact wpAny_pure goal
theorem getItem_tuple_back {t sl : Addr} {items : Array Value} {vl vu vs : Value} {Q : Value → Shared → Prop} (tup : IsTup s.heap t items) (isl : s.heap.IsSliceOf sl vl vu vs) (p1 : IsPart vl none) (p2 : IsPart vu none) (p3 : IsPart vs (some (-1)))
    (goal : Q (.ref s.heap.objs.size) { s with heap := s.heap.push { cls := .type "tuple", data := .seq items.toList.reverse.toArray } }) (small : items.size ≤ sizeLine) : wpAny (model prog w) A (getItem (.ref t) (.ref sl)) Q E s := by
  obtain ⟨ob, hob, cob, _⟩ := id isl
  have isT : s.TypeIs (.ref sl) "slice" := ⟨ob, hob, cob⟩
  have sz : sizeOk (.seq items.toList.reverse.toArray) := by
    show items.toList.reverse.toArray.size ≤ sizeLine
    rw [List.size_toArray, List.length_reverse, Array.length_toList]; exact small
  unfold getItem
  try with_reducible refine wpAny_holding ?_
  first | refine wpAny_bind (wpAny_pure ?_) | skip
  refine wpAny_bind (wpAny_sequenceKey tup.typeIs (by decide) ?_)
  refine wpAny_bind (wpAny_callSpecial?_slot (name := Str.ofString "__getitem__") tup.typeIs PyProof.Rows.slot_tuple_getitem (wpAny_call_entry PyProof.Rows.slot_tuple_getitem tup.typeIs entry_tuple_getitem ?_ (args_tuple_getitem _ _)))
  show wpAny _ _ (Builtin.Tuple.tupleItemsOf (.ref t) >>= _) _ _ s
  refine wpAny_bind (tupleItemsOf_ tup ?_)
  refine wpAny_bind (wpAny_typeOf isT ?_)
  rw [if_pos (show (Value.type "slice" == Value.type "slice") = true by decide)]
  refine wpAny_bind (back_applied isl p1 p2 p3 ?_)
  have nn : ¬ ((((items.size : Int) - 1) == 0 && (-1 : Int) == 1 && items.size == items.size) = true) := by
    intro q
    rw [Bool.and_eq_true, Bool.and_eq_true] at q
    exact absurd q.1.2 (by decide)
  show wpAny _ _ (if (((items.size : Int) - 1) == 0 && (-1 : Int) == 1 && items.size == items.size) = true then _ else _) _ _ s
  rw [if_neg nn, back_pick]
  first
    | exact wpAny_bind (m := Builtin.Tuple.tupleExact _) (wpAny_newObj_type (wpAny_pure ⟨_, rfl, wpAny_pure goal⟩) sz)
    | exact wpAny_bind (m := Builtin.Tuple.tupleExact _) (wpAny_newObj_type (wpAny_bind (wpAny_pure (wpAny_pure ⟨_, rfl, wpAny_pure goal⟩))) sz)
    | exact wpAny_bind (wpAny_bind (m := Builtin.Tuple.tupleExact _) (wpAny_newObj_type (wpAny_pure (wpAny_pure ⟨_, rfl, wpAny_pure goal⟩)) sz))
    | exact wpAny_bind (wpAny_bind (m := Builtin.Tuple.tupleExact _) (wpAny_newObj_type (wpAny_pure ⟨_, rfl, wpAny_pure goal⟩) sz))
end
end HT
namespace L2
open PySem PySem.Spec PyProof.Rows
/-- t[::-1], t a tuple -/
def tBack (K : PySem.W.Frag) (te : TE) : TE := fun σ H Q => te σ H fun x H1 => ∃ a xs, x = .ref a ∧ SqT K H1 a xs ∧ ∀ p, H1 p = none → Q (.ref p) (upd H1 p (.tup xs.reverse))
theorem pe_back {X : Cx} {e : Expr} {te : TE} {k : Nat} {p1 p2 p3 pos : Pos} (he : PE X e te) : PE X (.Subscript e (.Slice none none (some (.UnaryOp .USub (.Constant (.int 1) k p1) p2)) p3) pos) (tBack X.K te) := by
  refine ⟨fun pins s σ H Q I h => ?_⟩
  refine Subscript_ (thn (he.run pins s σ H _ I h) fun v s1 ⟨x, H1, I1, r1, a, xs, ex, hx, q⟩ => ?_)
  subst ex
  cases r1
  have step : PO X (some (.UnaryOp .USub (.Constant (.int 1) k p1) p2)) (tPart (tUn (rU fun i => .int (-i)) (tC (.int 1)))) := po_some (pe_un un_neg pe_int)
  refine wpAny_Slice (thn (po_none.run pins s1 σ H1 (fun o G => o = none ∧ G = H1) I1 ⟨rfl, rfl⟩) fun vl s2 ⟨l, H2, I2, pl, el, e2⟩ => ?_)
  subst el e2
  refine thn (po_none.run pins s2 σ H2 (fun o G => o = none ∧ G = H2) I2 ⟨rfl, rfl⟩) fun vu s3 ⟨u, H3, I3, pu, eu, e3⟩ => ?_
  subst eu e3
  refine thn (step.run pins s3 σ H3 (fun o G => o = some (-1) ∧ G = H3) I3 ⟨1, rfl, -1, rfl, rfl, rfl⟩) fun vs s4 ⟨o, H4, I4, ps, eo, e4⟩ => ?_
  subst eo e4
  have J : Inv X pins σ H4 { s4 with heap := s4.heap.push { cls := .type "slice", data := .fields #[vl, vu, vs] } } := I4.kept (t' := s4.toks) fun _ _ q => Heap.get?_push_of_some _ q
  obtain ⟨its, r, ht, hz⟩ := J.tuple hx
  have len := r.length
  show wpAny (model X.prog X.w) X.A (subscriptTail e (.Slice none none (some (.UnaryOp .USub (.Constant (.int 1) k p1) p2)) p3) (.ref a) (.ref s4.heap.objs.size)) _ _ _
  refine tail_any (ops := [.ref a, .ref s4.heap.objs.size]) ht.typeIs (PyProof.Rows.slot_tuple_getitem.lookup) ?_ (by with_unfolding_all rfl)
  refine HT.getItem_tuple_back ht (Heap.IsSliceOf.new _ vl vu vs) pl pu ps ?_ (by rw [List.size_toArray]; omega)
  refine ⟨.ref _, _, J.laid (t' := s4.toks) (o := .tup xs.reverse) (fun _ _ q => Heap.get?_push_of_some _ q) (Nat.le_refl _) ?_, rfl, q _ (J.hok.fresh (Nat.le_refl _))⟩
  exact ⟨by rw [List.length_reverse]; exact hz, _, r.reverse, _, Heap.get?_push_size _ rfl, rfl, _, rfl⟩
end L2

namespace N3
open PySem PySem.Spec PyProof.Rows L2 N2
def top (i : Nat) : Stmt := PySem.Challenge.pw_twiceslope_k02_any_value_as_a_number.main.body.getD i (.Pass ⟨0, 0, 0, 0⟩)
abbrev sInt : Stmt := top 2
abbrev sTupOf : Stmt := top 3
abbrev sAllInt : Stmt := top 4
abbrev sLowest : Stmt := top 5
abbrev sSplit : Stmt := top 10
abbrev sFree : Stmt := top 11
abbrev sFits : Stmt := top 16
abbrev sTriple : Stmt := top 17
abbrev sNumber : Stmt := top 18
abbrev sFraction : Stmt := top 19
abbrev sCheck : Stmt := top 20
abbrev sIntOf : Stmt := top 21
abbrev sWhole : Stmt := top 13
/-- a def as callers know it -/
structure Kn (P : Program) (w : World) (K : PySem.W.Frag) (mg : Str → Option Value) (base : Heap) (k : Nat) (x : Str) (ps : List Str) (sp : Sp) (f : Addr) (fd : FuncData) : Prop where
  ok : FnOk P w K mg base CX0 k f fd ps sp
  mg : mg x = some (.ref f)
  kp : PySem.W.keepIn K (.ref f) = true
  bd : Binds K fd ps []
/-- the names of built-in things that stay so -/
structure Bt (mg : Str → Option Value) : Prop where
  int : mg "int" = none
  bool : mg "bool" = none
  tuple : mg "tuple" = none
  list : mg "list" = none
  isi : mg "isinstance" = none
  len : mg "len" = none
  all : mg "all" = none
  range : mg "range" = none
  abs : mg "abs" = none
  repr : mg "repr" = none
  zip : mg "zip" = none
  max : mg "max" = none
  sorted : mg "sorted" = none
  str : mg "str" = none
  gcd : mg "gcd" = some (.builtin "math.gcd")
  isq : mg "isqrt" = some (.builtin "math.isqrt")
def tn : PyData → String
  | .none => "NoneType" | .bool _ => "bool" | .int _ => "int" | .str _ => "str" | .list _ => "list" | .tuple _ => "tuple" | .dict _ => "dict"
def isI : PyData → Bool
  | .int _ => true
  | _ => false
def isB : PyData → Bool
  | .bool _ => true
  | _ => false
def isTp : PyData → Bool
  | .tuple _ => true
  | _ => false
theorem dn_ty {K : PySem.W.Frag} {H : Hp} {v : V} {d : PyData} (h : Dn H v d) : TyX K H v (.type (tn d)) := by
  cases h with
  | non => exact .base .non
  | bl b => exact .base (.bl b)
  | int i => exact .base (.int i)
  | str x => exact .base (.str x)
  | lst e _ => exact .base (.lst e)
  | tup e _ => exact .base (.tup e)
  | dct e _ => exact .base (.dK e)
theorem kit_i : ∀ d : PyData, kitB (tn d) "int" = some (isI d || isB d)
  | .none => by decide +kernel
  | .bool _ => by show kitB "bool" "int" = some true; decide +kernel
  | .int _ => by show kitB "int" "int" = some true; decide +kernel
  | .str _ => by show kitB "str" "int" = some false; decide +kernel
  | .list _ => by show kitB "list" "int" = some false; decide +kernel
  | .tuple _ => by show kitB "tuple" "int" = some false; decide +kernel
  | .dict _ => by show kitB "dict" "int" = some false; decide +kernel
theorem kit_b : ∀ d : PyData, kitB (tn d) "bool" = some (isB d)
  | .none => by decide +kernel
  | .bool _ => by show kitB "bool" "bool" = some true; decide +kernel
  | .int _ => by show kitB "int" "bool" = some false; decide +kernel
  | .str _ => by show kitB "str" "bool" = some false; decide +kernel
  | .list _ => by show kitB "list" "bool" = some false; decide +kernel
  | .tuple _ => by show kitB "tuple" "bool" = some false; decide +kernel
  | .dict _ => by show kitB "dict" "bool" = some false; decide +kernel
theorem kit_t : ∀ d : PyData, kitB (tn d) "tuple" = some (isTp d)
  | .none => by decide +kernel
  | .bool _ => by show kitB "bool" "tuple" = some false; decide +kernel
  | .int _ => by show kitB "int" "tuple" = some false; decide +kernel
  | .str _ => by show kitB "str" "tuple" = some false; decide +kernel
  | .list _ => by show kitB "list" "tuple" = some false; decide +kernel
  | .tuple _ => by show kitB "tuple" "tuple" = some true; decide +kernel
  | .dict _ => by show kitB "dict" "tuple" = some false; decide +kernel
theorem dn_tup {H : Hp} {v : V} {d : PyData} (h : Dn H v d) (e : isTp d = true) : ∃ (a : Addr) (xs : List V) (ds : List PyData), v = .ref a ∧ d = .tuple ds ∧ H a = some (.tup xs) ∧ DnAll H xs ds := by
  cases h with
  | tup e1 r => exact ⟨_, _, _, rfl, rfl, e1, r⟩
  | _ => cases e
theorem dn_int {H : Hp} {v : V} {d : PyData} (h : Dn H v d) (e : isI d = true) : ∃ i, v = .int i ∧ d = .int i := by
  cases h with
  | int i => exact ⟨i, rfl, rfl⟩
  | _ => cases e
theorem snew {H : Hp} {p : Addr} {o : HO} (h : H p = none) : Same H (upd H p o) := fun b u e => by rw [upd_ne (ne_of_none e h)]; exact e
theorem ite_b {c : Bool} {A B : Prop} (h1 : c = true → A) (h2 : c = false → B) : if c = true then A else B := by
  cases c with
  | true => exact iteT (h1 rfl)
  | false => exact iteF (h2 rfl)
def spInt : Sp := fun vs H Q _ => ∃ (v : V) (d : PyData), vs = [v] ∧ Dn H v d ∧ Q (.bl (isI d)) H
/-- a tuple of n items -/
def tupN (n : Nat) : PyData → Bool
  | .tuple ds => decide (ds.length = n)
  | _ => false
def spTupOf : Sp := fun vs H Q _ => ∃ (v : V) (d : PyData) (n : Nat), vs = [v, .int (n : Int)] ∧ Dn H v d ∧ Q (.bl (tupN n d)) H
def spAllInt : Sp := fun vs H Q _ => ∃ (a : Addr) (xs : List V) (ds : List PyData), vs = [.ref a] ∧ H a = some (.tup xs) ∧ DnAll H xs ds ∧ ds.length ≤ 1000 ∧ ∀ H', Same H H' → Q (.bl (ds.all isI)) H'
section
variable {P : Program} {w : World} {K : PySem.W.Frag} {mg : Str → Option Value} {base : Heap}
theorem scInt : FnScope ["thing"] ["thing"] (defScope sInt) := ⟨rfl, rfl, rfl, by decide +kernel, rfl, by decide +kernel, by decide +kernel⟩
theorem ok_int {f : Addr} {fd : FuncData} (F : Fun K "is_integer" "is_integer" sInt f fd) (T : Bt mg) : FnOk P w K mg base CX0 1 f fd ["thing"] spInt := by
  refine F.ok scInt (fun vs H Q E h => ?_) (fun cdv A outer s H vs Q E hr h => ?_)
  · obtain ⟨v, d, rfl, _⟩ := h
    rfl
  · obtain ⟨v, d, rfl, hd, k⟩ := h
    refine ⟨_, pss_one (ps_ret (pe_and (pe_callB call_isi (by rfl) T.isi (by decide +kernel) (pa_cons (pv 0) (pa_cons (pe_bltn (v := .ty "int") (by rfl) T.int (by decide +kernel) rfl) pa_nil)))
      (pe_one (pe_not (pe_callB call_isi (by rfl) T.isi (by decide +kernel) (pa_cons (pv 0) (pa_cons (pe_bltn (v := .ty "bool") (by rfl) T.bool (by decide +kernel) rfl) pa_nil))))))), ?_⟩
    refine ⟨_, rfl, v, .ty "int", _, _, _, rfl, .ty _, dn_ty hd, kit_ty (kit_i d), _, rfl, ite_b (fun e => ?_) (fun e => ?_)⟩
    · refine ⟨_, rfl, v, .ty "bool", _, _, _, rfl, .ty _, dn_ty hd, kit_ty (kit_b d), _, rfl, ?_⟩
      have : (!isB d) = isI d := by cases d <;> first | rfl | cases e
      rw [this]; exact k
    · have : isI d = false := by cases d <;> first | rfl | cases e
      rw [this] at k; exact k
theorem scTupOf : FnScope ["thing", "many"] ["thing", "many"] (defScope sTupOf) := ⟨rfl, rfl, rfl, by decide +kernel, rfl, by decide +kernel, by decide +kernel⟩
theorem ok_tupOf {f : Addr} {fd : FuncData} (F : Fun K "is_tuple_of" "is_tuple_of" sTupOf f fd) (T : Bt mg) : FnOk P w K mg base CX0 1 f fd ["thing", "many"] spTupOf := by
  refine F.ok scTupOf (fun vs H Q E h => ?_) (fun cdv A outer s H vs Q E hr h => ?_)
  · obtain ⟨v, d, n, rfl, _⟩ := h
    rfl
  · obtain ⟨v, d, n, rfl, hd, k⟩ := h
    refine ⟨_, pss_one (ps_ret (pe_and (pe_callB call_isi (by rfl) T.isi (by decide +kernel) (pa_cons (pv 0) (pa_cons (pe_bltn (v := .ty "tuple") (by rfl) T.tuple (by decide +kernel) rfl) pa_nil)))
      (pe_one (pe_cmpR op_eq (pe_callB call_len (by rfl) T.len PySem.boot_len (pa_cons (pv 0) pa_nil)) (pv 1) (nomark _))))), ?_⟩
    refine ⟨_, rfl, v, .ty "tuple", _, _, _, rfl, .ty _, dn_ty hd, kit_ty (kit_t d), _, rfl, ite_b (fun e => ?_) (fun e => ?_)⟩
    · obtain ⟨a, xs, ds, rfl, rfl, e1, r⟩ := dn_tup hd e
      refine ⟨_, rfl, .ref a, xs.length, rfl, .inr ⟨xs, SqT.of e1, rfl⟩, _, rfl, rfl, ?_⟩
      have : decide (V.int (xs.length : Int) = V.int (n : Int)) = tupN n (.tuple ds) := by
        show _ = decide (ds.length = n)
        rw [r.length]
        exact decide_eq_decide.mpr ⟨fun h => by have := V.int.inj h; omega, fun h => by rw [h]⟩
      rw [this]; exact k
    · have : tupN n d = false := by cases d <;> first | rfl | cases e
      rw [this] at k; exact k
theorem scAllInt : FnScope ["things", "thing"] ["things"] (defScope sAllInt) := ⟨rfl, rfl, rfl, by decide +kernel, rfl, by decide +kernel, by decide +kernel⟩
theorem take_succ_all {α : Type} (p : α → Bool) {l : List α} {i : Nat} {x : α} (h : l[i]? = some x) : l.take (i + 1) = l.take i ++ [x] := by
  rw [List.take_add_one, h]; rfl
theorem ok_allInt {f fI : Addr} {fd fdI : FuncData} (F : Fun K "all_integers" "all_integers" sAllInt f fd) (T : Bt mg) (I : Kn P w K mg base 1 "is_integer" ["thing"] spInt fI fdI) : FnOk P w K mg base CX0 2 f fd ["things"] spAllInt := by
  refine F.ok scAllInt (fun vs H Q E h => ?_) (fun cdv A outer s H vs Q E hr h => ?_)
  · obtain ⟨a, xs, ds, rfl, _⟩ := h
    rfl
  · obtain ⟨a, xs, ds, rfl, ha, r, hl, k⟩ := h
    refine ⟨_, pss_one (ps_ret (pe_callB (cr_all rfl) (by rfl) T.all (by decide +kernel) (pa_cons (pe_lc (own := [("thing", 1)]) (g := gName 1) (tt := tYes) rfl scAllInt.nd (pi_tup (pv 0))
      (blkOk_by (own := [("thing", 1)]) (N := ["things", "thing"]) (sc := defScope sAllInt) (by decide +kernel)) (fun _ _ _ _ _ => pg_name (i := 1) scAllInt.nd rfl (Or.inl rfl)) (fun _ _ _ _ _ => pts_nil)
      (fun _ _ _ _ _ => pe_call I.ok hr rfl I.mg I.kp I.bd .nil pass0 (pa_cons (pv 1) pa_nil))) pa_nil))), ?_⟩
    refine ⟨_, rfl, a, rfl, ⟨_, SqT.of ha⟩, fun D hD => lc_tup (K := K) (a := a) (xs := xs) (fun i H' => H' D = some (.lst ((ds.take i).map fun d => V.bl (isI d))) ∧ Same H H') ⟨upd_same, snew hD⟩ (fun i H' _ s' => SqT.of (s'.2 _ _ ha)) ?_ ?_⟩
    · rintro i x H' hx ⟨e1, e2⟩
      obtain ⟨d, ed, dn⟩ := r.at_ hx
      have il : i < ds.length := (List.getElem?_eq_some_iff.mp ed).1
      refine ⟨rfl, ?_⟩
      refine ⟨_, rfl, x, d, rfl, Dn.mono e2 d x dn, _, e1, ?_, ?_, fun b o e => ?_⟩
      · rw [List.length_map, List.length_take]; exact small1000 (by omega)
      · rw [take_succ_all isI ed, List.map_append, upd_same]; rfl
      · rw [upd_ne (ne_of_none e hD)]; exact e2 _ _ e
    · rintro H' ⟨e1, e2⟩
      rw [r.length, List.take_length] at e1
      refine ⟨D, ds.map isI, rfl, SqL.of (by rw [List.map_map]; exact e1), ?_⟩
      rw [show (ds.map isI).all id = ds.all isI by rw [List.all_map]; rfl]
      exact k _ e2
end
end N3

namespace N3
open PySem PySem.Spec PyProof.Rows L2
section
variable {P : Program} {w : World} {K : PySem.W.Frag} {mg : Str → Option Value} {base : Heap}
/-- a def behind the top -/
structure Df (K : PySem.W.Frag) (mg : Str → Option Value) (x : Str) (st : Stmt) (ps : List Str) (f : Addr) (fd : FuncData) : Prop where
  F : Fun K x x st f fd
  m : mg x = some (.ref f)
  b : Binds K fd ps []
/-- how a def binds what is handed by position -/
def Bds (x : Str) (st : Stmt) (ps : List Str) : Prop := ∀ (kV doc pm : Value) (an : Option Addr) (cdv ct : Value) (us : List Value), us.length = ps.length → bindArgs (PySem.W.fnOf x x (defArgs st) (defBody st) (defScope st) .none kV doc pm an cdv ct) ⟨us, []⟩ = pure (ps.zip us)
theorem df_mk {h : Heap} (X : K.In h) (G : h.Ns mainGlobals mg) {x : Str} {st : Stmt} {ps : List Str} {f : Addr} {oc : Value} {od an : Option Addr} {osl : Array (Option Value)} {kV doc pm cdv ct : Value}
    (a : PySem.W.nsIn K mainGlobals x = some (some (.ref f))) (l : K.lookup f = some ⟨oc, od, .func (PySem.W.fnOf x x (defArgs st) (defBody st) (defScope st) .none kV doc pm an cdv ct), osl⟩) (c : PySem.W.codeIn K cdv x = true) (k : PySem.W.keepIn K (.ref f) = true)
    (b : Bds x st ps) : ∃ f fd, Df K mg x st ps f fd := ⟨f, _, fun_mk (st := st) l c k, PySem.W.mg_of X G a, (fun_mk (st := st) l c k).binds b⟩
theorem Df.kn {x : Str} {st : Stmt} {ps : List Str} {f : Addr} {fd : FuncData} {k : Nat} {sp : Sp} (D : Df K mg x st ps f fd) (ok : FnOk P w K mg base CX0 k f fd ps sp) : Kn P w K mg base k x ps sp f fd := ⟨ok, D.m, D.F.kp, D.b⟩
end
end N3

namespace N3
open PySem PySem.Spec PyProof.Rows L2 N2
theorem call_isqrt {X : Cx} : CallR X (.builtin "math.isqrt") (fun vs H Q => ∃ n : Nat, vs = [.int (n : Int)] ∧ n < 2 ^ 64 ∧ ∀ k : Nat, k * k ≤ n → n < (k + 1) * (k + 1) → Q (.int (k : Int)) H) := by
  intro pins s σ H vs us Q I r h
  obtain ⟨n, rfl, hn, q⟩ := h
  obtain ⟨u, rfl, t, rfl⟩ := vals1 r
  obtain ⟨h1, h2⟩ := Float64.isqrt_spec n
  exact PySem.W.mg_isqrt (by omega) (by omega) ⟨.int _, H, I.tok _, ⟨_, rfl⟩, q _ (by simpa using h1) (by simpa using h2)⟩
def lowT (b c : Int) : Bool := decide (1 ≤ c) && decide (Nat.gcd b.natAbs c.natAbs = 1)
def spLow : Sp := fun vs H Q _ => ∃ b c : Int, vs = [.int b, .int c] ∧ Q (.bl (lowT b c)) H
def spSplit : Sp := fun vs H Q _ => ∃ n : Nat, vs = [.int (n : Int)] ∧ 1 ≤ n ∧ n < 10 ^ 15 ∧ ∀ (f r : Nat) (a : Addr) (H' : Hp), Split n f r → H' a = some (.tup [.int (f : Int), .int (r : Int)]) → Same H H' → Q (.ref a) H'
def spFree : Sp := fun vs H Q _ => ∃ n : Nat, vs = [.int (n : Int)] ∧ 1 ≤ n ∧ n < 10 ^ 15 ∧ ∀ (b : Bool) (H' : Hp), (b = true ↔ SqF n) → Same H H' → Q (.bl b) H'
/-- a number that may stand as d -/
def Fit (a : Int) : Prop := a ≠ 0 ∧ a.natAbs < 10 ^ 15 ∧ SqF a.natAbs
def spFits : Sp := fun vs H Q _ => ∃ a : Int, vs = [.int a] ∧ ∀ (b : Bool) (H' : Hp), (b = true ↔ Fit a) → Same H H' → Q (.bl b) H'
theorem le_cube {p s : Nat} (hp : 1 ≤ p) (h : p * p * p ≤ s) : p ≤ s ∧ p * p ≤ s := by
  have h1 : p * p * 1 ≤ p * p * p := Nat.mul_le_mul_left (p * p) hp
  have h2 : p * 1 ≤ p * p := Nat.mul_le_mul_left p hp
  omega
theorem small_log {n : Nat} (h : n < 2 ^ 64) : n.log2 < 9000 := by
  rcases Nat.eq_zero_or_pos n with z | z
  · rw [z]; decide
  · have := (Nat.log2_lt (by omega : n ≠ 0)).mpr h; omega
section
variable {P : Program} {w : World} {K : PySem.W.Frag} {mg : Str → Option Value} {base : Heap}
theorem scLow : FnScope ["top", "bottom"] ["top", "bottom"] (defScope sLowest) := ⟨rfl, rfl, rfl, by decide +kernel, rfl, by decide +kernel, by decide +kernel⟩
theorem ok_low {f : Addr} {fd : FuncData} (F : Fun K "in_lowest_terms" "in_lowest_terms" sLowest f fd) (T : Bt mg) : FnOk P w K mg base CX0 1 f fd ["top", "bottom"] spLow := by
  refine F.ok scLow (fun vs H Q E h => ?_) (fun cdv A outer s H vs Q E hr h => ?_)
  · obtain ⟨b, c, rfl, _⟩ := h
    rfl
  · obtain ⟨b, c, rfl, k⟩ := h
    refine ⟨_, pss_one (ps_ret (pe_and (pe_cmpR op_ge (pv 1) pe_int (nomark _)) (pe_one (pe_cmpR op_eq (pe_callBfun cr_gcd (by rfl) T.gcd (pa_cons (pv 0) (pa_cons (pv 1) pa_nil))) pe_int (nomark _))))), ?_⟩
    refine ⟨_, rfl, _, _, rfl, rfl, _, rfl, ite_b (fun e => ?_) (fun e => ?_)⟩
    · refine ⟨_, rfl, _, rfl, _, _, rfl, rfl, ?_⟩
      have q : decide (V.int ((Nat.gcd b.natAbs c.natAbs : Nat) : Int) = V.int 1) = lowT b c := by
        unfold lowT
        rw [e, Bool.true_and]
        exact decide_eq_decide.mpr ⟨fun h => by have := V.int.inj h; omega, fun h => by rw [h]; rfl⟩
      rw [q]; exact k
    · have q : lowT b c = false := by
        unfold lowT
        rw [e, Bool.false_and]
      rw [q] at k; exact k
theorem scSplit : FnScope ["size", "free", "root", "factor", "rest"] ["size"] (defScope sSplit) := ⟨rfl, rfl, rfl, by decide +kernel, rfl, by decide +kernel, by decide +kernel⟩
theorem ok_split {f : Addr} {fd : FuncData} (F : Fun K "square_split" "square_split" sSplit f fd) (T : Bt mg) : FnOk P w K mg base CX0 1 f fd ["size"] spSplit := by
  refine F.ok scSplit (fun vs H Q E h => ?_) (fun cdv A outer s H vs Q E hr h => ?_)
  · obtain ⟨n, rfl, _⟩ := h
    rfl
  · obtain ⟨n, rfl, n1, n2, k⟩ := h
    refine ⟨_, pss_cons (ps_asg (pe_tup (pa_cons pe_int (pa_cons pe_int (pa_cons pe_int pa_nil)))) (pg_tup rfl (pgs_cons (pg_name (i := 1) scSplit.nd rfl (Or.inl rfl)) (pgs_cons (pg_name (i := 2) scSplit.nd rfl (Or.inl rfl)) (pgs_cons (pg_name (i := 3) scSplit.nd rfl (Or.inl rfl)) pgs_nil)))))
      (pss_cons (ps_while PassesOwn.never (pt_cmpR op_le (pe_op op_mul (pe_op op_mul (pv 3) (pv 3)) (pv 3)) (pv 0) (nomark _))
        (pss_cons (ps_while PassesOwn.never (pt_cmpR op_eq (pe_op op_mod (pv 0) (pe_op op_mul (pv 3) (pv 3))) pe_int (nomark _))
          (pss_cons (ps_set (i := 0) scSplit.nd rfl (Or.inl rfl) (pe_op op_fdivW (pv 0) (pe_op op_mul (pv 3) (pv 3)))) (pss_one (ps_set (i := 2) scSplit.nd rfl (Or.inl rfl) (pe_op op_mul (pv 2) (pv 3))))))
        (pss_cons (ps_if (pt_cmpR op_eq (pe_op op_mod (pv 0) (pv 3)) pe_int (nomark _))
          (pss_cons (ps_set (i := 0) scSplit.nd rfl (Or.inl rfl) (pe_op op_fdivW (pv 0) (pv 3))) (pss_one (ps_set (i := 1) scSplit.nd rfl (Or.inl rfl) (pe_op op_mul (pv 1) (pv 3))))) pss_nil)
        (pss_one (ps_aug (i := 3) scSplit.nd rfl (.inl rfl) pe_int ip_add)))))
      (pss_cons (ps_set (i := 4) scSplit.nd rfl (Or.inl rfl) (pe_callBfun call_isqrt (by rfl) T.isq (pa_cons (pv 0) pa_nil)))
      (pss_cons (ps_if (pt_cmpR op_eq (pe_op op_mul (pv 4) (pv 4)) (pv 0) (nomark _)) (pss_one (ps_ret (pe_tup (pa_cons (pv 1) (pa_cons (pe_op op_mul (pv 2) (pv 4)) pa_nil))))) pss_nil)
      (pss_one (ps_ret (pe_tup (pa_cons (pe_op op_mul (pv 1) (pv 0)) (pa_cons (pv 2) pa_nil)))))))), ?_⟩
    have p64 : (10 : Nat) ^ 15 + 1 < 2 ^ 64 := by decide
    refine ⟨by show 3 ≤ sizeLine; rw [sizeLine_eq]; decide, fun p0 hp0 => ?_⟩
    refine ⟨p0, _, rfl, SqT.of upd_same, rfl, _, _, rfl, _, _, rfl, _, _, rfl, rfl, ?_⟩
    refine ⟨fun m σ H' => ∃ (s f r p : Nat), σ = [some (.int (s : Int)), some (.int (f : Int)), some (.int (r : Int)), some (.int (p : Int)), none] ∧ Same H H' ∧ Spf n s f r p ∧ p ≤ n + 1 ∧ m = n + 2 - p, ⟨_, n, 1, 1, 2, rfl, snew hp0, spf_0 n1, by omega, rfl⟩, ?_⟩
    rintro m σ H1 ⟨s, f, r, p, rfl, s1, S, pn, rfl⟩
    have p2 := S.p2
    have sn := S.le
    have cm : ∀ x : Int, CMul x (p : Int) := fun x => .inr ⟨by omega, by omega⟩
    refine ⟨_, rfl, _, rfl, _, _, rfl, rfl, cm _, _, rfl, _, _, rfl, rfl, cm _, _, rfl, _, _, rfl, rfl, _, rfl, ite_b (fun c => ?_) (fun c => ?_)⟩
    · have c' : p * p * p ≤ s := by have := of_decide_eq_true c; exact_mod_cast this
      obtain ⟨ps, pps⟩ := le_cube (by omega) c'
      have pos : (0 : Int) < (p : Int) * (p : Int) := by
        have : 0 < p * p := Nat.mul_pos (by omega) (by omega)
        exact_mod_cast this
      refine ⟨fun σ' H' => ∃ (s' r' f' : Nat), σ' = [some (.int (s' : Int)), some (.int (f' : Int)), some (.int (r' : Int)), some (.int ((p + 1 : Nat) : Int)), none] ∧ Same H H' ∧ Spf n s' f' r' (p + 1),
        fun σ' H' ⟨s', r', f', e1, e2, e3⟩ => ⟨n + 2 - (p + 1), by omega, s', f', r', p + 1, e1, e2, e3, by omega, rfl⟩, ?_⟩
      refine ⟨fun m σ H' => ∃ s' r' : Nat, σ = [some (.int (s' : Int)), some (.int (f : Int)), some (.int (r' : Int)), some (.int (p : Int)), none] ∧ Same H H' ∧ Spf n s' f r' p ∧ m = s', ⟨_, s, r, rfl, s1, S, rfl⟩, ?_⟩
      rintro m σ H2 ⟨s', r', rfl, s2, S', rfl⟩
      have sn' := S'.le
      refine ⟨_, rfl, _, rfl, _, rfl, _, _, rfl, rfl, cm _, _, _, rfl, rfl, pos, rfl, _, rfl, ite_b (fun c2 => ?_) (fun c2 => ?_)⟩
      · have c2' : m % (p * p) = 0 := by have := V.int.inj (of_decide_eq_true c2); exact_mod_cast this
        obtain ⟨S2, lt⟩ := S'.sq c2'
        refine ⟨fun σ' H' => σ' = [some (.int ((m / (p * p) : Nat) : Int)), some (.int (f : Int)), some (.int ((r' * p : Nat) : Int)), some (.int (p : Int)), none] ∧ Same H H', fun σ' H' ⟨e1, e2⟩ => ⟨_, lt, _, _, e1, e2, S2, rfl⟩, ?_⟩
        refine ⟨_, rfl, _, rfl, _, rfl, _, _, rfl, rfl, cm _, _, _, rfl, rfl, ⟨pos, ?_⟩, ?_⟩
        · have : ((p : Int) * (p : Int)).natAbs = p * p := by rw [← Int.natCast_mul]; rfl
          rw [this]
          exact small_log (by omega)
        · exact ⟨_, rfl, _, rfl, _, _, rfl, rfl, cm _, by push_cast; rfl, s2⟩
      · have c2' : ¬ m % (p * p) = 0 := fun z => of_decide_eq_false c2 (congrArg V.int (by exact_mod_cast z))
        have pp : (0 : Int) < (p : Int) := by omega
        refine ⟨_, rfl, _, rfl, _, _, rfl, rfl, pp, rfl, _, rfl, ite_b (fun c3 => ?_) (fun c3 => ?_)⟩
        · have c3' : m % p = 0 := by have := V.int.inj (of_decide_eq_true c3); exact_mod_cast this
          refine ⟨_, rfl, _, rfl, _, _, rfl, rfl, ⟨pp, ?_⟩, ?_⟩
          · show p.log2 < 9000
            exact small_log (by omega)
          · refine ⟨_, rfl, _, rfl, _, _, rfl, rfl, cm _, _, rfl, _, _, rfl, rfl, ?_⟩
            exact ⟨m / p, r', f * p, by push_cast; rfl, s2, S'.one c2' c3'⟩
        · have c3' : ¬ m % p = 0 := fun z => of_decide_eq_false c3 (congrArg V.int (by exact_mod_cast z))
          refine ⟨_, rfl, _, _, rfl, rfl, ?_⟩
          exact ⟨m, r', f, by push_cast; rfl, s2, S'.no c3'⟩
    · have c' : s < p * p * p := by
        have h1 := of_decide_eq_false c
        have h2 : ¬ (p * p * p ≤ s) := fun z => h1 (by exact_mod_cast z)
        omega
      refine ⟨_, rfl, s, rfl, by omega, fun j j1 j2 => ?_⟩
      have jj : j ≤ s := Nat.le_trans (Nat.le_mul_self j) j1
      have cj : ∀ x : Int, CMul x (j : Int) := fun x => .inr ⟨by omega, by omega⟩
      refine ⟨_, rfl, _, rfl, _, _, rfl, rfl, cj _, _, rfl, rfl, _, rfl, ite_b (fun c4 => ?_) (fun c4 => ?_)⟩
      · have c4' : j * j = s := by have := V.int.inj (of_decide_eq_true c4); exact_mod_cast this
        refine ⟨_, rfl, _, rfl, _, rfl, _, _, rfl, rfl, cj _, by show 2 ≤ sizeLine; rw [sizeLine_eq]; decide, fun a ha => ?_⟩
        exact k f (r * j) a _ (S.fin_sq c4') upd_same (s1.trans (snew ha))
      · have c4' : ∀ i, i * i ≠ s := fun i e => by
          have h1 : i ≤ j := by
            have : i * i < (j + 1) * (j + 1) := by omega
            have := Nat.mul_self_lt_mul_self_iff.mp this
            omega
          have h2 : j ≤ i := Nat.mul_self_le_mul_self_iff.mp (by omega)
          have : i = j := by omega
          subst this
          exact of_decide_eq_false c4 (congrArg V.int (by exact_mod_cast e))
        refine ⟨_, rfl, _, rfl, _, _, rfl, rfl, .inr ⟨by omega, by omega⟩, _, rfl, by show 2 ≤ sizeLine; rw [sizeLine_eq]; decide, fun a ha => ?_⟩
        exact k (f * s) r a _ (S.fin_no c' c4') (by rw [Int.natCast_mul]; exact upd_same) (s1.trans (snew ha))
end
end N3

namespace N3
open PySem PySem.Spec PyProof.Rows L2 N2
/-- the program's triples -/
def TP (d : PyData) : Prop := ∃ a b c : Int, d = .tuple [.int a, .int b, .int c] ∧ b ≠ 0 ∧ lowT b c = true ∧ Fit a
def spTriple : Sp := fun vs H Q _ => ∃ (v : V) (d : PyData), vs = [v] ∧ Dn H v d ∧ ∀ (b : Bool) (H' : Hp), (b = true ↔ TP d) → Same H H' → Q (.bl b) H'
def hdI : PyData → Int
  | .tuple (.int a :: _) => a
  | _ => 0
def Asc (ds : List PyData) : Prop := ∀ (i : Nat) (x y : PyData), ds[i]? = some x → ds[i + 1]? = some y → hdI x < hdI y
def NP (d : PyData) : Prop := ∃ ds, d = .tuple ds ∧ (∀ x ∈ ds, TP x) ∧ Asc ds
def Short (d : PyData) : Prop := ∀ ds, d = .tuple ds → ds.length ≤ 1000000
def spNumber : Sp := fun vs H Q _ => ∃ (v : V) (d : PyData), vs = [v] ∧ Dn H v d ∧ Short d ∧ ∀ (b : Bool) (H' : Hp), (b = true ↔ NP d) → Same H H' → Q (.bl b) H'
theorem three_ints {ds : List PyData} (h1 : ds.length = 3) (h2 : ds.all isI = true) : ∃ a b c : Int, ds = [.int a, .int b, .int c] := by
  match ds, h1 with
  | [x, y, z], _ =>
    simp only [List.all_cons, List.all_nil, Bool.and_true, Bool.and_eq_true] at h2
    obtain ⟨e1, e2, e3⟩ := h2
    have g : ∀ u : PyData, isI u = true → ∃ i, u = .int i := fun u e => by
      cases u <;> first | exact ⟨_, rfl⟩ | cases e
    obtain ⟨a, rfl⟩ := g x e1
    obtain ⟨b, rfl⟩ := g y e2
    obtain ⟨c, rfl⟩ := g z e3
    exact ⟨a, b, c, rfl⟩
theorem dn3 {H : Hp} {xs : List V} {a b c : Int} (h : DnAll H xs [.int a, .int b, .int c]) : xs = [.int a, .int b, .int c] := by
  cases h with
  | cons h1 r =>
    cases r with
    | cons h2 r =>
      cases r with
      | cons h3 r =>
        cases r
        cases h1
        cases h2
        cases h3
        rfl
theorem all_step {bs : List Bool} {b : Bool} {i : Nat} {p : Nat → Prop} (h : bs.all id = true ↔ ∀ j, j < i → p j) (hb : b = true ↔ p i) : (bs ++ [b]).all id = true ↔ ∀ j, j < i + 1 → p j := by
  rw [List.all_append, Bool.and_eq_true, h]
  simp only [List.all_cons, List.all_nil, Bool.and_true, id]
  rw [hb]
  constructor
  · rintro ⟨h1, h2⟩ j hj
    by_cases c : j = i
    · rw [c]; exact h2
    · exact h1 j (by omega)
  · intro h1
    exact ⟨fun j hj => h1 j (by omega), h1 i (by omega)⟩
section
variable {P : Program} {w : World} {K : PySem.W.Frag} {mg : Str → Option Value} {base : Heap}
theorem scFree : FnScope ["size"] ["size"] (defScope sFree) := ⟨rfl, rfl, rfl, by decide +kernel, rfl, by decide +kernel, by decide +kernel⟩
theorem ok_free {f fS : Addr} {fd fdS : FuncData} (F : Fun K "free_of_squares" "free_of_squares" sFree f fd) (S : Kn P w K mg base 1 "square_split" ["size"] spSplit fS fdS) : FnOk P w K mg base CX0 2 f fd ["size"] spFree := by
  refine F.ok scFree (fun vs H Q E h => ?_) (fun cdv A outer s H vs Q E hr h => ?_)
  · obtain ⟨n, rfl, _⟩ := h
    rfl
  · obtain ⟨n, rfl, n1, n2, k⟩ := h
    refine ⟨_, pss_one (ps_ret (pe_cmpR op_eq (pe_ix (r := rIx K) ix_seq (pe_call S.ok hr rfl S.mg S.kp S.bd .nil pass0 (pa_cons (pv 0) pa_nil)) pe_int (fun _ _ => rfl)) pe_int (nomark _))), ?_⟩
    refine ⟨_, rfl, n, rfl, n1, n2, fun f r a H' hsp e s1 => ?_⟩
    have hq := hsp.one
    refine .inr (.inl ⟨a, _, _, _, rfl, rfl, SqT.of e, rfl, rfl, ?_⟩)
    refine k _ H' ?_ s1
    rw [decide_eq_true_iff]
    exact ⟨fun h => hq.mp (by have := V.int.inj h; omega), fun h => congrArg V.int (by rw [hq.mpr h]; rfl)⟩
theorem scFits : FnScope ["d"] ["d"] (defScope sFits) := ⟨rfl, rfl, rfl, by decide +kernel, rfl, by decide +kernel, by decide +kernel⟩
theorem ok_fits {f fS : Addr} {fd fdS : FuncData} {t : Tok} (F : Fun K "fits_as_d" "fits_as_d" sFits f fd) (T : Bt mg) (L : mg "TOO_LARGE" = some (.int 1000000000000000 t)) (S : Kn P w K mg base 2 "free_of_squares" ["size"] spFree fS fdS) : FnOk P w K mg base CX0 3 f fd ["d"] spFits := by
  refine F.ok scFits (fun vs H Q E h => ?_) (fun cdv A outer s H vs Q E hr h => ?_)
  · obtain ⟨a, rfl, _⟩ := h
    rfl
  · obtain ⟨a, rfl, k⟩ := h
    refine ⟨_, pss_one (ps_ret (pe_and (pe_cmpR op_ne (pv 0) pe_int (nomark _)) (pe_and (pe_cmpR op_lt (pe_callB call_abs (by rfl) T.abs (by decide +kernel) (pa_cons (pv 0) pa_nil)) (pe_glob (v := .int 1000000000000000) rfl L ⟨_, rfl⟩) (nomark _))
      (pe_one (pe_call S.ok hr rfl S.mg S.kp S.bd .nil pass0 (pa_cons (pe_callB call_abs (by rfl) T.abs (by decide +kernel) (pa_cons (pv 0) pa_nil)) pa_nil)))))), ?_⟩
    have ab : (if a < 0 then -a else a) = (a.natAbs : Int) := by split <;> omega
    refine ⟨_, rfl, rfl, _, rfl, ite_b (fun e => ?_) (fun e => ?_)⟩
    · have e' : a ≠ 0 := fun z => by rw [z] at e; exact absurd e (by decide)
      refine ⟨_, rfl, a, rfl, _, _, rfl, rfl, _, rfl, ite_b (fun e2 => ?_) (fun e2 => ?_)⟩
      · rw [ab] at e2
        have e2' : a.natAbs < 10 ^ 15 := by have := of_decide_eq_true e2; omega
        refine ⟨_, rfl, a, rfl, a.natAbs, by rw [ab]; rfl, by omega, e2', fun b H' hb s1 => k b H' ?_ s1⟩
        rw [hb]
        exact ⟨fun h => ⟨e', e2', h⟩, fun h => h.2.2⟩
      · rw [ab] at e2
        exact k false H ⟨fun z => (by cases z), fun h => absurd h.2.1 (by have := of_decide_eq_false e2; omega)⟩ (Same.refl _)
    · exact k false H ⟨fun z => (by cases z), fun h => absurd (show (!decide (V.int a = V.int 0)) = true by rw [decide_eq_false (fun z => h.1 (V.int.inj z))]; rfl) (by rw [e]; decide)⟩ (Same.refl _)
theorem scTriple : FnScope ["thing", "d", "top", "bottom"] ["thing"] (defScope sTriple) := ⟨rfl, rfl, rfl, by decide +kernel, rfl, by decide +kernel, by decide +kernel⟩
theorem ok_triple {f f1 f2 f3 f4 : Addr} {fd d1 d2 d3 d4 : FuncData} (F : Fun K "is_triple" "is_triple" sTriple f fd) (A1 : Kn P w K mg base 1 "is_tuple_of" ["thing", "many"] spTupOf f1 d1) (A2 : Kn P w K mg base 2 "all_integers" ["things"] spAllInt f2 d2)
    (A3 : Kn P w K mg base 1 "in_lowest_terms" ["top", "bottom"] spLow f3 d3) (A4 : Kn P w K mg base 3 "fits_as_d" ["d"] spFits f4 d4) : FnOk P w K mg base CX0 4 f fd ["thing"] spTriple := by
  refine F.ok scTriple (fun vs H Q E h => ?_) (fun cdv A outer s H vs Q E hr h => ?_)
  · obtain ⟨v, d, rfl, _⟩ := h
    rfl
  · obtain ⟨v, d, rfl, hd, k⟩ := h
    have r1 : Room 1 _ := hr.mono (by decide)
    have r2 : Room 2 _ := hr.mono (by decide)
    refine ⟨_, pss_cons (ps_if (pt_not (PW.pt (pw_and (pt_val (pe_call A1.ok r1 rfl A1.mg A1.kp A1.bd .nil pass0 (pa_cons (pv 0) (pa_cons pe_int pa_nil)))) (pw_and1 (pt_val (pe_call A2.ok r2 rfl A2.mg A2.kp A2.bd .nil pass0 (pa_cons (pv 0) pa_nil))))))) (pss_one (ps_ret pe_bl)) pss_nil)
      (pss_cons (ps_asg (pv 0) (pg_tup rfl (pgs_cons (pg_name (i := 1) scTriple.nd rfl (Or.inl rfl)) (pgs_cons (pg_name (i := 2) scTriple.nd rfl (Or.inl rfl)) (pgs_cons (pg_name (i := 3) scTriple.nd rfl (Or.inl rfl)) pgs_nil)))))
      (pss_one (ps_ret (pe_and (pe_cmpR op_ne (pv 2) pe_int (nomark _)) (pe_and (pe_call A3.ok r1 rfl A3.mg A3.kp A3.bd .nil pass0 (pa_cons (pv 2) (pa_cons (pv 3) pa_nil))) (pe_one (pe_call A4.ok hr rfl A4.mg A4.kp A4.bd .nil pass0 (pa_cons (pv 1) pa_nil)))))))), ?_⟩
    have no : tupN 3 d = false → ¬ TP d := fun e ⟨a, b, c, e1, _⟩ => by rw [e1] at e; cases e
    refine ⟨_, rfl, v, d, 3, rfl, hd, _, rfl, ite_b (fun e => ?_) (fun e => ?_)⟩
    · have et : isTp d = true := by cases d <;> first | rfl | cases e
      obtain ⟨a, xs, ds, rfl, rfl, ea, ra⟩ := dn_tup hd et
      have l3 : ds.length = 3 := of_decide_eq_true e
      refine ⟨_, rfl, a, xs, ds, rfl, ea, ra, by omega, fun H1 s1 => ⟨_, rfl, ?_⟩⟩
      cases e2 : ds.all isI with
      | false =>
        refine iteT ?_
        refine k false H1 ⟨fun z => (by cases z), fun ⟨a', b', c', e1, _⟩ => ?_⟩ s1
        cases e1
        cases e2
      | true =>
        refine iteF ?_
        obtain ⟨a', b', c', rfl⟩ := three_ints l3 e2
        obtain rfl := dn3 ra
        refine ⟨_, rfl, a, _, rfl, SqT.of (s1 _ _ ea), rfl, _, _, rfl, _, _, rfl, _, _, rfl, rfl, ?_⟩
        refine ⟨_, rfl, rfl, _, rfl, ite_b (fun e3 => ?_) (fun e3 => ?_)⟩
        · have e3' : b' ≠ 0 := fun z => by rw [z] at e3; exact absurd e3 (by decide)
          refine ⟨_, rfl, _, rfl, b', c', rfl, _, rfl, ite_b (fun e4 => ?_) (fun e4 => ?_)⟩
          · refine ⟨_, rfl, a', rfl, fun b H2 hb s2 => k b H2 ?_ (s1.trans s2)⟩
            rw [hb]
            exact ⟨fun h => ⟨a', b', c', rfl, e3', e4, h⟩, fun ⟨a2, b2, c2, e1, _, _, h⟩ => by cases e1; exact h⟩
          · exact k false H1 ⟨fun z => (by cases z), fun ⟨a2, b2, c2, e1, _, h, _⟩ => by cases e1; rw [e4] at h; cases h⟩ s1
        · refine k false H1 ⟨fun z => (by cases z), fun ⟨a2, b2, c2, e1, h, _, _⟩ => ?_⟩ s1
          cases e1
          rw [decide_eq_false (fun z => h (V.int.inj z))] at e3
          cases e3
    · refine iteT ?_
      exact k false H ⟨fun z => (by cases z), fun h => absurd h (no e)⟩ (Same.refl _)
end
end N3

namespace N3
open PySem PySem.Spec PyProof.Rows L2
theorem small_m {n : Nat} (h : n ≤ 1000000) : n < sizeLine := by rw [sizeLine_eq]; omega
theorem tp_shape {H : Hp} {v : V} {d : PyData} (h : Dn H v d) (t : TP d) : ∃ (p : Addr) (a b c : Int), v = .ref p ∧ d = .tuple [.int a, .int b, .int c] ∧ H p = some (.tup [.int a, .int b, .int c]) := by
  obtain ⟨a, b, c, rfl, _⟩ := t
  cases h with
  | tup e r => exact ⟨_, a, b, c, rfl, rfl, by rw [e, dn3 r]⟩
theorem dn_at {H : Hp} {xs : List V} {ds : List PyData} : ∀ {i : Nat} {d : PyData}, DnAll H xs ds → ds[i]? = some d → ∃ x, xs[i]? = some x ∧ Dn H x d := by
  intro i d r e
  have hi := (List.getElem?_eq_some_iff.mp e).1
  have hx : i < xs.length := by rw [r.length]; exact hi
  obtain ⟨d', e1, dn⟩ := r.at_ (List.getElem?_eq_getElem hx)
  rw [e] at e1
  cases e1
  exact ⟨_, List.getElem?_eq_getElem hx, dn⟩
section
variable {P : Program} {w : World} {K : PySem.W.Frag} {mg : Str → Option Value} {base : Heap}
theorem scNumber : FnScope ["thing", "triple", "k"] ["thing"] (defScope sNumber) := ⟨rfl, rfl, rfl, by decide +kernel, rfl, by decide +kernel, by decide +kernel⟩
theorem ok_number {f f1 : Addr} {fd d1 : FuncData} (F : Fun K "is_number" "is_number" sNumber f fd) (T : Bt mg) (A1 : Kn P w K mg base 4 "is_triple" ["thing"] spTriple f1 d1) : FnOk P w K mg base CX0 5 f fd ["thing"] spNumber := by
  refine F.ok scNumber (fun vs H Q E h => ?_) (fun cdv A outer s H vs Q E hr h => ?_)
  · obtain ⟨v, d, rfl, _⟩ := h
    rfl
  · obtain ⟨v, d, rfl, hd, sh, k⟩ := h
    refine ⟨_, pss_cons (ps_if (pt_not (pt_val (pe_callB call_isi (by rfl) T.isi (by decide +kernel) (pa_cons (pv 0) (pa_cons (pe_bltn (v := .ty "tuple") (by rfl) T.tuple (by decide +kernel) rfl) pa_nil))))) (pss_one (ps_ret pe_bl)) pss_nil)
      (pss_cons (ps_if (pt_not (pt_val (pe_callB (cr_all rfl) (by rfl) T.all (by decide +kernel) (pa_cons (pe_lc (own := [("triple", 1)]) (g := gName 1) (tt := tYes) rfl scNumber.nd (pi_tup (pv 0))
          (blkOk_by (own := [("triple", 1)]) (N := ["thing", "triple", "k"]) (sc := defScope sNumber) (by decide +kernel)) (fun _ _ _ _ _ => pg_name (i := 1) scNumber.nd rfl (Or.inl rfl)) (fun _ _ _ _ _ => pts_nil)
          (fun _ _ _ _ _ => pe_call A1.ok hr rfl A1.mg A1.kp A1.bd .nil pass0 (pa_cons (pv 1) pa_nil))) pa_nil)))) (pss_one (ps_ret pe_bl)) pss_nil)
      (pss_one (ps_ret (pe_callB (cr_all rfl) (by rfl) T.all (by decide +kernel) (pa_cons (pe_lc (own := [("k", 2)]) (g := gName 2) (tt := tYes) rfl scNumber.nd (pi_range1 rfl T.range (pa_cons (pe_op op_sub (pe_callB call_len (by rfl) T.len PySem.boot_len (pa_cons (pv 0) pa_nil)) pe_int) pa_nil))
          (blkOk_by (own := [("k", 2)]) (N := ["thing", "triple", "k"]) (sc := defScope sNumber) (by decide +kernel)) (fun _ _ _ _ _ => pg_name (i := 2) scNumber.nd rfl (Or.inl rfl)) (fun _ _ _ _ _ => pts_nil)
          (fun _ _ _ _ _ => pe_cmpR op_lt (pe_ix (r := rIx K) ix_seq (pe_ix (r := rIx K) ix_seq (pv 0) (pv 2) (fun _ _ => rfl)) pe_int (fun _ _ => rfl))
            (pe_ix (r := rIx K) ix_seq (pe_ix (r := rIx K) ix_seq (pv 0) (pe_op op_add (pv 2) pe_int) (fun _ _ => rfl)) pe_int (fun _ _ => rfl)) (nomark _))) pa_nil))))), ?_⟩
    refine ⟨_, rfl, v, .ty "tuple", _, _, _, rfl, .ty _, dn_ty hd, kit_ty (kit_t d), _, rfl, ?_⟩
    cases et : isTp d with
    | false =>
      refine iteT ?_
      refine k false H ⟨fun z => (by cases z), fun ⟨ds, e, _⟩ => ?_⟩ (Same.refl _)
      rw [e] at et; cases et
    | true =>
      refine iteF ?_
      obtain ⟨a, xs, ds, rfl, rfl, ea, ra⟩ := dn_tup hd et
      have hl := sh ds rfl
      refine ⟨_, rfl, a, rfl, ⟨_, SqT.of ea⟩, fun D hD => lc_tup (K := K) (a := a) (xs := xs) (fun i H' => ∃ bs : List Bool, H' D = some (.lst (bs.map V.bl)) ∧ bs.length = i ∧ (bs.all id = true ↔ ∀ j, j < i → ∀ d, ds[j]? = some d → TP d) ∧ Same H H')
        ⟨[], upd_same, rfl, by simp, snew hD⟩ (fun i H' _ ⟨_, _, _, _, s'⟩ => SqT.of (s' _ _ ea)) ?_ ?_⟩
      · rintro i x H' hx ⟨bs, e1, e2, e3, s'⟩
        obtain ⟨d, ed, dn⟩ := ra.at_ hx
        have il : i < ds.length := (List.getElem?_eq_some_iff.mp ed).1
        refine ⟨rfl, ?_⟩
        refine ⟨_, rfl, x, d, rfl, Dn.mono s' d x dn, fun b H2 hb s2 => ?_⟩
        refine ⟨_, s2 _ _ e1, by rw [List.length_map]; exact small_m (by omega), bs ++ [b], by rw [List.map_append, upd_same]; rfl, by rw [List.length_append, e2]; rfl, ?_, fun c o e => ?_⟩
        · refine all_step (p := fun j => ∀ d, ds[j]? = some d → TP d) e3 ?_
          rw [hb]
          exact ⟨fun h d' e' => by rw [ed] at e'; cases e'; exact h, fun h => h d ed⟩
        · rw [upd_ne (ne_of_none e hD)]
          exact s2 _ _ (s' _ _ e)
      · rintro H1 ⟨bs, e1, e2, e3, s1⟩
        refine ⟨D, bs, rfl, SqL.of e1, _, rfl, ?_⟩
        rw [ra.length] at e3
        have e3' : bs.all id = true ↔ ∀ x ∈ ds, TP x := e3.trans ⟨fun h x hx => by
          obtain ⟨j, hj, ej⟩ := List.mem_iff_getElem.mp hx
          exact h j hj x (by rw [List.getElem?_eq_getElem hj, ej]), fun h j _ d ed => h d (List.mem_of_getElem? ed)⟩
        cases eb : bs.all id with
        | false =>
          refine iteT ?_
          refine k false H1 ⟨fun z => (by cases z), fun ⟨ds', e, h, _⟩ => ?_⟩ s1
          cases e
          rw [e3'.mpr h] at eb; cases eb
        | true =>
          refine iteF ?_
          have tp := e3'.mp eb
          refine ⟨_, rfl, .ref a, xs.length, rfl, .inr ⟨xs, SqT.of (s1 _ _ ea), rfl⟩, _, _, rfl, rfl, _, rfl, by rw [ra.length]; omega, by rw [ra.length]; omega, fun D2 hD2 => ?_⟩
          have en : ((xs.length : Int) - 1).toNat = ds.length - 1 := by rw [ra.length]; omega
          rw [en]
          refine lc_range (lo := 0) (n := ds.length - 1) (fun i H' => ∃ cs : List Bool, H' D2 = some (.lst (cs.map V.bl)) ∧ cs.length = i ∧ (cs.all id = true ↔ ∀ j, j < i → ∀ x y, ds[j]? = some x → ds[j + 1]? = some y → hdI x < hdI y) ∧ Same H1 H')
            ⟨[], upd_same, rfl, by simp, snew hD2⟩ ?_ ?_
          · rintro i H' hi ⟨cs, c1, c2, c3, s'⟩
            have i1 : i < ds.length := by omega
            have i2 : i + 1 < ds.length := by omega
            obtain ⟨x1, ex1, dn1⟩ := dn_at ra (List.getElem?_eq_getElem i1)
            obtain ⟨x2, ex2, dn2⟩ := dn_at ra (List.getElem?_eq_getElem i2)
            obtain ⟨q1, a1, b1, c1', rfl, ed1, h1⟩ := tp_shape dn1 (tp _ (List.getElem_mem i1))
            obtain ⟨q2, a2, b2, c2', rfl, ed2, h2⟩ := tp_shape dn2 (tp _ (List.getElem_mem i2))
            have s0 := s1.trans s'
            refine ⟨rfl, ?_⟩
            refine ⟨_, rfl, _, rfl, .inr (.inl ⟨a, xs, _, _, rfl, rfl, SqT.of (s0 _ _ ea), by rw [Int.zero_add]; exact atI_nat ex1, ?_⟩)⟩
            refine .inr (.inl ⟨q1, _, _, _, rfl, rfl, SqT.of (s0 _ _ h1), rfl, ?_⟩)
            refine ⟨_, rfl, _, rfl, _, _, rfl, rfl, .inr (.inl ⟨a, xs, _, _, rfl, rfl, SqT.of (s0 _ _ ea), by rw [Int.zero_add, show ((i : Int) + 1) = ((i + 1 : Nat) : Int) by omega]; exact atI_nat ex2, ?_⟩)⟩
            refine .inr (.inl ⟨q2, _, _, _, rfl, rfl, SqT.of (s0 _ _ h2), rfl, _, _, rfl, rfl, ?_⟩)
            refine ⟨_, c1, by rw [List.length_map]; exact small_m (by omega), cs ++ [decide (a1 < a2)], by rw [List.map_append, upd_same]; rfl, by rw [List.length_append, c2]; rfl, ?_, fun c o e => ?_⟩
            · refine all_step (p := fun j => ∀ x y, ds[j]? = some x → ds[j + 1]? = some y → hdI x < hdI y) c3 ?_
              rw [decide_eq_true_iff, List.getElem?_eq_getElem i1, List.getElem?_eq_getElem i2, ed1, ed2]
              exact ⟨fun h x y e e' => by cases e; cases e'; exact h, fun h => h _ _ rfl rfl⟩
            · rw [upd_ne (ne_of_none e hD2)]
              exact s' _ _ e
          · rintro H2 ⟨cs, c1, c2, c3, s2⟩
            refine ⟨D2, cs, rfl, SqL.of c1, ?_⟩
            refine k _ H2 ?_ (s1.trans s2)
            rw [c3]
            constructor
            · intro h
              refine ⟨ds, rfl, tp, fun i x y ex ey => h i ?_ x y ex ey⟩
              have := (List.getElem?_eq_some_iff.mp ey).1
              omega
            · rintro ⟨ds', e, _, h⟩ j _ x y ex ey
              cases e
              exact h j x y ex ey
end
end N3

namespace N3
open PySem PySem.Spec PyProof.Rows L2
def FP (d : PyData) : Prop := NP d ∧ ∃ ds, d = .tuple ds ∧ (ds.length = 0 ∨ (ds.length = 1 ∧ ∀ x, ds[0]? = some x → hdI x = 1))
def spFraction : Sp := fun vs H Q _ => ∃ (v : V) (d : PyData), vs = [v] ∧ Dn H v d ∧ Short d ∧ ∀ (b : Bool) (H' : Hp), (b = true ↔ FP d) → Same H H' → Q (.bl b) H'
/-- the error's class BadNumber, its __init__ -/
structure BnC (P : Program) (w : World) (K : PySem.W.Frag) (mg : Str → Option Value) (base : Heap) (x : Str) (S C fI : Addr) (fd : FuncData) : Prop where
  M : SlM K C S fI
  ok : FnOk P w K mg base CX0 2 fI fd ["self", "thing"] (spSet K)
  nm : mg x = some (.ref C)
  b1 : ∀ u, SlBnd K fd [u] [] u
abbrev Bn (P : Program) (w : World) (K : PySem.W.Frag) (mg : Str → Option Value) (base : Heap) (S C fI : Addr) (fd : FuncData) : Prop := BnC P w K mg base "BadNumber" S C fI fd
def Air (H : Hp) (E : XK) (C : Addr) (v : V) : Prop := ∀ (dx : Addr) (H' : Hp), H dx = none → H' dx = some (.xd [("thing", v)]) → Same H H' → E (.ref C) (some dx) H'
theorem Air.later {H H1 : Hp} {E : XK} {C : Addr} {v : V} (a : Air H E C v) (s : Same H H1) : Air H1 E C v := fun dx H' h1 h2 h3 => a dx H' (s.free h1) h2 (s.trans h3)
def spCheck (C : Addr) : Sp := fun vs H Q E => ∃ (v : V) (d : PyData), vs = [v] ∧ Dn H v d ∧ Short d ∧ (NP d → ∀ H', Same H H' → Q .non H') ∧ (¬ NP d → Air H E C v)
def intOf : List PyData → PyData
  | [] => .int 0
  | [.tuple [.int a, .int b, .int c]] => if a = 1 ∧ c = 1 then .int b else .none
  | _ => .none
def spIntOf (C : Addr) : Sp := fun vs H Q E => ∃ (v : V) (d : PyData), vs = [v] ∧ Dn H v d ∧ Short d ∧ (∀ ds, d = .tuple ds → NP d → ∀ r H', Dn H' r (intOf ds) → Same H H' → Q r H') ∧ (¬ NP d → Air H E C v)
theorem np_dp {K : PySem.W.Frag} {H : Hp} : ∀ {xs : List V} {ds : List PyData}, DnAll H xs ds → (∀ x ∈ ds, TP x) → DpAll K H xs ds
  | _, _, .nil, _ => .nil
  | _, _, .cons (v := v) (d := d) h r, t => by
    obtain ⟨p, a, b, c, e1, e2, e3⟩ := tp_shape h (t _ List.mem_cons_self)
    rw [e1, e2]
    exact .cons (.tup (SqT.of e3) (.cons (.int a) (.cons (.int b) (.cons (.int c) .nil)))) (np_dp r fun x hx => t x (List.mem_cons_of_mem _ hx))
theorem np_lay : ∀ {ds : List PyData}, (∀ x ∈ ds, TP x) → PyData.canLayAll0 ds = true ∧ PyData.depthAll ds ≤ 1
  | [], _ => by simp [PyData.canLayAll0, PyData.depthAll]
  | d :: ds, t => by
    obtain ⟨a, b, c, e, _⟩ := t d List.mem_cons_self
    obtain ⟨h1, h2⟩ := np_lay (ds := ds) fun x hx => t x (List.mem_cons_of_mem _ hx)
    subst e
    refine ⟨by simp [PyData.canLayAll0, PyData.canLay0, h1], ?_⟩
    simp only [PyData.depthAll, PyData.depth]
    omega
theorem np_shaped {ds : List PyData} (t : ∀ x ∈ ds, TP x) : SeqAt.shaped (.tuple ds) = true := by
  obtain ⟨h1, h2⟩ := np_lay t
  show (PyData.canLay0 (.tuple ds) && decide (PyData.depth (.tuple ds) ≤ 64)) = true
  rw [Bool.and_eq_true]
  exact ⟨by simp only [PyData.canLay0]; exact h1, decide_eq_true (by simp only [PyData.depth]; omega)⟩
theorem eqv_nil_t (ds : List PyData) : PyData.eqv (.tuple ds) (.tuple []) = ds.isEmpty := by
  cases ds <;> simp [PyData.eqv, PyData.eqvAll]
section
variable {P : Program} {w : World} {K : PySem.W.Frag} {mg : Str → Option Value} {base : Heap}
theorem scFraction : FnScope ["thing"] ["thing"] (defScope sFraction) := ⟨rfl, rfl, rfl, by decide +kernel, rfl, by decide +kernel, by decide +kernel⟩
theorem dec_len {n : Nat} {k : Nat} : decide (V.int (n : Int) = V.int (k : Int)) = decide (n = k) := decide_eq_decide.mpr ⟨fun h => by have := V.int.inj h; omega, fun h => by rw [h]⟩
theorem ok_fraction {f f1 : Addr} {fd d1 : FuncData} (F : Fun K "is_fraction" "is_fraction" sFraction f fd) (T : Bt mg) (A1 : Kn P w K mg base 5 "is_number" ["thing"] spNumber f1 d1) : FnOk P w K mg base CX0 6 f fd ["thing"] spFraction := by
  refine F.ok scFraction (fun vs H Q E h => ?_) (fun cdv A outer s H vs Q E hr h => ?_)
  · obtain ⟨v, d, rfl, _⟩ := h
    rfl
  · obtain ⟨v, d, rfl, hd, sh, k⟩ := h
    refine ⟨_, pss_one (ps_ret (pe_and (pe_call A1.ok hr rfl A1.mg A1.kp A1.bd .nil pass0 (pa_cons (pv 0) pa_nil)) (pe_one (pe_or (pe_cmpR op_eq (pe_callB call_len (by rfl) T.len PySem.boot_len (pa_cons (pv 0) pa_nil)) pe_int (nomark _))
      (pe_one (pe_and (pe_cmpR op_eq (pe_callB call_len (by rfl) T.len PySem.boot_len (pa_cons (pv 0) pa_nil)) pe_int (nomark _)) (pe_one (pe_cmpR op_eq (pe_ix (r := rIx K) ix_seq (pe_ix (r := rIx K) ix_seq (pv 0) pe_int (fun _ _ => rfl)) pe_int (fun _ _ => rfl)) pe_int (nomark _))))))))), ?_⟩
    refine ⟨_, rfl, v, d, rfl, hd, sh, fun b H1 hb s1 => ⟨_, rfl, ite_b (fun e => ?_) (fun e => ?_)⟩⟩
    · obtain ⟨ds, rfl, tp, asc⟩ := hb.mp e
      have np := hb.mp e
      obtain ⟨a, xs, ds', rfl, e2, ea, ra⟩ := dn_tup hd rfl
      cases e2
      have ll : ∀ j : Nat, decide (V.int (xs.length : Int) = V.int (j : Int)) = decide (ds.length = j) := fun j => by rw [dec_len, ra.length]
      refine ⟨_, rfl, .ref a, xs.length, rfl, .inr ⟨xs, SqT.of (s1 _ _ ea), rfl⟩, rfl, _, rfl, ite_b (fun e3 => ?_) (fun e3 => ?_)⟩
      · have z : ds.length = 0 := of_decide_eq_true ((ll 0).symm.trans e3)
        exact k true H1 ⟨fun _ => ⟨np, ds, rfl, .inl z⟩, fun _ => rfl⟩ s1
      · have z : ds.length ≠ 0 := of_decide_eq_false ((ll 0).symm.trans e3)
        refine ⟨_, rfl, .ref a, xs.length, rfl, .inr ⟨xs, SqT.of (s1 _ _ ea), rfl⟩, rfl, _, rfl, ite_b (fun e4 => ?_) (fun e4 => ?_)⟩
        · have z1 : ds.length = 1 := of_decide_eq_true ((ll 1).symm.trans e4)
          obtain ⟨x1, ex1, dn1⟩ := dn_at ra (List.getElem?_eq_getElem (show 0 < ds.length by omega))
          obtain ⟨q1, a1, b1, c1, rfl, ed1, h1⟩ := tp_shape dn1 (tp _ (List.getElem_mem (by omega)))
          refine ⟨_, rfl, .inr (.inl ⟨a, xs, _, _, rfl, rfl, SqT.of (s1 _ _ ea), atI_nat ex1, ?_⟩)⟩
          refine .inr (.inl ⟨q1, _, _, _, rfl, rfl, SqT.of (s1 _ _ h1), rfl, rfl, ?_⟩)
          refine k _ H1 ?_ s1
          rw [decide_eq_true_iff]
          constructor
          · intro h
            refine ⟨np, ds, rfl, .inr ⟨z1, fun x hx => ?_⟩⟩
            rw [List.getElem?_eq_getElem (by omega), ed1] at hx
            cases hx
            exact V.int.inj h
          · rintro ⟨_, ds2, e5, h⟩
            cases e5
            rcases h with h | ⟨_, h⟩
            · exact absurd h z
            · have := h _ (by rw [List.getElem?_eq_getElem (by omega), ed1])
              exact congrArg V.int this
        · have z1 : ds.length ≠ 1 := of_decide_eq_false ((ll 1).symm.trans e4)
          refine k false H1 ⟨fun y => (by cases y), fun ⟨_, ds2, e5, h⟩ => ?_⟩ s1
          cases e5
          exact h.elim (fun q => absurd q z) (fun q => absurd q.1 z1)
    · refine k false H1 ⟨fun y => (by cases y), fun h => ?_⟩ s1
      rw [hb.mpr h.1] at e; cases e
theorem scCheck : FnScope ["thing"] ["thing"] (defScope sCheck) := ⟨rfl, rfl, rfl, by decide +kernel, rfl, by decide +kernel, by decide +kernel⟩
theorem ok_check {f f1 S C fI : Addr} {fd d1 fdI : FuncData} (F : Fun K "check_number" "check_number" sCheck f fd) (A1 : Kn P w K mg base 5 "is_number" ["thing"] spNumber f1 d1) (B : Bn P w K mg base S C fI fdI) : FnOk P w K mg base (L2.CX P w) 6 f fd ["thing"] (spCheck C) := by
  refine F.okX scCheck (fun vs H Q E h => ?_) (fun cdv A outer s H vs Q E hr h => ?_)
  · obtain ⟨v, d, rfl, _⟩ := h
    rfl
  · obtain ⟨v, d, rfl, hd, sh, k1, k2⟩ := h
    have r3 : Room 3 _ := hr.mono (by decide)
    refine ⟨_, pss_one (ps_if (pt_not (pt_val (pe_call A1.ok hr rfl A1.mg A1.kp A1.bd .nil pass0 (pa_cons (pv 0) pa_nil)))) (pss_one (ps_raise rfl (takes_of rfl rfl rfl rfl) (pmk_sl B.M B.ok r3 pass0 B.b1 B.nm (pv 0)))) pss_nil), ?_⟩
    refine ⟨_, rfl, v, d, rfl, hd, sh, fun b H1 hb s1 => ⟨_, rfl, ?_⟩⟩
    cases b with
    | true => exact iteF (k1 (hb.mp rfl) H1 s1)
    | false =>
      refine iteT ?_
      have n : ¬ NP d := fun h => by have := hb.mpr h; cases this
      refine ⟨_, rfl, fun a dx H' h1 h2 h3 h4 h5 h6 => k2 n dx H' (s1.free h2) h4 (s1.trans fun b o e => ?_)⟩
      rw [h6 b (ne_of_none e h1) (ne_of_none e h2)]; exact e
/-- the program's whole_number of a number -/
def spWhole : Sp := fun vs H Q _ => ∃ (v : V) (d : PyData), vs = [v] ∧ Dn H v d ∧ NP d ∧ ∀ ds, d = .tuple ds → ∀ r H', Dn H' r (intOf ds) → Same H H' → Q r H'
theorem scWhole : FnScope ["number", "d", "top", "bottom"] ["number"] (defScope sWhole) := ⟨rfl, rfl, rfl, by decide +kernel, rfl, by decide +kernel, by decide +kernel⟩
theorem ok_whole {f : Addr} {fd : FuncData} (F : Fun K "whole_number" "whole_number" sWhole f fd) (T : Bt mg) : FnOk P w K mg base CX0 1 f fd ["number"] spWhole := by
  refine F.ok scWhole (fun vs H Q E h => ?_) (fun cdv A outer s H vs Q E hr h => ?_)
  · obtain ⟨v, d, rfl, _⟩ := h
    rfl
  · obtain ⟨v, d, rfl, hd, np, q1⟩ := h
    refine ⟨_, pss_cons (ps_if (pt_cmpR (op_eqD hr.units) (pv 0) (pe_tup pa_nil) (nomark _)) (pss_one (ps_ret pe_int)) pss_nil)
      (pss_cons (ps_asg (pe_ix (r := rIx K) ix_seq (pv 0) pe_int (fun _ _ => rfl)) (pg_tup rfl (pgs_cons (pg_name (i := 1) scWhole.nd rfl (Or.inl rfl)) (pgs_cons (pg_name (i := 2) scWhole.nd rfl (Or.inl rfl)) (pgs_cons (pg_name (i := 3) scWhole.nd rfl (Or.inl rfl)) pgs_nil)))))
      (pss_cons (ps_if (PW.pt (pw_and (pt_cmpR op_eq (pe_callB call_len (by rfl) T.len PySem.boot_len (pa_cons (pv 0) pa_nil)) pe_int (nomark _)) (pw_and (pt_cmpR op_eq (pv 1) pe_int (nomark _)) (pw_and1 (pt_cmpR op_eq (pv 3) pe_int (nomark _)))))) (pss_one (ps_ret (pv 2))) pss_nil)
      (pss_one (ps_ret pe_non)))), ?_⟩
    obtain ⟨ds, rfl, tp, asc⟩ := id np
    obtain ⟨a, xs, ds', rfl, e2, ea, ra⟩ := dn_tup hd rfl
    cases e2
    have s1 : Same H H := Same.refl _
    refine ⟨_, rfl, Nat.zero_le _, fun p hp => ⟨.tuple ds, .tuple [], .tup (SqT.of (snew hp _ _ (s1 _ _ ea))) (np_dp (DnAll.mono (s1.trans (snew hp)) ds xs ra) tp), .tup (SqT.of upd_same) .nil, np_shaped tp, rfl, _, rfl, ?_⟩⟩
    rw [eqv_nil_t]
    have s2 := s1.trans (snew (o := .tup []) hp)
    cases ds with
    | nil =>
      refine iteT ?_
      exact q1 [] rfl (.int 0) _ (.int 0) s2
    | cons d0 r0 =>
      refine iteF ?_
      obtain ⟨x1, ex1, dn1⟩ := dn_at ra (show (d0 :: r0)[0]? = some d0 from rfl)
      obtain ⟨p1, a1, b1, c1, rfl, rfl, h1⟩ := tp_shape dn1 (tp d0 List.mem_cons_self)
      refine ⟨_, rfl, .inr (.inl ⟨a, xs, _, _, rfl, rfl, SqT.of (s2 _ _ ea), atI_nat ex1, ?_⟩)⟩
      refine ⟨p1, _, rfl, SqT.of (s2 _ _ h1), rfl, _, _, rfl, _, _, rfl, _, _, rfl, rfl, ?_⟩
      have ll : decide (V.int (xs.length : Int) = V.int ((1 : Nat) : Int)) = decide (r0.length = 0) := by
        rw [dec_len, ra.length]
        exact decide_eq_decide.mpr ⟨fun h => by rw [List.length_cons] at h; omega, fun h => by rw [List.length_cons, h]⟩
      have fin : ∀ {H' : Hp}, (¬ (r0.length = 0 ∧ a1 = 1 ∧ c1 = 1)) → intOf (PyData.tuple [.int a1, .int b1, .int c1] :: r0) = .none := fun h => by
        cases r0 with
        | nil =>
          show (if a1 = 1 ∧ c1 = 1 then PyData.int b1 else .none) = .none
          rw [if_neg fun z => h ⟨rfl, z⟩]
        | cons u r => rfl
      refine ⟨_, rfl, .ref a, xs.length, rfl, .inr ⟨xs, SqT.of (s2 _ _ ea), rfl⟩, rfl, _, rfl, ?_⟩
      show if decide (V.int (xs.length : Int) = V.int ((1 : Nat) : Int)) = true then _ else _
      rw [ll]
      refine ite_b (fun e3 => ?_) (fun e3 => ?_)
      · have z0 := of_decide_eq_true e3
        refine ⟨_, rfl, rfl, _, rfl, ite_b (fun e4 => ?_) (fun e4 => ?_)⟩
        · have z1 := V.int.inj (of_decide_eq_true e4)
          refine ⟨_, rfl, rfl, _, rfl, ite_b (fun e5 => ?_) (fun e5 => ?_)⟩
          · have z2 := V.int.inj (of_decide_eq_true e5)
            refine ⟨_, rfl, q1 _ rfl (.int b1) _ ?_ s2⟩
            have : r0 = [] := List.length_eq_zero_iff.mp z0
            subst this
            show Dn _ _ (if a1 = 1 ∧ c1 = 1 then PyData.int b1 else .none)
            rw [if_pos ⟨z1, z2⟩]
            exact .int b1
          · refine q1 _ rfl .non _ ?_ s2
            rw [fin (H' := H) fun h => of_decide_eq_false e5 (congrArg V.int h.2.2)]
            exact .non
        · refine q1 _ rfl .non _ ?_ s2
          rw [fin (H' := H) fun h => of_decide_eq_false e4 (congrArg V.int h.2.1)]
          exact .non
      · refine q1 _ rfl .non _ ?_ s2
        rw [fin (H' := H) fun h => of_decide_eq_false e3 h.1]
        exact .non
theorem scIntOf : FnScope ["number"] ["number"] (defScope sIntOf) := ⟨rfl, rfl, rfl, by decide +kernel, rfl, by decide +kernel, by decide +kernel⟩
theorem ok_intOf {f f1 f2 C : Addr} {fd d1 d2 : FuncData} (F : Fun K "integer_of" "integer_of" sIntOf f fd) (A1 : FnOk P w K mg base (L2.CX P w) 6 f1 d1 ["thing"] (spCheck C)) (m1 : mg "check_number" = some (.ref f1)) (k1 : PySem.W.keepIn K (.ref f1) = true) (b1 : Binds K d1 ["thing"] []) (A2 : Kn P w K mg base 1 "whole_number" ["number"] spWhole f2 d2) : FnOk P w K mg base (L2.CX P w) 7 f fd ["number"] (spIntOf C) := by
  refine F.okX scIntOf (fun vs H Q E h => ?_) (fun cdv A outer s H vs Q E hr h => ?_)
  · obtain ⟨v, d, rfl, _⟩ := h
    rfl
  · obtain ⟨v, d, rfl, hd, sh, q1, q2⟩ := h
    have r1 : Room 1 _ := hr.mono (by decide)
    have tk : Takes (cxOf (L2.CX P w) P w K mg base ["number"] "integer_of" (defScope sIntOf) f cdv A outer s H E) (fun cls d _ H => E cls d H) := takes_of rfl rfl rfl rfl
    refine ⟨_, pss_cons (ps_expr (pe_callS A1 hr rfl m1 k1 b1 (fun σ => passAt tk σ) (pa_cons (pv 0) pa_nil)))
      (pss_one (ps_ret (pe_call A2.ok r1 rfl A2.mg A2.kp A2.bd .nil pass0 (pa_cons (pv 0) pa_nil)))), ?_⟩
    refine ⟨_, rfl, v, d, rfl, hd, sh, fun np H1 s1 => ?_, fun n => q2 n⟩
    exact ⟨_, rfl, v, d, rfl, Dn.mono s1 d v hd, np, fun ds e r H' dr s2 => q1 ds e np r H' dr (s1.trans s2)⟩
end
end N3

namespace N3
open PySem PySem.Spec PyProof.Rows L2
abbrev sDeck : Stmt := top 23
abbrev sDraw : Stmt := top 24
abbrev sGreat : Stmt := top 25
abbrev sPick : Stmt := top 26
abbrev sNear : Stmt := top 27
abbrev sCommon : Stmt := top 28
abbrev sLInt : Stmt := top 29
abbrev sLean : Stmt := top 30
abbrev sNum : Stmt := top 34
abbrev sAny : Stmt := top 35
abbrev sIsLean : Stmt := top 31
abbrev sLTriple : Stmt := top 32
abbrev sLNumber : Stmt := top 33
abbrev sInstead : Stmt := top 36
abbrev sBent : Stmt := top 37
abbrev sTold : Stmt := top 38
abbrev sWide : Stmt := top 39
abbrev sThing : Stmt := top 40
abbrev sRight : Stmt := top 41
abbrev sLaw : Stmt := top 42
def dkv (x y z : V) : List (Key × V) := [(Sum.inr "left", x), (Sum.inr "mixed", y), (Sum.inr "draws", z)]
/-- a deck stands at dk, its list at l -/
def Deck (H : Hp) (dk l : Addr) : Prop := ∃ (ns : List Int) (m j : Int), H dk = some (.dK (dkv (.ref l) (.int m) (.int j))) ∧ H l = some (.lst (ns.map V.int)) ∧ ns.length ≤ 63
def Keep (dk l : Addr) (H H' : Hp) : Prop := ∀ b o, H b = some o → b ≠ dk → b ≠ l → H' b = some o
theorem Keep.of {dk l : Addr} {H H' : Hp} (h : Same H H') : Keep dk l H H' := fun b o e _ _ => h b o e
theorem Keep.trans {dk l : Addr} {H H1 H2 : Hp} (h : Keep dk l H H1) (k : Keep dk l H1 H2) : Keep dk l H H2 := fun b o e h1 h2 => k b o (h b o e h1 h2) h1 h2
theorem Deck.same {H H' : Hp} {dk l : Addr} (D : Deck H dk l) (h : Same H H') : Deck H' dk l := by
  obtain ⟨ns, m, j, h1, h2, h3⟩ := D
  exact ⟨ns, m, j, h _ _ h1, h _ _ h2, h3⟩
theorem Deck.ne {H : Hp} {dk l : Addr} (D : Deck H dk l) : dk ≠ l := by
  obtain ⟨ns, m, j, h1, h2, h3⟩ := D
  exact ne_of h1 h2 (by intro z; cases z)
theorem map_get {ns : List Int} {i : Nat} {y : V} (h : (ns.map V.int)[i]? = some y) : ∃ z : Int, ns[i]? = some z ∧ y = .int z := by
  rw [List.getElem?_map] at h
  cases e : ns[i]? with
  | none => rw [e] at h; cases h
  | some z => rw [e] at h; exact ⟨z, rfl, (Option.some.inj h).symm⟩
theorem cut_ints (ns : List Int) (lo hi : Option Int) : ∃ ms : List Int, cutV (ns.map V.int) lo hi = ms.map V.int ∧ ms.length ≤ ns.length := by
  unfold cutV
  refine ⟨(ns.drop (HT.sIx (ns.map V.int).length 0 lo)).take (HT.sIx (ns.map V.int).length (ns.map V.int).length hi - HT.sIx (ns.map V.int).length 0 lo), ?_, ?_⟩
  · rw [List.map_take, List.map_drop]
  · rw [List.length_take, List.length_drop]; omega
theorem kLM : ¬ (("left" : Str) = "mixed") := by decide +kernel
theorem kLD : ¬ (("left" : Str) = "draws") := by decide +kernel
theorem kMD : ¬ (("mixed" : Str) = "draws") := by decide +kernel
theorem deck3 (x y z : V) : mergeK [] (dkv x y z) = dkv x y z := by
  have h1 := kLM
  have h2 := kLD
  have h3 := kMD
  simp [mergeK, putK, dkv, h1, h2, h3]
def spDeck (K : PySem.W.Frag) : Sp := fun vs H Q _ => ∃ (a : Addr) (ns : List Int) (seed : Int), vs = [.ref a, .int seed] ∧ SqL K H a (ns.map V.int) ∧ ns.length ≤ 63 ∧
  ∀ (H' : Hp) (dk l : Addr), Deck H' dk l → Same H H' → H dk = none → H l = none → Q (.ref dk) H'
section
variable {P : Program} {w : World} {K : PySem.W.Frag} {mg : Str → Option Value} {base : Heap}
theorem scDeck : FnScope ["script", "seed", "mixed", "cell"] ["script", "seed"] (defScope sDeck) := ⟨rfl, rfl, rfl, by decide +kernel, rfl, by decide +kernel, by decide +kernel⟩
theorem ok_deck {f : Addr} {fd : FuncData} (F : Fun K "_law_deck" "_law_deck" sDeck f fd) (T : Bt mg) : FnOk P w K mg base CX0 1 f fd ["script", "seed"] (spDeck K) := by
  refine F.ok scDeck (fun vs H Q E h => ?_) (fun cdv A outer s H vs Q E hr h => ?_)
  · obtain ⟨a, ns, seed, rfl, _⟩ := h
    rfl
  · obtain ⟨a, ns, seed, rfl, hS, hl, k⟩ := h
    refine ⟨_, pss_cons (ps_set (i := 2) scDeck.nd rfl (Or.inl rfl) (pv 1))
      (pss_cons (ps_for PassesOwn.never rfl (pi_list (pe_slice sl_list (pv 0) po_none (po_some pe_int))) (pg_name (i := 3) scDeck.nd rfl (Or.inl rfl))
        (pss_one (ps_set (i := 2) scDeck.nd rfl (Or.inl rfl) (pe_op op_mod (pe_callTy call_int1 (by rfl) T.int (by decide +kernel) (pa_cons
          (pe_op op_add (pe_op op_add (pe_op op_mul (pv 2) pe_int) (pe_op op_mod (pe_callTy call_int1 (by rfl) T.int (by decide +kernel) (pa_cons (pv 3) pa_nil)) pe_int)) pe_int) pa_nil)) pe_int))))
      (pss_one (ps_ret (pe_disp (pps_cons pe_str (pe_revL (pe_callTy call_list_of (by rfl) T.list (by decide +kernel) (pa_cons (pe_slice sl_list (pv 0) po_none (po_some pe_int)) pa_nil)))
        (pps_cons pe_str (pv 2) (pps_cons pe_str pe_int pps_nil))) (by rfl) (by rfl) (fun z => by cases z) (by decide))))), ?_⟩
    obtain ⟨ms, em, hm⟩ := cut_ints ns none (some 63)
    refine ⟨_, rfl, _, rfl, _, rfl, a, _, rfl, hS, fun p hp => ⟨p, rfl, ⟨_, SqL.of upd_same⟩, ?_⟩⟩
    rw [em]
    refine for_list (K := K) (a := p) (xs := ms.map V.int) (fun i σ H' => ∃ (m : Int) (v : Option V), σ = [some (.ref a), some (.int seed), some (.int m), v] ∧ H' = upd H p (.lst (ms.map V.int)))
      ⟨seed, none, rfl, rfl⟩ (fun i σ H' _ ⟨_, _, _, e⟩ => by rw [e]; exact SqL.of upd_same) ?_ ?_
    · rintro i y σ H' hi ⟨m, v, rfl, rfl⟩
      obtain ⟨z, hz, rfl⟩ := map_get hi
      refine ⟨_, rfl, _, _, rfl, rfl, .inr ⟨by decide, by decide⟩, ?_⟩
      refine ⟨_, rfl, .inl ⟨_, rfl, ?_⟩⟩
      refine ⟨_, _, rfl, rfl, (by show (0 : Int) < 2147483647; decide), ?_⟩
      refine ⟨_, _, rfl, rfl, _, _, rfl, rfl, .inl ⟨_, rfl, ?_⟩⟩
      exact ⟨_, _, rfl, rfl, (by show (0 : Int) < 2147483563; decide), _, _, rfl, rfl⟩
    · rintro σ H' ⟨m, v, rfl, rfl⟩
      have s1 : Same H (upd H p (.lst (ms.map V.int))) := snew hp
      intro d hd
      refine ⟨_, rfl, _, rfl, a, ns.map V.int, rfl, (s1.trans (snew hd)).seq hS, fun p2 hp2 => ?_⟩
      refine ⟨p2, _, rfl, .inl (SqL.of upd_same), fun p3 hp3 => ?_⟩
      refine ⟨p3, _, rfl, SqL.of upd_same, fun p4 hp4 => ?_⟩
      have f3 := (snew hp3).free hp4
      have f2 := (snew hp2).free f3
      have s4 : Same (upd (upd H p (.lst (ms.map V.int))) d (.dK [])) _ := ((snew hp2).trans (snew hp3)).trans (snew (o := .lst (cutV (ns.map V.int) none (some 63)).reverse) hp4)
      rw [em] at s4 ⊢
      have nd4 : d ≠ p4 := ne_of_none upd_same f2
      refine ⟨_, rfl, s4 _ _ upd_same, dkv (.ref p4) (.int m) (.int 0), rfl, (by show 3 ≤ 15; decide), ?_⟩
      have e4 := deck3 (.ref p4) (.int m) (.int 0)
      refine k _ d p4 ⟨ms.reverse, m, 0, ?_, ?_, ?_⟩ ?_ (s1.free hd) (s1.free ((snew hd).free f2))
      · exact upd_same.trans (congrArg (fun l => some (HO.dK l)) e4)
      · rw [upd_ne nd4.symm, List.map_reverse]; exact upd_same
      · rw [List.length_reverse]; omega
      · intro b o e
        have e1 := s1 b o e
        rw [upd_ne (ne_of_none e1 hd)]
        exact s4 _ _ (snew hd _ _ e1)
end
theorem val_left (x y z : V) : valV (dkv x y z) (Sum.inr "left" : Key) = some x := valV_pos rfl
theorem val_mixed (x y z : V) : valV (dkv x y z) (Sum.inr "mixed" : Key) = some y := by
  unfold dkv
  rw [valV_neg (by show ¬ (Sum.inr ("left" : Str) : Key) = Sum.inr ("mixed" : Str); exact fun e => kLM (Sum.inr.inj e)), valV_pos rfl]
theorem val_draws (x y z : V) : valV (dkv x y z) (Sum.inr "draws" : Key) = some z := by
  unfold dkv
  rw [valV_neg (by show ¬ (Sum.inr ("left" : Str) : Key) = Sum.inr ("draws" : Str); exact fun e => kLD (Sum.inr.inj e)),
    valV_neg (by show ¬ (Sum.inr ("mixed" : Str) : Key) = Sum.inr ("draws" : Str); exact fun e => kMD (Sum.inr.inj e)), valV_pos rfl]
theorem put_draws (x y z v : V) : putK (dkv x y z) (Sum.inr "draws" : Key) v = dkv x y v := by
  have h1 := kLD
  have h2 := kMD
  simp [putK, dkv, h1, h2]
theorem put_mixed (x y z v : V) : putK (dkv x y z) (Sum.inr "mixed" : Key) v = dkv x v z := by
  have h1 := kLM
  have h2 : ¬ (("draws" : Str) = "mixed") := fun e => kMD e.symm
  simp [putK, dkv, h1, h2]
theorem dk_get {H : Hp} {d : Addr} {x y z : V} {k : Str} {v : V} (h : H d = some (.dK (dkv x y z))) (e : valV (dkv x y z) (Sum.inr k : Key) = some v) : DGet H d (.str k) (some v) := by
  rw [← e]
  exact DGet.k (k := Sum.inr k) h
theorem dk_put {H : Hp} {d : Addr} {x y z : V} {k : Str} {v : V} {l : List (Key × V)} (h : H d = some (.dK (dkv x y z))) (e : putK (dkv x y z) (Sum.inr k : Key) v = l) : DPut H d (.str k) v (upd H d (.dK l)) := by
  rw [← e]
  exact DPut.k (k := Sum.inr k) h (by show 3 < sizeLine; rw [sizeLine_eq]; decide)
theorem ints_lay : ∀ ns : List Int, PyData.canLayAll0 (ns.map PyData.int) = true
  | [] => by simp [PyData.canLayAll0]
  | z :: zs => by simp [PyData.canLayAll0, PyData.canLay0, ints_lay zs]
theorem ints_deep : ∀ ns : List Int, PyData.depthAll (ns.map PyData.int) = 0
  | [] => by simp [PyData.depthAll]
  | z :: zs => by simp [PyData.depthAll, PyData.depth, ints_deep zs]
theorem ints_shaped (ns : List Int) : SeqAt.shaped (.list (ns.map PyData.int)) = true := by
  have h1 := ints_deep ns
  show (PyData.canLay0 (.list (ns.map PyData.int)) && decide (PyData.depth (.list (ns.map PyData.int)) ≤ 64)) = true
  rw [Bool.and_eq_true]
  exact ⟨by simp only [PyData.canLay0]; exact ints_lay ns, decide_eq_true (by simp only [PyData.depth]; omega)⟩
theorem nil_shaped : SeqAt.shaped (.list []) = true := ints_shaped []
theorem eqv_nil (ds : List PyData) : PyData.eqv (.list ds) (.list []) = ds.isEmpty := by
  cases ds <;> simp [PyData.eqv, PyData.eqvAll]
theorem ints_dp {K : PySem.W.Frag} {H : Hp} : ∀ ns : List Int, DpAll K H (ns.map V.int) (ns.map PyData.int)
  | [] => .nil
  | z :: zs => .cons (.int z) (ints_dp zs)
/-- a draw: some number below many; the deck alone changes -/
def spDraw : Sp := fun vs H Q _ => ∃ (dk l : Addr) (many : Int), vs = [.ref dk, .int many] ∧ Deck H dk l ∧ 0 < many ∧ many < 1073741824 ∧
  ∀ (r : Int) (H' : Hp), 0 ≤ r → r < many → Deck H' dk l → Keep dk l H H' → Q (.int r) H'
section
variable {P : Program} {w : World} {K : PySem.W.Frag} {mg : Str → Option Value} {base : Heap}
theorem scDraw : FnScope ["deck", "many", "cell", "figure"] ["deck", "many"] (defScope sDraw) := ⟨rfl, rfl, rfl, by decide +kernel, rfl, by decide +kernel, by decide +kernel⟩
theorem ok_draw {f : Addr} {fd : FuncData} (F : Fun K "_law_draw" "_law_draw" sDraw f fd) (T : Bt mg) : FnOk P w K mg base CX0 1 f fd ["deck", "many"] spDraw := by
  refine F.ok scDraw (fun vs H Q E h => ?_) (fun cdv A outer s H vs Q E hr h => ?_)
  · obtain ⟨dk, l, many, rfl, _⟩ := h
    rfl
  · obtain ⟨dk, l, many, rfl, D, m0, m1, k⟩ := h
    have hu := hu_of hr
    refine ⟨_, pss_cons (ps_dput hu (pv 0) pe_str (pe_op op_add (pe_dget hu (pv 0) pe_str (fun _ _ => rfl)) pe_int) rfl)
      (C8.pss_cut (ps_if (pt_cmpR (op_neD hr.units) (pe_dget hu (pv 0) pe_str (fun _ _ => rfl)) (pe_lst pa_nil) (nomark _))
        (pss_cons (ps_set (i := 2) scDraw.nd rfl (Or.inl rfl) (pe_bm0 PySem.F.plainAttrs_list PySem.F.slot_list_pop PySem.F.type_list_pop mt_pop (pe_dget hu (pv 0) pe_str (fun _ _ => rfl))))
        (pss_cons (ps_if (pt_cmpR op_ge (pv 2) (pe_op op_pow pe_int pe_int) (nomark _))
          (pss_cons (ps_expr (pe_bm PySem.F.plainAttrs_list PySem.F.slot_list_append PySem.F.type_list_append mt_append (pe_dget hu (pv 0) pe_str (fun _ _ => rfl))
            (pa_cons (pe_op op_fdiv (pv 2) (pe_callB (call_max2 rfl) (by rfl) T.max (by decide +kernel) (pa_cons pe_int (pa_cons (pv 1) pa_nil)))) pa_nil)))
          (pss_one (ps_ret (pe_op op_mod (pe_callTy call_int1 (by rfl) T.int (by decide +kernel) (pa_cons (pv 2) pa_nil)) (pv 1))))) pss_nil)
        (pss_one (ps_dput hu (pv 0) pe_str (pe_op op_mod (pe_callTy call_int1 (by rfl) T.int (by decide +kernel) (pa_cons
          (pe_op op_add (pe_op op_add (pe_op op_mul (pe_dget hu (pv 0) pe_str (fun _ _ => rfl)) pe_int) (pe_op op_mod (pe_callTy call_int1 (by rfl) T.int (by decide +kernel) (pa_cons (pv 2) pa_nil)) pe_int)) pe_int) pa_nil)) pe_int) rfl)))) pss_nil)
      (pss_cons (ps_set (i := 3) scDraw.nd rfl (Or.inl rfl) (pe_op op_mod (pe_callTy call_int1 (by rfl) T.int (by decide +kernel) (pa_cons
        (pe_op op_add (pe_dget hu (pv 0) pe_str (fun _ _ => rfl)) (pe_op op_mul pe_int (pe_dget hu (pv 0) pe_str (fun _ _ => rfl)))) pa_nil)) pe_int))
      (pss_cons (ps_set (i := 3) scDraw.nd rfl (Or.inl rfl) (pe_op op_mod (pe_callTy call_int1 (by rfl) T.int (by decide +kernel) (pa_cons
        (pe_op op_add (pe_op op_add (pe_op op_mul (pv 3) (pv 3)) (pe_op op_mul pe_int (pe_dget hu (pv 0) pe_str (fun _ _ => rfl)))) pe_int) pa_nil)) pe_int))
      (pss_cons (ps_set (i := 3) scDraw.nd rfl (Or.inl rfl) (pe_op op_mod (pe_callTy call_int1 (by rfl) T.int (by decide +kernel) (pa_cons
        (pe_op op_add (pe_op op_mul (pv 3) pe_int) pe_int) pa_nil)) pe_int))
      (pss_one (ps_ret (pe_op op_mod (pe_callTy call_int1 (by rfl) T.int (by decide +kernel) (pa_cons (pe_op op_fdiv (pv 3) pe_int) pa_nil)) (pv 1)))))))), ?_⟩
    obtain ⟨ns, m, j, h1, h2, h3⟩ := id D
    have ne := D.ne
    refine ⟨_, rfl, dk, _, rfl, dk_get h1 (val_draws _ _ _), _, _, rfl, rfl, _, rfl, dk, _, rfl, dk_put h1 (put_draws _ _ _ _), ?_⟩
    have g1 : (upd H dk (.dK (dkv (.ref l) (.int m) (.int (j + 1))))) dk = some (.dK (dkv (.ref l) (.int m) (.int (j + 1)))) := upd_same
    have g2 : (upd H dk (.dK (dkv (.ref l) (.int m) (.int (j + 1))))) l = some (.lst (ns.map V.int)) := by rw [upd_ne ne.symm]; exact h2
    have kp : Keep dk l H (upd H dk (.dK (dkv (.ref l) (.int m) (.int (j + 1))))) := fun b o e hb _ => by rw [upd_ne hb]; exact e
    refine ⟨fun σ' H' => ∃ c : Option V, σ' = [some (.ref dk), some (.int many), c, none] ∧ Deck H' dk l ∧ Keep dk l H H', ?_, ?_⟩
    · refine ⟨_, rfl, dk, _, rfl, dk_get g1 (val_left _ _ _), ?_⟩
      refine ⟨(by show 0 ≤ sizeLine; exact Nat.zero_le _), fun p hp => ⟨.list (ns.map PyData.int), .list [], .lst (SqL.of ((snew hp) _ _ g2)) (ints_dp ns), .lst (SqL.of upd_same) .nil, ints_shaped ns, nil_shaped, _, rfl, ?_⟩⟩
      rw [eqv_nil]
      have sp := snew (o := .lst []) hp
      have q1 := sp _ _ g1
      have q2 := sp _ _ g2
      have kp1 := kp.trans (Keep.of sp)
      cases ns with
      | nil =>
        refine iteF ?_
        exact ⟨none, rfl, ⟨[], m, j + 1, q1, q2, h3⟩, kp1⟩
      | cons z zs =>
        refine iteT ?_
        obtain ⟨H1, eH1⟩ : ∃ H1, upd (upd H dk (.dK (dkv (.ref l) (.int m) (.int (j + 1))))) p (.lst []) = H1 := ⟨_, rfl⟩
        rw [eH1] at q1 q2 kp1
        show (tSeq _ _) _ _ (upd (upd H dk (.dK (dkv (.ref l) (.int m) (.int (j + 1))))) p (.lst []))
        rw [eH1]
        obtain ⟨y, hy⟩ : ∃ y : Int, ((z :: zs).map V.int)[((z :: zs).map V.int).length - 1]? = some (.int y) := by
          rw [List.length_map, List.getElem?_map]
          have hlt : (z :: zs).length - 1 < (z :: zs).length := by show zs.length < zs.length + 1; omega
          exact ⟨(z :: zs)[(z :: zs).length - 1], by rw [List.getElem?_eq_getElem hlt]; rfl⟩
        have hdl : ((z :: zs).map V.int).dropLast = ((z :: zs).dropLast).map V.int := by rw [List.map_dropLast]
        have hlen : ((z :: zs).dropLast).length ≤ 62 := by rw [List.length_dropLast]; omega
        refine ⟨_, rfl, dk, _, rfl, dk_get q1 (val_left _ _ _), .inl ⟨rfl, _, .inl (.inl q2)⟩, l, _, _, rfl, rfl, q2, hy, ?_⟩
        rw [hdl]
        have n1 : (upd H1 l (.lst (((z :: zs).dropLast).map V.int))) dk = some (.dK (dkv (.ref l) (.int m) (.int (j + 1)))) := by rw [upd_ne ne]; exact q1
        have kp2 : Keep dk l H (upd H1 l (.lst (((z :: zs).dropLast).map V.int))) := fun b o e hb hl => by rw [upd_ne hl]; exact kp1 b o e hb hl
        refine ⟨_, rfl, _, _, rfl, rfl, ⟨by decide, by decide, by decide⟩, _, _, rfl, rfl, _, rfl, ite2 (fun _ => ?_) (fun _ => ?_)⟩
        · refine ⟨_, rfl, dk, _, rfl, dk_get n1 (val_left _ _ _), .inl ⟨rfl, _, .inl (.inl upd_same)⟩, ?_⟩
          refine ⟨_, rfl, _, rfl, _, _, rfl, ?_⟩
          have cd : CDiv y (if many > 2 then many else 2) := by
            by_cases c : many > 2
            · rw [if_pos c]; exact ⟨m0, m1⟩
            · rw [if_neg c]; exact ⟨by decide, by decide⟩
          obtain ⟨by_, eby⟩ : ∃ b, (if many > 2 then many else 2) = b := ⟨_, rfl⟩
          rw [eby] at cd
          refine ⟨y, by_, rfl, (by rw [← eby]), cd, l, _, _, rfl, rfl, upd_same, small1000 (by rw [List.length_map]; omega), ?_⟩
          refine ⟨_, rfl, .inl ⟨_, rfl, _, rfl, _, _, rfl, rfl, m0, ?_⟩⟩
          refine k _ _ (Int.emod_nonneg _ (by omega)) (Int.emod_lt_of_pos _ m0) ⟨(z :: zs).dropLast ++ [y / by_], m, j + 1, ?_, ?_, ?_⟩ fun b o e hb hl => ?_
          · rw [upd_ne ne]; exact n1
          · rw [upd_same, List.map_append]; rfl
          · rw [List.length_append]; show _ + 1 ≤ 63; omega
          · rw [upd_ne hl]; exact kp2 b o e hb hl
        · refine ⟨_, rfl, dk, _, rfl, dk_get n1 (val_mixed _ _ _), _, _, rfl, rfl, .inr ⟨by decide, by decide⟩, ?_⟩
          refine ⟨_, rfl, .inl ⟨_, rfl, _, _, rfl, rfl, (by show (0 : Int) < 2147483629; decide), _, _, rfl, rfl, _, _, rfl, rfl, .inl ⟨_, rfl, _, _, rfl, rfl, (by show (0 : Int) < 2147483587; decide), ?_⟩⟩⟩
          refine ⟨_, rfl, dk, _, rfl, dk_put n1 (put_mixed _ _ _ _), some (.int y), rfl, ⟨(z :: zs).dropLast, _, j + 1, upd_same, ?_, by omega⟩, fun b o e hb hl => ?_⟩
          · rw [upd_ne ne.symm]; exact upd_same
          · rw [upd_ne hb]; exact kp2 b o e hb hl
    · rintro σ' H' ⟨c, rfl, ⟨ns', m', j', e1, e2, e3⟩, kp'⟩
      refine ⟨_, rfl, dk, _, rfl, dk_get e1 (val_mixed _ _ _), _, rfl, dk, _, rfl, dk_get e1 (val_draws _ _ _), _, _, rfl, rfl, .inl ⟨by decide, by decide⟩, ?_⟩
      refine ⟨_, _, rfl, rfl, .inl ⟨_, rfl, _, _, rfl, rfl, (by show (0 : Int) < 2147483647; decide), ?_⟩⟩
      have b1 := Int.emod_nonneg (m' + 31337 * j') (show (2147483647 : Int) ≠ 0 by decide)
      have b2 := Int.emod_lt_of_pos (m' + 31337 * j') (show (0 : Int) < 2147483647 by decide)
      refine ⟨_, rfl, _, rfl, _, _, rfl, rfl, .inl ⟨by omega, by omega⟩, ?_⟩
      refine ⟨_, rfl, dk, _, rfl, dk_get e1 (val_draws _ _ _), _, _, rfl, rfl, .inl ⟨by decide, by decide⟩, _, _, rfl, rfl, _, _, rfl, rfl, .inl ⟨_, rfl, _, _, rfl, rfl, (by show (0 : Int) < 2147483629; decide), ?_⟩⟩
      refine ⟨_, rfl, _, _, rfl, rfl, .inr ⟨by decide, by decide⟩, _, _, rfl, rfl, .inl ⟨_, rfl, _, _, rfl, rfl, (by show (0 : Int) < 2147483563; decide), ?_⟩⟩
      refine ⟨_, rfl, _, _, rfl, rfl, ⟨by decide, by decide⟩, .inl ⟨_, rfl, _, rfl, _, _, rfl, rfl, m0, ?_⟩⟩
      exact k _ _ (Int.emod_nonneg _ (by omega)) (Int.emod_lt_of_pos _ m0) ⟨ns', m', j', e1, e2, e3⟩ kp'
end
theorem keepL {K : PySem.W.Frag} {dk l p : Addr} {H H' : Hp} {xs : List V} (k : Keep dk l H H') (h1 : p ≠ dk) (h2 : p ≠ l) (h : SqL K H p xs) : SqL K H' p xs := by
  rcases h with (h | ⟨o, h⟩) | h
  · exact .inl (.inl (k _ _ h h1 h2))
  · exact .inl (.inr ⟨o, k _ _ h h1 h2⟩)
  · exact .inr h
/-- one item of a list, any -/
def spPick (K : PySem.W.Frag) : Sp := fun vs H Q _ => ∃ (dk l p : Addr) (xs : List V), vs = [.ref dk, .ref p] ∧ Deck H dk l ∧ SqL K H p xs ∧ p ≠ dk ∧ p ≠ l ∧ xs ≠ [] ∧ xs.length < 1073741824 ∧
  ∀ (x : V) (H' : Hp), x ∈ xs → Deck H' dk l → Keep dk l H H' → Q x H'
section
variable {P : Program} {w : World} {K : PySem.W.Frag} {mg : Str → Option Value} {base : Heap}
theorem scPick : FnScope ["deck", "some"] ["deck", "some"] (defScope sPick) := ⟨rfl, rfl, rfl, by decide +kernel, rfl, by decide +kernel, by decide +kernel⟩
theorem ok_pick {f fD : Addr} {fd fdD : FuncData} (F : Fun K "_law_pick" "_law_pick" sPick f fd) (T : Bt mg) (D : Kn P w K mg base 1 "_law_draw" ["deck", "many"] spDraw fD fdD) : FnOk P w K mg base CX0 2 f fd ["deck", "some"] (spPick K) := by
  refine F.ok scPick (fun vs H Q E h => ?_) (fun cdv A outer s H vs Q E hr h => ?_)
  · obtain ⟨dk, l, p, xs, rfl, _⟩ := h
    rfl
  · obtain ⟨dk, l, p, xs, rfl, De, hS, n1, n2, ne, hl, k⟩ := h
    refine ⟨_, pss_one (ps_ret (pe_ix ix_list (pv 1) (pe_call D.ok hr rfl D.mg D.kp D.bd .nil pass0 (pa_cons (pv 0) (pa_cons (pe_callB call_len_seq (by rfl) T.len PySem.boot_len (pa_cons (pv 1) pa_nil)) pa_nil))) (fun _ _ => rfl))), ?_⟩
    have hpos : 0 < xs.length := List.length_pos_iff.mpr ne
    refine ⟨_, rfl, _, rfl, _, rfl, p, _, rfl, .inl hS, dk, l, (xs.length : Int), rfl, De, by omega, by omega, fun r H' r0 r1 De' kp => ?_⟩
    obtain ⟨j, rfl⟩ : ∃ j : Nat, r = (j : Int) := ⟨r.toNat, by omega⟩
    have hj : j < xs.length := by omega
    exact ⟨p, xs, _, _, rfl, rfl, keepL kp n1 n2 hS, atI_nat (List.getElem?_eq_getElem hj), k _ H' (List.getElem_mem hj) De' kp⟩
end
/-- what is new since -/
def new (H H' : Hp) : Hp := fun b => if H b = none then H' b else none
theorem new_at {H H' : Hp} {b : Addr} {o : HO} (h : H b = none) (e : H' b = some o) : new H H' b = some o := by
  unfold new
  rw [if_pos h]; exact e
theorem of_new {H H' : Hp} {b : Addr} {o : HO} (e : new H H' b = some o) : H b = none ∧ H' b = some o := by
  unfold new at e
  by_cases c : H b = none
  · rw [if_pos c] at e; exact ⟨c, e⟩
  · rw [if_neg c] at e; cases e
/-- what was there is there -/
def There (H H' : Hp) : Prop := ∀ b, H' b = none → H b = none
theorem Same.there {H H' : Hp} (h : Same H H') : There H H' := fun b e => h.free e
theorem There.trans {H H1 H2 : Hp} (h : There H H1) (k : There H1 H2) : There H H2 := fun b e => h b (k b e)
theorem Keep.there {dk l : Addr} {H H' : Hp} (k : Keep dk l H H') (D' : Deck H' dk l) : There H H' := fun b e => by
  cases q : H b with
  | none => rfl
  | some o =>
    obtain ⟨ns, m, j, h1, h2, _⟩ := D'
    by_cases c1 : b = dk
    · rw [c1, h1] at e; cases e
    · by_cases c2 : b = l
      · rw [c2, h2] at e; cases e
      · rw [k b o q c1 c2] at e; cases e
theorem new_back {H0 H H' : Hp} (t : There H0 H) : Same (new H H') (new H0 H') := fun b o e => new_at (t b (of_new e).1) (of_new e).2
theorem new_on {dk l : Addr} {H0 H H' : Hp} (k : Keep dk l H H') (h1 : H0 dk ≠ none) (h2 : H0 l ≠ none) : Same (new H0 H) (new H0 H') := fun b o e => by
  obtain ⟨e1, e2⟩ := of_new e
  exact new_at e1 (k b o e2 (fun z => h1 (z ▸ e1)) (fun z => h2 (z ▸ e1)))
theorem new_upd {H0 H : Hp} {d : Addr} {o : HO} (h : H0 d ≠ none) : Same (new H0 H) (new H0 (upd H d o)) := fun b u e => by
  obtain ⟨e1, e2⟩ := of_new e
  exact new_at e1 (by rw [upd_ne (fun z => h (by rw [← z]; exact e1))]; exact e2)
theorem new_same {H0 H H' : Hp} (h : Same H H') : Same (new H0 H) (new H0 H') := fun b o e => new_at (of_new e).1 (h _ _ (of_new e).2)
theorem Deck.some1 {H : Hp} {dk l : Addr} (D : Deck H dk l) : H dk ≠ none ∧ H l ≠ none := by
  obtain ⟨ns, m, j, h1, h2, _⟩ := D
  exact ⟨(by rw [h1]; exact fun z => nomatch z), by rw [h2]; exact fun z => nomatch z⟩
end N3

namespace N3
open PySem PySem.Spec PyProof.Rows L2
theorem walk_zipT {K : PySem.W.Frag} {a b : Addr} {xs ys : List V} {n : Nat} (hn : n = min xs.length ys.length) : Walk (RZ.ItzT K a b) n (fun H => SqT K H a xs ∧ SqT K H b ys) (YPair (fun i => xs[i]?) (fun i => ys[i]?)) where
  goes := fun i H hi q => by
    have h1 : i < xs.length := by omega
    have h2 : i < ys.length := by omega
    exact ⟨xs, ys, xs[i], ys[i], q.1, q.2, List.getElem?_eq_getElem h1, List.getElem?_eq_getElem h2⟩
  stops := fun H q => ⟨xs, ys, q.1, q.2, by omega⟩
  yields := fun i H v H' hi q y => by
    obtain ⟨T, x, z, e, n1, h, f1, f2⟩ := y
    exact ⟨T, x, z, e, n1, h, f1 xs q.1, f2 ys q.2⟩
def spGreat : Sp := fun vs H Q _ => ∃ (dk l : Addr) (many : Int), vs = [.ref dk, .int many] ∧ Deck H dk l ∧ 0 < many ∧ ∀ (r : Int) (H' : Hp), 0 ≤ r → r < many → Deck H' dk l → Keep dk l H H' → Q (.int r) H'
def spNear : Sp := fun vs H Q _ => ∃ (dk l : Addr) (far : Int), vs = [.ref dk, .int far] ∧ Deck H dk l ∧ 0 ≤ far ∧ far < 1000 ∧ ∀ (r : Int) (H' : Hp), -far ≤ r → r ≤ far → Deck H' dk l → Keep dk l H H' → Q (.int r) H'
def spCommon : Sp := fun vs H Q _ => ∃ a b : Int, vs = [.int a, .int b] ∧ Q (.int ((Nat.gcd a.natAbs b.natAbs : Nat) : Int)) H
def spLean : Sp := fun vs H Q _ => ∃ n : Nat, vs = [.int (n : Int)] ∧ 1 ≤ n ∧ n ≤ 1000000 ∧ ∀ r : Nat, 1 ≤ r → r ≤ n → Q (.int (r : Int)) H
def Lean_ (a : Int) : Prop := a ≠ 0 ∧ ∀ p, 2 ≤ p → p ≤ 1000 → ¬ p * p ∣ a.natAbs
def spIsLean : Sp := fun vs H Q _ => ∃ a : Int, vs = [.int a] ∧ ∀ b : Bool, (b = true ↔ Lean_ a) → Q (.bl b) H
section
variable {P : Program} {w : World} {K : PySem.W.Frag} {mg : Str → Option Value} {base : Heap}
theorem scGreat : FnScope ["deck", "many", "found", "left"] ["deck", "many"] (defScope sGreat) := ⟨rfl, rfl, rfl, by decide +kernel, rfl, by decide +kernel, by decide +kernel⟩
theorem p6 : (10 : Int) ^ (6 : Int).toNat = 1000000 := by decide
theorem ok_great {f fD : Addr} {fd fdD : FuncData} (F : Fun K "_law_great" "_law_great" sGreat f fd) (T : Bt mg) (D : Kn P w K mg base 1 "_law_draw" ["deck", "many"] spDraw fD fdD) : FnOk P w K mg base CX0 2 f fd ["deck", "many"] spGreat := by
  refine F.ok scGreat (fun vs H Q E h => ?_) (fun cdv A outer s H vs Q E hr h => ?_)
  · obtain ⟨dk, l, many, rfl, _⟩ := h
    rfl
  · obtain ⟨dk, l, many, rfl, De, m0, k⟩ := h
    refine ⟨_, pss_cons (ps_par (i := 2) (j := 3) rfl scGreat.nd rfl rfl (by decide) rfl rfl (pa_cons pe_int (pa_cons (pv 1) pa_nil)) (by rfl))
      (pss_cons (ps_while PassesOwn.never (pt_cmpR op_gt (pv 3) pe_int (nomark _)) (pss_one (ps_par (i := 2) (j := 3) rfl scGreat.nd rfl rfl (by decide) rfl rfl
        (pa_cons (pe_op op_add (pe_op op_mul (pv 2) (pe_op op_pow pe_int pe_int)) (pe_call D.ok hr rfl D.mg D.kp D.bd .nil pass0 (pa_cons (pv 0) (pa_cons (pe_op op_pow pe_int pe_int) pa_nil)))) (pa_cons (pe_op op_fdiv (pv 3) (pe_op op_pow pe_int pe_int)) pa_nil)) (by rfl))))
      (pss_one (ps_ret (pe_op op_mod (pe_callTy call_int1 (by rfl) T.int (by decide +kernel) (pa_cons (pv 2) pa_nil)) (pv 1))))), ?_⟩
    have cp : CPow 10 6 := ⟨by decide, by decide, by decide⟩
    refine ⟨_, rfl, _, _, rfl, ?_⟩
    refine ⟨fun m σ H' => ∃ fo le : Int, σ = [some (.ref dk), some (.int many), some (.int fo), some (.int le)] ∧ Deck H' dk l ∧ Keep dk l H H' ∧ m = le.toNat, ⟨_, 0, many, rfl, De, fun b o e _ _ => e, rfl⟩, ?_⟩
    rintro m σ H1 ⟨fo, le, rfl, D1, k1, rfl⟩
    refine ⟨_, rfl, _, _, rfl, rfl, _, rfl, ite_b (fun c => ?_) (fun c => ?_)⟩
    · have c' : 0 < le := of_decide_eq_true c
      refine ⟨fun σ' H' => ∃ fo' : Int, σ' = [some (.ref dk), some (.int many), some (.int fo'), some (.int (le / 1000000))] ∧ Deck H' dk l ∧ Keep dk l H H', fun σ' H' ⟨fo', e1, e2, e3⟩ => ⟨(le / 1000000).toNat, by omega, fo', _, e1, e2, e3, rfl⟩, ?_⟩
      refine ⟨_, rfl, _, _, rfl, rfl, cp, _, _, rfl, rfl, .inr ⟨by decide, by decide⟩, ?_⟩
      refine ⟨_, rfl, _, _, rfl, rfl, cp, dk, l, 1000000, by rw [← p6]; rfl, D1, by decide, by decide, fun r H2 r0 r1 D2 k2 => ?_⟩
      refine ⟨_, _, rfl, rfl, _, rfl, _, _, rfl, rfl, cp, _, _, rfl, rfl, ⟨by decide, by decide⟩, _, _, rfl, ?_⟩
      exact ⟨_, by rw [p6]; rfl, D2, k1.trans k2⟩
    · refine ⟨_, rfl, .inl ⟨_, rfl, _, rfl, _, _, rfl, rfl, m0, ?_⟩⟩
      exact k _ H1 (Int.emod_nonneg _ (by omega)) (Int.emod_lt_of_pos _ m0) D1 k1
theorem scNear : FnScope ["deck", "far"] ["deck", "far"] (defScope sNear) := ⟨rfl, rfl, rfl, by decide +kernel, rfl, by decide +kernel, by decide +kernel⟩
theorem ok_near {f fD : Addr} {fd fdD : FuncData} (F : Fun K "_law_near" "_law_near" sNear f fd) (D : Kn P w K mg base 1 "_law_draw" ["deck", "many"] spDraw fD fdD) : FnOk P w K mg base CX0 2 f fd ["deck", "far"] spNear := by
  refine F.ok scNear (fun vs H Q E h => ?_) (fun cdv A outer s H vs Q E hr h => ?_)
  · obtain ⟨dk, l, far, rfl, _⟩ := h
    rfl
  · obtain ⟨dk, l, far, rfl, De, m0, m1, k⟩ := h
    refine ⟨_, pss_one (ps_ret (pe_op op_sub (pe_call D.ok hr rfl D.mg D.kp D.bd .nil pass0 (pa_cons (pv 0) (pa_cons (pe_op op_add (pe_op op_mul pe_int (pv 1)) pe_int) pa_nil))) (pv 1))), ?_⟩
    refine ⟨_, rfl, _, rfl, _, _, rfl, rfl, .inl ⟨by decide, by decide⟩, _, _, rfl, rfl, dk, l, _, rfl, De, by omega, by omega, fun r H1 r0 r1 D1 k1 => ?_⟩
    exact ⟨_, rfl, _, _, rfl, rfl, k _ H1 (by omega) (by omega) D1 k1⟩
theorem scCommon : FnScope ["one", "other"] ["one", "other"] (defScope sCommon) := ⟨rfl, rfl, rfl, by decide +kernel, rfl, by decide +kernel, by decide +kernel⟩
theorem abs_nat (a : Int) : (if a < 0 then -a else a) = (a.natAbs : Int) := by split <;> omega
theorem ok_common {f : Addr} {fd : FuncData} (F : Fun K "_law_common" "_law_common" sCommon f fd) (T : Bt mg) : FnOk P w K mg base CX0 1 f fd ["one", "other"] spCommon := by
  refine F.ok scCommon (fun vs H Q E h => ?_) (fun cdv A outer s H vs Q E hr h => ?_)
  · obtain ⟨a, b, rfl, _⟩ := h
    rfl
  · obtain ⟨a, b, rfl, k⟩ := h
    refine ⟨_, pss_cons (ps_par (i := 0) (j := 1) rfl scCommon.nd rfl rfl (by decide) rfl rfl (pa_cons (pe_callB call_abs (by rfl) T.abs (by decide +kernel) (pa_cons (pv 0) pa_nil)) (pa_cons (pe_callB call_abs (by rfl) T.abs (by decide +kernel) (pa_cons (pv 1) pa_nil)) pa_nil)) (by rfl))
      (pss_cons (ps_while PassesOwn.never (pt_cmpR op_gt (pv 1) pe_int (nomark _)) (pss_one (ps_par (i := 0) (j := 1) rfl scCommon.nd rfl rfl (by decide) rfl rfl
        (pa_cons (pv 1) (pa_cons (pe_op op_mod (pe_callTy call_int1 (by rfl) T.int (by decide +kernel) (pa_cons (pv 0) pa_nil)) (pv 1)) pa_nil)) (by rfl))))
      (pss_one (ps_ret (pv 0)))), ?_⟩
    refine ⟨_, rfl, a, rfl, _, rfl, b, rfl, _, _, rfl, ?_⟩
    refine ⟨fun m σ H' => ∃ x y : Nat, σ = [some (.int (x : Int)), some (.int (y : Int))] ∧ H' = H ∧ Nat.gcd x y = Nat.gcd a.natAbs b.natAbs ∧ m = y, ⟨_, a.natAbs, b.natAbs, by rw [← abs_nat, ← abs_nat]; rfl, rfl, rfl, rfl⟩, ?_⟩
    rintro m σ H1 ⟨x, y, rfl, rfl, g, rfl⟩
    refine ⟨_, rfl, _, _, rfl, rfl, _, rfl, ite_b (fun c => ?_) (fun c => ?_)⟩
    · have c' : 0 < m := by have := of_decide_eq_true c; omega
      refine ⟨fun σ' H' => σ' = [some (.int (m : Int)), some (.int ((x % m : Nat) : Int))] ∧ H' = H1, fun σ' H' ⟨e1, e2⟩ => ⟨x % m, Nat.mod_lt _ c', m, x % m, e1, e2, ?_, rfl⟩, ?_⟩
      · rw [← g, Nat.gcd_comm x m, Nat.gcd_rec m x, Nat.gcd_comm]
      · refine ⟨_, rfl, _, rfl, .inl ⟨_, rfl, _, rfl, _, _, rfl, rfl, by omega, _, _, rfl, ?_⟩⟩
        exact ⟨by rw [Int.natCast_emod]; rfl, rfl⟩
    · have c' : m = 0 := by have := of_decide_eq_false c; omega
      subst c'
      rw [Nat.gcd_zero_right] at g
      exact ⟨_, rfl, by rw [g]; exact k⟩
theorem scLInt : FnScope ["thing"] ["thing"] (defScope sLInt) := ⟨rfl, rfl, rfl, by decide +kernel, rfl, by decide +kernel, by decide +kernel⟩
theorem ok_lint {f : Addr} {fd : FuncData} (F : Fun K "_law_is_integer" "_law_is_integer" sLInt f fd) (T : Bt mg) : FnOk P w K mg base CX0 1 f fd ["thing"] spInt := by
  refine F.ok scLInt (fun vs H Q E h => ?_) (fun cdv A outer s H vs Q E hr h => ?_)
  · obtain ⟨v, d, rfl, _⟩ := h
    rfl
  · obtain ⟨v, d, rfl, hd, k⟩ := h
    refine ⟨_, pss_one (ps_ret (pe_and (pe_callB call_isi (by rfl) T.isi (by decide +kernel) (pa_cons (pv 0) (pa_cons (pe_bltn (v := .ty "int") (by rfl) T.int (by decide +kernel) rfl) pa_nil)))
      (pe_one (pe_not (pe_callB call_isi (by rfl) T.isi (by decide +kernel) (pa_cons (pv 0) (pa_cons (pe_bltn (v := .ty "bool") (by rfl) T.bool (by decide +kernel) rfl) pa_nil))))))), ?_⟩
    refine ⟨_, rfl, v, .ty "int", _, _, _, rfl, .ty _, dn_ty hd, kit_ty (kit_i d), _, rfl, ite_b (fun e => ?_) (fun e => ?_)⟩
    · refine ⟨_, rfl, v, .ty "bool", _, _, _, rfl, .ty _, dn_ty hd, kit_ty (kit_b d), _, rfl, ?_⟩
      have : (!isB d) = isI d := by cases d <;> first | rfl | cases e
      rw [this]; exact k
    · have : isI d = false := by cases d <;> first | rfl | cases e
      rw [this] at k; exact k
theorem scLean : FnScope ["number", "left", "p"] ["number"] (defScope sLean) := ⟨rfl, rfl, rfl, by decide +kernel, rfl, by decide +kernel, by decide +kernel⟩
theorem ok_lean {f : Addr} {fd : FuncData} (F : Fun K "_law_lean" "_law_lean" sLean f fd) (T : Bt mg) : FnOk P w K mg base CX0 1 f fd ["number"] spLean := by
  refine F.ok scLean (fun vs H Q E h => ?_) (fun cdv A outer s H vs Q E hr h => ?_)
  · obtain ⟨n, rfl, _⟩ := h
    rfl
  · obtain ⟨n, rfl, n1, n2, k⟩ := h
    refine ⟨_, pss_cons (ps_par (i := 1) (j := 2) rfl scLean.nd rfl rfl (by decide) rfl rfl (pa_cons (pv 0) (pa_cons pe_int pa_nil)) (by rfl))
      (pss_cons (ps_while PassesOwn.never (pt_cmpR op_le (pe_op op_mul (pv 2) (pv 2)) (pe_callB call_abs (by rfl) T.abs (by decide +kernel) (pa_cons (pv 1) pa_nil)) (nomark _))
        (pss_cons (ps_while PassesOwn.never (pt_cmpR op_eq (pe_op op_mod (pe_callTy call_int1 (by rfl) T.int (by decide +kernel) (pa_cons (pv 1) pa_nil)) (pe_op op_mul (pv 2) (pv 2))) pe_int (nomark _))
          (pss_one (ps_set (i := 1) scLean.nd rfl (Or.inl rfl) (pe_op op_fdivW (pv 1) (pe_op op_mul (pv 2) (pv 2))))))
        (pss_one (ps_set (i := 2) scLean.nd rfl (Or.inl rfl) (pe_op op_add (pv 2) pe_int)))))
      (pss_one (ps_ret (pv 1)))), ?_⟩
    refine ⟨_, rfl, _, _, rfl, ?_⟩
    refine ⟨fun m σ H' => ∃ t p : Nat, σ = [some (.int (n : Int)), some (.int (t : Int)), some (.int (p : Int))] ∧ H' = H ∧ 1 ≤ t ∧ t ≤ n ∧ 2 ≤ p ∧ p ≤ n + 2 ∧ m = n + 3 - p, ⟨_, n, 2, rfl, rfl, n1, Nat.le_refl _, Nat.le_refl _, by omega, rfl⟩, ?_⟩
    rintro m σ H1 ⟨t, p, rfl, rfl, t1, tn, p2, pn, rfl⟩
    have cm : ∀ x : Int, CMul x (p : Int) := fun x => .inr ⟨by omega, by omega⟩
    refine ⟨_, rfl, _, rfl, _, _, rfl, rfl, cm _, _, rfl, _, rfl, _, _, rfl, rfl, _, rfl, ite_b (fun c => ?_) (fun c => ?_)⟩
    · rw [abs_nat] at c
      have c' : p * p ≤ t := by have := of_decide_eq_true c; exact_mod_cast this
      have pp : p ≤ t := Nat.le_trans (Nat.le_mul_self p) c'
      have posN : 4 ≤ p * p := Nat.mul_le_mul p2 p2
      have pos : (0 : Int) < (p : Int) * (p : Int) := by
        have : 0 < p * p := by omega
        exact_mod_cast this
      refine ⟨fun σ' H' => ∃ t' : Nat, σ' = [some (.int (n : Int)), some (.int (t' : Int)), some (.int ((p + 1 : Nat) : Int))] ∧ H' = H1 ∧ 1 ≤ t' ∧ t' ≤ n,
        fun σ' H' ⟨t', e1, e2, e3, e4⟩ => ⟨n + 3 - (p + 1), by omega, t', p + 1, e1, e2, e3, e4, by omega, by omega, rfl⟩, ?_⟩
      refine ⟨fun m σ H' => ∃ t' : Nat, σ = [some (.int (n : Int)), some (.int (t' : Int)), some (.int (p : Int))] ∧ H' = H1 ∧ 1 ≤ t' ∧ t' ≤ n ∧ m = t', ⟨_, t, rfl, rfl, t1, tn, rfl⟩, ?_⟩
      rintro m σ H2 ⟨t', rfl, rfl, u1, un, rfl⟩
      refine ⟨_, rfl, .inl ⟨_, rfl, _, rfl, _, rfl, _, _, rfl, rfl, cm _, _, _, rfl, rfl, pos, rfl, _, rfl, ite_b (fun c2 => ?_) (fun c2 => ?_)⟩⟩
      · have c2' : m % (p * p) = 0 := by have := V.int.inj (of_decide_eq_true c2); exact_mod_cast this
        obtain ⟨q, eq⟩ := Nat.dvd_of_mod_eq_zero c2'
        have dq : m / (p * p) = q := by rw [eq, Nat.mul_div_cancel_left _ (by omega)]
        have q1 : 1 ≤ q := by
          rcases Nat.eq_zero_or_pos q with z | z
          · rw [z] at eq; omega
          · exact z
        have lt : m / (p * p) < m := Nat.div_lt_self (by omega) (by omega)
        refine ⟨fun σ' H' => σ' = [some (.int (n : Int)), some (.int ((m / (p * p) : Nat) : Int)), some (.int (p : Int))] ∧ H' = H2, fun σ' H' ⟨e1, e2⟩ => ⟨_, lt, _, e1, e2, by omega, by omega, rfl⟩, ?_⟩
        refine ⟨_, rfl, _, rfl, _, rfl, _, _, rfl, rfl, cm _, _, _, rfl, rfl, ⟨pos, ?_⟩, by push_cast; rfl, rfl⟩
        have : ((p : Int) * (p : Int)).natAbs = p * p := by rw [← Int.natCast_mul]; rfl
        rw [this]
        exact small_log (by omega)
      · refine ⟨_, rfl, _, _, rfl, rfl, ?_⟩
        exact ⟨m, by push_cast; rfl, rfl, u1, un⟩
    · exact ⟨_, rfl, k t t1 tn⟩
theorem scIsLean : FnScope ["number", "p"] ["number"] (defScope sIsLean) := ⟨rfl, rfl, rfl, by decide +kernel, rfl, by decide +kernel, by decide +kernel⟩
theorem ok_isLean {f : Addr} {fd : FuncData} (F : Fun K "_law_is_lean" "_law_is_lean" sIsLean f fd) (T : Bt mg) : FnOk P w K mg base CX0 1 f fd ["number"] spIsLean := by
  refine F.ok scIsLean (fun vs H Q E h => ?_) (fun cdv A outer s H vs Q E hr h => ?_)
  · obtain ⟨a, rfl, _⟩ := h
    rfl
  · obtain ⟨a, rfl, k⟩ := h
    refine ⟨_, pss_cons (ps_set (i := 1) scIsLean.nd rfl (Or.inl rfl) pe_int)
      (pss_cons (ps_while PassesOwn.never (PW.pt (pw_and (pt_cmpR op_le (pe_op op_mul (pv 1) (pv 1)) (pe_callB call_abs (by rfl) T.abs (by decide +kernel) (pa_cons (pv 0) pa_nil)) (nomark _)) (pw_and1 (pt_cmpR op_lt (pv 1) pe_int (nomark _)))))
        (pss_cons (ps_if (pt_cmpR op_eq (pe_op op_mod (pe_callTy call_int1 (by rfl) T.int (by decide +kernel) (pa_cons (pv 0) pa_nil)) (pe_op op_mul (pv 1) (pv 1))) pe_int (nomark _)) (pss_one (ps_ret pe_bl)) pss_nil)
        (pss_one (ps_set (i := 1) scIsLean.nd rfl (Or.inl rfl) (pe_op op_add (pv 1) pe_int)))))
      (pss_one (ps_ret (pe_cmpR op_ne (pv 0) pe_int (nomark _))))), ?_⟩
    refine ⟨fun m σ H' => ∃ p : Nat, σ = [some (.int a), some (.int (p : Int))] ∧ H' = H ∧ 2 ≤ p ∧ p ≤ 1001 ∧ (∀ q, 2 ≤ q → q < p → ¬ q * q ∣ a.natAbs) ∧ m = 1001 - p, ⟨_, 2, rfl, rfl, by decide, by decide, fun q h1 h2 => by omega, rfl⟩, ?_⟩
    rintro m σ H1 ⟨p, rfl, rfl, p2, pn, no, rfl⟩
    have cm : ∀ x : Int, CMul x (p : Int) := fun x => .inr ⟨by omega, by omega⟩
    have out : a ≠ 0 → (¬ p * p ≤ a.natAbs ∨ p = 1001) → Lean_ a := fun a0 h => ⟨a0, fun q h1 h2 d => by
      by_cases c : q < p
      · exact no q h1 c d
      · rcases h with h | h
        · have := Nat.le_of_dvd (by omega) d
          have : p * p ≤ q * q := Nat.mul_le_mul (by omega) (by omega)
          omega
        · omega⟩
    have last : (¬ p * p ≤ a.natAbs ∨ p = 1001) → Q (.bl (!decide (V.int a = V.int 0))) H1 := fun h => by
      refine k _ ?_
      by_cases c : a = 0
      · rw [c]
        exact ⟨fun z => absurd z (by decide), fun z => absurd rfl z.1⟩
      · rw [decide_eq_false (fun z => c (V.int.inj z))]
        exact ⟨fun _ => out c h, fun _ => rfl⟩
    refine ⟨_, rfl, _, rfl, _, _, rfl, rfl, cm _, _, rfl, _, rfl, _, _, rfl, rfl, _, rfl, ite_b (fun c => ?_) (fun c => ?_)⟩
    · rw [abs_nat] at c
      have c' : p * p ≤ a.natAbs := by have := of_decide_eq_true c; exact_mod_cast this
      refine ⟨_, rfl, _, _, rfl, rfl, _, rfl, ite_b (fun c2 => ?_) (fun c2 => ?_)⟩
      · have c2' : p < 1001 := by have := of_decide_eq_true c2; omega
        refine ⟨fun σ' H' => σ' = [some (.int a), some (.int ((p + 1 : Nat) : Int))] ∧ H' = H1 ∧ ¬ p * p ∣ a.natAbs, fun σ' H' ⟨e1, e2, e3⟩ => ⟨1001 - (p + 1), by omega, p + 1, e1, e2, by omega, by omega, fun q h1 h2 d => ?_, rfl⟩, ?_⟩
        · by_cases cq : q = p
          · exact e3 (cq ▸ d)
          · exact no q h1 (by omega) d
        have pos : (0 : Int) < (p : Int) * (p : Int) := by
          have : 0 < p * p := Nat.mul_pos (by omega) (by omega)
          exact_mod_cast this
        have dv : (a % ((p : Int) * (p : Int)) = 0) ↔ p * p ∣ a.natAbs := by
          rw [← Int.natCast_mul]
          exact ⟨fun h => Int.ofNat_dvd_left.mp (Int.dvd_of_emod_eq_zero h), fun h => Int.emod_eq_zero_of_dvd (Int.ofNat_dvd_left.mpr h)⟩
        refine ⟨_, rfl, .inl ⟨_, rfl, _, rfl, _, rfl, _, _, rfl, rfl, cm _, _, _, rfl, rfl, pos, rfl, _, rfl, ite_b (fun c3 => ?_) (fun c3 => ?_)⟩⟩
        · have c3' := dv.mp (V.int.inj (of_decide_eq_true c3))
          exact k false ⟨fun z => (by cases z), fun h => absurd c3' (h.2 p p2 (by omega))⟩
        · have c3' : ¬ p * p ∣ a.natAbs := fun z => of_decide_eq_false c3 (congrArg V.int (dv.mpr z))
          refine ⟨_, rfl, _, _, rfl, rfl, ?_⟩
          exact ⟨by push_cast; rfl, rfl, c3'⟩
      · have c2' : p = 1001 := by have := of_decide_eq_false c2; omega
        exact ⟨_, rfl, rfl, last (.inr c2')⟩
    · rw [abs_nat] at c
      have c' : ¬ p * p ≤ a.natAbs := fun z => of_decide_eq_false c (by exact_mod_cast z)
      exact ⟨_, rfl, rfl, last (.inl c')⟩
end
end N3

namespace N3
open PySem PySem.Spec PyProof.Rows L2
/-- what is there but for the deck -/
def off (dk l : Addr) (H : Hp) : Hp := fun b => if b = dk ∨ b = l then none else H b
theorem off_at {dk l b : Addr} {H : Hp} {o : HO} (h1 : b ≠ dk) (h2 : b ≠ l) (e : H b = some o) : off dk l H b = some o := by
  unfold off
  rw [if_neg (fun z => z.elim h1 h2)]; exact e
theorem of_off {dk l b : Addr} {H : Hp} {o : HO} (e : off dk l H b = some o) : b ≠ dk ∧ b ≠ l ∧ H b = some o := by
  unfold off at e
  by_cases c : b = dk ∨ b = l
  · rw [if_pos c] at e; cases e
  · rw [if_neg c] at e
    exact ⟨fun z => c (.inl z), fun z => c (.inr z), e⟩
theorem off_in {dk l : Addr} {H : Hp} : Same (off dk l H) H := fun _ _ e => (of_off e).2.2
theorem off_keep {dk l : Addr} {H H' : Hp} (k : Keep dk l H H') : Same (off dk l H) (off dk l H') := fun b o e => by
  obtain ⟨h1, h2, e⟩ := of_off e
  exact off_at h1 h2 (k b o e h1 h2)
theorem off_same {dk l : Addr} {H H' : Hp} (s : Same H H') : Same (off dk l H) (off dk l H') := off_keep (Keep.of s)
theorem off_new {dk l : Addr} {H H' : Hp} (D : Deck H dk l) : Same (new H H') (off dk l H') := fun b o e => by
  obtain ⟨h, e⟩ := of_new e
  exact off_at (fun z => D.some1.1 (z ▸ h)) (fun z => D.some1.2 (z ▸ h)) e
theorem off_free {dk l b : Addr} {H H' : Hp} {o : HO} (D : Deck H dk l) (h : H b = none) (e : H' b = some o) : off dk l H' b = some o :=
  off_at (fun z => D.some1.1 (z ▸ h)) (fun z => D.some1.2 (z ▸ h)) e
theorem Dn.off {dk l : Addr} {H : Hp} {v : V} {d : PyData} (h : Dn (off dk l H) v d) : Dn H v d := Dn.mono off_in d v h
/-- a def that may show data, as callers know it -/
structure KnG (P : Program) (w : World) (K : PySem.W.Frag) (mg : Str → Option Value) (base : Heap) (k : Nat) (x : Str) (ps : List Str) (sp : Sp) (f : Addr) (fd : FuncData) : Prop where
  ok : FnG P w K mg base k f fd ps sp
  mg : mg x = some (.ref f)
  kp : PySem.W.keepIn K (.ref f) = true
  bd : Binds K fd ps []
end N3

namespace N3
open PySem PySem.Spec PyProof.Rows L2 N2
/-- the law's triples and numbers -/
def TL (d : PyData) : Prop := ∃ a b c : Int, d = .tuple [.int a, .int b, .int c] ∧ b ≠ 0 ∧ 0 < c ∧ Nat.gcd b.natAbs c.natAbs = 1 ∧ Lean_ a
def NL (d : PyData) : Prop := ∃ ds, d = .tuple ds ∧ (∀ x ∈ ds, TL x) ∧ Asc ds
def spLTriple : Sp := fun vs H Q _ => ∃ (v : V) (d : PyData), vs = [v] ∧ Dn H v d ∧ ∀ (b : Bool) (H' : Hp), (b = true ↔ TL d) → Same H H' → Q (.bl b) H'
def spLNumber : Sp := fun vs H Q _ => ∃ (v : V) (d : PyData), vs = [v] ∧ Dn H v d ∧ Short d ∧ ∀ (b : Bool) (H' : Hp), (b = true ↔ NL d) → Same H H' → Q (.bl b) H'
def ones (k : Nat) : List Int := List.replicate k 1
theorem ones_succ (k : Nat) : (ones k).map V.int ++ [V.int 1] = (ones (k + 1)).map V.int := by
  unfold ones
  rw [List.replicate_succ', List.map_append]; rfl
theorem ones_len (k : Nat) : ((ones k).map V.int).length = k := by simp [ones]
theorem ones_nil (k : Nat) : ((ones k).map PyData.int).isEmpty = decide (k = 0) := by
  cases k <;> simp [ones]
/-- one more turn of a filter that keeps what is wrong -/
theorem none_step {k k' i : Nat} {p : Nat → Prop} (h : k = 0 ↔ ∀ j, j < i → p j) (hk : k' = 0 ↔ k = 0 ∧ p i) : k' = 0 ↔ ∀ j, j < i + 1 → p j := by
  rw [hk, h]
  constructor
  · rintro ⟨h1, h2⟩ j hj
    by_cases c : j = i
    · rw [c]; exact h2
    · exact h1 j (by omega)
  · intro h1
    exact ⟨fun j hj => h1 j (by omega), h1 i (by omega)⟩
theorem tl_shape {H : Hp} {v : V} {d : PyData} (h : Dn H v d) (t : TL d) : ∃ (p : Addr) (a b c : Int), v = .ref p ∧ d = .tuple [.int a, .int b, .int c] ∧ H p = some (.tup [.int a, .int b, .int c]) := by
  obtain ⟨a, b, c, rfl, _⟩ := t
  cases h with
  | tup e r => exact ⟨_, a, b, c, rfl, rfl, by rw [e, dn3 r]⟩
section
variable {P : Program} {w : World} {K : PySem.W.Frag} {mg : Str → Option Value} {base : Heap}
theorem scLTriple : FnScope ["thing", "x"] ["thing"] (defScope sLTriple) := ⟨rfl, rfl, rfl, by decide +kernel, rfl, by decide +kernel, by decide +kernel⟩
theorem ok_ltriple {f f1 f2 f3 : Addr} {fd d1 d2 d3 : FuncData} (F : Fun K "_law_is_triple" "_law_is_triple" sLTriple f fd) (T : Bt mg) (A1 : Kn P w K mg base 1 "_law_is_integer" ["thing"] spInt f1 d1) (A2 : Kn P w K mg base 1 "_law_common" ["one", "other"] spCommon f2 d2)
    (A3 : Kn P w K mg base 1 "_law_is_lean" ["number"] spIsLean f3 d3) : FnOk P w K mg base CX0 2 f fd ["thing"] spLTriple := by
  refine F.ok scLTriple (fun vs H Q E h => ?_) (fun cdv A outer s H vs Q E hr h => ?_)
  · obtain ⟨v, d, rfl, _⟩ := h
    rfl
  · obtain ⟨v, d, rfl, hd, k⟩ := h
    refine ⟨_, pss_cons (ps_if (PW.pt (pw_or (pt_not (pt_val (pe_callB call_isi (by rfl) T.isi (by decide +kernel) (pa_cons (pv 0) (pa_cons (pe_bltn (v := .ty "tuple") (by rfl) T.tuple (by decide +kernel) rfl) pa_nil)))))
        (pw_or (pt_cmpR op_ne (pe_callB call_len (by rfl) T.len PySem.boot_len (pa_cons (pv 0) pa_nil)) pe_int (nomark _))
        (pw_or1 (pt_cmpR (op_neD hr.units) (pe_lc (own := [("x", 1)]) (g := gName 1) (tt := _) rfl scLTriple.nd (pi_tup (pv 0)) (blkOk_by (own := [("x", 1)]) (N := ["thing", "x"]) (sc := defScope sLTriple) (by decide +kernel)) (fun _ _ _ _ _ => pg_name (i := 1) scLTriple.nd rfl (Or.inl rfl))
          (fun _ _ _ _ _ => pts_one (pt_not (pt_val (pe_call A1.ok hr rfl A1.mg A1.kp A1.bd .nil pass0 (pa_cons (pv 1) pa_nil))))) (fun _ _ _ _ _ => pe_int)) (pe_lst pa_nil) (nomark _)))))) (pss_one (ps_ret pe_bl)) pss_nil)
      (pss_one (ps_ret (pe_and (pe_cmpR op_ne (pe_ix (r := rIx K) ix_seq (pv 0) pe_int (fun _ _ => rfl)) pe_int (nomark _)) (pe_and (pe_cmpR op_gt (pe_ix (r := rIx K) ix_seq (pv 0) pe_int (fun _ _ => rfl)) pe_int (nomark _))
        (pe_and (pe_cmpR op_eq (pe_call A2.ok hr rfl A2.mg A2.kp A2.bd .nil pass0 (pa_cons (pe_ix (r := rIx K) ix_seq (pv 0) pe_int (fun _ _ => rfl)) (pa_cons (pe_ix (r := rIx K) ix_seq (pv 0) pe_int (fun _ _ => rfl)) pa_nil))) pe_int (nomark _))
        (pe_one (pe_call A3.ok hr rfl A3.mg A3.kp A3.bd .nil pass0 (pa_cons (pe_ix (r := rIx K) ix_seq (pv 0) pe_int (fun _ _ => rfl)) pa_nil)))))))), ?_⟩
    refine ⟨_, rfl, v, .ty "tuple", _, _, _, rfl, .ty _, dn_ty hd, kit_ty (kit_t d), _, rfl, ?_⟩
    cases et : isTp d with
    | false =>
      refine iteT ?_
      refine iteT ?_
      exact k false H ⟨fun z => (by cases z), fun ⟨a, b, c, e, _⟩ => by rw [e] at et; cases et⟩ (Same.refl _)
    | true =>
      refine iteF ?_
      obtain ⟨a, xs, ds, rfl, rfl, ea, ra⟩ := dn_tup hd et
      refine ⟨_, rfl, .ref a, xs.length, rfl, .inr ⟨xs, SqT.of ea, rfl⟩, rfl, _, rfl, ?_⟩
      have ll : decide (V.int (xs.length : Int) = V.int 3) = decide (ds.length = 3) := by
        rw [← ra.length]
        exact decide_eq_decide.mpr ⟨fun h => by have := V.int.inj h; omega, fun h => by rw [h]; rfl⟩
      rw [ll]
      cases e3 : decide (ds.length = 3) with
      | false =>
        refine iteT ?_
        refine iteT ?_
        exact k false H ⟨fun z => (by cases z), fun ⟨a, b, c, e, _⟩ => by cases e; cases e3⟩ (Same.refl _)
      | true =>
        refine iteF ?_
        have l3 : ds.length = 3 := of_decide_eq_true e3
        refine ⟨_, rfl, a, rfl, ⟨_, SqT.of ea⟩, fun D hD => lc_tup (K := K) (a := a) (xs := xs) (fun i H' => ∃ k, H' D = some (.lst ((ones k).map V.int)) ∧ k ≤ i ∧ (k = 0 ↔ ∀ j, j < i → ∀ d, ds[j]? = some d → isI d = true) ∧ Same H H')
          ⟨0, upd_same, Nat.le_refl _, by simp, snew hD⟩ (fun i H' _ ⟨_, _, _, _, s'⟩ => SqT.of (s' _ _ ea)) ?_ ?_⟩
        · rintro i x H' hx ⟨n, e1, e2, e3, s'⟩
          obtain ⟨d, ed, dn⟩ := ra.at_ hx
          have il : i < ds.length := (List.getElem?_eq_some_iff.mp ed).1
          refine ⟨rfl, ?_⟩
          refine ⟨_, rfl, x, d, rfl, Dn.mono s' d x dn, _, rfl, ?_⟩
          cases ei : isI d with
          | true =>
            refine iteF ?_
            refine ⟨n, e1, by omega, none_step (p := fun j => ∀ d, ds[j]? = some d → isI d = true) e3 ⟨fun z => ⟨z, fun d' e' => by rw [ed] at e'; cases e'; exact ei⟩, fun z => z.1⟩, s'⟩
          | false =>
            refine iteT ?_
            refine ⟨_, e1, by rw [ones_len]; exact small1000 (by omega), n + 1, by rw [ones_succ, upd_same], by omega, none_step (p := fun j => ∀ d, ds[j]? = some d → isI d = true) e3 ⟨fun z => by omega, fun z => ?_⟩, fun c o e => ?_⟩
            · have := z.2 d ed; rw [ei] at this; cases this
            · rw [upd_ne (ne_of_none e hD)]; exact s' _ _ e
        · rintro H1 ⟨n, e1, e2, e4, s1⟩
          refine ⟨Nat.zero_le _, fun p hp => ⟨.list ((ones n).map PyData.int), .list [], .lst (SqL.of (snew hp _ _ e1)) (ints_dp _), .lst (SqL.of upd_same) .nil, ints_shaped _, nil_shaped, _, rfl, ?_⟩⟩
          rw [eqv_nil, ones_nil]
          have s2 := s1.trans (snew (o := .lst []) hp)
          rw [ra.length] at e4
          cases en : decide (n = 0) with
          | false =>
            refine iteT ?_
            refine k false _ ⟨fun z => (by cases z), fun ⟨a', b', c', e, _⟩ => ?_⟩ s2
            cases e
            refine absurd (e4.mpr fun j _ d ed => ?_) (of_decide_eq_false en)
            have := List.mem_of_getElem? ed
            simp only [List.mem_cons, List.not_mem_nil, or_false] at this
            rcases this with rfl | rfl | rfl <;> rfl
          | true =>
            refine iteF ?_
            have al : ds.all isI = true := List.all_eq_true.mpr fun x hx => by
              obtain ⟨j, hj, ej⟩ := List.mem_iff_getElem.mp hx
              exact e4.mp (of_decide_eq_true en) j hj x (by rw [List.getElem?_eq_getElem hj, ej])
            obtain ⟨a', b', c', rfl⟩ := three_ints l3 al
            obtain rfl := dn3 ra
            have ea2 := s2 _ _ ea
            obtain ⟨H2, eH⟩ : ∃ H2, upd H1 p (.lst []) = H2 := ⟨_, rfl⟩
            rw [eH] at ea2 s2
            show tNext _ _ (upd H1 p (.lst []))
            rw [eH]
            refine ⟨_, rfl, .inr (.inl ⟨a, _, _, _, rfl, rfl, SqT.of ea2, rfl, rfl, _, rfl, ite_b (fun q1 => ?_) (fun q1 => ?_)⟩)⟩
            · have q1' : b' ≠ 0 := fun z => by rw [z] at q1; exact absurd q1 (by decide)
              refine ⟨_, rfl, .inr (.inl ⟨a, _, _, _, rfl, rfl, SqT.of ea2, rfl, _, _, rfl, rfl, _, rfl, ite_b (fun q2 => ?_) (fun q2 => ?_)⟩)⟩
              · have q2' : 0 < c' := of_decide_eq_true q2
                refine ⟨_, rfl, .inr (.inl ⟨a, _, _, _, rfl, rfl, SqT.of ea2, rfl, _, rfl, .inr (.inl ⟨a, _, _, _, rfl, rfl, SqT.of ea2, rfl, b', c', rfl, rfl, _, rfl, ite_b (fun q3 => ?_) (fun q3 => ?_)⟩)⟩)⟩
                · have q3' : Nat.gcd b'.natAbs c'.natAbs = 1 := by have := V.int.inj (of_decide_eq_true q3); omega
                  refine ⟨_, rfl, .inr (.inl ⟨a, _, _, _, rfl, rfl, SqT.of ea2, rfl, a', rfl, fun b hb => k b H2 ?_ s2⟩)⟩
                  rw [hb]
                  exact ⟨fun h => ⟨a', b', c', rfl, q1', q2', q3', h⟩, fun ⟨a2, b2, c2, e, _, _, _, h⟩ => by cases e; exact h⟩
                · refine k false H2 ⟨fun z => (by cases z), fun ⟨a2, b2, c2, e, _, _, h, _⟩ => ?_⟩ s2
                  cases e
                  exact (of_decide_eq_false q3 (congrArg V.int (by rw [h]; rfl))).elim
              · refine k false H2 ⟨fun z => (by cases z), fun ⟨a2, b2, c2, e, _, h, _⟩ => ?_⟩ s2
                cases e
                exact (of_decide_eq_false q2 h).elim
            · refine k false H2 ⟨fun z => (by cases z), fun ⟨a2, b2, c2, e, h, _⟩ => ?_⟩ s2
              cases e
              rw [decide_eq_false (fun z => h (V.int.inj z))] at q1
              cases q1
end
end N3

namespace N3
open PySem PySem.Spec PyProof.Rows L2 N2
theorem cut1 (xs : List V) (h : xs ≠ []) : cutV xs (some 1) none = xs.drop 1 := by
  unfold cutV
  have hl : 1 ≤ xs.length := List.length_pos_iff.mpr h
  have e1 : HT.sIx xs.length 0 (some 1) = 1 := (HT.sIx_nat xs.length 0 1).trans (by omega)
  have e2 : HT.sIx xs.length xs.length none = xs.length := rfl
  rw [e1, e2, List.take_of_length_le]
  rw [List.length_drop]
  omega
theorem seqT_same {K : PySem.W.Frag} {H H' : Hp} {a : Addr} {xs : List V} (s : Same H H') (h : SqT K H a xs) : SqT K H' a xs := by
  rcases h with (h | ⟨o, h⟩) | h
  · exact .inl (.inl (s _ _ h))
  · exact .inl (.inr ⟨o, s _ _ h⟩)
  · exact .inr h
section
variable {P : Program} {w : World} {K : PySem.W.Frag} {mg : Str → Option Value} {base : Heap}
theorem scLNumber : FnScope ["thing", "it", "near", "far"] ["thing"] (defScope sLNumber) := ⟨rfl, rfl, rfl, by decide +kernel, rfl, by decide +kernel, by decide +kernel⟩
theorem ok_lnumber {f f1 : Addr} {fd d1 : FuncData} (F : Fun K "_law_is_number" "_law_is_number" sLNumber f fd) (T : Bt mg) (A1 : Kn P w K mg base 2 "_law_is_triple" ["thing"] spLTriple f1 d1) : FnOk P w K mg base CX0 3 f fd ["thing"] spLNumber := by
  refine F.ok scLNumber (fun vs H Q E h => ?_) (fun cdv A outer s H vs Q E hr h => ?_)
  · obtain ⟨v, d, rfl, _⟩ := h
    rfl
  · obtain ⟨v, d, rfl, hd, sh, k⟩ := h
    refine ⟨_, pss_cons (ps_if (PW.pt (pw_or (pt_not (pt_val (pe_callB call_isi (by rfl) T.isi (by decide +kernel) (pa_cons (pv 0) (pa_cons (pe_bltn (v := .ty "tuple") (by rfl) T.tuple (by decide +kernel) rfl) pa_nil)))))
        (pw_or1 (pt_cmpR (op_neD hr.units) (pe_lc (own := [("it", 1)]) (g := gName 1) (tt := _) rfl scLNumber.nd (pi_tup (pv 0)) (blkOk_by (own := [("it", 1)]) (N := ["thing", "it", "near", "far"]) (sc := defScope sLNumber) (by decide +kernel)) (fun _ _ _ _ _ => pg_name (i := 1) scLNumber.nd rfl (Or.inl rfl))
          (fun _ _ _ _ _ => pts_one (pt_not (pt_val (pe_call A1.ok hr rfl A1.mg A1.kp A1.bd .nil pass0 (pa_cons (pv 1) pa_nil))))) (fun _ _ _ _ _ => pe_int)) (pe_lst pa_nil) (nomark _))))) (pss_one (ps_ret pe_bl)) pss_nil)
      (pss_one (ps_ret (pe_cmpR (op_eqD hr.units) (pe_lc (own := [("near", 2), ("far", 3)]) (g := gTup K 2 (gCons (gName 2) (gCons (gName 3) gNil))) (tt := _) rfl scLNumber.nd (RZ.pi_zipA (by rfl) T.zip (pa_cons (pv 0) (pa_cons (pe_slice sl_tupA (pv 0) (po_some pe_int) po_none) pa_nil)))
          (blkOk_by (own := [("near", 2), ("far", 3)]) (N := ["thing", "it", "near", "far"]) (sc := defScope sLNumber) (by decide +kernel)) (fun _ _ _ _ _ => pg_tup rfl (pgs_cons (pg_name (i := 2) scLNumber.nd rfl (Or.inl rfl)) (pgs_cons (pg_name (i := 3) scLNumber.nd rfl (Or.inl rfl)) pgs_nil)))
          (fun _ _ _ _ _ => pts_one (pt_cmpR op_ge (pe_ix (r := rIx K) ix_seq (pv 2) pe_int (fun _ _ => rfl)) (pe_ix (r := rIx K) ix_seq (pv 3) pe_int (fun _ _ => rfl)) (nomark _))) (fun _ _ _ _ _ => pe_int)) (pe_lst pa_nil) (nomark _)))), ?_⟩
    refine ⟨_, rfl, v, .ty "tuple", _, _, _, rfl, .ty _, dn_ty hd, kit_ty (kit_t d), _, rfl, ?_⟩
    cases et : isTp d with
    | false =>
      refine iteT ?_
      refine iteT ?_
      exact k false H ⟨fun z => (by cases z), fun ⟨ds, e, _⟩ => by rw [e] at et; cases et⟩ (Same.refl _)
    | true =>
      refine iteF ?_
      obtain ⟨a, xs, ds, rfl, rfl, ea, ra⟩ := dn_tup hd et
      have hl := sh ds rfl
      refine ⟨_, rfl, a, rfl, ⟨_, SqT.of ea⟩, fun D hD => lc_tup (K := K) (a := a) (xs := xs) (fun i H' => ∃ k, H' D = some (.lst ((ones k).map V.int)) ∧ k ≤ i ∧ (k = 0 ↔ ∀ j, j < i → ∀ d, ds[j]? = some d → TL d) ∧ Same H H')
        ⟨0, upd_same, Nat.le_refl _, by simp, snew hD⟩ (fun i H' _ ⟨_, _, _, _, s'⟩ => SqT.of (s' _ _ ea)) ?_ ?_⟩
      · rintro i x H' hx ⟨n, e1, e2, e3, s'⟩
        obtain ⟨d, ed, dn⟩ := ra.at_ hx
        have il : i < ds.length := (List.getElem?_eq_some_iff.mp ed).1
        refine ⟨rfl, ?_⟩
        refine ⟨_, rfl, x, d, rfl, Dn.mono s' d x dn, fun b H2 hb s2 => ⟨_, rfl, ?_⟩⟩
        cases b with
        | true =>
          refine iteF ?_
          exact ⟨n, s2 _ _ e1, by omega, none_step (p := fun j => ∀ d, ds[j]? = some d → TL d) e3 ⟨fun z => ⟨z, fun d' e' => by rw [ed] at e'; cases e'; exact hb.mp rfl⟩, fun z => z.1⟩, s'.trans s2⟩
        | false =>
          refine iteT ?_
          refine ⟨_, s2 _ _ e1, by rw [ones_len]; exact small_m (by omega), n + 1, by rw [ones_succ, upd_same], by omega, none_step (p := fun j => ∀ d, ds[j]? = some d → TL d) e3 ⟨fun z => by omega, fun z => ?_⟩, fun c o e => ?_⟩
          · have := hb.mpr (z.2 d ed); cases this
          · rw [upd_ne (ne_of_none e hD)]; exact s2 _ _ (s' _ _ e)
      · rintro H1 ⟨n, e1, e2, e4, s1⟩
        refine ⟨Nat.zero_le _, fun p hp => ⟨.list ((ones n).map PyData.int), .list [], .lst (SqL.of (snew hp _ _ e1)) (ints_dp _), .lst (SqL.of upd_same) .nil, ints_shaped _, nil_shaped, _, rfl, ?_⟩⟩
        rw [eqv_nil, ones_nil]
        have s2 := s1.trans (snew (o := .lst []) hp)
        rw [ra.length] at e4
        have e4' : n = 0 ↔ ∀ x ∈ ds, TL x := e4.trans ⟨fun h x hx => by
          obtain ⟨j, hj, ej⟩ := List.mem_iff_getElem.mp hx
          exact h j hj x (by rw [List.getElem?_eq_getElem hj, ej]), fun h j _ d ed => h d (List.mem_of_getElem? ed)⟩
        cases en : decide (n = 0) with
        | false =>
          refine iteT ?_
          refine k false _ ⟨fun z => (by cases z), fun ⟨ds', e, h, _⟩ => ?_⟩ s2
          cases e
          exact absurd (e4'.mpr h) (of_decide_eq_false en)
        | true =>
          refine iteF ?_
          have tl := e4'.mp (of_decide_eq_true en)
          have ea2 := s2 _ _ ea
          obtain ⟨H2, eH⟩ : ∃ H2, upd H1 p (.lst []) = H2 := ⟨_, rfl⟩
          rw [eH] at ea2 s2
          show tNext _ _ (upd H1 p (.lst []))
          rw [eH]
          refine ⟨_, rfl, _, rfl, _, rfl, a, xs, rfl, SqT.of ea2, fun hw => ?_, fun hw q hq0 => ?_⟩
          · have x0 : xs = [] := by
              have h1 := hw.1
              rw [show HT.sIx xs.length 0 (some 1) = min 1 xs.length from HT.sIx_nat xs.length 0 1] at h1
              exact List.length_eq_zero_iff.mp (by omega)
            obtain ⟨H3, e3⟩ : ∃ H3, H3 = H2 := ⟨_, rfl⟩
            have eaa : H2 a = some (.tup xs) := ea2
            have hq : SqT K H2 a (xs.drop 1) := by rw [x0]; rw [x0] at eaa; exact SqT.of eaa
            have s3 : Same H H3 := by rw [e3]; exact s2
            rw [← e3] at eaa hq
            rw [← e3]
            refine ⟨a, a, xs, xs.drop 1, rfl, .inr ⟨SqT.of eaa, hq, fun D2 hD2 => lc_it (walk_zipT (xs := xs) (ys := xs.drop 1) rfl) (fun i H' => ∃ k, H' D2 = some (.lst ((ones k).map V.int)) ∧ k ≤ i ∧ (k = 0 ↔ ∀ j, j < i → ∀ x y, ds[j]? = some x → ds[j + 1]? = some y → hdI x < hdI y) ∧ Same H3 H')
              ⟨0, upd_same, Nat.le_refl _, by simp, snew hD2⟩ (fun i H' _ ⟨_, _, _, _, s'⟩ => ⟨SqT.of (s' _ _ eaa), seqT_same s' hq⟩) ?_ ?_⟩⟩
            · rintro i x H' H'' hi ⟨n, f1, f2, f3, s'⟩ ⟨T', y1, y2, rfl, hT, rfl, g1, g2⟩
              have g1' : xs[i]? = some y1 := g1
              have g2' : xs[i + 1]? = some y2 := by
                have z : (xs.drop 1)[i]? = some y2 := g2
                rw [List.getElem?_drop, Nat.add_comm] at z; exact z
              obtain ⟨d1', ed1, dn1⟩ := ra.at_ g1'
              obtain ⟨d2', ed2, dn2⟩ := ra.at_ g2'
              obtain ⟨p1, a1, b1, c1, rfl, rfl, m1⟩ := tl_shape dn1 (tl _ (List.mem_of_getElem? ed1))
              obtain ⟨p2, a2, b2, c2, rfl, rfl, m2⟩ := tl_shape dn2 (tl _ (List.mem_of_getElem? ed2))
              have st := (s3.trans s').trans (snew (o := .tup [.ref p1, .ref p2]) hT)
              have il : i + 1 < ds.length := (List.getElem?_eq_some_iff.mp ed2).1
              refine ⟨T', _, rfl, SqT.of upd_same, rfl, _, _, rfl, _, _, rfl, rfl, rfl, ?_⟩
              refine ⟨_, rfl, .inr (.inl ⟨p1, _, _, _, rfl, rfl, SqT.of (st _ _ m1), rfl, _, rfl, .inr (.inl ⟨p2, _, _, _, rfl, rfl, SqT.of (st _ _ m2), rfl, _, _, rfl, rfl, _, rfl, ?_⟩)⟩)⟩
              have f1' := snew (o := .tup [.ref p1, .ref p2]) hT _ _ f1
              cases ec : decide (a2 ≤ a1) with
              | false =>
                refine iteF ?_
                have lt : a1 < a2 := by have := of_decide_eq_false ec; omega
                exact ⟨n, f1', by omega, none_step (p := fun j => ∀ x y, ds[j]? = some x → ds[j + 1]? = some y → hdI x < hdI y) f3 ⟨fun z => ⟨z, fun x y ex ey => by rw [ed1] at ex; rw [ed2] at ey; cases ex; cases ey; exact lt⟩, fun z => z.1⟩, s'.trans (snew hT)⟩
              | true =>
                refine iteT ?_
                refine ⟨_, f1', by rw [ones_len]; exact small_m (by omega), n + 1, by rw [ones_succ, upd_same], by omega, none_step (p := fun j => ∀ x y, ds[j]? = some x → ds[j + 1]? = some y → hdI x < hdI y) f3 ⟨fun z => by omega, fun z => ?_⟩, fun c o e => ?_⟩
                · have z2 : a1 < a2 := z.2 _ _ ed1 ed2
                  have := of_decide_eq_true ec
                  omega
                · rw [upd_ne (ne_of_none e hD2)]; exact snew hT _ _ (s' _ _ e)
            · rintro H4 ⟨n, f1, f2, f3, s4⟩
              refine ⟨Nat.zero_le _, fun p4 hp4 => ⟨.list ((ones n).map PyData.int), .list [], .lst (SqL.of (snew hp4 _ _ f1)) (ints_dp _), .lst (SqL.of upd_same) .nil, ints_shaped _, nil_shaped, ?_⟩⟩
              rw [eqv_nil, ones_nil]
              refine k _ _ ?_ ((s3.trans s4).trans (snew hp4))
              rw [decide_eq_true_iff, f3]
              have en2 : min xs.length (xs.drop 1).length = ds.length - 1 := by rw [List.length_drop, ra.length]; omega
              rw [en2]
              constructor
              · intro h
                refine ⟨ds, rfl, tl, fun i x y ex ey => h i ?_ x y ex ey⟩
                have := (List.getElem?_eq_some_iff.mp ey).1
                omega
              · rintro ⟨ds', e, _, h⟩ j _ x y ex ey
                cases e
                exact h j x y ex ey
          · have x0 : xs ≠ [] := fun z => hw (by rw [z]; exact ⟨rfl, rfl⟩)
            rw [cut1 xs x0]
            obtain ⟨H3, e3⟩ : ∃ H3, H3 = upd H2 q (.tup (xs.drop 1)) := ⟨_, rfl⟩
            have eaa : H3 a = some (.tup xs) := by rw [e3]; exact snew hq0 _ _ ea2
            have hq : SqT K H3 q (xs.drop 1) := by rw [e3]; exact SqT.of upd_same
            have s3 : Same H H3 := by rw [e3]; exact s2.trans (snew hq0)
            rw [← e3]
            refine ⟨a, q, xs, xs.drop 1, rfl, .inr ⟨SqT.of eaa, hq, fun D2 hD2 => lc_it (walk_zipT (xs := xs) (ys := xs.drop 1) rfl) (fun i H' => ∃ k, H' D2 = some (.lst ((ones k).map V.int)) ∧ k ≤ i ∧ (k = 0 ↔ ∀ j, j < i → ∀ x y, ds[j]? = some x → ds[j + 1]? = some y → hdI x < hdI y) ∧ Same H3 H')
              ⟨0, upd_same, Nat.le_refl _, by simp, snew hD2⟩ (fun i H' _ ⟨_, _, _, _, s'⟩ => ⟨SqT.of (s' _ _ eaa), seqT_same s' hq⟩) ?_ ?_⟩⟩
            · rintro i x H' H'' hi ⟨n, f1, f2, f3, s'⟩ ⟨T', y1, y2, rfl, hT, rfl, g1, g2⟩
              have g1' : xs[i]? = some y1 := g1
              have g2' : xs[i + 1]? = some y2 := by
                have z : (xs.drop 1)[i]? = some y2 := g2
                rw [List.getElem?_drop, Nat.add_comm] at z; exact z
              obtain ⟨d1', ed1, dn1⟩ := ra.at_ g1'
              obtain ⟨d2', ed2, dn2⟩ := ra.at_ g2'
              obtain ⟨p1, a1, b1, c1, rfl, rfl, m1⟩ := tl_shape dn1 (tl _ (List.mem_of_getElem? ed1))
              obtain ⟨p2, a2, b2, c2, rfl, rfl, m2⟩ := tl_shape dn2 (tl _ (List.mem_of_getElem? ed2))
              have st := (s3.trans s').trans (snew (o := .tup [.ref p1, .ref p2]) hT)
              have il : i + 1 < ds.length := (List.getElem?_eq_some_iff.mp ed2).1
              refine ⟨T', _, rfl, SqT.of upd_same, rfl, _, _, rfl, _, _, rfl, rfl, rfl, ?_⟩
              refine ⟨_, rfl, .inr (.inl ⟨p1, _, _, _, rfl, rfl, SqT.of (st _ _ m1), rfl, _, rfl, .inr (.inl ⟨p2, _, _, _, rfl, rfl, SqT.of (st _ _ m2), rfl, _, _, rfl, rfl, _, rfl, ?_⟩)⟩)⟩
              have f1' := snew (o := .tup [.ref p1, .ref p2]) hT _ _ f1
              cases ec : decide (a2 ≤ a1) with
              | false =>
                refine iteF ?_
                have lt : a1 < a2 := by have := of_decide_eq_false ec; omega
                exact ⟨n, f1', by omega, none_step (p := fun j => ∀ x y, ds[j]? = some x → ds[j + 1]? = some y → hdI x < hdI y) f3 ⟨fun z => ⟨z, fun x y ex ey => by rw [ed1] at ex; rw [ed2] at ey; cases ex; cases ey; exact lt⟩, fun z => z.1⟩, s'.trans (snew hT)⟩
              | true =>
                refine iteT ?_
                refine ⟨_, f1', by rw [ones_len]; exact small_m (by omega), n + 1, by rw [ones_succ, upd_same], by omega, none_step (p := fun j => ∀ x y, ds[j]? = some x → ds[j + 1]? = some y → hdI x < hdI y) f3 ⟨fun z => by omega, fun z => ?_⟩, fun c o e => ?_⟩
                · have z2 : a1 < a2 := z.2 _ _ ed1 ed2
                  have := of_decide_eq_true ec
                  omega
                · rw [upd_ne (ne_of_none e hD2)]; exact snew hT _ _ (s' _ _ e)
            · rintro H4 ⟨n, f1, f2, f3, s4⟩
              refine ⟨Nat.zero_le _, fun p4 hp4 => ⟨.list ((ones n).map PyData.int), .list [], .lst (SqL.of (snew hp4 _ _ f1)) (ints_dp _), .lst (SqL.of upd_same) .nil, ints_shaped _, nil_shaped, ?_⟩⟩
              rw [eqv_nil, ones_nil]
              refine k _ _ ?_ ((s3.trans s4).trans (snew hp4))
              rw [decide_eq_true_iff, f3]
              have en2 : min xs.length (xs.drop 1).length = ds.length - 1 := by rw [List.length_drop, ra.length]; omega
              rw [en2]
              constructor
              · intro h
                refine ⟨ds, rfl, tl, fun i x y ex ey => h i ?_ x y ex ey⟩
                have := (List.getElem?_eq_some_iff.mp ey).1
                omega
              · rintro ⟨ds', e, _, h⟩ j _ x y ex ey
                cases e
                exact h j x y ex ey
end
end N3

namespace N3
open PySem PySem.Spec PyProof.Rows L2
def akv (x y : V) : List (Key × V) := [(Sum.inr "key", x), (Sum.inl 1, y)]
theorem akv_merge (x y : V) : mergeK [] (akv x y) = akv x y := by simp [mergeK, putK, akv]
theorem akv_nd (x y : V) : ((akv x y).map (·.1)).Nodup := by simp [akv]
def big : Nat → Nat
  | 0 => 4000
  | n + 1 => 3 * big n + 4008
def lo : Nat → Nat
  | 0 => 0
  | n + 1 => big n
theorem lo_big (n : Nat) : 3 * lo n + 4000 ≤ big n := by
  cases n with
  | zero => show 3 * 0 + 4000 ≤ 4000; omega
  | succ n => show 3 * big n + 4000 ≤ 3 * big n + 4008; omega
def spAny (n : Nat) : Sp := fun vs H Q _ => ∃ (dk l : Addr), vs = [.ref dk, .int (n : Int)] ∧ Deck H dk l ∧
  ∀ (v : V) (H' : Hp), NiceD (new H H') (big n) (2 * n + 2) v → Deck H' dk l → Keep dk l H H' → Q v H'
def spPrev : Nat → Sp
  | 0 => fun _ _ _ _ => False
  | n + 1 => spAny n
theorem fn_false {P : Program} {w : World} {K : PySem.W.Frag} {mg : Str → Option Value} {base : Heap} {CX : CXT} {k : Nat} {f : Addr} {fd : FuncData} {ps : List Str} : FnOk P w K mg base CX k f fd ps (fun _ _ _ _ => False) :=
  ⟨fun _ _ _ _ h => h.elim, fun _ _ _ _ _ _ _ _ _ _ _ _ _ h => h.elim⟩
theorem big_4 (n : Nat) : 4000 ≤ big n := by
  cases n with
  | zero => exact Nat.le_refl _
  | succ n => show 4000 ≤ 3 * big n + 4008; omega
theorem nice_ints (H : Hp) (n : Nat) : ∀ x ∈ ([.int 0, .int 1, .int (-1), .int 7, .int (4 * 10 ^ (38 : Int).toNat), .int (-10 ^ (20 : Int).toNat), .int 2, .int 63] : List V), NiceD H (big n) (2 * n + 2) x := by
  intro x hx
  have b4 := big_4 n
  have g : ∀ i : Int, i.natAbs.log2 < 1920 → NiceD H (big n) (2 * n + 2) (.int i) := fun i h => (nd_int h).mono (Same.refl _) (by omega) (by omega)
  simp only [List.mem_cons, List.not_mem_nil, or_false] at hx
  rcases hx with rfl | rfl | rfl | rfl | rfl | rfl | rfl | rfl <;> exact g _ (by decide +kernel)
theorem nice_strs (H : Hp) (n : Nat) : ∀ x ∈ ([.str "", .str "a", .str "(0, 1)", .str "1/2", .str "x\ny", .str "~"] : List V), NiceD H (big n) (2 * n + 2) x := by
  intro x hx
  have b4 := big_4 n
  have g : ∀ s : Str, (reprText s).length ≤ 40 → NiceD H (big n) (2 * n + 2) (.str s) := fun s h => (nd_str h).mono (Same.refl _) (by omega) (by omega)
  simp only [List.mem_cons, List.not_mem_nil, or_false] at hx
  rcases hx with rfl | rfl | rfl | rfl | rfl | rfl <;> exact g _ (by decide +kernel)
theorem nice_flags (H : Hp) (n : Nat) : ∀ x ∈ ([.bl true, .bl false, .non] : List V), NiceD H (big n) (2 * n + 2) x := by
  intro x hx
  have b4 := big_4 n
  simp only [List.mem_cons, List.not_mem_nil, or_false] at hx
  rcases hx with rfl | rfl | rfl
  · exact (nd_bl H true).mono (Same.refl _) (by omega) (by omega)
  · exact (nd_bl H false).mono (Same.refl _) (by omega) (by omega)
  · exact (nd_non H).mono (Same.refl _) (by omega) (by omega)
/-- a pick out of a list that was just written -/
theorem pick_new {K : PySem.W.Frag} {dk l p : Addr} {H1 : Hp} {xs : List V} {Q : VK} {E : XK} (D : Deck H1 dk l) (hp : H1 p = none) (ne : xs ≠ []) (hl : xs.length < 1073741824)
    (k : ∀ (x : V) (H' : Hp), x ∈ xs → Deck H' dk l → Keep dk l H1 H' → Q x H') : spPick K [.ref dk, .ref p] (upd H1 p (.lst xs)) Q E :=
  ⟨dk, l, p, xs, rfl, D.same (snew hp), SqL.of upd_same, (fun z => D.some1.1 (z ▸ hp)), (fun z => D.some1.2 (z ▸ hp)), ne, hl, fun x H' hx D' kp => k x H' hx D' ((Keep.of (snew hp)).trans kp)⟩
section
variable {P : Program} {w : World} {K : PySem.W.Frag} {mg : Str → Option Value} {base : Heap}
theorem scAny : FnScope ["deck", "deep", "way", "some", "turn"] ["deck", "deep"] (defScope sAny) := ⟨rfl, rfl, rfl, by decide +kernel, rfl, by decide +kernel, by decide +kernel⟩
theorem ok_any {n : Nat} {f fD fP : Addr} {fd fdD fdP : FuncData} (F : Fun K "_law_any" "_law_any" sAny f fd) (T : Bt mg) (D : Kn P w K mg base 1 "_law_draw" ["deck", "many"] spDraw fD fdD) (Pk : Kn P w K mg base 2 "_law_pick" ["deck", "some"] (spPick K) fP fdP)
    (R : Kn P w K mg base (n + 2) "_law_any" ["deck", "deep"] (spPrev n) f fd) : FnOk P w K mg base CX0 (n + 3) f fd ["deck", "deep"] (spAny n) := by
  refine F.ok scAny (fun vs H Q E h => ?_) (fun cdv A outer s H vs Q E hr h => ?_)
  · obtain ⟨dk, l, rfl, _⟩ := h
    rfl
  · obtain ⟨dk, l, rfl, De, k⟩ := h
    have hu := hu_of hr
    have hr1 : Room 1 _ := hr.mono (by omega)
    have hr2 : Room 2 _ := hr.mono (by omega)
    refine ⟨_, pss_cons (ps_set (i := 2) scAny.nd rfl (Or.inl rfl) (pe_call D.ok hr1 rfl D.mg D.kp D.bd .nil pass0 (pa_cons (pv 0) (pa_cons pe_int pa_nil))))
      (pss_cons (ps_if (pt_cmpR op_lt (pv 2) pe_int (nomark _)) (pss_one (ps_ret (pe_call Pk.ok hr2 rfl Pk.mg Pk.kp Pk.bd .nil pass0 (pa_cons (pv 0) (pa_cons
        (pe_lst (pa_cons pe_int (pa_cons pe_int (pa_cons (pe_un un_neg pe_int) (pa_cons pe_int (pa_cons (pe_op op_mul pe_int (pe_op op_pow pe_int pe_int)) (pa_cons (pe_un un_neg (pe_op op_pow pe_int pe_int)) (pa_cons pe_int (pa_cons pe_int pa_nil))))))))) pa_nil))))) pss_nil)
      (pss_cons (ps_if (pt_cmpR op_lt (pv 2) pe_int (nomark _)) (pss_one (ps_ret (pe_call Pk.ok hr2 rfl Pk.mg Pk.kp Pk.bd .nil pass0 (pa_cons (pv 0) (pa_cons
        (pe_lst (pa_cons pe_str (pa_cons pe_str (pa_cons pe_str (pa_cons pe_str (pa_cons pe_str (pa_cons pe_str pa_nil))))))) pa_nil))))) pss_nil)
      (pss_cons (ps_if (pt_cmpR op_eq (pv 2) pe_int (nomark _)) (pss_one (ps_ret (pe_call Pk.ok hr2 rfl Pk.mg Pk.kp Pk.bd .nil pass0 (pa_cons (pv 0) (pa_cons
        (pe_lst (pa_cons pe_bl (pa_cons pe_bl (pa_cons pe_non pa_nil)))) pa_nil))))) pss_nil)
      (C8.pss_cut (ps_set (i := 3) scAny.nd rfl (Or.inl rfl) (pe_ifExp (pt_cmpR op_gt (pv 1) pe_int (nomark _))
        (pe_lc (own := [("turn", 4)]) (g := gName 4) (tt := tYes) rfl scAny.nd (pi_range1 rfl T.range (pa_cons (pe_call D.ok hr1 rfl D.mg D.kp D.bd .nil pass0 (pa_cons (pv 0) (pa_cons pe_int pa_nil))) pa_nil))
          (blkOk_by (own := [("turn", 4)]) (N := ["deck", "deep", "way", "some", "turn"]) (sc := defScope sAny) (by decide +kernel)) (fun _ _ _ _ _ => pg_name (i := 4) scAny.nd rfl (Or.inl rfl)) (fun _ _ _ _ _ => pts_nil)
          (fun _ _ _ _ _ => pe_call R.ok hr rfl R.mg R.kp R.bd .nil pass0 (pa_cons (pv 0) (pa_cons (pe_op op_sub (pv 1) pe_int) pa_nil)))) (pe_lst pa_nil)))
      (pss_cons (ps_if (pt_cmpR op_eq (pv 2) pe_int (nomark _)) (pss_one (ps_ret (pv 3))) pss_nil)
      (pss_one (ps_ret (pe_ifExp (pt_cmpR op_eq (pv 2) pe_int (nomark _)) (pe_disp (pps_cons pe_str (pv 3) (pps_cons pe_int (pe_callB call_len_seq (by rfl) T.len PySem.boot_len (pa_cons (pv 3) pa_nil)) pps_nil)) (by rfl) (by rfl) (fun z => by cases z) (by decide))
        (pe_callTy call_tuple_of (by rfl) T.tuple (by decide +kernel) (pa_cons (pv 3) pa_nil)))))))))), ?_⟩
    refine ⟨_, rfl, dk, l, 10, rfl, De, by decide, by decide, fun way H1 w0 w1 D1 kp1 => ?_⟩
    refine ⟨_, rfl, _, _, rfl, rfl, _, rfl, ite2 (fun _ => ?_) (fun _ => ?_)⟩
    · refine ⟨_, rfl, _, rfl, _, _, rfl, rfl, ⟨by decide, by decide, by decide⟩, _, _, rfl, rfl, .inl ⟨by decide, by decide⟩, _, _, rfl, rfl, ⟨by decide, by decide, by decide⟩, _, rfl, (by show 8 ≤ sizeLine; rw [sizeLine_eq]; decide), fun p hp => ?_⟩
      exact pick_new (E := E0) D1 hp (by simp) (by show 8 < _; decide) fun x H' hx D' kp => k x H' (nice_ints _ _ x hx) D' (kp1.trans kp)
    refine ⟨_, rfl, _, _, rfl, rfl, _, rfl, ite2 (fun _ => ?_) (fun _ => ?_)⟩
    · refine ⟨_, rfl, (by show 6 ≤ sizeLine; rw [sizeLine_eq]; decide), fun p hp => ?_⟩
      exact pick_new (E := E0) D1 hp (by simp) (by show 6 < _; decide) fun x H' hx D' kp => k x H' (nice_strs _ _ x hx) D' (kp1.trans kp)
    refine ⟨_, rfl, rfl, _, rfl, ite2 (fun _ => ?_) (fun _ => ?_)⟩
    · refine ⟨_, rfl, (by show 3 ≤ sizeLine; rw [sizeLine_eq]; decide), fun p hp => ?_⟩
      exact pick_new (E := E0) D1 hp (by simp) (by show 3 < _; decide) fun x H' hx D' kp => k x H' (nice_flags _ _ x hx) D' (kp1.trans kp)
    have t0 : There H H1 := kp1.there D1
    refine ⟨fun σ' H' => ∃ (p : Addr) (ys : List V), σ' = [some (.ref dk), some (.int (n : Int)), some (.int way), some (.ref p), none] ∧ H' p = some (.lst ys) ∧ H p = none ∧ (∀ v ∈ ys, NiceD (new H H') (lo n) (2 * n) v) ∧ ys.length ≤ 3 ∧ Deck H' dk l ∧ Keep dk l H H', ?_, ?_⟩
    · refine ⟨_, rfl, _, _, rfl, rfl, _, rfl, ite2 (fun c => ?_) (fun _ => ?_)⟩
      · have c' : (0 : Int) < (n : Int) := of_decide_eq_true c
        obtain ⟨m, rfl⟩ : ∃ m, n = m + 1 := ⟨n - 1, by omega⟩
        refine ⟨_, rfl, dk, l, 4, rfl, D1, by decide, by decide, fun r H2 r0 r1 D2 kp2 => ?_⟩
        refine ⟨r, rfl, by omega, by omega, fun dd hd => ?_⟩
        have g0 : (upd H2 dd (.lst [])) dd = some (.lst []) := upd_same
        have Db : Deck (upd H2 dd (.lst [])) dk l := D2.same (snew hd)
        have tb : There H2 (upd H2 dd (.lst [])) := N3.Same.there (snew hd)
        refine lc_range (lo := 0) (n := r.toNat) (fun i H3 => ∃ acc : List V, H3 dd = some (.lst acc) ∧ acc.length = i ∧ (∀ v ∈ acc, NiceD (new (upd H2 dd (.lst [])) H3) (big m) (2 * (m + 1)) v) ∧ Deck H3 dk l ∧ Keep dk l H2 H3 ∧ There (upd H2 dd (.lst [])) H3)
          ⟨[], upd_same, rfl, fun v hv => absurd hv (by simp), Db, Keep.of (snew hd), fun b e => e⟩ ?_ ?_
        · rintro i H3 hi ⟨acc, ea, la, na, D3, kp3, t3⟩
          refine ⟨rfl, ?_⟩
          refine ⟨_, rfl, _, rfl, _, _, rfl, rfl, dk, l, ?_, D3, fun v H4 nv D4 kp4 => ?_⟩
          · show [V.ref dk, V.int (((m + 1 : Nat) : Int) - 1)] = [V.ref dk, V.int (m : Int)]
            rw [show ((m + 1 : Nat) : Int) - 1 = (m : Int) by omega]
          · have n1 : dd ≠ dk := fun z => D2.some1.1 (z ▸ hd)
            have n2 : dd ≠ l := fun z => D2.some1.2 (z ▸ hd)
            have e4 := kp4 _ _ ea n1 n2
            have s4 : (upd H2 dd (.lst [])) dd ≠ none := by rw [g0]; exact fun z => nomatch z
            refine ⟨acc, e4, small1000 (by omega), acc ++ [v], upd_same, by rw [List.length_append, la]; rfl, fun u hu => ?_, ?_, fun b o e h1 h2 => ?_, fun b e => ?_⟩
            · rcases List.mem_append.mp hu with hu | hu
              · exact (na u hu).mono ((new_on kp4 Db.some1.1 Db.some1.2).trans (new_upd s4)) (Nat.le_refl _) (Nat.le_refl _)
              · rw [List.mem_singleton.mp hu]
                exact nv.mono ((new_back t3).trans (new_upd s4)) (Nat.le_refl _) (by omega)
            · obtain ⟨ns', m', j', x1, x2, x3⟩ := D4
              exact ⟨ns', m', j', by rw [upd_ne n1.symm]; exact x1, by rw [upd_ne n2.symm]; exact x2, x3⟩
            · rw [upd_ne (ne_of_none e hd)]
              exact kp4 _ _ (kp3 _ _ e h1 h2) h1 h2
            · by_cases c : b = dd
              · rw [c, upd_same] at e; cases e
              · rw [upd_ne c] at e
                exact t3 b (kp4.there D4 b e)
        · rintro H3 ⟨acc, ea, la, na, D3, kp3, t3⟩
          have th : There H (upd H2 dd (.lst [])) := t0.trans ((kp2.there D2).trans tb)
          exact ⟨dd, acc, rfl, ea, t0 _ (kp2.there D2 _ hd), fun v hv => (na v hv).mono (new_back th) (Nat.le_refl _) (Nat.le_refl _), by omega, D3, (kp1.trans kp2).trans kp3⟩
      · refine ⟨(by show 0 ≤ sizeLine; exact Nat.zero_le _), fun p hp => ⟨p, [], rfl, upd_same, t0 p hp, fun v hv => absurd hv (by simp), by decide, D1.same (snew hp), kp1.trans (Keep.of (snew hp))⟩⟩
    · rintro σ' H' ⟨p, ys, rfl, e, hp0, hys, hl, D', kp'⟩
      have td : There H H' := kp'.there D'
      have hb := lo_big n
      have np : NiceD (new H H') (3 * lo n + 8) (2 * n + 1) (.ref p) := (nd_list (new_at hp0 e) hys).mono (Same.refl _) (by
        have : ys.length * (lo n + 2) ≤ 3 * (lo n + 2) := Nat.mul_le_mul_right _ hl
        omega) (Nat.le_refl _)
      refine ⟨_, rfl, rfl, _, rfl, ite2 (fun _ => ?_) (fun _ => ?_)⟩
      · exact ⟨_, rfl, k _ H' (np.mono (Same.refl _) (by omega) (by omega)) D' kp'⟩
      refine ⟨_, rfl, rfl, _, rfl, ite2 (fun _ => ?_) (fun _ => ?_)⟩
      · intro q hq
        have sq := snew (o := .dK []) hq
        refine ⟨_, rfl, _, rfl, p, ys, rfl, .inl (SqL.of (sq _ _ e)), ?_⟩
        refine ⟨upd_same, akv (.ref p) (.int (ys.length : Int)), rfl, (by show 2 ≤ 15; decide), ?_⟩
        rw [akv_merge, upd_upd]
        have sq2 := snew (o := .dK (akv (.ref p) (.int (ys.length : Int)))) hq
        have li : ((ys.length : Int)).natAbs.log2 < 1920 := by
          have h3 : ys.length = 0 ∨ ys.length = 1 ∨ ys.length = 2 ∨ ys.length = 3 := by omega
          rcases h3 with h | h | h | h <;> rw [h] <;> decide
        have nd := nd_dict2 (H := new H (upd H' q (.dK (akv (.ref p) (.int (ys.length : Int)))))) (k1 := Sum.inr "key") (k2 := Sum.inl 1) (new_at (td q hq) upd_same) ((okd_str (m := 40) (by decide +kernel)).mono (Nat.le_refl _) (Nat.zero_le _)) (np.mono (new_same sq2) (Nat.le_refl _) (Nat.le_refl _)) ((okd_int (by decide)).mono (Nat.le_refl _) (Nat.zero_le _)) ((nd_int li).mono (Same.refl _) (Nat.le_refl _) (Nat.zero_le _))
        exact k _ _ (nd.mono (Same.refl _) (by omega) (by omega)) (D'.same sq2) (kp'.trans (Keep.of sq2))
      · refine ⟨_, rfl, p, ys, rfl, .inl ⟨SqL.of e, fun q hq => ?_⟩⟩
        have nt := nd_tup (H := new H (upd H' q (.tup ys))) (new_at (td q hq) upd_same) (fun v hv => (hys v hv).mono (new_same (snew hq)) (Nat.le_refl _) (Nat.le_refl _))
        refine k _ _ (nt.mono (Same.refl _) ?_ (by omega)) (D'.same (snew hq)) (kp'.trans (Keep.of (snew hq)))
        have : ys.length * (lo n + 2) ≤ 3 * (lo n + 2) := Nat.mul_le_mul_right _ hl
        omega
end
end N3

namespace N3
open PySem PySem.Spec PyProof.Rows L2
theorem any_kn {P : Program} {w : World} {K : PySem.W.Frag} {mg : Str → Option Value} {base : Heap} {f fD fP : Addr} {fd fdD fdP : FuncData} (F : Fun K "_law_any" "_law_any" sAny f fd) (T : Bt mg) (D : Kn P w K mg base 1 "_law_draw" ["deck", "many"] spDraw fD fdD) (Pk : Kn P w K mg base 2 "_law_pick" ["deck", "some"] (spPick K) fP fdP)
    (hm : mg "_law_any" = some (.ref f)) (hb : Binds K fd ["deck", "deep"] []) : ∀ n, Kn P w K mg base (n + 2) "_law_any" ["deck", "deep"] (spPrev n) f fd
  | 0 => ⟨fn_false, hm, F.kp, hb⟩
  | n + 1 => ⟨ok_any F T D Pk (any_kn F T D Pk hm hb n), hm, F.kp, hb⟩
end N3

namespace N3
open PySem PySem.Spec PyProof.Rows L2
def Bd (i : Int) : Prop := i.natAbs < 10 ^ 31
def Tri (H : Hp) (x : V) : Prop := ∃ (p : Addr) (d t b : Int), x = .ref p ∧ H p = some (.tup [.int d, .int t, .int b]) ∧ Bd d ∧ Bd t ∧ Bd b
def Num (H : Hp) (r : Addr) (xs : List V) : Prop := H r = some (.tup xs) ∧ xs.length ≤ 4 ∧ ∀ x ∈ xs, Tri H x
theorem Tri.same {H H' : Hp} {x : V} (s : Same H H') (t : Tri H x) : Tri H' x := let ⟨p, d, t, b, e, h, q⟩ := t; ⟨p, d, t, b, e, s _ _ h, q⟩
theorem Tri.upd {H : Hp} {x : V} {f : Addr} {l l' : List V} (hf : H f = some (.lst l)) (t : Tri H x) : Tri (upd H f (.lst l')) x := by
  obtain ⟨p, d, t, b, e, h, q⟩ := t
  exact ⟨p, d, t, b, e, by rw [upd_ne (ne_of h hf (by intro z; cases z))]; exact h, q⟩
/-- the sums of a number: d with top and bottom -/
def Sm (H : Hp) (kvs : List (Key × V)) : Prop := ∀ p ∈ kvs, ∃ (d : Int) (q : Addr) (t b : Int), p = (Sum.inl d, .ref q) ∧ H q = some (.tup [.int t, .int b]) ∧ Bd d ∧ Bd t ∧ Bd b ∧ 1 ≤ b
theorem val_mem : ∀ {kvs : List (Key × V)} {k : Key}, k ∈ kvs.map (·.1) → ∃ v, valV kvs k = some v ∧ (k, v) ∈ kvs
  | [], k, h => by simp at h
  | p :: r, k, h => by
    by_cases c : p.1 = k
    · exact ⟨p.2, by cases p; cases c; exact valV_pos rfl, by rw [← c]; exact List.mem_cons_self⟩
    · obtain ⟨v, e, m⟩ := val_mem (kvs := r) ((List.mem_cons.mp h).elim (fun z => absurd z.symm c) id)
      exact ⟨v, by rw [valV_neg c]; exact e, List.mem_cons_of_mem _ m⟩
def spNum : Sp := fun vs H Q _ => ∃ (a : Addr) (kvs : List (Key × V)), vs = [.ref a] ∧ H a = some (.dK kvs) ∧ Sm H kvs ∧ kvs.length ≤ 4 ∧ ∀ (r : Addr) (xs : List V) (H' : Hp), Num H' r xs → Same H H' → Q (.ref r) H'
section
variable {P : Program} {w : World} {K : PySem.W.Frag} {mg : Str → Option Value} {base : Heap}
theorem scNum : FnScope ["sums", "found", "d", "top", "bottom", "part"] ["sums"] (defScope sNum) := ⟨rfl, rfl, rfl, by decide +kernel, rfl, by decide +kernel, by decide +kernel⟩
theorem ok_num {f f1 : Addr} {fd d1 : FuncData} (F : Fun K "_law_number" "_law_number" sNum f fd) (T : Bt mg) (A1 : Kn P w K mg base 1 "_law_common" ["one", "other"] spCommon f1 d1) : FnOk P w K mg base CX0 2 f fd ["sums"] spNum := by
  refine F.ok scNum (fun vs H Q E h => ?_) (fun cdv A outer s H vs Q E hr h => ?_)
  · obtain ⟨a, kvs, rfl, _⟩ := h
    rfl
  · obtain ⟨a, kvs, rfl, ha, sm, hl, k⟩ := h
    have hu := hu_of hr
    refine ⟨_, pss_cons (ps_set (i := 1) scNum.nd rfl (Or.inl rfl) (pe_lst pa_nil))
      (pss_cons (ps_for PassesOwn.never rfl (pi_list (pe_callB (call_sortedDI rfl) (by rfl) T.sorted (by decide +kernel) (pa_cons (pv 0) pa_nil))) (pg_name (i := 2) scNum.nd rfl (Or.inl rfl))
        (pss_cons (ps_asg (pe_dget hu (pv 0) (pv 2) (fun _ _ => rfl)) (pg_tup rfl (pgs_cons (pg_name (i := 3) scNum.nd rfl (Or.inl rfl)) (pgs_cons (pg_name (i := 4) scNum.nd rfl (Or.inl rfl)) pgs_nil))))
        (pss_one (ps_if (pt_cmpR op_ne (pv 3) pe_int (nomark _))
          (pss_cons (ps_set (i := 5) scNum.nd rfl (Or.inl rfl) (pe_op op_mul (pe_call A1.ok hr rfl A1.mg A1.kp A1.bd .nil pass0 (pa_cons (pv 3) (pa_cons (pv 4) pa_nil))) (pe_ifExp (pt_cmpR op_gt (pv 4) pe_int (nomark _)) pe_int (pe_un un_neg pe_int))))
          (pss_one (ps_expr (pe_bm PySem.F.plainAttrs_list PySem.F.slot_list_append PySem.F.type_list_append mt_append (pv 1) (pa_cons (pe_tup (pa_cons (pv 2) (pa_cons (pe_op op_fdivW (pv 3) (pv 5)) (pa_cons (pe_op op_fdivW (pv 4) (pv 5)) pa_nil)))) pa_nil))))) pss_nil))))
      (pss_one (ps_ret (pe_callTy call_tuple_of (by rfl) T.tuple (by decide +kernel) (pa_cons (pv 1) pa_nil))))), ?_⟩
    refine ⟨Nat.zero_le _, fun fl hf => ?_⟩
    have s0 := snew (o := .lst []) hf
    have ks : ∃ ks : List Int, kvs.map (·.1) = ks.map Sum.inl := by
      clear ha hl
      induction kvs with
      | nil => exact ⟨[], rfl⟩
      | cons p r ih =>
        obtain ⟨d, q, t, b, e, _⟩ := sm p List.mem_cons_self
        obtain ⟨ks, eks⟩ := ih fun x hx => sm x (List.mem_cons_of_mem _ hx)
        exact ⟨d :: ks, by rw [List.map_cons, List.map_cons, eks, e]⟩
    obtain ⟨ks, eks⟩ := ks
    have lk : ks.length = kvs.length := by
      have := congrArg List.length eks
      rw [List.length_map, List.length_map] at this; exact this.symm
    refine ⟨_, rfl, a, kvs, ks, rfl, .inl (s0 _ _ ha), eks, by omega, fun ys q perm _ hq => ⟨q, rfl, ⟨_, SqL.of upd_same⟩, ?_⟩⟩
    have fq : fl ≠ q := ne_of_none upd_same hq
    refine for_list (K := K) (a := q) (xs := ys.map V.int) (fun i σ H' => ∃ (acc : List V) (x2 x3 x4 x5 : Option V), σ = [some (.ref a), some (.ref fl), x2, x3, x4, x5] ∧ H' fl = some (.lst acc) ∧ acc.length ≤ i ∧ (∀ x ∈ acc, Tri H' x) ∧ Same H H' ∧ H' q = some (.lst (ys.map V.int)))
      ⟨[], _, _, _, _, rfl, by rw [upd_ne fq]; exact upd_same, Nat.le_refl _, by simp, s0.trans (snew hq), upd_same⟩ (fun i σ H' _ ⟨_, _, _, _, _, _, _, _, _, _, e⟩ => SqL.of e) ?_ ?_
    · rintro i y σ H' hy ⟨acc, x2, x3, x4, x5, rfl, e1, la, tri, s1, e2⟩
      obtain ⟨d, ed, rfl⟩ := map_get hy
      have hi : i < ys.length := (List.getElem?_eq_some_iff.mp ed).1
      have ly : ys.length = ks.length := perm.length_eq
      have dm : Sum.inl d ∈ kvs.map (·.1) := by
        rw [eks]
        exact List.mem_map.mpr ⟨d, perm.mem_iff.mp (List.mem_of_getElem? ed), rfl⟩
      obtain ⟨v, ev, mv⟩ := val_mem dm
      obtain ⟨d', p, t, b, ep, hp, bd, bt, bb, b1⟩ := sm _ mv
      cases ep
      refine ⟨_, rfl, _, rfl, a, .ref p, rfl, ?_, p, _, rfl, SqT.of (s1 _ _ hp), rfl, _, _, rfl, _, _, rfl, rfl, ?_⟩
      · have := DGet.k (H := H') (k := Sum.inl d) (s1 _ _ ha)
        rw [ev] at this; exact this
      refine ⟨_, rfl, rfl, _, rfl, ite2 (fun c => ?_) (fun c => ?_)⟩
      · have g1 : 1 ≤ Nat.gcd t.natAbs b.natAbs := Nat.gcd_pos_of_pos_right _ (by omega)
        have g2 : Nat.gcd t.natAbs b.natAbs ≤ b.natAbs := Nat.le_of_dvd (by omega) (Nat.gcd_dvd_right _ _)
        obtain ⟨g, eg⟩ : ∃ g, Nat.gcd t.natAbs b.natAbs = g := ⟨_, rfl⟩
        rw [eg] at g1 g2
        refine ⟨_, rfl, _, rfl, t, b, rfl, ?_⟩
        rw [eg]
        refine ⟨_, rfl, _, _, rfl, rfl, _, rfl, ?_⟩
        have cb : decide ((0 : Int) < b) = true := decide_eq_true (by omega)
        rw [cb]
        refine iteT ?_
        refine ⟨_, _, rfl, rfl, .inr ⟨by decide, by decide⟩, ?_⟩
        have lg : ((g : Int) * 1).natAbs.log2 < 9000 := by
          rw [Int.mul_one]
          rcases Nat.eq_zero_or_pos g with z | z
          · omega
          · have : g < 2 ^ 110 := by
              have h1 : b.natAbs < 10 ^ 31 := bb
              have h2 : (10 : Nat) ^ 31 < 2 ^ 110 := by decide
              omega
            have := (Nat.log2_lt (by omega : g ≠ 0)).mpr this
            show g.log2 < 9000
            omega
        have gp : (0 : Int) < (g : Int) * 1 := by omega
        refine ⟨_, rfl, .inl ⟨rfl, _, .inl (.inl e1)⟩, _, rfl, _, rfl, _, rfl, _, _, rfl, rfl, ⟨gp, lg⟩, _, rfl, _, rfl, _, _, rfl, rfl, ⟨gp, lg⟩, by show 3 ≤ sizeLine; rw [sizeLine_eq]; decide, fun n hn => ?_⟩
        have sn := snew (o := .tup [.int d, .int (t / ((g : Int) * 1)), .int (b / ((g : Int) * 1))]) hn
        refine ⟨fl, acc, _, rfl, rfl, sn _ _ e1, small1000 (by omega), ?_⟩
        refine ⟨acc ++ [.ref n], _, _, _, _, rfl, upd_same, by rw [List.length_append]; show _ + 1 ≤ _; omega, fun x hx => ?_, fun c o e => ?_, ?_⟩
        · rcases List.mem_append.mp hx with hx | hx
          · exact ((tri x hx).same sn).upd (sn _ _ e1)
          · rw [List.mem_singleton.mp hx]
            have nf : n ≠ fl := (ne_of_none e1 hn).symm
            refine ⟨n, d, _, _, rfl, by rw [upd_ne nf]; exact upd_same, bd, ?_, ?_⟩
            · exact Nat.lt_of_le_of_lt (Int.natAbs_ediv_le_natAbs _ _) bt
            · exact Nat.lt_of_le_of_lt (Int.natAbs_ediv_le_natAbs _ _) bb
        · rw [upd_ne (ne_of_none e hf)]
          exact sn _ _ (s1 _ _ e)
        · rw [upd_ne fq.symm]; exact sn _ _ e2
      · exact ⟨acc, _, _, _, _, rfl, e1, by omega, tri, s1, e2⟩
    · rintro σ H' ⟨acc, x2, x3, x4, x5, rfl, e1, la, tri, s1, e2⟩
      have ly : ys.length = ks.length := perm.length_eq
      rw [List.length_map] at la
      refine ⟨_, rfl, fl, acc, rfl, .inl ⟨SqL.of e1, fun r hr' => ?_⟩⟩
      exact k r acc _ ⟨upd_same, by omega, fun x hx => (tri x hx).same (snew hr')⟩ (s1.trans (snew hr'))
end
end N3

namespace N3
open PySem PySem.Spec PyProof.Rows L2 N2
def spWide : Sp := fun vs H Q _ => ∃ (dk l : Addr), vs = [.ref dk] ∧ Deck H dk l ∧ ∀ (r : Addr) (xs : List V) (H' : Hp), Num (off dk l H') r xs → Deck H' dk l → Keep dk l H H' → Q (.ref r) H'
theorem put_sm {H : Hp} {kvs : List (Key × V)} {d t b : Int} {q : Addr} (sm : Sm H kvs) (hq : H q = some (.tup [.int t, .int b])) (bd : Bd d) (bt : Bd t) (bb : Bd b) (b1 : 1 ≤ b) : Sm H (putK kvs (Sum.inl d) (.ref q)) := by
  intro p hp
  unfold putK at hp
  split at hp
  · obtain ⟨u, hu, e⟩ := List.mem_map.mp hp
    by_cases c : u.1 = Sum.inl d
    · rw [if_pos c] at e
      exact ⟨d, q, t, b, by rw [← e, c], hq, bd, bt, bb, b1⟩
    · rw [if_neg c] at e
      rw [← e]; exact sm u hu
  · rcases List.mem_append.mp hp with hp | hp
    · exact sm p hp
    · rw [List.mem_singleton.mp hp]
      exact ⟨d, q, t, b, rfl, hq, bd, bt, bb, b1⟩
theorem put_len {kvs : List (Key × V)} {k : Key} {v : V} : (putK kvs k v).length ≤ kvs.length + 1 := by
  unfold putK
  split
  · rw [List.length_map]; omega
  · rw [List.length_append]; show _ + 1 ≤ _; omega
theorem Sm.same {H H' : Hp} {kvs : List (Key × V)} (sm : Sm H kvs) (s : Same H H') : Sm H' kvs := fun p hp => let ⟨d, q, t, b, e, h, r⟩ := sm p hp; ⟨d, q, t, b, e, s _ _ h, r⟩
theorem Num.same {H H' : Hp} {r : Addr} {xs : List V} (n : Num H r xs) (s : Same H H') : Num H' r xs := ⟨s _ _ n.1, n.2.1, fun x hx => (n.2.2 x hx).same s⟩
theorem num_up {H H' : Hp} {dk l : Addr} {r : Addr} {xs : List V} (n : Num H r xs) (h : Same H (off dk l H')) : Num (off dk l H') r xs := n.same h
theorem deck_tup {H : Hp} {dk l b : Addr} {xs : List V} (D : Deck H dk l) (e : H b = some (.tup xs)) : off dk l H b = some (.tup xs) := by
  obtain ⟨ns, m, j, h1, h2, _⟩ := D
  exact off_at (ne_of e h1 (by intro z; cases z)) (ne_of e h2 (by intro z; cases z)) e
theorem num_off {H : Hp} {dk l r : Addr} {xs : List V} (D : Deck H dk l) (n : Num H r xs) : Num (off dk l H) r xs :=
  ⟨deck_tup D n.1, n.2.1, fun x hx => let ⟨p, d, t, b, e, h, q⟩ := n.2.2 x hx; ⟨p, d, t, b, e, deck_tup D h, q⟩⟩
section
variable {P : Program} {w : World} {K : PySem.W.Frag} {mg : Str → Option Value} {base : Heap}
theorem p14 : (10 : Int) ^ (14 : Int).toNat = 100000000000000 := by decide
theorem p29 : (10 : Int) ^ (29 : Int).toNat = 100000000000000000000000000000 := by decide
theorem scWide : FnScope ["deck", "sums", "turn", "d", "size", "top", "bottom"] ["deck"] (defScope sWide) := ⟨rfl, rfl, rfl, by decide +kernel, rfl, by decide +kernel, by decide +kernel⟩
theorem ok_wide {f f1 f2 f3 f4 f5 : Addr} {fd d1 d2 d3 d4 d5 : FuncData} (F : Fun K "_law_wide" "_law_wide" sWide f fd) (T : Bt mg) (Dr : Kn P w K mg base 1 "_law_draw" ["deck", "many"] spDraw f1 d1) (Pk : Kn P w K mg base 2 "_law_pick" ["deck", "some"] (spPick K) f2 d2)
    (Le : Kn P w K mg base 1 "_law_lean" ["number"] spLean f3 d3) (Gr : Kn P w K mg base 2 "_law_great" ["deck", "many"] spGreat f4 d4) (Nu : Kn P w K mg base 2 "_law_number" ["sums"] spNum f5 d5) : FnOk P w K mg base CX0 3 f fd ["deck"] spWide := by
  refine F.ok scWide (fun vs H Q E h => ?_) (fun cdv A outer s H vs Q E hr h => ?_)
  · obtain ⟨dk, l, rfl, _⟩ := h
    rfl
  · obtain ⟨dk, l, rfl, De, k⟩ := h
    have hu := hu_of hr
    have r1 : Room 1 _ := hr.mono (by decide)
    refine ⟨_, pss_cons (ps_set (i := 1) scWide.nd rfl (Or.inl rfl) pe_dnewK)
      (pss_cons (ps_for PassesOwn.never rfl (pi_range1 rfl T.range (pa_cons (pe_call Dr.ok r1 rfl Dr.mg Dr.kp Dr.bd .nil pass0 (pa_cons (pv 0) (pa_cons pe_int pa_nil))) pa_nil)) (pg_name (i := 2) scWide.nd rfl (Or.inl rfl))
        (pss_cons (ps_set (i := 3) scWide.nd rfl (Or.inl rfl) (pe_op op_mul (pe_call Le.ok r1 rfl Le.mg Le.kp Le.bd .nil pass0 (pa_cons (pe_op op_add pe_int (pe_call Dr.ok r1 rfl Dr.mg Dr.kp Dr.bd .nil pass0 (pa_cons (pv 0) (pa_cons
            (pe_call Pk.ok hr rfl Pk.mg Pk.kp Pk.bd .nil pass0 (pa_cons (pv 0) (pa_cons (pe_lst (pa_cons pe_int (pa_cons pe_int (pa_cons pe_int (pa_cons (pe_op op_pow pe_int pe_int) pa_nil))))) pa_nil))) pa_nil)))) pa_nil))
          (pe_call Pk.ok hr rfl Pk.mg Pk.kp Pk.bd .nil pass0 (pa_cons (pv 0) (pa_cons (pe_lst (pa_cons pe_int (pa_cons pe_int (pa_cons (pe_un un_neg pe_int) pa_nil)))) pa_nil)))))
        (pss_cons (ps_set (i := 4) scWide.nd rfl (Or.inl rfl) (pe_call Pk.ok hr rfl Pk.mg Pk.kp Pk.bd .nil pass0 (pa_cons (pv 0) (pa_cons (pe_lst (pa_cons pe_int (pa_cons pe_int (pa_cons pe_int (pa_cons (pe_op op_pow pe_int pe_int) (pa_cons (pe_op op_sub (pe_op op_pow pe_int pe_int) pe_int) pa_nil)))))) pa_nil))))
        (pss_cons (ps_par (i := 5) (j := 6) rfl scWide.nd rfl rfl (by decide) rfl rfl (pa_cons (pe_op op_add pe_int (pe_call Gr.ok hr rfl Gr.mg Gr.kp Gr.bd .nil pass0 (pa_cons (pv 0) (pa_cons (pv 4) pa_nil))))
          (pa_cons (pe_op op_add pe_int (pe_call Gr.ok hr rfl Gr.mg Gr.kp Gr.bd .nil pass0 (pa_cons (pv 0) (pa_cons (pe_call Pk.ok hr rfl Pk.mg Pk.kp Pk.bd .nil pass0 (pa_cons (pv 0) (pa_cons (pe_lst (pa_cons pe_int (pa_cons pe_int (pa_cons pe_int (pa_cons (pv 4) pa_nil))))) pa_nil))) pa_nil)))) pa_nil)) (by rfl))
        (pss_one (ps_dput hu (pv 1) (pv 3) (pe_tup (pa_cons (pe_op op_mul (pv 5) (pe_call Pk.ok hr rfl Pk.mg Pk.kp Pk.bd .nil pass0 (pa_cons (pv 0) (pa_cons (pe_lst (pa_cons pe_int (pa_cons (pe_un un_neg pe_int) pa_nil))) pa_nil)))) (pa_cons (pv 6) pa_nil))) rfl))))))
      (pss_one (ps_ret (pe_call Nu.ok hr rfl Nu.mg Nu.kp Nu.bd .nil pass0 (pa_cons (pv 1) pa_nil))))), ?_⟩
    have cp : ∀ j : Int, 0 ≤ j → j ≤ 1000000 → CPow 10 j := fun j h1 h2 => ⟨h1, h2, by decide⟩
    intro sd hsd
    have s0 := snew (o := .dK []) hsd
    have D0 := De.same s0
    refine ⟨_, rfl, dk, l, 5, rfl, D0, by decide, by decide, fun r H1 r0 r5 D1 k1 => ?_⟩
    have nd : sd ≠ dk := fun z => De.some1.1 (z ▸ hsd)
    have nl : sd ≠ l := fun z => De.some1.2 (z ▸ hsd)
    refine ⟨r, rfl, by omega, by omega, ?_⟩
    refine for_range (lo := 0) (n := r.toNat) (fun i σ H' => ∃ (kvs : List (Key × V)) (x2 x3 x4 x5 x6 : Option V), σ = [some (.ref dk), some (.ref sd), x2, x3, x4, x5, x6] ∧ H' sd = some (.dK kvs) ∧ kvs.length ≤ i ∧ Sm (off dk l H') kvs ∧ Deck H' dk l ∧ (∀ b o, H b = some o → b ≠ dk → b ≠ l → H' b = some o))
      ⟨[], _, _, _, _, _, rfl, k1 _ _ upd_same nd nl, Nat.le_refl _, fun p hp => absurd hp (by simp), D1, fun b o e h1 h2 => k1 _ _ (s0 _ _ e) h1 h2⟩ ?_ ?_
    · rintro i σ H' hi ⟨kvs, x2, x3, x4, x5, x6, rfl, e1, lk, sm, D2, old⟩
      -- d
      refine ⟨_, rfl, _, rfl, _, _, rfl, rfl, cp _ (by decide) (by decide), by show 4 ≤ sizeLine; rw [sizeLine_eq]; decide, fun p hp => ?_⟩
      refine pick_new (E := E0) D2 hp (by simp) (by show 4 < _; decide) fun x Ha hx Da ka => ?_
      obtain ⟨m, rfl, m0, m1⟩ : ∃ m : Int, x = .int m ∧ 0 < m ∧ m ≤ 1000000 := by
        simp only [List.mem_cons, List.not_mem_nil, or_false] at hx
        rcases hx with rfl | rfl | rfl | rfl <;> exact ⟨_, rfl, by decide, by decide⟩
      refine ⟨dk, l, m, rfl, Da, m0, by omega, fun y Hb y0 y1 Db kb => ?_⟩
      refine ⟨_, _, rfl, rfl, ?_⟩
      obtain ⟨n, en⟩ : ∃ n : Nat, 1 + y = (n : Int) := ⟨(1 + y).toNat, by omega⟩
      refine ⟨n, by show [V.int (1 + y)] = _; rw [en], by omega, by omega, fun u u1 un => ?_⟩
      refine ⟨_, rfl, _, rfl, by show 3 ≤ sizeLine; rw [sizeLine_eq]; decide, fun p2 hp2 => ?_⟩
      refine pick_new (E := E0) Db hp2 (by simp) (by show 3 < _; decide) fun x2' Hc hx2 Dc kc => ?_
      obtain ⟨sg, rfl, sg1⟩ : ∃ m : Int, x2' = .int m ∧ (m = 1 ∨ m = -1) := by
        simp only [List.mem_cons, List.not_mem_nil, or_false] at hx2
        rcases hx2 with rfl | rfl | rfl
        · exact ⟨_, rfl, .inl rfl⟩
        · exact ⟨_, rfl, .inl rfl⟩
        · exact ⟨_, rfl, .inr rfl⟩
      refine ⟨_, _, rfl, rfl, .inr ⟨by omega, by omega⟩, ?_⟩
      -- size
      refine ⟨_, rfl, _, _, rfl, rfl, cp _ (by decide) (by decide), _, _, rfl, rfl, cp _ (by decide) (by decide), _, _, rfl, rfl, by show 5 ≤ sizeLine; rw [sizeLine_eq]; decide, fun p3 hp3 => ?_⟩
      refine pick_new (E := E0) Dc hp3 (by simp) (by show 5 < _; decide) fun x3' Hd hx3 Dd kd => ?_
      obtain ⟨sz, rfl, sz0, sz1⟩ : ∃ m : Int, x3' = .int m ∧ 0 < m ∧ m ≤ 100000000000000000000000000000 := by
        simp only [List.mem_cons, List.not_mem_nil, or_false] at hx3
        rcases hx3 with rfl | rfl | rfl | rfl | rfl <;> exact ⟨_, rfl, by decide, by decide⟩
      -- top, bottom
      refine ⟨_, rfl, _, rfl, dk, l, sz, rfl, Dd, sz0, fun tp He t0 t1 De' ke => ?_⟩
      refine ⟨_, _, rfl, rfl, ?_⟩
      refine ⟨_, rfl, _, rfl, _, rfl, by show 4 ≤ sizeLine; rw [sizeLine_eq]; decide, fun p4 hp4 => ?_⟩
      refine pick_new (E := E0) De' hp4 (by simp) (by show 4 < _; decide) fun x4' Hf hx4 Df kf => ?_
      obtain ⟨bz, rfl, bz0, bz1⟩ : ∃ m : Int, x4' = .int m ∧ 0 < m ∧ m ≤ 100000000000000000000000000000 := by
        simp only [List.mem_cons, List.not_mem_nil, or_false] at hx4
        rcases hx4 with rfl | rfl | rfl | rfl
        · exact ⟨_, rfl, by decide, by decide⟩
        · exact ⟨_, rfl, by decide, by decide⟩
        · exact ⟨_, rfl, by decide, by decide⟩
        · exact ⟨_, rfl, sz0, sz1⟩
      refine ⟨dk, l, bz, rfl, Df, bz0, fun bt Hg b0 b1 Dg kg => ?_⟩
      refine ⟨_, _, rfl, rfl, _, _, rfl, ?_⟩
      -- sums[d] = ..
      refine ⟨_, rfl, _, rfl, _, rfl, by show 2 ≤ sizeLine; rw [sizeLine_eq]; decide, fun p5 hp5 => ?_⟩
      refine pick_new (E := E0) Dg hp5 (by simp) (by show 2 < _; decide) fun x5' Hh hx5 Dh kh => ?_
      obtain ⟨s5, rfl, s51⟩ : ∃ m : Int, x5' = .int m ∧ (m = 1 ∨ m = -1) := by
        simp only [List.mem_cons, List.not_mem_nil, or_false] at hx5
        rcases hx5 with rfl | rfl
        · exact ⟨_, rfl, .inl rfl⟩
        · exact ⟨_, rfl, .inr rfl⟩
      refine ⟨_, _, rfl, rfl, .inr ⟨by omega, by omega⟩, _, rfl, by show 2 ≤ sizeLine; rw [sizeLine_eq]; decide, fun q hq => ?_⟩
      have kall : Keep dk l H' Hh := (((((ka.trans kb).trans kc).trans kd).trans ke).trans kf).trans (kg.trans kh)
      have esd : Hh sd = some (.dK kvs) := kall _ _ e1 nd nl
      have sq := snew (o := .tup [.int ((1 + tp) * s5), .int (1 + bt)]) hq
      refine ⟨_, rfl, _, rfl, sd, _, rfl, DPut.k (k := Sum.inl ((u : Int) * sg)) (sq _ _ esd) (by show kvs.length < sizeLine; exact small1000 (by omega)), ?_⟩
      have nq : q ≠ sd := (ne_of_none esd hq).symm
      have Dq := Dh.same sq
      have qd : q ≠ dk := fun z => Dh.some1.1 (z ▸ hq)
      have ql : q ≠ l := fun z => Dh.some1.2 (z ▸ hq)
      refine ⟨_, _, _, _, _, _, rfl, upd_same, ?_, ?_, ?_, fun b o e h1 h2 => ?_⟩
      · have := put_len (kvs := kvs) (k := Sum.inl ((u : Int) * sg)) (v := .ref q); omega
      · have smq : Sm (off dk l (upd Hh q (.tup [.int ((1 + tp) * s5), .int (1 + bt)]))) kvs := sm.same ((off_keep kall).trans (off_same sq))
        have hqo : off dk l (upd Hh q (.tup [.int ((1 + tp) * s5), .int (1 + bt)])) q = some (.tup [.int ((1 + tp) * s5), .int (1 + bt)]) := off_at qd ql upd_same
        have big31 : (10 : Nat) ^ 31 = 10000000000000000000000000000000 := by decide
        have bnd : ∀ z : Int, -1000000000000000000000000000000 ≤ z → z ≤ 1000000000000000000000000000000 → Bd z := fun z h1 h2 => by show z.natAbs < 10 ^ 31; rw [big31]; omega
        have g := put_sm (d := (u : Int) * sg) smq hqo (by rcases sg1 with h | h <;> rw [h] <;> exact bnd _ (by omega) (by omega)) (by rcases s51 with h | h <;> rw [h] <;> exact bnd _ (by omega) (by omega)) (bnd _ (by omega) (by omega)) (by omega)
        intro p hp
        obtain ⟨d', q', t', b', z1, z2, z3⟩ := g p hp
        refine ⟨d', q', t', b', z1, ?_, z3⟩
        obtain ⟨c1, c2, c3⟩ := of_off z2
        refine off_at c1 c2 ?_
        rw [upd_ne (ne_of c3 (sq _ _ esd) (by intro z; cases z))]
        exact c3
      · obtain ⟨ns', m', j', z1, z2, z3⟩ := Dq
        exact ⟨ns', m', j', by rw [upd_ne nd.symm]; exact z1, by rw [upd_ne nl.symm]; exact z2, z3⟩
      · rw [upd_ne (ne_of_none e hsd)]
        exact sq _ _ (kall _ _ (old b o e h1 h2) h1 h2)
    · rintro σ H' ⟨kvs, x2, x3, x4, x5, x6, rfl, e1, lk, sm, D2, old⟩
      refine ⟨_, rfl, sd, kvs, rfl, e1, sm.same off_in, by omega, fun rr xs H2 nm s2 => ?_⟩
      exact k rr xs H2 (num_off (D2.same s2) nm) (D2.same s2) (fun b o e h1 h2 => s2 _ _ (old b o e h1 h2))
end
end N3

namespace N3
open PySem PySem.Spec PyProof.Rows L2 N2
theorem cut_hi (xs : List V) (k : Nat) (h : k ≤ xs.length) : cutV xs none (some (k : Int)) = xs.take k := by
  unfold cutV
  rw [HT.sIx_nat, show HT.sIx xs.length 0 none = 0 from rfl, Nat.min_eq_left h]
  simp
theorem cut_lo (xs : List V) (k : Nat) (h : k ≤ xs.length) : cutV xs (some (k : Int)) none = xs.drop k := by
  unfold cutV
  rw [HT.sIx_nat, show HT.sIx xs.length xs.length none = xs.length from rfl, Nat.min_eq_left h, List.take_of_length_le]
  rw [List.length_drop]
  omega
/-- a slice of a tuple, any -/
theorem sl_any {K : PySem.W.Frag} {H : Hp} {a : Addr} {xs : List V} {lo hi : Option Int} {Q : VK} (ha : H a = some (.tup xs)) (q : ∀ p H', H' p = some (.tup (cutV xs lo hi)) → Same H H' → Q (.ref p) H') : rSlA K (.ref a) lo hi H Q := by
  refine ⟨a, xs, rfl, SqT.of ha, fun w => q a H ?_ (Same.refl _), fun _ p hp => q p _ upd_same (snew hp)⟩
  have : cutV xs lo hi = xs := by
    unfold cutV
    rw [w.1, w.2]
    simp
  rw [this]; exact ha
/-- a sum of tuples, any -/
theorem cat_any {K : PySem.W.Frag} {H : Hp} {a b : Addr} {xs ys : List V} {Q : VK} (ha : H a = some (.tup xs)) (hb : H b = some (.tup ys)) (hl : xs.length + ys.length ≤ 1000) (q : ∀ p H', H' p = some (.tup (xs ++ ys)) → Same H H' → Q (.ref p) H') : rCatA K (.ref a) (.ref b) H Q := by
  refine ⟨a, b, xs, ys, rfl, rfl, SqT.of ha, SqT.of hb, Nat.le_of_lt (small1000 hl), fun z => q b H ?_ (Same.refl _), fun _ z => q a H ?_ (Same.refl _), fun _ _ p hp => q p _ upd_same (snew hp)⟩
  · rw [z]; exact hb
  · rw [z, List.append_nil]; exact ha
def spInstead : Sp := fun vs H Q _ => ∃ (a : Addr) (xs : List V) (i : Nat) (x : V), vs = [.ref a, .int (i : Int), x] ∧ H a = some (.tup xs) ∧ i < xs.length ∧ xs.length ≤ 900 ∧ ∀ r H', H' r = some (.tup (xs.take i ++ [x] ++ xs.drop (i + 1))) → Same H H' → Q (.ref r) H'
/-- ints, tuples of ints, tuples of these -/
def Sh (H : Hp) : Nat → V → Prop
  | 0, .int i => Bd i
  | n + 1, .ref a => ∃ xs, H a = some (.tup xs) ∧ xs.length ≤ 4 ∧ ∀ x ∈ xs, Sh H n x
  | _, _ => False
theorem bd_log {i : Int} (h : Bd i) : i.natAbs.log2 < 1900 := by
  rcases Nat.eq_zero_or_pos i.natAbs with z | z
  · rw [z]; decide
  · have h1 : i.natAbs < 10 ^ 31 := h
    have h2 : (10 : Nat) ^ 31 < 2 ^ 110 := by decide
    have := (Nat.log2_lt (by omega : i.natAbs ≠ 0)).mpr (Nat.lt_trans h1 h2)
    omega
theorem Sh.same {H H' : Hp} (s : Same H H') : ∀ {n : Nat} {v : V}, Sh H n v → Sh H' n v
  | 0, .int _, h => h
  | n + 1, .ref _, h => let ⟨xs, e, l, q⟩ := h; ⟨xs, s _ _ e, l, fun x hx => Sh.same s (q x hx)⟩
  | 0, .ref _, h => h.elim
  | 0, .non, h => h.elim
  | 0, .bl _, h => h.elim
  | 0, .str _, h => h.elim
  | n + 1, .int _, h => h.elim
  | n + 1, .non, h => h.elim
  | n + 1, .bl _, h => h.elim
  | n + 1, .str _, h => h.elim
  | 0, .ty _, h => h.elim
  | n + 1, .ty _, h => h.elim
def szS : Nat → Nat
  | 0 => 1921
  | n + 1 => 4 * (szS n + 2) + 3
theorem sh_nice {H : Hp} : ∀ {n : Nat} {v : V}, Sh H n v → NiceD H (szS n) n v := by
  intro n
  induction n with
  | zero =>
    intro v h
    cases v with
    | int i => exact nd_int (Nat.lt_trans (bd_log h) (by decide))
    | _ => exact h.elim
  | succ n ih =>
    intro v h
    cases v with
    | ref a =>
      obtain ⟨xs, e, l, q⟩ := h
      refine (nd_tup e fun x hx => ih (q x hx)).mono (Same.refl _) ?_ (Nat.le_refl _)
      have : xs.length * (szS n + 2) ≤ 4 * (szS n + 2) := Nat.mul_le_mul_right _ l
      show _ ≤ 4 * (szS n + 2) + 3
      omega
    | _ => exact h.elim
/-- as data that == takes -/
theorem sh_dp {K : PySem.W.Frag} {H : Hp} : ∀ {n : Nat} {v : V}, Sh H n v → ∃ d, Dp K H v d ∧ Dn H v d ∧ PyData.canLay0 d = true ∧ PyData.depth d ≤ n ∧ isTp d = decide (1 ≤ n) := by
  intro n
  induction n with
  | zero =>
    intro v h
    cases v with
    | int i => exact ⟨.int i, .int i, .int i, by simp [PyData.canLay0], by simp [PyData.depth], rfl⟩
    | _ => exact h.elim
  | succ n ih =>
    intro v h
    cases v with
    | ref a =>
      obtain ⟨xs, e, l, q⟩ := h
      have : ∃ ds, DpAll K H xs ds ∧ DnAll H xs ds ∧ PyData.canLayAll0 ds = true ∧ PyData.depthAll ds ≤ n := by
        clear e l
        induction xs with
        | nil => exact ⟨[], .nil, .nil, by simp [PyData.canLayAll0], by simp [PyData.depthAll]⟩
        | cons x r ihr =>
          obtain ⟨d, a1, a2, a3, a4, _⟩ := ih (q x List.mem_cons_self)
          obtain ⟨ds, b1, b2, b3, b4⟩ := ihr fun y hy => q y (List.mem_cons_of_mem _ hy)
          exact ⟨d :: ds, .cons a1 b1, .cons a2 b2, by simp [PyData.canLayAll0, a3, b3], by simp only [PyData.depthAll]; omega⟩
      obtain ⟨ds, b1, b2, b3, b4⟩ := this
      exact ⟨.tuple ds, .tup (SqT.of e) b1, .tup e b2, by simp only [PyData.canLay0]; exact b3, by simp only [PyData.depth]; omega, by rw [decide_eq_true (by omega : 1 ≤ n + 1)]; rfl⟩
    | _ => exact h.elim
def mB : Nat → Nat
  | 0 => 60000
  | n + 1 => 5 * (mB n + 2) + 60000
def spBent (n : Nat) : Sp := fun vs H Q _ => ∃ (dk l : Addr) (v : V) (deep : Int), vs = [.ref dk, v, .int deep] ∧ Deck H dk l ∧ Sh (off dk l H) n v ∧ ∀ r H', NiceD (off dk l H') (mB n) (n + 8) r → Deck H' dk l → Keep dk l H H' → Q r H'
def spBentP : Nat → Sp
  | 0 => fun _ _ _ _ => False
  | n + 1 => spBent n
section
variable {P : Program} {w : World} {K : PySem.W.Frag} {mg : Str → Option Value} {base : Heap}
theorem scInstead : FnScope ["row", "at", "item"] ["row", "at", "item"] (defScope sInstead) := ⟨rfl, rfl, rfl, by decide +kernel, rfl, by decide +kernel, by decide +kernel⟩
theorem ok_instead {f : Addr} {fd : FuncData} (F : Fun K "_law_instead" "_law_instead" sInstead f fd) : FnOk P w K mg base CX0 1 f fd ["row", "at", "item"] spInstead := by
  refine F.ok scInstead (fun vs H Q E h => ?_) (fun cdv A outer s H vs Q E hr h => ?_)
  · obtain ⟨a, xs, i, x, rfl, _⟩ := h
    rfl
  · obtain ⟨a, xs, i, x, rfl, ha, hi, hl, k⟩ := h
    refine ⟨_, pss_one (ps_ret (pe_op op_catA (pe_op op_catA (pe_slice sl_tupA (pv 0) po_none (po_some (pv 1))) (pe_tup (pa_cons (pv 2) pa_nil))) (pe_slice sl_tupA (pv 0) (po_some (pe_op op_add (pv 1) pe_int)) po_none))), ?_⟩
    refine ⟨_, rfl, _, rfl, _, rfl, sl_any ha fun p1 H1 e1 s1 => ?_⟩
    rw [cut_hi xs i (by omega)] at e1
    refine ⟨_, rfl, by show 1 ≤ sizeLine; rw [sizeLine_eq]; decide, fun p2 hp2 => ?_⟩
    refine cat_any (snew hp2 _ _ e1) upd_same (by rw [List.length_take]; show _ + 1 ≤ _; omega) fun p3 H3 e3 s3 => ?_
    have s2 := (s1.trans (snew hp2)).trans s3
    refine ⟨_, rfl, _, rfl, _, _, rfl, rfl, _, rfl, ?_⟩
    dsimp only [tNoPart]
    refine sl_any (s2 _ _ ha) fun p4 H4 e4 s4 => ?_
    rw [show ((i : Int) + 1) = ((i + 1 : Nat) : Int) by omega, cut_lo xs (i + 1) (by omega)] at e4
    refine cat_any (s4 _ _ e3) e4 (by rw [List.length_append, List.length_take, List.length_drop]; show _ + 1 + _ ≤ _; omega) fun p5 H5 e5 s5 => ?_
    exact k p5 H5 e5 ((s2.trans s4).trans s5)
end
end N3

namespace N3
open PySem PySem.Spec PyProof.Rows L2 N2
theorem ofs_small (s : String) : ∀ c ∈ (Str.ofString s).cps.toList, c < 16 ^ 8 := by
  intro c hc
  rw [Str.ofString_eq_toList] at hc
  have hc : c ∈ s.toList.map Char.toNat := by simpa using hc
  obtain ⟨x, _, rfl⟩ := List.mem_map.mp hc
  have h := x.valid
  have : x.val.toNat < 1114112 := by
    rcases h with h | h
    · have : x.val.toNat < 55296 := h
      omega
    · exact h.2
  show x.val.toNat < 16 ^ 8
  omega
theorem txt_int {i : Int} (h : i.natAbs.log2 < 1920) : (reprText (toString i : String)).length ≤ 19212 := by
  have h1 := StrLaws.reprText_len (Str.ofString (toString i)) (ofs_small _)
  have h2 := int_text_len_1921 h
  omega
theorem bd_more {i j : Int} (h : Bd i) (hj : j.natAbs ≤ 4 * i.natAbs + 1) : j.natAbs.log2 < 1920 := by
  rcases Nat.eq_zero_or_pos j.natAbs with z | z
  · rw [z]; decide
  · have h1 : i.natAbs < 10 ^ 31 := h
    have h2 : 4 * (10 : Nat) ^ 31 + 1 < 2 ^ 110 := by decide
    have h3 : j.natAbs < 2 ^ 110 := by omega
    have := (Nat.log2_lt (by omega : j.natAbs ≠ 0)).mpr h3
    omega
theorem mB_big (n : Nat) : 60000 ≤ mB n := by
  cases n with
  | zero => exact Nat.le_refl _
  | succ n => show 60000 ≤ 5 * (mB n + 2) + 60000; omega
theorem sz_le (n : Nat) : szS n ≤ mB n := by
  induction n with
  | zero => show 1921 ≤ 60000; omega
  | succ n ih => show 4 * (szS n + 2) + 3 ≤ 5 * (mB n + 2) + 60000; omega
theorem shI {H : Hp} {v : V} (h : Sh H 0 v) : ∃ i, v = .int i ∧ Bd i := by
  cases v with
  | int i => exact ⟨i, rfl, h⟩
  | _ => exact h.elim
theorem shT {H : Hp} {n : Nat} {v : V} (h : Sh H (n + 1) v) : ∃ a xs, v = .ref a ∧ H a = some (.tup xs) ∧ xs.length ≤ 4 ∧ ∀ x ∈ xs, Sh H n x := by
  cases v with
  | ref a => obtain ⟨xs, e, l, q⟩ := h; exact ⟨a, xs, rfl, e, l, q⟩
  | _ => exact h.elim
theorem isI_tp {d : PyData} (h : isTp d = true) : isI d = false := by cases d <;> first | rfl | cases h
mutual
theorem dn_det {H : Hp} : ∀ (d e : PyData) (v : V), Dn H v d → Dn H v e → d = e
  | .none, _, _, h, k => by cases h; cases k; rfl
  | .bool _, _, _, h, k => by cases h; cases k; rfl
  | .int _, _, _, h, k => by cases h; cases k; rfl
  | .str _, _, _, h, k => by cases h; cases k; rfl
  | .list ds, _, _, h, k => by
    cases h with
    | lst e1 r1 =>
      cases k with
      | lst e2 r2 => rw [e1] at e2; cases e2; rw [dn_detA ds _ _ r1 r2]
      | tup e2 r2 => rw [e1] at e2; cases e2
      | dct e2 r2 => rw [e1] at e2; cases e2
  | .tuple ds, _, _, h, k => by
    cases h with
    | tup e1 r1 =>
      cases k with
      | lst e2 r2 => rw [e1] at e2; cases e2
      | tup e2 r2 => rw [e1] at e2; cases e2; rw [dn_detA ds _ _ r1 r2]
      | dct e2 r2 => rw [e1] at e2; cases e2
  | .dict ds, _, _, h, k => by
    cases h with
    | dct e1 r1 =>
      cases k with
      | lst e2 r2 => rw [e1] at e2; cases e2
      | tup e2 r2 => rw [e1] at e2; cases e2
      | dct e2 r2 => rw [e1] at e2; cases e2; rw [dn_detK ds _ _ r1 r2]
theorem dn_detA {H : Hp} : ∀ (ds es : List PyData) (vs : List V), DnAll H vs ds → DnAll H vs es → ds = es
  | [], _, _, h, k => by cases h; cases k; rfl
  | d :: ds, _, _, h, k => by
    cases h with
    | cons a b =>
      cases k with
      | cons a' b' => rw [dn_det d _ _ a a', dn_detA ds _ _ b b']
theorem dn_detK {H : Hp} : ∀ (ds es : List (PyData × PyData)) (vs : List (Key × V)), DnKv H vs ds → DnKv H vs es → ds = es
  | [], _, _, h, k => by cases h; cases k; rfl
  | (_, d) :: ds, _, _, h, k => by
    cases h with
    | cons a b =>
      cases k with
      | cons a' b' => rw [dn_det d _ _ a a', dn_detK ds _ _ b b']
end
theorem nd_one {H : Hp} {r : Addr} {v : V} (e : H r = some (.tup [v])) {m0 k0 : Nat} (h : NiceD H m0 k0 v) (m : Nat) : NiceD H (1 * (m0 + 2) + 3) (k0 + 1) (.ref r) := nd_tup e fun y hy => by rw [List.mem_singleton.mp hy]; exact h
section
variable {P : Program} {w : World} {K : PySem.W.Frag} {mg : Str → Option Value} {base : Heap}
theorem scBent : FnScope ["deck", "thing", "deep", "way", "is_great", "at", "x"] ["deck", "thing", "deep"] (defScope sBent) := ⟨rfl, rfl, rfl, by decide +kernel, rfl, by decide +kernel, by decide +kernel⟩
theorem ok_bent {n : Nat} {f f1 f2 f3 f4 f5 : Addr} {fd d1 d2 d3 d4 d5 : FuncData} (F : Fun K "_law_bent" "_law_bent" sBent f fd) (T : Bt mg) (Dr : Kn P w K mg base 1 "_law_draw" ["deck", "many"] spDraw f1 d1) (Pk : Kn P w K mg base 2 "_law_pick" ["deck", "some"] (spPick K) f2 d2)
    (Li : Kn P w K mg base 1 "_law_is_integer" ["thing"] spInt f3 d3) (An : Kn P w K mg base 5 "_law_any" ["deck", "deep"] (spAny 2) f4 d4) (In : Kn P w K mg base 1 "_law_instead" ["row", "at", "item"] spInstead f5 d5)
    (hn : n ≤ 10) (R : Kn P w K mg base (n + 6) "_law_bent" ["deck", "thing", "deep"] (spBentP n) f fd) : FnOk P w K mg base CX0 (n + 7) f fd ["deck", "thing", "deep"] (spBent n) := by
  refine F.ok scBent (fun vs H Q E h => ?_) (fun cdv A outer s H vs Q E hr h => ?_)
  · obtain ⟨dk, l, v, deep, rfl, _⟩ := h
    rfl
  · obtain ⟨dk, l, v, deep, rfl, De, sh, k⟩ := h
    have r1 : Room 1 _ := hr.mono (by omega)
    have r2 : Room 2 _ := hr.mono (by omega)
    have r5 : Room 5 _ := hr.mono (by omega)
    refine ⟨_, pss_cons (ps_if (PW.pt (pw_or (pt_not (pt_val (pe_callB call_isi (by rfl) T.isi (by decide +kernel) (pa_cons (pv 1) (pa_cons (pe_bltn (v := .ty "tuple") (by rfl) T.tuple (by decide +kernel) rfl) pa_nil)))))
        (pw_or (pt_cmpR (op_eqD hr.units) (pv 1) (pe_tup pa_nil) (nomark _)) (pw_or (pt_cmpR op_eq (pv 2) pe_int (nomark _)) (pw_or1 (pt_cmpR op_eq (pe_call Dr.ok r1 rfl Dr.mg Dr.kp Dr.bd .nil pass0 (pa_cons (pv 0) (pa_cons pe_int pa_nil))) pe_int (nomark _)))))))
        (pss_cons (ps_set (i := 3) scBent.nd rfl (Or.inl rfl) (pe_call Dr.ok r1 rfl Dr.mg Dr.kp Dr.bd .nil pass0 (pa_cons (pv 0) (pa_cons pe_int pa_nil))))
        (pss_cons (ps_if (pt_val (pe_call Li.ok r1 rfl Li.mg Li.kp Li.bd .nil pass0 (pa_cons (pv 1) pa_nil))) (pss_one (ps_ret (pe_call Pk.ok r2 rfl Pk.mg Pk.kp Pk.bd .nil pass0 (pa_cons (pv 0) (pa_cons (pe_lst
          (pa_cons pe_int (pa_cons (pe_un un_neg (pv 1)) (pa_cons (pe_op op_mul pe_int (pv 1)) (pa_cons (pe_op op_add (pv 1) pe_int) (pa_cons (pe_callTy call_bool1 (by rfl) T.bool (by decide +kernel) (pa_cons (pv 1) pa_nil))
          (pa_cons (pe_callTy call_str_int (by rfl) T.str (by decide +kernel) (pa_cons (pv 1) pa_nil)) (pa_cons (pe_tup (pa_cons (pv 1) pa_nil)) (pa_cons (pe_lst (pa_cons (pv 1) pa_nil)) (pa_cons pe_non (pa_cons (pe_op op_mul pe_int (pv 1)) pa_nil))))))))))) pa_nil))))) pss_nil)
        (pss_cons (ps_if (PW.pt (pw_or (pt_cmpR op_eq (pv 3) pe_int (nomark _)) (pw_or1 (pt_not (pt_val (pe_callB call_isi (by rfl) T.isi (by decide +kernel) (pa_cons (pv 1) (pa_cons (pe_bltn (v := .ty "tuple") (by rfl) T.tuple (by decide +kernel) rfl) pa_nil)))))))) (pss_one (ps_ret (pe_call An.ok r5 rfl An.mg An.kp An.bd .nil pass0 (pa_cons (pv 0) (pa_cons pe_int pa_nil))))) pss_nil)
        (pss_cons (ps_if (pt_cmpR op_lt (pv 3) pe_int (nomark _)) (pss_one (ps_ret (pe_callTy call_list_of (by rfl) T.list (by decide +kernel) (pa_cons (pv 1) pa_nil)))) pss_nil)
        (pss_cons (ps_if (pt_cmpR op_lt (pv 3) pe_int (nomark _)) (pss_one (ps_ret (pe_op op_catA (pv 1) (pe_tup (pa_cons (pe_call Pk.ok r2 rfl Pk.mg Pk.kp Pk.bd .nil pass0 (pa_cons (pv 0) (pa_cons (pe_lst
          (pa_cons (pe_tup pa_nil) (pa_cons pe_int (pa_cons (pe_tup (pa_cons pe_int (pa_cons pe_int (pa_cons pe_int pa_nil)))) (pa_cons (pe_tup (pa_cons (pe_tup (pa_cons pe_int (pa_cons pe_int (pa_cons pe_int pa_nil)))) pa_nil)) (pa_cons pe_non (pa_cons pe_bl pa_nil))))))) pa_nil))) pa_nil))))) pss_nil)
        (pss_cons (ps_if (pt_cmpR op_lt (pv 3) pe_int (nomark _))
          (pss_cons (ps_set (i := 4) scBent.nd rfl (Or.inl rfl) (pe_cmpR (op_neD hr.units) (pe_lc (own := [("x", 6)]) (g := gName 6) (tt := _) rfl scBent.nd (pi_tup (pv 1)) (blkOk_by (own := [("x", 6)]) (N := ["deck", "thing", "deep", "way", "is_great", "at", "x"]) (sc := defScope sBent) (by decide +kernel)) (fun _ _ _ _ _ => pg_name (i := 6) scBent.nd rfl (Or.inl rfl))
              (fun _ _ _ _ _ => pts_one (PW.pt (pw_and (pt_val (pe_call Li.ok r1 rfl Li.mg Li.kp Li.bd .nil pass0 (pa_cons (pv 6) pa_nil))) (pw_and1 (pt_cmpR op_gt (pe_callB call_abs (by rfl) T.abs (by decide +kernel) (pa_cons (pv 6) pa_nil)) (pe_op op_pow pe_int pe_int) (nomark _)))))) (fun _ _ _ _ _ => pe_int)) (pe_lst pa_nil) (nomark _)))
          (pss_one (ps_ret (pe_ifExp (pt_val (pv 4)) (pe_callTy call_list_of (by rfl) T.list (by decide +kernel) (pa_cons (pv 1) pa_nil)) (pe_back (pv 1)))))) pss_nil)
        (pss_cons (ps_if (pt_cmpR op_lt (pv 3) pe_int (nomark _)) (pss_one (ps_ret (pe_op op_catA (pv 1) (pe_slice sl_tupA (pv 1) po_none (po_some pe_int))))) pss_nil)
        (pss_one (ps_ret (pe_ifExp (pt_cmpR op_lt (pv 3) pe_int (nomark _)) (pe_slice sl_tupA (pv 1) (po_some pe_int) po_none) (pe_tup (pa_cons (pv 1) pa_nil)))))))))))) pss_nil)
      (pss_cons (ps_set (i := 5) scBent.nd rfl (Or.inl rfl) (pe_call Dr.ok r1 rfl Dr.mg Dr.kp Dr.bd .nil pass0 (pa_cons (pv 0) (pa_cons (pe_callB call_len (by rfl) T.len PySem.boot_len (pa_cons (pv 1) pa_nil)) pa_nil))))
      (pss_one (ps_ret (pe_call In.ok r1 rfl In.mg In.kp In.bd .nil pass0 (pa_cons (pv 1) (pa_cons (pv 5) (pa_cons (pe_call R.ok hr rfl R.mg R.kp R.bd .nil pass0 (pa_cons (pv 0) (pa_cons (pe_ix (r := rIx K) ix_seq (pv 1) (pv 5) (fun _ _ => rfl)) (pa_cons (pe_op op_sub (pv 2) pe_int) pa_nil)))) pa_nil))))))), ?_⟩
    rcases n with _ | m
    · obtain ⟨i, rfl, bi⟩ := shI sh
      have bm := bd_log bi
      refine ⟨_, rfl, .int i, .ty "tuple", _, _, _, rfl, .ty _, dn_ty (.int i), kit_ty (kit_t (.int i)), _, rfl, iteT (iteT ?_)⟩
      refine ⟨_, rfl, dk, l, 14, rfl, De, by decide, by decide, fun way H1 w0 w1 D1 k1 => ?_⟩
      refine ⟨_, rfl, .int i, .int i, rfl, .int i, _, rfl, iteT ?_⟩
      have cm : ∀ j : Int, (j = 2 ∨ j = 4) → CMul j i := fun j hj => .inl ⟨by rcases hj with h | h <;> rw [h] <;> decide, by rcases hj with h | h <;> rw [h] <;> decide⟩
      refine ⟨_, rfl, _, rfl, _, rfl, _, rfl, _, _, rfl, rfl, cm 2 (.inl rfl), _, rfl, _, _, rfl, rfl, _, rfl, .inl ⟨i, rfl, _, rfl, i, rfl, Nat.lt_trans bm (by decide), _, rfl, by show 1 ≤ sizeLine; rw [sizeLine_eq]; decide, fun p1 hp1 => ?_⟩⟩
      refine ⟨_, rfl, by show 1 ≤ sizeLine; rw [sizeLine_eq]; decide, fun p2 hp2 => ?_⟩
      refine ⟨_, rfl, _, _, rfl, rfl, cm 4 (.inr rfl), by show 10 ≤ sizeLine; rw [sizeLine_eq]; decide, fun p3 hp3 => ?_⟩
      have s1 := snew (o := .tup [.int i]) hp1
      have s2 := s1.trans (snew (o := .lst [.int i]) hp2)
      refine pick_new (E := E0) (D1.same s2) hp3 (by simp) (by show 10 < _; decide) fun x H2 hx D2 k2 => k x H2 ?_ D2 ((k1.trans (Keep.of s2)).trans k2)
      have sg : Same (off dk l _) (off dk l H2) := off_keep k2
      have g : ∀ j : Int, j.natAbs ≤ 4 * i.natAbs + 1 → NiceD (off dk l H2) (mB 0) (0 + 8) (.int j) := fun j hj => (nd_int (bd_more bi hj)).mono (Same.refl _) (by show 1921 ≤ 60000; decide) (by omega)
      simp only [List.mem_cons, List.not_mem_nil, or_false] at hx
      rcases hx with rfl | rfl | rfl | rfl | rfl | rfl | rfl | rfl | rfl | rfl
      · exact g _ (by omega)
      · exact g _ (by omega)
      · exact g _ (by omega)
      · exact g _ (by omega)
      · exact (nd_bl _ _).mono (Same.refl _) (by show 5 ≤ 60000; decide) (by omega)
      · exact (nd_str (txt_int (Nat.lt_trans bm (by decide)))).mono (Same.refl _) (by show 19212 ≤ 60000; decide) (by omega)
      · refine (nd_tup (m := 1921) (n := 0) (sg _ _ (off_free D1 hp1 (snew hp2 _ _ upd_same))) fun v hv => ?_).mono (Same.refl _) (by show 1 * 1923 + 3 ≤ 60000; decide) (by omega)
        rw [List.mem_singleton.mp hv]; exact nd_int (Nat.lt_trans bm (by decide))
      · refine (nd_list (m := 1921) (n := 0) (sg _ _ (off_free D1 (s1.free hp2) upd_same)) fun v hv => ?_).mono (Same.refl _) (by show 1 * 1923 + 2 ≤ 60000; decide) (by omega)
        rw [List.mem_singleton.mp hv]; exact nd_int (Nat.lt_trans bm (by decide))
      · exact (nd_non _).mono (Same.refl _) (by show 4 ≤ 60000; decide) (by omega)
      · exact g _ (by omega)
    · obtain ⟨a, xs0, rfl, ea0, l40, qs0⟩ := shT sh
      obtain ⟨d0, dp0, dn0, cl0, dd0, tp0⟩ := sh_dp (K := K) sh
      have dnH0 : Dn H (.ref a) d0 := Dn.mono off_in d0 _ dn0
      obtain ⟨a', xs', ds0, e1', rfl, e2', ra0⟩ := dn_tup dn0 (tp0.trans (decide_eq_true (by omega)))
      cases e1'
      rw [ea0] at e2'
      cases e2'
      have lds : xs0.length = ds0.length := ra0.length
      have eaH : H a = some (.tup xs0) := off_in _ _ ea0
      have dpx : ∀ {G : Hp}, Same H G → Dp K G (.ref a) (.tuple ds0) := fun s => by
        obtain ⟨d1, dp1, dn1, _⟩ := sh_dp (K := K) (sh.same (off_in.trans s))
        have : d1 = .tuple ds0 := dn_det _ _ _ dn1 (Dn.mono (off_in.trans s) _ _ dn0)
        rw [← this]; exact dp1
      refine ⟨_, rfl, .ref a, .ty "tuple", _, _, _, rfl, .ty _, dn_ty dnH0, kit_ty (kit_t (.tuple ds0)), _, rfl, iteF ?_⟩
      refine ⟨_, rfl, Nat.zero_le _, fun p0 hp0 => ⟨.tuple ds0, .tuple [], dpx (snew hp0), .tup (SqT.of upd_same) .nil, ?_, rfl, _, rfl, ?_⟩⟩
      · show (PyData.canLay0 (.tuple ds0) && decide (PyData.depth (.tuple ds0) ≤ 64)) = true
        rw [Bool.and_eq_true]
        exact ⟨cl0, decide_eq_true (by omega)⟩
      rw [eqv_nil_t]
      have D0 := De.same (snew (o := .tup []) hp0)
      have kp0 : Keep dk l H (upd H p0 (.tup [])) := Keep.of (snew hp0)
      refine ite_b (fun c1 => iteT ?_) (fun c1 => ?_)
      · obtain ⟨Hx, ex⟩ : ∃ Hx, upd H p0 (.tup []) = Hx := ⟨_, rfl⟩
        have Dx : Deck Hx dk l := by rw [← ex]; exact D0
        have kx : Keep dk l H Hx := by rw [← ex]; exact kp0
        rw [ex]
        refine ⟨_, rfl, dk, l, 14, rfl, Dx, by decide, by decide, fun way H1 w0 w1 D1 k1 => ?_⟩
        have kk := kx.trans k1
        have sh1 := sh.same (off_keep (dk := dk) (l := l) kk)
        obtain ⟨xs, ea1, l4, qs⟩ := id sh1
        have ea : H1 a = some (.tup xs) := off_in _ _ ea1
        obtain ⟨d, dp, dn, cl, dd, tp⟩ := sh_dp (K := K) sh1
        have dnH : Dn H1 (.ref a) d := Dn.mono off_in d _ dn
        have ni : ∀ x ∈ xs, NiceD (off dk l H1) (mB m) (m + 8) x := fun x hx => (sh_nice (qs x hx)).mono (Same.refl _) (sz_le m) (by omega)
        have fin : ∀ (r : Addr) (ys : List V) (H2 : Hp), off dk l H2 r = some (.tup ys) → ys.length ≤ 5 → (∀ y ∈ ys, NiceD (off dk l H2) (mB m) (m + 8) y) → NiceD (off dk l H2) (mB (m + 1)) (m + 1 + 8) (.ref r) := fun r ys H2 e hl hy => by
          refine (nd_tup e hy).mono (Same.refl _) ?_ (by omega)
          have : ys.length * (mB m + 2) ≤ 5 * (mB m + 2) := Nat.mul_le_mul_right _ hl
          show _ ≤ 5 * (mB m + 2) + 60000
          omega
        have finl : ∀ (r : Addr) (ys : List V) (H2 : Hp), off dk l H2 r = some (.lst ys) → ys.length ≤ 5 → (∀ y ∈ ys, NiceD (off dk l H2) (mB m) (m + 8) y) → NiceD (off dk l H2) (mB (m + 1)) (m + 1 + 8) (.ref r) := fun r ys H2 e hl hy => by
          refine (nd_list e hy).mono (Same.refl _) ?_ (by omega)
          have : ys.length * (mB m + 2) ≤ 5 * (mB m + 2) := Nat.mul_le_mul_right _ hl
          show _ ≤ 5 * (mB m + 2) + 60000
          omega
        have up : ∀ {H2 : Hp}, Same (off dk l H1) (off dk l H2) → ∀ x ∈ xs, NiceD (off dk l H2) (mB m) (m + 8) x := fun s x hx => (ni x hx).mono s (Nat.le_refl _) (Nat.le_refl _)
        have neI : isI d = false := isI_tp (tp.trans (decide_eq_true (by omega)))
        refine ⟨_, rfl, .ref a, d, rfl, dnH, _, rfl, ite_b (fun e => absurd e (by rw [neI]; decide)) (fun _ => ?_)⟩
        refine ⟨_, rfl, rfl, _, rfl, ite_b (fun _ => iteT ?_) (fun _ => ?_)⟩
        · refine ⟨_, rfl, dk, l, rfl, D1, fun r H2 nr D2 k2 => k r H2 (nr.mono (off_new D1) ?_ (by omega)) D2 (kk.trans k2)⟩
          have b2 : big 2 = 52032 := rfl
          have := mB_big (m + 1)
          omega
        refine ⟨_, rfl, .ref a, .ty "tuple", _, _, _, rfl, .ty _, dn_ty dnH, kit_ty (kit_t d), _, rfl, ?_⟩
        rw [tp, decide_eq_true (show 1 ≤ m + 1 by omega)]
        refine iteF ?_
        refine ⟨_, rfl, _, _, rfl, rfl, _, rfl, ite_b (fun _ => ?_) (fun _ => ?_)⟩
        · refine ⟨_, rfl, a, xs, rfl, .inr (SqT.of ea), fun p hp => ?_⟩
          exact k _ _ (finl p xs _ (off_free D1 hp upd_same) (by omega) (up (off_same (snew hp)))) (D1.same (snew hp)) (kk.trans (Keep.of (snew hp)))
        refine ⟨_, rfl, _, _, rfl, rfl, _, rfl, ite_b (fun _ => ?_) (fun _ => ?_)⟩
        · refine ⟨_, rfl, _, rfl, Nat.zero_le _, fun p0 hp0 => ?_⟩
          refine ⟨by show 3 ≤ sizeLine; rw [sizeLine_eq]; decide, fun p1 hp1 => ?_⟩
          refine ⟨by show 3 ≤ sizeLine; rw [sizeLine_eq]; decide, fun p2 hp2 => ?_⟩
          refine ⟨by show 1 ≤ sizeLine; rw [sizeLine_eq]; decide, fun p3 hp3 => ?_⟩
          refine ⟨by show 6 ≤ sizeLine; rw [sizeLine_eq]; decide, fun p4 hp4 => ?_⟩
          have s0 := snew (o := .tup []) hp0
          have s1 := s0.trans (snew (o := .tup [.int 1, .int 1, .int 1]) hp1)
          have s2 := s1.trans (snew (o := .tup [.int 1, .int 1, .int 1]) hp2)
          have s3 := s2.trans (snew (o := .tup [.ref p2]) hp3)
          have Dg := D1.same s3
          refine pick_new (E := E0) Dg hp4 (by simp) (by show 6 < _; decide) fun x H2 hx D2 k2 => ?_
          have sg : Same (off dk l _) (off dk l H2) := off_keep k2
          have one : ∀ (G : Hp) (p : Addr), G p = some (.tup [.int 1, .int 1, .int 1]) → NiceD G 6000 1 (.ref p) := fun G p e => (nd_tup e fun v hv => by
            simp only [List.mem_cons, List.not_mem_nil, or_false] at hv
            rcases hv with rfl | rfl | rfl <;> exact nd_int (by decide)).mono (Same.refl _) (by show 3 * (1921 + 2) + 3 ≤ 6000; decide) (Nat.le_refl _)
          have nx : NiceD (off dk l H2) (mB m) (m + 8) x := by
            have bm := mB_big m
            simp only [List.mem_cons, List.not_mem_nil, or_false] at hx
            rcases hx with rfl | rfl | rfl | rfl | rfl | rfl
            · exact (nd_tup (m := 1) (n := 0) (sg _ _ (off_free D1 hp0 ((((snew hp1).trans (snew hp2)).trans (snew hp3)) _ _ upd_same))) (fun v hv => absurd hv (by simp))).mono (Same.refl _) (by show 0 * 3 + 3 ≤ _; omega) (by omega)
            · exact (nd_int (by decide)).mono (Same.refl _) (by omega) (by omega)
            · exact (one _ p1 (sg _ _ (off_free D1 (s0.free hp1) (((snew hp2).trans (snew hp3)) _ _ upd_same)))).mono (Same.refl _) (by omega) (by omega)
            · refine (nd_tup (m := 6000) (n := 1) (sg _ _ (off_free D1 (s2.free hp3) upd_same)) fun v hv => ?_).mono (Same.refl _) (by show 1 * 6002 + 3 ≤ _; omega) (by omega)
              rw [List.mem_singleton.mp hv]
              exact one _ p2 (sg _ _ (off_free D1 (s1.free hp2) ((snew hp3) _ _ upd_same)))
            · exact (nd_non _).mono (Same.refl _) (by omega) (by omega)
            · exact (nd_bl _ true).mono (Same.refl _) (by omega) (by omega)
          refine ⟨by show 1 ≤ sizeLine; rw [sizeLine_eq]; decide, fun p5 hp5 => ?_⟩
          have na : a ≠ dk ∧ a ≠ l := ⟨(of_off ea1).1, (of_off ea1).2.1⟩
          refine cat_any (snew hp5 _ _ (k2 _ _ (s3 _ _ ea) na.1 na.2)) upd_same (by show xs.length + 1 ≤ 1000; omega) fun p6 H6 e6 s6 => ?_
          have D6 := (D2.same (snew (o := .tup [x]) hp5)).same s6
          have so : Same (off dk l H2) (off dk l H6) := (off_same (snew hp5)).trans (off_same s6)
          refine k _ H6 (fin p6 (xs ++ [x]) H6 (deck_tup D6 e6) (by rw [List.length_append]; show _ + 1 ≤ 5; omega) fun y hy => ?_) D6 (((kk.trans (Keep.of s3)).trans k2).trans (Keep.of ((snew hp5).trans s6)))
          rcases List.mem_append.mp hy with hy | hy
          · exact up (((off_same s3).trans sg).trans so) y hy
          · rw [List.mem_singleton.mp hy]; exact nx.mono so (Nat.le_refl _) (Nat.le_refl _)
        refine ⟨_, rfl, _, _, rfl, rfl, _, rfl, ite_b (fun _ => ?_) (fun _ => ?_)⟩
        · refine ⟨_, rfl, a, rfl, ⟨_, SqT.of ea⟩, fun D hD => lc_tup (K := K) (a := a) (xs := xs) (fun i H' => ∃ k, H' D = some (.lst ((ones k).map V.int)) ∧ k ≤ i ∧ Same H1 H')
            ⟨0, upd_same, Nat.le_refl _, snew hD⟩ (fun i H' _ ⟨_, _, _, s'⟩ => SqT.of (s' _ _ ea)) ?_ ?_⟩
          · rintro i x H' hx ⟨n', e1, e2, s'⟩
            have il := (List.getElem?_eq_some_iff.mp hx).1
            obtain ⟨d', _, dn', _, _, _⟩ := sh_dp (K := K) (qs x (List.mem_of_getElem? hx))
            have dn2 : Dn H' x d' := Dn.mono (Same.trans off_in s') d' _ dn'
            refine ⟨rfl, ?_⟩
            refine ⟨_, rfl, x, d', rfl, dn2, _, rfl, ite_b (fun e => ?_) (fun _ => ?_)⟩
            · obtain ⟨z, rfl, _⟩ := dn_int dn2 e
              refine ⟨_, rfl, z, rfl, _, _, rfl, rfl, ⟨by decide, by decide, by decide⟩, _, _, rfl, rfl, _, rfl, ite_b (fun _ => ?_) (fun _ => ?_)⟩
              · refine ⟨_, e1, by rw [ones_len]; exact small1000 (by omega), n' + 1, by rw [ones_succ, upd_same], by omega, fun c o e => ?_⟩
                rw [upd_ne (ne_of_none e hD)]; exact s' _ _ e
              · exact ⟨n', e1, by omega, s'⟩
            · refine iteF ?_
              exact ⟨n', e1, by omega, s'⟩
          · rintro H2 ⟨n', e1, e2, s2⟩
            refine ⟨Nat.zero_le _, fun p hp => ⟨.list ((ones n').map PyData.int), .list [], .lst (SqL.of (snew hp _ _ e1)) (ints_dp _), .lst (SqL.of upd_same) .nil, ints_shaped _, nil_shaped, ?_⟩⟩
            have s3 := s2.trans (snew (o := .lst []) hp)
            have D3 := D1.same s3
            refine ⟨_, rfl, _, rfl, ite_b (fun _ => ?_) (fun _ => ?_)⟩
            · refine ⟨_, rfl, a, xs, rfl, .inr (SqT.of (s3 _ _ ea)), fun p2 hp2 => ?_⟩
              exact k _ _ (finl p2 xs _ (off_free D3 hp2 upd_same) (by omega) (up ((off_same s3).trans (off_same (snew hp2))))) (D3.same (snew hp2)) ((kk.trans (Keep.of s3)).trans (Keep.of (snew hp2)))
            · refine ⟨_, rfl, a, xs, rfl, SqT.of (s3 _ _ ea), fun p2 hp2 => ?_⟩
              exact k _ _ (fin p2 xs.reverse _ (off_free D3 hp2 upd_same) (by rw [List.length_reverse]; omega) (fun y hy => up ((off_same s3).trans (off_same (snew hp2))) y (List.mem_reverse.mp hy))) (D3.same (snew hp2)) ((kk.trans (Keep.of s3)).trans (Keep.of (snew hp2)))
        refine ⟨_, rfl, _, _, rfl, rfl, _, rfl, ite_b (fun _ => ?_) (fun _ => ?_)⟩
        · refine ⟨_, rfl, _, rfl, _, rfl, sl_any ea fun p2 H2 e2 s2 => ?_⟩
          have tk : cutV xs none (some 1) = xs.take 1 := by
            by_cases z : xs = []
            · subst z; rfl
            · exact cut_hi xs 1 (List.length_pos_iff.mpr z)
          rw [tk] at e2
          refine cat_any (s2 _ _ ea) e2 (by rw [List.length_take]; omega) fun p3 H3 e3 s3 => ?_
          have D3 := D1.same (s2.trans s3)
          refine k _ H3 (fin p3 (xs ++ xs.take 1) H3 (deck_tup D3 e3) (by rw [List.length_append, List.length_take]; omega) fun y hy => ?_) D3 (kk.trans (Keep.of (s2.trans s3)))
          exact up (off_same (s2.trans s3)) y ((List.mem_append.mp hy).elim id List.mem_of_mem_take)
        refine ⟨_, rfl, _, _, rfl, rfl, _, rfl, ite_b (fun _ => ?_) (fun _ => ?_)⟩
        · refine ⟨_, rfl, _, rfl, ?_⟩
          dsimp only [tNoPart]
          refine sl_any ea fun p2 H2 e2 s2 => ?_
          have dr : ∀ y ∈ cutV xs (some 1) none, y ∈ xs := fun y hy => by
            by_cases z : xs = []
            · subst z; exact absurd hy (by simp [cutV])
            · rw [cut1 xs z] at hy; exact List.mem_of_mem_drop hy
          have ln : (cutV xs (some 1) none).length ≤ xs.length := by
            by_cases z : xs = []
            · subst z; simp [cutV]
            · rw [cut1 xs z, List.length_drop]; omega
          have D2 := D1.same s2
          exact k _ H2 (fin p2 _ H2 (deck_tup D2 e2) (by omega) fun y hy => up (off_same s2) y (dr y hy)) D2 (kk.trans (Keep.of s2))
        · refine ⟨_, rfl, by show 1 ≤ sizeLine; rw [sizeLine_eq]; decide, fun p2 hp2 => ?_⟩
          have D2 := D1.same (snew (o := .tup [.ref a]) hp2)
          refine k _ _ ((nd_one (m0 := szS (m + 1)) (k0 := m + 1) (deck_tup D2 upd_same) ((sh_nice sh1).mono (off_same (snew hp2)) (Nat.le_refl _) (Nat.le_refl _)) m).mono (Same.refl _) (by have := sz_le m; show 1 * (4 * (szS m + 2) + 3 + 2) + 3 ≤ 5 * (mB m + 2) + 60000; omega) (by omega)) D2 (kk.trans (Keep.of (snew hp2)))
      refine ⟨_, rfl, rfl, _, rfl, ite_b (fun c2 => iteT ?_) (fun c2 => ?_)⟩
      · obtain ⟨Hx, ex⟩ : ∃ Hx, upd H p0 (.tup []) = Hx := ⟨_, rfl⟩
        have Dx : Deck Hx dk l := by rw [← ex]; exact D0
        have kx : Keep dk l H Hx := by rw [← ex]; exact kp0
        rw [ex]
        refine ⟨_, rfl, dk, l, 14, rfl, Dx, by decide, by decide, fun way H1 w0 w1 D1 k1 => ?_⟩
        have kk := kx.trans k1
        have sh1 := sh.same (off_keep (dk := dk) (l := l) kk)
        obtain ⟨xs, ea1, l4, qs⟩ := id sh1
        have ea : H1 a = some (.tup xs) := off_in _ _ ea1
        obtain ⟨d, dp, dn, cl, dd, tp⟩ := sh_dp (K := K) sh1
        have dnH : Dn H1 (.ref a) d := Dn.mono off_in d _ dn
        have ni : ∀ x ∈ xs, NiceD (off dk l H1) (mB m) (m + 8) x := fun x hx => (sh_nice (qs x hx)).mono (Same.refl _) (sz_le m) (by omega)
        have fin : ∀ (r : Addr) (ys : List V) (H2 : Hp), off dk l H2 r = some (.tup ys) → ys.length ≤ 5 → (∀ y ∈ ys, NiceD (off dk l H2) (mB m) (m + 8) y) → NiceD (off dk l H2) (mB (m + 1)) (m + 1 + 8) (.ref r) := fun r ys H2 e hl hy => by
          refine (nd_tup e hy).mono (Same.refl _) ?_ (by omega)
          have : ys.length * (mB m + 2) ≤ 5 * (mB m + 2) := Nat.mul_le_mul_right _ hl
          show _ ≤ 5 * (mB m + 2) + 60000
          omega
        have finl : ∀ (r : Addr) (ys : List V) (H2 : Hp), off dk l H2 r = some (.lst ys) → ys.length ≤ 5 → (∀ y ∈ ys, NiceD (off dk l H2) (mB m) (m + 8) y) → NiceD (off dk l H2) (mB (m + 1)) (m + 1 + 8) (.ref r) := fun r ys H2 e hl hy => by
          refine (nd_list e hy).mono (Same.refl _) ?_ (by omega)
          have : ys.length * (mB m + 2) ≤ 5 * (mB m + 2) := Nat.mul_le_mul_right _ hl
          show _ ≤ 5 * (mB m + 2) + 60000
          omega
        have up : ∀ {H2 : Hp}, Same (off dk l H1) (off dk l H2) → ∀ x ∈ xs, NiceD (off dk l H2) (mB m) (m + 8) x := fun s x hx => (ni x hx).mono s (Nat.le_refl _) (Nat.le_refl _)
        have neI : isI d = false := isI_tp (tp.trans (decide_eq_true (by omega)))
        refine ⟨_, rfl, .ref a, d, rfl, dnH, _, rfl, ite_b (fun e => absurd e (by rw [neI]; decide)) (fun _ => ?_)⟩
        refine ⟨_, rfl, rfl, _, rfl, ite_b (fun _ => iteT ?_) (fun _ => ?_)⟩
        · refine ⟨_, rfl, dk, l, rfl, D1, fun r H2 nr D2 k2 => k r H2 (nr.mono (off_new D1) ?_ (by omega)) D2 (kk.trans k2)⟩
          have b2 : big 2 = 52032 := rfl
          have := mB_big (m + 1)
          omega
        refine ⟨_, rfl, .ref a, .ty "tuple", _, _, _, rfl, .ty _, dn_ty dnH, kit_ty (kit_t d), _, rfl, ?_⟩
        rw [tp, decide_eq_true (show 1 ≤ m + 1 by omega)]
        refine iteF ?_
        refine ⟨_, rfl, _, _, rfl, rfl, _, rfl, ite_b (fun _ => ?_) (fun _ => ?_)⟩
        · refine ⟨_, rfl, a, xs, rfl, .inr (SqT.of ea), fun p hp => ?_⟩
          exact k _ _ (finl p xs _ (off_free D1 hp upd_same) (by omega) (up (off_same (snew hp)))) (D1.same (snew hp)) (kk.trans (Keep.of (snew hp)))
        refine ⟨_, rfl, _, _, rfl, rfl, _, rfl, ite_b (fun _ => ?_) (fun _ => ?_)⟩
        · refine ⟨_, rfl, _, rfl, Nat.zero_le _, fun p0 hp0 => ?_⟩
          refine ⟨by show 3 ≤ sizeLine; rw [sizeLine_eq]; decide, fun p1 hp1 => ?_⟩
          refine ⟨by show 3 ≤ sizeLine; rw [sizeLine_eq]; decide, fun p2 hp2 => ?_⟩
          refine ⟨by show 1 ≤ sizeLine; rw [sizeLine_eq]; decide, fun p3 hp3 => ?_⟩
          refine ⟨by show 6 ≤ sizeLine; rw [sizeLine_eq]; decide, fun p4 hp4 => ?_⟩
          have s0 := snew (o := .tup []) hp0
          have s1 := s0.trans (snew (o := .tup [.int 1, .int 1, .int 1]) hp1)
          have s2 := s1.trans (snew (o := .tup [.int 1, .int 1, .int 1]) hp2)
          have s3 := s2.trans (snew (o := .tup [.ref p2]) hp3)
          have Dg := D1.same s3
          refine pick_new (E := E0) Dg hp4 (by simp) (by show 6 < _; decide) fun x H2 hx D2 k2 => ?_
          have sg : Same (off dk l _) (off dk l H2) := off_keep k2
          have one : ∀ (G : Hp) (p : Addr), G p = some (.tup [.int 1, .int 1, .int 1]) → NiceD G 6000 1 (.ref p) := fun G p e => (nd_tup e fun v hv => by
            simp only [List.mem_cons, List.not_mem_nil, or_false] at hv
            rcases hv with rfl | rfl | rfl <;> exact nd_int (by decide)).mono (Same.refl _) (by show 3 * (1921 + 2) + 3 ≤ 6000; decide) (Nat.le_refl _)
          have nx : NiceD (off dk l H2) (mB m) (m + 8) x := by
            have bm := mB_big m
            simp only [List.mem_cons, List.not_mem_nil, or_false] at hx
            rcases hx with rfl | rfl | rfl | rfl | rfl | rfl
            · exact (nd_tup (m := 1) (n := 0) (sg _ _ (off_free D1 hp0 ((((snew hp1).trans (snew hp2)).trans (snew hp3)) _ _ upd_same))) (fun v hv => absurd hv (by simp))).mono (Same.refl _) (by show 0 * 3 + 3 ≤ _; omega) (by omega)
            · exact (nd_int (by decide)).mono (Same.refl _) (by omega) (by omega)
            · exact (one _ p1 (sg _ _ (off_free D1 (s0.free hp1) (((snew hp2).trans (snew hp3)) _ _ upd_same)))).mono (Same.refl _) (by omega) (by omega)
            · refine (nd_tup (m := 6000) (n := 1) (sg _ _ (off_free D1 (s2.free hp3) upd_same)) fun v hv => ?_).mono (Same.refl _) (by show 1 * 6002 + 3 ≤ _; omega) (by omega)
              rw [List.mem_singleton.mp hv]
              exact one _ p2 (sg _ _ (off_free D1 (s1.free hp2) ((snew hp3) _ _ upd_same)))
            · exact (nd_non _).mono (Same.refl _) (by omega) (by omega)
            · exact (nd_bl _ true).mono (Same.refl _) (by omega) (by omega)
          refine ⟨by show 1 ≤ sizeLine; rw [sizeLine_eq]; decide, fun p5 hp5 => ?_⟩
          have na : a ≠ dk ∧ a ≠ l := ⟨(of_off ea1).1, (of_off ea1).2.1⟩
          refine cat_any (snew hp5 _ _ (k2 _ _ (s3 _ _ ea) na.1 na.2)) upd_same (by show xs.length + 1 ≤ 1000; omega) fun p6 H6 e6 s6 => ?_
          have D6 := (D2.same (snew (o := .tup [x]) hp5)).same s6
          have so : Same (off dk l H2) (off dk l H6) := (off_same (snew hp5)).trans (off_same s6)
          refine k _ H6 (fin p6 (xs ++ [x]) H6 (deck_tup D6 e6) (by rw [List.length_append]; show _ + 1 ≤ 5; omega) fun y hy => ?_) D6 (((kk.trans (Keep.of s3)).trans k2).trans (Keep.of ((snew hp5).trans s6)))
          rcases List.mem_append.mp hy with hy | hy
          · exact up (((off_same s3).trans sg).trans so) y hy
          · rw [List.mem_singleton.mp hy]; exact nx.mono so (Nat.le_refl _) (Nat.le_refl _)
        refine ⟨_, rfl, _, _, rfl, rfl, _, rfl, ite_b (fun _ => ?_) (fun _ => ?_)⟩
        · refine ⟨_, rfl, a, rfl, ⟨_, SqT.of ea⟩, fun D hD => lc_tup (K := K) (a := a) (xs := xs) (fun i H' => ∃ k, H' D = some (.lst ((ones k).map V.int)) ∧ k ≤ i ∧ Same H1 H')
            ⟨0, upd_same, Nat.le_refl _, snew hD⟩ (fun i H' _ ⟨_, _, _, s'⟩ => SqT.of (s' _ _ ea)) ?_ ?_⟩
          · rintro i x H' hx ⟨n', e1, e2, s'⟩
            have il := (List.getElem?_eq_some_iff.mp hx).1
            obtain ⟨d', _, dn', _, _, _⟩ := sh_dp (K := K) (qs x (List.mem_of_getElem? hx))
            have dn2 : Dn H' x d' := Dn.mono (Same.trans off_in s') d' _ dn'
            refine ⟨rfl, ?_⟩
            refine ⟨_, rfl, x, d', rfl, dn2, _, rfl, ite_b (fun e => ?_) (fun _ => ?_)⟩
            · obtain ⟨z, rfl, _⟩ := dn_int dn2 e
              refine ⟨_, rfl, z, rfl, _, _, rfl, rfl, ⟨by decide, by decide, by decide⟩, _, _, rfl, rfl, _, rfl, ite_b (fun _ => ?_) (fun _ => ?_)⟩
              · refine ⟨_, e1, by rw [ones_len]; exact small1000 (by omega), n' + 1, by rw [ones_succ, upd_same], by omega, fun c o e => ?_⟩
                rw [upd_ne (ne_of_none e hD)]; exact s' _ _ e
              · exact ⟨n', e1, by omega, s'⟩
            · refine iteF ?_
              exact ⟨n', e1, by omega, s'⟩
          · rintro H2 ⟨n', e1, e2, s2⟩
            refine ⟨Nat.zero_le _, fun p hp => ⟨.list ((ones n').map PyData.int), .list [], .lst (SqL.of (snew hp _ _ e1)) (ints_dp _), .lst (SqL.of upd_same) .nil, ints_shaped _, nil_shaped, ?_⟩⟩
            have s3 := s2.trans (snew (o := .lst []) hp)
            have D3 := D1.same s3
            refine ⟨_, rfl, _, rfl, ite_b (fun _ => ?_) (fun _ => ?_)⟩
            · refine ⟨_, rfl, a, xs, rfl, .inr (SqT.of (s3 _ _ ea)), fun p2 hp2 => ?_⟩
              exact k _ _ (finl p2 xs _ (off_free D3 hp2 upd_same) (by omega) (up ((off_same s3).trans (off_same (snew hp2))))) (D3.same (snew hp2)) ((kk.trans (Keep.of s3)).trans (Keep.of (snew hp2)))
            · refine ⟨_, rfl, a, xs, rfl, SqT.of (s3 _ _ ea), fun p2 hp2 => ?_⟩
              exact k _ _ (fin p2 xs.reverse _ (off_free D3 hp2 upd_same) (by rw [List.length_reverse]; omega) (fun y hy => up ((off_same s3).trans (off_same (snew hp2))) y (List.mem_reverse.mp hy))) (D3.same (snew hp2)) ((kk.trans (Keep.of s3)).trans (Keep.of (snew hp2)))
        refine ⟨_, rfl, _, _, rfl, rfl, _, rfl, ite_b (fun _ => ?_) (fun _ => ?_)⟩
        · refine ⟨_, rfl, _, rfl, _, rfl, sl_any ea fun p2 H2 e2 s2 => ?_⟩
          have tk : cutV xs none (some 1) = xs.take 1 := by
            by_cases z : xs = []
            · subst z; rfl
            · exact cut_hi xs 1 (List.length_pos_iff.mpr z)
          rw [tk] at e2
          refine cat_any (s2 _ _ ea) e2 (by rw [List.length_take]; omega) fun p3 H3 e3 s3 => ?_
          have D3 := D1.same (s2.trans s3)
          refine k _ H3 (fin p3 (xs ++ xs.take 1) H3 (deck_tup D3 e3) (by rw [List.length_append, List.length_take]; omega) fun y hy => ?_) D3 (kk.trans (Keep.of (s2.trans s3)))
          exact up (off_same (s2.trans s3)) y ((List.mem_append.mp hy).elim id List.mem_of_mem_take)
        refine ⟨_, rfl, _, _, rfl, rfl, _, rfl, ite_b (fun _ => ?_) (fun _ => ?_)⟩
        · refine ⟨_, rfl, _, rfl, ?_⟩
          dsimp only [tNoPart]
          refine sl_any ea fun p2 H2 e2 s2 => ?_
          have dr : ∀ y ∈ cutV xs (some 1) none, y ∈ xs := fun y hy => by
            by_cases z : xs = []
            · subst z; exact absurd hy (by simp [cutV])
            · rw [cut1 xs z] at hy; exact List.mem_of_mem_drop hy
          have ln : (cutV xs (some 1) none).length ≤ xs.length := by
            by_cases z : xs = []
            · subst z; simp [cutV]
            · rw [cut1 xs z, List.length_drop]; omega
          have D2 := D1.same s2
          exact k _ H2 (fin p2 _ H2 (deck_tup D2 e2) (by omega) fun y hy => up (off_same s2) y (dr y hy)) D2 (kk.trans (Keep.of s2))
        · refine ⟨_, rfl, by show 1 ≤ sizeLine; rw [sizeLine_eq]; decide, fun p2 hp2 => ?_⟩
          have D2 := D1.same (snew (o := .tup [.ref a]) hp2)
          refine k _ _ ((nd_one (m0 := szS (m + 1)) (k0 := m + 1) (deck_tup D2 upd_same) ((sh_nice sh1).mono (off_same (snew hp2)) (Nat.le_refl _) (Nat.le_refl _)) m).mono (Same.refl _) (by have := sz_le m; show 1 * (4 * (szS m + 2) + 3 + 2) + 3 ≤ 5 * (mB m + 2) + 60000; omega) (by omega)) D2 (kk.trans (Keep.of (snew hp2)))
      · refine ⟨_, rfl, dk, l, 5, rfl, D0, by decide, by decide, fun r H1 r0 r5' D1 k1 => ?_⟩
        refine ⟨rfl, _, rfl, ite_b (fun c3 => ?_) (fun c3 => ?_)⟩
        · obtain ⟨Hx, ex⟩ : ∃ Hx, H1 = Hx := ⟨_, rfl⟩
          have Dx : Deck Hx dk l := by rw [← ex]; exact D1
          have kx : Keep dk l H Hx := by rw [← ex]; exact kp0.trans k1
          rw [ex]
          clear D1 k1 ex
          refine ⟨_, rfl, dk, l, 14, rfl, Dx, by decide, by decide, fun way H9 w0 w1 D9 k9 => ?_⟩
          have kk := kx.trans k9
          have sh1 := sh.same (off_keep (dk := dk) (l := l) kk)
          obtain ⟨xs, ea1, l4, qs⟩ := id sh1
          have ea : H9 a = some (.tup xs) := off_in _ _ ea1
          obtain ⟨d, dp, dn, cl, dd, tp⟩ := sh_dp (K := K) sh1
          have dnH : Dn H9 (.ref a) d := Dn.mono off_in d _ dn
          have ni : ∀ x ∈ xs, NiceD (off dk l H9) (mB m) (m + 8) x := fun x hx => (sh_nice (qs x hx)).mono (Same.refl _) (sz_le m) (by omega)
          have fin : ∀ (r : Addr) (ys : List V) (H2 : Hp), off dk l H2 r = some (.tup ys) → ys.length ≤ 5 → (∀ y ∈ ys, NiceD (off dk l H2) (mB m) (m + 8) y) → NiceD (off dk l H2) (mB (m + 1)) (m + 1 + 8) (.ref r) := fun r ys H2 e hl hy => by
            refine (nd_tup e hy).mono (Same.refl _) ?_ (by omega)
            have : ys.length * (mB m + 2) ≤ 5 * (mB m + 2) := Nat.mul_le_mul_right _ hl
            show _ ≤ 5 * (mB m + 2) + 60000
            omega
          have finl : ∀ (r : Addr) (ys : List V) (H2 : Hp), off dk l H2 r = some (.lst ys) → ys.length ≤ 5 → (∀ y ∈ ys, NiceD (off dk l H2) (mB m) (m + 8) y) → NiceD (off dk l H2) (mB (m + 1)) (m + 1 + 8) (.ref r) := fun r ys H2 e hl hy => by
            refine (nd_list e hy).mono (Same.refl _) ?_ (by omega)
            have : ys.length * (mB m + 2) ≤ 5 * (mB m + 2) := Nat.mul_le_mul_right _ hl
            show _ ≤ 5 * (mB m + 2) + 60000
            omega
          have up : ∀ {H2 : Hp}, Same (off dk l H9) (off dk l H2) → ∀ x ∈ xs, NiceD (off dk l H2) (mB m) (m + 8) x := fun s x hx => (ni x hx).mono s (Nat.le_refl _) (Nat.le_refl _)
          have neI : isI d = false := isI_tp (tp.trans (decide_eq_true (by omega)))
          refine ⟨_, rfl, .ref a, d, rfl, dnH, _, rfl, ite_b (fun e => absurd e (by rw [neI]; decide)) (fun _ => ?_)⟩
          refine ⟨_, rfl, rfl, _, rfl, ite_b (fun _ => iteT ?_) (fun _ => ?_)⟩
          · refine ⟨_, rfl, dk, l, rfl, D9, fun r H2 nr D2 k2 => k r H2 (nr.mono (off_new D9) ?_ (by omega)) D2 (kk.trans k2)⟩
            have b2 : big 2 = 52032 := rfl
            have := mB_big (m + 1)
            omega
          refine ⟨_, rfl, .ref a, .ty "tuple", _, _, _, rfl, .ty _, dn_ty dnH, kit_ty (kit_t d), _, rfl, ?_⟩
          rw [tp, decide_eq_true (show 1 ≤ m + 1 by omega)]
          refine iteF ?_
          refine ⟨_, rfl, _, _, rfl, rfl, _, rfl, ite_b (fun _ => ?_) (fun _ => ?_)⟩
          · refine ⟨_, rfl, a, xs, rfl, .inr (SqT.of ea), fun p hp => ?_⟩
            exact k _ _ (finl p xs _ (off_free D9 hp upd_same) (by omega) (up (off_same (snew hp)))) (D9.same (snew hp)) (kk.trans (Keep.of (snew hp)))
          refine ⟨_, rfl, _, _, rfl, rfl, _, rfl, ite_b (fun _ => ?_) (fun _ => ?_)⟩
          · refine ⟨_, rfl, _, rfl, Nat.zero_le _, fun p0 hp0 => ?_⟩
            refine ⟨by show 3 ≤ sizeLine; rw [sizeLine_eq]; decide, fun p1 hp1 => ?_⟩
            refine ⟨by show 3 ≤ sizeLine; rw [sizeLine_eq]; decide, fun p2 hp2 => ?_⟩
            refine ⟨by show 1 ≤ sizeLine; rw [sizeLine_eq]; decide, fun p3 hp3 => ?_⟩
            refine ⟨by show 6 ≤ sizeLine; rw [sizeLine_eq]; decide, fun p4 hp4 => ?_⟩
            have s0 := snew (o := .tup []) hp0
            have s1 := s0.trans (snew (o := .tup [.int 1, .int 1, .int 1]) hp1)
            have s2 := s1.trans (snew (o := .tup [.int 1, .int 1, .int 1]) hp2)
            have s3 := s2.trans (snew (o := .tup [.ref p2]) hp3)
            have Dg := D9.same s3
            refine pick_new (E := E0) Dg hp4 (by simp) (by show 6 < _; decide) fun x H2 hx D2 k2 => ?_
            have sg : Same (off dk l _) (off dk l H2) := off_keep k2
            have one : ∀ (G : Hp) (p : Addr), G p = some (.tup [.int 1, .int 1, .int 1]) → NiceD G 6000 1 (.ref p) := fun G p e => (nd_tup e fun v hv => by
              simp only [List.mem_cons, List.not_mem_nil, or_false] at hv
              rcases hv with rfl | rfl | rfl <;> exact nd_int (by decide)).mono (Same.refl _) (by show 3 * (1921 + 2) + 3 ≤ 6000; decide) (Nat.le_refl _)
            have nx : NiceD (off dk l H2) (mB m) (m + 8) x := by
              have bm := mB_big m
              simp only [List.mem_cons, List.not_mem_nil, or_false] at hx
              rcases hx with rfl | rfl | rfl | rfl | rfl | rfl
              · exact (nd_tup (m := 1) (n := 0) (sg _ _ (off_free D9 hp0 ((((snew hp1).trans (snew hp2)).trans (snew hp3)) _ _ upd_same))) (fun v hv => absurd hv (by simp))).mono (Same.refl _) (by show 0 * 3 + 3 ≤ _; omega) (by omega)
              · exact (nd_int (by decide)).mono (Same.refl _) (by omega) (by omega)
              · exact (one _ p1 (sg _ _ (off_free D9 (s0.free hp1) (((snew hp2).trans (snew hp3)) _ _ upd_same)))).mono (Same.refl _) (by omega) (by omega)
              · refine (nd_tup (m := 6000) (n := 1) (sg _ _ (off_free D9 (s2.free hp3) upd_same)) fun v hv => ?_).mono (Same.refl _) (by show 1 * 6002 + 3 ≤ _; omega) (by omega)
                rw [List.mem_singleton.mp hv]
                exact one _ p2 (sg _ _ (off_free D9 (s1.free hp2) ((snew hp3) _ _ upd_same)))
              · exact (nd_non _).mono (Same.refl _) (by omega) (by omega)
              · exact (nd_bl _ true).mono (Same.refl _) (by omega) (by omega)
            refine ⟨by show 1 ≤ sizeLine; rw [sizeLine_eq]; decide, fun p5 hp5 => ?_⟩
            have na : a ≠ dk ∧ a ≠ l := ⟨(of_off ea1).1, (of_off ea1).2.1⟩
            refine cat_any (snew hp5 _ _ (k2 _ _ (s3 _ _ ea) na.1 na.2)) upd_same (by show xs.length + 1 ≤ 1000; omega) fun p6 H6 e6 s6 => ?_
            have D6 := (D2.same (snew (o := .tup [x]) hp5)).same s6
            have so : Same (off dk l H2) (off dk l H6) := (off_same (snew hp5)).trans (off_same s6)
            refine k _ H6 (fin p6 (xs ++ [x]) H6 (deck_tup D6 e6) (by rw [List.length_append]; show _ + 1 ≤ 5; omega) fun y hy => ?_) D6 (((kk.trans (Keep.of s3)).trans k2).trans (Keep.of ((snew hp5).trans s6)))
            rcases List.mem_append.mp hy with hy | hy
            · exact up (((off_same s3).trans sg).trans so) y hy
            · rw [List.mem_singleton.mp hy]; exact nx.mono so (Nat.le_refl _) (Nat.le_refl _)
          refine ⟨_, rfl, _, _, rfl, rfl, _, rfl, ite_b (fun _ => ?_) (fun _ => ?_)⟩
          · refine ⟨_, rfl, a, rfl, ⟨_, SqT.of ea⟩, fun D hD => lc_tup (K := K) (a := a) (xs := xs) (fun i H' => ∃ k, H' D = some (.lst ((ones k).map V.int)) ∧ k ≤ i ∧ Same H9 H')
              ⟨0, upd_same, Nat.le_refl _, snew hD⟩ (fun i H' _ ⟨_, _, _, s'⟩ => SqT.of (s' _ _ ea)) ?_ ?_⟩
            · rintro i x H' hx ⟨n', e1, e2, s'⟩
              have il := (List.getElem?_eq_some_iff.mp hx).1
              obtain ⟨d', _, dn', _, _, _⟩ := sh_dp (K := K) (qs x (List.mem_of_getElem? hx))
              have dn2 : Dn H' x d' := Dn.mono (Same.trans off_in s') d' _ dn'
              refine ⟨rfl, ?_⟩
              refine ⟨_, rfl, x, d', rfl, dn2, _, rfl, ite_b (fun e => ?_) (fun _ => ?_)⟩
              · obtain ⟨z, rfl, _⟩ := dn_int dn2 e
                refine ⟨_, rfl, z, rfl, _, _, rfl, rfl, ⟨by decide, by decide, by decide⟩, _, _, rfl, rfl, _, rfl, ite_b (fun _ => ?_) (fun _ => ?_)⟩
                · refine ⟨_, e1, by rw [ones_len]; exact small1000 (by omega), n' + 1, by rw [ones_succ, upd_same], by omega, fun c o e => ?_⟩
                  rw [upd_ne (ne_of_none e hD)]; exact s' _ _ e
                · exact ⟨n', e1, by omega, s'⟩
              · refine iteF ?_
                exact ⟨n', e1, by omega, s'⟩
            · rintro H2 ⟨n', e1, e2, s2⟩
              refine ⟨Nat.zero_le _, fun p hp => ⟨.list ((ones n').map PyData.int), .list [], .lst (SqL.of (snew hp _ _ e1)) (ints_dp _), .lst (SqL.of upd_same) .nil, ints_shaped _, nil_shaped, ?_⟩⟩
              have s3 := s2.trans (snew (o := .lst []) hp)
              have D3 := D9.same s3
              refine ⟨_, rfl, _, rfl, ite_b (fun _ => ?_) (fun _ => ?_)⟩
              · refine ⟨_, rfl, a, xs, rfl, .inr (SqT.of (s3 _ _ ea)), fun p2 hp2 => ?_⟩
                exact k _ _ (finl p2 xs _ (off_free D3 hp2 upd_same) (by omega) (up ((off_same s3).trans (off_same (snew hp2))))) (D3.same (snew hp2)) ((kk.trans (Keep.of s3)).trans (Keep.of (snew hp2)))
              · refine ⟨_, rfl, a, xs, rfl, SqT.of (s3 _ _ ea), fun p2 hp2 => ?_⟩
                exact k _ _ (fin p2 xs.reverse _ (off_free D3 hp2 upd_same) (by rw [List.length_reverse]; omega) (fun y hy => up ((off_same s3).trans (off_same (snew hp2))) y (List.mem_reverse.mp hy))) (D3.same (snew hp2)) ((kk.trans (Keep.of s3)).trans (Keep.of (snew hp2)))
          refine ⟨_, rfl, _, _, rfl, rfl, _, rfl, ite_b (fun _ => ?_) (fun _ => ?_)⟩
          · refine ⟨_, rfl, _, rfl, _, rfl, sl_any ea fun p2 H2 e2 s2 => ?_⟩
            have tk : cutV xs none (some 1) = xs.take 1 := by
              by_cases z : xs = []
              · subst z; rfl
              · exact cut_hi xs 1 (List.length_pos_iff.mpr z)
            rw [tk] at e2
            refine cat_any (s2 _ _ ea) e2 (by rw [List.length_take]; omega) fun p3 H3 e3 s3 => ?_
            have D3 := D9.same (s2.trans s3)
            refine k _ H3 (fin p3 (xs ++ xs.take 1) H3 (deck_tup D3 e3) (by rw [List.length_append, List.length_take]; omega) fun y hy => ?_) D3 (kk.trans (Keep.of (s2.trans s3)))
            exact up (off_same (s2.trans s3)) y ((List.mem_append.mp hy).elim id List.mem_of_mem_take)
          refine ⟨_, rfl, _, _, rfl, rfl, _, rfl, ite_b (fun _ => ?_) (fun _ => ?_)⟩
          · refine ⟨_, rfl, _, rfl, ?_⟩
            dsimp only [tNoPart]
            refine sl_any ea fun p2 H2 e2 s2 => ?_
            have dr : ∀ y ∈ cutV xs (some 1) none, y ∈ xs := fun y hy => by
              by_cases z : xs = []
              · subst z; exact absurd hy (by simp [cutV])
              · rw [cut1 xs z] at hy; exact List.mem_of_mem_drop hy
            have ln : (cutV xs (some 1) none).length ≤ xs.length := by
              by_cases z : xs = []
              · subst z; simp [cutV]
              · rw [cut1 xs z, List.length_drop]; omega
            have D2 := D9.same s2
            exact k _ H2 (fin p2 _ H2 (deck_tup D2 e2) (by omega) fun y hy => up (off_same s2) y (dr y hy)) D2 (kk.trans (Keep.of s2))
          · refine ⟨_, rfl, by show 1 ≤ sizeLine; rw [sizeLine_eq]; decide, fun p2 hp2 => ?_⟩
            have D2 := D9.same (snew (o := .tup [.ref a]) hp2)
            refine k _ _ ((nd_one (m0 := szS (m + 1)) (k0 := m + 1) (deck_tup D2 upd_same) ((sh_nice sh1).mono (off_same (snew hp2)) (Nat.le_refl _) (Nat.le_refl _)) m).mono (Same.refl _) (by have := sz_le m; show 1 * (4 * (szS m + 2) + 3 + 2) + 3 ≤ 5 * (mB m + 2) + 60000; omega) (by omega)) D2 (kk.trans (Keep.of (snew hp2)))
        · 
            have xn : xs0 ≠ [] := fun z => by
              rw [z] at lds
              have : ds0 = [] := List.length_eq_zero_iff.mp lds.symm
              rw [this] at c1; cases c1
            have pos : 0 < xs0.length := List.length_pos_iff.mpr xn
            have kk := kp0.trans k1
            have sh1 := sh.same (off_keep (dk := dk) (l := l) kk)
            obtain ⟨xs, ea1, l4, qs⟩ := id sh1
            have ea : H1 a = some (.tup xs) := off_in _ _ ea1
            have exs : xs = xs0 := by
              have := (off_keep (dk := dk) (l := l) kk) _ _ ea0
              rw [this] at ea1; cases ea1; rfl
            refine ⟨_, rfl, _, rfl, .ref a, xs.length, rfl, .inr ⟨xs, SqT.of ea, rfl⟩, dk, l, _, rfl, D1, by rw [exs]; omega, by omega, fun r H2 r0 r2' D2 k2 => ?_⟩
            obtain ⟨j, rfl⟩ : ∃ j : Nat, r = (j : Int) := ⟨r.toNat, by omega⟩
            have hj : j < xs.length := by omega
            have na : a ≠ dk ∧ a ≠ l := ⟨(of_off ea1).1, (of_off ea1).2.1⟩
            have ea2 : H2 a = some (.tup xs) := k2 _ _ ea na.1 na.2
            refine ⟨_, rfl, _, rfl, _, rfl, _, rfl, _, rfl, .inr (.inl ⟨a, xs, _, _, rfl, rfl, SqT.of ea2, atI_nat (List.getElem?_eq_getElem hj), _, rfl, _, _, rfl, rfl, dk, l, xs[j], deep - 1, rfl, D2, (qs _ (List.getElem_mem hj)).same (off_keep k2), fun r' H3 nr D3 k3 => ?_⟩)⟩
            have ea3 : H3 a = some (.tup xs) := k3 _ _ ea2 na.1 na.2
            refine ⟨a, xs, j, r', rfl, ea3, hj, by omega, fun rr H4 e4 s4 => ?_⟩
            have D4 := D3.same s4
            refine k _ H4 ?_ D4 (((kk.trans k2).trans k3).trans (Keep.of s4))
            have hy : ∀ y ∈ xs.take j ++ [r'] ++ xs.drop (j + 1), NiceD (off dk l H4) (mB m) (m + 8) y := fun y hy => by
              have old : ∀ y ∈ xs, NiceD (off dk l H4) (mB m) (m + 8) y := fun y hy => (sh_nice (qs y hy)).mono ((off_keep (k2.trans k3)).trans (off_same s4)) (sz_le m) (by omega)
              rcases List.mem_append.mp hy with hy | hy
              · rcases List.mem_append.mp hy with hy | hy
                · exact old y (List.mem_of_mem_take hy)
                · rw [List.mem_singleton.mp hy]; exact nr.mono (off_same s4) (Nat.le_refl _) (Nat.le_refl _)
              · exact old y (List.mem_of_mem_drop hy)
            have ln : (xs.take j ++ [r'] ++ xs.drop (j + 1)).length ≤ 5 := by
              rw [List.length_append, List.length_append, List.length_take, List.length_drop]
              show _ + 1 + _ ≤ 5
              omega
            refine (nd_tup (deck_tup D4 e4) hy).mono (Same.refl _) ?_ (by omega)
            have : (xs.take j ++ [r'] ++ xs.drop (j + 1)).length * (mB m + 2) ≤ 5 * (mB m + 2) := Nat.mul_le_mul_right _ ln
            show _ ≤ 5 * (mB m + 2) + 60000
            omega
end
end N3

namespace L2
open PySem PySem.Spec PyProof.Rows
/-- how a def of one parameter binds it by name -/
def Bk (K : PySem.W.Frag) (fd : FuncData) (y : Str) : Prop := ∀ (s : Shared) (u : Value), K.In s.heap → BindsTo s fd ⟨[], [(y, u)]⟩ [(y, u)]
section
variable {X : Cx} {CX : CXT} {k : Nat} {f : Addr} {fd : FuncData} {y x : Str} {sp : Sp} {E : St → XK} {p pos kp : Pos} {e : Expr} {te : TE}
/-- f(y=e) -/
theorem pe_by (F : FnOk X.prog X.w X.K X.mg X.base CX k f fd [y] sp) (hr : Room k X.A) (hm : X.mg x = some (.ref f)) (hk : PySem.W.keepIn X.K (.ref f) = true) (hb : Bk X.K fd y) (hx : ∀ σ, PassesAt CX X σ (E σ)) (he : PE X e te) (hg : Gl X x := by rfl)
    (hdb : (x == ("__debug__" : Str)) = false := by decide) (hall : (backToKw pos (keywordEach [⟨some y, e, kp⟩] X.env)).all (·.1.isSome) = true := by rfl) (hks : (backToKw pos (keywordEach [⟨some y, e, kp⟩] X.env)).filterMap (·.1) = [y] := by rfl)
    (hpl : ((backTo pos (starEach [] X.env)).any (·.1) || (backToKw pos (keywordEach [⟨some y, e, kp⟩] X.env)).any (·.1.isNone)) = false := by rfl) :
    PE X (.Call (.Name x p) [] [⟨some y, e, kp⟩] pos) (fun σ H Q => te σ H fun v H1 => sp [v] H1 Q (E σ)) := by
  refine ⟨fun pins s σ H Q I h => ?_⟩
  refine wpAny_Call_Name_kw (ld_glob I hg hm ?_ hdb)
  refine PySem.W.callWith_KW0 (h₀ := X.base) I.ok.mod.kin hk hall ?_ hpl
  have kk : PK X [⟨some y, e, kp⟩] (tCons te tNil) := pk_cons he pk_nil
  refine thn (kk.run pos pins s σ H (fun vs H1 => sp vs H1 Q (E σ)) I h) fun ws s1 ⟨vs, H1, I1, rz, q1⟩ => ⟨I1.kIn, ?_⟩
  have len := F.len _ _ _ _ q1
  match vs, len, rz, q1 with
  | [v], _, rz, q1 =>
    obtain ⟨u, rfl, ru⟩ := vals1 rz
    rw [hks]
    show wpAny _ _ (call (.ref f) [] [(y, u)]) _ _ _
    refine wpAny_call (codeAny_mono (F.run X.A X.stack s1 H1 ⟨[], [(y, u)]⟩ [u] [v] Q (E σ) hr I1.env0 (hb s1 u I1.kIn) (.cons ru .nil) q1) fun r s' hq => ?_)
    cases r with
    | error er => exact hx σ pins H1 s1 er s' I1 hq
    | ok fl =>
      cases fl with
      | ret w => exact I1.after hq
      | next => exact False.elim hq
      | brk => exact False.elim hq
      | cont => exact False.elim hq
end
end L2
namespace N3
open PySem PySem.Spec PyProof.Rows L2 N2
/-- what is known of the caught error -/
def tGotE (K : PySem.W.Frag) (i : Nat) (a : Addr) (cls : Value) (d : Option Addr) : TE := fun σ H Q => tVar i σ H fun x H1 => ∃ (C S dx : Addr) (v : V), x = .ref a ∧ cls = .ref C ∧ d = some dx ∧ SlC K C S ∧ H1 dx = some (.xd [("thing", v)]) ∧ Q v H1
theorem pe_thingP {X : Cx} {K : PySem.W.Frag} {a : Addr} {oe : Obj} {cls : Value} {d : Option Addr} {i : Nat} {e : Expr} {pos : Pos} (hK : X.K = K) (hp : (a, oe) ∈ X.pn) (hz : Zc cls d oe) (hf : ∃ vs, oe.data = .fields vs) (he : PE X e (tVar i))
    (hb : attributeBase e "thing" X.env (eval e X.env) = eval e X.env := by rfl) : PE X (.Attribute e "thing" pos) (tGotE K i a cls d) := by
  subst hK
  refine ⟨fun pins s σ H Q I h => (pe_thing he hb).run pins s σ H Q I ?_⟩
  obtain ⟨x, hx, C, S, dx, v, rfl, rfl, rfl, T, hd, q⟩ := h
  exact ⟨_, hx, a, C, S, v, rfl, T, ErrIs.pinned hp hz hf hd, q⟩
def tIsE (K : PySem.W.Frag) (i : Nat) (a : Addr) (S0 : Addr) (cls : Value) (d : Option Addr) : TE := fun σ H Q => tVar i σ H fun x H1 => ∃ (C S dx : Addr) (v : V) (b : Bool), x = .ref a ∧ cls = .ref C ∧ d = some dx ∧ SlC K C S ∧ H1 dx = some (.xd [("thing", v)]) ∧ PySem.W.kitOne K (.ref C) (.ref S0) = some b ∧ Q (.bl b) H1
theorem pe_isP {X : Cx} {K : PySem.W.Frag} {a S0 : Addr} {oe : Obj} {cls : Value} {d : Option Addr} {i : Nat} {ex : Expr} (hK : X.K = K) (hp : (a, oe) ∈ X.pn) (hz : Zc cls d oe) (hf : ∃ vs, oe.data = .fields vs)
    (hc : PE X ex (tCB (fun xs H Q => ∃ (a C S : Addr) (v c : V) (u : Value) (b : Bool), xs = [.ref a, c] ∧ ClsV c u ∧ SlC X.K C S ∧ ErrIs X H a C v ∧ PySem.W.kitOne X.K (.ref C) u = some b ∧ Q (.bl b) H) (tCons (tVar i) (tCons (tC (.ref S0)) tNil)))) :
    PE X ex (tIsE K i a S0 cls d) := by
  subst hK
  refine ⟨fun pins s σ H Q I h => hc.run pins s σ H Q I ?_⟩
  obtain ⟨x, hx, C, S, dx, v, b, rfl, rfl, rfl, T, hd, hk, q⟩ := h
  exact ⟨_, hx, a, C, S, v, .ref S0, .ref S0, b, rfl, .own _, T, ErrIs.pinned hp hz hf hd, hk, q⟩
def spTold : Sp := fun vs H Q _ => ∃ (v : V) (d : PyData) (w : Int), vs = [v, .int w] ∧ Dn H v d ∧ Short d ∧
  (∀ ds, d = .tuple ds → NP d → ∀ q r H', H' q = some (.tup [.str "told", r]) → Dn H' r (intOf ds) → Same H H' → Q (.ref q) H') ∧
  (¬ NP d → ∀ q H', H' q = some (.tup [.str "bad", v, .bl true]) → Same H H' → Q (.ref q) H')
def sTd (K : PySem.W.Frag) (S : Addr) : Suite := fun a cls d => tRet (tTup (tCons (tC (.str "bad")) (tCons (tGotE K 2 a cls d) (tCons (tIsE K 2 a S cls d) tNil))))
section
variable {P : Program} {w : World} {K : PySem.W.Frag} {mg : Str → Option Value} {base : Heap}
theorem scTold : FnScope ["thing", "way", "e"] ["thing", "way"] (defScope sTold) := ⟨rfl, rfl, rfl, by decide +kernel, rfl, by decide +kernel, by decide +kernel⟩
theorem ok_told {f f1 S C fI : Addr} {fd d1 fdI : FuncData} (F : Fun K "_law_integer_told" "_law_integer_told" sTold f fd) (T : Bt mg) (B : Bn P w K mg base S C fI fdI) (mS : mg "SlopeError" = some (.ref S)) (ex : PySem.W.exmOne K (.ref C) (.ref C) = some true) (ki : PySem.W.kitOne K (.ref C) (.ref S) = some true)
    (A1 : FnOk P w K mg base (L2.CX P w) 7 f1 d1 ["number"] (spIntOf C)) (m1 : mg "integer_of" = some (.ref f1)) (k1 : PySem.W.keepIn K (.ref f1) = true) (b1 : Binds K d1 ["number"] []) (bk : Bk K d1 "number") : FnOk P w K mg base CX0 8 f fd ["thing", "way"] spTold := by
  refine F.ok scTold (fun vs H Q E' h => ?_) (fun cdv A outer s H vs Q E' hr h => ?_)
  · obtain ⟨v, d, w, rfl, _⟩ := h
    rfl
  · obtain ⟨v, d, ww, rfl, hd, sh, q1, q2⟩ := h
    refine ⟨_, pss_one (ps_try_seq (i := 2) (l := [(.ref C, sTd K S)]) (Wout := fun _ _ _ _ => False) rfl rfl scTold.nd rfl rfl takes0
      (fun W pn xe tkW po => pss_one (ps_ret (pe_tup (pa_cons pe_str (pa_cons (pe_ifExp (pt_cmpR op_gt (pv 1) pe_int (nomark _)) (pe_callS A1 hr rfl m1 k1 b1 (fun σ => passAt tkW σ) (pa_cons (pv 0) pa_nil)) (pe_by A1 hr m1 k1 bk (fun σ => passAt tkW σ) (pv 0))) pa_nil)))))
      (SeqOk.cons (ts := sTd K S) ⟨rfl, by decide, .inl B.nm⟩ (fun a oe cls d pn hz hf => pss_one (ps_ret (pe_tup (pa_cons pe_str (pa_cons (pe_thingP rfl (List.mem_cons_self ..) hz hf (pv 2)) (pa_cons (pe_isP rfl (List.mem_cons_self ..) hz hf (pe_callB call_isE1 (by rfl) T.isi (by decide +kernel) (pa_cons (pv 2) (pa_cons (pe_glob (v := .ref S) rfl mS rfl) pa_nil)))) pa_nil)))))) .nil)), ?_⟩
    have air : ¬ NP d → Air H (WE (wSeq K 2 (fun _ _ _ _ => False) { nx := fun _ H' => Q .non H', rt := Q } [(.ref C, sTd K S)]) [some v, some (.int ww), none]) C v := fun n dx H' h1 h2 s1 => by
      refine ⟨true, ex, fun _ a ha => ?_, fun z => by cases z⟩
      refine ⟨_, rfl, C, S, dx, v, rfl, rfl, rfl, B.M.T, h2, _, rfl, C, S, dx, v, true, rfl, rfl, rfl, B.M.T, h2, ki, by show 3 ≤ sizeLine; rw [sizeLine_eq]; decide, fun q hq => ?_⟩
      exact q2 n q _ upd_same (s1.trans (snew hq))
    have good : ∀ ds, d = .tuple ds → NP d → ∀ r H', Dn H' r (intOf ds) → Same H H' → [V.str "told", r].length ≤ sizeLine ∧ ∀ p, H' p = none → Q (.ref p) (upd H' p (.tup [.str "told", r])) := fun ds e np r H' dr s1 =>
      ⟨by show 2 ≤ sizeLine; rw [sizeLine_eq]; decide, fun p hp => q1 ds e np p r _ upd_same (Dn.mono (snew hp) _ _ dr) (s1.trans (snew hp))⟩
    refine ⟨_, rfl, _, _, rfl, rfl, _, rfl, ite_b (fun _ => ?_) (fun _ => ?_)⟩
    · exact ⟨_, rfl, v, d, rfl, hd, sh, fun ds e np r H' dr s1 => good ds e np r H' dr s1, fun n => air n⟩
    · exact ⟨_, rfl, v, d, rfl, hd, sh, fun ds e np r H' dr s1 => good ds e np r H' dr s1, fun n => air n⟩
theorem scThing : FnScope ["deck", "way", "number", "top", "at", "by", "d", "bottom"] ["deck"] (defScope sThing) := ⟨rfl, rfl, rfl, by decide +kernel, rfl, by decide +kernel, by decide +kernel⟩
end
end N3

namespace N3
open PySem PySem.Spec PyProof.Rows L2 N2
theorem tri_sh {H : Hp} {x : V} (t : Tri H x) : Sh H 1 x := by
  obtain ⟨p, d, t', b, rfl, h, q1, q2, q3⟩ := t
  refine ⟨_, h, by show 3 ≤ 4; decide, fun y hy => ?_⟩
  simp only [List.mem_cons, List.not_mem_nil, or_false] at hy
  rcases hy with rfl | rfl | rfl
  · exact q1
  · exact q2
  · exact q3
theorem num_sh {H : Hp} {r : Addr} {xs : List V} (n : Num H r xs) : Sh H 2 (.ref r) := ⟨xs, n.1, n.2.1, fun x hx => tri_sh (n.2.2 x hx)⟩
def spThing : Sp := fun vs H Q _ => ∃ (dk l : Addr), vs = [.ref dk] ∧ Deck H dk l ∧ ∀ r H', NiceD (off dk l H') (mB 2) 10 r → Deck H' dk l → Keep dk l H H' → Q r H'
theorem mb2 : mB 2 = 1860060 := rfl
section
variable {P : Program} {w : World} {K : PySem.W.Frag} {mg : Str → Option Value} {base : Heap}
theorem ok_thing {f f1 f2 f3 f4 f5 f6 : Addr} {fd d1 d2 d3 d4 d5 d6 : FuncData} (F : Fun K "_law_thing" "_law_thing" sThing f fd) (T : Bt mg) (Dr : Kn P w K mg base 1 "_law_draw" ["deck", "many"] spDraw f1 d1) (Wi : Kn P w K mg base 3 "_law_wide" ["deck"] spWide f2 d2)
    (Ne : Kn P w K mg base 2 "_law_near" ["deck", "far"] spNear f3 d3) (Pk : Kn P w K mg base 2 "_law_pick" ["deck", "some"] (spPick K) f4 d4) (An : Kn P w K mg base 6 "_law_any" ["deck", "deep"] (spAny 3) f5 d5) (Be : Kn P w K mg base 9 "_law_bent" ["deck", "thing", "deep"] (spBent 2) f6 d6) :
    FnOk P w K mg base CX0 10 f fd ["deck"] spThing := by
  refine F.ok scThing (fun vs H Q E h => ?_) (fun cdv A outer s H vs Q E hr h => ?_)
  · obtain ⟨dk, l, rfl, _⟩ := h
    rfl
  · obtain ⟨dk, l, rfl, De, k⟩ := h
    have r1 : Room 1 _ := hr.mono (by decide)
    have r2 : Room 2 _ := hr.mono (by decide)
    have r3 : Room 3 _ := hr.mono (by decide)
    have r6 : Room 6 _ := hr.mono (by decide)
    refine ⟨_, pss_cons (ps_par (i := 1) (j := 2) rfl scThing.nd rfl rfl (by decide) rfl rfl (pa_cons (pe_call Dr.ok r1 rfl Dr.mg Dr.kp Dr.bd .nil pass0 (pa_cons (pv 0) (pa_cons pe_int pa_nil))) (pa_cons (pe_call Wi.ok r3 rfl Wi.mg Wi.kp Wi.bd .nil pass0 (pa_cons (pv 0) pa_nil)) pa_nil)) (by rfl))
      (pss_cons (ps_if (pt_cmpR op_lt (pv 1) pe_int (nomark _)) (pss_one (ps_ret (pv 2))) pss_nil)
      (pss_cons (ps_if (pt_cmpR op_eq (pv 1) pe_int (nomark _))
        (pss_cons (ps_set (i := 3) scThing.nd rfl (Or.inl rfl) (pe_call Ne.ok r2 rfl Ne.mg Ne.kp Ne.bd .nil pass0 (pa_cons (pv 0) (pa_cons pe_int pa_nil))))
        (pss_one (ps_ret (pe_tup (pa_cons (pe_tup (pa_cons (pe_call Pk.ok r2 rfl Pk.mg Pk.kp Pk.bd .nil pass0 (pa_cons (pv 0) (pa_cons (pe_lst (pa_cons pe_int (pa_cons pe_int (pa_cons pe_int (pa_cons pe_int (pa_cons (pe_un un_neg pe_int) (pa_cons pe_int (pa_cons pe_int pa_nil)))))))) pa_nil)))
          (pa_cons (pv 3) (pa_cons (pe_call Pk.ok r2 rfl Pk.mg Pk.kp Pk.bd .nil pass0 (pa_cons (pv 0) (pa_cons (pe_lst (pa_cons pe_int (pa_cons pe_int (pa_cons pe_int (pa_cons pe_int pa_nil))))) pa_nil))) pa_nil)))) pa_nil))))) pss_nil)
      (pss_cons (ps_if (PW.pt (pw_and (pt_cmpR op_eq (pv 1) pe_int (nomark _)) (pw_and1 (pt_cmpR (op_neD hr.units) (pv 2) (pe_tup pa_nil) (nomark _)))))
        (pss_cons (ps_par (i := 4) (j := 5) rfl scThing.nd rfl rfl (by decide) rfl rfl (pa_cons (pe_call Dr.ok r1 rfl Dr.mg Dr.kp Dr.bd .nil pass0 (pa_cons (pv 0) (pa_cons (pe_callB call_len (by rfl) T.len PySem.boot_len (pa_cons (pv 2) pa_nil)) pa_nil)))
          (pa_cons (pe_call Pk.ok r2 rfl Pk.mg Pk.kp Pk.bd .nil pass0 (pa_cons (pv 0) (pa_cons (pe_lst (pa_cons pe_int (pa_cons (pe_un un_neg pe_int) (pa_cons pe_int (pa_cons pe_int pa_nil))))) pa_nil))) pa_nil)) (by rfl))
        (pss_cons (ps_asg (pe_ix (r := rIx K) ix_seq (pv 2) (pv 4) (fun _ _ => rfl)) (pg_tup rfl (pgs_cons (pg_name (i := 6) scThing.nd rfl (Or.inl rfl)) (pgs_cons (pg_name (i := 3) scThing.nd rfl (Or.inl rfl)) (pgs_cons (pg_name (i := 7) scThing.nd rfl (Or.inl rfl)) pgs_nil)))))
        (pss_one (ps_ret (pe_op op_catA (pe_op op_catA (pe_slice sl_tupA (pv 2) po_none (po_some (pv 4))) (pe_tup (pa_cons (pe_tup (pa_cons (pv 6) (pa_cons (pe_op op_mul (pv 3) (pv 5)) (pa_cons (pe_op op_mul (pv 7) (pv 5)) pa_nil)))) pa_nil)))
          (pe_slice sl_tupA (pv 2) (po_some (pe_op op_add (pv 4) (pe_callTy call_int1 (by rfl) T.int (by decide +kernel) (pa_cons (pe_or (pe_cmpR op_gt (pv 5) pe_int (nomark _)) (pe_one (pe_cmpR op_lt (pv 5) pe_int (nomark _)))) pa_nil)))) po_none)))))) pss_nil)
      (pss_cons (ps_if (pt_cmpR op_eq (pv 1) pe_int (nomark _)) (pss_one (ps_ret (pe_call An.ok r6 rfl An.mg An.kp An.bd .nil pass0 (pa_cons (pv 0) (pa_cons pe_int pa_nil))))) pss_nil)
      (pss_one (ps_ret (pe_call Be.ok hr rfl Be.mg Be.kp Be.bd .nil pass0 (pa_cons (pv 0) (pa_cons (pv 2) (pa_cons (pe_op op_add pe_int (pe_call Dr.ok r1 rfl Dr.mg Dr.kp Dr.bd .nil pass0 (pa_cons (pv 0) (pa_cons pe_int pa_nil)))) pa_nil)))))))))), ?_⟩
    refine ⟨_, rfl, dk, l, 8, rfl, De, by decide, by decide, fun way H1 w0 w1 D1 k1 => ?_⟩
    refine ⟨_, rfl, dk, l, rfl, D1, fun nr xs H2 nm D2 k2 => ?_⟩
    refine ⟨_, _, rfl, ?_⟩
    have kk := k1.trans k2
    have b2 := mb2
    have sh := num_sh nm
    refine ⟨_, rfl, _, _, rfl, rfl, _, rfl, ite_b (fun _ => ?_) (fun _ => ?_)⟩
    · exact ⟨_, rfl, k _ H2 ((sh_nice sh).mono (Same.refl _) (sz_le 2) (by decide)) D2 kk⟩
    have en : H2 nr = some (.tup xs) := off_in _ _ nm.1
    have nn : nr ≠ dk ∧ nr ≠ l := ⟨(of_off nm.1).1, (of_off nm.1).2.1⟩
    refine ⟨_, rfl, rfl, _, rfl, ite_b (fun _ => ?_) (fun _ => ?_)⟩
    · refine ⟨_, rfl, dk, l, 40, rfl, D2, by decide, by decide, fun top H3 t0 t1 D3 k3 => ?_⟩
      refine ⟨_, rfl, _, rfl, by show 7 ≤ sizeLine; rw [sizeLine_eq]; decide, fun p1 hp1 => ?_⟩
      refine pick_new (E := E0) D3 hp1 (by simp) (by show 7 < _; decide) fun x H4 hx D4 k4 => ?_
      refine ⟨_, rfl, _, rfl, by show 4 ≤ sizeLine; rw [sizeLine_eq]; decide, fun p2 hp2 => ?_⟩
      refine pick_new (E := E0) D4 hp2 (by simp) (by show 4 < _; decide) fun y H5 hy D5 k5 => ?_
      refine ⟨by show 3 ≤ sizeLine; rw [sizeLine_eq]; decide, fun p3 hp3 => ?_⟩
      refine ⟨by show 1 ≤ sizeLine; rw [sizeLine_eq]; decide, fun p4 hp4 => ?_⟩
      have s5 := (snew (o := .tup [x, .int top, y]) hp3).trans (snew (o := .tup [.ref p3]) hp4)
      have D6 := D5.same s5
      refine k _ _ ?_ D6 ((((kk.trans k3).trans k4).trans k5).trans (Keep.of s5))
      have xi : ∃ i : Int, x = .int i ∧ i.natAbs.log2 < 1920 := by
        simp only [List.mem_cons, List.not_mem_nil, or_false] at hx
        rcases hx with rfl | rfl | rfl | rfl | rfl | rfl | rfl <;> exact ⟨_, rfl, by decide⟩
      have yi : ∃ i : Int, y = .int i ∧ i.natAbs.log2 < 1920 := by
        simp only [List.mem_cons, List.not_mem_nil, or_false] at hy
        rcases hy with rfl | rfl | rfl | rfl <;> exact ⟨_, rfl, by decide⟩
      obtain ⟨xi, rfl, xl⟩ := xi
      obtain ⟨yi, rfl, yl⟩ := yi
      have tl : top.natAbs.log2 < 1920 := bd_more (i := 10) (by show (10 : Int).natAbs < 10 ^ 31; decide) (by show top.natAbs ≤ 41; omega)
      have n3 : NiceD (off dk l (upd (upd H5 p3 (.tup [.int xi, .int top, .int yi])) p4 (.tup [.ref p3]))) (3 * 1923 + 3) 1 (.ref p3) := nd_tup (deck_tup D6 (snew hp4 _ _ upd_same)) fun v hv => by
        simp only [List.mem_cons, List.not_mem_nil, or_false] at hv
        rcases hv with rfl | rfl | rfl
        · exact nd_int xl
        · exact nd_int tl
        · exact nd_int yl
      exact (nd_tup (deck_tup D6 upd_same) fun v hv => by rw [List.mem_singleton.mp hv]; exact n3).mono (Same.refl _) (by show 1 * (3 * 1923 + 3 + 2) + 3 ≤ mB 2; rw [b2]; decide) (by decide)
    have last : ∀ {Q2 : VK}, True := trivial
    have tail : ∀ Hx, Deck Hx dk l → Same H2 Hx → (tSeq (tIfS (tTest (tOp rEq (tVar 1) (tC (.int 4)))) (tRet (tCall (spAny 3) [] E0 (tCons (tVar 0) (tCons (tC (.int 3)) tNil)))) tNext)
        (tRet (tCall (spBent 2) [] E0 (tCons (tVar 0) (tCons (tVar 2) (tCons (tOp (rI0 fun i j => .int (i + j)) (tC (.int 1)) (tCall spDraw [] E0 (tCons (tVar 0) (tCons (tC (.int 3)) tNil)))) tNil))))))
        { nx := fun _ H' => Q .non H', rt := Q } [some (.ref dk), some (.int way), some (.ref nr), none, none, none, none, none] Hx := fun Hx Dx sx => by
      refine ⟨_, rfl, rfl, _, rfl, ite_b (fun _ => ?_) (fun _ => ?_)⟩
      · refine ⟨_, rfl, dk, l, rfl, Dx, fun r H4 nr4 D4 k4 => k r H4 (nr4.mono (off_new Dx) (by show 160104 ≤ mB 2; rw [b2]; decide) (by decide)) D4 ((kk.trans (Keep.of sx)).trans k4)⟩
      · refine ⟨_, rfl, _, rfl, _, rfl, dk, l, 3, rfl, Dx, by decide, by decide, fun dp H4 p0 p1 D4 k4 => ?_⟩
        refine ⟨_, _, rfl, rfl, dk, l, .ref nr, 1 + dp, rfl, D4, sh.same ((off_same sx).trans (off_keep k4)), fun r H5 nr5 D5 k5 => ?_⟩
        exact k r H5 (nr5.mono (Same.refl _) (Nat.le_refl _) (by decide)) D5 (((kk.trans (Keep.of sx)).trans k4).trans k5)
    refine ⟨_, rfl, rfl, _, rfl, ite_b (fun _ => ?_) (fun _ => iteF (tail H2 D2 (Same.refl _)))⟩
    obtain ⟨d0, dp0, dn0, cl0, dd0, tp0⟩ := sh_dp (K := K) sh
    obtain ⟨a', xs', ds0, e1', rfl, e2', ra0⟩ := dn_tup dn0 (tp0.trans (decide_eq_true (by decide)))
    cases e1'
    rw [nm.1] at e2'
    cases e2'
    have lds : xs.length = ds0.length := ra0.length
    refine ⟨_, rfl, Nat.zero_le _, fun p0 hp0 => ⟨.tuple ds0, .tuple [], ?_, .tup (SqT.of upd_same) .nil, ?_, rfl, _, rfl, ?_⟩⟩
    · obtain ⟨d1, dp1, dn1, _⟩ := sh_dp (K := K) (sh.same (off_in.trans (snew (o := .tup []) hp0)))
      have : d1 = .tuple ds0 := dn_det _ _ _ dn1 (Dn.mono (off_in.trans (snew hp0)) _ _ dn0)
      rw [← this]; exact dp1
    · show (PyData.canLay0 (.tuple ds0) && decide (PyData.depth (.tuple ds0) ≤ 64)) = true
      rw [Bool.and_eq_true]
      exact ⟨cl0, decide_eq_true (by omega)⟩
    rw [eqv_nil_t]
    have s0 := snew (o := .tup []) hp0
    have D3 := D2.same s0
    cases ee : ds0.isEmpty with
    | true => exact iteF (tail _ D3 s0)
    | false =>
      refine iteT ?_
      have pos : 0 < xs.length := by
        rw [lds]
        cases ds0 with
        | nil => cases ee
        | cons _ _ => simp
      have l4 := nm.2.1
      refine ⟨_, rfl, _, rfl, .ref nr, xs.length, rfl, .inr ⟨xs, SqT.of (s0 _ _ en), rfl⟩, dk, l, _, rfl, D3, by omega, by omega, fun r H4 r0 r1' D4 k4 => ?_⟩
      obtain ⟨j, rfl⟩ : ∃ j : Nat, r = (j : Int) := ⟨r.toNat, by omega⟩
      have hj : j < xs.length := by omega
      refine ⟨_, rfl, _, rfl, by show 4 ≤ sizeLine; rw [sizeLine_eq]; decide, fun p1 hp1 => ?_⟩
      refine pick_new (E := E0) D4 hp1 (by simp) (by show 4 < _; decide) fun x H5 hx D5 k5 => ?_
      obtain ⟨by_, rfl, byl⟩ : ∃ i : Int, x = .int i ∧ i.natAbs ≤ 3 := by
        simp only [List.mem_cons, List.not_mem_nil, or_false] at hx
        rcases hx with rfl | rfl | rfl | rfl <;> exact ⟨_, rfl, by decide⟩
      refine ⟨_, _, rfl, ?_⟩
      have nm5 : Num (off dk l H5) nr xs := nm.same (((off_same s0).trans (off_keep k4)).trans (off_keep k5))
      obtain ⟨q, d, t, b, ex, hq, bd, bt, bb⟩ := nm5.2.2 _ (List.getElem_mem hj)
      have hq5 : H5 q = some (.tup [.int d, .int t, .int b]) := off_in _ _ hq
      have en5 : H5 nr = some (.tup xs) := off_in _ _ nm5.1
      refine ⟨_, rfl, _, rfl, .inr (.inl ⟨nr, xs, _, _, rfl, rfl, SqT.of en5, atI_nat (List.getElem?_eq_getElem hj), ?_⟩)⟩
      refine ⟨q, _, ex, SqT.of hq5, rfl, _, _, rfl, _, _, rfl, _, _, rfl, rfl, ?_⟩
      refine ⟨_, rfl, _, rfl, _, rfl, sl_any en5 fun p2 H6 e6 s6 => ?_⟩
      rw [cut_hi xs j (by omega)] at e6
      have cm : ∀ z : Int, CMul z by_ := fun z => .inr ⟨by omega, by omega⟩
      refine ⟨_, rfl, _, rfl, _, rfl, _, _, rfl, rfl, cm _, _, rfl, _, rfl, _, _, rfl, rfl, cm _, by show 3 ≤ sizeLine; rw [sizeLine_eq]; decide, fun p3 hp3 => ?_⟩
      refine ⟨by show 1 ≤ sizeLine; rw [sizeLine_eq]; decide, fun p4 hp4 => ?_⟩
      have s7 := (snew (o := .tup [.int d, .int (t * by_), .int (b * by_)]) hp3).trans (snew (o := .tup [.ref p3]) hp4)
      refine cat_any (s7 _ _ e6) upd_same (by rw [List.length_take]; show _ + 1 ≤ _; omega) fun p5 H8 e8 s8 => ?_
      have s68 := (s6.trans s7).trans s8
      have fin : ∀ (z : Nat), z ≤ xs.length → ∀ p6 H9, H9 p6 = some (.tup (xs.drop z)) → Same H8 H9 → rCatA K (.ref p5) (.ref p6) H9 Q := fun z hz p6 H9 e9 s9 => by
        refine cat_any (s9 _ _ e8) e9 (by rw [List.length_append, List.length_take, List.length_drop]; show _ + 1 + _ ≤ _; omega) fun p7 H10 e10 s10 => ?_
        have sall := (s68.trans s9).trans s10
        have D10 := D5.same sall
        refine k _ H10 ?_ D10 ((((kk.trans (Keep.of s0)).trans k4).trans k5).trans (Keep.of sall))
        have nice : ∀ y ∈ xs.take j ++ [V.ref p3] ++ xs.drop z, NiceD (off dk l H10) 8000 1 y := fun y hy => by
          have old : ∀ y ∈ xs, NiceD (off dk l H10) 8000 1 y := fun y hy => (sh_nice (tri_sh ((nm5.2.2 y hy).same (off_same sall)))).mono (Same.refl _) (by show 4 * (1921 + 2) + 3 ≤ 8000; decide) (Nat.le_refl _)
          rcases List.mem_append.mp hy with hy | hy
          · rcases List.mem_append.mp hy with hy | hy
            · exact old y (List.mem_of_mem_take hy)
            · rw [List.mem_singleton.mp hy]
              have h3 : H10 p3 = some (.tup [.int d, .int (t * by_), .int (b * by_)]) := ((s8.trans s9).trans s10) _ _ (snew hp4 _ _ upd_same)
              refine (nd_tup (m := 1921) (n := 0) (deck_tup D10 h3) fun v hv => ?_).mono (Same.refl _) (by show 3 * 1923 + 3 ≤ 8000; decide) (Nat.le_refl _)
              have mul3 : ∀ u : Int, (u * by_).natAbs ≤ 4 * u.natAbs + 1 := fun u => by
                rw [Int.natAbs_mul]
                have : u.natAbs * by_.natAbs ≤ u.natAbs * 3 := Nat.mul_le_mul_left _ byl
                omega
              simp only [List.mem_cons, List.not_mem_nil, or_false] at hv
              rcases hv with rfl | rfl | rfl
              · exact nd_int (Nat.lt_trans (bd_log bd) (by decide))
              · exact nd_int (bd_more bt (mul3 t))
              · exact nd_int (bd_more bb (mul3 b))
          · exact old y (List.mem_of_mem_drop hy)
        refine (nd_tup (deck_tup D10 e10) nice).mono (Same.refl _) ?_ (by decide)
        have ln : (xs.take j ++ [V.ref p3] ++ xs.drop z).length ≤ 9 := by
          rw [List.length_append, List.length_append, List.length_take, List.length_drop]
          show _ + 1 + _ ≤ 9
          omega
        have : (xs.take j ++ [V.ref p3] ++ xs.drop z).length * 8002 ≤ 9 * 8002 := Nat.mul_le_mul_right _ ln
        rw [b2]
        omega
      have step : ∀ bz : Bool, rSlA K (.ref nr) (some ((j : Int) + (if bz then 1 else 0))) none H8 (fun y H9 => rCatA K (.ref p5) y H9 Q) := fun bz => by
        obtain ⟨z, ez, hz⟩ : ∃ z : Nat, (j : Int) + (if bz then 1 else 0) = (z : Int) ∧ z ≤ xs.length := by
          cases bz
          · exact ⟨j, by simp, by omega⟩
          · exact ⟨j + 1, by simp, by omega⟩
        rw [ez]
        refine sl_any (s68 _ _ en5) fun p6 H9 e9 s9 => ?_
        rw [cut_lo xs z hz] at e9
        exact fin z hz p6 H9 e9 s9
      refine ⟨_, rfl, _, rfl, _, rfl, _, _, rfl, rfl, _, rfl, ite_b (fun _ => ?_) (fun _ => ?_)⟩
      · refine .inr ⟨true, rfl, _, _, rfl, rfl, _, rfl, ?_⟩
        dsimp only [tNoPart]
        exact step true
      · refine ⟨_, rfl, _, _, rfl, rfl, .inr ⟨_, rfl, _, _, rfl, rfl, _, rfl, ?_⟩⟩
        dsimp only [tNoPart]
        exact step _
end
end N3

namespace N3
open PySem PySem.Spec PyProof.Rows L2 N2
theorem lean_fit {a : Int} (h : Lean_ a) (hs : a.natAbs ≤ 1000000) : Fit a := by
  refine ⟨h.1, by omega, fun q hq d => ?_⟩
  have h0 := h.1
  have le := Nat.le_of_dvd (by omega) d
  have : q ≤ 1000 := by
    by_cases c : q ≤ 1000
    · exact c
    · have : 1001 * 1001 ≤ q * q := Nat.mul_le_mul (by omega) (by omega)
      omega
  exact h.2 q hq this d
theorem fit_lean {a : Int} (h : Fit a) : Lean_ a := ⟨h.1, fun p p2 _ d => h.2.2 p p2 d⟩
theorem low_iff {b c : Int} : lowT b c = true ↔ 0 < c ∧ Nat.gcd b.natAbs c.natAbs = 1 := by
  unfold lowT
  rw [Bool.and_eq_true, decide_eq_true_iff, decide_eq_true_iff]
  exact ⟨fun h => ⟨by omega, h.2⟩, fun h => ⟨by omega, h.2⟩⟩
theorem tl_tp {d : PyData} (h : TL d) (hs : (hdI d).natAbs ≤ 1000000) : TP d := by
  obtain ⟨a, b, c, rfl, h1, h2, h3, h4⟩ := h
  exact ⟨a, b, c, rfl, h1, low_iff.mpr ⟨h2, h3⟩, lean_fit h4 hs⟩
theorem tp_tl {d : PyData} (h : TP d) : TL d := by
  obtain ⟨a, b, c, rfl, h1, h2, h3⟩ := h
  have := low_iff.mp h2
  exact ⟨a, b, c, rfl, h1, this.1, this.2, fit_lean h3⟩
theorem np_nl {d : PyData} (h : NP d) : NL d := let ⟨ds, e, t, a⟩ := h; ⟨ds, e, fun x hx => tp_tl (t x hx), a⟩
theorem bool_of {a b : Bool} {p : Prop} (h1 : a = true ↔ p) (h2 : b = true ↔ p) : a = b := by
  cases a <;> cases b <;> simp_all
def spRight : Sp := fun vs H Q _ => ∃ (v : V) (d : PyData) (w : Int), vs = [v, .int w] ∧ Dn H v d ∧ Okd 1860060 10 d ∧ ∀ H', Same H H' → Q (.bl true) H'
theorem okd3 {d : PyData} {x : Str} (h : Okd 1860060 10 d) (hx : (reprText x).length ≤ 20) : Okd 5600000 11 (.tuple [.str x, d, .bool true]) := by
  refine (okd_tup (m := 1860060) (n := 10) fun y hy => ?_).mono (by show 3 * 1860062 + 3 ≤ 5600000; decide) (Nat.le_refl _)
  simp only [List.mem_cons, List.not_mem_nil, or_false] at hy
  rcases hy with rfl | rfl | rfl
  · exact (okd_str hx).mono (by decide) (by decide)
  · exact h
  · exact (okd_bl true).mono (by decide) (by decide)
theorem okd2 {d : PyData} {x : Str} (h : Okd 1921 0 d) (hx : (reprText x).length ≤ 20) : Okd 6000 1 (.tuple [.str x, d]) := by
  refine (okd_tup (m := 1921) (n := 0) fun y hy => ?_).mono (by show 2 * 1923 + 3 ≤ 6000; decide) (Nat.le_refl _)
  simp only [List.mem_cons, List.not_mem_nil, or_false] at hy
  rcases hy with rfl | rfl
  · exact (okd_str hx).mono (by decide) (by decide)
  · exact h
theorem okdB (a b c : Bool) : Okd 40 1 (.tuple [.bool a, .bool b, .bool c]) := by
  refine (okd_tup (m := 5) (n := 0) fun y hy => ?_).mono (by show 3 * 7 + 3 ≤ 40; decide) (Nat.le_refl _)
  simp only [List.mem_cons, List.not_mem_nil, or_false] at hy
  rcases hy with rfl | rfl | rfl <;> exact okd_bl _
section
variable {P : Program} {w : World} {K : PySem.W.Frag} {mg : Str → Option Value} {base : Heap}
abbrev nsR : List Str := ["thing", "way", "due", "told", "fraction", "whole", "d", "top", "bottom"]
theorem scRight : FnScope nsR ["thing", "way"] (defScope sRight) := ⟨rfl, rfl, rfl, by decide +kernel, rfl, by decide +kernel, by decide +kernel⟩
theorem ok_right {f f1 f2 f3 f4 : Addr} {fd d1 d2 d3 d4 : FuncData} (sy : Sy base) (F : Fun K "_law_is_right" "_law_is_right" sRight f fd) (T : Bt mg) (Ln : Kn P w K mg base 3 "_law_is_number" ["thing"] spLNumber f1 d1) (Nb : Kn P w K mg base 5 "is_number" ["thing"] spNumber f2 d2) (nk : Bk K d2 "thing")
    (Fr : Kn P w K mg base 6 "is_fraction" ["thing"] spFraction f3 d3) (fk : Bk K d3 "thing") (To : Kn P w K mg base 8 "_law_integer_told" ["thing", "way"] spTold f4 d4) : FnG P w K mg base 9 f fd ["thing", "way"] spRight := by
  refine fn_idle F scRight (fun vs H Q E h => ?_) (fun cdv A outer s H vs Q hr hi h => ?_)
  · obtain ⟨v, d, ww, rfl, _⟩ := h
    rfl
  · obtain ⟨v, d, ww, rfl, hd, ok, k⟩ := h
    have r3 : Room 3 _ := hr.mono (by decide)
    have r5 : Room 5 _ := hr.mono (by decide)
    have r6 : Room 6 _ := hr.mono (by decide)
    have hu : (A.deeper (envOfC "_law_is_right" (defScope sRight) s.heap.objs.size f cdv)).units + 70 < cLine := by have := hr.un; omega
    have at0 : ∀ {X : Cx} (σ : L2.St), PassesAt CX0 X σ E0 := fun σ pins H s e s' I c => pass0 pins σ H s e s' I c
    refine ⟨_, pss_cons (ps_set (i := 2) scRight.nd rfl (Or.inl rfl) (pe_call Ln.ok r3 rfl Ln.mg Ln.kp Ln.bd .nil pass0 (pa_cons (pv 0) pa_nil)))
      (C8.pss_cut (ps_if (PW.pt (pw_and (pt_val (pv 2)) (pw_and1 (PW.pt (pw_or (pt_cmpR op_gt (pe_callB call_len (by rfl) T.len PySem.boot_len (pa_cons (pv 0) pa_nil)) pe_int (nomark _))
        (pw_or1 (pt_cmpR (op_neD hr.units) (pe_lc (own := [("d", 6), ("top", 7), ("bottom", 8)]) (g := gTup K 3 (gCons (gName 6) (gCons (gName 7) (gCons (gName 8) gNil)))) (tt := _) rfl scRight.nd (pi_tup (pv 0)) (blkOk_by (own := [("d", 6), ("top", 7), ("bottom", 8)]) (N := nsR) (sc := defScope sRight) (by decide +kernel))
          (fun _ _ _ _ _ => pg_tup rfl (pgs_cons (pg_name (i := 6) scRight.nd rfl (Or.inl rfl)) (pgs_cons (pg_name (i := 7) scRight.nd rfl (Or.inl rfl)) (pgs_cons (pg_name (i := 8) scRight.nd rfl (Or.inl rfl)) pgs_nil))))
          (fun _ _ _ _ _ => pts_one (PW.pt (pw_or (pt_cmpR op_ge (pe_callB (call_max2 rfl) (by rfl) T.max (by decide +kernel) (pa_cons (pe_callB call_abs (by rfl) T.abs (by decide +kernel) (pa_cons (pv 7) pa_nil)) (pa_cons (pv 8) pa_nil))) (pe_op op_pow pe_int pe_int) (nomark _))
            (pw_or1 (pt_cmpR op_gt (pe_callB call_abs (by rfl) T.abs (by decide +kernel) (pa_cons (pv 6) pa_nil)) (pe_op op_pow pe_int pe_int) (nomark _)))))) (fun _ _ _ _ _ => pe_int)) (pe_lst pa_nil) (nomark _)))))))) (pss_one (ps_ret pe_bl)) pss_nil)
      (C8.pss_cut (ps_set (i := 3) scRight.nd rfl (Or.inl rfl) (pe_tup (pa_cons (pe_call Nb.ok r5 rfl Nb.mg Nb.kp Nb.bd .nil pass0 (pa_cons (pv 0) pa_nil)) (pa_cons (pe_by Nb.ok r5 Nb.mg Nb.kp nk at0 (pv 0))
        (pa_cons (pe_ifExp (pt_cmpR op_gt (pv 1) pe_int (nomark _)) (pe_call Fr.ok r6 rfl Fr.mg Fr.kp Fr.bd .nil pass0 (pa_cons (pv 0) pa_nil)) (pe_by Fr.ok r6 Fr.mg Fr.kp fk at0 (pv 0))) pa_nil)))))
      (C8.pss_cut (ps_set (i := 4) scRight.nd rfl (Or.inl rfl) (pe_and (pv 2) (pe_one (pe_or (pe_cmpR (op_eqD hr.units) (pv 0) (pe_tup pa_nil) (nomark _)) (pe_one (pe_and (pe_cmpR op_eq (pe_callB call_len (by rfl) T.len PySem.boot_len (pa_cons (pv 0) pa_nil)) pe_int (nomark _))
        (pe_one (pe_cmpR op_eq (pe_ix (r := rIx K) ix_seq (pe_ix (r := rIx K) ix_seq (pv 0) pe_int (fun _ _ => rfl)) pe_int (fun _ _ => rfl)) pe_int (nomark _)))))))))
      (pss_cons (ps_if (pt_cmpR op_ne (pe_callB (call_repr sy hi hu) (by rfl) T.repr (by decide +kernel) (pa_cons (pv 3) pa_nil)) (pe_callB (call_repr sy hi hu) (by rfl) T.repr (by decide +kernel) (pa_cons (pe_tup (pa_cons (pv 2) (pa_cons (pv 2) (pa_cons (pv 4) pa_nil)))) pa_nil)) (nomark _)) (pss_one (ps_ret pe_bl)) pss_nil)
      (pss_cons (ps_if (pt_not (pt_val (pv 2))) (pss_one (ps_ret (pe_cmpR op_eq (pe_callB (call_repr sy hi hu) (by rfl) T.repr (by decide +kernel) (pa_cons (pe_call To.ok hr rfl To.mg To.kp To.bd .nil pass0 (pa_cons (pv 0) (pa_cons (pv 1) pa_nil))) pa_nil))
        (pe_callB (call_repr sy hi hu) (by rfl) T.repr (by decide +kernel) (pa_cons (pe_tup (pa_cons pe_str (pa_cons (pv 0) (pa_cons pe_bl pa_nil)))) pa_nil)) (nomark _)))) pss_nil)
      (C8.pss_cut (ps_set (i := 5) scRight.nd rfl (Or.inl rfl) (pe_ifExp (pt_cmpR (op_eqD hr.units) (pv 0) (pe_tup pa_nil) (nomark _)) pe_int (pe_ifExp (PW.pt (pw_and (pt_val (pv 4)) (pw_and1 (pt_cmpR op_eq (pe_ix (r := rIx K) ix_seq (pe_ix (r := rIx K) ix_seq (pv 0) pe_int (fun _ _ => rfl)) pe_int (fun _ _ => rfl)) pe_int (nomark _)))))
        (pe_ix (r := rIx K) ix_seq (pe_ix (r := rIx K) ix_seq (pv 0) pe_int (fun _ _ => rfl)) pe_int (fun _ _ => rfl)) pe_non)))
      (pss_one (ps_ret (pe_cmpR op_eq (pe_callB (call_repr sy hi hu) (by rfl) T.repr (by decide +kernel) (pa_cons (pe_call To.ok hr rfl To.mg To.kp To.bd .nil pass0 (pa_cons (pv 0) (pa_cons (pv 1) pa_nil))) pa_nil))
        (pe_callB (call_repr sy hi hu) (by rfl) T.repr (by decide +kernel) (pa_cons (pe_tup (pa_cons pe_str (pa_cons (pv 5) pa_nil))) pa_nil)) (nomark _)))))))))), ?_⟩
    have sh : Short d := fun ds e => by
      subst e
      have := okd_short ok
      omega
    refine ⟨_, rfl, v, d, rfl, hd, sh, fun due H1 hdue s1 => ?_⟩
    have scalS : ∀ x y : Str, scal (V.str x) (V.str y) = true := fun _ _ => rfl
    have p6' : (10 : Int) ^ (6 : Int).toNat = 1000000 := by decide
    refine ⟨fun σ' H' => σ' = [some v, some (.int ww), some (.bl due), none, none, none, none, none, none] ∧ Same H H' ∧ (due = true ↔ NP d), ?_, ?_⟩
    · refine ⟨_, rfl, _, rfl, ite_b (fun ed => ?_) (fun ed => ?_)⟩
      · obtain ⟨ds, rfl, tl, asc⟩ := hdue.mp ed
        obtain ⟨a, xs, ds', rfl, e2, ea, ra⟩ := dn_tup hd rfl
        cases e2
        have hl := sh ds rfl
        refine ⟨_, rfl, .ref a, xs.length, rfl, .inr ⟨xs, SqT.of (s1 _ _ ea), rfl⟩, _, _, rfl, rfl, _, rfl, ite_b (fun _ => iteT ?_) (fun _ => ?_)⟩
        · exact k H1 s1
        refine ⟨_, rfl, a, rfl, ⟨_, SqT.of (s1 _ _ ea)⟩, fun D hD => lc_tup (K := K) (a := a) (xs := xs) (fun i H' => ∃ n, H' D = some (.lst ((ones n).map V.int)) ∧ n ≤ i ∧ (n = 0 → ∀ j, j < i → ∀ x, ds[j]? = some x → (hdI x).natAbs ≤ 1000000) ∧ Same H1 H')
          ⟨0, upd_same, Nat.le_refl _, (fun _ j hj => by omega), snew hD⟩ (fun i H' _ ⟨_, _, _, _, s'⟩ => SqT.of (s' _ _ (s1 _ _ ea))) ?_ ?_⟩
        · rintro i x H' hx ⟨n, e1, e2, e3, s'⟩
          obtain ⟨d', ed', dn'⟩ := ra.at_ hx
          have il : i < ds.length := (List.getElem?_eq_some_iff.mp ed').1
          obtain ⟨p, a', b', c', rfl, rfl, hp⟩ := tl_shape dn' (tl _ (List.mem_of_getElem? ed'))
          have hp' := s' _ _ (s1 _ _ hp)
          have more : ∃ acc, H' D = some (.lst acc) ∧ acc.length < sizeLine ∧ (fun i H' => ∃ n, H' D = some (.lst ((ones n).map V.int)) ∧ n ≤ i ∧ (n = 0 → ∀ j, j < i → ∀ x, ds[j]? = some x → (hdI x).natAbs ≤ 1000000) ∧ Same H1 H') (i + 1) (upd H' D (.lst (acc ++ [.int 1]))) :=
            ⟨_, e1, by rw [ones_len]; exact small_m (by omega), n + 1, by rw [ones_succ, upd_same], by omega, fun z => by omega, fun c o e => by rw [upd_ne (ne_of_none e hD)]; exact s' _ _ e⟩
          refine ⟨p, _, rfl, SqT.of hp', rfl, _, _, rfl, _, _, rfl, _, _, rfl, rfl, rfl, ?_⟩
          refine ⟨_, rfl, b', rfl, _, rfl, _, _, rfl, _, _, rfl, rfl, ⟨by decide, by decide, by decide⟩, _, _, rfl, rfl, _, rfl, ite_b (fun _ => iteT more) (fun _ => ?_)⟩
          refine ⟨_, rfl, a', rfl, _, _, rfl, rfl, ⟨by decide, by decide, by decide⟩, _, _, rfl, rfl, _, rfl, ?_⟩
          rw [abs_nat]
          refine ite_b (fun _ => more) (fun c => ?_)
          have c' : a'.natAbs ≤ 1000000 := by
            have := of_decide_eq_false c
            rw [p6'] at this
            omega
          refine ⟨n, e1, by omega, fun z j hj x ex => ?_, s'⟩
          by_cases cj : j = i
          · rw [cj, ed'] at ex; cases ex; exact c'
          · exact e3 z j (by omega) x ex
        · rintro H2 ⟨n, e1, e2, e3, s2⟩
          refine ⟨Nat.zero_le _, fun p hp => ⟨.list ((ones n).map PyData.int), .list [], .lst (SqL.of (snew hp _ _ e1)) (ints_dp _), .lst (SqL.of upd_same) .nil, ints_shaped _, nil_shaped, _, rfl, ?_⟩⟩
          rw [eqv_nil, ones_nil]
          have s3 := (s1.trans s2).trans (snew (o := .lst []) hp)
          cases en : decide (n = 0) with
          | false => exact iteT (k _ s3)
          | true =>
            refine iteF ?_
            have sm := e3 (of_decide_eq_true en)
            rw [ra.length] at sm
            refine ⟨rfl, s3, fun _ => ⟨ds, rfl, fun x hx => ?_, asc⟩, fun np => hdue.mpr (np_nl np)⟩
            obtain ⟨j, hj, ej⟩ := List.mem_iff_getElem.mp hx
            exact tl_tp (tl x hx) (sm j hj x (by rw [List.getElem?_eq_getElem hj, ej]))
      · refine iteF ?_
        exact ⟨rfl, s1, fun z => (by rw [ed] at z; cases z), fun np => hdue.mpr (np_nl np)⟩
    rintro σ H2 ⟨rfl, s2, iff⟩
    -- told
    refine ⟨fun σ' H' => ∃ (q : Addr) (n1 n2 g1 : Bool), σ' = [some v, some (.int ww), some (.bl due), some (.ref q), none, none, none, none, none] ∧ H' q = some (.tup [.bl n1, .bl n2, .bl g1]) ∧ (n1 = true ↔ NP d) ∧ (n2 = true ↔ NP d) ∧ (g1 = true ↔ FP d) ∧ Same H H', ?_, ?_⟩
    · refine ⟨_, rfl, v, d, rfl, Dn.mono s2 d v hd, sh, fun n1 Ha h1 sa => ?_⟩
      refine ⟨_, rfl, v, d, rfl, Dn.mono (s2.trans sa) d v hd, sh, fun n2 Hb h2 sb => ?_⟩
      refine ⟨_, rfl, _, _, rfl, rfl, _, rfl, ite_b (fun _ => ?_) (fun _ => ?_)⟩
      · refine ⟨_, rfl, v, d, rfl, Dn.mono ((s2.trans sa).trans sb) d v hd, sh, fun g1 Hc h3 sc => ⟨by show 3 ≤ sizeLine; rw [sizeLine_eq]; decide, fun q hq => ?_⟩⟩
        exact ⟨q, n1, n2, g1, rfl, upd_same, h1, h2, h3, (((s2.trans sa).trans sb).trans sc).trans (snew hq)⟩
      · refine ⟨_, rfl, v, d, rfl, Dn.mono ((s2.trans sa).trans sb) d v hd, sh, fun g1 Hc h3 sc => ⟨by show 3 ≤ sizeLine; rw [sizeLine_eq]; decide, fun q hq => ?_⟩⟩
        exact ⟨q, n1, n2, g1, rfl, upd_same, h1, h2, h3, (((s2.trans sa).trans sb).trans sc).trans (snew hq)⟩
    rintro σ H3 ⟨q, n1, n2, g1, rfl, hq, h1, h2, h3, s3⟩
    obtain rfl := bool_of h1 iff
    obtain rfl := bool_of h2 iff
    -- fraction
    refine ⟨fun σ' H' => σ' = [some v, some (.int ww), some (.bl n2), some (.ref q), some (.bl g1), none, none, none, none] ∧ H' q = some (.tup [.bl n2, .bl n2, .bl g1]) ∧ Same H H', ?_, ?_⟩
    · have out : ∀ (fr : Bool) (H' : Hp), (fr = true ↔ FP d) → Same H3 H' → [some v, some (V.int ww), some (V.bl n2), some (.ref q), some (.bl fr), none, none, none, none] = [some v, some (.int ww), some (.bl n2), some (.ref q), some (.bl g1), none, none, none, none] ∧ H' q = some (.tup [.bl n2, .bl n2, .bl g1]) ∧ Same H H' := fun fr H' e s => by
        rw [bool_of e h3]
        exact ⟨rfl, s _ _ hq, s3.trans s⟩
      refine ⟨_, rfl, _, rfl, ite_b (fun ed => ?_) (fun ed => ?_)⟩
      · have np := iff.mp ed
        obtain ⟨ds, rfl, tp, asc⟩ := id np
        obtain ⟨a, xs, ds', rfl, e2, ea, ra⟩ := dn_tup hd rfl
        cases e2
        refine ⟨_, rfl, Nat.zero_le _, fun p hp => ⟨.tuple ds, .tuple [], .tup (SqT.of (snew hp _ _ (s3 _ _ ea))) (np_dp (DnAll.mono (s3.trans (snew hp)) ds xs ra) tp), .tup (SqT.of upd_same) .nil, np_shaped tp, rfl, _, rfl, ?_⟩⟩
        rw [eqv_nil_t]
        have s4 := snew (o := .tup []) hp
        have ll : ∀ j : Nat, decide (V.int (xs.length : Int) = V.int (j : Int)) = decide (ds.length = j) := fun j => by rw [dec_len, ra.length]
        cases ee : ds.isEmpty with
        | true =>
          refine iteT ?_
          exact out true _ ⟨fun _ => ⟨np, ds, rfl, .inl (by rw [List.isEmpty_iff.mp ee]; rfl)⟩, fun _ => rfl⟩ s4
        | false =>
          refine iteF ?_
          have z : ds.length ≠ 0 := fun z => by rw [List.length_eq_zero_iff.mp z] at ee; cases ee
          refine ⟨_, rfl, .ref a, xs.length, rfl, .inr ⟨xs, SqT.of (s4 _ _ (s3 _ _ ea)), rfl⟩, rfl, _, rfl, ite_b (fun e4 => ?_) (fun e4 => ?_)⟩
          · have z1 : ds.length = 1 := of_decide_eq_true ((ll 1).symm.trans e4)
            obtain ⟨x1, ex1, dn1⟩ := dn_at ra (List.getElem?_eq_getElem (show 0 < ds.length by omega))
            obtain ⟨q1, a1, b1, c1, rfl, ed1, hh1⟩ := tp_shape dn1 (tp _ (List.getElem_mem (by omega)))
            refine ⟨_, rfl, .inr (.inl ⟨a, xs, _, _, rfl, rfl, SqT.of (s4 _ _ (s3 _ _ ea)), atI_nat ex1, ?_⟩)⟩
            refine .inr (.inl ⟨q1, _, _, _, rfl, rfl, SqT.of (s4 _ _ (s3 _ _ hh1)), rfl, rfl, ?_⟩)
            refine out _ _ ?_ s4
            rw [decide_eq_true_iff]
            constructor
            · intro h
              refine ⟨np, ds, rfl, .inr ⟨z1, fun x hx => ?_⟩⟩
              rw [List.getElem?_eq_getElem (by omega), ed1] at hx
              cases hx
              exact V.int.inj h
            · rintro ⟨_, ds2, e5, h⟩
              cases e5
              rcases h with h | ⟨_, h⟩
              · exact absurd h z
              · have := h _ (by rw [List.getElem?_eq_getElem (by omega), ed1])
                exact congrArg V.int this
          · have z1 : ds.length ≠ 1 := of_decide_eq_false ((ll 1).symm.trans e4)
            refine out false _ ⟨fun y => (by cases y), fun ⟨_, ds2, e5, h⟩ => ?_⟩ s4
            cases e5
            exact h.elim (fun q => absurd q z) (fun q => absurd q.1 z1)
      · refine out false _ ⟨fun y => (by cases y), fun h => ?_⟩ (Same.refl _)
        rw [iff.mpr h.1] at ed; cases ed
    rintro σ H4 ⟨rfl, hq4, s4⟩
    have okb := okdB n2 n2 g1
    have b40 : 40 ≤ sizeLine := by rw [sizeLine_eq]; decide
    refine ⟨_, rfl, .ref q, .tuple [.bool n2, .bool n2, .bool g1], rfl, .tup hq4 (.cons (.bl _) (.cons (.bl _) (.cons (.bl _) .nil))), okb.sh, Nat.le_trans okb.dp (by decide), Nat.le_trans okb.ln b40, ?_⟩
    refine ⟨_, rfl, _, rfl, _, rfl, by show 3 ≤ sizeLine; rw [sizeLine_eq]; decide, fun p hp => ⟨.ref p, .tuple [.bool n2, .bool n2, .bool g1], rfl, .tup upd_same (.cons (.bl _) (.cons (.bl _) (.cons (.bl _) .nil))), okb.sh, Nat.le_trans okb.dp (by decide), Nat.le_trans okb.ln b40, rfl, _, rfl, iteNS rfl ?_⟩⟩
    obtain ⟨H5, e5⟩ : ∃ H5, upd H4 p (.tup [.bl n2, .bl n2, .bl g1]) = H5 := ⟨_, rfl⟩
    have s5 : Same H H5 := by rw [← e5]; exact s4.trans (snew hp)
    show (tSeq _ _) _ _ (upd H4 p (.tup [.bl n2, .bl n2, .bl g1]))
    rw [e5]
    clear e5 hp
    refine ⟨_, rfl, _, rfl, ?_⟩
    cases n2 with
    | false =>
      refine iteT ?_
      have nn : ¬ NP d := fun h => by have := iff.mpr h; cases this
      have ok3 := okd3 (x := "bad") ok (by decide +kernel)
      have z3 : (PyData.tuple [.str "bad", d, .bool true]).shown.length ≤ sizeLine := Nat.le_trans ok3.ln (by rw [sizeLine_eq]; decide)
      refine ⟨_, rfl, _, rfl, v, d, ww, rfl, Dn.mono s5 d v hd, sh, fun ds e np => absurd np nn, fun _ t H6 ht s6 => ?_⟩
      have dv := Dn.mono (s5.trans s6) d v hd
      refine ⟨.ref t, .tuple [.str "bad", d, .bool true], rfl, .tup ht (.cons (.str _) (.cons dv (.cons (.bl _) .nil))), ok3.sh, Nat.le_trans ok3.dp (by decide), z3, ?_⟩
      refine ⟨_, rfl, by show 3 ≤ sizeLine; rw [sizeLine_eq]; decide, fun u hu' => ⟨.ref u, .tuple [.str "bad", d, .bool true], rfl, .tup upd_same (.cons (.str _) (.cons (Dn.mono (snew hu') d v dv) (.cons (.bl _) .nil))), ok3.sh, Nat.le_trans ok3.dp (by decide), z3, rfl, ?_⟩⟩
      rw [decide_eq_true rfl]
      exact k _ ((s5.trans s6).trans (snew hu'))
    | true =>
      refine iteF ?_
      have np := iff.mp rfl
      obtain ⟨ds, rfl, tp, asc⟩ := id np
      obtain ⟨a, xs, ds', rfl, e2, ea, ra⟩ := dn_tup hd rfl
      cases e2
      refine ⟨fun σ' H' => ∃ wv, σ' = [some (.ref a), some (.int ww), some (.bl true), some (.ref q), some (.bl g1), some wv, none, none, none] ∧ Dn H' wv (intOf ds) ∧ Same H H', ?_, ?_⟩
      · refine ⟨_, rfl, Nat.zero_le _, fun p hp => ⟨.tuple ds, .tuple [], .tup (SqT.of (snew hp _ _ (s5 _ _ ea))) (np_dp (DnAll.mono (s5.trans (snew hp)) ds xs ra) tp), .tup (SqT.of upd_same) .nil, np_shaped tp, rfl, _, rfl, ?_⟩⟩
        rw [eqv_nil_t]
        have s6 := s5.trans (snew (o := .tup []) hp)
        cases ds with
        | nil => exact iteT ⟨.int 0, rfl, .int 0, s6⟩
        | cons d0 r0 =>
          refine iteF ?_
          obtain ⟨x1, ex1, dn1⟩ := dn_at ra (show (d0 :: r0)[0]? = some d0 from rfl)
          obtain ⟨p1, a1, b1, c1, rfl, rfl, hh1⟩ := tp_shape dn1 (tp d0 List.mem_cons_self)
          refine ⟨_, rfl, _, rfl, ite_b (fun eg => ?_) (fun eg => ?_)⟩
          · obtain ⟨_, ds2, e6, h6⟩ := h3.mp eg
            cases e6
            have r00 : r0 = [] ∧ a1 = 1 := by
              rcases h6 with h | ⟨h, h'⟩
              · exact absurd h (by simp)
              · exact ⟨List.length_eq_zero_iff.mp (by rw [List.length_cons] at h; omega), h' _ rfl⟩
            obtain ⟨rfl, rfl⟩ := r00
            refine ⟨_, rfl, .inr (.inl ⟨a, xs, _, _, rfl, rfl, SqT.of (s6 _ _ ea), atI_nat ex1, ?_⟩)⟩
            refine .inr (.inl ⟨p1, _, _, _, rfl, rfl, SqT.of (s6 _ _ hh1), rfl, rfl, _, rfl, ite_b (fun ec => ?_) (fun ec => ?_)⟩)
            · have c1' := V.int.inj (of_decide_eq_true ec)
              refine ⟨_, rfl, .inr (.inl ⟨a, xs, _, _, rfl, rfl, SqT.of (s6 _ _ ea), atI_nat ex1, ?_⟩)⟩
              refine .inr (.inl ⟨p1, _, _, _, rfl, rfl, SqT.of (s6 _ _ hh1), rfl, .int b1, rfl, ?_, s6⟩)
              show Dn _ _ (if (1 : Int) = 1 ∧ c1 = 1 then PyData.int b1 else .none)
              rw [if_pos ⟨rfl, c1'⟩]
              exact .int b1
            · have c1' : c1 ≠ 1 := fun z => of_decide_eq_false ec (congrArg V.int z)
              refine ⟨.non, rfl, ?_, s6⟩
              show Dn _ _ (if (1 : Int) = 1 ∧ c1 = 1 then PyData.int b1 else .none)
              rw [if_neg fun z => c1' z.2]
              exact .non
          · refine iteF ?_
            refine ⟨.non, rfl, ?_, s6⟩
            have : intOf (PyData.tuple [.int a1, .int b1, .int c1] :: r0) = .none := by
              cases r0 with
              | nil =>
                show (if a1 = 1 ∧ c1 = 1 then PyData.int b1 else .none) = .none
                rw [if_neg fun z => ?_]
                have : g1 = true := h3.mpr ⟨np, _, rfl, .inr ⟨rfl, fun x hx => by cases hx; exact z.1⟩⟩
                rw [this] at eg; cases eg
              | cons u r => rfl
            rw [this]
            exact .non
      rintro σ H6 ⟨wv, rfl, dw, s6⟩
      have okw : Okd 1921 0 (intOf ds) := by
        have low : ∀ i : Int, i.natAbs.log2 < 1920 → Okd 1921 0 (.int i) := fun i h => okd_int h
        match ds, ok with
        | [], _ => exact low 0 (by decide)
        | [.tuple [.int a1, .int b1, .int c1]], ok =>
          show Okd 1921 0 (if a1 = 1 ∧ c1 = 1 then PyData.int b1 else .none)
          by_cases c : a1 = 1 ∧ c1 = 1
          · rw [if_pos c]
            refine low b1 ?_
            have := ok.sh
            simp [PyData.showable, PyData.showableAll] at this
            exact this.2.1
          · rw [if_neg c]; exact okd_non.mono (by decide) (Nat.le_refl _)
        | d0 :: d1 :: r, _ =>
          have : intOf (d0 :: d1 :: r) = .none := by
            unfold intOf
            split
            · rename_i e; cases e
            · rename_i e; cases e
            · rfl
          rw [this]; exact okd_non.mono (by decide) (Nat.le_refl _)
        | [d0], ok =>
          obtain ⟨a1, b1, c1, e, _⟩ := tp d0 List.mem_cons_self
          subst e
          show Okd 1921 0 (if a1 = 1 ∧ c1 = 1 then PyData.int b1 else .none)
          by_cases c : a1 = 1 ∧ c1 = 1
          · rw [if_pos c]
            refine low b1 ?_
            have := ok.sh
            simp [PyData.showable, PyData.showableAll] at this
            exact this.2.1
          · rw [if_neg c]; exact okd_non.mono (by decide) (Nat.le_refl _)
      have ok2 := okd2 (x := "told") okw (by decide +kernel)
      have z2 : (PyData.tuple [.str "told", intOf ds]).shown.length ≤ sizeLine := Nat.le_trans ok2.ln (by rw [sizeLine_eq]; decide)
      refine ⟨_, rfl, _, rfl, .ref a, .tuple ds, ww, rfl, Dn.mono s6 _ _ hd, sh, fun ds2 e _ t r H7 ht dr s7 => ?_, fun n => absurd np n⟩
      cases e
      refine ⟨.ref t, .tuple [.str "told", intOf ds], rfl, .tup ht (.cons (.str _) (.cons dr .nil)), ok2.sh, Nat.le_trans ok2.dp (by decide), z2, ?_⟩
      refine ⟨_, rfl, by show 2 ≤ sizeLine; rw [sizeLine_eq]; decide, fun u hu' => ⟨.ref u, .tuple [.str "told", intOf ds], rfl, .tup upd_same (.cons (.str _) (.cons (Dn.mono (s7.trans (snew hu')) _ _ dw) .nil)), ok2.sh, Nat.le_trans ok2.dp (by decide), z2, rfl, ?_⟩⟩
      rw [decide_eq_true rfl]
      exact k _ ((s6.trans s7).trans (snew hu'))
end
end N3

namespace N3
open PySem PySem.Spec PyProof.Rows L2 N2
def spLaw (K : PySem.W.Frag) : Sp := fun vs H Q _ => ∃ (a : Addr) (ns : List Int), vs = [.ref a] ∧ SqL K H a (ns.map V.int) ∧ ns.length ≤ 63 ∧ ∀ H', Q (.bl true) H'
section
variable {P : Program} {w : World} {K : PySem.W.Frag} {mg : Str → Option Value} {base : Heap}
theorem scLaw : FnScope ["script", "deck", "turn"] ["script"] (defScope sLaw) := ⟨rfl, rfl, rfl, by decide +kernel, rfl, by decide +kernel, by decide +kernel⟩
theorem ok_law {f f1 f2 f3 f4 : Addr} {fd d1 d2 d3 d4 : FuncData} (F : Fun K "law" "law" sLaw f fd) (T : Bt mg) (Dk : Kn P w K mg base 1 "_law_deck" ["script", "seed"] (spDeck K) f1 d1) (Dr : Kn P w K mg base 1 "_law_draw" ["deck", "many"] spDraw f2 d2)
    (Th : Kn P w K mg base 10 "_law_thing" ["deck"] spThing f3 d3) (Ri : FnG P w K mg base 9 f4 d4 ["thing", "way"] spRight) (mR : mg "_law_is_right" = some (.ref f4)) (kR : PySem.W.keepIn K (.ref f4) = true) (bR : Binds K d4 ["thing", "way"] []) : FnG P w K mg base 11 f fd ["script"] (spLaw K) := by
  refine fn_idle F scLaw (fun vs H Q E h => ?_) (fun cdv A outer s H vs Q hr hi h => ?_)
  · obtain ⟨a, ns, rfl, _⟩ := h
    rfl
  · obtain ⟨a, ns, rfl, hS, hl, k⟩ := h
    have r1 : Room 1 _ := hr.mono (by decide)
    have r9 : Room 9 _ := hr.mono (by decide)
    refine ⟨_, pss_cons (ps_set (i := 1) scLaw.nd rfl (Or.inl rfl) (pe_call Dk.ok r1 rfl Dk.mg Dk.kp Dk.bd .nil pass0 (pa_cons (pv 0) (pa_cons pe_int pa_nil))))
      (pss_cons (ps_for PassesOwn.never rfl (pi_range1 rfl T.range (pa_cons pe_int pa_nil)) (pg_name (i := 2) scLaw.nd rfl (Or.inl rfl))
        (pss_one (ps_if (pt_not (pt_val (pe_idle Ri r9 hi mR kR bR (pa_cons (pe_call Th.ok hr rfl Th.mg Th.kp Th.bd .nil pass0 (pa_cons (pv 1) pa_nil)) (pa_cons (pe_call Dr.ok r1 rfl Dr.mg Dr.kp Dr.bd .nil pass0 (pa_cons (pv 1) (pa_cons pe_int pa_nil))) pa_nil))))) (pss_one (ps_ret pe_bl)) pss_nil)))
      (pss_one (ps_ret pe_bl))), ?_⟩
    refine ⟨_, rfl, a, ns, 13730002, rfl, hS, hl, fun H1 dk l D1 s1 _ _ => ?_⟩
    refine ⟨10, rfl, by decide, by decide, for_range (lo := 0) (n := 10) (fun i σ H' => ∃ x : Option V, σ = [some (.ref a), some (.ref dk), x] ∧ Deck H' dk l) ⟨_, rfl, D1⟩ ?_ ?_⟩
    · rintro i σ H' hi' ⟨x, rfl, D⟩
      refine ⟨_, rfl, dk, l, rfl, D, fun v H2 nv D2 k2 => ?_⟩
      refine ⟨_, rfl, dk, l, 2, rfl, D2, by decide, by decide, fun r H3 r0 r1' D3 k3 => ?_⟩
      obtain ⟨d, dn, ok⟩ := nv.mono (off_keep k3) (by rw [mb2]; exact Nat.le_refl _) (Nat.le_refl _)
      refine ⟨v, d, r, rfl, Dn.mono off_in d v dn, ok, fun H4 s4 => ⟨_, rfl, iteF ?_⟩⟩
      exact ⟨_, rfl, D3.same s4⟩
    · rintro σ H' ⟨x, rfl, D⟩
      exact k H'
theorem bk_number {f : Addr} {fd : FuncData} (F : Fun K "is_number" "is_number" sNumber f fd) : Bk K fd "thing" := by
  obtain ⟨oc, od, kV, doc, pm, an, cdv, ct, osl, rfl, lk, hcd⟩ := F.ex
  exact fun s u X => .of_eq (by first | rfl | with_unfolding_all rfl | kernel_rfl)
theorem bk_fraction {f : Addr} {fd : FuncData} (F : Fun K "is_fraction" "is_fraction" sFraction f fd) : Bk K fd "thing" := by
  obtain ⟨oc, od, kV, doc, pm, an, cdv, ct, osl, rfl, lk, hcd⟩ := F.ex
  exact fun s u X => .of_eq (by first | rfl | with_unfolding_all rfl | kernel_rfl)
theorem bk_intOf {f : Addr} {fd : FuncData} (F : Fun K "integer_of" "integer_of" sIntOf f fd) : Bk K fd "number" := by
  obtain ⟨oc, od, kV, doc, pm, an, cdv, ct, osl, rfl, lk, hcd⟩ := F.ex
  exact fun s u X => .of_eq (by first | rfl | with_unfolding_all rfl | kernel_rfl)
theorem bent_kn {f f1 f2 f3 f4 f5 : Addr} {fd d1 d2 d3 d4 d5 : FuncData} (F : Fun K "_law_bent" "_law_bent" sBent f fd) (T : Bt mg) (Dr : Kn P w K mg base 1 "_law_draw" ["deck", "many"] spDraw f1 d1) (Pk : Kn P w K mg base 2 "_law_pick" ["deck", "some"] (spPick K) f2 d2)
    (Li : Kn P w K mg base 1 "_law_is_integer" ["thing"] spInt f3 d3) (An : Kn P w K mg base 5 "_law_any" ["deck", "deep"] (spAny 2) f4 d4) (In : Kn P w K mg base 1 "_law_instead" ["row", "at", "item"] spInstead f5 d5)
    (hm : mg "_law_bent" = some (.ref f)) (hb : Binds K fd ["deck", "thing", "deep"] []) : ∀ n, n ≤ 11 → Kn P w K mg base (n + 6) "_law_bent" ["deck", "thing", "deep"] (spBentP n) f fd
  | 0, _ => ⟨fn_false, hm, F.kp, hb⟩
  | n + 1, h => ⟨ok_bent F T Dr Pk Li An In (by omega) (bent_kn F T Dr Pk Li An In hm hb n (by omega)), hm, F.kp, hb⟩
end
end N3

namespace N3
open PySem PySem.Spec PyProof.Rows L2 N2
section
variable {P : Program} {w : World} {K : PySem.W.Frag} {mg : Str → Option Value} {base : Heap}
theorem bd0 : Bds "is_integer" sInt ["thing"] := fun _ _ _ _ _ _ us hl => match us, hl with | [_], _ => rfl
theorem bd1 : Bds "is_tuple_of" sTupOf ["thing", "many"] := fun _ _ _ _ _ _ us hl => match us, hl with | [_, _], _ => rfl
theorem bd2 : Bds "all_integers" sAllInt ["things"] := fun _ _ _ _ _ _ us hl => match us, hl with | [_], _ => rfl
theorem bd3 : Bds "in_lowest_terms" sLowest ["top", "bottom"] := fun _ _ _ _ _ _ us hl => match us, hl with | [_, _], _ => rfl
theorem bd4 : Bds "square_split" sSplit ["size"] := fun _ _ _ _ _ _ us hl => match us, hl with | [_], _ => rfl
theorem bd5 : Bds "free_of_squares" sFree ["size"] := fun _ _ _ _ _ _ us hl => match us, hl with | [_], _ => rfl
theorem bd6 : Bds "whole_number" sWhole ["number"] := fun _ _ _ _ _ _ us hl => match us, hl with | [_], _ => rfl
theorem bd7 : Bds "fits_as_d" sFits ["d"] := fun _ _ _ _ _ _ us hl => match us, hl with | [_], _ => rfl
theorem bd8 : Bds "is_triple" sTriple ["thing"] := fun _ _ _ _ _ _ us hl => match us, hl with | [_], _ => rfl
theorem bd9 : Bds "is_number" sNumber ["thing"] := fun _ _ _ _ _ _ us hl => match us, hl with | [_], _ => rfl
theorem bd10 : Bds "is_fraction" sFraction ["thing"] := fun _ _ _ _ _ _ us hl => match us, hl with | [_], _ => rfl
theorem bd11 : Bds "check_number" sCheck ["thing"] := fun _ _ _ _ _ _ us hl => match us, hl with | [_], _ => rfl
theorem bd12 : Bds "integer_of" sIntOf ["number"] := fun _ _ _ _ _ _ us hl => match us, hl with | [_], _ => rfl
theorem bd13 : Bds "_law_deck" sDeck ["script", "seed"] := fun _ _ _ _ _ _ us hl => match us, hl with | [_, _], _ => rfl
theorem bd14 : Bds "_law_draw" sDraw ["deck", "many"] := fun _ _ _ _ _ _ us hl => match us, hl with | [_, _], _ => rfl
theorem bd15 : Bds "_law_great" sGreat ["deck", "many"] := fun _ _ _ _ _ _ us hl => match us, hl with | [_, _], _ => rfl
theorem bd16 : Bds "_law_pick" sPick ["deck", "some"] := fun _ _ _ _ _ _ us hl => match us, hl with | [_, _], _ => rfl
theorem bd17 : Bds "_law_near" sNear ["deck", "far"] := fun _ _ _ _ _ _ us hl => match us, hl with | [_, _], _ => rfl
theorem bd18 : Bds "_law_common" sCommon ["one", "other"] := fun _ _ _ _ _ _ us hl => match us, hl with | [_, _], _ => rfl
theorem bd19 : Bds "_law_is_integer" sLInt ["thing"] := fun _ _ _ _ _ _ us hl => match us, hl with | [_], _ => rfl
theorem bd20 : Bds "_law_lean" sLean ["number"] := fun _ _ _ _ _ _ us hl => match us, hl with | [_], _ => rfl
theorem bd21 : Bds "_law_is_lean" sIsLean ["number"] := fun _ _ _ _ _ _ us hl => match us, hl with | [_], _ => rfl
theorem bd22 : Bds "_law_is_triple" sLTriple ["thing"] := fun _ _ _ _ _ _ us hl => match us, hl with | [_], _ => rfl
theorem bd23 : Bds "_law_is_number" sLNumber ["thing"] := fun _ _ _ _ _ _ us hl => match us, hl with | [_], _ => rfl
theorem bd24 : Bds "_law_number" sNum ["sums"] := fun _ _ _ _ _ _ us hl => match us, hl with | [_], _ => rfl
theorem bd25 : Bds "_law_any" sAny ["deck", "deep"] := fun _ _ _ _ _ _ us hl => match us, hl with | [_, _], _ => rfl
theorem bd26 : Bds "_law_instead" sInstead ["row", "at", "item"] := fun _ _ _ _ _ _ us hl => match us, hl with | [_, _, _], _ => rfl
theorem bd27 : Bds "_law_bent" sBent ["deck", "thing", "deep"] := fun _ _ _ _ _ _ us hl => match us, hl with | [_, _, _], _ => rfl
theorem bd28 : Bds "_law_integer_told" sTold ["thing", "way"] := fun _ _ _ _ _ _ us hl => match us, hl with | [_, _], _ => rfl
theorem bd29 : Bds "_law_wide" sWide ["deck"] := fun _ _ _ _ _ _ us hl => match us, hl with | [_], _ => rfl
theorem bd30 : Bds "_law_thing" sThing ["deck"] := fun _ _ _ _ _ _ us hl => match us, hl with | [_], _ => rfl
theorem bd31 : Bds "_law_is_right" sRight ["thing", "way"] := fun _ _ _ _ _ _ us hl => match us, hl with | [_, _], _ => rfl
theorem all_ok {S C_BadNumber I_BadNumber fL : Addr} {J_BadNumber fdL : FuncData} {t_TOO_LARGE : Tok} (sy : Sy base) (T : Bt mg)
    (B_BadNumber : BnC P w K mg base "BadNumber" S C_BadNumber I_BadNumber J_BadNumber) (ex_BadNumber : PySem.W.exmOne K (.ref C_BadNumber) (.ref C_BadNumber) = some true) (ki_BadNumber : PySem.W.kitOne K (.ref C_BadNumber) (.ref S) = some true)
    (mS : mg "SlopeError" = some (.ref S))
    (i_TOO_LARGE : mg "TOO_LARGE" = some (.int 1000000000000000 t_TOO_LARGE))
    (h0 : ∃ f fd, Df K mg "is_integer" sInt ["thing"] f fd)
    (h1 : ∃ f fd, Df K mg "is_tuple_of" sTupOf ["thing", "many"] f fd)
    (h2 : ∃ f fd, Df K mg "all_integers" sAllInt ["things"] f fd)
    (h3 : ∃ f fd, Df K mg "in_lowest_terms" sLowest ["top", "bottom"] f fd)
    (h4 : ∃ f fd, Df K mg "square_split" sSplit ["size"] f fd)
    (h5 : ∃ f fd, Df K mg "free_of_squares" sFree ["size"] f fd)
    (h6 : ∃ f fd, Df K mg "whole_number" sWhole ["number"] f fd)
    (h7 : ∃ f fd, Df K mg "fits_as_d" sFits ["d"] f fd)
    (h8 : ∃ f fd, Df K mg "is_triple" sTriple ["thing"] f fd)
    (h9 : ∃ f fd, Df K mg "is_number" sNumber ["thing"] f fd)
    (h10 : ∃ f fd, Df K mg "is_fraction" sFraction ["thing"] f fd)
    (h11 : ∃ f fd, Df K mg "check_number" sCheck ["thing"] f fd)
    (h12 : ∃ f fd, Df K mg "integer_of" sIntOf ["number"] f fd)
    (h13 : ∃ f fd, Df K mg "_law_deck" sDeck ["script", "seed"] f fd)
    (h14 : ∃ f fd, Df K mg "_law_draw" sDraw ["deck", "many"] f fd)
    (h15 : ∃ f fd, Df K mg "_law_great" sGreat ["deck", "many"] f fd)
    (h16 : ∃ f fd, Df K mg "_law_pick" sPick ["deck", "some"] f fd)
    (h17 : ∃ f fd, Df K mg "_law_near" sNear ["deck", "far"] f fd)
    (h18 : ∃ f fd, Df K mg "_law_common" sCommon ["one", "other"] f fd)
    (h19 : ∃ f fd, Df K mg "_law_is_integer" sLInt ["thing"] f fd)
    (h20 : ∃ f fd, Df K mg "_law_lean" sLean ["number"] f fd)
    (h21 : ∃ f fd, Df K mg "_law_is_lean" sIsLean ["number"] f fd)
    (h22 : ∃ f fd, Df K mg "_law_is_triple" sLTriple ["thing"] f fd)
    (h23 : ∃ f fd, Df K mg "_law_is_number" sLNumber ["thing"] f fd)
    (h24 : ∃ f fd, Df K mg "_law_number" sNum ["sums"] f fd)
    (h25 : ∃ f fd, Df K mg "_law_any" sAny ["deck", "deep"] f fd)
    (h26 : ∃ f fd, Df K mg "_law_instead" sInstead ["row", "at", "item"] f fd)
    (h27 : ∃ f fd, Df K mg "_law_bent" sBent ["deck", "thing", "deep"] f fd)
    (h28 : ∃ f fd, Df K mg "_law_integer_told" sTold ["thing", "way"] f fd)
    (h29 : ∃ f fd, Df K mg "_law_wide" sWide ["deck"] f fd)
    (h30 : ∃ f fd, Df K mg "_law_thing" sThing ["deck"] f fd)
    (h31 : ∃ f fd, Df K mg "_law_is_right" sRight ["thing", "way"] f fd)
    (FL : Fun K "law" "law" sLaw fL fdL) : FnG P w K mg base 11 fL fdL ["script"] (spLaw K) := by
  obtain ⟨f_is_integer, d_is_integer, D_is_integer⟩ := h0
  obtain ⟨f_is_tuple_of, d_is_tuple_of, D_is_tuple_of⟩ := h1
  obtain ⟨f_all_integers, d_all_integers, D_all_integers⟩ := h2
  obtain ⟨f_in_lowest_terms, d_in_lowest_terms, D_in_lowest_terms⟩ := h3
  obtain ⟨f_square_split, d_square_split, D_square_split⟩ := h4
  obtain ⟨f_free_of_squares, d_free_of_squares, D_free_of_squares⟩ := h5
  obtain ⟨f_whole_number, d_whole_number, D_whole_number⟩ := h6
  obtain ⟨f_fits_as_d, d_fits_as_d, D_fits_as_d⟩ := h7
  obtain ⟨f_is_triple, d_is_triple, D_is_triple⟩ := h8
  obtain ⟨f_is_number, d_is_number, D_is_number⟩ := h9
  obtain ⟨f_is_fraction, d_is_fraction, D_is_fraction⟩ := h10
  obtain ⟨f_check_number, d_check_number, D_check_number⟩ := h11
  obtain ⟨f_integer_of, d_integer_of, D_integer_of⟩ := h12
  obtain ⟨f__law_deck, d__law_deck, D__law_deck⟩ := h13
  obtain ⟨f__law_draw, d__law_draw, D__law_draw⟩ := h14
  obtain ⟨f__law_great, d__law_great, D__law_great⟩ := h15
  obtain ⟨f__law_pick, d__law_pick, D__law_pick⟩ := h16
  obtain ⟨f__law_near, d__law_near, D__law_near⟩ := h17
  obtain ⟨f__law_common, d__law_common, D__law_common⟩ := h18
  obtain ⟨f__law_is_integer, d__law_is_integer, D__law_is_integer⟩ := h19
  obtain ⟨f__law_lean, d__law_lean, D__law_lean⟩ := h20
  obtain ⟨f__law_is_lean, d__law_is_lean, D__law_is_lean⟩ := h21
  obtain ⟨f__law_is_triple, d__law_is_triple, D__law_is_triple⟩ := h22
  obtain ⟨f__law_is_number, d__law_is_number, D__law_is_number⟩ := h23
  obtain ⟨f__law_number, d__law_number, D__law_number⟩ := h24
  obtain ⟨f__law_any, d__law_any, D__law_any⟩ := h25
  obtain ⟨f__law_instead, d__law_instead, D__law_instead⟩ := h26
  obtain ⟨f__law_bent, d__law_bent, D__law_bent⟩ := h27
  obtain ⟨f__law_integer_told, d__law_integer_told, D__law_integer_told⟩ := h28
  obtain ⟨f__law_wide, d__law_wide, D__law_wide⟩ := h29
  obtain ⟨f__law_thing, d__law_thing, D__law_thing⟩ := h30
  obtain ⟨f__law_is_right, d__law_is_right, D__law_is_right⟩ := h31
  have iI := D_is_integer.kn (P := P) (w := w) (base := base) (ok_int D_is_integer.F T)
  have iT := D_is_tuple_of.kn (P := P) (w := w) (base := base) (ok_tupOf D_is_tuple_of.F T)
  have iA := D_all_integers.kn (ok_allInt D_all_integers.F T iI)
  have iL := D_in_lowest_terms.kn (P := P) (w := w) (base := base) (ok_low D_in_lowest_terms.F T)
  have iS := D_square_split.kn (P := P) (w := w) (base := base) (ok_split D_square_split.F T)
  have iF := D_free_of_squares.kn (ok_free D_free_of_squares.F iS)
  have iX := D_fits_as_d.kn (ok_fits D_fits_as_d.F T i_TOO_LARGE iF)
  have iR := D_is_triple.kn (ok_triple D_is_triple.F iT iA iL iX)
  have iN := D_is_number.kn (ok_number D_is_number.F T iR)
  have iFr := D_is_fraction.kn (ok_fraction D_is_fraction.F T iN)
  have iC := ok_check D_check_number.F iN B_BadNumber
  have pWh := D_whole_number.kn (P := P) (w := w) (base := base) (ok_whole D_whole_number.F T)
  have iO := ok_intOf D_integer_of.F iC D_check_number.m D_check_number.F.kp D_check_number.b pWh
  have Dk := D__law_deck.kn (P := P) (w := w) (base := base) (ok_deck D__law_deck.F T)
  have Dr := D__law_draw.kn (P := P) (w := w) (base := base) (ok_draw D__law_draw.F T)
  have Gr := D__law_great.kn (ok_great D__law_great.F T Dr)
  have Pk := D__law_pick.kn (ok_pick D__law_pick.F T Dr)
  have Ne := D__law_near.kn (ok_near D__law_near.F Dr)
  have Co := D__law_common.kn (P := P) (w := w) (base := base) (ok_common D__law_common.F T)
  have Li := D__law_is_integer.kn (P := P) (w := w) (base := base) (ok_lint D__law_is_integer.F T)
  have Le := D__law_lean.kn (P := P) (w := w) (base := base) (ok_lean D__law_lean.F T)
  have Il := D__law_is_lean.kn (P := P) (w := w) (base := base) (ok_isLean D__law_is_lean.F T)
  have Lt := D__law_is_triple.kn (ok_ltriple D__law_is_triple.F T Li Co Il)
  have Ln := D__law_is_number.kn (ok_lnumber D__law_is_number.F T Lt)
  have Nu := D__law_number.kn (ok_num D__law_number.F T Co)
  have An := any_kn D__law_any.F T Dr Pk D__law_any.m D__law_any.b
  have In := D__law_instead.kn (P := P) (w := w) (base := base) (ok_instead D__law_instead.F)
  have Be := bent_kn D__law_bent.F T Dr Pk Li (An 3) In D__law_bent.m D__law_bent.b 3 (by decide)
  have To := D__law_integer_told.kn (ok_told D__law_integer_told.F T B_BadNumber mS ex_BadNumber ki_BadNumber iO D_integer_of.m D_integer_of.F.kp D_integer_of.b (bk_intOf D_integer_of.F))
  have Wi := D__law_wide.kn (ok_wide D__law_wide.F T Dr Pk Le Gr Nu)
  have Th := D__law_thing.kn (ok_thing D__law_thing.F T Dr Wi Ne Pk (An 4) Be)
  have Ri := ok_right sy D__law_is_right.F T Ln iN (bk_number D_is_number.F) iFr (bk_fraction D_is_fraction.F) To
  exact ok_law FL T Dk Dr Th Ri D__law_is_right.m D__law_is_right.F.kp D__law_is_right.b

end
theorem all_mk {l : PySem.W.OpenLaw} {w : World} {K : PySem.W.Frag} {h : Heap} {mg : Str → Option Value} {fa fL : Addr} (X : K.In h) (G : h.Ns mainGlobals mg) (hfa : mg "law" = some (.ref fa))
    {S fS DS : Addr} {q qual : Str} {N : Addr} {bs : List Value} {sn : List Str} {sub : List Value} {ab : Bool} {col : Option Bool} {dd : Option Addr} {m0 m1 m2 m3 m5 : Option Value}
    {odS anS odD : Option Addr} {slS slD : Array (Option Value)} {ocS dcS pmS cdS ctS ocD : Value} {nD : Nat} {p1 p2 q1 q2 q3 q4 : Pos} {ds : List Expr}
    {odL anL : Option Addr} {slL : Array (Option Value)} {ocL kVL dcL pmL cdL ctL : Value} {t_TOO_LARGE : Tok}
    (aS : PySem.W.nsIn K mainGlobals "SlopeError" = some (some (.ref S)))
    (xS : K.lookup S = some (excClassObj "SlopeError" q S N bs PySem.Sl.xTail true sn sub ab col dd m0 m1 m2 m3 m5 "Exception.__new__"))
    (tS : PySem.W.typeIn K (.ref S) = some (.type "type")) (rS : PySem.W.readsIn K S (.type "type") = true) (gS : PySem.W.specialIn K (.ref S) "__getattribute__" = some (some (.builtin "type.__getattribute__")))
    (iS : PySem.W.findCls K (.ref S) (.type "type") "__init__" = some (.val (.ref fS))) (lS : K.lookup fS = some ⟨ocS, odS, .func (PySem.W.fnOf "__init__" qual (argsS p1 p2 ds) (bodyS q1 q2 q3 q4) scpS (.ref DS) .none dcS pmS anS cdS ctS), slS⟩)
    (vS : K.lookup DS = some ⟨ocD, odD, .seq #[.none] nD, slD⟩) (cS : PySem.W.codeIn K cdS qual = true) (kS : PySem.W.keepIn K (.ref fS) = true)
    (e0 : ∃ C f fd, ClsF K mg S "BadNumber" C f fd)
    (n0 : PySem.W.nsIn K mainGlobals "TOO_LARGE" = some (some (.int 1000000000000000 t_TOO_LARGE)))
    (h0 : ∃ f fd, Df K mg "is_integer" sInt ["thing"] f fd)
    (h1 : ∃ f fd, Df K mg "is_tuple_of" sTupOf ["thing", "many"] f fd)
    (h2 : ∃ f fd, Df K mg "all_integers" sAllInt ["things"] f fd)
    (h3 : ∃ f fd, Df K mg "in_lowest_terms" sLowest ["top", "bottom"] f fd)
    (h4 : ∃ f fd, Df K mg "square_split" sSplit ["size"] f fd)
    (h5 : ∃ f fd, Df K mg "free_of_squares" sFree ["size"] f fd)
    (h6 : ∃ f fd, Df K mg "whole_number" sWhole ["number"] f fd)
    (h7 : ∃ f fd, Df K mg "fits_as_d" sFits ["d"] f fd)
    (h8 : ∃ f fd, Df K mg "is_triple" sTriple ["thing"] f fd)
    (h9 : ∃ f fd, Df K mg "is_number" sNumber ["thing"] f fd)
    (h10 : ∃ f fd, Df K mg "is_fraction" sFraction ["thing"] f fd)
    (h11 : ∃ f fd, Df K mg "check_number" sCheck ["thing"] f fd)
    (h12 : ∃ f fd, Df K mg "integer_of" sIntOf ["number"] f fd)
    (h13 : ∃ f fd, Df K mg "_law_deck" sDeck ["script", "seed"] f fd)
    (h14 : ∃ f fd, Df K mg "_law_draw" sDraw ["deck", "many"] f fd)
    (h15 : ∃ f fd, Df K mg "_law_great" sGreat ["deck", "many"] f fd)
    (h16 : ∃ f fd, Df K mg "_law_pick" sPick ["deck", "some"] f fd)
    (h17 : ∃ f fd, Df K mg "_law_near" sNear ["deck", "far"] f fd)
    (h18 : ∃ f fd, Df K mg "_law_common" sCommon ["one", "other"] f fd)
    (h19 : ∃ f fd, Df K mg "_law_is_integer" sLInt ["thing"] f fd)
    (h20 : ∃ f fd, Df K mg "_law_lean" sLean ["number"] f fd)
    (h21 : ∃ f fd, Df K mg "_law_is_lean" sIsLean ["number"] f fd)
    (h22 : ∃ f fd, Df K mg "_law_is_triple" sLTriple ["thing"] f fd)
    (h23 : ∃ f fd, Df K mg "_law_is_number" sLNumber ["thing"] f fd)
    (h24 : ∃ f fd, Df K mg "_law_number" sNum ["sums"] f fd)
    (h25 : ∃ f fd, Df K mg "_law_any" sAny ["deck", "deep"] f fd)
    (h26 : ∃ f fd, Df K mg "_law_instead" sInstead ["row", "at", "item"] f fd)
    (h27 : ∃ f fd, Df K mg "_law_bent" sBent ["deck", "thing", "deep"] f fd)
    (h28 : ∃ f fd, Df K mg "_law_integer_told" sTold ["thing", "way"] f fd)
    (h29 : ∃ f fd, Df K mg "_law_wide" sWide ["deck"] f fd)
    (h30 : ∃ f fd, Df K mg "_law_thing" sThing ["deck"] f fd)
    (h31 : ∃ f fd, Df K mg "_law_is_right" sRight ["thing", "way"] f fd)
    (z0 : PySem.W.nsIn K mainGlobals "int" = some none)
    (z1 : PySem.W.nsIn K mainGlobals "bool" = some none)
    (z2 : PySem.W.nsIn K mainGlobals "tuple" = some none)
    (z3 : PySem.W.nsIn K mainGlobals "list" = some none)
    (z4 : PySem.W.nsIn K mainGlobals "isinstance" = some none)
    (z5 : PySem.W.nsIn K mainGlobals "len" = some none)
    (z6 : PySem.W.nsIn K mainGlobals "all" = some none)
    (z7 : PySem.W.nsIn K mainGlobals "range" = some none)
    (z8 : PySem.W.nsIn K mainGlobals "abs" = some none)
    (z9 : PySem.W.nsIn K mainGlobals "repr" = some none)
    (z10 : PySem.W.nsIn K mainGlobals "zip" = some none)
    (z11 : PySem.W.nsIn K mainGlobals "max" = some none)
    (z12 : PySem.W.nsIn K mainGlobals "sorted" = some none)
    (z13 : PySem.W.nsIn K mainGlobals "str" = some none)
    (z14 : PySem.W.nsIn K mainGlobals "gcd" = some (some (.builtin "math.gcd")))
    (z15 : PySem.W.nsIn K mainGlobals "isqrt" = some (some (.builtin "math.isqrt")))
    (aL : PySem.W.nsIn K mainGlobals "law" = some (some (.ref fL))) (lL : K.lookup fL = some ⟨ocL, odL, .func (PySem.W.fnOf "law" "law" (defArgs sLaw) (defBody sLaw) (defScope sLaw) .none kVL dcL pmL anL cdL ctL), slL⟩) (cL : PySem.W.codeIn K cdL "law" = true) (kL : PySem.W.keepIn K (.ref fL) = true) :
    ∃ fd : FuncData, (∀ (s : Shared) (v : Value), BindsTo s fd ⟨[v], []⟩ [("script", v)]) ∧ ∀ base : Heap, K.In base → base.Ns mainGlobals mg → Sy base → FnG l.prog w K mg base 11 fa fd ["script"] (spLaw K) := by
  have e := hfa.symm.trans (PySem.W.mg_of X G aL)
  cases e
  have no : ∀ {x : Str}, PySem.W.nsIn K mainGlobals x = some none → mg x = none := fun z => PySem.W.mg_none_of X G z
  have T : Bt mg := ⟨no z0, no z1, no z2, no z3, no z4, no z5, no z6, no z7, no z8, no z9, no z10, no z11, no z12, no z13, PySem.W.mg_of X G z14, PySem.W.mg_of X G z15⟩
  have SB : SlB K mg S fS := ⟨PySem.W.mg_of X G aS, rS, gS, iS, kS⟩
  have SF : FunD K "__init__" qual (argsS p1 p2 ds) (bodyS q1 q2 q3 q4) scpS [.non] [] fS (PySem.W.fnOf "__init__" qual (argsS p1 p2 ds) (bodyS q1 q2 q3 q4) scpS (.ref DS) .none dcS pmS anS cdS ctS) :=
    ⟨⟨ocS, odS, .ref DS, .none, dcS, pmS, anS, cdS, ctS, slS, rfl, lS, cS, .inr ⟨by simp, DS, _, [.none], nD, rfl, vS, rfl, .cons rfl .nil⟩, .inl rfl⟩, kS⟩
  have cl : PySem.W.clsIn K S = some { name := "SlopeError", bases := bs, mro := .ref S :: PySem.Sl.xTail, ns := N, qualname := q, hasDict := true, slotNames := sn, subclasses := sub, abstract := ab, collection := col, hasDel := false } := by
    unfold PySem.W.clsIn; rw [xS]
  have sS : PySem.W.subIn K (.ref S) (.type "BaseException") = some true := by
    show PySem.W.mroIn K S (.type "BaseException") = _
    unfold PySem.W.mroIn
    rw [cl, Option.bind_some]
    show some ((Value.ref S :: PySem.Sl.xTail).contains (.type "BaseException")) = _
    rw [List.contains_cons, show PySem.Sl.xTail.contains (.type "BaseException") = true by decide +kernel, Bool.or_true]
  have neS : ∀ {n : Str} {C f : Addr} {fd : FuncData}, ClsF K mg S n C f fd → n ≠ "SlopeError" → C ≠ S := fun {n C f fd} A nn e => by
    obtain ⟨q', N', bs', sn', sub', ab', col', dd', k0', k1', k2', k3', k5', hx⟩ := A.at_
    rw [e] at hx
    have z := congrArg nmOf (Option.some.inj (hx.symm.trans xS))
    exact nn (show (n : Str) = "SlopeError" from z)
  obtain ⟨C_BadNumber, I_BadNumber, J_BadNumber, A_BadNumber⟩ := e0
  have ne_BadNumber := neS A_BadNumber (by decide +kernel)
  have ex_BadNumber : PySem.W.exmOne K (.ref C_BadNumber) (.ref C_BadNumber) = some true := by rw [(A_BadNumber.kit A_BadNumber ne_BadNumber).2, decide_eq_true rfl]
  obtain ⟨_, _, _, _, _, _, _, _, _, hl_BadNumber, FC_BadNumber⟩ := A_BadNumber.F
  exact ⟨_, fun s v => .of_eq rfl, fun base _ _ sy => all_ok sy T ⟨A_BadNumber.M, ok_slC hl_BadNumber FC_BadNumber SB (ok_slS SF) (bnd_slS SF), A_BadNumber.gC, fun u => bnd_sl1 FC_BadNumber u⟩ ex_BadNumber (A_BadNumber.up (by rw [cl]; rfl) tS sS).1 (PySem.W.mg_of X G aS) (PySem.W.mg_of X G n0) h0 h1 h2 h3 h4 h5 h6 h7 h8 h9 h10 h11 h12 h13 h14 h15 h16 h17 h18 h19 h20 h21 h22 h23 h24 h25 h26 h27 h28 h29 h30 h31 (fun_mk (st := sLaw) lL cL kL)⟩
end N3

open PySem PySem.W PyProof.Rows
set_option maxHeartbeats 0 in
theorem PySem.Challenge.cw_twiceslope_k02_any_value_as_a_number_holds : PySem.Challenge.rw_twiceslope_k02_any_value_as_a_number.Holds := by
  w_on; o_law; k_head; (case hw => w_witness2)
  k_fill
  refine L2.walk_idle (l := PySem.Challenge.rw_twiceslope_k02_any_value_as_a_number) (n := 63) (k := 11) (x := "script") (sp := fun w => N3.spLaw _) rfl (by decide) rfl (by decide +kernel) ⟨rfl, by decide, by decide⟩ (fun w h Y => PySem.W.kIn_of Y) ?F (fun _ _ a ns hl _ hS => ⟨a, ns, rfl, hS, hl, fun _ => rfl⟩)
  case F =>
    intro w mg fa h KX G hmg
    refine' N3.all_mk KX G hmg ?aS ?xS ?tS ?rS ?gS ?iS ?lS ?vS ?cS ?kS ?e0 ?n0 ?d0 ?d1 ?d2 ?d3 ?d4 ?d5 ?d6 ?d7 ?d8 ?d9 ?d10 ?d11 ?d12 ?d13 ?d14 ?d15 ?d16 ?d17 ?d18 ?d19 ?d20 ?d21 ?d22 ?d23 ?d24 ?d25 ?d26 ?d27 ?d28 ?d29 ?d30 ?d31 ?z0 ?z1 ?z2 ?z3 ?z4 ?z5 ?z6 ?z7 ?z8 ?z9 ?z10 ?z11 ?z12 ?z13 ?z14 ?z15 ?aL ?lL ?cL ?kL
    (case aS => k_is)
    (case xS => k_is)
    (case tS => k_is)
    (case rS => k_is)
    (case gS => k_is)
    (case iS => k_is)
    (case lS => k_is)
    (case vS => k_is)
    (case cS => k_is)
    (case kS => k_is)
    case e0 =>
      refine' ⟨_, _, _, L2.cls_mk KX G ?u_aC ?u_xL ?u_sa ?u_ga ?u_gg ?u_nb ?u_hc ?u_a1 ?u_t1 ?u_l1 ?u_c1 ?u_kf ?u_kC ?u_tC ?u_hn ?u_ht ?u_hl⟩
      (case u_aC => k_is)
      (case u_xL => k_is)
      (case u_sa => k_is)
      (case u_ga => k_is)
      (case u_gg => k_is)
      (case u_nb => k_is)
      (case u_hc => k_is)
      (case u_a1 => k_is)
      (case u_t1 => k_is)
      (case u_l1 => k_is)
      (case u_c1 => k_is)
      (case u_kf => k_is)
      (case u_kC => k_is)
      (case u_tC => k_is)
      (case u_hn => k_is)
      (case u_ht => k_is)
      (case u_hl => rfl)
    (case n0 => k_is)
    case d0 => (refine' N3.df_mk (st := N3.sInt) KX G ?v_a ?v_l ?v_c ?v_k N3.bd0; (case v_a => k_is); (case v_l => k_is); (case v_c => k_is); (case v_k => k_is))
    case d1 => (refine' N3.df_mk (st := N3.sTupOf) KX G ?v_a ?v_l ?v_c ?v_k N3.bd1; (case v_a => k_is); (case v_l => k_is); (case v_c => k_is); (case v_k => k_is))
    case d2 => (refine' N3.df_mk (st := N3.sAllInt) KX G ?v_a ?v_l ?v_c ?v_k N3.bd2; (case v_a => k_is); (case v_l => k_is); (case v_c => k_is); (case v_k => k_is))
    case d3 => (refine' N3.df_mk (st := N3.sLowest) KX G ?v_a ?v_l ?v_c ?v_k N3.bd3; (case v_a => k_is); (case v_l => k_is); (case v_c => k_is); (case v_k => k_is))
    case d4 => (refine' N3.df_mk (st := N3.sSplit) KX G ?v_a ?v_l ?v_c ?v_k N3.bd4; (case v_a => k_is); (case v_l => k_is); (case v_c => k_is); (case v_k => k_is))
    case d5 => (refine' N3.df_mk (st := N3.sFree) KX G ?v_a ?v_l ?v_c ?v_k N3.bd5; (case v_a => k_is); (case v_l => k_is); (case v_c => k_is); (case v_k => k_is))
    case d6 => (refine' N3.df_mk (st := N3.sWhole) KX G ?v_a ?v_l ?v_c ?v_k N3.bd6; (case v_a => k_is); (case v_l => k_is); (case v_c => k_is); (case v_k => k_is))
    case d7 => (refine' N3.df_mk (st := N3.sFits) KX G ?v_a ?v_l ?v_c ?v_k N3.bd7; (case v_a => k_is); (case v_l => k_is); (case v_c => k_is); (case v_k => k_is))
    case d8 => (refine' N3.df_mk (st := N3.sTriple) KX G ?v_a ?v_l ?v_c ?v_k N3.bd8; (case v_a => k_is); (case v_l => k_is); (case v_c => k_is); (case v_k => k_is))
    case d9 => (refine' N3.df_mk (st := N3.sNumber) KX G ?v_a ?v_l ?v_c ?v_k N3.bd9; (case v_a => k_is); (case v_l => k_is); (case v_c => k_is); (case v_k => k_is))
    case d10 => (refine' N3.df_mk (st := N3.sFraction) KX G ?v_a ?v_l ?v_c ?v_k N3.bd10; (case v_a => k_is); (case v_l => k_is); (case v_c => k_is); (case v_k => k_is))
    case d11 => (refine' N3.df_mk (st := N3.sCheck) KX G ?v_a ?v_l ?v_c ?v_k N3.bd11; (case v_a => k_is); (case v_l => k_is); (case v_c => k_is); (case v_k => k_is))
    case d12 => (refine' N3.df_mk (st := N3.sIntOf) KX G ?v_a ?v_l ?v_c ?v_k N3.bd12; (case v_a => k_is); (case v_l => k_is); (case v_c => k_is); (case v_k => k_is))
    case d13 => (refine' N3.df_mk (st := N3.sDeck) KX G ?v_a ?v_l ?v_c ?v_k N3.bd13; (case v_a => k_is); (case v_l => k_is); (case v_c => k_is); (case v_k => k_is))
    case d14 => (refine' N3.df_mk (st := N3.sDraw) KX G ?v_a ?v_l ?v_c ?v_k N3.bd14; (case v_a => k_is); (case v_l => k_is); (case v_c => k_is); (case v_k => k_is))
    case d15 => (refine' N3.df_mk (st := N3.sGreat) KX G ?v_a ?v_l ?v_c ?v_k N3.bd15; (case v_a => k_is); (case v_l => k_is); (case v_c => k_is); (case v_k => k_is))
    case d16 => (refine' N3.df_mk (st := N3.sPick) KX G ?v_a ?v_l ?v_c ?v_k N3.bd16; (case v_a => k_is); (case v_l => k_is); (case v_c => k_is); (case v_k => k_is))
    case d17 => (refine' N3.df_mk (st := N3.sNear) KX G ?v_a ?v_l ?v_c ?v_k N3.bd17; (case v_a => k_is); (case v_l => k_is); (case v_c => k_is); (case v_k => k_is))
    case d18 => (refine' N3.df_mk (st := N3.sCommon) KX G ?v_a ?v_l ?v_c ?v_k N3.bd18; (case v_a => k_is); (case v_l => k_is); (case v_c => k_is); (case v_k => k_is))
    case d19 => (refine' N3.df_mk (st := N3.sLInt) KX G ?v_a ?v_l ?v_c ?v_k N3.bd19; (case v_a => k_is); (case v_l => k_is); (case v_c => k_is); (case v_k => k_is))
    case d20 => (refine' N3.df_mk (st := N3.sLean) KX G ?v_a ?v_l ?v_c ?v_k N3.bd20; (case v_a => k_is); (case v_l => k_is); (case v_c => k_is); (case v_k => k_is))
    case d21 => (refine' N3.df_mk (st := N3.sIsLean) KX G ?v_a ?v_l ?v_c ?v_k N3.bd21; (case v_a => k_is); (case v_l => k_is); (case v_c => k_is); (case v_k => k_is))
    case d22 => (refine' N3.df_mk (st := N3.sLTriple) KX G ?v_a ?v_l ?v_c ?v_k N3.bd22; (case v_a => k_is); (case v_l => k_is); (case v_c => k_is); (case v_k => k_is))
    case d23 => (refine' N3.df_mk (st := N3.sLNumber) KX G ?v_a ?v_l ?v_c ?v_k N3.bd23; (case v_a => k_is); (case v_l => k_is); (case v_c => k_is); (case v_k => k_is))
    case d24 => (refine' N3.df_mk (st := N3.sNum) KX G ?v_a ?v_l ?v_c ?v_k N3.bd24; (case v_a => k_is); (case v_l => k_is); (case v_c => k_is); (case v_k => k_is))
    case d25 => (refine' N3.df_mk (st := N3.sAny) KX G ?v_a ?v_l ?v_c ?v_k N3.bd25; (case v_a => k_is); (case v_l => k_is); (case v_c => k_is); (case v_k => k_is))
    case d26 => (refine' N3.df_mk (st := N3.sInstead) KX G ?v_a ?v_l ?v_c ?v_k N3.bd26; (case v_a => k_is); (case v_l => k_is); (case v_c => k_is); (case v_k => k_is))
    case d27 => (refine' N3.df_mk (st := N3.sBent) KX G ?v_a ?v_l ?v_c ?v_k N3.bd27; (case v_a => k_is); (case v_l => k_is); (case v_c => k_is); (case v_k => k_is))
    case d28 => (refine' N3.df_mk (st := N3.sTold) KX G ?v_a ?v_l ?v_c ?v_k N3.bd28; (case v_a => k_is); (case v_l => k_is); (case v_c => k_is); (case v_k => k_is))
    case d29 => (refine' N3.df_mk (st := N3.sWide) KX G ?v_a ?v_l ?v_c ?v_k N3.bd29; (case v_a => k_is); (case v_l => k_is); (case v_c => k_is); (case v_k => k_is))
    case d30 => (refine' N3.df_mk (st := N3.sThing) KX G ?v_a ?v_l ?v_c ?v_k N3.bd30; (case v_a => k_is); (case v_l => k_is); (case v_c => k_is); (case v_k => k_is))
    case d31 => (refine' N3.df_mk (st := N3.sRight) KX G ?v_a ?v_l ?v_c ?v_k N3.bd31; (case v_a => k_is); (case v_l => k_is); (case v_c => k_is); (case v_k => k_is))
    (case z0 => k_is)
    (case z1 => k_is)
    (case z2 => k_is)
    (case z3 => k_is)
    (case z4 => k_is)
    (case z5 => k_is)
    (case z6 => k_is)
    (case z7 => k_is)
    (case z8 => k_is)
    (case z9 => k_is)
    (case z10 => k_is)
    (case z11 => k_is)
    (case z12 => k_is)
    (case z13 => k_is)
    (case z14 => k_is)
    (case z15 => k_is)
    (case aL => k_is)
    (case lL => k_is)
    (case cL => k_is)
    (case kL => k_is)
