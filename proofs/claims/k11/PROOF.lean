import PyProof.Rows.All
import Wide.All
import OpenK.AllK
import Wide.FinOn
import HandS.ForMost
import HandS.ForExc
import HandS.ExcSuper
import HandS.ClsMeth
import KE.KExcIs
import HandS.ExcInit
import HandS.IsInst
import HandS.HotCalls
import HandS.Defaults
import HandS.Iter
import KE.GoesEnum
import HandS.Ends
import PyProof.ReprRoads
import PyProof.RowDictHeap
import HandS.Dict
import PyProof.Rows.RegStrFacts
import HandS.Style
import HandS.TupAny
import HandS.Wide
import HandS.Codes
import HandS.Walk
import HandS.Gcd
import HandS.Comp
import Flt.RightSqrt
import HandS.Zip
import PyProof.AutoSeq1
import HandS.Lambda
import HandS.Conv
import KE.SortKeyHeap
import HandS.ExcOwn
import HandS.ExcValue
import KE.KDictSum
import HandS.EndTab
import HandS.More
import KE.KDictPairs
import HandS.NoneIn
import HandS.TupMul
import PySem.Challenge.RW_twiceslope_k11_sums_and_slopes_of_quotie
set_option Elab.async false
set_option linter.all false
set_option maxRecDepth 100000
set_option maxHeartbeats 4000000
namespace PySem
namespace Sl
open PySem.W PySem.Calls PyProof.Rows PySem.HandSPX
open Builtin Builtin.ObjectAttr
/-- own classes, then Exception's line -/
abbrev xTail : List Value := [.type "Exception", .type "BaseException", .type "object"]
def refsX : List Value → Bool
  | .ref _ :: r => refsX r
  | l => l == xTail
theorem refsX_two (a b : Addr) : refsX (.ref a :: .ref b :: xTail) = true := by
  show (xTail == xTail) = true
  decide +kernel
/-- the class at C stands over SlopeError at S -/
structure SubCls (K : Frag) (C S : Addr) : Prop where
  cls : ∃ nm q N bs sn sub ab col dd k0 k1 k2 k3 k5, K.lookup C = some (excClassObj nm q C N bs (.ref S :: xTail) true sn sub ab col dd k0 k1 k2 k3 k5 "Exception.__new__")
theorem pass_sub (self : Value) (C S : Addr) : refuseLoop self "__setattr__" (.ref C :: .ref S :: xTail) = pure () := by
  rw [refuseLoop_ref, refuseLoop_ref]
  exact F.store_Exception.passes self
theorem has_sub (C S : Addr) (T : String) (hT : xTail.contains (.type T) = true) : (Value.ref C :: .ref S :: xTail).contains (.type T) = true := by
  rw [List.contains_cons, List.contains_cons, hT]
  simp
theorem tail_sub (S : Addr) (T : String) : (Value.ref S :: xTail).contains (.type T) = xTail.contains (.type T) := by
  rw [List.contains_cons]
  rfl
end Sl
end PySem
namespace PySem
namespace Sl
open PySem.W PySem.Calls PyProof.Rows PySem.HandSPX
open Builtin Builtin.ObjectAttr
section
variable {prog : Program} {w : World} {A : Around} {E : Value → Shared → Prop} {R : Result → Shared → Prop} {hp : Heap} {g : Array GenState} {d : Drawn} {t : Nat} {os : OsState}
/-- self.name = v on a fresh exception of such a class -/
theorem osa_sub {K : W.Frag} {name : Str} {tk : Tok} {v : Value} {x C S : Addr} {fv : Array Value} {cd : ClassData}
    (X : K.In hp) (hx : hp.get? x = some { cls := .ref C, data := .fields fv }) (hcd : W.clsIn K C = some cd) (hm : cd.mro = .ref C :: .ref S :: xTail) (hh : cd.hasDict = true) (ha : W.findIn K (.ref C) name = some none)
    (hq : ∀ h' tk' dx, (∀ b o, b ≠ x → hp.get? b = some o → h'.get? b = some o) → hp.objs.size ≤ dx → dx ≠ x →
      h'.get? x = some { cls := .ref C, dict := some dx, data := .fields fv } → h'.Ns1 dx (fun y => if y = name then some v else none) → R (.ok (.ret .none)) ⟨h', g, d, tk', os⟩) :
    codeAny (model prog w) A (.call (.builtin "object.__setattr__") ⟨[.ref x, .str name tk, v], []⟩) R ⟨hp, g, d, t, os⟩ := by
  have I : W.InstAt hp x { cls := .ref C, data := .fields fv } C none := ⟨hx, rfl, rfl, trivial⟩
  have far : x ≠ hp.objs.size := Nat.ne_of_lt (Heap.lt_size hx)
  have mo : W.mroIn K C (.type "object") = some true := by
    unfold W.mroIn
    rw [hcd, Option.bind_some, hm, if_neg (show ¬ (List.isEmpty (Value.ref C :: .ref S :: xTail) = true) from Bool.false_ne_true), has_sub C S "object" (by decide +kernel)]
  have lm : W.Looks (model prog w) hp (isInstance (.ref x) (.type "object")) true := I.type.andThen (W.looks_mroIn X mo)
  have lr : W.Looks (model prog w) hp (mroOf (.ref C)) cd.mro := (W.looks_clsIn X hcd).andThen .now
  have lt : W.Looks (model prog w) hp (storeTaker? none) none := .now
  have lc : W.Looks (model prog w) hp (classData C) cd := W.looks_clsIn X hcd
  have stops : refuseLoop (.ref x) "__setattr__" cd.mro = pure () := by rw [hm]; exact pass_sub _ C S
  refine codeAny_call_builtin F.store_object.slot.plain F.store_object.entry
    (@W.check_slot (model prog w) _ _ ⟨hp, g, d, t, os⟩ "object.__setattr__" "object" "__setattr__" (.ref x) [.str name tk, v] [] _ F.store_object.kind F.store_object.split lm (F.store_object.args (.ref x) (.str name tk) v) ?_)
  rw [W.osa_eq, refuse_eq]
  refine wpAny_bind (wpAny_bind (I.type.at (wpAny_bind (lr.at ?_)))); rw [stops]
  refine wpAny_pure (wpAny_bind (I.type.at (wpAny_bind ((W.looks_findIn X ha).at (wpAny_bind (lt.at ?_))))))
  show wpAny _ _ (storeInOwnDict (.ref x) (.ref C) (.str name tk) name v false) _ _ _
  obtain ⟨nm, bs, mro, ns, qn, hd, sn, sb, ab, col, del⟩ := cd
  dsimp only at hh; subst hh
  unfold storeInOwnDict ownDictForStores
  repeat (first
    | with_reducible refine HandSPX.store_in_new ?_ ?_
    | with_reducible refine wpAny_loadPart_at hx ?_
    | with_reducible refine lc.at ?_
    | wp_step)
  · exact ⟨_, #[], _, (Heap.get?_update_ne _ _ _ _ far.symm).trans (Heap.get?_push_at rfl rfl), rfl, fun e he => absurd he (by simp), fun _ => rfl⟩
  · intro h' tk' hn' hs
    have hx1 : (hp.push { cls := .type "dict", data := .dict #[] }).get? x = some { cls := .ref C, data := .fields fv } := Heap.get?_push_of_some _ hx
    refine hq h' tk' hp.objs.size (fun b o hb ho => ?_) (Nat.le_refl _) far.symm ?_ hn'
    · exact (hs.2 b (Nat.ne_of_lt (Heap.lt_size ho))).trans ((Heap.get?_update_ne _ _ _ _ hb).trans (Heap.get?_push_of_some _ ho))
    · exact (hs.2 x far).trans (Heap.get?_update_self _ hx1 rfl)
end
end Sl
end PySem

namespace PySem
namespace Sl
open PySem.W PySem.Calls PyProof.Rows PySem.HandSPX
open Builtin Builtin.ObjectAttr
section
variable {M : Model} {A : Around} {E : Value → Shared → Prop} {h : Heap} {g : Array GenState} {d : Drawn} {t : Nat} {os : OsState}
variable {nm q : Str} {C N : Addr} {bs bm : List Value} {hdct : Bool} {sn : List Str} {sub : List Value} {ab : Bool} {col : Option Bool} {dd : Option Addr} {k0 k1 k2 k3 k5 : Option Value}
abbrev xb := F.excBase_Exception
theorem check_kw (hT : ∀ T : String, bm.contains (.type T) = xTail.contains (.type T)) {rest : List Value} {kw : List (Str × Value)} {Q : Unit → Shared → Prop}
    (hC : h.get? C = some (excClassObj nm q C N bs bm hdct sn sub ab col dd k0 k1 k2 k3 k5 "Exception.__new__")) (hq : Q () ⟨h, g, d, t, os⟩) :
    wpAny M A (checkBuiltinCall "Exception.__new__" ⟨.ref C :: rest, kw⟩) Q E ⟨h, g, d, t, os⟩ := by
  have hcont : (Value.ref C :: bm).contains (.type "Exception") = true := by rw [List.contains_cons, hT, xb.hasB, Bool.or_true]
  have hstar := xb.noStar
  simp only [checkBuiltinCall, xb.newKind, xb.newSplit, xb.newRow]
  repeat (first
    | refine wpAny_loadPart_at hC ?_
    | (refine wpAny_isSubtype_exc hC ?_; rw [hcont])
    | refine wpAny_staticBase_exc hC ?_
    | refine wpAny_madeBy_exc hC ?_
    | simp only [bne_self_eq_false, Bool.false_eq_true, if_false]
    | wp_step)
  exact hq
end
section
variable {prog : Program} {w : World} {A : Around} {E : Value → Shared → Prop} {R : Result → Shared → Prop} {h : Heap} {g : Array GenState} {d : Drawn} {t : Nat} {os : OsState}
variable {nm q : Str} {C N : Addr} {bs bm : List Value} {hdct : Bool} {sn : List Str} {sub : List Value} {ab : Bool} {col : Option Bool} {dd : Option Addr} {k0 k1 k2 k3 k5 : Option Value}
theorem new_kw (hT : ∀ T : String, bm.contains (.type T) = xTail.contains (.type T)) {rest : List Value} {kw : List (Str × Value)}
    (hC : h.get? C = some (excClassObj nm q C N bs bm hdct sn sub ab col dd k0 k1 k2 k3 k5 "Exception.__new__"))
    (hq : R (.ok (.ret (.ref (h.objs.size + 1)))) ⟨(h.push (W.kdv_tup rest)).push (excO C h.objs.size), g, d, t, os⟩) (hrest : rest.length ≤ sizeLine) :
    codeAny (model prog w) A (.builtin "Exception.__new__" ⟨.ref C :: rest, kw⟩) R ⟨h, g, d, t, os⟩ := by
  have hends := xb.ends
  have hcB : (Value.ref C :: bm).contains (.type "Exception") = true := by rw [List.contains_cons, hT, xb.hasB, Bool.or_true]
  have hcA : (Value.ref C :: bm).contains (.type "AttributeError") = false := by rw [List.contains_cons, hT, xb.noAttr]; rfl
  have hcN : (Value.ref C :: bm).contains (.type "NameError") = false := by rw [List.contains_cons, hT, xb.noName]; rfl
  refine codeAny_builtinAt xb.entry ?_
  unfold Builtin.«BaseException.__new__»
  refine wpAt_bind ?_
  show wpAt _ _ _ (stack >>= _) _ _ _
  refine wpAt_bind (wpAt_stack fun p below => wpAt_of_wpAny ?_)
  wp_walk
  refine wpAt_of_wpAny ?_
  rw [xb.owner]
  repeat (first
    | with_reducible refine wpAny_madeHere_exc xb.canon hC ?_
    | with_reducible refine wpAny_loadPart_at hC ?_
    | (with_reducible refine wpAny_isSubtype_exc hC ?_; first | rw [hcB] | rw [hcA] | rw [hcN])
    | wp_step)
  show R _ _
  rw [Heap.size_push]
  exact hq
theorem call_kw (hT : ∀ T : String, bm.contains (.type T) = xTail.contains (.type T)) {rest : List Value} {kw : List (Str × Value)} {fI : Addr}
    (hC : h.get? C = some (excClassObj nm q C N bs bm hdct sn sub ab col dd k0 k1 k2 k3 k5 "Exception.__new__"))
    (hi : W.Looks (model prog w) h (typeLookup (.ref C) "__init__") (some (.ref fI))) (hb : ∀ self, W.Looks (model prog w) h (bindSpecial (.ref fI) self) (.ref fI, [self])) (hrest : rest.length ≤ sizeLine)
    (hq : codeAny (model prog w) (A.under (.builtin "type.__call__" ⟨.ref C :: rest, kw⟩)) (.call (.ref fI) ⟨.ref (h.objs.size + 1) :: rest, kw⟩) (W.InitBack (h.objs.size + 1) R)
      ⟨(h.push (W.kdv_tup rest)).push (excO C h.objs.size), g, d, t, os⟩) :
    codeAny (model prog w) A (.call (.ref C) ⟨rest, kw⟩) R ⟨h, g, d, t, os⟩ := by
  have f1 := tc_lookup
  have f2 := tc_bind (.ref C)
  have f3 := tc_sub
  have hTy : (⟨h, g, d, t, os⟩ : Shared).TypeIs (.ref C) "type" := ⟨_, hC, rfl⟩
  refine codeAny_of_tree ?_
  show wpAny _ _ (callAny (.ref C) _) _ _ _
  repeat (any_goals (first | assumption | with_reducible refine wpAny_loadPart_at hC ?_ | wp_step))
  refine ⟨rfl, ?_⟩
  refine codeAny_call_builtin_at (Code.quiet_builtin _ (by decide +kernel)) entry_typeCall ?_
  have after : wpAny (model prog w) (A.under (.builtin "type.__call__" ⟨.ref C :: rest, kw⟩)) (Builtin.«type.__call__» ⟨.ref C :: rest, kw⟩)
      (fun fin s' => match fin with | .done f => R (.ok f) s' | .again c' => c'.quiet = true ∧ codeAny (model prog w) A c' R s') (fun e s' => R (.error e) s') ⟨h, g, d, t, os⟩ := by
    repeat (first | with_reducible refine wpAny_loadPart_at hC ?_ | with_reducible refine wpAny_madeBy_exc hC ?_ | wp_step)
    refine codeAny_call_builtin_code (Code.quiet_builtin _ xb.quiet) (check_kw hT hC ?_)
    refine new_kw hT hC ?_ hrest
    show wpAny _ _ _ _ _ _
    have k : ∀ b o, h.get? b = some o → ((h.push (W.kdv_tup rest)).push (excO C h.objs.size)).get? b = some o := fun b o e => Heap.get?_push_of_some _ (Heap.get?_push_of_some _ e)
    have hC1 := k _ _ hC
    have hget : ((h.push (W.kdv_tup rest)).push (excO C h.objs.size)).get? (h.objs.size + 1) = some (excO C h.objs.size) := by heap_get
    have hcC : (Value.ref C :: bm).contains (.ref C) = true := by simp
    have i1 := hi.keeps k
    have b1 := (hb (.ref (h.objs.size + 1))).keeps k
    unfold isInstance
    repeat (first
      | with_reducible refine wpAny_loadPart_at hget ?_
      | (with_reducible refine wpAny_isSubtype_exc hC1 ?_; rw [hcC])
      | wp_step)
    show wpAny _ _ (typeLookup (.ref C) _) _ _ _
    refine i1.at ?_
    refine wpAny_holding (wpAny_bind (b1.at ?_))
    refine wpAny_bind (wpAny_call (codeAny_mono hq fun r s' z => ?_))
    rcases r with e | (v | _ | _ | _) <;> first | exact z | exact z.elim | skip
    obtain ⟨rfl, z⟩ := z
    first
      | exact wpAny_pure (wpAny_pure z)
      | (wp_walk; exact z)
  simp only [checkBuiltinCall, tc_kind, tc_split]
  repeat (any_goals (first | exact after | assumption | with_reducible refine wpAny_loadPart_at hC ?_ | with_reducible refine wpAny_onRaise ?_ | with_reducible refine wpAny_map ?_ | wp_step))
end
end Sl
end PySem

namespace L2
open PySem PySem.Spec PyProof.Rows
/-- what the written part says of an error's class at C, over SlopeError at S -/
structure SlC (K : PySem.W.Frag) (C S : Addr) : Prop where
  cls : PySem.Sl.SubCls K C S
  sa : PySem.W.findIn K (.ref C) "__setattr__" = some (some (.builtin "object.__setattr__"))
  exC : PySem.W.subIn K (.ref C) (.type "BaseException") = some true
  tyC : PySem.W.typeIn K (.ref C) = some (.type "type")
  kC : PySem.W.keepIn K (.ref C) = true
  ga : PySem.W.findIn K (.ref C) "__getattribute__" = some (some (.builtin "BaseException.__getattribute__"))
  gg : PySem.W.findIn K (.ref C) "__getattr__" = some none
  noT : PySem.W.findIn K (.ref C) "thing" = some none
  hd : PySem.W.hasDictIn K C = true
  hc : PySem.W.findIn K (.ref C) "__class__" = some (some (.builtin "object.__class__"))
  hn : PySem.W.specialIn K (.builtin "object.__class__") "__get__" = some (some (.builtin "getset_descriptor.__get__"))
  ht : PySem.W.takesIn K (.builtin "object.__class__") = some true
  hm : PySem.W.mroIn K C (.type "object") = some true
theorem SlC.clsIn {K : PySem.W.Frag} {C S : Addr} (T : SlC K C S) : ∃ cd : ClassData, PySem.W.clsIn K C = some cd ∧ cd.mro = .ref C :: .ref S :: PySem.Sl.xTail ∧ cd.hasDict = true := by
  obtain ⟨nm, q, N, bs, sn, sub, ab, col, dd, k0, k1, k2, k3, k5, hC⟩ := T.cls
  refine ⟨{ name := nm, bases := bs, mro := .ref C :: .ref S :: PySem.Sl.xTail, ns := N, qualname := q, hasDict := true, slotNames := sn, subclasses := sub, abstract := ab, collection := col, hasDel := false }, ?_, rfl, rfl⟩
  unfold PySem.W.clsIn
  rw [hC]
section
variable {X : Cx} {pins : List (Addr × Obj)} {σ : St} {H : Hp} {s : Shared} {a C S dx : Addr} {y : V} {u : Value} {A : Around} {E : Value → Shared → Prop}
/-- self.thing = y, self a fresh error -/
theorem sl_store {Q : Unit → Shared → Prop} (T : SlC X.K C S) (I : Inv X pins σ H s) (e : H a = some (exo a C none)) (ry : RelV y u)
    (h : ∀ dx s', H dx = none → dx ≠ a → Inv X pins σ (upd (upd H dx (exd dx [("thing", y)])) a (exo a C (some dx))) s' → Q () s') :
    wpAny (model X.prog X.w) A (setAttr (.ref a) "thing" u) Q E s := by
  obtain ⟨cd, hcl, hmr, hdi⟩ := T.clsIn
  obtain ⟨t1, ho⟩ := exo_at I.hok e
  obtain ⟨hp, g, d, t, os⟩ := s
  refine PySem.W.set_plain I.kIn (ox := { cls := .ref C, dict := none, data := .fields #[.ref t1, .none, .none, .none, .bool false, .none] }) (od := none) ⟨ho, rfl, rfl, trivial⟩ T.sa ?_
  refine PySem.Sl.osa_sub I.kIn ho hcl hmr hdi T.noT (fun h' tk' dx k dn dne hx hn => ?_)
  have hnd : H dx = none := I.hok.fresh dn
  have nd : ∀ {b : Addr} {o : Obj}, hp.get? b = some o → b ≠ dx := fun {b o} q => Nat.ne_of_lt (Nat.lt_of_lt_of_le (Heap.lt_size q) dn)
  have na : ∀ {b : Addr}, H b = none → b ≠ a := fun {b} n z => by rw [z, e] at n; cases n
  have U : Un X.fs [] H (upd (upd H dx (exd dx [("thing", y)])) a (exo a C (some dx))) hp h' := {
    keep := fun b o q n _ _ => k b o (na n) q
    slot := fun b o q n _ _ => ⟨o.slots, k b o (na n) q⟩
    free := fun b o q n _ => by rw [upd_ne (na n), upd_ne (nd q)]; exact n
    there := fun b o q _ => by
      by_cases hb : b = a
      · rw [hb]; exact ⟨_, hx⟩
      · exact ⟨o, k b o hb q⟩
    tups := fun b xs q => by rw [upd_ne (at_ne e q exo_tup), upd_ne (ne_of_none q hnd)]; exact q
    frzs := fun b o v q => by rw [upd_ne (at_ne e q exo_frz), upd_ne (ne_of_none q hnd)]; exact q
    tbls := fun b ps q => ⟨#[], by rw [upd_ne (at_ne e q exo_tbl), upd_ne (ne_of_none q hnd), q]; simp⟩ }
  refine h dx _ hnd dne (I.un (t' := tk') U fun b o q => ?_)
  by_cases hb : b = a
  · subst hb
    rw [upd_same] at q; cases q
    exact exo_ok hx
  · rw [upd_ne hb] at q
    by_cases hd : b = dx
    · subst hd
      rw [upd_same] at q; cases q
      exact exd_ok hn (relO_put (fs := []) ry fun g => True.intro)
    · rw [upd_ne hd] at q
      refine (I.hok b o q).stay (fun c v hc z => k c v ?_ z) (fun c hc => ?_) (fun c xs hc => ?_)
      · rcases hc with hc | hc
        · rw [hc]; exact hb
        · exact at_ne e hc exo_own
      · rw [upd_ne (at_ne e hc exo_own), upd_ne (ne_of_none hc hnd)]; exact hc
      · rw [upd_ne (at_ne e hc exo_tup), upd_ne (ne_of_none hc hnd)]; exact hc
/-- the reading of self.thing = e -/
def tSto (K : PySem.W.Frag) (to te : TE) : TS := fun D σ H => te σ H fun y H1 => to σ H1 fun x H2 => ∃ a C S : Addr, x = .ref a ∧ SlC K C S ∧ H2 a = some (exo a C none) ∧
  ∀ dx, H2 dx = none → dx ≠ a → D.nx σ (upd (upd H2 dx (exd dx [("thing", y)])) a (exo a C (some dx)))
theorem ps_sto {o e : Expr} {to te : TE} {p' pos : Pos} (ho : PE X o to) (he : PE X e te) (hs : swapsWith e (some (.Attribute o "thing" p')) pos.line X.env = pure false := by rfl) :
    PS X (.Assign [.Attribute o "thing" p'] e pos) (tSto X.K to te) := by
  refine ⟨fun pins s σ H D I h => ?_⟩
  refine plainObj_wpAny_Assign_Attribute (thn (he.run pins s σ H _ I h) fun v s1 ⟨y, H1, I1, r1, q1⟩ => thn (ho.run pins s1 σ H1 _ I1 q1) fun u s2 ⟨x, H2, I2, r2, a, C, S, ex, T, ea, q⟩ => ?_) hs
  subst ex
  obtain rfl : u = Value.ref a := r2
  exact sl_store T I2 ea r1 fun dx s' n ne J => ⟨σ, _, J, q dx n ne⟩
end
/-- the promise of both __init__: the error at a, fresh, gets its dict with the thing -/
def spSet (K : PySem.W.Frag) : Sp := fun vs H Q _ => ∃ (a C S : Addr) (y : V), vs = [.ref a, y] ∧ SlC K C S ∧ H a = some (exo a C none) ∧
  ∀ dx, H dx = none → dx ≠ a → Q .non (upd (upd H dx (exd dx [("thing", y)])) a (exo a C (some dx)))
/-- SlopeError's class at S, its __init__ at fS -/
structure SlB (K : PySem.W.Frag) (mg : Str → Option Value) (S fS : Addr) : Prop where
  mgS : mg "SlopeError" = some (.ref S)
  rd : PySem.W.readsIn K S (.type "type") = true
  ga : PySem.W.specialIn K (.ref S) "__getattribute__" = some (some (.builtin "type.__getattribute__"))
  at_ : PySem.W.findCls K (.ref S) (.type "type") "__init__" = some (.val (.ref fS))
  kf : PySem.W.keepIn K (.ref fS) = true
section
variable {X : Cx} {S fS : Addr} {k : Nat} {fd : FuncData} {sp : Sp} {E : XK} {CX : CXT} {e : Expr} {es : List Expr} {ta : TA} {p1 p2 pos : Pos} {ps : List Str}
/-- SlopeError.__init__(e, ..) -/
theorem pe_slInit {pl : Sem Bool} (B : SlB X.K X.mg S fS) (F : FnOk X.prog X.w X.K X.mg X.base CX k fS fd ps sp) (hr : Room k X.A) (hb : Binds X.K fd ps []) (hx : Passes CX X E) (hg : Gl X "SlopeError") (ha : PA X (e :: es) ta)
    (hc : eval (.Call (.Attribute (.Name "SlopeError" p1) "__init__" p2) (e :: es) [] pos) X.env = (do
      let ov ← eval (.Name "SlopeError" p1) X.env
      standAt p2.atName
      let (f, first) ← holding [ov] (getMethod ov "__init__" pl)
      callWith pos f first (backTo pos (starEach (e :: es) X.env)) (backToKw pos (keywordEach [] X.env))) := by rfl)
    (he : starEach (e :: es) X.env = (false, eval e X.env) :: starEach es X.env := by rfl) (hpl : (backTo pos (starEach es X.env)).any (·.1) = false := by rfl) :
    PE X (.Call (.Attribute (.Name "SlopeError" p1) "__init__" p2) (e :: es) [] pos) (fun σ H Q => ta σ H fun vs H1 => sp vs H1 Q E) := by
  refine ⟨fun pins s σ H Q I h => ?_⟩
  refine PySem.W.methodCall_KW (pl := pl) (ld_glob I hg B.mgS ?_ (by decide)) hc
  refine PySem.W.method_cls I.kIn B.ga (PySem.W.cls_value I.kIn B.rd B.at_ (by rfl) ?_)
  show wpAny _ _ (callWith pos (Value.ref fS) [] (backTo pos (starEach (e :: es) X.env)) []) _ _ _
  refine PySem.W.callWith_K (h₀ := X.base) I.ok.mod.kin B.kf (thn (ha.run pos pins _ σ H _ (I.tok _) h) fun us s1 ⟨vs, H1, I1, r, q⟩ => ⟨I1.kIn, ?_⟩) he hpl
  exact run_fn F hr hb .nil hx I1 r (by rw [List.append_nil]; exact q)
end
end L2

namespace L2
open PySem PySem.Spec PyProof.Rows
/-- the heap with a new error at a, its dict at dx -/
def slH (H : Hp) (a C dx : Addr) (y : V) : Hp := upd (upd H dx (exd dx [("thing", y)])) a (exo a C (some dx))
theorem slH_new {H : Hp} {a C dx : Addr} {y : V} {o : HO} : upd (upd (upd H a o) dx (exd dx [("thing", y)])) a (exo a C (some dx)) = slH H a C dx y := by
  funext b
  unfold slH
  by_cases h : b = a
  · rw [h, upd_same, upd_same]
  · rw [upd_ne h, upd_ne h]
    by_cases hd : b = dx
    · rw [hd, upd_same, upd_same]
    · rw [upd_ne hd, upd_ne hd, upd_ne h]
theorem slH_a {H : Hp} {a C dx : Addr} {y : V} : slH H a C dx y a = some (exo a C (some dx)) := upd_same
theorem slH_d {H : Hp} {a C dx : Addr} {y : V} (h : dx ≠ a) : slH H a C dx y dx = some (exd dx [("thing", y)]) := (upd_ne h).trans upd_same
theorem slH_ne {H : Hp} {a C dx b : Addr} {y : V} (h1 : b ≠ a) (h2 : b ≠ dx) : slH H a C dx y b = H b := (upd_ne h1).trans (upd_ne h2)
/-- an error's class at C: its own __init__ -/
structure SlM (K : PySem.W.Frag) (C S fI : Addr) : Prop where
  T : SlC K C S
  iC : PySem.W.findIn K (.ref C) "__init__" = some (some (.ref fI))
  tI : PySem.W.typeIn K (.ref fI) = some (.type "function")
/-- how the call of the class binds in __init__ -/
def SlBnd (K : PySem.W.Frag) (fd : FuncData) (us : List Value) (kw : List (Str × Value)) (u : Value) : Prop :=
  ∀ (s : Shared) (x : Value), K.In s.heap → BindsTo s fd ⟨x :: us, kw⟩ ((["self", "thing"] : List Str).zip [x, u])
section
variable {X : Cx} {pins : List (Addr × Obj)} {σ : St} {H : Hp} {s : Shared} {C S fI : Addr} {y : V} {u : Value} {k : Nat} {fd : FuncData} {CX : CXT} {us : List Value} {kw : List (Str × Value)}
/-- what is known behind the call of the class -/
structure SlGot (X : Cx) (pins : List (Addr × Obj)) (σ : St) (H : Hp) (s : Shared) (C a dx : Addr) (y : V) (s' : Shared) : Prop where
  new : s.heap.objs.size ≤ a
  na : H a = none
  nd : H dx = none
  ne : dx ≠ a
  mid : ∃ h1 : Heap, (∀ b o, s.heap.get? b = some o → h1.get? b = some o) ∧ Un (frs X.stack) [] (upd H a (exo a C none)) (slH H a C dx y) h1 s'.heap
  hok : HOk X.prog X.w (slH H a C dx y) s'.heap
  os : s'.os = s.os
  bare : AllBare s'.gens
  inv : Inv X pins σ (slH H a C dx y) s'
theorem sl_run {Q : Value → Shared → Prop} (M : SlM X.K C S fI) (F : FnOk X.prog X.w X.K X.mg X.base CX k fI fd ["self", "thing"] (spSet X.K)) (hr : Room (k + 1) X.A) (hx : Passes CX X E0)
    (hb : SlBnd X.K fd us kw u) (hl : us.length ≤ sizeLine) (I : Inv X pins σ H s) (ry : RelV y u) (h : ∀ a dx s', SlGot X pins σ H s C a dx y s' → Q (.ref a) s') :
    wpAny (model X.prog X.w) X.A (call (.ref C) us kw) Q X.xe s := by
  obtain ⟨nm, q, N, bs, sn, sub, ab, col, dd, k0, k1, k2, k3, k5, hC⟩ := M.T.cls
  obtain ⟨hp, g, dr, tk, os⟩ := s
  have hsz : hp.objs.size ≤ hp.objs.size + 1 := Nat.le_succ _
  have hn : H (hp.objs.size + 1) = none := I.hok.fresh hsz
  have kk : ∀ b o, hp.get? b = some o → ((hp.push (PySem.W.kdv_tup us)).push (PySem.HandSPX.excO C hp.objs.size)).get? b = some o := fun b o e => Heap.get?_push_of_some _ (Heap.get?_push_of_some _ e)
  have hget : ((hp.push (PySem.W.kdv_tup us)).push (PySem.HandSPX.excO C hp.objs.size)).get? (hp.objs.size + 1) = some (PySem.HandSPX.excO C hp.objs.size) := by heap_get
  have I2 : Inv X pins σ (upd H (hp.objs.size + 1) (exo (hp.objs.size + 1) C none)) ⟨(hp.push (PySem.W.kdv_tup us)).push (PySem.HandSPX.excO C hp.objs.size), g, dr, tk, os⟩ :=
    I.laid (t' := tk) (a := hp.objs.size + 1) (o := exo (hp.objs.size + 1) C none) (h' := (hp.push (PySem.W.kdv_tup us)).push (PySem.HandSPX.excO C hp.objs.size)) kk hsz (exo_ok hget)
  have r2 : Vals [V.ref (hp.objs.size + 1), y] [Value.ref (hp.objs.size + 1), u] := .cons rfl (.cons ry .nil)
  have room : Room k (X.A.under (.builtin "type.__call__" ⟨.ref C :: us, kw⟩)) := hr.make C us kw
  have e0 := I2.env0.make C us kw
  refine wpAny_call (PySem.Sl.call_kw (fun T => PySem.Sl.tail_sub S T) (I.kIn _ _ hC) (PySem.W.looks_findIn I.kIn M.iC) (fun self => PySem.W.bind_fn I.kIn self M.tI) hl
    (codeAny_mono (F.run _ X.stack _ _ ⟨Value.ref (hp.objs.size + 1) :: us, kw⟩ [Value.ref (hp.objs.size + 1), u] [V.ref (hp.objs.size + 1), y]
      (fun v H2 => v = .non ∧ ∃ dx, H dx = none ∧ dx ≠ hp.objs.size + 1 ∧ H2 = slH H (hp.objs.size + 1) C dx y) E0 room e0 (hb _ _ I2.kIn) r2
      ⟨hp.objs.size + 1, C, S, y, rfl, M.T, upd_same, fun dx n ne => ⟨rfl, dx, by rw [upd_ne ne] at n; exact n, ne, slH_new⟩⟩) fun r s' hq => ?_))
  cases r with
  | error er => exact hx pins σ _ _ er s' I2 hq
  | ok fl =>
    cases fl with
    | ret v0 =>
      obtain ⟨v, H2, os2, bare2, un2, hok2, rv, ev, dx, nd, ne, rfl⟩ := hq
      subst ev
      refine ⟨rv, h _ dx s' ⟨hsz, hn, nd, ne, ⟨_, kk, un2⟩, hok2, os2, bare2, ?_⟩⟩
      exact I2.call' (ch := []) os2 un2 hok2 bare2 (fun b z => absurd z (by simp))
    | next => exact False.elim hq
    | brk => exact False.elim hq
    | cont => exact False.elim hq
/-- such an error, made to be raised -/
theorem SlGot.raised {Q : XK} {a dx : Addr} {s' : Shared} (M : SlM X.K C S fI) (I : Inv X pins σ H s) (G : SlGot X pins σ H s C a dx y s')
    (q : ∀ H', H' dx = some (.xd [("thing", y)]) → H' a = none → (∀ b, b ≠ a → b ≠ dx → H' b = H b) → Q (.ref C) (some dx) H') : MkP X pins σ Q (.ref a) s' := by
  obtain ⟨h1, kk, un⟩ := G.mid
  obtain ⟨hp, g, dr, tk, os⟩ := s
  obtain ⟨h2, g2, d2, t2, os'⟩ := s'
  obtain ⟨t0, GG, J, kG, ge, hoe, na⟩ := mk_end0 (d2 := d2) (t2 := t2) (d := dx) (fs := [("thing", y)]) I G.new kk un G.hok G.os G.bare slH_a (slH_d G.ne) G.nd
  exact ⟨a, _, _, ⟨GG, g2, d2, t2, os'⟩, _, .ref C, some dx, rfl, J, kG, ge, hoe, ⟨rfl, rfl⟩, rfl, rfl, na, rfl, G.bare, raises_own M.T.exC M.T.tyC,
    q _ upd_same na fun b h1 h2 => by rw [upd_ne h2, del_ne h1, slH_ne h1 h2]⟩
end
end L2

namespace L2
open PySem PySem.Spec PyProof.Rows
/-! ### C(e), C(thing=e): the error as a value, and as what is raised -/
def rNew (C : Addr) (te : TE) : TE := fun σ H Q => te σ H fun y H1 => ∀ a dx, H1 a = none → H1 dx = none → dx ≠ a → Q (.ref a) (slH H1 a C dx y)
def rAir (C : Addr) (te : TE) : St → Hp → XK → Prop := fun σ H Q => te σ H fun y H1 => ∀ a dx H', H1 a = none → H1 dx = none → dx ≠ a →
  H' dx = some (.xd [("thing", y)]) → H' a = none → (∀ b, b ≠ a → b ≠ dx → H' b = H1 b) → Q (.ref C) (some dx) H'
section
variable {X : Cx} {C S fI : Addr} {k : Nat} {fd : FuncData} {CX : CXT} {x : Str} {e : Expr} {te : TE} {p pos kp : Pos}
theorem sl_name {Q : Value → Shared → Prop} (M : SlM X.K C S fI) (F : FnOk X.prog X.w X.K X.mg X.base CX k fI fd ["self", "thing"] (spSet X.K)) (hr : Room (k + 1) X.A) (hx : Passes CX X E0)
    (hb : ∀ u, SlBnd X.K fd [u] [] u) (hg : Gl X x) (hm : X.mg x = some (.ref C)) (he : PE X e te) {pins : List (Addr × Obj)} {σ : St} {H : Hp} {s : Shared} (I : Inv X pins σ H s) {R : V → Hp → Prop} (h : te σ H R)
    (hq : ∀ y H1 a dx s1 s', Inv X pins σ H1 s1 → R y H1 → SlGot X pins σ H1 s1 C a dx y s' → Q (.ref a) s') (hdb : (x == ("__debug__" : Str)) = false := by decide)
    (hs : starEach [e] X.env = (false, eval e X.env) :: starEach [] X.env := by rfl) : wpAny (model X.prog X.w) X.A (eval (.Call (.Name x p) [e] [] pos) X.env) Q X.xe s := by
  refine wpAny_Call_Name_kw (ld_glob I hg hm ?_ hdb)
  refine PySem.W.callWith_K (h₀ := X.base) I.ok.mod.kin M.T.kC ?_ hs (by rfl)
  rw [hs]
  show wpAny _ _ (spliced ((false, eval e X.env) :: backTo pos (starEach [] X.env))) _ _ s
  refine Calls.spliced_cons (thn (he.run pins s σ H _ I h) fun u s1 ⟨y, H1, I1, r1, q1⟩ => ?_)
  refine Calls.spliced_nil ⟨I1.kIn, ?_⟩
  show wpAny _ _ (call (.ref C) [u]) _ _ _
  exact sl_run M F hr hx (hb u) (by show 1 ≤ sizeLine; rw [sizeLine_eq]; omega) I1 r1 fun a dx s' G => hq y H1 a dx s1 s' I1 q1 G
theorem sl_kw {Q : Value → Shared → Prop} (M : SlM X.K C S fI) (F : FnOk X.prog X.w X.K X.mg X.base CX k fI fd ["self", "thing"] (spSet X.K)) (hr : Room (k + 1) X.A) (hx : Passes CX X E0)
    (hb : ∀ u, SlBnd X.K fd [] [("thing", u)] u) (hg : Gl X x) (hm : X.mg x = some (.ref C)) (he : PE X e te) {pins : List (Addr × Obj)} {σ : St} {H : Hp} {s : Shared} (I : Inv X pins σ H s) {R : V → Hp → Prop} (h : te σ H R)
    (hq : ∀ y H1 a dx s1 s', Inv X pins σ H1 s1 → R y H1 → SlGot X pins σ H1 s1 C a dx y s' → Q (.ref a) s') (hdb : (x == ("__debug__" : Str)) = false := by decide)
    (hall : (backToKw pos (keywordEach [⟨some "thing", e, kp⟩] X.env)).all (·.1.isSome) = true := by rfl) (hks : (backToKw pos (keywordEach [⟨some "thing", e, kp⟩] X.env)).filterMap (·.1) = [("thing" : Str)] := by rfl)
    (hpl : ((backTo pos (starEach [] X.env)).any (·.1) || (backToKw pos (keywordEach [⟨some "thing", e, kp⟩] X.env)).any (·.1.isNone)) = false := by rfl) :
    wpAny (model X.prog X.w) X.A (eval (.Call (.Name x p) [] [⟨some "thing", e, kp⟩] pos) X.env) Q X.xe s := by
  refine wpAny_Call_Name_kw (ld_glob I hg hm ?_ hdb)
  refine PySem.W.callWith_KW0 (h₀ := X.base) I.ok.mod.kin M.T.kC hall ?_ hpl
  have hk : PK X [⟨some "thing", e, kp⟩] (tCons te tNil) := pk_cons he pk_nil
  refine thn (hk.run pos pins s σ H (fun vs H1 => match vs with | [y] => R y H1 | _ => False) I h) fun ws s1 ⟨vs, H1, I1, rz, q1⟩ => ⟨I1.kIn, ?_⟩
  match vs, rz, q1 with
  | [y], rz, q1 =>
    obtain ⟨u, rfl, ry⟩ := vals1 rz
    rw [hks]
    show wpAny _ _ (call (.ref C) [] [("thing", u)]) _ _ _
    exact sl_run M F hr hx (hb u) (Nat.zero_le _) I1 ry fun a dx s' G => hq y H1 a dx s1 s' I1 q1 G
end
end L2
namespace L2
open PySem PySem.Spec PyProof.Rows
section
variable {X : Cx} {C S fI : Addr} {k : Nat} {fd : FuncData} {CX : CXT} {x : Str} {e : Expr} {te : TE} {p pos kp : Pos}
theorem pe_sl (M : SlM X.K C S fI) (F : FnOk X.prog X.w X.K X.mg X.base CX k fI fd ["self", "thing"] (spSet X.K)) (hr : Room (k + 1) X.A) (hx : Passes CX X E0)
    (hb : ∀ u, SlBnd X.K fd [u] [] u) (hm : X.mg x = some (.ref C)) (he : PE X e te) (hg : Gl X x := by rfl) (hdb : (x == ("__debug__" : Str)) = false := by decide)
    (hs : starEach [e] X.env = (false, eval e X.env) :: starEach [] X.env := by rfl) : PE X (.Call (.Name x p) [e] [] pos) (rNew C te) :=
  ⟨fun pins s σ H Q I h => sl_name M F hr hx hb hg hm he I h (fun y H1 a dx s1 s' I1 q G => ⟨.ref a, _, G.inv, rfl, q a dx G.na G.nd G.ne⟩) hdb hs⟩
theorem pe_slK (M : SlM X.K C S fI) (F : FnOk X.prog X.w X.K X.mg X.base CX k fI fd ["self", "thing"] (spSet X.K)) (hr : Room (k + 1) X.A) (hx : Passes CX X E0)
    (hb : ∀ u, SlBnd X.K fd [] [("thing", u)] u) (hm : X.mg x = some (.ref C)) (he : PE X e te) (hg : Gl X x := by rfl) (hdb : (x == ("__debug__" : Str)) = false := by decide)
    (hall : (backToKw pos (keywordEach [⟨some "thing", e, kp⟩] X.env)).all (·.1.isSome) = true := by rfl) (hks : (backToKw pos (keywordEach [⟨some "thing", e, kp⟩] X.env)).filterMap (·.1) = [("thing" : Str)] := by rfl)
    (hpl : ((backTo pos (starEach [] X.env)).any (·.1) || (backToKw pos (keywordEach [⟨some "thing", e, kp⟩] X.env)).any (·.1.isNone)) = false := by rfl) : PE X (.Call (.Name x p) [] [⟨some "thing", e, kp⟩] pos) (rNew C te) :=
  ⟨fun pins s σ H Q I h => sl_kw M F hr hx hb hg hm he I h (fun y H1 a dx s1 s' I1 q G => ⟨.ref a, _, G.inv, rfl, q a dx G.na G.nd G.ne⟩) hdb hall hks hpl⟩
theorem pmk_sl (M : SlM X.K C S fI) (F : FnOk X.prog X.w X.K X.mg X.base CX k fI fd ["self", "thing"] (spSet X.K)) (hr : Room (k + 1) X.A) (hx : Passes CX X E0)
    (hb : ∀ u, SlBnd X.K fd [u] [] u) (hm : X.mg x = some (.ref C)) (he : PE X e te) (hg : Gl X x := by rfl) (hdb : (x == ("__debug__" : Str)) = false := by decide)
    (hs : starEach [e] X.env = (false, eval e X.env) :: starEach [] X.env := by rfl) : PMk X (.Call (.Name x p) [e] [] pos) (rAir C te) :=
  fun pins s σ H Q I h => sl_name M F hr hx hb hg hm he I h (fun y H1 a dx s1 s' I1 q G => G.raised M I1 fun H' => q a dx H' G.na G.nd G.ne) hdb hs
theorem pmk_slK (M : SlM X.K C S fI) (F : FnOk X.prog X.w X.K X.mg X.base CX k fI fd ["self", "thing"] (spSet X.K)) (hr : Room (k + 1) X.A) (hx : Passes CX X E0)
    (hb : ∀ u, SlBnd X.K fd [] [("thing", u)] u) (hm : X.mg x = some (.ref C)) (he : PE X e te) (hg : Gl X x := by rfl) (hdb : (x == ("__debug__" : Str)) = false := by decide)
    (hall : (backToKw pos (keywordEach [⟨some "thing", e, kp⟩] X.env)).all (·.1.isSome) = true := by rfl) (hks : (backToKw pos (keywordEach [⟨some "thing", e, kp⟩] X.env)).filterMap (·.1) = [("thing" : Str)] := by rfl)
    (hpl : ((backTo pos (starEach [] X.env)).any (·.1) || (backToKw pos (keywordEach [⟨some "thing", e, kp⟩] X.env)).any (·.1.isNone)) = false := by rfl) : PMk X (.Call (.Name x p) [] [⟨some "thing", e, kp⟩] pos) (rAir C te) :=
  fun pins s σ H Q I h => sl_kw M F hr hx hb hg hm he I h (fun y H1 a dx s1 s' I1 q G => G.raised M I1 fun H' => q a dx H' G.na G.nd G.ne) hdb hall hks hpl
end
/-! ### an error that stands: tracked, or pinned with its dict tracked -/
/-- at a an error of the class at C is to be read, its thing v -/
def ErrIs (X : Cx) (H : Hp) (a C : Addr) (v : V) : Prop := ∀ (pins : List (Addr × Obj)) (σ : St) (s : Shared), Inv X pins σ H s →
  ∃ (oe od : Obj) (u : Value), PySem.W.InstAt s.heap a oe C (some od) ∧ PySem.W.lookIn "thing" od = some (some u) ∧ RelV v u
theorem thing_at {h : Heap} {dx : Addr} {v : V} {mA : Str → Option Value} (hns : h.Ns1 dx mA) (r : ∀ f, RelO (List.lookup f [(("thing" : Str), v)]) (mA f)) :
    ∃ (od : Obj) (u : Value), h.get? dx = some od ∧ PySem.W.lookIn "thing" od = some (some u) ∧ RelV v u := by
  obtain ⟨od, ho, hl⟩ := lookIn_ns hns
  have l : List.lookup ("thing" : Str) [(("thing" : Str), v)] = some v := by simp [List.lookup]
  obtain ⟨u, hu, ru⟩ := RelO.some_of (v := v) (o := mA "thing") (by rw [← l]; exact r "thing")
  exact ⟨od, u, ho, by rw [hl, hu], ru⟩
theorem ErrIs.tracked {X : Cx} {H : Hp} {a C dx : Addr} {v : V} (ha : H a = some (exo a C (some dx))) (hd : H dx = some (exd dx [("thing", v)])) : ErrIs X H a C v := fun pins σ s I => by
  obtain ⟨t1, ho⟩ := exo_at I.hok ha
  obtain ⟨mA, hns, r⟩ := exd_at I.hok hd
  obtain ⟨od, u, h1, h2, h3⟩ := thing_at hns r
  exact ⟨_, od, u, ⟨ho, rfl, rfl, h1⟩, h2, h3⟩
theorem ErrIs.pinned {X : Cx} {H : Hp} {a C dx : Addr} {v : V} {oe : Obj} (hp : (a, oe) ∈ X.pn) (hz : Zc (.ref C) (some dx) oe) (hf : ∃ vs, oe.data = .fields vs) (hd : H dx = some (.xd [("thing", v)])) : ErrIs X H a C v := fun pins σ s I => by
  obtain ⟨ho, _⟩ := I.pin (a, oe) (List.mem_append_left _ hp)
  obtain ⟨mA, hns, r⟩ := (show ObjOk X.prog X.w H s.heap dx (.xd [("thing", v)]) from I.hok dx _ hd)
  obtain ⟨od, u, h1, h2, h3⟩ := thing_at hns r
  obtain ⟨vs, hv⟩ := hf
  exact ⟨oe, od, u, ⟨ho, hz.1, by unfold PySem.W.notCls; rw [hv], by rw [hz.2]; exact h1⟩, h2, h3⟩
section
variable {X : Cx} {e : Expr} {te : TE} {pos : Pos}
theorem pe_thing (he : PE X e te) (hb : attributeBase e "thing" X.env (eval e X.env) = eval e X.env := by rfl) :
    PE X (.Attribute e "thing" pos) (fun σ H Q => te σ H fun x H1 => ∃ (a C S : Addr) (v : V), x = .ref a ∧ SlC X.K C S ∧ ErrIs X H1 a C v ∧ Q v H1) := by
  refine ⟨fun pins s σ H Q I h => ?_⟩
  refine attr_of hb (thn (he.run pins s σ H _ I h) fun u s1 ⟨x, H1, I1, rx, a, C, S, v, ex, T, er, q⟩ => ?_)
  subst ex
  obtain rfl : u = Value.ref a := rx
  obtain ⟨oe, od, u, J, hl, ru⟩ := er pins σ s1 I1
  exact HandSPX.exc_get I1.kIn J T.ga T.gg T.exC (PySem.W.findObj_own T.hd T.noT rfl hl) (handed_of ru) ⟨v, H1, I1.tok _, ru, q⟩
theorem sl_kit {a C S : Addr} {v : V} {H : Hp} {pins : List (Addr × Obj)} {σ : St} {s : Shared} (T : SlC X.K C S) (er : ErrIs X H a C v) (I : Inv X pins σ H s) :
    ∃ P : Heap → Prop, PySem.W.KitX X.K (.ref a) (.ref C) P ∧ P s.heap := by
  obtain ⟨oe, od, u, J, _, _⟩ := er pins σ s I
  obtain ⟨cd, hcl, _⟩ := T.clsIn
  exact ⟨_, PySem.W.kitx_exc (by rw [hcl]; rfl) T.ga T.gg T.exC T.hc T.hn T.ht T.hm, J⟩
/-- isinstance(error, T); isinstance(error, (T1, T2, ..)) -/
theorem call_isE1 : CallR X (.builtin "isinstance") (fun xs H Q => ∃ (a C S : Addr) (v c : V) (u : Value) (b : Bool), xs = [.ref a, c] ∧ ClsV c u ∧ SlC X.K C S ∧ ErrIs X H a C v ∧ PySem.W.kitOne X.K (.ref C) u = some b ∧ Q (.bl b) H) := by
  intro pins s σ H xs us Q I r h
  obtain ⟨a, C, S, v, c, u, b, rfl, k, T, er, e, q⟩ := h
  obtain ⟨u1, u2, rfl, r1, r2⟩ := vals2 r
  have e2 := k.eq r2
  subst e2
  cases (show u1 = Value.ref a from r1)
  obtain ⟨P, Z, p⟩ := sl_kit T er I
  exact PySem.W.kia_one Z I.kIn p e (fun z => nomatch z) fun tk => ⟨.bl b, H, I.tok tk, rfl, q⟩
theorem call_isET : CallR X (.builtin "isinstance") (fun xs H Q => ∃ (a C S tp : Addr) (v : V) (cs : List V) (us : List Value) (b : Bool), xs = [.ref a, .ref tp] ∧ H tp = some (.tup cs) ∧ Paired ClsV cs us ∧ SlC X.K C S ∧ ErrIs X H a C v ∧ PySem.W.kitAny X.K (.ref C) us = some b ∧ Q (.bl b) H) := by
  intro pins s σ H xs us Q I r h
  obtain ⟨a, C, S, tp, v, cs, ws, b, rfl, hT, k, T, er, e, q⟩ := h
  obtain ⟨u1, u2, rfl, r1, r2⟩ := vals2 r
  cases (show u1 = Value.ref a from r1)
  cases (show u2 = Value.ref tp from r2)
  obtain ⟨P, Z, p⟩ := sl_kit T er I
  obtain ⟨_, its, rv, o, h1, h2, n, h3⟩ := (show ObjOk X.prog X.w H s.heap tp (.tup cs) from I.hok tp _ hT)
  have e3 := ClsV.all k rv
  subst e3
  obtain ⟨oc, od, dt, sl⟩ := o
  simp only at h2 h3
  subst h2 h3
  exact PySem.W.kia_tup Z I.kIn p h1 e (fun z => nomatch z) fun tk => ⟨.bl b, H, I.tok tk, rfl, q⟩
end
end L2

namespace L2
open PySem PySem.Spec PyProof.Rows
/-! ### the two __init__ -/
def scpS : Scope := { kind := .function, names := [(PySem.Str.ofString "self", .local), (PySem.Str.ofString "thing", .local)], isGenerator := false, isCoroutine := false, more := [] }
def scpC : Scope := { kind := .function, names := [(PySem.Str.ofString "self", .local), (PySem.Str.ofString "thing", .local), (PySem.Str.ofString "SlopeError", .globalImplicit)], isGenerator := false, isCoroutine := false, more := [] }
def argsS (p1 p2 : Pos) (ds : List Expr) : Arguments := { posonlyargs := [], args := [{ arg := "self", annotation := none, pos := p1 }, { arg := "thing", annotation := none, pos := p2 }], vararg := none, kwonlyargs := [], kw_defaults := [], kwarg := none, defaults := ds }
def bodyS (q1 q2 q3 q4 : Pos) : List Stmt := [.Assign [.Attribute (.Name "self" q1) "thing" q2] (.Name "thing" q3) q4]
def bodyC (q1 q2 q3 q4 q5 q6 : Pos) : List Stmt := [.Expr (.Call (.Attribute (.Name "SlopeError" q1) "__init__" q2) [.Name "self" q3, .Name "thing" q4] [] q5) q6]
theorem fsS : FnScope ["self", "thing"] ["self", "thing"] scpS := ⟨rfl, rfl, rfl, by decide +kernel, rfl, by decide +kernel, by decide +kernel⟩
theorem fsC : FnScope ["self", "thing"] ["self", "thing"] scpC := ⟨rfl, rfl, rfl, by decide +kernel, rfl, by decide +kernel, by decide +kernel⟩
section
variable {P : Program} {w : World} {K : PySem.W.Frag} {mg : Str → Option Value} {base : Heap} {qual : Str} {f fS S : Addr} {fd fdS : FuncData} {p1 p2 q1 q2 q3 q4 q5 q6 : Pos} {ds : List Expr}
theorem ok_slS (F : FunD K "__init__" qual (argsS p1 p2 ds) (bodyS q1 q2 q3 q4) scpS [.non] [] f fd) : FnOk P w K mg base CX0 1 f fd ["self", "thing"] (spSet K) := by
  refine F.ok fsS (fun vs H Q E h => ?_) (fun cdv A outer s H vs Q E hr h => ?_)
  · obtain ⟨a, C, S, y, rfl, _⟩ := h
    rfl
  · obtain ⟨a, C, S, y, rfl, T, ha, k⟩ := h
    exact ⟨_, pss_one (ps_sto (pv 0) (pv 1)), _, rfl, _, rfl, a, C, S, rfl, T, ha, fun dx n ne => k dx n ne⟩
theorem bnd_slS (F : FunD K "__init__" qual (argsS p1 p2 ds) (bodyS q1 q2 q3 q4) scpS [.non] [] f fd) : Binds K fd ["self", "thing"] [] := by
  obtain ⟨es, r, b⟩ := F.binds1 (ps := ["self", "thing"]) 2 1 (by simp) rfl (fun T kV doc pm an cdv ct us its h1 h2 => by
    match us, its, h1, h2 with
    | [u, v], [d], _, _ => exact ⟨_, rfl, by rfl⟩)
  have e : es = [] := by cases r; rfl
  rw [e] at b
  exact b
theorem arm_slC {env : Env} (h : (q2.endLine == q5.line) = true) :
    eval (.Call (.Attribute (.Name "SlopeError" q1) "__init__" q2) [.Name "self" q3, .Name "thing" q4] [] q5) env = (do
      let ov ← eval (.Name "SlopeError" q1) env
      standAt q2.atName
      let (f, first) ← holding [ov] (getMethod ov "__init__" (do return (← importBound (.Name "SlopeError" q1) env).getD true))
      callWith q5 f first (backTo q5 (starEach [.Name "self" q3, .Name "thing" q4] env)) (backToKw q5 (keywordEach [] env))) := by
  show (do
    let ov ← eval (.Name "SlopeError" q1) env
    standAt q2.atName
    methodCall (.Name "SlopeError" q1) "__init__" q2 q5 env ov 2 (backTo q5 (starEach [.Name "self" q3, .Name "thing" q4] env)) (backToKw q5 (keywordEach [] env))) = _
  unfold methodCall methodCallPos
  rw [h]
  rfl
theorem ok_slC (hl : (q2.endLine == q5.line) = true) (F : FunD K "__init__" qual (argsS p1 p2 []) (bodyC q1 q2 q3 q4 q5 q6) scpC [] [] f fd) (B : SlB K mg S fS) (FS : FnOk P w K mg base CX0 1 fS fdS ["self", "thing"] (spSet K)) (bS : Binds K fdS ["self", "thing"] []) :
    FnOk P w K mg base CX0 2 f fd ["self", "thing"] (spSet K) := by
  refine F.ok fsC (fun vs H Q E h => ?_) (fun cdv A outer s H vs Q E hr h => ?_)
  · obtain ⟨a, C, S, y, rfl, _⟩ := h
    rfl
  · obtain ⟨a, C, S', y, rfl, T, ha, k⟩ := h
    refine ⟨_, pss_one (ps_expr (pe_slInit (E := E0) B FS hr bS pass0 rfl (pa_cons (pv 0) (pa_cons (pv 1) pa_nil)) (arm_slC hl))), ?_⟩
    exact ⟨_, rfl, _, rfl, a, C, S', y, rfl, T, ha, fun dx n ne => k dx n ne⟩
theorem bnd_sl1 (F : FunD K "__init__" qual (argsS p1 p2 []) (bodyC q1 q2 q3 q4 q5 q6) scpC [] [] f fd) (u : Value) : SlBnd K fd [u] [] u := by
  obtain ⟨oc, od, dV, kV, doc, pm, an, cdv, ct, osl, rfl, lk, hcd, hD, hK⟩ := F.ex
  rcases hD with ⟨_, rfl⟩ | ⟨e, _⟩
  · exact fun s x X => .of_eq (by rfl)
  · exact absurd rfl e
theorem bnd_slK (F : FunD K "__init__" qual (argsS p1 p2 []) (bodyC q1 q2 q3 q4 q5 q6) scpC [] [] f fd) (u : Value) : SlBnd K fd [] [("thing", u)] u := by
  obtain ⟨oc, od, dV, kV, doc, pm, an, cdv, ct, osl, rfl, lk, hcd, hD, hK⟩ := F.ex
  rcases hD with ⟨_, rfl⟩ | ⟨e, _⟩
  · exact fun s x X => .of_eq (by first | rfl | with_unfolding_all rfl | kernel_rfl)
  · exact absurd rfl e
end
end L2

namespace L2
open PySem PySem.Spec PyProof.Rows
/-! ### try: body, except A as n: .., except B as n: .. (one name for all clauses) -/
abbrev Suite := Addr → Value → Option Addr → TS
def endsAs (i : Nat) (D : Ends) : Ends := { nx := fun σ' H' => D.nx (σ'.set i none) H', rt := D.rt, bk := fun σ' H' => D.bk (σ'.set i none) H', ct := fun σ' H' => D.ct (σ'.set i none) H' }
def wSeq (K : PySem.W.Frag) (i : Nat) (Wout : WX) (D : Ends) : List (Value × Suite) → WX
  | [] => Wout
  | (c, ts) :: r => fun cls d σ H => ∃ b, PySem.W.exmOne K cls c = some b ∧ (b = true → ∀ a, H a = none → ts a cls d (endsAs i D) (σ.set i (some (.ref a))) H) ∧ (b = false → wSeq K i Wout D r cls d σ H)
inductive SeqOk (X : Cx) (n : Str) : List ExceptHandler → List (Value × Suite) → Prop
  | nil : SeqOk X n [] []
  | cons {x : Str} {c : Value} {ts : Suite} {b0 : Stmt} {suite : List Stmt} {np hp : Pos} {hds : List ExceptHandler} {l : List (Value × Suite)} (named : Names X x c)
      (does : ∀ (a : Addr) (oe : Obj) (cls : Value) (d : Option Addr) (pn : List (Addr × Obj)), Zc cls d oe → (∃ vs, oe.data = .fields vs) → PSs (X.suite a ((a, oe) :: pn)) (b0 :: suite) (ts a cls d)) (r : SeqOk X n hds l) :
      SeqOk X n (.ExceptHandler (some (.Name x np)) (some n) (b0 :: suite) hp :: hds) ((c, ts) :: l)
section
variable {X : Cx} {n : Str} {i : Nat} {body : List Stmt} {h0 : ExceptHandler} {hds : List ExceptHandler} {l : List (Value × Suite)} {pos : Pos} {tb : WX → TS} {Wout : WX}
theorem ps_try_seq (sta : X.stack = X.env :: X.outer) (own : X.env.frame = some X.env.locals) (nod : X.N.Nodup) (slot : X.N[i]? = some n) (loc : X.env.kindOf n = some .local) (tk : Takes X Wout)
    (hb : ∀ (W : WX) (pn : List (Addr × Obj)) (xe : Value → Shared → Prop), Takes (X.tr pn xe) W → PassesOwn (model X.prog X.w) X.A X.env xe → PSs (X.tr pn xe) body (tb W))
    (hh : SeqOk X n (h0 :: hds) l) : PS X (.Try body (h0 :: hds) [] [] pos) (fun D σ H => tb (wSeq X.K i Wout D l) D σ H) := by
  refine ⟨fun pins s σ H D I h => ?_⟩
  have fine := I.ok
  have frs0 : X.A.frames = some (X.env :: X.outer) := by rw [fine.frames, sta]
  refine wpAny_Try_except ?_
  refine wpAny_mono ((hb (wSeq X.K i Wout D l) (X.pn ++ pins) (fun e t1 => wpAny (model X.prog X.w) X.A (noteFrame e X.env) (fun _ t2 => wpAny (model X.prog X.w) X.A (setFlight e none)
    (fun _ t3 => wpAny (model X.prog X.w) X.A (handleBy e X.env (h0 :: hds)) (SP X pins D) X.xe t3) X.xe t2) X.xe t1) (fun u s' air => ?_) PassesOwn.looking).run [] s σ H D (I.toTry _) h) (fun f s1 got => ?_) (fun e s1 he => he)
  · obtain ⟨a, B, sI, pins', σ', H', cls, d, rfl, J', nb, up, sky, na, os, ag, wish⟩ := air
    have J : Inv X pins σ' H' sI := J'.ofTry fine
    have sky1 : Sky B (X.env :: X.outer) a (Zc cls d) X.env.locals s'.heap := by rw [← sta]; exact sky
    show wpAny (model X.prog X.w) X.A (noteFrame (.ref a) X.env) _ _ _
    refine Sky.land Zc.steady frs0 own sky1 fun k3 fl3 up3 => ?_
    have J3 : Inv X pins σ' H' { s' with heap := k3 } := J.landed nb fl3.1 (up.trans up3) os ag
    obtain ⟨oe3, vs3, he3, hz3, hd3⟩ := fl3.there
    have off : a ∉ frs (X.env :: X.outer) := fun hm => by
      obtain ⟨_, o', e', nof⟩ := fl3.2.2.1.mem hm
      rw [he3] at e'; cases e'
      exact nof _ hd3
    have offL : a ≠ X.env.locals := fun z => off (List.mem_filterMap.mpr ⟨X.env, List.mem_cons_self, by rw [own, z]⟩)
    have offF : a ∉ X.fs := fun hm => by
      obtain ⟨v, hv, q⟩ := List.mem_filterMap.mp hm
      exact off (List.mem_filterMap.mpr ⟨v, List.mem_cons_of_mem _ hv, q⟩)
    have S3 := J3.suite he3 hd3 na offL offF
    have walk : ∀ {hds' : List ExceptHandler} {l' : List (Value × Suite)}, SeqOk X n hds' l' → wSeq X.K i Wout D l' cls d σ' H' →
        wpAny (model X.prog X.w) X.A (handleBy (.ref a) X.env hds') (SP X pins D) X.xe { s' with heap := k3 } := by
      intro hds' l' hk
      induction hk with
      | nil =>
        intro wi
        refine wpAny_handleBy_nil ?_
        obtain ⟨z1, z2, z3, oe, vs, T, oT, ts', he, hz, hd, h1, hr⟩ := id fl3
        unfold PySem.passOn
        refine wpAny_bind (wpAny_field he hd h1 ?_); rw [if_neg (show ¬ ((Value.ref T == Value.none) = true) from by simp)]
        have fin : wpAny (model X.prog X.w) X.A (setFlight (.ref a) X.env.frame) (fun _ s4 => wpAny (model X.prog X.w) X.A (throw (.ref a) : Sem Flow) (SP X pins D) X.xe s4) X.xe { s' with heap := k3 } := by
          rw [own]
          refine HandSPX.setFlight_upZ fl3 fun k4 hk4 up4 => wpAny_throw (tk _ _ ?_)
          exact ⟨a, B, sI, pins, σ', H', cls, d, rfl, J, nb, (up.trans up3).trans up4, .inr (.inr (by rw [sta]; exact hk4)), na, os, ag, wi⟩
        first | exact wpAny_bind (wpAny_pure (wpAny_bind fin)) | exact wpAny_bind fin
      | @cons x c ts b0 suite np hp hds2 l2 named does r ih =>
        intro wi
        obtain ⟨b, eb, yes, no⟩ := wi
        refine wpAny_handleBy_cons (codeAny_handlers_test ?_) (by intro q; cases q)
        have lt : PySem.W.Looks (model X.prog X.w) k3 (typeOf (.ref a)) cls := fun A Q E s k q => wpAny_typeOf_ref (k _ _ he3) (by rw [hz3.1]; exact q)
        have lm := PySem.W.exm_one (M := model X.prog X.w) (J3.kIn) lt eb
        have names : ∀ {Q : Value → Shared → Prop} {E : Value → Shared → Prop}, Q c { s' with heap := k3 } → wpAny (model X.prog X.w) (X.A.mark (some (.ref a))) (eval (.Name x np) X.env) Q E { s' with heap := k3 } := fun {Q E} q => by
          obtain ⟨hg, nd, hm | ⟨hm, hv, hnn⟩⟩ := named
          · exact ld_glob (X := X.suite a ((a, oe3) :: (X.pn ++ pins))) S3 hg hm q nd
          · exact ld_blt (X := X.suite a ((a, oe3) :: (X.pn ++ pins))) S3 hg hm hv q hnn nd
        refine names (lm.here ?_)
        cases b with
        | true =>
          refine codeAny_handlers_suite_as ?_
          refine HandSPX.lands_againZ fl3 fun k4 fl4 up4 => ?_
          have J4 : Inv X pins σ' H' { s' with heap := k4 } := J.landed nb fl4.1 ((up.trans up3).trans up4) os ag
          obtain ⟨oe4, vs4, he4, hz4, hd4⟩ := fl4.there
          have S4 := J4.suite he4 hd4 na offL offF
          refine store_ok (X := X.suite a ((a, oe4) :: (X.pn ++ pins))) (v := .ref a) S4 nod slot (.inl loc) rfl (fun s5 S5 => ?_) (.inr loc)
          refine wpAny_mono ((does a oe4 cls d (X.pn ++ pins) hz4 ⟨_, hd4⟩).run [] s5 _ H' _ S5 (yes rfl a na)) (fun f s6 got => ?_) (fun _ _ z => False.elim z)
          have close : ∀ {σ6 : St} {H6 : Hp} {Q : Shared → Prop}, Inv (X.suite a ((a, oe4) :: (X.pn ++ pins))) [] σ6 H6 s6 → (∀ s7, Inv X pins (σ6.set i none) H6 s7 → Q s7) →
              wpAny (model X.prog X.w) X.A (do bindName X.env n .none; unbindBehindTheSuite X.env n hp) (fun _ s7 => Q s7) X.xe s6 := fun {σ6 H6 Q} S6 hq => gone_ok (S6.unsuite fine) nod slot loc hq
          cases f with
          | next => obtain ⟨σ6, H6, S6, q6⟩ := got; exact close S6 fun s7 J7 => ⟨_, _, J7, q6⟩
          | brk => obtain ⟨σ6, H6, S6, q6⟩ := got; exact close S6 fun s7 J7 => ⟨_, _, J7, q6⟩
          | cont => obtain ⟨σ6, H6, S6, q6⟩ := got; exact close S6 fun s7 J7 => ⟨_, _, J7, q6⟩
          | ret u => obtain ⟨v6, σ6, H6, S6, r6, q6⟩ := got; exact close S6 fun s7 J7 => ⟨_, _, _, J7, r6, q6⟩
        | false =>
          show wpAny _ X.A (handleBy (.ref a) X.env hds2) _ _ _
          exact ih (no rfl)
    exact walk hh wish
  · cases f with
    | next => obtain ⟨σ', H', J', q⟩ := got; exact wpAny_execs_nil ⟨σ', H', J'.ofTry fine, q⟩
    | brk => obtain ⟨σ', H', J', q⟩ := got; exact ⟨σ', H', J'.ofTry fine, q⟩
    | cont => obtain ⟨σ', H', J', q⟩ := got; exact ⟨σ', H', J'.ofTry fine, q⟩
    | ret u => obtain ⟨v, σ', H', J', r, q⟩ := got; exact ⟨v, σ', H', J'.ofTry fine, r, q⟩
end
/-! ### a def called within an except suite (nothing is raised there) -/
structure FnW (P : Program) (w : World) (K : PySem.W.Frag) (mg : Str → Option Value) (base : Heap) (k : Nat) (f : Addr) (fd : FuncData) (ps : List Str) (p : Addr × Obj) (sp : Sp) : Prop where
  len : ∀ vs H Q E, sp vs H Q E → vs.length = ps.length
  run : ∀ (A : Around) (outer : List Env) (s : Shared) (H : Hp) (args : Args) (us : List Value) (vs : List V) (Q : VK), L2H.RoomH k A → L2H.PinOk outer H s p → Env0 P w K mg base A outer s H → BindsTo s fd args (ps.zip us) → Vals vs us → sp vs H Q E0 →
    codeAny (model P w) A (.call (.ref f) args) (CR CX0 outer P w H s Q E0) s
theorem fn_warm {P : Program} {w : World} {K : PySem.W.Frag} {mg : Str → Option Value} {base : Heap} {k : Nat} {f : Addr} {name qual : Str} {st : Stmt} {fd : FuncData} {N ps : List Str} {p : Addr × Obj} {sp : Sp} (F : Fun K name qual st f fd) (S : FnScope N ps (defScope st))
    (len : ∀ vs H Q E, sp vs H Q E → vs.length = ps.length)
    (hbody : ∀ (cdv : Value) (A : Around) (outer : List Env) (s : Shared) (H : Hp) (vs : List V) (Q : VK), L2H.RoomH k (A.deeper (envOfC qual (defScope st) s.heap.objs.size f cdv)) → sp vs H Q E0 →
      ∃ t, PSs (L2H.cxH CX0 P w K mg base N qual (defScope st) f cdv A outer s H E0 p) (defBody st) t ∧ t { nx := fun _ H' => Q .non H', rt := Q } (L2.start N vs) H) :
    FnW P w K mg base (k + 1) f fd ps p sp := by
  obtain ⟨oc, od, kV, doc, pm, an, cdv, ct, osl, rfl, lk, hcd⟩ := F.ex
  refine ⟨len, fun A outer s H args us vs Q hr hpin e0 hb r hsp => ?_⟩
  have kin : K.In s.heap := e0.mod.kin.keeps fun b o e => (e0.bs b o e).1
  have lim : s.heap.NoLimit := e0.mod.nolimit.keeps fun b o e => (e0.bs b o e).1
  have kinds : ∀ y ∈ ps.zip us, (defScope st).names.lookup y.1 = some .local ∨ ((defScope st).names.lookup y.1 = some .cell ∧ ((cellsFrom (s.heap.objs.size + 1) (defScope st).names []).lookup y.1).isSome = true) := fun ⟨m, v⟩ hy =>
    (S.par m (List.of_mem_zip hy).1).elim .inl fun q => .inr ⟨q, PySem.W.cellsFrom_some _ _ _ (.inl q)⟩
  refine codeAny_call_function hr.depth (kin _ _ lk) rfl S.co S.gen rfl (PySem.W.codeRec_of kin hcd) (hb _ _ _ _ ?_)
  refine wpAny_newFunctionEnv_cells S.kind kinds fun env he s1 x => ?_
  subst he
  refine ⟨lim.keeps x.toInCall.keep, codeAny_func ?_⟩
  obtain ⟨t, ht, hq⟩ := hbody cdv A outer s H vs Q (hr.deeper _) hsp
  have I : Inv (L2H.cxH CX0 P w K mg base N qual (defScope st) f cdv A outer s H E0 p) [] (L2.start N vs) H s1 := L2H.inv_startH S hpin e0 (len _ _ _ _ hsp) r x
  refine wpAny_mono (ht.run [] s1 (L2.start N vs) H _ I hq) (fun fl s' got => ?_) fun e s' z => z
  cases fl with
  | ret u => obtain ⟨v, σ', H', J, rv, q⟩ := got; exact ⟨v, H', J.os, J.bare, J.base, J.hok, rv, q⟩
  | next => obtain ⟨σ', H', J, q⟩ := got; exact ⟨V.non, H', J.os, J.bare, J.base, J.hok, (rfl : Value.none = Value.none), q⟩
  | brk => obtain ⟨_, _, _, q⟩ := got; exact False.elim q
  | cont => obtain ⟨_, _, _, q⟩ := got; exact False.elim q
section
variable {X : Cx} {k : Nat} {f : Addr} {fd : FuncData} {ps : List Str} {sp : Sp} {x : Str} {q pos : Pos} {e : Expr} {es : List Expr} {t : TA} {p : Addr × Obj}
theorem pe_warm (F : FnW X.prog X.w X.K X.mg X.base k f fd ps p sp) (hr : L2H.RoomH k X.A) (hp : p ∈ X.pn) (hm : X.mg x = some (.ref f)) (hk : PySem.W.keepIn X.K (.ref f) = true) (hb : Binds X.K fd ps []) (ha : PA X (e :: es) t) (hg : Gl X x := by rfl)
    (hdb : (x == ("__debug__" : Str)) = false := by decide) (he : starEach (e :: es) X.env = (false, eval e X.env) :: starEach es X.env := by rfl) (hpl : (backTo pos (starEach es X.env)).any (·.1) = false := by rfl) :
    PE X (.Call (.Name x q) (e :: es) [] pos) (fun σ H Q => t σ H fun vs H1 => sp vs H1 Q E0) := by
  refine ⟨fun pins s σ H Q I h => ?_⟩
  refine wpAny_Call_Name_kw (ld_glob I hg hm ?_ hdb)
  refine PySem.W.callWith_K (h₀ := X.base) I.ok.mod.kin hk (thn (ha.run pos pins s σ H _ I h) fun us s1 ⟨vs, H1, I1, r, qq⟩ => ⟨I1.kIn, ?_⟩) he hpl
  have hl : us.length = ps.length := by rw [← r.length]; exact F.len _ _ _ _ qq
  have bb := hb s1 us I1.kIn (by rw [List.append_nil]; exact hl)
  rw [List.append_nil] at bb
  have pin := I1.pin p (List.mem_append_left _ hp)
  have pok : L2H.PinOk X.stack H1 s1 p := ⟨pin.1, pin.2.1, fun hm => (List.mem_cons.mp (I1.stkSub p.1 hm)).elim pin.2.2.1 pin.2.2.2.1, pin.2.2.2.2⟩
  refine wpAny_call (codeAny_mono (F.run X.A X.stack s1 H1 ⟨us, []⟩ us vs Q hr pok I1.env0 bb r qq) fun r s' hq => ?_)
  cases r with
  | error e => exact False.elim hq
  | ok fl =>
    cases fl with
    | ret u => exact I1.after hq
    | next => exact False.elim hq
    | brk => exact False.elim hq
    | cont => exact False.elim hq
end
end L2

namespace PySem
open Sem (wp)
/-! enumerate(v) with one argument, v by how its iterator begins -/
theorem meets_enum_one {v : Value} {o : Obj} {H : Heap → Prop} (B : Begins v o H) :
    Meets (Builtin.«enumerate.__new__» ⟨[.type "enumerate", v], []⟩) (fun _ R s => H s.heap ∧
      R (.ok (.ret (.ref (s.heap.push o).objs.size))) { s with heap := (s.heap.push o).push { cls := .type "enumerate", data := .fields #[.none, .bool false, .ref s.heap.objs.size, rawInt 0, .none, .none] } }) :=
  .of_wp fun prog w A R s h => by
    obtain ⟨hp, g, d, tk, os⟩ := s
    obtain ⟨h1, h⟩ := h
    have sub1 := sub_enumerate
    have its : ∀ {A' : Around} {E : Value → Shared → Prop} {Q : Value → Shared → Prop}, Q (.ref hp.objs.size) ⟨hp.push o, g, d, tk, os⟩ → wpAny (model prog w) A' (pyIter v) Q E ⟨hp, g, d, tk, os⟩ :=
      fun q => B.iter prog w _ _ ⟨hp, g, d, tk, os⟩ _ h1 q
    wp_walk using its
    refine wpAny_stack_any fun st => wpAny_pure ?_
    split
    · rename_i c _ _ _ _ _
      cases (c == Value.type "enumerate") <;> (wp_walk using its; exact ⟨_, rfl, h⟩)
    · wp_walk using its
      exact ⟨_, rfl, h⟩
theorem call_enum_one {prog : Program} {w : World} {A : Around} {E : Value → Shared → Prop} {s : Shared} {v : Value} {o : Obj} {H : Heap → Prop} {Q : Value → Shared → Prop} (B : Begins v o H) (h1 : H s.heap)
    (h : ∀ h', IsEnum h' (s.heap.objs.size + 1) s.heap.objs.size 0 .none → h'.get? s.heap.objs.size = some o → (∀ b u, s.heap.get? b = some u → h'.get? b = some u) → Q (.ref (s.heap.objs.size + 1)) { s with heap := h' }) :
    wpAny (model prog w) A (call (.type "enumerate") [v]) Q E s := by
  refine callType_new F.called_enumerate (by decide) (F.typeCall_enumerate_1 _) (F.newCall_enumerate_1 _) (fun obj => F.args_object_init_2 obj _) F.entry_enumerate_new (meets_enum_one B) ⟨h1, ?_⟩
  have hz : (s.heap.push o).objs.size = s.heap.objs.size + 1 := Heap.size_push ..
  show _ ∧ _
  rw [hz]
  have he : IsEnum ((s.heap.push o).push { cls := .type "enumerate", data := .fields #[.none, .bool false, .ref s.heap.objs.size, rawInt 0, .none, .none] }) (s.heap.objs.size + 1) s.heap.objs.size 0 .none := by
    have z := Heap.get?_push_size (s.heap.push o) (o := { cls := .type "enumerate", data := .fields #[.none, .bool false, .ref s.heap.objs.size, rawInt 0, .none, .none] }) rfl
    rw [hz] at z; exact z
  exact ⟨⟨_, he, rfl⟩, h _ he (Heap.get?_push_of_some _ (Heap.get?_push_size _ B.free)) fun b u x => Heap.get?_push_of_some _ (Heap.get?_push_of_some _ x)⟩
end PySem
namespace L2
open PySem PySem.Spec PyProof.Rows
/-- the tuple at a, each item in a new pair with its place -/
def ItT (K : PySem.W.Frag) (a : Addr) : It :=
  ⟨fun i H => ∃ (xs : List V) (x : V), SqT K H a xs ∧ xs[i]? = some x, fun i H v H' => ∃ T x, v = .ref T ∧ H T = none ∧ H' = upd H T (.tup [.int (i : Nat), x]) ∧ ∀ xs, SqT K H a xs → xs[i]? = some x, fun i H => ∃ xs : List V, SqT K H a xs ∧ xs.length = i⟩
theorem turn_pairs {P : Program} {w : World} {K : PySem.W.Frag} {elts : List Expr} {kk : Nat} {tpos : Pos} (a e it : Addr) (hea : e ≠ a) (hia : a ≠ it) :
    Turn P w K (.Tuple elts kk tpos) (ItT K a) [e, it] e (fun i h => (∃ old, IsEnum h e it ((i : Nat) : Int) old) ∧ h.IsTupleIter it a i ∧ e ≠ it) where
  mem := by simp
  obj := fun i h st b hb => by
    obtain ⟨⟨old, he⟩, ⟨o, ho, hc, hd⟩, _⟩ := st
    have eb : b = e ∨ b = it := by simpa using hb
    rcases eb with z | z
    · rw [z]; exact ⟨_, he, fun v q => nomatch q⟩
    · rw [z]; exact ⟨o, ho, fun v q => by rw [hd] at q; cases q⟩
  keep := fun i h h' st k => let ⟨⟨old, he⟩, ⟨o, ho, hc, hd⟩, hne⟩ := st; ⟨⟨old, k e (by simp) _ he⟩, ⟨o, k it (by simp) _ ho, hc, hd⟩, hne⟩
  item := by
    intro X hP hw hK hc i pins s σ H E I hf st hg
    subst hP hw hK
    obtain ⟨⟨old, he⟩, hit, hne⟩ := st
    obtain ⟨xs, x, hq, hx⟩ := hg
    obtain ⟨its, rv, p, hz⟩ := I.tuple hq
    obtain ⟨u, hu, ru⟩ := rv.get hx
    have hel : e < s.heap.objs.size := Heap.lt_size he
    have hil : it < s.heap.objs.size := by obtain ⟨_, q, _⟩ := hit; exact Heap.lt_size q
    have D := Draws.tuple (prog := X.prog) (w := X.w) (A := X.A.in1) (I.ok.hd hc) it a hia its.toArray
    have hlt : i < its.toArray.size := by
      have := (List.getElem?_eq_some_iff.mp hu).1
      simpa using this
    refine wpAny_pyNext_enum_itemD D he ⟨hit, p⟩ hlt hne (by simp [hne, hea]) fun x1 h' tk hx1 ho hit' hT hsz hk => ?_
    have ex : x1 = u := by
      have q : its.toArray[i]? = some x1 := hx1
      have q2 : its.toArray[i]? = some u := by simpa using hu
      rw [q] at q2
      exact Option.some.inj q2
    subst ex
    refine ⟨_, rfl, wpAny_letOwnedTupleGo_enum (s := { s with heap := h', toks := tk + 1 }) ho fun h'' he' sb => ?_⟩
    have hT2 : h''.get? s.heap.objs.size = some { cls := .type "tuple", data := .seq #[.int i tk, x1] } := (sb.2 _ (Nat.ne_of_gt hel)).trans hT
    have fresh : ObjOk X.prog X.w (upd H s.heap.objs.size (.tup [.int (i : Nat), x])) h'' s.heap.objs.size (.tup [.int (i : Nat), x]) :=
      ⟨by show 2 ≤ sizeLine; decide, [.int i tk, x1], .cons ⟨_, rfl⟩ (.cons ru .nil), ⟨_, hT2, rfl, _, rfl⟩⟩
    have I1 : Inv X pins σ (upd H s.heap.objs.size (.tup [.int (i : Nat), x])) { s with heap := h'', toks := tk + 1 } :=
      I.turnedNew (ch := [e, it]) (fun b ob hb q => (sb.2 b (fun z => hb (by simp [z]))).trans (hk b ob (fun z => hb (by simp [z])) (fun z => hb (by simp [z])) q)) hf (Nat.le_refl _) fresh
    refine ⟨.ref s.heap.objs.size, _, I1, rfl, ⟨_, x, rfl, I.hok.fresh (Nat.le_refl _), rfl, fun ys hy => by rw [I.tuple_inj hy hq]; exact hx⟩, ⟨⟨x1, ?_⟩, ?_, hne⟩, fun b hb => ?_⟩
    · have e1 : ((i + 1 : Nat) : Int) = (i : Int) + 1 := by omega
      rw [e1]; exact he'
    · obtain ⟨⟨o, ho2, hc2, hd2⟩, _⟩ := hit'
      exact ⟨o, (sb.2 it (Ne.symm hne)).trans ho2, hc2, hd2⟩
    · have hb' : b < s.heap.objs.size := by
        have eb : b = e ∨ b = it := by simpa using hb
        rcases eb with z | z
        · rw [z]; exact hel
        · rw [z]; exact hil
      rw [upd_ne (Nat.ne_of_lt hb')]
      exact (hf b hb).1
  done := by
    intro X hP hw hK hc i pins s σ H E I hf st hg
    subst hP hw hK
    obtain ⟨⟨old, he⟩, hit, hne⟩ := st
    obtain ⟨xs, hq, hx⟩ := hg
    obtain ⟨its, rv, p, hz⟩ := I.tuple hq
    obtain ⟨f0, f1, f2, f3, f4, f5⟩ := hf it (by simp)
    have D := Draws.tuple (prog := X.prog) (w := X.w) (A := X.A.in1) (I.ok.hd hc) it a hia its.toArray
    have hn : i = its.toArray.size := by
      have := rv.length
      simp only [List.size_toArray]
      omega
    subst hn
    exact wpAny_pyNext_enum_endD D he ⟨hit, p⟩ fun h' eb => ⟨rfl, I.turned (t' := s.toks) (fun b o hb q => eb b o hb q) f0 f1 f3 f4 f5⟩
  self := fun A i s Q E st h => let ⟨⟨_, he⟩, _⟩ := st; wpAny_pyIter_enum he h
/-- enumerate(e), e a list or a tuple -/
def iEnumA (K : PySem.W.Frag) (ta : TA) : TI := fun σ H R => ta σ H fun vs H1 => ∃ a xs, vs = [.ref a] ∧ ((SqL K H1 a xs ∧ R (Ite K a) H1) ∨ (SqT K H1 a xs ∧ R (ItT K a) H1))
theorem pi_enumA {X : Cx} {e : Expr} {ta : TA} {p pos tpos : Pos} {elts : List Expr} {kk : Nat} (hg : Gl X "enumerate") (hm : X.mg "enumerate" = none) (ha : PA X [e] ta) (hs : starEach [e] X.env = [(false, eval e X.env)] := by rfl) :
    PI X (.Tuple elts kk tpos) (.Call (.Name "enumerate" p) [e] [] pos) (iEnumA X.K ta) := by
  refine ⟨fun pins s σ H R I h => ?_⟩
  refine Call_ (ld_blt I hg hm boot_enumerate (PyProof.Rows.callWith_type1 (thn (ha.run pos pins s σ H _ I h) fun us s1 ⟨vs, H1, I1, r1, q1⟩ => ?_) hs rfl))
  obtain ⟨a, xs, ex, q⟩ := q1
  subst ex
  obtain ⟨u, rfl, ru⟩ := vals1 r1
  cases (show u = Value.ref a from ru)
  have place : ∀ b ∈ [s1.heap.objs.size + 1, s1.heap.objs.size], FpOk X pins H1 b → True := fun _ _ _ => trivial
  rcases q with ⟨hq, q⟩ | ⟨hq, q⟩
  · obtain ⟨its, rv, p', hz⟩ := I1.list hq
    refine call_enumerate_list p'.isList fun h' he hit hsz hk => wpAny_pyIter_enum he ?_
    have I2 : Inv X pins σ H1 { s1 with heap := h' } := I1.kept (t' := s1.toks) hk
    refine ⟨s1.heap.objs.size + 1, [s1.heap.objs.size + 1, s1.heap.objs.size], _, _, H1, rfl, I2, turn_enum a (s1.heap.objs.size + 1) s1.heap.objs.size, ⟨⟨.none, he⟩, hit, Nat.succ_ne_self _⟩, fun b hb => ?_, q⟩
    have eb : b = s1.heap.objs.size + 1 ∨ b = s1.heap.objs.size := by simpa using hb
    have hle : s1.heap.objs.size ≤ b := eb.elim (fun z => z ▸ Nat.le_add_right _ _) (fun z => z ▸ Nat.le_refl _)
    exact I1.fpOk hle (I1.hok.fresh hle)
  · obtain ⟨its, rv, p', hz⟩ := I1.tuple hq
    have hlt : a < s1.heap.objs.size := p'.lt
    refine call_enum_one (begins_tuple a its.toArray) p' fun h' he hit hk => wpAny_pyIter_enum he ?_
    have I2 : Inv X pins σ H1 { s1 with heap := h' } := I1.kept (t' := s1.toks) hk
    refine ⟨s1.heap.objs.size + 1, [s1.heap.objs.size + 1, s1.heap.objs.size], _, _, H1, rfl, I2, turn_pairs a (s1.heap.objs.size + 1) s1.heap.objs.size (Nat.ne_of_gt (Nat.lt_succ_of_lt hlt)) (Nat.ne_of_lt hlt), ⟨⟨.none, he⟩, ⟨_, hit, rfl, rfl⟩, Nat.succ_ne_self _⟩, fun b hb => ?_, q⟩
    have eb : b = s1.heap.objs.size + 1 ∨ b = s1.heap.objs.size := by simpa using hb
    have hle : s1.heap.objs.size ≤ b := eb.elim (fun z => z ▸ Nat.le_add_right _ _) (fun z => z ▸ Nat.le_refl _)
    exact I1.fpOk hle (I1.hok.fresh hle)
end L2

namespace L2
open PySem PySem.Spec PyProof.Rows
/-! ### defs that may show data: called where no text is being made (guards) -/
abbrev Idle (A : Around) : Prop := A.guards = some []
theorem Idle.deeper {A : Around} (g : Idle A) (env : Env) : Idle (A.deeper env) := by
  show A.guards = some []
  exact g
structure FnG (P : Program) (w : World) (K : PySem.W.Frag) (mg : Str → Option Value) (base : Heap) (k : Nat) (f : Addr) (fd : FuncData) (ps : List Str) (sp : Sp) : Prop where
  len : ∀ vs H Q E, sp vs H Q E → vs.length = ps.length
  run : ∀ (A : Around) (outer : List Env) (s : Shared) (H : Hp) (args : Args) (us : List Value) (vs : List V) (Q : VK), Room k A → Idle A → Env0 P w K mg base A outer s H → BindsTo s fd args (ps.zip us) → Vals vs us → sp vs H Q E0 →
    codeAny (model P w) A (.call (.ref f) args) (CR CX0 outer P w H s Q E0) s
theorem fn_idle {P : Program} {w : World} {K : PySem.W.Frag} {mg : Str → Option Value} {base : Heap} {k : Nat} {f : Addr} {name qual : Str} {st : Stmt} {fd : FuncData} {N ps : List Str} {sp : Sp} (F : Fun K name qual st f fd) (S : FnScope N ps (defScope st))
    (len : ∀ vs H Q E, sp vs H Q E → vs.length = ps.length)
    (hbody : ∀ (cdv : Value) (A : Around) (outer : List Env) (s : Shared) (H : Hp) (vs : List V) (Q : VK), Room k (A.deeper (envOfC qual (defScope st) s.heap.objs.size f cdv)) → Idle (A.deeper (envOfC qual (defScope st) s.heap.objs.size f cdv)) → sp vs H Q E0 →
      ∃ t, PSs (cxOf CX0 P w K mg base N qual (defScope st) f cdv A outer s H E0).nox (defBody st) t ∧ t { nx := fun _ H' => Q .non H', rt := Q } (L2.start N vs) H) :
    FnG P w K mg base (k + 1) f fd ps sp := by
  obtain ⟨oc, od, kV, doc, pm, an, cdv, ct, osl, rfl, lk, hcd⟩ := F.ex
  refine ⟨len, fun A outer s H args us vs Q hr hgd e0 hb r hsp => ?_⟩
  have kin : K.In s.heap := e0.mod.kin.keeps fun b o e => (e0.bs b o e).1
  have lim : s.heap.NoLimit := e0.mod.nolimit.keeps fun b o e => (e0.bs b o e).1
  have kinds : ∀ y ∈ ps.zip us, (defScope st).names.lookup y.1 = some .local ∨ ((defScope st).names.lookup y.1 = some .cell ∧ ((cellsFrom (s.heap.objs.size + 1) (defScope st).names []).lookup y.1).isSome = true) := fun ⟨m, v⟩ hy =>
    (S.par m (List.of_mem_zip hy).1).elim .inl fun q => .inr ⟨q, PySem.W.cellsFrom_some _ _ _ (.inl q)⟩
  refine codeAny_call_function hr.depth (kin _ _ lk) rfl S.co S.gen rfl (PySem.W.codeRec_of kin hcd) (hb _ _ _ _ ?_)
  refine wpAny_newFunctionEnv_cells S.kind kinds fun env he s1 x => ?_
  subst he
  refine ⟨lim.keeps x.toInCall.keep, codeAny_func ?_⟩
  obtain ⟨t, ht, hq⟩ := hbody cdv A outer s H vs Q (hr.deeper _) (hgd.deeper _) hsp
  have I : Inv (cxOf CX0 P w K mg base N qual (defScope st) f cdv A outer s H E0) [] (L2.start N vs) H s1 := inv_start S hr.hd e0 (len _ _ _ _ hsp) r x
  refine wpAny_mono (ht.nox.run [] s1 (L2.start N vs) H _ I hq) (fun fl s' got => ?_) fun e s' z => z
  cases fl with
  | ret u => obtain ⟨v, σ', H', J, rv, q⟩ := got; exact ⟨v, H', J.os, J.bare, J.base, J.hok, rv, q⟩
  | next => obtain ⟨σ', H', J, q⟩ := got; exact ⟨V.non, H', J.os, J.bare, J.base, J.hok, (rfl : Value.none = Value.none), q⟩
  | brk => obtain ⟨_, _, _, q⟩ := got; exact False.elim q
  | cont => obtain ⟨_, _, _, q⟩ := got; exact False.elim q
section
variable {X : Cx} {k : Nat} {f : Addr} {fd : FuncData} {ps : List Str} {sp : Sp} {x : Str} {q pos : Pos} {e : Expr} {es : List Expr} {t : TA}
theorem pe_idle (F : FnG X.prog X.w X.K X.mg X.base k f fd ps sp) (hr : Room k X.A) (hi : Idle X.A) (hm : X.mg x = some (.ref f)) (hk : PySem.W.keepIn X.K (.ref f) = true) (hb : Binds X.K fd ps []) (ha : PA X (e :: es) t) (hg : Gl X x := by rfl)
    (hdb : (x == ("__debug__" : Str)) = false := by decide) (he : starEach (e :: es) X.env = (false, eval e X.env) :: starEach es X.env := by rfl) (hpl : (backTo pos (starEach es X.env)).any (·.1) = false := by rfl) :
    PE X (.Call (.Name x q) (e :: es) [] pos) (fun σ H Q => t σ H fun vs H1 => sp vs H1 Q E0) := by
  refine ⟨fun pins s σ H Q I h => ?_⟩
  refine wpAny_Call_Name_kw (ld_glob I hg hm ?_ hdb)
  refine PySem.W.callWith_K (h₀ := X.base) I.ok.mod.kin hk (thn (ha.run pos pins s σ H _ I h) fun us s1 ⟨vs, H1, I1, r, qq⟩ => ⟨I1.kIn, ?_⟩) he hpl
  have hl : us.length = ps.length := by rw [← r.length]; exact F.len _ _ _ _ qq
  have bb := hb s1 us I1.kIn (by rw [List.append_nil]; exact hl)
  rw [List.append_nil] at bb
  refine wpAny_call (codeAny_mono (F.run X.A X.stack s1 H1 ⟨us, []⟩ us vs Q hr hi I1.env0 bb r qq) fun r s' hq => ?_)
  cases r with
  | error e => exact False.elim hq
  | ok fl =>
    cases fl with
    | ret u => exact I1.after hq
    | next => exact False.elim hq
    | brk => exact False.elim hq
    | cont => exact False.elim hq
end
/-! ### the law's own head for such a def -/
/-- the base has the object of all modules (so nothing tracked stands there) -/
def Sy (base : Heap) : Prop := ∃ o, base.get? sysModules = some o
theorem idle_law {P : Program} {w : World} {K : PySem.W.Frag} {mg mb : Str → Option Value} {k : Nat} {fa a : Addr} {fd : FuncData} {x : Str} {sp : Sp} {s1 : Shared} {vs : List Value} {ns : List Int}
    (inK : K.In s1.heap) (hn : s1.heap.Ns mainGlobals mg) (hb : s1.heap.Ns builtinsNs mb) (hm : ∀ y : Str, y ≠ "__name__" → mb y = bootBuiltins y) (lim : s1.heap.NoLimit) (hg : s1.gens = #[])
    (sc : s1.heap.get? a = some { cls := .type "list", data := .seq vs.toArray }) (hi : IntsAre vs ns) (small : ns.length ≤ sizeLine) (room : Room k callerA)
    (mods : ∃ mm, s1.heap.Ns sysModules mm)
    (F : ∀ base : Heap, K.In base → base.Ns mainGlobals mg → Sy base → FnG P w K mg base k fa fd [x] sp) (bnd : ∀ (s : Shared) (u : Value), BindsTo s fd ⟨[u], []⟩ [(x, u)])
    (prom : ∀ H : Hp, Only H → SqL K H a (ns.map V.int) → sp [.ref a] H (fun v _ => v = .bl true) E0) :
    codeAny (model P w) callerA (.call (.ref fa) ⟨[.ref a], []⟩) (fun r s' => r = .ok (.ret (.bool true)) ∧ OldK s1.heap s'.heap ∧ s'.os = s1.os ∧ AllBare s'.gens) s1 := by
  have rv := vals_ints hi
  have lv := hi.length
  have main : ∀ H : Hp, Only H → SqL K H a (ns.map V.int) → HOk P w H s1.heap → (∀ b, H b ≠ none → b = a) → (H a ≠ none → K.lookup a = none) →
      codeAny (model P w) callerA (.call (.ref fa) ⟨[.ref a], []⟩) (fun r s' => r = .ok (.ret (.bool true)) ∧ OldK s1.heap s'.heap ∧ s'.os = s1.os ∧ AllBare s'.gens) s1 := by
    intro H only sq hok just none_a
    have ns_of : ∀ {b : Addr} {m : Str → Option Value}, s1.heap.Ns b m → (hidT s1.heap H).Ns b m := by
      rintro b m ⟨o, es, ep, e, d, r⟩
      refine ⟨o, es, ep, hidT_get e ?_, d, r⟩
      cases q : H b with
      | none => rfl
      | some u =>
        obtain rfl := just b (by rw [q]; simp)
        rw [sc] at e
        cases e
        exact absurd d (by intro z; cases z)
    have k_of : K.In (hidT s1.heap H) := by
      intro b o e
      refine hidT_get (inK b o e) ?_
      cases q : H b with
      | none => rfl
      | some u =>
        obtain rfl := just b (by rw [q]; simp)
        rw [none_a (by rw [q]; simp)] at e
        cases e
    have md : Mod K mg (hidT s1.heap H) := by
      obtain ⟨mc, l1, l2⟩ := lim
      exact ⟨k_of, ns_of hn, ⟨mb, ns_of hb, hm⟩, ⟨mc, ns_of l1, l2⟩⟩
    have e0 : Env0 P w K mg (hidT s1.heap H) callerA [] s1 H :=
      { frames := rfl, mod := md, bs := fun b o e => of_hidT e, bsz := Nat.le_of_eq (hidT_size _ _), funs := trivial, frf := fun b hb => (List.not_mem_nil (show b ∈ ([] : List Addr) from hb)).elim, hok := hok, bare := .of_eq hg }
    have sy : Sy (hidT s1.heap H) := by
      obtain ⟨mm, hm⟩ := mods
      obtain ⟨o, es, ep, e, _⟩ := ns_of hm
      exact ⟨o, e⟩
    have go := (F _ k_of (ns_of hn) sy).run callerA [] s1 H ⟨[.ref a], []⟩ [.ref a] [.ref a] _ room rfl e0 (bnd s1 (.ref a)) (.cons rfl .nil) (prom H only sq)
    refine codeAny_mono go fun r s' out => ?_
    cases r with
    | error e => exact False.elim out
    | ok fl =>
      cases fl with
      | next => exact False.elim out
      | brk => exact False.elim out
      | cont => exact False.elim out
      | ret u =>
        obtain ⟨v, H', os, bare, un, hok', rel, ev⟩ := out
        cases (show v = .bl true from ev)
        cases (show u = Value.bool true from rel)
        refine ⟨rfl, OldK.of_keep fun b o e => ?_, os, bare⟩
        cases q : H b with
        | none => exact un.keep b o e q (fun z => List.not_mem_nil (show b ∈ ([] : List Addr) from z)) (by simp)
        | some u =>
          rcases only b with z | ⟨ob, xs, z⟩
          · rw [q] at z; cases z
          · obtain ⟨e1, _⟩ := hok b _ z
            obtain ⟨e2, _⟩ := hok' b _ (un.frzs b ob _ z)
            rw [e] at e1; cases e1
            exact e2
  cases hk : K.lookup a with
  | some o =>
    have e := inK a o hk
    rw [sc] at e
    cases e
    exact main (fun _ => none) (fun _ => .inl rfl) (.inr ⟨_, vs.toArray, _, hk, rfl, rfl, rfl, by rw [List.size_toArray, lv]; exact small, by simpa using rv⟩) (fun b u z => nomatch (show (none : Option HO) = some u from z)) (fun b z => (z rfl).elim) (fun z => (z rfl).elim)
  | none =>
    obtain ⟨G, hG⟩ : ∃ G : Hp, G = fun b => if b = a then some (.frz { cls := .type "list", data := .seq vs.toArray } (.lst (ns.map V.int))) else none := ⟨_, rfl⟩
    have at_a : G a = some (.frz { cls := .type "list", data := .seq vs.toArray } (.lst (ns.map V.int))) := by rw [hG]; exact if_pos rfl
    have off : ∀ b, b ≠ a → G b = none := fun b hb => by rw [hG]; exact if_neg hb
    refine main G (fun b => ?_) (.inl (.inr ⟨_, at_a⟩)) (fun b u z => ?_) (fun b z => ?_) (fun _ => hk)
    · by_cases hb : b = a
      · subst hb; exact .inr ⟨_, _, at_a⟩
      · exact .inl (off b hb)
    · by_cases hb : b = a
      · subst hb
        rw [at_a] at z
        cases z
        exact ⟨sc, by rw [List.length_map]; exact small, vs, _, rv, sc⟩
      · rw [off b hb] at z; cases z
    · by_cases hb : b = a
      · exact hb
      · exact absurd (off b hb) z
theorem walk_idle {l : PySem.W.OpenLaw} {n k : Nat} {q : Program} {loose : List Str} {XP : (Str → Option Value) → Heap → Prop} {YP : World → Heap → Prop} {d : DefRec} {K : Params → PySem.W.Frag} {sp : World → Sp} {x : Str}
    (hn : l.most = some n) (small : n ≤ sizeLine) (hd : d.params.defaults = []) (hq : importsNone q = true) (room : Room k callerA) (hY : ∀ (w : World) (h : Heap), YP w h → (K w.params).In h)
    (F : ∀ (w : World) (mg : Str → Option Value) (fa : Addr) (h : Heap), (K w.params).In h → h.Ns mainGlobals mg → mg d.name = some (.ref fa) →
      ∃ fd : FuncData, (∀ (s : Shared) (u : Value), BindsTo s fd ⟨[u], []⟩ [(x, u)]) ∧ ∀ base : Heap, (K w.params).In base → base.Ns mainGlobals mg → Sy base → FnG l.prog w (K w.params) mg base k fa fd [x] (sp w))
    (prom : ∀ (w : World) (H : Hp) (a : Addr) (ns : List Int), ns.length ≤ n → Only H → SqL (K w.params) H a (ns.map V.int) → sp w [.ref a] H (fun v _ => v = .bl true) E0) :
    PySem.W.WalkO q loose XP YP l.row.toRowW d [] (fun f vs => PySem.call f vs) := by
  refine Att.attach_call hn hd fun w s0 s1 mg mb fa o pm cd doc a vs ns G Y ho hd hcd hmg hobj hints hlen hg => ?_
  have inK := hY w _ Y
  obtain ⟨fd, hb, hF⟩ := F w mg fa _ inK G.T.g hmg
  exact idle_law inK G.T.g G.T.b G.T.builtins G.T.nolimit hg hobj hints (Nat.le_trans hlen small) room (let ⟨mm, h1, _⟩ := (G.T.seer hq).mods; ⟨mm, h1⟩) hF hb (fun H hO hS => prom w H a ns hlen hO hS)
end L2

namespace L2
open PySem PySem.Spec PyProof.Rows
/-! ### data: None, bools, ints, texts; lists, tuples, dicts (keys ints and texts) of such -/
def encK : Key → PyData
  | .inl i => .int i
  | .inr x => .str x
mutual
inductive Dn (H : Hp) : V → PyData → Prop
  | non : Dn H .non .none
  | bl (b : Bool) : Dn H (.bl b) (.bool b)
  | int (i : Int) : Dn H (.int i) (.int i)
  | str (x : Str) : Dn H (.str x) (.str x)
  | lst {a : Addr} {xs : List V} {ds : List PyData} : H a = some (.lst xs) → DnAll H xs ds → Dn H (.ref a) (.list ds)
  | tup {a : Addr} {xs : List V} {ds : List PyData} : H a = some (.tup xs) → DnAll H xs ds → Dn H (.ref a) (.tuple ds)
  | dct {a : Addr} {kvs : List (Key × V)} {ds : List (PyData × PyData)} : H a = some (.dK kvs) → DnKv H kvs ds → Dn H (.ref a) (.dict ds)
inductive DnAll (H : Hp) : List V → List PyData → Prop
  | nil : DnAll H [] []
  | cons {v : V} {vs : List V} {d : PyData} {ds : List PyData} : Dn H v d → DnAll H vs ds → DnAll H (v :: vs) (d :: ds)
inductive DnKv (H : Hp) : List (Key × V) → List (PyData × PyData) → Prop
  | nil : DnKv H [] []
  | cons {k : Key} {v : V} {r : List (Key × V)} {d : PyData} {ds : List (PyData × PyData)} : Dn H v d → DnKv H r ds → DnKv H ((k, v) :: r) ((encK k, d) :: ds)
end
section
variable {H H' : Hp}
mutual
theorem Dn.mono (h : Same H H') : ∀ (d : PyData) (v : V), Dn H v d → Dn H' v d
  | .none, _, q => by cases q; exact .non
  | .bool b, _, q => by cases q; exact .bl b
  | .int i, _, q => by cases q; exact .int i
  | .str x, _, q => by cases q; exact .str x
  | .list ds, _, q => by
    cases q with
    | lst e r => exact .lst (h _ _ e) (DnAll.mono h ds _ r)
  | .tuple ds, _, q => by
    cases q with
    | tup e r => exact .tup (h _ _ e) (DnAll.mono h ds _ r)
  | .dict ds, _, q => by
    cases q with
    | dct e r => exact .dct (h _ _ e) (DnKv.mono h ds _ r)
theorem DnAll.mono (h : Same H H') : ∀ (ds : List PyData) (vs : List V), DnAll H vs ds → DnAll H' vs ds
  | [], _, q => by cases q; exact .nil
  | d :: ds, _, q => by
    cases q with
    | cons a b => exact .cons (Dn.mono h d _ a) (DnAll.mono h ds _ b)
theorem DnKv.mono (h : Same H H') : ∀ (ds : List (PyData × PyData)) (vs : List (Key × V)), DnKv H vs ds → DnKv H' vs ds
  | [], _, q => by cases q; exact .nil
  | (_, d) :: ds, _, q => by
    cases q with
    | cons a b => exact .cons (Dn.mono h d _ a) (DnKv.mono h ds _ b)
end
end
theorem sys_new {X : Cx} {pins : List (Addr × Obj)} {σ : St} {H : Hp} {s : Shared} (sy : Sy X.base) (I : Inv X pins σ H s) {a : Addr} {o : HO} (e : H a = some o) : a ≠ sysModules := by
  rintro rfl
  obtain ⟨o', eo⟩ := sy
  rw [(I.env0.bs _ _ eo).2] at e
  cases e
theorem enc_reads {P : Program} {w : World} {h : Heap} (k : Key) (key : Value) (e : (mixKind P w).is k key = true) : Reads h key (encK k) [] := by
  rcases keyIs_shape (show keyIs k key = true from e) with ⟨i, t, rfl, rfl⟩ | ⟨x, t, rfl, rfl⟩
  · exact Reads.int i t
  · exact Reads.str x t
section
variable {X : Cx} {pins : List (Addr × Obj)} {σ : St} {H : Hp} {s : Shared}
mutual
theorem Dn.reads (sy : Sy X.base) (I : Inv X pins σ H s) : ∀ (d : PyData) (v : V) (u : Value), Dn H v d → RelV v u → ∃ as, Reads s.heap u d as ∧ sysModules ∉ as
  | .none, _, _, h, r => by
    cases h
    cases r
    exact ⟨_, Reads.none, by simp⟩
  | .bool b, _, _, h, r => by
    cases h
    cases r
    exact ⟨_, Reads.bool b, by simp⟩
  | .int i, _, _, h, r => by
    cases h
    obtain ⟨t, rfl⟩ := r
    exact ⟨_, Reads.int i t, by simp⟩
  | .str x, _, _, h, r => by
    cases h
    obtain ⟨t, rfl⟩ := r
    exact ⟨_, Reads.str x t, by simp⟩
  | .list ds, _, _, h, r => by
    cases h with
    | lst hs ha =>
      cases r
      obtain ⟨its, rv, ⟨o, n, ho, hc, _, hd⟩, _⟩ := I.list (SqL.of (K := X.K) hs)
      obtain ⟨as, hr, nm⟩ := DnAll.reads sy I ds _ its ha rv
      refine ⟨_, Reads.list ho hc hd hr, fun z => ?_⟩
      exact (List.mem_cons.mp z).elim (fun e => sys_new sy I hs e.symm) nm
  | .tuple ds, _, _, h, r => by
    cases h with
    | tup hs ha =>
      cases r
      obtain ⟨its, rv, ⟨o, ho, hc, n, hd⟩, _⟩ := I.tuple (SqT.of (K := X.K) hs)
      obtain ⟨as, hr, nm⟩ := DnAll.reads sy I ds _ its ha rv
      exact ⟨_, Reads.tuple ho hc hd hr, nm⟩
  | .dict ds, _, _, h, r => by
    cases h with
    | dct hs ha =>
      cases r
      obtain ⟨_, _, vs, rv, hd⟩ := dk_of I.hok hs
      obtain ⟨bs, hr, nm⟩ := DnKv.reads sy I ds _ vs ha rv
      refine ⟨_, PyProof.V.reads_dictOf (fun k key e => enc_reads k key e) hd hr, fun z => ?_⟩
      exact (List.mem_cons.mp z).elim (fun e => sys_new sy I hs e.symm) nm
theorem DnAll.reads (sy : Sy X.base) (I : Inv X pins σ H s) : ∀ (ds : List PyData) (vs : List V) (us : List Value), DnAll H vs ds → Vals vs us → ∃ as, ReadsAll s.heap us ds as ∧ sysModules ∉ as
  | [], _, _, h, r => by
    cases h
    cases r
    exact ⟨_, ReadsAll.nil, by simp⟩
  | d :: ds, _, _, h, r => by
    cases h with
    | cons h1 h2 =>
      cases r with
      | cons r1 r2 =>
        obtain ⟨as, q1, n1⟩ := Dn.reads sy I d _ _ h1 r1
        obtain ⟨bs, q2, n2⟩ := DnAll.reads sy I ds _ _ h2 r2
        exact ⟨_, ReadsAll.cons q1 q2, fun z => (List.mem_append.mp z).elim n1 n2⟩
theorem DnKv.reads (sy : Sy X.base) (I : Inv X pins σ H s) : ∀ (ds : List (PyData × PyData)) (kvs : List (Key × V)) (us : List (Key × Value)), DnKv H kvs ds → KV kvs us → ∃ as, PyProof.V.PairsRead s.heap encK us ds as ∧ sysModules ∉ as
  | [], _, _, h, r => by
    cases h
    cases r
    exact ⟨_, .nil, by simp⟩
  | (_, d) :: ds, _, _, h, r => by
    cases h with
    | cons h1 h2 =>
      cases r with
      | @cons _ y _ ys r1 r2 =>
        obtain ⟨k', u⟩ := y
        obtain ⟨e1, r1'⟩ := r1
        obtain ⟨as, q1, n1⟩ := Dn.reads sy I d _ _ h1 r1'
        obtain ⟨bs, q2, n2⟩ := DnKv.reads sy I ds _ _ h2 r2
        cases e1
        exact ⟨_, .cons q1 q2, fun z => (List.mem_append.mp z).elim n1 n2⟩
end
/-- repr(x), x such data: its text -/
theorem call_repr (sy : Sy X.base) (hi : Idle X.A) (hu : X.A.units + 70 < cLine) : CallR X (.builtin "repr") (fun xs H Q => ∃ (x : V) (d : PyData), xs = [x] ∧ Dn H x d ∧ d.showable = true ∧ d.depth ≤ 64 ∧ d.shown.length ≤ sizeLine ∧ Q (.str d.shown) H) := by
  intro pins s σ H xs us Q I r h
  obtain ⟨x, d, rfl, hx, hs, hd, hz, q⟩ := h
  obtain ⟨u, rfl, ru⟩ := vals1 r
  cases hx with
  | non => cases ru; exact PySem.P.repr_of_none ⟨.str _, H, I.tok _, ⟨_, rfl⟩, by simpa only [PyData.shown] using q⟩
  | bl b => cases ru; exact PySem.P.repr_of_bool ⟨.str _, H, I.tok _, ⟨_, rfl⟩, by simpa only [PyData.shown] using q⟩
  | int i =>
    obtain ⟨t, rfl⟩ := ru
    exact PySem.P.repr_of_int (by simpa [PyData.showable] using hs) ⟨.str _, H, I.tok _, ⟨_, rfl⟩, by simpa only [PyData.shown] using q⟩
  | str y =>
    obtain ⟨t, rfl⟩ := ru
    exact PySem.P.repr_of_str ⟨.str _, H, I.tok _, ⟨_, rfl⟩, by simpa only [PyData.shown] using q⟩ (by simpa only [PyData.shown] using hz)
  | lst e ha =>
    cases ru
    obtain ⟨as, rd, nm⟩ := Dn.reads sy I _ _ _ (.lst e ha) rfl
    exact PySem.repr_of_reads' rd hs (fun _ => nm) hi (by omega) (fun _ _ z => z) (fun h' t tk k => ⟨.str _, H, I.kept (t' := tk) k, ⟨_, rfl⟩, q⟩) hz
  | tup e ha =>
    cases ru
    obtain ⟨as, rd, nm⟩ := Dn.reads sy I _ _ _ (.tup e ha) rfl
    exact PySem.repr_of_reads' rd hs (fun _ => nm) hi (by omega) (fun _ _ z => z) (fun h' t tk k => ⟨.str _, H, I.kept (t' := tk) k, ⟨_, rfl⟩, q⟩) hz
  | dct e ha =>
    cases ru
    obtain ⟨as, rd, nm⟩ := Dn.reads sy I _ _ _ (.dct e ha) rfl
    exact PySem.repr_of_reads' rd hs (fun _ => nm) hi (by omega) (fun _ _ z => z) (fun h' t tk k => ⟨.str _, H, I.kept (t' := tk) k, ⟨_, rfl⟩, q⟩) hz
end
end L2

namespace L2
open PySem PySem.Spec PyProof.Rows
/-- data with a text of at most m signs, at most n deep -/
structure Okd (m n : Nat) (d : PyData) : Prop where
  sh : d.showable = true
  dp : d.depth ≤ n
  ln : d.shown.length ≤ m
theorem Okd.mono {m n m' n' : Nat} {d : PyData} (h : Okd m n d) (hm : m ≤ m') (hn : n ≤ n') : Okd m' n' d := ⟨h.sh, Nat.le_trans h.dp hn, Nat.le_trans h.ln hm⟩
theorem ok_all {m n : Nat} : ∀ {ds : List PyData}, (∀ d ∈ ds, Okd m n d) → PyData.showableAll ds = true ∧ PyData.depthAll ds ≤ n ∧ piled (PyData.shownAll ds) ≤ ds.length * (m + 2) ∧ (PyData.shownAll ds).length = ds.length
  | [], _ => by simp [PyData.showableAll, PyData.depthAll, PyData.shownAll, piled]
  | d :: ds, h => by
    obtain ⟨a, b, c, e⟩ := ok_all (ds := ds) fun x hx => h x (List.mem_cons_of_mem _ hx)
    have q := h d List.mem_cons_self
    have q1 := q.sh
    have q2 := q.dp
    have q3 := q.ln
    refine ⟨by simp [PyData.showableAll, q1, a], by simp only [PyData.depthAll]; omega, ?_, by simp [PyData.shownAll, e]⟩
    simp only [PyData.shownAll, piled_cons, List.length_cons]
    rw [Nat.succ_mul]
    omega
theorem text_up : ∀ (ts : List Str) (k : Nat) (acc : Str), (textFrom k acc ts).length ≤ acc.length + piled ts
  | [], k, acc => by simp [textFrom, piled]
  | t :: r, k, acc => by
    have h := text_up r (k + 1) (acc ++ (if k > 0 then ", " else "" : String) ++ t)
    have e : (acc ++ (if k > 0 then ", " else "" : String) ++ t).length = acc.length + (if k > 0 then 2 else 0) + t.length := by
      rw [strLen_append, strLen_append]
      by_cases c : k > 0
      · rw [if_pos c, if_pos c]; rfl
      · rw [if_neg c, if_neg c]; rfl
    rw [e] at h
    rw [piled_cons]
    show (textFrom (k + 1) _ r).length ≤ _
    have e4 : (if k > 0 then 2 else 0) ≤ 2 := by split <;> omega
    omega
theorem join_up (ts : List Str) : (Str.join ", " ts).length ≤ piled ts := by
  by_cases h : ts = []
  · subst h; simp [piled, Str.join]; decide
  · have := join_length_add ts h; omega
theorem okd_non : Okd 4 0 .none := ⟨rfl, by simp [PyData.depth], by simp only [PyData.shown]; decide⟩
theorem okd_bl (b : Bool) : Okd 5 0 (.bool b) := ⟨rfl, by simp [PyData.depth], by cases b <;> simp only [PyData.shown] <;> decide⟩
theorem okd_int {i : Int} (h : i.natAbs.log2 < 1920) : Okd 1921 0 (.int i) := ⟨by simpa [PyData.showable] using h, by simp [PyData.depth], by simp only [PyData.shown]; exact int_text_len_1921 h⟩
theorem okd_str {x : Str} {m : Nat} (h : (reprText x).length ≤ m) : Okd m 0 (.str x) := ⟨rfl, by simp [PyData.depth], by simpa only [PyData.shown] using h⟩
theorem okd_list {m n : Nat} {ds : List PyData} (h : ∀ d ∈ ds, Okd m n d) : Okd (ds.length * (m + 2) + 2) (n + 1) (.list ds) := by
  obtain ⟨a, b, c, e⟩ := ok_all h
  refine ⟨by simpa [PyData.showable] using a, by simp only [PyData.depth]; omega, ?_⟩
  simp only [PyData.shown, listText]
  rw [strLen_append]
  have := text_up (PyData.shownAll ds) 0 "["
  have e1 : (("[" : String) : Str).length = 1 := rfl
  have e2 : (("]" : String) : Str).length = 1 := rfl
  omega
theorem okd_tup {m n : Nat} {ds : List PyData} (h : ∀ d ∈ ds, Okd m n d) : Okd (ds.length * (m + 2) + 3) (n + 1) (.tuple ds) := by
  obtain ⟨a, b, c, e⟩ := ok_all h
  refine ⟨by simpa [PyData.showable] using a, by simp only [PyData.depth]; omega, ?_⟩
  simp only [PyData.shown, tupleText]
  rw [strLen_append, strLen_append]
  have := join_up (PyData.shownAll ds)
  have e1 : (("(" : String) : Str).length = 1 := rfl
  have e2 : (((if (PyData.shownAll ds).length == 1 then ",)" else ")" : String) : String) : Str).length ≤ 2 := by
    by_cases z : ((PyData.shownAll ds).length == 1) = true
    · rw [if_pos z]; decide
    · rw [if_neg z]; decide
  omega
theorem okd_dict2 {m1 m2 m3 m4 n : Nat} {a b c d : PyData} (h1 : Okd m1 n a) (h2 : Okd m2 n b) (h3 : Okd m3 n c) (h4 : Okd m4 n d) : Okd (m1 + m2 + m3 + m4 + 12) (n + 1) (.dict [(a, b), (c, d)]) := by
  have s1 := h1.sh
  have s2 := h2.sh
  have s3 := h3.sh
  have s4 := h4.sh
  have d1 := h1.dp
  have d2 := h2.dp
  have d3 := h3.dp
  have d4 := h4.dp
  have l1 := h1.ln
  have l2 := h2.ln
  have l3 := h3.ln
  have l4 := h4.ln
  refine ⟨by simp [PyData.showable, PyData.showableKv, s1, s2, s3, s4], by simp only [PyData.depth, PyData.depthKv]; omega, ?_⟩
  simp only [PyData.shown, PyData.shownKv, dictText]
  rw [strLen_append, strLen_append]
  have := join_up [a.shown ++ ": " ++ b.shown, c.shown ++ ": " ++ d.shown]
  simp only [piled_cons, piled_nil, strLen_append] at this
  have e1 : (("{" : String) : Str).length = 1 := rfl
  have e2 : (("}" : String) : Str).length = 1 := rfl
  have e3 : ((": " : String) : Str).length = 2 := rfl
  omega
theorem piled_two (ts : List Str) : 2 * ts.length ≤ piled ts := by
  induction ts with
  | nil => simp [piled]
  | cons t r ih => rw [piled_cons, List.length_cons]; omega
theorem okd_short {m n : Nat} {ds : List PyData} (h : Okd m n (.tuple ds)) : 2 * ds.length ≤ m + 1 := by
  have hl := h.ln
  simp only [PyData.shown, tupleText] at hl
  rw [strLen_append, strLen_append] at hl
  have e1 : (("(" : String) : Str).length = 1 := rfl
  have len : (PyData.shownAll ds).length = ds.length := by
    clear hl h
    induction ds with
    | nil => simp [PyData.shownAll]
    | cons d r ih => simp [PyData.shownAll, ih]
  by_cases z : PyData.shownAll ds = []
  · rw [z] at len; simp at len; rw [← len]; simp
  · have h1 := join_length_add _ z
    have h2 := piled_two (PyData.shownAll ds)
    omega
/-- nice data at v -/
def NiceD (H : Hp) (m n : Nat) (v : V) : Prop := ∃ d, Dn H v d ∧ Okd m n d
theorem NiceD.mono {H H' : Hp} {m n m' n' : Nat} {v : V} (h : NiceD H m n v) (s : Same H H') (hm : m ≤ m') (hn : n ≤ n') : NiceD H' m' n' v :=
  let ⟨d, a, b⟩ := h; ⟨d, Dn.mono s d v a, b.mono hm hn⟩
theorem dn_of : ∀ {H : Hp} {m n : Nat} {vs : List V}, (∀ v ∈ vs, NiceD H m n v) → ∃ ds, DnAll H vs ds ∧ (∀ d ∈ ds, Okd m n d) ∧ ds.length = vs.length
  | _, _, _, [], _ => ⟨[], .nil, by simp, rfl⟩
  | H, m, n, v :: vs, h => by
    obtain ⟨d, a, b⟩ := h v List.mem_cons_self
    obtain ⟨ds, x, y, z⟩ := dn_of (vs := vs) fun u hu => h u (List.mem_cons_of_mem _ hu)
    exact ⟨d :: ds, .cons a x, fun e he => (List.mem_cons.mp he).elim (fun q => q ▸ b) (y e), by rw [List.length_cons, List.length_cons, z]⟩
theorem nd_list {H : Hp} {m n : Nat} {a : Addr} {vs : List V} (e : H a = some (.lst vs)) (h : ∀ v ∈ vs, NiceD H m n v) : NiceD H (vs.length * (m + 2) + 2) (n + 1) (.ref a) := by
  obtain ⟨ds, x, y, z⟩ := dn_of h
  exact ⟨.list ds, .lst e x, by rw [← z]; exact okd_list y⟩
theorem nd_tup {H : Hp} {m n : Nat} {a : Addr} {vs : List V} (e : H a = some (.tup vs)) (h : ∀ v ∈ vs, NiceD H m n v) : NiceD H (vs.length * (m + 2) + 3) (n + 1) (.ref a) := by
  obtain ⟨ds, x, y, z⟩ := dn_of h
  exact ⟨.tuple ds, .tup e x, by rw [← z]; exact okd_tup y⟩
theorem nd_int {H : Hp} {i : Int} (h : i.natAbs.log2 < 1920) : NiceD H 1921 0 (.int i) := ⟨_, .int i, okd_int h⟩
theorem nd_bl (H : Hp) (b : Bool) : NiceD H 5 0 (.bl b) := ⟨_, .bl b, okd_bl b⟩
theorem nd_non (H : Hp) : NiceD H 4 0 .non := ⟨_, .non, okd_non⟩
theorem nd_str {H : Hp} {x : Str} {m : Nat} (h : (reprText x).length ≤ m) : NiceD H m 0 (.str x) := ⟨_, .str x, okd_str h⟩
theorem nd_dict2 {H : Hp} {m1 m2 m3 m4 n : Nat} {a : Addr} {k1 k2 : Key} {x y : V} (e : H a = some (.dK [(k1, x), (k2, y)])) (h1 : Okd m1 n (encK k1)) (hx : NiceD H m2 n x) (h2 : Okd m3 n (encK k2)) (hy : NiceD H m4 n y) : NiceD H (m1 + m2 + m3 + m4 + 12) (n + 1) (.ref a) := by
  obtain ⟨d1, p1, q1⟩ := hx
  obtain ⟨d2, p2, q2⟩ := hy
  exact ⟨.dict [(encK k1, d1), (encK k2, d2)], .dct e (.cons p1 (.cons p2 .nil)), okd_dict2 h1 q1 h2 q2⟩
theorem DnAll.length {H : Hp} : ∀ {xs : List V} {ds : List PyData}, DnAll H xs ds → xs.length = ds.length
  | _, _, .nil => rfl
  | _, _, .cons _ r => by rw [List.length_cons, List.length_cons, DnAll.length r]
theorem DnAll.at_ {H : Hp} : ∀ {xs : List V} {ds : List PyData} {i : Nat} {x : V}, DnAll H xs ds → xs[i]? = some x → ∃ d, ds[i]? = some d ∧ Dn H x d
  | _, _, _, _, .nil, e => by simp at e
  | _, _, 0, _, .cons a r, e => by cases (show some _ = some _ from e); exact ⟨_, rfl, a⟩
  | _, _, i + 1, x, .cons _ r, e => DnAll.at_ (i := i) r e
end L2

namespace N2
/-- no square above 1 divides n -/
def SqF (n : Nat) : Prop := ∀ q, 2 ≤ q → ¬ q * q ∣ n
theorem sqf_one : SqF 1 := fun q h d => by
  have := Nat.le_of_dvd (by decide) d
  have : 2 * 2 ≤ q * q := Nat.mul_le_mul h h
  omega
/-- no number from 2 to p - 1 divides s -/
def Low (p s : Nat) : Prop := ∀ q, 2 ≤ q → q < p → ¬ q ∣ s
theorem low_two (s : Nat) : Low 2 s := fun q h1 h2 => by omega
theorem Low.dvd {p s t : Nat} (h : Low p s) (d : t ∣ s) : Low p t := fun q h1 h2 e => h q h1 h2 (Nat.dvd_trans e d)
theorem Low.succ {p s : Nat} (h : Low p s) (d : ¬ p ∣ s) : Low (p + 1) s := fun q h1 h2 e => by
  by_cases c : q = p
  · exact d (c ▸ e)
  · exact h q h1 (by omega) e
/-- s = p t, p not in t, nothing below p in s: a square in s is one in t -/
theorem sqf_step {p s t : Nat} (hp : 2 ≤ p) (hl : Low p s) (e : s = p * t) (ht : ¬ p ∣ t) (h : SqF t) : SqF s := by
  intro q hq d
  have g1 : Nat.gcd p q ∣ p := Nat.gcd_dvd_left p q
  have pos : 0 < p := by omega
  have gp : 0 < Nat.gcd p q := Nat.gcd_pos_of_pos_left q pos
  by_cases c1 : Nat.gcd p q = 1
  · have co : Nat.Coprime q p := by
      show Nat.gcd q p = 1
      rw [Nat.gcd_comm]; exact c1
    have co2 : Nat.Coprime (q * q) p := Nat.Coprime.mul_left co co
    rw [e] at d
    exact h q hq (co2.dvd_of_dvd_mul_left d)
  · have g2 : Nat.gcd p q = p := by
      have le := Nat.le_of_dvd pos g1
      by_cases c2 : Nat.gcd p q < p
      · exact absurd (Nat.dvd_trans g1 ⟨t, e⟩) (hl _ (by omega) c2)
      · omega
    have pq : p ∣ q := by
      have := Nat.gcd_dvd_right p q
      rw [g2] at this; exact this
    have pp : p * p ∣ p * t := by
      rw [← e]
      exact Nat.dvd_trans (Nat.mul_dvd_mul pq pq) d
    exact ht ((Nat.mul_dvd_mul_iff_left pos).mp pp)
/-- behind the loop: s below the third power, nothing below p in it -/
theorem sqf_end {p s : Nat} (hl : Low p s) (hs : 1 ≤ s) (h3 : s < p * p * p) (sq : ∀ r, r * r = s → r = 1) : SqF s := by
  intro q hq d
  obtain ⟨t, e⟩ := d
  have tpos : 1 ≤ t := by
    rcases Nat.eq_zero_or_pos t with z | z
    · rw [z] at e; omega
    · exact z
  have qs : q ∣ s := ⟨q * t, by rw [e, Nat.mul_assoc]⟩
  have qp : p ≤ q := by
    by_cases c : q < p
    · exact absurd qs (hl q hq c)
    · omega
  by_cases c : t = 1
  · rw [c, Nat.mul_one] at e
    have := sq q e.symm
    omega
  · have ts : t ∣ s := ⟨q * q, by rw [e, Nat.mul_comm]⟩
    have tp : p ≤ t := by
      by_cases c2 : t < p
      · exact absurd ts (hl t (by omega) c2)
      · omega
    have : p * p * p ≤ q * q * t := Nat.mul_le_mul (Nat.mul_le_mul qp qp) tp
    omega
/-- the state of the splitting: n the first size, s what is left, r the root so far, p the factor -/
structure Spl (n s r p : Nat) : Prop where
  s1 : 1 ≤ s
  r1 : 1 ≤ r
  p2 : 2 ≤ p
  dv : s * (r * r) ∣ n
  low : Low p s
  up : r = 1 → SqF s → SqF n
theorem spl_0 {n : Nat} (h : 1 ≤ n) : Spl n n 1 2 := ⟨h, Nat.le_refl _, Nat.le_refl _, ⟨1, by simp⟩, low_two n, fun _ q => q⟩
theorem Spl.le {n s r p : Nat} (S : Spl n s r p) (hn : 1 ≤ n) : s ≤ n := by
  have h1 := Nat.le_of_dvd hn S.dv
  have h2 : s * 1 ≤ s * (r * r) := Nat.mul_le_mul_left s (Nat.mul_le_mul S.r1 S.r1)
  omega
/-- s is divided by the square -/
theorem Spl.sq {n s r p : Nat} (S : Spl n s r p) (d : s % (p * p) = 0) : Spl n (s / (p * p)) (r * p) p ∧ s / (p * p) < s := by
  have pp : 0 < p * p := Nat.mul_pos (by have := S.p2; omega) (by have := S.p2; omega)
  obtain ⟨t, e⟩ := Nat.dvd_of_mod_eq_zero d
  have et : s / (p * p) = t := by rw [e, Nat.mul_div_cancel_left _ pp]
  have t1 : 1 ≤ t := by
    rcases Nat.eq_zero_or_pos t with z | z
    · rw [z] at e; have := S.s1; omega
    · exact z
  have h2 := S.p2
  have rp : 2 ≤ r * p := by
    have : 1 * 2 ≤ r * p := Nat.mul_le_mul S.r1 h2
    omega
  refine ⟨?_, Nat.div_lt_self (by have := S.s1; omega) (by have : 2 * 2 ≤ p * p := Nat.mul_le_mul h2 h2; omega)⟩
  rw [et]
  refine ⟨t1, by omega, h2, ?_, S.low.dvd ⟨p * p, by rw [e, Nat.mul_comm]⟩, fun z => by omega⟩
  have := S.dv
  rw [e] at this
  have q : t * (r * p * (r * p)) = p * p * t * (r * r) := by
    simp only [Nat.mul_comm, Nat.mul_left_comm, Nat.mul_assoc]
  rw [q]; exact this
/-- s is divided by the factor once -/
theorem Spl.one {n s r p : Nat} (S : Spl n s r p) (d2 : ¬ s % (p * p) = 0) (d : s % p = 0) : Spl n (s / p) r (p + 1) := by
  have h2 := S.p2
  have pos : 0 < p := by omega
  obtain ⟨t, e⟩ := Nat.dvd_of_mod_eq_zero d
  have et : s / p = t := by rw [e, Nat.mul_div_cancel_left _ pos]
  have t1 : 1 ≤ t := by
    rcases Nat.eq_zero_or_pos t with z | z
    · rw [z] at e; have := S.s1; omega
    · exact z
  have nt : ¬ p ∣ t := fun ⟨u, eu⟩ => d2 (Nat.mod_eq_zero_of_dvd ⟨u, by rw [e, eu, Nat.mul_assoc]⟩)
  have ts : t ∣ s := ⟨p, by rw [e, Nat.mul_comm]⟩
  rw [et]
  exact ⟨t1, S.r1, by omega, Nat.dvd_trans (Nat.mul_dvd_mul_right ts _) S.dv, (S.low.dvd ts).succ nt, fun r1 q => S.up r1 (sqf_step h2 S.low e nt q)⟩
theorem Spl.no {n s r p : Nat} (S : Spl n s r p) (d : ¬ s % p = 0) : Spl n s r (p + 1) :=
  ⟨S.s1, S.r1, by have := S.p2; omega, S.dv, S.low.succ (fun z => d (Nat.mod_eq_zero_of_dvd z)), S.up⟩
/-- the end: the root is 1 exactly if no square divides -/
theorem Spl.fin_sq {n s r p k : Nat} (S : Spl n s r p) (hk : k * k = s) : r * k = 1 ↔ SqF n := by
  constructor
  · intro h
    have r1 : r = 1 := Nat.eq_one_of_mul_eq_one_right h
    have k1 : k = 1 := Nat.eq_one_of_mul_eq_one_left h
    refine S.up r1 ?_
    rw [← hk, k1]; exact sqf_one
  · intro h
    by_cases c : r * k = 1
    · exact c
    · have s1 := S.s1
      have r1 := S.r1
      have k1 : 1 ≤ k := by
        rcases Nat.eq_zero_or_pos k with z | z
        · rw [z] at hk; omega
        · exact z
      have two : 2 ≤ r * k := by
        have : 1 * 1 ≤ r * k := Nat.mul_le_mul r1 k1
        omega
      refine absurd ?_ (h _ two)
      have q : r * k * (r * k) = s * (r * r) := by
        rw [← hk]; simp only [Nat.mul_comm, Nat.mul_left_comm, Nat.mul_assoc]
      rw [q]; exact S.dv
theorem Spl.fin_no {n s r p : Nat} (S : Spl n s r p) (h3 : s < p * p * p) (sq : ∀ k, k * k ≠ s) : r = 1 ↔ SqF n := by
  constructor
  · intro r1
    exact S.up r1 (sqf_end S.low S.s1 h3 fun k e => absurd e (sq k))
  · intro h
    by_cases c : r = 1
    · exact c
    · have r1 := S.r1
      refine absurd ?_ (h r (by omega))
      exact Nat.dvd_trans ⟨s, by rw [Nat.mul_comm]⟩ S.dv
end N2

namespace N2
/-- the splitting with the free part: n = s f r r -/
structure Spf (n s f r p : Nat) : Prop where
  s1 : 1 ≤ s
  f1 : 1 ≤ f
  r1 : 1 ≤ r
  p2 : 2 ≤ p
  eq : s * f * (r * r) = n
  low : Low p s
  up : ∀ t, t ∣ s → SqF t → SqF (f * t)
theorem spf_0 {n : Nat} (h : 1 ≤ n) : Spf n n 1 1 2 := ⟨h, Nat.le_refl _, Nat.le_refl _, Nat.le_refl _, by simp, low_two n, fun t _ q => by rw [Nat.one_mul]; exact q⟩
theorem Spf.le {n s f r p : Nat} (S : Spf n s f r p) : s ≤ n := by
  have h1 : s * 1 * 1 ≤ s * f * (r * r) := Nat.mul_le_mul (Nat.mul_le_mul_left s S.f1) (Nat.mul_le_mul S.r1 S.r1)
  rw [S.eq] at h1
  omega
theorem Spf.sq {n s f r p : Nat} (S : Spf n s f r p) (d : s % (p * p) = 0) : Spf n (s / (p * p)) f (r * p) p ∧ s / (p * p) < s := by
  have h2 := S.p2
  have pp : 4 ≤ p * p := Nat.mul_le_mul h2 h2
  obtain ⟨t, e⟩ := Nat.dvd_of_mod_eq_zero d
  have et : s / (p * p) = t := by rw [e, Nat.mul_div_cancel_left _ (by omega)]
  have t1 : 1 ≤ t := by
    rcases Nat.eq_zero_or_pos t with z | z
    · rw [z] at e; have := S.s1; omega
    · exact z
  have ts : t ∣ s := ⟨p * p, by rw [e, Nat.mul_comm]⟩
  refine ⟨?_, Nat.div_lt_self (by have := S.s1; omega) (by omega)⟩
  rw [et]
  have rp : 1 * 1 ≤ r * p := Nat.mul_le_mul S.r1 (by omega)
  refine ⟨t1, S.f1, by omega, h2, ?_, S.low.dvd ts, fun u hu => S.up u (Nat.dvd_trans hu ts)⟩
  rw [← S.eq, e]
  simp only [Nat.mul_comm, Nat.mul_left_comm, Nat.mul_assoc]
theorem Spf.one {n s f r p : Nat} (S : Spf n s f r p) (d2 : ¬ s % (p * p) = 0) (d : s % p = 0) : Spf n (s / p) (f * p) r (p + 1) := by
  have h2 := S.p2
  have pos : 0 < p := by omega
  obtain ⟨t, e⟩ := Nat.dvd_of_mod_eq_zero d
  have et : s / p = t := by rw [e, Nat.mul_div_cancel_left _ pos]
  have t1 : 1 ≤ t := by
    rcases Nat.eq_zero_or_pos t with z | z
    · rw [z] at e; have := S.s1; omega
    · exact z
  have nt : ¬ p ∣ t := fun ⟨u, eu⟩ => d2 (Nat.mod_eq_zero_of_dvd ⟨u, by rw [e, eu, Nat.mul_assoc]⟩)
  have ts : t ∣ s := ⟨p, by rw [e, Nat.mul_comm]⟩
  have fp : 1 * 1 ≤ f * p := Nat.mul_le_mul S.f1 (by omega)
  rw [et]
  refine ⟨t1, by omega, S.r1, by omega, ?_, (S.low.dvd ts).succ nt, fun u hu q => ?_⟩
  · rw [← S.eq, e]
    simp only [Nat.mul_comm, Nat.mul_left_comm, Nat.mul_assoc]
  · have pu : p * u ∣ s := by rw [e]; exact Nat.mul_dvd_mul_left p hu
    rw [Nat.mul_assoc]
    refine S.up (p * u) pu (sqf_step h2 (S.low.dvd pu) rfl (fun z => nt (Nat.dvd_trans z hu)) q)
theorem Spf.no {n s f r p : Nat} (S : Spf n s f r p) (d : ¬ s % p = 0) : Spf n s f r (p + 1) :=
  ⟨S.s1, S.f1, S.r1, by have := S.p2; omega, S.eq, S.low.succ (fun z => d (Nat.mod_eq_zero_of_dvd z)), S.up⟩
/-- n is f times the square of r, f without squares -/
def Split (n f r : Nat) : Prop := n = f * (r * r) ∧ SqF f ∧ 1 ≤ f ∧ 1 ≤ r
theorem Spf.fin_sq {n s f r p k : Nat} (S : Spf n s f r p) (hk : k * k = s) : Split n f (r * k) := by
  have s1 := S.s1
  have k1 : 1 ≤ k := by
    rcases Nat.eq_zero_or_pos k with z | z
    · rw [z] at hk; omega
    · exact z
  have rk : 1 * 1 ≤ r * k := Nat.mul_le_mul S.r1 k1
  refine ⟨?_, ?_, S.f1, by omega⟩
  · rw [← S.eq, ← hk]
    simp only [Nat.mul_comm, Nat.mul_left_comm, Nat.mul_assoc]
  · have := S.up 1 (Nat.one_dvd s) sqf_one
    rw [Nat.mul_one] at this; exact this
theorem Spf.fin_no {n s f r p : Nat} (S : Spf n s f r p) (h3 : s < p * p * p) (sq : ∀ k, k * k ≠ s) : Split n (f * s) r := by
  have fs : 1 * 1 ≤ f * s := Nat.mul_le_mul S.f1 S.s1
  refine ⟨?_, S.up s (Nat.dvd_refl s) (sqf_end S.low S.s1 h3 fun k e => absurd e (sq k)), by omega, S.r1⟩
  rw [← S.eq, Nat.mul_comm f s]
theorem Split.one {n f r : Nat} (h : Split n f r) : r = 1 ↔ SqF n := by
  obtain ⟨e, q, f1, r1⟩ := h
  constructor
  · intro z
    rw [e, z]; simpa using q
  · intro z
    by_cases c : r = 1
    · exact c
    · exact absurd ⟨f, by rw [e, Nat.mul_comm]⟩ (z r (by omega))
/-- there is one free part only: f r r = g s s -/
theorem sqf_uniq {f g r s : Nat} (hf : SqF f) (hg : SqF g) (r1 : 1 ≤ r) (s1 : 1 ≤ s) (e : f * (r * r) = g * (s * s)) : f = g ∧ r = s := by
  have cp : 0 < Nat.gcd r s := Nat.gcd_pos_of_pos_left _ r1
  obtain ⟨c, ec⟩ : ∃ c, Nat.gcd r s = c := ⟨_, rfl⟩
  obtain ⟨a, ea⟩ : c ∣ r := ec ▸ Nat.gcd_dvd_left r s
  obtain ⟨b, eb⟩ : c ∣ s := ec ▸ Nat.gcd_dvd_right r s
  rw [ec] at cp
  have co : Nat.Coprime a b := by
    have : Nat.gcd (c * a) (c * b) = c := by rw [← ea, ← eb]; exact ec
    rw [Nat.gcd_mul_left] at this
    exact Nat.eq_of_mul_eq_mul_left cp (by rw [this, Nat.mul_one])
  have e2 : f * (a * a) = g * (b * b) := by
    have h : (c * c) * (f * (a * a)) = (c * c) * (g * (b * b)) := by
      have h1 : (c * c) * (f * (a * a)) = f * (r * r) := by rw [ea]; simp only [Nat.mul_comm, Nat.mul_left_comm, Nat.mul_assoc]
      have h2 : (c * c) * (g * (b * b)) = g * (s * s) := by rw [eb]; simp only [Nat.mul_comm, Nat.mul_left_comm, Nat.mul_assoc]
      rw [h1, h2, e]
    exact Nat.eq_of_mul_eq_mul_left (Nat.mul_pos cp cp) h
  have ab : Nat.Coprime (a * a) (b * b) := (co.mul_left co).mul_right (co.mul_left co)
  have a1 : a = 1 := by
    have d : a * a ∣ g := ab.dvd_of_dvd_mul_right ⟨f, by rw [← e2, Nat.mul_comm]⟩
    by_cases z : 2 ≤ a
    · exact absurd d (hg a z)
    · rcases Nat.eq_zero_or_pos a with y | y
      · rw [y] at ea; omega
      · omega
  have b1 : b = 1 := by
    have d : b * b ∣ f := ab.symm.dvd_of_dvd_mul_right ⟨g, by rw [e2, Nat.mul_comm]⟩
    by_cases z : 2 ≤ b
    · exact absurd d (hf b z)
    · rcases Nat.eq_zero_or_pos b with y | y
      · rw [y] at eb; omega
      · omega
  rw [a1, b1] at e2
  exact ⟨by omega, by rw [ea, eb, a1, b1]⟩
/-- the product of two free numbers without a common divisor -/
theorem sqf_mul {f g : Nat} (hf : SqF f) (hg : SqF g) (co : Nat.Coprime f g) : SqF (f * g) := by
  intro q hq d
  -- q q in f g: gcd(q, f) and gcd(q, g)
  have q1 : q ∣ f * g := Nat.dvd_trans ⟨q, rfl⟩ d
  obtain ⟨a, ea⟩ : ∃ a, Nat.gcd q f = a := ⟨_, rfl⟩
  obtain ⟨b, eb⟩ : ∃ b, Nat.gcd q g = b := ⟨_, rfl⟩
  have af : a ∣ f := ea ▸ Nat.gcd_dvd_right q f
  have bg : b ∣ g := eb ▸ Nat.gcd_dvd_right q g
  have eq : q = a * b := by
    have := Nat.Coprime.gcd_mul q co
    rw [Nat.gcd_eq_left q1, ea, eb] at this; exact this
  have ca : Nat.Coprime a g := Nat.Coprime.coprime_dvd_left af co
  have cb : Nat.Coprime b f := (Nat.Coprime.coprime_dvd_left bg co.symm)
  have da : a * a ∣ f := by
    have : a * a ∣ f * g := Nat.dvd_trans ⟨b * b, by rw [eq]; simp only [Nat.mul_comm, Nat.mul_left_comm, Nat.mul_assoc]⟩ d
    exact (ca.mul_left ca).dvd_of_dvd_mul_right this
  have db : b * b ∣ g := by
    have : b * b ∣ f * g := Nat.dvd_trans ⟨a * a, by rw [eq]; simp only [Nat.mul_comm, Nat.mul_left_comm, Nat.mul_assoc]⟩ d
    exact (cb.mul_left cb).dvd_of_dvd_mul_left this
  by_cases z : 2 ≤ a
  · exact hf a z da
  · by_cases y : 2 ≤ b
    · exact hg b y db
    · have : a * b ≤ 1 * 1 := Nat.mul_le_mul (by omega) (by omega)
      omega
end N2

namespace L2
open PySem PySem.Spec PyProof.Rows
/-- what the top has written of a class of errors: its name n, its own __init__ at f -/
structure ClsF (K : PySem.W.Frag) (mg : Str → Option Value) (S : Addr) (n : Str) (C f : Addr) (fd : FuncData) : Prop where
  M : SlM K C S f
  at_ : ∃ q N bs sn sub ab col dd k0 k1 k2 k3 k5, K.lookup C = some (excClassObj n q C N bs (.ref S :: PySem.Sl.xTail) true sn sub ab col dd k0 k1 k2 k3 k5 "Exception.__new__")
  gC : mg n = some (.ref C)
  F : ∃ (qual : Str) (p1 p2 q1 q2 q3 q4 q5 q6 : Pos), (q2.endLine == q5.line) = true ∧ FunD K "__init__" qual (argsS p1 p2 []) (bodyC q1 q2 q3 q4 q5 q6) scpC [] [] f fd
/-- the class of an error's data -/
def nmOf (o : Obj) : Str := match o.data with | .cls cd => cd.name | _ => ""
theorem one_name {K : PySem.W.Frag} {mg : Str → Option Value} {S : Addr} {n n' : Str} {C C' f f' : Addr} {fd fd' : FuncData} (A : ClsF K mg S n C f fd) (B : ClsF K mg S n' C' f' fd') (e : C = C') : n = n' := by
  subst e
  obtain ⟨q, N, bs, sn, sub, ab, col, dd, k0, k1, k2, k3, k5, h⟩ := A.at_
  obtain ⟨q', N', bs', sn', sub', ab', col', dd', k0', k1', k2', k3', k5', h'⟩ := B.at_
  have z := congrArg nmOf (Option.some.inj (h.symm.trans h'))
  exact z
section
variable {K : PySem.W.Frag} {mg : Str → Option Value} {S : Addr} {n : Str} {C f : Addr} {fd : FuncData}
theorem ClsF.cd (A : ClsF K mg S n C f fd) : ∃ cd : ClassData, PySem.W.clsIn K C = some cd ∧ cd.mro = .ref C :: .ref S :: PySem.Sl.xTail := by
  obtain ⟨q, N, bs, sn, sub, ab, col, dd, k0, k1, k2, k3, k5, h⟩ := A.at_
  refine ⟨{ name := n, bases := bs, mro := .ref C :: .ref S :: PySem.Sl.xTail, ns := N, qualname := q, hasDict := true, slotNames := sn, subclasses := sub, abstract := ab, collection := col, hasDel := false }, ?_, rfl⟩
  unfold PySem.W.clsIn
  rw [h]
theorem ClsF.sub (A : ClsF K mg S n C f fd) (c : Value) : PySem.W.subIn K (.ref C) c = some ((Value.ref C :: .ref S :: PySem.Sl.xTail).contains c) := by
  obtain ⟨cd, h1, h2⟩ := A.cd
  show PySem.W.mroIn K C c = _
  unfold PySem.W.mroIn
  rw [h1, Option.bind_some, h2]
  rfl
theorem ClsF.cls (A : ClsF K mg S n C f fd) : ((PySem.W.clsIn K C).isSome && PySem.W.typeIn K (.ref C) == some (.type "type")) = true := by
  obtain ⟨cd, h1, _⟩ := A.cd
  rw [h1, A.M.T.tyC]
  rfl
theorem ClsF.kit (A : ClsF K mg S n C f fd) {n' : Str} {C' f' : Addr} {fd' : FuncData} (B : ClsF K mg S n' C' f' fd') (hS : C' ≠ S) : PySem.W.kitOne K (.ref C) (.ref C') = some (decide (C = C')) ∧ PySem.W.exmOne K (.ref C) (.ref C') = some (decide (C = C')) := by
  have e1 : (Value.ref C :: .ref S :: PySem.Sl.xTail).contains (.ref C') = decide (C = C') := by
    rw [List.contains_cons, List.contains_cons]
    have a1 : (Value.ref C' == Value.ref S) = false := by
      rw [beq_eq_false_iff_ne]
      exact fun z => hS (Value.ref.inj z)
    have a2 : (PySem.Sl.xTail.contains (Value.ref C')) = false := rfl
    have a3 : (Value.ref C' == Value.ref C) = decide (C = C') := by
      by_cases h : C = C'
      · rw [h, decide_eq_true rfl]; exact beq_self_eq_true _
      · rw [decide_eq_false h, beq_eq_false_iff_ne]
        exact fun z => h (Value.ref.inj z).symm
    rw [a1, a2, a3]
    simp
  have e2 : PySem.W.kitCls K (.ref C) (.ref C') = some (decide (C = C')) := by
    show (if ((PySem.W.clsIn K C').isSome && PySem.W.typeIn K (.ref C') == some (.type "type")) = true then PySem.W.subIn K (.ref C) (.ref C') else none) = _
    rw [if_pos B.cls, A.sub, e1]
  constructor
  · unfold PySem.W.kitOne
    by_cases h : C = C'
    · rw [h, if_pos (beq_self_eq_true _), decide_eq_true rfl]
    · rw [if_neg (fun z => h (Value.ref.inj (eq_of_beq z))), e2]
  · unfold PySem.W.exmOne
    rw [if_pos (by rw [B.M.T.exC]; rfl), e2]
theorem ClsF.up (A : ClsF K mg S n C f fd) (hcS : (PySem.W.clsIn K S).isSome = true) (htS : PySem.W.typeIn K (.ref S) = some (.type "type")) (hbS : PySem.W.subIn K (.ref S) (.type "BaseException") = some true) :
    PySem.W.kitOne K (.ref C) (.ref S) = some true ∧ PySem.W.exmOne K (.ref C) (.ref S) = some true := by
  have e1 : (Value.ref C :: .ref S :: PySem.Sl.xTail).contains (.ref S) = true := by
    rw [List.contains_cons, List.contains_cons, beq_self_eq_true, Bool.true_or, Bool.or_true]
  have e2 : PySem.W.kitCls K (.ref C) (.ref S) = some true := by
    show (if ((PySem.W.clsIn K S).isSome && PySem.W.typeIn K (.ref S) == some (.type "type")) = true then PySem.W.subIn K (.ref C) (.ref S) else none) = _
    rw [if_pos (by rw [hcS, htS]; rfl), A.sub, e1]
  constructor
  · unfold PySem.W.kitOne
    by_cases h : C = S
    · rw [h, if_pos (beq_self_eq_true _)]
    · rw [if_neg (fun z => h (Value.ref.inj (eq_of_beq z))), e2]
  · unfold PySem.W.exmOne
    rw [if_pos (by rw [hbS]; rfl), e2]
theorem ClsF.ty (A : ClsF K mg S n C f fd) {T : String} {b : Bool} (hm : PySem.W.kitMeta T = true) (hb : PySem.Sl.xTail.contains (.type T) = b) : PySem.W.kitOne K (.ref C) (.type T) = some b := by
  have e1 : (Value.ref C :: .ref S :: PySem.Sl.xTail).contains (.type T) = b := by
    rw [List.contains_cons, List.contains_cons, hb]
    rfl
  show (if (Value.ref C == Value.type T) = true then some true else if PySem.W.kitMeta T = true then PySem.W.subIn K (.ref C) (.type T) else none) = _
  rw [if_neg (show ¬ ((Value.ref C == Value.type T) = true) from fun z => nomatch (eq_of_beq z)), if_pos hm, A.sub, e1]
end
theorem cls_mk {K : PySem.W.Frag} {h : Heap} {mg : Str → Option Value} {S C f : Addr} {n q qual : Str} (X : K.In h) (G : h.Ns mainGlobals mg) {N : Addr} {bs : List Value} {sn : List Str} {sub : List Value} {ab : Bool} {col : Option Bool} {dd : Option Addr} {m0 m1 m2 m3 m5 : Option Value}
    {od an : Option Addr} {sl : Array (Option Value)} {oc dc pm cd ct : Value} {p1 p2 q1 q2 q3 q4 q5 q6 : Pos}
    (aC : PySem.W.nsIn K mainGlobals n = some (some (.ref C)))
    (xL : K.lookup C = some (excClassObj n q C N bs (.ref S :: PySem.Sl.xTail) true sn sub ab col dd m0 m1 m2 m3 m5 "Exception.__new__"))
    (sa : PySem.W.findIn K (.ref C) "__setattr__" = some (some (.builtin "object.__setattr__"))) (ga : PySem.W.findIn K (.ref C) "__getattribute__" = some (some (.builtin "BaseException.__getattribute__"))) (gg : PySem.W.findIn K (.ref C) "__getattr__" = some none) (nb : PySem.W.findIn K (.ref C) "thing" = some none)
    (hc : PySem.W.findIn K (.ref C) "__class__" = some (some (.builtin "object.__class__")))
    (a1 : PySem.W.findIn K (.ref C) "__init__" = some (some (.ref f))) (t1 : PySem.W.typeIn K (.ref f) = some (.type "function"))
    (l1 : K.lookup f = some ⟨oc, od, .func (PySem.W.fnOf "__init__" qual (argsS p1 p2 []) (bodyC q1 q2 q3 q4 q5 q6) scpC .none .none dc pm an cd ct), sl⟩) (c1 : PySem.W.codeIn K cd qual = true) (kf : PySem.W.keepIn K (.ref f) = true)
    (kC : PySem.W.keepIn K (.ref C) = true) (tC : PySem.W.typeIn K (.ref C) = some (.type "type"))
    (hn : PySem.W.specialIn K (.builtin "object.__class__") "__get__" = some (some (.builtin "getset_descriptor.__get__"))) (ht : PySem.W.takesIn K (.builtin "object.__class__") = some true)
    (hl : (q2.endLine == q5.line) = true) : ClsF K mg S n C f (PySem.W.fnOf "__init__" qual (argsS p1 p2 []) (bodyC q1 q2 q3 q4 q5 q6) scpC .none .none dc pm an cd ct) := by
  have cl : PySem.W.clsIn K C = some { name := n, bases := bs, mro := .ref C :: .ref S :: PySem.Sl.xTail, ns := N, qualname := q, hasDict := true, slotNames := sn, subclasses := sub, abstract := ab, collection := col, hasDel := false } := by
    unfold PySem.W.clsIn; rw [xL]
  have sb : ∀ T : String, PySem.Sl.xTail.contains (.type T) = true → PySem.W.mroIn K C (.type T) = some true := fun T e => by
    unfold PySem.W.mroIn
    rw [cl, Option.bind_some]
    show some ((Value.ref C :: .ref S :: PySem.Sl.xTail).contains (.type T)) = _
    rw [PySem.Sl.has_sub C S T e]
  exact
    { M := ⟨{ cls := ⟨n, q, N, bs, sn, sub, ab, col, dd, m0, m1, m2, m3, m5, xL⟩, sa := sa, exC := sb _ (by decide +kernel), tyC := tC, kC := kC, ga := ga, gg := gg, noT := nb, hd := by unfold PySem.W.hasDictIn; rw [cl]; rfl, hc := hc, hn := hn, ht := ht, hm := sb _ (by decide +kernel) }, a1, t1⟩
      at_ := ⟨q, N, bs, sn, sub, ab, col, dd, m0, m1, m2, m3, m5, xL⟩
      gC := PySem.W.mg_of X G aC
      F := ⟨qual, p1, p2, q1, q2, q3, q4, q5, q6, hl, ⟨oc, od, .none, .none, dc, pm, an, cd, ct, sl, rfl, l1, c1, .inl ⟨rfl, rfl⟩, .inl rfl⟩, kf⟩ }
end L2

namespace HT
open PySem PySem.Spec PyProof.Rows
section
variable {prog : Program} {w : World} {A : Around} {E : Value → Shared → Prop} {s : Shared}
theorem back_places (n : Nat) : Builtin.Slice.slicePlaces ((n : Int) - 1) (-1) (-1) = n := by
  unfold Builtin.Slice.slicePlaces
  rw [if_neg (by decide)]
  by_cases h : (n : Int) - 1 > -1
  · rw [if_pos h, show -(-1 : Int) = 1 by decide, Int.ediv_one]; omega
  · rw [if_neg h]; omega
theorem back_pick (xs : Array Value) : ((List.range xs.size).filterMap fun (m : Nat) => xs[(((xs.size : Int) - 1) + (m : Int) * (-1)).toNat]?).toArray = xs.toList.reverse.toArray := by
  congr 1
  have e : ∀ l : List Nat, (∀ m ∈ l, m < xs.size) → (l.filterMap fun (m : Nat) => xs[(((xs.size : Int) - 1) + (m : Int) * (-1)).toNat]?) = l.filterMap fun m => xs.toList.reverse[m]? := by
    intro l hl
    induction l with
    | nil => rfl
    | cons m r ih =>
      have hm := hl m List.mem_cons_self
      have q : xs[(((xs.size : Int) - 1) + (m : Int) * (-1)).toNat]? = xs.toList.reverse[m]? := by
        rw [List.getElem?_reverse (by rw [Array.length_toList]; exact hm), Array.length_toList, Array.getElem?_toList]
        congr 1
        omega
      rw [List.filterMap_cons, List.filterMap_cons, q, ih fun x hx => hl x (List.mem_cons_of_mem _ hx)]
  rw [e _ fun m hm => List.mem_range.mp hm]
  have g : ∀ zs : List Value, (List.range zs.length).filterMap (fun m => zs[m]?) = zs := by
    intro zs
    have p := pick_gen zs.toArray 0 zs.length
    have e2 : (fun (m : Nat) => zs.toArray[(((0 : Nat) : Int) + (m : Int) * 1).toNat]?) = fun m => zs[m]? := by
      funext m
      rw [List.getElem?_toArray]
      congr 1
      omega
    rw [e2] at p
    have q := congrArg Array.toList p
    simpa using q
  have := g xs.toList.reverse
  rw [List.length_reverse, Array.length_toList] at this
  exact this
theorem back_applied {sl : Addr} {vl vu vs : Value} {n : Nat} {Q : Int × Int × Nat → Shared → Prop} (isl : s.heap.IsSliceOf sl vl vu vs) (p1 : IsPart vl none) (p2 : IsPart vu none) (p3 : IsPart vs (some (-1)))
    (goal : Q ((n : Int) - 1, -1, n) s) : wpAny (model prog w) A (Builtin.Slice.sliceApplied (.ref sl) (pure (n : Int))) Q E s := by
  obtain ⟨ob, hob, _, dob⟩ := id isl
  unfold Builtin.Slice.sliceApplied Builtin.Slice.sliceFields
  refine wpAny_bind (wpAny_bind (wpAny_field hob dob (x := vl) rfl (wpAny_bind (wpAny_field hob dob (x := vu) rfl (wpAny_bind (wpAny_field hob dob (x := vs) rfl (wpAny_pure ?_)))))))
  refine wpAny_bind (slicePart_ p3 ?_)
  show wpAny _ _ (if ((-1 : Int) == 0) = true then _ else _) _ _ s
  rw [if_neg (show ¬ (((-1 : Int) == 0) = true) by decide)]
  refine wpAny_bind (slicePart_ p1 (wpAny_bind (slicePart_ p2 (wpAny_bind (wpAny_pure ?_)))))
  have adj : Builtin.Slice.sliceAdjust none none (-1) (n : Int) = ((n : Int) - 1, -1) := by
    unfold Builtin.Slice.sliceAdjust
    rfl
  show wpAny _ _ (match Builtin.Slice.sliceAdjust none none (-1) (n : Int) with | (lo, hi) => pure (lo, (-1 : Int), Builtin.Slice.slicePlaces lo hi (-1))) _ _ s
  rw [adj]
  show wpAny _ _ (pure ((n : Int) - 1, (-1 : Int), Builtin.Slice.slicePlaces ((n : Int) - 1) (-1) (-1))) _ _ s
  rw [back_places]
  exact wpAny_pure goal
theorem getItem_tuple_back {t sl : Addr} {items : Array Value} {vl vu vs : Value} {Q : Value → Shared → Prop} (tup : IsTup s.heap t items) (isl : s.heap.IsSliceOf sl vl vu vs) (p1 : IsPart vl none) (p2 : IsPart vu none) (p3 : IsPart vs (some (-1)))
    (goal : Q (.ref s.heap.objs.size) { s with heap := s.heap.push { cls := .type "tuple", data := .seq items.toList.reverse.toArray } }) (small : items.size ≤ sizeLine) : wpAny (model prog w) A (getItem (.ref t) (.ref sl)) Q E s := by
  obtain ⟨ob, hob, cob, _⟩ := id isl
  have isT : s.TypeIs (.ref sl) "slice" := ⟨ob, hob, cob⟩
  have sz : sizeOk (.seq items.toList.reverse.toArray) := by
    show items.toList.reverse.toArray.size ≤ sizeLine
    rw [List.size_toArray, List.length_reverse, Array.length_toList]; exact small
  unfold getItem
  try with_reducible refine wpAny_holding ?_
  first | refine wpAny_bind (wpAny_pure ?_) | skip
  refine wpAny_bind (wpAny_sequenceKey tup.typeIs (by decide) ?_)
  refine wpAny_bind (wpAny_callSpecial?_slot (name := Str.ofString "__getitem__") tup.typeIs PyProof.Rows.slot_tuple_getitem (wpAny_call_entry PyProof.Rows.slot_tuple_getitem tup.typeIs entry_tuple_getitem ?_ (args_tuple_getitem _ _)))
  show wpAny _ _ (Builtin.Tuple.tupleItemsOf (.ref t) >>= _) _ _ s
  refine wpAny_bind (tupleItemsOf_ tup ?_)
  refine wpAny_bind (wpAny_typeOf isT ?_)
  rw [if_pos (show (Value.type "slice" == Value.type "slice") = true by decide)]
  refine wpAny_bind (back_applied isl p1 p2 p3 ?_)
  have nn : ¬ ((((items.size : Int) - 1) == 0 && (-1 : Int) == 1 && items.size == items.size) = true) := by
    intro q
    rw [Bool.and_eq_true, Bool.and_eq_true] at q
    exact absurd q.1.2 (by decide)
  show wpAny _ _ (if (((items.size : Int) - 1) == 0 && (-1 : Int) == 1 && items.size == items.size) = true then _ else _) _ _ s
  rw [if_neg nn, back_pick]
  first
    | exact wpAny_bind (m := Builtin.Tuple.tupleExact _) (wpAny_newObj_type (wpAny_pure ⟨_, rfl, wpAny_pure goal⟩) sz)
    | exact wpAny_bind (m := Builtin.Tuple.tupleExact _) (wpAny_newObj_type (wpAny_bind (wpAny_pure (wpAny_pure ⟨_, rfl, wpAny_pure goal⟩))) sz)
    | exact wpAny_bind (wpAny_bind (m := Builtin.Tuple.tupleExact _) (wpAny_newObj_type (wpAny_pure (wpAny_pure ⟨_, rfl, wpAny_pure goal⟩)) sz))
    | exact wpAny_bind (wpAny_bind (m := Builtin.Tuple.tupleExact _) (wpAny_newObj_type (wpAny_pure ⟨_, rfl, wpAny_pure goal⟩) sz))
end
end HT
namespace L2
open PySem PySem.Spec PyProof.Rows
/-- t[::-1], t a tuple -/
def tBack (K : PySem.W.Frag) (te : TE) : TE := fun σ H Q => te σ H fun x H1 => ∃ a xs, x = .ref a ∧ SqT K H1 a xs ∧ ∀ p, H1 p = none → Q (.ref p) (upd H1 p (.tup xs.reverse))
theorem pe_back {X : Cx} {e : Expr} {te : TE} {k : Nat} {p1 p2 p3 pos : Pos} (he : PE X e te) : PE X (.Subscript e (.Slice none none (some (.UnaryOp .USub (.Constant (.int 1) k p1) p2)) p3) pos) (tBack X.K te) := by
  refine ⟨fun pins s σ H Q I h => ?_⟩
  refine Subscript_ (thn (he.run pins s σ H _ I h) fun v s1 ⟨x, H1, I1, r1, a, xs, ex, hx, q⟩ => ?_)
  subst ex
  cases r1
  have step : PO X (some (.UnaryOp .USub (.Constant (.int 1) k p1) p2)) (tPart (tUn (rU fun i => .int (-i)) (tC (.int 1)))) := po_some (pe_un un_neg pe_int)
  refine wpAny_Slice (thn (po_none.run pins s1 σ H1 (fun o G => o = none ∧ G = H1) I1 ⟨rfl, rfl⟩) fun vl s2 ⟨l, H2, I2, pl, el, e2⟩ => ?_)
  subst el e2
  refine thn (po_none.run pins s2 σ H2 (fun o G => o = none ∧ G = H2) I2 ⟨rfl, rfl⟩) fun vu s3 ⟨u, H3, I3, pu, eu, e3⟩ => ?_
  subst eu e3
  refine thn (step.run pins s3 σ H3 (fun o G => o = some (-1) ∧ G = H3) I3 ⟨1, rfl, -1, rfl, rfl, rfl⟩) fun vs s4 ⟨o, H4, I4, ps, eo, e4⟩ => ?_
  subst eo e4
  have J : Inv X pins σ H4 { s4 with heap := s4.heap.push { cls := .type "slice", data := .fields #[vl, vu, vs] } } := I4.kept (t' := s4.toks) fun _ _ q => Heap.get?_push_of_some _ q
  obtain ⟨its, r, ht, hz⟩ := J.tuple hx
  have len := r.length
  show wpAny (model X.prog X.w) X.A (subscriptTail e (.Slice none none (some (.UnaryOp .USub (.Constant (.int 1) k p1) p2)) p3) (.ref a) (.ref s4.heap.objs.size)) _ _ _
  refine tail_any (ops := [.ref a, .ref s4.heap.objs.size]) ht.typeIs (PyProof.Rows.slot_tuple_getitem.lookup) ?_ (by with_unfolding_all rfl)
  refine HT.getItem_tuple_back ht (Heap.IsSliceOf.new _ vl vu vs) pl pu ps ?_ (by rw [List.size_toArray]; omega)
  refine ⟨.ref _, _, J.laid (t' := s4.toks) (o := .tup xs.reverse) (fun _ _ q => Heap.get?_push_of_some _ q) (Nat.le_refl _) ?_, rfl, q _ (J.hok.fresh (Nat.le_refl _))⟩
  exact ⟨by rw [List.length_reverse]; exact hz, _, r.reverse, _, Heap.get?_push_size _ rfl, rfl, _, rfl⟩
end L2

namespace N3
open PySem PySem.Spec PyProof.Rows L2 N2
def top (i : Nat) : Stmt := PySem.Challenge.pw_twiceslope_k11_sums_and_slopes_of_quotie.main.body.getD i (.Pass ⟨0, 0, 0, 0⟩)
abbrev sInt : Stmt := top 2
abbrev sTupOf : Stmt := top 3
abbrev sAllInt : Stmt := top 4
abbrev sLowest : Stmt := top 5
abbrev sSplit : Stmt := top 11
abbrev sFree : Stmt := top 12
abbrev sFits : Stmt := top 22
abbrev sTriple : Stmt := top 23
abbrev sNumber : Stmt := top 24
abbrev sFraction : Stmt := top 25
/-- a def as callers know it -/
structure Kn (P : Program) (w : World) (K : PySem.W.Frag) (mg : Str → Option Value) (base : Heap) (k : Nat) (x : Str) (ps : List Str) (sp : Sp) (f : Addr) (fd : FuncData) : Prop where
  ok : FnOk P w K mg base CX0 k f fd ps sp
  mg : mg x = some (.ref f)
  kp : PySem.W.keepIn K (.ref f) = true
  bd : Binds K fd ps []
/-- the names of built-in things that stay so -/
structure Bt (mg : Str → Option Value) : Prop where
  int : mg "int" = none
  bool : mg "bool" = none
  tuple : mg "tuple" = none
  list : mg "list" = none
  isi : mg "isinstance" = none
  len : mg "len" = none
  all : mg "all" = none
  range : mg "range" = none
  abs : mg "abs" = none
  repr : mg "repr" = none
  zip : mg "zip" = none
  max : mg "max" = none
  sorted : mg "sorted" = none
  str : mg "str" = none
  gcd : mg "gcd" = some (.builtin "math.gcd")
  dict : mg "dict" = none
  enum : mg "enumerate" = none
  isq : mg "isqrt" = some (.builtin "math.isqrt")
def tn : PyData → String
  | .none => "NoneType" | .bool _ => "bool" | .int _ => "int" | .str _ => "str" | .list _ => "list" | .tuple _ => "tuple" | .dict _ => "dict"
def isI : PyData → Bool
  | .int _ => true
  | _ => false
def isB : PyData → Bool
  | .bool _ => true
  | _ => false
def isTp : PyData → Bool
  | .tuple _ => true
  | _ => false
theorem dn_ty {K : PySem.W.Frag} {H : Hp} {v : V} {d : PyData} (h : Dn H v d) : TyX K H v (.type (tn d)) := by
  cases h with
  | non => exact .base .non
  | bl b => exact .base (.bl b)
  | int i => exact .base (.int i)
  | str x => exact .base (.str x)
  | lst e _ => exact .base (.lst e)
  | tup e _ => exact .base (.tup e)
  | dct e _ => exact .base (.dK e)
theorem kit_i : ∀ d : PyData, kitB (tn d) "int" = some (isI d || isB d)
  | .none => by decide +kernel
  | .bool _ => by show kitB "bool" "int" = some true; decide +kernel
  | .int _ => by show kitB "int" "int" = some true; decide +kernel
  | .str _ => by show kitB "str" "int" = some false; decide +kernel
  | .list _ => by show kitB "list" "int" = some false; decide +kernel
  | .tuple _ => by show kitB "tuple" "int" = some false; decide +kernel
  | .dict _ => by show kitB "dict" "int" = some false; decide +kernel
theorem kit_b : ∀ d : PyData, kitB (tn d) "bool" = some (isB d)
  | .none => by decide +kernel
  | .bool _ => by show kitB "bool" "bool" = some true; decide +kernel
  | .int _ => by show kitB "int" "bool" = some false; decide +kernel
  | .str _ => by show kitB "str" "bool" = some false; decide +kernel
  | .list _ => by show kitB "list" "bool" = some false; decide +kernel
  | .tuple _ => by show kitB "tuple" "bool" = some false; decide +kernel
  | .dict _ => by show kitB "dict" "bool" = some false; decide +kernel
theorem kit_t : ∀ d : PyData, kitB (tn d) "tuple" = some (isTp d)
  | .none => by decide +kernel
  | .bool _ => by show kitB "bool" "tuple" = some false; decide +kernel
  | .int _ => by show kitB "int" "tuple" = some false; decide +kernel
  | .str _ => by show kitB "str" "tuple" = some false; decide +kernel
  | .list _ => by show kitB "list" "tuple" = some false; decide +kernel
  | .tuple _ => by show kitB "tuple" "tuple" = some true; decide +kernel
  | .dict _ => by show kitB "dict" "tuple" = some false; decide +kernel
theorem dn_tup {H : Hp} {v : V} {d : PyData} (h : Dn H v d) (e : isTp d = true) : ∃ (a : Addr) (xs : List V) (ds : List PyData), v = .ref a ∧ d = .tuple ds ∧ H a = some (.tup xs) ∧ DnAll H xs ds := by
  cases h with
  | tup e1 r => exact ⟨_, _, _, rfl, rfl, e1, r⟩
  | _ => cases e
theorem dn_int {H : Hp} {v : V} {d : PyData} (h : Dn H v d) (e : isI d = true) : ∃ i, v = .int i ∧ d = .int i := by
  cases h with
  | int i => exact ⟨i, rfl, rfl⟩
  | _ => cases e
theorem snew {H : Hp} {p : Addr} {o : HO} (h : H p = none) : Same H (upd H p o) := fun b u e => by rw [upd_ne (ne_of_none e h)]; exact e
theorem ite_b {c : Bool} {A B : Prop} (h1 : c = true → A) (h2 : c = false → B) : if c = true then A else B := by
  cases c with
  | true => exact iteT (h1 rfl)
  | false => exact iteF (h2 rfl)
def spInt : Sp := fun vs H Q _ => ∃ (v : V) (d : PyData), vs = [v] ∧ Dn H v d ∧ Q (.bl (isI d)) H
/-- a tuple of n items -/
def tupN (n : Nat) : PyData → Bool
  | .tuple ds => decide (ds.length = n)
  | _ => false
def spTupOf : Sp := fun vs H Q _ => ∃ (v : V) (d : PyData) (n : Nat), vs = [v, .int (n : Int)] ∧ Dn H v d ∧ Q (.bl (tupN n d)) H
def spAllInt : Sp := fun vs H Q _ => ∃ (a : Addr) (xs : List V) (ds : List PyData), vs = [.ref a] ∧ H a = some (.tup xs) ∧ DnAll H xs ds ∧ ds.length ≤ 1000 ∧ ∀ H', Same H H' → Q (.bl (ds.all isI)) H'
section
variable {P : Program} {w : World} {K : PySem.W.Frag} {mg : Str → Option Value} {base : Heap}
theorem scInt : FnScope ["thing"] ["thing"] (defScope sInt) := ⟨rfl, rfl, rfl, by decide +kernel, rfl, by decide +kernel, by decide +kernel⟩
theorem ok_int {f : Addr} {fd : FuncData} (F : Fun K "is_integer" "is_integer" sInt f fd) (T : Bt mg) : FnOk P w K mg base CX0 1 f fd ["thing"] spInt := by
  refine F.ok scInt (fun vs H Q E h => ?_) (fun cdv A outer s H vs Q E hr h => ?_)
  · obtain ⟨v, d, rfl, _⟩ := h
    rfl
  · obtain ⟨v, d, rfl, hd, k⟩ := h
    refine ⟨_, pss_one (ps_ret (pe_and (pe_callB call_isi (by rfl) T.isi (by decide +kernel) (pa_cons (pv 0) (pa_cons (pe_bltn (v := .ty "int") (by rfl) T.int (by decide +kernel) rfl) pa_nil)))
      (pe_one (pe_not (pe_callB call_isi (by rfl) T.isi (by decide +kernel) (pa_cons (pv 0) (pa_cons (pe_bltn (v := .ty "bool") (by rfl) T.bool (by decide +kernel) rfl) pa_nil))))))), ?_⟩
    refine ⟨_, rfl, v, .ty "int", _, _, _, rfl, .ty _, dn_ty hd, kit_ty (kit_i d), _, rfl, ite_b (fun e => ?_) (fun e => ?_)⟩
    · refine ⟨_, rfl, v, .ty "bool", _, _, _, rfl, .ty _, dn_ty hd, kit_ty (kit_b d), _, rfl, ?_⟩
      have : (!isB d) = isI d := by cases d <;> first | rfl | cases e
      rw [this]; exact k
    · have : isI d = false := by cases d <;> first | rfl | cases e
      rw [this] at k; exact k
theorem scTupOf : FnScope ["thing", "many"] ["thing", "many"] (defScope sTupOf) := ⟨rfl, rfl, rfl, by decide +kernel, rfl, by decide +kernel, by decide +kernel⟩
theorem ok_tupOf {f : Addr} {fd : FuncData} (F : Fun K "is_tuple_of" "is_tuple_of" sTupOf f fd) (T : Bt mg) : FnOk P w K mg base CX0 1 f fd ["thing", "many"] spTupOf := by
  refine F.ok scTupOf (fun vs H Q E h => ?_) (fun cdv A outer s H vs Q E hr h => ?_)
  · obtain ⟨v, d, n, rfl, _⟩ := h
    rfl
  · obtain ⟨v, d, n, rfl, hd, k⟩ := h
    refine ⟨_, pss_one (ps_ret (pe_and (pe_callB call_isi (by rfl) T.isi (by decide +kernel) (pa_cons (pv 0) (pa_cons (pe_bltn (v := .ty "tuple") (by rfl) T.tuple (by decide +kernel) rfl) pa_nil)))
      (pe_one (pe_cmpR op_eq (pe_callB call_len (by rfl) T.len PySem.boot_len (pa_cons (pv 0) pa_nil)) (pv 1) (nomark _))))), ?_⟩
    refine ⟨_, rfl, v, .ty "tuple", _, _, _, rfl, .ty _, dn_ty hd, kit_ty (kit_t d), _, rfl, ite_b (fun e => ?_) (fun e => ?_)⟩
    · obtain ⟨a, xs, ds, rfl, rfl, e1, r⟩ := dn_tup hd e
      refine ⟨_, rfl, .ref a, xs.length, rfl, .inr ⟨xs, SqT.of e1, rfl⟩, _, rfl, rfl, ?_⟩
      have : decide (V.int (xs.length : Int) = V.int (n : Int)) = tupN n (.tuple ds) := by
        show _ = decide (ds.length = n)
        rw [r.length]
        exact decide_eq_decide.mpr ⟨fun h => by have := V.int.inj h; omega, fun h => by rw [h]⟩
      rw [this]; exact k
    · have : tupN n d = false := by cases d <;> first | rfl | cases e
      rw [this] at k; exact k
theorem scAllInt : FnScope ["things", "thing"] ["things"] (defScope sAllInt) := ⟨rfl, rfl, rfl, by decide +kernel, rfl, by decide +kernel, by decide +kernel⟩
theorem take_succ_all {α : Type} (p : α → Bool) {l : List α} {i : Nat} {x : α} (h : l[i]? = some x) : l.take (i + 1) = l.take i ++ [x] := by
  rw [List.take_add_one, h]; rfl
theorem ok_allInt {f fI : Addr} {fd fdI : FuncData} (F : Fun K "all_integers" "all_integers" sAllInt f fd) (T : Bt mg) (I : Kn P w K mg base 1 "is_integer" ["thing"] spInt fI fdI) : FnOk P w K mg base CX0 2 f fd ["things"] spAllInt := by
  refine F.ok scAllInt (fun vs H Q E h => ?_) (fun cdv A outer s H vs Q E hr h => ?_)
  · obtain ⟨a, xs, ds, rfl, _⟩ := h
    rfl
  · obtain ⟨a, xs, ds, rfl, ha, r, hl, k⟩ := h
    refine ⟨_, pss_one (ps_ret (pe_callB (cr_all rfl) (by rfl) T.all (by decide +kernel) (pa_cons (pe_lc (own := [("thing", 1)]) (g := gName 1) (tt := tYes) rfl scAllInt.nd (pi_tup (pv 0))
      (blkOk_by (own := [("thing", 1)]) (N := ["things", "thing"]) (sc := defScope sAllInt) (by decide +kernel)) (fun _ _ _ _ _ => pg_name (i := 1) scAllInt.nd rfl (Or.inl rfl)) (fun _ _ _ _ _ => pts_nil)
      (fun _ _ _ _ _ => pe_call I.ok hr rfl I.mg I.kp I.bd .nil pass0 (pa_cons (pv 1) pa_nil))) pa_nil))), ?_⟩
    refine ⟨_, rfl, a, rfl, ⟨_, SqT.of ha⟩, fun D hD => lc_tup (K := K) (a := a) (xs := xs) (fun i H' => H' D = some (.lst ((ds.take i).map fun d => V.bl (isI d))) ∧ Same H H') ⟨upd_same, snew hD⟩ (fun i H' _ s' => SqT.of (s'.2 _ _ ha)) ?_ ?_⟩
    · rintro i x H' hx ⟨e1, e2⟩
      obtain ⟨d, ed, dn⟩ := r.at_ hx
      have il : i < ds.length := (List.getElem?_eq_some_iff.mp ed).1
      refine ⟨rfl, ?_⟩
      refine ⟨_, rfl, x, d, rfl, Dn.mono e2 d x dn, _, e1, ?_, ?_, fun b o e => ?_⟩
      · rw [List.length_map, List.length_take]; exact small1000 (by omega)
      · rw [take_succ_all isI ed, List.map_append, upd_same]; rfl
      · rw [upd_ne (ne_of_none e hD)]; exact e2 _ _ e
    · rintro H' ⟨e1, e2⟩
      rw [r.length, List.take_length] at e1
      refine ⟨D, ds.map isI, rfl, SqL.of (by rw [List.map_map]; exact e1), ?_⟩
      rw [show (ds.map isI).all id = ds.all isI by rw [List.all_map]; rfl]
      exact k _ e2
end
end N3

namespace N3
open PySem PySem.Spec PyProof.Rows L2
section
variable {P : Program} {w : World} {K : PySem.W.Frag} {mg : Str → Option Value} {base : Heap}
/-- a def behind the top -/
structure Df (K : PySem.W.Frag) (mg : Str → Option Value) (x : Str) (st : Stmt) (ps : List Str) (f : Addr) (fd : FuncData) : Prop where
  F : Fun K x x st f fd
  m : mg x = some (.ref f)
  b : Binds K fd ps []
/-- how a def binds what is handed by position -/
def Bds (x : Str) (st : Stmt) (ps : List Str) : Prop := ∀ (kV doc pm : Value) (an : Option Addr) (cdv ct : Value) (us : List Value), us.length = ps.length → bindArgs (PySem.W.fnOf x x (defArgs st) (defBody st) (defScope st) .none kV doc pm an cdv ct) ⟨us, []⟩ = pure (ps.zip us)
theorem df_mk {h : Heap} (X : K.In h) (G : h.Ns mainGlobals mg) {x : Str} {st : Stmt} {ps : List Str} {f : Addr} {oc : Value} {od an : Option Addr} {osl : Array (Option Value)} {kV doc pm cdv ct : Value}
    (a : PySem.W.nsIn K mainGlobals x = some (some (.ref f))) (l : K.lookup f = some ⟨oc, od, .func (PySem.W.fnOf x x (defArgs st) (defBody st) (defScope st) .none kV doc pm an cdv ct), osl⟩) (c : PySem.W.codeIn K cdv x = true) (k : PySem.W.keepIn K (.ref f) = true)
    (b : Bds x st ps) : ∃ f fd, Df K mg x st ps f fd := ⟨f, _, fun_mk (st := st) l c k, PySem.W.mg_of X G a, (fun_mk (st := st) l c k).binds b⟩
theorem Df.kn {x : Str} {st : Stmt} {ps : List Str} {f : Addr} {fd : FuncData} {k : Nat} {sp : Sp} (D : Df K mg x st ps f fd) (ok : FnOk P w K mg base CX0 k f fd ps sp) : Kn P w K mg base k x ps sp f fd := ⟨ok, D.m, D.F.kp, D.b⟩
end
end N3

namespace N3
open PySem PySem.Spec PyProof.Rows L2 N2
theorem call_isqrt {X : Cx} : CallR X (.builtin "math.isqrt") (fun vs H Q => ∃ n : Nat, vs = [.int (n : Int)] ∧ n < 2 ^ 64 ∧ ∀ k : Nat, k * k ≤ n → n < (k + 1) * (k + 1) → Q (.int (k : Int)) H) := by
  intro pins s σ H vs us Q I r h
  obtain ⟨n, rfl, hn, q⟩ := h
  obtain ⟨u, rfl, t, rfl⟩ := vals1 r
  obtain ⟨h1, h2⟩ := Float64.isqrt_spec n
  exact PySem.W.mg_isqrt (by omega) (by omega) ⟨.int _, H, I.tok _, ⟨_, rfl⟩, q _ (by simpa using h1) (by simpa using h2)⟩
def lowT (b c : Int) : Bool := decide (1 ≤ c) && decide (Nat.gcd b.natAbs c.natAbs = 1)
def spLow : Sp := fun vs H Q _ => ∃ b c : Int, vs = [.int b, .int c] ∧ Q (.bl (lowT b c)) H
def spSplit : Sp := fun vs H Q _ => ∃ n : Nat, vs = [.int (n : Int)] ∧ 1 ≤ n ∧ n < 10 ^ 15 ∧ ∀ (f r : Nat) (a : Addr) (H' : Hp), Split n f r → H' a = some (.tup [.int (f : Int), .int (r : Int)]) → Same H H' → Q (.ref a) H'
def spFree : Sp := fun vs H Q _ => ∃ n : Nat, vs = [.int (n : Int)] ∧ 1 ≤ n ∧ n < 10 ^ 15 ∧ ∀ (b : Bool) (H' : Hp), (b = true ↔ SqF n) → Same H H' → Q (.bl b) H'
/-- a number that may stand as d -/
def Fit (a : Int) : Prop := a ≠ 0 ∧ a.natAbs < 10 ^ 15 ∧ SqF a.natAbs
def spFits : Sp := fun vs H Q _ => ∃ a : Int, vs = [.int a] ∧ ∀ (b : Bool) (H' : Hp), (b = true ↔ Fit a) → Same H H' → Q (.bl b) H'
theorem le_cube {p s : Nat} (hp : 1 ≤ p) (h : p * p * p ≤ s) : p ≤ s ∧ p * p ≤ s := by
  have h1 : p * p * 1 ≤ p * p * p := Nat.mul_le_mul_left (p * p) hp
  have h2 : p * 1 ≤ p * p := Nat.mul_le_mul_left p hp
  omega
theorem small_log {n : Nat} (h : n < 2 ^ 64) : n.log2 < 9000 := by
  rcases Nat.eq_zero_or_pos n with z | z
  · rw [z]; decide
  · have := (Nat.log2_lt (by omega : n ≠ 0)).mpr h; omega
section
variable {P : Program} {w : World} {K : PySem.W.Frag} {mg : Str → Option Value} {base : Heap}
theorem scLow : FnScope ["top", "bottom"] ["top", "bottom"] (defScope sLowest) := ⟨rfl, rfl, rfl, by decide +kernel, rfl, by decide +kernel, by decide +kernel⟩
theorem ok_low {f : Addr} {fd : FuncData} (F : Fun K "in_lowest_terms" "in_lowest_terms" sLowest f fd) (T : Bt mg) : FnOk P w K mg base CX0 1 f fd ["top", "bottom"] spLow := by
  refine F.ok scLow (fun vs H Q E h => ?_) (fun cdv A outer s H vs Q E hr h => ?_)
  · obtain ⟨b, c, rfl, _⟩ := h
    rfl
  · obtain ⟨b, c, rfl, k⟩ := h
    refine ⟨_, pss_one (ps_ret (pe_and (pe_cmpR op_ge (pv 1) pe_int (nomark _)) (pe_one (pe_cmpR op_eq (pe_callBfun cr_gcd (by rfl) T.gcd (pa_cons (pv 0) (pa_cons (pv 1) pa_nil))) pe_int (nomark _))))), ?_⟩
    refine ⟨_, rfl, _, _, rfl, rfl, _, rfl, ite_b (fun e => ?_) (fun e => ?_)⟩
    · refine ⟨_, rfl, _, rfl, _, _, rfl, rfl, ?_⟩
      have q : decide (V.int ((Nat.gcd b.natAbs c.natAbs : Nat) : Int) = V.int 1) = lowT b c := by
        unfold lowT
        rw [e, Bool.true_and]
        exact decide_eq_decide.mpr ⟨fun h => by have := V.int.inj h; omega, fun h => by rw [h]; rfl⟩
      rw [q]; exact k
    · have q : lowT b c = false := by
        unfold lowT
        rw [e, Bool.false_and]
      rw [q] at k; exact k
theorem scSplit : FnScope ["size", "free", "root", "factor", "rest"] ["size"] (defScope sSplit) := ⟨rfl, rfl, rfl, by decide +kernel, rfl, by decide +kernel, by decide +kernel⟩
theorem ok_split {f : Addr} {fd : FuncData} (F : Fun K "square_split" "square_split" sSplit f fd) (T : Bt mg) : FnOk P w K mg base CX0 1 f fd ["size"] spSplit := by
  refine F.ok scSplit (fun vs H Q E h => ?_) (fun cdv A outer s H vs Q E hr h => ?_)
  · obtain ⟨n, rfl, _⟩ := h
    rfl
  · obtain ⟨n, rfl, n1, n2, k⟩ := h
    refine ⟨_, pss_cons (ps_asg (pe_tup (pa_cons pe_int (pa_cons pe_int (pa_cons pe_int pa_nil)))) (pg_tup rfl (pgs_cons (pg_name (i := 1) scSplit.nd rfl (Or.inl rfl)) (pgs_cons (pg_name (i := 2) scSplit.nd rfl (Or.inl rfl)) (pgs_cons (pg_name (i := 3) scSplit.nd rfl (Or.inl rfl)) pgs_nil)))))
      (pss_cons (ps_while PassesOwn.never (pt_cmpR op_le (pe_op op_mul (pe_op op_mul (pv 3) (pv 3)) (pv 3)) (pv 0) (nomark _))
        (pss_cons (ps_while PassesOwn.never (pt_cmpR op_eq (pe_op op_mod (pv 0) (pe_op op_mul (pv 3) (pv 3))) pe_int (nomark _))
          (pss_cons (ps_set (i := 0) scSplit.nd rfl (Or.inl rfl) (pe_op op_fdivW (pv 0) (pe_op op_mul (pv 3) (pv 3)))) (pss_one (ps_set (i := 2) scSplit.nd rfl (Or.inl rfl) (pe_op op_mul (pv 2) (pv 3))))))
        (pss_cons (ps_if (pt_cmpR op_eq (pe_op op_mod (pv 0) (pv 3)) pe_int (nomark _))
          (pss_cons (ps_set (i := 0) scSplit.nd rfl (Or.inl rfl) (pe_op op_fdivW (pv 0) (pv 3))) (pss_one (ps_set (i := 1) scSplit.nd rfl (Or.inl rfl) (pe_op op_mul (pv 1) (pv 3))))) pss_nil)
        (pss_one (ps_aug (i := 3) scSplit.nd rfl (.inl rfl) pe_int ip_add)))))
      (pss_cons (ps_set (i := 4) scSplit.nd rfl (Or.inl rfl) (pe_callBfun call_isqrt (by rfl) T.isq (pa_cons (pv 0) pa_nil)))
      (pss_cons (ps_if (pt_cmpR op_eq (pe_op op_mul (pv 4) (pv 4)) (pv 0) (nomark _)) (pss_one (ps_ret (pe_tup (pa_cons (pv 1) (pa_cons (pe_op op_mul (pv 2) (pv 4)) pa_nil))))) pss_nil)
      (pss_one (ps_ret (pe_tup (pa_cons (pe_op op_mul (pv 1) (pv 0)) (pa_cons (pv 2) pa_nil)))))))), ?_⟩
    have p64 : (10 : Nat) ^ 15 + 1 < 2 ^ 64 := by decide
    refine ⟨by show 3 ≤ sizeLine; rw [sizeLine_eq]; decide, fun p0 hp0 => ?_⟩
    refine ⟨p0, _, rfl, SqT.of upd_same, rfl, _, _, rfl, _, _, rfl, _, _, rfl, rfl, ?_⟩
    refine ⟨fun m σ H' => ∃ (s f r p : Nat), σ = [some (.int (s : Int)), some (.int (f : Int)), some (.int (r : Int)), some (.int (p : Int)), none] ∧ Same H H' ∧ Spf n s f r p ∧ p ≤ n + 1 ∧ m = n + 2 - p, ⟨_, n, 1, 1, 2, rfl, snew hp0, spf_0 n1, by omega, rfl⟩, ?_⟩
    rintro m σ H1 ⟨s, f, r, p, rfl, s1, S, pn, rfl⟩
    have p2 := S.p2
    have sn := S.le
    have cm : ∀ x : Int, CMul x (p : Int) := fun x => .inr ⟨by omega, by omega⟩
    refine ⟨_, rfl, _, rfl, _, _, rfl, rfl, cm _, _, rfl, _, _, rfl, rfl, cm _, _, rfl, _, _, rfl, rfl, _, rfl, ite_b (fun c => ?_) (fun c => ?_)⟩
    · have c' : p * p * p ≤ s := by have := of_decide_eq_true c; exact_mod_cast this
      obtain ⟨ps, pps⟩ := le_cube (by omega) c'
      have pos : (0 : Int) < (p : Int) * (p : Int) := by
        have : 0 < p * p := Nat.mul_pos (by omega) (by omega)
        exact_mod_cast this
      refine ⟨fun σ' H' => ∃ (s' r' f' : Nat), σ' = [some (.int (s' : Int)), some (.int (f' : Int)), some (.int (r' : Int)), some (.int ((p + 1 : Nat) : Int)), none] ∧ Same H H' ∧ Spf n s' f' r' (p + 1),
        fun σ' H' ⟨s', r', f', e1, e2, e3⟩ => ⟨n + 2 - (p + 1), by omega, s', f', r', p + 1, e1, e2, e3, by omega, rfl⟩, ?_⟩
      refine ⟨fun m σ H' => ∃ s' r' : Nat, σ = [some (.int (s' : Int)), some (.int (f : Int)), some (.int (r' : Int)), some (.int (p : Int)), none] ∧ Same H H' ∧ Spf n s' f r' p ∧ m = s', ⟨_, s, r, rfl, s1, S, rfl⟩, ?_⟩
      rintro m σ H2 ⟨s', r', rfl, s2, S', rfl⟩
      have sn' := S'.le
      refine ⟨_, rfl, _, rfl, _, rfl, _, _, rfl, rfl, cm _, _, _, rfl, rfl, pos, rfl, _, rfl, ite_b (fun c2 => ?_) (fun c2 => ?_)⟩
      · have c2' : m % (p * p) = 0 := by have := V.int.inj (of_decide_eq_true c2); exact_mod_cast this
        obtain ⟨S2, lt⟩ := S'.sq c2'
        refine ⟨fun σ' H' => σ' = [some (.int ((m / (p * p) : Nat) : Int)), some (.int (f : Int)), some (.int ((r' * p : Nat) : Int)), some (.int (p : Int)), none] ∧ Same H H', fun σ' H' ⟨e1, e2⟩ => ⟨_, lt, _, _, e1, e2, S2, rfl⟩, ?_⟩
        refine ⟨_, rfl, _, rfl, _, rfl, _, _, rfl, rfl, cm _, _, _, rfl, rfl, ⟨pos, ?_⟩, ?_⟩
        · have : ((p : Int) * (p : Int)).natAbs = p * p := by rw [← Int.natCast_mul]; rfl
          rw [this]
          exact small_log (by omega)
        · exact ⟨_, rfl, _, rfl, _, _, rfl, rfl, cm _, by push_cast; rfl, s2⟩
      · have c2' : ¬ m % (p * p) = 0 := fun z => of_decide_eq_false c2 (congrArg V.int (by exact_mod_cast z))
        have pp : (0 : Int) < (p : Int) := by omega
        refine ⟨_, rfl, _, rfl, _, _, rfl, rfl, pp, rfl, _, rfl, ite_b (fun c3 => ?_) (fun c3 => ?_)⟩
        · have c3' : m % p = 0 := by have := V.int.inj (of_decide_eq_true c3); exact_mod_cast this
          refine ⟨_, rfl, _, rfl, _, _, rfl, rfl, ⟨pp, ?_⟩, ?_⟩
          · show p.log2 < 9000
            exact small_log (by omega)
          · refine ⟨_, rfl, _, rfl, _, _, rfl, rfl, cm _, _, rfl, _, _, rfl, rfl, ?_⟩
            exact ⟨m / p, r', f * p, by push_cast; rfl, s2, S'.one c2' c3'⟩
        · have c3' : ¬ m % p = 0 := fun z => of_decide_eq_false c3 (congrArg V.int (by exact_mod_cast z))
          refine ⟨_, rfl, _, _, rfl, rfl, ?_⟩
          exact ⟨m, r', f, by push_cast; rfl, s2, S'.no c3'⟩
    · have c' : s < p * p * p := by
        have h1 := of_decide_eq_false c
        have h2 : ¬ (p * p * p ≤ s) := fun z => h1 (by exact_mod_cast z)
        omega
      refine ⟨_, rfl, s, rfl, by omega, fun j j1 j2 => ?_⟩
      have jj : j ≤ s := Nat.le_trans (Nat.le_mul_self j) j1
      have cj : ∀ x : Int, CMul x (j : Int) := fun x => .inr ⟨by omega, by omega⟩
      refine ⟨_, rfl, _, rfl, _, _, rfl, rfl, cj _, _, rfl, rfl, _, rfl, ite_b (fun c4 => ?_) (fun c4 => ?_)⟩
      · have c4' : j * j = s := by have := V.int.inj (of_decide_eq_true c4); exact_mod_cast this
        refine ⟨_, rfl, _, rfl, _, rfl, _, _, rfl, rfl, cj _, by show 2 ≤ sizeLine; rw [sizeLine_eq]; decide, fun a ha => ?_⟩
        exact k f (r * j) a _ (S.fin_sq c4') upd_same (s1.trans (snew ha))
      · have c4' : ∀ i, i * i ≠ s := fun i e => by
          have h1 : i ≤ j := by
            have : i * i < (j + 1) * (j + 1) := by omega
            have := Nat.mul_self_lt_mul_self_iff.mp this
            omega
          have h2 : j ≤ i := Nat.mul_self_le_mul_self_iff.mp (by omega)
          have : i = j := by omega
          subst this
          exact of_decide_eq_false c4 (congrArg V.int (by exact_mod_cast e))
        refine ⟨_, rfl, _, rfl, _, _, rfl, rfl, .inr ⟨by omega, by omega⟩, _, rfl, by show 2 ≤ sizeLine; rw [sizeLine_eq]; decide, fun a ha => ?_⟩
        exact k (f * s) r a _ (S.fin_no c' c4') (by rw [Int.natCast_mul]; exact upd_same) (s1.trans (snew ha))
end
end N3

namespace N3
open PySem PySem.Spec PyProof.Rows L2 N2
/-- the program's triples -/
def TP (d : PyData) : Prop := ∃ a b c : Int, d = .tuple [.int a, .int b, .int c] ∧ b ≠ 0 ∧ lowT b c = true ∧ Fit a
def spTriple : Sp := fun vs H Q _ => ∃ (v : V) (d : PyData), vs = [v] ∧ Dn H v d ∧ ∀ (b : Bool) (H' : Hp), (b = true ↔ TP d) → Same H H' → Q (.bl b) H'
def hdI : PyData → Int
  | .tuple (.int a :: _) => a
  | _ => 0
def Asc (ds : List PyData) : Prop := ∀ (i : Nat) (x y : PyData), ds[i]? = some x → ds[i + 1]? = some y → hdI x < hdI y
def NP (d : PyData) : Prop := ∃ ds, d = .tuple ds ∧ (∀ x ∈ ds, TP x) ∧ Asc ds
def Short (d : PyData) : Prop := ∀ ds, d = .tuple ds → ds.length ≤ 1000000
def spNumber : Sp := fun vs H Q _ => ∃ (v : V) (d : PyData), vs = [v] ∧ Dn H v d ∧ Short d ∧ ∀ (b : Bool) (H' : Hp), (b = true ↔ NP d) → Same H H' → Q (.bl b) H'
theorem three_ints {ds : List PyData} (h1 : ds.length = 3) (h2 : ds.all isI = true) : ∃ a b c : Int, ds = [.int a, .int b, .int c] := by
  match ds, h1 with
  | [x, y, z], _ =>
    simp only [List.all_cons, List.all_nil, Bool.and_true, Bool.and_eq_true] at h2
    obtain ⟨e1, e2, e3⟩ := h2
    have g : ∀ u : PyData, isI u = true → ∃ i, u = .int i := fun u e => by
      cases u <;> first | exact ⟨_, rfl⟩ | cases e
    obtain ⟨a, rfl⟩ := g x e1
    obtain ⟨b, rfl⟩ := g y e2
    obtain ⟨c, rfl⟩ := g z e3
    exact ⟨a, b, c, rfl⟩
theorem dn3 {H : Hp} {xs : List V} {a b c : Int} (h : DnAll H xs [.int a, .int b, .int c]) : xs = [.int a, .int b, .int c] := by
  cases h with
  | cons h1 r =>
    cases r with
    | cons h2 r =>
      cases r with
      | cons h3 r =>
        cases r
        cases h1
        cases h2
        cases h3
        rfl
theorem all_step {bs : List Bool} {b : Bool} {i : Nat} {p : Nat → Prop} (h : bs.all id = true ↔ ∀ j, j < i → p j) (hb : b = true ↔ p i) : (bs ++ [b]).all id = true ↔ ∀ j, j < i + 1 → p j := by
  rw [List.all_append, Bool.and_eq_true, h]
  simp only [List.all_cons, List.all_nil, Bool.and_true, id]
  rw [hb]
  constructor
  · rintro ⟨h1, h2⟩ j hj
    by_cases c : j = i
    · rw [c]; exact h2
    · exact h1 j (by omega)
  · intro h1
    exact ⟨fun j hj => h1 j (by omega), h1 i (by omega)⟩
section
variable {P : Program} {w : World} {K : PySem.W.Frag} {mg : Str → Option Value} {base : Heap}
theorem scFree : FnScope ["size"] ["size"] (defScope sFree) := ⟨rfl, rfl, rfl, by decide +kernel, rfl, by decide +kernel, by decide +kernel⟩
theorem ok_free {f fS : Addr} {fd fdS : FuncData} (F : Fun K "free_of_squares" "free_of_squares" sFree f fd) (S : Kn P w K mg base 1 "square_split" ["size"] spSplit fS fdS) : FnOk P w K mg base CX0 2 f fd ["size"] spFree := by
  refine F.ok scFree (fun vs H Q E h => ?_) (fun cdv A outer s H vs Q E hr h => ?_)
  · obtain ⟨n, rfl, _⟩ := h
    rfl
  · obtain ⟨n, rfl, n1, n2, k⟩ := h
    refine ⟨_, pss_one (ps_ret (pe_cmpR op_eq (pe_ix (r := rIx K) ix_seq (pe_call S.ok hr rfl S.mg S.kp S.bd .nil pass0 (pa_cons (pv 0) pa_nil)) pe_int (fun _ _ => rfl)) pe_int (nomark _))), ?_⟩
    refine ⟨_, rfl, n, rfl, n1, n2, fun f r a H' hsp e s1 => ?_⟩
    have hq := hsp.one
    refine .inr (.inl ⟨a, _, _, _, rfl, rfl, SqT.of e, rfl, rfl, ?_⟩)
    refine k _ H' ?_ s1
    rw [decide_eq_true_iff]
    exact ⟨fun h => hq.mp (by have := V.int.inj h; omega), fun h => congrArg V.int (by rw [hq.mpr h]; rfl)⟩
theorem scFits : FnScope ["d"] ["d"] (defScope sFits) := ⟨rfl, rfl, rfl, by decide +kernel, rfl, by decide +kernel, by decide +kernel⟩
theorem ok_fits {f fS : Addr} {fd fdS : FuncData} {t : Tok} (F : Fun K "fits_as_d" "fits_as_d" sFits f fd) (T : Bt mg) (L : mg "TOO_LARGE" = some (.int 1000000000000000 t)) (S : Kn P w K mg base 2 "free_of_squares" ["size"] spFree fS fdS) : FnOk P w K mg base CX0 3 f fd ["d"] spFits := by
  refine F.ok scFits (fun vs H Q E h => ?_) (fun cdv A outer s H vs Q E hr h => ?_)
  · obtain ⟨a, rfl, _⟩ := h
    rfl
  · obtain ⟨a, rfl, k⟩ := h
    refine ⟨_, pss_one (ps_ret (pe_and (pe_cmpR op_ne (pv 0) pe_int (nomark _)) (pe_and (pe_cmpR op_lt (pe_callB call_abs (by rfl) T.abs (by decide +kernel) (pa_cons (pv 0) pa_nil)) (pe_glob (v := .int 1000000000000000) rfl L ⟨_, rfl⟩) (nomark _))
      (pe_one (pe_call S.ok hr rfl S.mg S.kp S.bd .nil pass0 (pa_cons (pe_callB call_abs (by rfl) T.abs (by decide +kernel) (pa_cons (pv 0) pa_nil)) pa_nil)))))), ?_⟩
    have ab : (if a < 0 then -a else a) = (a.natAbs : Int) := by split <;> omega
    refine ⟨_, rfl, rfl, _, rfl, ite_b (fun e => ?_) (fun e => ?_)⟩
    · have e' : a ≠ 0 := fun z => by rw [z] at e; exact absurd e (by decide)
      refine ⟨_, rfl, a, rfl, _, _, rfl, rfl, _, rfl, ite_b (fun e2 => ?_) (fun e2 => ?_)⟩
      · rw [ab] at e2
        have e2' : a.natAbs < 10 ^ 15 := by have := of_decide_eq_true e2; omega
        refine ⟨_, rfl, a, rfl, a.natAbs, by rw [ab]; rfl, by omega, e2', fun b H' hb s1 => k b H' ?_ s1⟩
        rw [hb]
        exact ⟨fun h => ⟨e', e2', h⟩, fun h => h.2.2⟩
      · rw [ab] at e2
        exact k false H ⟨fun z => (by cases z), fun h => absurd h.2.1 (by have := of_decide_eq_false e2; omega)⟩ (Same.refl _)
    · exact k false H ⟨fun z => (by cases z), fun h => absurd (show (!decide (V.int a = V.int 0)) = true by rw [decide_eq_false (fun z => h.1 (V.int.inj z))]; rfl) (by rw [e]; decide)⟩ (Same.refl _)
theorem scTriple : FnScope ["thing", "d", "top", "bottom"] ["thing"] (defScope sTriple) := ⟨rfl, rfl, rfl, by decide +kernel, rfl, by decide +kernel, by decide +kernel⟩
theorem ok_triple {f f1 f2 f3 f4 : Addr} {fd d1 d2 d3 d4 : FuncData} (F : Fun K "is_triple" "is_triple" sTriple f fd) (A1 : Kn P w K mg base 1 "is_tuple_of" ["thing", "many"] spTupOf f1 d1) (A2 : Kn P w K mg base 2 "all_integers" ["things"] spAllInt f2 d2)
    (A3 : Kn P w K mg base 1 "in_lowest_terms" ["top", "bottom"] spLow f3 d3) (A4 : Kn P w K mg base 3 "fits_as_d" ["d"] spFits f4 d4) : FnOk P w K mg base CX0 4 f fd ["thing"] spTriple := by
  refine F.ok scTriple (fun vs H Q E h => ?_) (fun cdv A outer s H vs Q E hr h => ?_)
  · obtain ⟨v, d, rfl, _⟩ := h
    rfl
  · obtain ⟨v, d, rfl, hd, k⟩ := h
    have r1 : Room 1 _ := hr.mono (by decide)
    have r2 : Room 2 _ := hr.mono (by decide)
    refine ⟨_, pss_cons (ps_if (pt_not (PW.pt (pw_and (pt_val (pe_call A1.ok r1 rfl A1.mg A1.kp A1.bd .nil pass0 (pa_cons (pv 0) (pa_cons pe_int pa_nil)))) (pw_and1 (pt_val (pe_call A2.ok r2 rfl A2.mg A2.kp A2.bd .nil pass0 (pa_cons (pv 0) pa_nil))))))) (pss_one (ps_ret pe_bl)) pss_nil)
      (pss_cons (ps_asg (pv 0) (pg_tup rfl (pgs_cons (pg_name (i := 1) scTriple.nd rfl (Or.inl rfl)) (pgs_cons (pg_name (i := 2) scTriple.nd rfl (Or.inl rfl)) (pgs_cons (pg_name (i := 3) scTriple.nd rfl (Or.inl rfl)) pgs_nil)))))
      (pss_one (ps_ret (pe_and (pe_cmpR op_ne (pv 2) pe_int (nomark _)) (pe_and (pe_call A3.ok r1 rfl A3.mg A3.kp A3.bd .nil pass0 (pa_cons (pv 2) (pa_cons (pv 3) pa_nil))) (pe_one (pe_call A4.ok hr rfl A4.mg A4.kp A4.bd .nil pass0 (pa_cons (pv 1) pa_nil)))))))), ?_⟩
    have no : tupN 3 d = false → ¬ TP d := fun e ⟨a, b, c, e1, _⟩ => by rw [e1] at e; cases e
    refine ⟨_, rfl, v, d, 3, rfl, hd, _, rfl, ite_b (fun e => ?_) (fun e => ?_)⟩
    · have et : isTp d = true := by cases d <;> first | rfl | cases e
      obtain ⟨a, xs, ds, rfl, rfl, ea, ra⟩ := dn_tup hd et
      have l3 : ds.length = 3 := of_decide_eq_true e
      refine ⟨_, rfl, a, xs, ds, rfl, ea, ra, by omega, fun H1 s1 => ⟨_, rfl, ?_⟩⟩
      cases e2 : ds.all isI with
      | false =>
        refine iteT ?_
        refine k false H1 ⟨fun z => (by cases z), fun ⟨a', b', c', e1, _⟩ => ?_⟩ s1
        cases e1
        cases e2
      | true =>
        refine iteF ?_
        obtain ⟨a', b', c', rfl⟩ := three_ints l3 e2
        obtain rfl := dn3 ra
        refine ⟨_, rfl, a, _, rfl, SqT.of (s1 _ _ ea), rfl, _, _, rfl, _, _, rfl, _, _, rfl, rfl, ?_⟩
        refine ⟨_, rfl, rfl, _, rfl, ite_b (fun e3 => ?_) (fun e3 => ?_)⟩
        · have e3' : b' ≠ 0 := fun z => by rw [z] at e3; exact absurd e3 (by decide)
          refine ⟨_, rfl, _, rfl, b', c', rfl, _, rfl, ite_b (fun e4 => ?_) (fun e4 => ?_)⟩
          · refine ⟨_, rfl, a', rfl, fun b H2 hb s2 => k b H2 ?_ (s1.trans s2)⟩
            rw [hb]
            exact ⟨fun h => ⟨a', b', c', rfl, e3', e4, h⟩, fun ⟨a2, b2, c2, e1, _, _, h⟩ => by cases e1; exact h⟩
          · exact k false H1 ⟨fun z => (by cases z), fun ⟨a2, b2, c2, e1, _, h, _⟩ => by cases e1; rw [e4] at h; cases h⟩ s1
        · refine k false H1 ⟨fun z => (by cases z), fun ⟨a2, b2, c2, e1, h, _, _⟩ => ?_⟩ s1
          cases e1
          rw [decide_eq_false (fun z => h (V.int.inj z))] at e3
          cases e3
    · refine iteT ?_
      exact k false H ⟨fun z => (by cases z), fun h => absurd h (no e)⟩ (Same.refl _)
end
end N3

namespace N3
open PySem PySem.Spec PyProof.Rows L2
theorem small_m {n : Nat} (h : n ≤ 1000000) : n < sizeLine := by rw [sizeLine_eq]; omega
theorem tp_shape {H : Hp} {v : V} {d : PyData} (h : Dn H v d) (t : TP d) : ∃ (p : Addr) (a b c : Int), v = .ref p ∧ d = .tuple [.int a, .int b, .int c] ∧ H p = some (.tup [.int a, .int b, .int c]) := by
  obtain ⟨a, b, c, rfl, _⟩ := t
  cases h with
  | tup e r => exact ⟨_, a, b, c, rfl, rfl, by rw [e, dn3 r]⟩
theorem dn_at {H : Hp} {xs : List V} {ds : List PyData} : ∀ {i : Nat} {d : PyData}, DnAll H xs ds → ds[i]? = some d → ∃ x, xs[i]? = some x ∧ Dn H x d := by
  intro i d r e
  have hi := (List.getElem?_eq_some_iff.mp e).1
  have hx : i < xs.length := by rw [r.length]; exact hi
  obtain ⟨d', e1, dn⟩ := r.at_ (List.getElem?_eq_getElem hx)
  rw [e] at e1
  cases e1
  exact ⟨_, List.getElem?_eq_getElem hx, dn⟩
section
variable {P : Program} {w : World} {K : PySem.W.Frag} {mg : Str → Option Value} {base : Heap}
theorem scNumber : FnScope ["thing", "triple", "k"] ["thing"] (defScope sNumber) := ⟨rfl, rfl, rfl, by decide +kernel, rfl, by decide +kernel, by decide +kernel⟩
theorem ok_number {f f1 : Addr} {fd d1 : FuncData} (F : Fun K "is_number" "is_number" sNumber f fd) (T : Bt mg) (A1 : Kn P w K mg base 4 "is_triple" ["thing"] spTriple f1 d1) : FnOk P w K mg base CX0 5 f fd ["thing"] spNumber := by
  refine F.ok scNumber (fun vs H Q E h => ?_) (fun cdv A outer s H vs Q E hr h => ?_)
  · obtain ⟨v, d, rfl, _⟩ := h
    rfl
  · obtain ⟨v, d, rfl, hd, sh, k⟩ := h
    refine ⟨_, pss_cons (ps_if (pt_not (pt_val (pe_callB call_isi (by rfl) T.isi (by decide +kernel) (pa_cons (pv 0) (pa_cons (pe_bltn (v := .ty "tuple") (by rfl) T.tuple (by decide +kernel) rfl) pa_nil))))) (pss_one (ps_ret pe_bl)) pss_nil)
      (pss_cons (ps_if (pt_not (pt_val (pe_callB (cr_all rfl) (by rfl) T.all (by decide +kernel) (pa_cons (pe_lc (own := [("triple", 1)]) (g := gName 1) (tt := tYes) rfl scNumber.nd (pi_tup (pv 0))
          (blkOk_by (own := [("triple", 1)]) (N := ["thing", "triple", "k"]) (sc := defScope sNumber) (by decide +kernel)) (fun _ _ _ _ _ => pg_name (i := 1) scNumber.nd rfl (Or.inl rfl)) (fun _ _ _ _ _ => pts_nil)
          (fun _ _ _ _ _ => pe_call A1.ok hr rfl A1.mg A1.kp A1.bd .nil pass0 (pa_cons (pv 1) pa_nil))) pa_nil)))) (pss_one (ps_ret pe_bl)) pss_nil)
      (pss_one (ps_ret (pe_callB (cr_all rfl) (by rfl) T.all (by decide +kernel) (pa_cons (pe_lc (own := [("k", 2)]) (g := gName 2) (tt := tYes) rfl scNumber.nd (pi_range1 rfl T.range (pa_cons (pe_op op_sub (pe_callB call_len (by rfl) T.len PySem.boot_len (pa_cons (pv 0) pa_nil)) pe_int) pa_nil))
          (blkOk_by (own := [("k", 2)]) (N := ["thing", "triple", "k"]) (sc := defScope sNumber) (by decide +kernel)) (fun _ _ _ _ _ => pg_name (i := 2) scNumber.nd rfl (Or.inl rfl)) (fun _ _ _ _ _ => pts_nil)
          (fun _ _ _ _ _ => pe_cmpR op_lt (pe_ix (r := rIx K) ix_seq (pe_ix (r := rIx K) ix_seq (pv 0) (pv 2) (fun _ _ => rfl)) pe_int (fun _ _ => rfl))
            (pe_ix (r := rIx K) ix_seq (pe_ix (r := rIx K) ix_seq (pv 0) (pe_op op_add (pv 2) pe_int) (fun _ _ => rfl)) pe_int (fun _ _ => rfl)) (nomark _))) pa_nil))))), ?_⟩
    refine ⟨_, rfl, v, .ty "tuple", _, _, _, rfl, .ty _, dn_ty hd, kit_ty (kit_t d), _, rfl, ?_⟩
    cases et : isTp d with
    | false =>
      refine iteT ?_
      refine k false H ⟨fun z => (by cases z), fun ⟨ds, e, _⟩ => ?_⟩ (Same.refl _)
      rw [e] at et; cases et
    | true =>
      refine iteF ?_
      obtain ⟨a, xs, ds, rfl, rfl, ea, ra⟩ := dn_tup hd et
      have hl := sh ds rfl
      refine ⟨_, rfl, a, rfl, ⟨_, SqT.of ea⟩, fun D hD => lc_tup (K := K) (a := a) (xs := xs) (fun i H' => ∃ bs : List Bool, H' D = some (.lst (bs.map V.bl)) ∧ bs.length = i ∧ (bs.all id = true ↔ ∀ j, j < i → ∀ d, ds[j]? = some d → TP d) ∧ Same H H')
        ⟨[], upd_same, rfl, by simp, snew hD⟩ (fun i H' _ ⟨_, _, _, _, s'⟩ => SqT.of (s' _ _ ea)) ?_ ?_⟩
      · rintro i x H' hx ⟨bs, e1, e2, e3, s'⟩
        obtain ⟨d, ed, dn⟩ := ra.at_ hx
        have il : i < ds.length := (List.getElem?_eq_some_iff.mp ed).1
        refine ⟨rfl, ?_⟩
        refine ⟨_, rfl, x, d, rfl, Dn.mono s' d x dn, fun b H2 hb s2 => ?_⟩
        refine ⟨_, s2 _ _ e1, by rw [List.length_map]; exact small_m (by omega), bs ++ [b], by rw [List.map_append, upd_same]; rfl, by rw [List.length_append, e2]; rfl, ?_, fun c o e => ?_⟩
        · refine all_step (p := fun j => ∀ d, ds[j]? = some d → TP d) e3 ?_
          rw [hb]
          exact ⟨fun h d' e' => by rw [ed] at e'; cases e'; exact h, fun h => h d ed⟩
        · rw [upd_ne (ne_of_none e hD)]
          exact s2 _ _ (s' _ _ e)
      · rintro H1 ⟨bs, e1, e2, e3, s1⟩
        refine ⟨D, bs, rfl, SqL.of e1, _, rfl, ?_⟩
        rw [ra.length] at e3
        have e3' : bs.all id = true ↔ ∀ x ∈ ds, TP x := e3.trans ⟨fun h x hx => by
          obtain ⟨j, hj, ej⟩ := List.mem_iff_getElem.mp hx
          exact h j hj x (by rw [List.getElem?_eq_getElem hj, ej]), fun h j _ d ed => h d (List.mem_of_getElem? ed)⟩
        cases eb : bs.all id with
        | false =>
          refine iteT ?_
          refine k false H1 ⟨fun z => (by cases z), fun ⟨ds', e, h, _⟩ => ?_⟩ s1
          cases e
          rw [e3'.mpr h] at eb; cases eb
        | true =>
          refine iteF ?_
          have tp := e3'.mp eb
          refine ⟨_, rfl, .ref a, xs.length, rfl, .inr ⟨xs, SqT.of (s1 _ _ ea), rfl⟩, _, _, rfl, rfl, _, rfl, by rw [ra.length]; omega, by rw [ra.length]; omega, fun D2 hD2 => ?_⟩
          have en : ((xs.length : Int) - 1).toNat = ds.length - 1 := by rw [ra.length]; omega
          rw [en]
          refine lc_range (lo := 0) (n := ds.length - 1) (fun i H' => ∃ cs : List Bool, H' D2 = some (.lst (cs.map V.bl)) ∧ cs.length = i ∧ (cs.all id = true ↔ ∀ j, j < i → ∀ x y, ds[j]? = some x → ds[j + 1]? = some y → hdI x < hdI y) ∧ Same H1 H')
            ⟨[], upd_same, rfl, by simp, snew hD2⟩ ?_ ?_
          · rintro i H' hi ⟨cs, c1, c2, c3, s'⟩
            have i1 : i < ds.length := by omega
            have i2 : i + 1 < ds.length := by omega
            obtain ⟨x1, ex1, dn1⟩ := dn_at ra (List.getElem?_eq_getElem i1)
            obtain ⟨x2, ex2, dn2⟩ := dn_at ra (List.getElem?_eq_getElem i2)
            obtain ⟨q1, a1, b1, c1', rfl, ed1, h1⟩ := tp_shape dn1 (tp _ (List.getElem_mem i1))
            obtain ⟨q2, a2, b2, c2', rfl, ed2, h2⟩ := tp_shape dn2 (tp _ (List.getElem_mem i2))
            have s0 := s1.trans s'
            refine ⟨rfl, ?_⟩
            refine ⟨_, rfl, _, rfl, .inr (.inl ⟨a, xs, _, _, rfl, rfl, SqT.of (s0 _ _ ea), by rw [Int.zero_add]; exact atI_nat ex1, ?_⟩)⟩
            refine .inr (.inl ⟨q1, _, _, _, rfl, rfl, SqT.of (s0 _ _ h1), rfl, ?_⟩)
            refine ⟨_, rfl, _, rfl, _, _, rfl, rfl, .inr (.inl ⟨a, xs, _, _, rfl, rfl, SqT.of (s0 _ _ ea), by rw [Int.zero_add, show ((i : Int) + 1) = ((i + 1 : Nat) : Int) by omega]; exact atI_nat ex2, ?_⟩)⟩
            refine .inr (.inl ⟨q2, _, _, _, rfl, rfl, SqT.of (s0 _ _ h2), rfl, _, _, rfl, rfl, ?_⟩)
            refine ⟨_, c1, by rw [List.length_map]; exact small_m (by omega), cs ++ [decide (a1 < a2)], by rw [List.map_append, upd_same]; rfl, by rw [List.length_append, c2]; rfl, ?_, fun c o e => ?_⟩
            · refine all_step (p := fun j => ∀ x y, ds[j]? = some x → ds[j + 1]? = some y → hdI x < hdI y) c3 ?_
              rw [decide_eq_true_iff, List.getElem?_eq_getElem i1, List.getElem?_eq_getElem i2, ed1, ed2]
              exact ⟨fun h x y e e' => by cases e; cases e'; exact h, fun h => h _ _ rfl rfl⟩
            · rw [upd_ne (ne_of_none e hD2)]
              exact s' _ _ e
          · rintro H2 ⟨cs, c1, c2, c3, s2⟩
            refine ⟨D2, cs, rfl, SqL.of c1, ?_⟩
            refine k _ H2 ?_ (s1.trans s2)
            rw [c3]
            constructor
            · intro h
              refine ⟨ds, rfl, tp, fun i x y ex ey => h i ?_ x y ex ey⟩
              have := (List.getElem?_eq_some_iff.mp ey).1
              omega
            · rintro ⟨ds', e, _, h⟩ j _ x y ex ey
              cases e
              exact h j x y ex ey
end
end N3

namespace N3
open PySem PySem.Spec PyProof.Rows L2 N2
/-- the error's class BadNumber, its __init__ -/
structure BnC (P : Program) (w : World) (K : PySem.W.Frag) (mg : Str → Option Value) (base : Heap) (x : Str) (S C fI : Addr) (fd : FuncData) : Prop where
  M : SlM K C S fI
  ok : FnOk P w K mg base CX0 2 fI fd ["self", "thing"] (spSet K)
  nm : mg x = some (.ref C)
  b1 : ∀ u, SlBnd K fd [u] [] u
abbrev Bn (P : Program) (w : World) (K : PySem.W.Frag) (mg : Str → Option Value) (base : Heap) (S C fI : Addr) (fd : FuncData) : Prop := BnC P w K mg base "BadNumber" S C fI fd
def Air (H : Hp) (E : XK) (C : Addr) (v : V) : Prop := ∀ (dx : Addr) (H' : Hp), H dx = none → H' dx = some (.xd [("thing", v)]) → Same H H' → E (.ref C) (some dx) H'
theorem Air.later {H H1 : Hp} {E : XK} {C : Addr} {v : V} (a : Air H E C v) (s : Same H H1) : Air H1 E C v := fun dx H' h1 h2 h3 => a dx H' (s.free h1) h2 (s.trans h3)
/-- a def that may raise, as callers know it -/
structure KnX (P : Program) (w : World) (K : PySem.W.Frag) (mg : Str → Option Value) (base : Heap) (k : Nat) (x : Str) (ps : List Str) (sp : Sp) (f : Addr) (fd : FuncData) : Prop where
  ok : FnOk P w K mg base (L2.CX P w) k f fd ps sp
  mg : mg x = some (.ref f)
  kp : PySem.W.keepIn K (.ref f) = true
  bd : Binds K fd ps []
/-- a promise where nothing may be raised -/
def quiet (sp : Sp) : Sp := fun vs H Q _ => sp vs H Q (fun _ _ _ => False)
theorem _root_.L2.FnOk.hush {P : Program} {w : World} {K : PySem.W.Frag} {mg : Str → Option Value} {base : Heap} {k : Nat} {f : Addr} {fd : FuncData} {ps : List Str} {sp : Sp} (F : FnOk P w K mg base (L2.CX P w) k f fd ps sp) : FnOk P w K mg base CX0 k f fd ps (quiet sp) :=
  ⟨fun vs H Q E h => F.len vs H Q _ h, fun A outer s H args us vs Q E hr e0 hb hv h => codeAny_mono (F.run A outer s H args us vs Q _ hr e0 hb hv h) fun r s' hq => by
    cases r with
    | error e =>
      obtain ⟨_, _, _, _, _, _, _, _, _, _, _, _, z⟩ := hq
      exact z.elim
    | ok fl => cases fl <;> exact hq⟩
theorem KnX.hush {P : Program} {w : World} {K : PySem.W.Frag} {mg : Str → Option Value} {base : Heap} {k : Nat} {x : Str} {ps : List Str} {sp : Sp} {f : Addr} {fd : FuncData} (A : KnX P w K mg base k x ps sp f fd) : Kn P w K mg base k x ps (quiet sp) f fd := ⟨A.ok.hush, A.mg, A.kp, A.bd⟩
end N3

namespace N3
open PySem PySem.Spec PyProof.Rows L2
def FP (d : PyData) : Prop := NP d ∧ ∃ ds, d = .tuple ds ∧ (ds.length = 0 ∨ (ds.length = 1 ∧ ∀ x, ds[0]? = some x → hdI x = 1))
def spFraction : Sp := fun vs H Q _ => ∃ (v : V) (d : PyData), vs = [v] ∧ Dn H v d ∧ Short d ∧ ∀ (b : Bool) (H' : Hp), (b = true ↔ FP d) → Same H H' → Q (.bl b) H'
def spCheck (C : Addr) : Sp := fun vs H Q E => ∃ (v : V) (d : PyData), vs = [v] ∧ Dn H v d ∧ Short d ∧ (NP d → ∀ H', Same H H' → Q .non H') ∧ (¬ NP d → Air H E C v)
def intOf : List PyData → PyData
  | [] => .int 0
  | [.tuple [.int a, .int b, .int c]] => if a = 1 ∧ c = 1 then .int b else .none
  | _ => .none
def spIntOf (C : Addr) : Sp := fun vs H Q E => ∃ (v : V) (d : PyData), vs = [v] ∧ Dn H v d ∧ Short d ∧ (∀ ds, d = .tuple ds → NP d → ∀ r H', Dn H' r (intOf ds) → Same H H' → Q r H') ∧ (¬ NP d → Air H E C v)
theorem np_dp {K : PySem.W.Frag} {H : Hp} : ∀ {xs : List V} {ds : List PyData}, DnAll H xs ds → (∀ x ∈ ds, TP x) → DpAll K H xs ds
  | _, _, .nil, _ => .nil
  | _, _, .cons (v := v) (d := d) h r, t => by
    obtain ⟨p, a, b, c, e1, e2, e3⟩ := tp_shape h (t _ List.mem_cons_self)
    rw [e1, e2]
    exact .cons (.tup (SqT.of e3) (.cons (.int a) (.cons (.int b) (.cons (.int c) .nil)))) (np_dp r fun x hx => t x (List.mem_cons_of_mem _ hx))
theorem np_lay : ∀ {ds : List PyData}, (∀ x ∈ ds, TP x) → PyData.canLayAll0 ds = true ∧ PyData.depthAll ds ≤ 1
  | [], _ => by simp [PyData.canLayAll0, PyData.depthAll]
  | d :: ds, t => by
    obtain ⟨a, b, c, e, _⟩ := t d List.mem_cons_self
    obtain ⟨h1, h2⟩ := np_lay (ds := ds) fun x hx => t x (List.mem_cons_of_mem _ hx)
    subst e
    refine ⟨by simp [PyData.canLayAll0, PyData.canLay0, h1], ?_⟩
    simp only [PyData.depthAll, PyData.depth]
    omega
theorem np_shaped {ds : List PyData} (t : ∀ x ∈ ds, TP x) : SeqAt.shaped (.tuple ds) = true := by
  obtain ⟨h1, h2⟩ := np_lay t
  show (PyData.canLay0 (.tuple ds) && decide (PyData.depth (.tuple ds) ≤ 64)) = true
  rw [Bool.and_eq_true]
  exact ⟨by simp only [PyData.canLay0]; exact h1, decide_eq_true (by simp only [PyData.depth]; omega)⟩
theorem eqv_nil_t (ds : List PyData) : PyData.eqv (.tuple ds) (.tuple []) = ds.isEmpty := by
  cases ds <;> simp [PyData.eqv, PyData.eqvAll]
section
variable {P : Program} {w : World} {K : PySem.W.Frag} {mg : Str → Option Value} {base : Heap}
theorem scFraction : FnScope ["thing"] ["thing"] (defScope sFraction) := ⟨rfl, rfl, rfl, by decide +kernel, rfl, by decide +kernel, by decide +kernel⟩
theorem dec_len {n : Nat} {k : Nat} : decide (V.int (n : Int) = V.int (k : Int)) = decide (n = k) := decide_eq_decide.mpr ⟨fun h => by have := V.int.inj h; omega, fun h => by rw [h]⟩
theorem ok_fraction {f f1 : Addr} {fd d1 : FuncData} (F : Fun K "is_fraction" "is_fraction" sFraction f fd) (T : Bt mg) (A1 : Kn P w K mg base 5 "is_number" ["thing"] spNumber f1 d1) : FnOk P w K mg base CX0 6 f fd ["thing"] spFraction := by
  refine F.ok scFraction (fun vs H Q E h => ?_) (fun cdv A outer s H vs Q E hr h => ?_)
  · obtain ⟨v, d, rfl, _⟩ := h
    rfl
  · obtain ⟨v, d, rfl, hd, sh, k⟩ := h
    refine ⟨_, pss_one (ps_ret (pe_and (pe_call A1.ok hr rfl A1.mg A1.kp A1.bd .nil pass0 (pa_cons (pv 0) pa_nil)) (pe_one (pe_or (pe_cmpR op_eq (pe_callB call_len (by rfl) T.len PySem.boot_len (pa_cons (pv 0) pa_nil)) pe_int (nomark _))
      (pe_one (pe_and (pe_cmpR op_eq (pe_callB call_len (by rfl) T.len PySem.boot_len (pa_cons (pv 0) pa_nil)) pe_int (nomark _)) (pe_one (pe_cmpR op_eq (pe_ix (r := rIx K) ix_seq (pe_ix (r := rIx K) ix_seq (pv 0) pe_int (fun _ _ => rfl)) pe_int (fun _ _ => rfl)) pe_int (nomark _))))))))), ?_⟩
    refine ⟨_, rfl, v, d, rfl, hd, sh, fun b H1 hb s1 => ⟨_, rfl, ite_b (fun e => ?_) (fun e => ?_)⟩⟩
    · obtain ⟨ds, rfl, tp, asc⟩ := hb.mp e
      have np := hb.mp e
      obtain ⟨a, xs, ds', rfl, e2, ea, ra⟩ := dn_tup hd rfl
      cases e2
      have ll : ∀ j : Nat, decide (V.int (xs.length : Int) = V.int (j : Int)) = decide (ds.length = j) := fun j => by rw [dec_len, ra.length]
      refine ⟨_, rfl, .ref a, xs.length, rfl, .inr ⟨xs, SqT.of (s1 _ _ ea), rfl⟩, rfl, _, rfl, ite_b (fun e3 => ?_) (fun e3 => ?_)⟩
      · have z : ds.length = 0 := of_decide_eq_true ((ll 0).symm.trans e3)
        exact k true H1 ⟨fun _ => ⟨np, ds, rfl, .inl z⟩, fun _ => rfl⟩ s1
      · have z : ds.length ≠ 0 := of_decide_eq_false ((ll 0).symm.trans e3)
        refine ⟨_, rfl, .ref a, xs.length, rfl, .inr ⟨xs, SqT.of (s1 _ _ ea), rfl⟩, rfl, _, rfl, ite_b (fun e4 => ?_) (fun e4 => ?_)⟩
        · have z1 : ds.length = 1 := of_decide_eq_true ((ll 1).symm.trans e4)
          obtain ⟨x1, ex1, dn1⟩ := dn_at ra (List.getElem?_eq_getElem (show 0 < ds.length by omega))
          obtain ⟨q1, a1, b1, c1, rfl, ed1, h1⟩ := tp_shape dn1 (tp _ (List.getElem_mem (by omega)))
          refine ⟨_, rfl, .inr (.inl ⟨a, xs, _, _, rfl, rfl, SqT.of (s1 _ _ ea), atI_nat ex1, ?_⟩)⟩
          refine .inr (.inl ⟨q1, _, _, _, rfl, rfl, SqT.of (s1 _ _ h1), rfl, rfl, ?_⟩)
          refine k _ H1 ?_ s1
          rw [decide_eq_true_iff]
          constructor
          · intro h
            refine ⟨np, ds, rfl, .inr ⟨z1, fun x hx => ?_⟩⟩
            rw [List.getElem?_eq_getElem (by omega), ed1] at hx
            cases hx
            exact V.int.inj h
          · rintro ⟨_, ds2, e5, h⟩
            cases e5
            rcases h with h | ⟨_, h⟩
            · exact absurd h z
            · have := h _ (by rw [List.getElem?_eq_getElem (by omega), ed1])
              exact congrArg V.int this
        · have z1 : ds.length ≠ 1 := of_decide_eq_false ((ll 1).symm.trans e4)
          refine k false H1 ⟨fun y => (by cases y), fun ⟨_, ds2, e5, h⟩ => ?_⟩ s1
          cases e5
          exact h.elim (fun q => absurd q z) (fun q => absurd q.1 z1)
    · refine k false H1 ⟨fun y => (by cases y), fun h => ?_⟩ s1
      rw [hb.mpr h.1] at e; cases e
/-- the program's whole_number of a number -/
def spWhole : Sp := fun vs H Q _ => ∃ (v : V) (d : PyData), vs = [v] ∧ Dn H v d ∧ NP d ∧ ∀ ds, d = .tuple ds → ∀ r H', Dn H' r (intOf ds) → Same H H' → Q r H'
end
end N3

namespace N3
open PySem PySem.Spec PyProof.Rows L2
abbrev sDeck : Stmt := top 48
abbrev sDraw : Stmt := top 49
abbrev sGreat : Stmt := top 50
abbrev sPick : Stmt := top 51
abbrev sNear : Stmt := top 52
abbrev sCommon : Stmt := top 53
abbrev sNum : Stmt := top 54
abbrev sLaw : Stmt := top 71
def dkv (x y z : V) : List (Key × V) := [(Sum.inr "left", x), (Sum.inr "mixed", y), (Sum.inr "draws", z)]
/-- a deck stands at dk, its list at l -/
def Deck (H : Hp) (dk l : Addr) : Prop := ∃ (ns : List Int) (m j : Int), H dk = some (.dK (dkv (.ref l) (.int m) (.int j))) ∧ H l = some (.lst (ns.map V.int)) ∧ ns.length ≤ 63
def Keep (dk l : Addr) (H H' : Hp) : Prop := ∀ b o, H b = some o → b ≠ dk → b ≠ l → H' b = some o
theorem Keep.of {dk l : Addr} {H H' : Hp} (h : Same H H') : Keep dk l H H' := fun b o e _ _ => h b o e
theorem Keep.trans {dk l : Addr} {H H1 H2 : Hp} (h : Keep dk l H H1) (k : Keep dk l H1 H2) : Keep dk l H H2 := fun b o e h1 h2 => k b o (h b o e h1 h2) h1 h2
theorem Deck.same {H H' : Hp} {dk l : Addr} (D : Deck H dk l) (h : Same H H') : Deck H' dk l := by
  obtain ⟨ns, m, j, h1, h2, h3⟩ := D
  exact ⟨ns, m, j, h _ _ h1, h _ _ h2, h3⟩
theorem Deck.ne {H : Hp} {dk l : Addr} (D : Deck H dk l) : dk ≠ l := by
  obtain ⟨ns, m, j, h1, h2, h3⟩ := D
  exact ne_of h1 h2 (by intro z; cases z)
theorem map_get {ns : List Int} {i : Nat} {y : V} (h : (ns.map V.int)[i]? = some y) : ∃ z : Int, ns[i]? = some z ∧ y = .int z := by
  rw [List.getElem?_map] at h
  cases e : ns[i]? with
  | none => rw [e] at h; cases h
  | some z => rw [e] at h; exact ⟨z, rfl, (Option.some.inj h).symm⟩
theorem cut_ints (ns : List Int) (lo hi : Option Int) : ∃ ms : List Int, cutV (ns.map V.int) lo hi = ms.map V.int ∧ ms.length ≤ ns.length := by
  unfold cutV
  refine ⟨(ns.drop (HT.sIx (ns.map V.int).length 0 lo)).take (HT.sIx (ns.map V.int).length (ns.map V.int).length hi - HT.sIx (ns.map V.int).length 0 lo), ?_, ?_⟩
  · rw [List.map_take, List.map_drop]
  · rw [List.length_take, List.length_drop]; omega
theorem kLM : ¬ (("left" : Str) = "mixed") := by decide +kernel
theorem kLD : ¬ (("left" : Str) = "draws") := by decide +kernel
theorem kMD : ¬ (("mixed" : Str) = "draws") := by decide +kernel
theorem deck3 (x y z : V) : mergeK [] (dkv x y z) = dkv x y z := by
  have h1 := kLM
  have h2 := kLD
  have h3 := kMD
  simp [mergeK, putK, dkv, h1, h2, h3]
def spDeck (K : PySem.W.Frag) : Sp := fun vs H Q _ => ∃ (a : Addr) (ns : List Int) (seed : Int), vs = [.ref a, .int seed] ∧ SqL K H a (ns.map V.int) ∧ ns.length ≤ 63 ∧
  ∀ (H' : Hp) (dk l : Addr), Deck H' dk l → Same H H' → H dk = none → H l = none → Q (.ref dk) H'
section
variable {P : Program} {w : World} {K : PySem.W.Frag} {mg : Str → Option Value} {base : Heap}
theorem scDeck : FnScope ["script", "seed", "mixed", "cell"] ["script", "seed"] (defScope sDeck) := ⟨rfl, rfl, rfl, by decide +kernel, rfl, by decide +kernel, by decide +kernel⟩
theorem ok_deck {f : Addr} {fd : FuncData} (F : Fun K "_law_deck" "_law_deck" sDeck f fd) (T : Bt mg) : FnOk P w K mg base CX0 1 f fd ["script", "seed"] (spDeck K) := by
  refine F.ok scDeck (fun vs H Q E h => ?_) (fun cdv A outer s H vs Q E hr h => ?_)
  · obtain ⟨a, ns, seed, rfl, _⟩ := h
    rfl
  · obtain ⟨a, ns, seed, rfl, hS, hl, k⟩ := h
    refine ⟨_, pss_cons (ps_set (i := 2) scDeck.nd rfl (Or.inl rfl) (pv 1))
      (pss_cons (ps_for PassesOwn.never rfl (pi_list (pe_slice sl_list (pv 0) po_none (po_some pe_int))) (pg_name (i := 3) scDeck.nd rfl (Or.inl rfl))
        (pss_one (ps_set (i := 2) scDeck.nd rfl (Or.inl rfl) (pe_op op_mod (pe_callTy call_int1 (by rfl) T.int (by decide +kernel) (pa_cons
          (pe_op op_add (pe_op op_add (pe_op op_mul (pv 2) pe_int) (pe_op op_mod (pe_callTy call_int1 (by rfl) T.int (by decide +kernel) (pa_cons (pv 3) pa_nil)) pe_int)) pe_int) pa_nil)) pe_int))))
      (pss_one (ps_ret (pe_disp (pps_cons pe_str (pe_revL (pe_callTy call_list_of (by rfl) T.list (by decide +kernel) (pa_cons (pe_slice sl_list (pv 0) po_none (po_some pe_int)) pa_nil)))
        (pps_cons pe_str (pv 2) (pps_cons pe_str pe_int pps_nil))) (by rfl) (by rfl) (fun z => by cases z) (by decide))))), ?_⟩
    obtain ⟨ms, em, hm⟩ := cut_ints ns none (some 63)
    refine ⟨_, rfl, _, rfl, _, rfl, a, _, rfl, hS, fun p hp => ⟨p, rfl, ⟨_, SqL.of upd_same⟩, ?_⟩⟩
    rw [em]
    refine for_list (K := K) (a := p) (xs := ms.map V.int) (fun i σ H' => ∃ (m : Int) (v : Option V), σ = [some (.ref a), some (.int seed), some (.int m), v] ∧ H' = upd H p (.lst (ms.map V.int)))
      ⟨seed, none, rfl, rfl⟩ (fun i σ H' _ ⟨_, _, _, e⟩ => by rw [e]; exact SqL.of upd_same) ?_ ?_
    · rintro i y σ H' hi ⟨m, v, rfl, rfl⟩
      obtain ⟨z, hz, rfl⟩ := map_get hi
      refine ⟨_, rfl, _, _, rfl, rfl, .inr ⟨by decide, by decide⟩, ?_⟩
      refine ⟨_, rfl, .inl ⟨_, rfl, ?_⟩⟩
      refine ⟨_, _, rfl, rfl, (by show (0 : Int) < 2147483647; decide), ?_⟩
      refine ⟨_, _, rfl, rfl, _, _, rfl, rfl, .inl ⟨_, rfl, ?_⟩⟩
      exact ⟨_, _, rfl, rfl, (by show (0 : Int) < 2147483563; decide), _, _, rfl, rfl⟩
    · rintro σ H' ⟨m, v, rfl, rfl⟩
      have s1 : Same H (upd H p (.lst (ms.map V.int))) := snew hp
      intro d hd
      refine ⟨_, rfl, _, rfl, a, ns.map V.int, rfl, (s1.trans (snew hd)).seq hS, fun p2 hp2 => ?_⟩
      refine ⟨p2, _, rfl, .inl (SqL.of upd_same), fun p3 hp3 => ?_⟩
      refine ⟨p3, _, rfl, SqL.of upd_same, fun p4 hp4 => ?_⟩
      have f3 := (snew hp3).free hp4
      have f2 := (snew hp2).free f3
      have s4 : Same (upd (upd H p (.lst (ms.map V.int))) d (.dK [])) _ := ((snew hp2).trans (snew hp3)).trans (snew (o := .lst (cutV (ns.map V.int) none (some 63)).reverse) hp4)
      rw [em] at s4 ⊢
      have nd4 : d ≠ p4 := ne_of_none upd_same f2
      refine ⟨_, rfl, s4 _ _ upd_same, dkv (.ref p4) (.int m) (.int 0), rfl, (by show 3 ≤ 15; decide), ?_⟩
      have e4 := deck3 (.ref p4) (.int m) (.int 0)
      refine k _ d p4 ⟨ms.reverse, m, 0, ?_, ?_, ?_⟩ ?_ (s1.free hd) (s1.free ((snew hd).free f2))
      · exact upd_same.trans (congrArg (fun l => some (HO.dK l)) e4)
      · rw [upd_ne nd4.symm, List.map_reverse]; exact upd_same
      · rw [List.length_reverse]; omega
      · intro b o e
        have e1 := s1 b o e
        rw [upd_ne (ne_of_none e1 hd)]
        exact s4 _ _ (snew hd _ _ e1)
end
theorem val_left (x y z : V) : valV (dkv x y z) (Sum.inr "left" : Key) = some x := valV_pos rfl
theorem val_mixed (x y z : V) : valV (dkv x y z) (Sum.inr "mixed" : Key) = some y := by
  unfold dkv
  rw [valV_neg (by show ¬ (Sum.inr ("left" : Str) : Key) = Sum.inr ("mixed" : Str); exact fun e => kLM (Sum.inr.inj e)), valV_pos rfl]
theorem val_draws (x y z : V) : valV (dkv x y z) (Sum.inr "draws" : Key) = some z := by
  unfold dkv
  rw [valV_neg (by show ¬ (Sum.inr ("left" : Str) : Key) = Sum.inr ("draws" : Str); exact fun e => kLD (Sum.inr.inj e)),
    valV_neg (by show ¬ (Sum.inr ("mixed" : Str) : Key) = Sum.inr ("draws" : Str); exact fun e => kMD (Sum.inr.inj e)), valV_pos rfl]
theorem put_draws (x y z v : V) : putK (dkv x y z) (Sum.inr "draws" : Key) v = dkv x y v := by
  have h1 := kLD
  have h2 := kMD
  simp [putK, dkv, h1, h2]
theorem put_mixed (x y z v : V) : putK (dkv x y z) (Sum.inr "mixed" : Key) v = dkv x v z := by
  have h1 := kLM
  have h2 : ¬ (("draws" : Str) = "mixed") := fun e => kMD e.symm
  simp [putK, dkv, h1, h2]
theorem dk_get {H : Hp} {d : Addr} {x y z : V} {k : Str} {v : V} (h : H d = some (.dK (dkv x y z))) (e : valV (dkv x y z) (Sum.inr k : Key) = some v) : DGet H d (.str k) (some v) := by
  rw [← e]
  exact DGet.k (k := Sum.inr k) h
theorem dk_put {H : Hp} {d : Addr} {x y z : V} {k : Str} {v : V} {l : List (Key × V)} (h : H d = some (.dK (dkv x y z))) (e : putK (dkv x y z) (Sum.inr k : Key) v = l) : DPut H d (.str k) v (upd H d (.dK l)) := by
  rw [← e]
  exact DPut.k (k := Sum.inr k) h (by show 3 < sizeLine; rw [sizeLine_eq]; decide)
theorem ints_lay : ∀ ns : List Int, PyData.canLayAll0 (ns.map PyData.int) = true
  | [] => by simp [PyData.canLayAll0]
  | z :: zs => by simp [PyData.canLayAll0, PyData.canLay0, ints_lay zs]
theorem ints_deep : ∀ ns : List Int, PyData.depthAll (ns.map PyData.int) = 0
  | [] => by simp [PyData.depthAll]
  | z :: zs => by simp [PyData.depthAll, PyData.depth, ints_deep zs]
theorem ints_shaped (ns : List Int) : SeqAt.shaped (.list (ns.map PyData.int)) = true := by
  have h1 := ints_deep ns
  show (PyData.canLay0 (.list (ns.map PyData.int)) && decide (PyData.depth (.list (ns.map PyData.int)) ≤ 64)) = true
  rw [Bool.and_eq_true]
  exact ⟨by simp only [PyData.canLay0]; exact ints_lay ns, decide_eq_true (by simp only [PyData.depth]; omega)⟩
theorem nil_shaped : SeqAt.shaped (.list []) = true := ints_shaped []
theorem eqv_nil (ds : List PyData) : PyData.eqv (.list ds) (.list []) = ds.isEmpty := by
  cases ds <;> simp [PyData.eqv, PyData.eqvAll]
theorem ints_dp {K : PySem.W.Frag} {H : Hp} : ∀ ns : List Int, DpAll K H (ns.map V.int) (ns.map PyData.int)
  | [] => .nil
  | z :: zs => .cons (.int z) (ints_dp zs)
/-- a draw: some number below many; the deck alone changes -/
def spDraw : Sp := fun vs H Q _ => ∃ (dk l : Addr) (many : Int), vs = [.ref dk, .int many] ∧ Deck H dk l ∧ 0 < many ∧ many < 1073741824 ∧
  ∀ (r : Int) (H' : Hp), 0 ≤ r → r < many → Deck H' dk l → Keep dk l H H' → Q (.int r) H'
section
variable {P : Program} {w : World} {K : PySem.W.Frag} {mg : Str → Option Value} {base : Heap}
theorem scDraw : FnScope ["deck", "many", "cell", "figure"] ["deck", "many"] (defScope sDraw) := ⟨rfl, rfl, rfl, by decide +kernel, rfl, by decide +kernel, by decide +kernel⟩
theorem ok_draw {f : Addr} {fd : FuncData} (F : Fun K "_law_draw" "_law_draw" sDraw f fd) (T : Bt mg) : FnOk P w K mg base CX0 1 f fd ["deck", "many"] spDraw := by
  refine F.ok scDraw (fun vs H Q E h => ?_) (fun cdv A outer s H vs Q E hr h => ?_)
  · obtain ⟨dk, l, many, rfl, _⟩ := h
    rfl
  · obtain ⟨dk, l, many, rfl, D, m0, m1, k⟩ := h
    have hu := hu_of hr
    refine ⟨_, pss_cons (ps_dput hu (pv 0) pe_str (pe_op op_add (pe_dget hu (pv 0) pe_str (fun _ _ => rfl)) pe_int) rfl)
      (C8.pss_cut (ps_if (pt_cmpR (op_neD hr.units) (pe_dget hu (pv 0) pe_str (fun _ _ => rfl)) (pe_lst pa_nil) (nomark _))
        (pss_cons (ps_set (i := 2) scDraw.nd rfl (Or.inl rfl) (pe_bm0 PySem.F.plainAttrs_list PySem.F.slot_list_pop PySem.F.type_list_pop mt_pop (pe_dget hu (pv 0) pe_str (fun _ _ => rfl))))
        (pss_cons (ps_if (pt_cmpR op_ge (pv 2) (pe_op op_pow pe_int pe_int) (nomark _))
          (pss_cons (ps_expr (pe_bm PySem.F.plainAttrs_list PySem.F.slot_list_append PySem.F.type_list_append mt_append (pe_dget hu (pv 0) pe_str (fun _ _ => rfl))
            (pa_cons (pe_op op_fdiv (pv 2) (pe_callB (call_max2 rfl) (by rfl) T.max (by decide +kernel) (pa_cons pe_int (pa_cons (pv 1) pa_nil)))) pa_nil)))
          (pss_one (ps_ret (pe_op op_mod (pe_callTy call_int1 (by rfl) T.int (by decide +kernel) (pa_cons (pv 2) pa_nil)) (pv 1))))) pss_nil)
        (pss_one (ps_dput hu (pv 0) pe_str (pe_op op_mod (pe_callTy call_int1 (by rfl) T.int (by decide +kernel) (pa_cons
          (pe_op op_add (pe_op op_add (pe_op op_mul (pe_dget hu (pv 0) pe_str (fun _ _ => rfl)) pe_int) (pe_op op_mod (pe_callTy call_int1 (by rfl) T.int (by decide +kernel) (pa_cons (pv 2) pa_nil)) pe_int)) pe_int) pa_nil)) pe_int) rfl)))) pss_nil)
      (pss_cons (ps_set (i := 3) scDraw.nd rfl (Or.inl rfl) (pe_op op_mod (pe_callTy call_int1 (by rfl) T.int (by decide +kernel) (pa_cons
        (pe_op op_add (pe_dget hu (pv 0) pe_str (fun _ _ => rfl)) (pe_op op_mul pe_int (pe_dget hu (pv 0) pe_str (fun _ _ => rfl)))) pa_nil)) pe_int))
      (pss_cons (ps_set (i := 3) scDraw.nd rfl (Or.inl rfl) (pe_op op_mod (pe_callTy call_int1 (by rfl) T.int (by decide +kernel) (pa_cons
        (pe_op op_add (pe_op op_add (pe_op op_mul (pv 3) (pv 3)) (pe_op op_mul pe_int (pe_dget hu (pv 0) pe_str (fun _ _ => rfl)))) pe_int) pa_nil)) pe_int))
      (pss_cons (ps_set (i := 3) scDraw.nd rfl (Or.inl rfl) (pe_op op_mod (pe_callTy call_int1 (by rfl) T.int (by decide +kernel) (pa_cons
        (pe_op op_add (pe_op op_mul (pv 3) pe_int) pe_int) pa_nil)) pe_int))
      (pss_one (ps_ret (pe_op op_mod (pe_callTy call_int1 (by rfl) T.int (by decide +kernel) (pa_cons (pe_op op_fdiv (pv 3) pe_int) pa_nil)) (pv 1)))))))), ?_⟩
    obtain ⟨ns, m, j, h1, h2, h3⟩ := id D
    have ne := D.ne
    refine ⟨_, rfl, dk, _, rfl, dk_get h1 (val_draws _ _ _), _, _, rfl, rfl, _, rfl, dk, _, rfl, dk_put h1 (put_draws _ _ _ _), ?_⟩
    have g1 : (upd H dk (.dK (dkv (.ref l) (.int m) (.int (j + 1))))) dk = some (.dK (dkv (.ref l) (.int m) (.int (j + 1)))) := upd_same
    have g2 : (upd H dk (.dK (dkv (.ref l) (.int m) (.int (j + 1))))) l = some (.lst (ns.map V.int)) := by rw [upd_ne ne.symm]; exact h2
    have kp : Keep dk l H (upd H dk (.dK (dkv (.ref l) (.int m) (.int (j + 1))))) := fun b o e hb _ => by rw [upd_ne hb]; exact e
    refine ⟨fun σ' H' => ∃ c : Option V, σ' = [some (.ref dk), some (.int many), c, none] ∧ Deck H' dk l ∧ Keep dk l H H', ?_, ?_⟩
    · refine ⟨_, rfl, dk, _, rfl, dk_get g1 (val_left _ _ _), ?_⟩
      refine ⟨(by show 0 ≤ sizeLine; exact Nat.zero_le _), fun p hp => ⟨.list (ns.map PyData.int), .list [], .lst (SqL.of ((snew hp) _ _ g2)) (ints_dp ns), .lst (SqL.of upd_same) .nil, ints_shaped ns, nil_shaped, _, rfl, ?_⟩⟩
      rw [eqv_nil]
      have sp := snew (o := .lst []) hp
      have q1 := sp _ _ g1
      have q2 := sp _ _ g2
      have kp1 := kp.trans (Keep.of sp)
      cases ns with
      | nil =>
        refine iteF ?_
        exact ⟨none, rfl, ⟨[], m, j + 1, q1, q2, h3⟩, kp1⟩
      | cons z zs =>
        refine iteT ?_
        obtain ⟨H1, eH1⟩ : ∃ H1, upd (upd H dk (.dK (dkv (.ref l) (.int m) (.int (j + 1))))) p (.lst []) = H1 := ⟨_, rfl⟩
        rw [eH1] at q1 q2 kp1
        show (tSeq _ _) _ _ (upd (upd H dk (.dK (dkv (.ref l) (.int m) (.int (j + 1))))) p (.lst []))
        rw [eH1]
        obtain ⟨y, hy⟩ : ∃ y : Int, ((z :: zs).map V.int)[((z :: zs).map V.int).length - 1]? = some (.int y) := by
          rw [List.length_map, List.getElem?_map]
          have hlt : (z :: zs).length - 1 < (z :: zs).length := by show zs.length < zs.length + 1; omega
          exact ⟨(z :: zs)[(z :: zs).length - 1], by rw [List.getElem?_eq_getElem hlt]; rfl⟩
        have hdl : ((z :: zs).map V.int).dropLast = ((z :: zs).dropLast).map V.int := by rw [List.map_dropLast]
        have hlen : ((z :: zs).dropLast).length ≤ 62 := by rw [List.length_dropLast]; omega
        refine ⟨_, rfl, dk, _, rfl, dk_get q1 (val_left _ _ _), .inl ⟨rfl, _, .inl (.inl q2)⟩, l, _, _, rfl, rfl, q2, hy, ?_⟩
        rw [hdl]
        have n1 : (upd H1 l (.lst (((z :: zs).dropLast).map V.int))) dk = some (.dK (dkv (.ref l) (.int m) (.int (j + 1)))) := by rw [upd_ne ne]; exact q1
        have kp2 : Keep dk l H (upd H1 l (.lst (((z :: zs).dropLast).map V.int))) := fun b o e hb hl => by rw [upd_ne hl]; exact kp1 b o e hb hl
        refine ⟨_, rfl, _, _, rfl, rfl, ⟨by decide, by decide, by decide⟩, _, _, rfl, rfl, _, rfl, ite2 (fun _ => ?_) (fun _ => ?_)⟩
        · refine ⟨_, rfl, dk, _, rfl, dk_get n1 (val_left _ _ _), .inl ⟨rfl, _, .inl (.inl upd_same)⟩, ?_⟩
          refine ⟨_, rfl, _, rfl, _, _, rfl, ?_⟩
          have cd : CDiv y (if many > 2 then many else 2) := by
            by_cases c : many > 2
            · rw [if_pos c]; exact ⟨m0, m1⟩
            · rw [if_neg c]; exact ⟨by decide, by decide⟩
          obtain ⟨by_, eby⟩ : ∃ b, (if many > 2 then many else 2) = b := ⟨_, rfl⟩
          rw [eby] at cd
          refine ⟨y, by_, rfl, (by rw [← eby]), cd, l, _, _, rfl, rfl, upd_same, small1000 (by rw [List.length_map]; omega), ?_⟩
          refine ⟨_, rfl, .inl ⟨_, rfl, _, rfl, _, _, rfl, rfl, m0, ?_⟩⟩
          refine k _ _ (Int.emod_nonneg _ (by omega)) (Int.emod_lt_of_pos _ m0) ⟨(z :: zs).dropLast ++ [y / by_], m, j + 1, ?_, ?_, ?_⟩ fun b o e hb hl => ?_
          · rw [upd_ne ne]; exact n1
          · rw [upd_same, List.map_append]; rfl
          · rw [List.length_append]; show _ + 1 ≤ 63; omega
          · rw [upd_ne hl]; exact kp2 b o e hb hl
        · refine ⟨_, rfl, dk, _, rfl, dk_get n1 (val_mixed _ _ _), _, _, rfl, rfl, .inr ⟨by decide, by decide⟩, ?_⟩
          refine ⟨_, rfl, .inl ⟨_, rfl, _, _, rfl, rfl, (by show (0 : Int) < 2147483629; decide), _, _, rfl, rfl, _, _, rfl, rfl, .inl ⟨_, rfl, _, _, rfl, rfl, (by show (0 : Int) < 2147483587; decide), ?_⟩⟩⟩
          refine ⟨_, rfl, dk, _, rfl, dk_put n1 (put_mixed _ _ _ _), some (.int y), rfl, ⟨(z :: zs).dropLast, _, j + 1, upd_same, ?_, by omega⟩, fun b o e hb hl => ?_⟩
          · rw [upd_ne ne.symm]; exact upd_same
          · rw [upd_ne hb]; exact kp2 b o e hb hl
    · rintro σ' H' ⟨c, rfl, ⟨ns', m', j', e1, e2, e3⟩, kp'⟩
      refine ⟨_, rfl, dk, _, rfl, dk_get e1 (val_mixed _ _ _), _, rfl, dk, _, rfl, dk_get e1 (val_draws _ _ _), _, _, rfl, rfl, .inl ⟨by decide, by decide⟩, ?_⟩
      refine ⟨_, _, rfl, rfl, .inl ⟨_, rfl, _, _, rfl, rfl, (by show (0 : Int) < 2147483647; decide), ?_⟩⟩
      have b1 := Int.emod_nonneg (m' + 31337 * j') (show (2147483647 : Int) ≠ 0 by decide)
      have b2 := Int.emod_lt_of_pos (m' + 31337 * j') (show (0 : Int) < 2147483647 by decide)
      refine ⟨_, rfl, _, rfl, _, _, rfl, rfl, .inl ⟨by omega, by omega⟩, ?_⟩
      refine ⟨_, rfl, dk, _, rfl, dk_get e1 (val_draws _ _ _), _, _, rfl, rfl, .inl ⟨by decide, by decide⟩, _, _, rfl, rfl, _, _, rfl, rfl, .inl ⟨_, rfl, _, _, rfl, rfl, (by show (0 : Int) < 2147483629; decide), ?_⟩⟩
      refine ⟨_, rfl, _, _, rfl, rfl, .inr ⟨by decide, by decide⟩, _, _, rfl, rfl, .inl ⟨_, rfl, _, _, rfl, rfl, (by show (0 : Int) < 2147483563; decide), ?_⟩⟩
      refine ⟨_, rfl, _, _, rfl, rfl, ⟨by decide, by decide⟩, .inl ⟨_, rfl, _, rfl, _, _, rfl, rfl, m0, ?_⟩⟩
      exact k _ _ (Int.emod_nonneg _ (by omega)) (Int.emod_lt_of_pos _ m0) ⟨ns', m', j', e1, e2, e3⟩ kp'
end
theorem keepL {K : PySem.W.Frag} {dk l p : Addr} {H H' : Hp} {xs : List V} (k : Keep dk l H H') (h1 : p ≠ dk) (h2 : p ≠ l) (h : SqL K H p xs) : SqL K H' p xs := by
  rcases h with (h | ⟨o, h⟩) | h
  · exact .inl (.inl (k _ _ h h1 h2))
  · exact .inl (.inr ⟨o, k _ _ h h1 h2⟩)
  · exact .inr h
/-- one item of a list, any -/
def spPick (K : PySem.W.Frag) : Sp := fun vs H Q _ => ∃ (dk l p : Addr) (xs : List V), vs = [.ref dk, .ref p] ∧ Deck H dk l ∧ SqL K H p xs ∧ p ≠ dk ∧ p ≠ l ∧ xs ≠ [] ∧ xs.length < 1073741824 ∧
  ∀ (x : V) (H' : Hp), x ∈ xs → Deck H' dk l → Keep dk l H H' → Q x H'
section
variable {P : Program} {w : World} {K : PySem.W.Frag} {mg : Str → Option Value} {base : Heap}
theorem scPick : FnScope ["deck", "some"] ["deck", "some"] (defScope sPick) := ⟨rfl, rfl, rfl, by decide +kernel, rfl, by decide +kernel, by decide +kernel⟩
theorem ok_pick {f fD : Addr} {fd fdD : FuncData} (F : Fun K "_law_pick" "_law_pick" sPick f fd) (T : Bt mg) (D : Kn P w K mg base 1 "_law_draw" ["deck", "many"] spDraw fD fdD) : FnOk P w K mg base CX0 2 f fd ["deck", "some"] (spPick K) := by
  refine F.ok scPick (fun vs H Q E h => ?_) (fun cdv A outer s H vs Q E hr h => ?_)
  · obtain ⟨dk, l, p, xs, rfl, _⟩ := h
    rfl
  · obtain ⟨dk, l, p, xs, rfl, De, hS, n1, n2, ne, hl, k⟩ := h
    refine ⟨_, pss_one (ps_ret (pe_ix ix_list (pv 1) (pe_call D.ok hr rfl D.mg D.kp D.bd .nil pass0 (pa_cons (pv 0) (pa_cons (pe_callB call_len_seq (by rfl) T.len PySem.boot_len (pa_cons (pv 1) pa_nil)) pa_nil))) (fun _ _ => rfl))), ?_⟩
    have hpos : 0 < xs.length := List.length_pos_iff.mpr ne
    refine ⟨_, rfl, _, rfl, _, rfl, p, _, rfl, .inl hS, dk, l, (xs.length : Int), rfl, De, by omega, by omega, fun r H' r0 r1 De' kp => ?_⟩
    obtain ⟨j, rfl⟩ : ∃ j : Nat, r = (j : Int) := ⟨r.toNat, by omega⟩
    have hj : j < xs.length := by omega
    exact ⟨p, xs, _, _, rfl, rfl, keepL kp n1 n2 hS, atI_nat (List.getElem?_eq_getElem hj), k _ H' (List.getElem_mem hj) De' kp⟩
end
/-- what is new since -/
def new (H H' : Hp) : Hp := fun b => if H b = none then H' b else none
theorem new_at {H H' : Hp} {b : Addr} {o : HO} (h : H b = none) (e : H' b = some o) : new H H' b = some o := by
  unfold new
  rw [if_pos h]; exact e
theorem of_new {H H' : Hp} {b : Addr} {o : HO} (e : new H H' b = some o) : H b = none ∧ H' b = some o := by
  unfold new at e
  by_cases c : H b = none
  · rw [if_pos c] at e; exact ⟨c, e⟩
  · rw [if_neg c] at e; cases e
/-- what was there is there -/
def There (H H' : Hp) : Prop := ∀ b, H' b = none → H b = none
theorem Same.there {H H' : Hp} (h : Same H H') : There H H' := fun b e => h.free e
theorem There.trans {H H1 H2 : Hp} (h : There H H1) (k : There H1 H2) : There H H2 := fun b e => h b (k b e)
theorem Keep.there {dk l : Addr} {H H' : Hp} (k : Keep dk l H H') (D' : Deck H' dk l) : There H H' := fun b e => by
  cases q : H b with
  | none => rfl
  | some o =>
    obtain ⟨ns, m, j, h1, h2, _⟩ := D'
    by_cases c1 : b = dk
    · rw [c1, h1] at e; cases e
    · by_cases c2 : b = l
      · rw [c2, h2] at e; cases e
      · rw [k b o q c1 c2] at e; cases e
theorem new_back {H0 H H' : Hp} (t : There H0 H) : Same (new H H') (new H0 H') := fun b o e => new_at (t b (of_new e).1) (of_new e).2
theorem new_on {dk l : Addr} {H0 H H' : Hp} (k : Keep dk l H H') (h1 : H0 dk ≠ none) (h2 : H0 l ≠ none) : Same (new H0 H) (new H0 H') := fun b o e => by
  obtain ⟨e1, e2⟩ := of_new e
  exact new_at e1 (k b o e2 (fun z => h1 (z ▸ e1)) (fun z => h2 (z ▸ e1)))
theorem new_upd {H0 H : Hp} {d : Addr} {o : HO} (h : H0 d ≠ none) : Same (new H0 H) (new H0 (upd H d o)) := fun b u e => by
  obtain ⟨e1, e2⟩ := of_new e
  exact new_at e1 (by rw [upd_ne (fun z => h (by rw [← z]; exact e1))]; exact e2)
theorem new_same {H0 H H' : Hp} (h : Same H H') : Same (new H0 H) (new H0 H') := fun b o e => new_at (of_new e).1 (h _ _ (of_new e).2)
theorem Deck.some1 {H : Hp} {dk l : Addr} (D : Deck H dk l) : H dk ≠ none ∧ H l ≠ none := by
  obtain ⟨ns, m, j, h1, h2, _⟩ := D
  exact ⟨(by rw [h1]; exact fun z => nomatch z), by rw [h2]; exact fun z => nomatch z⟩
end N3

namespace N3
open PySem PySem.Spec PyProof.Rows L2
theorem walk_zipT {K : PySem.W.Frag} {a b : Addr} {xs ys : List V} {n : Nat} (hn : n = min xs.length ys.length) : Walk (RZ.ItzT K a b) n (fun H => SqT K H a xs ∧ SqT K H b ys) (YPair (fun i => xs[i]?) (fun i => ys[i]?)) where
  goes := fun i H hi q => by
    have h1 : i < xs.length := by omega
    have h2 : i < ys.length := by omega
    exact ⟨xs, ys, xs[i], ys[i], q.1, q.2, List.getElem?_eq_getElem h1, List.getElem?_eq_getElem h2⟩
  stops := fun H q => ⟨xs, ys, q.1, q.2, by omega⟩
  yields := fun i H v H' hi q y => by
    obtain ⟨T, x, z, e, n1, h, f1, f2⟩ := y
    exact ⟨T, x, z, e, n1, h, f1 xs q.1, f2 ys q.2⟩
def spGreat : Sp := fun vs H Q _ => ∃ (dk l : Addr) (many : Int), vs = [.ref dk, .int many] ∧ Deck H dk l ∧ 0 < many ∧ ∀ (r : Int) (H' : Hp), 0 ≤ r → r < many → Deck H' dk l → Keep dk l H H' → Q (.int r) H'
def spNear : Sp := fun vs H Q _ => ∃ (dk l : Addr) (far : Int), vs = [.ref dk, .int far] ∧ Deck H dk l ∧ 0 ≤ far ∧ far < 1000 ∧ ∀ (r : Int) (H' : Hp), -far ≤ r → r ≤ far → Deck H' dk l → Keep dk l H H' → Q (.int r) H'
def spCommon : Sp := fun vs H Q _ => ∃ a b : Int, vs = [.int a, .int b] ∧ Q (.int ((Nat.gcd a.natAbs b.natAbs : Nat) : Int)) H
def spLean : Sp := fun vs H Q _ => ∃ n : Nat, vs = [.int (n : Int)] ∧ 1 ≤ n ∧ n ≤ 1000000 ∧ ∀ r : Nat, 1 ≤ r → r ≤ n → Q (.int (r : Int)) H
def Lean_ (a : Int) : Prop := a ≠ 0 ∧ ∀ p, 2 ≤ p → p ≤ 1000 → ¬ p * p ∣ a.natAbs
def spIsLean : Sp := fun vs H Q _ => ∃ a : Int, vs = [.int a] ∧ ∀ b : Bool, (b = true ↔ Lean_ a) → Q (.bl b) H
section
variable {P : Program} {w : World} {K : PySem.W.Frag} {mg : Str → Option Value} {base : Heap}
theorem scGreat : FnScope ["deck", "many", "found", "left"] ["deck", "many"] (defScope sGreat) := ⟨rfl, rfl, rfl, by decide +kernel, rfl, by decide +kernel, by decide +kernel⟩
theorem p6 : (10 : Int) ^ (6 : Int).toNat = 1000000 := by decide
theorem ok_great {f fD : Addr} {fd fdD : FuncData} (F : Fun K "_law_great" "_law_great" sGreat f fd) (T : Bt mg) (D : Kn P w K mg base 1 "_law_draw" ["deck", "many"] spDraw fD fdD) : FnOk P w K mg base CX0 2 f fd ["deck", "many"] spGreat := by
  refine F.ok scGreat (fun vs H Q E h => ?_) (fun cdv A outer s H vs Q E hr h => ?_)
  · obtain ⟨dk, l, many, rfl, _⟩ := h
    rfl
  · obtain ⟨dk, l, many, rfl, De, m0, k⟩ := h
    refine ⟨_, pss_cons (ps_par (i := 2) (j := 3) rfl scGreat.nd rfl rfl (by decide) rfl rfl (pa_cons pe_int (pa_cons (pv 1) pa_nil)) (by rfl))
      (pss_cons (ps_while PassesOwn.never (pt_cmpR op_gt (pv 3) pe_int (nomark _)) (pss_one (ps_par (i := 2) (j := 3) rfl scGreat.nd rfl rfl (by decide) rfl rfl
        (pa_cons (pe_op op_add (pe_op op_mul (pv 2) (pe_op op_pow pe_int pe_int)) (pe_call D.ok hr rfl D.mg D.kp D.bd .nil pass0 (pa_cons (pv 0) (pa_cons (pe_op op_pow pe_int pe_int) pa_nil)))) (pa_cons (pe_op op_fdiv (pv 3) (pe_op op_pow pe_int pe_int)) pa_nil)) (by rfl))))
      (pss_one (ps_ret (pe_op op_mod (pe_callTy call_int1 (by rfl) T.int (by decide +kernel) (pa_cons (pv 2) pa_nil)) (pv 1))))), ?_⟩
    have cp : CPow 10 6 := ⟨by decide, by decide, by decide⟩
    refine ⟨_, rfl, _, _, rfl, ?_⟩
    refine ⟨fun m σ H' => ∃ fo le : Int, σ = [some (.ref dk), some (.int many), some (.int fo), some (.int le)] ∧ Deck H' dk l ∧ Keep dk l H H' ∧ m = le.toNat, ⟨_, 0, many, rfl, De, fun b o e _ _ => e, rfl⟩, ?_⟩
    rintro m σ H1 ⟨fo, le, rfl, D1, k1, rfl⟩
    refine ⟨_, rfl, _, _, rfl, rfl, _, rfl, ite_b (fun c => ?_) (fun c => ?_)⟩
    · have c' : 0 < le := of_decide_eq_true c
      refine ⟨fun σ' H' => ∃ fo' : Int, σ' = [some (.ref dk), some (.int many), some (.int fo'), some (.int (le / 1000000))] ∧ Deck H' dk l ∧ Keep dk l H H', fun σ' H' ⟨fo', e1, e2, e3⟩ => ⟨(le / 1000000).toNat, by omega, fo', _, e1, e2, e3, rfl⟩, ?_⟩
      refine ⟨_, rfl, _, _, rfl, rfl, cp, _, _, rfl, rfl, .inr ⟨by decide, by decide⟩, ?_⟩
      refine ⟨_, rfl, _, _, rfl, rfl, cp, dk, l, 1000000, by rw [← p6]; rfl, D1, by decide, by decide, fun r H2 r0 r1 D2 k2 => ?_⟩
      refine ⟨_, _, rfl, rfl, _, rfl, _, _, rfl, rfl, cp, _, _, rfl, rfl, ⟨by decide, by decide⟩, _, _, rfl, ?_⟩
      exact ⟨_, by rw [p6]; rfl, D2, k1.trans k2⟩
    · refine ⟨_, rfl, .inl ⟨_, rfl, _, rfl, _, _, rfl, rfl, m0, ?_⟩⟩
      exact k _ H1 (Int.emod_nonneg _ (by omega)) (Int.emod_lt_of_pos _ m0) D1 k1
theorem scNear : FnScope ["deck", "far"] ["deck", "far"] (defScope sNear) := ⟨rfl, rfl, rfl, by decide +kernel, rfl, by decide +kernel, by decide +kernel⟩
theorem ok_near {f fD : Addr} {fd fdD : FuncData} (F : Fun K "_law_near" "_law_near" sNear f fd) (D : Kn P w K mg base 1 "_law_draw" ["deck", "many"] spDraw fD fdD) : FnOk P w K mg base CX0 2 f fd ["deck", "far"] spNear := by
  refine F.ok scNear (fun vs H Q E h => ?_) (fun cdv A outer s H vs Q E hr h => ?_)
  · obtain ⟨dk, l, far, rfl, _⟩ := h
    rfl
  · obtain ⟨dk, l, far, rfl, De, m0, m1, k⟩ := h
    refine ⟨_, pss_one (ps_ret (pe_op op_sub (pe_call D.ok hr rfl D.mg D.kp D.bd .nil pass0 (pa_cons (pv 0) (pa_cons (pe_op op_add (pe_op op_mul pe_int (pv 1)) pe_int) pa_nil))) (pv 1))), ?_⟩
    refine ⟨_, rfl, _, rfl, _, _, rfl, rfl, .inl ⟨by decide, by decide⟩, _, _, rfl, rfl, dk, l, _, rfl, De, by omega, by omega, fun r H1 r0 r1 D1 k1 => ?_⟩
    exact ⟨_, rfl, _, _, rfl, rfl, k _ H1 (by omega) (by omega) D1 k1⟩
theorem scCommon : FnScope ["one", "other"] ["one", "other"] (defScope sCommon) := ⟨rfl, rfl, rfl, by decide +kernel, rfl, by decide +kernel, by decide +kernel⟩
theorem abs_nat (a : Int) : (if a < 0 then -a else a) = (a.natAbs : Int) := by split <;> omega
theorem ok_common {f : Addr} {fd : FuncData} (F : Fun K "_law_common" "_law_common" sCommon f fd) (T : Bt mg) : FnOk P w K mg base CX0 1 f fd ["one", "other"] spCommon := by
  refine F.ok scCommon (fun vs H Q E h => ?_) (fun cdv A outer s H vs Q E hr h => ?_)
  · obtain ⟨a, b, rfl, _⟩ := h
    rfl
  · obtain ⟨a, b, rfl, k⟩ := h
    refine ⟨_, pss_cons (ps_par (i := 0) (j := 1) rfl scCommon.nd rfl rfl (by decide) rfl rfl (pa_cons (pe_callB call_abs (by rfl) T.abs (by decide +kernel) (pa_cons (pv 0) pa_nil)) (pa_cons (pe_callB call_abs (by rfl) T.abs (by decide +kernel) (pa_cons (pv 1) pa_nil)) pa_nil)) (by rfl))
      (pss_cons (ps_while PassesOwn.never (pt_cmpR op_gt (pv 1) pe_int (nomark _)) (pss_one (ps_par (i := 0) (j := 1) rfl scCommon.nd rfl rfl (by decide) rfl rfl
        (pa_cons (pv 1) (pa_cons (pe_op op_mod (pe_callTy call_int1 (by rfl) T.int (by decide +kernel) (pa_cons (pv 0) pa_nil)) (pv 1)) pa_nil)) (by rfl))))
      (pss_one (ps_ret (pv 0)))), ?_⟩
    refine ⟨_, rfl, a, rfl, _, rfl, b, rfl, _, _, rfl, ?_⟩
    refine ⟨fun m σ H' => ∃ x y : Nat, σ = [some (.int (x : Int)), some (.int (y : Int))] ∧ H' = H ∧ Nat.gcd x y = Nat.gcd a.natAbs b.natAbs ∧ m = y, ⟨_, a.natAbs, b.natAbs, by rw [← abs_nat, ← abs_nat]; rfl, rfl, rfl, rfl⟩, ?_⟩
    rintro m σ H1 ⟨x, y, rfl, rfl, g, rfl⟩
    refine ⟨_, rfl, _, _, rfl, rfl, _, rfl, ite_b (fun c => ?_) (fun c => ?_)⟩
    · have c' : 0 < m := by have := of_decide_eq_true c; omega
      refine ⟨fun σ' H' => σ' = [some (.int (m : Int)), some (.int ((x % m : Nat) : Int))] ∧ H' = H1, fun σ' H' ⟨e1, e2⟩ => ⟨x % m, Nat.mod_lt _ c', m, x % m, e1, e2, ?_, rfl⟩, ?_⟩
      · rw [← g, Nat.gcd_comm x m, Nat.gcd_rec m x, Nat.gcd_comm]
      · refine ⟨_, rfl, _, rfl, .inl ⟨_, rfl, _, rfl, _, _, rfl, rfl, by omega, _, _, rfl, ?_⟩⟩
        exact ⟨by rw [Int.natCast_emod]; rfl, rfl⟩
    · have c' : m = 0 := by have := of_decide_eq_false c; omega
      subst c'
      rw [Nat.gcd_zero_right] at g
      exact ⟨_, rfl, by rw [g]; exact k⟩
end
/-- a pick out of a list just laid -/
theorem pick_new {K : PySem.W.Frag} {dk l p : Addr} {H1 : Hp} {xs : List V} {Q : VK} {E : XK} (D : Deck H1 dk l) (hp : H1 p = none) (ne : xs ≠ []) (hl : xs.length < 1073741824)
    (k : ∀ (x : V) (H' : Hp), x ∈ xs → Deck H' dk l → Keep dk l H1 H' → Q x H') : spPick K [.ref dk, .ref p] (upd H1 p (.lst xs)) Q E :=
  ⟨dk, l, p, xs, rfl, D.same (snew hp), SqL.of upd_same, (fun z => D.some1.1 (z ▸ hp)), (fun z => D.some1.2 (z ▸ hp)), ne, hl, fun x H' hx D' kp => k x H' hx D' ((Keep.of (snew hp)).trans kp)⟩
end N3

namespace N3
open PySem PySem.Spec PyProof.Rows L2
/-- what is there but for the deck -/
def off (dk l : Addr) (H : Hp) : Hp := fun b => if b = dk ∨ b = l then none else H b
theorem off_at {dk l b : Addr} {H : Hp} {o : HO} (h1 : b ≠ dk) (h2 : b ≠ l) (e : H b = some o) : off dk l H b = some o := by
  unfold off
  rw [if_neg (fun z => z.elim h1 h2)]; exact e
theorem of_off {dk l b : Addr} {H : Hp} {o : HO} (e : off dk l H b = some o) : b ≠ dk ∧ b ≠ l ∧ H b = some o := by
  unfold off at e
  by_cases c : b = dk ∨ b = l
  · rw [if_pos c] at e; cases e
  · rw [if_neg c] at e
    exact ⟨fun z => c (.inl z), fun z => c (.inr z), e⟩
theorem off_in {dk l : Addr} {H : Hp} : Same (off dk l H) H := fun _ _ e => (of_off e).2.2
theorem off_keep {dk l : Addr} {H H' : Hp} (k : Keep dk l H H') : Same (off dk l H) (off dk l H') := fun b o e => by
  obtain ⟨h1, h2, e⟩ := of_off e
  exact off_at h1 h2 (k b o e h1 h2)
theorem off_same {dk l : Addr} {H H' : Hp} (s : Same H H') : Same (off dk l H) (off dk l H') := off_keep (Keep.of s)
theorem off_new {dk l : Addr} {H H' : Hp} (D : Deck H dk l) : Same (new H H') (off dk l H') := fun b o e => by
  obtain ⟨h, e⟩ := of_new e
  exact off_at (fun z => D.some1.1 (z ▸ h)) (fun z => D.some1.2 (z ▸ h)) e
theorem off_free {dk l b : Addr} {H H' : Hp} {o : HO} (D : Deck H dk l) (h : H b = none) (e : H' b = some o) : off dk l H' b = some o :=
  off_at (fun z => D.some1.1 (z ▸ h)) (fun z => D.some1.2 (z ▸ h)) e
theorem Dn.off {dk l : Addr} {H : Hp} {v : V} {d : PyData} (h : Dn (off dk l H) v d) : Dn H v d := Dn.mono off_in d v h
/-- a def that may show data, as callers know it -/
structure KnG (P : Program) (w : World) (K : PySem.W.Frag) (mg : Str → Option Value) (base : Heap) (k : Nat) (x : Str) (ps : List Str) (sp : Sp) (f : Addr) (fd : FuncData) : Prop where
  ok : FnG P w K mg base k f fd ps sp
  mg : mg x = some (.ref f)
  kp : PySem.W.keepIn K (.ref f) = true
  bd : Binds K fd ps []
end N3

namespace N3
open PySem PySem.Spec PyProof.Rows L2 N2
/-- the law's triples and numbers -/
def TL (d : PyData) : Prop := ∃ a b c : Int, d = .tuple [.int a, .int b, .int c] ∧ b ≠ 0 ∧ 0 < c ∧ Nat.gcd b.natAbs c.natAbs = 1 ∧ Lean_ a
def NL (d : PyData) : Prop := ∃ ds, d = .tuple ds ∧ (∀ x ∈ ds, TL x) ∧ Asc ds
def spLTriple : Sp := fun vs H Q _ => ∃ (v : V) (d : PyData), vs = [v] ∧ Dn H v d ∧ ∀ (b : Bool) (H' : Hp), (b = true ↔ TL d) → Same H H' → Q (.bl b) H'
def spLNumber : Sp := fun vs H Q _ => ∃ (v : V) (d : PyData), vs = [v] ∧ Dn H v d ∧ Short d ∧ ∀ (b : Bool) (H' : Hp), (b = true ↔ NL d) → Same H H' → Q (.bl b) H'
def ones (k : Nat) : List Int := List.replicate k 1
theorem ones_succ (k : Nat) : (ones k).map V.int ++ [V.int 1] = (ones (k + 1)).map V.int := by
  unfold ones
  rw [List.replicate_succ', List.map_append]; rfl
theorem ones_len (k : Nat) : ((ones k).map V.int).length = k := by simp [ones]
theorem ones_nil (k : Nat) : ((ones k).map PyData.int).isEmpty = decide (k = 0) := by
  cases k <;> simp [ones]
/-- one more turn of a filter that keeps what is wrong -/
theorem none_step {k k' i : Nat} {p : Nat → Prop} (h : k = 0 ↔ ∀ j, j < i → p j) (hk : k' = 0 ↔ k = 0 ∧ p i) : k' = 0 ↔ ∀ j, j < i + 1 → p j := by
  rw [hk, h]
  constructor
  · rintro ⟨h1, h2⟩ j hj
    by_cases c : j = i
    · rw [c]; exact h2
    · exact h1 j (by omega)
  · intro h1
    exact ⟨fun j hj => h1 j (by omega), h1 i (by omega)⟩
theorem tl_shape {H : Hp} {v : V} {d : PyData} (h : Dn H v d) (t : TL d) : ∃ (p : Addr) (a b c : Int), v = .ref p ∧ d = .tuple [.int a, .int b, .int c] ∧ H p = some (.tup [.int a, .int b, .int c]) := by
  obtain ⟨a, b, c, rfl, _⟩ := t
  cases h with
  | tup e r => exact ⟨_, a, b, c, rfl, rfl, by rw [e, dn3 r]⟩
end N3

namespace N3
open PySem PySem.Spec PyProof.Rows L2 N2
theorem cut1 (xs : List V) (h : xs ≠ []) : cutV xs (some 1) none = xs.drop 1 := by
  unfold cutV
  have hl : 1 ≤ xs.length := List.length_pos_iff.mpr h
  have e1 : HT.sIx xs.length 0 (some 1) = 1 := (HT.sIx_nat xs.length 0 1).trans (by omega)
  have e2 : HT.sIx xs.length xs.length none = xs.length := rfl
  rw [e1, e2, List.take_of_length_le]
  rw [List.length_drop]
  omega
theorem seqT_same {K : PySem.W.Frag} {H H' : Hp} {a : Addr} {xs : List V} (s : Same H H') (h : SqT K H a xs) : SqT K H' a xs := by
  rcases h with (h | ⟨o, h⟩) | h
  · exact .inl (.inl (s _ _ h))
  · exact .inl (.inr ⟨o, s _ _ h⟩)
  · exact .inr h
section
variable {P : Program} {w : World} {K : PySem.W.Frag} {mg : Str → Option Value} {base : Heap}
end
end N3

namespace N3
open PySem PySem.Spec PyProof.Rows L2 N2
/-! ### looks through all items of a tuple -/
theorem wipe1 {i : Nat} {x : Option V} {σ : L2.St} : wipe ((wipe σ [i]).set i x) [i] = wipe σ [i] := by
  show ((σ.set i none).set i x).set i none = σ.set i none
  rw [List.set_set, List.set_set]
theorem mem_idx {α : Type} {l : List α} {p : α → Prop} : (∀ j, j < l.length → ∀ d, l[j]? = some d → p d) ↔ ∀ x ∈ l, p x :=
  ⟨fun h x hx => by
    obtain ⟨j, hj, ej⟩ := List.mem_iff_getElem.mp hx
    exact h j hj x (by rw [List.getElem?_eq_getElem hj, ej]), fun h j _ d ed => h d (List.mem_of_getElem? ed)⟩
section
variable {K : PySem.W.Frag} {a D : Addr} {xs : List V} {ds : List PyData} {i : Nat} {te : TE} {tt : TT} {σ : L2.St} {H : Hp} {Qd : Hp → Prop}
/-- all([p(x) for x in t]) -/
theorem lc_all (p : PyData → Prop) (ea : H a = some (.tup xs)) (ra : DnAll H xs ds) (hl : ds.length ≤ 1000000) (hD : H D = none)
    (step : ∀ (j : Nat) (x : V) (d : PyData) (H' : Hp) (Q' : V → Hp → Prop), ds[j]? = some d → Dn H' x d → Same H H' → (∀ (b : Bool) (H2 : Hp), (b = true ↔ p d) → Same H' H2 → Q' (.bl b) H2) → te ((wipe σ [i]).set i (some x)) H' Q')
    (fin : ∀ (bs : List Bool) (H' : Hp), H' D = some (.lst (bs.map V.bl)) → (bs.all id = true ↔ ∀ x ∈ ds, p x) → Same H H' → Qd H') :
    ∃ W : Nat → Nat → Hp → Prop, (∃ m, W 0 m (upd H D (.lst []))) ∧ ∀ i_1 m H, W i_1 m H →
      ((Itt K a).stop i_1 H ∧ Qd H) ∨ ((Itt K a).go i_1 H ∧ ∃ Nx : Hp → Prop, (∀ H', Nx H' → ∃ m', m' < m ∧ W (i_1 + 1) m' H') ∧ ∀ x H', (Itt K a).yld i_1 H x H' → gName i x (wipe σ [i]) H' fun σ2 H2 => wipe σ2 [i] = wipe σ [i] ∧ tYes σ2 H2 fun b H3 =>
        if b = true then te σ2 H3 fun y H4 => ∃ acc, H4 D = some (.lst acc) ∧ acc.length < sizeLine ∧ Nx (upd H4 D (.lst (acc ++ [y]))) else Nx H3) := by
  refine lc_tup (K := K) (a := a) (xs := xs) (fun i H' => ∃ bs : List Bool, H' D = some (.lst (bs.map V.bl)) ∧ bs.length = i ∧ (bs.all id = true ↔ ∀ j, j < i → ∀ d, ds[j]? = some d → p d) ∧ Same H H')
    ⟨[], upd_same, rfl, by simp, snew hD⟩ (fun i H' _ ⟨_, _, _, _, s'⟩ => SqT.of (s' _ _ ea)) ?_ ?_
  · rintro j x H' hx ⟨bs, e1, e2, e3, s'⟩
    obtain ⟨d, ed, dn⟩ := ra.at_ hx
    have il : j < ds.length := (List.getElem?_eq_some_iff.mp ed).1
    refine ⟨wipe1, ?_⟩
    refine step j x d H' _ ed (Dn.mono s' d x dn) s' fun b H2 hb s2 => ?_
    refine ⟨_, s2 _ _ e1, by rw [List.length_map]; exact small_m (by omega), bs ++ [b], by rw [List.map_append, upd_same]; rfl, by rw [List.length_append, e2]; rfl, ?_, fun c o e => ?_⟩
    · refine all_step (p := fun j => ∀ d, ds[j]? = some d → p d) e3 ?_
      rw [hb]
      exact ⟨fun h d' e' => by rw [ed] at e'; cases e'; exact h, fun h => h d ed⟩
    · rw [upd_ne (ne_of_none e hD)]
      exact s2 _ _ (s' _ _ e)
  · rintro H1 ⟨bs, e1, e2, e3, s1⟩
    rw [ra.length] at e3
    exact fin bs H1 e1 (e3.trans mem_idx) s1
/-- [1 for x in t if not p(x)] -/
theorem lc_bad (p : PyData → Prop) (ea : H a = some (.tup xs)) (ra : DnAll H xs ds) (hl : ds.length ≤ 1000000) (hD : H D = none)
    (step : ∀ (j : Nat) (x : V) (d : PyData) (H' : Hp) (Q' : Bool → Hp → Prop), ds[j]? = some d → Dn H' x d → Same H H' → (∀ (b : Bool) (H2 : Hp), (b = true ↔ ¬ p d) → Same H' H2 → Q' b H2) → tt ((wipe σ [i]).set i (some x)) H' Q')
    (fin : ∀ (n : Nat) (H' : Hp), H' D = some (.lst ((ones n).map V.int)) → (n = 0 ↔ ∀ x ∈ ds, p x) → Same H H' → Qd H') :
    ∃ W : Nat → Nat → Hp → Prop, (∃ m, W 0 m (upd H D (.lst []))) ∧ ∀ i_1 m H, W i_1 m H →
      ((Itt K a).stop i_1 H ∧ Qd H) ∨ ((Itt K a).go i_1 H ∧ ∃ Nx : Hp → Prop, (∀ H', Nx H' → ∃ m', m' < m ∧ W (i_1 + 1) m' H') ∧ ∀ x H', (Itt K a).yld i_1 H x H' → gName i x (wipe σ [i]) H' fun σ2 H2 => wipe σ2 [i] = wipe σ [i] ∧ tt σ2 H2 fun b H3 =>
        if b = true then tC (.int 1) σ2 H3 fun y H4 => ∃ acc, H4 D = some (.lst acc) ∧ acc.length < sizeLine ∧ Nx (upd H4 D (.lst (acc ++ [y]))) else Nx H3) := by
  refine lc_tup (K := K) (a := a) (xs := xs) (fun i H' => ∃ n : Nat, H' D = some (.lst ((ones n).map V.int)) ∧ n ≤ i ∧ (n = 0 ↔ ∀ j, j < i → ∀ d, ds[j]? = some d → p d) ∧ Same H H')
    ⟨0, upd_same, Nat.le_refl _, by simp, snew hD⟩ (fun i H' _ ⟨_, _, _, _, s'⟩ => SqT.of (s' _ _ ea)) ?_ ?_
  · rintro j x H' hx ⟨n, e1, e2, e3, s'⟩
    obtain ⟨d, ed, dn⟩ := ra.at_ hx
    have il : j < ds.length := (List.getElem?_eq_some_iff.mp ed).1
    refine ⟨wipe1, ?_⟩
    refine step j x d H' _ ed (Dn.mono s' d x dn) s' fun b H2 hb s2 => ?_
    refine ite_b (fun c => ?_) (fun c => ?_)
    · refine ⟨_, s2 _ _ e1, by rw [ones_len]; exact small_m (by omega), n + 1, by rw [ones_succ, upd_same], by omega, ?_, fun c o e => ?_⟩
      · refine none_step (p := fun j => ∀ d, ds[j]? = some d → p d) e3 ⟨fun z => by omega, fun z => absurd (z.2 d ed) (hb.mp c)⟩
      · rw [upd_ne (ne_of_none e hD)]
        exact s2 _ _ (s' _ _ e)
    · refine ⟨n, s2 _ _ e1, by omega, ?_, s'.trans s2⟩
      have pd : p d := by
        by_cases h : p d
        · exact h
        · have := hb.mpr h
          rw [c] at this
          cases this
      exact none_step (p := fun j => ∀ d, ds[j]? = some d → p d) e3 ⟨fun z => ⟨z, fun d' e' => by rw [ed] at e'; cases e'; exact pd⟩, fun z => z.1⟩
  · rintro H1 ⟨n, e1, e2, e3, s1⟩
    rw [ra.length] at e3
    exact fin n H1 e1 (e3.trans mem_idx) s1
/-- all([r(t[k], t[k + 1]) for k in range(len(t) - 1)]) -/
theorem lc_adj (r : PyData → PyData → Prop) (hl : ds.length ≤ 1000000) (hD : H D = none)
    (step : ∀ (k : Nat) (x y : PyData) (H' : Hp) (Q' : V → Hp → Prop), ds[k]? = some x → ds[k + 1]? = some y → Same H H' → (∀ (b : Bool) (H2 : Hp), (b = true ↔ r x y) → Same H' H2 → Q' (.bl b) H2) → te ((wipe σ [i]).set i (some (.int (0 + k)))) H' Q')
    (fin : ∀ (bs : List Bool) (H' : Hp), H' D = some (.lst (bs.map V.bl)) → (bs.all id = true ↔ ∀ (k : Nat) (x y : PyData), ds[k]? = some x → ds[k + 1]? = some y → r x y) → Same H H' → Qd H') :
    ∃ W : Nat → Nat → Hp → Prop, (∃ m, W 0 m (upd H D (.lst []))) ∧ ∀ i_1 m H, W i_1 m H →
      ((Itr 0 (ds.length - 1)).stop i_1 H ∧ Qd H) ∨ ((Itr 0 (ds.length - 1)).go i_1 H ∧ ∃ Nx : Hp → Prop, (∀ H', Nx H' → ∃ m', m' < m ∧ W (i_1 + 1) m' H') ∧ ∀ x H', (Itr 0 (ds.length - 1)).yld i_1 H x H' → gName i x (wipe σ [i]) H' fun σ2 H2 => wipe σ2 [i] = wipe σ [i] ∧ tYes σ2 H2 fun b H3 =>
        if b = true then te σ2 H3 fun y H4 => ∃ acc, H4 D = some (.lst acc) ∧ acc.length < sizeLine ∧ Nx (upd H4 D (.lst (acc ++ [y]))) else Nx H3) := by
  refine lc_range (lo := 0) (n := ds.length - 1) (fun i H' => ∃ cs : List Bool, H' D = some (.lst (cs.map V.bl)) ∧ cs.length = i ∧ (cs.all id = true ↔ ∀ j, j < i → ∀ x y, ds[j]? = some x → ds[j + 1]? = some y → r x y) ∧ Same H H')
    ⟨[], upd_same, rfl, by simp, snew hD⟩ ?_ ?_
  · rintro k H' hi ⟨cs, c1, c2, c3, s'⟩
    have i1 : k < ds.length := by omega
    have i2 : k + 1 < ds.length := by omega
    refine ⟨wipe1, ?_⟩
    refine step k ds[k] ds[k + 1] H' _ (List.getElem?_eq_getElem i1) (List.getElem?_eq_getElem i2) s' fun b H2 hb s2 => ?_
    refine ⟨_, s2 _ _ c1, by rw [List.length_map]; exact small_m (by omega), cs ++ [b], by rw [List.map_append, upd_same]; rfl, by rw [List.length_append, c2]; rfl, ?_, fun c o e => ?_⟩
    · refine all_step (p := fun j => ∀ x y, ds[j]? = some x → ds[j + 1]? = some y → r x y) c3 ?_
      rw [hb, List.getElem?_eq_getElem i1, List.getElem?_eq_getElem i2]
      exact ⟨fun h x y e e' => by cases e; cases e'; exact h, fun h => h _ _ rfl rfl⟩
    · rw [upd_ne (ne_of_none e hD)]
      exact s2 _ _ (s' _ _ e)
  · rintro H2 ⟨cs, c1, c2, c3, s2⟩
    refine fin cs H2 c1 ?_ s2
    rw [c3]
    exact ⟨fun h k x y ex ey => h k (by have := (List.getElem?_eq_some_iff.mp ey).1; omega) x y ex ey, fun h k _ x y ex ey => h k x y ex ey⟩
end
/-- the outer walk, over a list, of a comprehension with two -/
theorem out_list {K : PySem.W.Frag} {a D : Addr} {xs : List V} {g : TG} {tt : TT} {R : L2.St → Hp → (Hp → Prop) → Prop} {vs : List Nat} {σ : L2.St} {H1 : Hp} {Qd : Hp → Prop} (Pv : Nat → Hp → Prop) (h0 : Pv 0 (upd H1 D (.lst []))) (hl : ∀ i H, i ≤ xs.length → Pv i H → SqL K H a xs)
    (hs : ∀ i x H, xs[i]? = some x → Pv i H → g x (wipe σ vs) H fun σ2 H2 => wipe σ2 vs = wipe σ vs ∧ tt σ2 H2 fun b H3 => if b = true then R σ2 H3 (Pv (i + 1)) else Pv (i + 1) H3) (hd : ∀ H, Pv xs.length H → Qd H) :
    ∃ W : Nat → Nat → Hp → Prop, (∃ m, W 0 m (upd H1 D (.lst []))) ∧ ∀ i m H, W i m H →
      ((Itl K a).stop i H ∧ Qd H) ∨ ((Itl K a).go i H ∧ ∃ Nx : Hp → Prop, (∀ H', Nx H' → ∃ m', m' < m ∧ W (i + 1) m' H') ∧ ∀ x H', (Itl K a).yld i H x H' → g x (wipe σ vs) H' fun σ2 H2 => wipe σ2 vs = wipe σ vs ∧ tt σ2 H2 fun b H3 =>
        if b = true then R σ2 H3 Nx else Nx H3) := by
  refine ⟨fun i m H => m = xs.length - i ∧ i ≤ xs.length ∧ Pv i H, ⟨xs.length, by simp, Nat.zero_le _, h0⟩, ?_⟩
  rintro i m H ⟨rfl, hi, p⟩
  have q := hl i H hi p
  by_cases hlt : i < xs.length
  · refine .inr ⟨⟨xs, xs[i], q, by simp [hlt]⟩, Pv (i + 1), fun H' p' => ⟨xs.length - (i + 1), by omega, rfl, hlt, p'⟩, fun x H' y => ?_⟩
    obtain ⟨e, y⟩ := y
    subst e
    exact hs i x _ (y xs q) p
  · have e : i = xs.length := by omega
    subst e
    exact .inl ⟨⟨xs, q, Nat.le_refl _⟩, hd H p⟩
/-- the inner walk, over a tuple -/
theorem in_tup {K : PySem.W.Frag} {a : Addr} {xs : List V} {g : TG} {tt : TT} {S : L2.St → Hp → (Hp → Prop) → Prop} {vs : List Nat} {σ : L2.St} {H1 : Hp} {Nx : Hp → Prop} (Pv : Nat → Hp → Prop) (h0 : Pv 0 H1) (hl : ∀ i H, i ≤ xs.length → Pv i H → SqT K H a xs)
    (hs : ∀ i x H, xs[i]? = some x → Pv i H → g x (wipe σ vs) H fun σ2 H2 => wipe σ2 vs = wipe σ vs ∧ tt σ2 H2 fun b H3 => if b = true then S σ2 H3 (Pv (i + 1)) else Pv (i + 1) H3) (hd : ∀ H, Pv xs.length H → Nx H) :
    ∃ W : Nat → Nat → Hp → Prop, (∃ m, W 0 m H1) ∧ ∀ i m H, W i m H →
      ((Itt K a).stop i H ∧ Nx H) ∨ ((Itt K a).go i H ∧ ∃ Nx1 : Hp → Prop, (∀ H', Nx1 H' → ∃ m', m' < m ∧ W (i + 1) m' H') ∧ ∀ x H', (Itt K a).yld i H x H' → g x (wipe σ vs) H' fun σ2 H2 => wipe σ2 vs = wipe σ vs ∧ tt σ2 H2 fun b H3 =>
        if b = true then S σ2 H3 Nx1 else Nx1 H3) := by
  refine ⟨fun i m H => m = xs.length - i ∧ i ≤ xs.length ∧ Pv i H, ⟨xs.length, by simp, Nat.zero_le _, h0⟩, ?_⟩
  rintro i m H ⟨rfl, hi, p⟩
  have q := hl i H hi p
  by_cases hlt : i < xs.length
  · refine .inr ⟨⟨xs, xs[i], q, by simp [hlt]⟩, Pv (i + 1), fun H' p' => ⟨xs.length - (i + 1), by omega, rfl, hlt, p'⟩, fun x H' y => ?_⟩
    obtain ⟨e, y⟩ := y
    subst e
    exact hs i x _ (y xs q) p
  · have e : i = xs.length := by omega
    subst e
    exact .inl ⟨⟨xs, q, Nat.le_refl _⟩, hd H p⟩
end N3

namespace N3
open PySem PySem.Spec PyProof.Rows L2 N2
/-! ### numbers, rows and quotients as plain values, and their data -/
abbrev Tr := Int × Int × Int
abbrev Nm := List Tr
abbrev Pl := Int × Int
abbrev Tl := Pl × List Nm
abbrev Qt := List Nm × List Tl
def encT (x : Tr) : PyData := .tuple [.int x.1, .int x.2.1, .int x.2.2]
def encN (n : Nm) : PyData := .tuple (n.map encT)
def encR (r : List Nm) : PyData := .tuple (r.map encN)
def encPl (p : Pl) : PyData := .tuple [.int p.1, .int p.2]
def encTl (t : Tl) : PyData := .tuple [encPl t.1, encR t.2]
def encQ (q : Qt) : PyData := .tuple [encR q.1, .tuple (q.2.map encTl)]
/-- neighbours are so -/
def Nb {α : Type} (r : α → α → Prop) (l : List α) : Prop := ∀ (i : Nat) (x y : α), l[i]? = some x → l[i + 1]? = some y → r x y
def CT (ok : Int → Prop) (x : Tr) : Prop := ok x.1 ∧ x.2.1 ≠ 0 ∧ lowT x.2.1 x.2.2 = true
def CN (ok : Int → Prop) (n : Nm) : Prop := (∀ x ∈ n, CT ok x) ∧ Nb (fun x y : Tr => x.1 < y.1) n
def CR (ok : Int → Prop) (r : List Nm) : Prop := (∀ n ∈ r, CN ok n) ∧ r.getLast? ≠ some []
def CPl (p : Pl) : Prop := lowT p.1 p.2 = true
def CTl (ok : Int → Prop) (t : Tl) : Prop := CPl t.1 ∧ CR ok t.2 ∧ t.2 ≠ []
abbrev before (p q : Pl) : Prop := p.1 * q.2 < q.1 * p.2
def CTs (ok : Int → Prop) (ts : List Tl) : Prop := (∀ t ∈ ts, CTl ok t) ∧ Nb (fun s t : Tl => before s.1 t.1) ts
def CQ (ok : Int → Prop) (q : Qt) : Prop := CR ok q.1 ∧ CTs ok q.2
/-- the numbers are fractions -/
def FrN (n : Nm) : Prop := n = [] ∨ ∃ t b, n = [(1, t, b)]
def Plain (q : Qt) : Prop := (∀ n ∈ q.1, FrN n) ∧ ∀ t ∈ q.2, ∀ n ∈ t.2, FrN n
/-! what data are so -/
def DN (ok : Int → Prop) (d : PyData) : Prop := ∃ n, d = encN n ∧ CN ok n
def DR (ok : Int → Prop) (d : PyData) : Prop := ∃ r, d = encR r ∧ CR ok r
def DPl (d : PyData) : Prop := ∃ p, d = encPl p ∧ CPl p
def DTl (ok : Int → Prop) (d : PyData) : Prop := ∃ t, d = encTl t ∧ CTl ok t
def DTs (ok : Int → Prop) (d : PyData) : Prop := ∃ ts : List Tl, d = .tuple (ts.map encTl) ∧ CTs ok ts
def DQ (ok : Int → Prop) (d : PyData) : Prop := ∃ q, d = encQ q ∧ CQ ok q
/-! ### from data to values -/
theorem map_of {α : Type} {enc : α → PyData} {p : α → Prop} : ∀ {ds : List PyData}, (∀ d ∈ ds, ∃ x, d = enc x ∧ p x) → ∃ l : List α, ds = l.map enc ∧ ∀ x ∈ l, p x
  | [], _ => ⟨[], rfl, by simp⟩
  | d :: ds, h => by
    obtain ⟨x, rfl, px⟩ := h d List.mem_cons_self
    obtain ⟨l, rfl, pl⟩ := map_of (ds := ds) fun y hy => h y (List.mem_cons_of_mem _ hy)
    exact ⟨x :: l, rfl, fun y hy => (List.mem_cons.mp hy).elim (fun e => e ▸ px) (pl y)⟩
theorem inj_map {α : Type} {enc : α → PyData} (h : ∀ x y, enc x = enc y → x = y) : ∀ {l k : List α}, l.map enc = k.map enc → l = k
  | [], [], _ => rfl
  | [], _ :: _, e => by simp at e
  | _ :: _, [], e => by simp at e
  | x :: l, y :: k, e => by
    rw [List.map_cons, List.map_cons] at e
    injection e with e1 e2
    rw [h _ _ e1, inj_map h e2]
theorem encT_inj {x y : Tr} (h : encT x = encT y) : x = y := by
  obtain ⟨a, b, c⟩ := x
  obtain ⟨a', b', c'⟩ := y
  injection h with h
  injection h with h1 h
  injection h with h2 h
  injection h with h3 h
  injection h1 with h1
  injection h2 with h2
  injection h3 with h3
  exact Prod.ext h1 (Prod.ext h2 h3)
theorem encN_inj {x y : Nm} (h : encN x = encN y) : x = y := by
  injection h with h
  exact inj_map (fun _ _ => encT_inj) h
theorem encR_inj {x y : List Nm} (h : encR x = encR y) : x = y := by
  injection h with h
  exact inj_map (fun _ _ => encN_inj) h
theorem encPl_inj {x y : Pl} (h : encPl x = encPl y) : x = y := by
  obtain ⟨a, b⟩ := x
  obtain ⟨a', b'⟩ := y
  injection h with h
  injection h with h1 h
  injection h with h2 h
  injection h1 with h1
  injection h2 with h2
  exact Prod.ext h1 h2
theorem encTl_inj {x y : Tl} (h : encTl x = encTl y) : x = y := by
  obtain ⟨a, b⟩ := x
  obtain ⟨a', b'⟩ := y
  injection h with h
  injection h with h1 h
  injection h with h2 h
  exact Prod.ext (encPl_inj h1) (encR_inj h2)
theorem encTs_inj {x y : List Tl} (h : PyData.tuple (x.map encTl) = .tuple (y.map encTl)) : x = y := by
  injection h with h
  exact inj_map (fun _ _ => encTl_inj) h
theorem encQ_inj {x y : Qt} (h : encQ x = encQ y) : x = y := by
  obtain ⟨a, b⟩ := x
  obtain ⟨a', b'⟩ := y
  injection h with h
  injection h with h1 h
  injection h with h2 h
  exact Prod.ext (encR_inj h1) (encTs_inj h2)
/-! ### the looks of before are these -/
theorem tp_ct {d : PyData} : TP d ↔ ∃ x, d = encT x ∧ CT Fit x :=
  ⟨fun ⟨a, b, c, e, h1, h2, h3⟩ => ⟨(a, b, c), e, h3, h1, h2⟩, fun ⟨x, e, h1, h2, h3⟩ => ⟨x.1, x.2.1, x.2.2, e, h2, h3, h1⟩⟩
theorem tl_ct {d : PyData} : TL d ↔ ∃ x, d = encT x ∧ CT Lean_ x := by
  have key : ∀ b c : Int, (0 < c ∧ Nat.gcd b.natAbs c.natAbs = 1) ↔ lowT b c = true := fun b c => by
    unfold lowT
    rw [Bool.and_eq_true, decide_eq_true_iff, decide_eq_true_iff]
    exact ⟨fun h => ⟨by omega, h.2⟩, fun h => ⟨by omega, h.2⟩⟩
  exact ⟨fun ⟨a, b, c, e, h1, h2, h3, h4⟩ => ⟨(a, b, c), e, h4, h1, (key _ _).mp ⟨h2, h3⟩⟩, fun ⟨x, e, h1, h2, h3⟩ => ⟨x.1, x.2.1, x.2.2, e, h2, ((key _ _).mpr h3).1, ((key _ _).mpr h3).2, h1⟩⟩
theorem asc_nb {n : Nm} : Asc (n.map encT) ↔ Nb (fun x y : Tr => x.1 < y.1) n := by
  constructor
  · intro h i x y ex ey
    exact h i (encT x) (encT y) (by rw [List.getElem?_map, ex]; rfl) (by rw [List.getElem?_map, ey]; rfl)
  · intro h i x y ex ey
    rw [List.getElem?_map] at ex ey
    cases e1 : n[i]? with
    | none => rw [e1] at ex; cases ex
    | some u =>
      cases e2 : n[i + 1]? with
      | none => rw [e2] at ey; cases ey
      | some v =>
        rw [e1] at ex
        rw [e2] at ey
        cases ex
        cases ey
        exact h i u v e1 e2
theorem np_dn {d : PyData} : NP d ↔ DN Fit d := by
  constructor
  · rintro ⟨ds, rfl, t, a⟩
    obtain ⟨n, rfl, h⟩ := map_of fun x hx => tp_ct.mp (t x hx)
    exact ⟨n, rfl, h, asc_nb.mp a⟩
  · rintro ⟨n, rfl, h, a⟩
    exact ⟨_, rfl, fun x hx => by
      obtain ⟨y, hy, rfl⟩ := List.mem_map.mp hx
      exact tp_ct.mpr ⟨y, rfl, h y hy⟩, asc_nb.mpr a⟩
theorem nl_dn {d : PyData} : NL d ↔ DN Lean_ d := by
  constructor
  · rintro ⟨ds, rfl, t, a⟩
    obtain ⟨n, rfl, h⟩ := map_of fun x hx => tl_ct.mp (t x hx)
    exact ⟨n, rfl, h, asc_nb.mp a⟩
  · rintro ⟨n, rfl, h, a⟩
    exact ⟨_, rfl, fun x hx => by
      obtain ⟨y, hy, rfl⟩ := List.mem_map.mp hx
      exact tl_ct.mpr ⟨y, rfl, h y hy⟩, asc_nb.mpr a⟩
theorem fp_fr {n : Nm} (h : CN Fit n) : FP (encN n) ↔ FrN n := by
  constructor
  · rintro ⟨_, ds, e, h2⟩
    injection e with e
    subst e
    rcases h2 with h2 | ⟨h2, h3⟩
    · rw [List.length_map] at h2
      exact .inl (List.length_eq_zero_iff.mp h2)
    · rw [List.length_map] at h2
      match n, h2 with
      | [x], _ =>
        obtain ⟨a, b, c⟩ := x
        have : a = 1 := h3 _ rfl
        exact .inr ⟨b, c, by rw [this]⟩
  · rintro (rfl | ⟨t, b, rfl⟩)
    · exact ⟨np_dn.mpr ⟨[], rfl, h⟩, _, rfl, .inl rfl⟩
    · exact ⟨np_dn.mpr ⟨_, rfl, h⟩, _, rfl, .inr ⟨rfl, fun x hx => by cases (show some _ = some x from hx); rfl⟩⟩
/-! ### the weight of data: bounds the length of their text and of all that is within -/
mutual
def wt : PyData → Nat
  | .list ds => wtA ds + 2
  | .tuple ds => wtA ds + 3
  | .dict ks => wtK ks + 2
  | d => d.shown.length
def wtA : List PyData → Nat
  | [] => 0
  | d :: ds => wt d + 2 + wtA ds
def wtK : List (PyData × PyData) → Nat
  | [] => 0
  | (k, d) :: r => k.shown.length + wt d + 4 + wtK r
end
mutual
theorem wt_shown : ∀ d : PyData, d.shown.length ≤ wt d
  | .none => Nat.le_refl _
  | .bool _ => Nat.le_refl _
  | .int _ => Nat.le_refl _
  | .str _ => Nat.le_refl _
  | .list ds => by
    have h := wtA_shown ds
    simp only [PyData.shown, listText, wt]
    rw [strLen_append]
    have := text_up (PyData.shownAll ds) 0 "["
    have e1 : (("[" : String) : Str).length = 1 := rfl
    have e2 : (("]" : String) : Str).length = 1 := rfl
    omega
  | .tuple ds => by
    have h := wtA_shown ds
    simp only [PyData.shown, tupleText, wt]
    rw [strLen_append, strLen_append]
    have := join_up (PyData.shownAll ds)
    have e1 : (("(" : String) : Str).length = 1 := rfl
    have e2 : (((if (PyData.shownAll ds).length == 1 then ",)" else ")" : String) : String) : Str).length ≤ 2 := by
      by_cases z : ((PyData.shownAll ds).length == 1) = true
      · rw [if_pos z]; decide
      · rw [if_neg z]; decide
    omega
  | .dict ks => by
    have h := wtK_shown ks
    simp only [PyData.shown, dictText, wt]
    rw [strLen_append, strLen_append]
    have := join_up (PyData.shownKv ks)
    have e1 : (("{" : String) : Str).length = 1 := rfl
    have e2 : (("}" : String) : Str).length = 1 := rfl
    omega
theorem wtA_shown : ∀ ds : List PyData, piled (PyData.shownAll ds) ≤ wtA ds
  | [] => by simp [PyData.shownAll, wtA, piled]
  | d :: ds => by
    have h1 := wt_shown d
    have h2 := wtA_shown ds
    simp only [PyData.shownAll, piled_cons, wtA]
    omega
theorem wtK_shown : ∀ ks : List (PyData × PyData), piled (PyData.shownKv ks) ≤ wtK ks
  | [] => by simp [PyData.shownKv, wtK, piled]
  | (k, d) :: r => by
    have h1 := wt_shown d
    have h2 := wtK_shown r
    have e3 : ((": " : String) : Str).length = 2 := rfl
    simp only [PyData.shownKv, piled_cons, wtK, strLen_append]
    omega
end
/-- data with a text, of the weight m at most, at most n deep -/
structure Wd (m n : Nat) (d : PyData) : Prop where
  sh : d.showable = true
  dp : d.depth ≤ n
  wt : wt d ≤ m
theorem Wd.mono {m n m' n' : Nat} {d : PyData} (h : Wd m n d) (hm : m ≤ m') (hn : n ≤ n') : Wd m' n' d := ⟨h.sh, Nat.le_trans h.dp hn, Nat.le_trans h.wt hm⟩
theorem Wd.okd {m n : Nat} {d : PyData} (h : Wd m n d) : Okd m n d := ⟨h.sh, h.dp, Nat.le_trans (wt_shown d) h.wt⟩
theorem wtA_len : ∀ ds : List PyData, 2 * ds.length ≤ wtA ds
  | [] => Nat.zero_le _
  | d :: ds => by
    have := wtA_len ds
    rw [List.length_cons, wtA]
    omega
theorem wtA_mem : ∀ {ds : List PyData} {d : PyData}, d ∈ ds → wt d + 2 ≤ wtA ds
  | x :: ds, d, h => by
    rw [wtA]
    rcases List.mem_cons.mp h with rfl | h
    · omega
    · have := wtA_mem h
      omega
theorem sh_mem : ∀ {ds : List PyData} {d : PyData}, PyData.showableAll ds = true → d ∈ ds → d.showable = true
  | x :: ds, d, hs, h => by
    rw [PyData.showableAll, Bool.and_eq_true] at hs
    rcases List.mem_cons.mp h with rfl | h
    · exact hs.1
    · exact sh_mem hs.2 h
theorem dp_mem : ∀ {ds : List PyData} {d : PyData}, d ∈ ds → d.depth ≤ PyData.depthAll ds
  | x :: ds, d, h => by
    rw [PyData.depthAll]
    rcases List.mem_cons.mp h with rfl | h
    · omega
    · have := dp_mem h
      omega
theorem Wd.item {m n : Nat} {ds : List PyData} {d : PyData} (h : Wd m n (.tuple ds)) (hd : d ∈ ds) : Wd m n d := by
  have h1 := h.sh
  have h2 := h.dp
  have h3 := h.wt
  simp only [PyData.showable] at h1
  simp only [PyData.depth] at h2
  simp only [N3.wt] at h3
  have := dp_mem hd
  have := wtA_mem hd
  exact ⟨sh_mem h1 hd, by omega, by omega⟩
theorem Wd.len {m n : Nat} {ds : List PyData} (h : Wd m n (.tuple ds)) : 2 * ds.length ≤ m := by
  have h3 := h.wt
  simp only [N3.wt] at h3
  have := wtA_len ds
  omega
theorem Wd.int {m n : Nat} {i : Int} (h : Wd m n (.int i)) : i.natAbs.log2 < 1920 := by
  have := h.sh
  simpa [PyData.showable] using this
/-- any value within reason -/
def Gd (d : PyData) : Prop := Wd 2000000 60 d
theorem Gd.short {d : PyData} (h : Gd d) : Short d := fun ds e => by
  subst e
  have := Wd.len h
  omega
theorem Gd.item {ds : List PyData} {d : PyData} (h : Gd (.tuple ds)) (hd : d ∈ ds) : Gd d := Wd.item h hd
end N3

namespace N3
open PySem PySem.Spec PyProof.Rows L2 N2
/-! ### a number's coefficients; what they determine -/
theorem nb_tail {α : Type} {r : α → α → Prop} {x : α} {l : List α} (h : Nb r (x :: l)) : Nb r l := fun i a b ha hb => h (i + 1) a b (by simpa using ha) (by simpa using hb)
theorem nb_up {α : Type} {r : α → α → Prop} (tr : ∀ a b c, r a b → r b c → r a c) : ∀ {l : List α} {x : α}, Nb r (x :: l) → ∀ y ∈ l, r x y
  | [], _, _, y, hy => by simp at hy
  | z :: l, x, h, y, hy => by
    have h0 : r x z := h 0 x z rfl rfl
    rcases List.mem_cons.mp hy with rfl | hy
    · exact h0
    · exact tr _ _ _ h0 (nb_up tr (nb_tail h) y hy)
theorem nb_mk {α : Type} {r : α → α → Prop} {x : α} {l : List α} (h : ∀ y ∈ l, r x y) (t : Nb r l) : Nb r (x :: l) := fun i a b ha hb => by
  cases i with
  | zero =>
    cases ha
    exact h b (List.mem_of_getElem? (by simpa using hb))
  | succ i => exact t i a b (by simpa using ha) (by simpa using hb)
/-- the coefficient at d -/
def co : Nm → Int → Rat
  | [], _ => 0
  | x :: n, d => (if x.1 = d then Rat.divInt x.2.1 x.2.2 else 0) + co n d
theorem co_nil (d : Int) : co [] d = 0 := rfl
theorem co_cons (x : Tr) (n : Nm) (d : Int) : co (x :: n) d = (if x.1 = d then Rat.divInt x.2.1 x.2.2 else 0) + co n d := rfl
theorem co_app : ∀ (n m : Nm) (d : Int), co (n ++ m) d = co n d + co m d
  | [], m, d => (Rat.zero_add _).symm
  | x :: n, m, d => by
    rw [List.cons_append, co_cons, co_cons, co_app n m d, Rat.add_assoc]
theorem co_none : ∀ {n : Nm} {d : Int}, (∀ x ∈ n, x.1 ≠ d) → co n d = 0
  | [], _, _ => rfl
  | x :: n, d, h => by
    rw [co_cons, if_neg (h x List.mem_cons_self), co_none fun y hy => h y (List.mem_cons_of_mem _ hy), Rat.zero_add]
theorem low_pos {t b : Int} (h : lowT t b = true) : 1 ≤ b ∧ Nat.gcd t.natAbs b.natAbs = 1 := by
  unfold lowT at h
  rwa [Bool.and_eq_true, decide_eq_true_iff, decide_eq_true_iff] at h
theorem frac_iff {t b t' b' : Int} (h : 1 ≤ b) (h' : 1 ≤ b') : Rat.divInt t b = Rat.divInt t' b' ↔ t * b' = t' * b := by
  obtain ⟨m, rfl⟩ : ∃ m : Nat, b = (m : Int) := ⟨b.toNat, by omega⟩
  obtain ⟨m', rfl⟩ : ∃ m : Nat, b' = (m : Int) := ⟨b'.toNat, by omega⟩
  rw [Rat.divInt_ofNat, Rat.divInt_ofNat, Rat.mkRat_eq_iff (by omega) (by omega)]
theorem low_cross {t b t' b' : Int} (h : lowT t b = true) (h' : lowT t' b' = true) (e : t * b' = t' * b) : t = t' ∧ b = b' := by
  obtain ⟨p, g⟩ := low_pos h
  obtain ⟨p', g'⟩ := low_pos h'
  have en : t.natAbs * b'.natAbs = t'.natAbs * b.natAbs := by rw [← Int.natAbs_mul, ← Int.natAbs_mul, e]
  have d1 : b.natAbs ∣ b'.natAbs := Nat.Coprime.dvd_of_dvd_mul_left (Nat.Coprime.symm g) ⟨t'.natAbs, en.trans (Nat.mul_comm _ _)⟩
  have d2 : b'.natAbs ∣ b.natAbs := Nat.Coprime.dvd_of_dvd_mul_left (Nat.Coprime.symm g') ⟨t.natAbs, en.symm.trans (Nat.mul_comm _ _)⟩
  have eb := Nat.dvd_antisymm d1 d2
  have eb' : b = b' := by omega
  subst eb'
  exact ⟨Int.eq_of_mul_eq_mul_right (by omega) e, rfl⟩
theorem low_frac {t b t' b' : Int} (h : lowT t b = true) (h' : lowT t' b' = true) (e : Rat.divInt t b = Rat.divInt t' b') : t = t' ∧ b = b' :=
  low_cross h h' ((frac_iff (low_pos h).1 (low_pos h').1).mp e)
theorem frac_ne {t b : Int} (h : 1 ≤ b) (ht : t ≠ 0) : Rat.divInt t b ≠ 0 := fun e => by
  have z : Rat.divInt t b = Rat.divInt 0 1 := e.trans (by rw [Rat.zero_divInt])
  have := (frac_iff h (by decide)).mp z
  omega
theorem lt_tr : ∀ a b c : Tr, a.1 < b.1 → b.1 < c.1 → a.1 < c.1 := fun _ _ _ h k => by omega
theorem CN.tail {ok : Int → Prop} {x : Tr} {n : Nm} (h : CN ok (x :: n)) : CN ok n := ⟨fun y hy => h.1 y (List.mem_cons_of_mem _ hy), nb_tail h.2⟩
theorem CN.up {ok : Int → Prop} {x : Tr} {n : Nm} (h : CN ok (x :: n)) : ∀ y ∈ n, x.1 < y.1 := nb_up lt_tr h.2
theorem CN.nil {ok : Int → Prop} : CN ok [] := ⟨fun x hx => by simp at hx, fun i x y hx => by simp at hx⟩
theorem CN.head {ok : Int → Prop} {x : Tr} {n : Nm} (h : CN ok (x :: n)) : co (x :: n) x.1 = Rat.divInt x.2.1 x.2.2 := by
  rw [co_cons, if_pos rfl, co_none fun y hy => by have := h.up y hy; omega, Rat.add_zero]
theorem CN.below {ok : Int → Prop} {x : Tr} {n : Nm} {d : Int} (h : CN ok (x :: n)) (hd : d < x.1) : co (x :: n) d = 0 :=
  co_none fun y hy => by
    rcases List.mem_cons.mp hy with rfl | hy
    · omega
    · have := h.up y hy; omega
theorem CN.ne {ok : Int → Prop} {x : Tr} {n : Nm} (h : CN ok (x :: n)) : co (x :: n) x.1 ≠ 0 := by
  obtain ⟨_, t0, lo⟩ := h.1 x List.mem_cons_self
  rw [h.head]
  exact frac_ne (low_pos lo).1 t0
/-- a number in its one form is told by its coefficients -/
theorem co_inj {ok : Int → Prop} : ∀ {n m : Nm}, CN ok n → CN ok m → (∀ d, co n d = co m d) → n = m
  | [], [], _, _, _ => rfl
  | [], y :: m, _, hm, e => absurd (e y.1).symm hm.ne
  | x :: n, [], hn, _, e => absurd (e x.1) hn.ne
  | x :: n, y :: m, hn, hm, e => by
    have ed : x.1 = y.1 := by
      rcases Int.lt_trichotomy x.1 y.1 with c | c | c
      · exact absurd ((e x.1).trans (hm.below c)) hn.ne
      · exact c
      · exact absurd ((e y.1).symm.trans (hn.below c)) hm.ne
    obtain ⟨_, _, lx⟩ := hn.1 x List.mem_cons_self
    obtain ⟨_, _, ly⟩ := hm.1 y List.mem_cons_self
    have ef : Rat.divInt x.2.1 x.2.2 = Rat.divInt y.2.1 y.2.2 := by rw [← hn.head, e x.1, ed, hm.head]
    obtain ⟨e1, e2⟩ := low_frac lx ly ef
    have exy : x = y := Prod.ext ed (Prod.ext e1 e2)
    subst exy
    rw [co_inj hn.tail hm.tail fun d => ?_]
    by_cases c : x.1 = d
    · subst c
      rw [co_none fun y hy => by have := hn.up y hy; omega, co_none fun y hy => by have := hm.up y hy; omega]
    · have := e d
      rw [co_cons, co_cons, if_neg c, Rat.zero_add, Rat.zero_add] at this
      exact this
theorem co_zero {ok : Int → Prop} {n : Nm} (h : CN ok n) (e : ∀ d, co n d = 0) : n = [] := co_inj h CN.nil e
/-! ### rows -/
/-- a row's k-th coefficient at d -/
def cr (r : List Nm) (k : Nat) (d : Int) : Rat := co (r.getD k []) d
theorem CR.at_ {ok : Int → Prop} {r : List Nm} (h : CR ok r) (k : Nat) : CN ok (r.getD k []) := by
  rw [List.getD_eq_getElem?_getD]
  cases e : r[k]? with
  | none => exact CN.nil
  | some n => exact h.1 n (List.mem_of_getElem? e)
theorem cr_len {ok : Int → Prop} {r s : List Nm} (hr : CR ok r) (e : ∀ k d, cr r k d = cr s k d) : r.length ≤ s.length := by
  rcases Nat.lt_or_ge s.length r.length with c | c
  · exfalso
    obtain ⟨m, em⟩ : ∃ m, r.length = m + 1 := ⟨r.length - 1, by omega⟩
    have z : r.getD m [] = [] := co_zero (hr.at_ m) fun d => by
      have := e m d
      unfold cr at this
      rw [this, List.getD_eq_getElem?_getD, List.getElem?_eq_none (by omega)]
      rfl
    refine hr.2 ?_
    rw [List.getLast?_eq_getElem?, em]
    rw [List.getD_eq_getElem?_getD] at z
    have : m < r.length := by omega
    rw [show m + 1 - 1 = m by omega, List.getElem?_eq_getElem this]
    rw [List.getElem?_eq_getElem this] at z
    exact congrArg some z
  · exact c
/-- a row in its one form is told by its coefficients -/
theorem cr_inj {ok : Int → Prop} {r s : List Nm} (hr : CR ok r) (hs : CR ok s) (e : ∀ k d, cr r k d = cr s k d) : r = s := by
  have l : r.length = s.length := Nat.le_antisymm (cr_len hr e) (cr_len hs fun k d => (e k d).symm)
  refine List.ext_getElem l fun k h1 h2 => ?_
  have := co_inj (hr.at_ k) (hs.at_ k) (e k)
  rw [List.getD_eq_getElem?_getD, List.getD_eq_getElem?_getD, List.getElem?_eq_getElem h1, List.getElem?_eq_getElem h2] at this
  exact this
theorem cr_nil (k : Nat) (d : Int) : cr [] k d = 0 := by
  unfold cr
  rw [List.getD_eq_getElem?_getD, List.getElem?_nil]
  rfl
/-! ### quotients -/
/-- the tail at a pole -/
def tl : List Tl → Pl → List Nm
  | [], _ => []
  | t :: ts, p => if t.1 = p then t.2 else tl ts p
theorem tl_none : ∀ {ts : List Tl} {p : Pl}, (∀ t ∈ ts, t.1 ≠ p) → tl ts p = []
  | [], _, _ => rfl
  | t :: ts, p, h => by
    show (if t.1 = p then t.2 else tl ts p) = []
    rw [if_neg (h t List.mem_cons_self), tl_none fun s hs => h s (List.mem_cons_of_mem _ hs)]
theorem bf_irr {p q : Pl} (h : before p q) : p ≠ q := fun e => by
  subst e
  unfold before at h
  omega
theorem bf_tr {p q r : Pl} (hp : CPl p) (hq : CPl q) (hr : CPl r) (h : before p q) (k : before q r) : before p r := by
  have p0 := (low_pos hp).1
  have q0 := (low_pos hq).1
  have r0 := (low_pos hr).1
  unfold before at h k ⊢
  have h1 : p.1 * q.2 * r.2 < q.1 * p.2 * r.2 := Int.mul_lt_mul_of_pos_right h (by omega)
  have h2 : q.1 * r.2 * p.2 < r.1 * q.2 * p.2 := Int.mul_lt_mul_of_pos_right k (by omega)
  have e1 : q.1 * p.2 * r.2 = q.1 * r.2 * p.2 := by rw [Int.mul_right_comm]
  have e2 : p.1 * q.2 * r.2 = p.1 * r.2 * q.2 := by rw [Int.mul_right_comm]
  have e3 : r.1 * q.2 * p.2 = r.1 * p.2 * q.2 := by rw [Int.mul_right_comm]
  exact Int.lt_of_mul_lt_mul_right (by omega : p.1 * r.2 * q.2 < r.1 * p.2 * q.2) (by omega)
theorem bf_tot {p q : Pl} (hp : CPl p) (hq : CPl q) (h : ¬ before p q) (k : ¬ before q p) : p = q := by
  unfold before at h k
  obtain ⟨e1, e2⟩ := low_cross hp hq (by omega)
  exact Prod.ext e1 e2
theorem CTs.tail {ok : Int → Prop} {t : Tl} {ts : List Tl} (h : CTs ok (t :: ts)) : CTs ok ts := ⟨fun s hs => h.1 s (List.mem_cons_of_mem _ hs), nb_tail h.2⟩
theorem CTs.up {ok : Int → Prop} : ∀ {ts : List Tl} {t : Tl}, CTs ok (t :: ts) → ∀ s ∈ ts, before t.1 s.1
  | [], _, _, s, hs => by simp at hs
  | u :: ts, t, h, s, hs => by
    have h0 : before t.1 u.1 := h.2 0 t u rfl rfl
    rcases List.mem_cons.mp hs with rfl | hs'
    · exact h0
    · have pt := (h.1 t List.mem_cons_self).1
      have pu := (h.1 u (List.mem_cons_of_mem _ List.mem_cons_self)).1
      have ps := (h.1 s (List.mem_cons_of_mem _ hs)).1
      exact bf_tr pt pu ps h0 (CTs.up h.tail s hs')
theorem tl_head {t : Tl} {ts : List Tl} : tl (t :: ts) t.1 = t.2 := if_pos rfl
theorem ts_inj {ok : Int → Prop} : ∀ {ts us : List Tl}, CTs ok ts → CTs ok us → (∀ p, tl ts p = tl us p) → ts = us
  | [], [], _, _, _ => rfl
  | [], u :: us, _, hu, e => absurd ((e u.1).trans tl_head).symm (hu.1 u List.mem_cons_self).2.2
  | t :: ts, [], ht, _, e => absurd ((e t.1).symm.trans tl_head).symm (ht.1 t List.mem_cons_self).2.2
  | t :: ts, u :: us, ht, hu, e => by
    obtain ⟨pt, _, tn⟩ := ht.1 t List.mem_cons_self
    obtain ⟨pu, _, un⟩ := hu.1 u List.mem_cons_self
    have low : ∀ {x : Tl} {xs : List Tl} {p : Pl}, CTs ok (x :: xs) → CPl p → before p x.1 → tl (x :: xs) p = [] := fun {x xs p} hx hp b => tl_none fun s hs => by
      rcases List.mem_cons.mp hs with rfl | hs'
      · exact (bf_irr b).symm
      · exact (bf_irr (bf_tr hp (hx.1 x List.mem_cons_self).1 (hx.1 s hs).1 b (hx.up s hs'))).symm
    have ep : t.1 = u.1 := bf_tot pt pu (fun b => tn (by rw [← tl_head (t := t) (ts := ts), e t.1, low hu pt b])) (fun b => un (by rw [← tl_head (t := u) (ts := us), ← e u.1, low ht pu b]))
    have er : t.2 = u.2 := by rw [← tl_head (t := t) (ts := ts), e t.1, ep, tl_head]
    have etu : t = u := Prod.ext ep er
    subst etu
    rw [ts_inj ht.tail hu.tail fun p => ?_]
    by_cases c : t.1 = p
    · subst c
      rw [tl_none fun s hs => (bf_irr (ht.up s hs)).symm, tl_none fun s hs => (bf_irr (hu.up s hs)).symm]
    · have := e p
      show tl ts p = tl us p
      have h1 : tl (t :: ts) p = tl ts p := if_neg c
      have h2 : tl (t :: us) p = tl us p := if_neg c
      rw [← h1, this, h2]
/-- a quotient in its one form is told by its coefficients -/
theorem q_inj {ok : Int → Prop} {q r : Qt} (hq : CQ ok q) (hr : CQ ok r) (h1 : ∀ k d, cr q.1 k d = cr r.1 k d) (h2 : ∀ p k d, cr (tl q.2 p) k d = cr (tl r.2 p) k d) : q = r := by
  have rows : ∀ {x : Qt}, CQ ok x → ∀ p, CR ok (tl x.2 p) := fun {x} hx p => by
    have : ∀ ts : List Tl, CTs ok ts → CR ok (tl ts p) := fun ts => by
      induction ts with
      | nil => exact fun _ => ⟨fun n hn => by simp [tl] at hn, by simp [tl]⟩
      | cons t ts ih =>
        intro h
        show CR ok (if t.1 = p then t.2 else tl ts p)
        split
        · exact (h.1 t List.mem_cons_self).2.1
        · exact ih h.tail
    exact this _ hx.2
  exact Prod.ext (cr_inj hq.1 hr.1 h1) (ts_inj hq.2 hr.2 fun p => cr_inj (rows hq p) (rows hr p) (h2 p))
end N3

namespace N3
open PySem PySem.Spec PyProof.Rows L2 N2
abbrev sLowest2 : Stmt := top 14
/-- the fraction top / bottom without a common divisor: t / b -/
structure LowOf (x y t b : Int) : Prop where
  low : lowT t b = true
  eq : t * y = x * b
  t1 : t.natAbs ≤ x.natAbs
  b1 : b.natAbs ≤ y.natAbs
theorem lowT_iff {b c : Int} : lowT b c = true ↔ 0 < c ∧ Nat.gcd b.natAbs c.natAbs = 1 := by
  unfold lowT
  rw [Bool.and_eq_true, decide_eq_true_iff, decide_eq_true_iff]
  exact ⟨fun h => ⟨by omega, h.2⟩, fun h => ⟨by omega, h.2⟩⟩
/-- two fractions without common divisors that are the same number -/
theorem low_same {t b t' b' : Int} (h : lowT t b = true) (h' : lowT t' b' = true) (e : t * b' = t' * b) : t = t' ∧ b = b' := by
  obtain ⟨b0, g⟩ := lowT_iff.mp h
  obtain ⟨b0', g'⟩ := lowT_iff.mp h'
  have en : t.natAbs * b'.natAbs = t'.natAbs * b.natAbs := by rw [← Int.natAbs_mul, ← Int.natAbs_mul, e]
  have d1 : b.natAbs ∣ b'.natAbs := by
    have : b.natAbs ∣ t.natAbs * b'.natAbs := ⟨t'.natAbs, by rw [en, Nat.mul_comm]⟩
    exact (Nat.Coprime.symm (show Nat.Coprime t.natAbs b.natAbs from g)).dvd_of_dvd_mul_left this
  have d2 : b'.natAbs ∣ b.natAbs := by
    have : b'.natAbs ∣ t'.natAbs * b.natAbs := ⟨t.natAbs, by rw [← en, Nat.mul_comm]⟩
    exact (Nat.Coprime.symm (show Nat.Coprime t'.natAbs b'.natAbs from g')).dvd_of_dvd_mul_left this
  have eb : b.natAbs = b'.natAbs := Nat.dvd_antisymm d1 d2
  have eb' : b = b' := by omega
  subst eb'
  exact ⟨Int.eq_of_mul_eq_mul_right (by omega) e, rfl⟩
theorem low_uniq {x y t b t' b' : Int} (hy : y ≠ 0) (h : LowOf x y t b) (h' : LowOf x y t' b') : t = t' ∧ b = b' := by
  refine low_same h.low h'.low (Int.eq_of_mul_eq_mul_right hy ?_)
  have e1 := h.eq
  have e2 := h'.eq
  calc t * b' * y = t * y * b' := by rw [Int.mul_assoc, Int.mul_comm b' y, ← Int.mul_assoc]
    _ = x * b * b' := by rw [e1]
    _ = x * b' * b := by rw [Int.mul_assoc, Int.mul_comm b b', ← Int.mul_assoc]
    _ = t' * y * b := by rw [e2]
    _ = t' * b * y := by rw [Int.mul_assoc, Int.mul_comm y b, ← Int.mul_assoc]
/-- dividing by the greatest common divisor with the sign of the bottom -/
theorem low_div {x y c : Int} (hy : y ≠ 0) (hc : c = if y < 0 then -((Nat.gcd x.natAbs y.natAbs : Nat) : Int) else ((Nat.gcd x.natAbs y.natAbs : Nat) : Int)) : c ≠ 0 ∧ c.natAbs ≤ y.natAbs ∧ LowOf x y (x.fdiv c) (y.fdiv c) := by
  have gp : 0 < Nat.gcd x.natAbs y.natAbs := Nat.gcd_pos_of_pos_right _ (by omega)
  have gl : Nat.gcd x.natAbs y.natAbs ≤ y.natAbs := Nat.le_of_dvd (by omega) (Nat.gcd_dvd_right _ _)
  obtain ⟨g, eg⟩ : ∃ g, Nat.gcd x.natAbs y.natAbs = g := ⟨_, rfl⟩
  have dx : (g : Int) ∣ x := Int.ofNat_dvd_left.mpr (eg ▸ Nat.gcd_dvd_left _ _)
  have dy : (g : Int) ∣ y := Int.ofNat_dvd_left.mpr (eg ▸ Nat.gcd_dvd_right _ _)
  rw [eg] at hc gp gl
  have cn : c.natAbs = g := by rw [hc]; split <;> omega
  have c0 : c ≠ 0 := by omega
  have cx : c ∣ x := Int.natAbs_dvd.mp (by rw [cn]; exact dx)
  have cy : c ∣ y := Int.natAbs_dvd.mp (by rw [cn]; exact dy)
  have ex : c * x.fdiv c = x := by rw [Int.fdiv_eq_ediv_of_dvd cx]; exact Int.mul_ediv_cancel' cx
  have ey : c * y.fdiv c = y := by rw [Int.fdiv_eq_ediv_of_dvd cy]; exact Int.mul_ediv_cancel' cy
  obtain ⟨t, et⟩ : ∃ t, x.fdiv c = t := ⟨_, rfl⟩
  obtain ⟨b, eb⟩ : ∃ b, y.fdiv c = b := ⟨_, rfl⟩
  rw [et] at ex ⊢
  rw [eb] at ey ⊢
  have nx : x.natAbs = g * t.natAbs := by rw [← ex, Int.natAbs_mul, cn]
  have ny : y.natAbs = g * b.natAbs := by rw [← ey, Int.natAbs_mul, cn]
  refine ⟨c0, by omega, lowT_iff.mpr ⟨?_, ?_⟩, ?_, ?_, ?_⟩
  · by_cases hneg : y < 0
    · rw [if_pos hneg] at hc
      have : c < 0 := by omega
      by_cases hb : 0 < b
      · exact hb
      · have : 0 ≤ c * b := Int.mul_nonneg_of_nonpos_of_nonpos (by omega) (by omega)
        omega
    · rw [if_neg hneg] at hc
      have : 0 < c := by omega
      by_cases hb : 0 < b
      · exact hb
      · have : c * b ≤ 0 := Int.mul_nonpos_of_nonneg_of_nonpos (by omega) (by omega)
        omega
  · have : Nat.gcd (g * t.natAbs) (g * b.natAbs) = g := by rw [← nx, ← ny]; exact eg
    rw [Nat.gcd_mul_left] at this
    exact Nat.eq_of_mul_eq_mul_left gp (by rw [this, Nat.mul_one])
  · rw [← ex, ← ey, ← Int.mul_assoc, Int.mul_comm t c]
  · rw [nx]; exact Nat.le_mul_of_pos_left _ gp
  · rw [ny]; exact Nat.le_mul_of_pos_left _ gp
/-- // by any divisor but 0, of any sign -/
theorem op_fdivZ {X : Cx} : OpR X (binaryOp .FloorDiv) (rI (fun _ j => j ≠ 0 ∧ j.natAbs.log2 < 9000) fun i j => .int (i.fdiv j)) := opI fun i j _ _ _ _ _ hc q => floordiv_int hc.1 q (.inl (PyProof.noPylong_of_log2 hc.2))
theorem log_big {i : Int} (h : i.natAbs < 2 ^ 8000) : i.natAbs.log2 < 9000 := by
  rcases Nat.eq_zero_or_pos i.natAbs with z | z
  · rw [z]; decide
  · have := (Nat.log2_lt (by omega : i.natAbs ≠ 0)).mpr h; omega
def spLowest : Sp := fun vs H Q _ => ∃ x y : Int, vs = [.int x, .int y] ∧ y ≠ 0 ∧ y.natAbs < 2 ^ 8000 ∧ ∀ (p : Addr) (t b : Int) (H' : Hp), LowOf x y t b → H' p = some (.tup [.int t, .int b]) → Same H H' → Q (.ref p) H'
/-- the number that a fraction is -/
def FrAt (H : Hp) (r : Addr) (x y : Int) : Prop := (x = 0 ∧ H r = some (.tup [])) ∨ (x ≠ 0 ∧ ∃ (p : Addr) (t b : Int), LowOf x y t b ∧ H p = some (.tup [.int 1, .int t, .int b]) ∧ H r = some (.tup [.ref p]))
def spFromFr : Sp := fun vs H Q _ => ∃ x y : Int, vs = [.int x, .int y] ∧ y ≠ 0 ∧ y.natAbs < 2 ^ 8000 ∧ ∀ (r : Addr) (H' : Hp), FrAt H' r x y → Same H H' → Q (.ref r) H'
section
variable {P : Program} {w : World} {K : PySem.W.Frag} {mg : Str → Option Value} {base : Heap}
theorem scLowest : FnScope ["top", "bottom", "common"] ["top", "bottom"] (defScope sLowest2) := ⟨rfl, rfl, rfl, by decide +kernel, rfl, by decide +kernel, by decide +kernel⟩
theorem ok_lowest {f : Addr} {fd : FuncData} (F : Fun K "lowest" "lowest" sLowest2 f fd) (T : Bt mg) : FnOk P w K mg base CX0 1 f fd ["top", "bottom"] spLowest := by
  refine F.ok scLowest (fun vs H Q E h => ?_) (fun cdv A outer s H vs Q E hr h => ?_)
  · obtain ⟨x, y, rfl, _⟩ := h
    rfl
  · obtain ⟨x, y, rfl, y0, yb, k⟩ := h
    refine ⟨_, pss_cons (ps_set (i := 2) scLowest.nd rfl (Or.inl rfl) (pe_callBfun cr_gcd (by rfl) T.gcd (pa_cons (pv 0) (pa_cons (pv 1) pa_nil))))
      (C8.pss_cut (ps_if (pt_cmpR op_lt (pv 1) pe_int (nomark _)) (pss_one (ps_set (i := 2) scLowest.nd rfl (Or.inl rfl) (pe_un un_neg (pv 2)))) pss_nil)
      (pss_one (ps_ret (pe_tup (pa_cons (pe_op op_fdivZ (pv 0) (pv 2)) (pa_cons (pe_op op_fdivZ (pv 1) (pv 2)) pa_nil)))))), ?_⟩
    refine ⟨_, rfl, _, rfl, x, y, rfl, ?_⟩
    refine ⟨fun σ' H' => σ' = [some (.int x), some (.int y), some (.int (if y < 0 then -((Nat.gcd x.natAbs y.natAbs : Nat) : Int) else ((Nat.gcd x.natAbs y.natAbs : Nat) : Int)))] ∧ H' = H, ?_, ?_⟩
    · refine ⟨_, rfl, _, _, rfl, rfl, _, rfl, ite_b (fun c => ?_) (fun c => ?_)⟩
      · have c' := of_decide_eq_true c
        refine ⟨_, rfl, _, rfl, ?_⟩
        rw [if_pos c']
        exact ⟨rfl, rfl⟩
      · have c' := of_decide_eq_false c
        rw [if_neg c']
        exact ⟨rfl, rfl⟩
    · rintro σ' H' ⟨rfl, rfl⟩
      obtain ⟨c0, cl, lo⟩ := low_div (x := x) y0 rfl
      have lg := log_big (Nat.lt_of_le_of_lt cl yb)
      refine ⟨_, rfl, _, rfl, _, _, rfl, rfl, ⟨c0, lg⟩, _, rfl, _, rfl, _, _, rfl, rfl, ⟨c0, lg⟩, by show 2 ≤ sizeLine; rw [sizeLine_eq]; decide, fun p hp => ?_⟩
      exact k p _ _ _ lo upd_same (snew hp)
end
end N3

namespace N3
open PySem PySem.Spec PyProof.Rows L2 N2
/-! ### tables of sums: d with a top and a bottom -/
/-- the table's rows as they stand -/
inductive TotR (H : Hp) : List (Key × V) → Nm → Prop
  | nil : TotR H [] []
  | cons {d t b : Int} {q : Addr} {kvs : List (Key × V)} {ts : Nm} : H q = some (.tup [.int t, .int b]) → TotR H kvs ts → TotR H ((Sum.inl d, .ref q) :: kvs) ((d, t, b) :: ts)
def Ks (ts : Nm) : Prop := (ts.map (·.1)).Nodup
/-- tops and bottoms below 2 ^ B, no bottom is 0 -/
def Sz (B : Nat) (ts : Nm) : Prop := ∀ x ∈ ts, x.2.1.natAbs < 2 ^ B ∧ x.2.2 ≠ 0 ∧ x.2.2.natAbs < 2 ^ B
theorem TotR.length {H : Hp} : ∀ {kvs : List (Key × V)} {ts : Nm}, TotR H kvs ts → kvs.length = ts.length
  | _, _, .nil => rfl
  | _, _, .cons _ r => by rw [List.length_cons, List.length_cons, r.length]
theorem TotR.keys {H : Hp} : ∀ {kvs : List (Key × V)} {ts : Nm}, TotR H kvs ts → kvs.map (·.1) = (ts.map (·.1)).map Sum.inl
  | _, _, .nil => rfl
  | _, _, .cons _ r => by rw [List.map_cons, List.map_cons, List.map_cons, r.keys]
theorem TotR.tst {H H' : Hp} (s : ∀ b xs, H b = some (.tup xs) → H' b = some (.tup xs)) : ∀ {kvs : List (Key × V)} {ts : Nm}, TotR H kvs ts → TotR H' kvs ts
  | _, _, .nil => .nil
  | _, _, .cons h r => .cons (s _ _ h) (r.tst s)
theorem co_off {ts : Nm} {d : Int} (h : d ∉ ts.map (·.1)) : co ts d = 0 := co_none fun x hx e => h (List.mem_map.mpr ⟨x, hx, e⟩)
theorem Ks.tail {x : Tr} {ts : Nm} (h : Ks (x :: ts)) : x.1 ∉ ts.map (·.1) ∧ Ks ts := by
  unfold Ks at h
  rw [List.map_cons, List.nodup_cons] at h
  exact h
theorem co_at : ∀ {ts : Nm} {x : Tr}, Ks ts → x ∈ ts → co ts x.1 = Rat.divInt x.2.1 x.2.2
  | y :: ts, x, h, hx => by
    obtain ⟨h1, h2⟩ := h.tail
    rcases List.mem_cons.mp hx with rfl | hx
    · rw [co_cons, if_pos rfl, co_off h1, Rat.add_zero]
    · have : y.1 ≠ x.1 := fun e => h1 (List.mem_map.mpr ⟨x, hx, e.symm⟩)
      rw [co_cons, if_neg this, Rat.zero_add, co_at h2 hx]
/-- what a key leads to -/
theorem TotR.get {H : Hp} : ∀ {kvs : List (Key × V)} {ts : Nm}, TotR H kvs ts → ∀ d : Int, (valV kvs (Sum.inl d) = none ∧ d ∉ ts.map (·.1)) ∨ ∃ (q : Addr) (t b : Int), valV kvs (Sum.inl d) = some (.ref q) ∧ H q = some (.tup [.int t, .int b]) ∧ (d, t, b) ∈ ts
  | _, _, .nil, d => .inl ⟨rfl, by simp⟩
  | _, _, .cons (d := e) (t := t) (b := b) (q := q) h r, d => by
    by_cases c : e = d
    · subst c
      exact .inr ⟨q, t, b, valV_pos rfl, h, List.mem_cons_self⟩
    · have ne : ¬ ((Sum.inl e : Key) = Sum.inl d) := fun z => c (Sum.inl.inj z)
      rcases r.get d with ⟨h1, h2⟩ | ⟨q', t', b', h1, h2, h3⟩
      · refine .inl ⟨by rw [valV_neg ne]; exact h1, fun m => ?_⟩
        rw [List.map_cons] at m
        rcases List.mem_cons.mp m with z | z
        · exact c z.symm
        · exact h2 z
      · exact .inr ⟨q', t', b', by rw [valV_neg ne]; exact h1, h2, List.mem_cons_of_mem _ h3⟩
/-- a row put into the table -/
def putN (ts : Nm) (d t b : Int) : Nm := if d ∈ ts.map (·.1) then ts.map (fun x => if x.1 = d then (d, t, b) else x) else ts ++ [(d, t, b)]
theorem TotR.any {H : Hp} {kvs : List (Key × V)} {ts : Nm} (r : TotR H kvs ts) (d : Int) : (kvs.any fun kv => decide (kv.1 = (Sum.inl d : Key))) = true ↔ d ∈ ts.map (·.1) := by
  rw [List.any_eq_true]
  have k := r.keys
  constructor
  · rintro ⟨p, hp, e⟩
    have e := of_decide_eq_true e
    have : (Sum.inl d : Key) ∈ kvs.map (·.1) := List.mem_map.mpr ⟨p, hp, e⟩
    rw [k] at this
    obtain ⟨x, hx, e'⟩ := List.mem_map.mp this
    rwa [Sum.inl.inj e'] at hx
  · intro h
    have : (Sum.inl d : Key) ∈ kvs.map (·.1) := by rw [k]; exact List.mem_map.mpr ⟨d, h, rfl⟩
    obtain ⟨p, hp, e⟩ := List.mem_map.mp this
    exact ⟨p, hp, decide_eq_true e⟩
theorem TotR.swap {H : Hp} {d t b : Int} {q : Addr} (hq : H q = some (.tup [.int t, .int b])) : ∀ {kvs : List (Key × V)} {ts : Nm}, TotR H kvs ts → TotR H (kvs.map fun kv => if kv.1 = (Sum.inl d : Key) then (kv.1, V.ref q) else kv) (ts.map fun x => if x.1 = d then (d, t, b) else x)
  | _, _, .nil => .nil
  | _, _, .cons (d := e) (t := t') (b := b') (q := q') h r => by
    rw [List.map_cons, List.map_cons]
    by_cases c : e = d
    · subst c
      rw [if_pos rfl, if_pos rfl]
      exact .cons hq (r.swap hq)
    · have ne : ¬ ((Sum.inl e : Key) = Sum.inl d) := fun z => c (Sum.inl.inj z)
      rw [if_neg ne, if_neg c]
      exact .cons h (r.swap hq)
theorem TotR.snoc {H : Hp} {d t b : Int} {q : Addr} (hq : H q = some (.tup [.int t, .int b])) : ∀ {kvs : List (Key × V)} {ts : Nm}, TotR H kvs ts → TotR H (kvs ++ [(Sum.inl d, V.ref q)]) (ts ++ [(d, t, b)])
  | _, _, .nil => .cons hq .nil
  | _, _, .cons h r => .cons h (r.snoc hq)
theorem TotR.put {H : Hp} {kvs : List (Key × V)} {ts : Nm} {d t b : Int} {q : Addr} (r : TotR H kvs ts) (hq : H q = some (.tup [.int t, .int b])) : TotR H (putK kvs (Sum.inl d) (.ref q)) (putN ts d t b) := by
  unfold putK putN
  by_cases c : d ∈ ts.map (·.1)
  · rw [if_pos c, if_pos ((r.any d).mpr c)]
    exact r.swap hq
  · rw [if_neg c, if_neg (fun z => c ((r.any d).mp z))]
    exact r.snoc hq
theorem swap_keys {d t b : Int} : ∀ {ts : Nm}, (ts.map fun x => if x.1 = d then (d, t, b) else x).map (·.1) = ts.map (·.1)
  | [] => rfl
  | x :: ts => by
    rw [List.map_cons, List.map_cons, List.map_cons, swap_keys]
    congr 1
    split
    · next c => exact c.symm
    · rfl
theorem putN_keys {ts : Nm} {d t b : Int} : (putN ts d t b).map (·.1) = if d ∈ ts.map (·.1) then ts.map (·.1) else ts.map (·.1) ++ [d] := by
  unfold putN
  split
  · exact swap_keys
  · rw [List.map_append]; rfl
theorem putN_ks {ts : Nm} {d t b : Int} (h : Ks ts) : Ks (putN ts d t b) := by
  unfold Ks
  rw [putN_keys]
  split
  · exact h
  · next c =>
    rw [List.nodup_append]
    exact ⟨h, by simp, fun x hx y hy e => c (by rw [List.mem_singleton] at hy; rw [← hy, ← e]; exact hx)⟩
theorem putN_len {ts : Nm} {d t b : Int} : (putN ts d t b).length ≤ ts.length + 1 := by
  unfold putN
  split
  · rw [List.length_map]; omega
  · rw [List.length_append]; exact Nat.le_refl _
theorem putN_mem {ts : Nm} {d t b : Int} {x : Tr} (h : x ∈ putN ts d t b) : x = (d, t, b) ∨ (x ∈ ts ∧ x.1 ≠ d) := by
  unfold putN at h
  split at h
  · obtain ⟨y, hy, e⟩ := List.mem_map.mp h
    split at e
    · exact .inl e.symm
    · next c => subst e; exact .inr ⟨hy, c⟩
  · next c =>
    rcases List.mem_append.mp h with h | h
    · exact .inr ⟨h, fun e => c (List.mem_map.mpr ⟨x, h, e⟩)⟩
    · exact .inl (List.mem_singleton.mp h)
theorem putN_co {ts : Nm} {d t b : Int} (h : Ks ts) (e : Int) : co (putN ts d t b) e = if d = e then Rat.divInt t b else co ts e := by
  have me : (d, t, b) ∈ putN ts d t b := by
    unfold putN
    split
    · next c =>
      obtain ⟨x, hx, ex⟩ := List.mem_map.mp c
      exact List.mem_map.mpr ⟨x, hx, if_pos ex⟩
    · exact List.mem_append_right _ List.mem_cons_self
  by_cases c : d = e
  · subst c
    rw [if_pos rfl]
    exact co_at (putN_ks h) me
  · rw [if_neg c]
    unfold putN
    split
    · have : ∀ ts : Nm, co (ts.map fun x => if x.1 = d then (d, t, b) else x) e = co ts e := fun ts => by
        induction ts with
        | nil => rfl
        | cons x ts ih =>
          rw [List.map_cons, co_cons, co_cons, ih]
          by_cases z : x.1 = d
          · rw [if_pos z, if_neg c, if_neg (by rw [z]; exact c)]
          · rw [if_neg z]
      exact this ts
    · rw [co_app, co_cons, if_neg c, co_nil, Rat.zero_add, Rat.add_zero]
theorem putN_sz {B C : Nat} {ts : Nm} {d t b : Int} (h : Sz B ts) (hB : B ≤ C) (ht : t.natAbs < 2 ^ C) (hb : b ≠ 0) (hb' : b.natAbs < 2 ^ C) : Sz C (putN ts d t b) := fun x hx => by
  rcases putN_mem hx with rfl | ⟨hx, _⟩
  · exact ⟨ht, hb, hb'⟩
  · obtain ⟨a, b, c⟩ := h x hx
    have := Nat.pow_le_pow_right (show 0 < 2 by decide) hB
    exact ⟨by omega, b, by omega⟩
/-! ### fractions -/
theorem frac_same {t b t' b' : Int} (h : b ≠ 0) (h' : b' ≠ 0) (e : t * b' = t' * b) : Rat.divInt t b = Rat.divInt t' b' := (Rat.divInt_eq_divInt_iff h h').mpr e
theorem low_val {x y t b : Int} (hy : y ≠ 0) (h : LowOf x y t b) : Rat.divInt x y = Rat.divInt t b := frac_same hy (by have := (low_pos h.low).1; omega) h.eq.symm
/-- a sum over a common divisor of the bottoms -/
theorem frac_add {h l t b c : Int} (hl : l ≠ 0) (hb : b ≠ 0) (cl : c ∣ l) (cb : c ∣ b) : Rat.divInt (h * b.fdiv c + t * l.fdiv c) (l * b.fdiv c) = Rat.divInt h l + Rat.divInt t b ∧ l * b.fdiv c ≠ 0 := by
  have c0 : c ≠ 0 := fun z => hl (by obtain ⟨k, e⟩ := cl; rw [e, z, Int.zero_mul])
  obtain ⟨l', rfl⟩ := cl
  obtain ⟨b', rfl⟩ := cb
  have e1 : (c * b').fdiv c = b' := by rw [Int.fdiv_eq_ediv_of_dvd ⟨b', rfl⟩, Int.mul_ediv_cancel_left _ c0]
  have e2 : (c * l').fdiv c = l' := by rw [Int.fdiv_eq_ediv_of_dvd ⟨l', rfl⟩, Int.mul_ediv_cancel_left _ c0]
  have b0 : b' ≠ 0 := fun z => hb (by rw [z, Int.mul_zero])
  have n0 : c * l' * b' ≠ 0 := Int.mul_ne_zero hl b0
  rw [e1, e2, Rat.divInt_add_divInt _ _ hl hb]
  refine ⟨frac_same n0 (Int.mul_ne_zero hl hb) ?_, n0⟩
  rw [Int.add_mul, Int.add_mul]
  congr 1 <;> ac_rfl
/-! ### a number out of a table -/
theorem CN.snoc {ok : Int → Prop} : ∀ {n : Nm} {x : Tr}, CN ok n → CT ok x → (∀ y ∈ n, y.1 < x.1) → CN ok (n ++ [x])
  | [], x, _, hx, _ => ⟨fun y hy => by rw [List.nil_append, List.mem_singleton] at hy; exact hy ▸ hx, nb_mk (fun y hy => by simp at hy) (fun i a b ha => by simp at ha)⟩
  | y :: n, x, h, hx, up => by
    have ih := CN.snoc h.tail hx fun z hz => up z (List.mem_cons_of_mem _ hz)
    refine ⟨fun z hz => ?_, nb_mk (fun z hz => ?_) ih.2⟩
    · rcases List.mem_cons.mp hz with rfl | hz
      · exact h.1 z List.mem_cons_self
      · exact ih.1 z hz
    · rcases List.mem_append.mp hz with hz | hz
      · exact h.up z hz
      · rw [List.mem_singleton.mp hz]; exact up y List.mem_cons_self
end N3

namespace N3
open PySem PySem.Spec PyProof.Rows L2 N2
/-! ### sums of numbers -/
def spAddT : Sp := fun vs H Q _ => ∃ (a : Addr) (d x y : Int) (kvs : List (Key × V)) (ts : Nm) (B C : Nat), vs = [.ref a, .int d, .int x, .int y] ∧ H a = some (.dK kvs) ∧ TotR H kvs ts ∧ Ks ts ∧ Sz B ts ∧ x.natAbs < 2 ^ C ∧ y ≠ 0 ∧ y.natAbs < 2 ^ C ∧ B + C + 1 ≤ 8000 ∧ ts.length ≤ 1000 ∧
  ∀ (kvs' : List (Key × V)) (t b : Int) (H' : Hp), H' a = some (.dK kvs') → TotR H' kvs' (putN ts d t b) → Rat.divInt t b = co ts d + Rat.divInt x y → t.natAbs < 2 ^ (B + C + 1) → b ≠ 0 → b.natAbs < 2 ^ (B + C + 1) → (∀ c o, H c = some o → c ≠ a → H' c = some o) → Q .non H'
theorem log_lt {i : Int} {B : Nat} (h : i.natAbs < 2 ^ B) : i.natAbs.log2 ≤ B := by
  rcases Nat.eq_zero_or_pos i.natAbs with z | z
  · rw [z]; exact Nat.zero_le _
  · have := (Nat.log2_lt (by omega : i.natAbs ≠ 0)).mpr h; omega
theorem fdiv_le {x c : Int} (h : c ∣ x) : (x.fdiv c).natAbs ≤ x.natAbs := by
  rw [Int.fdiv_eq_ediv_of_dvd h]
  exact Int.natAbs_ediv_le_natAbs _ _
theorem mul_bit {x y : Int} {B C : Nat} (h : x.natAbs < 2 ^ B) (k : y.natAbs < 2 ^ C) : (x * y).natAbs < 2 ^ (B + C) := by
  rw [Int.natAbs_mul, Nat.pow_add]
  exact Nat.mul_lt_mul'' h k
theorem add_bit {x y : Int} {B : Nat} (h : x.natAbs < 2 ^ B) (k : y.natAbs < 2 ^ B) : (x + y).natAbs < 2 ^ (B + 1) := by
  have := Int.natAbs_add_le x y
  rw [Nat.pow_succ]
  omega
theorem bit_up {x : Int} {B C : Nat} (h : x.natAbs < 2 ^ B) (k : B ≤ C) : x.natAbs < 2 ^ C := Nat.lt_of_lt_of_le h (Nat.pow_le_pow_right (by decide) k)
section
variable {P : Program} {w : World} {K : PySem.W.Frag} {mg : Str → Option Value} {base : Heap}
abbrev s_add_term : Stmt := top 15
theorem sc_add_term : FnScope ["totals", "d", "top", "bottom", "high", "low", "common"] ["totals", "d", "top", "bottom"] (defScope s_add_term) := ⟨rfl, rfl, rfl, by decide +kernel, rfl, by decide +kernel, by decide +kernel⟩
theorem ok_add_term {f  : Addr} {fd  : FuncData}  (F : Fun K "add_term" "add_term" s_add_term f fd) (T : Bt mg)  : FnOk P w K mg base CX0 2 f fd ["totals", "d", "top", "bottom"] spAddT := by
  refine F.ok sc_add_term (fun vs H Q E h => ?_) (fun cdv A outer s H vs Q E hr h => ?_)
  · obtain ⟨a, d, x, y, kvs, ts, B, C, rfl, _⟩ := h
    rfl
  · obtain ⟨a, d, x, y, kvs, ts, B, C, rfl, ha, tr, nd, sz, hx, y0, hy, bc, len, k⟩ := h
    have hu := hu_of hr
    refine ⟨_, C8.pss_cut (ps_if (pt_cmp (pc_din hu (pv 1) (pv 0)))
        (pss_cons (ps_asg (pe_dget hu (pv 0) (pv 1) (fun _ _ => rfl)) (pg_tup rfl (pgs_cons (pg_name (i := 4) sc_add_term.nd rfl (Or.inl rfl)) (pgs_cons (pg_name (i := 5) sc_add_term.nd rfl (Or.inl rfl)) pgs_nil))))
        (C8.pss_cut (ps_set (i := 6) sc_add_term.nd rfl (Or.inl rfl) (pe_ifExp (pt_cmpR op_eq (pv 5) (pv 3) (nomark _)) (pv 3) (pe_callBfun cr_gcd (by rfl) T.gcd (pa_cons (pv 5) (pa_cons (pv 3) pa_nil)))))
        (pss_one (ps_par (i := 2) (j := 3) rfl sc_add_term.nd rfl rfl (by decide) rfl rfl (pa_cons (pe_op op_add (pe_op op_mulW (pv 4) (pe_op op_fdivZ (pv 3) (pv 6))) (pe_op op_mulW (pv 2) (pe_op op_fdivZ (pv 5) (pv 6)))) (pa_cons (pe_op op_mulW (pv 5) (pe_op op_fdivZ (pv 3) (pv 6))) pa_nil)) (by rfl)))))
        pss_nil)
      (pss_one (ps_dput hu (pv 0) (pv 1) (pe_tup (pa_cons (pv 2) (pa_cons (pv 3) pa_nil))) rfl)), ?_⟩
    have lgs : ∀ {i : Int} {D : Nat}, i.natAbs < 2 ^ D → D ≤ 8000 → i.natAbs.log2 ≤ 8000 := fun h k => Nat.le_trans (log_lt h) k
    refine ⟨fun σ' H' => ∃ (t b : Int) (y4 y5 y6 : Option V), σ' = [some (.ref a), some (.int d), some (.int t), some (.int b), y4, y5, y6] ∧ H = H' ∧ Rat.divInt t b = co ts d + Rat.divInt x y ∧ t.natAbs < 2 ^ (B + C + 1) ∧ b ≠ 0 ∧ b.natAbs < 2 ^ (B + C + 1), ?_, ?_⟩
    · rcases tr.get d with ⟨hv, hd⟩ | ⟨q, h', l, hv, hq, hm⟩
      · have dg : DGet H a (.int d) none := hv ▸ DGet.k (k := Sum.inl d) ha
        refine ⟨_, rfl, _, rfl, a, none, rfl, dg, _, rfl, iteF ?_⟩
        exact ⟨x, y, _, _, _, rfl, rfl, by rw [co_off hd, Rat.zero_add], bit_up hx (by omega), y0, bit_up hy (by omega)⟩
      · have dg : DGet H a (.int d) (some (.ref q)) := hv ▸ DGet.k (k := Sum.inl d) ha
        obtain ⟨bh, l0, bl⟩ := sz _ hm
        have cod := co_at nd hm
        refine ⟨_, rfl, _, rfl, a, _, rfl, dg, _, rfl, iteT ?_⟩
        refine ⟨_, rfl, _, rfl, a, .ref q, rfl, dg, q, _, rfl, SqT.of hq, rfl, _, _, rfl, _, _, rfl, rfl, ?_⟩
        refine ⟨fun σ' H' => ∃ c : Int, σ' = [some (.ref a), some (.int d), some (.int x), some (.int y), some (.int h'), some (.int l), some (.int c)] ∧ H = H' ∧ c ∣ l ∧ c ∣ y ∧ c ≠ 0 ∧ c.natAbs ≤ y.natAbs, ?_, ?_⟩
        · refine ⟨_, rfl, _, rfl, rfl, _, rfl, ite_b (fun c => ?_) (fun c => ?_)⟩
          · have e : l = y := V.int.inj (of_decide_eq_true c)
            exact ⟨_, rfl, y, rfl, rfl, e ▸ Int.dvd_refl _, Int.dvd_refl _, y0, Nat.le_refl _⟩
          · have g1 : 1 ≤ Nat.gcd l.natAbs y.natAbs := Nat.gcd_pos_of_pos_right _ (by omega)
            have g2 : Nat.gcd l.natAbs y.natAbs ≤ y.natAbs := Nat.le_of_dvd (by omega) (Nat.gcd_dvd_right _ _)
            exact ⟨_, rfl, _, rfl, l, y, rfl, _, rfl, rfl, Int.ofNat_dvd_left.mpr (Nat.gcd_dvd_left _ _), Int.ofNat_dvd_left.mpr (Nat.gcd_dvd_right _ _), by omega, by omega⟩
        · rintro σ' H' ⟨c, rfl, rfl, cl, cy, c0, cle⟩
          have lc : c.natAbs.log2 < 9000 := by have := lgs (Nat.lt_of_le_of_lt cle hy) (by omega); omega
          have by_ := Nat.lt_of_le_of_lt (fdiv_le cy) hy
          have bl_ := Nat.lt_of_le_of_lt (fdiv_le cl) bl
          have w : ∀ {i j : Int} {D D' : Nat}, i.natAbs < 2 ^ D → j.natAbs < 2 ^ D' → D ≤ 8000 → D' ≤ 8000 → CMulW i j := fun {i j D D'} h k u v => by
            have := lgs h u
            have := lgs k v
            show i.natAbs.log2 + j.natAbs.log2 < 1000000
            omega
          obtain ⟨es, n0⟩ := frac_add (h := h') (t := x) l0 y0 cl cy
          refine ⟨_, rfl, _, rfl, _, rfl, _, _, rfl, rfl, ⟨c0, lc⟩, _, _, rfl, rfl, w bh by_ (by omega) (by omega), ?_⟩
          refine ⟨_, rfl, _, rfl, _, rfl, _, _, rfl, rfl, ⟨c0, lc⟩, _, _, rfl, rfl, w hx bl_ (by omega) (by omega), _, _, rfl, rfl, ?_⟩
          refine ⟨_, rfl, _, rfl, _, rfl, _, _, rfl, rfl, ⟨c0, lc⟩, _, _, rfl, rfl, w bl by_ (by omega) (by omega), _, _, rfl, ?_⟩
          refine ⟨_, _, _, _, _, rfl, rfl, by rw [es, cod], add_bit (mul_bit bh by_) ?_, n0, bit_up (mul_bit bl by_) (by omega)⟩
          rw [Nat.add_comm]
          exact mul_bit hx bl_
    · rintro σ' H' ⟨t, b, y4, y5, y6, rfl, rfl, e, bt, b0, bb⟩
      refine ⟨_, rfl, _, rfl, by show 2 ≤ sizeLine; rw [sizeLine_eq]; decide, fun p hp => ?_⟩
      have s1 := snew (o := .tup [.int t, .int b]) hp
      have ne : p ≠ a := (ne_of_none ha hp).symm
      have ht : ∀ o b' xs, H b' = some (.tup xs) → upd (upd H p (.tup [.int t, .int b])) a o b' = some (.tup xs) := fun o b' xs h => by
        rw [upd_ne (ne_of h ha (by intro z; cases z))]
        exact s1 _ _ h
      refine ⟨_, rfl, _, rfl, a, _, rfl, DPut.k (k := Sum.inl d) (s1 _ _ ha) (by rw [tr.length]; exact small1000 (by omega)), ?_⟩
      refine k _ t b _ upd_same ((tr.tst (ht _)).put (by rw [upd_ne ne]; exact upd_same)) e bt b0 bb fun c o eo hc => by rw [upd_ne hc]; exact s1 _ _ eo
end
end N3

namespace N3
open PySem PySem.Spec PyProof.Rows L2 N2
/-! ### a number out of a table -/
def spFromT : Sp := fun vs H Q _ => ∃ (a : Addr) (kvs : List (Key × V)) (ts : Nm) (B : Nat) (ok : Int → Prop), vs = [.ref a] ∧ H a = some (.dK kvs) ∧ TotR H kvs ts ∧ Ks ts ∧ Sz B ts ∧ B ≤ 8000 ∧ ts.length < 64 ∧ (∀ x ∈ ts, ok x.1) ∧
  ∀ (n : Nm) (r : Addr) (H' : Hp), Dn H' (.ref r) (encN n) → CN ok n → (∀ d, co n d = co ts d) → Same H H' → Q (.ref r) H'
def TupStay (H H' : Hp) : Prop := ∀ b xs, H b = some (.tup xs) → H' b = some (.tup xs)
theorem dn_encT {H : Hp} {v : V} {x : Tr} (h : Dn H v (encT x)) : ∃ p, v = .ref p ∧ H p = some (.tup [.int x.1, .int x.2.1, .int x.2.2]) := by
  unfold encT at h
  cases h with
  | tup e g => cases g with
    | cons a g => cases g with
      | cons b g => cases g with
        | cons c g => cases g; cases a; cases b; cases c; exact ⟨_, rfl, e⟩
theorem encT_dn {H : Hp} {p : Addr} {x : Tr} (h : H p = some (.tup [.int x.1, .int x.2.1, .int x.2.2])) : Dn H (.ref p) (encT x) := .tup h (.cons (.int _) (.cons (.int _) (.cons (.int _) .nil)))
theorem encTs_tst {H H' : Hp} (s : TupStay H H') : ∀ {acc : List V} {n : Nm}, DnAll H acc (n.map encT) → DnAll H' acc (n.map encT)
  | _, [], h => by cases h; exact .nil
  | _, x :: n, h => by
    rw [List.map_cons] at h ⊢
    cases h with
    | cons a g =>
      obtain ⟨p, rfl, e⟩ := dn_encT a
      exact .cons (encT_dn (s _ _ e)) (encTs_tst s g)
theorem encTs_snoc {H : Hp} {v : V} {x : Tr} (hv : Dn H v (encT x)) : ∀ {acc : List V} {n : Nm}, DnAll H acc (n.map encT) → DnAll H (acc ++ [v]) ((n ++ [x]).map encT)
  | _, [], h => by cases h; exact .cons hv .nil
  | _, y :: n, h => by
    rw [List.map_cons] at h
    cases h with
    | cons a g => exact .cons a (encTs_snoc hv g)
section
variable {P : Program} {w : World} {K : PySem.W.Frag} {mg : Str → Option Value} {base : Heap}
abbrev s_from_totals : Stmt := top 16
theorem sc_from_totals : FnScope ["totals", "found", "d", "top", "bottom"] ["totals"] (defScope s_from_totals) := ⟨rfl, rfl, rfl, by decide +kernel, rfl, by decide +kernel, by decide +kernel⟩
theorem ok_from_totals {f f_lowest : Addr} {fd d_lowest : FuncData}  (F : Fun K "from_totals" "from_totals" s_from_totals f fd) (T : Bt mg) (p_lowest : Kn P w K mg base 1 "lowest" ["top", "bottom"] spLowest f_lowest d_lowest) : FnOk P w K mg base CX0 2 f fd ["totals"] spFromT := by
  refine F.ok sc_from_totals (fun vs H Q E h => ?_) (fun cdv A outer s H vs Q E hr h => ?_)
  · obtain ⟨a, kvs, ts, B, ok, rfl, _⟩ := h
    rfl
  · obtain ⟨a, kvs, ts, B, ok, rfl, ha, tr, nd, sz, b8, len, oks, k⟩ := h
    have hu := hu_of hr
    refine ⟨_, pss_cons (ps_set (i := 1) sc_from_totals.nd rfl (Or.inl rfl) (pe_lst pa_nil))
      (pss_cons (ps_for PassesOwn.never rfl (pi_list (pe_callB (call_sortedDI rfl) (by rfl) T.sorted (by decide +kernel) (pa_cons (pv 0) pa_nil))) (pg_name (i := 2) sc_from_totals.nd rfl (Or.inl rfl))
        (pss_one (ps_if (pt_cmpR op_ne (pe_ix (r := rIx K) ix_seq (pe_dget hu (pv 0) (pv 2) (fun _ _ => rfl)) pe_int (fun _ _ => rfl)) pe_int (nomark _))
          (pss_cons (ps_asg (pe_call p_lowest.ok (hr.mono (by decide)) rfl p_lowest.mg p_lowest.kp p_lowest.bd .nil pass0 (pa_cons (pe_ix (r := rIx K) ix_seq (pe_dget hu (pv 0) (pv 2) (fun _ _ => rfl)) pe_int (fun _ _ => rfl)) (pa_cons (pe_ix (r := rIx K) ix_seq (pe_dget hu (pv 0) (pv 2) (fun _ _ => rfl)) pe_int (fun _ _ => rfl)) pa_nil))) (pg_tup rfl (pgs_cons (pg_name (i := 3) sc_from_totals.nd rfl (Or.inl rfl)) (pgs_cons (pg_name (i := 4) sc_from_totals.nd rfl (Or.inl rfl)) pgs_nil))))
          (pss_one (ps_expr (pe_bm PySem.F.plainAttrs_list PySem.F.slot_list_append PySem.F.type_list_append mt_append (pv 1) (pa_cons (pe_tup (pa_cons (pv 2) (pa_cons (pv 3) (pa_cons (pv 4) pa_nil)))) pa_nil)))))
          pss_nil)))
      (pss_one (ps_ret (pe_callTy call_tuple_of (by rfl) T.tuple (by decide +kernel) (pa_cons (pv 1) pa_nil))))), ?_⟩
    refine ⟨Nat.zero_le _, fun fl hf => ?_⟩
    have s0 := snew (o := .lst []) hf
    refine ⟨_, rfl, a, kvs, ts.map (·.1), rfl, .inl (s0 _ _ ha), tr.keys, by rw [List.length_map]; exact len, fun ys q perm srt hq => ⟨q, rfl, ⟨_, SqL.of upd_same⟩, ?_⟩⟩
    have fq : fl ≠ q := ne_of_none upd_same hq
    have lt : ys.Pairwise (· < ·) := (List.Pairwise.and srt (perm.nodup_iff.mpr nd)).imp fun ⟨a, b⟩ => by omega
    have ly : ys.length = ts.length := by rw [perm.length_eq, List.length_map]
    refine for_list (K := K) (a := q) (xs := ys.map V.int) (fun i σ H' => ∃ (acc : List V) (n : Nm) (x2 x3 x4 : Option V), σ = [some (.ref a), some (.ref fl), x2, x3, x4] ∧ H' fl = some (.lst acc) ∧ DnAll H' acc (n.map encT) ∧ n.length ≤ i ∧ CN ok n ∧ (∀ x ∈ n, x.1 ∈ ys.take i) ∧ (∀ e, co n e = if e ∈ ys.take i then co ts e else 0) ∧ Same H H' ∧ H' q = some (.lst (ys.map V.int)))
      ⟨[], [], _, _, _, rfl, by rw [upd_ne fq]; exact upd_same, .nil, Nat.le_refl _, CN.nil, fun x hx => by simp at hx, fun e => by simp [co], s0.trans (snew hq), upd_same⟩ (fun i σ H' _ ⟨_, _, _, _, _, _, _, _, _, _, _, _, _, e⟩ => SqL.of e) ?_ ?_
    · rintro i y σ H' hy ⟨acc, n, x2, x3, x4, rfl, e1, dn, ln, cn, up, con, s1, e2⟩
      obtain ⟨d, ed, rfl⟩ := map_get hy
      have hi : i < ys.length := (List.getElem?_eq_some_iff.mp ed).1
      have edi : ys[i] = d := (List.getElem?_eq_some_iff.mp ed).2
      have dm : d ∈ ts.map (·.1) := perm.mem_iff.mp (List.mem_of_getElem? ed)
      have below : ∀ e ∈ ys.take i, e < d := fun e he => by
        have h := lt
        rw [← List.take_append_drop i ys, List.drop_eq_getElem_cons hi, edi, List.pairwise_append] at h
        exact h.2.2 e he d List.mem_cons_self
      have tk : ∀ e, e ∈ ys.take (i + 1) ↔ e ∈ ys.take i ∨ e = d := fun e => by
        rw [List.take_add_one, ed]
        simp
      rcases tr.get d with ⟨_, hd⟩ | ⟨p, t, b, hv, hp, hm⟩
      · exact absurd dm hd
      have dg : DGet H' a (.int d) (some (.ref p)) := hv ▸ DGet.k (k := Sum.inl d) (s1 _ _ ha)
      have hp' := s1 _ _ hp
      have cod := co_at nd hm
      obtain ⟨bt, b0, bb⟩ := sz _ hm
      refine ⟨_, rfl, _, rfl, a, _, rfl, dg, .inr (.inl ⟨p, _, _, _, rfl, rfl, SqT.of hp', rfl, rfl, _, rfl, ite2 (fun c => ?_) (fun c => ?_)⟩)⟩
      · have t0 : t ≠ 0 := by
          intro z
          subst z
          simp at c
        refine ⟨_, rfl, _, rfl, a, _, rfl, dg, .inr (.inl ⟨p, _, _, _, rfl, rfl, SqT.of hp', rfl, _, rfl, _, rfl, a, _, rfl, dg, .inr (.inl ⟨p, _, _, _, rfl, rfl, SqT.of hp', rfl, t, b, rfl, b0, bit_up bb b8, fun p2 t' b' H2 lo hp2 s2 => ?_⟩)⟩)⟩
        refine ⟨p2, _, rfl, SqT.of hp2, rfl, _, _, rfl, _, _, rfl, rfl, ?_⟩
        have e1' := s2 _ _ e1
        refine ⟨_, rfl, .inl ⟨rfl, _, .inl (.inl e1')⟩, _, rfl, _, rfl, _, rfl, by show 3 ≤ sizeLine; rw [sizeLine_eq]; decide, fun m hm' => ?_⟩
        have sn := snew (o := .tup [.int d, .int t', .int b']) hm'
        have la : acc.length = n.length := by rw [dn.length, List.length_map]
        refine ⟨fl, acc, _, rfl, rfl, sn _ _ e1', small1000 (by omega), ?_⟩
        have tst : TupStay H' (upd (upd H2 m (.tup [.int d, .int t', .int b'])) fl (.lst (acc ++ [.ref m]))) := fun b xs h => by
          rw [upd_ne (ne_of (s2 _ _ h) e1' (by intro z; cases z))]
          exact sn _ _ (s2 _ _ h)
        have mf : m ≠ fl := (ne_of_none e1' hm').symm
        have t'0 : t' ≠ 0 := fun z => by
          have := lo.eq
          rw [z, Int.zero_mul] at this
          rcases Int.mul_eq_zero.mp this.symm with h | h
          · exact t0 h
          · have := (low_pos lo.low).1
            omega
        refine ⟨acc ++ [.ref m], n ++ [(d, t', b')], _, _, _, rfl, upd_same, encTs_snoc (encT_dn (by rw [upd_ne mf]; exact upd_same)) (encTs_tst tst dn), by rw [List.length_append]; show _ + 1 ≤ _; omega, cn.snoc ⟨oks (d, t, b) hm, t'0, lo.low⟩ (fun z hz => below _ (up z hz)), fun z hz => ?_, fun e => ?_, fun c o eo => ?_, ?_⟩
        · rcases List.mem_append.mp hz with hz | hz
          · exact (tk _).mpr (.inl (up z hz))
          · rw [List.mem_singleton.mp hz]; exact (tk _).mpr (.inr rfl)
        · have one : co [(d, t', b')] e = if d = e then Rat.divInt t' b' else 0 := by rw [co_cons, co_nil, Rat.add_zero]
          rw [co_app, one, con e]
          by_cases c1 : e = d
          · subst c1
            rw [if_neg (fun z => by have := below _ z; omega), if_pos rfl, if_pos ((tk _).mpr (.inr rfl)), Rat.zero_add, ← low_val b0 lo]
            exact cod.symm
          · rw [if_neg (show ¬ d = e from fun z => c1 z.symm), Rat.add_zero]
            by_cases c2 : e ∈ ys.take i
            · rw [if_pos c2, if_pos ((tk _).mpr (.inl c2))]
            · rw [if_neg c2, if_neg (fun z => ((tk _).mp z).elim c2 c1)]
        · rw [upd_ne (ne_of_none eo hf)]
          exact sn _ _ (s2 _ _ (s1 _ _ eo))
        · rw [upd_ne fq.symm]; exact sn _ _ (s2 _ _ e2)
      · have t0 : t = 0 := by
          by_cases z : t = 0
          · exact z
          · simp [z] at c
        refine ⟨acc, n, _, _, _, rfl, e1, dn, by omega, cn, fun z hz => (tk _).mpr (.inl (up z hz)), fun e => ?_, s1, e2⟩
        rw [con e]
        by_cases c1 : e = d
        · subst c1
          rw [if_neg (fun z => by have := below _ z; omega), if_pos ((tk _).mpr (.inr rfl))]
          have : co ts e = Rat.divInt t b := cod
          rw [this, t0, Rat.zero_divInt]
        · by_cases c2 : e ∈ ys.take i
          · rw [if_pos c2, if_pos ((tk _).mpr (.inl c2))]
          · rw [if_neg c2, if_neg (fun z => ((tk _).mp z).elim c2 c1)]
    · rintro σ H' ⟨acc, n, x2, x3, x4, rfl, e1, dn, ln, cn, up, con, s1, e2⟩
      refine ⟨_, rfl, fl, acc, rfl, .inl ⟨SqL.of e1, fun r hr' => ?_⟩⟩
      have sr := snew (o := .tup acc) hr'
      refine k n r _ (.tup upd_same (encTs_tst (fun b xs h => sr _ _ h) dn)) cn (fun d => ?_) (s1.trans sr)
      rw [con d, List.length_map, List.take_length]
      split
      · rfl
      · next c => exact (co_off fun z => c (perm.mem_iff.mpr z)).symm
end
end N3

namespace N3
open PySem PySem.Spec PyProof.Rows L2 N2
/-! ### weighted sums -/
abbrev Pt := Nm × Int × Int
def PartAt (H : Hp) (v : V) (p : Pt) : Prop := ∃ (a : Addr) (u : V), v = .ref a ∧ H a = some (.tup [u, .int p.2.1, .int p.2.2]) ∧ Dn H u (encN p.1)
theorem PartAt.same {H H' : Hp} {v : V} {p : Pt} (s : Same H H') (h : PartAt H v p) : PartAt H' v p := let ⟨a, u, e, h1, h2⟩ := h; ⟨a, u, e, s _ _ h1, Dn.mono s _ _ h2⟩
/-- what the parts come to -/
def ws : List Pt → Int → Rat
  | [], _ => 0
  | p :: ps, d => Rat.divInt p.2.1 p.2.2 * co p.1 d + ws ps d
def tm : List Pt → Nat
  | [] => 0
  | p :: ps => p.1.length + tm ps
theorem ws_app : ∀ (ps qs : List Pt) (d : Int), ws (ps ++ qs) d = ws ps d + ws qs d
  | [], qs, d => (Rat.zero_add _).symm
  | p :: ps, qs, d => by
    show Rat.divInt p.2.1 p.2.2 * co p.1 d + ws (ps ++ qs) d = Rat.divInt p.2.1 p.2.2 * co p.1 d + ws ps d + ws qs d
    rw [ws_app ps qs d, Rat.add_assoc]
theorem tm_app : ∀ (ps qs : List Pt), tm (ps ++ qs) = tm ps + tm qs
  | [], qs => (Nat.zero_add _).symm
  | p :: ps, qs => by
    show p.1.length + tm (ps ++ qs) = p.1.length + tm ps + tm qs
    rw [tm_app ps qs, Nat.add_assoc]
theorem ws_take {ps : List Pt} {i : Nat} {p : Pt} (h : ps[i]? = some p) (d : Int) : ws (ps.take (i + 1)) d = ws (ps.take i) d + Rat.divInt p.2.1 p.2.2 * co p.1 d := by
  rw [List.take_add_one, h, ws_app]
  show _ + (Rat.divInt p.2.1 p.2.2 * co p.1 d + 0) = _
  rw [Rat.add_zero]
theorem tm_take {ps : List Pt} {i : Nat} {p : Pt} (h : ps[i]? = some p) : tm (ps.take (i + 1)) = tm (ps.take i) + p.1.length := by
  rw [List.take_add_one, h, tm_app]
  rfl
theorem tm_le {ps : List Pt} (i : Nat) : tm (ps.take i) ≤ tm ps := by
  have := tm_app (ps.take i) (ps.drop i)
  rw [List.take_append_drop] at this
  omega
theorem co_take {n : Nm} {j : Nat} {x : Tr} (h : n[j]? = some x) (d : Int) : co (n.take (j + 1)) d = co (n.take j) d + if x.1 = d then Rat.divInt x.2.1 x.2.2 else 0 := by
  rw [List.take_add_one, h, co_app]
  show _ + ((if x.1 = d then Rat.divInt x.2.1 x.2.2 else 0) + 0) = _
  rw [Rat.add_zero]
theorem dn_encN {H : Hp} {v : V} {n : Nm} (h : Dn H v (encN n)) : ∃ c xs, v = .ref c ∧ H c = some (.tup xs) ∧ DnAll H xs (n.map encT) := by
  unfold encN at h
  cases h with
  | tup e g => exact ⟨_, _, rfl, e, g⟩
def spWSum (K : PySem.W.Frag) : Sp := fun vs H Q _ => ∃ (l : Addr) (xs : List V) (ps : List Pt) (C W : Nat) (ok : Int → Prop), vs = [.ref l] ∧ SqL K H l xs ∧ xs.length = ps.length ∧ (∀ (i : Nat) (v : V) (p : Pt), xs[i]? = some v → ps[i]? = some p → PartAt H v p) ∧
  (∀ p ∈ ps, Sz C p.1 ∧ (∀ x ∈ p.1, ok x.1) ∧ p.2.1.natAbs < 2 ^ W ∧ p.2.2 ≠ 0 ∧ p.2.2.natAbs < 2 ^ W) ∧ tm ps < 64 ∧ tm ps * (C + W + 1) ≤ 7900 ∧ C + W + 1 ≤ 7900 ∧
  ∀ (n : Nm) (r : Addr) (H' : Hp), Dn H' (.ref r) (encN n) → CN ok n → (∀ d, co n d = ws ps d) → Same H H' → Q (.ref r) H'
/-- the table under way -/
def Tot (H : Hp) (td : Addr) (G : Nat) (len : Nat) (ok : Int → Prop) (f : Int → Rat) : Prop := ∃ (kvs : List (Key × V)) (ts : Nm), H td = some (.dK kvs) ∧ TotR H kvs ts ∧ Ks ts ∧ Sz G ts ∧ ts.length ≤ len ∧ (∀ x ∈ ts, ok x.1) ∧ ∀ d, co ts d = f d
section
variable {P : Program} {w : World} {K : PySem.W.Frag} {mg : Str → Option Value} {base : Heap}
abbrev s_weighted_sum : Stmt := top 17
theorem sc_weighted_sum : FnScope ["parts", "totals", "number", "top", "bottom", "d", "high", "low"] ["parts"] (defScope s_weighted_sum) := ⟨rfl, rfl, rfl, by decide +kernel, rfl, by decide +kernel, by decide +kernel⟩
theorem ok_weighted_sum {f f_add_term f_from_totals : Addr} {fd d_add_term d_from_totals : FuncData}  (F : Fun K "weighted_sum" "weighted_sum" s_weighted_sum f fd) (T : Bt mg) (p_add_term : Kn P w K mg base 2 "add_term" ["totals", "d", "top", "bottom"] spAddT f_add_term d_add_term) (p_from_totals : Kn P w K mg base 2 "from_totals" ["totals"] spFromT f_from_totals d_from_totals) : FnOk P w K mg base CX0 3 f fd ["parts"] (spWSum K) := by
  refine F.ok sc_weighted_sum (fun vs H Q E h => ?_) (fun cdv A outer s H vs Q E hr h => ?_)
  · obtain ⟨l, xs, ps, C, W, ok, rfl, _⟩ := h
    rfl
  · obtain ⟨l, xs, ps, C, W, ok, rfl, hl, lx, at_, cond, t64, tb, cb, k⟩ := h
    have hu := hu_of hr
    refine ⟨_, pss_cons (ps_set (i := 1) sc_weighted_sum.nd rfl (Or.inl rfl) pe_dnewK)
      (pss_cons (ps_for PassesOwn.never rfl (pi_list (pv 0)) (pg_tup rfl (pgs_cons (pg_name (i := 2) sc_weighted_sum.nd rfl (Or.inl rfl)) (pgs_cons (pg_name (i := 3) sc_weighted_sum.nd rfl (Or.inl rfl)) (pgs_cons (pg_name (i := 4) sc_weighted_sum.nd rfl (Or.inl rfl)) pgs_nil))))
        (pss_one (ps_for PassesOwn.never rfl (pi_tup (pv 2)) (pg_tup rfl (pgs_cons (pg_name (i := 5) sc_weighted_sum.nd rfl (Or.inl rfl)) (pgs_cons (pg_name (i := 6) sc_weighted_sum.nd rfl (Or.inl rfl)) (pgs_cons (pg_name (i := 7) sc_weighted_sum.nd rfl (Or.inl rfl)) pgs_nil))))
          (pss_one (ps_expr (pe_call p_add_term.ok (hr.mono (by decide)) rfl p_add_term.mg p_add_term.kp p_add_term.bd .nil pass0 (pa_cons (pv 1) (pa_cons (pv 5) (pa_cons (pe_op op_mulW (pv 6) (pv 3)) (pa_cons (pe_op op_mulW (pv 7) (pv 4)) pa_nil))))))))))
      (pss_one (ps_ret (pe_call p_from_totals.ok (hr.mono (by decide)) rfl p_from_totals.mg p_from_totals.kp p_from_totals.bd .nil pass0 (pa_cons (pv 1) pa_nil))))), ?_⟩
    obtain ⟨G, eG⟩ : ∃ G, C + W + 1 = G := ⟨_, rfl⟩
    rw [eG] at tb cb
    intro td htd
    have s0 := snew (o := .dK []) htd
    refine ⟨_, rfl, l, rfl, ⟨_, s0.seq hl⟩, for_list (K := K) (a := l) (xs := xs) (fun i σ H' => (∃ x2 x3 x4 x5 x6 x7 : Option V, σ = [some (.ref l), some (.ref td), x2, x3, x4, x5, x6, x7]) ∧ Same H H' ∧ Tot H' td (tm (ps.take i) * G) (tm (ps.take i)) ok (ws (ps.take i)))
      ⟨⟨_, _, _, _, _, _, rfl⟩, s0, [], [], upd_same, .nil, List.nodup_nil, fun x hx => by simp at hx, Nat.zero_le _, fun x hx => by simp at hx, fun d => rfl⟩ (fun i σ H' _ ⟨_, s', _⟩ => s'.seq hl) ?_ ?_⟩
    · rintro i v σ H1 hv ⟨⟨x2, x3, x4, x5, x6, x7, rfl⟩, s1, tot⟩
      have hi : i < xs.length := (List.getElem?_eq_some_iff.mp hv).1
      obtain ⟨p, hp⟩ : ∃ p, ps[i]? = some p := ⟨ps[i], List.getElem?_eq_getElem (by omega)⟩
      obtain ⟨n, top, bot⟩ := p
      obtain ⟨a, u, rfl, ha, hn⟩ := at_ i v _ hv hp
      obtain ⟨szn, okn, w1, w2, w3⟩ := cond _ (List.mem_of_getElem? hp)
      obtain ⟨c, ys, rfl, hc, hys⟩ := dn_encN hn
      have ly : ys.length = n.length := by rw [hys.length, List.length_map]
      have tk := tm_take hp
      have tle := tm_le (ps := ps) (i + 1)
      have ntd : ∀ {b : Addr} {o : HO}, H b = some o → b ≠ td := fun h z => by rw [z, htd] at h; cases h
      refine ⟨a, _, rfl, SqT.of (s1 _ _ ha), rfl, _, _, rfl, _, _, rfl, _, _, rfl, rfl, ?_⟩
      obtain ⟨T0, eT⟩ : ∃ T0, tm (ps.take i) = T0 := ⟨_, rfl⟩
      rw [eT] at tk tot
      refine ⟨_, rfl, c, rfl, ⟨_, SqT.of (s1 _ _ hc)⟩, for_tup (K := K) (a := c) (xs := ys) (fun j σ H' => (∃ x5 x6 x7 : Option V, σ = [some (.ref l), some (.ref td), some (.ref c), some (.int top), some (.int bot), x5, x6, x7]) ∧ Same H H' ∧ Tot H' td ((T0 + j) * G) (T0 + j) ok (fun d => ws (ps.take i) d + Rat.divInt top bot * co (n.take j) d))
        ⟨⟨_, _, _, rfl⟩, s1, by
          obtain ⟨kvs, ts, e1, tr, nd, sz, len, oks, con⟩ := tot
          exact ⟨kvs, ts, e1, tr, nd, sz, len, oks, fun d => by rw [con d]; show _ = _ + _ * (0 : Rat); rw [Rat.mul_zero, Rat.add_zero]⟩⟩ (fun j σ H' _ ⟨_, s', _⟩ => SqT.of (s' _ _ hc)) ?_ ?_⟩
      · rintro j v σ H2 hv2 ⟨⟨x5', x6', x7', rfl⟩, s2, kvs, ts, e1, tr, nd, sz, len, oks, con⟩
        have hj : j < ys.length := (List.getElem?_eq_some_iff.mp hv2).1
        obtain ⟨dd, edd, dn⟩ := hys.at_ hv2
        rw [List.getElem?_map] at edd
        obtain ⟨x, hx, rfl⟩ := Option.map_eq_some_iff.mp edd
        obtain ⟨d, t, b⟩ := x
        obtain ⟨q, rfl, hq⟩ := dn_encT dn
        have mx := List.mem_of_getElem? hx
        obtain ⟨zt, z0, zb⟩ := szn _ mx
        have Tj : T0 + j + 1 ≤ tm ps := by
          have : j + 1 ≤ n.length := by omega
          show T0 + j + 1 ≤ _
          have e : tm (ps.take (i + 1)) = T0 + n.length := tk
          omega
        have Gj : (T0 + j) * G + G ≤ 7900 := by
          have h1 : (T0 + j + 1) * G ≤ tm ps * G := Nat.mul_le_mul_right _ Tj
          rw [Nat.succ_mul] at h1
          omega
        have w : ∀ {i j : Int} {D D' : Nat}, i.natAbs < 2 ^ D → j.natAbs < 2 ^ D' → D ≤ 8000 → D' ≤ 8000 → CMulW i j := fun {i j D D'} h k u v => by
          have := log_lt h
          have := log_lt k
          show i.natAbs.log2 + j.natAbs.log2 < 1000000
          omega
        refine ⟨q, _, rfl, SqT.of (s2 _ _ hq), rfl, _, _, rfl, _, _, rfl, _, _, rfl, rfl, ?_⟩
        refine ⟨_, rfl, _, rfl, _, rfl, _, rfl, _, _, rfl, rfl, w zt w1 (by omega) (by omega), _, rfl, _, rfl, _, _, rfl, rfl, w zb w3 (by omega) (by omega), ?_⟩
        refine ⟨td, d, t * top, b * bot, kvs, ts, (T0 + j) * G, C + W, rfl, e1, tr, nd, sz, mul_bit zt w1, Int.mul_ne_zero z0 w2, mul_bit zb w3, by omega, by omega, fun kvs' t' b' H3 e3 tr3 ef bt b0 bb pers => ?_⟩
        have eB : (T0 + j) * G + (C + W) + 1 = (T0 + (j + 1)) * G := by
          rw [← Nat.add_assoc T0 j 1, Nat.succ_mul, ← eG]
          omega
        rw [eB] at bt bb
        refine ⟨⟨_, _, _, rfl⟩, fun c' o eo => pers _ _ (s2 _ _ eo) (ntd eo), kvs', putN ts d t' b', e3, tr3, putN_ks nd, putN_sz sz (Nat.mul_le_mul_right _ (by omega)) bt b0 bb, by have := putN_len (ts := ts) (d := d) (t := t') (b := b'); omega, fun z hz => ?_, fun e => ?_⟩
        · rcases putN_mem hz with rfl | ⟨hz, _⟩
          · exact okn (d, t, b) mx
          · exact oks _ hz
        · show co (putN ts d t' b') e = ws (ps.take i) e + Rat.divInt top bot * co (n.take (j + 1)) e
          rw [putN_co nd, co_take (n := n) (j := j) (x := (d, t, b)) hx]
          show (if d = e then Rat.divInt t' b' else co ts e) = ws (ps.take i) e + Rat.divInt top bot * (co (n.take j) e + if d = e then Rat.divInt t b else 0)
          by_cases ce : d = e
          · subst ce
            rw [if_pos rfl, if_pos rfl, ef, con d, Rat.mul_add, Rat.add_assoc, Rat.mul_comm (Rat.divInt top bot) (Rat.divInt t b), Rat.divInt_mul_divInt]
          · rw [if_neg ce, if_neg ce, con e, Rat.add_zero]
      · rintro σ H2 ⟨⟨x5', x6', x7', rfl⟩, s2, kvs, ts, e1, tr, nd, sz, len, oks, con⟩
        have e : tm (ps.take (i + 1)) = T0 + n.length := tk
        rw [ly] at sz len con
        refine ⟨⟨_, _, _, _, _, _, rfl⟩, s2, kvs, ts, e1, tr, nd, e ▸ sz, e ▸ len, oks, fun d => ?_⟩
        rw [con d, List.take_length, ws_take hp]
    · rintro σ H1 ⟨⟨x2, x3, x4, x5, x6, x7, rfl⟩, s1, kvs, ts, e1, tr, nd, sz, len, oks, con⟩
      rw [show ps.take xs.length = ps by rw [lx, List.take_length]] at sz len con
      refine ⟨_, rfl, td, kvs, ts, _, ok, rfl, e1, tr, nd, sz, by omega, by omega, oks, fun n r H2 dn cn con2 s2 => ?_⟩
      exact k n r H2 dn cn (fun d => (con2 d).trans (con d)) (s1.trans s2)
end
end N3

namespace N3
open PySem PySem.Spec PyProof.Rows L2 N2
/-! ### how great a number's parts are, by what it is worth -/
theorem low_le {t b T B : Int} (lo : lowT t b = true) (t0 : t ≠ 0) (hB : B ≠ 0) (e : Rat.divInt t b = Rat.divInt T B) : t.natAbs ≤ T.natAbs ∧ b.natAbs ≤ B.natAbs := by
  obtain ⟨b1, g⟩ := low_pos lo
  have x : t * B = T * b := (Rat.divInt_eq_divInt_iff (by omega) hB).mp e
  have xn : t.natAbs * B.natAbs = T.natAbs * b.natAbs := by rw [← Int.natAbs_mul, ← Int.natAbs_mul, x]
  have T0 : T ≠ 0 := fun z => by
    rw [z, Int.zero_mul] at x
    rcases Int.mul_eq_zero.mp x with h | h
    · exact t0 h
    · exact hB h
  have d1 : b.natAbs ∣ B.natAbs := Nat.Coprime.dvd_of_dvd_mul_left (Nat.Coprime.symm g) ⟨T.natAbs, xn.trans (Nat.mul_comm _ _)⟩
  have d2 : t.natAbs ∣ T.natAbs := Nat.Coprime.dvd_of_dvd_mul_right g ⟨B.natAbs, xn.symm⟩
  exact ⟨Nat.le_of_dvd (by omega) d2, Nat.le_of_dvd (by omega) d1⟩
theorem CN.nodup {ok : Int → Prop} : ∀ {n : Nm}, CN ok n → Ks n
  | [], _ => List.nodup_nil
  | x :: n, h => by
    unfold Ks
    rw [List.map_cons, List.nodup_cons]
    refine ⟨fun m => ?_, CN.nodup h.tail⟩
    obtain ⟨y, hy, e⟩ := List.mem_map.mp m
    have := h.up y hy
    omega
theorem CN.sz {ok : Int → Prop} {n : Nm} {M : Nat} (h : CN ok n) (v : ∀ x ∈ n, ∃ T B : Int, B ≠ 0 ∧ co n x.1 = Rat.divInt T B ∧ T.natAbs < 2 ^ M ∧ B.natAbs < 2 ^ M) : Sz M n := fun x hx => by
  obtain ⟨T, B, hB, e, bT, bB⟩ := v x hx
  obtain ⟨_, t0, lo⟩ := h.1 x hx
  obtain ⟨l1, l2⟩ := low_le lo t0 hB ((co_at h.nodup hx).symm.trans e)
  exact ⟨by omega, by have := (low_pos lo).1; omega, by omega⟩
/-- a coefficient as a fraction with bounded parts -/
theorem Sz.co {ok : Int → Prop} {n : Nm} {C : Nat} (h : CN ok n) (s : Sz C n) (hC : 1 ≤ C) (d : Int) : ∃ t b : Int, b ≠ 0 ∧ co n d = Rat.divInt t b ∧ t.natAbs < 2 ^ C ∧ b.natAbs < 2 ^ C := by
  by_cases c : d ∈ n.map (·.1)
  · obtain ⟨x, hx, rfl⟩ := List.mem_map.mp c
    obtain ⟨s1, s2, s3⟩ := s x hx
    exact ⟨_, _, s2, co_at h.nodup hx, s1, s3⟩
  · have := Nat.pow_le_pow_right (show 0 < 2 by decide) hC
    exact ⟨0, 1, by decide, by rw [co_off c, Rat.zero_divInt], by show 0 < _; omega, by show 1 < _; omega⟩
/-- numbers of that kind have few triples -/
def Few (ok : Int → Prop) (L : Nat) : Prop := ∀ n, CN ok n → n.length ≤ L
theorem sub_len : ∀ {l m : List Int}, l.Nodup → (∀ x ∈ l, x ∈ m) → l.length ≤ m.length
  | [], _, _, _ => Nat.zero_le _
  | x :: l, m, nd, sub => by
    rw [List.nodup_cons] at nd
    have h := sub_len (m := m.erase x) nd.2 fun y hy => (List.mem_erase_of_ne (fun e : y = x => nd.1 (by rw [← e]; exact hy))).mpr (sub y (List.mem_cons_of_mem _ hy))
    have mx := sub x List.mem_cons_self
    have p := List.length_pos_of_mem mx
    rw [List.length_erase_of_mem mx] at h
    rw [List.length_cons]
    omega
theorem few_of {ok : Int → Prop} {menu : List Int} (h : ∀ d, ok d → d ∈ menu) : Few ok menu.length := fun n hn => by
  have nd : (n.map (·.1)).Nodup := hn.nodup
  have := sub_len (l := n.map (·.1)) (m := menu) nd fun d hd => by
    obtain ⟨x, hx, rfl⟩ := List.mem_map.mp hd
    exact h _ (hn.1 x hx).1
  rwa [List.length_map] at this
/-- a number in its one form, with bounded parts -/
def Nu (ok : Int → Prop) (C : Nat) (n : Nm) : Prop := CN ok n ∧ Sz C n
def spScaled : Sp := fun vs H Q _ => ∃ (v : V) (n : Nm) (x y : Int) (C W L : Nat) (ok : Int → Prop), vs = [v, .int x, .int y] ∧ Dn H v (encN n) ∧ Nu ok C n ∧ Few ok L ∧ 1 ≤ C ∧ x.natAbs < 2 ^ W ∧ y ≠ 0 ∧ y.natAbs < 2 ^ W ∧ L < 64 ∧ L * (C + W + 1) ≤ 7900 ∧ C + W + 1 ≤ 7900 ∧
  ∀ (m : Nm) (r : Addr) (H' : Hp), Dn H' (.ref r) (encN m) → Nu ok (C + W) m → (∀ d, co m d = Rat.divInt x y * co n d) → Same H H' → Q (.ref r) H'
def spNSum : Sp := fun vs H Q _ => ∃ (u v : V) (n m : Nm) (C L : Nat) (ok : Int → Prop), vs = [u, v] ∧ Dn H u (encN n) ∧ Dn H v (encN m) ∧ Nu ok C n ∧ Nu ok C m ∧ Few ok L ∧ 1 ≤ C ∧ L < 32 ∧ 2 * L * (C + 2) ≤ 7900 ∧ C + 2 ≤ 7900 ∧
  ∀ (s : Nm) (r : Addr) (H' : Hp), Dn H' (.ref r) (encN s) → Nu ok (2 * C + 1) s → (∀ d, co s d = co n d + co m d) → Same H H' → Q (.ref r) H'
section
variable {P : Program} {w : World} {K : PySem.W.Frag} {mg : Str → Option Value} {base : Heap}
abbrev s_scaled : Stmt := top 18
theorem sc_scaled : FnScope ["number", "top", "bottom"] ["number", "top", "bottom"] (defScope s_scaled) := ⟨rfl, rfl, rfl, by decide +kernel, rfl, by decide +kernel, by decide +kernel⟩
theorem ok_scaled {f f_weighted_sum : Addr} {fd d_weighted_sum : FuncData}  (F : Fun K "scaled" "scaled" s_scaled f fd) (T : Bt mg) (p_weighted_sum : Kn P w K mg base 3 "weighted_sum" ["parts"] (spWSum K) f_weighted_sum d_weighted_sum) : FnOk P w K mg base CX0 4 f fd ["number", "top", "bottom"] spScaled := by
  refine F.ok sc_scaled (fun vs H Q E h => ?_) (fun cdv A outer s H vs Q E hr h => ?_)
  · obtain ⟨v, n, x, y, C, W, L, ok, rfl, _⟩ := h
    rfl
  · obtain ⟨v, n, x, y, C, W, L, ok, rfl, hv, hn, few, c1, hx, y0, hy, l64, lt, cw, k⟩ := h
    refine ⟨_, pss_one (ps_ret (pe_call p_weighted_sum.ok (hr.mono (by decide)) rfl p_weighted_sum.mg p_weighted_sum.kp p_weighted_sum.bd .nil pass0 (pa_cons (pe_lst (pa_cons (pe_tup (pa_cons (pv 0) (pa_cons (pv 1) (pa_cons (pv 2) pa_nil)))) pa_nil)) pa_nil))), ?_⟩
    refine ⟨_, rfl, _, rfl, _, rfl, by show 3 ≤ sizeLine; rw [sizeLine_eq]; decide, fun p hp => ⟨by show 1 ≤ sizeLine; rw [sizeLine_eq]; decide, fun l hl => ?_⟩⟩
    have s1 := snew (o := .tup [v, .int x, .int y]) hp
    have s2 := snew (o := .lst [.ref p]) hl
    have ln := few n hn.1
    refine ⟨l, [.ref p], [(n, x, y)], C, W, ok, rfl, SqL.of upd_same, rfl, fun i u q hu hq => ?_, fun q hq => ?_, ?_, ?_, cw, fun m r H' dm cm com sm => ?_⟩
    · match i, hu, hq with
      | 0, hu, hq => cases hu; cases hq; exact ⟨p, v, rfl, s2 _ _ upd_same, Dn.mono (s1.trans s2) _ _ hv⟩
    · rw [List.mem_singleton.mp hq]
      exact ⟨hn.2, fun z hz => (hn.1.1 z hz).1, hx, y0, hy⟩
    · show n.length + 0 < 64
      omega
    · have : (n.length + 0) * (C + W + 1) ≤ L * (C + W + 1) := Nat.mul_le_mul_right _ (by omega)
      exact Nat.le_trans this lt
    · have e : ∀ d, co m d = Rat.divInt x y * co n d := fun d => by
        rw [com d]
        show Rat.divInt x y * co n d + 0 = _
        rw [Rat.add_zero]
      refine k m r H' dm ⟨cm, cm.sz fun z hz => ?_⟩ e ((s1.trans s2).trans sm)
      obtain ⟨t, b, b0, ec, bt, bb⟩ := Sz.co hn.1 hn.2 c1 z.1
      refine ⟨x * t, y * b, Int.mul_ne_zero y0 b0, by rw [e, ec, Rat.divInt_mul_divInt], ?_, ?_⟩
      · rw [Nat.add_comm]; exact mul_bit hx bt
      · rw [Nat.add_comm]; exact mul_bit hy bb
abbrev s_number_sum : Stmt := top 19
theorem sc_number_sum : FnScope ["one", "other"] ["one", "other"] (defScope s_number_sum) := ⟨rfl, rfl, rfl, by decide +kernel, rfl, by decide +kernel, by decide +kernel⟩
theorem ok_number_sum {f f_weighted_sum : Addr} {fd d_weighted_sum : FuncData}  (F : Fun K "number_sum" "number_sum" s_number_sum f fd) (T : Bt mg) (p_weighted_sum : Kn P w K mg base 3 "weighted_sum" ["parts"] (spWSum K) f_weighted_sum d_weighted_sum) : FnOk P w K mg base CX0 4 f fd ["one", "other"] spNSum := by
  refine F.ok sc_number_sum (fun vs H Q E h => ?_) (fun cdv A outer s H vs Q E hr h => ?_)
  · obtain ⟨u, v, n, m, C, L, ok, rfl, _⟩ := h
    rfl
  · obtain ⟨u, v, n, m, C, L, ok, rfl, hu, hv, hn, hm, few, c1, l32, lt, cw, k⟩ := h
    refine ⟨_, pss_one (ps_ret (pe_call p_weighted_sum.ok (hr.mono (by decide)) rfl p_weighted_sum.mg p_weighted_sum.kp p_weighted_sum.bd .nil pass0 (pa_cons (pe_lst (pa_cons (pe_tup (pa_cons (pv 0) (pa_cons pe_int (pa_cons pe_int pa_nil)))) (pa_cons (pe_tup (pa_cons (pv 1) (pa_cons pe_int (pa_cons pe_int pa_nil)))) pa_nil))) pa_nil))), ?_⟩
    refine ⟨_, rfl, by show 3 ≤ sizeLine; rw [sizeLine_eq]; decide, fun p hp => ⟨_, rfl, by show 3 ≤ sizeLine; rw [sizeLine_eq]; decide, fun q hq => ⟨by show 2 ≤ sizeLine; rw [sizeLine_eq]; decide, fun l hl => ?_⟩⟩⟩
    have s1 := snew (o := .tup [u, .int 1, .int 1]) hp
    have s2 := snew (o := .tup [v, .int 1, .int 1]) hq
    have s3 := snew (o := .lst [.ref p, .ref q]) hl
    have ln := few n hn.1
    have lm := few m hm.1
    refine ⟨l, [.ref p, .ref q], [(n, 1, 1), (m, 1, 1)], C, 1, ok, rfl, SqL.of upd_same, rfl, fun i z y hz hy => ?_, fun y hy => ?_, ?_, ?_, cw, fun s r H' ds cs cos ss => ?_⟩
    · match i, hz, hy with
      | 0, hz, hy => cases hz; cases hy; exact ⟨p, u, rfl, (s2.trans s3) _ _ upd_same, Dn.mono ((s1.trans s2).trans s3) _ _ hu⟩
      | 1, hz, hy => cases hz; cases hy; exact ⟨q, v, rfl, s3 _ _ upd_same, Dn.mono ((s1.trans s2).trans s3) _ _ hv⟩
    · simp only [List.mem_cons, List.not_mem_nil, or_false] at hy
      rcases hy with rfl | rfl
      · exact ⟨hn.2, fun z hz => (hn.1.1 z hz).1, (by decide : (1 : Int).natAbs < 2 ^ 1), (by decide : (1 : Int) ≠ 0), (by decide : (1 : Int).natAbs < 2 ^ 1)⟩
      · exact ⟨hm.2, fun z hz => (hm.1.1 z hz).1, (by decide : (1 : Int).natAbs < 2 ^ 1), (by decide : (1 : Int) ≠ 0), (by decide : (1 : Int).natAbs < 2 ^ 1)⟩
    · show n.length + (m.length + 0) < 64
      omega
    · have : (n.length + (m.length + 0)) * (C + 1 + 1) ≤ 2 * L * (C + 2) := Nat.mul_le_mul (by omega) (Nat.le_refl _)
      exact Nat.le_trans this lt
    · have one : Rat.divInt 1 1 = 1 := rfl
      have e : ∀ d, co s d = co n d + co m d := fun d => by
        rw [cos d]
        show Rat.divInt 1 1 * co n d + (Rat.divInt 1 1 * co m d + 0) = _
        rw [one, Rat.one_mul, Rat.one_mul, Rat.add_zero]
      refine k s r H' ds ⟨cs, cs.sz fun z hz => ?_⟩ e (((s1.trans s2).trans s3).trans ss)
      obtain ⟨t, b, b0, ec, bt, bb⟩ := Sz.co hn.1 hn.2 c1 z.1
      obtain ⟨t', b', b0', ec', bt', bb'⟩ := Sz.co hm.1 hm.2 c1 z.1
      have two : 2 * C = C + C := by omega
      refine ⟨t * b' + t' * b, b * b', Int.mul_ne_zero b0 b0', by rw [e, ec, ec', Rat.divInt_add_divInt _ _ b0 b0'], ?_, ?_⟩
      · rw [two]; exact add_bit (mul_bit bt bb') (mul_bit bt' bb)
      · rw [two]; exact bit_up (mul_bit bb bb') (by omega)
end
end N3

namespace N3
open PySem PySem.Spec PyProof.Rows L2 N2
/-! ### the program's checks of poles, rows, tails and quotients -/
def spPole : Sp := fun vs H Q _ => ∃ (v : V) (d : PyData), vs = [v] ∧ Dn H v d ∧ ∀ (b : Bool) (H' : Hp), (b = true ↔ DPl d) → Same H H' → Q (.bl b) H'
/-- a check of any value -/
def spCk (p : PyData → Prop) : Sp := fun vs H Q _ => ∃ (v : V) (d : PyData), vs = [v] ∧ Dn H v d ∧ Gd d ∧ ∀ (b : Bool) (H' : Hp), (b = true ↔ p d) → Same H H' → Q (.bl b) H'
def spBefore : Sp := fun vs H Q _ => ∃ (a b : Addr) (p q : Pl), vs = [.ref a, .ref b] ∧ H a = some (.tup [.int p.1, .int p.2]) ∧ H b = some (.tup [.int q.1, .int q.2]) ∧ p.1.natAbs.log2 < 1920 ∧ p.2.natAbs.log2 < 1920 ∧ q.1.natAbs.log2 < 1920 ∧ q.2.natAbs.log2 < 1920 ∧ Q (.bl (decide (before p q))) H
theorem two_ints {ds : List PyData} (h1 : ds.length = 2) (h2 : ds.all isI = true) : ∃ a b : Int, ds = [.int a, .int b] := by
  match ds, h1 with
  | [x, y], _ =>
    simp only [List.all_cons, List.all_nil, Bool.and_true, Bool.and_eq_true] at h2
    obtain ⟨e1, e2⟩ := h2
    have g : ∀ u : PyData, isI u = true → ∃ i, u = .int i := fun u e => by
      cases u <;> first | exact ⟨_, rfl⟩ | cases e
    obtain ⟨a, rfl⟩ := g x e1
    obtain ⟨b, rfl⟩ := g y e2
    exact ⟨a, b, rfl⟩
theorem dn2 {H : Hp} {xs : List V} {a b : Int} (h : DnAll H xs [.int a, .int b]) : xs = [.int a, .int b] := by
  cases h with
  | cons h1 r =>
    cases r with
    | cons h2 r =>
      cases r
      cases h1
      cases h2
      rfl
theorem dnI {H : Hp} {v : V} {i : Int} (h : Dn H v (.int i)) : v = .int i := by
  cases h
  rfl
theorem dn_pl {H : Hp} {v : V} {p : Pl} (h : Dn H v (encPl p)) : ∃ a, v = .ref a ∧ H a = some (.tup [.int p.1, .int p.2]) := by
  cases h with
  | tup e r => exact ⟨_, rfl, by rw [e, dn2 r]⟩
/-- a tuple's address and items -/
theorem dn_t {H : Hp} {v : V} {ds : List PyData} (h : Dn H v (.tuple ds)) : ∃ a xs, v = .ref a ∧ H a = some (.tup xs) ∧ DnAll H xs ds := by
  cases h with
  | tup e r => exact ⟨_, _, rfl, e, r⟩
theorem dn_pair {H : Hp} {v : V} {d e : PyData} (h : Dn H v (.tuple [d, e])) : ∃ a x y, v = .ref a ∧ H a = some (.tup [x, y]) ∧ Dn H x d ∧ Dn H y e := by
  obtain ⟨a, xs, rfl, ea, r⟩ := dn_t h
  cases r with
  | cons h1 r =>
    cases r with
    | cons h2 r =>
      cases r
      exact ⟨a, _, _, rfl, ea, h1, h2⟩
theorem tup_two {d : PyData} (h : tupN 2 d = true) : ∃ x y, d = .tuple [x, y] := by
  cases d with
  | tuple ds =>
    have : ds.length = 2 := of_decide_eq_true h
    match ds, this with
    | [x, y], _ => exact ⟨x, y, rfl⟩
  | _ => cases h
theorem encT_shape (x : Tr) : PyData.canLay0 (encT x) = true ∧ (encT x).depth = 1 := by
  constructor <;> simp [encT, PyData.canLay0, PyData.canLayAll0, PyData.depth, PyData.depthAll]
theorem lay_map {α : Type} {enc : α → PyData} {k : Nat} (h : ∀ x, PyData.canLay0 (enc x) = true ∧ (enc x).depth ≤ k) : ∀ l : List α, PyData.canLayAll0 (l.map enc) = true ∧ PyData.depthAll (l.map enc) ≤ k
  | [] => by simp [PyData.canLayAll0, PyData.depthAll]
  | x :: l => by
    obtain ⟨h1, h2⟩ := lay_map h l
    obtain ⟨h3, h4⟩ := h x
    constructor
    · simp only [List.map_cons, PyData.canLayAll0, h1, h3, Bool.and_self]
    · simp only [List.map_cons, PyData.depthAll]; omega
theorem encN_shape (n : Nm) : PyData.canLay0 (encN n) = true ∧ (encN n).depth ≤ 2 := by
  obtain ⟨h1, h2⟩ := lay_map (k := 1) (fun x => ⟨(encT_shape x).1, Nat.le_of_eq (encT_shape x).2⟩) n
  constructor
  · simp only [encN, PyData.canLay0]; exact h1
  · simp only [encN, PyData.depth]; omega
theorem encR_shape (r : List Nm) : PyData.canLay0 (encR r) = true ∧ (encR r).depth ≤ 3 := by
  obtain ⟨h1, h2⟩ := lay_map (k := 2) encN_shape r
  constructor
  · simp only [encR, PyData.canLay0]; exact h1
  · simp only [encR, PyData.depth]; omega
theorem shaped_of {d : PyData} (h : PyData.canLay0 d = true) (k : d.depth ≤ 64) : SeqAt.shaped d = true := by
  show (PyData.canLay0 d && decide (PyData.depth d ≤ 64)) = true
  rw [Bool.and_eq_true]
  exact ⟨h, decide_eq_true k⟩
theorem encN_shaped (n : Nm) : SeqAt.shaped (encN n) = true := shaped_of (encN_shape n).1 (by have := (encN_shape n).2; omega)
theorem encR_shaped (r : List Nm) : SeqAt.shaped (encR r) = true := shaped_of (encR_shape r).1 (by have := (encR_shape r).2; omega)
/-- plain data: no dicts, no bools or texts within -/
inductive Tn : PyData → Prop
  | int (i : Int) : Tn (.int i)
  | tup {ds : List PyData} : (∀ d ∈ ds, Tn d) → Tn (.tuple ds)
mutual
theorem tn_dp {K : PySem.W.Frag} {H : Hp} : ∀ (d : PyData) (v : V), Tn d → Dn H v d → Dp K H v d
  | .int i, _, _, h => by
    cases h
    exact .int i
  | .tuple ds, _, t, h => by
    obtain ⟨a, xs, rfl, ea, r⟩ := dn_t h
    cases t with
    | tup t => exact .tup (SqT.of ea) (tn_dpA ds xs t r)
  | .none, _, t, _ => by cases t
  | .bool _, _, t, _ => by cases t
  | .str _, _, t, _ => by cases t
  | .list _, _, t, _ => by cases t
  | .dict _, _, t, _ => by cases t
theorem tn_dpA {K : PySem.W.Frag} {H : Hp} : ∀ (ds : List PyData) (xs : List V), (∀ d ∈ ds, Tn d) → DnAll H xs ds → DpAll K H xs ds
  | [], _, _, h => by
    cases h
    exact .nil
  | d :: ds, _, t, h => by
    cases h with
    | cons h1 h2 => exact .cons (tn_dp d _ (t d List.mem_cons_self) h1) (tn_dpA ds _ (fun x hx => t x (List.mem_cons_of_mem _ hx)) h2)
end
theorem tn_map {α : Type} {enc : α → PyData} (h : ∀ x, Tn (enc x)) (l : List α) : Tn (.tuple (l.map enc)) := .tup fun d hd => by
  obtain ⟨x, _, rfl⟩ := List.mem_map.mp hd
  exact h x
theorem encT_tn (x : Tr) : Tn (encT x) := .tup fun d hd => by
  simp only [List.mem_cons, List.not_mem_nil, or_false] at hd
  rcases hd with rfl | rfl | rfl <;> exact .int _
theorem encN_tn (n : Nm) : Tn (encN n) := tn_map encT_tn n
theorem encR_tn (r : List Nm) : Tn (encR r) := tn_map encN_tn r
theorem encPl_tn (p : Pl) : Tn (encPl p) := .tup fun d hd => by
  simp only [List.mem_cons, List.not_mem_nil, or_false] at hd
  rcases hd with rfl | rfl <;> exact .int _
theorem encTl_tn (t : Tl) : Tn (encTl t) := .tup fun d hd => by
  simp only [List.mem_cons, List.not_mem_nil, or_false] at hd
  rcases hd with rfl | rfl
  · exact encPl_tn _
  · exact encR_tn _
theorem encQ_tn (q : Qt) : Tn (encQ q) := .tup fun d hd => by
  simp only [List.mem_cons, List.not_mem_nil, or_false] at hd
  rcases hd with rfl | rfl
  · exact encR_tn _
  · exact tn_map encTl_tn _
def isNil : PyData → Bool
  | .tuple [] => true
  | _ => false
theorem eqv_nil_d {d : PyData} (h : Tn d) : PyData.eqv d (.tuple []) = isNil d := by
  cases h with
  | int i => simp [PyData.eqv, isNil]
  | @tup ds _ =>
    rw [eqv_nil_t]
    cases ds <;> rfl
theorem nil_encN {n : Nm} : isNil (encN n) = true ↔ n = [] := by
  cases n with
  | nil => exact ⟨fun _ => rfl, fun _ => rfl⟩
  | cons x n => exact ⟨fun h => (by cases h), fun h => (by cases h)⟩
theorem nil_encR {r : List Nm} : isNil (encR r) = true ↔ r = [] := by
  cases r with
  | nil => exact ⟨fun _ => rfl, fun _ => rfl⟩
  | cons x n => exact ⟨fun h => (by cases h), fun h => (by cases h)⟩
theorem snoc_of {α : Type} : ∀ {l : List α}, l ≠ [] → ∃ k x, l = k ++ [x]
  | [], h => absurd rfl h
  | [x], _ => ⟨[], x, rfl⟩
  | x :: y :: l, _ => by
    obtain ⟨k, z, e⟩ := snoc_of (l := y :: l) (by simp)
    exact ⟨x :: k, z, by rw [e]; rfl⟩
theorem dn_snoc {H : Hp} : ∀ {ds : List PyData} {d : PyData} {xs : List V}, DnAll H xs (ds ++ [d]) → ∃ ys x, xs = ys ++ [x] ∧ DnAll H ys ds ∧ Dn H x d
  | [], d, xs, h => by
    cases h with
    | cons h1 r =>
      cases r
      exact ⟨[], _, rfl, .nil, h1⟩
  | e :: ds, d, xs, h => by
    cases h with
    | cons h1 r =>
      obtain ⟨ys, x, rfl, r', dx⟩ := dn_snoc r
      exact ⟨_ :: ys, x, rfl, .cons h1 r', dx⟩
theorem mulW {i j : Int} (h : i.natAbs.log2 < 1920) (k : j.natAbs.log2 < 1920) : CMulW i j := by
  unfold CMulW
  omega
section
variable {P : Program} {w : World} {K : PySem.W.Frag} {mg : Str → Option Value} {base : Heap}
abbrev s_is_pole : Stmt := top 6
theorem sc_is_pole : FnScope ["thing"] ["thing"] (defScope s_is_pole) := ⟨rfl, rfl, rfl, by decide +kernel, rfl, by decide +kernel, by decide +kernel⟩
theorem ok_is_pole {f f_is_tuple_of f_all_integers f_in_lowest_terms : Addr} {fd d_is_tuple_of d_all_integers d_in_lowest_terms : FuncData}  (F : Fun K "is_pole" "is_pole" s_is_pole f fd) (T : Bt mg) (p_is_tuple_of : Kn P w K mg base 1 "is_tuple_of" ["thing", "many"] spTupOf f_is_tuple_of d_is_tuple_of) (p_all_integers : Kn P w K mg base 2 "all_integers" ["things"] spAllInt f_all_integers d_all_integers) (p_in_lowest_terms : Kn P w K mg base 1 "in_lowest_terms" ["top", "bottom"] spLow f_in_lowest_terms d_in_lowest_terms) : FnOk P w K mg base CX0 3 f fd ["thing"] spPole := by
  refine F.ok sc_is_pole (fun vs H Q E h => ?_) (fun cdv A outer s H vs Q E hr h => ?_)
  · obtain ⟨v, d, rfl, _⟩ := h
    rfl
  · obtain ⟨v, d, rfl, hd, k⟩ := h
    refine ⟨_, pss_one (ps_ret (pe_and (pe_call p_is_tuple_of.ok (hr.mono (by decide)) rfl p_is_tuple_of.mg p_is_tuple_of.kp p_is_tuple_of.bd .nil pass0 (pa_cons (pv 0) (pa_cons pe_int pa_nil))) (pe_and (pe_call p_all_integers.ok (hr.mono (by decide)) rfl p_all_integers.mg p_all_integers.kp p_all_integers.bd .nil pass0 (pa_cons (pv 0) pa_nil)) (pe_one (pe_call p_in_lowest_terms.ok (hr.mono (by decide)) rfl p_in_lowest_terms.mg p_in_lowest_terms.kp p_in_lowest_terms.bd .nil pass0 (pa_cons (pe_ix (r := rIx K) ix_seq (pv 0) pe_int (fun _ _ => rfl)) (pa_cons (pe_ix (r := rIx K) ix_seq (pv 0) pe_int (fun _ _ => rfl)) pa_nil))))))), ?_⟩
    refine ⟨_, rfl, v, d, 2, rfl, hd, _, rfl, ite_b (fun e => ?_) (fun e => ?_)⟩
    · obtain ⟨x, y, rfl⟩ := tup_two e
      obtain ⟨a, xs, rfl, ea, ra⟩ := dn_t hd
      refine ⟨_, rfl, a, xs, _, rfl, ea, ra, by show 2 ≤ 1000; decide, fun H1 s1 => ⟨_, rfl, ite_b (fun e2 => ?_) (fun e2 => ?_)⟩⟩
      · obtain ⟨p, q, epq⟩ := two_ints rfl e2
        cases epq
        obtain rfl := dn2 ra
        refine ⟨_, rfl, .inr (.inl ⟨a, _, _, _, rfl, rfl, SqT.of (s1 _ _ ea), rfl, _, rfl, .inr (.inl ⟨a, _, _, _, rfl, rfl, SqT.of (s1 _ _ ea), rfl, p, q, rfl, ?_⟩)⟩)⟩
        refine k _ H1 ⟨fun h => ⟨(p, q), rfl, h⟩, fun ⟨u, e, h⟩ => ?_⟩ s1
        obtain rfl : (p, q) = u := encPl_inj (show encPl (p, q) = encPl u from e)
        exact h
      · refine k false H1 ⟨fun z => (by cases z), fun ⟨u, e, _⟩ => ?_⟩ s1
        rw [show ([x, y] : List PyData) = [.int u.1, .int u.2] from by injection e] at e2
        cases e2
    · refine k false H ⟨fun z => (by cases z), fun ⟨u, e', _⟩ => ?_⟩ (Same.refl _)
      rw [e'] at e
      cases e
abbrev s_comes_before : Stmt := top 30
theorem sc_comes_before : FnScope ["one", "other"] ["one", "other"] (defScope s_comes_before) := ⟨rfl, rfl, rfl, by decide +kernel, rfl, by decide +kernel, by decide +kernel⟩
theorem ok_comes_before {f  : Addr} {fd  : FuncData}  (F : Fun K "comes_before" "comes_before" s_comes_before f fd) (T : Bt mg)  : FnOk P w K mg base CX0 1 f fd ["one", "other"] spBefore := by
  refine F.ok sc_comes_before (fun vs H Q E h => ?_) (fun cdv A outer s H vs Q E hr h => ?_)
  · obtain ⟨a, b, p, q, rfl, _⟩ := h
    rfl
  · obtain ⟨a, b, p, q, rfl, ha, hb, l1, l2, l3, l4, k⟩ := h
    refine ⟨_, pss_one (ps_ret (pe_cmpR op_lt (pe_op op_mulW (pe_ix (r := rIx K) ix_seq (pv 0) pe_int (fun _ _ => rfl)) (pe_ix (r := rIx K) ix_seq (pv 1) pe_int (fun _ _ => rfl))) (pe_op op_mulW (pe_ix (r := rIx K) ix_seq (pv 1) pe_int (fun _ _ => rfl)) (pe_ix (r := rIx K) ix_seq (pv 0) pe_int (fun _ _ => rfl))) (nomark _))), ?_⟩
    refine ⟨_, rfl, .inr (.inl ⟨a, _, _, _, rfl, rfl, SqT.of ha, rfl, _, rfl, .inr (.inl ⟨b, _, _, _, rfl, rfl, SqT.of hb, rfl, _, _, rfl, rfl, mulW l1 l4, ?_⟩)⟩)⟩
    exact ⟨_, rfl, .inr (.inl ⟨b, _, _, _, rfl, rfl, SqT.of hb, rfl, _, rfl, .inr (.inl ⟨a, _, _, _, rfl, rfl, SqT.of ha, rfl, _, _, rfl, rfl, mulW l3 l2, _, _, rfl, rfl, k⟩)⟩)⟩
abbrev s_is_polynomial : Stmt := top 39
theorem sc_is_polynomial : FnScope ["thing", "number"] ["thing"] (defScope s_is_polynomial) := ⟨rfl, rfl, rfl, by decide +kernel, rfl, by decide +kernel, by decide +kernel⟩
theorem ok_is_polynomial {f f_is_number : Addr} {fd d_is_number : FuncData}  (F : Fun K "is_polynomial" "is_polynomial" s_is_polynomial f fd) (T : Bt mg) (p_is_number : Kn P w K mg base 5 "is_number" ["thing"] spNumber f_is_number d_is_number) : FnOk P w K mg base CX0 6 f fd ["thing"] (spCk (DR Fit)) := by
  refine F.ok sc_is_polynomial (fun vs H Q E h => ?_) (fun cdv A outer s H vs Q E hr h => ?_)
  · obtain ⟨v, d, rfl, _⟩ := h
    rfl
  · obtain ⟨v, d, rfl, hd, gd, k⟩ := h
    refine ⟨_, pss_cons (ps_if (pt_not (pt_val (pe_callB call_isi (by rfl) T.isi (by decide +kernel) (pa_cons (pv 0) (pa_cons (pe_bltn (v := .ty "tuple") (by rfl) T.tuple (by decide +kernel) rfl) pa_nil)))))
        (pss_one (ps_ret pe_bl))
        pss_nil)
      (pss_cons (ps_if (pt_not (pt_val (pe_callB (cr_all rfl) (by rfl) T.all (by decide +kernel) (pa_cons (pe_lc (own := [("number", 1)]) (g := (gName 1)) (tt := tYes) rfl sc_is_polynomial.nd (pi_tup (pv 0)) (blkOk_by (own := [("number", 1)]) (N := ["thing", "number"]) (sc := defScope s_is_polynomial) (by decide +kernel)) (fun _ _ _ _ _ => pg_name (i := 1) sc_is_polynomial.nd rfl (Or.inl rfl)) (fun _ _ _ _ _ => pts_nil) (fun _ _ _ _ _ => (pe_call p_is_number.ok (hr.mono (by decide)) rfl p_is_number.mg p_is_number.kp p_is_number.bd .nil pass0 (pa_cons (pv 1) pa_nil)))) pa_nil))))
        (pss_one (ps_ret pe_bl))
        pss_nil)
      (pss_one (ps_ret (pe_or (pe_cmpR op_eq (pe_callB call_len (by rfl) T.len PySem.boot_len (pa_cons (pv 0) pa_nil)) pe_int (nomark _)) (pe_one (pe_cmpR (op_neD hr.units) (pe_ix (r := rIx K) ix_seq (pv 0) (pe_un un_neg pe_int) (fun _ _ => rfl)) (pe_tup pa_nil) (nomark _))))))), ?_⟩
    refine ⟨_, rfl, v, .ty "tuple", _, _, _, rfl, .ty _, dn_ty hd, kit_ty (kit_t d), _, rfl, ?_⟩
    cases et : isTp d with
    | false =>
      refine iteT ?_
      refine k false H ⟨fun z => (by cases z), fun ⟨r, e, _⟩ => ?_⟩ (Same.refl _)
      rw [e] at et; cases et
    | true =>
      refine iteF ?_
      obtain ⟨a, xs, ds, rfl, rfl, ea, ra⟩ := dn_tup hd et
      refine ⟨_, rfl, a, rfl, ⟨_, SqT.of ea⟩, fun D hD => lc_all (NP) ea ra (gd.short _ rfl) hD (fun j x d H' Q' ed dn s' kk => ⟨_, rfl, x, d, rfl, dn, (gd.item (List.mem_of_getElem? ed)).short, kk⟩) fun bs H1 e1 e3 s1 => ?_⟩
      refine ⟨D, bs, rfl, SqL.of e1, _, rfl, ?_⟩
      cases eb : bs.all id with
      | false =>
        refine iteT ?_
        refine k false H1 ⟨fun z => (by cases z), fun ⟨r, e, h, _⟩ => ?_⟩ s1
        injection e with e
        subst e
        rw [e3.mpr fun x hx => by
          obtain ⟨n, hn, rfl⟩ := List.mem_map.mp hx
          exact np_dn.mpr ⟨n, rfl, h n hn⟩] at eb
        cases eb
      | true =>
        refine iteF ?_
        obtain ⟨r, rfl, hr'⟩ := map_of fun x hx => np_dn.mp (e3.mp eb x hx)
        refine ⟨_, rfl, .ref a, xs.length, rfl, .inr ⟨xs, SqT.of (s1 _ _ ea), rfl⟩, rfl, _, rfl, ?_⟩
        have ll : decide (V.int (xs.length : Int) = V.int ((0 : Nat) : Int)) = decide (r = []) := by
          rw [dec_len, ra.length, List.length_map]
          exact decide_eq_decide.mpr List.length_eq_zero_iff
        show if decide (V.int (xs.length : Int) = V.int ((0 : Nat) : Int)) = true then _ else _
        rw [ll]
        refine ite_b (fun e4 => ?_) (fun e4 => ?_)
        · obtain rfl := of_decide_eq_true e4
          exact k true H1 ⟨fun _ => ⟨[], rfl, hr', by simp⟩, fun _ => rfl⟩ s1
        · have r0 : r ≠ [] := of_decide_eq_false e4
          obtain ⟨r1, n, rfl⟩ := snoc_of r0
          rw [List.map_append] at ra
          obtain ⟨xs1, x, rfl, _, dx⟩ := dn_snoc ra
          refine ⟨_, rfl, _, rfl, .inr (.inl ⟨a, xs1 ++ [x], _, _, rfl, rfl, SqT.of (s1 _ _ ea), atI_last _ _, ?_⟩)⟩
          refine ⟨Nat.zero_le _, fun p hp => ⟨encN n, .tuple [], tn_dp _ _ (encN_tn n) (Dn.mono (s1.trans (snew hp)) _ _ dx), .tup (SqT.of upd_same) .nil, encN_shaped n, rfl, ?_⟩⟩
          rw [eqv_nil_d (encN_tn n)]
          refine k _ _ ?_ (s1.trans (snew hp))
          rw [Bool.not_eq_true', ← Bool.not_eq_true, nil_encN]
          constructor
          · intro h
            exact ⟨r1 ++ [n], rfl, hr', by rw [List.getLast?_append]; simpa using h⟩
          · rintro ⟨r', e, _, h⟩ z
            injection e with e
            obtain rfl := inj_map (fun _ _ => encN_inj) e
            rw [z, List.getLast?_append] at h
            exact h rfl
end
end N3

namespace N3
open PySem PySem.Spec PyProof.Rows L2 N2
theorem gd_len {ds : List PyData} (h : Gd (.tuple ds)) : ds.length ≤ 1000000 := h.short _ rfl
theorem mem0 {d e : PyData} : d ∈ [d, e] := List.mem_cons_self
theorem mem1 {d e : PyData} : e ∈ [d, e] := List.mem_cons_of_mem _ List.mem_cons_self
theorem nb_of {α : Type} {enc : α → PyData} {q : α → α → Prop} {l : List α} {r : PyData → PyData → Prop} (h : ∀ x y, r (enc x) (enc y) ↔ q x y) : (∀ (k : Nat) (x y : PyData), (l.map enc)[k]? = some x → (l.map enc)[k + 1]? = some y → r x y) ↔ Nb q l := by
  constructor
  · intro hr i x y ex ey
    exact (h x y).mp (hr i _ _ (by rw [List.getElem?_map, ex]; rfl) (by rw [List.getElem?_map, ey]; rfl))
  · intro hq i x y ex ey
    rw [List.getElem?_map] at ex ey
    cases e1 : l[i]? with
    | none => rw [e1] at ex; cases ex
    | some u =>
      cases e2 : l[i + 1]? with
      | none => rw [e2] at ey; cases ey
      | some v =>
        rw [e1] at ex
        rw [e2] at ey
        cases ex
        cases ey
        exact (h u v).mpr (hq i u v e1 e2)
section
variable {P : Program} {w : World} {K : PySem.W.Frag} {mg : Str → Option Value} {base : Heap}
abbrev s_is_tail : Stmt := top 40
theorem sc_is_tail : FnScope ["thing"] ["thing"] (defScope s_is_tail) := ⟨rfl, rfl, rfl, by decide +kernel, rfl, by decide +kernel, by decide +kernel⟩
theorem ok_is_tail {f f_is_tuple_of f_is_pole f_is_polynomial : Addr} {fd d_is_tuple_of d_is_pole d_is_polynomial : FuncData}  (F : Fun K "is_tail" "is_tail" s_is_tail f fd) (T : Bt mg) (p_is_tuple_of : Kn P w K mg base 1 "is_tuple_of" ["thing", "many"] spTupOf f_is_tuple_of d_is_tuple_of) (p_is_pole : Kn P w K mg base 3 "is_pole" ["thing"] spPole f_is_pole d_is_pole) (p_is_polynomial : Kn P w K mg base 6 "is_polynomial" ["thing"] (spCk (DR Fit)) f_is_polynomial d_is_polynomial) : FnOk P w K mg base CX0 7 f fd ["thing"] (spCk (DTl Fit)) := by
  refine F.ok sc_is_tail (fun vs H Q E h => ?_) (fun cdv A outer s H vs Q E hr h => ?_)
  · obtain ⟨v, d, rfl, _⟩ := h
    rfl
  · obtain ⟨v, d, rfl, hd, gd, k⟩ := h
    refine ⟨_, pss_one (ps_ret (pe_and (pe_call p_is_tuple_of.ok (hr.mono (by decide)) rfl p_is_tuple_of.mg p_is_tuple_of.kp p_is_tuple_of.bd .nil pass0 (pa_cons (pv 0) (pa_cons pe_int pa_nil))) (pe_and (pe_call p_is_pole.ok (hr.mono (by decide)) rfl p_is_pole.mg p_is_pole.kp p_is_pole.bd .nil pass0 (pa_cons (pe_ix (r := rIx K) ix_seq (pv 0) pe_int (fun _ _ => rfl)) pa_nil)) (pe_and (pe_call p_is_polynomial.ok (hr.mono (by decide)) rfl p_is_polynomial.mg p_is_polynomial.kp p_is_polynomial.bd .nil pass0 (pa_cons (pe_ix (r := rIx K) ix_seq (pv 0) pe_int (fun _ _ => rfl)) pa_nil)) (pe_one (pe_cmpR (op_neD hr.units) (pe_ix (r := rIx K) ix_seq (pv 0) pe_int (fun _ _ => rfl)) (pe_tup pa_nil) (nomark _))))))), ?_⟩
    refine ⟨_, rfl, v, d, 2, rfl, hd, _, rfl, ite_b (fun e => ?_) (fun e => ?_)⟩
    · obtain ⟨x, y, rfl⟩ := tup_two e
      obtain ⟨a, xv, yv, rfl, ea, dx, dy⟩ := dn_pair hd
      refine ⟨_, rfl, .inr (.inl ⟨a, _, _, _, rfl, rfl, SqT.of ea, rfl, xv, x, rfl, dx, fun b H1 hb s1 => ⟨_, rfl, ite_b (fun e2 => ?_) (fun e2 => ?_)⟩⟩)⟩
      · refine ⟨_, rfl, .inr (.inl ⟨a, _, _, _, rfl, rfl, SqT.of (s1 _ _ ea), rfl, yv, y, rfl, Dn.mono s1 _ _ dy, gd.item mem1, fun b2 H2 hb2 s2 => ⟨_, rfl, ite_b (fun e3 => ?_) (fun e3 => ?_)⟩⟩)⟩
        · obtain ⟨pl, rfl, cp⟩ := hb.mp e2
          obtain ⟨r, rfl, cr⟩ := hb2.mp e3
          have s12 := s1.trans s2
          refine ⟨_, rfl, .inr (.inl ⟨a, _, _, _, rfl, rfl, SqT.of (s12 _ _ ea), rfl, ?_⟩)⟩
          refine ⟨Nat.zero_le _, fun p hp => ⟨encR r, .tuple [], tn_dp _ _ (encR_tn r) (Dn.mono (s12.trans (snew hp)) _ _ dy), .tup (SqT.of upd_same) .nil, encR_shaped r, rfl, ?_⟩⟩
          rw [eqv_nil_d (encR_tn r)]
          refine k _ _ ?_ (s12.trans (snew hp))
          rw [Bool.not_eq_true', ← Bool.not_eq_true, nil_encR]
          constructor
          · intro h
            exact ⟨(pl, r), rfl, cp, cr, h⟩
          · rintro ⟨t, e', _, _, h⟩
            obtain rfl : (pl, r) = t := encTl_inj (show encTl (pl, r) = encTl t from e')
            exact h
        · refine k false H2 ⟨fun z => (by cases z), fun ⟨t, e', _, h, _⟩ => ?_⟩ (s1.trans s2)
          rw [hb2.mpr ⟨t.2, (show y = encR t.2 by injection e' with e'; injection e' with _ e'; injection e' with e' _), h⟩] at e3
          cases e3
      · refine k false H1 ⟨fun z => (by cases z), fun ⟨t, e', h, _, _⟩ => ?_⟩ s1
        rw [hb.mpr ⟨t.1, (show x = encPl t.1 by injection e' with e'; injection e' with e' _), h⟩] at e2
        cases e2
    · refine k false H ⟨fun z => (by cases z), fun ⟨t, e', _⟩ => ?_⟩ (Same.refl _)
      rw [e'] at e
      cases e
abbrev s_are_tails : Stmt := top 41
theorem sc_are_tails : FnScope ["thing", "tail", "k"] ["thing"] (defScope s_are_tails) := ⟨rfl, rfl, rfl, by decide +kernel, rfl, by decide +kernel, by decide +kernel⟩
theorem ok_are_tails {f f_is_tail f_comes_before : Addr} {fd d_is_tail d_comes_before : FuncData}  (F : Fun K "are_tails" "are_tails" s_are_tails f fd) (T : Bt mg) (p_is_tail : Kn P w K mg base 7 "is_tail" ["thing"] (spCk (DTl Fit)) f_is_tail d_is_tail) (p_comes_before : Kn P w K mg base 1 "comes_before" ["one", "other"] spBefore f_comes_before d_comes_before) : FnOk P w K mg base CX0 8 f fd ["thing"] (spCk (DTs Fit)) := by
  refine F.ok sc_are_tails (fun vs H Q E h => ?_) (fun cdv A outer s H vs Q E hr h => ?_)
  · obtain ⟨v, d, rfl, _⟩ := h
    rfl
  · obtain ⟨v, d, rfl, hd, gd, k⟩ := h
    refine ⟨_, pss_cons (ps_if (pt_not (pt_val (pe_callB call_isi (by rfl) T.isi (by decide +kernel) (pa_cons (pv 0) (pa_cons (pe_bltn (v := .ty "tuple") (by rfl) T.tuple (by decide +kernel) rfl) pa_nil)))))
        (pss_one (ps_ret pe_bl))
        pss_nil)
      (pss_cons (ps_if (pt_not (pt_val (pe_callB (cr_all rfl) (by rfl) T.all (by decide +kernel) (pa_cons (pe_lc (own := [("tail", 1)]) (g := (gName 1)) (tt := tYes) rfl sc_are_tails.nd (pi_tup (pv 0)) (blkOk_by (own := [("tail", 1)]) (N := ["thing", "tail", "k"]) (sc := defScope s_are_tails) (by decide +kernel)) (fun _ _ _ _ _ => pg_name (i := 1) sc_are_tails.nd rfl (Or.inl rfl)) (fun _ _ _ _ _ => pts_nil) (fun _ _ _ _ _ => (pe_call p_is_tail.ok (hr.mono (by decide)) rfl p_is_tail.mg p_is_tail.kp p_is_tail.bd .nil pass0 (pa_cons (pv 1) pa_nil)))) pa_nil))))
        (pss_one (ps_ret pe_bl))
        pss_nil)
      (pss_one (ps_ret (pe_callB (cr_all rfl) (by rfl) T.all (by decide +kernel) (pa_cons (pe_lc (own := [("k", 2)]) (g := (gName 2)) (tt := tYes) rfl sc_are_tails.nd (pi_range1 rfl T.range (pa_cons (pe_op op_sub (pe_callB call_len (by rfl) T.len PySem.boot_len (pa_cons (pv 0) pa_nil)) pe_int) pa_nil)) (blkOk_by (own := [("k", 2)]) (N := ["thing", "tail", "k"]) (sc := defScope s_are_tails) (by decide +kernel)) (fun _ _ _ _ _ => pg_name (i := 2) sc_are_tails.nd rfl (Or.inl rfl)) (fun _ _ _ _ _ => pts_nil) (fun _ _ _ _ _ => (pe_call p_comes_before.ok (hr.mono (by decide)) rfl p_comes_before.mg p_comes_before.kp p_comes_before.bd .nil pass0 (pa_cons (pe_ix (r := rIx K) ix_seq (pe_ix (r := rIx K) ix_seq (pv 0) (pv 2) (fun _ _ => rfl)) pe_int (fun _ _ => rfl)) (pa_cons (pe_ix (r := rIx K) ix_seq (pe_ix (r := rIx K) ix_seq (pv 0) (pe_op op_add (pv 2) pe_int) (fun _ _ => rfl)) pe_int (fun _ _ => rfl)) pa_nil))))) pa_nil))))), ?_⟩
    refine ⟨_, rfl, v, .ty "tuple", _, _, _, rfl, .ty _, dn_ty hd, kit_ty (kit_t d), _, rfl, ?_⟩
    cases et : isTp d with
    | false =>
      refine iteT ?_
      refine k false H ⟨fun z => (by cases z), fun ⟨r, e, _⟩ => ?_⟩ (Same.refl _)
      rw [e] at et; cases et
    | true =>
      refine iteF ?_
      obtain ⟨a, xs, ds, rfl, rfl, ea, ra⟩ := dn_tup hd et
      refine ⟨_, rfl, a, rfl, ⟨_, SqT.of ea⟩, fun D hD => lc_all (DTl Fit) ea ra (gd_len gd) hD (fun j x d H' Q' ed dn s' kk => ⟨_, rfl, x, d, rfl, dn, gd.item (List.mem_of_getElem? ed), kk⟩) fun bs H1 e1 e3 s1 => ?_⟩
      refine ⟨D, bs, rfl, SqL.of e1, _, rfl, ?_⟩
      cases eb : bs.all id with
      | false =>
        refine iteT ?_
        refine k false H1 ⟨fun z => (by cases z), fun ⟨ts, e, h, _⟩ => ?_⟩ s1
        injection e with e
        subst e
        rw [e3.mpr fun x hx => by
          obtain ⟨n, hn, rfl⟩ := List.mem_map.mp hx
          exact ⟨n, rfl, h n hn⟩] at eb
        cases eb
      | true =>
        refine iteF ?_
        obtain ⟨ts, rfl, ht⟩ := map_of fun x hx => e3.mp eb x hx
        refine ⟨_, rfl, .ref a, xs.length, rfl, .inr ⟨xs, SqT.of (s1 _ _ ea), rfl⟩, _, _, rfl, rfl, _, rfl, by rw [ra.length]; have := gd_len gd; omega, by rw [ra.length]; have := gd_len gd; omega, fun D2 hD2 => ?_⟩
        have en : ((xs.length : Int) - 1).toNat = (ts.map encTl).length - 1 := by rw [ra.length]; omega
        rw [en]
        refine lc_adj (fun x y => ∃ s t, x = encTl s ∧ y = encTl t ∧ before s.1 t.1) (gd_len gd) hD2 (fun j x y H' Q' ex ey s' kk => ?_) fun bs2 H2 e4 e5 s2 => ?_
        · have s0 := s1.trans s'
          obtain ⟨xv, exv, dx⟩ := dn_at ra ex
          obtain ⟨yv, eyv, dy⟩ := dn_at ra ey
          rw [List.getElem?_map] at ex ey
          obtain ⟨t1, et1, rfl⟩ := Option.map_eq_some_iff.mp ex
          obtain ⟨t2, et2, rfl⟩ := Option.map_eq_some_iff.mp ey
          obtain ⟨ax, x1, x2, rfl, hx, dx1, _⟩ := dn_pair dx
          obtain ⟨ay, y1, y2, rfl, hy, dy1, _⟩ := dn_pair dy
          obtain ⟨px, rfl, hpx⟩ := dn_pl dx1
          obtain ⟨py, rfl, hpy⟩ := dn_pl dy1
          have m1 := gd.item (List.mem_map.mpr ⟨t1, List.mem_of_getElem? et1, rfl⟩)
          have m2 := gd.item (List.mem_map.mpr ⟨t2, List.mem_of_getElem? et2, rfl⟩)
          have g1 := Gd.item (ds := [encPl t1.1, encR t1.2]) m1 mem0
          have g2 := Gd.item (ds := [encPl t2.1, encR t2.2]) m2 mem0
          refine ⟨_, rfl, _, rfl, .inr (.inl ⟨a, xs, _, _, rfl, rfl, SqT.of (s0 _ _ ea), by rw [Int.zero_add]; exact atI_nat exv, ?_⟩)⟩
          refine .inr (.inl ⟨ax, _, _, _, rfl, rfl, SqT.of (s0 _ _ hx), rfl, ?_⟩)
          refine ⟨_, rfl, _, rfl, _, _, rfl, rfl, .inr (.inl ⟨a, xs, _, _, rfl, rfl, SqT.of (s0 _ _ ea), by rw [Int.zero_add, show ((j : Int) + 1) = ((j + 1 : Nat) : Int) by omega]; exact atI_nat eyv, ?_⟩)⟩
          refine .inr (.inl ⟨ay, _, _, _, rfl, rfl, SqT.of (s0 _ _ hy), rfl, ?_⟩)
          refine ⟨px, py, t1.1, t2.1, rfl, s0 _ _ hpx, s0 _ _ hpy, Wd.int (Wd.item (ds := [.int t1.1.1, .int t1.1.2]) g1 mem0), Wd.int (Wd.item (ds := [.int t1.1.1, .int t1.1.2]) g1 mem1), Wd.int (Wd.item (ds := [.int t2.1.1, .int t2.1.2]) g2 mem0), Wd.int (Wd.item (ds := [.int t2.1.1, .int t2.1.2]) g2 mem1), kk _ H' ?_ (Same.refl _)⟩
          rw [decide_eq_true_iff]
          exact ⟨fun h => ⟨t1, t2, rfl, rfl, h⟩, fun ⟨s, t, e1, e2, h⟩ => by rw [encTl_inj e1, encTl_inj e2]; exact h⟩
        · refine ⟨D2, bs2, rfl, SqL.of e4, k _ H2 ?_ (s1.trans s2)⟩
          rw [e5, nb_of (q := fun s t : Tl => before s.1 t.1) fun x y => ⟨fun ⟨s, t, e1, e2, h⟩ => by rw [encTl_inj e1, encTl_inj e2]; exact h, fun h => ⟨x, y, rfl, rfl, h⟩⟩]
          exact ⟨fun h => ⟨ts, rfl, ht, h⟩, fun ⟨ts', e, h⟩ => by rw [encTs_inj e]; exact h.2⟩
abbrev s_is_quotient : Stmt := top 42
theorem sc_is_quotient : FnScope ["thing"] ["thing"] (defScope s_is_quotient) := ⟨rfl, rfl, rfl, by decide +kernel, rfl, by decide +kernel, by decide +kernel⟩
theorem ok_is_quotient {f f_is_tuple_of f_is_polynomial f_are_tails : Addr} {fd d_is_tuple_of d_is_polynomial d_are_tails : FuncData}  (F : Fun K "is_quotient" "is_quotient" s_is_quotient f fd) (T : Bt mg) (p_is_tuple_of : Kn P w K mg base 1 "is_tuple_of" ["thing", "many"] spTupOf f_is_tuple_of d_is_tuple_of) (p_is_polynomial : Kn P w K mg base 6 "is_polynomial" ["thing"] (spCk (DR Fit)) f_is_polynomial d_is_polynomial) (p_are_tails : Kn P w K mg base 8 "are_tails" ["thing"] (spCk (DTs Fit)) f_are_tails d_are_tails) : FnOk P w K mg base CX0 9 f fd ["thing"] (spCk (DQ Fit)) := by
  refine F.ok sc_is_quotient (fun vs H Q E h => ?_) (fun cdv A outer s H vs Q E hr h => ?_)
  · obtain ⟨v, d, rfl, _⟩ := h
    rfl
  · obtain ⟨v, d, rfl, hd, gd, k⟩ := h
    refine ⟨_, pss_one (ps_ret (pe_and (pe_call p_is_tuple_of.ok (hr.mono (by decide)) rfl p_is_tuple_of.mg p_is_tuple_of.kp p_is_tuple_of.bd .nil pass0 (pa_cons (pv 0) (pa_cons pe_int pa_nil))) (pe_and (pe_call p_is_polynomial.ok (hr.mono (by decide)) rfl p_is_polynomial.mg p_is_polynomial.kp p_is_polynomial.bd .nil pass0 (pa_cons (pe_ix (r := rIx K) ix_seq (pv 0) pe_int (fun _ _ => rfl)) pa_nil)) (pe_one (pe_call p_are_tails.ok (hr.mono (by decide)) rfl p_are_tails.mg p_are_tails.kp p_are_tails.bd .nil pass0 (pa_cons (pe_ix (r := rIx K) ix_seq (pv 0) pe_int (fun _ _ => rfl)) pa_nil)))))), ?_⟩
    refine ⟨_, rfl, v, d, 2, rfl, hd, _, rfl, ite_b (fun e => ?_) (fun e => ?_)⟩
    · obtain ⟨x, y, rfl⟩ := tup_two e
      obtain ⟨a, xv, yv, rfl, ea, dx, dy⟩ := dn_pair hd
      refine ⟨_, rfl, .inr (.inl ⟨a, _, _, _, rfl, rfl, SqT.of ea, rfl, xv, x, rfl, dx, gd.item mem0, fun b H1 hb s1 => ⟨_, rfl, ite_b (fun e2 => ?_) (fun e2 => ?_)⟩⟩)⟩
      · refine ⟨_, rfl, .inr (.inl ⟨a, _, _, _, rfl, rfl, SqT.of (s1 _ _ ea), rfl, yv, y, rfl, Dn.mono s1 _ _ dy, gd.item mem1, fun b2 H2 hb2 s2 => k b2 H2 ?_ (s1.trans s2)⟩)⟩
        obtain ⟨r, rfl, cr⟩ := hb.mp e2
        rw [hb2]
        constructor
        · rintro ⟨ts, rfl, h⟩
          exact ⟨(r, ts), rfl, cr, h⟩
        · rintro ⟨q, e', _, h⟩
          exact ⟨q.2, (by injection e' with e'; injection e' with _ e'; injection e' with e' _), h⟩
      · refine k false H1 ⟨fun z => (by cases z), fun ⟨q, e', h, _⟩ => ?_⟩ s1
        rw [hb.mpr ⟨q.1, (show x = encR q.1 by injection e' with e'; injection e' with e' _), h⟩] at e2
        cases e2
    · refine k false H ⟨fun z => (by cases z), fun ⟨t, e', _⟩ => ?_⟩ (Same.refl _)
      rw [e'] at e
      cases e
end
end N3

namespace N3
open PySem PySem.Spec PyProof.Rows L2 N2
def rowsOf (q : Qt) : List (List Nm) := q.1 :: q.2.map (·.2)
theorem plain_rows {q : Qt} : Plain q ↔ ∀ r ∈ rowsOf q, ∀ n ∈ r, FrN n := by
  constructor
  · rintro ⟨h1, h2⟩ r hr
    rcases List.mem_cons.mp hr with rfl | hr
    · exact h1
    · obtain ⟨t, ht, rfl⟩ := List.mem_map.mp hr
      exact h2 t ht
  · intro h
    exact ⟨h _ List.mem_cons_self, fun t ht => h _ (List.mem_cons_of_mem _ (List.mem_map.mpr ⟨t, ht, rfl⟩))⟩
theorem wtR (r : List Nm) : 2 * r.length ≤ wt (encR r) := by
  have h := wtA_len (r.map encN)
  rw [List.length_map] at h
  show 2 * r.length ≤ wtA (r.map encN) + 3
  omega
theorem wtTs : ∀ ts : List Tl, 2 * ((ts.map (·.2)).flatten.length) ≤ wtA (ts.map encTl)
  | [] => Nat.zero_le _
  | t :: ts => by
    have h1 := wtTs ts
    have h2 := wtR t.2
    rw [List.map_cons, List.flatten_cons, List.length_append, List.map_cons]
    show 2 * (t.2.length + ((ts.map (·.2)).flatten.length)) ≤ (wtA [encPl t.1, encR t.2] + 3) + 2 + wtA (ts.map encTl)
    simp only [wtA]
    omega
theorem gd_flat {q : Qt} (h : Gd (encQ q)) : (rowsOf q).flatten.length ≤ 1000000 := by
  have hw := h.wt
  have h1 := wtR q.1
  have h2 := wtTs q.2
  have e : wt (encQ q) = wtA [encR q.1, .tuple (q.2.map encTl)] + 3 := rfl
  have e2 : wtA [encR q.1, .tuple (q.2.map encTl)] = wt (encR q.1) + 2 + (wtA (q.2.map encTl) + 3 + 2 + 0) := rfl
  rw [rowsOf, List.flatten_cons, List.length_append]
  omega
theorem flat_take {R : List (List Nm)} {i : Nat} {r : List Nm} (h : R[i]? = some r) : (R.take (i + 1)).flatten.length = (R.take i).flatten.length + r.length := by
  rw [List.take_add_one, h]
  simp
theorem flat_le (R : List (List Nm)) (i : Nat) : (R.take i).flatten.length ≤ R.flatten.length := by
  have h : R.flatten.length = (R.take i).flatten.length + (R.drop i).flatten.length := by
    rw [← List.length_append, ← List.flatten_append, List.take_append_drop]
  omega
theorem dn_rows {H : Hp} : ∀ {xs : List V} {ts : List Tl}, DnAll H xs (ts.map encTl) → ∀ (i : Nat) (x : V), xs[i]? = some x → ∃ t a p r, ts[i]? = some t ∧ x = .ref a ∧ H a = some (.tup [p, r]) ∧ Dn H r (encR t.2) ∧ Dn H p (encPl t.1) := by
  intro xs ts ra i x hx
  obtain ⟨d, ed, dn⟩ := ra.at_ hx
  rw [List.getElem?_map] at ed
  obtain ⟨t, et, rfl⟩ := Option.map_eq_some_iff.mp ed
  obtain ⟨a, p, r, rfl, ha, dp, dr⟩ := dn_pair dn
  exact ⟨t, a, p, r, et, rfl, ha, dr, dp⟩
theorem DnAll.snoc {H : Hp} : ∀ {xs : List V} {ds : List PyData} {x : V} {d : PyData}, DnAll H xs ds → Dn H x d → DnAll H (xs ++ [x]) (ds ++ [d])
  | _, _, _, _, .nil, h => .cons h .nil
  | _, _, _, _, .cons a r, h => .cons a (DnAll.snoc r h)
section
variable {P : Program} {w : World} {K : PySem.W.Frag} {mg : Str → Option Value} {base : Heap}
abbrev s_is_equation : Stmt := top 43
abbrev nsEq : List Str := ["thing", "rows", "_", "row", "number"]
theorem sc_is_equation : FnScope nsEq ["thing"] (defScope s_is_equation) := ⟨rfl, rfl, rfl, by decide +kernel, rfl, by decide +kernel, by decide +kernel⟩
theorem ok_is_equation {f f_is_quotient f_is_fraction : Addr} {fd d_is_quotient d_is_fraction : FuncData}  (F : Fun K "is_equation" "is_equation" s_is_equation f fd) (T : Bt mg) (p_is_quotient : Kn P w K mg base 9 "is_quotient" ["thing"] (spCk (DQ Fit)) f_is_quotient d_is_quotient) (p_is_fraction : Kn P w K mg base 6 "is_fraction" ["thing"] spFraction f_is_fraction d_is_fraction) : FnOk P w K mg base CX0 10 f fd ["thing"] (spCk (fun d => ∃ q, d = encQ q ∧ CQ Fit q ∧ Plain q)) := by
  refine F.ok sc_is_equation (fun vs H Q E h => ?_) (fun cdv A outer s H vs Q E hr h => ?_)
  · obtain ⟨v, d, rfl, _⟩ := h
    rfl
  · obtain ⟨v, d, rfl, hd, gd, k⟩ := h
    refine ⟨_, pss_cons (ps_if (pt_not (pt_val (pe_call p_is_quotient.ok (hr.mono (by decide)) rfl p_is_quotient.mg p_is_quotient.kp p_is_quotient.bd .nil pass0 (pa_cons (pv 0) pa_nil))))
        (pss_one (ps_ret pe_bl))
        pss_nil)
      (pss_cons (ps_set (i := 1) sc_is_equation.nd rfl (Or.inl rfl) (pe_op op_cat (pe_lst (pa_cons (pe_ix (r := rIx K) ix_seq (pv 0) pe_int (fun _ _ => rfl)) pa_nil)) (pe_lc (own := [("_", 2), ("row", 3)]) (g := (gTup K 2 (gCons (gName 2) (gCons (gName 3) gNil)))) (tt := tYes) rfl sc_is_equation.nd (pi_tup (pe_ix (r := rIx K) ix_seq (pv 0) pe_int (fun _ _ => rfl))) (blkOk_by (own := [("_", 2), ("row", 3)]) (N := nsEq) (sc := defScope s_is_equation) (by decide +kernel)) (fun _ _ _ _ _ => pg_tup rfl (pgs_cons (pg_name (i := 2) sc_is_equation.nd rfl (Or.inl rfl)) (pgs_cons (pg_name (i := 3) sc_is_equation.nd rfl (Or.inl rfl)) pgs_nil))) (fun _ _ _ _ _ => pts_nil) (fun _ _ _ _ _ => (pv 3)))))
      (pss_one (ps_ret (pe_callB (cr_all rfl) (by rfl) T.all (by decide +kernel) (pa_cons (pe_lc2 (own := [("row", 3), ("number", 4)]) (vs1 := [4]) (g := (gName 3)) (tt := tYes) (g1 := (gName 4)) (tt1 := tYes) (wi1 := iTup K (tVar 3)) rfl sc_is_equation.nd (pi_list (pv 1)) (blkOk_by (own := [("row", 3), ("number", 4)]) (N := nsEq) (sc := defScope s_is_equation) (by decide +kernel)) (by decide) (fun _ _ _ _ _ => pg_name (i := 3) sc_is_equation.nd rfl (Or.inl rfl)) (fun _ _ _ _ _ => pts_nil) (fun _ _ _ _ _ => (pi_tup (pv 3))) (fun _ _ _ _ _ => pg_name (i := 4) sc_is_equation.nd rfl (Or.inl rfl)) (fun _ _ _ _ _ => pts_nil) (fun _ _ _ _ _ => (pe_call p_is_fraction.ok (hr.mono (by decide)) rfl p_is_fraction.mg p_is_fraction.kp p_is_fraction.bd .nil pass0 (pa_cons (pv 4) pa_nil)))) pa_nil))))), ?_⟩
    have sl1 : 1 ≤ sizeLine := by rw [sizeLine_eq]; decide
    refine ⟨_, rfl, v, d, rfl, hd, gd, fun b H1 hb s1 => ⟨_, rfl, ?_⟩⟩
    cases b with
    | false =>
      refine iteT ?_
      exact k false H1 ⟨fun z => (by cases z), fun ⟨q, e, h, _⟩ => by have := hb.mpr ⟨q, e, h⟩; cases this⟩ s1
    | true =>
      refine iteF ?_
      obtain ⟨q, rfl, cq⟩ := hb.mp rfl
      obtain ⟨a, v1, v2, rfl, ea, d1, d2⟩ := dn_pair hd
      obtain ⟨b2, xs, rfl, eb, rb⟩ := dn_t d2
      have lts : q.2.length ≤ 1000000 := by have := gd_len (gd.item mem1); rw [List.length_map] at this; exact this
      refine ⟨_, rfl, .inr (.inl ⟨a, _, _, _, rfl, rfl, SqT.of (s1 _ _ ea), rfl, sl1, fun p1 hp1 => ?_⟩)⟩
      have s2 := s1.trans (snew (o := .lst [v1]) hp1)
      refine ⟨_, rfl, .inr (.inl ⟨a, _, _, _, rfl, rfl, SqT.of (s2 _ _ ea), rfl, ?_⟩)⟩
      refine ⟨b2, rfl, ⟨_, SqT.of (s2 _ _ eb)⟩, fun D hD => lc_tup (K := K) (a := b2) (xs := xs) (fun i H' => ∃ acc, H' D = some (.lst acc) ∧ DnAll H acc ((q.2.take i).map fun t => encR t.2) ∧ H' p1 = some (.lst [v1]) ∧ Same H H')
        ⟨[], upd_same, .nil, by rw [upd_ne (ne_of_none upd_same hD)]; exact upd_same, s2.trans (snew hD)⟩ (fun i H' _ ⟨_, _, _, _, s'⟩ => SqT.of (s' _ _ eb)) ?_ ?_⟩
      · rintro i x H' hx ⟨acc, e1, e2, e3, s'⟩
        obtain ⟨t, ax, pv_, rv, et, rfl, hax, dr, _⟩ := dn_rows rb i x hx
        have lacc : acc.length = (q.2.take i).length := by rw [e2.length, List.length_map]
        have il := (List.getElem?_eq_some_iff.mp et).1
        refine ⟨ax, _, rfl, SqT.of (s' _ _ hax), rfl, _, _, rfl, _, _, rfl, rfl, rfl, ?_⟩
        refine ⟨_, rfl, acc, e1, small_m (by rw [lacc, List.length_take]; omega), acc ++ [rv], upd_same, ?_, ?_, fun c o eo => ?_⟩
        · rw [List.take_add_one, et]
          show DnAll H (acc ++ [rv]) ((q.2.take i ++ [t]).map fun t => encR t.2)
          rw [List.map_append]
          exact DnAll.snoc e2 dr
        · rw [upd_ne (ne_of_none upd_same (show upd H1 p1 (.lst [v1]) D = none from hD))]; exact e3
        · rw [upd_ne (ne_of_none (s2 _ _ eo) hD)]; exact s' _ _ eo
      · rintro H2 ⟨acc, e1, e2, e3, s3⟩
        have lx : xs.length = q.2.length := by rw [rb.length, List.length_map]
        rw [lx, List.take_length] at e2
        have lacc : acc.length = q.2.length := by rw [e2.length, List.length_map]
        have slA : acc.length + 1 ≤ sizeLine := by have := small_m (n := acc.length) (by omega); omega
        refine ⟨_, _, _, _, rfl, rfl, e3, e1, by show 1 + acc.length ≤ sizeLine; omega, fun l hl => ?_⟩
        have s4 := s3.trans (snew (o := .lst ([v1] ++ acc)) hl)
        have dR : DnAll H (v1 :: acc) ((rowsOf q).map encR) := by
          show DnAll H (v1 :: acc) (encR q.1 :: (q.2.map (·.2)).map encR)
          rw [List.map_map]
          exact .cons d1 e2
        have fl := gd_flat gd
        obtain ⟨H3, eH3⟩ : ∃ H3, upd H2 l (.lst ([v1] ++ acc)) = H3 := ⟨_, rfl⟩
        have hl3 : H3 l = some (.lst (v1 :: acc)) := by rw [← eH3]; exact upd_same
        rw [eH3] at s4 ⊢
        refine ⟨_, rfl, l, rfl, ⟨_, SqL.of hl3⟩, fun D2 hD2 => out_list (K := K) (a := l) (xs := v1 :: acc) (fun i H' => ∃ bs : List Bool, H' D2 = some (.lst (bs.map V.bl)) ∧ bs.length ≤ ((rowsOf q).take i).flatten.length ∧ (bs.all id = true ↔ ∀ j, j < i → ∀ r, (rowsOf q)[j]? = some r → ∀ n ∈ r, FrN n) ∧ Same H3 H')
          ⟨[], upd_same, Nat.zero_le _, by simp, snew hD2⟩ (fun i H' _ ⟨_, _, _, _, s'⟩ => SqL.of (s' _ _ hl3)) ?_ ?_⟩
        · rintro i x H' hx ⟨bs, b1, b2', b3, s'⟩
          obtain ⟨d, ed, dn⟩ := dR.at_ hx
          rw [List.getElem?_map] at ed
          obtain ⟨r, er, rfl⟩ := Option.map_eq_some_iff.mp ed
          obtain ⟨ar, ys, rfl, har, rr⟩ := dn_t dn
          have cr : ∀ n ∈ r, CN Fit n := by
            have := List.mem_of_getElem? er
            rcases List.mem_cons.mp this with rfl | h
            · exact cq.1.1
            · obtain ⟨t, ht, rfl⟩ := List.mem_map.mp h
              exact (cq.2.1 t ht).2.1.1
          have gR : Gd (encR r) := by
            have := List.mem_of_getElem? er
            rcases List.mem_cons.mp this with rfl | h
            · exact gd.item mem0
            · obtain ⟨t, ht, rfl⟩ := List.mem_map.mp h
              exact Gd.item (ds := [encPl t.1, encR t.2]) (Gd.item (gd.item mem1) (List.mem_map.mpr ⟨t, ht, rfl⟩)) mem1
          have ft := flat_take er
          have fle := flat_le (rowsOf q) (i + 1)
          have sH := s4.trans s'
          refine ⟨rfl, ?_⟩
          refine ⟨_, rfl, ar, rfl, ⟨_, SqT.of (sH _ _ har)⟩, in_tup (K := K) (a := ar) (xs := ys) (fun j H'' => ∃ bs : List Bool, H'' D2 = some (.lst (bs.map V.bl)) ∧ bs.length ≤ ((rowsOf q).take i).flatten.length + j ∧ (bs.all id = true ↔ (∀ j, j < i → ∀ r, (rowsOf q)[j]? = some r → ∀ n ∈ r, FrN n) ∧ ∀ m, m < j → ∀ n, r[m]? = some n → FrN n) ∧ Same H3 H'')
            ⟨bs, b1, b2', by rw [b3]; simp, s'⟩ (fun j H'' _ ⟨_, _, _, _, s''⟩ => SqT.of (s'' _ _ (s4 _ _ har))) ?_ ?_⟩
          · rintro j y H'' hy ⟨cs, c1, c2, c3, s''⟩
            obtain ⟨d', ed', dn'⟩ := rr.at_ hy
            rw [List.getElem?_map] at ed'
            obtain ⟨n, en, rfl⟩ := Option.map_eq_some_iff.mp ed'
            have jl := (List.getElem?_eq_some_iff.mp en).1
            have hn := List.mem_of_getElem? en
            refine ⟨rfl, ?_⟩
            refine ⟨_, rfl, y, encN n, rfl, Dn.mono (s4.trans s'') _ _ dn', (Gd.item gR (List.mem_map.mpr ⟨n, hn, rfl⟩)).short, fun b H4 hb4 s5 => ?_⟩
            have hfr : b = true ↔ FrN n := hb4.trans (fp_fr (cr n hn))
            refine ⟨_, s5 _ _ c1, by rw [List.length_map]; exact small_m (by omega), cs ++ [b], by rw [List.map_append, upd_same]; rfl, by rw [List.length_append]; show cs.length + 1 ≤ _; omega, ?_, fun c o eo => ?_⟩
            · rw [List.all_append, Bool.and_eq_true, c3]
              simp only [List.all_cons, List.all_nil, Bool.and_true, id]
              rw [hfr]
              constructor
              · rintro ⟨⟨h1, h2⟩, h3⟩
                refine ⟨h1, fun m hm n' en' => ?_⟩
                by_cases c : m = j
                · subst c; rw [en] at en'; cases en'; exact h3
                · exact h2 m (by omega) n' en'
              · rintro ⟨h1, h2⟩
                exact ⟨⟨h1, fun m hm => h2 m (by omega)⟩, h2 j (by omega) n en⟩
            · rw [upd_ne (ne_of_none eo hD2)]
              exact s5 _ _ (s'' _ _ eo)
          · rintro H'' ⟨cs, c1, c2, c3, s''⟩
            have ly : ys.length = r.length := by rw [rr.length, List.length_map]
            rw [ly] at c2 c3
            refine ⟨cs, c1, by rw [ft]; exact c2, ?_, s''⟩
            rw [c3]
            constructor
            · rintro ⟨h1, h2⟩ j hj r' er' n hn
              by_cases c : j = i
              · subst c
                rw [er] at er'
                cases er'
                obtain ⟨m, hm, em⟩ := List.mem_iff_getElem.mp hn
                exact h2 m hm n (by rw [List.getElem?_eq_getElem hm, em])
              · exact h1 j (by omega) r' er' n hn
            · intro h
              exact ⟨fun j hj => h j (by omega), fun m hm n en => h i (by omega) r er n (List.mem_of_getElem? en)⟩
        · rintro H5 ⟨bs, b1, b2', b3, s5⟩
          refine ⟨D2, bs, rfl, SqL.of b1, k _ H5 ?_ (s4.trans s5)⟩
          have ll : (v1 :: acc).length = (rowsOf q).length := by rw [dR.length, List.length_map]
          rw [ll] at b3
          rw [b3]
          have e9 : (∀ j, j < (rowsOf q).length → ∀ r, (rowsOf q)[j]? = some r → ∀ n ∈ r, FrN n) ↔ Plain q := (mem_idx (l := rowsOf q) (p := fun r => ∀ n ∈ r, FrN n)).trans plain_rows.symm
          rw [e9]
          exact ⟨fun h => ⟨q, rfl, cq, h⟩, fun ⟨q', e, _, h⟩ => by rw [encQ_inj e]; exact h⟩
end
end N3

namespace PySem
namespace XtT
open Builtin PySem.AutoSeq1
theorem list_extend_tup (l : Addr) (items : Array Value) (n : Nat) (b : Addr) (items2 : Array Value) (n2 : Nat) (dd : Option Addr) (sl : Array (Option Value)) (hs0 : ¬(!items.isEmpty && Builtin.List.listTooLong (items.size + items2.size)) = true) (hs1 : items.size ≤ sizeLine) (hs2 : items.size + items2.size ≤ sizeLine + 1) :
    Meets (Builtin.«list.extend» ⟨[.ref l, .ref b], []⟩) (fun _ R s => s.heap.get? l = some { cls := .type "list", dict := none, data := .seq items n, slots := #[] } ∧ s.heap.get? b = some { cls := .type "tuple", dict := dd, data := .seq items2 n2, slots := sl } ∧ R (.ok (.ret Value.none)) { s with heap := s.heap.update l (Obj.mapSeq fun x => x ++ items2), toks := s.toks }) :=
  .of_wp fun prog w A R s h => by
    obtain ⟨hp, g, d, tk, os⟩ := s; obtain ⟨hl, hb, h⟩ := h; have f1 := idx_int; have f2 := sub_tuple_tuple; have f3 := sub_list_list; have f4 := sub_tuple_list; have f5 := sub_list_tuple;
    have hz' : (items ++ items2).size ≤ sizeLine + 1 := by rw [Array.size_append]; exact hs2
    wp_walk using (wpAny_updateSeq hl rfl (hz := hs1) (_hz' := hz')), wpAny_loadPart' hl, wpAny_loadPart' hb; exact ⟨_, rfl, h⟩
end XtT
end PySem
namespace L2
open PySem PySem.Spec PyProof.Rows
def rExtendT (K : PySem.W.Frag) : V → List V → Hp → VK → Prop := fun x vs H Q => ∃ l b xs zs, x = .ref l ∧ vs = [.ref b] ∧ H l = some (.lst xs) ∧ SqT K H b zs ∧ xs.length + zs.length ≤ sizeLine ∧ Q .non (upd H l (.lst (xs ++ zs)))
theorem mt_extendT {X : Cx} : MtM X "list.extend" (rExtendT X.K) := by
  intro pins s σ H x vs v us Q I rx rv h
  obtain ⟨l, b, xs, zs, rfl, rfl, hH, hB, hz, q⟩ := h
  cases rx
  obtain ⟨u, rfl, ru⟩ := rv.one
  cases ru
  obtain ⟨z, its, n, r, hl, e⟩ := I.lstM hH
  obtain ⟨its2, r2, ⟨⟨c2, dd, dt, sl⟩, e2, hc, n2, hd⟩, z2⟩ := I.tuple hB
  dsimp only at hc hd
  subst hc hd
  have hl2 := r2.length
  have hsz : its.toArray.size + its2.toArray.size ≤ sizeLine := by rw [List.size_toArray, List.size_toArray]; omega
  have hlong : ¬ (!its.toArray.isEmpty && Builtin.List.listTooLong (its.toArray.size + its2.toArray.size)) = true := by
    rw [notLongL hsz, Bool.and_false]
    exact Bool.false_ne_true
  refine call_meets F.slot_list_extend ⟨_, e, rfl⟩ F.entry_list_extend (F.args_list_extend_2 _ _)
    (PySem.XtT.list_extend_tup l its.toArray n b its2.toArray n2 dd sl hlong (by rw [List.size_toArray]; omega) (by omega)) ⟨e, e2, ?_⟩
  refine ⟨.non, _, I.lset (its' := its ++ its2) hH e (by simp) (r.append r2) ?_, rfl, q⟩
  rw [List.length_append]
  omega
end L2

namespace PySem
namespace Lm
open PySem.W PySem.Calls PyProof.Rows
section
variable {prog : Program} {w : World} {A : Around} {E : Value → Shared → Prop} {s : Shared}
/-- t[0] * n // t[1] for a local name t -/
abbrev keyB (x : Str) (n : Int) (k1 k2 k3 : Nat) (p1 p2 p3 p4 p5 p6 p7 p8 p9 : Pos) : Expr :=
  .BinOp (.BinOp (.Subscript (.Name x p1) (.Constant (.int 0) k1 p2) p3) .Mult (.Constant (.int n) k2 p4) p5) .FloorDiv (.Subscript (.Name x p6) (.Constant (.int 1) k3 p7) p8) p9
theorem key_eval {env : Env} {m : Str → Option Value} {t : Addr} {i j n : Int} {ti tj : Tok} {x : Str} {k1 k2 k3 : Nat} {p1 p2 p3 p4 p5 p6 p7 p8 p9 : Pos} {Q : Value → Shared → Prop} (hk : env.scope.kind = .function) (hl : env.kindOf x = some .local) (hd : (x == ("__debug__" : Str)) = false)
    (hn : s.heap.Ns env.locals m) (hm : m x = some (.ref t)) (ht : PyProof.Rows.IsTup s.heap t #[.int i ti, .int j tj]) (hmul : IntMulOk i n) (hj : j ≠ 0) (hdiv : Builtin.divisionGoesByPylong (i * n) j = false) (h : ∀ tk tok, Q (.int ((i * n).fdiv j) tok) { s with toks := tk }) :
    wpAny (model prog w) A (eval (keyB x n k1 k2 k3 p1 p2 p3 p4 p5 p6 p7 p8 p9) env) Q E s := by
  refine wpAny_BinOp (wpAny_BinOp (Subscript_ (wpAny_Name (wpAny_loadName_local hk hl hn hm (wpAny_Constant_int ?_)) hd)))
  refine subscriptTail_builtinR (T := "tuple") (x := .int i ti) (PyProof.Rows.IsTup.typeIs ht) slot_tuple_getitem.lookup (PyProof.Rows.getItem_tuple (j := 0) ht (by decide) (by decide) (by rfl) (by rfl) ⟨rfl, ?_⟩) (by with_unfolding_all rfl)
  refine wpAny_Constant_int ?_
  refine mul_int ?_ hmul
  refine Subscript_ (wpAny_Name (wpAny_loadName_local hk hl hn hm (wpAny_Constant_int ?_)) hd)
  refine subscriptTail_builtinR (T := "tuple") (x := .int j tj) (PyProof.Rows.IsTup.typeIs ht) slot_tuple_getitem.lookup (PyProof.Rows.getItem_tuple (j := 1) ht (by decide) (by decide) (by rfl) (by rfl) ⟨rfl, ?_⟩) (by with_unfolding_all rfl)
  exact floordiv_int hj (h _ _) (.inl hdiv)
/-- such a lambda is called: what was there stays, the int is told -/
theorem lam_call {f c' t : Addr} {q : Str} {params : Arguments} {scope : Scope} {pm ctv : Value} {i j n : Int} {ti tj : Tok} {x : Str} {k1 k2 k3 : Nat} {p1 p2 p3 p4 p5 p6 p7 p8 p9 : Pos} (hroom : A.depth < recursionLimit)
    (hf : s.heap.get? f = some (kla_obj "<lambda>" q params (keyB x n k1 k2 k3 p1 p2 p3 p4 p5 p6 p7 p8 p9) scope [] pm c' ctv)) (hc : s.heap.CodeRec (.ref c') q) (lim : s.heap.NoLimit) (kd : scope.kind = .function) (co : scope.isCoroutine = false) (gn : scope.isGenerator = false)
    (hl : scope.names.lookup x = some .local) (hd : (x == ("__debug__" : Str)) = false) (hb : bindArgs (kla_fn "<lambda>" q params (keyB x n k1 k2 k3 p1 p2 p3 p4 p5 p6 p7 p8 p9) scope [] pm (.ref c') ctv) ⟨[.ref t], []⟩ = pure [(x, .ref t)])
    (ht : PyProof.Rows.IsTup s.heap t #[.int i ti, .int j tj]) (hmul : IntMulOk i n) (hj : j ≠ 0) (hdiv : Builtin.divisionGoesByPylong (i * n) j = false) :
    wpAny (model prog w) A (call (.ref f) [.ref t]) (KeyPure (.int ((i * n).fdiv j)) s) (fun _ _ => False) s := by
  have go : codeAny (model prog w) A (.call (.ref f) ⟨[.ref t], []⟩) (fun r s' => ∃ u, r = .ok (.ret u) ∧ KeyPure (.int ((i * n).fdiv j)) s u s') s := by
    refine kla_callFunE hroom hf rfl co gn rfl hc ?_
    rw [hb]
    refine wpAny_pure (wpAny_newFunctionEnv_cells kd (fun y hy => ?_) fun env he s1 z => ?_)
    · rw [List.mem_singleton.mp hy]
      exact .inl hl
    · subst he
      refine ⟨lim.keeps z.toInCall.keep, ?_⟩
      obtain ⟨h1, tk, rfl, hk⟩ := z.done
      refine kla_codeExpr ?_
      have hm : bindL (newEnv scope s.heap.objs.size mainGlobals (cellsFrom (s.heap.objs.size + 1) scope.names []) (q ++ ".<locals>.") (some f) (.ref c') none builtinsNs).kindOf [(x, Value.ref t)] (fun _ => none) x = some (.ref t) :=
        L2.bindL_get (P := [x]) (vs := [.ref t]) (i := 0) (by simp) rfl rfl hl
      refine key_eval kd hl hd z.toInCall.ns hm (PyProof.Rows.IsTup.keeps ht hk) hmul hj hdiv fun tk2 tok => ?_
      exact ⟨_, rfl, h1, tk2, rfl, hk, Reads.int _ _⟩
  refine wpAny_call (codeAny_mono go fun r s' hq => ?_)
  obtain ⟨u, rfl, kp⟩ := hq
  exact kp
end
end Lm
end PySem

/-! sorted(d, key=lambda t: t[0] * n // t[1]) for a dict d with pairs of ints as keys -/
namespace LamX
open PySem PySem.Spec PyProof.Rows L2 PySem.W
/-- the key of an entry -/
def keyQ (n : Int) (g : List L2.Key → Int × Int) (k : List L2.Key) : Int := ((g k).1 * n).fdiv (g k).2
def KeyFit (n : Int) (g : List L2.Key → Int × Int) (k : List L2.Key) : Prop := k = [.inl (g k).1, .inl (g k).2] ∧ IntMulOk (g k).1 n ∧ (g k).2 ≠ 0 ∧ Builtin.divisionGoesByPylong ((g k).1 * n) (g k).2 = false
def tSorted (T : List (Addr × Str)) (i : Nat) (n : Int) : TE := fun σ H Q => ∃ (d : Addr) (kvs : List (List L2.Key × V)) (g : List L2.Key → Int × Int), σ[i]? = some (some (.ref d)) ∧ H d = some (.dT kvs) ∧ Tabs T H ∧ (∀ p ∈ kvs, KeyFit n g p.1) ∧
  ∀ (H1 : Hp) (l : Addr) (zs : List ((List L2.Key × V) × Addr)), ExtN H H1 → Tabs T H1 → H1 l = none → (zs.map (·.1)).Perm kvs → zs.Pairwise (fun x y => keyQ n g x.1.1 ≤ keyQ n g y.1.1) →
    (∀ z ∈ zs, H1 z.2 = some (.tup (z.1.1.map kV))) → Q (.ref l) (upd H1 l (.lst (zs.map fun z => V.ref z.2)))
theorem eachIs_get {α β : Type} {R : α → β → Prop} : ∀ {xs : List α} {ys : List β}, xs.length = ys.length → (∀ (j : Nat) (x : α) (y : β), xs[j]? = some x → ys[j]? = some y → R x y) → EachIs R xs ys
  | [], [], _, _ => .nil
  | [], _ :: _, h, _ => by simp at h
  | _ :: _, [], h, _ => by simp at h
  | x :: xs, y :: ys, h, g => .cons (g 0 x y rfl rfl) (eachIs_get (by simpa using h) fun j a b h1 h2 => g (j + 1) a b (by simpa using h1) (by simpa using h2))
theorem vals_each {ω : Type} (f : ω → Addr) : ∀ {vs : List Value} {zs : List ω}, EachIs (fun v z => v = Value.ref (f z)) vs zs → Vals (zs.map fun z => V.ref (f z)) vs
  | _, _, .nil => .nil
  | _, _, .cons h t => by
    subst h
    exact .cons rfl (vals_each f t)
theorem pget0 {α β : Type} {F : α → β → Prop} : ∀ {l₁ : List α} {l₂ : List β} {j : Nat} {x : β}, Paired F l₁ l₂ → l₂[j]? = some x → ∃ y, l₁[j]? = some y ∧ F y x
  | _, _, j, x, Paired.nil, h => by simp at h
  | _, _, 0, x, Paired.cons (a := y) f _, h => by
    simp only [List.getElem?_cons_zero] at h
    cases h
    exact ⟨y, rfl, f⟩
  | _, _, j + 1, x, Paired.cons _ t, h => by
    rw [List.getElem?_cons_succ] at h
    obtain ⟨y, h1, h2⟩ := pget0 (j := j) t h
    exact ⟨y, by rw [List.getElem?_cons_succ]; exact h1, h2⟩
section
variable {X : Cx}
theorem pe_sortedKT {T : List (Addr × Str)} {k i : Nat} {c P : Addr} {params : Arguments} {scope : Scope} {x y : Str} {n : Int} {k1 k2 k3 : Nat} {p1 p2 p3 p4 p5 p6 p7 p8 p9 p q kp lpos pos : Pos} (hr : Room k X.A) (hg : Gl X "sorted") (hm : X.mg "sorted" = none)
    (hN : X.N[i]? = some x) (hv : Vis X.env.scope x) (TB : TabB X.base X.mg c P) (hcode : X.env.code = .ref c) (hmT : (P, X.env.qual ++ "<lambda>") ∈ T) (hu : ∀ p ∈ T, p.1 = P → p.2 = X.env.qual ++ "<lambda>") (hdef : defaultsOf params X.env = ([], []))
    (hfree : ∀ y ∈ scope.names, y.2 ≠ .free) (kd : scope.kind = .function) (co : scope.isCoroutine = false) (gn : scope.isGenerator = false) (hl : scope.names.lookup y = some .local) (hclo : cloFrom X.env.cells scope.names [] = [])
    (hbind : ∀ (q : Str) (pm cv ctv : Value) (t : Addr), bindArgs (PySem.W.kla_fn "<lambda>" q params (PySem.Lm.keyB y n k1 k2 k3 p1 p2 p3 p4 p5 p6 p7 p8 p9) scope [] pm cv ctv) ⟨[.ref t], []⟩ = pure [(y, .ref t)])
    (hd : (x == ("__debug__" : Str)) = false := by decide) (hcd : (x == ("__classdict__" : Str)) = false := by decide) (hdy : (y == ("__debug__" : Str)) = false := by decide) :
    PE X (.Call (.Name "sorted" p) [.Name x q] [⟨some "key", .Lambda params (PySem.Lm.keyB y n k1 k2 k3 p1 p2 p3 p4 p5 p6 p7 p8 p9) scope lpos, kp⟩] pos) (tSorted T i n) := by
  refine ⟨fun pins s σ H Q I h => ?_⟩
  obtain ⟨d, kvs, g, hs, hdd, hT, hfit, hq⟩ := h
  refine wpAny_Call_Name_kw (ld_blt I hg hm rfl ?_)
  refine callWith_kw (e := .Name x q) (rest := []) (kws := [⟨some "key", .Lambda params (PySem.Lm.keyB y n k1 k2 k3 p1 p2 p3 p4 p5 p6 p7 p8 p9) scope lpos, kp⟩]) ?_
  show wpAny _ _ (spliced ((false, eval (.Name x q) X.env) :: backTo pos (starEach [] X.env))) _ _ s
  refine Calls.spliced_cons (thn ((pe_var (pos := q) (i := i) hN hv hd hcd).run pins s σ H (fun v H1 => v = .ref d ∧ H1 = H) I ⟨.ref d, hs, rfl, rfl⟩) fun u s1 ⟨v, H1, I1, r1, e1, e2⟩ => ?_)
  subst e1
  rw [e2] at I1
  obtain rfl : u = Value.ref d := r1
  refine Calls.spliced_nil ?_
  refine kws_cons (lam_make2 I1 TB hcode hmT hu hT hdef (fun y hy e => absurd e (hfree y hy)) fun f c' pm ctv H2 s2 I2 eN T2 hf hfn hfr hco => kws_nil ?_)
  show wpAny (model X.prog X.w) X.A (call (.builtin "sorted") [.ref d] [(Str.ofString "key", .ref f)]) _ _ s2
  have hd2 : H2 d = some (.dT kvs) := eN d _ hdd (fun ps z => nomatch z)
  obtain ⟨z, hsm, ks, pr, o, es, ep, ho, hx, hdt, he, hn⟩ := (show ObjOk X.prog X.w H2 s2.heap d (.dT kvs) from I2.hok d _ hd2)
  have l1 : es.size = ks.length := size_of_entries he
  have l2 : kvs.length = ks.length := Paired.length pr
  have hh : X.A.handled = none := hr.hd
  refine call_function_entry_kw kind_sorted plain_sorted entry_sorted (ksk_s1 _ _) ?_
  unfold Builtin.«sorted»
  refine wpAny_bind (m := checkCount "sorted" 1 1 _) (wpAny_pure ?_)
  refine wpAny_bind (kdu_collect (A := X.A.in1) (kdl_raw hsm hx hdt) hh ho (by omega) fun h' tk acc kp' it => ?_)
  have ea : acc.toList = ks.map fun x => Value.ref x.2.1 := by
    have hl : acc.toList.length = ks.length := by rw [Array.length_toList, it.1]; exact l1
    apply List.ext_getElem?
    intro j
    rw [List.getElem?_map]
    cases hj : acc.toList[j]? with
    | none =>
      have h1 := List.getElem?_eq_none_iff.mp hj
      rw [List.getElem?_eq_none (by omega)]
      all_goals rfl
    | some v =>
      obtain ⟨en, hen, hv⟩ := it.2 j v (by rw [← Array.getElem?_toList]; exact hj)
      have qe := entry_at he j
      rw [hen] at qe
      cases hb : ks[j]? with
      | none =>
        rw [hb] at qe
        exact nomatch (show some en = none from qe)
      | some b =>
        rw [hb] at qe
        have e2 : en = entryOfKey (tupleKind (mixKind X.prog X.w)) b := Option.some.inj qe
        rw [hv, e2]
        all_goals rfl
  have la : acc.toList.length = kvs.length := by rw [ea, List.length_map]; exact l2.symm
  refine wpAny_bind (wpAny_newList ?_ (by rw [la]; omega))
  refine wpAny_bind (wpAny_holding ?_)
  have hob : (h'.push { cls := .type "list", data := .seq acc.toList.toArray }).get? h'.objs.size = some (seqObj "list" acc.toList.toArray 0) := Heap.get?_push_size _ rfl
  have kb : ∀ b o, s2.heap.get? b = some o → (h'.push { cls := .type "list", data := .seq acc.toList.toArray }).get? b = some o := fun b o e => Heap.get?_push_of_some _ (kp' b o e)
  have old : s2.heap.get? h'.objs.size = none := by
    cases e : s2.heap.get? h'.objs.size with
    | none => rfl
    | some o => exact absurd (Heap.lt_size (kp' _ _ e)) (Nat.lt_irrefl _)
  have hn0 : H2 h'.objs.size = none := I2.hok.gone old
  have nsz : ∀ b o, s2.heap.get? b = some o → b ≠ h'.objs.size := fun b o e q => by rw [q, old] at e; cases e
  generalize hh2 : h'.push { cls := .type "list", data := .seq acc.toList.toArray } = h2 at hob kb ⊢
  have pget : ∀ (j : Nat) (v : Value) (e : (List L2.Key × V) × Addr), acc.toList[j]? = some v → (kvs.zip (ks.map fun x => x.2.1))[j]? = some e → v = .ref e.2 ∧ e.1 ∈ kvs ∧ H2 e.2 = some (.tup (e.1.1.map kV)) := by
    intro j v e hv he'
    obtain ⟨h1, h3⟩ := List.getElem?_zip_eq_some.mp he'
    rw [List.getElem?_map] at h3
    cases hb : ks[j]? with
    | none => rw [hb] at h3; exact nomatch (show (none : Option Addr) = some e.2 from h3)
    | some b =>
      rw [hb] at h3
      have e3 : b.2.1 = e.2 := Option.some.inj h3
      rw [ea, List.getElem?_map, hb] at hv
      have e4 : Value.ref b.2.1 = v := Option.some.inj hv
      obtain ⟨p0, hp0, r1, r2, r3⟩ := pget0 pr hb
      rw [h1] at hp0
      cases hp0
      exact ⟨by rw [← e4, e3], List.mem_of_getElem? h1, by rw [← e3]; exact r2⟩
  have lz : (kvs.zip (ks.map fun x => x.2.1)).length = kvs.length := by rw [List.length_zip, List.length_map, ← l2, Nat.min_self]
  have each : EachIs (fun (v : Value) (e : (List L2.Key × V) × Addr) => v = .ref e.2 ∧ e.1 ∈ kvs ∧ H2 e.2 = some (.tup (e.1.1.map kV))) acc.toList (kvs.zip (ks.map fun x => x.2.1)) := eachIs_get (by rw [la, lz]) pget
  have hdpth : X.A.in1.in1.depth < recursionLimit := by
    have := hr.dp
    show X.A.depth < _
    omega
  have hun := hr.un
  refine list_sort_key_data (A := X.A.in1) (s := { s2 with heap := h2, toks := tk }) (a := h'.objs.size) (n := 0) (f := .ref f) (b := false) (fun e : (List L2.Key × V) × Addr => PyData.int (keyQ n g e.1.1)) hob each
    (AllAlike.of fun _ _ => rfl) (Sortable.others fun _ => ⟨by simp, by simp⟩) (by rw [lz]; omega) (fun e he => ?_) (ksk_l1 _ _) (ksk_t1 _ _) (fun v e hR hmem h3 tk3 kp3 => ?_) (fun out cc h3 tk3 kp3 hD hlen hE => ?_)
  · show X.A.units + 1 + 1 + 0 < cLine
    omega
  · obtain ⟨rfl, hk, ht⟩ := hR
    obtain ⟨f1, f2, f3, f4⟩ := hfit e.1 hk
    have kk : ∀ b o, s2.heap.get? b = some o → h3.get? b = some o := fun b o e => kp3 b o (nsz b o e) (kb b o e)
    obtain ⟨⟨oc, vs, t, hoc, hdc, hvc⟩, _, _⟩ := I2.hok c' _ hco
    obtain ⟨_, its, rv, ot, hot, hct, nt, hdt'⟩ := (show ObjOk X.prog X.w H2 s2.heap e.2 (.tup (e.1.1.map kV)) from I2.hok _ _ ht)
    rw [f1] at rv
    cases rv with
    | cons ra rb =>
      cases rb with
      | cons rc rd =>
        cases rd
        obtain ⟨t1, rfl⟩ := ra
        obtain ⟨t2, rfl⟩ := rc
        refine PySem.Lm.lam_call (s := { s2 with heap := h3, toks := tk3 }) (c' := c') (q := X.env.qual ++ "<lambda>") hdpth (by rw [← hclo]; exact kk _ _ hf) ⟨c', oc, vs, t, rfl, kk _ _ hoc, hdc, hvc⟩ (I2.nolimit.keeps kk) kd co gn hl hdy (hbind _ _ _ _ _) ⟨ot, kk _ _ hot, hct, nt, hdt'⟩ f2 f3 f4
  · refine wpAny_pure ⟨_, rfl, ?_⟩
    rw [dataLe_int (fun e : (List L2.Key × V) × Addr => keyQ n g e.1.1)] at hE
    generalize hzs : (kvs.zip (ks.map fun x => x.2.1)).mergeSort (fun a b => decide (keyQ n g a.1.1 ≤ keyQ n g b.1.1)) = zs at hE
    have hperm : zs.Perm (kvs.zip (ks.map fun x => x.2.1)) := by rw [← hzs]; exact List.mergeSort_perm _ _
    have hsort : zs.Pairwise (fun a b => keyQ n g a.1.1 ≤ keyQ n g b.1.1) := by
      have q := List.pairwise_mergeSort (le := fun a b : (List L2.Key × V) × Addr => decide (keyQ n g a.1.1 ≤ keyQ n g b.1.1)) (fun a b c h1 h2 => by simp only [decide_eq_true_eq] at *; omega) (fun a b => by simp only [Bool.or_eq_true, decide_eq_true_eq]; omega) (kvs.zip (ks.map fun x => x.2.1))
      rw [hzs] at q
      exact q.imp fun h => of_decide_eq_true h
    have m1 : (kvs.zip (ks.map fun x => x.2.1)).map (·.1) = kvs := List.map_fst_zip (by rw [List.length_map]; omega)
    have kk : ∀ b o, s2.heap.get? b = some o → h3.get? b = some o := fun b o e => kp3 b o (nsz b o e) (kb b o e)
    have rv : Vals (zs.map fun z => V.ref z.2) out := vals_each (·.2) (hE.mono fun v z q => q.1)
    refine ⟨.ref h'.objs.size, _, I2.laidN (t' := tk3) (o := .lst (zs.map fun z => V.ref z.2)) kk old hn0 ?_, rfl, hq H2 h'.objs.size zs eN T2 hn0 ?_ hsort fun z hz => ?_⟩
    · have hz : (zs.map fun z => V.ref z.2).length ≤ sizeLine := by rw [List.length_map, hperm.length_eq, lz]; omega
      exact ⟨hz, out, cc, rv, hD⟩
    · have q := hperm.map (·.1)
      rw [m1] at q
      exact q
    · obtain ⟨j, hj⟩ := List.mem_iff_getElem?.mp (hperm.mem_iff.mp hz)
      have hj' := (List.getElem?_eq_some_iff.mp hj).1
      have hlt : j < acc.toList.length := by rw [la]; rw [lz] at hj'; exact hj'
      exact (pget j _ z (List.getElem?_eq_getElem hlt) hj).2.2
end
end LamX

/-! the head of a law whose def nm makes a lambda: the table of nm's code object is tracked, empty at first -/
namespace L2
open PySem PySem.Spec PyProof.Rows LamX
theorem idle_lawT {P : Program} {w : World} {K : PySem.W.Frag} {mg mb : Str → Option Value} {k : Nat} {fa a c T : Addr} {fd : FuncData} {x : Str} {sp : Sp} {s1 : Shared} {vs : List Value} {ns : List Int}
    (inK : K.In s1.heap) (hn : s1.heap.Ns mainGlobals mg) (hb : s1.heap.Ns builtinsNs mb) (hm : ∀ y : Str, y ≠ "__name__" → mb y = bootBuiltins y) (lim : s1.heap.NoLimit) (hg : s1.gens = #[])
    (hT : s1.heap.get? T = some { cls := .none, data := .fields #[] }) (nT : K.lookup T = none) (C : PySem.W.CodeHd s1.heap c T)
    (hbm : ∃ (bm : Addr) (ob : Obj), mg "__builtins__" = some (.ref bm) ∧ bm ≠ builtinsNs ∧ s1.heap.get? bm = some ob ∧ ob.cls = .type "module" ∧ ob.dict = some builtinsNs ∧ ob.data = .plain)
    (sc : s1.heap.get? a = some { cls := .type "list", data := .seq vs.toArray }) (hi : IntsAre vs ns) (small : ns.length ≤ sizeLine) (room : Room k callerA)
    (mods : ∃ mm, s1.heap.Ns sysModules mm)
    (F : ∀ base : Heap, K.In base → base.Ns mainGlobals mg → Sy base → TabB base mg c T → FnG P w K mg base k fa fd [x] sp) (bnd : ∀ (s : Shared) (u : Value), BindsTo s fd ⟨[u], []⟩ [(x, u)])
    (prom : ∀ H : Hp, H T = some (.tbl #[]) → SqL K H a (ns.map V.int) → sp [.ref a] H (fun v _ => v = .bl true) E0) :
    codeAny (model P w) callerA (.call (.ref fa) ⟨[.ref a], []⟩) (fun r s' => r = .ok (.ret (.bool true)) ∧ OldK s1.heap s'.heap ∧ s'.os = s1.os ∧ AllBare s'.gens) s1 := by
  have rv := vals_ints hi
  have lv := hi.length
  have aT : a ≠ T := fun z => by
    rw [z, hT] at sc
    have z' : Data.fields #[] = Data.seq vs.toArray _ := congrArg Obj.data (Option.some.inj sc)
    cases z'
  have main : ∀ H : Hp, H T = some (.tbl #[]) → (∀ b, H b = none ∨ b = T ∨ ∃ o xs, H b = some (.frz o (.lst xs))) → SqL K H a (ns.map V.int) → HOk P w H s1.heap → (∀ b, H b ≠ none → b = a ∨ b = T) → (H a ≠ none → K.lookup a = none) →
      codeAny (model P w) callerA (.call (.ref fa) ⟨[.ref a], []⟩) (fun r s' => r = .ok (.ret (.bool true)) ∧ OldK s1.heap s'.heap ∧ s'.os = s1.os ∧ AllBare s'.gens) s1 := by
    intro H hH only sq hok just none_a
    have noD : ∀ {b : Addr} {o : Obj}, s1.heap.get? b = some o → (∀ vs n, o.data ≠ .seq vs n) → o.data ≠ .fields #[] → H b = none := fun {b o} e h1 h2 => by
      cases q : H b with
      | none => rfl
      | some u =>
        rcases just b (by rw [q]; simp) with e' | e'
        · rw [e', sc] at e
          cases e
          exact (h1 _ _ rfl).elim
        · rw [e', hT] at e
          cases e
          exact (h2 rfl).elim
    have noA : ∀ {b : Addr} {o : Obj} {es : Array DictEntry} {ep : Nat}, s1.heap.get? b = some o → o.data = .dict es ep → H b = none := fun {b o es ep} e d => by
      refine noD e (fun vs n z => ?_) fun z => ?_
      · rw [d] at z
        cases z
      · rw [d] at z
        cases z
    have ns_of : ∀ {b : Addr} {m : Str → Option Value}, s1.heap.Ns b m → (hidT s1.heap H).Ns b m := fun {b m} ⟨o, es, ep, e, d, r⟩ => ⟨o, es, ep, hidT_get e (noA e d), d, r⟩
    have k_of : K.In (hidT s1.heap H) := by
      intro b o e
      refine hidT_get (inK b o e) ?_
      cases q : H b with
      | none => rfl
      | some u =>
        rcases just b (by rw [q]; simp) with e' | e'
        · subst e'
          rw [none_a (by rw [q]; simp)] at e
          cases e
        · rw [e', nT] at e
          cases e
    have md : Mod K mg (hidT s1.heap H) := by
      obtain ⟨mc, l1, l2⟩ := lim
      exact ⟨k_of, ns_of hn, ⟨mb, ns_of hb, hm⟩, ⟨mc, ns_of l1, l2⟩⟩
    have TB : TabB (hidT s1.heap H) mg c T := by
      refine ⟨?_, ?_, fun z => ?_⟩
      · obtain ⟨o, us, file, tf, flags, tg, inF, text, tt, e1, r1, r2, r3, r4, r5, r6, r7, r8, hne⟩ := C
        refine ⟨o, us, file, tf, flags, tg, inF, text, tt, hidT_get e1 (noD e1 (fun vs n z => ?_) fun z => ?_), r1, r2, r3, r4, r5, r6, r7, r8, hne⟩
        · rw [r2] at z
          cases z
        · rw [r2] at z
          cases z
          simp at r3
      · obtain ⟨bm, ob, b1, b2, b3, b4, b5, b6⟩ := hbm
        have nG : bm ≠ mainGlobals := fun q => by
          obtain ⟨o, es, ep, e, hd, _⟩ := hn
          rw [q, e] at b3
          cases b3
          rw [hd] at b6
          cases b6
        have nP : bm ≠ T := fun q => by
          rw [q, hT] at b3
          cases b3
          cases b6
        refine ⟨bm, ob, b1, b2, nG, nP, hidT_get b3 (noD b3 (fun vs n z => ?_) fun z => ?_), b4, b5, b6⟩
        · rw [b6] at z
          cases z
        · rw [b6] at z
          cases z
      · obtain ⟨o, es, ep, e, hd, _⟩ := hn
        rw [z, hT] at e
        cases e
        cases hd
    have e0 : Env0 P w K mg (hidT s1.heap H) callerA [] s1 H :=
      { frames := rfl, mod := md, bs := fun b o e => of_hidT e, bsz := Nat.le_of_eq (hidT_size _ _), funs := trivial, frf := fun b hb => (List.not_mem_nil (show b ∈ ([] : List Addr) from hb)).elim, hok := hok, bare := .of_eq hg }
    have sy : Sy (hidT s1.heap H) := by
      obtain ⟨mm, hm⟩ := mods
      obtain ⟨o, es, ep, e, _⟩ := ns_of hm
      exact ⟨o, e⟩
    have go := (F _ k_of (ns_of hn) sy TB).run callerA [] s1 H ⟨[.ref a], []⟩ [.ref a] [.ref a] _ room rfl e0 (bnd s1 (.ref a)) (.cons rfl .nil) (prom H hH sq)
    refine codeAny_mono go fun r s' out => ?_
    cases r with
    | error e => exact False.elim out
    | ok fl =>
      cases fl with
      | next => exact False.elim out
      | brk => exact False.elim out
      | cont => exact False.elim out
      | ret u =>
        obtain ⟨v, H', os, bare, un, hok', rel, ev⟩ := out
        cases (show v = .bl true from ev)
        cases (show u = Value.bool true from rel)
        have key : ∀ b o, b ≠ T → s1.heap.get? b = some o → s'.heap.get? b = some o := fun b o nb e => by
          cases q : H b with
          | none => exact un.keep b o e q (fun z => List.not_mem_nil (show b ∈ ([] : List Addr) from z)) (by simp)
          | some u =>
            rcases only b with z | z | ⟨ob, xs, z⟩
            · rw [q] at z; cases z
            · exact absurd z nb
            · obtain ⟨e1, _⟩ := hok b _ z
              obtain ⟨e2, _⟩ := hok' b _ (un.frzs b ob _ z)
              rw [e] at e1; cases e1
              exact e2
        obtain ⟨more, hmore⟩ : ∃ more : Array Value, s'.heap.get? T = some { cls := .none, data := .fields more } := by
          obtain ⟨more, z⟩ := un.tbls T #[] hH
          exact ⟨_, hok' T _ z⟩
        refine ⟨rfl, ⟨fun b o e => ?_, fun b o e => ?_⟩, os, bare⟩
        · by_cases hb : b = T
          · rw [hb] at e ⊢
            rw [hT] at e
            cases e
            exact .inr (.inl ⟨(C.tab hT).isCodeTable, rfl, #[], more, rfl, by rw [Array.empty_append]; exact hmore⟩)
          · exact .inl (key b o hb e)
        · by_cases hb : b = T
          · rw [hb]
            exact ⟨_, hmore⟩
          · exact ⟨o, key b o hb e⟩
  cases hk : K.lookup a with
  | some o =>
    have e := inK a o hk
    rw [sc] at e
    cases e
    refine main (fun b => if b = T then some (.tbl #[]) else none) (if_pos rfl) (fun b => ?_) (.inr ⟨_, vs.toArray, _, hk, rfl, rfl, rfl, by rw [List.size_toArray, lv]; exact small, by simpa using rv⟩) (fun b u z => ?_) (fun b z => ?_) fun z => absurd (show (if a = T then some (HO.tbl #[]) else none) = none from if_neg aT) z
    · by_cases hb : b = T
      · exact .inr (.inl hb)
      · exact .inl (if_neg hb)
    · by_cases hb : b = T
      · have z' := (if_pos hb).symm.trans z
        cases z'
        rw [hb]
        exact hT
      · have z' := (if_neg hb).symm.trans z
        cases z'
    · by_cases hb : b = T
      · exact .inr hb
      · exact absurd (if_neg hb) z
  | none =>
    refine main (fun b => if b = a then some (.frz { cls := .type "list", data := .seq vs.toArray } (.lst (ns.map V.int))) else if b = T then some (.tbl #[]) else none) ((if_neg (Ne.symm aT)).trans (if_pos rfl)) (fun b => ?_)
      (.inl (.inr ⟨{ cls := .type "list", data := .seq vs.toArray }, if_pos rfl⟩)) (fun b u z => ?_) (fun b z => ?_) fun _ => hk
    · by_cases hb : b = a
      · exact .inr (.inr ⟨_, _, if_pos hb⟩)
      · by_cases hb2 : b = T
        · exact .inr (.inl hb2)
        · exact .inl ((if_neg hb).trans (if_neg hb2))
    · by_cases hb : b = a
      · have z' := (if_pos hb).symm.trans z
        cases z'
        rw [hb]
        exact ⟨sc, by rw [List.length_map]; exact small, vs, _, rv, sc⟩
      · have z1 := (if_neg hb).symm.trans z
        by_cases hb2 : b = T
        · have z' := (if_pos hb2).symm.trans z1
          cases z'
          rw [hb2]
          exact hT
        · have z' := (if_neg hb2).symm.trans z1
          cases z'
    · by_cases hb : b = a
      · exact .inl hb
      · by_cases hb2 : b = T
        · exact .inr hb2
        · exact absurd ((if_neg hb).trans (if_neg hb2)) z
/-- the table of the code object of the def nm -/
def tabOf (K : PySem.W.Frag) (nm : Str) : Addr := ((PySem.W.tabIn K nm).getD (0, 0)).2
theorem walk_idleT {l : PySem.W.OpenLaw} {n k : Nat} {q : Program} {loose : List Str} {XP : (Str → Option Value) → Heap → Prop} {YP : World → Heap → Prop} {d : DefRec} {K : Params → PySem.W.Frag} {sp : World → Sp} {x : Str} (nm : Str)
    (hn : l.most = some n) (small : n ≤ sizeLine) (hd : d.params.defaults = []) (hq : importsNone q = true) (room : Room k callerA) (hY : ∀ (w : World) (h : Heap), YP w h → (K w.params).In h)
    (hrec : ((recsOf q).find? (fun e => e.name == nm)).isSome = true)
    (F : ∀ (w : World) (mg : Str → Option Value) (fa : Addr) (h : Heap), (K w.params).In h → h.Ns mainGlobals mg → mg d.name = some (.ref fa) →
      ∃ (fd : FuncData) (c : Addr), (PySem.W.tabIn (K w.params) nm = some (c, tabOf (K w.params) nm) ∧ (K w.params).lookup (tabOf (K w.params) nm) = none) ∧ (∀ (s : Shared) (u : Value), BindsTo s fd ⟨[u], []⟩ [(x, u)]) ∧
        ∀ base : Heap, (K w.params).In base → base.Ns mainGlobals mg → Sy base → TabB base mg c (tabOf (K w.params) nm) → FnG l.prog w (K w.params) mg base k fa fd [x] (sp w))
    (prom : ∀ (w : World) (H : Hp) (a : Addr) (ns : List Int), ns.length ≤ n → H (tabOf (K w.params) nm) = some (.tbl #[]) → SqL (K w.params) H a (ns.map V.int) → sp w [.ref a] H (fun v _ => v = .bl true) E0) :
    PySem.W.WalkO q loose XP YP l.row.toRowW d [] (fun f vs => PySem.call f vs) := by
  refine Att.attach_call hn hd fun w s0 s1 mg mb fa o pm cd doc a vs ns G Y ho hd hcd hmg hobj hints hlen hg => ?_
  have inK := hY w _ Y
  obtain ⟨fd, c, ⟨ht, nT⟩, hb, hF⟩ := F w mg fa _ inK G.T.g hmg
  obtain ⟨d', hr⟩ := Option.isSome_iff_exists.mp hrec
  obtain ⟨C, hT⟩ := PySem.W.tab_of G.T inK hr ht
  exact idle_lawT inK G.T.g G.T.b G.T.builtins G.T.nolimit hg hT nT C G.T.bmain hobj hints (Nat.le_trans hlen small) room (let ⟨mm, h1, _⟩ := (G.T.seer hq).mods; ⟨mm, h1⟩) hF hb (fun H hH hS => prom w H a ns hlen hH hS)
end L2

namespace N3
open PySem PySem.Spec PyProof.Rows L2 N2
/-- all numbers of a quotient -/
def allN (q : Qt) : List Nm := (rowsOf q).flatten
def spNumbers : Sp := fun vs H Q _ => ∃ (v : V) (q : Qt), vs = [v] ∧ Dn H v (encQ q) ∧ (allN q).length ≤ 1000000 ∧ ∀ (l : Addr) (acc : List V) (H' : Hp), H' l = some (.lst acc) → DnAll H' acc ((allN q).map encN) → Same H H' → Q (.ref l) H'
def spPlain : Sp := fun vs H Q _ => ∃ (v : V) (q : Qt), vs = [v] ∧ Dn H v (encQ q) ∧ (allN q).length ≤ 1000000 ∧ ∀ (b : Bool) (H' : Hp), (b = true ↔ Plain q) → Same H H' → Q (.bl b) H'
/-- all d are small -/
def LowD (q : Qt) : Prop := ∀ n ∈ allN q, ∀ x ∈ n, x.1.natAbs ≤ 1000000
def spWithin : Sp := fun vs H Q _ => ∃ (v : V) (q : Qt), vs = [v] ∧ Dn H v (encQ q) ∧ (allN q).length ≤ 1000000 ∧ ∀ (b : Bool) (H' : Hp), (b = true → LowD q) → Same H H' → Q (.bl b) H'
theorem op_neDK {X : Cx} {K : PySem.W.Frag} (hK : X.K = K) (hu : X.A.units + 64 < cLine) : OpR X (compareOp .NotEq) (rNeD K) := by
  subst hK
  exact op_neD hu
theorem call_lenK {X : Cx} {K : PySem.W.Frag} (hK : X.K = K) : CallR X (.builtin "len") (fun xs H Q => ∃ x n, xs = [x] ∧ LenV K x H n ∧ Q (V.int ↑n) H) := by
  subst hK
  exact call_len
theorem DnAll.app {H : Hp} : ∀ {xs ys : List V} {ds es : List PyData}, DnAll H xs ds → DnAll H ys es → DnAll H (xs ++ ys) (ds ++ es)
  | _, _, _, _, .nil, h => h
  | _, _, _, _, .cons a r, h => .cons a (DnAll.app r h)
section
variable {K : PySem.W.Frag} {a D : Addr} {xs : List V} {ds : List PyData} {i : Nat} {te : TE} {tt : TT} {σ : L2.St} {H : Hp} {Qd : Hp → Prop}
/-- [1 for x in xs if not p(x)] -/
theorem lc_badL (p : PyData → Prop) (ea : H a = some (.lst xs)) (ra : DnAll H xs ds) (hl : ds.length ≤ 1000000) (hD : H D = none)
    (step : ∀ (j : Nat) (x : V) (d : PyData) (H' : Hp) (Q' : Bool → Hp → Prop), ds[j]? = some d → Dn H' x d → Same H H' → (∀ (b : Bool) (H2 : Hp), (b = true ↔ ¬ p d) → Same H' H2 → Q' b H2) → tt ((wipe σ [i]).set i (some x)) H' Q')
    (fin : ∀ (n : Nat) (H' : Hp), H' D = some (.lst ((ones n).map V.int)) → (n = 0 ↔ ∀ x ∈ ds, p x) → Same H H' → Qd H') :
    ∃ W : Nat → Nat → Hp → Prop, (∃ m, W 0 m (upd H D (.lst []))) ∧ ∀ i_1 m H, W i_1 m H →
      ((Itl K a).stop i_1 H ∧ Qd H) ∨ ((Itl K a).go i_1 H ∧ ∃ Nx : Hp → Prop, (∀ H', Nx H' → ∃ m', m' < m ∧ W (i_1 + 1) m' H') ∧ ∀ x H', (Itl K a).yld i_1 H x H' → gName i x (wipe σ [i]) H' fun σ2 H2 => wipe σ2 [i] = wipe σ [i] ∧ tt σ2 H2 fun b H3 =>
        if b = true then tC (.int 1) σ2 H3 fun y H4 => ∃ acc, H4 D = some (.lst acc) ∧ acc.length < sizeLine ∧ Nx (upd H4 D (.lst (acc ++ [y]))) else Nx H3) := by
  refine lc_list (K := K) (a := a) (xs := xs) (fun i H' => ∃ n : Nat, H' D = some (.lst ((ones n).map V.int)) ∧ n ≤ i ∧ (n = 0 ↔ ∀ j, j < i → ∀ d, ds[j]? = some d → p d) ∧ Same H H')
    ⟨0, upd_same, Nat.le_refl _, by simp, snew hD⟩ (fun i H' _ ⟨_, _, _, _, s'⟩ => SqL.of (s' _ _ ea)) ?_ ?_
  · rintro j x H' hx ⟨n, e1, e2, e3, s'⟩
    obtain ⟨d, ed, dn⟩ := ra.at_ hx
    have il : j < ds.length := (List.getElem?_eq_some_iff.mp ed).1
    refine ⟨wipe1, ?_⟩
    refine step j x d H' _ ed (Dn.mono s' d x dn) s' fun b H2 hb s2 => ?_
    refine ite_b (fun c => ?_) (fun c => ?_)
    · refine ⟨_, s2 _ _ e1, by rw [ones_len]; exact small_m (by omega), n + 1, by rw [ones_succ, upd_same], by omega, ?_, fun c o e => ?_⟩
      · refine none_step (p := fun j => ∀ d, ds[j]? = some d → p d) e3 ⟨fun z => by omega, fun z => absurd (z.2 d ed) (hb.mp c)⟩
      · rw [upd_ne (ne_of_none e hD)]
        exact s2 _ _ (s' _ _ e)
    · refine ⟨n, s2 _ _ e1, by omega, ?_, s'.trans s2⟩
      have pd : p d := by
        by_cases h : p d
        · exact h
        · have := hb.mpr h
          rw [c] at this
          cases this
      exact none_step (p := fun j => ∀ d, ds[j]? = some d → p d) e3 ⟨fun z => ⟨z, fun d' e' => by rw [ed] at e'; cases e'; exact pd⟩, fun z => z.1⟩
  · rintro H1 ⟨n, e1, e2, e3, s1⟩
    rw [ra.length] at e3
    exact fin n H1 e1 (e3.trans mem_idx) s1
end
section
variable {P : Program} {w : World} {K : PySem.W.Frag} {mg : Str → Option Value} {base : Heap}
abbrev s__law_numbers : Stmt := top 59
abbrev nsNums : List Str := ["quotient", "found", "pole", "row"]
theorem sc__law_numbers : FnScope nsNums ["quotient"] (defScope s__law_numbers) := ⟨rfl, rfl, rfl, by decide +kernel, rfl, by decide +kernel, by decide +kernel⟩
theorem ok__law_numbers {f  : Addr} {fd  : FuncData}  (F : Fun K "_law_numbers" "_law_numbers" s__law_numbers f fd) (T : Bt mg)  : FnOk P w K mg base CX0 1 f fd ["quotient"] spNumbers := by
  refine F.ok sc__law_numbers (fun vs H Q E h => ?_) (fun cdv A outer s H vs Q E hr h => ?_)
  · obtain ⟨v, q, rfl, _⟩ := h
    rfl
  · obtain ⟨v, q, rfl, hd, hl, k⟩ := h
    refine ⟨_, pss_cons (ps_set (i := 1) sc__law_numbers.nd rfl (Or.inl rfl) (pe_callTy call_list_of (by rfl) T.list (by decide +kernel) (pa_cons (pe_ix (r := rIx K) ix_seq (pv 0) pe_int (fun _ _ => rfl)) pa_nil)))
      (pss_cons (ps_for PassesOwn.never rfl (pi_tup (pe_ix (r := rIx K) ix_seq (pv 0) pe_int (fun _ _ => rfl))) (pg_tup rfl (pgs_cons (pg_name (i := 2) sc__law_numbers.nd rfl (Or.inl rfl)) (pgs_cons (pg_name (i := 3) sc__law_numbers.nd rfl (Or.inl rfl)) pgs_nil)))
        (pss_one (ps_expr (pe_bm PySem.F.plainAttrs_list PySem.F.slot_list_extend PySem.F.type_list_extend mt_extendT (pv 1) (pa_cons (pv 3) pa_nil)))))
      (pss_one (ps_ret (pv 1)))), ?_⟩
    obtain ⟨a, v1, v2, rfl, ea, d1, d2⟩ := dn_pair hd
    obtain ⟨a1, xs1, rfl, e1, r1⟩ := dn_t d1
    obtain ⟨a2, xs2, rfl, e2, r2⟩ := dn_t d2
    refine ⟨_, rfl, .inr (.inl ⟨a, _, _, _, rfl, rfl, SqT.of ea, rfl, a1, xs1, rfl, .inr (SqT.of e1), fun l hl0 => ?_⟩)⟩
    have s1 : Same H (upd H l (.lst xs1)) := snew hl0
    refine ⟨_, rfl, .inr (.inl ⟨a, _, _, _, rfl, rfl, SqT.of (s1 _ _ ea), rfl, a2, rfl, ⟨_, SqT.of (s1 _ _ e2)⟩, for_tup (K := K) (a := a2) (xs := xs2) (fun i σ H' => ∃ x2 x3 acc, σ = [some (.ref a), some (.ref l), x2, x3] ∧ H' l = some (.lst acc) ∧ DnAll H acc ((q.1 ++ ((q.2.take i).map (·.2)).flatten).map encN) ∧ Same H H')
      ⟨none, none, xs1, rfl, upd_same, by simpa using r1, s1⟩ (fun i σ H' _ ⟨_, _, _, _, _, _, s'⟩ => SqT.of (s' _ _ e2)) ?_ ?_⟩)⟩
    · rintro i x σ H' hx ⟨x2, x3, acc, rfl, h1, h2, s'⟩
      obtain ⟨t, ax, p1, rv, et, rfl, hax, dr, dp⟩ := dn_rows r2 i x hx
      obtain ⟨ar, ys, rfl, har, rr⟩ := dn_t dr
      have hh := hl
      refine ⟨ax, _, rfl, SqT.of (s' _ _ hax), rfl, _, _, rfl, _, _, rfl, rfl, ?_⟩
      have lacc : acc.length = (q.1 ++ ((q.2.take i).map (·.2)).flatten).length := by rw [h2.length, List.length_map]
      have lys : ys.length = t.2.length := by rw [rr.length, List.length_map]
      have ft : ((q.2.take (i + 1)).map (·.2)).flatten = ((q.2.take i).map (·.2)).flatten ++ t.2 := by rw [List.take_add_one, et]; simp
      have fl : (q.1 ++ ((q.2.take (i + 1)).map (·.2)).flatten).length ≤ (allN q).length := by
        show _ ≤ (q.1 ++ (q.2.map (·.2)).flatten).length
        have e : (q.2.map (·.2)).flatten = ((q.2.take (i + 1)).map (·.2)).flatten ++ ((q.2.drop (i + 1)).map (·.2)).flatten := by rw [← List.flatten_append, ← List.map_append, List.take_append_drop]
        rw [e, List.length_append, List.length_append, List.length_append]; omega
      rw [ft, List.length_append, List.length_append] at fl
      rw [List.length_append] at lacc
      refine ⟨_, rfl, .inl ⟨rfl, _, SqL.of h1⟩, _, rfl, l, ar, acc, ys, rfl, rfl, h1, SqT.of (s' _ _ har), by have := small_m (n := acc.length + ys.length) (by omega); omega, ?_⟩
      refine ⟨_, _, _, rfl, upd_same, ?_, fun c o eo => ?_⟩
      · rw [ft, ← List.append_assoc, List.map_append]
        exact DnAll.app h2 rr
      · rw [upd_ne (ne_of_none eo hl0)]; exact s' _ _ eo
    · rintro σ H' ⟨x2, x3, acc, rfl, h1, h2, s'⟩
      have lx : xs2.length = q.2.length := by rw [r2.length, List.length_map]
      rw [lx, List.take_length] at h2
      exact ⟨_, rfl, k l acc H' h1 (DnAll.mono s' _ _ h2) s'⟩
abbrev s__law_is_plain : Stmt := top 60
abbrev nsPln : List Str := ["quotient", "number"]
theorem sc__law_is_plain : FnScope nsPln ["quotient"] (defScope s__law_is_plain) := ⟨rfl, rfl, rfl, by decide +kernel, rfl, by decide +kernel, by decide +kernel⟩
theorem ok__law_is_plain {f f__law_numbers : Addr} {fd d__law_numbers : FuncData}  (F : Fun K "_law_is_plain" "_law_is_plain" s__law_is_plain f fd) (T : Bt mg) (l_numbers : Kn P w K mg base 1 "_law_numbers" ["quotient"] spNumbers f__law_numbers d__law_numbers) : FnOk P w K mg base CX0 2 f fd ["quotient"] spPlain := by
  refine F.ok sc__law_is_plain (fun vs H Q E h => ?_) (fun cdv A outer s H vs Q E hr h => ?_)
  · obtain ⟨v, q, rfl, _⟩ := h
    rfl
  · obtain ⟨v, q, rfl, hd, hl, k⟩ := h
    refine ⟨_, pss_one (ps_ret (pe_cmpR (op_eqD hr.units) (pe_lc (own := [("number", 1)]) (g := (gName 1)) (tt := _) rfl sc__law_is_plain.nd (pi_list (pe_call l_numbers.ok (hr.mono (by decide)) rfl l_numbers.mg l_numbers.kp l_numbers.bd .nil pass0 (pa_cons (pv 0) pa_nil))) (blkOk_by (own := [("number", 1)]) (N := nsPln) (sc := defScope s__law_is_plain) (by decide +kernel)) (fun _ _ _ _ _ => pg_name (i := 1) sc__law_is_plain.nd rfl (Or.inl rfl)) (fun _ _ _ _ _ => pts_one (PW.pt (pw_and (pt_cmpR (op_neDK (K := K) rfl hr.units) (pv 1) (pe_tup pa_nil) (nomark _)) (pw_and1 (PW.pt (pw_or (pt_cmpR op_gt (pe_callB (call_lenK (K := K) rfl) (by rfl) T.len PySem.boot_len (pa_cons (pv 1) pa_nil)) pe_int (nomark _)) (pw_or1 (pt_cmpR op_ne (pe_ix (r := rIx K) ix_seq (pe_ix (r := rIx K) ix_seq (pv 1) pe_int (fun _ _ => rfl)) pe_int (fun _ _ => rfl)) pe_int (nomark _))))))))) (fun _ _ _ _ _ => pe_int)) (pe_lst pa_nil) (nomark _))), ?_⟩
    obtain ⟨a, v1, v2, rfl, ea, _, _⟩ := dn_pair hd
    refine ⟨_, rfl, .ref a, q, rfl, hd, hl, fun l acc H1 e1 r1 s1 => ⟨l, rfl, ⟨_, SqL.of e1⟩, fun D hD => lc_badL (fun d => ∃ n, d = encN n ∧ FrN n) e1 r1 (by rw [List.length_map]; exact hl) hD (fun j x d H' Q' ed dn s' kk => ?_) fun n H2 e2 e3 s2 => ?_⟩⟩
    · rw [List.getElem?_map] at ed
      obtain ⟨n, en, rfl⟩ := Option.map_eq_some_iff.mp ed
      have key : ∀ (b : Bool) (H2 : Hp), (b = true ↔ ¬ FrN n) → Same H' H2 → Q' b H2 := fun b H2 hb s2 => kk b H2 (hb.trans ⟨fun h ⟨m, em, hm⟩ => h (by rw [encN_inj em]; exact hm), fun h z => h ⟨n, rfl, z⟩⟩) s2
      obtain ⟨b, ys, rfl, eb, rb⟩ := dn_t dn
      refine ⟨_, rfl, Nat.zero_le _, fun p hp => ⟨encN n, .tuple [], tn_dp _ _ (encN_tn n) (Dn.mono (snew hp) _ _ dn), .tup (SqT.of upd_same) .nil, encN_shaped n, rfl, _, rfl, ?_⟩⟩
      rw [eqv_nil_d (encN_tn n)]
      have sp := snew (o := .tup []) hp
      cases n with
      | nil => 
        refine iteF ?_
        exact key false _ ⟨fun z => (by cases z), fun z => absurd (.inl rfl) z⟩ sp
      | cons t n =>
        refine iteT ?_
        have ly : ys.length = n.length + 1 := by rw [rb.length, List.length_map]; rfl
        refine ⟨_, rfl, .ref b, ys.length, rfl, .inr ⟨ys, SqT.of (sp _ _ eb), rfl⟩, _, _, rfl, rfl, _, rfl, ?_⟩
        refine ite_b (fun c => ?_) (fun c => ?_)
        · refine key true _ ⟨fun _ z => ?_, fun _ => rfl⟩ sp
          have c' := of_decide_eq_true c
          rcases z with z | ⟨t', b', z⟩
          · cases z
          · have : n.length = 0 := by injection z with _ z; rw [z]; rfl
            omega
        · have c' := of_decide_eq_false c
          have n0 : n = [] := List.length_eq_zero_iff.mp (by omega)
          subst n0
          cases rb with
          | cons h1 r2 =>
            cases r2
            obtain ⟨bt, zs, rfl, ebt, rbt⟩ := dn_t (ds := [.int t.1, .int t.2.1, .int t.2.2]) h1
            obtain rfl := dn3 rbt
            refine ⟨_, rfl, .inr (.inl ⟨b, _, _, _, rfl, rfl, SqT.of (sp _ _ eb), rfl, .inr (.inl ⟨bt, _, _, _, rfl, rfl, SqT.of (sp _ _ ebt), rfl, rfl, _, rfl, ?_⟩)⟩)⟩
            refine key _ _ ?_ sp
            rw [Bool.not_eq_true', decide_eq_false_iff_not]
            refine not_congr ⟨fun h => ?_, fun h => ?_⟩
            · have h1 : t.1 = 1 := V.int.inj h
              exact .inr ⟨t.2.1, t.2.2, by rw [← h1]⟩
            · rcases h with h | ⟨t', b', h⟩
              · cases h
              · injection h with h _
                rw [h]
    · refine ⟨Nat.zero_le _, fun p4 hp4 => ⟨.list ((ones n).map PyData.int), .list [], .lst (SqL.of (snew hp4 _ _ e2)) (ints_dp _), .lst (SqL.of upd_same) .nil, ints_shaped _, nil_shaped, ?_⟩⟩
      rw [eqv_nil, ones_nil]
      refine k _ _ ?_ ((s1.trans s2).trans (snew hp4))
      rw [decide_eq_true_iff, e3, plain_rows]
      constructor
      · intro h r hr m hm
        obtain ⟨m', e, h'⟩ := h (encN m) (List.mem_map.mpr ⟨m, List.mem_flatten.mpr ⟨r, hr, hm⟩, rfl⟩)
        rw [encN_inj e]
        exact h'
      · intro h d hd'
        obtain ⟨m, hm, rfl⟩ := List.mem_map.mp hd'
        obtain ⟨r, hr, hm⟩ := List.mem_flatten.mp hm
        exact ⟨m, rfl, h r hr m hm⟩
abbrev s__law_is_within : Stmt := top 61
abbrev nsWit : List Str := ["quotient", "pole", "row", "number", "d", "top", "bottom"]
theorem sc__law_is_within : FnScope nsWit ["quotient"] (defScope s__law_is_within) := ⟨rfl, rfl, rfl, by decide +kernel, rfl, by decide +kernel, by decide +kernel⟩
theorem ok__law_is_within {f f__law_numbers : Addr} {fd d__law_numbers : FuncData}  (F : Fun K "_law_is_within" "_law_is_within" s__law_is_within f fd) (T : Bt mg) (l_numbers : Kn P w K mg base 1 "_law_numbers" ["quotient"] spNumbers f__law_numbers d__law_numbers) : FnOk P w K mg base CX0 2 f fd ["quotient"] spWithin := by
  refine F.ok sc__law_is_within (fun vs H Q E h => ?_) (fun cdv A outer s H vs Q E hr h => ?_)
  · obtain ⟨v, q, rfl, _⟩ := h
    rfl
  · obtain ⟨v, q, rfl, hd, hl, k⟩ := h
    refine ⟨_, pss_cons (ps_if (PW.pt (pw_or (pt_cmpR op_gt (pe_callB call_len (by rfl) T.len PySem.boot_len (pa_cons (pe_ix (r := rIx K) ix_seq (pv 0) pe_int (fun _ _ => rfl)) pa_nil)) pe_int (nomark _)) (pw_or1 (pt_cmpR op_gt (pe_callB call_len (by rfl) T.len PySem.boot_len (pa_cons (pe_ix (r := rIx K) ix_seq (pv 0) pe_int (fun _ _ => rfl)) pa_nil)) pe_int (nomark _)))))
        (pss_one (ps_ret pe_bl))
        pss_nil)
      (pss_cons (ps_for PassesOwn.never rfl (pi_tup (pe_ix (r := rIx K) ix_seq (pv 0) pe_int (fun _ _ => rfl))) (pg_tup rfl (pgs_cons (pg_name (i := 1) sc__law_is_within.nd rfl (Or.inl rfl)) (pgs_cons (pg_name (i := 2) sc__law_is_within.nd rfl (Or.inl rfl)) pgs_nil)))
        (pss_one (ps_if (PW.pt (pw_or (pt_cmpR op_gt (pe_callB call_len (by rfl) T.len PySem.boot_len (pa_cons (pv 2) pa_nil)) pe_int (nomark _)) (pw_or1 (pt_cmpR op_gt (pe_callB (call_max2 rfl) (by rfl) T.max (by decide +kernel) (pa_cons (pe_callB call_abs (by rfl) T.abs (by decide +kernel) (pa_cons (pe_ix (r := rIx K) ix_seq (pv 1) pe_int (fun _ _ => rfl)) pa_nil)) (pa_cons (pe_ix (r := rIx K) ix_seq (pv 1) pe_int (fun _ _ => rfl)) pa_nil))) pe_int (nomark _)))))
          (pss_one (ps_ret pe_bl))
          pss_nil)))
      (pss_cons (ps_for PassesOwn.never rfl (pi_list (pe_call l_numbers.ok (hr.mono (by decide)) rfl l_numbers.mg l_numbers.kp l_numbers.bd .nil pass0 (pa_cons (pv 0) pa_nil))) (pg_name (i := 3) sc__law_is_within.nd rfl (Or.inl rfl))
        (pss_one (ps_if (PW.pt (pw_or (pt_cmpR op_gt (pe_callB call_len (by rfl) T.len PySem.boot_len (pa_cons (pv 3) pa_nil)) pe_int (nomark _)) (pw_or1 (pt_cmpR (op_neD hr.units) (pe_lc (own := [("d", 4), ("top", 5), ("bottom", 6)]) (g := (gTup K 3 (gCons (gName 4) (gCons (gName 5) (gCons (gName 6) gNil))))) (tt := _) rfl sc__law_is_within.nd (pi_tup (pv 3)) (blkOk_by (own := [("d", 4), ("top", 5), ("bottom", 6)]) (N := nsWit) (sc := defScope s__law_is_within) (by decide +kernel)) (fun _ _ _ _ _ => pg_tup rfl (pgs_cons (pg_name (i := 4) sc__law_is_within.nd rfl (Or.inl rfl)) (pgs_cons (pg_name (i := 5) sc__law_is_within.nd rfl (Or.inl rfl)) (pgs_cons (pg_name (i := 6) sc__law_is_within.nd rfl (Or.inl rfl)) pgs_nil)))) (fun _ _ _ _ _ => pts_one (PW.pt (pw_or (pt_cmpR op_ge (pe_callB (call_max2 rfl) (by rfl) T.max (by decide +kernel) (pa_cons (pe_callB call_abs (by rfl) T.abs (by decide +kernel) (pa_cons (pv 5) pa_nil)) (pa_cons (pv 6) pa_nil))) (pe_op op_pow pe_int pe_int) (nomark _)) (pw_or1 (pt_cmpR op_gt (pe_callB call_abs (by rfl) T.abs (by decide +kernel) (pa_cons (pv 4) pa_nil)) (pe_op op_pow pe_int pe_int) (nomark _)))))) (fun _ _ _ _ _ => pe_int)) (pe_lst pa_nil) (nomark _)))))
          (pss_one (ps_ret pe_bl))
          pss_nil)))
      (pss_one (ps_ret pe_bl)))), ?_⟩
    obtain ⟨a, v1, v2, rfl, ea, d1, d2⟩ := dn_pair hd
    obtain ⟨a1, xs1, rfl, e1, r1⟩ := dn_t d1
    obtain ⟨a2, xs2, rfl, e2, r2⟩ := dn_t d2
    have no : ∀ H', Same H H' → Q (.bl false) H' := fun H' s' => k false H' (fun z => by cases z) s'
    refine ⟨_, rfl, .inr (.inl ⟨a, _, _, _, rfl, rfl, SqT.of ea, rfl, _, xs2.length, rfl, .inr ⟨xs2, SqT.of e2, rfl⟩, _, _, rfl, rfl, _, rfl, ?_⟩)⟩
    refine ite_b (fun c => ?_) (fun c => ?_)
    · refine iteT ?_
      exact no _ (Same.refl _)
    refine ⟨_, rfl, .inr (.inl ⟨a, _, _, _, rfl, rfl, SqT.of ea, rfl, _, xs1.length, rfl, .inr ⟨xs1, SqT.of e1, rfl⟩, _, _, rfl, rfl, _, rfl, ?_⟩)⟩
    refine ite_b (fun c => ?_) (fun c => ?_)
    · exact no _ (Same.refl _)
    refine ⟨_, rfl, .inr (.inl ⟨a, _, _, _, rfl, rfl, SqT.of ea, rfl, a2, rfl, ⟨_, SqT.of e2⟩, for_tup (K := K) (a := a2) (xs := xs2) (fun i σ H' => (∃ x1 x2, σ = [some (.ref a), x1, x2, none, none, none, none]) ∧ Same H H')
      ⟨⟨none, none, rfl⟩, Same.refl _⟩ (fun i σ H' _ p => SqT.of (p.2 _ _ e2)) ?_ ?_⟩)⟩
    · rintro i x σ H' hx ⟨⟨x1, x2, rfl⟩, s'⟩
      obtain ⟨t, ax, p1, rv, et, rfl, hax, dr, dp⟩ := dn_rows r2 i x hx
      obtain ⟨ar, ys, rfl, har, rr⟩ := dn_t dr
      obtain ⟨ap, rfl, hap⟩ := dn_pl dp
      refine ⟨ax, _, rfl, SqT.of (s' _ _ hax), rfl, _, _, rfl, _, _, rfl, rfl, ?_⟩
      refine ⟨_, rfl, _, ys.length, rfl, .inr ⟨ys, SqT.of (s' _ _ har), rfl⟩, _, _, rfl, rfl, _, rfl, ?_⟩
      refine ite_b (fun c => ?_) (fun c => ?_)
      · refine iteT ?_
        exact no _ s'
      refine ⟨_, rfl, .inr (.inl ⟨ap, _, _, _, rfl, rfl, SqT.of (s' _ _ hap), rfl, _, rfl, _, rfl, .inr (.inl ⟨ap, _, _, _, rfl, rfl, SqT.of (s' _ _ hap), rfl, _, _, rfl, _, _, rfl, rfl, _, rfl, ?_⟩)⟩)⟩
      refine ite_b (fun c => ?_) (fun c => ?_)
      · exact no _ s'
      · exact ⟨⟨_, _, rfl⟩, s'⟩
    · rintro σ H' ⟨⟨x1, x2, rfl⟩, s'⟩
      refine ⟨_, rfl, .ref a, q, rfl, Dn.mono s' _ _ hd, hl, fun l acc H1 h1 q1 s1 => ⟨l, rfl, ⟨_, SqL.of h1⟩, for_list (K := K) (a := l) (xs := acc) (fun i σ H'' => (∃ x1 x2 x3, σ = [some (.ref a), x1, x2, x3, none, none, none]) ∧ (∀ j, j < i → ∀ n, (allN q)[j]? = some n → ∀ x ∈ n, x.1.natAbs ≤ 1000000) ∧ Same H1 H'')
        ⟨⟨_, _, _, rfl⟩, fun j hj => by omega, Same.refl _⟩ (fun i σ H'' _ p => SqL.of (p.2.2 _ _ h1)) ?_ ?_⟩⟩
      · rintro i x σ H'' hx ⟨⟨x1, x2, x3, rfl⟩, hall, s''⟩
        obtain ⟨d, ed, dn⟩ := q1.at_ hx
        rw [List.getElem?_map] at ed
        obtain ⟨n, en, rfl⟩ := Option.map_eq_some_iff.mp ed
        have sA := (s'.trans s1).trans s''
        obtain ⟨b, ys, rfl, eb, rb⟩ := dn_t (Dn.mono s'' _ _ dn)
        refine ⟨_, rfl, _, ys.length, rfl, .inr ⟨ys, SqT.of eb, rfl⟩, _, _, rfl, rfl, _, rfl, ?_⟩
        refine ite_b (fun c => ?_) (fun c => ?_)
        · refine iteT ?_
          exact no _ sA
        have c' := of_decide_eq_false c
        refine ⟨_, rfl, b, rfl, ⟨_, SqT.of eb⟩, fun D hD => lc_tup (K := K) (a := b) (xs := ys) (fun i H3 => ∃ m, H3 D = some (.lst ((ones m).map V.int)) ∧ m ≤ i ∧ (m = 0 → ∀ j, j < i → ∀ x, n[j]? = some x → x.1.natAbs ≤ 1000000) ∧ Same H'' H3)
          ⟨0, upd_same, Nat.le_refl _, fun _ j hj => by omega, snew hD⟩ (fun i H3 _ ⟨_, _, _, _, s3⟩ => SqT.of (s3 _ _ eb)) ?_ ?_⟩
        · rintro j y H3 hy ⟨m, f1, f2, f3, s3⟩
          obtain ⟨d', ed', dn'⟩ := rb.at_ hy
          rw [List.getElem?_map] at ed'
          obtain ⟨t, et, rfl⟩ := Option.map_eq_some_iff.mp ed'
          obtain ⟨bt, zs, rfl, ebt, rbt⟩ := dn_t (ds := [.int t.1, .int t.2.1, .int t.2.2]) dn'
          obtain rfl := dn3 rbt
          refine ⟨bt, _, rfl, SqT.of (s3 _ _ ebt), rfl, _, _, rfl, _, _, rfl, _, _, rfl, rfl, ?_⟩
          have bad : ∃ acc, H3 D = some (.lst acc) ∧ acc.length < sizeLine ∧ ∃ m, upd H3 D (.lst (acc ++ [.int 1])) D = some (.lst ((ones m).map V.int)) ∧ m ≤ j + 1 ∧ (m = 0 → ∀ i, i < j + 1 → ∀ x, n[i]? = some x → x.1.natAbs ≤ 1000000) ∧ Same H'' (upd H3 D (.lst (acc ++ [.int 1]))) := by
            have jl := (List.getElem?_eq_some_iff.mp et).1
            refine ⟨_, f1, by rw [ones_len]; exact small_m (by rw [rb.length, List.length_map] at c'; omega), m + 1, by rw [ones_succ, upd_same], by omega, fun z => by omega, fun c o e => ?_⟩
            rw [upd_ne (ne_of_none e hD)]; exact s3 _ _ e
          refine ⟨rfl, _, rfl, _, rfl, _, rfl, _, _, rfl, _, _, rfl, rfl, ⟨by decide, by decide, by decide⟩, _, _, rfl, rfl, _, rfl, ?_⟩
          refine ite_b (fun q => ?_) (fun q => ?_)
          · refine iteT ?_
            exact bad
          refine ⟨_, rfl, _, rfl, _, _, rfl, rfl, ⟨by decide, by decide, by decide⟩, _, _, rfl, rfl, _, rfl, ?_⟩
          refine ite_b (fun q2 => ?_) (fun q2 => ?_)
          · exact bad
          · refine ⟨m, f1, by omega, fun z i hi x ex => ?_, s3⟩
            by_cases c : i = j
            · subst c
              rw [et] at ex
              cases ex
              have q3 := of_decide_eq_false q2
              have q4 : ((10 : Int) ^ (6 : Int).toNat) = 1000000 := by decide
              rw [q4] at q3
              have q5 : (if t.1 < 0 then -t.1 else t.1) = (t.1.natAbs : Int) := by split <;> omega
              rw [q5] at q3
              omega
            · exact f3 z i (by omega) x ex
        · rintro H3 ⟨m, f1, f2, f3, s3⟩
          refine ⟨Nat.zero_le _, fun p4 hp4 => ⟨.list ((ones m).map PyData.int), .list [], .lst (SqL.of (snew hp4 _ _ f1)) (ints_dp _), .lst (SqL.of upd_same) .nil, ints_shaped _, nil_shaped, _, rfl, ?_⟩⟩
          rw [eqv_nil, ones_nil]
          have s4 := s3.trans (snew (o := .lst []) hp4)
          cases em : decide (m = 0) with
          | false =>
            refine iteT ?_
            exact no _ (sA.trans s4)
          | true =>
            refine iteF ?_
            have m0 := of_decide_eq_true em
            refine ⟨⟨_, _, _, rfl⟩, fun j hj n' en' x hx => ?_, s''.trans s4⟩
            by_cases c : j = i
            · subst c
              rw [en] at en'
              cases en'
              obtain ⟨u, hu, eu⟩ := List.mem_iff_getElem.mp hx
              exact f3 m0 u (by rw [rb.length, List.length_map]; exact hu) x (by rw [List.getElem?_eq_getElem hu, eu])
            · exact hall j (by omega) n' en' x hx
      · rintro σ H'' ⟨⟨x1, x2, x3, rfl⟩, hall, s''⟩
        refine k true H'' (fun _ n hn x hx => ?_) ((s'.trans s1).trans s'')
        obtain ⟨j, hj, ej⟩ := List.mem_iff_getElem.mp hn
        exact hall j (by rw [q1.length, List.length_map]; exact hj) n (by rw [List.getElem?_eq_getElem hj, ej]) x hx
end
end N3

namespace N3
open PySem PySem.Spec PyProof.Rows L2
def Bd (i : Int) : Prop := i.natAbs < 10 ^ 31
def Tri (H : Hp) (x : V) : Prop := ∃ (p : Addr) (d t b : Int), x = .ref p ∧ H p = some (.tup [.int d, .int t, .int b]) ∧ Bd d ∧ Bd t ∧ Bd b
def Num (H : Hp) (r : Addr) (xs : List V) : Prop := H r = some (.tup xs) ∧ xs.length ≤ 4 ∧ ∀ x ∈ xs, Tri H x
theorem Tri.same {H H' : Hp} {x : V} (s : Same H H') (t : Tri H x) : Tri H' x := let ⟨p, d, t, b, e, h, q⟩ := t; ⟨p, d, t, b, e, s _ _ h, q⟩
theorem Tri.upd {H : Hp} {x : V} {f : Addr} {l l' : List V} (hf : H f = some (.lst l)) (t : Tri H x) : Tri (upd H f (.lst l')) x := by
  obtain ⟨p, d, t, b, e, h, q⟩ := t
  exact ⟨p, d, t, b, e, by rw [upd_ne (ne_of h hf (by intro z; cases z))]; exact h, q⟩
/-- the sums of a number: d with top and bottom -/
def Sm (H : Hp) (kvs : List (Key × V)) : Prop := ∀ p ∈ kvs, ∃ (d : Int) (q : Addr) (t b : Int), p = (Sum.inl d, .ref q) ∧ H q = some (.tup [.int t, .int b]) ∧ Bd d ∧ Bd t ∧ Bd b ∧ 1 ≤ b
theorem val_mem : ∀ {kvs : List (Key × V)} {k : Key}, k ∈ kvs.map (·.1) → ∃ v, valV kvs k = some v ∧ (k, v) ∈ kvs
  | [], k, h => by simp at h
  | p :: r, k, h => by
    by_cases c : p.1 = k
    · exact ⟨p.2, by cases p; cases c; exact valV_pos rfl, by rw [← c]; exact List.mem_cons_self⟩
    · obtain ⟨v, e, m⟩ := val_mem (kvs := r) ((List.mem_cons.mp h).elim (fun z => absurd z.symm c) id)
      exact ⟨v, by rw [valV_neg c]; exact e, List.mem_cons_of_mem _ m⟩
def spNum : Sp := fun vs H Q _ => ∃ (a : Addr) (kvs : List (Key × V)), vs = [.ref a] ∧ H a = some (.dK kvs) ∧ Sm H kvs ∧ kvs.length ≤ 4 ∧ ∀ (r : Addr) (xs : List V) (H' : Hp), Num H' r xs → Same H H' → Q (.ref r) H'
section
variable {P : Program} {w : World} {K : PySem.W.Frag} {mg : Str → Option Value} {base : Heap}
theorem scNum : FnScope ["sums", "found", "d", "top", "bottom", "part"] ["sums"] (defScope sNum) := ⟨rfl, rfl, rfl, by decide +kernel, rfl, by decide +kernel, by decide +kernel⟩
theorem ok_num {f f1 : Addr} {fd d1 : FuncData} (F : Fun K "_law_number" "_law_number" sNum f fd) (T : Bt mg) (A1 : Kn P w K mg base 1 "_law_common" ["one", "other"] spCommon f1 d1) : FnOk P w K mg base CX0 2 f fd ["sums"] spNum := by
  refine F.ok scNum (fun vs H Q E h => ?_) (fun cdv A outer s H vs Q E hr h => ?_)
  · obtain ⟨a, kvs, rfl, _⟩ := h
    rfl
  · obtain ⟨a, kvs, rfl, ha, sm, hl, k⟩ := h
    have hu := hu_of hr
    refine ⟨_, pss_cons (ps_set (i := 1) scNum.nd rfl (Or.inl rfl) (pe_lst pa_nil))
      (pss_cons (ps_for PassesOwn.never rfl (pi_list (pe_callB (call_sortedDI rfl) (by rfl) T.sorted (by decide +kernel) (pa_cons (pv 0) pa_nil))) (pg_name (i := 2) scNum.nd rfl (Or.inl rfl))
        (pss_cons (ps_asg (pe_dget hu (pv 0) (pv 2) (fun _ _ => rfl)) (pg_tup rfl (pgs_cons (pg_name (i := 3) scNum.nd rfl (Or.inl rfl)) (pgs_cons (pg_name (i := 4) scNum.nd rfl (Or.inl rfl)) pgs_nil))))
        (pss_one (ps_if (pt_cmpR op_ne (pv 3) pe_int (nomark _))
          (pss_cons (ps_set (i := 5) scNum.nd rfl (Or.inl rfl) (pe_op op_mul (pe_call A1.ok hr rfl A1.mg A1.kp A1.bd .nil pass0 (pa_cons (pv 3) (pa_cons (pv 4) pa_nil))) (pe_ifExp (pt_cmpR op_gt (pv 4) pe_int (nomark _)) pe_int (pe_un un_neg pe_int))))
          (pss_one (ps_expr (pe_bm PySem.F.plainAttrs_list PySem.F.slot_list_append PySem.F.type_list_append mt_append (pv 1) (pa_cons (pe_tup (pa_cons (pv 2) (pa_cons (pe_op op_fdivW (pv 3) (pv 5)) (pa_cons (pe_op op_fdivW (pv 4) (pv 5)) pa_nil)))) pa_nil))))) pss_nil))))
      (pss_one (ps_ret (pe_callTy call_tuple_of (by rfl) T.tuple (by decide +kernel) (pa_cons (pv 1) pa_nil))))), ?_⟩
    refine ⟨Nat.zero_le _, fun fl hf => ?_⟩
    have s0 := snew (o := .lst []) hf
    have ks : ∃ ks : List Int, kvs.map (·.1) = ks.map Sum.inl := by
      clear ha hl
      induction kvs with
      | nil => exact ⟨[], rfl⟩
      | cons p r ih =>
        obtain ⟨d, q, t, b, e, _⟩ := sm p List.mem_cons_self
        obtain ⟨ks, eks⟩ := ih fun x hx => sm x (List.mem_cons_of_mem _ hx)
        exact ⟨d :: ks, by rw [List.map_cons, List.map_cons, eks, e]⟩
    obtain ⟨ks, eks⟩ := ks
    have lk : ks.length = kvs.length := by
      have := congrArg List.length eks
      rw [List.length_map, List.length_map] at this; exact this.symm
    refine ⟨_, rfl, a, kvs, ks, rfl, .inl (s0 _ _ ha), eks, by omega, fun ys q perm _ hq => ⟨q, rfl, ⟨_, SqL.of upd_same⟩, ?_⟩⟩
    have fq : fl ≠ q := ne_of_none upd_same hq
    refine for_list (K := K) (a := q) (xs := ys.map V.int) (fun i σ H' => ∃ (acc : List V) (x2 x3 x4 x5 : Option V), σ = [some (.ref a), some (.ref fl), x2, x3, x4, x5] ∧ H' fl = some (.lst acc) ∧ acc.length ≤ i ∧ (∀ x ∈ acc, Tri H' x) ∧ Same H H' ∧ H' q = some (.lst (ys.map V.int)))
      ⟨[], _, _, _, _, rfl, by rw [upd_ne fq]; exact upd_same, Nat.le_refl _, by simp, s0.trans (snew hq), upd_same⟩ (fun i σ H' _ ⟨_, _, _, _, _, _, _, _, _, _, e⟩ => SqL.of e) ?_ ?_
    · rintro i y σ H' hy ⟨acc, x2, x3, x4, x5, rfl, e1, la, tri, s1, e2⟩
      obtain ⟨d, ed, rfl⟩ := map_get hy
      have hi : i < ys.length := (List.getElem?_eq_some_iff.mp ed).1
      have ly : ys.length = ks.length := perm.length_eq
      have dm : Sum.inl d ∈ kvs.map (·.1) := by
        rw [eks]
        exact List.mem_map.mpr ⟨d, perm.mem_iff.mp (List.mem_of_getElem? ed), rfl⟩
      obtain ⟨v, ev, mv⟩ := val_mem dm
      obtain ⟨d', p, t, b, ep, hp, bd, bt, bb, b1⟩ := sm _ mv
      cases ep
      refine ⟨_, rfl, _, rfl, a, .ref p, rfl, ?_, p, _, rfl, SqT.of (s1 _ _ hp), rfl, _, _, rfl, _, _, rfl, rfl, ?_⟩
      · have := DGet.k (H := H') (k := Sum.inl d) (s1 _ _ ha)
        rw [ev] at this; exact this
      refine ⟨_, rfl, rfl, _, rfl, ite2 (fun c => ?_) (fun c => ?_)⟩
      · have g1 : 1 ≤ Nat.gcd t.natAbs b.natAbs := Nat.gcd_pos_of_pos_right _ (by omega)
        have g2 : Nat.gcd t.natAbs b.natAbs ≤ b.natAbs := Nat.le_of_dvd (by omega) (Nat.gcd_dvd_right _ _)
        obtain ⟨g, eg⟩ : ∃ g, Nat.gcd t.natAbs b.natAbs = g := ⟨_, rfl⟩
        rw [eg] at g1 g2
        refine ⟨_, rfl, _, rfl, t, b, rfl, ?_⟩
        rw [eg]
        refine ⟨_, rfl, _, _, rfl, rfl, _, rfl, ?_⟩
        have cb : decide ((0 : Int) < b) = true := decide_eq_true (by omega)
        rw [cb]
        refine iteT ?_
        refine ⟨_, _, rfl, rfl, .inr ⟨by decide, by decide⟩, ?_⟩
        have lg : ((g : Int) * 1).natAbs.log2 < 9000 := by
          rw [Int.mul_one]
          rcases Nat.eq_zero_or_pos g with z | z
          · omega
          · have : g < 2 ^ 110 := by
              have h1 : b.natAbs < 10 ^ 31 := bb
              have h2 : (10 : Nat) ^ 31 < 2 ^ 110 := by decide
              omega
            have := (Nat.log2_lt (by omega : g ≠ 0)).mpr this
            show g.log2 < 9000
            omega
        have gp : (0 : Int) < (g : Int) * 1 := by omega
        refine ⟨_, rfl, .inl ⟨rfl, _, .inl (.inl e1)⟩, _, rfl, _, rfl, _, rfl, _, _, rfl, rfl, ⟨gp, lg⟩, _, rfl, _, rfl, _, _, rfl, rfl, ⟨gp, lg⟩, by show 3 ≤ sizeLine; rw [sizeLine_eq]; decide, fun n hn => ?_⟩
        have sn := snew (o := .tup [.int d, .int (t / ((g : Int) * 1)), .int (b / ((g : Int) * 1))]) hn
        refine ⟨fl, acc, _, rfl, rfl, sn _ _ e1, small1000 (by omega), ?_⟩
        refine ⟨acc ++ [.ref n], _, _, _, _, rfl, upd_same, by rw [List.length_append]; show _ + 1 ≤ _; omega, fun x hx => ?_, fun c o e => ?_, ?_⟩
        · rcases List.mem_append.mp hx with hx | hx
          · exact ((tri x hx).same sn).upd (sn _ _ e1)
          · rw [List.mem_singleton.mp hx]
            have nf : n ≠ fl := (ne_of_none e1 hn).symm
            refine ⟨n, d, _, _, rfl, by rw [upd_ne nf]; exact upd_same, bd, ?_, ?_⟩
            · exact Nat.lt_of_le_of_lt (Int.natAbs_ediv_le_natAbs _ _) bt
            · exact Nat.lt_of_le_of_lt (Int.natAbs_ediv_le_natAbs _ _) bb
        · rw [upd_ne (ne_of_none e hf)]
          exact sn _ _ (s1 _ _ e)
        · rw [upd_ne fq.symm]; exact sn _ _ e2
      · exact ⟨acc, _, _, _, _, rfl, e1, by omega, tri, s1, e2⟩
    · rintro σ H' ⟨acc, x2, x3, x4, x5, rfl, e1, la, tri, s1, e2⟩
      have ly : ys.length = ks.length := perm.length_eq
      rw [List.length_map] at la
      refine ⟨_, rfl, fl, acc, rfl, .inl ⟨SqL.of e1, fun r hr' => ?_⟩⟩
      exact k r acc _ ⟨upd_same, by omega, fun x hx => (tri x hx).same (snew hr')⟩ (s1.trans (snew hr'))
end
end N3

namespace N3
open PySem PySem.Spec PyProof.Rows L2 N2
def spWide : Sp := fun vs H Q _ => ∃ (dk l : Addr), vs = [.ref dk] ∧ Deck H dk l ∧ ∀ (r : Addr) (xs : List V) (H' : Hp), Num (off dk l H') r xs → Deck H' dk l → Keep dk l H H' → Q (.ref r) H'
theorem put_sm {H : Hp} {kvs : List (Key × V)} {d t b : Int} {q : Addr} (sm : Sm H kvs) (hq : H q = some (.tup [.int t, .int b])) (bd : Bd d) (bt : Bd t) (bb : Bd b) (b1 : 1 ≤ b) : Sm H (putK kvs (Sum.inl d) (.ref q)) := by
  intro p hp
  unfold putK at hp
  split at hp
  · obtain ⟨u, hu, e⟩ := List.mem_map.mp hp
    by_cases c : u.1 = Sum.inl d
    · rw [if_pos c] at e
      exact ⟨d, q, t, b, by rw [← e, c], hq, bd, bt, bb, b1⟩
    · rw [if_neg c] at e
      rw [← e]; exact sm u hu
  · rcases List.mem_append.mp hp with hp | hp
    · exact sm p hp
    · rw [List.mem_singleton.mp hp]
      exact ⟨d, q, t, b, rfl, hq, bd, bt, bb, b1⟩
theorem put_len {kvs : List (Key × V)} {k : Key} {v : V} : (putK kvs k v).length ≤ kvs.length + 1 := by
  unfold putK
  split
  · rw [List.length_map]; omega
  · rw [List.length_append]; show _ + 1 ≤ _; omega
theorem Sm.same {H H' : Hp} {kvs : List (Key × V)} (sm : Sm H kvs) (s : Same H H') : Sm H' kvs := fun p hp => let ⟨d, q, t, b, e, h, r⟩ := sm p hp; ⟨d, q, t, b, e, s _ _ h, r⟩
theorem Num.same {H H' : Hp} {r : Addr} {xs : List V} (n : Num H r xs) (s : Same H H') : Num H' r xs := ⟨s _ _ n.1, n.2.1, fun x hx => (n.2.2 x hx).same s⟩
theorem num_up {H H' : Hp} {dk l : Addr} {r : Addr} {xs : List V} (n : Num H r xs) (h : Same H (off dk l H')) : Num (off dk l H') r xs := n.same h
theorem deck_tup {H : Hp} {dk l b : Addr} {xs : List V} (D : Deck H dk l) (e : H b = some (.tup xs)) : off dk l H b = some (.tup xs) := by
  obtain ⟨ns, m, j, h1, h2, _⟩ := D
  exact off_at (ne_of e h1 (by intro z; cases z)) (ne_of e h2 (by intro z; cases z)) e
theorem num_off {H : Hp} {dk l r : Addr} {xs : List V} (D : Deck H dk l) (n : Num H r xs) : Num (off dk l H) r xs :=
  ⟨deck_tup D n.1, n.2.1, fun x hx => let ⟨p, d, t, b, e, h, q⟩ := n.2.2 x hx; ⟨p, d, t, b, e, deck_tup D h, q⟩⟩
section
variable {P : Program} {w : World} {K : PySem.W.Frag} {mg : Str → Option Value} {base : Heap}
theorem p14 : (10 : Int) ^ (14 : Int).toNat = 100000000000000 := by decide
theorem p29 : (10 : Int) ^ (29 : Int).toNat = 100000000000000000000000000000 := by decide
end
end N3

namespace N3
open PySem PySem.Spec PyProof.Rows L2 N2
/-! ### parts of lists -/
theorem sqL_same {K : PySem.W.Frag} {H H' : Hp} {a : Addr} {xs : List V} (s : Same H H') (h : SqL K H a xs) : SqL K H' a xs := by
  rcases h with (h | ⟨o, h⟩) | h
  · exact .inl (.inl (s _ _ h))
  · exact .inl (.inr ⟨o, s _ _ h⟩)
  · exact .inr h
theorem cutTo (xs : List V) (m : Nat) (h : m ≤ xs.length) : cutV xs none (some (m : Int)) = xs.take m := by
  unfold cutV
  have e1 : HT.sIx xs.length 0 none = 0 := rfl
  have e2 : HT.sIx xs.length xs.length (some (m : Int)) = min m xs.length := HT.sIx_nat xs.length xs.length m
  rw [e1, e2, Nat.min_eq_left h]
  rfl
theorem dnAll_take {H : Hp} : ∀ {xs : List V} {ds : List PyData}, DnAll H xs ds → ∀ k, DnAll H (xs.take k) (ds.take k)
  | _, _, _, 0 => .nil
  | _, _, .nil, _ + 1 => .nil
  | _, _, .cons a r, k + 1 => .cons a (dnAll_take r k)
theorem deck_upd {H : Hp} {dk l f : Addr} {o : HO} (D : Deck H dk l) (h1 : f ≠ dk) (h2 : f ≠ l) : Deck (upd H f o) dk l := by
  obtain ⟨ns, m, j, z1, z2, z3⟩ := D
  exact ⟨ns, m, j, by rw [upd_ne (Ne.symm h1)]; exact z1, by rw [upd_ne (Ne.symm h2)]; exact z2, z3⟩
end N3

namespace N3
open PySem PySem.Spec PyProof.Rows L2 N2
theorem low_cut {x y : Int} {g : Nat} (eg : Nat.gcd x.natAbs y.natAbs = g) (g1 : 1 ≤ g) (hx : g ∣ x.natAbs) (hy : g ∣ y.natAbs) (y1 : 0 < y) : lowT (x / (g : Int)) (y / (g : Int)) = true := by
  obtain ⟨u, rfl⟩ := Int.ofNat_dvd_left.mpr hx
  obtain ⟨v, rfl⟩ := Int.ofNat_dvd_left.mpr hy
  have g0 : (g : Int) ≠ 0 := by omega
  unfold lowT
  rw [Int.mul_ediv_cancel_left _ g0, Int.mul_ediv_cancel_left _ g0, Bool.and_eq_true, decide_eq_true_iff, decide_eq_true_iff]
  refine ⟨?_, ?_⟩
  · have : 0 < v := Int.pos_of_mul_pos_right y1 (by omega)
    omega
  · rw [Int.natAbs_mul, Int.natAbs_mul, Int.natAbs_natCast, Nat.gcd_mul_left] at eg
    exact Nat.eq_of_mul_eq_mul_left (by omega : 0 < g) (by rw [eg, Nat.mul_one])
/-- a drawn pole -/
def SPl (pl : Pl) : Prop := pl.1.natAbs ≤ 20 ∧ 1 ≤ pl.2 ∧ pl.2 ≤ 20 ∧ CPl pl
def PlAt (H : Hp) (x : V) : Prop := ∃ (p : Addr) (pl : Pl), x = .ref p ∧ H p = some (.tup [.int pl.1, .int pl.2]) ∧ SPl pl
theorem PlAt.same {H H' : Hp} {x : V} (s : Same H H') (h : PlAt H x) : PlAt H' x := let ⟨p, pl, e, h, q⟩ := h; ⟨p, pl, e, s _ _ h, q⟩
/-- the key of a pole -/
def kyP (pl : Pl) : List L2.Key := [.inl pl.1, .inl pl.2]
theorem put_lenT {kvs : List (List L2.Key × V)} {k : List L2.Key} {v : V} : (putK kvs k v).length ≤ kvs.length + 1 := by
  unfold putK
  split
  · rw [List.length_map]; omega
  · rw [List.length_append]; show _ + 1 ≤ _; omega
theorem put_memT {kvs : List (List L2.Key × V)} {k : List L2.Key} {v : V} {q : List L2.Key × V} (h : q ∈ putK kvs k v) : q ∈ kvs ∨ (q.1 = k ∨ ∃ q' ∈ kvs, q = q') := by
  unfold putK at h
  split at h
  · obtain ⟨u, hu, e⟩ := List.mem_map.mp h
    by_cases c : u.1 = k
    · rw [if_pos c] at e
      exact .inr (.inl (by rw [← e]; exact c))
    · rw [if_neg c] at e
      exact .inl (e ▸ hu)
  · rcases List.mem_append.mp h with h | h
    · exact .inl h
    · rw [List.mem_singleton.mp h]
      exact .inr (.inl rfl)
theorem pl_add {H : Hp} {L : List V} {p : Addr} (a b : Int) (h : ∀ x ∈ L, PlAt H x) (hp : H p = none) (hs : SPl (a, b)) : ∀ x ∈ L ++ [.ref p], PlAt (upd H p (.tup [.int a, .int b])) x := by
  intro x hx
  rcases List.mem_append.mp hx with hx | hx
  · exact (h x hx).same (snew hp)
  · rw [List.mem_singleton.mp hx]
    exact ⟨p, (a, b), rfl, upd_same, hs⟩
theorem plAt_keep {H H' : Hp} {dk l : Addr} {x : V} (D : Deck H dk l) (k : Keep dk l H H') (h : PlAt H x) : PlAt H' x := by
  obtain ⟨p, pl, e, h, q⟩ := h
  have := of_off (deck_tup D h)
  exact ⟨p, pl, e, k _ _ h this.1 this.2.1, q⟩
def spPoleD : Sp := fun vs H Q _ => ∃ (dk l : Addr), vs = [.ref dk] ∧ Deck H dk l ∧ ∀ (x : V) (H' : Hp), PlAt H' x → Deck H' dk l → Keep dk l H H' → Q x H'
def spPoles : Sp := fun vs H Q _ => ∃ (dk l : Addr) (most : Int), vs = [.ref dk, .int most] ∧ Deck H dk l ∧ 0 ≤ most ∧ most ≤ 100 ∧
  ∀ (p : Addr) (xs : List V) (H' : Hp), H' p = some (.lst xs) → p ≠ dk → p ≠ l → (xs.length : Int) ≤ most → (∀ x ∈ xs, PlAt H' x) → Deck H' dk l → Keep dk l H H' → Q (.ref p) H'
section
variable {P : Program} {w : World} {K : PySem.W.Frag} {mg : Str → Option Value} {base : Heap}
abbrev s__law_pole : Stmt := top 64
theorem sc__law_pole : FnScope ["deck", "top", "bottom", "part"] ["deck"] (defScope s__law_pole) := ⟨rfl, rfl, rfl, by decide +kernel, rfl, by decide +kernel, by decide +kernel⟩
theorem ok__law_pole {f f__law_draw f__law_pick f__law_near f__law_common : Addr} {fd d__law_draw d__law_pick d__law_near d__law_common : FuncData}  (F : Fun K "_law_pole" "_law_pole" s__law_pole f fd) (T : Bt mg) (l_draw : Kn P w K mg base 1 "_law_draw" ["deck", "many"] spDraw f__law_draw d__law_draw) (l_pick : Kn P w K mg base 2 "_law_pick" ["deck", "some"] (spPick K) f__law_pick d__law_pick) (l_near : Kn P w K mg base 2 "_law_near" ["deck", "far"] spNear f__law_near d__law_near) (l_common : Kn P w K mg base 1 "_law_common" ["one", "other"] spCommon f__law_common d__law_common) : FnOk P w K mg base CX0 3 f fd ["deck"] spPoleD := by
  refine F.ok sc__law_pole (fun vs H Q E h => ?_) (fun cdv A outer s H vs Q E hr h => ?_)
  · obtain ⟨dk, l, rfl, _⟩ := h
    rfl
  · obtain ⟨dk, l, rfl, De, k⟩ := h
    refine ⟨_, pss_cons (ps_if (pt_cmpR op_gt (pe_call l_draw.ok (hr.mono (by decide)) rfl l_draw.mg l_draw.kp l_draw.bd .nil pass0 (pa_cons (pv 0) (pa_cons pe_int pa_nil))) pe_int (nomark _))
        (pss_one (ps_ret (pe_call l_pick.ok (hr.mono (by decide)) rfl l_pick.mg l_pick.kp l_pick.bd .nil pass0 (pa_cons (pv 0) (pa_cons (pe_lst (pa_cons (pe_tup (pa_cons pe_int (pa_cons pe_int pa_nil))) (pa_cons (pe_tup (pa_cons pe_int (pa_cons pe_int pa_nil))) (pa_cons (pe_tup (pa_cons (pe_un un_neg pe_int) (pa_cons pe_int pa_nil))) (pa_cons (pe_tup (pa_cons pe_int (pa_cons pe_int pa_nil))) (pa_cons (pe_tup (pa_cons pe_int (pa_cons pe_int pa_nil))) (pa_cons (pe_tup (pa_cons (pe_un un_neg pe_int) (pa_cons pe_int pa_nil))) (pa_cons (pe_tup (pa_cons pe_int (pa_cons pe_int pa_nil))) (pa_cons (pe_tup (pa_cons (pe_un un_neg pe_int) (pa_cons pe_int pa_nil))) (pa_cons (pe_tup (pa_cons (pe_un un_neg pe_int) (pa_cons pe_int pa_nil))) pa_nil)))))))))) pa_nil)))))
        pss_nil)
      (pss_cons (ps_par (i := 1) (j := 2) rfl sc__law_pole.nd rfl rfl (by decide) rfl rfl (pa_cons (pe_call l_near.ok (hr.mono (by decide)) rfl l_near.mg l_near.kp l_near.bd .nil pass0 (pa_cons (pv 0) (pa_cons pe_int pa_nil))) (pa_cons (pe_op op_add pe_int (pe_call l_draw.ok (hr.mono (by decide)) rfl l_draw.mg l_draw.kp l_draw.bd .nil pass0 (pa_cons (pv 0) (pa_cons pe_int pa_nil)))) pa_nil)) (by rfl))
      (pss_cons (ps_set (i := 3) sc__law_pole.nd rfl (Or.inl rfl) (pe_call l_common.ok (hr.mono (by decide)) rfl l_common.mg l_common.kp l_common.bd .nil pass0 (pa_cons (pv 1) (pa_cons (pv 2) pa_nil))))
      (pss_one (ps_ret (pe_tup (pa_cons (pe_op op_fdivW (pv 1) (pv 3)) (pa_cons (pe_op op_fdivW (pv 2) (pv 3)) pa_nil))))))), ?_⟩
    have s2 : 2 ≤ sizeLine := by rw [sizeLine_eq]; decide
    have s9 : 9 ≤ sizeLine := by rw [sizeLine_eq]; decide
    refine ⟨_, rfl, dk, l, 3, rfl, De, by decide, by decide, fun r H1 r0 r3 D1 k1 => ?_⟩
    refine ⟨_, _, rfl, rfl, _, rfl, ite_b (fun c => ?_) (fun c => ?_)⟩
    · refine ⟨_, rfl, s2, fun p1 hp1 => ⟨s2, fun p2 hp2 => ⟨_, rfl, s2, fun p3 hp3 => ⟨s2, fun p4 hp4 => ⟨s2, fun p5 hp5 => ⟨_, rfl, s2, fun p6 hp6 => ⟨s2, fun p7 hp7 => ⟨_, rfl, s2, fun p8 hp8 => ⟨_, rfl, s2, fun p9 hp9 => ⟨s9, fun p hp => ?_⟩⟩⟩⟩⟩⟩⟩⟩⟩⟩
      have A := pl_add (-2) 1 (pl_add (-3) 2 (pl_add 3 1 (pl_add (-1) 2 (pl_add 1 2 (pl_add 2 1 (pl_add (-1) 1 (pl_add 1 1 (pl_add (L := []) 0 1 (fun x hx => absurd hx (by simp)) hp1 ⟨by decide, by decide, by decide, by show lowT _ _ = true; decide⟩) hp2 ⟨by decide, by decide, by decide, by show lowT _ _ = true; decide⟩) hp3 ⟨by decide, by decide, by decide, by show lowT _ _ = true; decide⟩) hp4 ⟨by decide, by decide, by decide, by show lowT _ _ = true; decide⟩) hp5 ⟨by decide, by decide, by decide, by show lowT _ _ = true; decide⟩)
        hp6 ⟨by decide, by decide, by decide, by show lowT _ _ = true; decide⟩) hp7 ⟨by decide, by decide, by decide, by show lowT _ _ = true; decide⟩) hp8 ⟨by decide, by decide, by decide, by show lowT _ _ = true; decide⟩) hp9 ⟨by decide, by decide, by decide, by show lowT _ _ = true; decide⟩
      generalize eH9 : upd _ p9 (HO.tup [.int (-2), .int 1]) = H9 at A hp
      have k9 : Same H1 H9 := by
        rw [← eH9]
        exact ((((((((snew hp1).trans (snew hp2)).trans (snew hp3)).trans (snew hp4)).trans (snew hp5)).trans (snew hp6)).trans (snew hp7)).trans (snew hp8)).trans (snew hp9)
      have D9 := D1.same k9
      refine pick_new (E := E0) D9 hp (by simp) (by show 9 < _; decide) fun x H2 hx D2 k2 => ?_
      exact k x H2 (plAt_keep D9 k2 (A x hx)) D2 ((k1.trans (Keep.of k9)).trans k2)
    · refine ⟨_, rfl, dk, l, 20, rfl, D1, by decide, by decide, fun tp H2 t0 t1 D2 k2 => ?_⟩
      refine ⟨_, rfl, dk, l, 20, rfl, D2, by decide, by decide, fun bt H3 b0 b1 D3 k3 => ?_⟩
      refine ⟨_, _, rfl, rfl, _, _, rfl, ?_⟩
      refine ⟨_, rfl, _, rfl, _, _, rfl, ?_⟩
      have g1 : 1 ≤ Nat.gcd tp.natAbs (1 + bt).natAbs := Nat.gcd_pos_of_pos_right _ (by omega)
      have g2 : Nat.gcd tp.natAbs (1 + bt).natAbs ≤ (1 + bt).natAbs := Nat.le_of_dvd (by omega) (Nat.gcd_dvd_right _ _)
      have g3 : Nat.gcd tp.natAbs (1 + bt).natAbs ∣ (1 + bt).natAbs := Nat.gcd_dvd_right _ _
      have g4 : Nat.gcd tp.natAbs (1 + bt).natAbs ∣ tp.natAbs := Nat.gcd_dvd_left _ _
      generalize eg : Nat.gcd tp.natAbs (1 + bt).natAbs = g at g1 g2 g3 g4 ⊢
      have lg : (g : Int).natAbs.log2 < 9000 := by
        have h1 : (g : Int).natAbs = g := rfl
        have h2 : g < 2 ^ 5 := by omega
        have := (Nat.log2_lt (by omega : g ≠ 0)).mpr h2
        rw [h1]
        omega
      have gp : (0 : Int) < (g : Int) := by omega
      refine ⟨_, rfl, _, rfl, _, _, rfl, rfl, ⟨gp, lg⟩, _, rfl, _, rfl, _, _, rfl, rfl, ⟨gp, lg⟩, s2, fun p hp => ?_⟩
      refine k _ _ ⟨p, (tp / (g : Int), (1 + bt) / (g : Int)), rfl, upd_same, ?_, ?_, ?_, low_cut eg g1 g4 g3 (by omega)⟩ (D3.same (snew hp)) (((k1.trans k2).trans k3).trans (Keep.of (snew hp)))
      · have : (tp / (g : Int)).natAbs ≤ tp.natAbs := Int.natAbs_ediv_le_natAbs _ _
        show (tp / (g : Int)).natAbs ≤ 20
        omega
      · have : (g : Int) ≤ 1 + bt := by omega
        exact (Int.le_ediv_iff_mul_le gp).mpr (by omega)
      · have : ((1 + bt) / (g : Int)).natAbs ≤ (1 + bt).natAbs := Int.natAbs_ediv_le_natAbs _ _
        show (1 + bt) / (g : Int) ≤ 20
        omega
abbrev s__law_poles : Stmt := top 66
theorem sc__law_poles : FnScope ["deck", "most", "found", "turn"] ["deck", "most"] (defScope s__law_poles) := ⟨rfl, rfl, rfl, by decide +kernel, rfl, by decide +kernel, by decide +kernel⟩
theorem ok__law_poles {f f__law_draw f__law_pole : Addr} {fd d__law_draw d__law_pole : FuncData}  (F : Fun K "_law_poles" "_law_poles" s__law_poles f fd) (T : Bt mg) (l_draw : Kn P w K mg base 1 "_law_draw" ["deck", "many"] spDraw f__law_draw d__law_draw) (l_pole : Kn P w K mg base 3 "_law_pole" ["deck"] spPoleD f__law_pole d__law_pole) : FnOk P w K mg base CX0 4 f fd ["deck", "most"] spPoles := by
  refine F.ok sc__law_poles (fun vs H Q E h => ?_) (fun cdv A outer s H vs Q E hr h => ?_)
  · obtain ⟨dk, l, most, rfl, _⟩ := h
    rfl
  · obtain ⟨dk, l, most, rfl, De, m0, m1, k⟩ := h
    have hu := hu_of hr
    refine ⟨_, pss_cons (ps_set (i := 2) sc__law_poles.nd rfl (Or.inl rfl) pe_dnewT)
      (pss_cons (ps_for PassesOwn.never rfl (pi_range1 rfl T.range (pa_cons (pe_call l_draw.ok (hr.mono (by decide)) rfl l_draw.mg l_draw.kp l_draw.bd .nil pass0 (pa_cons (pv 0) (pa_cons (pe_op op_add (pv 1) pe_int) pa_nil))) pa_nil)) (pg_name (i := 3) sc__law_poles.nd rfl (Or.inl rfl))
        (pss_one (ps_dput hu (pv 2) (pe_call l_pole.ok (hr.mono (by decide)) rfl l_pole.mg l_pole.kp l_pole.bd .nil pass0 (pa_cons (pv 0) pa_nil)) pe_bl rfl)))
      (pss_one (ps_ret (pe_callTy (call_list_dT rfl) (by rfl) T.list (by decide +kernel) (pa_cons (pv 2) pa_nil))))), ?_⟩
    intro fo hfo
    have nd : fo ≠ dk := fun z => De.some1.1 (z ▸ hfo)
    have nl : fo ≠ l := fun z => De.some1.2 (z ▸ hfo)
    have s0 := snew (o := .dT []) hfo
    refine ⟨_, rfl, _, rfl, _, _, rfl, rfl, dk, l, _, rfl, De.same s0, by omega, by omega, fun r H1 r0 r1 D1 k1 => ⟨r, rfl, by omega, by omega, ?_⟩⟩
    refine for_range (lo := 0) (n := r.toNat) (fun i σ H' => ∃ (x3 : Option V) (kvs : List (List L2.Key × V)), σ = [some (.ref dk), some (.int most), some (.ref fo), x3] ∧ H' fo = some (.dT kvs) ∧ kvs.length ≤ i ∧ (∀ p ∈ kvs, ∃ pl, p.1 = kyP pl ∧ SPl pl) ∧ Deck H' dk l ∧ Keep dk l H H')
      ⟨none, [], rfl, k1 _ _ upd_same nd nl, Nat.le_refl _, fun p hp => absurd hp (by simp), D1, (Keep.of s0).trans k1⟩ ?_ ?_
    · rintro i σ H' hi ⟨x3, kvs, rfl, e1, lk, hk, D2, k2⟩
      refine ⟨_, rfl, _, rfl, dk, l, rfl, D2, fun x H2 hx D3 k3 => ?_⟩
      obtain ⟨p, pl, rfl, hp, hs⟩ := hx
      have e2 := k3 _ _ e1 nd nl
      refine ⟨fo, _, rfl, DPut.t (k := kyP pl) e2 hp (small1000 (by omega)), ?_⟩
      refine ⟨_, _, rfl, upd_same, ?_, fun q hq => ?_, deck_upd D3 nd nl, fun b o e h1 h2 => ?_⟩
      · have := put_lenT (kvs := kvs) (k := kyP pl) (v := .bl true)
        omega
      · rcases put_memT hq with h | h
        · exact hk _ h
        · exact h.elim (fun e => ⟨pl, e, hs⟩) (fun ⟨q', h', e⟩ => by rw [e]; exact hk _ h')
      · rw [upd_ne (ne_of_none e hfo)]
        exact k3 _ _ (k2 _ _ e h1 h2) h1 h2
    · rintro σ H' ⟨x3, kvs, rfl, e1, lk, hk, D2, k2⟩
      refine ⟨_, rfl, fo, kvs, rfl, .inl e1, fun p bs hp ks => ?_⟩
      have sp := snew (o := .lst (bs.map V.ref)) hp
      have lb := Paired.length ks
      refine k p _ _ upd_same (fun z => D2.some1.1 (z ▸ hp)) (fun z => D2.some1.2 (z ▸ hp)) (by rw [List.length_map]; omega) (fun x hx => ?_) (D2.same sp) (k2.trans (Keep.of sp))
      obtain ⟨b, hb, rfl⟩ := List.mem_map.mp hx
      obtain ⟨j, hj⟩ := List.mem_iff_getElem?.mp hb
      obtain ⟨q, hq, hbk⟩ := LamX.pget0 ks hj
      obtain ⟨pl, epl, hs⟩ := hk q (List.mem_of_getElem? hq)
      rw [epl] at hbk
      exact ⟨b, pl, rfl, sp _ _ hbk, hs⟩
end
end N3

namespace LamX
open PySem PySem.Spec PyProof.Rows L2 PySem.W
theorem pe_sortL {X : Cx} {k : Nat} {c P : Addr} {params : Arguments} {scope : Scope} {x y : Str} {n : Int} {k1 k2 k3 : Nat} {p1 p2 p3 p4 p5 p6 p7 p8 p9 p q kp lpos pos : Pos} (hr : Room k X.A) (hm : X.mg "sorted" = none) (TB : TabB X.base X.mg c P) (hcode : X.env.code = .ref c)
    (i : Nat) (hN : X.N[i]? = some x := by rfl) (hv : Vis X.env.scope x := by exact Or.inl rfl) (hg : Gl X "sorted" := by rfl) (hdef : defaultsOf params X.env = ([], []) := by rfl)
    (hfree : ∀ y ∈ scope.names, y.2 ≠ .free := by decide) (kd : scope.kind = .function := by rfl) (co : scope.isCoroutine = false := by rfl) (gn : scope.isGenerator = false := by rfl) (hl : scope.names.lookup y = some .local := by rfl) (hclo : cloFrom X.env.cells scope.names [] = [] := by rfl)
    (hbind : ∀ (q : Str) (pm cv ctv : Value) (t : Addr), bindArgs (PySem.W.kla_fn "<lambda>" q params (PySem.Lm.keyB y n k1 k2 k3 p1 p2 p3 p4 p5 p6 p7 p8 p9) scope [] pm cv ctv) ⟨[.ref t], []⟩ = pure [(y, .ref t)] := by intro _ _ _ _ _; rfl)
    (hd : (x == ("__debug__" : Str)) = false := by decide) (hcd : (x == ("__classdict__" : Str)) = false := by decide) (hdy : (y == ("__debug__" : Str)) = false := by decide) :
    PE X (.Call (.Name "sorted" p) [.Name x q] [⟨some "key", .Lambda params (PySem.Lm.keyB y n k1 k2 k3 p1 p2 p3 p4 p5 p6 p7 p8 p9) scope lpos, kp⟩] pos) (tSorted [(P, X.env.qual ++ "<lambda>")] i n) :=
  pe_sortedKT hr hg hm hN hv TB hcode (List.mem_singleton.mpr rfl) (fun p hp _ => by rw [List.mem_singleton.mp hp]) hdef hfree kd co gn hl hclo hbind hd hcd hdy
end LamX
namespace L2
open PySem PySem.Spec PyProof.Rows
/-- Fun.ok, the code object known -/
theorem Fun.okC {P : Program} {w : World} {K : PySem.W.Frag} {mg : Str → Option Value} {base : Heap} {x qual : Str} {st : Stmt} {f c : Addr} {fd : FuncData} {N ps : List Str} {k : Nat} {sp : Sp} (F : Fun K x qual st f fd) (hc : fd.code = .ref c) (S : FnScope N ps (defScope st)) (len : ∀ vs H Q E, sp vs H Q E → vs.length = ps.length)
    (hbody : ∀ (A : Around) (outer : List Env) (s : Shared) (H : Hp) (vs : List V) (Q : VK) (E : XK), Room k (A.deeper (envOfC qual (defScope st) s.heap.objs.size f (.ref c))) → sp vs H Q E →
      ∃ t, PSs (cxOf CX0 P w K mg base N qual (defScope st) f (.ref c) A outer s H E).nox (defBody st) t ∧ t { nx := fun _ H' => Q .non H', rt := Q } (start N vs) H) : FnOk P w K mg base CX0 (k + 1) f fd ps sp := by
  obtain ⟨oc, od, kV, doc, pm, an, cdv, ct, osl, rfl, lk, hcd⟩ := F.ex
  have e : cdv = .ref c := hc
  subst e
  refine fn_of lk hcd S len fun A outer s H vs Q E hr hsp => ?_
  obtain ⟨t, h, q⟩ := hbody A outer s H vs Q E hr hsp
  exact ⟨t, h.nox, q⟩
end L2
namespace N3
open PySem PySem.Spec PyProof.Rows L2 N2 LamX
abbrev tabL (c : Addr) : List (Addr × Str) := [(c, "_law_told.<locals>.<lambda>")]
mutual
theorem dn_ext {H H' : Hp} (e : ExtN H H') : ∀ (d : PyData) (v : V), Dn H v d → Dn H' v d
  | .none, _, h => by cases h; exact .non
  | .bool _, _, h => by cases h; exact .bl _
  | .int _, _, h => by cases h; exact .int _
  | .str _, _, h => by cases h; exact .str _
  | .list ds, _, h => by
    cases h with
    | lst e1 r => exact .lst (e _ _ e1 (fun _ z => nomatch z)) (dnA_ext e ds _ r)
  | .tuple ds, _, h => by
    cases h with
    | tup e1 r => exact .tup (e _ _ e1 (fun _ z => nomatch z)) (dnA_ext e ds _ r)
  | .dict ks, _, h => by
    cases h with
    | dct e1 r => exact .dct (e _ _ e1 (fun _ z => nomatch z)) (dnK_ext e ks _ r)
theorem dnA_ext {H H' : Hp} (e : ExtN H H') : ∀ (ds : List PyData) (xs : List V), DnAll H xs ds → DnAll H' xs ds
  | [], _, h => by cases h; exact .nil
  | d :: ds, _, h => by
    cases h with
    | cons h1 h2 => exact .cons (dn_ext e d _ h1) (dnA_ext e ds _ h2)
theorem dnK_ext {H H' : Hp} (e : ExtN H H') : ∀ (ds : List (PyData × PyData)) (vs : List (Key × V)), DnKv H vs ds → DnKv H' vs ds
  | [], _, q => by cases q; exact .nil
  | (_, d) :: ds, _, q => by
    cases q with
    | cons a b => exact .cons (dn_ext e d _ a) (dnK_ext e ds _ b)
end
/-- tuples stay -/
def TupS (H H' : Hp) : Prop := ∀ b xs, H b = some (.tup xs) → H' b = some (.tup xs)
theorem TupS.trans {H H1 H2 : Hp} (a : TupS H H1) (b : TupS H1 H2) : TupS H H2 := fun c xs e => b c xs (a c xs e)
theorem Same.tups {H H' : Hp} (s : Same H H') : TupS H H' := fun b xs e => s b _ e
theorem ext_tups {H H' : Hp} (s : ExtN H H') : TupS H H' := fun b xs e => s b _ e (fun _ z => nomatch z)
theorem keep_tups {H H' : Hp} {dk l : Addr} (D : Deck H dk l) (k : Keep dk l H H') : TupS H H' := fun b xs e => k b _ e (of_off (deck_tup D e)).1 (of_off (deck_tup D e)).2.1
theorem lst_tups {H : Hp} {a : Addr} {xs : List V} {o : HO} (e : H a = some (.lst xs)) : TupS H (upd H a o) := fun b ys h => by
  rw [upd_ne (ne_of h e (by intro z; cases z))]; exact h
mutual
theorem tn_tups {H H' : Hp} (e : TupS H H') : ∀ (d : PyData) (v : V), Tn d → Dn H v d → Dn H' v d
  | .int _, _, _, h => by cases h; exact .int _
  | .tuple ds, _, t, h => by
    cases t with
    | tup t =>
      cases h with
      | tup e1 r => exact .tup (e _ _ e1) (tnA_tups e ds _ t r)
  | .none, _, t, _ => by cases t
  | .bool _, _, t, _ => by cases t
  | .str _, _, t, _ => by cases t
  | .list _, _, t, _ => by cases t
  | .dict _, _, t, _ => by cases t
theorem tnA_tups {H H' : Hp} (e : TupS H H') : ∀ (ds : List PyData) (xs : List V), (∀ d ∈ ds, Tn d) → DnAll H xs ds → DnAll H' xs ds
  | [], _, _, h => by cases h; exact .nil
  | d :: ds, _, t, h => by
    cases h with
    | cons h1 h2 => exact .cons (tn_tups e d _ (t d List.mem_cons_self) h1) (tnA_tups e ds _ (fun x hx => t x (List.mem_cons_of_mem _ hx)) h2)
end
theorem tn_maps {α : Type} {enc : α → PyData} (h : ∀ x, Tn (enc x)) (l : List α) : ∀ d ∈ l.map enc, Tn d := fun d hd => by
  obtain ⟨x, _, rfl⟩ := List.mem_map.mp hd
  exact h x
/-- neither a table nor a code object -/
def NC (o : HO) : Prop := (∀ ps, o ≠ .tbl ps) ∧ ∀ φ, o ≠ .ext φ
theorem tabs_keep {T : List (Addr × Str)} {H H' : Hp} {dk l : Addr} (k : Keep dk l H H') (h1 : ∀ o, H dk = some o → NC o) (h2 : ∀ o, H l = some o → NC o) (t : Tabs T H) : Tabs T H' := fun p hp => by
  obtain ⟨ps, a1, a2, a3⟩ := t p hp
  have nt : ∀ b o, H b = some o → (∃ ps, o = .tbl ps) ∨ (∃ φ, o = .ext φ) → H' b = some o := fun b o e z => k b o e
    (fun q => by rw [q] at e; rcases z with ⟨ps, z⟩ | ⟨φ, z⟩; exact (h1 o e).1 ps z; exact (h1 o e).2 φ z)
    (fun q => by rw [q] at e; rcases z with ⟨ps, z⟩ | ⟨φ, z⟩; exact (h2 o e).1 ps z; exact (h2 o e).2 φ z)
  refine ⟨ps, nt _ _ a1 (.inl ⟨ps, rfl⟩), a2, fun pos cv hc => ?_⟩
  obtain ⟨c0, e1, e2⟩ := a3 pos cv hc
  exact ⟨c0, e1, nt _ _ e2 (.inr ⟨_, rfl⟩)⟩
theorem nc_lst (xs : List V) : NC (.lst xs) := ⟨fun _ z => (by cases z), fun _ z => (by cases z)⟩
theorem nc_dk (xs : List (Key × V)) : NC (.dK xs) := ⟨fun _ z => (by cases z), fun _ z => (by cases z)⟩
theorem nc_dt (xs : List (List Key × V)) : NC (.dT xs) := ⟨fun _ z => (by cases z), fun _ z => (by cases z)⟩
theorem tabs_deck {T : List (Addr × Str)} {H H' : Hp} {dk l : Addr} (D : Deck H dk l) (k : Keep dk l H H') (t : Tabs T H) : Tabs T H' := by
  obtain ⟨ns, m, j, z1, z2, _⟩ := D
  exact tabs_keep k (fun o e => by rw [z1] at e; cases e; exact nc_dk _) (fun o e => by rw [z2] at e; cases e; exact nc_lst _) t
theorem sqL_ext {K : PySem.W.Frag} {H H' : Hp} {a : Addr} {xs : List V} (s : ExtN H H') (h : SqL K H a xs) : SqL K H' a xs := by
  rcases h with (h | ⟨o, h⟩) | h
  · exact .inl (.inl (s _ _ h (fun _ z => nomatch z)))
  · exact .inl (.inr ⟨o, s _ _ h (fun _ z => nomatch z)⟩)
  · exact .inr h
theorem val_memT : ∀ {kvs : List (List L2.Key × V)} {k : List L2.Key}, k ∈ kvs.map (·.1) → ∃ v, valV kvs k = some v ∧ (k, v) ∈ kvs
  | [], k, h => by simp at h
  | p :: r, k, h => by
    by_cases c : p.1 = k
    · exact ⟨p.2, by cases p; cases c; exact valV_pos rfl, by rw [← c]; exact List.mem_cons_self⟩
    · obtain ⟨v, e, m⟩ := val_memT (kvs := r) ((List.mem_cons.mp h).elim (fun z => absurd z.symm c) id)
      exact ⟨v, by rw [valV_neg c]; exact e, List.mem_cons_of_mem _ m⟩
theorem kyP_inj {p q : Pl} (h : kyP p = kyP q) : p = q := by
  obtain ⟨a, b⟩ := p
  obtain ⟨a', b'⟩ := q
  injection h with h1 h
  injection h with h2 _
  injection h1 with h1
  injection h2 with h2
  exact Prod.ext h1 h2
theorem Same.extN {H H' : Hp} (s : Same H H') : ExtN H H' := ExtN.of s
theorem tabs_same {T : List (Addr × Str)} {H H' : Hp} (t : Tabs T H) (s : Same H H') : Tabs T H' := t.ext s
def gK : List L2.Key → Int × Int
  | [.inl a, .inl b] => (a, b)
  | _ => (0, 0)
theorem fit_pl {pl : Pl} (h : SPl pl) : KeyFit 232792560 gK (kyP pl) := by
  obtain ⟨h1, h2, h3, _⟩ := h
  refine ⟨rfl, CMul.ok (.inl ⟨by show -(2 ^ 64) < pl.1; omega, by show pl.1 < 2 ^ 64; omega⟩), by show pl.2 ≠ 0; omega, PyProof.noPylong_small (by show pl.2.natAbs < 1073741824; omega)⟩
/-- all stays but the deck and the tables -/
def KeepX (dk l : Addr) (H H' : Hp) : Prop := ∀ b o, H b = some o → b ≠ dk → b ≠ l → (∀ ps, o ≠ .tbl ps) → H' b = some o
theorem KeepX.of {dk l : Addr} {H H' : Hp} (k : Keep dk l H H') : KeepX dk l H H' := fun b o e h1 h2 _ => k b o e h1 h2
theorem KeepX.ext {dk l : Addr} {H H' : Hp} (k : ExtN H H') : KeepX dk l H H' := fun b o e _ _ n => k b o e n
theorem KeepX.trans {dk l : Addr} {H H1 H2 : Hp} (h : KeepX dk l H H1) (k : KeepX dk l H1 H2) : KeepX dk l H H2 := fun b o e h1 h2 n => k b o (h b o e h1 h2 n) h1 h2 n
theorem keepX_tups {H H' : Hp} {dk l : Addr} (D : Deck H dk l) (k : KeepX dk l H H') : TupS H H' := fun b xs e => k b _ e (of_off (deck_tup D e)).1 (of_off (deck_tup D e)).2.1 (fun _ z => nomatch z)
theorem deck_ext {H H' : Hp} {dk l : Addr} (D : Deck H dk l) (k : ExtN H H') : Deck H' dk l := by
  obtain ⟨ns, m, j, h1, h2, h3⟩ := D
  exact ⟨ns, m, j, k _ _ h1 (fun _ z => nomatch z), k _ _ h2 (fun _ z => nomatch z), h3⟩
theorem dt_tups {H : Hp} {a : Addr} {xs : List (List L2.Key × V)} {o : HO} (e : H a = some (.dT xs)) : TupS H (upd H a o) := fun b ys h => by
  rw [upd_ne (ne_of h e (by intro z; cases z))]; exact h
theorem put_all {kvs : List (List L2.Key × V)} {k : List L2.Key} {v : V} {φ : List L2.Key × V → Prop} {q : List L2.Key × V} (h : q ∈ putK kvs k v) (old : ∀ q ∈ kvs, φ q) (new : φ (k, v)) : φ q := by
  unfold putK at h
  split at h
  · obtain ⟨u, hu, e⟩ := List.mem_map.mp h
    by_cases c : u.1 = k
    · rw [if_pos c] at e
      rw [← e, c]; exact new
    · rw [if_neg c] at e
      exact e ▸ old u hu
  · rcases List.mem_append.mp h with h | h
    · exact old q h
    · rw [List.mem_singleton.mp h]; exact new
end N3

/-! dict(xs) of a list of pairs whose keys are tuples -/
namespace L2
open PySem PySem.Spec PyProof.Rows PySem.W
def mergeT (kvs more : List (List Key × V)) : List (List Key × V) := more.foldl (fun acc kv => putK acc kv.1 kv.2) kvs
theorem KT.merge {H : Hp} : ∀ {more : List (List Key × V)} {rs : List (List Key × Addr × Value)} {kvs : List (List Key × V)} {xs : List (List Key × Addr × Value)}, KT H more rs → KT H kvs xs → KT H (mergeT kvs more) (storedAllH xs rs) := by
  intro more rs kvs xs r
  unfold KT at r
  induction r generalizing kvs xs with
  | nil => intro q; exact q
  | @cons p q ps qs h t ih =>
    intro r0
    obtain ⟨h1, h2, h3⟩ := h
    have e : KT H (putK kvs p.1 p.2) (storedH xs q.1 q.2.1 q.2.2) := by
      rw [← h1]
      exact KT.put r0 p.1 h2 h3
    exact ih e
theorem mergeT_len : ∀ (more kvs : List (List Key × V)), (mergeT kvs more).length ≤ kvs.length + more.length
  | [], kvs => Nat.le_refl _
  | p :: more, kvs => by
    have h := mergeT_len more (putK kvs p.1 p.2)
    have h2 : (putK kvs p.1 p.2).length ≤ kvs.length + 1 := by
      unfold putK
      split
      · rw [List.length_map]; omega
      · rw [List.length_append]; exact Nat.le_refl _
    show (mergeT (putK kvs p.1 p.2) more).length ≤ _
    rw [List.length_cons]
    omega
section
variable {X : Cx}
theorem pairs_ofT {pins : List (Addr × Obj)} {σ : St} {H : Hp} {s : Shared} (I : Inv X pins σ H s) : ∀ {ps : List Addr} {kvs : List (List Key × V)}, Paired (fun p kv => ∃ q, SqT X.K H p [.ref q, kv.2] ∧ H q = some (.tup (kv.1.map kV))) ps kvs →
    ∃ xs : List (List Key × Addr × Value), KT H kvs xs ∧ xs.length = ps.length ∧ (∀ (j : Nat) (x : List Key × Addr × Value), xs[j]? = some x → ∃ b, ps[j]? = some b ∧ IsTup s.heap b #[.ref x.2.1, x.2.2]) ∧ ∀ x ∈ xs, (tupleKind (mixKind X.prog X.w)).is s.heap x.1 x.2.1
  | _, _, .nil => ⟨[], .nil, rfl, fun j q e => by simp at e, fun x hx => nomatch hx⟩
  | _, _, .cons (a := p) (b := kv) h t => by
    obtain ⟨q, h1, h2⟩ := h
    obtain ⟨xs, r, hl, hp, hk⟩ := pairs_ofT I t
    obtain ⟨its, rv, ht, _⟩ := I.tuple h1
    obtain ⟨u, y, ei, ru, ry⟩ := vals2 rv
    subst ei
    cases ru
    refine ⟨(kv.1, q, y) :: xs, .cons ⟨rfl, h2, ry⟩ r, by rw [List.length_cons, List.length_cons, hl], fun j x e => ?_, fun x hx => ?_⟩
    · cases j with
      | zero =>
        have e' : (kv.1, q, y) = x := Option.some.inj e
        subst e'
        exact ⟨p, rfl, ht⟩
      | succ j =>
        obtain ⟨b, e1, e2⟩ := hp j x (by simpa using e)
        exact ⟨b, by simpa using e1, e2⟩
    · rcases List.mem_cons.mp hx with rfl | hx
      · exact key_of I.hok h2
      · exact hk x hx
/-- dict(xs) of a list of pairs (key, value), the keys tuples: later pairs win, the place is the first one's -/
theorem call_dictPT (hcalm : X.calm = true) (hu : X.A.units + 2 < cLine) : CallR X (.type "dict") (fun xs H Q => ∃ (a : Addr) (ps : List Addr) (kvs : List (List Key × V)), xs = [.ref a] ∧ SqL X.K H a (ps.map V.ref) ∧ Paired (fun p kv => ∃ q, SqT X.K H p [.ref q, kv.2] ∧ H q = some (.tup (kv.1.map kV))) ps kvs ∧
    ∀ p, H p = none → Q (.ref p) (upd H p (.dT (mergeT [] kvs)))) := by
  intro pins s σ H xs us Q I r q
  obtain ⟨a, ps, kvs, ex, hq, hp, q⟩ := q
  subst ex
  obtain ⟨u, eu, rx⟩ := vals1 r
  subst eu
  cases rx
  obtain ⟨its, rv, pl, hz⟩ := I.list hq
  have ei := refs_at rv
  subst ei
  rw [List.length_map] at hz
  obtain ⟨prs, rel, hl, hpr, hks⟩ := pairs_ofT I hp
  obtain ⟨o, n, ho, hc, hd, hdat⟩ := pl
  have hat : ∀ (j : Nat) (x : List Key × Addr × Value), prs[j]? = some x → (ps.getD j 0) = ps.getD j 0 ∧ ps[j]? = some (ps.getD j 0) ∧ IsTup s.heap (ps.getD j 0) #[.ref x.2.1, x.2.2] := fun j x e => by
    obtain ⟨b, e1, e2⟩ := hpr j x e
    have : ps.getD j 0 = b := by rw [List.getD_eq_getElem?_getD, e1]; rfl
    rw [this]
    exact ⟨rfl, e1, e2⟩
  have lprs : (prs.map fun x => (Value.ref x.2.1, x.2.2)).length = prs.length := List.length_map ..
  refine call_dict_pairsH (K := List Key) (knd := tupleKind (mixKind X.prog X.w)) (ps := prs) (PairArg.list a (ps.map Value.ref).toArray (fun j => ps.getD j 0) (prs.map fun x => (Value.ref x.2.1, x.2.2))) (I.ok.hd hcalm) hu ⟨⟨o, n, ho, hc, hd, hdat⟩, by simp [hl], fun j k v e => ?_⟩
    ⟨by rw [lprs], fun i key v e => ?_⟩ (fun h' hk x hx => ?_) (by rw [lprs, hl]; exact hz) fun h' tk hd' k => ?_
  · rw [List.getElem?_map] at e
    obtain ⟨x, ex, e⟩ := Option.map_eq_some_iff.mp e
    cases e
    obtain ⟨_, e1, e2⟩ := hat j x ex
    refine ⟨by rw [List.getElem?_toArray, List.getElem?_map, e1]; rfl, .inl ?_⟩
    obtain ⟨o', z1, z2, m, z3⟩ := e2
    exact ⟨o', z1, z2, m, z3⟩
  · have e' : (prs.map fun x => (Value.ref x.2.1, x.2.2))[i]? = some (key, v) := e
    rw [List.getElem?_map] at e'
    obtain ⟨x, ex, e'⟩ := Option.map_eq_some_iff.mp e'
    cases e'
    exact ⟨x.1, x.2.1, ex, rfl⟩
  · obtain ⟨o', its', m, z1, z2, z3, z4⟩ := hks x hx
    exact ⟨o', its', m, hk _ _ (Nat.ne_of_lt (Heap.lt_size z1)) (fun z => nomatch z) z1, z2, z3, z4⟩
  · have hm : (s.heap.objs.size == sysModules) = false := beq_eq_false_iff_ne.mpr (Nat.ne_of_gt I.big)
    have hlen : (mergeT [] kvs).length ≤ sizeLine := by
      refine Nat.le_trans (mergeT_len kvs []) ?_
      have := Paired.length rel
      rw [List.length_nil, Nat.zero_add, this, hl]
      exact hz
    have fresh : H s.heap.objs.size = none := I.hok.fresh (Nat.le_refl _)
    obtain ⟨o', es, ep, z1, z2, z3, z4, _, z5⟩ := hd'
    have kt : KT (upd H s.heap.objs.size (.dT (mergeT [] kvs))) (mergeT [] kvs) (storedAllH [] prs) := (KT.merge rel .nil).keeps fun b ys e => by
      rw [upd_ne (ne_of_none e fresh)]; exact e
    exact ⟨.ref s.heap.objs.size, upd H s.heap.objs.size (.dT (mergeT [] kvs)), I.laid (t' := tk) (fun b o e => k b o (fun z => nomatch z) e) (Nat.le_refl _) (show ObjOk X.prog X.w _ _ _ (.dT (mergeT [] kvs)) from ⟨hlen, hm, _, kt, o', es, ep, z1, z2, z3, z4, z5⟩), rfl, q _ fresh⟩
end
end L2

namespace N3
open PySem PySem.Spec PyProof.Rows L2 N2
/-! ### plain data of bounded weight -/
structure GW (m n : Nat) (d : PyData) : Prop where
  tn : Tn d
  wd : Wd m n d
theorem GW.mono {m n m' n' : Nat} {d : PyData} (h : GW m n d) (hm : m ≤ m') (hn : n ≤ n') : GW m' n' d := ⟨h.tn, h.wd.mono hm hn⟩
theorem bd_103 {i : Int} (h : Bd i) : i.natAbs.log2 < 103 := by
  rcases Nat.eq_zero_or_pos i.natAbs with z | z
  · rw [z]; decide
  · have h1 : i.natAbs < 10 ^ 31 := h
    have h2 : (10 : Nat) ^ 31 < 2 ^ 103 := by decide
    exact (Nat.log2_lt (by omega : i.natAbs ≠ 0)).mpr (Nat.lt_trans h1 h2)
theorem gw_int {i : Int} (h : Bd i) : GW 104 0 (.int i) := by
  have h1 := bd_103 h
  refine ⟨.int i, by simp only [PyData.showable]; exact decide_eq_true (by omega), by simp [PyData.depth], ?_⟩
  have h2 : (PySem.Str.ofString (toString i)).length ≤ 104 := by rw [PySem.ofString_length]; exact PySem.int_text_length_le (k := 103) (by decide) h1
  simp only [wt, PyData.shown]
  exact h2
theorem wtA_le {m : Nat} : ∀ {ds : List PyData}, (∀ d ∈ ds, wt d ≤ m) → wtA ds ≤ ds.length * (m + 2)
  | [], _ => by simp [wtA]
  | d :: ds, h => by
    have h1 := h d List.mem_cons_self
    have h2 := wtA_le (ds := ds) fun x hx => h x (List.mem_cons_of_mem _ hx)
    rw [wtA, List.length_cons, Nat.succ_mul]; omega
theorem sh_all : ∀ {ds : List PyData}, (∀ d ∈ ds, d.showable = true) → PyData.showableAll ds = true
  | [], _ => by simp [PyData.showableAll]
  | d :: ds, h => by rw [PyData.showableAll, h d List.mem_cons_self, sh_all fun x hx => h x (List.mem_cons_of_mem _ hx)]; rfl
theorem dp_all {n : Nat} : ∀ {ds : List PyData}, (∀ d ∈ ds, d.depth ≤ n) → PyData.depthAll ds ≤ n
  | [], _ => by simp [PyData.depthAll]
  | d :: ds, h => by
    have h1 := h d List.mem_cons_self
    have h2 := dp_all (ds := ds) fun x hx => h x (List.mem_cons_of_mem _ hx)
    rw [PyData.depthAll]; omega
theorem gw_tup {m n : Nat} {ds : List PyData} (h : ∀ d ∈ ds, GW m n d) : GW (ds.length * (m + 2) + 3) (n + 1) (.tuple ds) := by
  refine ⟨.tup fun d hd => (h d hd).tn, by simp only [PyData.showable]; exact sh_all fun d hd => (h d hd).wd.sh, ?_, ?_⟩
  · have := dp_all fun d hd => (h d hd).wd.dp
    simp only [PyData.depth]; omega
  · have := wtA_le fun d hd => (h d hd).wd.wt
    simp only [wt]; omega
theorem gw_map {α : Type} {enc : α → PyData} {l : List α} {m n k : Nat} (h : ∀ x ∈ l, GW m n (enc x)) (hl : l.length ≤ k) : GW (k * (m + 2) + 3) (n + 1) (.tuple (l.map enc)) := by
  refine (gw_tup (m := m) (n := n) fun d hd => ?_).mono ?_ (Nat.le_refl _)
  · obtain ⟨x, hx, rfl⟩ := List.mem_map.mp hd
    exact h x hx
  · rw [List.length_map]
    have := Nat.mul_le_mul_right (m + 2) hl
    omega
theorem gw_two {m n : Nat} {d e : PyData} (h1 : GW m n d) (h2 : GW m n e) : GW (2 * (m + 2) + 3) (n + 1) (.tuple [d, e]) := gw_tup (ds := [d, e]) fun x hx => by
  simp only [List.mem_cons, List.not_mem_nil, or_false] at hx
  rcases hx with rfl | rfl
  · exact h1
  · exact h2
theorem gw_three {m n : Nat} {d e f : PyData} (h1 : GW m n d) (h2 : GW m n e) (h3 : GW m n f) : GW (3 * (m + 2) + 3) (n + 1) (.tuple [d, e, f]) := gw_tup (ds := [d, e, f]) fun x hx => by
  simp only [List.mem_cons, List.not_mem_nil, or_false] at hx
  rcases hx with rfl | rfl | rfl
  · exact h1
  · exact h2
  · exact h3
theorem bd_small {i : Int} (h : i.natAbs ≤ 1000000) : Bd i := by
  show i.natAbs < 10 ^ 31
  have : 1000000 < (10 : Nat) ^ 31 := by decide
  omega
theorem gw_nil : GW 3 1 (.tuple []) := ⟨.tup (by simp), by decide, by decide, by decide⟩
theorem dn_app {H : Hp} {xs ys : List V} {ds es : List PyData} (h : DnAll H xs ds) (k : DnAll H ys es) : DnAll H (xs ++ ys) (ds ++ es) := DnAll.app h k
theorem dnAll_drop {H : Hp} : ∀ {xs : List V} {ds : List PyData}, DnAll H xs ds → ∀ k, DnAll H (xs.drop k) (ds.drop k)
  | _, _, h, 0 => h
  | _, _, .nil, _ + 1 => .nil
  | _, _, .cons a r, k + 1 => dnAll_drop r k
end N3

namespace N3
open PySem PySem.Spec PyProof.Rows L2 N2
/-! ### the law's number out of a table -/
section
variable {P : Program} {w : World} {K : PySem.W.Frag} {mg : Str → Option Value} {base : Heap}
abbrev s__law_number : Stmt := top 54
theorem sc__law_number : FnScope ["sums", "found", "d", "top", "bottom", "part"] ["sums"] (defScope s__law_number) := ⟨rfl, rfl, rfl, by decide +kernel, rfl, by decide +kernel, by decide +kernel⟩
theorem ok__law_number {f f__law_common : Addr} {fd d__law_common : FuncData}  (F : Fun K "_law_number" "_law_number" s__law_number f fd) (T : Bt mg) (l_common : Kn P w K mg base 1 "_law_common" ["one", "other"] spCommon f__law_common d__law_common) : FnOk P w K mg base CX0 2 f fd ["sums"] spFromT := by
  refine F.ok sc__law_number (fun vs H Q E h => ?_) (fun cdv A outer s H vs Q E hr h => ?_)
  · obtain ⟨a, kvs, ts, B, ok, rfl, _⟩ := h
    rfl
  · obtain ⟨a, kvs, ts, B, ok, rfl, ha, tr, nd, sz, b8, len, oks, k⟩ := h
    have hu := hu_of hr
    refine ⟨_, pss_cons (ps_set (i := 1) sc__law_number.nd rfl (Or.inl rfl) (pe_lst pa_nil))
      (pss_cons (ps_for PassesOwn.never rfl (pi_list (pe_callB (call_sortedDI rfl) (by rfl) T.sorted (by decide +kernel) (pa_cons (pv 0) pa_nil))) (pg_name (i := 2) sc__law_number.nd rfl (Or.inl rfl))
        (pss_cons (ps_asg (pe_dget hu (pv 0) (pv 2) (fun _ _ => rfl)) (pg_tup rfl (pgs_cons (pg_name (i := 3) sc__law_number.nd rfl (Or.inl rfl)) (pgs_cons (pg_name (i := 4) sc__law_number.nd rfl (Or.inl rfl)) pgs_nil))))
        (pss_one (ps_if (pt_cmpR op_ne (pv 3) pe_int (nomark _))
          (C8.pss_cut (ps_set (i := 5) sc__law_number.nd rfl (Or.inl rfl) (pe_op op_mul (pe_call l_common.ok (hr.mono (by decide)) rfl l_common.mg l_common.kp l_common.bd .nil pass0 (pa_cons (pv 3) (pa_cons (pv 4) pa_nil))) (pe_ifExp (pt_cmpR op_gt (pv 4) pe_int (nomark _)) pe_int (pe_un un_neg pe_int))))
          (pss_one (ps_expr (pe_bm PySem.F.plainAttrs_list PySem.F.slot_list_append PySem.F.type_list_append mt_append (pv 1) (pa_cons (pe_tup (pa_cons (pv 2) (pa_cons (pe_op op_fdivZ (pv 3) (pv 5)) (pa_cons (pe_op op_fdivZ (pv 4) (pv 5)) pa_nil)))) pa_nil)))))
          pss_nil))))
      (pss_one (ps_ret (pe_callTy call_tuple_of (by rfl) T.tuple (by decide +kernel) (pa_cons (pv 1) pa_nil))))), ?_⟩
    refine ⟨Nat.zero_le _, fun fl hf => ?_⟩
    have s0 := snew (o := .lst []) hf
    refine ⟨_, rfl, a, kvs, ts.map (·.1), rfl, .inl (s0 _ _ ha), tr.keys, by rw [List.length_map]; exact len, fun ys q perm srt hq => ⟨q, rfl, ⟨_, SqL.of upd_same⟩, ?_⟩⟩
    have fq : fl ≠ q := ne_of_none upd_same hq
    have lt : ys.Pairwise (· < ·) := (List.Pairwise.and srt (perm.nodup_iff.mpr nd)).imp fun ⟨a, b⟩ => by omega
    have ly : ys.length = ts.length := by rw [perm.length_eq, List.length_map]
    refine for_list (K := K) (a := q) (xs := ys.map V.int) (fun i σ H' => ∃ (acc : List V) (n : Nm) (x2 x3 x4 x5 : Option V), σ = [some (.ref a), some (.ref fl), x2, x3, x4, x5] ∧ H' fl = some (.lst acc) ∧ DnAll H' acc (n.map encT) ∧ n.length ≤ i ∧ CN ok n ∧ (∀ x ∈ n, x.1 ∈ ys.take i) ∧ (∀ e, co n e = if e ∈ ys.take i then co ts e else 0) ∧ Same H H' ∧ H' q = some (.lst (ys.map V.int)))
      ⟨[], [], _, _, _, _, rfl, by rw [upd_ne fq]; exact upd_same, .nil, Nat.le_refl _, CN.nil, fun x hx => by simp at hx, fun e => by simp [co], s0.trans (snew hq), upd_same⟩ (fun i σ H' _ ⟨_, _, _, _, _, _, _, _, _, _, _, _, _, _, e⟩ => SqL.of e) ?_ ?_
    · rintro i y σ H' hy ⟨acc, n, x2, x3, x4, x5, rfl, e1, dn, ln, cn, up, con, s1, e2⟩
      obtain ⟨d, ed, rfl⟩ := map_get hy
      have hi : i < ys.length := (List.getElem?_eq_some_iff.mp ed).1
      have edi : ys[i] = d := (List.getElem?_eq_some_iff.mp ed).2
      have dm : d ∈ ts.map (·.1) := perm.mem_iff.mp (List.mem_of_getElem? ed)
      have below : ∀ e ∈ ys.take i, e < d := fun e he => by
        have h := lt
        rw [← List.take_append_drop i ys, List.drop_eq_getElem_cons hi, edi, List.pairwise_append] at h
        exact h.2.2 e he d List.mem_cons_self
      have tk : ∀ e, e ∈ ys.take (i + 1) ↔ e ∈ ys.take i ∨ e = d := fun e => by
        rw [List.take_add_one, ed]
        simp
      rcases tr.get d with ⟨_, hd⟩ | ⟨p, t, b, hv, hp, hm⟩
      · exact absurd dm hd
      have dg : DGet H' a (.int d) (some (.ref p)) := hv ▸ DGet.k (k := Sum.inl d) (s1 _ _ ha)
      have hp' := s1 _ _ hp
      have cod := co_at nd hm
      obtain ⟨bt, b0, bb⟩ := sz _ hm
      refine ⟨_, rfl, _, rfl, a, .ref p, rfl, dg, p, _, rfl, SqT.of hp', rfl, _, _, rfl, _, _, rfl, rfl, ?_⟩
      refine ⟨_, rfl, rfl, _, rfl, ite2 (fun c => ?_) (fun c => ?_)⟩
      · have t0 : t ≠ 0 := by
          intro z
          subst z
          simp at c
        obtain ⟨g, eg⟩ : ∃ g : Int, (if b < 0 then -((Nat.gcd t.natAbs b.natAbs : Nat) : Int) else ((Nat.gcd t.natAbs b.natAbs : Nat) : Int)) = g := ⟨_, rfl⟩
        obtain ⟨g0, gle, lo⟩ := low_div (x := t) b0 eg.symm
        have lg : g.natAbs.log2 < 9000 := log_big (Nat.lt_of_le_of_lt gle (bit_up bb b8))
        have eg1 : 0 < b → ((Nat.gcd t.natAbs b.natAbs : Nat) : Int) * 1 = g := fun h => by rw [if_neg (by omega)] at eg; omega
        have eg2 : ¬ 0 < b → ((Nat.gcd t.natAbs b.natAbs : Nat) : Int) * -1 = g := fun h => by
          have b0' : b ≠ 0 := b0
          rw [if_pos (by omega)] at eg
          omega
        refine ⟨fun σ' H2 => σ' = [some (.ref a), some (.ref fl), some (.int d), some (.int t), some (.int b), some (.int g)] ∧ H' = H2, ?_, ?_⟩
        · refine ⟨_, rfl, _, rfl, t, b, rfl, _, rfl, _, _, rfl, rfl, _, rfl, ite_b (fun c5 => ?_) (fun c5 => ?_)⟩
          · have c5' := of_decide_eq_true c5
            refine ⟨_, _, rfl, rfl, .inr ⟨by decide, by decide⟩, ?_⟩
            exact ⟨by show [_, _, _, _, _, some (V.int (_ * 1))] = _; rw [eg1 c5'], rfl⟩
          · have c5' := of_decide_eq_false c5
            refine ⟨_, rfl, _, _, rfl, rfl, .inr ⟨by decide, by decide⟩, ?_⟩
            exact ⟨by show [_, _, _, _, _, some (V.int (_ * -1))] = _; rw [eg2 c5'], rfl⟩
        rintro σ' H2 ⟨rfl, rfl⟩
        refine ⟨_, rfl, .inl ⟨rfl, _, .inl (.inl e1)⟩, _, rfl, _, rfl, _, rfl, _, _, rfl, rfl, ⟨g0, lg⟩, _, rfl, _, rfl, _, _, rfl, rfl, ⟨g0, lg⟩, by show 3 ≤ sizeLine; rw [sizeLine_eq]; decide, fun m hm' => ?_⟩
        have sn := snew (o := .tup [.int d, .int (t.fdiv g), .int (b.fdiv g)]) hm'
        have la : acc.length = n.length := by rw [dn.length, List.length_map]
        refine ⟨fl, acc, _, rfl, rfl, sn _ _ e1, small1000 (by omega), ?_⟩
        have tst : TupStay H' (upd (upd H' m (.tup [.int d, .int (t.fdiv g), .int (b.fdiv g)])) fl (.lst (acc ++ [.ref m]))) := fun b xs h => by
          rw [upd_ne (ne_of h e1 (by intro z; cases z))]
          exact sn _ _ h
        have mf : m ≠ fl := (ne_of_none e1 hm').symm
        have tz0 : t.fdiv g ≠ 0 := fun z => by
          have := lo.eq
          rw [z, Int.zero_mul] at this
          rcases Int.mul_eq_zero.mp this.symm with h | h
          · exact t0 h
          · have := (low_pos lo.low).1
            omega
        refine ⟨acc ++ [.ref m], n ++ [(d, t.fdiv g, b.fdiv g)], _, _, _, _, rfl, upd_same, encTs_snoc (encT_dn (by rw [upd_ne mf]; exact upd_same)) (encTs_tst tst dn), by rw [List.length_append]; show _ + 1 ≤ _; omega, cn.snoc ⟨oks (d, t, b) hm, tz0, lo.low⟩ (fun z hz => below _ (up z hz)), fun z hz => ?_, fun e => ?_, fun c o eo => ?_, ?_⟩
        · rcases List.mem_append.mp hz with hz | hz
          · exact (tk _).mpr (.inl (up z hz))
          · rw [List.mem_singleton.mp hz]; exact (tk _).mpr (.inr rfl)
        · have one : co [(d, t.fdiv g, b.fdiv g)] e = if d = e then Rat.divInt (t.fdiv g) (b.fdiv g) else 0 := by rw [co_cons, co_nil, Rat.add_zero]
          rw [co_app, one, con e]
          by_cases c1 : e = d
          · subst c1
            rw [if_neg (fun z => by have := below _ z; omega), if_pos rfl, if_pos ((tk _).mpr (.inr rfl)), Rat.zero_add, ← low_val b0 lo]
            exact cod.symm
          · rw [if_neg (show ¬ d = e from fun z => c1 z.symm), Rat.add_zero]
            by_cases c2 : e ∈ ys.take i
            · rw [if_pos c2, if_pos ((tk _).mpr (.inl c2))]
            · rw [if_neg c2, if_neg (fun z => ((tk _).mp z).elim c2 c1)]
        · rw [upd_ne (ne_of_none eo hf)]
          exact sn _ _ (s1 _ _ eo)
        · rw [upd_ne fq.symm]; exact sn _ _ e2
      · have t0 : t = 0 := by
          by_cases z : t = 0
          · exact z
          · simp [z] at c
        refine ⟨acc, n, _, _, _, _, rfl, e1, dn, by omega, cn, fun z hz => (tk _).mpr (.inl (up z hz)), fun e => ?_, s1, e2⟩
        rw [con e]
        by_cases c1 : e = d
        · subst c1
          rw [if_neg (fun z => by have := below _ z; omega), if_pos ((tk _).mpr (.inr rfl))]
          have : co ts e = Rat.divInt t b := cod
          rw [this, t0, Rat.zero_divInt]
        · by_cases c2 : e ∈ ys.take i
          · rw [if_pos c2, if_pos ((tk _).mpr (.inl c2))]
          · rw [if_neg c2, if_neg (fun z => ((tk _).mp z).elim c2 c1)]
    · rintro σ H' ⟨acc, n, x2, x3, x4, x5, rfl, e1, dn, ln, cn, up, con, s1, e2⟩
      refine ⟨_, rfl, fl, acc, rfl, .inl ⟨SqL.of e1, fun r hr' => ?_⟩⟩
      have sr := snew (o := .tup acc) hr'
      refine k n r _ (.tup upd_same (encTs_tst (fun b xs h => sr _ _ h) dn)) cn (fun d => ?_) (s1.trans sr)
      rw [con d, List.length_map, List.take_length]
      split
      · rfl
      · next c => exact (co_off fun z => c (perm.mem_iff.mpr z)).symm
end
end N3

namespace N3
open PySem PySem.Spec PyProof.Rows L2
/-! ### written tuples inside a def, each told as data at once -/
def tK (d : PyData) : TE := fun _ H Q => ∀ (v : V) (H' : Hp), Same H H' → Dn H' v d → Q v H'
def tKs (ds : List PyData) : TA := fun _ H Q => ∀ (vs : List V) (H' : Hp), Same H H' → DnAll H' vs ds → Q vs H'
section
variable {X : Cx}
theorem pk_int {i : Int} {j pos} : PE X (.Constant (.int i) j pos) (tK (.int i)) := ⟨fun pins s σ H Q I h => pe_int.run pins s σ H Q I (h _ _ (Same.refl _) (.int i))⟩
theorem pk_str {x : Str} {j pos} : PE X (.Constant (.str x) j pos) (tK (.str x)) := ⟨fun pins s σ H Q I h => pe_str.run pins s σ H Q I (h _ _ (Same.refl _) (.str x))⟩
theorem pk_neg {i : Int} {j p pos} : PE X (.UnaryOp .USub (.Constant (.int i) j p) pos) (tK (.int (-i))) := ⟨fun pins s σ H Q I h => (pe_un un_neg pe_int).run pins s σ H Q I ⟨_, rfl, h _ _ (Same.refl _) (.int (-i))⟩⟩
theorem pka_nil : PA X [] (tKs []) := ⟨fun pos pins s σ H Q I h => pa_nil.run pos pins s σ H Q I (h _ _ (Same.refl _) .nil)⟩
theorem pka_cons {e : Expr} {es : List Expr} {d : PyData} {ds : List PyData} (h : PE X e (tK d)) (k : PA X es (tKs ds)) (hs : starEach (e :: es) X.env = (false, eval e X.env) :: starEach es X.env := by rfl) : PA X (e :: es) (tKs (d :: ds)) :=
  ⟨fun pos pins s σ H Q I q => (pa_cons h k hs).run pos pins s σ H Q I fun v H1 s1 dn vs H2 s2 da => q _ _ (s1.trans s2) (.cons (Dn.mono s2 d v dn) da)⟩
theorem pk_tup {es : List Expr} {ds : List PyData} {x1 pos} (h : PA X es (tKs ds)) (hn : ds.length ≤ 1000 := by decide) : PE X (.Tuple es x1 pos) (tK (.tuple ds)) :=
  ⟨fun pins s σ H Q I q => (pe_tup h).run pins s σ H Q I fun vs H1 s1 da => by
    refine ⟨?_, fun p hp => q _ _ (s1.trans (snew hp)) (.tup upd_same (DnAll.mono (snew hp) ds vs da))⟩
    have h1 := da.length
    have h2 : 1000 ≤ sizeLine := by rw [sizeLine_eq]; decide
    omega⟩
end
theorem dn_app' {H : Hp} : ∀ {xs ys : List V} {ds es : List PyData}, DnAll H xs ds → DnAll H ys es → DnAll H (xs ++ ys) (ds ++ es)
  | [], _, _, _, .nil, k => k
  | _ :: _, _, _, _, .cons a b, k => .cons a (dn_app' b k)
theorem dn_tupd {H : Hp} {v : V} {ds : List PyData} (h : Dn H v (.tuple ds)) : ∃ a xs, v = .ref a ∧ H a = some (.tup xs) ∧ DnAll H xs ds := by
  cases h with
  | tup e r => exact ⟨_, _, rfl, e, r⟩
end N3

namespace N3
open PySem PySem.Spec PyProof.Rows L2 N2
/-! ### the law's sums of numbers -/
def spLSum (K : PySem.W.Frag) : Sp := fun vs H Q _ => ∃ (l : Addr) (xs : List V) (ps : List Pt) (C : Nat) (ok : Int → Prop), vs = [.ref l] ∧ SqL K H l xs ∧ xs.length = ps.length ∧ (∀ (i : Nat) (v : V) (p : Pt), xs[i]? = some v → ps[i]? = some p → Dn H v (encN p.1) ∧ p.2 = (1, 1)) ∧
  (∀ p ∈ ps, Sz C p.1 ∧ ∀ x ∈ p.1, ok x.1) ∧ tm ps < 64 ∧ tm ps * (C + 2) ≤ 7900 ∧ C + 2 ≤ 7900 ∧
  ∀ (n : Nm) (r : Addr) (H' : Hp), Dn H' (.ref r) (encN n) → CN ok n → (∀ d, co n d = ws ps d) → Same H H' → Q (.ref r) H'
section
variable {P : Program} {w : World} {K : PySem.W.Frag} {mg : Str → Option Value} {base : Heap}
abbrev s__law_sum : Stmt := top 55
theorem sc__law_sum : FnScope ["some", "sums", "number", "d", "top", "bottom", "near"] ["some"] (defScope s__law_sum) := ⟨rfl, rfl, rfl, by decide +kernel, rfl, by decide +kernel, by decide +kernel⟩
theorem ok__law_sum {f f__law_number : Addr} {fd d__law_number : FuncData}  (F : Fun K "_law_sum" "_law_sum" s__law_sum f fd) (T : Bt mg) (l_number : Kn P w K mg base 2 "_law_number" ["sums"] spFromT f__law_number d__law_number) : FnOk P w K mg base CX0 3 f fd ["some"] (spLSum K) := by
  refine F.ok sc__law_sum (fun vs H Q E h => ?_) (fun cdv A outer s H vs Q E hr h => ?_)
  · obtain ⟨l, xs, ps, C, ok, rfl, _⟩ := h
    rfl
  · obtain ⟨l, xs, ps, C, ok, rfl, hl, lx, at_, cond, t64, tb, cb, k⟩ := h
    have hu := hu_of hr
    refine ⟨_, pss_cons (ps_set (i := 1) sc__law_sum.nd rfl (Or.inl rfl) pe_dnewK)
      (pss_cons (ps_for PassesOwn.never rfl (pi_list (pv 0)) (pg_name (i := 2) sc__law_sum.nd rfl (Or.inl rfl))
        (pss_one (ps_for PassesOwn.never rfl (pi_tup (pv 2)) (pg_tup rfl (pgs_cons (pg_name (i := 3) sc__law_sum.nd rfl (Or.inl rfl)) (pgs_cons (pg_name (i := 4) sc__law_sum.nd rfl (Or.inl rfl)) (pgs_cons (pg_name (i := 5) sc__law_sum.nd rfl (Or.inl rfl)) pgs_nil))))
          (C8.pss_cut (ps_set (i := 6) sc__law_sum.nd rfl (Or.inl rfl) (pe_dget2 hu (pv 1) (pv 3) (pk_tup (pka_cons pk_int (pka_cons pk_int pka_nil))) ⟨by rfl, by rfl, by rfl, by rfl⟩))
          (pss_one (ps_if (pt_cmpR op_eq (pe_ix (r := rIx K) ix_seq (pv 6) pe_int (fun _ _ => rfl)) (pv 5) (nomark _))
            (pss_one (ps_dput hu (pv 1) (pv 3) (pe_tup (pa_cons (pe_op op_add (pe_ix (r := rIx K) ix_seq (pv 6) pe_int (fun _ _ => rfl)) (pv 4)) (pa_cons (pv 5) pa_nil))) rfl))
            (pss_one (ps_dput hu (pv 1) (pv 3) (pe_tup (pa_cons (pe_op op_add (pe_op op_mulW (pe_ix (r := rIx K) ix_seq (pv 6) pe_int (fun _ _ => rfl)) (pv 5)) (pe_op op_mulW (pv 4) (pe_ix (r := rIx K) ix_seq (pv 6) pe_int (fun _ _ => rfl)))) (pa_cons (pe_op op_mulW (pe_ix (r := rIx K) ix_seq (pv 6) pe_int (fun _ _ => rfl)) (pv 5)) pa_nil))) rfl))))))))
      (pss_one (ps_ret (pe_call l_number.ok (hr.mono (by decide)) rfl l_number.mg l_number.kp l_number.bd .nil pass0 (pa_cons (pv 1) pa_nil))))), ?_⟩
    obtain ⟨G, eG⟩ : ∃ G, C + 2 = G := ⟨_, rfl⟩
    rw [eG] at tb cb
    intro td htd
    have s0 := snew (o := .dK []) htd
    refine ⟨_, rfl, l, rfl, ⟨_, s0.seq hl⟩, for_list (K := K) (a := l) (xs := xs) (fun i σ H' => (∃ x2 x3 x4 x5 x6 : Option V, σ = [some (.ref l), some (.ref td), x2, x3, x4, x5, x6]) ∧ Same H H' ∧ Tot H' td (tm (ps.take i) * G) (tm (ps.take i)) ok (ws (ps.take i)))
      ⟨⟨_, _, _, _, _, rfl⟩, s0, [], [], upd_same, .nil, List.nodup_nil, fun x hx => by simp at hx, Nat.zero_le _, fun x hx => by simp at hx, fun d => rfl⟩ (fun i σ H' _ ⟨_, s', _⟩ => s'.seq hl) ?_ ?_⟩
    · rintro i v σ H1 hv ⟨⟨x2, x3, x4, x5, x6, rfl⟩, s1, tot⟩
      have hi : i < xs.length := (List.getElem?_eq_some_iff.mp hv).1
      obtain ⟨p, hp⟩ : ∃ p, ps[i]? = some p := ⟨ps[i], List.getElem?_eq_getElem (by omega)⟩
      obtain ⟨n, one⟩ := p
      obtain ⟨hn, eone⟩ := at_ i v _ hv hp
      cases eone
      obtain ⟨szn, okn⟩ := cond _ (List.mem_of_getElem? hp)
      obtain ⟨c, ys, rfl, hc, hys⟩ := dn_encN hn
      have ly : ys.length = n.length := by rw [hys.length, List.length_map]
      have tk := tm_take hp
      have tle := tm_le (ps := ps) (i + 1)
      have ntd : ∀ {b : Addr} {o : HO}, H b = some o → b ≠ td := fun h z => by rw [z, htd] at h; cases h
      obtain ⟨T0, eT⟩ : ∃ T0, tm (ps.take i) = T0 := ⟨_, rfl⟩
      rw [eT] at tk tot
      refine ⟨_, rfl, c, rfl, ⟨_, SqT.of (s1 _ _ hc)⟩, for_tup (K := K) (a := c) (xs := ys) (fun j σ H' => (∃ x3 x4 x5 x6 : Option V, σ = [some (.ref l), some (.ref td), some (.ref c), x3, x4, x5, x6]) ∧ Same H H' ∧ Tot H' td ((T0 + j) * G) (T0 + j) ok (fun d => ws (ps.take i) d + Rat.divInt 1 1 * co (n.take j) d))
        ⟨⟨_, _, _, _, rfl⟩, s1, by
          obtain ⟨kvs, ts, e1, tr, nd, sz, len, oks, con⟩ := tot
          exact ⟨kvs, ts, e1, tr, nd, sz, len, oks, fun d => by rw [con d]; show _ = _ + _ * (0 : Rat); rw [Rat.mul_zero, Rat.add_zero]⟩⟩ (fun j σ H' _ ⟨_, s', _⟩ => SqT.of (s' _ _ hc)) ?_ ?_⟩
      · rintro j v σ H2 hv2 ⟨⟨x3', x4', x5', x6', rfl⟩, s2, kvs, ts, e1, tr, nd, sz, len, oks, con⟩
        have hj : j < ys.length := (List.getElem?_eq_some_iff.mp hv2).1
        obtain ⟨dd, edd, dn⟩ := hys.at_ hv2
        rw [List.getElem?_map] at edd
        obtain ⟨x, hx, rfl⟩ := Option.map_eq_some_iff.mp edd
        obtain ⟨d, t, b⟩ := x
        obtain ⟨q, rfl, hq⟩ := dn_encT dn
        have mx := List.mem_of_getElem? hx
        obtain ⟨zt, z0, zb⟩ := szn _ mx
        have Tj : T0 + j + 1 ≤ tm ps := by
          have : j + 1 ≤ n.length := by omega
          show T0 + j + 1 ≤ _
          have e : tm (ps.take (i + 1)) = T0 + n.length := tk
          omega
        have Gj : (T0 + j) * G + G ≤ 7900 := by
          have h1 : (T0 + j + 1) * G ≤ tm ps * G := Nat.mul_le_mul_right _ Tj
          rw [Nat.succ_mul] at h1
          omega
        have w : ∀ {i j : Int} {D D' : Nat}, i.natAbs < 2 ^ D → j.natAbs < 2 ^ D' → D ≤ 8000 → D' ≤ 8000 → CMulW i j := fun {i j D D'} h k u v => by
          have := log_lt h
          have := log_lt k
          show i.natAbs.log2 + j.natAbs.log2 < 1000000
          omega
        refine ⟨q, _, rfl, SqT.of (s2 _ _ hq), rfl, _, _, rfl, _, _, rfl, _, _, rfl, rfl, ?_⟩
        have lgs : ∀ B' : Nat, B' ≤ 7900 → B' ≤ 8000 := fun _ h => by omega
        obtain ⟨B, eB⟩ : ∃ B, (T0 + j) * G = B := ⟨_, rfl⟩
        rw [eB] at sz Gj
        have eB2 : B + C + 2 = (T0 + (j + 1)) * G := by
          rw [← Nat.add_assoc T0 j 1, Nat.succ_mul, eB, ← eG]
          omega
        have pp : 1 ≤ 2 ^ B := Nat.one_le_two_pow
        refine ⟨fun σ' H' => ∃ (q' : Addr) (nt nb : Int), σ' = [some (.ref l), some (.ref td), some (.ref c), some (.int d), some (.int t), some (.int b), some (.ref q')] ∧ Same H2 H' ∧ H' q' = some (.tup [.int nt, .int nb]) ∧ Rat.divInt nt nb = co ts d ∧ nt.natAbs < 2 ^ (B + 1) ∧ nb ≠ 0 ∧ nb.natAbs < 2 ^ (B + 1), ?_, ?_⟩
        · refine ⟨_, rfl, td, rfl, .inl ⟨kvs, .inl e1⟩, _, rfl, fun v4 H4 s4 d4 => ?_⟩
          obtain ⟨a0, xs0, rfl, e0, g0⟩ := dn_tupd d4
          obtain rfl : xs0 = [.int 0, .int 1] := by
            cases g0 with
            | cons p g0 => cases g0 with
              | cons q g0 => cases g0; cases p; cases q; rfl
          have e1' := s4 _ _ e1
          have p2 : 2 ≤ 2 ^ (B + 1) := by rw [Nat.pow_succ]; omega
          rcases tr.get d with ⟨hv, hd⟩ | ⟨q', h', l', hv, hq', hm⟩
          · have dg : DGet H4 td (.int d) none := hv ▸ DGet.k (k := Sum.inl d) e1'
            exact ⟨none, dg, a0, 0, 1, rfl, s4, e0, by rw [co_off hd, Rat.zero_divInt], by show 0 < _; omega, by decide, by show 1 < _; omega⟩
          · have dg : DGet H4 td (.int d) (some (.ref q')) := hv ▸ DGet.k (k := Sum.inl d) e1'
            obtain ⟨z1, z2, z3⟩ := sz _ hm
            exact ⟨some (.ref q'), dg, q', h', l', rfl, s4, s4 _ _ hq', (co_at nd hm).symm, bit_up z1 (by omega), z2, bit_up z3 (by omega)⟩
        · rintro σ' H4 ⟨q', nt, nb, rfl, s4, hq', en, bnt, nb0, bnb⟩
          have e1' := s4 _ _ e1
          have sH4 : Same H H4 := s2.trans s4
          have one : Rat.divInt 1 1 = 1 := rfl
          have post : ∀ (t' b' : Int) (p : Addr), H4 p = none → Rat.divInt t' b' = co ts d + Rat.divInt t b → t'.natAbs < 2 ^ (B + C + 2) → b' ≠ 0 → b'.natAbs < 2 ^ (B + C + 2) → Same H (upd (upd H4 p (.tup [.int t', .int b'])) td (.dK (putK kvs (Sum.inl d) (.ref p)))) ∧
              Tot (upd (upd H4 p (.tup [.int t', .int b'])) td (.dK (putK kvs (Sum.inl d) (.ref p)))) td ((T0 + (j + 1)) * G) (T0 + (j + 1)) ok (fun d => ws (ps.take i) d + Rat.divInt 1 1 * co (n.take (j + 1)) d) := fun t' b' p hp ef bt b0 bb => by
            have sp := snew (o := .tup [.int t', .int b']) hp
            have ptd : p ≠ td := (ne_of_none e1' hp).symm
            have ht : ∀ z xs, H2 z = some (.tup xs) → upd (upd H4 p (.tup [.int t', .int b'])) td (.dK (putK kvs (Sum.inl d) (.ref p))) z = some (.tup xs) := fun z xs h => by
              rw [upd_ne (ne_of h e1 (by intro z; cases z))]
              exact sp _ _ (s4 _ _ h)
            rw [eB2] at bt bb
            refine ⟨fun z o eo => by rw [upd_ne (ntd eo)]; exact sp _ _ (sH4 _ _ eo), _, putN ts d t' b', upd_same, (tr.tst ht).put (by rw [upd_ne ptd]; exact upd_same), putN_ks nd, putN_sz sz (by rw [← eB2]; omega) bt b0 bb, by have := putN_len (ts := ts) (d := d) (t := t') (b := b'); omega, fun z hz => ?_, fun e => ?_⟩
            · rcases putN_mem hz with rfl | ⟨hz, _⟩
              · exact okn (d, t, b) mx
              · exact oks _ hz
            · show co (putN ts d t' b') e = ws (ps.take i) e + Rat.divInt 1 1 * co (n.take (j + 1)) e
              rw [putN_co nd, co_take (n := n) (j := j) (x := (d, t, b)) hx]
              show (if d = e then Rat.divInt t' b' else co ts e) = ws (ps.take i) e + Rat.divInt 1 1 * (co (n.take j) e + if d = e then Rat.divInt t b else 0)
              by_cases ce : d = e
              · subst ce
                have cd : co ts d = ws (ps.take i) d + Rat.divInt 1 1 * co (n.take j) d := con d
                rw [if_pos rfl, if_pos rfl, ef, cd, one, Rat.one_mul, Rat.one_mul, Rat.add_assoc]
              · rw [if_neg ce, if_neg ce, con e, Rat.add_zero]
          have sl2 : 2 ≤ sizeLine := by rw [sizeLine_eq]; decide
          have z0' : b ≠ 0 := z0
          have zt' : t.natAbs < 2 ^ C := zt
          have zb' : b.natAbs < 2 ^ C := zb
          have kl : kvs.length < sizeLine := by rw [tr.length]; exact small1000 (by omega)
          refine ⟨_, rfl, .inr (.inl ⟨q', _, _, _, rfl, rfl, SqT.of hq', rfl, _, rfl, rfl, _, rfl, ite_b (fun c5 => ?_) (fun c5 => ?_)⟩)⟩
          · have e5 : nb = b := V.int.inj (of_decide_eq_true c5)
            subst e5
            refine ⟨_, rfl, .inr (.inl ⟨q', _, _, _, rfl, rfl, SqT.of hq', rfl, _, rfl, _, _, rfl, rfl, _, rfl, sl2, fun p hp => ?_⟩)⟩
            refine ⟨_, rfl, _, rfl, td, _, rfl, DPut.k (k := Sum.inl d) ((snew hp) _ _ e1') kl, ⟨_, _, _, _, rfl⟩, post (nt + t) nb p hp ?_ (bit_up (add_bit (B := B + C + 1) (bit_up bnt (by omega)) (bit_up zt' (by omega))) (by omega)) nb0 (bit_up zb' (by omega))⟩
            rw [← en, Rat.divInt_add_divInt _ _ nb0 nb0]
            exact frac_same nb0 (Int.mul_ne_zero nb0 nb0) (by rw [← Int.add_mul, ← Int.mul_assoc])
          · refine ⟨_, rfl, .inr (.inl ⟨q', _, _, _, rfl, rfl, SqT.of hq', rfl, _, rfl, _, _, rfl, rfl, w bnt zb' (by omega) (by omega), _, rfl, _, rfl, .inr (.inl ⟨q', _, _, _, rfl, rfl, SqT.of hq', rfl, _, _, rfl, rfl, w zt' bnb (by omega) (by omega), _, _, rfl, rfl, ?_⟩)⟩)⟩
            refine ⟨_, rfl, .inr (.inl ⟨q', _, _, _, rfl, rfl, SqT.of hq', rfl, _, rfl, _, _, rfl, rfl, w bnb zb' (by omega) (by omega), sl2, fun p hp => ?_⟩)⟩
            refine ⟨_, rfl, _, rfl, td, _, rfl, DPut.k (k := Sum.inl d) ((snew hp) _ _ e1') kl, ⟨_, _, _, _, rfl⟩, post (nt * b + t * nb) (nb * b) p hp (by rw [← en, Rat.divInt_add_divInt _ _ nb0 z0']) (bit_up (add_bit (B := B + C + 1) (bit_up (mul_bit bnt zb') (by omega)) (bit_up (mul_bit zt' bnb) (by omega))) (by omega)) (Int.mul_ne_zero nb0 z0') (bit_up (mul_bit bnb zb') (by omega))⟩
      · rintro σ H2 ⟨⟨x3', x4', x5', x6', rfl⟩, s2, kvs, ts, e1, tr, nd, sz, len, oks, con⟩
        have e : tm (ps.take (i + 1)) = T0 + n.length := tk
        rw [ly] at sz len con
        refine ⟨⟨_, _, _, _, _, rfl⟩, s2, kvs, ts, e1, tr, nd, e ▸ sz, e ▸ len, oks, fun d => ?_⟩
        rw [con d, List.take_length, ws_take hp]
    · rintro σ H1 ⟨⟨x2, x3, x4, x5, x6, rfl⟩, s1, kvs, ts, e1, tr, nd, sz, len, oks, con⟩
      rw [show ps.take xs.length = ps by rw [lx, List.take_length]] at sz len con
      refine ⟨_, rfl, td, kvs, ts, _, ok, rfl, e1, tr, nd, sz, by omega, by omega, oks, fun n r H2 dn cn con2 s2 => ?_⟩
      exact k n r H2 dn cn (fun d => (con2 d).trans (con d)) (s1.trans s2)
end
end N3

namespace N3
open PySem PySem.Spec PyProof.Rows L2 N2
/-! ### rows without what is zero at their end -/
theorem take_cr {r : List Nm} {m : Nat} (h : ∀ i n, m ≤ i → r[i]? = some n → n = []) (j : Nat) (d : Int) : cr (r.take m) j d = cr r j d := by
  unfold cr
  rw [List.getD_eq_getElem?_getD, List.getD_eq_getElem?_getD]
  rcases Nat.lt_or_ge j m with c | c
  · rw [List.getElem?_take_of_lt c]
  · rw [List.getElem?_eq_none (by rw [List.length_take]; omega)]
    cases e : r[j]? with
    | none => rfl
    | some n => rw [h j n c e]; rfl
def spTrim (K : PySem.W.Frag) : Sp := fun vs H Q _ => ∃ (a : Addr) (acc : List V) (r : List Nm), vs = [.ref a] ∧ SqL K H a acc ∧ DnAll H acc (r.map encN) ∧ r.length ≤ 1000 ∧
  ∀ (s : List Nm) (q : Nat) (H' : Hp), Dn H' (.ref q) (encR s) → (∃ k, k ≤ r.length ∧ s = r.take k) → s.getLast? ≠ some [] → (∀ j d, cr s j d = cr r j d) → Same H H' → Q (.ref q) H'
/-- a list or a tuple -/
def SqE (K : PySem.W.Frag) (H : Hp) (a : Addr) (xs : List V) : Prop := SqL K H a xs ∨ H a = some (.tup xs)
theorem SqE.same {K : PySem.W.Frag} {H H' : Hp} {a : Addr} {xs : List V} (s : Same H H') (h : SqE K H a xs) : SqE K H' a xs := h.imp (sqL_same s) (s _ _)
theorem SqE.len {K : PySem.W.Frag} {H : Hp} {a : Addr} {xs : List V} (h : SqE K H a xs) : LenV K (.ref a) H xs.length := h.elim (fun h => .inl ⟨xs, h, rfl⟩) fun h => .inr ⟨xs, SqT.of h, rfl⟩
theorem SqE.at {K : PySem.W.Frag} {H : Hp} {a : Addr} {xs : List V} {i : Int} {v : V} {Q : VK} (h : SqE K H a xs) (e : atI xs i = some v) (q : Q v H) : rIx K (.ref a) (.int i) H Q := h.elim (fun h => .inl ⟨a, xs, i, v, rfl, rfl, h, e, q⟩) fun h => .inr (.inl ⟨a, xs, i, v, rfl, rfl, SqT.of h, e, q⟩)
theorem SqE.to {K : PySem.W.Frag} {H : Hp} {a : Addr} {xs : List V} {m : Nat} {Q : VK} (h : SqE K H a xs) (hm : m ≤ xs.length) (k : ∀ (p : Addr) (H' : Hp), SqE K H' p (xs.take m) → Same H H' → Q (.ref p) H') : rSlL K (.ref a) none (some (m : Int)) H Q ∨ rSlA K (.ref a) none (some (m : Int)) H Q := by
  rcases h with h | h
  · refine .inl ⟨a, xs, rfl, h, fun p hp => ?_⟩
    rw [cutTo _ _ hm]
    exact k p _ (.inl (SqL.of upd_same)) (snew hp)
  · refine .inr ⟨a, xs, rfl, SqT.of h, fun ⟨_, z⟩ => ?_, fun _ p hp => ?_⟩
    · have e1 : HT.sIx xs.length xs.length (some (m : Int)) = min m xs.length := HT.sIx_nat xs.length xs.length m
      rw [e1, Nat.min_eq_left hm] at z
      refine k a H ?_ (Same.refl _)
      rw [List.take_of_length_le (by omega)]
      exact .inr h
    · rw [cutTo _ _ hm]
      exact k p _ (.inr upd_same) (snew hp)
def spTrimE (K : PySem.W.Frag) : Sp := fun vs H Q _ => ∃ (a : Addr) (acc : List V) (r : List Nm), vs = [.ref a] ∧ SqE K H a acc ∧ DnAll H acc (r.map encN) ∧ r.length ≤ 1000 ∧
  ∀ (s : List Nm) (q : Nat) (H' : Hp), Dn H' (.ref q) (encR s) → (∃ k, k ≤ r.length ∧ s = r.take k) → s.getLast? ≠ some [] → (∀ j d, cr s j d = cr r j d) → Same H H' → Q (.ref q) H'
section
variable {P : Program} {w : World} {K : PySem.W.Frag} {mg : Str → Option Value} {base : Heap}
abbrev s__law_shed : Stmt := top 62
theorem sc__law_shed : FnScope ["row", "many"] ["row"] (defScope s__law_shed) := ⟨rfl, rfl, rfl, by decide +kernel, rfl, by decide +kernel, by decide +kernel⟩
theorem ok__law_shed {f  : Addr} {fd  : FuncData}  (F : Fun K "_law_shed" "_law_shed" s__law_shed f fd) (T : Bt mg)  : FnOk P w K mg base CX0 1 f fd ["row"] (spTrimE K) := by
  refine F.ok sc__law_shed (fun vs H Q E h => ?_) (fun cdv A outer s H vs Q E hr h => ?_)
  · obtain ⟨a, acc, r, rfl, _⟩ := h
    rfl
  · obtain ⟨a, acc, r, rfl, ha, ra, hl, k⟩ := h
    refine ⟨_, pss_cons (ps_set (i := 1) sc__law_shed.nd rfl (Or.inl rfl) (pe_callB call_len (by rfl) T.len PySem.boot_len (pa_cons (pv 0) pa_nil)))
      (pss_cons (ps_while PassesOwn.never (PW.pt (pw_and (pt_cmpR op_gt (pv 1) pe_int (nomark _)) (pw_and1 (pt_cmpR (op_eqD hr.units) (pe_ix (r := rIx K) ix_seq (pv 0) (pe_op op_sub (pv 1) pe_int) (fun _ _ => rfl)) (pe_tup pa_nil) (nomark _)))))
        (pss_one (ps_set (i := 1) sc__law_shed.nd rfl (Or.inl rfl) (pe_op op_sub (pv 1) pe_int))))
      (pss_one (ps_ret (pe_callTy call_tuple_of (by rfl) T.tuple (by decide +kernel) (pa_cons (pe_slice (sl_list.or sl_tupA) (pv 0) po_none (po_some (pv 1))) pa_nil))))), ?_⟩
    have lr : acc.length = r.length := by rw [ra.length, List.length_map]
    refine ⟨_, rfl, .ref a, acc.length, rfl, ha.len, ?_⟩
    refine ⟨fun m σ H' => ∃ j : Nat, σ = [some (.ref a), some (.int (j : Int))] ∧ j ≤ r.length ∧ Same H H' ∧ m = j ∧ ∀ i n, j ≤ i → r[i]? = some n → n = [], ⟨_, acc.length, rfl, by omega, Same.refl _, rfl, fun i n h e => by rw [List.getElem?_eq_none (by omega)] at e; cases e⟩, ?_⟩
    rintro m σ H1 ⟨j, rfl, jl, s1, rfl, drop⟩
    have hcr := take_cr drop
    have fin : ∀ H2, Same H H2 → (r.take m).getLast? ≠ some [] → (∀ j d, cr (r.take m) j d = cr r j d) → tRet (tCB (fun xs H Q => ∃ p ys, xs = [V.ref p] ∧ ((SqL K H p ys ∧ ∀ l, H l = none → Q (.ref l) (upd H l (.tup ys))) ∨ SqT K H p ys ∧ Q (.ref p) H)) (tCons (tSl (fun x lo hi H Q => rSlL K x lo hi H Q ∨ rSlA K x lo hi H Q) (tVar 0) tNoPart (tPart (tVar 1))) tNil)) { nx := fun x H' => Q V.non H', rt := Q } [some (.ref a), some (.int (m : Int))] H2 := fun H2 s2 hm hcr => by
      refine ⟨_, rfl, ?_⟩
      dsimp only [tNoPart]
      refine ⟨_, rfl, _, rfl, (ha.same s2).to (by omega) fun p H3 hp s3 => ?_⟩
      have dn : DnAll H3 (acc.take m) ((r.take m).map encN) := by
        rw [List.map_take]
        exact DnAll.mono (s2.trans s3) _ _ (dnAll_take ra m)
      rcases hp with hp | hp
      · exact ⟨p, _, rfl, .inl ⟨hp, fun q hq => k (r.take m) q _ (.tup upd_same (DnAll.mono (snew hq) _ _ dn)) ⟨m, jl, rfl⟩ hm hcr ((s2.trans s3).trans (snew hq))⟩⟩
      · exact ⟨p, _, rfl, .inr ⟨SqT.of hp, k (r.take m) p _ (.tup hp dn) ⟨m, jl, rfl⟩ hm hcr (s2.trans s3)⟩⟩
    refine ⟨_, rfl, _, _, rfl, rfl, _, rfl, ite_b (fun c => ?_) (fun c => ?_)⟩
    · have c' : 0 < m := by have := of_decide_eq_true c; omega
      obtain ⟨n, en⟩ : ∃ n, r[m - 1]? = some n := ⟨_, List.getElem?_eq_getElem (by omega)⟩
      obtain ⟨x, ex, dx⟩ := dn_at ra (show (r.map encN)[m - 1]? = some (encN n) by rw [List.getElem?_map, en]; rfl)
      have ei : ((m : Int) - 1) = ((m - 1 : Nat) : Int) := by omega
      refine ⟨_, rfl, _, rfl, _, _, rfl, rfl, (ha.same s1).at (by rw [ei]; exact atI_nat ex) ?_⟩
      refine ⟨Nat.zero_le _, fun p hp => ⟨encN n, .tuple [], tn_dp _ _ (encN_tn n) (Dn.mono (s1.trans (snew hp)) _ _ dx), .tup (SqT.of upd_same) .nil, encN_shaped n, rfl, _, rfl, ?_⟩⟩
      rw [eqv_nil_d (encN_tn n)]
      have sp := s1.trans (snew (o := .tup []) hp)
      refine ite_b (fun c2 => ?_) (fun c2 => ?_)
      · refine ⟨fun σ H' => σ = [some (.ref a), some (.int ((m : Int) - 1))] ∧ Same H H', fun σ' H' ⟨e1, e2⟩ => ⟨m - 1, by omega, m - 1, by rw [e1, ei], by omega, e2, rfl, fun i n' h e => by
          rcases Nat.lt_or_ge (m - 1) i with z | z
          · exact drop i n' (by omega) e
          · have : i = m - 1 := by omega
            subst this
            rw [en] at e
            cases e
            cases n with
            | nil => rfl
            | cons _ _ => cases c2⟩, ?_⟩
        exact ⟨_, rfl, _, _, rfl, rfl, rfl, sp⟩
      · refine fin _ sp (fun z => ?_) hcr
        rw [List.getLast?_take, if_neg (by omega), en] at z
        have z' : n = [] := by simpa using z
        rw [z'] at c2
        cases c2
    · refine iteF ?_
      have m0 : m = 0 := by have := of_decide_eq_false c; omega
      subst m0
      exact fin _ s1 (by simp) hcr
abbrev s_trimmed : Stmt := top 27
theorem sc_trimmed : FnScope ["numbers", "end"] ["numbers"] (defScope s_trimmed) := ⟨rfl, rfl, rfl, by decide +kernel, rfl, by decide +kernel, by decide +kernel⟩
theorem ok_trimmed {f  : Addr} {fd  : FuncData}  (F : Fun K "trimmed" "trimmed" s_trimmed f fd) (T : Bt mg)  : FnOk P w K mg base CX0 1 f fd ["numbers"] (spTrim K) := by
  refine F.ok sc_trimmed (fun vs H Q E h => ?_) (fun cdv A outer s H vs Q E hr h => ?_)
  · obtain ⟨a, acc, r, rfl, _⟩ := h
    rfl
  · obtain ⟨a, acc, r, rfl, ha, ra, hl, k⟩ := h
    refine ⟨_, pss_cons (ps_set (i := 1) sc_trimmed.nd rfl (Or.inl rfl) (pe_callB call_len (by rfl) T.len PySem.boot_len (pa_cons (pv 0) pa_nil)))
      (pss_cons (ps_while PassesOwn.never (PW.pt (pw_and (pt_cmpR op_gt (pv 1) pe_int (nomark _)) (pw_and1 (pt_cmpR (op_eqD hr.units) (pe_ix (r := rIx K) ix_seq (pv 0) (pe_op op_sub (pv 1) pe_int) (fun _ _ => rfl)) (pe_tup pa_nil) (nomark _)))))
        (pss_one (ps_aug (i := 1) sc_trimmed.nd rfl (.inl rfl) pe_int ip_sub)))
      (pss_one (ps_ret (pe_callTy call_tuple_of (by rfl) T.tuple (by decide +kernel) (pa_cons (pe_slice sl_list (pv 0) po_none (po_some (pv 1))) pa_nil))))), ?_⟩
    have lr : acc.length = r.length := by rw [ra.length, List.length_map]
    refine ⟨_, rfl, .ref a, acc.length, rfl, .inl ⟨acc, ha, rfl⟩, ?_⟩
    refine ⟨fun m σ H' => ∃ j : Nat, σ = [some (.ref a), some (.int (j : Int))] ∧ j ≤ r.length ∧ Same H H' ∧ m = j ∧ ∀ i n, j ≤ i → r[i]? = some n → n = [], ⟨_, acc.length, rfl, by omega, Same.refl _, rfl, fun i n h e => by rw [List.getElem?_eq_none (by omega)] at e; cases e⟩, ?_⟩
    rintro m σ H1 ⟨j, rfl, jl, s1, rfl, drop⟩
    have hcr := take_cr drop
    have fin : ∀ H2, Same H H2 → (r.take m).getLast? ≠ some [] → (∀ j d, cr (r.take m) j d = cr r j d) → tRet (tCB (fun xs H Q => ∃ p ys, xs = [V.ref p] ∧ ((SqL K H p ys ∧ ∀ l, H l = none → Q (.ref l) (upd H l (.tup ys))) ∨ SqT K H p ys ∧ Q (.ref p) H)) (tCons (tSl (rSlL K) (tVar 0) tNoPart (tPart (tVar 1))) tNil)) { nx := fun x H' => Q V.non H', rt := Q } [some (.ref a), some (.int (m : Int))] H2 := fun H2 s2 hm hcr => by
      refine ⟨_, rfl, ?_⟩
      dsimp only [tNoPart]
      have e : cutV acc none (some (m : Int)) = acc.take m := cutTo acc m (by omega)
      refine ⟨_, rfl, _, rfl, a, acc, rfl, sqL_same s2 ha, ?_⟩
      rw [e]
      intro p hp
      refine ⟨p, _, rfl, .inl ⟨SqL.of upd_same, fun q hq => ?_⟩⟩
      refine k (r.take m) q _ (.tup upd_same ?_) ⟨m, jl, rfl⟩ hm hcr (s2.trans ((snew hp).trans (snew hq)))
      rw [List.map_take]
      exact DnAll.mono (s2.trans ((snew hp).trans (snew hq))) _ _ (dnAll_take ra m)
    refine ⟨_, rfl, _, _, rfl, rfl, _, rfl, ite_b (fun c => ?_) (fun c => ?_)⟩
    · have c' : 0 < m := by have := of_decide_eq_true c; omega
      obtain ⟨n, en⟩ : ∃ n, r[m - 1]? = some n := ⟨_, List.getElem?_eq_getElem (by omega)⟩
      obtain ⟨x, ex, dx⟩ := dn_at ra (show (r.map encN)[m - 1]? = some (encN n) by rw [List.getElem?_map, en]; rfl)
      have ei : ((m : Int) - 1) = ((m - 1 : Nat) : Int) := by omega
      refine ⟨_, rfl, _, rfl, _, _, rfl, rfl, .inl ⟨a, acc, _, _, rfl, rfl, sqL_same s1 ha, by rw [ei]; exact atI_nat ex, ?_⟩⟩
      refine ⟨Nat.zero_le _, fun p hp => ⟨encN n, .tuple [], tn_dp _ _ (encN_tn n) (Dn.mono (s1.trans (snew hp)) _ _ dx), .tup (SqT.of upd_same) .nil, encN_shaped n, rfl, _, rfl, ?_⟩⟩
      rw [eqv_nil_d (encN_tn n)]
      have sp := s1.trans (snew (o := .tup []) hp)
      refine ite_b (fun c2 => ?_) (fun c2 => ?_)
      · refine ⟨fun σ H' => σ = [some (.ref a), some (.int ((m : Int) - 1))] ∧ Same H H', fun σ' H' ⟨e1, e2⟩ => ⟨m - 1, by omega, m - 1, by rw [e1, ei], by omega, e2, rfl, fun i n' h e => by
          rcases Nat.lt_or_ge (m - 1) i with z | z
          · exact drop i n' (by omega) e
          · have : i = m - 1 := by omega
            subst this
            rw [en] at e
            cases e
            cases n with
            | nil => rfl
            | cons _ _ => cases c2⟩, ?_⟩
        exact ⟨_, rfl, _, _, rfl, rfl, rfl, sp⟩
      · refine fin _ sp (fun z => ?_) hcr
        rw [List.getLast?_take, if_neg (by omega), en] at z
        have z' : n = [] := by simpa using z
        rw [z'] at c2
        cases c2
    · refine iteF ?_
      have m0 : m = 0 := by have := of_decide_eq_false c; omega
      subst m0
      exact fin _ s1 (by simp) hcr
end
end N3

namespace N3
open PySem PySem.Spec PyProof.Rows L2 N2
/-! ### the menus of roots -/
def partsL : List (Int × Int × Int) := [(-1, 2, 3), (2, 3, 5), (-1, 5, 7), (-2, 3, 11), (2, -7, 13), (-3, 2, 101), (-1, 97, 103), (6, 35, 143)]
/-- products of some of the parts, as the law's loop lays them -/
def prods : List Int → List Int → List Int
  | [], ms => ms
  | c :: cs, ms => prods cs (ms ++ ms.map (· * c))
def menu (p : Int × Int × Int) : List Int := prods [p.1, p.2.1, p.2.2] [1]
def sqOk (n : Nat) : Bool := (List.range 201).all fun q => decide (q < 2) || decide (n % (q * q) ≠ 0)
theorem fit_small {a : Int} (h0 : a ≠ 0) (h1 : a.natAbs ≤ 40000) (h2 : sqOk a.natAbs = true) : Fit a := by
  refine ⟨h0, by omega, fun q hq d => ?_⟩
  have le := Nat.le_of_dvd (by omega) d
  have ql : q < 201 := by
    rcases Nat.lt_or_ge q 201 with c | c
    · exact c
    · have : 201 * 201 ≤ q * q := Nat.mul_le_mul c c
      omega
  have := List.all_eq_true.mp h2 q (List.mem_range.mpr ql)
  rw [Bool.or_eq_true, decide_eq_true_iff, decide_eq_true_iff] at this
  rcases this with h | h
  · omega
  · exact h (Nat.mod_eq_zero_of_dvd d)
theorem menu_ok : ∀ p ∈ partsL, (menu p).all (fun a => decide (a ≠ 0) && decide (a.natAbs ≤ 40000) && sqOk a.natAbs) = true ∧ (menu p).length = 8 := by decide +kernel
theorem menu_fit {p : Int × Int × Int} (hp : p ∈ partsL) : ∀ a ∈ menu p, Fit a ∧ a.natAbs ≤ 40000 := fun a ha => by
  have h := List.all_eq_true.mp (menu_ok p hp).1 a ha
  rw [Bool.and_eq_true, Bool.and_eq_true, decide_eq_true_iff, decide_eq_true_iff] at h
  exact ⟨fit_small h.1.1 h.1.2 h.2, h.1.2⟩
/-- the d of a menu's numbers -/
def okM (p : Int × Int × Int) (d : Int) : Prop := d ∈ menu p
theorem okM_few {p : Int × Int × Int} (hp : p ∈ partsL) : Few (okM p) 8 := by
  have h := few_of (ok := okM p) (menu := menu p) fun d h => h
  rwa [(menu_ok p hp).2] at h
theorem CN.fit {p : Int × Int × Int} (hp : p ∈ partsL) {n : Nm} (h : CN (okM p) n) : CN Fit n := ⟨fun x hx => ⟨(menu_fit hp _ (h.1 x hx).1).1, (h.1 x hx).2⟩, h.2⟩
end N3

namespace N3
open PySem PySem.Spec PyProof.Rows L2 N2
/-- one of the eight triples -/
def PM (H : Hp) (x : V) : Prop := ∃ (p : Addr) (a b d : Int), x = .ref p ∧ H p = some (.tup [.int a, .int b, .int d]) ∧ (a, b, d) ∈ partsL
theorem pm_add {H : Hp} {L : List V} {p : Addr} {a b d : Int} (h : ∀ x ∈ L, PM H x) (hp : H p = none) (hm : (a, b, d) ∈ partsL) : ∀ x ∈ L ++ [.ref p], PM (upd H p (.tup [.int a, .int b, .int d])) x := by
  intro x hx
  rcases List.mem_append.mp hx with hx | hx
  · obtain ⟨q, a', b', d', e, hq, r⟩ := h x hx
    exact ⟨q, a', b', d', e, snew hp _ _ hq, r⟩
  · rw [List.mem_singleton.mp hx]
    exact ⟨p, a, b, d, rfl, upd_same, hm⟩
theorem prods_snoc {c : Int} : ∀ {cs ms : List Int}, prods (cs ++ [c]) ms = prods cs ms ++ (prods cs ms).map (· * c)
  | [], _ => rfl
  | _ :: cs, _ => prods_snoc (cs := cs)
theorem parts_200 : ∀ p ∈ partsL, p.1.natAbs ≤ 200 ∧ p.2.1.natAbs ≤ 200 ∧ p.2.2.natAbs ≤ 200 := by decide
def spMenu : Sp := fun vs H Q _ => ∃ (dk l : Addr), vs = [.ref dk] ∧ Deck H dk l ∧ ∀ (a : Addr) (p : Int × Int × Int) (H' : Hp), p ∈ partsL → H' a = some (.lst ((menu p).map V.int)) → a ≠ dk → a ≠ l → Deck H' dk l → Keep dk l H H' → Q (.ref a) H'
section
variable {P : Program} {w : World} {K : PySem.W.Frag} {mg : Str → Option Value} {base : Heap}
abbrev s__law_roots : Stmt := top 57
abbrev nsRts : List Str := ["deck", "parts", "found", "part", "d"]
theorem sc__law_roots : FnScope nsRts ["deck"] (defScope s__law_roots) := ⟨rfl, rfl, rfl, by decide +kernel, rfl, by decide +kernel, by decide +kernel⟩
theorem ok__law_roots {f f__law_pick : Addr} {fd d__law_pick : FuncData}  (F : Fun K "_law_roots" "_law_roots" s__law_roots f fd) (T : Bt mg) (l_pick : Kn P w K mg base 2 "_law_pick" ["deck", "some"] (spPick K) f__law_pick d__law_pick) : FnOk P w K mg base CX0 3 f fd ["deck"] spMenu := by
  refine F.ok sc__law_roots (fun vs H Q E h => ?_) (fun cdv A outer s H vs Q E hr h => ?_)
  · obtain ⟨dk, l, rfl, _⟩ := h
    rfl
  · obtain ⟨dk, l, rfl, De, k⟩ := h
    refine ⟨_, pss_cons (ps_set (i := 1) sc__law_roots.nd rfl (Or.inl rfl) (pe_call l_pick.ok (hr.mono (by decide)) rfl l_pick.mg l_pick.kp l_pick.bd .nil pass0 (pa_cons (pv 0) (pa_cons (pe_lst (pa_cons (pe_tup (pa_cons (pe_un un_neg pe_int) (pa_cons pe_int (pa_cons pe_int pa_nil)))) (pa_cons (pe_tup (pa_cons pe_int (pa_cons pe_int (pa_cons pe_int pa_nil)))) (pa_cons (pe_tup (pa_cons (pe_un un_neg pe_int) (pa_cons pe_int (pa_cons pe_int pa_nil)))) (pa_cons (pe_tup (pa_cons (pe_un un_neg pe_int) (pa_cons pe_int (pa_cons pe_int pa_nil)))) (pa_cons (pe_tup (pa_cons pe_int (pa_cons (pe_un un_neg pe_int) (pa_cons pe_int pa_nil)))) (pa_cons (pe_tup (pa_cons (pe_un un_neg pe_int) (pa_cons pe_int (pa_cons pe_int pa_nil)))) (pa_cons (pe_tup (pa_cons (pe_un un_neg pe_int) (pa_cons pe_int (pa_cons pe_int pa_nil)))) (pa_cons (pe_tup (pa_cons pe_int (pa_cons pe_int (pa_cons pe_int pa_nil)))) pa_nil))))))))) pa_nil))))
      (pss_cons (ps_set (i := 2) sc__law_roots.nd rfl (Or.inl rfl) (pe_lst (pa_cons pe_int pa_nil)))
      (pss_cons (ps_for PassesOwn.never rfl (pi_tup (pv 1)) (pg_name (i := 3) sc__law_roots.nd rfl (Or.inr rfl))
        (pss_one (ps_expr (pe_bm PySem.F.plainAttrs_list PySem.F.slot_list_extend PySem.F.type_list_extend mt_extend (pv 2) (pa_cons (pe_lc (own := [("d", 4)]) (g := (gName 4)) (tt := tYes) rfl sc__law_roots.nd (pi_list (pv 2)) (blkOk_by (own := [("d", 4)]) (N := nsRts) (sc := defScope s__law_roots) (by decide +kernel)) (fun _ _ _ _ _ => pg_name (i := 4) sc__law_roots.nd rfl (Or.inl rfl)) (fun _ _ _ _ _ => pts_nil) (fun _ _ _ _ _ => (pe_op op_mul (pv 4) (pv 3)))) pa_nil)))))
      (pss_one (ps_ret (pv 2))))), ?_⟩
    have s3 : 3 ≤ sizeLine := by rw [sizeLine_eq]; decide
    have s8 : 8 ≤ sizeLine := by rw [sizeLine_eq]; decide
    have b : ∀ x : Int, x.natAbs ≤ 200 → x.natAbs ≤ 200 := fun _ h => h
    refine ⟨_, rfl, _, rfl, s3, fun p1 hp1 => ⟨s3, fun p2 hp2 => ⟨_, rfl, s3, fun p3 hp3 => ⟨_, rfl, s3, fun p4 hp4 => ⟨_, rfl, s3, fun p5 hp5 => ⟨_, rfl, s3, fun p6 hp6 => ⟨_, rfl, s3, fun p7 hp7 => ⟨s3, fun p8 hp8 => ⟨s8, fun p hp => ?_⟩⟩⟩⟩⟩⟩⟩⟩⟩
    have A := pm_add (pm_add (pm_add (pm_add (pm_add (pm_add (pm_add (pm_add (L := []) (fun x hx => absurd hx (by simp)) hp1 (a := -1) (b := 2) (d := 3) (by decide)) hp2 (a := 2) (b := 3) (d := 5) (by decide)) hp3 (a := -1) (b := 5) (d := 7) (by decide)) hp4 (a := -2) (b := 3) (d := 11) (by decide))
      hp5 (a := 2) (b := -7) (d := 13) (by decide)) hp6 (a := -3) (b := 2) (d := 101) (by decide)) hp7 (a := -1) (b := 97) (d := 103) (by decide)) hp8 (a := 6) (b := 35) (d := 143) (by decide)
    generalize eH8 : upd _ p8 (HO.tup [.int 6, .int 35, .int 143]) = H8 at A hp
    have k8 : Same H H8 := by
      rw [← eH8]
      exact ((((((((snew hp1).trans (snew hp2)).trans (snew hp3)).trans (snew hp4)).trans (snew hp5)).trans (snew hp6)).trans (snew hp7)).trans (snew hp8))
    have D8 := De.same k8
    refine pick_new (E := E0) D8 hp (by simp) (by show 8 < _; decide) fun x H1 hx D1 k1 => ?_
    obtain ⟨q, a', b', d', rfl, hq, mem⟩ := A x hx
    obtain ⟨ba, bb, bd⟩ := parts_200 _ mem
    have hq1 : H1 q = some (.tup [.int a', .int b', .int d']) := by
      have := deck_tup D8 hq
      exact k1 _ _ hq (of_off this).1 (of_off this).2.1
    have sl1 : 1 ≤ sizeLine := by rw [sizeLine_eq]; decide
    refine ⟨sl1, fun f hf => ?_⟩
    have nf : f ≠ dk ∧ f ≠ l := ⟨fun z => D1.some1.1 (z ▸ hf), fun z => D1.some1.2 (z ▸ hf)⟩
    have sf := snew (o := .lst [.int 1]) hf
    have nb : ∀ b o, H b = some o → b ≠ dk → b ≠ l → b ≠ f := fun b o e h1 h2 => ne_of_none (k1 _ _ (k8 _ _ e) h1 h2) hf
    refine ⟨_, rfl, q, rfl, ⟨_, SqT.of (sf _ _ hq1)⟩, for_tup (K := K) (a := q) (xs := [.int a', .int b', .int d']) (fun i σ H' => (∃ x3, σ = [some (.ref dk), some (.ref q), some (.ref f), x3, none]) ∧ ∃ ms : List Int, H' f = some (.lst (ms.map V.int)) ∧ ms.length = 2 ^ i ∧ (∀ m ∈ ms, m.natAbs ≤ 200 ^ i) ∧ ms = prods ([a', b', d'].take i) [1] ∧ Deck H' dk l ∧ Keep dk l H H' ∧ H' q = some (.tup [.int a', .int b', .int d']))
      ⟨⟨none, rfl⟩, [1], upd_same, rfl, by simp, rfl, D1.same sf, ((Keep.of k8).trans k1).trans (Keep.of sf), sf _ _ hq1⟩ (fun i σ H' _ ⟨_, _, _, _, _, _, _, _, e⟩ => SqT.of e) ?_ ?_⟩
    · rintro i y σ H' hy ⟨⟨x3, rfl⟩, ms, e1, e2, e3, eP, D2, k2, e4⟩
      obtain ⟨c, rfl, bc, ec⟩ : ∃ c : Int, y = .int c ∧ c.natAbs ≤ 200 ∧ [a', b', d'][i]? = some c := by
        match i, hy with
        | 0, hy => exact ⟨a', by simpa using hy.symm, ba, rfl⟩
        | 1, hy => exact ⟨b', by simpa using hy.symm, bb, rfl⟩
        | 2, hy => exact ⟨d', by simpa using hy.symm, bd, rfl⟩
        | _ + 3, hy => simp at hy
      have il : i < 3 := (List.getElem?_eq_some_iff.mp hy).1
      have p8' : 2 ^ i ≤ 4 := by
        have : i = 0 ∨ i = 1 ∨ i = 2 := by omega
        rcases this with h | h | h <;> rw [h] <;> decide
      refine ⟨_, rfl, .inl ⟨rfl, _, SqL.of e1⟩, _, rfl, f, rfl, ⟨_, SqL.of e1⟩, fun D hD => lc_list (K := K) (a := f) (xs := ms.map V.int) (fun j H2 => H2 D = some (.lst ((ms.take j).map fun m => V.int (m * c))) ∧ Same H' H2)
        ⟨upd_same, snew hD⟩ (fun j H2 _ p => SqL.of (p.2 _ _ e1)) ?_ ?_⟩
      · rintro j z H2 hz ⟨f1, s2⟩
        rw [List.getElem?_map] at hz
        obtain ⟨m, em, rfl⟩ := Option.map_eq_some_iff.mp hz
        have jl := (List.getElem?_eq_some_iff.mp em).1
        refine ⟨rfl, _, rfl, _, rfl, _, _, rfl, rfl, .inr ⟨by omega, by omega⟩, _, f1, by rw [List.length_map, List.length_take]; exact small1000 (by omega), ?_, fun x o e => ?_⟩
        · rw [upd_same, List.take_add_one, em]
          simp
        · rw [upd_ne (ne_of_none e hD)]; exact s2 _ _ e
      · rintro H2 ⟨f1, s2⟩
        have f1' : H2 D = some (.lst (ms.map fun m => V.int (m * c))) := by rw [f1, List.length_map, List.take_length]
        have lz : (ms.map V.int).length + (ms.map fun m => V.int (m * c)).length ≤ sizeLine := by
          rw [List.length_map, List.length_map]
          have := small1000 (n := ms.length + ms.length) (by omega)
          omega
        refine ⟨f, D, _, _, rfl, rfl, s2 _ _ e1, f1', lz, ⟨⟨_, rfl⟩, ms ++ ms.map fun m => m * c, ?_, ?_, ?_, by rw [List.take_add_one, ec, eP]; exact prods_snoc.symm, deck_upd (D2.same s2) nf.1 nf.2, fun b o e h1 h2 => ?_, ?_⟩⟩
        · rw [upd_same, List.map_append, List.map_map]
          rfl
        · rw [List.length_append, List.length_map, e2, Nat.pow_succ]; omega
        · intro m hm
          have pp : 0 < 200 ^ i := Nat.pow_pos (by decide)
          rcases List.mem_append.mp hm with hm | hm
          · have := e3 m hm
            rw [Nat.pow_succ]; omega
          · obtain ⟨m', hm', rfl⟩ := List.mem_map.mp hm
            rw [Int.natAbs_mul, Nat.pow_succ]
            exact Nat.mul_le_mul (e3 m' hm') bc
        · rw [upd_ne (nb b o e h1 h2)]
          exact s2 _ _ (k2 b o e h1 h2)
        · rw [upd_ne (ne_of_none hq1 hf)]
          exact s2 _ _ e4
    · rintro σ H' ⟨⟨x3, rfl⟩, ms, e1, e2, e3, eP, D2, k2, e4⟩
      subst eP
      exact ⟨_, rfl, k f (a', b', d') H' mem e1 nf.1 nf.2 D2 k2⟩
end
end N3

namespace N3
open PySem PySem.Spec PyProof.Rows L2
/-! ### comprehensions that map, and that choose -/
theorem small_m' {n : Nat} (h : n ≤ 1000000) : n < sizeLine := by rw [sizeLine_eq]; omega
/-- tuples stay -/
def Tst (H H' : Hp) : Prop := ∀ (a : Addr) (xs : List V), H a = some (.tup xs) → H' a = some (.tup xs)
theorem Tst.of {H H' : Hp} (s : Same H H') : Tst H H' := fun a xs e => s _ _ e
theorem Tst.trans {H H1 H2 : Hp} (s : Tst H H1) (t : Tst H1 H2) : Tst H H2 := fun a xs e => t _ _ (s _ _ e)
theorem Tst.refl (H : Hp) : Tst H H := fun _ _ e => e
theorem Tst.deck {H H' : Hp} {dk l : Addr} (D : Deck H dk l) (k : Keep dk l H H') : Tst H H' := fun a xs e => by
  obtain ⟨ns, m, j, h1, h2, _⟩ := D
  exact k a _ e (fun z => by rw [z, h1] at e; cases e) fun z => by rw [z, h2] at e; cases e
theorem Tst.put {H : Hp} {D : Addr} {l l' : List V} (h : H D = some (.lst l)) : Tst H (upd H D (.lst l')) := fun a xs e => by
  rw [upd_ne (fun z => by rw [z, h] at e; cases e)]; exact e
theorem same_sqt {K : PySem.W.Frag} {H H' : Hp} {a : Addr} {xs : List V} (s : Same H H') (h : SqT K H a xs) : SqT K H' a xs := by
  rcases h with (h | ⟨o, h⟩) | h
  · exact .inl (.inl (s _ _ h))
  · exact .inl (.inr ⟨o, s _ _ h⟩)
  · exact .inr h
section
variable {J : It} {n : Nat} {G : Hp → Prop} {Y : Nat → Hp → V → Hp → Prop} {g : TG} {tt : TT} {te : TE} {vs : List Nat} {σ : L2.St} {H : Hp} {D : Addr} {Qd : Hp → Prop}
theorem lc_map (W : Walk J n G Y) (hG : ∀ H', Same H H' → G H') (R : Nat → V → Hp → Prop) (Rm : ∀ j y H1 H2, Tst H1 H2 → R j y H1 → R j y H2) (hn : n ≤ 1000000) (hD : H D = none)
    (step : ∀ (j : Nat) (x : V) (H1 H2 : Hp) (Q' : V → Hp → Prop), j < n → Same H H1 → Y j H1 x H2 → (∀ y H3, R j y H3 → Same H1 H3 → Q' y H3) → g x (wipe σ vs) H2 fun σ2 H3 => wipe σ2 vs = wipe σ vs ∧ te σ2 H3 Q')
    (fin : ∀ (ys : List V) (H' : Hp), H' D = some (.lst ys) → ys.length = n → (∀ (j : Nat) (y : V), ys[j]? = some y → R j y H') → Same H H' → Qd H') :
    ∃ W : Nat → Nat → Hp → Prop, (∃ m, W 0 m (upd H D (.lst []))) ∧ ∀ i m H, W i m H →
      (J.stop i H ∧ Qd H) ∨ (J.go i H ∧ ∃ Nx : Hp → Prop, (∀ H', Nx H' → ∃ m', m' < m ∧ W (i + 1) m' H') ∧ ∀ x H', J.yld i H x H' → g x (wipe σ vs) H' fun σ2 H2 => wipe σ2 vs = wipe σ vs ∧ tYes σ2 H2 fun b H3 =>
        if b = true then te σ2 H3 fun y H4 => ∃ acc, H4 D = some (.lst acc) ∧ acc.length < sizeLine ∧ Nx (upd H4 D (.lst (acc ++ [y]))) else Nx H3) := by
  refine lc_it W (fun i H' => ∃ ys : List V, H' D = some (.lst ys) ∧ ys.length = i ∧ (∀ (j : Nat) (y : V), ys[j]? = some y → R j y H') ∧ Same H H') ⟨[], upd_same, rfl, fun j y e => by simp at e, snew hD⟩ (fun i H' _ ⟨_, _, _, _, s⟩ => hG H' s) ?_ ?_
  · rintro i x H1 H2 hi ⟨ys, e1, e2, e3, s1⟩ y
    refine step i x H1 H2 _ hi s1 y fun v H3 r s3 => ?_
    have e1' := s3 _ _ e1
    refine ⟨ys, e1', small_m' (by omega), ys ++ [v], upd_same, by rw [List.length_append, e2]; rfl, fun j u e => ?_, fun b o e => ?_⟩
    · have tp : Tst H3 (upd H3 D (.lst (ys ++ [v]))) := Tst.put e1'
      rcases Nat.lt_or_ge j ys.length with c | c
      · rw [List.getElem?_append_left c] at e
        exact Rm _ _ _ _ ((Tst.of s3).trans tp) (e3 j u e)
      · rw [List.getElem?_append_right c] at e
        have : j = ys.length := by
          rcases Nat.lt_or_ge (j - ys.length) 1 with d | d
          · omega
          · rw [List.getElem?_eq_none (by simpa using d)] at e; cases e
        subst this
        rw [Nat.sub_self] at e
        cases e
        rw [e2]
        exact Rm _ _ _ _ tp r
    · rw [upd_ne (ne_of_none e hD)]; exact s3 _ _ (s1 _ _ e)
  · rintro H' ⟨ys, e1, e2, e3, s1⟩
    exact fin ys H' e1 e2 e3 s1
theorem fil_succ {p : Nat → Bool} {f : Nat → V} {i : Nat} : ((List.range (i + 1)).filter p).map f = ((List.range i).filter p).map f ++ (if p i = true then [f i] else []) := by
  rw [List.range_succ, List.filter_append, List.map_append]
  congr 1
  by_cases c : p i = true
  · rw [if_pos c]; simp [c]
  · rw [if_neg c]; simp [c]
theorem lc_fil (W : Walk J n G Y) (hG : ∀ H', Same H H' → G H') (p : Nat → Bool) (f : Nat → V) (hn : n ≤ 1000000) (hD : H D = none)
    (step : ∀ (j : Nat) (x : V) (H1 H2 : Hp) (Q1 : V → Hp → Prop) (Q0 : Hp → Prop), j < n → Same H H1 → Y j H1 x H2 → (∀ H3, Same H1 H3 → p j = true → Q1 (f j) H3) → (∀ H3, Same H1 H3 → p j = false → Q0 H3) →
      g x (wipe σ vs) H2 fun σ2 H3 => wipe σ2 vs = wipe σ vs ∧ tt σ2 H3 fun b H4 => if b = true then te σ2 H4 Q1 else Q0 H4)
    (fin : ∀ (H' : Hp), H' D = some (.lst (((List.range n).filter p).map f)) → Same H H' → Qd H') :
    ∃ W : Nat → Nat → Hp → Prop, (∃ m, W 0 m (upd H D (.lst []))) ∧ ∀ i m H, W i m H →
      (J.stop i H ∧ Qd H) ∨ (J.go i H ∧ ∃ Nx : Hp → Prop, (∀ H', Nx H' → ∃ m', m' < m ∧ W (i + 1) m' H') ∧ ∀ x H', J.yld i H x H' → g x (wipe σ vs) H' fun σ2 H2 => wipe σ2 vs = wipe σ vs ∧ tt σ2 H2 fun b H3 =>
        if b = true then te σ2 H3 fun y H4 => ∃ acc, H4 D = some (.lst acc) ∧ acc.length < sizeLine ∧ Nx (upd H4 D (.lst (acc ++ [y]))) else Nx H3) := by
  refine lc_it W (fun i H' => H' D = some (.lst (((List.range i).filter p).map f)) ∧ Same H H') ⟨upd_same, snew hD⟩ (fun i H' _ h => hG H' h.2) ?_ ?_
  · rintro i x H1 H2 hi ⟨e1, s1⟩ y
    refine step i x H1 H2 _ _ hi s1 y (fun H3 s3 c => ?_) (fun H3 s3 c => ?_)
    · refine ⟨_, s3 _ _ e1, small_m' ?_, ?_, fun b o e => ?_⟩
      · have : ((List.range i).filter p).length ≤ (List.range i).length := List.length_filter_le _ _
        rw [List.length_range] at this
        rw [List.length_map]; omega
      · rw [fil_succ, if_pos c]; exact upd_same
      · rw [upd_ne (ne_of_none e hD)]; exact s3 _ _ (s1 _ _ e)
    · refine ⟨?_, s1.trans s3⟩
      rw [fil_succ, if_neg (by rw [c]; exact fun z => nomatch z), List.append_nil]
      exact s3 _ _ e1
  · rintro H' ⟨e1, s1⟩
    exact fin H' e1 s1
end
section
variable {J : It} {n : Nat} {G : Hp → Prop} {Y : Nat → Hp → V → Hp → Prop} {g : TG} {tt : TT} {R : L2.St → Hp → (Hp → Prop) → Prop} {vs : List Nat} {σ : L2.St} {H1 : Hp} {D : Addr} {Qd : Hp → Prop}
/-- the outer walk of a comprehension with more -/
theorem l3_out (w : Walk J n G Y) (Pv : Nat → Hp → Prop) (h0 : Pv 0 (upd H1 D (.lst []))) (hG : ∀ i H, i ≤ n → Pv i H → G H)
    (hs : ∀ i x H H', i < n → Pv i H → Y i H x H' → g x (wipe σ vs) H' fun σ2 H2 => wipe σ2 vs = wipe σ vs ∧ tt σ2 H2 fun b H3 => if b = true then R σ2 H3 (Pv (i + 1)) else Pv (i + 1) H3) (hd : ∀ H, Pv n H → Qd H) :
    ∃ W : Nat → Nat → Hp → Prop, (∃ m, W 0 m (upd H1 D (.lst []))) ∧ ∀ i m H, W i m H → (J.stop i H ∧ Qd H) ∨ (J.go i H ∧ ∃ N : Hp → Prop, (∀ H', N H' → ∃ m', m' < m ∧ W (i + 1) m' H') ∧
      ∀ x H', J.yld i H x H' → g x (wipe σ vs) H' fun σ2 H2 => wipe σ2 vs = wipe σ vs ∧ tt σ2 H2 fun b H3 => if b = true then R σ2 H3 N else N H3) := by
  refine ⟨fun i m H => m = n - i ∧ i ≤ n ∧ Pv i H, ⟨n, by simp, Nat.zero_le _, h0⟩, fun i m H ⟨em, hi, p⟩ => ?_⟩
  by_cases lt : i < n
  · exact .inr ⟨w.goes i H lt (hG i H hi p), Pv (i + 1), fun H' p' => ⟨n - (i + 1), by omega, rfl, lt, p'⟩, fun x H' y => hs i x H H' lt p (w.yields i H x H' lt (hG i H hi p) y)⟩
  · obtain rfl : i = n := by omega
    exact .inl ⟨w.stops H (hG i H hi p), hd H p⟩
/-- an inner walk -/
theorem l3_in (w : Walk J n G Y) (Pv : Nat → Hp → Prop) (h0 : Pv 0 H1) (hG : ∀ i H, i ≤ n → Pv i H → G H)
    (hs : ∀ i x H H', i < n → Pv i H → Y i H x H' → g x (wipe σ vs) H' fun σ2 H2 => wipe σ2 vs = wipe σ vs ∧ tt σ2 H2 fun b H3 => if b = true then R σ2 H3 (Pv (i + 1)) else Pv (i + 1) H3) (hd : ∀ H, Pv n H → Qd H) :
    ∃ W : Nat → Nat → Hp → Prop, (∃ m, W 0 m H1) ∧ ∀ i m H, W i m H → (J.stop i H ∧ Qd H) ∨ (J.go i H ∧ ∃ N : Hp → Prop, (∀ H', N H' → ∃ m', m' < m ∧ W (i + 1) m' H') ∧
      ∀ x H', J.yld i H x H' → g x (wipe σ vs) H' fun σ2 H2 => wipe σ2 vs = wipe σ vs ∧ tt σ2 H2 fun b H3 => if b = true then R σ2 H3 N else N H3) := by
  refine ⟨fun i m H => m = n - i ∧ i ≤ n ∧ Pv i H, ⟨n, by simp, Nat.zero_le _, h0⟩, fun i m H ⟨em, hi, p⟩ => ?_⟩
  by_cases lt : i < n
  · exact .inr ⟨w.goes i H lt (hG i H hi p), Pv (i + 1), fun H' p' => ⟨n - (i + 1), by omega, rfl, lt, p'⟩, fun x H' y => hs i x H H' lt p (w.yields i H x H' lt (hG i H hi p) y)⟩
  · obtain rfl : i = n := by omega
    exact .inl ⟨w.stops H (hG i H hi p), hd H p⟩
end
theorem map_of_at {α : Type} {L : List α} {f : α → V} {ys : List V} (hl : ys.length = L.length) (h : ∀ (j : Nat) (y : V), ys[j]? = some y → ∃ z, L[j]? = some z ∧ y = f z) : ys = L.map f := by
  refine List.ext_getElem? fun j => ?_
  rw [List.getElem?_map]
  rcases Nat.lt_or_ge j ys.length with c | c
  · obtain ⟨z, hz, e⟩ := h j ys[j] (List.getElem?_eq_getElem c)
    rw [hz, List.getElem?_eq_getElem c, e]; rfl
  · rw [List.getElem?_eq_none c, List.getElem?_eq_none (by omega)]; rfl
theorem gName_mono {i : Nat} : ∀ (x : V) (σ1 : L2.St) (H1 : Hp) (A B : L2.St → Hp → Prop), (∀ σ2 H2, A σ2 H2 → B σ2 H2) → gName i x σ1 H1 A → gName i x σ1 H1 B := fun _ _ _ _ _ h k => h _ _ k
end N3

namespace N3
open PySem PySem.Spec PyProof.Rows L2 N2
/-! ### tables of rows by poles -/
inductive RwT (G : Addr → Prop) (H : Hp) : List (List L2.Key × V) → List Tl → Prop
  | nil : RwT G H [] []
  | cons {p : Pl} {b : Addr} {acc : List V} {r : List Nm} {kvs : List (List L2.Key × V)} {ts : List Tl} : G b → H b = some (.lst acc) → DnAll H acc (r.map encN) → RwT G H kvs ts → RwT G H ((kyP p, .ref b) :: kvs) ((p, r) :: ts)
section
variable {G G' : Addr → Prop} {H H' : Hp}
theorem RwT.length : ∀ {kvs : List (List L2.Key × V)} {ts : List Tl}, RwT G H kvs ts → kvs.length = ts.length
  | _, _, .nil => rfl
  | _, _, .cons _ _ _ r => by rw [List.length_cons, List.length_cons, r.length]
theorem RwT.keys : ∀ {kvs : List (List L2.Key × V)} {ts : List Tl}, RwT G H kvs ts → kvs.map (·.1) = (ts.map (·.1)).map kyP
  | _, _, .nil => rfl
  | _, _, .cons _ _ _ r => by rw [List.map_cons, List.map_cons, List.map_cons, r.keys]
theorem RwT.move (g : ∀ b, G b → G' b) (s : ∀ b xs, G b → H b = some (.lst xs) → H' b = some (.lst xs)) (t : TupS H H') : ∀ {kvs : List (List L2.Key × V)} {ts : List Tl}, RwT G H kvs ts → RwT G' H' kvs ts
  | _, _, .nil => .nil
  | _, _, .cons (r := n) hg h d r => .cons (g _ hg) (s _ _ hg h) (tnA_tups t _ _ (tn_maps encN_tn n) d) (r.move g s t)
theorem RwT.get : ∀ {kvs : List (List L2.Key × V)} {ts : List Tl}, RwT G H kvs ts → ∀ p : Pl, (valV kvs (kyP p) = none ∧ p ∉ ts.map (·.1)) ∨ ∃ (b : Addr) (acc : List V), valV kvs (kyP p) = some (.ref b) ∧ G b ∧ H b = some (.lst acc) ∧ DnAll H acc ((tl ts p).map encN) ∧ (p, tl ts p) ∈ ts
  | _, _, .nil, p => .inl ⟨rfl, by simp⟩
  | _, _, .cons (p := q) (b := b) (acc := acc) (r := n) (ts := ts) hg h d r, p => by
    by_cases c : q = p
    · subst c
      have e : tl ((q, n) :: ts) q = n := if_pos rfl
      exact .inr ⟨b, acc, valV_pos rfl, hg, h, by rw [e]; exact d, by rw [e]; exact List.mem_cons_self⟩
    · have ne : ¬ (kyP q = kyP p) := fun z => c (kyP_inj z)
      have e : tl ((q, n) :: ts) p = tl ts p := if_neg c
      rcases r.get p with ⟨h1, h2⟩ | ⟨b', acc', h1, h2, h3, h4, h5⟩
      · refine .inl ⟨by rw [valV_neg ne]; exact h1, fun m => ?_⟩
        rw [List.map_cons] at m
        rcases List.mem_cons.mp m with z | z
        · exact c z.symm
        · exact h2 z
      · exact .inr ⟨b', acc', by rw [valV_neg ne]; exact h1, h2, h3, by rw [e]; exact h4, by rw [e]; exact List.mem_cons_of_mem _ h5⟩
/-- a row put in -/
def putR (ts : List Tl) (p : Pl) (r : List Nm) : List Tl := if p ∈ ts.map (·.1) then ts.map (fun x => if x.1 = p then (p, r) else x) else ts ++ [(p, r)]
theorem RwT.any {kvs : List (List L2.Key × V)} {ts : List Tl} (r : RwT G H kvs ts) (p : Pl) : (kvs.any fun kv => decide (kv.1 = kyP p)) = true ↔ p ∈ ts.map (·.1) := by
  rw [List.any_eq_true]
  have k := r.keys
  constructor
  · rintro ⟨q, hq, e⟩
    have e := of_decide_eq_true e
    have : kyP p ∈ kvs.map (·.1) := List.mem_map.mpr ⟨q, hq, e⟩
    rw [k] at this
    obtain ⟨x, hx, e'⟩ := List.mem_map.mp this
    rwa [kyP_inj e'] at hx
  · intro h
    have : kyP p ∈ kvs.map (·.1) := by rw [k]; exact List.mem_map.mpr ⟨p, h, rfl⟩
    obtain ⟨q, hq, e⟩ := List.mem_map.mp this
    exact ⟨q, hq, decide_eq_true e⟩
theorem RwT.swap {p : Pl} {b : Addr} {acc : List V} {n : List Nm} (hg : G b) (hb : H b = some (.lst acc)) (hd : DnAll H acc (n.map encN)) : ∀ {kvs : List (List L2.Key × V)} {ts : List Tl}, RwT G H kvs ts → RwT G H (kvs.map fun kv => if kv.1 = kyP p then (kv.1, V.ref b) else kv) (ts.map fun x => if x.1 = p then (p, n) else x)
  | _, _, .nil => .nil
  | _, _, .cons (p := q) (r := m) h1 h2 h3 r => by
    rw [List.map_cons, List.map_cons]
    by_cases c : q = p
    · subst c
      rw [if_pos rfl, if_pos rfl]
      exact .cons hg hb hd (r.swap hg hb hd)
    · have ne : ¬ (kyP q = kyP p) := fun z => c (kyP_inj z)
      rw [if_neg ne, if_neg c]
      exact .cons h1 h2 h3 (r.swap hg hb hd)
theorem RwT.snoc {p : Pl} {b : Addr} {acc : List V} {n : List Nm} (hg : G b) (hb : H b = some (.lst acc)) (hd : DnAll H acc (n.map encN)) : ∀ {kvs : List (List L2.Key × V)} {ts : List Tl}, RwT G H kvs ts → RwT G H (kvs ++ [(kyP p, V.ref b)]) (ts ++ [(p, n)])
  | _, _, .nil => .cons hg hb hd .nil
  | _, _, .cons h1 h2 h3 r => .cons h1 h2 h3 (r.snoc hg hb hd)
theorem RwT.put {kvs : List (List L2.Key × V)} {ts : List Tl} {p : Pl} {b : Addr} {acc : List V} {n : List Nm} (r : RwT G H kvs ts) (hg : G b) (hb : H b = some (.lst acc)) (hd : DnAll H acc (n.map encN)) : RwT G H (putK kvs (kyP p) (.ref b)) (putR ts p n) := by
  unfold putK putR
  by_cases c : p ∈ ts.map (·.1)
  · rw [if_pos c, if_pos ((r.any p).mpr c)]
    exact r.swap hg hb hd
  · rw [if_neg c, if_neg (fun z => c ((r.any p).mp z))]
    exact r.snoc hg hb hd
end
def Kp (ts : List Tl) : Prop := (ts.map (·.1)).Nodup
theorem swapR_keys {p : Pl} {n : List Nm} : ∀ {ts : List Tl}, (ts.map fun x => if x.1 = p then (p, n) else x).map (·.1) = ts.map (·.1)
  | [] => rfl
  | x :: ts => by
    rw [List.map_cons, List.map_cons, List.map_cons, swapR_keys]
    congr 1
    split
    · next c => exact c.symm
    · rfl
theorem putR_keys {ts : List Tl} {p : Pl} {n : List Nm} : (putR ts p n).map (·.1) = if p ∈ ts.map (·.1) then ts.map (·.1) else ts.map (·.1) ++ [p] := by
  unfold putR
  split
  · exact swapR_keys
  · rw [List.map_append]; rfl
theorem putR_kp {ts : List Tl} {p : Pl} {n : List Nm} (h : Kp ts) : Kp (putR ts p n) := by
  unfold Kp
  rw [putR_keys]
  split
  · exact h
  · next c =>
    rw [List.nodup_append]
    exact ⟨h, by simp, fun x hx y hy e => c (by rw [List.mem_singleton] at hy; rw [← hy, ← e]; exact hx)⟩
theorem putR_len {ts : List Tl} {p : Pl} {n : List Nm} : (putR ts p n).length ≤ ts.length + 1 := by
  unfold putR
  split
  · rw [List.length_map]; omega
  · rw [List.length_append]; exact Nat.le_refl _
theorem putR_mem {ts : List Tl} {p : Pl} {n : List Nm} {x : Tl} (h : x ∈ putR ts p n) : x = (p, n) ∨ x ∈ ts := by
  unfold putR at h
  split at h
  · obtain ⟨y, hy, e⟩ := List.mem_map.mp h
    split at e
    · exact .inl e.symm
    · subst e; exact .inr hy
  · rcases List.mem_append.mp h with h | h
    · exact .inr h
    · exact .inl (List.mem_singleton.mp h)
theorem tl_app : ∀ (a b : List Tl) (p : Pl), tl (a ++ b) p = if p ∈ a.map (·.1) then tl a p else tl b p
  | [], b, p => by rw [if_neg (by simp)]; rfl
  | t :: a, b, p => by
    show (if t.1 = p then t.2 else tl (a ++ b) p) = if p ∈ t.1 :: a.map (·.1) then (if t.1 = p then t.2 else tl a p) else tl b p
    by_cases c : t.1 = p
    · rw [if_pos c, if_pos c, if_pos (by rw [c]; exact List.mem_cons_self)]
    · rw [if_neg c, if_neg c, tl_app a b p]
      by_cases d : p ∈ a.map (·.1)
      · rw [if_pos d, if_pos (List.mem_cons_of_mem _ d)]
      · rw [if_neg d, if_neg (fun z => (List.mem_cons.mp z).elim (fun e => c e.symm) d)]
theorem tl_off {ts : List Tl} {p : Pl} (h : p ∉ ts.map (·.1)) : tl ts p = [] := tl_none fun t ht e => h (List.mem_map.mpr ⟨t, ht, e⟩)
theorem tl_mem : ∀ {ts : List Tl} {p : Pl}, p ∈ ts.map (·.1) → (p, tl ts p) ∈ ts
  | t :: ts, p, h => by
    by_cases c : t.1 = p
    · have e : tl (t :: ts) p = t.2 := if_pos c
      rw [e, ← c]
      exact List.mem_cons_self
    · have e : tl (t :: ts) p = tl ts p := if_neg c
      rw [e]
      rw [List.map_cons] at h
      exact List.mem_cons_of_mem _ (tl_mem ((List.mem_cons.mp h).elim (fun z => absurd z.symm c) id))
theorem tl_at : ∀ {ts : List Tl} {t : Tl}, Kp ts → t ∈ ts → tl ts t.1 = t.2
  | s :: ts, t, h, ht => by
    unfold Kp at h
    rw [List.map_cons, List.nodup_cons] at h
    by_cases c : s.1 = t.1
    · have e : tl (s :: ts) t.1 = s.2 := if_pos c
      rcases List.mem_cons.mp ht with rfl | ht
      · exact e
      · exact absurd (List.mem_map.mpr ⟨t, ht, c.symm⟩) h.1
    · have e : tl (s :: ts) t.1 = tl ts t.1 := if_neg c
      rw [e]
      rcases List.mem_cons.mp ht with rfl | ht
      · exact absurd rfl c
      · exact tl_at h.2 ht
theorem tl_swap_ne {p q : Pl} {n : List Nm} (f : p ≠ q) : ∀ ts : List Tl, tl (ts.map fun x => if x.1 = p then (p, n) else x) q = tl ts q
  | [] => rfl
  | t :: ts => by
    rw [List.map_cons]
    by_cases e : t.1 = p
    · rw [if_pos e]
      show (if p = q then n else tl (ts.map fun x => if x.1 = p then (p, n) else x) q) = if t.1 = q then t.2 else tl ts q
      rw [if_neg f, if_neg (by rw [e]; exact f), tl_swap_ne f ts]
    · rw [if_neg e]
      show (if t.1 = q then t.2 else tl (ts.map fun x => if x.1 = p then (p, n) else x) q) = if t.1 = q then t.2 else tl ts q
      rw [tl_swap_ne f ts]
theorem tl_swap_eq {p : Pl} {n : List Nm} : ∀ ts : List Tl, p ∈ ts.map (·.1) → tl (ts.map fun x => if x.1 = p then (p, n) else x) p = n
  | [], c => by simp at c
  | t :: ts, c => by
    rw [List.map_cons]
    by_cases e : t.1 = p
    · rw [if_pos e]
      exact if_pos rfl
    · rw [if_neg e]
      show (if t.1 = p then t.2 else tl (ts.map fun x => if x.1 = p then (p, n) else x) p) = n
      rw [if_neg e]
      rw [List.map_cons] at c
      exact tl_swap_eq ts ((List.mem_cons.mp c).elim (fun z => absurd z.symm e) id)
theorem tl_put {ts : List Tl} {p q : Pl} {n : List Nm} : tl (putR ts p n) q = if p = q then n else tl ts q := by
  unfold putR
  split
  · next c =>
    by_cases f : p = q
    · subst f
      rw [if_pos rfl, tl_swap_eq ts c]
    · rw [if_neg f, tl_swap_ne f ts]
  · next c =>
    rw [tl_app]
    by_cases f : p = q
    · subst f
      rw [if_neg c, if_pos rfl]
      exact if_pos rfl
    · rw [if_neg f]
      have : tl [(p, n)] q = [] := by show (if p = q then n else []) = []; rw [if_neg f]
      rw [this]
      split
      · rfl
      · next d => exact (tl_off d).symm
/-! ### a fold of new keys -/
theorem put_new {κ : Type} [DecidableEq κ] {kvs : List (κ × V)} {k : κ} {v : V} (h : k ∉ kvs.map (·.1)) : putK kvs k v = kvs ++ [(k, v)] := by
  unfold putK
  rw [if_neg]
  intro z
  rw [List.any_eq_true] at z
  obtain ⟨q, hq, e⟩ := z
  exact h (List.mem_map.mpr ⟨q, hq, of_decide_eq_true e⟩)
theorem fold_nd {κ : Type} [DecidableEq κ] : ∀ (more kvs : List (κ × V)), ((kvs ++ more).map (·.1)).Nodup → more.foldl (fun acc kv => putK acc kv.1 kv.2) kvs = kvs ++ more
  | [], kvs, _ => (List.append_nil _).symm
  | p :: more, kvs, h => by
    show more.foldl (fun acc kv => putK acc kv.1 kv.2) (putK kvs p.1 p.2) = _
    have e : putK kvs p.1 p.2 = kvs ++ [p] := put_new fun m => by
      rw [List.map_append, List.nodup_append] at h
      exact h.2.2 _ m p.1 (by simp) rfl
    rw [e, fold_nd more (kvs ++ [p]) (by rw [List.append_assoc]; exact h), List.append_assoc]
    rfl
/-! ### poles in their order -/
theorem div20 {b : Int} (h1 : 1 ≤ b) (h2 : b ≤ 20) : b ∣ 232792560 := by
  have : b = 1 ∨ b = 2 ∨ b = 3 ∨ b = 4 ∨ b = 5 ∨ b = 6 ∨ b = 7 ∨ b = 8 ∨ b = 9 ∨ b = 10 ∨ b = 11 ∨ b = 12 ∨ b = 13 ∨ b = 14 ∨ b = 15 ∨ b = 16 ∨ b = 17 ∨ b = 18 ∨ b = 19 ∨ b = 20 := by omega
  rcases this with h | h | h | h | h | h | h | h | h | h | h | h | h | h | h | h | h | h | h | h <;> subst h <;> decide
theorem key_bf {p q : Pl} (hp : SPl p) (hq : SPl q) (ne : p ≠ q) (le : (p.1 * 232792560).fdiv p.2 ≤ (q.1 * 232792560).fdiv q.2) : before p q := by
  obtain ⟨_, p1, p2, cp⟩ := hp
  obtain ⟨_, q1, q2, cq⟩ := hq
  obtain ⟨m, em⟩ := div20 p1 p2
  obtain ⟨n, en⟩ := div20 q1 q2
  have m0 : 0 < m := Int.pos_of_mul_pos_right (a := p.2) (by omega) (by omega)
  have n0 : 0 < n := Int.pos_of_mul_pos_right (a := q.2) (by omega) (by omega)
  have e1 : (p.1 * 232792560).fdiv p.2 = p.1 * m := by
    rw [Int.fdiv_eq_ediv_of_nonneg _ (by omega), em, show p.1 * (p.2 * m) = p.2 * (p.1 * m) by ac_rfl, Int.mul_ediv_cancel_left _ (by omega)]
  have e2 : (q.1 * 232792560).fdiv q.2 = q.1 * n := by
    rw [Int.fdiv_eq_ediv_of_nonneg _ (by omega), en, show q.1 * (q.2 * n) = q.2 * (q.1 * n) by ac_rfl, Int.mul_ediv_cancel_left _ (by omega)]
  rw [e1, e2] at le
  have le' : p.1 * q.2 ≤ q.1 * p.2 := by
    rcases Int.lt_or_le (q.1 * p.2) (p.1 * q.2) with c | c
    · exfalso
      have h := Int.mul_lt_mul_of_pos_right c (Int.mul_pos m0 n0)
      rw [show q.1 * p.2 * (m * n) = q.1 * n * (p.2 * m) by ac_rfl, show p.1 * q.2 * (m * n) = p.1 * m * (q.2 * n) by ac_rfl, ← em, ← en] at h
      omega
    · exact c
  have ne' : p.1 * q.2 ≠ q.1 * p.2 := fun e => by
    obtain ⟨a, b⟩ := low_cross cp cq e
    exact ne (Prod.ext a b)
  show p.1 * q.2 < q.1 * p.2
  omega
theorem nb_snoc {α : Type} {r : α → α → Prop} {l : List α} {x : α} (h : Nb r l) (k : ∀ y ∈ l, r y x) : Nb r (l ++ [x]) := fun i a b ha hb => by
  rcases Nat.lt_or_ge (i + 1) l.length with c | c
  · rw [List.getElem?_append_left (by omega)] at ha
    rw [List.getElem?_append_left c] at hb
    exact h i a b ha hb
  · have hb' := hb
    rw [List.getElem?_append_right c] at hb
    have e : i + 1 - l.length = 0 := by
      rcases Nat.eq_zero_or_pos (i + 1 - l.length) with z | z
      · exact z
      · rw [List.getElem?_eq_none (show [x].length ≤ _ from z)] at hb; cases hb
    rw [e] at hb
    cases hb
    rw [List.getElem?_append_left (by omega)] at ha
    exact k a (List.mem_of_getElem? ha)
theorem CTs.nil {ok : Int → Prop} : CTs ok [] := ⟨fun t h => by simp at h, fun i a b ha => by simp at ha⟩
theorem CTs.snoc {ok : Int → Prop} {ts : List Tl} {t : Tl} (h : CTs ok ts) (ht : CTl ok t) (up : ∀ s ∈ ts, before s.1 t.1) : CTs ok (ts ++ [t]) :=
  ⟨fun s hs => (List.mem_append.mp hs).elim (h.1 s) fun z => by rw [List.mem_singleton.mp z]; exact ht, nb_snoc h.2 up⟩
theorem CTs.kp {ok : Int → Prop} : ∀ {ts : List Tl}, CTs ok ts → Kp ts
  | [], _ => List.nodup_nil
  | t :: ts, h => by
    unfold Kp
    rw [List.map_cons, List.nodup_cons]
    refine ⟨fun m => ?_, h.tail.kp⟩
    obtain ⟨s, hs, e⟩ := List.mem_map.mp m
    exact bf_irr (h.up s hs) e.symm
theorem CR.nil {ok : Int → Prop} : CR ok [] := ⟨fun n hn => by simp at hn, by simp⟩
theorem CTs.row {ok : Int → Prop} {ts : List Tl} (h : CTs ok ts) (p : Pl) : CR ok (tl ts p) := by
  by_cases c : p ∈ ts.map (·.1)
  · exact (h.1 _ (tl_mem c)).2.1
  · rw [tl_off c]; exact CR.nil
/-! ### what a quotient's coefficients bound -/
structure QZ (ok : Int → Prop) (C W M T : Nat) (q : Qt) : Prop where
  cq : CQ ok q
  lw : q.1.length ≤ W
  lt : q.2.length ≤ T
  lm : ∀ t ∈ q.2, t.2.length ≤ M
  zw : ∀ n ∈ q.1, Sz C n
  zt : ∀ t ∈ q.2, ∀ n ∈ t.2, Sz C n
  pl : ∀ t ∈ q.2, SPl t.1
def QSum (q r s : Qt) : Prop := (∀ k d, cr s.1 k d = cr q.1 k d + cr r.1 k d) ∧ ∀ p k d, cr (tl s.2 p) k d = cr (tl q.2 p) k d + cr (tl r.2 p) k d
def QSlo (q s : Qt) : Prop := (∀ (k : Nat) d, cr s.1 k d = Rat.divInt ((k : Int) + 1) 1 * cr q.1 (k + 1) d) ∧ ∀ p d, cr (tl s.2 p) 0 d = 0 ∧ ∀ k : Nat, cr (tl s.2 p) (k + 1) d = Rat.divInt (-(k : Int) - 1) 1 * cr (tl q.2 p) k d
theorem co_some {ok : Int → Prop} {n : Nm} (h : CN ok n) (hn : n ≠ []) : ∃ d, co n d ≠ 0 := by
  cases n with
  | nil => exact absurd rfl hn
  | cons x n => exact ⟨x.1, h.ne⟩
theorem cr_last {ok : Int → Prop} {r : List Nm} (h : CR ok r) (hr : r ≠ []) : ∃ d, cr r (r.length - 1) d ≠ 0 := by
  have l := List.length_pos_iff.mpr hr
  have e : r.getLast? = some (r.getD (r.length - 1) []) := by
    rw [List.getLast?_eq_getElem?, List.getD_eq_getElem?_getD, List.getElem?_eq_getElem (by omega)]
    rfl
  have ne : r.getD (r.length - 1) [] ≠ [] := fun z => h.2 (by rw [e, z])
  exact co_some (h.at_ _) ne
theorem cr_short {ok : Int → Prop} {r : List Nm} {W : Nat} (h : CR ok r) (z : ∀ k, W ≤ k → ∀ d, cr r k d = 0) : r.length ≤ W := by
  rcases Nat.lt_or_ge W r.length with c | c
  · obtain ⟨d, hd⟩ := cr_last h (fun e => by rw [e] at c; exact Nat.not_lt_zero _ c)
    exact absurd (z _ (by omega) d) hd
  · exact c
theorem cr_off {r : List Nm} {k : Nat} (h : r.length ≤ k) (d : Int) : cr r k d = 0 := by
  unfold cr
  rw [List.getD_eq_getElem?_getD, List.getElem?_eq_none h]
  rfl
theorem row_co {ok : Int → Prop} {r : List Nm} {C : Nat} (h : CR ok r) (s : ∀ n ∈ r, Sz C n) (hC : 1 ≤ C) (k : Nat) (d : Int) : ∃ t b : Int, b ≠ 0 ∧ cr r k d = Rat.divInt t b ∧ t.natAbs < 2 ^ C ∧ b.natAbs < 2 ^ C := by
  refine Sz.co (h.at_ k) ?_ hC d
  rw [List.getD_eq_getElem?_getD]
  cases e : r[k]? with
  | none => exact fun x hx => by simp at hx
  | some n => exact s n (List.mem_of_getElem? e)
theorem row_sz {ok : Int → Prop} {r : List Nm} {D : Nat} (h : CR ok r) (z : ∀ k d, ∃ t b : Int, b ≠ 0 ∧ cr r k d = Rat.divInt t b ∧ t.natAbs < 2 ^ D ∧ b.natAbs < 2 ^ D) : ∀ n ∈ r, Sz D n := fun n hn => by
  obtain ⟨k, hk, e⟩ := List.mem_iff_getElem.mp hn
  have e' : r.getD k [] = n := by rw [List.getD_eq_getElem?_getD, List.getElem?_eq_getElem hk]; exact e
  refine (h.1 n hn).sz fun x _ => ?_
  obtain ⟨t, b, b0, ec, bt, bb⟩ := z k x.1
  unfold cr at ec
  rw [e'] at ec
  exact ⟨t, b, b0, ec, bt, bb⟩
theorem sub_lenP {α : Type} [DecidableEq α] : ∀ {l m : List α}, l.Nodup → (∀ x ∈ l, x ∈ m) → l.length ≤ m.length
  | [], _, _, _ => Nat.zero_le _
  | x :: l, m, nd, sub => by
    rw [List.nodup_cons] at nd
    have h := sub_lenP (m := m.erase x) nd.2 fun y hy => (List.mem_erase_of_ne (fun e : y = x => nd.1 (by rw [← e]; exact hy))).mpr (sub y (List.mem_cons_of_mem _ hy))
    have mx := sub x List.mem_cons_self
    have p := List.length_pos_of_mem mx
    rw [List.length_erase_of_mem mx] at h
    rw [List.length_cons]
    omega
theorem QZ.row {ok : Int → Prop} {C W M T : Nat} {q : Qt} (h : QZ ok C W M T q) (p : Pl) : CR ok (tl q.2 p) ∧ (tl q.2 p).length ≤ M ∧ ∀ n ∈ tl q.2 p, Sz C n := by
  by_cases c : p ∈ q.2.map (·.1)
  · exact ⟨h.cq.2.row p, h.lm _ (tl_mem c), h.zt _ (tl_mem c)⟩
  · rw [tl_off c]; exact ⟨CR.nil, Nat.zero_le _, fun n hn => by simp at hn⟩
/-- a quotient's bounds by its coefficients -/
theorem qz_of {ok : Int → Prop} {C W M : Nat} {q : Qt} (ps : List Pl) (hq : CQ ok q) (hp : ∀ p ∈ ps, SPl p) (z1 : ∀ k, W ≤ k → ∀ d, cr q.1 k d = 0) (z2 : ∀ p k, M ≤ k → ∀ d, cr (tl q.2 p) k d = 0)
    (s1 : ∀ k d, ∃ t b : Int, b ≠ 0 ∧ cr q.1 k d = Rat.divInt t b ∧ t.natAbs < 2 ^ C ∧ b.natAbs < 2 ^ C) (s2 : ∀ p k d, ∃ t b : Int, b ≠ 0 ∧ cr (tl q.2 p) k d = Rat.divInt t b ∧ t.natAbs < 2 ^ C ∧ b.natAbs < 2 ^ C)
    (s3 : ∀ p, p ∉ ps → ∀ k d, cr (tl q.2 p) k d = 0) : QZ ok C W M ps.length q := by
  have at_ : ∀ t ∈ q.2, tl q.2 t.1 = t.2 := fun t ht => tl_at hq.2.kp ht
  have mem : ∀ t ∈ q.2, t.1 ∈ ps := fun t ht => by
    by_cases c : t.1 ∈ ps
    · exact c
    · obtain ⟨_, cr_, ne⟩ := hq.2.1 t ht
      obtain ⟨d, hd⟩ := cr_last cr_ ne
      have := s3 _ c (t.2.length - 1) d
      rw [at_ t ht] at this
      exact absurd this hd
  refine ⟨hq, cr_short hq.1 z1, ?_, fun t ht => ?_, row_sz hq.1 s1, fun t ht => ?_, fun t ht => hp _ (mem t ht)⟩
  · have := sub_lenP (m := ps) hq.2.kp fun p h => by
      obtain ⟨t, ht, rfl⟩ := List.mem_map.mp h
      exact mem t ht
    rwa [List.length_map] at this
  · refine cr_short (hq.2.1 t ht).2.1 fun k hk d => ?_
    rw [← at_ t ht]
    exact z2 _ k hk d
  · refine row_sz (hq.2.1 t ht).2.1 fun k d => ?_
    rw [← at_ t ht]
    exact s2 _ k d
theorem bits_add {C : Nat} {t b t' b' : Int} (b0 : b ≠ 0) (b0' : b' ≠ 0) (bt : t.natAbs < 2 ^ C) (bb : b.natAbs < 2 ^ C) (bt' : t'.natAbs < 2 ^ C) (bb' : b'.natAbs < 2 ^ C) : ∃ u v : Int, v ≠ 0 ∧ Rat.divInt t b + Rat.divInt t' b' = Rat.divInt u v ∧ u.natAbs < 2 ^ (2 * C + 1) ∧ v.natAbs < 2 ^ (2 * C + 1) := by
  have two : 2 * C = C + C := by omega
  refine ⟨t * b' + t' * b, b * b', Int.mul_ne_zero b0 b0', Rat.divInt_add_divInt _ _ b0 b0', ?_, ?_⟩
  · rw [two]; exact add_bit (mul_bit bt bb') (mul_bit bt' bb)
  · rw [two]; exact bit_up (mul_bit bb bb') (by omega)
theorem qz_sum {ok : Int → Prop} {C W M T T' : Nat} {q r s : Qt} (hq : QZ ok C W M T q) (hr : QZ ok C W M T' r) (hC : 1 ≤ C) (hs : CQ ok s) (e : QSum q r s) : QZ ok (2 * C + 1) W M (T + T') s := by
  have z := qz_of (C := 2 * C + 1) (W := W) (M := M) (q.2.map (·.1) ++ r.2.map (·.1)) hs (fun p hp => ?_) (fun k hk d => ?_) (fun p k hk d => ?_) (fun k d => ?_) (fun p k d => ?_) (fun p hp k d => ?_)
  · refine ⟨z.cq, z.lw, Nat.le_trans z.lt ?_, z.lm, z.zw, z.zt, z.pl⟩
    rw [List.length_append, List.length_map, List.length_map]
    exact Nat.add_le_add hq.lt hr.lt
  · rcases List.mem_append.mp hp with h | h <;> obtain ⟨t, ht, rfl⟩ := List.mem_map.mp h
    · exact hq.pl t ht
    · exact hr.pl t ht
  · rw [e.1, cr_off (Nat.le_trans hq.lw hk), cr_off (Nat.le_trans hr.lw hk), Rat.add_zero]
  · rw [e.2, cr_off (Nat.le_trans (hq.row p).2.1 hk), cr_off (Nat.le_trans (hr.row p).2.1 hk), Rat.add_zero]
  · obtain ⟨t, b, b0, e1, bt, bb⟩ := row_co hq.cq.1 hq.zw hC k d
    obtain ⟨t', b', b0', e2, bt', bb'⟩ := row_co hr.cq.1 hr.zw hC k d
    rw [e.1, e1, e2]
    exact bits_add b0 b0' bt bb bt' bb'
  · obtain ⟨t, b, b0, e1, bt, bb⟩ := row_co (hq.row p).1 (hq.row p).2.2 hC k d
    obtain ⟨t', b', b0', e2, bt', bb'⟩ := row_co (hr.row p).1 (hr.row p).2.2 hC k d
    rw [e.2, e1, e2]
    exact bits_add b0 b0' bt bb bt' bb'
  · rw [List.mem_append, not_or] at hp
    rw [e.2, tl_off hp.1, tl_off hp.2, cr_nil, Rat.add_zero]
theorem bits_mul {C D : Nat} {x t b : Int} (b0 : b ≠ 0) (hx : x.natAbs < 2 ^ D) (bt : t.natAbs < 2 ^ C) (bb : b.natAbs < 2 ^ C) : ∃ u v : Int, v ≠ 0 ∧ Rat.divInt x 1 * Rat.divInt t b = Rat.divInt u v ∧ u.natAbs < 2 ^ (C + D) ∧ v.natAbs < 2 ^ (C + D) := by
  refine ⟨x * t, 1 * b, by rw [Int.one_mul]; exact b0, Rat.divInt_mul_divInt _ _, ?_, ?_⟩
  · rw [Nat.add_comm]; exact mul_bit hx bt
  · rw [Int.one_mul]; exact bit_up bb (by omega)
theorem qz_slope {ok : Int → Prop} {C W M T : Nat} {q s : Qt} (hq : QZ ok C W M T q) (hC : 1 ≤ C) (hW : W ≤ 60) (hM : M ≤ 60) (hs : CQ ok s) (e : QSlo q s) : QZ ok (C + 6) W (M + 1) T s := by
  have zero : ∃ t b : Int, b ≠ 0 ∧ (0 : Rat) = Rat.divInt t b ∧ t.natAbs < 2 ^ (C + 6) ∧ b.natAbs < 2 ^ (C + 6) := by
    have : 2 ^ 1 ≤ 2 ^ (C + 6) := Nat.pow_le_pow_right (by decide) (by omega)
    exact ⟨0, 1, by decide, (Rat.zero_divInt _).symm, by show 0 < _; omega, by show 1 < _; omega⟩
  have z := qz_of (C := C + 6) (W := W) (M := M + 1) (q.2.map (·.1)) hs (fun p hp => ?_) (fun k hk d => ?_) (fun p k hk d => ?_) (fun k d => ?_) (fun p k d => ?_) (fun p hp k d => ?_)
  · refine ⟨z.cq, z.lw, Nat.le_trans z.lt ?_, z.lm, z.zw, z.zt, z.pl⟩
    rw [List.length_map]
    exact hq.lt
  · obtain ⟨t, ht, rfl⟩ := List.mem_map.mp hp
    exact hq.pl t ht
  · rw [e.1, cr_off (by have := hq.lw; omega), Rat.mul_zero]
  · obtain ⟨k, rfl⟩ : ∃ j, k = j + 1 := ⟨k - 1, by omega⟩
    rw [(e.2 p d).2, cr_off (by have := (hq.row p).2.1; omega), Rat.mul_zero]
  · rcases Nat.lt_or_ge (k + 1) q.1.length with c | c
    · obtain ⟨t, b, b0, e1, bt, bb⟩ := row_co hq.cq.1 hq.zw hC (k + 1) d
      rw [e.1, e1]
      exact bits_mul b0 (by have := hq.lw; show _ < 64; omega) bt bb
    · rw [e.1, cr_off c, Rat.mul_zero]
      exact zero
  · cases k with
    | zero => rw [(e.2 p d).1]; exact zero
    | succ k =>
      rcases Nat.lt_or_ge k (tl q.2 p).length with c | c
      · obtain ⟨t, b, b0, e1, bt, bb⟩ := row_co (hq.row p).1 (hq.row p).2.2 hC k d
        rw [(e.2 p d).2, e1]
        exact bits_mul b0 (by have := (hq.row p).2.1; show _ < 64; omega) bt bb
      · rw [(e.2 p d).2, cr_off c, Rat.mul_zero]
        exact zero
  · cases k with
    | zero => exact (e.2 p d).1
    | succ k => rw [(e.2 p d).2, tl_off hp, cr_nil, Rat.mul_zero]
/-- the slope of a sum -/
theorem slo_sum {q r s q' r' s' u : Qt} (h : QSum q r s) (hq : QSlo q q') (hr : QSlo r r') (hs : QSlo s s') (hu : QSum q' r' u) : (∀ k d, cr u.1 k d = cr s'.1 k d) ∧ ∀ p k d, cr (tl u.2 p) k d = cr (tl s'.2 p) k d := by
  refine ⟨fun k d => ?_, fun p k d => ?_⟩
  · rw [hu.1, hq.1, hr.1, hs.1, h.1, Rat.mul_add]
  · rw [hu.2]
    cases k with
    | zero => rw [(hq.2 p d).1, (hr.2 p d).1, (hs.2 p d).1, Rat.add_zero]
    | succ k => rw [(hq.2 p d).2, (hr.2 p d).2, (hs.2 p d).2, h.2, Rat.mul_add]
theorem sum_same {q r s t : Qt} {ok : Int → Prop} (hs : CQ ok s) (ht : CQ ok t) (h : QSum q r s) (k : QSum q r t) : s = t := q_inj hs ht (fun j d => (h.1 j d).trans (k.1 j d).symm) fun p j d => (h.2 p j d).trans (k.2 p j d).symm
theorem slo_same {q s t : Qt} {ok : Int → Prop} (hs : CQ ok s) (ht : CQ ok t) (h : QSlo q s) (k : QSlo q t) : s = t := by
  refine q_inj hs ht (fun j d => (h.1 j d).trans (k.1 j d).symm) fun p j d => ?_
  cases j with
  | zero => exact ((h.2 p d).1).trans ((k.2 p d).1).symm
  | succ j => exact ((h.2 p d).2 j).trans ((k.2 p d).2 j).symm
end N3

namespace N3
open PySem PySem.Spec PyProof.Rows L2 N2
/-! ### the law's scaled numbers, and its drawn ones -/
def scN (n : Nm) (x y : Int) : Nm := n.map fun t => (t.1, t.2.1 * x, t.2.2 * y)
theorem scN_keys (n : Nm) (x y : Int) : (scN n x y).map (·.1) = n.map (·.1) := by
  unfold scN
  rw [List.map_map]
  rfl
theorem scN_co (x y : Int) : ∀ (n : Nm) (d : Int), co (scN n x y) d = Rat.divInt x y * co n d
  | [], d => by show (0 : Rat) = _ * 0; rw [Rat.mul_zero]
  | t :: n, d => by
    show co ((t.1, t.2.1 * x, t.2.2 * y) :: scN n x y) d = _
    rw [co_cons, co_cons, Rat.mul_add, scN_co x y n d]
    congr 1
    show (if t.1 = d then Rat.divInt (t.2.1 * x) (t.2.2 * y) else 0) = _
    split
    · rw [Rat.divInt_mul_divInt, Int.mul_comm t.2.1, Int.mul_comm t.2.2]
    · rw [Rat.mul_zero]
theorem scN_sz {n : Nm} {x y : Int} {C W : Nat} (h : Sz C n) (hx : x.natAbs < 2 ^ W) (y0 : y ≠ 0) (hy : y.natAbs < 2 ^ W) : Sz (C + W) (scN n x y) := fun t ht => by
  obtain ⟨u, hu, rfl⟩ := List.mem_map.mp ht
  obtain ⟨a, b, c⟩ := h u hu
  exact ⟨mul_bit a hx, Int.mul_ne_zero b y0, mul_bit c hy⟩
/-- the table of a list of pairs, each a d and a pair of a top and a bottom -/
inductive PrT (H : Hp) : List Addr → Nm → Prop
  | nil : PrT H [] []
  | cons {q p : Addr} {d t b : Int} {qs : List Addr} {ts : Nm} : H q = some (.tup [.int d, .ref p]) → H p = some (.tup [.int t, .int b]) → PrT H qs ts → PrT H (q :: qs) ((d, t, b) :: ts)
theorem PrT.tst {H H' : Hp} (s : ∀ b xs, H b = some (.tup xs) → H' b = some (.tup xs)) : ∀ {qs : List Addr} {ts : Nm}, PrT H qs ts → PrT H' qs ts
  | _, _, .nil => .nil
  | _, _, .cons h k r => .cons (s _ _ h) (s _ _ k) (r.tst s)
theorem PrT.snoc {H : Hp} {q p : Addr} {d t b : Int} (h : H q = some (.tup [.int d, .ref p])) (k : H p = some (.tup [.int t, .int b])) : ∀ {qs : List Addr} {ts : Nm}, PrT H qs ts → PrT H (qs ++ [q]) (ts ++ [(d, t, b)])
  | _, _, .nil => .cons h k .nil
  | _, _, .cons a c r => .cons a c (r.snoc h k)
theorem PrT.length {H : Hp} : ∀ {qs : List Addr} {ts : Nm}, PrT H qs ts → qs.length = ts.length
  | _, _, .nil => rfl
  | _, _, .cons _ _ r => by rw [List.length_cons, List.length_cons, r.length]
theorem PrT.paired {K : PySem.W.Frag} {H : Hp} : ∀ {qs : List Addr} {ts : Nm}, PrT H qs ts → ∃ kvs, Paired (fun p kv => SqT K H p [kV kv.1, kv.2]) qs kvs ∧ TotR H kvs ts
  | _, _, .nil => ⟨[], .nil, .nil⟩
  | _, _, .cons (d := d) (p := p) h k r => by
    obtain ⟨kvs, h1, h2⟩ := r.paired (K := K)
    exact ⟨(Sum.inl d, .ref p) :: kvs, .cons (SqT.of h) h1, .cons k h2⟩
theorem tot_merge {H : Hp} {kvs : List (Key × V)} {ts : Nm} (r : TotR H kvs ts) (nd : Ks ts) : mergeK [] kvs = kvs := by
  refine fold_nd kvs [] ?_
  rw [List.nil_append, r.keys]
  exact List.Pairwise.map _ (fun _ _ h z => h (Sum.inl.inj z)) nd
section
variable {P : Program} {w : World} {K : PySem.W.Frag} {mg : Str → Option Value} {base : Heap}
abbrev s__law_scaled : Stmt := top 56
abbrev nsScl : List Str := ["number", "top", "bottom", "d", "a", "b"]
theorem sc__law_scaled : FnScope nsScl ["number", "top", "bottom"] (defScope s__law_scaled) := ⟨rfl, rfl, rfl, by decide +kernel, rfl, by decide +kernel, by decide +kernel⟩
theorem ok__law_scaled {f f__law_number : Addr} {fd d__law_number : FuncData}  (F : Fun K "_law_scaled" "_law_scaled" s__law_scaled f fd) (T : Bt mg) (l_number : Kn P w K mg base 2 "_law_number" ["sums"] spFromT f__law_number d__law_number) : FnOk P w K mg base CX0 3 f fd ["number", "top", "bottom"] spScaled := by
  refine F.ok sc__law_scaled (fun vs H Q E h => ?_) (fun cdv A outer s H vs Q E hr h => ?_)
  · obtain ⟨v, n, x, y, C, W, L, ok, rfl, _⟩ := h
    rfl
  · obtain ⟨v, n, x, y, C, W, L, ok, rfl, hv, hn, few, c1, hx, y0, hy, l64, lt, cw, k⟩ := h
    refine ⟨_, pss_one (ps_ret (pe_call l_number.ok (hr.mono (by decide)) rfl l_number.mg l_number.kp l_number.bd .nil pass0 (pa_cons (pe_callTy (call_dictP rfl) (by rfl) T.dict (by decide +kernel) (pa_cons (pe_lc (own := [("d", 3), ("a", 4), ("b", 5)]) (g := (gTup K 3 (gCons (gName 3) (gCons (gName 4) (gCons (gName 5) gNil))))) (tt := tYes) rfl sc__law_scaled.nd (pi_tup (pv 0)) (blkOk_by (own := [("d", 3), ("a", 4), ("b", 5)]) (N := nsScl) (sc := defScope s__law_scaled) (by decide +kernel)) (fun _ _ _ _ _ => pg_tup rfl (pgs_cons (pg_name (i := 3) sc__law_scaled.nd rfl (Or.inl rfl)) (pgs_cons (pg_name (i := 4) sc__law_scaled.nd rfl (Or.inl rfl)) (pgs_cons (pg_name (i := 5) sc__law_scaled.nd rfl (Or.inl rfl)) pgs_nil)))) (fun _ _ _ _ _ => pts_nil) (fun _ _ _ _ _ => (pe_tup (pa_cons (pv 3) (pa_cons (pe_tup (pa_cons (pe_op op_mulW (pv 4) (pv 1)) (pa_cons (pe_op op_mulW (pv 5) (pv 2)) pa_nil))) pa_nil))))) pa_nil)) pa_nil))), ?_⟩
    obtain ⟨c, ys, rfl, hc, hys⟩ := dn_encN hv
    have ln := few n hn.1
    have ly : ys.length = n.length := by rw [hys.length, List.length_map]
    have s2 : 2 ≤ sizeLine := by rw [sizeLine_eq]; decide
    have W8 : ∀ {i j : Int}, i.natAbs < 2 ^ C → j.natAbs < 2 ^ W → CMulW i j := fun {i j} h k => by
      have := log_lt h
      have := log_lt k
      show i.natAbs.log2 + j.natAbs.log2 < 1000000
      omega
    refine ⟨_, rfl, c, rfl, ⟨_, SqT.of hc⟩, fun D hD => lc_tup (K := K) (a := c) (xs := ys) (fun i H' => ∃ qs : List Addr, H' D = some (.lst (qs.map V.ref)) ∧ PrT H' qs (scN (n.take i) x y) ∧ qs.length = i ∧ Same H H')
      ⟨[], upd_same, .nil, rfl, snew hD⟩ (fun i H' _ ⟨_, _, _, _, s'⟩ => SqT.of (s' _ _ hc)) ?_ ?_⟩
    · rintro i v H1 hv ⟨qs, e1, pr, lq, s1⟩
      have hi : i < ys.length := (List.getElem?_eq_some_iff.mp hv).1
      obtain ⟨dd, edd, dn⟩ := hys.at_ hv
      rw [List.getElem?_map] at edd
      obtain ⟨t, ht, rfl⟩ := Option.map_eq_some_iff.mp edd
      obtain ⟨d, a, b⟩ := t
      obtain ⟨q, rfl, hq⟩ := dn_encT dn
      obtain ⟨za, zb0, zb⟩ := hn.2 _ (List.mem_of_getElem? ht)
      refine ⟨q, _, rfl, SqT.of (s1 _ _ hq), rfl, _, _, rfl, _, _, rfl, _, _, rfl, rfl, ?_⟩
      refine ⟨rfl, _, rfl, _, rfl, _, rfl, _, _, rfl, rfl, W8 za hx, _, rfl, _, rfl, _, _, rfl, rfl, W8 zb hy, s2, fun p hp => ⟨s2, fun q2 hq2 => ?_⟩⟩
      have sp := snew (o := .tup [.int (a * x), .int (b * y)]) hp
      have sq := snew (o := .tup [.int d, .ref p]) hq2
      have e1' := (sp.trans sq) _ _ e1
      have tst : ∀ z xs, H1 z = some (.tup xs) → upd (upd (upd H1 p (.tup [.int (a * x), .int (b * y)])) q2 (.tup [.int d, .ref p])) D (.lst (qs.map V.ref ++ [.ref q2])) z = some (.tup xs) := fun z xs h => by
        rw [upd_ne (ne_of h e1 (by intro z; cases z))]
        exact (sp.trans sq) _ _ h
      have pD : p ≠ D := (ne_of_none e1 hp).symm
      have qD : q2 ≠ D := (ne_of_none (sp _ _ e1) hq2).symm
      refine ⟨_, e1', by rw [List.length_map]; exact small1000 (by omega), qs ++ [q2], by rw [List.map_append, upd_same]; rfl, ?_, by rw [List.length_append, lq]; rfl, fun z o eo => ?_⟩
      · have : scN (n.take (i + 1)) x y = scN (n.take i) x y ++ [(d, a * x, b * y)] := by
          unfold scN
          rw [List.take_add_one, ht, List.map_append]
          rfl
        rw [this]
        exact (pr.tst tst).snoc (by rw [upd_ne qD]; exact upd_same) (by rw [upd_ne pD]; exact sq _ _ upd_same)
      · rw [upd_ne (ne_of_none eo hD)]
        exact (sp.trans sq) _ _ (s1 _ _ eo)
    · rintro H1 ⟨qs, e1, pr, lq, s1⟩
      rw [ly, List.take_length] at pr
      obtain ⟨kvs, pk, tr⟩ := pr.paired (K := K)
      have nd : Ks (scN n x y) := by
        unfold Ks
        rw [scN_keys]
        exact hn.1.nodup
      refine ⟨D, qs, kvs, rfl, SqL.of e1, pk, fun td htd => ?_⟩
      have sd := snew (o := .dK (mergeK [] kvs)) htd
      have ls : (scN n x y).length = n.length := List.length_map ..
      refine ⟨td, kvs, scN n x y, C + W, ok, rfl, by rw [tot_merge tr nd]; exact upd_same, tr.tst fun b xs h => sd _ _ h, nd, scN_sz hn.2 hx y0 hy, by omega, by omega, fun z hz => ?_, fun m r H' dm cm com sm => ?_⟩
      · obtain ⟨u, hu, rfl⟩ := List.mem_map.mp hz
        exact (hn.1.1 u hu).1
      · have e : ∀ d, co m d = Rat.divInt x y * co n d := fun d => by rw [com d, scN_co]
        refine k m r H' dm ⟨cm, cm.sz fun z hz => ?_⟩ e ((s1.trans sd).trans sm)
        obtain ⟨t, b, b0, ec, bt, bb⟩ := Sz.co hn.1 hn.2 c1 z.1
        refine ⟨x * t, y * b, Int.mul_ne_zero y0 b0, by rw [e, ec, Rat.divInt_mul_divInt], ?_, ?_⟩
        · rw [Nat.add_comm]; exact mul_bit hx bt
        · rw [Nat.add_comm]; exact mul_bit hy bb
def spDrawnU (K : PySem.W.Frag) : Sp := fun vs H Q _ => ∃ (dk l p : Addr) (ms : List Int) (many size : Int) (C : Nat) (ok : Int → Prop), vs = [.ref dk, .ref p, .int many, .int size] ∧ Deck H dk l ∧ SqL K H p (ms.map V.int) ∧ p ≠ dk ∧ p ≠ l ∧ ms ≠ [] ∧ ms.length ≤ 8 ∧ (∀ m ∈ ms, ok m) ∧ 0 ≤ many ∧ many ≤ 30 ∧ 0 < size ∧ size < 2 ^ C ∧ 3 ≤ C ∧ C ≤ 60 ∧
  ∀ (r : Addr) (n : Nm) (H' : Hp), Dn H' (.ref r) (encN n) → Nu ok C n → Deck H' dk l → Keep dk l H H' → Q (.ref r) H'
theorem sqL_keep' {K : PySem.W.Frag} {H H' : Hp} {dk l a : Addr} {xs : List V} (s : Keep dk l H H') (h1 : a ≠ dk) (h2 : a ≠ l) (h : SqL K H a xs) : SqL K H' a xs := by
  rcases h with (h | ⟨o, h⟩) | h
  · exact .inl (.inl (s _ _ h h1 h2))
  · exact .inl (.inr ⟨o, s _ _ h h1 h2⟩)
  · exact .inr h
abbrev s__law_drawn : Stmt := top 58
abbrev nsDrn : List Str := ["deck", "menu", "many", "size", "sums", "turn", "top", "bottom"]
theorem sc__law_drawn : FnScope nsDrn ["deck", "menu", "many", "size"] (defScope s__law_drawn) := ⟨rfl, rfl, rfl, by decide +kernel, rfl, by decide +kernel, by decide +kernel⟩
theorem ok__law_drawn {f f__law_draw f__law_great f__law_pick f__law_number : Addr} {fd d__law_draw d__law_great d__law_pick d__law_number : FuncData}  (F : Fun K "_law_drawn" "_law_drawn" s__law_drawn f fd) (T : Bt mg) (l_draw : Kn P w K mg base 1 "_law_draw" ["deck", "many"] spDraw f__law_draw d__law_draw) (l_great : Kn P w K mg base 2 "_law_great" ["deck", "many"] spGreat f__law_great d__law_great) (l_pick : Kn P w K mg base 2 "_law_pick" ["deck", "some"] (spPick K) f__law_pick d__law_pick) (l_number : Kn P w K mg base 2 "_law_number" ["sums"] spFromT f__law_number d__law_number) : FnOk P w K mg base CX0 3 f fd ["deck", "menu", "many", "size"] (spDrawnU K) := by
  refine F.ok sc__law_drawn (fun vs H Q E h => ?_) (fun cdv A outer s H vs Q E hr h => ?_)
  · obtain ⟨dk, l, p, ms, many, size, C, ok, rfl, _⟩ := h
    rfl
  · obtain ⟨dk, l, p, ms, many, size, C, ok, rfl, De, hp, np1, np2, mne, mlen, mok, m0, m3, z0, z1, c3, c60, k⟩ := h
    have hu := hu_of hr
    refine ⟨_, pss_cons (ps_set (i := 4) sc__law_drawn.nd rfl (Or.inl rfl) pe_dnewK)
      (pss_cons (ps_for PassesOwn.never rfl (pi_range1 rfl T.range (pa_cons (pe_call l_draw.ok (hr.mono (by decide)) rfl l_draw.mg l_draw.kp l_draw.bd .nil pass0 (pa_cons (pv 0) (pa_cons (pe_op op_add (pv 2) pe_int) pa_nil))) pa_nil)) (pg_name (i := 5) sc__law_drawn.nd rfl (Or.inl rfl))
        (pss_cons (ps_par (i := 6) (j := 7) rfl sc__law_drawn.nd rfl rfl (by decide) rfl rfl (pa_cons (pe_op op_add pe_int (pe_call l_great.ok (hr.mono (by decide)) rfl l_great.mg l_great.kp l_great.bd .nil pass0 (pa_cons (pv 0) (pa_cons (pv 3) pa_nil)))) (pa_cons (pe_op op_add pe_int (pe_call l_great.ok (hr.mono (by decide)) rfl l_great.mg l_great.kp l_great.bd .nil pass0 (pa_cons (pv 0) (pa_cons (pe_call l_pick.ok (hr.mono (by decide)) rfl l_pick.mg l_pick.kp l_pick.bd .nil pass0 (pa_cons (pv 0) (pa_cons (pe_lst (pa_cons pe_int (pa_cons pe_int (pa_cons pe_int (pa_cons pe_int (pa_cons (pv 3) pa_nil)))))) pa_nil))) pa_nil)))) pa_nil)) (by rfl))
        (pss_one (ps_dput hu (pv 4) (pe_call l_pick.ok (hr.mono (by decide)) rfl l_pick.mg l_pick.kp l_pick.bd .nil pass0 (pa_cons (pv 0) (pa_cons (pv 1) pa_nil))) (pe_tup (pa_cons (pe_op op_mul (pv 6) (pe_call l_pick.ok (hr.mono (by decide)) rfl l_pick.mg l_pick.kp l_pick.bd .nil pass0 (pa_cons (pv 0) (pa_cons (pe_lst (pa_cons pe_int (pa_cons (pe_un un_neg pe_int) pa_nil))) pa_nil)))) (pa_cons (pv 7) pa_nil))) rfl))))
      (pss_one (ps_ret (pe_call l_number.ok (hr.mono (by decide)) rfl l_number.mg l_number.kp l_number.bd .nil pass0 (pa_cons (pv 4) pa_nil))))), ?_⟩
    have p8 : (2 : Int) ^ 3 ≤ 2 ^ C := by
      have := Nat.pow_le_pow_right (show 0 < 2 by decide) c3
      exact_mod_cast this
    have p60 : (2 : Int) ^ C ≤ 2 ^ 60 := by
      have := Nat.pow_le_pow_right (show 0 < 2 by decide) c60
      exact_mod_cast this
    have nab : ∀ z : Int, 0 ≤ z → z < 2 ^ C → z.natAbs < 2 ^ C := fun z h1 h2 => by
      have : ((z.natAbs : Nat) : Int) = z := by omega
      have h3 : ((z.natAbs : Nat) : Int) < ((2 ^ C : Nat) : Int) := by rw [this]; exact_mod_cast h2
      exact_mod_cast h3
    obtain ⟨M, eM⟩ : ∃ M : Int, (2 : Int) ^ C = M := ⟨_, rfl⟩
    rw [eM] at z1 p8 p60 nab
    have p60' : M ≤ 1152921504606846976 := p60
    have p8' : 8 ≤ M := p8
    intro sd hsd
    have s0 := snew (o := .dK []) hsd
    have D0 := De.same s0
    refine ⟨_, rfl, _, rfl, _, _, rfl, rfl, dk, l, _, rfl, D0, by omega, by omega, fun r H1 r0 r5 D1 k1 => ?_⟩
    have nd : sd ≠ dk := fun z => De.some1.1 (z ▸ hsd)
    have nl : sd ≠ l := fun z => De.some1.2 (z ▸ hsd)
    refine ⟨r, rfl, by omega, by omega, ?_⟩
    refine for_range (lo := 0) (n := r.toNat) (fun i σ H' => ∃ (kvs : List (Key × V)) (ts : Nm) (x5 x6 x7 : Option V), σ = [some (.ref dk), some (.ref p), some (.int many), some (.int size), some (.ref sd), x5, x6, x7] ∧ H' sd = some (.dK kvs) ∧ TotR H' kvs ts ∧ Ks ts ∧ Sz C ts ∧ ts.length ≤ i ∧ (∀ x ∈ ts, ok x.1) ∧ Deck H' dk l ∧ Keep dk l H H')
      ⟨[], [], _, _, _, rfl, k1 _ _ upd_same nd nl, .nil, List.nodup_nil, fun x hx => by simp at hx, Nat.le_refl _, fun x hx => by simp at hx, D1, fun b o e h1 h2 => k1 _ _ (s0 _ _ e) h1 h2⟩ ?_ ?_
    · rintro i σ H' hi ⟨kvs, ts, x5, x6, x7, rfl, e1, tr, kn, sz, lk, oks, D2, old⟩
      refine ⟨_, rfl, _, rfl, dk, l, size, rfl, D2, z0, fun tp He t0 t1 De' ke => ?_⟩
      refine ⟨_, _, rfl, rfl, ?_⟩
      refine ⟨_, rfl, _, rfl, _, rfl, by show 5 ≤ sizeLine; rw [sizeLine_eq]; decide, fun p4 hp4 => ?_⟩
      refine pick_new (E := E0) De' hp4 (by simp) (by show 5 < _; decide) fun x4' Hf hx4 Df kf => ?_
      obtain ⟨bz, rfl, bz0, bz1⟩ : ∃ m : Int, x4' = .int m ∧ 0 < m ∧ m < M := by
        simp only [List.mem_cons, List.not_mem_nil, or_false] at hx4
        rcases hx4 with rfl | rfl | rfl | rfl | rfl
        · exact ⟨_, rfl, by decide, by omega⟩
        · exact ⟨_, rfl, by decide, by omega⟩
        · exact ⟨_, rfl, by decide, by omega⟩
        · exact ⟨_, rfl, by decide, by omega⟩
        · exact ⟨_, rfl, z0, z1⟩
      refine ⟨dk, l, bz, rfl, Df, bz0, fun bt Hg b0 b1 Dg kg => ?_⟩
      refine ⟨_, _, rfl, rfl, _, _, rfl, ?_⟩
      refine ⟨_, rfl, _, rfl, _, rfl, by show 2 ≤ sizeLine; rw [sizeLine_eq]; decide, fun p5 hp5 => ?_⟩
      refine pick_new (E := E0) Dg hp5 (by simp) (by show 2 < _; decide) fun x5' Hh hx5 Dh kh => ?_
      obtain ⟨s5, rfl, s51⟩ : ∃ m : Int, x5' = .int m ∧ (m = 1 ∨ m = -1) := by
        simp only [List.mem_cons, List.not_mem_nil, or_false] at hx5
        rcases hx5 with rfl | rfl
        · exact ⟨_, rfl, .inl rfl⟩
        · exact ⟨_, rfl, .inr rfl⟩
      refine ⟨_, _, rfl, rfl, .inr ⟨by omega, by omega⟩, _, rfl, by show 2 ≤ sizeLine; rw [sizeLine_eq]; decide, fun q hq => ?_⟩
      have kall : Keep dk l H' Hh := ((ke.trans kf).trans kg).trans kh
      have esd : Hh sd = some (.dK kvs) := kall _ _ e1 nd nl
      have sq := snew (o := .tup [.int ((1 + tp) * s5), .int (1 + bt)]) hq
      have Dq := Dh.same sq
      have qd : q ≠ dk := fun z => Dh.some1.1 (z ▸ hq)
      have ql : q ≠ l := fun z => Dh.some1.2 (z ▸ hq)
      have kq : Keep dk l H' (upd Hh q (.tup [.int ((1 + tp) * s5), .int (1 + bt)])) := kall.trans (Keep.of sq)
      refine ⟨_, rfl, _, rfl, _, rfl, dk, l, p, ms.map V.int, rfl, Dq, sqL_keep' (old.trans kq) np1 np2 hp, np1, np2, (fun z => mne (List.map_eq_nil_iff.mp z)), by rw [List.length_map]; omega, fun x Hk hx Dk kk => ?_⟩
      obtain ⟨u, hu', rfl⟩ := List.mem_map.mp hx
      have esk : Hk sd = some (.dK kvs) := kk _ _ (sq _ _ esd) nd nl
      have eqk : Hk q = some (.tup [.int ((1 + tp) * s5), .int (1 + bt)]) := kk _ _ upd_same qd ql
      refine ⟨sd, _, rfl, DPut.k (k := Sum.inl u) esk (by rw [tr.length]; exact small1000 (by omega)), ?_⟩
      have nq : q ≠ sd := (ne_of_none esd hq).symm
      have t1' : TupS H' Hk := keep_tups D2 (kq.trans kk)
      have t2 : TupS Hk (upd Hk sd (.dK (putK kvs (Sum.inl u) (.ref q)))) := fun b xs e => by
        rw [upd_ne (ne_of e esk (by intro z; cases z))]; exact e
      refine ⟨_, putN ts u ((1 + tp) * s5) (1 + bt), _, _, _, rfl, upd_same, (tr.tst (t1'.trans t2)).put (t2 _ _ eqk), putN_ks kn, putN_sz sz (Nat.le_refl _) ?_ (by omega) (nab _ (by omega) (by omega)), ?_, fun z hz => ?_, deck_upd Dk nd nl, fun b o e h1 h2 => ?_⟩
      · rcases s51 with h | h <;> rw [h]
        · rw [Int.mul_one]; exact nab _ (by omega) (by omega)
        · have := nab (1 + tp) (by omega) (by omega)
          have e : ((1 + tp) * -1).natAbs = (1 + tp).natAbs := by omega
          rw [e]; exact this
      · have := putN_len (ts := ts) (d := u) (t := (1 + tp) * s5) (b := 1 + bt); omega
      · rcases putN_mem hz with rfl | ⟨hz, _⟩
        · exact mok u hu'
        · exact oks _ hz
      · have e' := (old.trans (kq.trans kk)) b o e h1 h2
        rw [upd_ne (ne_of_none e hsd)]
        exact e'
    · rintro σ H' ⟨kvs, ts, x5, x6, x7, rfl, e1, tr, kn, sz, lk, oks, D2, old⟩
      refine ⟨_, rfl, sd, kvs, ts, C, ok, rfl, e1, tr, kn, sz, by omega, by omega, oks, fun n rr H2 dn cn con s2 => ?_⟩
      refine k rr n H2 dn ⟨cn, cn.sz fun z hz => ?_⟩ (D2.same s2) fun b o e h1 h2 => s2 _ _ (old b o e h1 h2)
      have hk : z.1 ∈ ts.map (·.1) := by
        by_cases c : z.1 ∈ ts.map (·.1)
        · exact c
        · have h1 := co_at cn.nodup hz
          rw [con, co_off c] at h1
          obtain ⟨_, t0, lo⟩ := cn.1 z hz
          exact absurd h1.symm (frac_ne (low_pos lo).1 t0)
      obtain ⟨x, hx, ex⟩ := List.mem_map.mp hk
      obtain ⟨a, b, c⟩ := sz x hx
      exact ⟨x.2.1, x.2.2, b, by rw [con, ← ex]; exact co_at kn hx, a, c⟩
end
end N3

namespace N3
open PySem PySem.Spec PyProof.Rows L2 N2 LamX
/-! ### the law's quotient out of a whole and rows by poles -/
def spToldU (K : PySem.W.Frag) (c : Addr) : Sp := fun vs H Q _ => ∃ (aw d : Addr) (accW : List V) (r0 : List Nm) (kvs : List (List L2.Key × V)) (ts : List Tl) (ok : Int → Prop), vs = [.ref aw, .ref d] ∧ SqE K H aw accW ∧ DnAll H accW (r0.map encN) ∧ r0.length ≤ 1000 ∧ (∀ n ∈ r0, CN ok n) ∧
  H d = some (.dT kvs) ∧ RwT (fun _ => True) H kvs ts ∧ Kp ts ∧ ts.length < 64 ∧ (∀ t ∈ ts, SPl t.1 ∧ t.2.length ≤ 1000 ∧ ∀ n ∈ t.2, CN ok n) ∧ Tabs (tabL c) H ∧
  ∀ (q : Qt) (r : Addr) (H' : Hp), Dn H' (.ref r) (encQ q) → CQ ok q → (∀ k d, cr q.1 k d = cr r0 k d) → (∀ p k d, cr (tl q.2 p) k d = cr (tl ts p) k d) → ExtN H H' → Tabs (tabL c) H' → Q (.ref r) H'
theorem mem_take_succ {α : Type} {l : List α} {i : Nat} {x : α} (h : l[i]? = some x) (y : α) : y ∈ l.take (i + 1) ↔ y ∈ l.take i ∨ y = x := by
  rw [List.take_add_one, h]
  simp
section
variable {P : Program} {w : World} {K : PySem.W.Frag} {mg : Str → Option Value} {base : Heap}
abbrev s__law_told : Stmt := top 63
abbrev nsTld : List Str := ["whole", "rows", "tails", "pole", "row"]
theorem sc__law_told : FnScope nsTld ["whole", "rows"] (defScope s__law_told) := ⟨rfl, rfl, rfl, by decide +kernel, rfl, by decide +kernel, by decide +kernel⟩
theorem ok__law_told {f f__law_shed : Addr} {fd d__law_shed : FuncData} {c pT : Addr} (hcd : fd.code = .ref c) (TB : LamX.TabB base mg c pT) (F : Fun K "_law_told" "_law_told" s__law_told f fd) (T : Bt mg) (l_shed : Kn P w K mg base 1 "_law_shed" ["row"] (spTrimE K) f__law_shed d__law_shed) : FnOk P w K mg base CX0 2 f fd ["whole", "rows"] (spToldU K pT) := by
  refine Fun.okC F hcd sc__law_told (fun vs H Q E h => ?_) (fun A outer s H vs Q E hr h => ?_)
  · obtain ⟨aw, d, accW, r0, kvs, ts, ok, rfl, _⟩ := h
    rfl
  · obtain ⟨aw, d, accW, r0, kvs, ts, ok, rfl, hW, dW, lW, nW, hd, rt, kp, lt64, hrows, hT, k⟩ := h
    have hu := hu_of hr
    refine ⟨_, pss_cons (ps_set (i := 2) sc__law_told.nd rfl (Or.inl rfl) (pe_lst pa_nil))
      (pss_cons (ps_for PassesOwn.never rfl (pi_list (pe_sortL hr T.sorted TB rfl 1)) (pg_name (i := 3) sc__law_told.nd rfl (Or.inl rfl))
        (pss_cons (ps_set (i := 4) sc__law_told.nd rfl (Or.inl rfl) (pe_call l_shed.ok (hr.mono (by decide)) rfl l_shed.mg l_shed.kp l_shed.bd .nil pass0 (pa_cons (pe_dget hu (pv 1) (pv 3) (fun _ _ => rfl)) pa_nil)))
        (pss_one (ps_if (pt_cmpR (op_neD hr.units) (pv 4) (pe_tup pa_nil) (nomark _))
          (pss_one (ps_expr (pe_bm PySem.F.plainAttrs_list PySem.F.slot_list_append PySem.F.type_list_append mt_append (pv 2) (pa_cons (pe_tup (pa_cons (pv 3) (pa_cons (pv 4) pa_nil))) pa_nil))))
          pss_nil))))
      (pss_one (ps_ret (pe_tup (pa_cons (pe_call l_shed.ok (hr.mono (by decide)) rfl l_shed.mg l_shed.kp l_shed.bd .nil pass0 (pa_cons (pv 0) pa_nil)) (pa_cons (pe_callTy call_tuple_of (by rfl) T.tuple (by decide +kernel) (pa_cons (pv 2) pa_nil)) pa_nil)))))), ?_⟩
    have s2z : 2 ≤ sizeLine := by rw [sizeLine_eq]; decide
    have lk := rt.length
    have keyOf : ∀ p ∈ kvs, ∃ pl, p.1 = kyP pl ∧ SPl pl := fun p hp => by
      have h1 : p.1 ∈ kvs.map (·.1) := List.mem_map.mpr ⟨p, hp, rfl⟩
      rw [rt.keys] at h1
      obtain ⟨pl, h2, h3⟩ := List.mem_map.mp h1
      obtain ⟨t, ht, rfl⟩ := List.mem_map.mp h2
      exact ⟨t.1, h3.symm, (hrows t ht).1⟩
    refine ⟨Nat.zero_le _, fun tl_ htl => ?_⟩
    have s0 := snew (o := .lst []) htl
    refine ⟨d, kvs, gK, rfl, s0 _ _ hd, tabs_same hT s0, fun p hp => ?_, fun H1 lz zs e1 T1 hlz perm srt tups => ?_⟩
    · obtain ⟨pl, e, hs⟩ := keyOf p hp
      rw [e]
      exact fit_pl hs
    have htl1 : H1 tl_ = some (.lst []) := e1 _ _ upd_same (fun _ z => nomatch z)
    have nlz : lz ≠ tl_ := (ne_of_none htl1 hlz).symm
    have sz := snew (o := .lst (zs.map fun z => V.ref z.2)) hlz
    obtain ⟨H2, eH2⟩ : ∃ H2, H2 = upd H1 lz (.lst (zs.map fun z => V.ref z.2)) := ⟨_, rfl⟩
    rw [← eH2] at sz ⊢
    have hlz2 : H2 lz = some (.lst (zs.map fun z => V.ref z.2)) := by rw [eH2]; exact upd_same
    have htl2 : H2 tl_ = some (.lst []) := sz _ _ htl1
    have e02 : ExtN H H2 := ((Same.extN s0).trans e1).trans (Same.extN sz)
    have T2 := tabs_same T1 sz
    have lzs : zs.length = kvs.length := by
      have := perm.length_eq
      rw [List.length_map] at this
      exact this
    -- the poles in their order
    obtain ⟨pz, epz⟩ : ∃ pz : List Pl, pz = zs.map fun z => gK z.1.1 := ⟨_, rfl⟩
    have permP : pz.Perm (ts.map (·.1)) := by
      have h1 := perm.map (fun kv : List L2.Key × V => gK kv.1)
      rw [List.map_map] at h1
      have h2 : kvs.map (fun kv : List L2.Key × V => gK kv.1) = ts.map (·.1) := by
        have h3 : kvs.map (fun kv : List L2.Key × V => gK kv.1) = (kvs.map (·.1)).map gK := by rw [List.map_map]; rfl
        rw [h3, rt.keys, List.map_map, List.map_map]
        rfl
      rw [← h2, epz]
      exact h1
    have memP : ∀ p, p ∈ pz ↔ p ∈ ts.map (·.1) := fun p => permP.mem_iff
    have splP : ∀ p ∈ pz, SPl p := fun p hp => by
      obtain ⟨t, ht, rfl⟩ := List.mem_map.mp ((memP p).mp hp)
      exact (hrows t ht).1
    have srtP : pz.Pairwise before := by
      have n1 : pz.Nodup := permP.nodup_iff.mpr kp
      have n2 : pz.Pairwise (fun p q : Pl => (p.1 * 232792560).fdiv p.2 ≤ (q.1 * 232792560).fdiv q.2) := by
        rw [epz]
        exact List.Pairwise.map _ (fun a b h => h) srt
      refine List.Pairwise.imp_of_mem (fun {a b} ha hb h => ?_) (n1.and n2)
      exact key_bf (splP a ha) (splP b hb) h.1 h.2
    have nH : ∀ b o, H b = some o → b ≠ tl_ := fun b o e => ne_of_none e htl
    have ext : ∀ H', Keep tl_ tl_ H2 H' → ExtN H H' := fun H' kk b o e n => kk b o (e02 b o e n) (nH b o e) (nH b o e)
    have tup2 : ∀ H', Keep tl_ tl_ H2 H' → TupS H2 H' := fun H' kk b xs e => kk b _ e (ne_of e htl2 (by intro z; cases z)) (ne_of e htl2 (by intro z; cases z))
    refine ⟨lz, rfl, ⟨_, SqL.of hlz2⟩, for_list (K := K) (a := lz) (xs := zs.map fun z => V.ref z.2) (fun i σ H' => ∃ (x3 x4 : Option V) (acc : List V) (us : List Tl), σ = [some (.ref aw), some (.ref d), some (.ref tl_), x3, x4] ∧ H' tl_ = some (.lst acc) ∧ DnAll H' acc (us.map encTl) ∧ us.length ≤ i ∧ CTs ok us ∧ (∀ t ∈ us, t.1 ∈ pz.take i) ∧ (∀ p k d, cr (tl us p) k d = if p ∈ pz.take i then cr (tl ts p) k d else 0) ∧ Keep tl_ tl_ H2 H')
      ⟨none, none, [], [], rfl, htl2, .nil, Nat.le_refl _, CTs.nil, by simp, fun p k d => by simp [tl, cr_nil], fun b o e _ _ => e⟩ (fun i σ H' _ ⟨_, _, _, _, _, _, _, _, _, _, _, kk⟩ => SqL.of (kk _ _ hlz2 nlz nlz)) ?_ ?_⟩
    · rintro i x σ H' hx ⟨x3, x4, acc, us, rfl, h1, h2, h3, h4, h5, h6, kk⟩
      rw [List.getElem?_map] at hx
      obtain ⟨z, ez, rfl⟩ := Option.map_eq_some_iff.mp hx
      have hz := List.mem_of_getElem? ez
      have il := (List.getElem?_eq_some_iff.mp ez).1
      have hk : z.1 ∈ kvs := perm.mem_iff.mp (List.mem_map.mpr ⟨z, hz, rfl⟩)
      obtain ⟨pl, ek, hs⟩ := keyOf _ hk
      have epi : pz[i]? = some pl := by
        rw [epz, List.getElem?_map, ez]
        show some (gK z.1.1) = some pl
        rw [ek]
        rfl
      have tk := mem_take_succ epi
      have mpl : pl ∈ ts.map (·.1) := (memP pl).mp (List.mem_of_getElem? epi)
      rcases rt.get pl with ⟨_, no⟩ | ⟨b, accR, ev, _, hb, dr, mt⟩
      · exact absurd mpl no
      obtain ⟨_, lr, nr⟩ := hrows _ mt
      have hz2 := tups z hz
      rw [ek] at hz2
      have eH' := ext H' kk
      have hz' : H' z.2 = some (.tup [.int pl.1, .int pl.2]) := tup2 H' kk _ _ (sz _ _ hz2)
      have below : ∀ q ∈ pz.take i, before q pl := fun q hq => by
        have h := srtP
        have hi : i < pz.length := (List.getElem?_eq_some_iff.mp epi).1
        have edi : pz[i] = pl := (List.getElem?_eq_some_iff.mp epi).2
        rw [← List.take_append_drop i pz, List.drop_eq_getElem_cons hi, edi, List.pairwise_append] at h
        exact h.2.2 q hq pl List.mem_cons_self
      have nin : pl ∉ pz.take i := fun m => bf_irr (below pl m) rfl
      refine ⟨_, rfl, _, rfl, d, .ref b, rfl, ?_, b, accR, tl ts pl, rfl, .inl (SqL.of (eH' _ _ hb (fun _ z => nomatch z))), tnA_tups (ext_tups eH') _ _ (tn_maps encN_tn _) dr, lr, fun rr q H3 dq ⟨kx, _, erx⟩ lastq crq s3 => ?_⟩
      · have := DGet.t (H := H') (k := kyP pl) (eH' _ _ hd (fun _ z => nomatch z)) hz'
        rw [ev] at this
        exact this
      have crR : CR ok rr := ⟨fun n hn => nr n (by rw [erx] at hn; exact List.mem_of_mem_take hn), lastq⟩
      refine ⟨_, rfl, Nat.zero_le _, fun p hp => ⟨encR rr, .tuple [], tn_dp _ _ (encR_tn _) (Dn.mono (snew hp) _ _ dq), .tup (SqT.of upd_same) .nil, encR_shaped _, rfl, _, rfl, ?_⟩⟩
      rw [eqv_nil_d (encR_tn _)]
      have s4 := s3.trans (snew (o := .tup []) hp)
      refine ite_b (fun c => ?_) (fun c => ?_)
      · have rne : rr ≠ [] := fun z => by rw [z] at c; cases c
        refine ⟨_, rfl, .inl ⟨rfl, _, SqL.of (s4 _ _ h1)⟩, _, rfl, _, rfl, s2z, fun p2 hp2 => ?_⟩
        have s5 := s4.trans (snew (o := .tup [.ref z.2, .ref q]) hp2)
        have ht5 := s5 _ _ h1
        have up := lst_tups (o := .lst (acc ++ [.ref p2])) ht5
        have lacc : acc.length = us.length := by rw [h2.length, List.length_map]
        refine ⟨tl_, acc, _, rfl, rfl, ht5, small1000 (by omega), ?_⟩
        refine ⟨_, _, acc ++ [.ref p2], us ++ [(pl, rr)], rfl, upd_same, ?_, by rw [List.length_append]; show us.length + 1 ≤ _; omega, h4.snoc ⟨hs.2.2.2, crR, rne⟩ (fun s hs' => below _ (h5 s hs')), fun t ht => ?_, fun p k d => ?_, fun b o e n1 n2 => ?_⟩
        · rw [List.map_append]
          refine DnAll.app (tnA_tups ((Same.tups s5).trans up) _ _ (tn_maps encTl_tn us) h2) (.cons ?_ .nil)
          refine .tup (up _ _ upd_same) (.cons (.tup (up _ _ (s5 _ _ hz')) (.cons (.int _) (.cons (.int _) .nil))) (.cons ?_ .nil))
          exact tn_tups up _ _ (encR_tn _) (Dn.mono ((snew hp).trans (snew hp2)) _ _ dq)
        · rcases List.mem_append.mp ht with ht | ht
          · exact (tk _).mpr (.inl (h5 t ht))
          · rw [List.mem_singleton.mp ht]
            exact (tk _).mpr (.inr rfl)
        · have one : tl [(pl, rr)] p = if pl = p then rr else [] := rfl
          rw [tl_app, one]
          by_cases c1 : p = pl
          · subst c1
            rw [if_neg (show ¬ p ∈ us.map (·.1) from fun m => by obtain ⟨t, ht, e⟩ := List.mem_map.mp m; exact nin (e ▸ h5 t ht)), if_pos (show p = p from rfl), if_pos ((tk _).mpr (.inr rfl))]
            exact crq k d
          · rw [if_neg (show ¬ pl = p from fun z => c1 z.symm)]
            by_cases c2 : p ∈ us.map (·.1)
            · rw [if_pos c2, h6]
              have c3 : p ∈ pz.take i := by obtain ⟨t, ht, e⟩ := List.mem_map.mp c2; exact e ▸ h5 t ht
              rw [if_pos c3, if_pos ((tk _).mpr (.inl c3))]
            · rw [if_neg c2, cr_nil]
              have h7 := h6 p k d
              rw [tl_off c2, cr_nil] at h7
              by_cases c3 : p ∈ pz.take i
              · rw [if_pos c3] at h7
                rw [if_pos ((tk _).mpr (.inl c3))]
                exact h7
              · rw [if_neg (fun z => ((tk _).mp z).elim c3 c1)]
        · rw [upd_ne n1]
          exact s5 _ _ (kk b o e n1 n2)
      · have rn : rr = [] := by
          cases rr with
          | nil => rfl
          | cons _ _ => cases c
        refine ⟨_, _, acc, us, rfl, s4 _ _ h1, tnA_tups (Same.tups s4) _ _ (tn_maps encTl_tn us) h2, by omega, h4, fun t ht => (tk _).mpr (.inl (h5 t ht)), fun p k d => ?_, fun b o e n1 n2 => s4 _ _ (kk b o e n1 n2)⟩
        rw [h6]
        by_cases c1 : p = pl
        · subst c1
          rw [if_neg nin, if_pos ((tk _).mpr (.inr rfl)), ← crq k d, rn, cr_nil]
        · by_cases c3 : p ∈ pz.take i
          · rw [if_pos c3, if_pos ((tk _).mpr (.inl c3))]
          · rw [if_neg c3, if_neg (fun z => ((tk _).mp z).elim c3 c1)]
    · rintro σ H' ⟨x3, x4, acc, us, rfl, h1, h2, h3, h4, h5, h6, kk⟩
      rw [List.length_map] at h3
      have eH' := ext H' kk
      refine ⟨_, rfl, aw, accW, r0, rfl, hW.imp (sqL_ext eH') (fun e => eH' _ _ e (fun _ z => nomatch z)), tnA_tups (ext_tups eH') _ _ (tn_maps encN_tn r0) dW, lW, fun rr q H3 dq ⟨kx, _, erx⟩ lastq crq s3 => ?_⟩
      refine ⟨_, rfl, tl_, acc, rfl, .inl ⟨SqL.of (s3 _ _ h1), fun l2 hl2 => ⟨s2z, fun p hp => ?_⟩⟩⟩
      have s4 := (snew (o := .tup acc) hl2).trans (snew (o := .tup [.ref q, .ref l2]) hp)
      have T' : Tabs (tabL pT) H' := tabs_keep kk (fun o e => by rw [htl2] at e; cases e; exact nc_lst _) (fun o e => by rw [htl2] at e; cases e; exact nc_lst _) T2
      have lp : pz.length = zs.length := by rw [epz, List.length_map]
      refine k (rr, us) _ _ (.tup upd_same (.cons (Dn.mono s4 _ _ dq) (.cons (.tup ?_ (tnA_tups (Same.tups (s3.trans s4)) _ _ (tn_maps encTl_tn us) h2)) .nil))) ⟨⟨fun n hn => nW n (by rw [erx] at hn; exact List.mem_of_mem_take hn), lastq⟩, h4⟩ crq (fun p k d => ?_) (eH'.trans (Same.extN (s3.trans s4))) (tabs_same T' (s3.trans s4))
      · rw [upd_ne (ne_of_none upd_same hp)]; exact upd_same
      · show cr (tl us p) k d = _
        rw [h6, List.length_map, ← lp, List.take_length]
        by_cases c : p ∈ pz
        · rw [if_pos c]
        · rw [if_neg c, tl_off (fun z => c ((memP p).mpr z)), cr_nil]
end
end N3

namespace N3
open PySem PySem.Spec PyProof.Rows L2 N2 LamX
/-! ### drawn quotients -/
theorem rows_co {ok : Int → Prop} {r : List Nm} {C : Nat} (h : ∀ n ∈ r, Nu ok C n) (hC : 1 ≤ C) (k : Nat) (d : Int) : ∃ t b : Int, b ≠ 0 ∧ cr r k d = Rat.divInt t b ∧ t.natAbs < 2 ^ C ∧ b.natAbs < 2 ^ C := by
  have : Nu ok C (r.getD k []) := by
    rw [List.getD_eq_getElem?_getD]
    cases e : r[k]? with
    | none => exact ⟨CN.nil, fun x hx => by simp at hx⟩
    | some n => exact h n (List.mem_of_getElem? e)
  exact Sz.co this.1 this.2 hC d
theorem qz_told {ok : Int → Prop} {C W M T : Nat} {q : Qt} {r0 : List Nm} {ts : List Tl} (hq : CQ ok q) (e1 : ∀ k d, cr q.1 k d = cr r0 k d) (e2 : ∀ p k d, cr (tl q.2 p) k d = cr (tl ts p) k d) (h0 : r0.length ≤ W) (n0 : ∀ n ∈ r0, Nu ok C n)
    (ht : ts.length ≤ T) (hts : ∀ t ∈ ts, SPl t.1 ∧ t.2.length ≤ M ∧ ∀ n ∈ t.2, Nu ok C n) (hC : 1 ≤ C) : QZ ok C W M T q := by
  have rw_ : ∀ p, (tl ts p).length ≤ M ∧ ∀ n ∈ tl ts p, Nu ok C n := fun p => by
    by_cases c : p ∈ ts.map (·.1)
    · exact (hts _ (tl_mem c)).2
    · rw [tl_off c]; exact ⟨Nat.zero_le _, fun n hn => by simp at hn⟩
  have z := qz_of (C := C) (W := W) (M := M) (ts.map (·.1)) hq (fun p hp => ?_) (fun k hk d => ?_) (fun p k hk d => ?_) (fun k d => ?_) (fun p k d => ?_) (fun p hp k d => ?_)
  · exact ⟨z.cq, z.lw, Nat.le_trans z.lt (by rw [List.length_map]; exact ht), z.lm, z.zw, z.zt, z.pl⟩
  · obtain ⟨t, ht, rfl⟩ := List.mem_map.mp hp
    exact (hts t ht).1
  · rw [e1, cr_off (Nat.le_trans h0 hk)]
  · rw [e2, cr_off (Nat.le_trans (rw_ p).1 hk)]
  · rw [e1]; exact rows_co n0 hC k d
  · rw [e2]; exact rows_co (rw_ p).2 hC k d
  · rw [e2, tl_off hp, cr_nil]
/-- a comprehension of drawn numbers -/
theorem lc_numsU {φ : Nm → Prop} {dk l D : Addr} {i n : Nat} {lo : Int} {te : TE} {σ : L2.St} {H1 : Hp} {Qd : Hp → Prop} (De : Deck H1 dk l) (hD : H1 D = none) (hn : n ≤ 1000)
    (step : ∀ (j : Nat) (H' : Hp) (Q' : V → Hp → Prop), j < n → Deck H' dk l → Keep dk l H1 H' → (∀ (r : Addr) (m : Nm) (H2 : Hp), Dn H2 (.ref r) (encN m) → φ m → Deck H2 dk l → Keep dk l H' H2 → Q' (.ref r) H2) → te ((wipe σ [i]).set i (some (.int (lo + j)))) H' Q')
    (fin : ∀ (acc : List V) (ns : List Nm) (H' : Hp), H' D = some (.lst acc) → DnAll H' acc (ns.map encN) → ns.length = n → (∀ m ∈ ns, φ m) → Deck H' dk l → Keep dk l H1 H' → Qd H') :
    ∃ W : Nat → Nat → Hp → Prop, (∃ m, W 0 m (upd H1 D (.lst []))) ∧ ∀ i_1 m H, W i_1 m H →
      ((Itr lo n).stop i_1 H ∧ Qd H) ∨ ((Itr lo n).go i_1 H ∧ ∃ Nx : Hp → Prop, (∀ H', Nx H' → ∃ m', m' < m ∧ W (i_1 + 1) m' H') ∧ ∀ x H', (Itr lo n).yld i_1 H x H' → gName i x (wipe σ [i]) H' fun σ2 H2 => wipe σ2 [i] = wipe σ [i] ∧ tYes σ2 H2 fun b H3 =>
        if b = true then te σ2 H3 fun y H4 => ∃ acc, H4 D = some (.lst acc) ∧ acc.length < sizeLine ∧ Nx (upd H4 D (.lst (acc ++ [y]))) else Nx H3) := by
  have nd : D ≠ dk := fun z => De.some1.1 (z ▸ hD)
  have nl : D ≠ l := fun z => De.some1.2 (z ▸ hD)
  refine lc_range (lo := lo) (n := n) (fun j H' => ∃ (acc : List V) (ns : List Nm), H' D = some (.lst acc) ∧ DnAll H' acc (ns.map encN) ∧ ns.length = j ∧ (∀ m ∈ ns, φ m) ∧ Deck H' dk l ∧ Keep dk l H1 H')
    ⟨[], [], upd_same, .nil, rfl, by simp, De.same (snew hD), Keep.of (snew hD)⟩ ?_ ?_
  · rintro j H' hj ⟨acc, ns, e1, e2, e3, e4, D', k'⟩
    refine ⟨wipe1, ?_⟩
    refine step j H' _ hj D' k' fun r m H2 dm sm D2 k2 => ?_
    have e5 := k2 _ _ e1 nd nl
    have lacc : acc.length = ns.length := by rw [e2.length, List.length_map]
    have up := lst_tups (o := .lst (acc ++ [.ref r])) e5
    refine ⟨_, e5, small1000 (by omega), acc ++ [.ref r], ns ++ [m], upd_same, ?_, by rw [List.length_append, e3]; rfl, fun x hx => ?_, deck_upd D2 nd nl, fun b o e h1 h2 => ?_⟩
    · rw [List.map_append]
      exact DnAll.app (tnA_tups ((keep_tups D' k2).trans up) _ _ (tn_maps encN_tn ns) e2) (.cons (tn_tups up _ _ (encN_tn m) dm) .nil)
    · rcases List.mem_append.mp hx with hx | hx
      · exact e4 x hx
      · rw [List.mem_singleton.mp hx]; exact sm
    · rw [upd_ne (ne_of_none e hD)]
      exact k2 _ _ (k' _ _ e h1 h2) h1 h2
  · rintro H' ⟨acc, ns, e1, e2, e3, e4, D', k'⟩
    exact fin acc ns H' e1 e2 e3 e4 D' k'
def spQuotU (K : PySem.W.Frag) (c : Addr) : Sp := fun vs H Q _ => ∃ (dk l pm pp : Addr) (ms : List Int) (xs : List V) (order degree size : Int) (C : Nat) (ok : Int → Prop), vs = [.ref dk, .ref pm, .ref pp, .int order, .int degree, .int size] ∧ Deck H dk l ∧ H pm = some (.lst (ms.map V.int)) ∧ pm ≠ dk ∧ pm ≠ l ∧ ms ≠ [] ∧ ms.length ≤ 8 ∧ (∀ m ∈ ms, ok m) ∧ ok 1 ∧
  H pp = some (.lst xs) ∧ pp ≠ dk ∧ pp ≠ l ∧ xs.length ≤ 10 ∧ (∀ x ∈ xs, PlAt H x) ∧ 0 ≤ order ∧ order ≤ 30 ∧ 0 ≤ degree ∧ degree ≤ 30 ∧ 0 < size ∧ size < 2 ^ C ∧ 3 ≤ C ∧ C ≤ 60 ∧ Tabs (tabL c) H ∧
  ∀ (q : Qt) (r : Addr) (H' : Hp), Dn H' (.ref r) (encQ q) → QZ ok C (degree + 1).toNat order.toNat xs.length q → Deck H' dk l → KeepX dk l H H' → Tabs (tabL c) H' → Q (.ref r) H'
section
variable {P : Program} {w : World} {K : PySem.W.Frag} {mg : Str → Option Value} {base : Heap}
abbrev s__law_quotient : Stmt := top 65
abbrev nsQot : List Str := ["deck", "menu", "poles", "order", "degree", "size", "rows", "kinds", "some", "whole", "pole", "many", "k"]
theorem sc__law_quotient : FnScope nsQot ["deck", "menu", "poles", "order", "degree", "size"] (defScope s__law_quotient) := ⟨rfl, rfl, rfl, by decide +kernel, rfl, by decide +kernel, by decide +kernel⟩
theorem ok__law_quotient {f f__law_draw f__law_pick f__law_drawn f__law_told : Addr} {fd d__law_draw d__law_pick d__law_drawn d__law_told : FuncData} {pT : Addr} (F : Fun K "_law_quotient" "_law_quotient" s__law_quotient f fd) (T : Bt mg) (l_draw : Kn P w K mg base 1 "_law_draw" ["deck", "many"] spDraw f__law_draw d__law_draw) (l_pick : Kn P w K mg base 2 "_law_pick" ["deck", "some"] (spPick K) f__law_pick d__law_pick) (l_drawn : Kn P w K mg base 3 "_law_drawn" ["deck", "menu", "many", "size"] (spDrawnU K) f__law_drawn d__law_drawn) (l_told : Kn P w K mg base 2 "_law_told" ["whole", "rows"] (spToldU K pT) f__law_told d__law_told) : FnOk P w K mg base CX0 4 f fd ["deck", "menu", "poles", "order", "degree", "size"] (spQuotU K pT) := by
  refine F.ok sc__law_quotient (fun vs H Q E h => ?_) (fun cdv A outer s H vs Q E hr h => ?_)
  · obtain ⟨dk, l, pm, pp, ms, xs, order, degree, size, C, ok, rfl, _⟩ := h
    rfl
  · obtain ⟨dk, l, pm, pp, ms, xs, order, degree, size, C, ok, rfl, De, hpm, m1, m2, m3, m4, m5, ok1, hpp, p1, p2, p3, p4, o1, o2, d1, d2, z1, z2, c3, c60, hT, k⟩ := h
    have hu := hu_of hr
    refine ⟨_, pss_cons (ps_par (i := 6) (j := 7) rfl sc__law_quotient.nd rfl rfl (by decide) rfl rfl (pa_cons pe_dnewT (pa_cons (pe_lst (pa_cons (pe_lst (pa_cons pe_int pa_nil)) (pa_cons (pe_lst (pa_cons pe_int pa_nil)) (pa_cons (pv 1) pa_nil)))) pa_nil)) (by rfl))
      (pss_cons (ps_set (i := 8) sc__law_quotient.nd rfl (Or.inr rfl) (pe_call l_pick.ok (hr.mono (by decide)) rfl l_pick.mg l_pick.kp l_pick.bd .nil pass0 (pa_cons (pv 0) (pa_cons (pv 7) pa_nil))))
      (pss_cons (ps_setLc (i := 9) (own := [("k", 12)]) (g := (gName 12)) (tt := tYes) rfl sc__law_quotient.nd rfl rfl (sw_true rfl rfl (by rfl) (by rfl)) (pi_range1 rfl T.range (pa_cons (pe_call l_draw.ok (hr.mono (by decide)) rfl l_draw.mg l_draw.kp l_draw.bd .nil pass0 (pa_cons (pv 0) (pa_cons (pe_op op_add (pv 4) pe_int) pa_nil))) pa_nil)) (blkOk_by (own := [("k", 12)]) (N := nsQot) (sc := defScope s__law_quotient) (by decide +kernel)) (fun _ _ _ _ _ => pg_name (i := 12) sc__law_quotient.nd rfl (Or.inl rfl)) (fun _ _ _ _ _ => pts_nil) (fun _ _ _ _ _ => (pe_call l_drawn.ok (hr.mono (by decide)) rfl l_drawn.mg l_drawn.kp l_drawn.bd .nil pass0 (pa_cons (pv 0) (pa_cons (pv 8) (pa_cons (pe_call l_pick.ok (hr.mono (by decide)) rfl l_pick.mg l_pick.kp l_pick.bd .nil pass0 (pa_cons (pv 0) (pa_cons (pe_lst (pa_cons pe_int (pa_cons pe_int (pa_cons pe_int pa_nil)))) pa_nil))) (pa_cons (pv 5) pa_nil)))))))
      (pss_cons (ps_for PassesOwn.never rfl (pi_list (pv 2)) (pg_name (i := 10) sc__law_quotient.nd rfl (Or.inl rfl))
        (pss_cons (ps_set (i := 11) sc__law_quotient.nd rfl (Or.inl rfl) (pe_call l_draw.ok (hr.mono (by decide)) rfl l_draw.mg l_draw.kp l_draw.bd .nil pass0 (pa_cons (pv 0) (pa_cons (pe_op op_add (pv 3) pe_int) pa_nil))))
        (pss_one (ps_if (pt_cmpR op_le (pv 11) (pv 3) (nomark _))
          (pss_one (ps_dput hu (pv 6) (pv 10) (pe_lc (own := [("k", 12)]) (g := (gName 12)) (tt := tYes) rfl sc__law_quotient.nd (pi_range1 rfl T.range (pa_cons (pv 11) pa_nil)) (blkOk_by (own := [("k", 12)]) (N := nsQot) (sc := defScope s__law_quotient) (by decide +kernel)) (fun _ _ _ _ _ => pg_name (i := 12) sc__law_quotient.nd rfl (Or.inl rfl)) (fun _ _ _ _ _ => pts_nil) (fun _ _ _ _ _ => (pe_call l_drawn.ok (hr.mono (by decide)) rfl l_drawn.mg l_drawn.kp l_drawn.bd .nil pass0 (pa_cons (pv 0) (pa_cons (pv 8) (pa_cons (pe_call l_pick.ok (hr.mono (by decide)) rfl l_pick.mg l_pick.kp l_pick.bd .nil pass0 (pa_cons (pv 0) (pa_cons (pe_lst (pa_cons pe_int (pa_cons pe_int (pa_cons pe_int pa_nil)))) pa_nil))) (pa_cons (pv 5) pa_nil))))))) rfl))
          pss_nil))))
      (pss_one (ps_ret (pe_call l_told.ok (hr.mono (by decide)) rfl l_told.mg l_told.kp l_told.bd .nil pass0 (pa_cons (pv 9) (pa_cons (pv 6) pa_nil)))))))), ?_⟩
    have sl1 : 1 ≤ sizeLine := by rw [sizeLine_eq]; decide
    have sl3 : 3 ≤ sizeLine := by rw [sizeLine_eq]; decide
    intro rw_ hrw
    have na : ∀ {H' : Hp} {b : Addr}, Deck H' dk l → H' b = none → b ≠ dk ∧ b ≠ l := fun D h => ⟨fun z => D.some1.1 (z ▸ h), fun z => D.some1.2 (z ▸ h)⟩
    obtain ⟨nr1, nr2⟩ := na De hrw
    have s0 := snew (o := .dT []) hrw
    refine ⟨sl1, fun q1 hq1 => ⟨sl1, fun q2 hq2 => ⟨_, rfl, sl3, fun kd hkd => ⟨_, _, rfl, _, rfl, _, rfl, ?_⟩⟩⟩⟩
    have sa1 := snew (o := .lst [.int 1]) hq1
    have sa2 := snew (o := .lst [.int 1]) hq2
    have Da1 := De.same s0
    have Da2 := Da1.same sa1
    obtain ⟨nq1, nq1'⟩ := na Da1 hq1
    obtain ⟨nq2, nq2'⟩ := na Da2 hq2
    have e1a := sa2 _ _ (upd_same (H := upd H rw_ (.dT [])) (a := q1) (o := .lst [.int 1]))
    have sA := (s0.trans sa1).trans sa2
    obtain ⟨HA, eHA⟩ : ∃ HA, HA = upd (upd (upd H rw_ (.dT [])) q1 (.lst [.int 1])) q2 (.lst [.int 1]) := ⟨_, rfl⟩
    have e2a : HA q2 = some (.lst [.int 1]) := by rw [eHA]; exact upd_same
    have erA : HA rw_ = some (.dT []) := by rw [eHA]; exact sa2 _ _ (sa1 _ _ upd_same)
    rw [← eHA] at hkd e1a sA ⊢
    have DA := De.same sA
    refine pick_new (E := E0) DA hkd (by simp) (by show 3 < _; decide) fun x H1 hx D1 k1 => ?_
    obtain ⟨sm, ms', rfl, hsm, ns1, ns2, ms1, ms2, ms3⟩ : ∃ (sm : Addr) (ms' : List Int), x = .ref sm ∧ H1 sm = some (.lst (ms'.map V.int)) ∧ sm ≠ dk ∧ sm ≠ l ∧ ms' ≠ [] ∧ ms'.length ≤ 8 ∧ ∀ m ∈ ms', ok m := by
      have one : ∀ m ∈ [(1 : Int)], ok m := fun m hm => by rw [List.mem_singleton.mp hm]; exact ok1
      simp only [List.mem_cons, List.not_mem_nil, or_false] at hx
      rcases hx with rfl | rfl | rfl
      · exact ⟨q1, [1], rfl, k1 _ _ e1a nq1 nq1', nq1, nq1', by simp, by decide, one⟩
      · exact ⟨q2, [1], rfl, k1 _ _ e2a nq2 nq2', nq2, nq2', by simp, by decide, one⟩
      · exact ⟨pm, ms, rfl, k1 _ _ (sA _ _ hpm) m1 m2, m1, m2, m3, m4, m5⟩
    have stp : ∀ (σ : L2.St) (H' : Hp) (Q' : V → Hp → Prop), σ[0]? = some (some (.ref dk)) → σ[8]? = some (some (.ref sm)) → σ[5]? = some (some (.int size)) → Deck H' dk l → H' sm = some (.lst (ms'.map V.int)) → (∀ (r : Addr) (m : Nm) (H2 : Hp), Dn H2 (.ref r) (encN m) → Nu ok C m → Deck H2 dk l → Keep dk l H' H2 → Q' (.ref r) H2) →
        tCall (spDrawnU K) [] E0 (tCons (tVar 0) (tCons (tVar 8) (tCons (tCall (spPick K) [] E0 (tCons (tVar 0) (tCons (tLst (tCons (tC (.int 1)) (tCons (tC (.int 1)) (tCons (tC (.int 2)) tNil)))) tNil))) (tCons (tVar 5) tNil)))) σ H' Q' := fun σ H' Q' h0 h8 h5 D' hs kk => by
      refine ⟨_, h0, _, h8, _, h0, sl3, fun p hp => pick_new (E := E0) D' hp (by simp) (by show 3 < _; decide) fun x H2 hx D2 k2 => ?_⟩
      obtain ⟨m, rfl, b0, b1⟩ : ∃ m : Int, x = .int m ∧ 0 ≤ m ∧ m ≤ 30 := by
        simp only [List.mem_cons, List.not_mem_nil, or_false] at hx
        rcases hx with rfl | rfl | rfl <;> exact ⟨_, rfl, by decide, by decide⟩
      exact ⟨_, h5, dk, l, sm, ms', m, size, C, ok, rfl, D2, SqL.of (k2 _ _ hs ns1 ns2), ns1, ns2, ms1, ms2, ms3, b0, b1, z1, z2, c3, c60, fun r n H3 dn sn D3 k3 => kk r n H3 dn sn D3 (k2.trans k3)⟩
    have er1 : H1 rw_ = some (.dT []) := k1 _ _ erA nr1 nr2
    have kH1 : Keep dk l H H1 := (Keep.of sA).trans k1
    -- whole
    refine ⟨_, rfl, _, rfl, _, _, rfl, rfl, dk, l, _, rfl, D1, by omega, by omega, fun r H2 r0 r1 D2 k2 => ⟨r, rfl, by omega, by omega, fun WD hWD => lc_numsU (φ := Nu ok C) (lo := 0) (n := r.toNat) D2 hWD (by omega) (fun j H' Q' _ D' k' kk => stp _ H' Q' rfl rfl rfl D' (k' _ _ (k2 _ _ hsm ns1 ns2) ns1 ns2) kk) fun accW nW H3 w1 w2 w3 w4 D3 k3 => ?_⟩⟩
    obtain ⟨nw1, nw2⟩ := na D2 hWD
    have k13 : Keep dk l H1 H3 := k2.trans k3
    have kH3 : Keep dk l H H3 := kH1.trans k13
    have er3 : H3 rw_ = some (.dT []) := k13 _ _ er1 nr1 nr2
    have T3 : Tabs (tabL pT) H3 := tabs_deck D1 k13 (tabs_deck DA k1 (tabs_same hT sA))
    have hsm3 := k13 _ _ hsm ns1 ns2
    have hpp3 := kH3 _ _ hpp p1 p2
    -- rows
    refine ⟨_, rfl, pp, rfl, ⟨_, SqL.of hpp3⟩, for_list (K := K) (a := pp) (xs := xs) (fun i σ H' => ∃ (x10 x11 : Option V) (kvs : List (List L2.Key × V)) (ts : List Tl), σ = [some (.ref dk), some (.ref pm), some (.ref pp), some (.int order), some (.int degree), some (.int size), some (.ref rw_), some (.ref kd), some (.ref sm), some (.ref WD), x10, x11, none] ∧ H' rw_ = some (.dT kvs) ∧ ts.length ≤ i ∧ RwT (fun b => b ≠ dk ∧ b ≠ l) H' kvs ts ∧ Kp ts ∧ (∀ t ∈ ts, SPl t.1 ∧ t.2.length ≤ order.toNat ∧ ∀ n ∈ t.2, Nu ok C n) ∧ Deck H' dk l ∧ Tabs (tabL pT) H' ∧ TupS H H' ∧
        ∀ b o, H3 b = some o → b ≠ dk → b ≠ l → b ≠ rw_ → H' b = some o)
      ⟨none, none, [], [], rfl, er3, Nat.le_refl _, .nil, List.nodup_nil, fun p hp => absurd hp (by simp), D3, T3, keep_tups De kH3, fun b o e _ _ _ => e⟩ (fun i σ H' _ ⟨_, _, _, _, _, _, _, _, _, _, _, _, _, kk⟩ => SqL.of (kk _ _ hpp3 p1 p2 (ne_of hpp3 er3 (by intro z; cases z)))) ?_ ?_⟩
    · rintro i x σ H' hx ⟨x10, x11, kvs, ts, rfl, e1, lk, rt, kp, hk, D', T', tu, kk⟩
      obtain ⟨ap, pl, rfl, hap, hs⟩ := p4 x (List.mem_of_getElem? hx)
      have il := (List.getElem?_eq_some_iff.mp hx).1
      refine ⟨_, rfl, _, rfl, _, _, rfl, rfl, dk, l, _, rfl, D', by omega, by omega, fun mny H4 b0 b1 D4 k4 => ?_⟩
      have e4 := k4 _ _ e1 nr1 nr2
      have T4 := tabs_deck D' k4 T'
      have tk4 := keep_tups D' k4
      have tu4 := tu.trans tk4
      have rt4 : RwT (fun b => b ≠ dk ∧ b ≠ l) H4 kvs ts := rt.move (fun _ h => h) (fun b xs g e => k4 _ _ e g.1 g.2) tk4
      refine ⟨_, rfl, _, rfl, _, _, rfl, rfl, _, rfl, ite_b (fun c => ?_) (fun c => ?_)⟩
      · have c' : mny ≤ order := of_decide_eq_true c
        refine ⟨_, rfl, mny, rfl, by omega, by omega, fun RD hRD => lc_numsU (φ := Nu ok C) (lo := 0) (n := mny.toNat) D4 hRD (by omega) (fun j H6 Q' _ D6 k6 kk' => stp _ H6 Q' rfl rfl rfl D6 (k6 _ _ (k4 _ _ (kk _ _ hsm3 ns1 ns2 (ne_of hsm3 er3 (by intro z; cases z))) ns1 ns2) ns1 ns2) kk') fun accR nR H5 v1 v2 v3 v4 D5 k5 => ?_⟩
        obtain ⟨nd1, nd2⟩ := na D4 hRD
        have e5 := k5 _ _ e4 nr1 nr2
        have tk5 := keep_tups D4 k5
        have tu5 := tu4.trans tk5
        have rt5 : RwT (fun b => b ≠ dk ∧ b ≠ l) H5 kvs ts := rt4.move (fun _ h => h) (fun b xs g e => k5 _ _ e g.1 g.2) tk5
        refine ⟨_, rfl, _, rfl, rw_, _, rfl, DPut.t (k := kyP pl) e5 (tu5 _ _ hap) (by rw [rt.length]; exact small1000 (by omega)), ?_⟩
        have T5 := tabs_deck D4 k5 T4
        have rt6 := (rt5.put (p := pl) (b := RD) (acc := accR) (n := nR) ⟨nd1, nd2⟩ v1 v2).move (G' := fun b => b ≠ dk ∧ b ≠ l) (H' := upd H5 rw_ (.dT (putK kvs (kyP pl) (.ref RD)))) (fun _ h => h) (fun b xs g e => by rw [upd_ne (ne_of e e5 (by intro z; cases z))]; exact e) (dt_tups e5)
        refine ⟨_, _, _, putR ts pl nR, rfl, upd_same, ?_, rt6, putR_kp kp, fun q hq => ?_, deck_upd D5 nr1 nr2, ?_, tu5.trans (dt_tups e5), fun b o e n1 n2 n3 => ?_⟩
        · have := putR_len (ts := ts) (p := pl) (n := nR)
          omega
        · rcases putR_mem hq with rfl | hq
          · exact ⟨hs, by show nR.length ≤ _; omega, v4⟩
          · exact hk q hq
        · exact tabs_keep (dk := rw_) (l := rw_) (fun b o e n1 _ => by rw [upd_ne n1]; exact e) (fun o e => by rw [e5] at e; cases e; exact nc_dt _) (fun o e => by rw [e5] at e; cases e; exact nc_dt _) T5
        · rw [upd_ne n3]
          exact k5 _ _ (k4 _ _ (kk b o e n1 n2 n3) n1 n2) n1 n2
      · exact ⟨_, _, kvs, ts, rfl, e4, by omega, rt4, kp, hk, D4, T4, tu4, fun b o e n1 n2 n3 => k4 _ _ (kk b o e n1 n2 n3) n1 n2⟩
    · rintro σ H' ⟨x10, x11, kvs, ts, rfl, e1, lk, rt, kp, hk, D', T', tu, kk⟩
      have w1' := kk _ _ w1 nw1 nw2 (ne_of w1 er3 (by intro z; cases z))
      have t3 : TupS H3 H' := fun b ys e => kk b _ e (of_off (deck_tup D3 e)).1 (of_off (deck_tup D3 e)).2.1 (ne_of e er3 (by intro z; cases z))
      refine ⟨_, rfl, _, rfl, WD, rw_, accW, nW, kvs, ts, ok, rfl, .inl (SqL.of w1'), tnA_tups t3 _ _ (tn_maps encN_tn nW) w2, by omega, fun n hn => (w4 n hn).1, e1, rt.move (fun _ _ => trivial) (fun _ _ _ e => e) (fun _ _ e => e), kp, by omega, fun t ht => ⟨(hk t ht).1, by have := (hk t ht).2.1; omega, fun n hn => ((hk t ht).2.2 n hn).1⟩, T', fun q r' H5 dv cq e1' e2' e5 T5 => ?_⟩
      refine k q r' H5 dv (qz_told cq e1' e2' (by omega) w4 lk hk (by omega)) (deck_ext D' e5) (fun b o e n1 n2 nt => ?_) T5
      exact e5 _ _ (kk b o (kH3 _ _ e n1 n2) n1 n2 (ne_of_none e hrw)) nt
end
end N3

namespace N3
open PySem PySem.Spec PyProof.Rows L2 N2
/-! ### comprehensions that make plain data -/
theorem of_each {α : Type} {enc : α → PyData} {H : Hp} : ∀ {ys : List V} {φ : Nat → α → Prop}, (∀ (j : Nat) (y : V), ys[j]? = some y → ∃ m, Dn H y (enc m) ∧ φ j m) → ∃ ns : List α, ns.length = ys.length ∧ DnAll H ys (ns.map enc) ∧ ∀ (j : Nat) (m : α), ns[j]? = some m → φ j m
  | [], _, _ => ⟨[], rfl, .nil, fun j m e => by simp at e⟩
  | y :: ys, φ, h => by
    obtain ⟨m, d, p⟩ := h 0 y rfl
    obtain ⟨ns, l, ds, ps⟩ := of_each (ys := ys) (φ := fun j => φ (j + 1)) fun j z e => h (j + 1) z (by simpa using e)
    refine ⟨m :: ns, by rw [List.length_cons, List.length_cons, l], .cons d ds, fun j z e => ?_⟩
    cases j with
    | zero => cases e; exact p
    | succ j => exact ps j z (by simpa using e)
section
variable {α : Type} {enc : α → PyData} {J : It} {n : Nat} {G : Hp → Prop} {Y : Nat → Hp → V → Hp → Prop} {g : TG} {te : TE} {vs : List Nat} {σ : L2.St} {H : Hp} {D : Addr} {Qd : Hp → Prop}
theorem lc_enc (tn : ∀ x, Tn (enc x)) (W : Walk J n G Y) (hG : ∀ H', Same H H' → G H') (φ : Nat → α → Prop) (hn : n ≤ 1000000) (hD : H D = none)
    (step : ∀ (j : Nat) (x : V) (H1 H2 : Hp) (Q' : V → Hp → Prop), j < n → Same H H1 → Y j H1 x H2 → (∀ y m H3, Dn H3 y (enc m) → φ j m → Same H1 H3 → Q' y H3) → g x (wipe σ vs) H2 fun σ2 H3 => wipe σ2 vs = wipe σ vs ∧ te σ2 H3 Q')
    (fin : ∀ (ys : List V) (ns : List α) (H' : Hp), H' D = some (.lst ys) → DnAll H' ys (ns.map enc) → ns.length = n → (∀ (j : Nat) (m : α), ns[j]? = some m → φ j m) → Same H H' → Qd H') :
    ∃ W : Nat → Nat → Hp → Prop, (∃ m, W 0 m (upd H D (.lst []))) ∧ ∀ i m H, W i m H →
      (J.stop i H ∧ Qd H) ∨ (J.go i H ∧ ∃ Nx : Hp → Prop, (∀ H', Nx H' → ∃ m', m' < m ∧ W (i + 1) m' H') ∧ ∀ x H', J.yld i H x H' → g x (wipe σ vs) H' fun σ2 H2 => wipe σ2 vs = wipe σ vs ∧ tYes σ2 H2 fun b H3 =>
        if b = true then te σ2 H3 fun y H4 => ∃ acc, H4 D = some (.lst acc) ∧ acc.length < sizeLine ∧ Nx (upd H4 D (.lst (acc ++ [y]))) else Nx H3) :=
  lc_map W hG (fun j y H' => ∃ m, Dn H' y (enc m) ∧ φ j m) (fun j y H1 H2 t ⟨m, d, p⟩ => ⟨m, tn_tups t _ _ (tn m) d, p⟩) hn hD
    (fun j x H1 H2 Q' hj s y k => step j x H1 H2 Q' hj s y fun y' m H3 d p s3 => k y' H3 ⟨m, d, p⟩ s3)
    (fun ys H' e l r s => by
      obtain ⟨ns, ln, ds, ps⟩ := of_each r
      exact fin ys ns H' e ds (ln.trans l) ps s)
end
theorem cutFrom (xs : List V) (m : Nat) (h : m ≤ xs.length) : cutV xs (some (m : Int)) none = xs.drop m := by
  unfold cutV
  have e1 : HT.sIx xs.length 0 (some (m : Int)) = min m xs.length := HT.sIx_nat xs.length 0 m
  have e2 : HT.sIx xs.length xs.length none = xs.length := rfl
  rw [e1, e2, Nat.min_eq_left h, List.take_of_length_le (by rw [List.length_drop]; omega)]
theorem slA_from {K : PySem.W.Frag} {H : Hp} {a : Addr} {xs : List V} {m : Nat} {Q : VK} (h : SqT K H a xs) (hm : m ≤ xs.length) (k : ∀ (p : Addr) (H' : Hp), SqT K H' p (xs.drop m) → Same H H' → Q (.ref p) H') : rSlA K (.ref a) (some (m : Int)) none H Q := by
  refine ⟨a, xs, rfl, h, fun ⟨z, _⟩ => ?_, fun _ p hp => ?_⟩
  · have e1 : HT.sIx xs.length 0 (some (m : Int)) = min m xs.length := HT.sIx_nat xs.length 0 m
    rw [e1, Nat.min_eq_left hm] at z
    subst z
    exact k a H h (Same.refl _)
  · rw [cutFrom _ _ hm]
    exact k p _ (SqT.of upd_same) (snew hp)
theorem slA_to {K : PySem.W.Frag} {H : Hp} {a : Addr} {xs : List V} {m : Nat} {Q : VK} (h : SqT K H a xs) (hm : m ≤ xs.length) (k : ∀ (p : Addr) (H' : Hp), SqT K H' p (xs.take m) → Same H H' → Q (.ref p) H') : rSlA K (.ref a) none (some (m : Int)) H Q := by
  refine ⟨a, xs, rfl, h, fun ⟨_, z⟩ => ?_, fun _ p hp => ?_⟩
  · have e1 : HT.sIx xs.length xs.length (some (m : Int)) = min m xs.length := HT.sIx_nat xs.length xs.length m
    rw [e1, Nat.min_eq_left hm] at z
    refine k a H ?_ (Same.refl _)
    rw [List.take_of_length_le (by omega)]
    exact h
  · rw [cutTo _ _ hm]
    exact k p _ (SqT.of upd_same) (snew hp)
theorem dnAll_drop' {H : Hp} : ∀ {xs : List V} {ds : List PyData}, DnAll H xs ds → ∀ k, DnAll H (xs.drop k) (ds.drop k)
  | _, _, h, 0 => h
  | _, _, .nil, _ + 1 => .nil
  | _, _, .cons a r, k + 1 => dnAll_drop' r k
/-! ### rows -/
def RZ (ok : Int → Prop) (C : Nat) (r : List Nm) : Prop := CR ok r ∧ (∀ n ∈ r, Sz C n) ∧ r.length ≤ 500
theorem RZ.nu {ok : Int → Prop} {C : Nat} {r : List Nm} (h : RZ ok C r) {n : Nm} (hn : n ∈ r) : Nu ok C n := ⟨h.1.1 n hn, h.2.1 n hn⟩
theorem getD_at {r : List Nm} {j : Nat} {n : Nm} (h : r[j]? = some n) : r.getD j [] = n := by rw [List.getD_eq_getElem?_getD, h]; rfl
theorem dn_R {H : Hp} {v : V} {r : List Nm} (h : Dn H v (encR r)) : ∃ a xs, v = .ref a ∧ H a = some (.tup xs) ∧ DnAll H xs (r.map encN) := dn_tupd h
theorem row_at {H : Hp} {xs : List V} {r : List Nm} (h : DnAll H xs (r.map encN)) {j : Nat} {n : Nm} (e : r[j]? = some n) : ∃ x, xs[j]? = some x ∧ Dn H x (encN n) := dn_at h (show (r.map encN)[j]? = some (encN n) by rw [List.getElem?_map, e]; rfl)
def spRSum : Sp := fun vs H Q _ => ∃ (u v : V) (r s : List Nm) (C L : Nat) (ok : Int → Prop), vs = [u, v] ∧ Dn H u (encR r) ∧ Dn H v (encR s) ∧ RZ ok C r ∧ RZ ok C s ∧ Few ok L ∧ 1 ≤ C ∧ L < 32 ∧ 2 * L * (C + 2) ≤ 7900 ∧ C + 2 ≤ 7900 ∧
  ∀ (t : List Nm) (a : Addr) (H' : Hp), Dn H' (.ref a) (encR t) → CR ok t → (∀ k d, cr t k d = cr r k d + cr s k d) → Same H H' → Q (.ref a) H'
def spWSlo : Sp := fun vs H Q _ => ∃ (u : V) (r : List Nm) (C L : Nat) (ok : Int → Prop), vs = [u] ∧ Dn H u (encR r) ∧ RZ ok C r ∧ Few ok L ∧ 1 ≤ C ∧ L < 64 ∧ L * (C + 10) ≤ 7900 ∧ C + 10 ≤ 7900 ∧
  ∀ (t : List Nm) (a : Addr) (H' : Hp), Dn H' (.ref a) (encR t) → CR ok t → t.length = r.length - 1 → (∀ (k : Nat) d, cr t k d = Rat.divInt ((k : Int) + 1) 1 * cr r (k + 1) d) → Same H H' → Q (.ref a) H'
def spSRow : Sp := fun vs H Q _ => ∃ (u : V) (r : List Nm) (C L : Nat) (ok : Int → Prop), vs = [u] ∧ Dn H u (encR r) ∧ RZ ok C r ∧ r ≠ [] ∧ Few ok L ∧ 1 ≤ C ∧ L < 64 ∧ L * (C + 10) ≤ 7900 ∧ C + 10 ≤ 7900 ∧
  ∀ (t : List Nm) (a : Addr) (H' : Hp), Dn H' (.ref a) (encR ([] :: t)) → CR ok ([] :: t) → t.length = r.length → (∀ (k : Nat) d, cr t k d = Rat.divInt (-(k : Int) - 1) 1 * cr r k d) → Same H H' → Q (.ref a) H'
section
variable {P : Program} {w : World} {K : PySem.W.Frag} {mg : Str → Option Value} {base : Heap}
abbrev s_row_sum : Stmt := top 28
abbrev nsRSum : List Str := ["one", "other", "both", "k"]
theorem sc_row_sum : FnScope nsRSum ["one", "other"] (defScope s_row_sum) := ⟨rfl, rfl, rfl, by decide +kernel, rfl, by decide +kernel, by decide +kernel⟩
theorem ok_row_sum {f f_number_sum f_trimmed : Addr} {fd d_number_sum d_trimmed : FuncData}  (F : Fun K "row_sum" "row_sum" s_row_sum f fd) (T : Bt mg) (p_number_sum : Kn P w K mg base 4 "number_sum" ["one", "other"] spNSum f_number_sum d_number_sum) (p_trimmed : Kn P w K mg base 1 "trimmed" ["numbers"] (spTrim K) f_trimmed d_trimmed) : FnOk P w K mg base CX0 5 f fd ["one", "other"] spRSum := by
  refine F.ok sc_row_sum (fun vs H Q E h => ?_) (fun cdv A outer s H vs Q E hr h => ?_)
  · obtain ⟨u, v, r, s, C, L, ok, rfl, _⟩ := h
    rfl
  · obtain ⟨u, v, r, s, C, L, ok, rfl, hu, hv, hr_, hs_, few, c1, l32, lt, cw, k⟩ := h
    refine ⟨_, C8.pss_cut (ps_if (pt_cmpR op_lt (pe_callB call_len (by rfl) T.len PySem.boot_len (pa_cons (pv 0) pa_nil)) (pe_callB call_len (by rfl) T.len PySem.boot_len (pa_cons (pv 1) pa_nil)) (nomark _))
        (pss_one (ps_asg (pe_tup (pa_cons (pv 1) (pa_cons (pv 0) pa_nil))) (pg_tup rfl (pgs_cons (pg_name (i := 0) sc_row_sum.nd rfl (Or.inr rfl)) (pgs_cons (pg_name (i := 1) sc_row_sum.nd rfl (Or.inr rfl)) pgs_nil)))))
        pss_nil)
      (pss_cons (ps_setLc (i := 2) (own := [("k", 3)]) (g := (gName 3)) (tt := tYes) rfl sc_row_sum.nd rfl rfl (sw_true rfl rfl (by rfl) (by rfl)) (pi_range1 rfl T.range (pa_cons (pe_callB call_len (by rfl) T.len PySem.boot_len (pa_cons (pv 1) pa_nil)) pa_nil)) (blkOk_by (own := [("k", 3)]) (N := nsRSum) (sc := defScope s_row_sum) (by decide +kernel)) (fun _ _ _ _ _ => pg_name (i := 3) sc_row_sum.nd rfl (Or.inl rfl)) (fun _ _ _ _ _ => pts_nil) (fun _ _ _ _ _ => (pe_call p_number_sum.ok (hr.mono (by decide)) rfl p_number_sum.mg p_number_sum.kp p_number_sum.bd .nil pass0 (pa_cons (pe_ix (r := rIx K) ix_seq (pv 0) (pv 3) (fun _ _ => rfl)) (pa_cons (pe_ix (r := rIx K) ix_seq (pv 1) (pv 3) (fun _ _ => rfl)) pa_nil)))))
      (pss_one (ps_ret (pe_call p_trimmed.ok (hr.mono (by decide)) rfl p_trimmed.mg p_trimmed.kp p_trimmed.bd .nil pass0 (pa_cons (pe_op op_cat (pv 2) (pe_callTy call_list_of (by rfl) T.list (by decide +kernel) (pa_cons (pe_slice sl_tupA (pv 0) (po_some (pe_callB call_len (by rfl) T.len PySem.boot_len (pa_cons (pv 1) pa_nil))) po_none) pa_nil))) pa_nil))))), ?_⟩
    refine ⟨fun σ' H' => ∃ (u' v' : V) (R S : List Nm), σ' = [some u', some v', none, none] ∧ Same H H' ∧ Dn H' u' (encR R) ∧ Dn H' v' (encR S) ∧ RZ ok C R ∧ RZ ok C S ∧ S.length ≤ R.length ∧ ∀ k d, cr R k d + cr S k d = cr r k d + cr s k d, ?_, ?_⟩
    · obtain ⟨a, xs, rfl, ea, ra⟩ := dn_R hu
      obtain ⟨b, ys, rfl, eb, rb⟩ := dn_R hv
      have la : xs.length = r.length := by rw [ra.length, List.length_map]
      have lb : ys.length = s.length := by rw [rb.length, List.length_map]
      refine ⟨_, rfl, .ref a, xs.length, rfl, .inr ⟨xs, SqT.of ea, rfl⟩, _, rfl, .ref b, ys.length, rfl, .inr ⟨ys, SqT.of eb, rfl⟩, _, _, rfl, rfl, _, rfl, ite_b (fun c => ?_) (fun c => ?_)⟩
      · have c' := of_decide_eq_true c
        refine ⟨_, rfl, _, rfl, by show 2 ≤ sizeLine; rw [sizeLine_eq]; decide, fun p hp => ⟨p, _, rfl, SqT.of upd_same, rfl, _, _, rfl, _, _, rfl, rfl, ?_⟩⟩
        exact ⟨.ref b, .ref a, s, r, rfl, snew hp, Dn.mono (snew hp) _ _ hv, Dn.mono (snew hp) _ _ hu, hs_, hr_, by omega, fun k d => Rat.add_comm _ _⟩
      · have c' := of_decide_eq_false c
        exact ⟨.ref a, .ref b, r, s, rfl, Same.refl _, hu, hv, hr_, hs_, by omega, fun k d => rfl⟩
    · rintro σ' H1 ⟨u', v', R, S, rfl, s1, dR, dS, zR, zS, le, eq⟩
      obtain ⟨a, xs, rfl, ea, ra⟩ := dn_R dR
      obtain ⟨b, ys, rfl, eb, rb⟩ := dn_R dS
      have la : xs.length = R.length := by rw [ra.length, List.length_map]
      have lb : ys.length = S.length := by rw [rb.length, List.length_map]
      have l1 := zR.2.2
      refine ⟨_, rfl, .ref b, ys.length, rfl, .inr ⟨ys, SqT.of eb, rfl⟩, _, rfl, by omega, by omega, fun D hD => lc_enc (enc := encN) encN_tn (walk_range (lo := 0) (n := ys.length)) (fun _ _ => trivial) (fun j m => CN ok m ∧ ∀ d, co m d = cr R j d + cr S j d) (by omega) hD (fun j x H2 H3 Q' hj s2 y kk => ?_) fun acc ns H2 e2 dn2 ln hn s2 => ?_⟩
      · obtain ⟨rfl, rfl⟩ := y
        obtain ⟨n, en⟩ : ∃ n, R[j]? = some n := ⟨_, List.getElem?_eq_getElem (by omega)⟩
        obtain ⟨m, em⟩ : ∃ m, S[j]? = some m := ⟨_, List.getElem?_eq_getElem (by omega)⟩
        obtain ⟨x, ex, dx⟩ := row_at ra en
        obtain ⟨y, ey, dy⟩ := row_at rb em
        refine ⟨rfl, _, rfl, _, rfl, .inr (.inl ⟨a, xs, _, x, rfl, rfl, SqT.of (s2 _ _ ea), by rw [Int.zero_add]; exact atI_nat ex, _, rfl, _, rfl, .inr (.inl ⟨b, ys, _, y, rfl, rfl, SqT.of (s2 _ _ eb), by rw [Int.zero_add]; exact atI_nat ey, ?_⟩)⟩)⟩
        refine ⟨x, y, n, m, C, L, ok, rfl, Dn.mono s2 _ _ dx, Dn.mono s2 _ _ dy, zR.nu (List.mem_of_getElem? en), zS.nu (List.mem_of_getElem? em), few, c1, l32, lt, cw, fun z c H4 dz nz ez s4 => ?_⟩
        refine kk _ z H4 dz ⟨nz.1, fun d => ?_⟩ s4
        unfold cr
        rw [ez, getD_at en, getD_at em]
      · refine ⟨_, rfl, _, rfl, _, rfl, .ref b, ys.length, rfl, .inr ⟨ys, SqT.of (s2 _ _ eb), rfl⟩, ?_⟩
        dsimp only [tNoPart]
        refine ⟨_, rfl, slA_from (SqT.of (s2 _ _ ea)) (by omega) fun p H3 hp s3 => ?_⟩
        refine ⟨p, _, rfl, .inr hp, fun l hl => ?_⟩
        have s4 := s3.trans (snew (o := .lst (xs.drop ys.length)) hl)
        refine ⟨D, l, acc, xs.drop ys.length, rfl, rfl, s4 _ _ e2, upd_same, ?_, fun q hq => ?_⟩
        · have := dn2.length
          rw [List.length_map] at this
          rw [List.length_drop]
          exact Nat.le_of_lt (small1000 (by omega))
        · have s5 := s4.trans (snew (o := .lst (acc ++ xs.drop ys.length)) hq)
          have dd : DnAll (upd (upd H3 l (.lst (xs.drop ys.length))) q (.lst (acc ++ xs.drop ys.length))) (acc ++ xs.drop ys.length) ((ns ++ R.drop ys.length).map encN) := by
            rw [List.map_append, List.map_drop]
            exact DnAll.app (DnAll.mono s5 _ _ dn2) (DnAll.mono (s2.trans s5) _ _ (dnAll_drop' ra _))
          refine ⟨q, _, ns ++ R.drop ys.length, rfl, SqL.of upd_same, dd, by rw [List.length_append, List.length_drop]; omega, fun t a' H5 dt ⟨kx, _, et⟩ lastt crt s6 => ?_⟩
          refine k t a' H5 dt ⟨fun n hn' => ?_, lastt⟩ (fun j d => ?_) ((s1.trans s2).trans (s5.trans s6))
          · rw [et] at hn'
            rcases List.mem_append.mp (List.mem_of_mem_take hn') with h | h
            · obtain ⟨j, hj⟩ := List.mem_iff_getElem?.mp h
              exact (hn j n hj).1
            · exact zR.1.1 n (List.mem_of_mem_drop h)
          · rw [crt, ← eq]
            rcases Nat.lt_or_ge j ns.length with c | c
            · have e1 : (ns ++ R.drop ys.length).getD j [] = ns[j] := getD_at (by rw [List.getElem?_append_left c, List.getElem?_eq_getElem c])
              show co ((ns ++ R.drop ys.length).getD j []) d = _
              rw [e1]
              exact (hn j _ (List.getElem?_eq_getElem c)).2 d
            · have e1 : (ns ++ R.drop ys.length).getD j [] = R.getD j [] := by
                rw [List.getD_eq_getElem?_getD, List.getD_eq_getElem?_getD, List.getElem?_append_right c, List.getElem?_drop]
                congr 2
                omega
              show co ((ns ++ R.drop ys.length).getD j []) d = _
              rw [e1, cr_off (r := S) (by omega), Rat.add_zero]
              rfl
abbrev s_whole_slope : Stmt := top 29
abbrev nsWSlo : List Str := ["whole", "k"]
theorem sc_whole_slope : FnScope nsWSlo ["whole"] (defScope s_whole_slope) := ⟨rfl, rfl, rfl, by decide +kernel, rfl, by decide +kernel, by decide +kernel⟩
theorem ok_whole_slope {f f_scaled : Addr} {fd d_scaled : FuncData}  (F : Fun K "whole_slope" "whole_slope" s_whole_slope f fd) (T : Bt mg) (p_scaled : Kn P w K mg base 4 "scaled" ["number", "top", "bottom"] spScaled f_scaled d_scaled) : FnOk P w K mg base CX0 5 f fd ["whole"] spWSlo := by
  refine F.ok sc_whole_slope (fun vs H Q E h => ?_) (fun cdv A outer s H vs Q E hr h => ?_)
  · obtain ⟨u, r, C, L, ok, rfl, _⟩ := h
    rfl
  · obtain ⟨u, r, C, L, ok, rfl, hu, hr_, few, c1, l64, lt, cw, k⟩ := h
    refine ⟨_, pss_one (ps_ret (pe_callTy call_tuple_of (by rfl) T.tuple (by decide +kernel) (pa_cons (pe_lc (own := [("k", 1)]) (g := (gName 1)) (tt := tYes) rfl sc_whole_slope.nd (pi_range2 rfl T.range (pa_cons pe_int (pa_cons (pe_callB call_len (by rfl) T.len PySem.boot_len (pa_cons (pv 0) pa_nil)) pa_nil))) (blkOk_by (own := [("k", 1)]) (N := nsWSlo) (sc := defScope s_whole_slope) (by decide +kernel)) (fun _ _ _ _ _ => pg_name (i := 1) sc_whole_slope.nd rfl (Or.inl rfl)) (fun _ _ _ _ _ => pts_nil) (fun _ _ _ _ _ => (pe_call p_scaled.ok (hr.mono (by decide)) rfl p_scaled.mg p_scaled.kp p_scaled.bd .nil pass0 (pa_cons (pe_ix (r := rIx K) ix_seq (pv 0) (pv 1) (fun _ _ => rfl)) (pa_cons (pv 1) (pa_cons pe_int pa_nil)))))) pa_nil))), ?_⟩
    obtain ⟨a, xs, rfl, ea, ra⟩ := dn_R hu
    have la : xs.length = r.length := by rw [ra.length, List.length_map]
    have l1 := hr_.2.2
    refine ⟨_, rfl, .ref a, xs.length, rfl, .inr ⟨xs, SqT.of ea, rfl⟩, ?_⟩
    refine ⟨1, _, rfl, ⟨by decide, by decide, by omega, by omega⟩, fun D hD => lc_enc (enc := encN) encN_tn (walk_range (lo := 1) (n := ((xs.length : Int) - 1).toNat)) (fun _ _ => trivial) (fun j m => CN ok m ∧ ∀ d, co m d = Rat.divInt ((j : Int) + 1) 1 * cr r (j + 1) d) (by omega) hD (fun j x H2 H3 Q' hj s2 y kk => ?_) fun acc ns H2 e2 dn2 ln hn s2 => ?_⟩
    · obtain ⟨rfl, rfl⟩ := y
      obtain ⟨n, en⟩ : ∃ n, r[j + 1]? = some n := ⟨_, List.getElem?_eq_getElem (by omega)⟩
      obtain ⟨x, ex, dx⟩ := row_at ra en
      have ei : (1 : Int) + (j : Int) = ((j + 1 : Nat) : Int) := by omega
      refine ⟨rfl, _, rfl, _, rfl, .inr (.inl ⟨a, xs, _, x, rfl, rfl, SqT.of (s2 _ _ ea), by rw [ei]; exact atI_nat ex, _, rfl, ?_⟩)⟩
      refine ⟨x, n, _, 1, C, 9, L, ok, rfl, Dn.mono s2 _ _ dx, hr_.nu (List.mem_of_getElem? en), few, c1, by show _ < 512; omega, by decide, by decide, l64, by rw [show C + 9 + 1 = C + 10 by omega]; exact lt, by omega, fun m z H4 dz nz ez s4 => ?_⟩
      refine kk _ m H4 dz ⟨nz.1, fun d => ?_⟩ s4
      unfold cr
      rw [ez, getD_at en, Int.add_comm]
    · refine ⟨D, acc, rfl, .inl ⟨SqL.of e2, fun q hq => ?_⟩⟩
      have sq := snew (o := .tup acc) hq
      have lnr : ns.length = r.length - 1 := by omega
      have crn : ∀ (j : Nat) d, cr ns j d = Rat.divInt ((j : Int) + 1) 1 * cr r (j + 1) d := fun j d => by
        rcases Nat.lt_or_ge j ns.length with c | c
        · show co (ns.getD j []) d = _
          rw [getD_at (List.getElem?_eq_getElem c)]
          exact (hn j _ (List.getElem?_eq_getElem c)).2 d
        · rw [cr_off c, cr_off (by omega), Rat.mul_zero]
      refine k ns q _ (.tup upd_same (DnAll.mono sq _ _ dn2)) ⟨fun n hn' => ?_, fun z => ?_⟩ lnr crn (s2.trans sq)
      · obtain ⟨j, hj⟩ := List.mem_iff_getElem?.mp hn'
        exact (hn j n hj).1
      · have l0 : 0 < ns.length := by
          rcases Nat.eq_zero_or_pos ns.length with h | h
          · rw [List.length_eq_zero_iff.mp h] at z; cases z
          · exact h
        obtain ⟨d, hd⟩ := cr_last hr_.1 (fun e => by rw [e] at lnr; have : ns.length = 0 := lnr; omega)
        have e1 := crn (ns.length - 1) d
        rw [show ns.length - 1 + 1 = r.length - 1 by omega] at e1
        have e2' : cr ns (ns.length - 1) d = 0 := by
          rw [List.getLast?_eq_getElem?] at z
          unfold cr
          rw [getD_at z]
          rfl
        rw [e2'] at e1
        rcases Rat.mul_eq_zero.mp e1.symm with h | h
        · exact frac_ne (by decide) (by omega) h
        · exact hd h
end
end N3

namespace N3
open PySem PySem.Spec PyProof.Rows L2 N2
/-! ### poles of quotients -/
theorem encPl_shaped (p : Pl) : SeqAt.shaped (encPl p) = true := shaped_of (by simp [encPl, PyData.canLay0, PyData.canLayAll0]) (by simp [encPl, PyData.depth, PyData.depthAll])
theorem eqv_pl (p q : Pl) : PyData.eqv (encPl p) (encPl q) = decide (p = q) := by
  obtain ⟨a, b⟩ := p
  obtain ⟨c, d⟩ := q
  simp only [encPl, PyData.eqv, PyData.eqvAll, Bool.and_true]
  by_cases h1 : a = c
  · by_cases h2 : b = d
    · simp [h1, h2]
    · simp [h1, h2]
  · simp [h1]
theorem pw_take {α : Type} {r : α → α → Prop} {l : List α} (h : l.Pairwise r) {i : Nat} {x : α} (e : l[i]? = some x) : (∀ y ∈ l.take i, r y x) ∧ ∀ y ∈ l.drop (i + 1), r x y := by
  have hi : i < l.length := (List.getElem?_eq_some_iff.mp e).1
  have ed : l[i] = x := (List.getElem?_eq_some_iff.mp e).2
  rw [← List.take_append_drop i l, List.drop_eq_getElem_cons hi, ed, List.pairwise_append, List.pairwise_cons] at h
  exact ⟨fun y hy => h.2.2 y hy x List.mem_cons_self, fun y hy => h.2.1.1 y hy⟩
theorem mem_drop_at {α : Type} {l : List α} {i : Nat} {x : α} (e : l[i]? = some x) (y : α) : y ∈ l.drop i ↔ y = x ∨ y ∈ l.drop (i + 1) := by
  have hi : i < l.length := (List.getElem?_eq_some_iff.mp e).1
  have ed : l[i] = x := (List.getElem?_eq_some_iff.mp e).2
  rw [List.drop_eq_getElem_cons hi, ed, List.mem_cons]
theorem CTs.pw {ok : Int → Prop} : ∀ {ts : List Tl}, CTs ok ts → (ts.map (·.1)).Pairwise before
  | [], _ => .nil
  | t :: ts, h => by
    rw [List.map_cons, List.pairwise_cons]
    refine ⟨fun p hp => ?_, h.tail.pw⟩
    obtain ⟨s, hs, rfl⟩ := List.mem_map.mp hp
    exact h.up s hs
theorem spl_log {p : Pl} (h : SPl p) : p.1.natAbs.log2 < 1920 ∧ p.2.natAbs.log2 < 1920 := by
  have g : ∀ n : Nat, n ≤ 20 → n.log2 < 1920 := fun n hn => by
    rcases Nat.eq_zero_or_pos n with z | z
    · rw [z]; decide
    · have : n < 2 ^ 5 := by omega
      have := (Nat.log2_lt (by omega : n ≠ 0)).mpr this
      omega
  exact ⟨g _ h.1, g _ (by have := h.2; omega)⟩
def spPolesOf : Sp := fun vs H Q _ => ∃ (u : V) (q : Qt), vs = [u] ∧ Dn H u (encQ q) ∧ q.2.length ≤ 400 ∧
  ∀ (l : Addr) (xs : List V) (H' : Hp), H l = none → H' l = some (.lst xs) → DnAll H' xs ((q.2.map (·.1)).map encPl) → Same H H' → Q (.ref l) H'
def spAllPl : Sp := fun vs H Q _ => ∃ (u v : V) (q r : Qt) (ok : Int → Prop), vs = [u, v] ∧ Dn H u (encQ q) ∧ Dn H v (encQ r) ∧ CTs ok q.2 ∧ CTs ok r.2 ∧ (∀ t ∈ q.2, SPl t.1) ∧ (∀ t ∈ r.2, SPl t.1) ∧ q.2.length ≤ 400 ∧ r.2.length ≤ 400 ∧
  ∀ (l : Addr) (xs : List V) (ps : List Pl) (H' : Hp), H' l = some (.lst xs) → DnAll H' xs (ps.map encPl) → ps.Pairwise before → ps.length ≤ 800 → (∀ p, p ∈ ps ↔ p ∈ q.2.map (·.1) ∨ p ∈ r.2.map (·.1)) → Same H H' → Q (.ref l) H'
def spRowOf : Sp := fun vs H Q _ => ∃ (u c : V) (q : Qt) (p : Pl), vs = [u, c] ∧ Dn H u (encQ q) ∧ Dn H c (encPl p) ∧
  ∀ (v : V) (H' : Hp), Dn H' v (encR (tl q.2 p)) → Same H H' → Q v H'
/-- the poles that stand in a list so far -/
structure Mg (A B : List Pl) (k i : Nat) (ps : List Pl) : Prop where
  pw : ps.Pairwise before
  mem : ∀ p, p ∈ ps ↔ p ∈ A.take k ∨ p ∈ B.take i
  upA : ∀ p ∈ ps, ∀ s ∈ A.drop k, before p s
  upB : ∀ p ∈ ps, ∀ s ∈ B.drop i, before p s
  len : ps.length ≤ k + i
theorem Mg.stepA {A B : List Pl} {k i : Nat} {ps : List Pl} {a b : Pl} (m : Mg A B k i ps) (hA : A.Pairwise before) (hB : B.Pairwise before) (cA : ∀ p ∈ A, CPl p) (cB : ∀ p ∈ B, CPl p) (ea : A[k]? = some a) (eb : B[i]? = some b) (lt : before a b) : Mg A B (k + 1) i (ps ++ [a]) := by
  have da := mem_drop_at ea
  have db := mem_drop_at eb
  refine ⟨?_, fun p => ?_, fun p hp s hs => ?_, fun p hp s hs => ?_, by rw [List.length_append]; have := m.len; show _ + 1 ≤ _; omega⟩
  · rw [List.pairwise_append]
    exact ⟨m.pw, List.pairwise_singleton _ _, fun p hp s hs => by rw [List.mem_singleton.mp hs]; exact m.upA p hp a ((da a).mpr (.inl rfl))⟩
  · rw [List.mem_append, m.mem, mem_take_succ ea, List.mem_singleton]
    constructor
    · rintro ((h | h) | h)
      · exact .inl (.inl h)
      · exact .inr h
      · exact .inl (.inr h)
    · rintro ((h | h) | h)
      · exact .inl (.inl h)
      · exact .inr h
      · exact .inl (.inr h)
  · rcases List.mem_append.mp hp with hp | hp
    · exact m.upA p hp s ((da s).mpr (.inr hs))
    · rw [List.mem_singleton.mp hp]; exact (pw_take hA ea).2 s hs
  · rcases List.mem_append.mp hp with hp | hp
    · exact m.upB p hp s hs
    · rw [List.mem_singleton.mp hp]
      rcases (db s).mp hs with rfl | hs'
      · exact lt
      · have mb := List.mem_of_getElem? eb
        exact bf_tr (cA a (List.mem_of_getElem? ea)) (cB b mb) (cB s (List.mem_of_mem_drop hs)) lt ((pw_take hB eb).2 s hs')
theorem Mg.stepB {A B : List Pl} {k k' i : Nat} {ps : List Pl} {b : Pl} (m : Mg A B k i ps) (hB : B.Pairwise before) (eb : B[i]? = some b) (kk : k ≤ k') (h1 : ∀ p, p ∈ A.take k' ↔ p ∈ A.take k ∨ (k < k' ∧ p = b)) (h2 : ∀ s ∈ A.drop k', before b s) (h3 : ∀ s ∈ A.drop k', s ∈ A.drop k) : Mg A B k' (i + 1) (ps ++ [b]) := by
  have db := mem_drop_at eb
  refine ⟨?_, fun p => ?_, fun p hp s hs => ?_, fun p hp s hs => ?_, by rw [List.length_append]; have := m.len; show _ + 1 ≤ _; omega⟩
  · rw [List.pairwise_append]
    exact ⟨m.pw, List.pairwise_singleton _ _, fun p hp s hs => by rw [List.mem_singleton.mp hs]; exact m.upB p hp b ((db b).mpr (.inl rfl))⟩
  · rw [List.mem_append, m.mem, mem_take_succ eb, List.mem_singleton, h1]
    constructor
    · rintro ((h | h) | h)
      · exact .inl (.inl h)
      · exact .inr (.inl h)
      · exact .inr (.inr h)
    · rintro ((h | ⟨_, h⟩) | h | h)
      · exact .inl (.inl h)
      · exact .inr h
      · exact .inl (.inr h)
      · exact .inr h
  · rcases List.mem_append.mp hp with hp | hp
    · exact m.upA p hp s (h3 s hs)
    · rw [List.mem_singleton.mp hp]; exact h2 s hs
  · rcases List.mem_append.mp hp with hp | hp
    · exact m.upB p hp s ((db s).mpr (.inr hs))
    · rw [List.mem_singleton.mp hp]; exact (pw_take hB eb).2 s hs
theorem pl_at {H : Hp} {xs : List V} {ps : List Pl} (h : DnAll H xs (ps.map encPl)) {j : Nat} {p : Pl} (e : ps[j]? = some p) : ∃ a, xs[j]? = some (.ref a) ∧ H a = some (.tup [.int p.1, .int p.2]) := by
  obtain ⟨x, ex, dx⟩ := dn_at h (show (ps.map encPl)[j]? = some (encPl p) by rw [List.getElem?_map, e]; rfl)
  obtain ⟨a, rfl, ha⟩ := dn_pl dx
  exact ⟨a, ex, ha⟩
section
variable {P : Program} {w : World} {K : PySem.W.Frag} {mg : Str → Option Value} {base : Heap}
abbrev s_poles_of : Stmt := top 31
abbrev nsPOf : List Str := ["quotient", "pole", "_"]
theorem sc_poles_of : FnScope nsPOf ["quotient"] (defScope s_poles_of) := ⟨rfl, rfl, rfl, by decide +kernel, rfl, by decide +kernel, by decide +kernel⟩
theorem ok_poles_of {f  : Addr} {fd  : FuncData}  (F : Fun K "poles_of" "poles_of" s_poles_of f fd) (T : Bt mg)  : FnOk P w K mg base CX0 1 f fd ["quotient"] spPolesOf := by
  refine F.ok sc_poles_of (fun vs H Q E h => ?_) (fun cdv A outer s H vs Q E hr h => ?_)
  · obtain ⟨u, q, rfl, _⟩ := h
    rfl
  · obtain ⟨u, q, rfl, hu, hl, k⟩ := h
    refine ⟨_, pss_one (ps_ret (pe_lc (own := [("pole", 1), ("_", 2)]) (g := (gTup K 2 (gCons (gName 1) (gCons (gName 2) gNil)))) (tt := tYes) rfl sc_poles_of.nd (pi_tup (pe_ix (r := rIx K) ix_seq (pv 0) pe_int (fun _ _ => rfl))) (blkOk_by (own := [("pole", 1), ("_", 2)]) (N := nsPOf) (sc := defScope s_poles_of) (by decide +kernel)) (fun _ _ _ _ _ => pg_tup rfl (pgs_cons (pg_name (i := 1) sc_poles_of.nd rfl (Or.inl rfl)) (pgs_cons (pg_name (i := 2) sc_poles_of.nd rfl (Or.inl rfl)) pgs_nil))) (fun _ _ _ _ _ => pts_nil) (fun _ _ _ _ _ => (pv 1)))), ?_⟩
    obtain ⟨a, v1, v2, rfl, ea, d1, d2⟩ := dn_pair hu
    obtain ⟨a2, xs, rfl, e2, r2⟩ := dn_t d2
    have lx : xs.length = q.2.length := by rw [r2.length, List.length_map]
    refine ⟨_, rfl, .inr (.inl ⟨a, _, _, _, rfl, rfl, SqT.of ea, rfl, a2, rfl, ⟨_, SqT.of e2⟩, fun D hD => lc_enc (enc := encPl) encPl_tn (walk_tup (K := K) (a := a2) (xs := xs)) (fun H' s' => SqT.of (s' _ _ e2)) (fun j p => (q.2.map (·.1))[j]? = some p) (by omega) hD (fun j x H2 H3 Q' hj s2 y kk => ?_) fun acc ns H2 e3 dn ln hn s2 => ?_⟩)⟩
    · obtain ⟨rfl, hx⟩ := y
      obtain ⟨t, ax, p1, rv, et, rfl, hax, dr, dp⟩ := dn_rows r2 j x hx
      obtain ⟨ap, rfl, hap⟩ := dn_pl dp
      refine ⟨ax, _, rfl, SqT.of (s2 _ _ hax), rfl, _, _, rfl, _, _, rfl, rfl, rfl, _, rfl, ?_⟩
      exact kk _ t.1 _ (Dn.mono s2 _ _ dp) (by rw [List.getElem?_map, et]; rfl) (Same.refl _)
    · have e : ns = q.2.map (·.1) := by
        refine List.ext_getElem? fun j => ?_
        cases c : ns[j]? with
        | some p => exact (hn j p c).symm
        | none =>
          rw [List.getElem?_eq_none_iff] at c
          exact (List.getElem?_eq_none (by rw [List.length_map]; omega)).symm
      subst e
      exact k D acc H2 hD e3 dn s2
abbrev s_row_of_pole : Stmt := top 33
abbrev nsROf : List Str := ["quotient", "c", "pole", "row"]
theorem sc_row_of_pole : FnScope nsROf ["quotient", "c"] (defScope s_row_of_pole) := ⟨rfl, rfl, rfl, by decide +kernel, rfl, by decide +kernel, by decide +kernel⟩
theorem ok_row_of_pole {f  : Addr} {fd  : FuncData}  (F : Fun K "row_of_pole" "row_of_pole" s_row_of_pole f fd) (T : Bt mg)  : FnOk P w K mg base CX0 1 f fd ["quotient", "c"] spRowOf := by
  refine F.ok sc_row_of_pole (fun vs H Q E h => ?_) (fun cdv A outer s H vs Q E hr h => ?_)
  · obtain ⟨u, c, q, p, rfl, _⟩ := h
    rfl
  · obtain ⟨u, c, q, p, rfl, hu, hc, k⟩ := h
    refine ⟨_, pss_cons (ps_for PassesOwn.never rfl (pi_tup (pe_ix (r := rIx K) ix_seq (pv 0) pe_int (fun _ _ => rfl))) (pg_tup rfl (pgs_cons (pg_name (i := 2) sc_row_of_pole.nd rfl (Or.inl rfl)) (pgs_cons (pg_name (i := 3) sc_row_of_pole.nd rfl (Or.inl rfl)) pgs_nil)))
        (pss_one (ps_if (pt_cmpR (op_eqD hr.units) (pv 2) (pv 1) (nomark _))
          (pss_one (ps_ret (pv 3)))
          pss_nil)))
      (pss_one (ps_ret (pe_tup pa_nil))), ?_⟩
    obtain ⟨a, v1, v2, rfl, ea, d1, d2⟩ := dn_pair hu
    obtain ⟨a2, xs, rfl, e2, r2⟩ := dn_t d2
    have lx : xs.length = q.2.length := by rw [r2.length, List.length_map]
    refine ⟨_, rfl, .inr (.inl ⟨a, _, _, _, rfl, rfl, SqT.of ea, rfl, a2, rfl, ⟨_, SqT.of e2⟩, for_tup (K := K) (a := a2) (xs := xs) (fun i σ H' => (∃ x2 x3, σ = [some (.ref a), some c, x2, x3]) ∧ (∀ t ∈ q.2.take i, t.1 ≠ p) ∧ Same H H')
      ⟨⟨_, _, rfl⟩, fun t ht => by simp at ht, Same.refl _⟩ (fun i σ H' _ ⟨_, _, s'⟩ => SqT.of (s' _ _ e2)) ?_ ?_⟩)⟩
    · rintro i x σ H' hx ⟨⟨x2, x3, rfl⟩, no, s'⟩
      obtain ⟨t, ax, p1, rv, et, rfl, hax, dr, dp⟩ := dn_rows r2 i x hx
      refine ⟨ax, _, rfl, SqT.of (s' _ _ hax), rfl, _, _, rfl, _, _, rfl, rfl, ?_⟩
      refine ⟨_, rfl, _, rfl, encPl t.1, encPl p, tn_dp _ _ (encPl_tn _) (Dn.mono s' _ _ dp), tn_dp _ _ (encPl_tn _) (Dn.mono s' _ _ hc), encPl_shaped _, encPl_shaped _, _, rfl, ?_⟩
      rw [eqv_pl]
      refine ite_b (fun c1 => ?_) (fun c1 => ?_)
      · have c1' := of_decide_eq_true c1
        refine ⟨_, rfl, k rv H' ?_ s'⟩
        have : tl q.2 p = t.2 := by
          have e : q.2 = q.2.take i ++ t :: q.2.drop (i + 1) := by
            have hi : i < q.2.length := (List.getElem?_eq_some_iff.mp et).1
            have ed : q.2[i] = t := (List.getElem?_eq_some_iff.mp et).2
            rw [← ed, ← List.drop_eq_getElem_cons hi, List.take_append_drop]
          rw [e, tl_app, if_neg (fun m => by obtain ⟨s, hs, e'⟩ := List.mem_map.mp m; exact no s hs e')]
          exact if_pos c1'
        rw [this]
        exact Dn.mono s' _ _ dr
      · have c1' := of_decide_eq_false c1
        refine ⟨⟨_, _, rfl⟩, fun s hs => ?_, s'⟩
        rcases (mem_take_succ et s).mp hs with h | h
        · exact no s h
        · rw [h]; exact c1'
    · rintro σ H' ⟨⟨x2, x3, rfl⟩, no, s'⟩
      rw [lx, List.take_length] at no
      refine ⟨Nat.zero_le _, fun r hr' => k _ _ ?_ (s'.trans (snew hr'))⟩
      rw [tl_none no]
      exact .tup upd_same .nil
abbrev s_all_poles : Stmt := top 32
abbrev nsAPl : List Str := ["one", "other", "found", "waiting", "at", "pole"]
theorem sc_all_poles : FnScope nsAPl ["one", "other"] (defScope s_all_poles) := ⟨rfl, rfl, rfl, by decide +kernel, rfl, by decide +kernel, by decide +kernel⟩
theorem ok_all_poles {f f_poles_of f_comes_before : Addr} {fd d_poles_of d_comes_before : FuncData}  (F : Fun K "all_poles" "all_poles" s_all_poles f fd) (T : Bt mg) (p_poles_of : Kn P w K mg base 1 "poles_of" ["quotient"] spPolesOf f_poles_of d_poles_of) (p_comes_before : Kn P w K mg base 1 "comes_before" ["one", "other"] spBefore f_comes_before d_comes_before) : FnOk P w K mg base CX0 3 f fd ["one", "other"] spAllPl := by
  refine F.ok sc_all_poles (fun vs H Q E h => ?_) (fun cdv A outer s H vs Q E hr h => ?_)
  · obtain ⟨u, v, q, r, ok, rfl, _⟩ := h
    rfl
  · obtain ⟨u, v, q, r, ok, rfl, hu, hv, cq, cr_, sq, sr, lq, lr, k⟩ := h
    refine ⟨_, pss_cons (ps_set (i := 2) sc_all_poles.nd rfl (Or.inl rfl) (pe_lst pa_nil))
      (pss_cons (ps_set (i := 3) sc_all_poles.nd rfl (Or.inl rfl) (pe_call p_poles_of.ok (hr.mono (by decide)) rfl p_poles_of.mg p_poles_of.kp p_poles_of.bd .nil pass0 (pa_cons (pv 0) pa_nil)))
      (pss_cons (ps_set (i := 4) sc_all_poles.nd rfl (Or.inl rfl) pe_int)
      (pss_cons (ps_for PassesOwn.never rfl (pi_list (pe_call p_poles_of.ok (hr.mono (by decide)) rfl p_poles_of.mg p_poles_of.kp p_poles_of.bd .nil pass0 (pa_cons (pv 1) pa_nil))) (pg_name (i := 5) sc_all_poles.nd rfl (Or.inl rfl))
        (C8.pss_cut (ps_while PassesOwn.never (PW.pt (pw_and (pt_cmpR op_lt (pv 4) (pe_callB call_len (by rfl) T.len PySem.boot_len (pa_cons (pv 3) pa_nil)) (nomark _)) (pw_and1 (pt_val (pe_call p_comes_before.ok (hr.mono (by decide)) rfl p_comes_before.mg p_comes_before.kp p_comes_before.bd .nil pass0 (pa_cons (pe_ix (r := rIx K) ix_seq (pv 3) (pv 4) (fun _ _ => rfl)) (pa_cons (pv 5) pa_nil)))))))
          (pss_cons (ps_expr (pe_bm PySem.F.plainAttrs_list PySem.F.slot_list_append PySem.F.type_list_append mt_append (pv 2) (pa_cons (pe_ix (r := rIx K) ix_seq (pv 3) (pv 4) (fun _ _ => rfl)) pa_nil)))
          (pss_one (ps_aug (i := 4) sc_all_poles.nd rfl (.inl rfl) pe_int ip_add))))
        (C8.pss_cut (ps_if (PW.pt (pw_and (pt_cmpR op_lt (pv 4) (pe_callB call_len (by rfl) T.len PySem.boot_len (pa_cons (pv 3) pa_nil)) (nomark _)) (pw_and1 (pt_cmpR (op_eqD hr.units) (pe_ix (r := rIx K) ix_seq (pv 3) (pv 4) (fun _ _ => rfl)) (pv 5) (nomark _)))))
          (pss_one (ps_aug (i := 4) sc_all_poles.nd rfl (.inl rfl) pe_int ip_add))
          pss_nil)
        (pss_one (ps_expr (pe_bm PySem.F.plainAttrs_list PySem.F.slot_list_append PySem.F.type_list_append mt_append (pv 2) (pa_cons (pv 5) pa_nil)))))))
      (pss_one (ps_ret (pe_op op_cat (pv 2) (pe_slice sl_list (pv 3) (po_some (pv 4)) po_none))))))), ?_⟩
    refine ⟨Nat.zero_le _, fun fo hfo => ?_⟩
    have s0 := snew (o := .lst []) hfo
    refine ⟨_, rfl, u, q, rfl, Dn.mono s0 _ _ hu, lq, fun wa xs H1 nwa e1 d1 s1 => ?_⟩
    refine ⟨_, rfl, v, r, rfl, Dn.mono (s0.trans s1) _ _ hv, lr, fun wb ys H2 nwb e2 d2 s2 => ?_⟩
    obtain ⟨A_, eA⟩ : ∃ l, q.2.map (·.1) = l := ⟨_, rfl⟩
    obtain ⟨B_, eB⟩ : ∃ l, r.2.map (·.1) = l := ⟨_, rfl⟩
    have pwA : A_.Pairwise before := eA ▸ cq.pw
    have pwB : B_.Pairwise before := eB ▸ cr_.pw
    have sA : ∀ p ∈ A_, SPl p := fun p hp => by
      rw [← eA] at hp
      obtain ⟨t, ht, rfl⟩ := List.mem_map.mp hp
      exact sq t ht
    have sB : ∀ p ∈ B_, SPl p := fun p hp => by
      rw [← eB] at hp
      obtain ⟨t, ht, rfl⟩ := List.mem_map.mp hp
      exact sr t ht
    have lA : A_.length ≤ 400 := by rw [← eA, List.length_map]; exact lq
    have lB : B_.length ≤ 400 := by rw [← eB, List.length_map]; exact lr
    rw [eA] at d1
    rw [eB] at d2
    rw [eA, eB] at k
    have fo2 : H2 fo = some (.lst []) := s2 _ _ (s1 _ _ upd_same)
    have wa2 : H2 wa = some (.lst xs) := s2 _ _ e1
    have nwf : wa ≠ fo := (ne_of_none upd_same nwa).symm
    have nbf : wb ≠ fo := (ne_of_none (s1 _ _ upd_same) nwb).symm
    have d1' := DnAll.mono s2 _ _ d1
    have lxs : xs.length = A_.length := by rw [d1.length, List.length_map]
    have lys : ys.length = B_.length := by rw [d2.length, List.length_map]
    have s02 : Same H H2 := (s0.trans s1).trans s2
    have tup2 : ∀ {H' : Hp}, (∀ b o, H2 b = some o → b ≠ fo → H' b = some o) → TupS H2 H' := fun kk b zs e => kk b _ e (ne_of e fo2 (by intro z; cases z))
    have tpl : ∀ (ps : List Pl), ∀ d ∈ ps.map encPl, Tn d := fun ps => tn_maps encPl_tn ps
    refine ⟨wb, rfl, ⟨_, SqL.of e2⟩, for_list (K := K) (a := wb) (xs := ys) (fun i σ H' => ∃ (k : Nat) (ps : List Pl) (acc : List V) (x5 : Option V), σ = [some u, some v, some (.ref fo), some (.ref wa), some (.int (k : Int)), x5] ∧ H' fo = some (.lst acc) ∧ DnAll H' acc (ps.map encPl) ∧ Mg A_ B_ k i ps ∧ k ≤ A_.length ∧ ∀ b o, H2 b = some o → b ≠ fo → H' b = some o)
      ⟨0, [], [], none, rfl, fo2, .nil, ⟨.nil, fun p => by simp, fun p hp => by simp at hp, fun p hp => by simp at hp, by simp⟩, Nat.zero_le _, fun b o e _ => e⟩ (fun i σ H' _ ⟨_, _, _, _, _, _, _, _, _, kk⟩ => SqL.of (kk _ _ e2 nbf)) ?_ ?_⟩
    · rintro i x σ H3 hx ⟨k0, ps0, acc0, x5, rfl, f0, g0, m0, kl0, kk0⟩
      have hi : i < ys.length := (List.getElem?_eq_some_iff.mp hx).1
      obtain ⟨b, eb⟩ : ∃ b, B_[i]? = some b := ⟨_, List.getElem?_eq_getElem (by omega)⟩
      obtain ⟨bp, ex, hbp⟩ := pl_at d2 eb
      rw [ex] at hx
      cases hx
      have sb := sB b (List.mem_of_getElem? eb)
      refine ⟨fun σ H' => ∃ (k : Nat) (ps : List Pl) (acc : List V), σ = [some u, some v, some (.ref fo), some (.ref wa), some (.int (k : Int)), some (.ref bp)] ∧ H' fo = some (.lst acc) ∧ DnAll H' acc (ps.map encPl) ∧ Mg A_ B_ k i ps ∧ k ≤ A_.length ∧ (∀ b o, H2 b = some o → b ≠ fo → H' b = some o) ∧ (k = A_.length ∨ ∃ a, A_[k]? = some a ∧ ¬ before a b), ?_, ?_⟩
      · refine ⟨fun m σ H' => ∃ (k : Nat) (ps : List Pl) (acc : List V), σ = [some u, some v, some (.ref fo), some (.ref wa), some (.int (k : Int)), some (.ref bp)] ∧ H' fo = some (.lst acc) ∧ DnAll H' acc (ps.map encPl) ∧ Mg A_ B_ k i ps ∧ k ≤ A_.length ∧ (∀ b o, H2 b = some o → b ≠ fo → H' b = some o) ∧ m = A_.length - k, ⟨_, k0, ps0, acc0, rfl, f0, g0, m0, kl0, kk0, rfl⟩, ?_⟩
        rintro m σ H4 ⟨k1, ps, acc, rfl, f1, g1, mg1, kl, kk, rfl⟩
        have lacc : acc.length = ps.length := by rw [g1.length, List.length_map]
        have lps := mg1.len
        have wa4 : H4 wa = some (.lst xs) := kk _ _ wa2 nwf
        have bp4 : H4 bp = some (.tup [.int b.1, .int b.2]) := tup2 kk _ _ hbp
        refine ⟨_, rfl, _, rfl, .ref wa, xs.length, rfl, .inl ⟨xs, SqL.of wa4, rfl⟩, _, _, rfl, rfl, _, rfl, ite_b (fun c => ?_) (fun c => ?_)⟩
        · have c' : k1 < A_.length := by have := of_decide_eq_true c; omega
          obtain ⟨a, ea⟩ : ∃ a, A_[k1]? = some a := ⟨_, List.getElem?_eq_getElem c'⟩
          obtain ⟨ap, eap, hap⟩ := pl_at d1' ea
          have ap4 : H4 ap = some (.tup [.int a.1, .int a.2]) := tup2 kk _ _ hap
          have sa := sA a (List.mem_of_getElem? ea)
          refine ⟨_, rfl, _, rfl, .inl ⟨wa, xs, _, .ref ap, rfl, rfl, SqL.of wa4, atI_nat eap, _, rfl, ?_⟩⟩
          refine ⟨ap, bp, a, b, rfl, ap4, bp4, (spl_log sa).1, (spl_log sa).2, (spl_log sb).1, (spl_log sb).2, _, rfl, ite_b (fun c2 => ?_) (fun c2 => ?_)⟩
          · have lt := of_decide_eq_true c2
            refine ⟨fun σ' H' => σ' = [some u, some v, some (.ref fo), some (.ref wa), some (.int ((k1 + 1 : Nat) : Int)), some (.ref bp)] ∧ H' = upd H4 fo (.lst (acc ++ [.ref ap])), ?_, ?_⟩
            · rintro σ' H' ⟨rfl, rfl⟩
              have tp := lst_tups (o := .lst (acc ++ [.ref ap])) f1
              refine ⟨A_.length - (k1 + 1), by omega, k1 + 1, ps ++ [a], acc ++ [.ref ap], rfl, upd_same, ?_, mg1.stepA pwA pwB (fun p hp => (sA p hp).2.2.2) (fun p hp => (sB p hp).2.2.2) ea eb lt, by omega, fun z o eo nz => by rw [upd_ne nz]; exact kk z o eo nz, rfl⟩
              rw [List.map_append]
              exact DnAll.app (tnA_tups tp _ _ (tpl ps) g1) (.cons (.tup (tp _ _ ap4) (.cons (.int _) (.cons (.int _) .nil))) .nil)
            · refine ⟨_, rfl, .inl ⟨rfl, _, SqL.of f1⟩, _, rfl, _, rfl, .inl ⟨wa, xs, _, .ref ap, rfl, rfl, SqL.of wa4, atI_nat eap, fo, acc, _, rfl, rfl, f1, small1000 (by omega), ?_⟩⟩
              exact ⟨_, rfl, _, _, rfl, rfl, rfl, rfl⟩
          · exact ⟨k1, ps, acc, rfl, f1, g1, mg1, kl, kk, .inr ⟨a, ea, of_decide_eq_false c2⟩⟩
        · refine iteF ?_
          exact ⟨k1, ps, acc, rfl, f1, g1, mg1, kl, kk, .inl (by have := of_decide_eq_false c; omega)⟩
      · rintro σ H4 ⟨k1, ps, acc, rfl, f1, g1, mg1, kl, kk, hex⟩
        have lacc : acc.length = ps.length := by rw [g1.length, List.length_map]
        have lps := mg1.len
        have wa4 : H4 wa = some (.lst xs) := kk _ _ wa2 nwf
        have bp4 : H4 bp = some (.tup [.int b.1, .int b.2]) := tup2 kk _ _ hbp
        refine ⟨fun σ' H' => ∃ k' : Nat, σ' = [some u, some v, some (.ref fo), some (.ref wa), some (.int (k' : Int)), some (.ref bp)] ∧ H' = H4 ∧ k' ≤ A_.length ∧ Mg A_ B_ k' (i + 1) (ps ++ [b]), ?_, ?_⟩
        · refine ⟨_, rfl, _, rfl, .ref wa, xs.length, rfl, .inl ⟨xs, SqL.of wa4, rfl⟩, _, _, rfl, rfl, _, rfl, ite_b (fun c => ?_) (fun c => ?_)⟩
          · have c' : k1 < A_.length := by have := of_decide_eq_true c; omega
            rcases hex with h | ⟨a, ea, nb⟩
            · omega
            obtain ⟨ap, eap, hap⟩ := pl_at d1' ea
            have ap4 : H4 ap = some (.tup [.int a.1, .int a.2]) := tup2 kk _ _ hap
            have sa := sA a (List.mem_of_getElem? ea)
            have dA : ∀ {p : Addr} {x : Pl}, H4 p = some (.tup [.int x.1, .int x.2]) → Dn H4 (.ref p) (encPl x) := fun h => .tup h (.cons (.int _) (.cons (.int _) .nil))
            refine ⟨_, rfl, _, rfl, .inl ⟨wa, xs, _, .ref ap, rfl, rfl, SqL.of wa4, atI_nat eap, _, rfl, encPl a, encPl b, tn_dp _ _ (encPl_tn _) (dA ap4), tn_dp _ _ (encPl_tn _) (dA bp4), encPl_shaped _, encPl_shaped _, _, rfl, ?_⟩⟩
            rw [eqv_pl]
            refine ite_b (fun c2 => ?_) (fun c2 => ?_)
            · have ab : a = b := of_decide_eq_true c2
              subst ab
              refine ⟨_, rfl, _, _, rfl, rfl, k1 + 1, rfl, rfl, by omega, mg1.stepB pwB eb (by omega) (fun p => ?_) (pw_take pwA ea).2 (fun s hs => (mem_drop_at ea s).mpr (.inr hs))⟩
              rw [mem_take_succ ea]
              exact ⟨fun h => h.imp id fun e => ⟨by omega, e⟩, fun h => h.imp id fun e => e.2⟩
            · have ab : a ≠ b := of_decide_eq_false c2
              refine ⟨k1, rfl, rfl, kl, mg1.stepB pwB eb (Nat.le_refl _) (fun p => ⟨.inl, fun h => h.elim id fun e => absurd e.1 (Nat.lt_irrefl _)⟩) (fun s hs => ?_) (fun s hs => hs)⟩
              have ba : before b a := by
                by_cases h : before b a
                · exact h
                · exact absurd (bf_tot sa.2.2.2 sb.2.2.2 nb h) ab
              rcases (mem_drop_at ea s).mp hs with rfl | hs'
              · exact ba
              · exact bf_tr sb.2.2.2 sa.2.2.2 (sA s (List.mem_of_mem_drop hs')).2.2.2 ba ((pw_take pwA ea).2 s hs')
          · have c' : k1 = A_.length := by have := of_decide_eq_false c; omega
            refine iteF ?_
            refine ⟨k1, rfl, rfl, kl, mg1.stepB pwB eb (Nat.le_refl _) (fun p => ⟨.inl, fun h => h.elim id fun e => absurd e.1 (Nat.lt_irrefl _)⟩) (fun s hs => ?_) (fun s hs => hs)⟩
            rw [c', List.drop_length] at hs
            cases hs
        · rintro σ H5 ⟨k', rfl, rfl, kl', mg2⟩
          have tp := lst_tups (o := .lst (acc ++ [.ref bp])) f1
          refine ⟨_, rfl, .inl ⟨rfl, _, SqL.of f1⟩, _, rfl, fo, acc, _, rfl, rfl, f1, small1000 (by omega), ?_⟩
          refine ⟨k', ps ++ [b], acc ++ [.ref bp], _, rfl, upd_same, ?_, mg2, kl', fun z o eo nz => by rw [upd_ne nz]; exact kk z o eo nz⟩
          rw [List.map_append]
          exact DnAll.app (tnA_tups tp _ _ (tpl ps) g1) (.cons (.tup (tp _ _ bp4) (.cons (.int _) (.cons (.int _) .nil))) .nil)
    · rintro σ H3 ⟨k1, ps, acc, x5, rfl, f1, g1, mg1, kl, kk⟩
      rw [lys] at mg1
      have wa3 : H3 wa = some (.lst xs) := kk _ _ wa2 nwf
      have s3 : Same H H3 := fun b o e => kk _ _ (s02 _ _ e) (ne_of_none e hfo)
      refine ⟨_, rfl, _, rfl, _, rfl, _, rfl, ?_⟩
      dsimp only [tNoPart]
      refine ⟨wa, xs, rfl, SqL.of wa3, fun p hp => ?_⟩
      have sp := snew (o := .lst (cutV xs (some (k1 : Int)) none)) hp
      rw [cutFrom _ _ (by omega)] at sp ⊢
      have lps := mg1.len
      have lacc : acc.length = ps.length := by rw [g1.length, List.length_map]
      refine ⟨fo, p, acc, xs.drop k1, rfl, rfl, sp _ _ f1, upd_same, by rw [List.length_drop]; exact Nat.le_of_lt (small1000 (by omega)), fun z hz => ?_⟩
      have sz := sp.trans (snew (o := .lst (acc ++ xs.drop k1)) hz)
      refine k z _ (ps ++ A_.drop k1) _ upd_same ?_ ?_ (by rw [List.length_append, List.length_drop]; omega) (fun y => ?_) (s3.trans sz)
      · rw [List.map_append, List.map_drop]
        exact DnAll.app (DnAll.mono sz _ _ g1) (DnAll.mono sz _ _ (tnA_tups (tup2 kk) _ _ (fun d hd => tpl A_ d (List.mem_of_mem_drop hd)) (dnAll_drop' d1' k1)))
      · rw [List.pairwise_append]
        exact ⟨mg1.pw, pwA.drop, fun y hy s hs => mg1.upA y hy s hs⟩
      · rw [List.mem_append, mg1.mem, List.take_length]
        have e : y ∈ A_ ↔ y ∈ A_.take k1 ∨ y ∈ A_.drop k1 := by rw [← List.mem_append, List.take_append_drop]
        rw [e]
        constructor
        · rintro ((h | h) | h)
          · exact .inl (.inl h)
          · exact .inr h
          · exact .inl (.inr h)
        · rintro ((h | h) | h)
          · exact .inl (.inl h)
          · exact .inr h
          · exact .inl (.inr h)
end
end N3

namespace N3
open PySem PySem.Spec PyProof.Rows L2 N2
/-! ### quotients out of rows, sums and slopes -/
def spFromRows (K : PySem.W.Frag) : Sp := fun vs H Q _ => ∃ (w : V) (lp lr : Addr) (xs ys : List V) (r0 : List Nm) (ps : List Pl) (rs : List (List Nm)) (ok : Int → Prop), vs = [w, .ref lp, .ref lr] ∧ Dn H w (encR r0) ∧ SqL K H lp xs ∧ DnAll H xs (ps.map encPl) ∧ SqL K H lr ys ∧ DnAll H ys (rs.map encR) ∧ ps.length = rs.length ∧ ps.length ≤ 800 ∧
  ps.Pairwise before ∧ (∀ p ∈ ps, CPl p) ∧ (∀ r ∈ rs, CR ok r) ∧ CR ok r0 ∧
  ∀ (q : Qt) (a : Addr) (H' : Hp), Dn H' (.ref a) (encQ q) → CQ ok q → q.1 = r0 → (∀ (i : Nat) p r, ps[i]? = some p → rs[i]? = some r → tl q.2 p = r) → (∀ p, p ∉ ps → tl q.2 p = []) → Same H H' → Q (.ref a) H'
/-- sums -/
def spQSum : Sp := fun vs H Q _ => ∃ (u v : V) (q r : Qt) (C W M T T' L : Nat) (ok : Int → Prop), vs = [u, v] ∧ Dn H u (encQ q) ∧ Dn H v (encQ r) ∧ QZ ok C W M T q ∧ QZ ok C W M T' r ∧ W ≤ 60 ∧ M ≤ 60 ∧ T ≤ 100 ∧ T' ≤ 100 ∧ Few ok L ∧ 1 ≤ C ∧ L < 32 ∧ 2 * L * (C + 2) ≤ 7900 ∧ C + 2 ≤ 7900 ∧
  ∀ (s : Qt) (a : Addr) (H' : Hp), Dn H' (.ref a) (encQ s) → CQ ok s → QSum q r s → Same H H' → Q (.ref a) H'
/-- slopes -/
def spQSlo : Sp := fun vs H Q _ => ∃ (u : V) (q : Qt) (C W M T L : Nat) (ok : Int → Prop), vs = [u] ∧ Dn H u (encQ q) ∧ QZ ok C W M T q ∧ W ≤ 60 ∧ M ≤ 60 ∧ T ≤ 200 ∧ Few ok L ∧ 1 ≤ C ∧ L < 32 ∧ L * (C + 10) ≤ 7900 ∧ C + 10 ≤ 7900 ∧
  ∀ (s : Qt) (a : Addr) (H' : Hp), Dn H' (.ref a) (encQ s) → CQ ok s → QSlo q s → s.1.length = q.1.length - 1 → s.2.map (fun t => (t.1, t.2.length)) = q.2.map (fun t => (t.1, t.2.length + 1)) → (∀ t ∈ s.2, t.2.head? = some []) → Same H H' → Q (.ref a) H'
theorem QZ.rz {ok : Int → Prop} {C W M T : Nat} {q : Qt} (h : QZ ok C W M T q) (hW : W ≤ 60) : RZ ok C q.1 := ⟨h.cq.1, h.zw, by have := h.lw; omega⟩
theorem QZ.rzt {ok : Int → Prop} {C W M T : Nat} {q : Qt} (h : QZ ok C W M T q) (hM : M ≤ 60) (p : Pl) : RZ ok C (tl q.2 p) := ⟨(h.row p).1, (h.row p).2.2, by have := (h.row p).2.1; omega⟩
section
variable {P : Program} {w : World} {K : PySem.W.Frag} {mg : Str → Option Value} {base : Heap}
abbrev s_slope_row : Stmt := top 36
abbrev nsSRow : List Str := ["row", "k"]
theorem sc_slope_row : FnScope nsSRow ["row"] (defScope s_slope_row) := ⟨rfl, rfl, rfl, by decide +kernel, rfl, by decide +kernel, by decide +kernel⟩
theorem ok_slope_row {f f_scaled : Addr} {fd d_scaled : FuncData}  (F : Fun K "slope_row" "slope_row" s_slope_row f fd) (T : Bt mg) (p_scaled : Kn P w K mg base 4 "scaled" ["number", "top", "bottom"] spScaled f_scaled d_scaled) : FnOk P w K mg base CX0 5 f fd ["row"] spSRow := by
  refine F.ok sc_slope_row (fun vs H Q E h => ?_) (fun cdv A outer s H vs Q E hr h => ?_)
  · obtain ⟨u, r, C, L, ok, rfl, _⟩ := h
    rfl
  · obtain ⟨u, r, C, L, ok, rfl, hu, hr_, rne, few, c1, l64, lt, cw, k⟩ := h
    refine ⟨_, pss_one (ps_ret (pe_op op_catT (pe_tup (pa_cons (pe_tup pa_nil) pa_nil)) (pe_callTy call_tuple_of (by rfl) T.tuple (by decide +kernel) (pa_cons (pe_lc (own := [("k", 1)]) (g := (gName 1)) (tt := tYes) rfl sc_slope_row.nd (pi_range1 rfl T.range (pa_cons (pe_callB call_len (by rfl) T.len PySem.boot_len (pa_cons (pv 0) pa_nil)) pa_nil)) (blkOk_by (own := [("k", 1)]) (N := nsSRow) (sc := defScope s_slope_row) (by decide +kernel)) (fun _ _ _ _ _ => pg_name (i := 1) sc_slope_row.nd rfl (Or.inl rfl)) (fun _ _ _ _ _ => pts_nil) (fun _ _ _ _ _ => (pe_call p_scaled.ok (hr.mono (by decide)) rfl p_scaled.mg p_scaled.kp p_scaled.bd .nil pass0 (pa_cons (pe_ix (r := rIx K) ix_seq (pv 0) (pv 1) (fun _ _ => rfl)) (pa_cons (pe_op op_sub (pe_un un_neg (pv 1)) pe_int) (pa_cons pe_int pa_nil)))))) pa_nil)))), ?_⟩
    obtain ⟨a, xs, rfl, ea, ra⟩ := dn_R hu
    have la : xs.length = r.length := by rw [ra.length, List.length_map]
    have l1 := hr_.2.2
    have l0 := List.length_pos_iff.mpr rne
    have sl1 : 1 ≤ sizeLine := by rw [sizeLine_eq]; decide
    refine ⟨Nat.zero_le _, fun p0 hp0 => ⟨sl1, fun p1 hp1 => ?_⟩⟩
    have s1 := snew (o := .tup []) hp0
    have s2 := snew (o := .tup [.ref p0]) hp1
    have s12 := s1.trans s2
    refine ⟨_, rfl, .ref a, xs.length, rfl, .inr ⟨xs, SqT.of (s12 _ _ ea), rfl⟩, _, rfl, by omega, by omega, fun D hD => lc_enc (enc := encN) encN_tn (walk_range (lo := 0) (n := xs.length)) (fun _ _ => trivial) (fun j m => CN ok m ∧ ∀ d, co m d = Rat.divInt (-(j : Int) - 1) 1 * cr r j d) (by omega) hD (fun j x H2 H3 Q' hj s3 y kk => ?_) fun acc ns H2 e2 dn2 ln hn s3 => ?_⟩
    · obtain ⟨rfl, rfl⟩ := y
      obtain ⟨n, en⟩ : ∃ n, r[j]? = some n := ⟨_, List.getElem?_eq_getElem (by omega)⟩
      obtain ⟨x, ex, dx⟩ := row_at ra en
      refine ⟨rfl, _, rfl, _, rfl, .inr (.inl ⟨a, xs, _, x, rfl, rfl, SqT.of (s3 _ _ (s12 _ _ ea)), by rw [Int.zero_add]; exact atI_nat ex, _, rfl, _, rfl, _, _, rfl, rfl, ?_⟩)⟩
      refine ⟨x, n, _, 1, C, 9, L, ok, rfl, Dn.mono (s12.trans s3) _ _ dx, hr_.nu (List.mem_of_getElem? en), few, c1, by show _ < 512; omega, by decide, by decide, l64, by rw [show C + 9 + 1 = C + 10 by omega]; exact lt, by omega, fun m z H4 dz nz ez s4 => ?_⟩
      refine kk _ m H4 dz ⟨nz.1, fun d => ?_⟩ s4
      unfold cr
      rw [ez, getD_at en, Int.zero_add]
    · refine ⟨D, acc, rfl, .inl ⟨SqL.of e2, fun q hq => ?_⟩⟩
      have sq := snew (o := .tup acc) hq
      have lac : acc.length = ns.length := by rw [dn2.length, List.length_map]
      have ane : acc ≠ [] := fun z => by rw [z] at lac; simp at lac; omega
      have crn : ∀ (j : Nat) d, cr ns j d = Rat.divInt (-(j : Int) - 1) 1 * cr r j d := fun j d => by
        rcases Nat.lt_or_ge j ns.length with c | c
        · show co (ns.getD j []) d = _
          rw [getD_at (List.getElem?_eq_getElem c)]
          exact (hn j _ (List.getElem?_eq_getElem c)).2 d
        · rw [cr_off c, cr_off (by omega), Rat.mul_zero]
      refine ⟨p1, q, [.ref p0], acc, rfl, rfl, SqT.of (sq _ _ (s3 _ _ upd_same)), SqT.of upd_same, by simp, ?_, fun z => absurd z ane, fun _ p hp => ?_⟩
      · show 1 + acc.length ≤ sizeLine
        exact Nat.le_of_lt (small1000 (by omega))
      · have sp := sq.trans (snew (o := .tup ([V.ref p0] ++ acc)) hp)
        refine k ns p _ (.tup upd_same (.cons (.tup (sp _ _ (s3 _ _ (s2 _ _ upd_same))) .nil) (DnAll.mono sp _ _ dn2))) ⟨fun n hn' => ?_, fun z => ?_⟩ (by omega) crn ((s12.trans s3).trans sp)
        · rcases List.mem_cons.mp hn' with rfl | hn'
          · exact CN.nil
          · obtain ⟨j, hj⟩ := List.mem_iff_getElem?.mp hn'
            exact (hn j n hj).1
        · have lnr : ns.length = r.length := by omega
          have e : ns[ns.length - 1]? = some [] := by
            rw [List.getLast?_eq_getElem?] at z
            have : ([] :: ns).length - 1 = (ns.length - 1) + 1 := by rw [List.length_cons]; omega
            rw [this] at z
            simpa using z
          obtain ⟨d, hd⟩ := cr_last hr_.1 rne
          have e1 := crn (ns.length - 1) d
          have e2' : cr ns (ns.length - 1) d = 0 := by
            unfold cr
            rw [getD_at e]
            rfl
          rw [e2', lnr] at e1
          rcases Rat.mul_eq_zero.mp e1.symm with h | h
          · exact frac_ne (by decide) (by omega) h
          · exact hd h
abbrev s_from_rows : Stmt := top 34
abbrev nsFRow : List Str := ["whole", "poles", "rows", "pole", "row"]
theorem sc_from_rows : FnScope nsFRow ["whole", "poles", "rows"] (defScope s_from_rows) := ⟨rfl, rfl, rfl, by decide +kernel, rfl, by decide +kernel, by decide +kernel⟩
theorem ok_from_rows {f  : Addr} {fd  : FuncData}  (F : Fun K "from_rows" "from_rows" s_from_rows f fd) (T : Bt mg)  : FnOk P w K mg base CX0 1 f fd ["whole", "poles", "rows"] (spFromRows K) := by
  refine F.ok sc_from_rows (fun vs H Q E h => ?_) (fun cdv A outer s H vs Q E hr h => ?_)
  · obtain ⟨w_, lp, lr, xs, ys, r0, ps, rs, ok, rfl, _⟩ := h
    rfl
  · obtain ⟨w_, lp, lr, xs, ys, r0, ps, rs, ok, rfl, hw, hx, dx, hy, dy, ll, l8, pw, cp, crs, cr0, k⟩ := h
    refine ⟨_, pss_one (ps_ret (pe_tup (pa_cons (pv 0) (pa_cons (pe_callTy call_tuple_of (by rfl) T.tuple (by decide +kernel) (pa_cons (pe_lc (own := [("pole", 3), ("row", 4)]) (g := (gTup K 2 (gCons (gName 3) (gCons (gName 4) gNil)))) (tt := _) rfl sc_from_rows.nd (pi_zip (by rfl) T.zip (pa_cons (pv 1) (pa_cons (pv 2) pa_nil))) (blkOk_by (own := [("pole", 3), ("row", 4)]) (N := nsFRow) (sc := defScope s_from_rows) (by decide +kernel)) (fun _ _ _ _ _ => pg_tup rfl (pgs_cons (pg_name (i := 3) sc_from_rows.nd rfl (Or.inl rfl)) (pgs_cons (pg_name (i := 4) sc_from_rows.nd rfl (Or.inl rfl)) pgs_nil))) (fun _ _ _ _ _ => pts_one (pt_cmpR (op_neDK (K := K) rfl hr.units) (pv 4) (pe_tup pa_nil) (nomark _))) (fun _ _ _ _ _ => (pe_tup (pa_cons (pv 3) (pa_cons (pv 4) pa_nil))))) pa_nil)) pa_nil)))), ?_⟩
    have lx : xs.length = ps.length := by rw [dx.length, List.length_map]
    have ly : ys.length = rs.length := by rw [dy.length, List.length_map]
    have s2z : 2 ≤ sizeLine := by rw [sizeLine_eq]; decide
    refine ⟨_, rfl, _, rfl, _, rfl, lp, lr, xs, ys, rfl, hx, hy, fun D hD => lc_it (walk_zip (K := K) (a := lp) (b := lr) (xs := xs) (ys := ys) (n := ps.length) (by omega)) (fun i H' => ∃ (acc : List V) (us : List Tl), H' D = some (.lst acc) ∧ DnAll H' acc (us.map encTl) ∧ us.length ≤ i ∧ CTs ok us ∧ (∀ t ∈ us, t.1 ∈ ps.take i) ∧ (∀ (j : Nat) p r, j < i → ps[j]? = some p → rs[j]? = some r → tl us p = r) ∧ Same H H')
      ⟨[], [], upd_same, .nil, Nat.le_refl _, CTs.nil, fun t ht => by simp at ht, fun j p r h => by omega, snew hD⟩ (fun i H' _ ⟨_, _, _, _, _, _, _, _, s'⟩ => ⟨sqL_same s' hx, sqL_same s' hy⟩) ?_ ?_⟩
    · rintro i v H1 H2 hi ⟨acc, us, e1, d1, l1, c1, u1, t1, s1⟩ ⟨T_, x, y, rfl, nT, rfl, ex, ey⟩
      obtain ⟨p, ep⟩ : ∃ p, ps[i]? = some p := ⟨_, List.getElem?_eq_getElem hi⟩
      obtain ⟨r, er⟩ : ∃ r, rs[i]? = some r := ⟨_, List.getElem?_eq_getElem (by omega)⟩
      obtain ⟨x', ex', dx'⟩ := dn_at dx (show (ps.map encPl)[i]? = some (encPl p) by rw [List.getElem?_map, ep]; rfl)
      obtain ⟨y', ey', dy'⟩ := dn_at dy (show (rs.map encR)[i]? = some (encR r) by rw [List.getElem?_map, er]; rfl)
      rw [show xs[i]? = some x from ex] at ex'
      rw [show ys[i]? = some y from ey] at ey'
      cases ex'
      cases ey'
      have sT := snew (o := .tup [x, y]) nT
      have lacc : acc.length = us.length := by rw [d1.length, List.length_map]
      have tk := mem_take_succ ep
      have below := (pw_take pw ep).1
      have nin : p ∉ ps.take i := fun m => bf_irr (below p m) rfl
      refine ⟨T_, _, rfl, SqT.of upd_same, rfl, _, _, rfl, _, _, rfl, rfl, rfl, ?_⟩
      refine ⟨_, rfl, Nat.zero_le _, fun q hq => ⟨encR r, .tuple [], tn_dp _ _ (encR_tn _) (Dn.mono ((s1.trans sT).trans (snew hq)) _ _ dy'), .tup (SqT.of upd_same) .nil, encR_shaped _, rfl, _, rfl, ?_⟩⟩
      rw [eqv_nil_d (encR_tn _)]
      have s4 := sT.trans (snew (o := .tup []) hq)
      have unin : p ∉ us.map (·.1) := fun m => by obtain ⟨t, ht, e⟩ := List.mem_map.mp m; exact nin (e ▸ u1 t ht)
      refine ite_b (fun c => ?_) (fun c => ?_)
      · have rne : r ≠ [] := fun z => by rw [z] at c; cases c
        refine ⟨_, rfl, _, rfl, s2z, fun z hz => ?_⟩
        have s5 := s4.trans (snew (o := .tup [x, y]) hz)
        have e5 := s5 _ _ e1
        have up := lst_tups (o := .lst (acc ++ [.ref z])) e5
        refine ⟨acc, e5, small1000 (by omega), acc ++ [.ref z], us ++ [(p, r)], upd_same, ?_, by rw [List.length_append]; show us.length + 1 ≤ _; omega, c1.snoc ⟨cp p (List.mem_of_getElem? ep), crs r (List.mem_of_getElem? er), rne⟩ (fun s hs' => below _ (u1 s hs')), fun t ht => ?_, fun j p' r' hj ep' er' => ?_, fun b o e => ?_⟩
        · rw [List.map_append]
          refine DnAll.app (tnA_tups ((Same.tups s5).trans up) _ _ (tn_maps encTl_tn us) d1) (.cons (.tup (up _ _ upd_same) (.cons ?_ (.cons ?_ .nil))) .nil)
          · exact tn_tups up _ _ (encPl_tn _) (Dn.mono (s1.trans s5) _ _ dx')
          · exact tn_tups up _ _ (encR_tn _) (Dn.mono (s1.trans s5) _ _ dy')
        · rcases List.mem_append.mp ht with ht | ht
          · exact (tk _).mpr (.inl (u1 t ht))
          · rw [List.mem_singleton.mp ht]
            exact (tk _).mpr (.inr rfl)
        · have one : tl [(p, r)] p' = if p = p' then r else [] := rfl
          rw [tl_app, one]
          rcases Nat.lt_or_ge j i with h | h
          · have := t1 j p' r' h ep' er'
            by_cases m : p' ∈ us.map (·.1)
            · rw [if_pos m]; exact this
            · rw [if_neg m, if_neg (show ¬ p = p' from fun e => nin (by
                rw [e, List.mem_iff_getElem?]
                exact ⟨j, by rw [List.getElem?_take_of_lt h]; exact ep'⟩))]
              rw [tl_off m] at this
              exact this
          · have : j = i := by omega
            subst this
            rw [ep] at ep'
            rw [er] at er'
            cases ep'
            cases er'
            rw [if_neg unin, if_pos rfl]
        · rw [upd_ne (ne_of_none e hD)]
          exact s5 _ _ (s1 _ _ e)
      · have rn : r = [] := by
          cases r with
          | nil => rfl
          | cons _ _ => cases c
        refine ⟨acc, us, s4 _ _ e1, tnA_tups (Same.tups s4) _ _ (tn_maps encTl_tn us) d1, by omega, c1, fun t ht => (tk _).mpr (.inl (u1 t ht)), fun j p' r' hj ep' er' => ?_, s1.trans s4⟩
        rcases Nat.lt_or_ge j i with h | h
        · exact t1 j p' r' h ep' er'
        · have : j = i := by omega
          subst this
          rw [ep] at ep'
          rw [er] at er'
          cases ep'
          cases er'
          rw [tl_off unin, rn]
    · rintro H1 ⟨acc, us, e1, d1, l1, c1, u1, t1, s1⟩
      refine ⟨D, acc, rfl, .inl ⟨SqL.of e1, fun l2 hl2 => ⟨s2z, fun p hp => ?_⟩⟩⟩
      have s4 := (snew (o := .tup acc) hl2).trans (snew (o := .tup [w_, .ref l2]) hp)
      refine k (r0, us) p _ (.tup upd_same (.cons (Dn.mono (s1.trans s4) _ _ hw) (.cons (.tup ?_ (DnAll.mono s4 _ _ d1)) .nil))) ⟨cr0, c1⟩ rfl (fun i p' r' ep' er' => t1 i p' r' (List.getElem?_eq_some_iff.mp ep').1 ep' er') (fun p' hp' => ?_) (s1.trans s4)
      · rw [upd_ne (ne_of_none upd_same hp)]; exact upd_same
      · rw [List.take_length] at u1
        exact tl_off fun m => by obtain ⟨t, ht, e⟩ := List.mem_map.mp m; exact hp' (e ▸ u1 t ht)
abbrev s_quotient_sum : Stmt := top 35
abbrev nsQSum : List Str := ["one", "other", "poles", "rows", "c"]
theorem sc_quotient_sum : FnScope nsQSum ["one", "other"] (defScope s_quotient_sum) := ⟨rfl, rfl, rfl, by decide +kernel, rfl, by decide +kernel, by decide +kernel⟩
theorem ok_quotient_sum {f f_all_poles f_row_of_pole f_row_sum f_from_rows : Addr} {fd d_all_poles d_row_of_pole d_row_sum d_from_rows : FuncData}  (F : Fun K "quotient_sum" "quotient_sum" s_quotient_sum f fd) (T : Bt mg) (p_all_poles : Kn P w K mg base 3 "all_poles" ["one", "other"] spAllPl f_all_poles d_all_poles) (p_row_of_pole : Kn P w K mg base 1 "row_of_pole" ["quotient", "c"] spRowOf f_row_of_pole d_row_of_pole) (p_row_sum : Kn P w K mg base 5 "row_sum" ["one", "other"] spRSum f_row_sum d_row_sum) (p_from_rows : Kn P w K mg base 1 "from_rows" ["whole", "poles", "rows"] (spFromRows K) f_from_rows d_from_rows) : FnOk P w K mg base CX0 6 f fd ["one", "other"] spQSum := by
  refine F.ok sc_quotient_sum (fun vs H Q E h => ?_) (fun cdv A outer s H vs Q E hr h => ?_)
  · obtain ⟨u, v, q, r, C, W, M, T', T2, L, ok, rfl, _⟩ := h
    rfl
  · obtain ⟨u, v, q, r, C, W, M, T', T2, L, ok, rfl, hu, hv, zq, zr, hW, hM, hT, hT2, few, c1, l32, lt, cw, k⟩ := h
    refine ⟨_, pss_cons (ps_set (i := 2) sc_quotient_sum.nd rfl (Or.inl rfl) (pe_call p_all_poles.ok (hr.mono (by decide)) rfl p_all_poles.mg p_all_poles.kp p_all_poles.bd .nil pass0 (pa_cons (pv 0) (pa_cons (pv 1) pa_nil))))
      (pss_cons (ps_setLc (i := 3) (own := [("c", 4)]) (g := (gName 4)) (tt := tYes) rfl sc_quotient_sum.nd rfl rfl (sw_true rfl rfl (by rfl) (by rfl)) (pi_list (pv 2)) (blkOk_by (own := [("c", 4)]) (N := nsQSum) (sc := defScope s_quotient_sum) (by decide +kernel)) (fun _ _ _ _ _ => pg_name (i := 4) sc_quotient_sum.nd rfl (Or.inl rfl)) (fun _ _ _ _ _ => pts_nil) (fun _ _ _ _ _ => (pe_call p_row_sum.ok (hr.mono (by decide)) rfl p_row_sum.mg p_row_sum.kp p_row_sum.bd .nil pass0 (pa_cons (pe_call p_row_of_pole.ok (hr.mono (by decide)) rfl p_row_of_pole.mg p_row_of_pole.kp p_row_of_pole.bd .nil pass0 (pa_cons (pv 0) (pa_cons (pv 4) pa_nil))) (pa_cons (pe_call p_row_of_pole.ok (hr.mono (by decide)) rfl p_row_of_pole.mg p_row_of_pole.kp p_row_of_pole.bd .nil pass0 (pa_cons (pv 1) (pa_cons (pv 4) pa_nil))) pa_nil)))))
      (pss_one (ps_ret (pe_call p_from_rows.ok (hr.mono (by decide)) rfl p_from_rows.mg p_from_rows.kp p_from_rows.bd .nil pass0 (pa_cons (pe_call p_row_sum.ok (hr.mono (by decide)) rfl p_row_sum.mg p_row_sum.kp p_row_sum.bd .nil pass0 (pa_cons (pe_ix (r := rIx K) ix_seq (pv 0) pe_int (fun _ _ => rfl)) (pa_cons (pe_ix (r := rIx K) ix_seq (pv 1) pe_int (fun _ _ => rfl)) pa_nil))) (pa_cons (pv 2) (pa_cons (pv 3) pa_nil))))))), ?_⟩
    have lq := zq.lt
    have lr := zr.lt
    refine ⟨_, rfl, _, rfl, u, v, q, r, ok, rfl, hu, hv, zq.cq.2, zr.cq.2, zq.pl, zr.pl, by omega, by omega, fun lp xs ps H1 e1 d1 pw lps mem s1 => ?_⟩
    have lx : xs.length = ps.length := by rw [d1.length, List.length_map]
    refine ⟨_, rfl, lp, rfl, ⟨_, SqL.of e1⟩, fun D hD => lc_enc (enc := encR) encR_tn (walk_list (K := K) (a := lp) (xs := xs)) (fun H' s' => SqL.of (s' _ _ e1)) (fun j t => CR ok t ∧ ∀ p, ps[j]? = some p → ∀ k d, cr t k d = cr (tl q.2 p) k d + cr (tl r.2 p) k d) (by omega) hD (fun j x H2 H3 Q' hj s2 y kk => ?_) fun acc rs H2 e2 d2 ln hn s2 => ?_⟩
    · obtain ⟨rfl, hx⟩ := y
      obtain ⟨p, ep⟩ : ∃ p, ps[j]? = some p := ⟨_, List.getElem?_eq_getElem (by omega)⟩
      obtain ⟨x', ex', dx'⟩ := dn_at d1 (show (ps.map encPl)[j]? = some (encPl p) by rw [List.getElem?_map, ep]; rfl)
      rw [hx] at ex'
      cases ex'
      refine ⟨rfl, _, rfl, _, rfl, u, x, q, p, rfl, Dn.mono (s1.trans s2) _ _ hu, Dn.mono s2 _ _ dx', fun a1 H4 da s4 => ?_⟩
      refine ⟨_, rfl, _, rfl, v, x, r, p, rfl, Dn.mono ((s1.trans s2).trans s4) _ _ hv, Dn.mono (s2.trans s4) _ _ dx', fun a2 H5 db s5 => ?_⟩
      refine ⟨a1, a2, tl q.2 p, tl r.2 p, C, L, ok, rfl, Dn.mono s5 _ _ da, db, zq.rzt hM p, zr.rzt hM p, few, c1, l32, lt, cw, fun t a3 H6 dt ct et s6 => ?_⟩
      exact kk _ t H6 dt ⟨ct, fun p' ep' => by rw [ep] at ep'; cases ep'; exact et⟩ ((s4.trans s5).trans s6)
    · obtain ⟨a, v1, v2, rfl, ea, g1, g2⟩ := dn_pair hu
      obtain ⟨b, w1, w2, rfl, eb, f1, f2⟩ := dn_pair hv
      have s12 := s1.trans s2
      refine ⟨_, rfl, .inr (.inl ⟨a, _, _, v1, rfl, rfl, SqT.of (s12 _ _ ea), rfl, _, rfl, .inr (.inl ⟨b, _, _, w1, rfl, rfl, SqT.of (s12 _ _ eb), rfl, ?_⟩)⟩)⟩
      refine ⟨v1, w1, q.1, r.1, C, L, ok, rfl, Dn.mono s12 _ _ g1, Dn.mono s12 _ _ f1, zq.rz hW, zr.rz hW, few, c1, l32, lt, cw, fun t a3 H3 dt ct et s3 => ?_⟩
      refine ⟨_, rfl, _, rfl, .ref a3, lp, D, xs, acc, t, ps, rs, ok, rfl, dt, SqL.of (s3 _ _ (s2 _ _ e1)), DnAll.mono (s2.trans s3) _ _ d1, SqL.of (s3 _ _ e2), DnAll.mono s3 _ _ d2, by omega, lps, pw, fun p hp => ?_, fun r' hr' => ?_, ct, fun s a4 H4 ds cs es1 es2 es3 s4 => ?_⟩
      · rcases (mem p).mp hp with h | h <;> obtain ⟨t', ht', rfl⟩ := List.mem_map.mp h
        · exact (zq.pl t' ht').2.2.2
        · exact (zr.pl t' ht').2.2.2
      · obtain ⟨j, hj⟩ := List.mem_iff_getElem?.mp hr'
        exact (hn j r' hj).1
      · refine k s a4 H4 ds cs ⟨fun j d => by rw [es1]; exact et j d, fun p j d => ?_⟩ ((s12.trans s3).trans s4)
        by_cases c : p ∈ ps
        · obtain ⟨i, hi⟩ := List.mem_iff_getElem?.mp c
          obtain ⟨r', er'⟩ : ∃ r', rs[i]? = some r' := ⟨_, List.getElem?_eq_getElem (by have := (List.getElem?_eq_some_iff.mp hi).1; omega)⟩
          rw [es2 i p r' hi er']
          exact (hn i r' er').2 p hi j d
        · have c1' : p ∉ q.2.map (·.1) := fun h => c ((mem p).mpr (.inl h))
          have c2' : p ∉ r.2.map (·.1) := fun h => c ((mem p).mpr (.inr h))
          rw [es3 p c, tl_off c1', tl_off c2', cr_nil, Rat.add_zero]
end
end N3

namespace N3
open PySem PySem.Spec PyProof.Rows L2 N2
/-! ### plus and slope, checked -/
/-- the d that numbers may have -/
def OkD (ok : Int → Prop) : Prop := (∀ d, ok d → Fit d ∧ d.natAbs ≤ 40000) ∧ Few ok 8
theorem okM_okd {p : Int × Int × Int} (hp : p ∈ partsL) : OkD (okM p) := ⟨menu_fit hp, okM_few hp⟩
theorem QZ.mono {ok : Int → Prop} {C W M T C' W' M' T' : Nat} {q : Qt} (h : QZ ok C W M T q) (hC : C ≤ C') (hW : W ≤ W') (hM : M ≤ M') (hT : T ≤ T') : QZ ok C' W' M' T' q := by
  have up : ∀ {n : Nm}, Sz C n → Sz C' n := fun s x hx => let ⟨a, b, c⟩ := s x hx; ⟨bit_up a hC, b, bit_up c hC⟩
  exact ⟨h.cq, Nat.le_trans h.lw hW, Nat.le_trans h.lt hT, fun t ht => Nat.le_trans (h.lm t ht) hM, fun n hn => up (h.zw n hn), fun t ht n hn => up (h.zt t ht n hn), h.pl⟩
theorem cn_okd {ok : Int → Prop} (o : OkD ok) {n : Nm} (h : CN ok n) : CN Fit n := ⟨fun x hx => ⟨(o.1 _ (h.1 x hx).1).1, (h.1 x hx).2⟩, h.2⟩
theorem cr_okd {ok : Int → Prop} (o : OkD ok) {r : List Nm} (h : CR ok r) : CR Fit r := ⟨fun n hn => cn_okd o (h.1 n hn), h.2⟩
theorem cq_okd {ok : Int → Prop} (o : OkD ok) {q : Qt} (h : CQ ok q) : CQ Fit q := ⟨cr_okd o h.1, fun t ht => let ⟨a, b, c⟩ := h.2.1 t ht; ⟨a, cr_okd o b, c⟩, h.2.2⟩
theorem gw_bit {i : Int} (h : i.natAbs < 2 ^ 60) : GW 61 0 (.int i) := by
  have h1 : i.natAbs.log2 < 60 := by
    rcases Nat.eq_zero_or_pos i.natAbs with z | z
    · rw [z]; decide
    · exact (Nat.log2_lt (by omega : i.natAbs ≠ 0)).mpr h
  refine ⟨.int i, by simp only [PyData.showable]; exact decide_eq_true (by omega), by simp [PyData.depth], ?_⟩
  have h2 : (PySem.Str.ofString (toString i)).length ≤ 61 := by rw [PySem.ofString_length]; exact PySem.int_text_length_le (k := 60) (by decide) h1
  simp only [wt, PyData.shown]
  exact h2
theorem gw_num {ok : Int → Prop} (o : OkD ok) {C : Nat} (hC : C ≤ 60) {n : Nm} (h : CN ok n) (s : Sz C n) : GW 1555 2 (encN n) := by
  refine (gw_map (enc := encT) (m := 192) (n := 1) (k := 8) (fun x hx => ?_) (o.2 n h)).mono (by decide) (by decide)
  obtain ⟨a, b, c⟩ := s x hx
  have hd := (o.1 _ (h.1 x hx).1).2
  exact gw_three (gw_bit (by have : 40000 < 2 ^ 60 := by decide
                             omega)) (gw_bit (bit_up a hC)) (gw_bit (bit_up c hC))
theorem gw_qz {ok : Int → Prop} (o : OkD ok) {C : Nat} (hC : C ≤ 60) {q : Qt} (z : QZ ok C 20 10 10 q) : GW 700000 7 (encQ q) := by
  have rows : ∀ {r : List Nm} {k : Nat}, CR ok r → (∀ n ∈ r, Sz C n) → r.length ≤ k → GW (k * 1557 + 3) 3 (encR r) := fun {r k} hr hs hl => gw_map (enc := encN) (fun n hn => gw_num o hC (hr.1 n hn) (hs n hn)) hl
  have g1 : GW 31143 3 (encR q.1) := (rows z.cq.1 z.zw z.lw).mono (by decide) (by decide)
  have g2 : GW 311553 5 (.tuple (q.2.map encTl)) := (gw_map (enc := encTl) (m := 31153) (n := 4) (k := 10) (fun t ht => by
    have gp : GW 15573 3 (encPl t.1) := (gw_two (m := 61) (n := 0) (gw_bit (by have := (z.pl t ht).1; omega)) (gw_bit (by have := (z.pl t ht).2; omega))).mono (by decide) (by decide)
    exact (gw_two gp ((rows (z.cq.2.1 t ht).2.1 (z.zt t ht) (z.lm t ht)).mono (by decide) (by decide))).mono (by decide) (by decide)) z.lt).mono (by decide) (by decide)
  exact (gw_two (m := 311553) (n := 5) (g1.mono (by decide) (by decide)) g2).mono (by decide) (by decide)
theorem gd_qz {ok : Int → Prop} (o : OkD ok) {C : Nat} (hC : C ≤ 60) {q : Qt} (z : QZ ok C 20 10 10 q) : Gd (encQ q) := (gw_qz o hC z).wd.mono (by decide) (by decide)
def spChkQ : Sp := fun vs H Q _ => ∃ (v : V) (d : PyData), vs = [v] ∧ Dn H v d ∧ Gd d ∧ DQ Fit d ∧ ∀ H', Same H H' → Q .non H'
def spPlus : Sp := fun vs H Q _ => ∃ (u v : V) (q r : Qt) (C : Nat) (ok : Int → Prop), vs = [u, v] ∧ Dn H u (encQ q) ∧ Dn H v (encQ r) ∧ QZ ok C 20 10 10 q ∧ QZ ok C 20 10 10 r ∧ OkD ok ∧ 1 ≤ C ∧ C ≤ 60 ∧
  ∀ (s : Qt) (a : Addr) (H' : Hp), Dn H' (.ref a) (encQ s) → CQ ok s → QSum q r s → Same H H' → Q (.ref a) H'
def spSlope : Sp := fun vs H Q _ => ∃ (u : V) (q : Qt) (C : Nat) (ok : Int → Prop), vs = [u] ∧ Dn H u (encQ q) ∧ QZ ok C 20 10 10 q ∧ OkD ok ∧ 1 ≤ C ∧ C ≤ 60 ∧
  ∀ (s : Qt) (a : Addr) (H' : Hp), Dn H' (.ref a) (encQ s) → CQ ok s → QSlo q s → s.1.length = q.1.length - 1 → s.2.map (fun t => (t.1, t.2.length)) = q.2.map (fun t => (t.1, t.2.length + 1)) → (∀ t ∈ s.2, t.2.head? = some []) → Same H H' → Q (.ref a) H'
section
variable {P : Program} {w : World} {K : PySem.W.Frag} {mg : Str → Option Value} {base : Heap}
abbrev s_quotient_slope : Stmt := top 37
abbrev nsQSlo : List Str := ["quotient", "pole", "row"]
theorem sc_quotient_slope : FnScope nsQSlo ["quotient"] (defScope s_quotient_slope) := ⟨rfl, rfl, rfl, by decide +kernel, rfl, by decide +kernel, by decide +kernel⟩
theorem ok_quotient_slope {f f_whole_slope f_slope_row : Addr} {fd d_whole_slope d_slope_row : FuncData}  (F : Fun K "quotient_slope" "quotient_slope" s_quotient_slope f fd) (T : Bt mg) (p_whole_slope : Kn P w K mg base 5 "whole_slope" ["whole"] spWSlo f_whole_slope d_whole_slope) (p_slope_row : Kn P w K mg base 5 "slope_row" ["row"] spSRow f_slope_row d_slope_row) : FnOk P w K mg base CX0 6 f fd ["quotient"] spQSlo := by
  refine F.ok sc_quotient_slope (fun vs H Q E h => ?_) (fun cdv A outer s H vs Q E hr h => ?_)
  · obtain ⟨u, q, C, W, M, T', L, ok, rfl, _⟩ := h
    rfl
  · obtain ⟨u, q, C, W, M, T', L, ok, rfl, hu, zq, hW, hM, hT, few, c1, l32, lt, cw, k⟩ := h
    refine ⟨_, pss_one (ps_ret (pe_tup (pa_cons (pe_call p_whole_slope.ok (hr.mono (by decide)) rfl p_whole_slope.mg p_whole_slope.kp p_whole_slope.bd .nil pass0 (pa_cons (pe_ix (r := rIx K) ix_seq (pv 0) pe_int (fun _ _ => rfl)) pa_nil)) (pa_cons (pe_callTy call_tuple_of (by rfl) T.tuple (by decide +kernel) (pa_cons (pe_lc (own := [("pole", 1), ("row", 2)]) (g := (gTup K 2 (gCons (gName 1) (gCons (gName 2) gNil)))) (tt := tYes) rfl sc_quotient_slope.nd (pi_tup (pe_ix (r := rIx K) ix_seq (pv 0) pe_int (fun _ _ => rfl))) (blkOk_by (own := [("pole", 1), ("row", 2)]) (N := nsQSlo) (sc := defScope s_quotient_slope) (by decide +kernel)) (fun _ _ _ _ _ => pg_tup rfl (pgs_cons (pg_name (i := 1) sc_quotient_slope.nd rfl (Or.inl rfl)) (pgs_cons (pg_name (i := 2) sc_quotient_slope.nd rfl (Or.inl rfl)) pgs_nil))) (fun _ _ _ _ _ => pts_nil) (fun _ _ _ _ _ => (pe_tup (pa_cons (pv 1) (pa_cons (pe_call p_slope_row.ok (hr.mono (by decide)) rfl p_slope_row.mg p_slope_row.kp p_slope_row.bd .nil pass0 (pa_cons (pv 2) pa_nil)) pa_nil))))) pa_nil)) pa_nil)))), ?_⟩
    have s2z : 2 ≤ sizeLine := by rw [sizeLine_eq]; decide
    obtain ⟨a, v1, v2, rfl, ea, g1, g2⟩ := dn_pair hu
    obtain ⟨a2, xs, rfl, e2, r2⟩ := dn_t g2
    have lx : xs.length = q.2.length := by rw [r2.length, List.length_map]
    have lq := zq.lt
    refine ⟨_, rfl, .inr (.inl ⟨a, _, _, v1, rfl, rfl, SqT.of ea, rfl, ?_⟩)⟩
    refine ⟨v1, q.1, C, L, ok, rfl, g1, zq.rz hW, few, c1, by omega, lt, cw, fun t0 a0 H1 d0 c0 l0 ct0 s1 => ?_⟩
    have e2' := s1 _ _ e2
    refine ⟨_, rfl, .inr (.inl ⟨a, _, _, .ref a2, rfl, rfl, SqT.of (s1 _ _ ea), rfl, a2, rfl, ⟨_, SqT.of e2'⟩, fun D hD => lc_enc (enc := encTl) encTl_tn (walk_tup (K := K) (a := a2) (xs := xs)) (fun H' s' => SqT.of (s' _ _ e2')) (fun j t => ∃ (x : Tl) (t' : List Nm), q.2[j]? = some x ∧ t = (x.1, [] :: t') ∧ CR ok ([] :: t') ∧ t'.length = x.2.length ∧ ∀ (k : Nat) d, cr t' k d = Rat.divInt (-(k : Int) - 1) 1 * cr x.2 k d) (by omega) hD (fun j x H2 H3 Q' hj s2 y kk => ?_) fun acc us H2 e3 d3 ln hn s2 => ?_⟩)⟩
    · obtain ⟨rfl, hx⟩ := y
      obtain ⟨t, ax, p1, rv, et, rfl, hax, dr, dp⟩ := dn_rows r2 j x hx
      have ht := List.mem_of_getElem? et
      obtain ⟨cpl, ctr, tne⟩ := zq.cq.2.1 t ht
      refine ⟨ax, _, rfl, SqT.of (s2 _ _ (s1 _ _ hax)), rfl, _, _, rfl, _, _, rfl, rfl, rfl, _, rfl, _, rfl, ?_⟩
      refine ⟨rv, t.2, C, L, ok, rfl, Dn.mono (s1.trans s2) _ _ dr, ⟨ctr, zq.zt t ht, by have := zq.lm t ht; omega⟩, tne, few, c1, by omega, lt, cw, fun t' a3 H4 d4 c4 l4 ct4 s4 => ⟨s2z, fun p hp => ?_⟩⟩
      have sp := snew (o := .tup [p1, .ref a3]) hp
      refine kk (.ref p) (t.1, [] :: t') _ (.tup upd_same (.cons (Dn.mono ((s1.trans s2).trans (s4.trans sp)) _ _ dp) (.cons (Dn.mono sp _ _ d4) .nil))) ⟨t, t', et, rfl, c4, l4, ct4⟩ (s4.trans sp)
    · have lu : us.length = q.2.length := by omega
      refine ⟨D, acc, rfl, .inl ⟨SqL.of e3, fun l2 hl2 => ⟨s2z, fun p hp => ?_⟩⟩⟩
      have s4 := (snew (o := .tup acc) hl2).trans (snew (o := .tup [.ref a0, .ref l2]) hp)
      have keys : us.map (·.1) = q.2.map (·.1) := by
        refine List.ext_getElem? fun j => ?_
        rw [List.getElem?_map, List.getElem?_map]
        cases c : us[j]? with
        | some t =>
          obtain ⟨x, t', ex, rfl, _⟩ := hn j t c
          rw [ex]; rfl
        | none =>
          rw [List.getElem?_eq_none_iff] at c
          rw [List.getElem?_eq_none (by omega)]
          try rfl
      have cts : CTs ok us := by
        refine ⟨fun t ht => ?_, fun i x y hx hy => ?_⟩
        · obtain ⟨j, hj⟩ := List.mem_iff_getElem?.mp ht
          obtain ⟨x, t', ex, rfl, c', _⟩ := hn j t hj
          exact ⟨(zq.cq.2.1 x (List.mem_of_getElem? ex)).1, c', by simp⟩
        · obtain ⟨x', _, ex, rfl, _⟩ := hn i x hx
          obtain ⟨y', _, ey, rfl, _⟩ := hn (i + 1) y hy
          exact zq.cq.2.2 i x' y' ex ey
      refine k (t0, us) p _ (.tup upd_same (.cons (Dn.mono (s2.trans s4) _ _ d0) (.cons (.tup ?_ (DnAll.mono s4 _ _ d3)) .nil))) ⟨c0, cts⟩ ⟨ct0, fun p' d => ?_⟩ l0 ?_ (fun t ht => ?_) ((s1.trans s2).trans s4)
      · rw [upd_ne (ne_of_none upd_same hp)]; exact upd_same
      · by_cases c : p' ∈ q.2.map (·.1)
        · have c' : p' ∈ us.map (·.1) := by rw [keys]; exact c
          obtain ⟨t, ht, rfl⟩ := List.mem_map.mp c'
          obtain ⟨j, hj⟩ := List.mem_iff_getElem?.mp ht
          obtain ⟨x, t', ex, rfl, c4, l4, ct4⟩ := hn j t hj
          have h1 : tl us x.1 = [] :: t' := tl_at (t := (x.1, [] :: t')) cts.kp ht
          have h2 : tl q.2 x.1 = x.2 := tl_at zq.cq.2.kp (List.mem_of_getElem? ex)
          refine ⟨?_, fun j => ?_⟩
          · show cr (tl us x.1) 0 d = 0
            rw [h1]; rfl
          · show cr (tl us x.1) (j + 1) d = Rat.divInt (-(j : Int) - 1) 1 * cr (tl q.2 x.1) j d
            rw [h1, h2]
            exact ct4 j d
        · have c' : p' ∉ us.map (·.1) := by rw [keys]; exact c
          refine ⟨?_, fun j => ?_⟩
          · show cr (tl us p') 0 d = 0
            rw [tl_off c', cr_nil]
          · show cr (tl us p') (j + 1) d = Rat.divInt (-(j : Int) - 1) 1 * cr (tl q.2 p') j d
            rw [tl_off c', tl_off c, cr_nil, cr_nil, Rat.mul_zero]
      · refine List.ext_getElem? fun j => ?_
        rw [List.getElem?_map, List.getElem?_map]
        show us[j]?.map _ = _
        cases c : us[j]? with
        | some t =>
          obtain ⟨x, t', ex, rfl, _, l4, _⟩ := hn j t c
          rw [ex]
          show some (x.1, t'.length + 1) = some (x.1, x.2.length + 1)
          rw [l4]
        | none =>
          rw [List.getElem?_eq_none_iff] at c
          rw [List.getElem?_eq_none (by omega)]
          try rfl
      · obtain ⟨j, hj⟩ := List.mem_iff_getElem?.mp ht
        obtain ⟨x, t', ex, rfl, _⟩ := hn j t hj
        rfl
abbrev s_check_quotient : Stmt := top 44
theorem sc_check_quotient : FnScope ["thing"] ["thing"] (defScope s_check_quotient) := ⟨rfl, rfl, rfl, by decide +kernel, rfl, by decide +kernel, by decide +kernel⟩
theorem ok_check_quotient {f f_is_quotient : Addr} {fd d_is_quotient : FuncData}  (F : Fun K "check_quotient" "check_quotient" s_check_quotient f fd) (T : Bt mg) (p_is_quotient : Kn P w K mg base 9 "is_quotient" ["thing"] (spCk (DQ Fit)) f_is_quotient d_is_quotient) : FnOk P w K mg base CX0 10 f fd ["thing"] spChkQ := by
  refine F.ok sc_check_quotient (fun vs H Q E h => ?_) (fun cdv A outer s H vs Q E hr h => ?_)
  · obtain ⟨v, d, rfl, _⟩ := h
    rfl
  · obtain ⟨v, d, rfl, hd, gd, dq, k⟩ := h
    refine ⟨_, pss_one (ps_if (pt_not (pt_val (pe_call p_is_quotient.ok (hr.mono (by decide)) rfl p_is_quotient.mg p_is_quotient.kp p_is_quotient.bd .nil pass0 (pa_cons (pv 0) pa_nil))))
        (pss_one ps_never)
        pss_nil), ?_⟩
    refine ⟨_, rfl, v, d, rfl, hd, gd, fun b H1 hb s1 => ⟨_, rfl, ?_⟩⟩
    have : b = true := hb.mpr dq
    subst this
    refine iteF ?_
    exact k H1 s1
abbrev s_plus : Stmt := top 45
theorem sc_plus : FnScope ["one", "other"] ["one", "other"] (defScope s_plus) := ⟨rfl, rfl, rfl, by decide +kernel, rfl, by decide +kernel, by decide +kernel⟩
theorem ok_plus {f f_check_quotient f_quotient_sum : Addr} {fd d_check_quotient d_quotient_sum : FuncData}  (F : Fun K "plus" "plus" s_plus f fd) (T : Bt mg) (p_check_quotient : Kn P w K mg base 10 "check_quotient" ["thing"] spChkQ f_check_quotient d_check_quotient) (p_quotient_sum : Kn P w K mg base 6 "quotient_sum" ["one", "other"] spQSum f_quotient_sum d_quotient_sum) : FnOk P w K mg base CX0 11 f fd ["one", "other"] spPlus := by
  refine F.ok sc_plus (fun vs H Q E h => ?_) (fun cdv A outer s H vs Q E hr h => ?_)
  · obtain ⟨u, v, q, r, C, ok, rfl, _⟩ := h
    rfl
  · obtain ⟨u, v, q, r, C, ok, rfl, hu, hv, zq, zr, o, c1, c60, k⟩ := h
    refine ⟨_, pss_cons (ps_expr (pe_call p_check_quotient.ok (hr.mono (by decide)) rfl p_check_quotient.mg p_check_quotient.kp p_check_quotient.bd .nil pass0 (pa_cons (pv 0) pa_nil)))
      (pss_cons (ps_expr (pe_call p_check_quotient.ok (hr.mono (by decide)) rfl p_check_quotient.mg p_check_quotient.kp p_check_quotient.bd .nil pass0 (pa_cons (pv 1) pa_nil)))
      (pss_one (ps_ret (pe_call p_quotient_sum.ok (hr.mono (by decide)) rfl p_quotient_sum.mg p_quotient_sum.kp p_quotient_sum.bd .nil pass0 (pa_cons (pv 0) (pa_cons (pv 1) pa_nil)))))), ?_⟩
    refine ⟨_, rfl, u, _, rfl, hu, gd_qz o c60 zq, ⟨q, rfl, cq_okd o zq.cq⟩, fun H1 s1 => ?_⟩
    refine ⟨_, rfl, v, _, rfl, Dn.mono s1 _ _ hv, gd_qz o c60 zr, ⟨r, rfl, cq_okd o zr.cq⟩, fun H2 s2 => ?_⟩
    have s12 := s1.trans s2
    exact ⟨_, rfl, _, rfl, u, v, q, r, C, 20, 10, 10, 10, 8, ok, rfl, Dn.mono s12 _ _ hu, Dn.mono s12 _ _ hv, zq, zr, by decide, by decide, by decide, by decide, o.2, c1, by decide, by omega, by omega, fun s a H3 ds cs es s3 => k s a H3 ds cs es (s12.trans s3)⟩
abbrev s_slope : Stmt := top 46
theorem sc_slope : FnScope ["quotient"] ["quotient"] (defScope s_slope) := ⟨rfl, rfl, rfl, by decide +kernel, rfl, by decide +kernel, by decide +kernel⟩
theorem ok_slope {f f_check_quotient f_quotient_slope : Addr} {fd d_check_quotient d_quotient_slope : FuncData}  (F : Fun K "slope" "slope" s_slope f fd) (T : Bt mg) (p_check_quotient : Kn P w K mg base 10 "check_quotient" ["thing"] spChkQ f_check_quotient d_check_quotient) (p_quotient_slope : Kn P w K mg base 6 "quotient_slope" ["quotient"] spQSlo f_quotient_slope d_quotient_slope) : FnOk P w K mg base CX0 11 f fd ["quotient"] spSlope := by
  refine F.ok sc_slope (fun vs H Q E h => ?_) (fun cdv A outer s H vs Q E hr h => ?_)
  · obtain ⟨u, q, C, ok, rfl, _⟩ := h
    rfl
  · obtain ⟨u, q, C, ok, rfl, hu, zq, o, c1, c60, k⟩ := h
    refine ⟨_, pss_cons (ps_expr (pe_call p_check_quotient.ok (hr.mono (by decide)) rfl p_check_quotient.mg p_check_quotient.kp p_check_quotient.bd .nil pass0 (pa_cons (pv 0) pa_nil)))
      (pss_one (ps_ret (pe_call p_quotient_slope.ok (hr.mono (by decide)) rfl p_quotient_slope.mg p_quotient_slope.kp p_quotient_slope.bd .nil pass0 (pa_cons (pv 0) pa_nil)))), ?_⟩
    refine ⟨_, rfl, u, _, rfl, hu, gd_qz o c60 zq, ⟨q, rfl, cq_okd o zq.cq⟩, fun H1 s1 => ?_⟩
    exact ⟨_, rfl, u, q, C, 20, 10, 10, 8, ok, rfl, Dn.mono s1 _ _ hu, zq, by decide, by decide, by decide, o.2, c1, by decide, by omega, by omega, fun s a H3 ds cs es l1 l2 l3 s3 => k s a H3 ds cs es l1 l2 l3 (s1.trans s3)⟩
end
end N3

namespace N3
open PySem PySem.Spec PyProof.Rows L2 N2 LamX
/-! ### the law's slopes -/
def spSlopeL (c : Addr) : Sp := fun vs H Q _ => ∃ (u : V) (q : Qt) (C : Nat) (ok : Int → Prop), vs = [u] ∧ Dn H u (encQ q) ∧ QZ ok C 20 10 10 q ∧ OkD ok ∧ 1 ≤ C ∧ C ≤ 60 ∧ Tabs (tabL c) H ∧
  ∀ (s : Qt) (a : Addr) (H' : Hp), Dn H' (.ref a) (encQ s) → CQ ok s → QSlo q s → ExtN H H' → Tabs (tabL c) H' → Q (.ref a) H'
theorem walk_enumT {K : PySem.W.Frag} {a : Addr} {xs : List V} : Walk (ItT K a) xs.length (fun H => SqT K H a xs) (YPair (fun i => some (.int (i : Nat))) (fun i => xs[i]?)) := by
  refine ⟨fun i _ hi q => ⟨xs, xs[i], q, by simp [hi]⟩, fun _ q => ⟨xs, q, rfl⟩, fun i H v H' _ q y => ?_⟩
  obtain ⟨T, x, h1, h2, h3, h4⟩ := y
  exact ⟨T, .int (i : Nat), x, h1, h2, h3, rfl, h4 xs q⟩
theorem cutFrom1 (xs : List V) : cutV xs (some (1 : Int)) none = xs.drop 1 := by
  by_cases h : xs = []
  · subst h; rfl
  · exact cutFrom xs 1 (List.length_pos_iff.mpr h)
theorem putR_new {ts : List Tl} {p : Pl} {n : List Nm} (h : p ∉ ts.map (·.1)) : putR ts p n = ts ++ [(p, n)] := if_neg h
theorem rwt_put {G : Addr → Prop} {H : Hp} {rw_ : Addr} {kvs : List (List L2.Key × V)} {ts : List Tl} {p : Pl} {b : Addr} {acc : List V} {n : List Nm} (e : H rw_ = some (.dT kvs)) (r : RwT G H kvs ts) (hg : G b) (hb : H b = some (.lst acc)) (hd : DnAll H acc (n.map encN)) : RwT G (upd H rw_ (.dT (putK kvs (kyP p) (.ref b)))) (putK kvs (kyP p) (.ref b)) (putR ts p n) :=
  (r.put hg hb hd).move (fun _ h => h) (fun b xs g e' => by rw [upd_ne (ne_of e' e (by intro z; cases z))]; exact e') (dt_tups e)
theorem keys_at {ts us : List Tl} (h : ts.map (·.1) = us.map (·.1)) {j : Nat} {t : Tl} (e : ts[j]? = some t) : ∃ x, us[j]? = some x ∧ x.1 = t.1 := by
  have h1 : (ts.map (·.1))[j]? = some t.1 := by rw [List.getElem?_map, e]; rfl
  rw [h, List.getElem?_map] at h1
  obtain ⟨x, ex, e'⟩ := Option.map_eq_some_iff.mp h1
  exact ⟨x, ex, e'⟩
section
variable {P : Program} {w : World} {K : PySem.W.Frag} {mg : Str → Option Value} {base : Heap}
abbrev s__law_slope : Stmt := top 68
abbrev nsLSlo : List Str := ["quotient", "rows", "pole", "row", "at", "number", "k"]
theorem sc__law_slope : FnScope nsLSlo ["quotient"] (defScope s__law_slope) := ⟨rfl, rfl, rfl, by decide +kernel, rfl, by decide +kernel, by decide +kernel⟩
theorem ok__law_slope {f f__law_scaled f__law_told : Addr} {fd d__law_scaled d__law_told : FuncData} {pT : Addr} (F : Fun K "_law_slope" "_law_slope" s__law_slope f fd) (T : Bt mg) (l_scaled : Kn P w K mg base 3 "_law_scaled" ["number", "top", "bottom"] spScaled f__law_scaled d__law_scaled) (l_told : Kn P w K mg base 2 "_law_told" ["whole", "rows"] (spToldU K pT) f__law_told d__law_told) : FnOk P w K mg base CX0 4 f fd ["quotient"] (spSlopeL pT) := by
  refine F.ok sc__law_slope (fun vs H Q E h => ?_) (fun cdv A outer s H vs Q E hr h => ?_)
  · obtain ⟨u, q, C, ok, rfl, _⟩ := h
    rfl
  · obtain ⟨u, q, C, ok, rfl, hu0, zq, o, c1, c60, hT, k⟩ := h
    have hu := hu_of hr
    refine ⟨_, pss_cons (ps_set (i := 1) sc__law_slope.nd rfl (Or.inl rfl) pe_dnewT)
      (pss_cons (ps_for PassesOwn.never rfl (pi_tup (pe_ix (r := rIx K) ix_seq (pv 0) pe_int (fun _ _ => rfl))) (pg_tup rfl (pgs_cons (pg_name (i := 2) sc__law_slope.nd rfl (Or.inl rfl)) (pgs_cons (pg_name (i := 3) sc__law_slope.nd rfl (Or.inl rfl)) pgs_nil)))
        (pss_one (ps_dput hu (pv 1) (pv 2) (pe_op op_cat (pe_lst (pa_cons (pe_tup pa_nil) pa_nil)) (pe_lc (own := [("at", 4), ("number", 5)]) (g := (gTup K 2 (gCons (gName 4) (gCons (gName 5) gNil)))) (tt := tYes) rfl sc__law_slope.nd (pi_enumA (by rfl) T.enum (pa_cons (pv 3) pa_nil)) (blkOk_by (own := [("at", 4), ("number", 5)]) (N := nsLSlo) (sc := defScope s__law_slope) (by decide +kernel)) (fun _ _ _ _ _ => pg_tup rfl (pgs_cons (pg_name (i := 4) sc__law_slope.nd rfl (Or.inl rfl)) (pgs_cons (pg_name (i := 5) sc__law_slope.nd rfl (Or.inl rfl)) pgs_nil))) (fun _ _ _ _ _ => pts_nil) (fun _ _ _ _ _ => (pe_call l_scaled.ok (hr.mono (by decide)) rfl l_scaled.mg l_scaled.kp l_scaled.bd .nil pass0 (pa_cons (pv 5) (pa_cons (pe_op op_sub (pe_un un_neg (pv 4)) pe_int) (pa_cons pe_int pa_nil))))))) rfl)))
      (pss_one (ps_ret (pe_call l_told.ok (hr.mono (by decide)) rfl l_told.mg l_told.kp l_told.bd .nil pass0 (pa_cons (pe_slice sl_list (pe_lc (own := [("k", 6), ("number", 5)]) (g := (gTup K 2 (gCons (gName 6) (gCons (gName 5) gNil)))) (tt := tYes) rfl sc__law_slope.nd (pi_enumA (by rfl) T.enum (pa_cons (pe_ix (r := rIx K) ix_seq (pv 0) pe_int (fun _ _ => rfl)) pa_nil)) (blkOk_by (own := [("k", 6), ("number", 5)]) (N := nsLSlo) (sc := defScope s__law_slope) (by decide +kernel)) (fun _ _ _ _ _ => pg_tup rfl (pgs_cons (pg_name (i := 6) sc__law_slope.nd rfl (Or.inl rfl)) (pgs_cons (pg_name (i := 5) sc__law_slope.nd rfl (Or.inl rfl)) pgs_nil))) (fun _ _ _ _ _ => pts_nil) (fun _ _ _ _ _ => (pe_call l_scaled.ok (hr.mono (by decide)) rfl l_scaled.mg l_scaled.kp l_scaled.bd .nil pass0 (pa_cons (pv 5) (pa_cons (pv 6) (pa_cons pe_int pa_nil)))))) (po_some pe_int) po_none) (pa_cons (pv 1) pa_nil)))))), ?_⟩
    have sl1 : 1 ≤ sizeLine := by rw [sizeLine_eq]; decide
    obtain ⟨a, v1, v2, rfl, ea, g1, g2⟩ := dn_pair hu0
    obtain ⟨a1, xs1, rfl, e1, r1⟩ := dn_t g1
    obtain ⟨a2, xs, rfl, e2, r2⟩ := dn_t g2
    have lx : xs.length = q.2.length := by rw [r2.length, List.length_map]
    have lx1 : xs1.length = q.1.length := by rw [r1.length, List.length_map]
    have lq := zq.lt
    have lw := zq.lw
    have kpq := zq.cq.2.kp
    have few := o.2
    intro rw_ hrw
    have s0 := snew (o := .dT []) hrw
    refine ⟨_, rfl, .inr (.inl ⟨a, _, _, .ref a2, rfl, rfl, SqT.of (s0 _ _ ea), rfl, a2, rfl, ⟨_, SqT.of (s0 _ _ e2)⟩, for_tup (K := K) (a := a2) (xs := xs) (fun i σ H' => ∃ (x2 x3 : Option V) (kvs : List (List L2.Key × V)) (ts : List Tl), σ = [some (.ref a), some (.ref rw_), x2, x3, none, none, none] ∧ H' rw_ = some (.dT kvs) ∧ RwT (fun _ => True) H' kvs ts ∧ ts.map (·.1) = (q.2.take i).map (·.1) ∧
        (∀ (j : Nat) t, ts[j]? = some t → ∃ (x : Tl) (t' : List Nm), q.2[j]? = some x ∧ t = (x.1, [] :: t') ∧ t'.length = x.2.length ∧ (∀ n ∈ t', CN ok n) ∧ ∀ (k : Nat) d, cr t' k d = Rat.divInt (-(k : Int) - 1) 1 * cr x.2 k d) ∧ Same H H')
      ⟨none, none, [], [], rfl, upd_same, .nil, rfl, fun j t e => by simp at e, s0⟩ (fun i σ H' _ ⟨_, _, _, _, _, _, _, _, _, s'⟩ => SqT.of (s' _ _ e2)) ?_ ?_⟩)⟩
    · rintro i x σ H1 hx ⟨x2, x3, kvs, ts, rfl, f1, rt, ek, at_, s1⟩
      obtain ⟨t, ax, p1, rv, et, rfl, hax, dr, dp⟩ := dn_rows r2 i x hx
      obtain ⟨ap, rfl, hap⟩ := dn_pl dp
      obtain ⟨ar, ys, rfl, har, rr⟩ := dn_t dr
      have ht := List.mem_of_getElem? et
      have il : i < q.2.length := (List.getElem?_eq_some_iff.mp et).1
      have ly : ys.length = t.2.length := by rw [rr.length, List.length_map]
      have lt2 := zq.lm t ht
      have lts : ts.length = i := by
        have := congrArg List.length ek
        rw [List.length_map, List.length_map, List.length_take] at this
        omega
      refine ⟨ax, _, rfl, SqT.of (s1 _ _ hax), rfl, _, _, rfl, _, _, rfl, rfl, ?_⟩
      refine ⟨Nat.zero_le _, fun p0 hp0 => ⟨sl1, fun l0 hl0 => ?_⟩⟩
      have s2 := snew (o := .tup []) hp0
      have s3 := s2.trans (snew (o := .lst [.ref p0]) hl0)
      refine ⟨_, rfl, ar, ys, rfl, .inr ⟨SqT.of ((s1.trans s3) _ _ har), fun D hD => lc_enc (enc := encN) encN_tn walk_enumT (fun H' s' => SqT.of (s' _ _ ((s1.trans s3) _ _ har))) (fun j m => CN ok m ∧ ∀ d, co m d = Rat.divInt (-(j : Int) - 1) 1 * cr t.2 j d) (by omega) hD (fun j x H2 H3 Q' hj s4 y kk => ?_) fun acc ns H2 e3 d3 ln hn s4 => ?_⟩⟩
      · obtain ⟨T_, x1, x2, rfl, nT, rfl, ee, ex⟩ := y
        cases (Option.some.inj ee)
        obtain ⟨n, en⟩ : ∃ n, t.2[j]? = some n := ⟨_, List.getElem?_eq_getElem (by omega)⟩
        obtain ⟨x', ex', dx'⟩ := row_at rr en
        rw [show ys[j]? = some x2 from ex] at ex'
        cases ex'
        have sT := snew (o := .tup [.int (j : Nat), x2]) nT
        refine ⟨T_, _, rfl, SqT.of upd_same, rfl, _, _, rfl, _, _, rfl, rfl, rfl, ?_⟩
        refine ⟨_, rfl, _, rfl, _, rfl, _, _, rfl, rfl, ?_⟩
        refine ⟨x2, n, _, 1, C, 9, 8, ok, rfl, Dn.mono (((s1.trans s3).trans s4).trans sT) _ _ dx', ⟨(zq.cq.2.1 t ht).2.1.1 n (List.mem_of_getElem? en), zq.zt t ht n (List.mem_of_getElem? en)⟩, few, c1, by show _ < 512; omega, by decide, by decide, by decide, by omega, by omega, fun m z H4 dz nz ez s5 => ?_⟩
        refine kk _ m H4 dz ⟨nz.1, fun d => ?_⟩ (sT.trans s5)
        unfold cr
        rw [ez, getD_at en]
      · have l0' := s4 _ _ (upd_same (H := upd H1 p0 (.tup [])) (a := l0) (o := .lst [.ref p0]))
        have lac : acc.length = ns.length := by rw [d3.length, List.length_map]
        refine ⟨l0, D, [.ref p0], acc, rfl, rfl, l0', e3, ?_, fun z hz => ?_⟩
        · show 1 + acc.length ≤ sizeLine
          exact Nat.le_of_lt (small1000 (by omega))
        · have s5 := snew (o := .lst ([.ref p0] ++ acc)) hz
          have s15 := s3.trans (s4.trans s5)
          have f5 := s15 _ _ f1
          have dz : DnAll (upd H2 z (.lst ([.ref p0] ++ acc))) ([.ref p0] ++ acc) (([] :: ns).map encN) := .cons (.tup (((snew hl0).trans (s4.trans s5)) _ _ upd_same) .nil) (DnAll.mono s5 _ _ d3)
          have rt5 : RwT (fun _ => True) (upd H2 z (.lst ([.ref p0] ++ acc))) kvs ts := rt.move (fun _ h => h) (fun b xs _ e => s15 _ _ e) (Same.tups s15)
          have nin : t.1 ∉ ts.map (·.1) := by
            rw [ek, List.map_take]
            intro m
            exact bf_irr ((pw_take zq.cq.2.pw (show (q.2.map (·.1))[i]? = some t.1 by rw [List.getElem?_map, et]; rfl)).1 _ m) rfl
          refine ⟨_, rfl, _, rfl, rw_, _, rfl, DPut.t (k := kyP t.1) f5 (s15 _ _ (s1 _ _ hap)) (by rw [rt.length]; exact small1000 (by omega)), ?_⟩
          have rt6 := rwt_put (p := t.1) (n := [] :: ns) f5 rt5 trivial upd_same dz
          rw [putR_new nin] at rt6
          refine ⟨_, _, _, _, rfl, upd_same, rt6, ?_, fun j t1 e => ?_, fun b o' e => ?_⟩
          · rw [List.map_append, ek, List.take_add_one, et, List.map_append]
            rfl
          · rcases Nat.lt_or_ge j ts.length with c | c
            · rw [List.getElem?_append_left c] at e
              exact at_ j t1 e
            · rw [List.getElem?_append_right c] at e
              have ej : j - ts.length = 0 := by
                rcases Nat.eq_zero_or_pos (j - ts.length) with z | z
                · exact z
                · rw [List.getElem?_eq_none (show [(t.1, [] :: ns)].length ≤ _ from z)] at e; cases e
              rw [ej] at e
              cases e
              have : j = i := by omega
              subst this
              refine ⟨t, ns, et, rfl, by omega, fun n hn' => ?_, fun k' d => ?_⟩
              · obtain ⟨j', hj'⟩ := List.mem_iff_getElem?.mp hn'
                exact (hn j' n hj').1
              · rcases Nat.lt_or_ge k' ns.length with c2 | c2
                · show co (ns.getD k' []) d = _
                  rw [getD_at (List.getElem?_eq_getElem c2)]
                  exact (hn k' _ (List.getElem?_eq_getElem c2)).2 d
                · rw [cr_off c2, cr_off (by omega), Rat.mul_zero]
          · rw [upd_ne (ne_of_none e hrw)]
            exact s15 _ _ (s1 _ _ e)
    · rintro σ H1 ⟨x2, x3, kvs, ts, rfl, f1, rt, ek, at_, s1⟩
      rw [lx, List.take_length] at ek
      refine ⟨_, rfl, .inr (.inl ⟨a, _, _, .ref a1, rfl, rfl, SqT.of (s1 _ _ ea), rfl, a1, xs1, rfl, .inr ⟨SqT.of (s1 _ _ e1), fun D hD => lc_enc (enc := encN) encN_tn walk_enumT (fun H' s' => SqT.of (s' _ _ (s1 _ _ e1))) (fun j m => CN ok m ∧ ∀ d, co m d = Rat.divInt (j : Int) 1 * cr q.1 j d) (by omega) hD (fun j x H2 H3 Q' hj s4 y kk => ?_) fun acc ns H2 e3 d3 ln hn s4 => ?_⟩⟩)⟩
      · obtain ⟨T_, x1, x2', rfl, nT, rfl, ee, ex⟩ := y
        cases (Option.some.inj ee)
        obtain ⟨n, en⟩ : ∃ n, q.1[j]? = some n := ⟨_, List.getElem?_eq_getElem (by omega)⟩
        obtain ⟨x', ex', dx'⟩ := row_at r1 en
        rw [show xs1[j]? = some x2' from ex] at ex'
        cases ex'
        have sT := snew (o := .tup [.int (j : Nat), x2']) nT
        refine ⟨T_, _, rfl, SqT.of upd_same, rfl, _, _, rfl, _, _, rfl, rfl, rfl, ?_⟩
        refine ⟨_, rfl, _, rfl, ?_⟩
        refine ⟨x2', n, _, 1, C, 9, 8, ok, rfl, Dn.mono ((s1.trans s4).trans sT) _ _ dx', ⟨zq.cq.1.1 n (List.mem_of_getElem? en), zq.zw n (List.mem_of_getElem? en)⟩, few, c1, by show _ < 512; omega, by decide, by decide, by decide, by omega, by omega, fun m z H4 dz nz ez s5 => ?_⟩
        refine kk _ m H4 dz ⟨nz.1, fun d => ?_⟩ (sT.trans s5)
        unfold cr
        rw [ez, getD_at en]
      · dsimp only [tNoPart]
        refine ⟨_, rfl, D, acc, rfl, SqL.of e3, fun p hp => ?_⟩
        have sp := snew (o := .lst (cutV acc (some (1 : Int)) none)) hp
        rw [cutFrom1] at sp ⊢
        have s14 := s4.trans sp
        refine ⟨_, rfl, p, rw_, acc.drop 1, ns.drop 1, kvs, ts, ok, rfl, .inl (SqL.of upd_same), ?_, by rw [List.length_drop]; omega, fun n hn' => ?_, s14 _ _ f1, rt.move (fun _ h => h) (fun b xs _ e => s14 _ _ e) (Same.tups s14), ?_, ?_, fun t ht => ?_, tabs_same hT (s1.trans s14), fun s r H5 ds cs es1 es2 s5 T5 => ?_⟩
        · rw [List.map_drop]
          exact DnAll.mono sp _ _ (dnAll_drop' d3 1)
        · obtain ⟨j, hj⟩ := List.mem_iff_getElem?.mp (List.mem_of_mem_drop hn')
          exact (hn j n hj).1
        · unfold Kp; rw [ek]; exact kpq
        · have := congrArg List.length ek
          rw [List.length_map, List.length_map] at this
          omega
        · obtain ⟨j, hj⟩ := List.mem_iff_getElem?.mp ht
          obtain ⟨x, t', ex, rfl, l', c', _⟩ := at_ j t hj
          have hx := List.mem_of_getElem? ex
          refine ⟨zq.pl x hx, ?_, fun n hn' => ?_⟩
          · have := zq.lm x hx
            show t'.length + 1 ≤ 1000
            omega
          · rcases List.mem_cons.mp hn' with rfl | hn'
            · exact CN.nil
            · exact c' n hn'
        · refine k s r H5 ds cs ⟨fun j d => ?_, fun p' d => ?_⟩ ((Same.extN (s1.trans s14)).trans s5) T5
          · rw [es1]
            have e : cr (ns.drop 1) j d = cr ns (j + 1) d := by
              unfold cr
              rw [List.getD_eq_getElem?_getD, List.getD_eq_getElem?_getD, List.getElem?_drop, Nat.add_comm]
            rw [e]
            rcases Nat.lt_or_ge (j + 1) ns.length with c | c
            · show co (ns.getD (j + 1) []) d = _
              rw [getD_at (List.getElem?_eq_getElem c)]
              have := (hn (j + 1) _ (List.getElem?_eq_getElem c)).2 d
              rw [this]
              rfl
            · rw [cr_off c, cr_off (by omega), Rat.mul_zero]
          · have kts : Kp ts := by unfold Kp; rw [ek]; exact kpq
            rw [es2]
            by_cases c : p' ∈ ts.map (·.1)
            · obtain ⟨t, ht, rfl⟩ := List.mem_map.mp c
              obtain ⟨j, hj⟩ := List.mem_iff_getElem?.mp ht
              obtain ⟨x, t', ex, rfl, _, _, ct'⟩ := at_ j t hj
              have h1 : tl ts x.1 = [] :: t' := tl_at (t := (x.1, [] :: t')) kts ht
              have h2 : tl q.2 x.1 = x.2 := tl_at kpq (List.mem_of_getElem? ex)
              refine ⟨?_, fun j' => ?_⟩
              · show cr (tl ts x.1) 0 d = 0
                rw [h1]; rfl
              · rw [es2]
                show cr (tl ts x.1) (j' + 1) d = Rat.divInt (-(j' : Int) - 1) 1 * cr (tl q.2 x.1) j' d
                rw [h1, h2]
                exact ct' j' d
            · have c' : p' ∉ q.2.map (·.1) := by rw [← ek]; exact c
              refine ⟨by rw [tl_off c, cr_nil], fun j' => ?_⟩
              rw [es2, tl_off c, tl_off c', cr_nil, cr_nil, Rat.mul_zero]
end
end N3

namespace N3
open PySem PySem.Spec PyProof.Rows L2 N2 LamX
/-! ### the law's sums of quotients -/
def spPlusL (c : Addr) : Sp := fun vs H Q _ => ∃ (u v : V) (q r : Qt) (C : Nat) (ok : Int → Prop), vs = [u, v] ∧ Dn H u (encQ q) ∧ Dn H v (encQ r) ∧ QZ ok C 20 10 10 q ∧ QZ ok C 20 10 10 r ∧ OkD ok ∧ 1 ≤ C ∧ C ≤ 60 ∧ Tabs (tabL c) H ∧
  ∀ (s : Qt) (a : Addr) (H' : Hp), Dn H' (.ref a) (encQ s) → CQ ok s → QSum q r s → ExtN H H' → Tabs (tabL c) H' → Q (.ref a) H'
theorem call_list_ofK {X : Cx} {K : PySem.W.Frag} (hK : X.K = K) : CallR X (.type "list") (fun xs H Q => ∃ p ys, xs = [.ref p] ∧ (SqL K H p ys ∨ SqT K H p ys) ∧ ∀ l, H l = none → Q (.ref l) (upd H l (.lst ys))) := by
  subst hK
  exact call_list_of
/-- pairs of a pole and a row's list -/
abbrev PrR (H : Hp) (qs : List Addr) (kvs : List (List L2.Key × V)) : Prop := Paired (fun p kv => ∃ q, H p = some (.tup [.ref q, kv.2]) ∧ H q = some (.tup (kv.1.map kV))) qs kvs
theorem prR_tst {H H' : Hp} (t : TupS H H') {qs : List Addr} {kvs : List (List L2.Key × V)} (h : PrR H qs kvs) : PrR H' qs kvs := Paired.mapP h fun _ _ ⟨q, h1, h2⟩ => ⟨q, t _ _ h1, t _ _ h2⟩
theorem replicate_one (x : V) : ∀ n : Nat, (List.replicate n [x]).flatten = List.replicate n x
  | 0 => rfl
  | n + 1 => by rw [List.replicate_succ, List.replicate_succ, List.flatten_cons, replicate_one x n]; rfl
theorem dn_rep {H : Hp} {v : V} {d : PyData} (h : Dn H v d) : ∀ n : Nat, DnAll H (List.replicate n v) (List.replicate n d)
  | 0 => .nil
  | n + 1 => .cons h (dn_rep h n)
/-- a row with zeros behind it -/
def padR (r : List Nm) (n : Nat) : List Nm := r ++ List.replicate (n - r.length) []
theorem padR_len {r : List Nm} {n : Nat} (h : r.length ≤ n) : (padR r n).length = n := by
  unfold padR
  rw [List.length_append, List.length_replicate]; omega
theorem padR_at (r : List Nm) (n j : Nat) : (padR r n).getD j [] = r.getD j [] := by
  unfold padR
  rw [List.getD_eq_getElem?_getD, List.getD_eq_getElem?_getD]
  rcases Nat.lt_or_ge j r.length with c | c
  · rw [List.getElem?_append_left c]
  · rw [List.getElem?_append_right c, List.getElem?_eq_none c, List.getElem?_replicate]
    split <;> rfl
theorem padR_mem {r : List Nm} {n : Nat} {x : Nm} (h : x ∈ padR r n) : x ∈ r ∨ x = [] := by
  rcases List.mem_append.mp h with h | h
  · exact .inl h
  · exact .inr (List.eq_of_mem_replicate h)
theorem nu_nil {ok : Int → Prop} {C : Nat} : Nu ok C [] := ⟨CN.nil, fun x hx => by simp at hx⟩
/-- the law's sum of two numbers -/
theorem lsum_two {K : PySem.W.Frag} {ok : Int → Prop} {C : Nat} (few : Few ok 8) (c60 : C ≤ 60) {H : Hp} {x y : V} {n m : Nm} {Q : VK} {E : XK} {l : Addr} (hl : H l = some (.lst [x, y])) (hx : Dn H x (encN n)) (hy : Dn H y (encN m)) (zn : Nu ok C n) (zm : Nu ok C m)
    (k : ∀ (s : Nm) (r : Addr) (H' : Hp), Dn H' (.ref r) (encN s) → CN ok s → (∀ d, co s d = co n d + co m d) → Same H H' → Q (.ref r) H') : spLSum K [.ref l] H Q E := by
  have ln := few n zn.1
  have lm := few m zm.1
  refine ⟨l, [x, y], [(n, 1, 1), (m, 1, 1)], C, ok, rfl, SqL.of hl, rfl, fun i v p hv hp => ?_, fun p hp => ?_, ?_, ?_, by omega, fun s r H' ds cs es ss => k s r H' ds cs (fun d => ?_) ss⟩
  · match i, hv, hp with
    | 0, hv, hp => cases hv; cases hp; exact ⟨hx, rfl⟩
    | 1, hv, hp => cases hv; cases hp; exact ⟨hy, rfl⟩
  · simp only [List.mem_cons, List.not_mem_nil, or_false] at hp
    rcases hp with rfl | rfl
    · exact ⟨zn.2, fun z hz => (zn.1.1 z hz).1⟩
    · exact ⟨zm.2, fun z hz => (zm.1.1 z hz).1⟩
  · show n.length + (m.length + 0) < 64
    omega
  · have : (n.length + (m.length + 0)) * (C + 2) ≤ 16 * 62 := Nat.mul_le_mul (by omega) (by omega)
    exact Nat.le_trans this (by decide)
  · rw [es d]
    show Rat.divInt 1 1 * co n d + (Rat.divInt 1 1 * co m d + 0) = _
    rw [show Rat.divInt 1 1 = 1 from rfl, Rat.one_mul, Rat.one_mul, Rat.add_zero]
section
variable {P : Program} {w : World} {K : PySem.W.Frag} {mg : Str → Option Value} {base : Heap}
abbrev s__law_plus : Stmt := top 67
abbrev nsLPls : List Str := ["one", "other", "pole", "row", "rows", "many", "near", "size", "wholes", "at", "x", "it", "y"]
theorem sc__law_plus : FnScope nsLPls ["one", "other"] (defScope s__law_plus) := ⟨rfl, rfl, rfl, by decide +kernel, rfl, by decide +kernel, by decide +kernel⟩
theorem ok__law_plus {f f__law_sum f__law_told : Addr} {fd d__law_sum d__law_told : FuncData} {pT : Addr} (F : Fun K "_law_plus" "_law_plus" s__law_plus f fd) (T : Bt mg) (l_sum : Kn P w K mg base 3 "_law_sum" ["some"] (spLSum K) f__law_sum d__law_sum) (l_told : Kn P w K mg base 2 "_law_told" ["whole", "rows"] (spToldU K pT) f__law_told d__law_told) : FnOk P w K mg base CX0 4 f fd ["one", "other"] (spPlusL pT) := by
  refine F.ok sc__law_plus (fun vs H Q E h => ?_) (fun cdv A outer s H vs Q E hr h => ?_)
  · obtain ⟨u, v, q, r, C, ok, rfl, _⟩ := h
    rfl
  · obtain ⟨u, v, q, r, C, ok, rfl, hu0, hv0, zq, zr, o, c1, c60, hT, k⟩ := h
    have hu := hu_of hr
    have hu2 : (A.deeper (envOfC "_law_plus" (defScope s__law_plus) s.heap.objs.size f cdv)).units + 2 < cLine := by have := hr.units; omega
    refine ⟨_, pss_cons (ps_asg (pe_tup (pa_cons (pe_callTy (call_dictPT rfl hu2) (by rfl) T.dict (by decide +kernel) (pa_cons (pe_lc (own := [("pole", 2), ("row", 3)]) (g := (gTup K 2 (gCons (gName 2) (gCons (gName 3) gNil)))) (tt := tYes) rfl sc__law_plus.nd (pi_tup (pe_ix (r := rIx K) ix_seq (pv 0) pe_int (fun _ _ => rfl))) (blkOk_by (own := [("pole", 2), ("row", 3)]) (N := nsLPls) (sc := defScope s__law_plus) (by decide +kernel)) (fun _ _ _ _ _ => pg_tup rfl (pgs_cons (pg_name (i := 2) sc__law_plus.nd rfl (Or.inl rfl)) (pgs_cons (pg_name (i := 3) sc__law_plus.nd rfl (Or.inl rfl)) pgs_nil))) (fun _ _ _ _ _ => pts_nil) (fun _ _ _ _ _ => (pe_tup (pa_cons (pv 2) (pa_cons (pe_callTy (call_list_ofK (K := K) rfl) (by rfl) T.list (by decide +kernel) (pa_cons (pv 3) pa_nil)) pa_nil))))) pa_nil)) (pa_cons (pe_callB (call_max2 rfl) (by rfl) T.max (by decide +kernel) (pa_cons (pe_callB (call_lenK (K := K) rfl) (by rfl) T.len PySem.boot_len (pa_cons (pe_ix (r := rIx K) ix_seq (pv 0) pe_int (fun _ _ => rfl)) pa_nil)) (pa_cons (pe_callB (call_lenK (K := K) rfl) (by rfl) T.len PySem.boot_len (pa_cons (pe_ix (r := rIx K) ix_seq (pv 1) pe_int (fun _ _ => rfl)) pa_nil)) pa_nil))) pa_nil))) (pg_tup rfl (pgs_cons (pg_name (i := 4) sc__law_plus.nd rfl (Or.inl rfl)) (pgs_cons (pg_name (i := 5) sc__law_plus.nd rfl (Or.inr rfl)) pgs_nil))))
      (pss_cons (ps_for PassesOwn.never rfl (pi_tup (pe_ix (r := rIx K) ix_seq (pv 1) pe_int (fun _ _ => rfl))) (pg_tup rfl (pgs_cons (pg_name (i := 2) sc__law_plus.nd rfl (Or.inl rfl)) (pgs_cons (pg_name (i := 3) sc__law_plus.nd rfl (Or.inr rfl)) pgs_nil)))
        (C8.pss_cut (ps_set (i := 6) sc__law_plus.nd rfl (Or.inl rfl) (pe_dget2 hu (pv 4) (pv 2) (pe_lst pa_nil) ⟨by rfl, by rfl, by rfl, by rfl⟩))
        (pss_cons (ps_set (i := 7) sc__law_plus.nd rfl (Or.inl rfl) (pe_callB (call_max2 rfl) (by rfl) T.max (by decide +kernel) (pa_cons (pe_callB (call_lenK (K := K) rfl) (by rfl) T.len PySem.boot_len (pa_cons (pv 6) pa_nil)) (pa_cons (pe_callB (call_lenK (K := K) rfl) (by rfl) T.len PySem.boot_len (pa_cons (pv 3) pa_nil)) pa_nil))))
        (C8.pss_cut (ps_set (i := 6) sc__law_plus.nd rfl (Or.inl rfl) (pe_op op_cat (pv 6) (pe_op op_rep (pe_lst (pa_cons (pe_tup pa_nil) pa_nil)) (pe_op op_sub (pv 7) (pe_callB (call_lenK (K := K) rfl) (by rfl) T.len PySem.boot_len (pa_cons (pv 6) pa_nil))))))
        (pss_one (ps_dput hu (pv 4) (pv 2) (pe_lc (own := [("at", 9), ("x", 10)]) (g := (gTup K 2 (gCons (gName 9) (gCons (gName 10) gNil)))) (tt := tYes) rfl sc__law_plus.nd (pi_enum (by rfl) T.enum (pa_cons (pv 6) pa_nil)) (blkOk_by (own := [("at", 9), ("x", 10)]) (N := nsLPls) (sc := defScope s__law_plus) (by decide +kernel)) (fun _ _ _ _ _ => pg_tup rfl (pgs_cons (pg_name (i := 9) sc__law_plus.nd rfl (Or.inl rfl)) (pgs_cons (pg_name (i := 10) sc__law_plus.nd rfl (Or.inl rfl)) pgs_nil))) (fun _ _ _ _ _ => pts_nil) (fun _ _ _ _ _ => (pe_call l_sum.ok (hr.mono (by decide)) rfl l_sum.mg l_sum.kp l_sum.bd .nil pass0 (pa_cons (pe_lst (pa_cons (pv 10) (pa_cons (pe_ifExp (pt_cmpR op_lt (pv 9) (pe_callB (call_lenK (K := K) rfl) (by rfl) T.len PySem.boot_len (pa_cons (pv 3) pa_nil)) (nomark _)) (pe_ix (r := rIx K) ix_seq (pv 3) (pv 9) (fun _ _ => rfl)) (pe_tup pa_nil)) pa_nil))) pa_nil)))) rfl))))))
      (pss_cons (ps_setLc (i := 8) (own := [("it", 11)]) (g := (gName 11)) (tt := tYes) rfl sc__law_plus.nd rfl rfl (sw_true rfl rfl (by rfl) (by rfl)) (pi_tup (pe_tup (pa_cons (pv 0) (pa_cons (pv 1) pa_nil)))) (blkOk_by (own := [("it", 11)]) (N := nsLPls) (sc := defScope s__law_plus) (by decide +kernel)) (fun _ _ _ _ _ => pg_name (i := 11) sc__law_plus.nd rfl (Or.inl rfl)) (fun _ _ _ _ _ => pts_nil) (fun _ _ _ _ _ => (pe_op op_cat (pe_callTy (call_list_ofK (K := K) rfl) (by rfl) T.list (by decide +kernel) (pa_cons (pe_ix (r := rIx K) ix_seq (pv 11) pe_int (fun _ _ => rfl)) pa_nil)) (pe_op op_rep (pe_lst (pa_cons (pe_tup pa_nil) pa_nil)) (pe_op op_sub (pv 5) (pe_callB (call_lenK (K := K) rfl) (by rfl) T.len PySem.boot_len (pa_cons (pe_ix (r := rIx K) ix_seq (pv 11) pe_int (fun _ _ => rfl)) pa_nil)))))))
      (pss_one (ps_ret (pe_call l_told.ok (hr.mono (by decide)) rfl l_told.mg l_told.kp l_told.bd .nil pass0 (pa_cons (pe_lc (own := [("x", 10), ("y", 12)]) (g := (gTup K 2 (gCons (gName 10) (gCons (gName 12) gNil)))) (tt := tYes) rfl sc__law_plus.nd (pi_zip (by rfl) T.zip (pa_cons (pe_ix (r := rIx K) ix_seq (pv 8) pe_int (fun _ _ => rfl)) (pa_cons (pe_ix (r := rIx K) ix_seq (pv 8) pe_int (fun _ _ => rfl)) pa_nil))) (blkOk_by (own := [("x", 10), ("y", 12)]) (N := nsLPls) (sc := defScope s__law_plus) (by decide +kernel)) (fun _ _ _ _ _ => pg_tup rfl (pgs_cons (pg_name (i := 10) sc__law_plus.nd rfl (Or.inl rfl)) (pgs_cons (pg_name (i := 12) sc__law_plus.nd rfl (Or.inl rfl)) pgs_nil))) (fun _ _ _ _ _ => pts_nil) (fun _ _ _ _ _ => (pe_call l_sum.ok (hr.mono (by decide)) rfl l_sum.mg l_sum.kp l_sum.bd .nil pass0 (pa_cons (pe_lst (pa_cons (pv 10) (pa_cons (pv 12) pa_nil))) pa_nil)))) (pa_cons (pv 4) pa_nil))))))), ?_⟩
    have sl1 : 1 ≤ sizeLine := by rw [sizeLine_eq]; decide
    have s2z : 2 ≤ sizeLine := by rw [sizeLine_eq]; decide
    obtain ⟨a, v1, v2, rfl, ea, g1, g2⟩ := dn_pair hu0
    obtain ⟨a1, xs1, rfl, e1, r1⟩ := dn_t g1
    obtain ⟨a2, xs, rfl, e2, r2⟩ := dn_t g2
    obtain ⟨b, w1, w2, rfl, eb, f1, f2⟩ := dn_pair hv0
    obtain ⟨b1, ys1, rfl, i1, j1⟩ := dn_t f1
    obtain ⟨b2, ys, rfl, i2, j2⟩ := dn_t f2
    have lx : xs.length = q.2.length := by rw [r2.length, List.length_map]
    have lx1 : xs1.length = q.1.length := by rw [r1.length, List.length_map]
    have ly : ys.length = r.2.length := by rw [j2.length, List.length_map]
    have ly1 : ys1.length = r.1.length := by rw [j1.length, List.length_map]
    have lq := zq.lt
    have lw := zq.lw
    have lr := zr.lt
    have lwr := zr.lw
    have kpq := zq.cq.2.kp
    have few := o.2
    -- the first one's rows
    refine ⟨_, rfl, .inr (.inl ⟨a, _, _, .ref a2, rfl, rfl, SqT.of ea, rfl, a2, rfl, ⟨_, SqT.of e2⟩, fun D hD => lc_tup (K := K) (a := a2) (xs := xs) (fun i H' => ∃ (qs : List Addr) (kvs : List (List L2.Key × V)), H' D = some (.lst (qs.map V.ref)) ∧ PrR H' qs kvs ∧ RwT (fun b => b ≠ D) H' kvs (q.2.take i) ∧ qs.length = i ∧ Same H H')
      ⟨[], [], upd_same, .nil, .nil, rfl, snew hD⟩ (fun i H' _ ⟨_, _, _, _, _, _, s'⟩ => SqT.of (s' _ _ e2)) ?_ ?_⟩)⟩
    · rintro i x H1 hx ⟨qs, kvs, h1, pr, rt, lqs, s1⟩
      obtain ⟨t, ax, p1, rv, et, rfl, hax, dr, dp⟩ := dn_rows r2 i x hx
      obtain ⟨ap, rfl, hap⟩ := dn_pl dp
      obtain ⟨ar, zs, rfl, har, rr⟩ := dn_t dr
      have il : i < q.2.length := (List.getElem?_eq_some_iff.mp et).1
      refine ⟨ax, _, rfl, SqT.of (s1 _ _ hax), rfl, _, _, rfl, _, _, rfl, rfl, rfl, _, rfl, _, rfl, ar, zs, rfl, .inr (SqT.of (s1 _ _ har)), fun l hl => ⟨s2z, fun p hp => ?_⟩⟩
      have s2 := snew (o := .lst zs) hl
      have s3 := s2.trans (snew (o := .tup [.ref ap, .ref l]) hp)
      have h3 := s3 _ _ h1
      have lD : l ≠ D := (ne_of_none h1 hl).symm
      have tp := lst_tups (o := .lst (qs.map V.ref ++ [.ref p])) h3
      have ts : TupS H1 (upd (upd (upd H1 l (.lst zs)) p (.tup [.ref ap, .ref l])) D (.lst (qs.map V.ref ++ [.ref p]))) := (Same.tups s3).trans tp
      refine ⟨_, h3, by rw [List.length_map]; exact small1000 (by omega), qs ++ [p], kvs ++ [(kyP t.1, .ref l)], by rw [List.map_append, upd_same]; rfl, Paired.snoc (prR_tst ts pr) ⟨ap, tp _ _ upd_same, ts _ _ (s1 _ _ hap)⟩, ?_, by rw [List.length_append, lqs]; rfl, fun z o' e => ?_⟩
      · rw [List.take_add_one, et]
        refine RwT.snoc (G := fun b => b ≠ D) (p := t.1) (n := t.2) (acc := zs) lD ?_ (tnA_tups ts _ _ (tn_maps encN_tn t.2) (DnAll.mono s1 _ _ rr)) (rt.move (fun _ h => h) (fun b xs g e => ?_) ts)
        · rw [upd_ne lD]
          exact snew hp _ _ upd_same
        · rw [upd_ne g]; exact s3 _ _ e
      · rw [upd_ne (ne_of_none e hD)]
        exact s3 _ _ (s1 _ _ e)
    rintro H1 ⟨qs, kvs0, h1, pr, rt, lqs, s1⟩
    rw [lx, List.take_length] at rt
    have nd0 : (kvs0.map (·.1)).Nodup := by
      rw [rt.keys]
      exact List.Pairwise.map _ (fun _ _ h z => h (kyP_inj z)) kpq
    refine ⟨D, qs, kvs0, rfl, SqL.of h1, Paired.mapP pr fun _ _ ⟨z, z1, z2⟩ => ⟨z, SqT.of z1, z2⟩, fun rw_ hrw => ?_⟩
    have fold0 : mergeT [] kvs0 = kvs0 := fold_nd kvs0 [] nd0
    rw [fold0] at *
    have s2 := snew (o := .dT kvs0) hrw
    have s12 := s1.trans s2
    refine ⟨_, rfl, .inr (.inl ⟨a, _, _, .ref a1, rfl, rfl, SqT.of (s12 _ _ ea), rfl, .ref a1, xs1.length, rfl, .inr ⟨xs1, SqT.of (s12 _ _ e1), rfl⟩, _, rfl, .inr (.inl ⟨b, _, _, .ref b1, rfl, rfl, SqT.of (s12 _ _ eb), rfl, .ref b1, ys1.length, rfl, .inr ⟨ys1, SqT.of (s12 _ _ i1), rfl⟩, _, _, rfl, s2z, fun p hp => ?_⟩)⟩)⟩
    have emx : (if (ys1.length : Int) > (xs1.length : Int) then (ys1.length : Int) else (xs1.length : Int)) = ((max q.1.length r.1.length : Nat) : Int) := by split <;> omega
    rw [emx] at *
    obtain ⟨mx, em⟩ : ∃ mx, max q.1.length r.1.length = mx := ⟨_, rfl⟩
    have mx1 : q.1.length ≤ mx := by omega
    have mx2 : r.1.length ≤ mx := by omega
    have mx3 : mx ≤ 20 := by omega
    rw [em] at *
    have s3 := snew (o := .tup [.ref rw_, .int (mx : Int)]) hp
    have s13 := s12.trans s3
    refine ⟨p, _, rfl, SqT.of upd_same, rfl, _, _, rfl, _, _, rfl, rfl, ?_⟩
    have hrw3 : upd (upd H1 rw_ (.dT kvs0)) p (.tup [.ref rw_, .int (mx : Int)]) rw_ = some (.dT kvs0) := s3 _ _ upd_same
    have rt3 : RwT (fun _ => True) (upd (upd H1 rw_ (.dT kvs0)) p (.tup [.ref rw_, .int (mx : Int)])) kvs0 q.2 := rt.move (fun _ _ => trivial) (fun b xs _ e => (s2.trans s3) _ _ e) (Same.tups (s2.trans s3))
    refine ⟨_, rfl, .inr (.inl ⟨b, _, _, .ref b2, rfl, rfl, SqT.of (s13 _ _ eb), rfl, b2, rfl, ⟨_, SqT.of (s13 _ _ i2)⟩, for_tup (K := K) (a := b2) (xs := ys) (fun i σ H' => ∃ (x2 x3 x6 x7 : Option V) (kvs : List (List L2.Key × V)) (ts : List Tl), σ = [some (.ref a), some (.ref b), x2, x3, some (.ref rw_), some (.int (mx : Int)), x6, x7, none, none, none, none, none] ∧ H' rw_ = some (.dT kvs) ∧ RwT (fun _ => True) H' kvs ts ∧ Kp ts ∧ ts.length ≤ 10 + i ∧
        (∀ t ∈ ts, SPl t.1 ∧ t.2.length ≤ 10 ∧ ∀ n ∈ t.2, CN ok n) ∧ (∀ p, p ∉ (r.2.take i).map (·.1) → tl ts p = tl q.2 p) ∧ (∀ p, p ∈ (r.2.take i).map (·.1) → ∀ k d, cr (tl ts p) k d = cr (tl q.2 p) k d + cr (tl r.2 p) k d) ∧ Same H H')
      ⟨none, none, none, none, kvs0, q.2, rfl, hrw3, rt3, kpq, by omega, fun t ht => ⟨zq.pl t ht, zq.lm t ht, (zq.cq.2.1 t ht).2.1.1⟩, fun p _ => rfl, fun p h => by simp at h, s13⟩ (fun i σ H' _ ⟨_, _, _, _, _, _, _, _, _, _, _, _, _, _, s'⟩ => SqT.of (s' _ _ i2)) ?_ ?_⟩)⟩
    · rintro i x σ H2 hx ⟨x2, x3, x6, x7, kvs, ts, rfl, d1, rt2, kp, lts, hts, old, new, s4⟩
      obtain ⟨t, ax, p1, rv, et, rfl, hax, dr, dp⟩ := dn_rows j2 i x hx
      obtain ⟨ap, rfl, hap⟩ := dn_pl dp
      obtain ⟨ar, zs, rfl, har, rr⟩ := dn_t dr
      have ht := List.mem_of_getElem? et
      have il : i < r.2.length := (List.getElem?_eq_some_iff.mp et).1
      have lz : zs.length = t.2.length := by rw [rr.length, List.length_map]
      have lt2 := zr.lm t ht
      have nin : t.1 ∉ (r.2.take i).map (·.1) := by
        rw [List.map_take]
        intro m
        exact bf_irr ((pw_take zr.cq.2.pw (show (r.2.map (·.1))[i]? = some t.1 by rw [List.getElem?_map, et]; rfl)).1 _ m) rfl
      have tk : ∀ p, p ∈ (r.2.take (i + 1)).map (·.1) ↔ p ∈ (r.2.take i).map (·.1) ∨ p = t.1 := fun p => by
        rw [List.take_add_one, et]
        simp
      have oldt := old t.1 nin
      have zN := zq.row t.1
      refine ⟨ax, _, rfl, SqT.of (s4 _ _ hax), rfl, _, _, rfl, _, _, rfl, rfl, ?_⟩
      refine ⟨fun σ' H' => ∃ (nb : Addr) (acc : List V), σ' = [some (.ref a), some (.ref b), some (.ref ap), some (.ref ar), some (.ref rw_), some (.int (mx : Int)), some (.ref nb), x7, none, none, none, none, none] ∧ H' nb = some (.lst acc) ∧ DnAll H' acc ((tl q.2 t.1).map encN) ∧ Same H2 H', ?_, ?_⟩
      · refine ⟨_, rfl, rw_, rfl, .inr ⟨kvs, .inl d1⟩, _, rfl, Nat.zero_le _, fun ln hln => ?_⟩
        have sl := snew (o := .lst []) hln
        rcases rt2.get t.1 with ⟨h0, hno⟩ | ⟨nb, acc, h0, _, hnb, hd, _⟩
        · have dg := DGet.t (k := kyP t.1) (sl _ _ d1) (sl _ _ (s4 _ _ hap))
          rw [h0] at dg
          refine ⟨none, dg, ln, [], rfl, upd_same, ?_, sl⟩
          rw [← oldt, tl_off hno]
          exact .nil
        · have dg := DGet.t (k := kyP t.1) (sl _ _ d1) (sl _ _ (s4 _ _ hap))
          rw [h0] at dg
          refine ⟨some (.ref nb), dg, nb, acc, rfl, sl _ _ hnb, ?_, sl⟩
          rw [← oldt]
          exact DnAll.mono sl _ _ hd
      rintro σ H3 ⟨nb, acc, rfl, hnb, dacc, s5⟩
      have lac : acc.length = (tl q.2 t.1).length := by rw [dacc.length, List.length_map]
      have s45 := s4.trans s5
      refine ⟨_, rfl, .ref nb, acc.length, rfl, .inl ⟨acc, SqL.of hnb, rfl⟩, _, rfl, .ref ar, zs.length, rfl, .inr ⟨zs, SqT.of (s45 _ _ har), rfl⟩, _, _, rfl, ?_⟩
      have esz : (if (zs.length : Int) > (acc.length : Int) then (zs.length : Int) else (acc.length : Int)) = ((max (tl q.2 t.1).length t.2.length : Nat) : Int) := by split <;> omega
      rw [esz] at *
      obtain ⟨sz, es⟩ : ∃ sz, max (tl q.2 t.1).length t.2.length = sz := ⟨_, rfl⟩
      have sz1 : (tl q.2 t.1).length ≤ sz := by omega
      have sz2 : t.2.length ≤ sz := by omega
      have sz3 : sz ≤ 10 := by have := zN.2.1; omega
      rw [es] at *
      refine ⟨fun σ' H' => ∃ (nb : Addr) (acc : List V), σ' = [some (.ref a), some (.ref b), some (.ref ap), some (.ref ar), some (.ref rw_), some (.int (mx : Int)), some (.ref nb), some (.int (sz : Int)), none, none, none, none, none] ∧ H' nb = some (.lst acc) ∧ DnAll H' acc ((padR (tl q.2 t.1) sz).map encN) ∧ Same H2 H', ?_, ?_⟩
      · refine ⟨_, rfl, Nat.zero_le _, fun p0 hp0 => ⟨sl1, fun l0 hl0 => ?_⟩⟩
        have s6 := (snew (o := .tup []) hp0).trans (snew (o := .lst [.ref p0]) hl0)
        have p0' := snew (o := .lst [.ref p0]) hl0 _ _ (upd_same (H := H3) (a := p0) (o := .tup []))
        refine ⟨_, rfl, _, rfl, .ref nb, acc.length, rfl, .inl ⟨acc, SqL.of (s6 _ _ hnb), rfl⟩, _, _, rfl, rfl, l0, _, [.ref p0], rfl, rfl, upd_same, by omega, by omega, ?_, fun p hp => ?_⟩
        · show 1 * _ ≤ sizeLine
          exact Nat.le_of_lt (small1000 (by omega))
        · have s7 := snew (o := .lst (List.replicate ((sz : Int) - (acc.length : Int)).toNat [V.ref p0]).flatten) hp
          rw [replicate_one] at *
          refine ⟨nb, p, acc, _, rfl, rfl, (s6.trans s7) _ _ hnb, upd_same, by rw [List.length_replicate]; exact Nat.le_of_lt (small1000 (by omega)), fun z hz => ?_⟩
          have s8 := snew (o := .lst (acc ++ List.replicate ((sz : Int) - (acc.length : Int)).toNat (V.ref p0))) hz
          refine ⟨z, _, rfl, upd_same, ?_, s5.trans (s6.trans (s7.trans s8))⟩
          have en : ((sz : Int) - (acc.length : Int)).toNat = sz - (tl q.2 t.1).length := by omega
          unfold padR
          rw [List.map_append, List.map_replicate, ← en]
          exact DnAll.app (DnAll.mono (s6.trans (s7.trans s8)) _ _ dacc) (dn_rep (.tup ((s7.trans s8) _ _ p0') .nil) _)
      rintro σ H4 ⟨nb2, acc2, rfl, hnb2, dacc2, s6⟩
      have lac2 : acc2.length = sz := by rw [dacc2.length, List.length_map, padR_len sz1]
      have s46 := s4.trans s6
      refine ⟨_, rfl, nb2, acc2, rfl, SqL.of hnb2, fun D2 hD2 => lc_enc (enc := encN) encN_tn walk_enum (fun H' s' => SqL.of (s' _ _ hnb2)) (fun j m => CN ok m ∧ ∀ d, co m d = cr (tl q.2 t.1) j d + cr t.2 j d) (by omega) hD2 (fun j x H5 H6 Q' hj s7 y kk => ?_) fun acc3 ns H5 e3 d3 ln hn s7 => ?_⟩
      · obtain ⟨T_, x1, x2', rfl, nT, rfl, ee, ex⟩ := y
        cases (Option.some.inj ee)
        obtain ⟨n, en⟩ : ∃ n, (padR (tl q.2 t.1) sz)[j]? = some n := ⟨_, List.getElem?_eq_getElem (by rw [padR_len sz1]; omega)⟩
        obtain ⟨x', ex', dx'⟩ := row_at dacc2 en
        rw [show acc2[j]? = some x2' from ex] at ex'
        cases ex'
        have sT := snew (o := .tup [.int (j : Nat), x2']) nT
        have zn : Nu ok C n := by
          rcases padR_mem (List.mem_of_getElem? en) with h | h
          · exact ⟨zN.1.1 n h, zN.2.2 n h⟩
          · rw [h]; exact nu_nil
        have cn : ∀ d, co n d = cr (tl q.2 t.1) j d := fun d => by
          have := padR_at (tl q.2 t.1) sz j
          rw [getD_at en] at this
          rw [this]; rfl
        refine ⟨T_, _, rfl, SqT.of upd_same, rfl, _, _, rfl, _, _, rfl, rfl, rfl, ?_⟩
        have har6 := (s7.trans sT) _ _ (s46 _ _ har)
        refine ⟨_, rfl, _, rfl, _, rfl, .ref ar, zs.length, rfl, .inr ⟨zs, SqT.of har6, rfl⟩, _, _, rfl, rfl, _, rfl, ite_b (fun c => ?_) (fun c => ?_)⟩
        · have c' : j < t.2.length := by have := of_decide_eq_true c; omega
          obtain ⟨m, em'⟩ : ∃ m, t.2[j]? = some m := ⟨_, List.getElem?_eq_getElem c'⟩
          obtain ⟨y, ey, dy⟩ := row_at rr em'
          refine ⟨_, rfl, _, rfl, .inr (.inl ⟨ar, zs, _, y, rfl, rfl, SqT.of har6, atI_nat ey, s2z, fun l hl => ?_⟩)⟩
          have sl := snew (o := .lst [x2', y]) hl
          refine lsum_two (E := E0) few c60 upd_same (Dn.mono (s7.trans (sT.trans sl)) _ _ dx') (Dn.mono (s46.trans (s7.trans (sT.trans sl))) _ _ dy) zn ⟨(zr.cq.2.1 t ht).2.1.1 m (List.mem_of_getElem? em'), zr.zt t ht m (List.mem_of_getElem? em')⟩ fun s r' H7 ds cs es' ss => ?_
          refine kk _ s H7 ds ⟨cs, fun d => ?_⟩ (sT.trans (sl.trans ss))
          rw [es', cn]
          unfold cr
          rw [getD_at em']
        · have c' : t.2.length ≤ j := by have := of_decide_eq_false c; omega
          refine ⟨Nat.zero_le _, fun p hp => ⟨s2z, fun l hl => ?_⟩⟩
          have sl := (snew (o := .tup []) hp).trans (snew (o := .lst [x2', .ref p]) hl)
          refine lsum_two (E := E0) few c60 upd_same (Dn.mono (s7.trans (sT.trans sl)) _ _ dx') (m := []) (.tup (snew hl _ _ upd_same) .nil) zn nu_nil fun s r' H7 ds cs es' ss => ?_
          refine kk _ s H7 ds ⟨cs, fun d => ?_⟩ (sT.trans (sl.trans ss))
          rw [es', cn, cr_off c']
          rfl
      · have s67 := s6.trans s7
        have d5 := s67 _ _ d1
        have rt5 : RwT (fun _ => True) H5 kvs ts := rt2.move (fun _ h => h) (fun b xs _ e => s67 _ _ e) (Same.tups s67)
        refine ⟨_, rfl, _, rfl, rw_, _, rfl, DPut.t (k := kyP t.1) d5 (s67 _ _ (s4 _ _ hap)) (by rw [rt2.length]; exact small1000 (by omega)), ?_⟩
        have rt6 := rwt_put (p := t.1) (n := ns) d5 rt5 trivial e3 d3
        have crn : ∀ k' d, cr ns k' d = cr (tl q.2 t.1) k' d + cr t.2 k' d := fun k' d => by
          rcases Nat.lt_or_ge k' ns.length with c2 | c2
          · show co (ns.getD k' []) d = _
            rw [getD_at (List.getElem?_eq_getElem c2)]
            exact (hn k' _ (List.getElem?_eq_getElem c2)).2 d
          · rw [cr_off c2, cr_off (by omega), cr_off (by omega), Rat.add_zero]
        refine ⟨_, _, _, _, _, _, rfl, upd_same, rt6, putR_kp kp, ?_, fun t1 h1' => ?_, fun p hp => ?_, fun p hp k' d => ?_, fun b o' e => ?_⟩
        · have := putR_len (ts := ts) (p := t.1) (n := ns)
          omega
        · rcases putR_mem h1' with rfl | h1'
          · refine ⟨zr.pl t ht, by show ns.length ≤ 10; omega, fun n hn' => ?_⟩
            obtain ⟨j', hj'⟩ := List.mem_iff_getElem?.mp hn'
            exact (hn j' n hj').1
          · exact hts t1 h1'
        · rw [tk, not_or] at hp
          rw [tl_put, if_neg (fun z => hp.2 z.symm)]
          exact old p hp.1
        · rw [tl_put]
          by_cases c : t.1 = p
          · subst c
            rw [if_pos rfl, crn, tl_at zr.cq.2.kp ht]
          · rw [if_neg c]
            rcases (tk p).mp hp with h | h
            · exact new p h k' d
            · exact absurd h.symm c
        · have hb : b ≠ rw_ := ne_of_none (s1 _ _ e) hrw
          rw [upd_ne hb]
          exact s67 _ _ (s4 _ _ e)
    · rintro σ H2 ⟨x2, x3, x6, x7, kvs, ts, rfl, d1, rt2, kp, lts, hts, old, new, s4⟩
      rw [ly, List.take_length] at old new
      refine ⟨_, rfl, _, rfl, s2z, fun pt hpt => ⟨pt, rfl, ⟨_, SqT.of upd_same⟩, fun D3 hD3 => ?_⟩⟩
      have spt := snew (o := .tup [.ref a, .ref b]) hpt
      obtain ⟨H3, eH3⟩ : ∃ H3, upd H2 pt (.tup [.ref a, .ref b]) = H3 := ⟨_, rfl⟩
      have hpt3 : H3 pt = some (.tup [.ref a, .ref b]) := by rw [← eH3]; exact upd_same
      rw [eH3] at spt hD3 ⊢
      refine lc_tup (K := K) (a := pt) (xs := [.ref a, .ref b]) (fun i H' => ∃ bs : List Addr, H' D3 = some (.lst (bs.map V.ref)) ∧ bs.length = i ∧ (∀ (j : Nat) b', bs[j]? = some b' → b' ≠ D3 ∧ ∃ acc, H' b' = some (.lst acc) ∧ DnAll H' acc ((padR (if j = 0 then q.1 else r.1) mx).map encN)) ∧ Same H3 H')
        ⟨[], upd_same, rfl, fun j b' e => by simp at e, snew hD3⟩ (fun i H' _ ⟨_, _, _, _, s'⟩ => SqT.of (s' _ _ hpt3)) ?_ ?_
      · rintro i x H4 hx ⟨bs, m1, m2, m3, s5⟩
        obtain ⟨ia, ib, iw, zs, row, rfl, hia, hib, hz, hl, erow⟩ : ∃ (ia ib : Addr) (iw : V) (zs : List V) (row : List Nm), x = .ref ia ∧ H ia = some (.tup [.ref ib, iw]) ∧ H ib = some (.tup zs) ∧ DnAll H zs (row.map encN) ∧ row.length ≤ mx ∧ (if i = 0 then q.1 else r.1) = row := by
          match i, hx with
          | 0, hx => cases hx; exact ⟨a, a1, _, xs1, q.1, rfl, ea, e1, r1, mx1, rfl⟩
          | 1, hx => cases hx; exact ⟨b, b1, _, ys1, r.1, rfl, eb, i1, j1, mx2, rfl⟩
        have il : i < 2 := (List.getElem?_eq_some_iff.mp hx).1
        have lzs : zs.length = row.length := by rw [hz.length, List.length_map]
        have s6 : Same H H4 := (s4.trans spt).trans s5
        refine ⟨rfl, _, rfl, .inr (.inl ⟨ia, _, _, .ref ib, rfl, rfl, SqT.of (s6 _ _ hia), rfl, ib, zs, rfl, .inr (SqT.of (s6 _ _ hib)), fun l hl' => ?_⟩)⟩
        have t1 := snew (o := .lst zs) hl'
        refine ⟨Nat.zero_le _, fun p0 hp0 => ⟨sl1, fun l0 hl0 => ?_⟩⟩
        have t2 := (snew (o := .tup []) hp0).trans (snew (o := .lst [.ref p0]) hl0)
        have p0' := snew (o := .lst [.ref p0]) hl0 _ _ (upd_same (H := upd H4 l (.lst zs)) (a := p0) (o := .tup []))
        have t12 := t1.trans t2
        have s7 := s6.trans t12
        refine ⟨_, rfl, _, rfl, .inr (.inl ⟨ia, _, _, .ref ib, rfl, rfl, SqT.of (s7 _ _ hia), rfl, .ref ib, zs.length, rfl, .inr ⟨zs, SqT.of (s7 _ _ hib), rfl⟩, _, _, rfl, rfl, l0, _, [.ref p0], rfl, rfl, upd_same, by omega, by omega, ?_, fun p hp => ?_⟩)⟩
        · show 1 * _ ≤ sizeLine
          exact Nat.le_of_lt (small1000 (by omega))
        · have t3 := snew (o := .lst (List.replicate ((mx : Int) - (zs.length : Int)).toNat [V.ref p0]).flatten) hp
          rw [replicate_one] at *
          refine ⟨l, p, zs, _, rfl, rfl, (t2.trans t3) _ _ upd_same, upd_same, by rw [List.length_replicate]; exact Nat.le_of_lt (small1000 (by omega)), fun z hz' => ?_⟩
          have t4 := snew (o := .lst (zs ++ List.replicate ((mx : Int) - (zs.length : Int)).toNat (V.ref p0))) hz'
          have tall := t12.trans (t3.trans t4)
          have mD := tall _ _ m1
          have zD : z ≠ D3 := (ne_of_none ((t12.trans t3) _ _ m1) hz').symm
          have tp := lst_tups (o := .lst (bs.map V.ref ++ [.ref z])) mD
          refine ⟨_, mD, by rw [List.length_map]; exact small1000 (by omega), bs ++ [z], by rw [List.map_append, upd_same]; rfl, by rw [List.length_append, m2]; rfl, fun j b' e => ?_, fun b' o' e => ?_⟩
          · rcases Nat.lt_or_ge j bs.length with c | c
            · rw [List.getElem?_append_left c] at e
              obtain ⟨n1, acc, n2, n3⟩ := m3 j b' e
              exact ⟨n1, acc, by rw [upd_ne n1]; exact tall _ _ n2, tnA_tups ((Same.tups tall).trans tp) _ _ (tn_maps encN_tn _) n3⟩
            · rw [List.getElem?_append_right c] at e
              have ej : j - bs.length = 0 := by
                rcases Nat.eq_zero_or_pos (j - bs.length) with z' | z'
                · exact z'
                · rw [List.getElem?_eq_none (show [z].length ≤ _ from z')] at e; cases e
              rw [ej] at e
              cases e
              have : j = i := by omega
              subst this
              refine ⟨zD, _, by rw [upd_ne zD]; exact upd_same, ?_⟩
              rw [erow]
              have en : ((mx : Int) - (zs.length : Int)).toNat = mx - row.length := by omega
              unfold padR
              rw [List.map_append, List.map_replicate, ← en]
              exact tnA_tups tp _ _ (fun d hd => by
                rcases List.mem_append.mp hd with h | h
                · exact tn_maps encN_tn row d h
                · rw [List.eq_of_mem_replicate h]; exact encN_tn []) (DnAll.app (DnAll.mono (s6.trans tall) _ _ hz) (dn_rep (.tup ((t3.trans t4) _ _ p0') .nil) _))
          · rw [upd_ne (ne_of_none e hD3)]
            exact tall _ _ (s5 _ _ e)
      · rintro H4 ⟨bs, m1, m2, m3, s5⟩
        obtain ⟨c0, c1', rfl⟩ : ∃ c0 c1, bs = [c0, c1] := by
          match bs, m2 with
          | [x, y], _ => exact ⟨x, y, rfl⟩
        obtain ⟨_, A0, h0, dA0⟩ := m3 0 c0 rfl
        obtain ⟨_, A1, h1', dA1⟩ := m3 1 c1' rfl
        have dA0' : DnAll H4 A0 ((padR q.1 mx).map encN) := dA0
        have dA1' : DnAll H4 A1 ((padR r.1 mx).map encN) := dA1
        have lA0 : A0.length = mx := by rw [dA0'.length, List.length_map, padR_len mx1]
        have lA1 : A1.length = mx := by rw [dA1'.length, List.length_map, padR_len mx2]
        have s6 : Same H H4 := (s4.trans spt).trans s5
        refine ⟨_, rfl, .inl ⟨D3, _, _, .ref c0, rfl, rfl, SqL.of m1, rfl, _, rfl, .inl ⟨D3, _, _, .ref c1', rfl, rfl, SqL.of m1, rfl, c0, c1', A0, A1, rfl, SqL.of h0, SqL.of h1', fun D4 hD4 => lc_enc (enc := encN) encN_tn (walk_zip (K := K) (a := c0) (b := c1') (xs := A0) (ys := A1) (n := mx) (by omega)) (fun H' s' => ⟨SqL.of (s' _ _ h0), SqL.of (s' _ _ h1')⟩) (fun j m => CN ok m ∧ ∀ d, co m d = cr q.1 j d + cr r.1 j d) (by omega) hD4 (fun j x H5 H6 Q' hj s7 y kk => ?_) fun acc3 ns H5 e3 d3 ln hn s7 => ?_⟩⟩⟩
        · obtain ⟨T_, x1, y1, rfl, nT, rfl, ex, ey⟩ := y
          obtain ⟨n, en⟩ : ∃ n, (padR q.1 mx)[j]? = some n := ⟨_, List.getElem?_eq_getElem (by rw [padR_len mx1]; exact hj)⟩
          obtain ⟨m, em'⟩ : ∃ m, (padR r.1 mx)[j]? = some m := ⟨_, List.getElem?_eq_getElem (by rw [padR_len mx2]; exact hj)⟩
          obtain ⟨x', ex', dx'⟩ := row_at dA0' en
          obtain ⟨y', ey', dy'⟩ := row_at dA1' em'
          rw [show A0[j]? = some x1 from ex] at ex'
          rw [show A1[j]? = some y1 from ey] at ey'
          cases ex'
          cases ey'
          have zn : Nu ok C n := by
            rcases padR_mem (List.mem_of_getElem? en) with h | h
            · exact ⟨zq.cq.1.1 n h, zq.zw n h⟩
            · rw [h]; exact nu_nil
          have zm : Nu ok C m := by
            rcases padR_mem (List.mem_of_getElem? em') with h | h
            · exact ⟨zr.cq.1.1 m h, zr.zw m h⟩
            · rw [h]; exact nu_nil
          have cn : ∀ d, co n d = cr q.1 j d := fun d => by
            have := padR_at q.1 mx j
            rw [getD_at en] at this
            rw [this]; rfl
          have cm : ∀ d, co m d = cr r.1 j d := fun d => by
            have := padR_at r.1 mx j
            rw [getD_at em'] at this
            rw [this]; rfl
          have sT := snew (o := .tup [x1, y1]) nT
          refine ⟨T_, _, rfl, SqT.of upd_same, rfl, _, _, rfl, _, _, rfl, rfl, rfl, ?_⟩
          refine ⟨_, rfl, _, rfl, s2z, fun l hl => ?_⟩
          have sl := snew (o := .lst [x1, y1]) hl
          refine lsum_two (E := E0) few c60 upd_same (Dn.mono (s7.trans (sT.trans sl)) _ _ dx') (Dn.mono (s7.trans (sT.trans sl)) _ _ dy') zn zm fun s r' H7 ds cs es' ss => ?_
          exact kk _ s H7 ds ⟨cs, fun d => by rw [es', cn, cm]⟩ (sT.trans (sl.trans ss))
        · have s8 := (spt.trans s5).trans s7
          refine ⟨_, rfl, D4, rw_, acc3, ns, kvs, ts, ok, rfl, .inl (SqL.of e3), d3, by omega, fun n hn' => ?_, s8 _ _ d1, rt2.move (fun _ h => h) (fun b xs _ e => s8 _ _ e) (Same.tups s8), kp, by omega, fun t ht => ⟨(hts t ht).1, by have := (hts t ht).2.1; omega, (hts t ht).2.2⟩, tabs_same hT (s4.trans s8), fun s r' H6 ds cs es1 es2 s9 T9 => ?_⟩
          · obtain ⟨j', hj'⟩ := List.mem_iff_getElem?.mp hn'
            exact (hn j' n hj').1
          · refine k s r' H6 ds cs ⟨fun j d => ?_, fun p' j d => ?_⟩ ((Same.extN (s4.trans s8)).trans s9) T9
            · rw [es1]
              rcases Nat.lt_or_ge j ns.length with c2 | c2
              · show co (ns.getD j []) d = _
                rw [getD_at (List.getElem?_eq_getElem c2)]
                exact (hn j _ (List.getElem?_eq_getElem c2)).2 d
              · rw [cr_off c2, cr_off (by omega), cr_off (by omega), Rat.add_zero]
            · rw [es2]
              by_cases c : p' ∈ r.2.map (·.1)
              · exact new p' c j d
              · rw [old p' c, tl_off (ts := r.2) c, cr_nil, Rat.add_zero]
end
end N3

namespace N3
open PySem PySem.Spec PyProof.Rows L2 N2 LamX
/-! ### the law's two drawn quotients -/
def spPair (c : Addr) : Sp := fun vs H Q _ => ∃ (dk l pm : Addr) (ms : List Int) (ok : Int → Prop), vs = [.ref dk, .ref pm] ∧ Deck H dk l ∧ H pm = some (.lst (ms.map V.int)) ∧ pm ≠ dk ∧ pm ≠ l ∧ ms ≠ [] ∧ ms.length ≤ 8 ∧ (∀ m ∈ ms, ok m) ∧ ok 1 ∧ OkD ok ∧ Tabs (tabL c) H ∧
  ∀ (p : Addr) (u v : V) (q r : Qt) (H' : Hp), H' p = some (.tup [u, v]) → Dn H' u (encQ q) → Dn H' v (encQ r) → QZ ok 21 9 6 4 q → QZ ok 21 9 6 4 r → Deck H' dk l → KeepX dk l H H' → Tabs (tabL c) H' → Q (.ref p) H'
theorem plAt_keepX {H H' : Hp} {dk l : Addr} {x : V} (D : Deck H dk l) (k : KeepX dk l H H') (h : PlAt H x) : PlAt H' x := by
  obtain ⟨p, pl, e, h, q⟩ := h
  exact ⟨p, pl, e, keepX_tups D k _ _ h, q⟩
theorem told_row {K : PySem.W.Frag} {c aw d : Addr} {accW : List V} {r0 : List Nm} {kvs : List (List L2.Key × V)} {ts : List Tl} {ok : Int → Prop} {C W M T : Nat} {H : Hp} {Q : VK} {E : XK} (hW : SqE K H aw accW) (dW : DnAll H accW (r0.map encN)) (lW : r0.length ≤ W) (nW : ∀ n ∈ r0, Nu ok C n) (hd : H d = some (.dT kvs)) (rt : RwT (fun _ => True) H kvs ts) (kp : Kp ts)
    (lt : ts.length ≤ T) (hts : ∀ t ∈ ts, SPl t.1 ∧ t.2.length ≤ M ∧ ∀ n ∈ t.2, Nu ok C n) (hT : Tabs (tabL c) H) (hC : 1 ≤ C) (w60 : W ≤ 60) (m60 : M ≤ 60) (t60 : T ≤ 60)
    (k : ∀ (q : Qt) (r : Addr) (H' : Hp), Dn H' (.ref r) (encQ q) → QZ ok C W M T q → ExtN H H' → Tabs (tabL c) H' → Q (.ref r) H') : spToldU K c [.ref aw, .ref d] H Q E :=
  ⟨aw, d, accW, r0, kvs, ts, ok, rfl, hW, dW, by omega, fun n hn => (nW n hn).1, hd, rt, kp, by omega, fun t ht => ⟨(hts t ht).1, by have := (hts t ht).2.1; omega, fun n hn => ((hts t ht).2.2 n hn).1⟩, hT, fun q r H' dq cq e1 e2 ex T' => k q r H' dq (qz_told cq e1 e2 lW nW lt hts hC) ex T'⟩
theorem sqT_sm {K : PySem.W.Frag} {H H' : Hp} {a : Addr} {xs : List V} (s : Same H H') (h : SqT K H a xs) : SqT K H' a xs := by
  rcases h with (h | ⟨o, h⟩) | h
  · exact .inl (.inl (s _ _ h))
  · exact .inl (.inr ⟨o, s _ _ h⟩)
  · exact .inr h
theorem slA_toT {K : PySem.W.Frag} {H : Hp} {a : Addr} {xs : List V} {m : Nat} {Q : VK} (h : H a = some (.tup xs)) (hm : m ≤ xs.length) (k : ∀ (p : Addr) (H' : Hp), H' p = some (.tup (xs.take m)) → Same H H' → Q (.ref p) H') : rSlA K (.ref a) none (some (m : Int)) H Q := by
  refine ⟨a, xs, rfl, SqT.of h, fun ⟨_, z⟩ => ?_, fun _ p hp => ?_⟩
  · have e1 : HT.sIx xs.length xs.length (some (m : Int)) = min m xs.length := HT.sIx_nat xs.length xs.length m
    rw [e1, Nat.min_eq_left hm] at z
    refine k a H ?_ (Same.refl _)
    rw [List.take_of_length_le (by omega)]
    exact h
  · rw [cutTo _ _ hm]
    exact k p _ upd_same (snew hp)
section
variable {P : Program} {w : World} {K : PySem.W.Frag} {mg : Str → Option Value} {base : Heap}
abbrev s__law_pair : Stmt := top 69
abbrev nsLPr : List Str := ["deck", "menu", "poles", "size", "one", "way", "some", "whole", "rows", "pole", "row", "many", "number"]
theorem sc__law_pair : FnScope nsLPr ["deck", "menu"] (defScope s__law_pair) := ⟨rfl, rfl, rfl, by decide +kernel, rfl, by decide +kernel, by decide +kernel⟩
theorem ok__law_pair {f f__law_draw f__law_pick f__law_poles f__law_quotient f__law_scaled f__law_told : Addr} {fd d__law_draw d__law_pick d__law_poles d__law_quotient d__law_scaled d__law_told : FuncData} {pT : Addr} (F : Fun K "_law_pair" "_law_pair" s__law_pair f fd) (T : Bt mg) (l_draw : Kn P w K mg base 1 "_law_draw" ["deck", "many"] spDraw f__law_draw d__law_draw) (l_pick : Kn P w K mg base 2 "_law_pick" ["deck", "some"] (spPick K) f__law_pick d__law_pick) (l_poles : Kn P w K mg base 4 "_law_poles" ["deck", "most"] spPoles f__law_poles d__law_poles) (l_quotient : Kn P w K mg base 4 "_law_quotient" ["deck", "menu", "poles", "order", "degree", "size"] (spQuotU K pT) f__law_quotient d__law_quotient) (l_scaled : Kn P w K mg base 3 "_law_scaled" ["number", "top", "bottom"] spScaled f__law_scaled d__law_scaled) (l_told : Kn P w K mg base 2 "_law_told" ["whole", "rows"] (spToldU K pT) f__law_told d__law_told) : FnOk P w K mg base CX0 5 f fd ["deck", "menu"] (spPair pT) := by
  refine F.ok sc__law_pair (fun vs H Q E h => ?_) (fun cdv A outer s H vs Q E hr h => ?_)
  · obtain ⟨dk, l, pm, ms, ok, rfl, _⟩ := h
    rfl
  · obtain ⟨dk, l, pm, ms, ok, rfl, De, hpm, m1, m2, m3, m4, m5, ok1, o, hT, k⟩ := h
    have hu := hu_of hr
    refine ⟨_, pss_cons (ps_par (i := 2) (j := 3) rfl sc__law_pair.nd rfl rfl (by decide) rfl rfl (pa_cons (pe_call l_poles.ok (hr.mono (by decide)) rfl l_poles.mg l_poles.kp l_poles.bd .nil pass0 (pa_cons (pv 0) (pa_cons pe_int pa_nil))) (pa_cons (pe_call l_pick.ok (hr.mono (by decide)) rfl l_pick.mg l_pick.kp l_pick.bd .nil pass0 (pa_cons (pv 0) (pa_cons (pe_lst (pa_cons pe_int (pa_cons pe_int (pa_cons pe_int (pa_cons (pe_op op_pow pe_int pe_int) pa_nil))))) pa_nil))) pa_nil)) (by rfl))
      (pss_cons (ps_par (i := 4) (j := 5) rfl sc__law_pair.nd rfl rfl (by decide) rfl rfl (pa_cons (pe_call l_quotient.ok (hr.mono (by decide)) rfl l_quotient.mg l_quotient.kp l_quotient.bd .nil pass0 (pa_cons (pv 0) (pa_cons (pv 1) (pa_cons (pv 2) (pa_cons pe_int (pa_cons pe_int (pa_cons (pv 3) pa_nil))))))) (pa_cons (pe_call l_draw.ok (hr.mono (by decide)) rfl l_draw.mg l_draw.kp l_draw.bd .nil pass0 (pa_cons (pv 0) (pa_cons pe_int pa_nil))) pa_nil)) (by rfl))
      (pss_cons (ps_if (pt_cmpR op_gt (pv 5) pe_int (nomark _))
        (C8.pss_cut (ps_set (i := 6) sc__law_pair.nd rfl (Or.inl rfl) (pe_ifExp (pt_cmpR op_lt (pv 5) pe_int (nomark _)) (pv 2) (pe_call l_poles.ok (hr.mono (by decide)) rfl l_poles.mg l_poles.kp l_poles.bd .nil pass0 (pa_cons (pv 0) (pa_cons pe_int pa_nil)))))
        (pss_one (ps_ret (pe_tup (pa_cons (pv 4) (pa_cons (pe_call l_quotient.ok (hr.mono (by decide)) rfl l_quotient.mg l_quotient.kp l_quotient.bd .nil pass0 (pa_cons (pv 0) (pa_cons (pv 1) (pa_cons (pv 6) (pa_cons pe_int (pa_cons pe_int (pa_cons (pv 3) pa_nil))))))) pa_nil))))))
        pss_nil)
      (pss_cons (ps_set (i := 7) sc__law_pair.nd rfl (Or.inl rfl) (pe_callTy call_tuple_of (by rfl) T.tuple (by decide +kernel) (pa_cons (pe_lc (own := [("number", 12)]) (g := (gName 12)) (tt := tYes) rfl sc__law_pair.nd (pi_tup (pe_ix (r := rIx K) ix_seq (pv 4) pe_int (fun _ _ => rfl))) (blkOk_by (own := [("number", 12)]) (N := nsLPr) (sc := defScope s__law_pair) (by decide +kernel)) (fun _ _ _ _ _ => pg_name (i := 12) sc__law_pair.nd rfl (Or.inl rfl)) (fun _ _ _ _ _ => pts_nil) (fun _ _ _ _ _ => (pe_call l_scaled.ok (hr.mono (by decide)) rfl l_scaled.mg l_scaled.kp l_scaled.bd .nil pass0 (pa_cons (pv 12) (pa_cons (pe_un un_neg pe_int) (pa_cons pe_int pa_nil)))))) pa_nil)))
      (pss_cons (ps_set (i := 8) sc__law_pair.nd rfl (Or.inl rfl) pe_dnewT)
      (pss_cons (ps_for PassesOwn.never rfl (pi_tup (pe_ix (r := rIx K) ix_seq (pv 4) pe_int (fun _ _ => rfl))) (pg_tup rfl (pgs_cons (pg_name (i := 9) sc__law_pair.nd rfl (Or.inl rfl)) (pgs_cons (pg_name (i := 10) sc__law_pair.nd rfl (Or.inl rfl)) pgs_nil)))
        (C8.pss_cut (ps_set (i := 11) sc__law_pair.nd rfl (Or.inl rfl) (pe_ifExp (pt_cmpR op_eq (pv 5) pe_int (nomark _)) (pe_callB call_len (by rfl) T.len PySem.boot_len (pa_cons (pv 10) pa_nil)) (pe_op op_add pe_int (pe_call l_draw.ok (hr.mono (by decide)) rfl l_draw.mg l_draw.kp l_draw.bd .nil pass0 (pa_cons (pv 0) (pa_cons (pe_callB call_len (by rfl) T.len PySem.boot_len (pa_cons (pv 10) pa_nil)) pa_nil))))))
        (C8.pss_cut (ps_dput hu (pv 8) (pv 9) (pe_lc (own := [("number", 12)]) (g := (gName 12)) (tt := tYes) rfl sc__law_pair.nd (pi_tup (pe_slice sl_tupA (pv 10) (po_some (pe_op op_sub (pe_callB call_len (by rfl) T.len PySem.boot_len (pa_cons (pv 10) pa_nil)) (pv 11))) po_none)) (blkOk_by (own := [("number", 12)]) (N := nsLPr) (sc := defScope s__law_pair) (by decide +kernel)) (fun _ _ _ _ _ => pg_name (i := 12) sc__law_pair.nd rfl (Or.inl rfl)) (fun _ _ _ _ _ => pts_nil) (fun _ _ _ _ _ => (pe_call l_scaled.ok (hr.mono (by decide)) rfl l_scaled.mg l_scaled.kp l_scaled.bd .nil pass0 (pa_cons (pv 12) (pa_cons (pe_un un_neg pe_int) (pa_cons pe_int pa_nil)))))) rfl)
        (pss_one (ps_dput hu (pv 8) (pv 9) (pe_op op_cat (pe_op op_rep (pe_lst (pa_cons (pe_tup pa_nil) pa_nil)) (pe_op op_sub (pe_callB call_len (by rfl) T.len PySem.boot_len (pa_cons (pv 10) pa_nil)) (pv 11))) (pe_dget hu (pv 8) (pv 9) (fun _ _ => rfl))) rfl)))))
      (pss_one (ps_ret (pe_tup (pa_cons (pv 4) (pa_cons (pe_call l_told.ok (hr.mono (by decide)) rfl l_told.mg l_told.kp l_told.bd .nil pass0 (pa_cons (pe_ifExp (pt_cmpR op_eq (pv 5) pe_int (nomark _)) (pe_slice sl_tupA (pv 7) po_none (po_some (pe_call l_draw.ok (hr.mono (by decide)) rfl l_draw.mg l_draw.kp l_draw.bd .nil pass0 (pa_cons (pv 0) (pa_cons (pe_op op_add (pe_callB call_len (by rfl) T.len PySem.boot_len (pa_cons (pv 7) pa_nil)) pe_int) pa_nil))))) (pv 7)) (pa_cons (pv 8) pa_nil))) pa_nil)))))))))), ?_⟩
    have sl1 : 1 ≤ sizeLine := by rw [sizeLine_eq]; decide
    have s2z : 2 ≤ sizeLine := by rw [sizeLine_eq]; decide
    have s4z : 4 ≤ sizeLine := by rw [sizeLine_eq]; decide
    refine ⟨_, rfl, dk, l, 4, rfl, De, by decide, by decide, fun pp xs H1 hpp np1 np2 lx pls D1 k1 => ?_⟩
    refine ⟨_, rfl, _, _, rfl, rfl, ⟨by decide, by decide, by decide⟩, s4z, fun p hp => ?_⟩
    refine pick_new (E := E0) D1 hp (by simp) (by show 4 < _; decide) fun x H2 hx D2 k2 => ?_
    obtain ⟨size, rfl, z1, z2⟩ : ∃ m : Int, x = .int m ∧ 0 < m ∧ m < 2 ^ 20 := by
      simp only [List.mem_cons, List.not_mem_nil, or_false] at hx
      rcases hx with rfl | rfl | rfl | rfl <;> exact ⟨_, rfl, by decide, by decide⟩
    have k12 := k1.trans k2
    refine ⟨_, _, rfl, ?_⟩
    refine ⟨_, rfl, _, rfl, _, rfl, _, rfl, dk, l, pm, pp, ms, xs, 6, 8, size, 20, ok, rfl, D2, k12 _ _ hpm m1 m2, m1, m2, m3, m4, m5, ok1, k2 _ _ hpp np1 np2, np1, np2, by omega, fun x hx => plAt_keep D1 k2 (pls x hx), by decide, by decide, by decide, by decide, z1, z2, by decide, by decide, tabs_deck De k12 hT, fun q r0 H3 dq zq D3 k3 T3 => ?_⟩
    have zq' : QZ ok 21 9 6 4 q := zq.mono (by decide) (by decide) (by decide) (by omega)
    refine ⟨_, rfl, dk, l, 6, rfl, D3, by decide, by decide, fun way H4 w0 w1 D4 k4 => ⟨_, _, rfl, ?_⟩⟩
    have kx3 := (KeepX.of k12).trans k3
    have kx4 := kx3.trans (KeepX.of k4)
    have T4 := tabs_deck D3 k4 T3
    have dq4 := tn_tups (keep_tups D3 k4) _ _ (encQ_tn q) dq
    have kx24 : KeepX dk l H2 H4 := k3.trans (KeepX.of k4)
    have hpm4 := kx4 _ _ hpm m1 m2 (fun _ z => nomatch z)
    refine ⟨_, rfl, _, _, rfl, rfl, _, rfl, ite_b (fun c => ?_) (fun c => ?_)⟩
    · refine ⟨fun σ' H' => ∃ (sp : Addr) (xs' : List V), σ' = [some (.ref dk), some (.ref pm), some (.ref pp), some (.int size), some (.ref r0), some (.int way), some (.ref sp), none, none, none, none, none, none] ∧ H' sp = some (.lst xs') ∧ sp ≠ dk ∧ sp ≠ l ∧ xs'.length ≤ 4 ∧ (∀ x ∈ xs', PlAt H' x) ∧ Deck H' dk l ∧ Keep dk l H4 H', ?_, ?_⟩
      · refine ⟨_, rfl, _, _, rfl, rfl, _, rfl, ite_b (fun c2 => ?_) (fun c2 => ?_)⟩
        · exact ⟨_, rfl, pp, xs, rfl, kx24 _ _ (k2 _ _ hpp np1 np2) np1 np2 (fun _ z => nomatch z), np1, np2, by omega, fun x hx => plAt_keepX D2 kx24 (plAt_keep D1 k2 (pls x hx)), D4, fun b o e _ _ => e⟩
        · refine ⟨_, rfl, dk, l, 4, rfl, D4, by decide, by decide, fun sp xs' H5 hsp n1 n2 lx' pls' D5 k5 => ?_⟩
          exact ⟨sp, xs', rfl, hsp, n1, n2, by omega, pls', D5, k5⟩
      rintro σ H5 ⟨sp, xs', rfl, hsp, n1, n2, lx', pls', D5, k5⟩
      refine ⟨_, rfl, _, rfl, _, rfl, _, rfl, _, rfl, dk, l, pm, sp, ms, xs', 6, 8, size, 20, ok, rfl, D5, k5 _ _ hpm4 m1 m2, m1, m2, m3, m4, m5, ok1, hsp, n1, n2, by omega, pls', by decide, by decide, by decide, by decide, z1, z2, by decide, by decide, tabs_deck D4 k5 T4, fun r rr H6 dr zr D6 k6 T6 => ⟨s2z, fun p2 hp2 => ?_⟩⟩
      have s7 := snew (o := .tup [.ref r0, .ref rr]) hp2
      have kx46 : KeepX dk l H4 H6 := (KeepX.of k5).trans k6
      exact k p2 (.ref r0) (.ref rr) q r _ upd_same (Dn.mono s7 _ _ (tn_tups (keepX_tups D4 kx46) _ _ (encQ_tn q) dq4)) (Dn.mono s7 _ _ dr) zq' (zr.mono (by decide) (by decide) (by decide) lx') (D6.same s7) ((kx4.trans kx46).trans (KeepX.of (Keep.of s7))) (tabs_same T6 s7)
    · obtain ⟨a, v1, v2, ea0, ea, g1, g2⟩ := dn_pair dq4
      have era : a = r0 := (V.ref.inj ea0).symm
      subst era
      obtain ⟨a1, xs1, rfl, e1, r1⟩ := dn_t g1
      obtain ⟨a2, xs2, rfl, e2, r2⟩ := dn_t g2
      have lx1 : xs1.length = q.1.length := by rw [r1.length, List.length_map]
      have lx2 : xs2.length = q.2.length := by rw [r2.length, List.length_map]
      have lw := zq'.lw
      have lt4 := zq'.lt
      have neg : ∀ {x : V} {n : Nm} {H' : Hp} {Q' : VK} {E' : XK}, Dn H' x (encN n) → Nu ok 20 n → (∀ (m : Nm) (z : Addr) (H2 : Hp), Dn H2 (.ref z) (encN m) → Nu ok 21 m → Same H' H2 → Q' (.ref z) H2) → spScaled [x, .int (-1), .int 1] H' Q' E' := fun {x n H' Q' E'} dx hn kk =>
        ⟨x, n, -1, 1, 20, 1, 8, ok, rfl, dx, hn, o.2, by decide, by decide, by decide, by decide, by decide, by decide, by decide, fun m z H2 dz nz _ s2 => kk m z H2 dz nz s2⟩
      refine ⟨_, rfl, .inr (.inl ⟨a, _, _, .ref a1, rfl, rfl, SqT.of ea, rfl, a1, rfl, ⟨_, SqT.of e1⟩, fun D hD => lc_enc (enc := encN) encN_tn (walk_tup (K := K) (a := a1) (xs := xs1)) (fun H' s' => SqT.of (s' _ _ e1)) (fun j m => Nu ok 21 m) (by omega) hD (fun j x H5 H6 Q' hj s5 y kk => ?_) fun accW nW H5 e3 d3 ln hn s5 => ?_⟩)⟩
      · obtain ⟨rfl, hx⟩ := y
        obtain ⟨n, en⟩ : ∃ n, q.1[j]? = some n := ⟨_, List.getElem?_eq_getElem (by omega)⟩
        obtain ⟨x', ex', dx'⟩ := row_at r1 en
        rw [hx] at ex'
        cases ex'
        refine ⟨rfl, _, rfl, _, rfl, ?_⟩
        exact neg (E' := E0) (Dn.mono s5 _ _ dx') ⟨zq.cq.1.1 n (List.mem_of_getElem? en), zq.zw n (List.mem_of_getElem? en)⟩ fun m z H7 dz nz s7 => kk _ m H7 dz nz s7
      refine ⟨D, accW, rfl, .inl ⟨SqL.of e3, fun wq hwq => ?_⟩⟩
      have s6 := snew (o := .tup accW) hwq
      intro rw_ hrw
      have s7 := snew (o := .dT []) hrw
      obtain ⟨HB, eHB⟩ : ∃ HB, upd (upd H5 wq (.tup accW)) rw_ (.dT []) = HB := ⟨_, rfl⟩
      have hw : HB wq = some (.tup accW) := by rw [← eHB]; exact s7 _ _ upd_same
      have hr0 : HB rw_ = some (.dT []) := by rw [← eHB]; exact upd_same
      have sB : Same H4 HB := by rw [← eHB]; exact s5.trans (s6.trans s7)
      have sB5 : Same H5 HB := by rw [← eHB]; exact s6.trans s7
      have nrw : rw_ ≠ dk ∧ rw_ ≠ l := ⟨fun z => (D4.same (s5.trans s6)).some1.1 (z ▸ hrw), fun z => (D4.same (s5.trans s6)).some1.2 (z ▸ hrw)⟩
      rw [eHB]
      have DB := D4.same sB
      have TB := tabs_same T4 sB
      have dW := DnAll.mono sB5 _ _ d3
      have lW : accW.length = nW.length := by rw [d3.length, List.length_map]
      have tupB : ∀ {H' : Hp}, (∀ b o, HB b = some o → b ≠ dk → b ≠ l → b ≠ rw_ → H' b = some o) → TupS HB H' := fun kk b zs e => kk b _ e (of_off (deck_tup DB e)).1 (of_off (deck_tup DB e)).2.1 (ne_of e hr0 (by intro z; cases z))
      refine ⟨_, rfl, .inr (.inl ⟨a, _, _, .ref a2, rfl, rfl, SqT.of (sB _ _ ea), rfl, a2, rfl, ⟨_, SqT.of (sB _ _ e2)⟩, for_tup (K := K) (a := a2) (xs := xs2) (fun i σ H' => ∃ (x9 x10 x11 : Option V) (kvs : List (List L2.Key × V)) (ts : List Tl), σ = [some (.ref dk), some (.ref pm), some (.ref pp), some (.int size), some (.ref a), some (.int way), none, some (.ref wq), some (.ref rw_), x9, x10, x11, none] ∧ H' rw_ = some (.dT kvs) ∧ ts.length ≤ i ∧ RwT (fun b => b ≠ dk ∧ b ≠ l) H' kvs ts ∧ Kp ts ∧ (∀ t ∈ ts, SPl t.1 ∧ t.2.length ≤ 6 ∧ ∀ n ∈ t.2, Nu ok 21 n) ∧ Deck H' dk l ∧ Tabs (tabL pT) H' ∧
          ∀ b o, HB b = some o → b ≠ dk → b ≠ l → b ≠ rw_ → H' b = some o)
        ⟨none, none, none, [], [], rfl, hr0, Nat.le_refl _, .nil, List.nodup_nil, fun t ht => by simp at ht, DB, TB, fun b o e _ _ _ => e⟩ (fun i σ H' _ ⟨_, _, _, _, _, _, _, _, _, _, _, _, _, kk⟩ => SqT.of (tupB kk _ _ (sB _ _ e2))) ?_ ?_⟩)⟩
      · rintro i x σ HC hx ⟨x9, x10, x11, kvs, ts, rfl, hc, lts, rt, kp, hts, DC, TC, kk⟩
        obtain ⟨t, ax, p1, rv, et, rfl, hax, dr, dp⟩ := dn_rows r2 i x hx
        obtain ⟨ap, rfl, hap⟩ := dn_pl dp
        obtain ⟨ar, zs, rfl, har, rr⟩ := dn_t dr
        have ht := List.mem_of_getElem? et
        have il : i < q.2.length := (List.getElem?_eq_some_iff.mp et).1
        have lz : zs.length = t.2.length := by rw [rr.length, List.length_map]
        have lt6 := zq'.lm t ht
        have tne := (zq.cq.2.1 t ht).2.2
        have l0 := List.length_pos_iff.mpr tne
        have tpC := tupB kk
        have har' := tpC _ _ (sB _ _ har)
        have hap' := tpC _ _ (sB _ _ hap)
        refine ⟨ax, _, rfl, SqT.of (tpC _ _ (sB _ _ hax)), rfl, _, _, rfl, _, _, rfl, rfl, ?_⟩
        refine ⟨fun σ' H' => ∃ mn : Nat, σ' = [some (.ref dk), some (.ref pm), some (.ref pp), some (.int size), some (.ref a), some (.int way), none, some (.ref wq), some (.ref rw_), some (.ref ap), some (.ref ar), some (.int (mn : Int)), none] ∧ mn ≤ t.2.length ∧ Deck H' dk l ∧ Keep dk l HC H', ?_, ?_⟩
        · refine ⟨_, rfl, rfl, _, rfl, ite_b (fun c1 => ?_) (fun c1 => ?_)⟩
          · exact ⟨_, rfl, .ref ar, zs.length, rfl, .inr ⟨zs, SqT.of har', rfl⟩, zs.length, rfl, by omega, DC, fun b o e _ _ => e⟩
          · refine ⟨_, rfl, _, rfl, .ref ar, zs.length, rfl, .inr ⟨zs, SqT.of har', rfl⟩, dk, l, _, rfl, DC, by omega, by omega, fun m H7 q0 q1 D7 k7 => ⟨_, _, rfl, rfl, (1 + m).toNat, ?_, by omega, D7, k7⟩⟩
            have em : 1 + m = (((1 + m).toNat : Nat) : Int) := by omega
            rw [← em]
            rfl
        rintro σ HD ⟨mn, rfl, hmn, DD, kD⟩
        have hd := kD _ _ hc nrw.1 nrw.2
        have tkD := keep_tups DC kD
        have rtD : RwT (fun b => b ≠ dk ∧ b ≠ l) HD kvs ts := rt.move (fun _ h => h) (fun b xs g e => kD _ _ e g.1 g.2) tkD
        have TD := tabs_deck DC kD TC
        have harD := tkD _ _ har'
        have hapD := tkD _ _ hap'
        have ei : (zs.length : Int) - (mn : Int) = ((t.2.length - mn : Nat) : Int) := by omega
        have zsD : DnAll HD zs (t.2.map encN) := tnA_tups ((Same.tups sB).trans (tpC.trans tkD)) _ _ (tn_maps encN_tn t.2) rr
        refine ⟨fun σ' H' => ∃ (kvs2 : List (List L2.Key × V)) (ts2 : List Tl), σ' = [some (.ref dk), some (.ref pm), some (.ref pp), some (.int size), some (.ref a), some (.int way), none, some (.ref wq), some (.ref rw_), some (.ref ap), some (.ref ar), some (.int (mn : Int)), none] ∧ H' rw_ = some (.dT kvs2) ∧ ts2.length ≤ i + 1 ∧ RwT (fun b => b ≠ dk ∧ b ≠ l) H' kvs2 ts2 ∧ Kp ts2 ∧ (∀ t ∈ ts2, SPl t.1 ∧ t.2.length ≤ 6 ∧ ∀ n ∈ t.2, Nu ok 21 n) ∧ t.1 ∈ ts2.map (·.1) ∧ (tl ts2 t.1).length ≤ mn ∧ Deck H' dk l ∧ Tabs (tabL pT) H' ∧
          ∀ b o, HD b = some o → b ≠ rw_ → H' b = some o, ?_, ?_⟩
        · refine ⟨_, rfl, _, rfl, .ref ar, zs.length, rfl, .inr ⟨zs, SqT.of harD, rfl⟩, _, rfl, _, _, rfl, rfl, ?_⟩
          dsimp only [tNoPart]
          rw [ei]
          refine ⟨_, rfl, slA_from (SqT.of harD) (by omega) fun p HE hp sE => ⟨p, rfl, ⟨_, hp⟩, fun D2 hD2 => ?_⟩⟩
          have zsE : DnAll HE (zs.drop (t.2.length - mn)) ((t.2.drop (t.2.length - mn)).map encN) := by
            rw [List.map_drop]
            exact DnAll.mono sE _ _ (dnAll_drop' zsD _)
          have lds : (zs.drop (t.2.length - mn)).length = mn := by rw [List.length_drop]; omega
          refine lc_enc (enc := encN) encN_tn (walk_tup (K := K) (a := p) (xs := zs.drop (t.2.length - mn))) (fun H' s' => sqT_sm s' hp) (fun j m => Nu ok 21 m) (by omega) hD2 (fun j x H7 H8 Q' hj s8 y kk2 => ?_) fun acc ns HF e4 d4 ln4 hn4 s8 => ?_
          · obtain ⟨rfl, hx'⟩ := y
            obtain ⟨n, en⟩ : ∃ n, (t.2.drop (t.2.length - mn))[j]? = some n := ⟨_, List.getElem?_eq_getElem (by rw [List.length_drop]; omega)⟩
            obtain ⟨x', ex', dx'⟩ := row_at zsE en
            rw [hx'] at ex'
            cases ex'
            have mem := List.mem_of_mem_drop (List.mem_of_getElem? en)
            refine ⟨rfl, _, rfl, _, rfl, ?_⟩
            exact neg (E' := E0) (Dn.mono s8 _ _ dx') ⟨(zq.cq.2.1 t ht).2.1.1 n mem, zq.zt t ht n mem⟩ fun m z H9 dz nz s9 => kk2 _ m H9 dz nz s9
          · have sF := sE.trans s8
            have DF := DD.same sF
            have hf := sF _ _ hd
            have rtF : RwT (fun b => b ≠ dk ∧ b ≠ l) HF kvs ts := rtD.move (fun _ h => h) (fun b xs g e => sF _ _ e) (Same.tups sF)
            have nD2 : D2 ≠ dk ∧ D2 ≠ l := ⟨fun z => (DD.same sE).some1.1 (z ▸ hD2), fun z => (DD.same sE).some1.2 (z ▸ hD2)⟩
            refine ⟨_, rfl, _, rfl, rw_, _, rfl, DPut.t (k := kyP t.1) hf (sF _ _ hapD) (by rw [rt.length]; exact small1000 (by omega)), ?_⟩
            refine ⟨_, putR ts t.1 ns, rfl, upd_same, by have := putR_len (ts := ts) (p := t.1) (n := ns); omega, rwt_put (p := t.1) (n := ns) hf rtF nD2 e4 d4, putR_kp kp, fun t1 h1 => ?_, ?_, ?_, deck_upd DF nrw.1 nrw.2, ?_, fun b o e nb => ?_⟩
            · rcases putR_mem h1 with rfl | h1
              · refine ⟨zq.pl t ht, by show ns.length ≤ 6; omega, fun n hn' => ?_⟩
                obtain ⟨j', hj'⟩ := List.mem_iff_getElem?.mp hn'
                exact hn4 j' n hj'
              · exact hts t1 h1
            · rw [putR_keys]
              split
              · next c => exact c
              · exact List.mem_append_right _ List.mem_cons_self
            · rw [tl_put, if_pos rfl]; omega
            · exact tabs_keep (dk := rw_) (l := rw_) (fun b o e n1 _ => by rw [upd_ne n1]; exact e) (fun o e => by rw [hf] at e; cases e; exact nc_dt _) (fun o e => by rw [hf] at e; cases e; exact nc_dt _) (tabs_same TD sF)
            · rw [upd_ne nb]
              exact sF _ _ e
        rintro σ HE ⟨kvs2, ts2, rfl, he, lts2, rt2, kp2, hts2, mem2, lmn, DE, TE, kE⟩
        have harE := kE _ _ harD (ne_of harD hd (by intro z; cases z))
        have hapE := kE _ _ hapD (ne_of hapD hd (by intro z; cases z))
        rcases rt2.get t.1 with ⟨_, hno⟩ | ⟨nb, acc, h0, gnb, hnb, hdn, _⟩
        · exact absurd mem2 hno
        refine ⟨Nat.zero_le _, fun p0 hp0 => ⟨sl1, fun l0 hl0 => ?_⟩⟩
        have s8 := (snew (o := .tup []) hp0).trans (snew (o := .lst [.ref p0]) hl0)
        have p0' := snew (o := .lst [.ref p0]) hl0 _ _ (upd_same (H := HE) (a := p0) (o := .tup []))
        refine ⟨_, rfl, .ref ar, zs.length, rfl, .inr ⟨zs, SqT.of (s8 _ _ harE), rfl⟩, _, rfl, _, _, rfl, rfl, l0, _, [.ref p0], rfl, rfl, upd_same, by omega, by omega, ?_, fun p hp => ?_⟩
        · show 1 * _ ≤ sizeLine
          exact Nat.le_of_lt (small1000 (by omega))
        have s9 := snew (o := .lst (List.replicate ((zs.length : Int) - (mn : Int)).toNat [V.ref p0]).flatten) hp
        rw [replicate_one, ei] at *
        have dg := DGet.t (k := kyP t.1) ((s8.trans s9) _ _ he) ((s8.trans s9) _ _ hapE)
        rw [h0] at dg
        have lac : acc.length = (tl ts2 t.1).length := by rw [hdn.length, List.length_map]
        refine ⟨_, rfl, _, rfl, rw_, .ref nb, rfl, dg, p, nb, _, acc, rfl, rfl, upd_same, (s8.trans s9) _ _ hnb, by rw [List.length_replicate]; exact Nat.le_of_lt (small1000 (by omega)), fun z hz => ?_⟩
        have s10 := snew (o := .lst (List.replicate ((t.2.length - mn : Nat) : Int).toNat (V.ref p0) ++ acc)) hz
        have sall := s8.trans (s9.trans s10)
        have hz0 := sall _ _ he
        have nz : z ≠ dk ∧ z ≠ l := ⟨fun q => (DE.same (s8.trans s9)).some1.1 (q ▸ hz), fun q => (DE.same (s8.trans s9)).some1.2 (q ▸ hz)⟩
        have rt3 : RwT (fun b => b ≠ dk ∧ b ≠ l) (upd _ z (.lst (List.replicate ((t.2.length - mn : Nat) : Int).toNat (V.ref p0) ++ acc))) kvs2 ts2 := rt2.move (fun _ h => h) (fun b xs g e => sall _ _ e) (Same.tups sall)
        refine ⟨_, rfl, _, rfl, rw_, _, rfl, DPut.t (k := kyP t.1) hz0 (sall _ _ hapE) (by rw [rt2.length]; exact small1000 (by omega)), ?_⟩
        refine ⟨_, _, _, _, putR ts2 t.1 (List.replicate (t.2.length - mn) [] ++ tl ts2 t.1), rfl, upd_same, ?_, rwt_put (p := t.1) (n := List.replicate (t.2.length - mn) [] ++ tl ts2 t.1) hz0 rt3 nz upd_same ?_, putR_kp kp2, fun t1 h1 => ?_, deck_upd (DE.same sall) nrw.1 nrw.2, ?_, fun b o e n1 n2 n3 => ?_⟩
        · unfold putR
          rw [if_pos mem2, List.length_map]
          exact lts2
        · rw [List.map_append, List.map_replicate]
          exact DnAll.app (dn_rep (.tup ((s9.trans s10) _ _ p0') .nil) _) (DnAll.mono sall _ _ hdn)
        · rcases putR_mem h1 with rfl | h1
          · refine ⟨zq.pl t ht, ?_, fun n hn' => ?_⟩
            · show (List.replicate (t.2.length - mn) [] ++ tl ts2 t.1).length ≤ 6
              rw [List.length_append, List.length_replicate]
              omega
            · rcases List.mem_append.mp hn' with h | h
              · rw [List.eq_of_mem_replicate h]; exact nu_nil
              · exact (hts2 _ (tl_mem mem2)).2.2 n h
          · exact hts2 t1 h1
        · exact tabs_keep (dk := rw_) (l := rw_) (fun b o e n1 _ => by rw [upd_ne n1]; exact e) (fun o e => by rw [hz0] at e; cases e; exact nc_dt _) (fun o e => by rw [hz0] at e; cases e; exact nc_dt _) (tabs_same TE sall)
        · rw [upd_ne n3]
          exact sall _ _ (kE _ _ (kD _ _ (kk b o e n1 n2 n3) n1 n2) n3)
      · rintro σ HC ⟨x9, x10, x11, kvs, ts, rfl, hc, lts, rt, kp, hts, DC, TC, kk⟩
        have tpC := tupB kk
        have hwC := tpC _ _ hw
        have dWC := tnA_tups tpC _ _ (tn_maps encN_tn nW) dW
        have kxC : KeepX dk l H4 HC := fun b o e n1 n2 _ => kk b o (sB _ _ e) n1 n2 (ne_of_none ((s5.trans s6) _ _ e) hrw)
        have lnW : nW.length ≤ 9 := by omega
        have nW' : ∀ n ∈ nW, Nu ok 21 n := fun n hn' => by
          obtain ⟨j', hj'⟩ := List.mem_iff_getElem?.mp hn'
          exact hn j' n hj'
        have fin : ∀ (aw : Addr) (accA : List V) (rA : List Nm) (HD : Hp) (Q' : VK) (E' : XK), SqE K HD aw accA → DnAll HD accA (rA.map encN) → rA.length ≤ 9 → (∀ n ∈ rA, Nu ok 21 n) → Deck HD dk l → Keep dk l HC HD → (∀ (r : Qt) (rr : Addr) (HE : Hp), Dn HE (.ref rr) (encQ r) → QZ ok 21 9 6 4 r → Dn HE (.ref a) (encQ q) → Deck HE dk l → KeepX dk l H HE → Tabs (tabL pT) HE → Q' (.ref rr) HE) → spToldU K pT [.ref aw, .ref rw_] HD Q' E' := fun aw accA rA HD Q' E' hA dA lA nA DD kD fk => by
          have kxD : KeepX dk l H4 HD := kxC.trans (KeepX.of kD)
          refine told_row (C := 21) (W := 9) (M := 6) (T := 4) (ok := ok) hA dA lA nA (kD _ _ hc nrw.1 nrw.2) (rt.move (fun _ _ => trivial) (fun b xs g e => kD _ _ e g.1 g.2) (keep_tups DC kD)) kp (by omega) hts (tabs_deck DC kD TC) (by decide) (by decide) (by decide) (by decide) fun r rr HE dr zr ex TE => ?_
          refine fk r rr HE dr zr (tn_tups ((keepX_tups D4 kxD).trans (ext_tups ex)) _ _ (encQ_tn q) dq4) (deck_ext DD ex) ((kx4.trans kxD).trans (KeepX.ext ex)) TE
        refine ⟨_, rfl, _, rfl, rfl, _, rfl, ite_b (fun c1 => ?_) (fun c1 => ?_)⟩
        · refine ⟨_, rfl, ?_⟩
          dsimp only [tNoPart]
          refine ⟨_, rfl, _, rfl, .ref wq, accW.length, rfl, .inr ⟨accW, SqT.of hwC, rfl⟩, _, _, rfl, rfl, dk, l, _, rfl, DC, by omega, by omega, fun m HD m0 m1' DD kD => ?_⟩
          obtain ⟨mn, rfl⟩ : ∃ mn : Nat, m = (mn : Int) := ⟨m.toNat, by omega⟩
          refine ⟨_, rfl, slA_toT (kD _ _ hwC (of_off (deck_tup DC hwC)).1 (of_off (deck_tup DC hwC)).2.1) (by omega) fun p HE hp sE => ?_⟩
          have kDE : Keep dk l HC HE := kD.trans (Keep.of sE)
          refine ⟨_, rfl, ?_⟩
          refine fin p (accW.take mn) (nW.take mn) HE (fun x H1 => [V.ref a, x].length ≤ sizeLine ∧ ∀ p, H1 p = none → Q (.ref p) (upd H1 p (.tup [.ref a, x]))) E0 (.inr hp) ?_ (by rw [List.length_take]; omega) (fun n hn' => nW' n (List.mem_of_mem_take hn')) (DD.same sE) kDE fun r rr HF dr zr dqF DF kxF TF => ⟨s2z, fun p2 hp2 => ?_⟩
          · rw [List.map_take]
            exact dnAll_take (DnAll.mono sE _ _ (tnA_tups (keep_tups DC kD) _ _ (tn_maps encN_tn nW) dWC)) mn
          · have s11 := snew (o := .tup [.ref a, .ref rr]) hp2
            exact k p2 (.ref a) (.ref rr) q r _ upd_same (Dn.mono s11 _ _ dqF) (Dn.mono s11 _ _ dr) zq' zr (DF.same s11) (kxF.trans (KeepX.of (Keep.of s11))) (tabs_same TF s11)
        · refine ⟨_, rfl, _, rfl, ?_⟩
          refine fin wq accW nW HC (fun x H1 => [V.ref a, x].length ≤ sizeLine ∧ ∀ p, H1 p = none → Q (.ref p) (upd H1 p (.tup [.ref a, x]))) E0 (.inr hwC) dWC lnW nW' DC (fun b o e _ _ => e) fun r rr HF dr zr dqF DF kxF TF => ⟨s2z, fun p2 hp2 => ?_⟩
          have s11 := snew (o := .tup [.ref a, .ref rr]) hp2
          exact k p2 (.ref a) (.ref rr) q r _ upd_same (Dn.mono s11 _ _ dqF) (Dn.mono s11 _ _ dr) zq' zr (DF.same s11) (kxF.trans (KeepX.of (Keep.of s11))) (tabs_same TF s11)
end
end N3

namespace L2
open PySem PySem.Spec PyProof.Rows
/-! ### calls by name -/
/-- how a def of one parameter binds it by name -/
def Bk (K : PySem.W.Frag) (fd : FuncData) (y : Str) : Prop := ∀ (s : Shared) (u : Value), K.In s.heap → BindsTo s fd ⟨[], [(y, u)]⟩ [(y, u)]
/-- two parameters, the second one written first -/
def Bk2 (K : PySem.W.Frag) (fd : FuncData) (y z : Str) : Prop := ∀ (s : Shared) (u v : Value), K.In s.heap → BindsTo s fd ⟨[], [(z, v), (y, u)]⟩ [(y, u), (z, v)]
/-- three parameters, written from the last to the first -/
def Bk3 (K : PySem.W.Frag) (fd : FuncData) (x y z : Str) : Prop := ∀ (s : Shared) (u v w : Value), K.In s.heap → BindsTo s fd ⟨[], [(z, w), (y, v), (x, u)]⟩ [(x, u), (y, v), (z, w)]
section
variable {X : Cx} {CX : CXT} {k : Nat} {f : Addr} {fd : FuncData} {x y z n : Str} {sp : Sp} {E : St → XK} {p pos kp kp2 kp3 : Pos} {e e2 e3 : Expr} {te te2 te3 : TE}
theorem pe_by (F : FnOk X.prog X.w X.K X.mg X.base CX k f fd [y] sp) (hr : Room k X.A) (hm : X.mg n = some (.ref f)) (hk : PySem.W.keepIn X.K (.ref f) = true) (hb : Bk X.K fd y) (hx : ∀ σ, PassesAt CX X σ (E σ)) (he : PE X e te) (hg : Gl X n := by rfl)
    (hdb : (n == ("__debug__" : Str)) = false := by decide) (hall : (backToKw pos (keywordEach [⟨some y, e, kp⟩] X.env)).all (·.1.isSome) = true := by rfl) (hks : (backToKw pos (keywordEach [⟨some y, e, kp⟩] X.env)).filterMap (·.1) = [y] := by rfl)
    (hpl : ((backTo pos (starEach [] X.env)).any (·.1) || (backToKw pos (keywordEach [⟨some y, e, kp⟩] X.env)).any (·.1.isNone)) = false := by rfl) :
    PE X (.Call (.Name n p) [] [⟨some y, e, kp⟩] pos) (fun σ H Q => te σ H fun v H1 => sp [v] H1 Q (E σ)) := by
  refine ⟨fun pins s σ H Q I h => ?_⟩
  refine wpAny_Call_Name_kw (ld_glob I hg hm ?_ hdb)
  refine PySem.W.callWith_KW0 (h₀ := X.base) I.ok.mod.kin hk hall ?_ hpl
  have kk : PK X [⟨some y, e, kp⟩] (tCons te tNil) := pk_cons he pk_nil
  refine thn (kk.run pos pins s σ H (fun vs H1 => sp vs H1 Q (E σ)) I h) fun ws s1 ⟨vs, H1, I1, rz, q1⟩ => ⟨I1.kIn, ?_⟩
  have len := F.len _ _ _ _ q1
  obtain ⟨v, rfl⟩ : ∃ v, vs = [v] := by
    match vs, len with
    | [a], _ => exact ⟨a, rfl⟩
  obtain ⟨u, rfl, r1⟩ := vals1 rz
  rw [hks]
  show wpAny _ _ (call (.ref f) [] [(y, u)]) _ _ _
  refine wpAny_call (codeAny_mono (F.run X.A X.stack s1 H1 ⟨[], [(y, u)]⟩ [u] [v] Q (E σ) hr I1.env0 (hb s1 u I1.kIn) (.cons r1 .nil) q1) fun r s' hq => ?_)
  cases r with
  | error er => exact hx σ pins H1 s1 er s' I1 hq
  | ok fl =>
    cases fl with
    | ret w => exact I1.after hq
    | next => exact False.elim hq
    | brk => exact False.elim hq
    | cont => exact False.elim hq
def turn2 : List V → List V
  | [a, b] => [b, a]
  | _ => []
/-- f(z=e2, y=e) for a def f(y, z) -/
theorem pe_by2 (F : FnOk X.prog X.w X.K X.mg X.base CX k f fd [y, z] sp) (hr : Room k X.A) (hm : X.mg n = some (.ref f)) (hk : PySem.W.keepIn X.K (.ref f) = true) (hb : Bk2 X.K fd y z) (hx : ∀ σ, PassesAt CX X σ (E σ)) (he2 : PE X e2 te2) (he : PE X e te) (hg : Gl X n := by rfl)
    (hdb : (n == ("__debug__" : Str)) = false := by decide) (hall : (backToKw pos (keywordEach [⟨some z, e2, kp2⟩, ⟨some y, e, kp⟩] X.env)).all (·.1.isSome) = true := by rfl) (hks : (backToKw pos (keywordEach [⟨some z, e2, kp2⟩, ⟨some y, e, kp⟩] X.env)).filterMap (·.1) = [z, y] := by rfl)
    (hpl : ((backTo pos (starEach [] X.env)).any (·.1) || (backToKw pos (keywordEach [⟨some z, e2, kp2⟩, ⟨some y, e, kp⟩] X.env)).any (·.1.isNone)) = false := by rfl) :
    PE X (.Call (.Name n p) [] [⟨some z, e2, kp2⟩, ⟨some y, e, kp⟩] pos) (fun σ H Q => te2 σ H fun v2 H1 => te σ H1 fun v H2 => sp [v, v2] H2 Q (E σ)) := by
  refine ⟨fun pins s σ H Q I h => ?_⟩
  refine wpAny_Call_Name_kw (ld_glob I hg hm ?_ hdb)
  refine PySem.W.callWith_KW0 (h₀ := X.base) I.ok.mod.kin hk hall ?_ hpl
  have kk : PK X [⟨some z, e2, kp2⟩, ⟨some y, e, kp⟩] (tCons te2 (tCons te tNil)) := pk_cons he2 (pk_cons he pk_nil)
  refine thn (kk.run pos pins s σ H (fun vs H1 => sp (turn2 vs) H1 Q (E σ)) I h) fun ws s1 ⟨vs, H1, I1, rz, q1⟩ => ⟨I1.kIn, ?_⟩
  have len := F.len _ _ _ _ q1
  obtain ⟨v2, v, rfl⟩ : ∃ v2 v, vs = [v2, v] := by
    match vs, len with
    | [a, b], _ => exact ⟨a, b, rfl⟩
  obtain ⟨u2, u, rfl, r2, r1⟩ := vals2 rz
  rw [hks]
  show wpAny _ _ (call (.ref f) [] [(z, u2), (y, u)]) _ _ _
  refine wpAny_call (codeAny_mono (F.run X.A X.stack s1 H1 ⟨[], [(z, u2), (y, u)]⟩ [u, u2] [v, v2] Q (E σ) hr I1.env0 (hb s1 u u2 I1.kIn) (.cons r1 (.cons r2 .nil)) q1) fun r s' hq => ?_)
  cases r with
  | error er => exact hx σ pins H1 s1 er s' I1 hq
  | ok fl =>
    cases fl with
    | ret w => exact I1.after hq
    | next => exact False.elim hq
    | brk => exact False.elim hq
    | cont => exact False.elim hq
def turn3 : List V → List V
  | [a, b, c] => [c, b, a]
  | _ => []
/-- f(z=e3, y=e2, x=e) for a def f(x, y, z) -/
theorem pe_by3 (F : FnOk X.prog X.w X.K X.mg X.base CX k f fd [x, y, z] sp) (hr : Room k X.A) (hm : X.mg n = some (.ref f)) (hk : PySem.W.keepIn X.K (.ref f) = true) (hb : Bk3 X.K fd x y z) (hx : ∀ σ, PassesAt CX X σ (E σ)) (he3 : PE X e3 te3) (he2 : PE X e2 te2) (he : PE X e te) (hg : Gl X n := by rfl)
    (hdb : (n == ("__debug__" : Str)) = false := by decide) (hall : (backToKw pos (keywordEach [⟨some z, e3, kp3⟩, ⟨some y, e2, kp2⟩, ⟨some x, e, kp⟩] X.env)).all (·.1.isSome) = true := by rfl) (hks : (backToKw pos (keywordEach [⟨some z, e3, kp3⟩, ⟨some y, e2, kp2⟩, ⟨some x, e, kp⟩] X.env)).filterMap (·.1) = [z, y, x] := by rfl)
    (hpl : ((backTo pos (starEach [] X.env)).any (·.1) || (backToKw pos (keywordEach [⟨some z, e3, kp3⟩, ⟨some y, e2, kp2⟩, ⟨some x, e, kp⟩] X.env)).any (·.1.isNone)) = false := by rfl) :
    PE X (.Call (.Name n p) [] [⟨some z, e3, kp3⟩, ⟨some y, e2, kp2⟩, ⟨some x, e, kp⟩] pos) (fun σ H Q => te3 σ H fun v3 H1 => te2 σ H1 fun v2 H2 => te σ H2 fun v H3 => sp [v, v2, v3] H3 Q (E σ)) := by
  refine ⟨fun pins s σ H Q I h => ?_⟩
  refine wpAny_Call_Name_kw (ld_glob I hg hm ?_ hdb)
  refine PySem.W.callWith_KW0 (h₀ := X.base) I.ok.mod.kin hk hall ?_ hpl
  have kk : PK X [⟨some z, e3, kp3⟩, ⟨some y, e2, kp2⟩, ⟨some x, e, kp⟩] (tCons te3 (tCons te2 (tCons te tNil))) := pk_cons he3 (pk_cons he2 (pk_cons he pk_nil))
  refine thn (kk.run pos pins s σ H (fun vs H1 => sp (turn3 vs) H1 Q (E σ)) I h) fun ws s1 ⟨vs, H1, I1, rz, q1⟩ => ⟨I1.kIn, ?_⟩
  have len := F.len _ _ _ _ q1
  obtain ⟨v3, v2, v, rfl⟩ : ∃ v3 v2 v, vs = [v3, v2, v] := by
    match vs, len with
    | [a, b, c], _ => exact ⟨a, b, c, rfl⟩
  cases rz with
  | cons r3 rz =>
    obtain ⟨u2, u, rfl, r2, r1⟩ := vals2 rz
    rw [hks]
    show wpAny _ _ (call (.ref f) [] [(z, _), (y, u2), (x, u)]) _ _ _
    refine wpAny_call (codeAny_mono (F.run X.A X.stack s1 H1 ⟨[], [(z, _), (y, u2), (x, u)]⟩ [u, u2, _] [v, v2, v3] Q (E σ) hr I1.env0 (hb s1 u u2 _ I1.kIn) (.cons r1 (.cons r2 (.cons r3 .nil))) q1) fun r s' hq => ?_)
    cases r with
    | error er => exact hx σ pins H1 s1 er s' I1 hq
    | ok fl =>
      cases fl with
      | ret w => exact I1.after hq
      | next => exact False.elim hq
      | brk => exact False.elim hq
      | cont => exact False.elim hq
end
end L2

namespace N3
open PySem PySem.Spec PyProof.Rows L2 N2 LamX
/-! ### the law's look at a slope -/
def encPi (x : Pl × Int) : PyData := .tuple [encPl x.1, .int x.2]
theorem encPi_tn (x : Pl × Int) : Tn (encPi x) := .tup fun d hd => by
  simp only [List.mem_cons, List.not_mem_nil, or_false] at hd
  rcases hd with rfl | rfl
  · exact encPl_tn _
  · exact .int _
theorem encPi_shape (x : Pl × Int) : PyData.canLay0 (encPi x) = true ∧ (encPi x).depth ≤ 2 := by
  constructor <;> simp [encPi, encPl, PyData.canLay0, PyData.canLayAll0, PyData.depth, PyData.depthAll]
theorem list_lay {α : Type} {enc : α → PyData} {k : Nat} (h : ∀ x, PyData.canLay0 (enc x) = true ∧ (enc x).depth ≤ k) (l : List α) : PyData.canLay0 (.list (l.map enc)) = true ∧ (PyData.list (l.map enc)).depth ≤ k + 1 := by
  obtain ⟨h1, h2⟩ := lay_map h l
  constructor
  · simp only [PyData.canLay0]; exact h1
  · simp only [PyData.depth]; omega
/-- a text that two alike data have -/
theorem shown_ok {m n : Nat} {d : PyData} (h : GW m n d) (hm : m ≤ 6000000) (hn : n ≤ 60) : d.showable = true ∧ d.depth ≤ 64 ∧ d.shown.length ≤ sizeLine := by
  have o := h.wd.okd
  have sz : 6000000 ≤ sizeLine := by rw [sizeLine_eq]; decide
  exact ⟨o.sh, by have := o.dp; omega, by have := o.ln; omega⟩
theorem dn_two {H : Hp} {p : Addr} {x y : V} {d e : PyData} (h : H p = some (.tup [x, y])) (hx : Dn H x d) (hy : Dn H y e) : Dn H (.ref p) (.tuple [d, e]) := .tup h (.cons hx (.cons hy .nil))
def spRight (c : Addr) : Sp := fun vs H Q _ => ∃ (u : V) (q : Qt) (C : Nat) (ok : Int → Prop), vs = [u] ∧ Dn H u (encQ q) ∧ QZ ok C 20 9 10 q ∧ OkD ok ∧ 1 ≤ C ∧ C ≤ 50 ∧ Tabs (tabL c) H ∧
  ∀ H', ExtN H H' → Tabs (tabL c) H' → Q (.bl true) H'
section
variable {P : Program} {w : World} {K : PySem.W.Frag} {mg : Str → Option Value} {base : Heap}
abbrev s__law_is_slope_right : Stmt := top 70
abbrev nsLRt : List Str := ["quotient", "told", "pole", "row"]
theorem sc__law_is_slope_right : FnScope nsLRt ["quotient"] (defScope s__law_is_slope_right) := ⟨rfl, rfl, rfl, by decide +kernel, rfl, by decide +kernel, by decide +kernel⟩
theorem ok__law_is_slope_right {f f_slope f__law_slope : Addr} {fd d_slope d__law_slope : FuncData} {pT : Addr} (sy : Sy base) (nk_slope : Bk K d_slope "quotient") (F : Fun K "_law_is_slope_right" "_law_is_slope_right" s__law_is_slope_right f fd) (T : Bt mg) (p_slope : Kn P w K mg base 11 "slope" ["quotient"] spSlope f_slope d_slope) (l_slope : Kn P w K mg base 4 "_law_slope" ["quotient"] (spSlopeL pT) f__law_slope d__law_slope) : FnG P w K mg base 12 f fd ["quotient"] (spRight pT) := by
  refine fn_idle F sc__law_is_slope_right (fun vs H Q E h => ?_) (fun cdv A outer s H vs Q hr hi h => ?_)
  · obtain ⟨u, q, C, ok, rfl, _⟩ := h
    rfl
  · obtain ⟨u, q, C, ok, rfl, hu0, zq, o, c1, c60, hT, k⟩ := h
    have hu : (A.deeper (envOfC "_law_is_slope_right" (defScope s__law_is_slope_right) s.heap.objs.size f cdv)).units + 70 < cLine := by have := hr.un; omega
    have at0 : ∀ {X : Cx} (σ : L2.St), PassesAt CX0 X σ E0 := fun σ pins H s e s' I c => pass0 pins σ H s e s' I c
    refine ⟨_, pss_cons (ps_set (i := 1) sc__law_is_slope_right.nd rfl (Or.inl rfl) (pe_call p_slope.ok (hr.mono (by decide)) rfl p_slope.mg p_slope.kp p_slope.bd .nil pass0 (pa_cons (pv 0) pa_nil)))
      (pss_cons (ps_if (pt_cmpR op_ne (pe_callB (call_repr sy hi hu) (by rfl) T.repr (by decide +kernel) (pa_cons (pe_tup (pa_cons (pv 1) (pa_cons (pe_by p_slope.ok (hr.mono (by decide)) p_slope.mg p_slope.kp nk_slope at0 (pv 0)) pa_nil))) pa_nil)) (pe_callB (call_repr sy hi hu) (by rfl) T.repr (by decide +kernel) (pa_cons (pe_op op_repT (pe_tup (pa_cons (pe_call l_slope.ok (hr.mono (by decide)) rfl l_slope.mg l_slope.kp l_slope.bd .nil pass0 (pa_cons (pv 0) pa_nil)) pa_nil)) pe_int) pa_nil)) (nomark _))
        (pss_one (ps_ret pe_bl))
        pss_nil)
      (pss_cons (ps_if (PW.pt (pw_or (pt_cmpR (op_neD hr.units) (pe_lc (own := [("pole", 2), ("row", 3)]) (g := (gTup K 2 (gCons (gName 2) (gCons (gName 3) gNil)))) (tt := _) rfl sc__law_is_slope_right.nd (pi_tup (pe_ix (r := rIx K) ix_seq (pv 1) pe_int (fun _ _ => rfl))) (blkOk_by (own := [("pole", 2), ("row", 3)]) (N := nsLRt) (sc := defScope s__law_is_slope_right) (by decide +kernel)) (fun _ _ _ _ _ => pg_tup rfl (pgs_cons (pg_name (i := 2) sc__law_is_slope_right.nd rfl (Or.inl rfl)) (pgs_cons (pg_name (i := 3) sc__law_is_slope_right.nd rfl (Or.inl rfl)) pgs_nil))) (fun _ _ _ _ _ => pts_one (pt_cmpR (op_neDK (K := K) rfl hr.units) (pe_ix (r := rIx K) ix_seq (pv 3) pe_int (fun _ _ => rfl)) (pe_tup pa_nil) (nomark _))) (fun _ _ _ _ _ => (pv 2))) (pe_lst pa_nil) (nomark _)) (pw_or1 (pt_cmpR op_ne (pe_callB (call_lenK (K := K) rfl) (by rfl) T.len PySem.boot_len (pa_cons (pe_ix (r := rIx K) ix_seq (pv 1) pe_int (fun _ _ => rfl)) pa_nil)) (pe_callB (call_max2 rfl) (by rfl) T.max (by decide +kernel) (pa_cons pe_int (pa_cons (pe_op op_sub (pe_callB (call_lenK (K := K) rfl) (by rfl) T.len PySem.boot_len (pa_cons (pe_ix (r := rIx K) ix_seq (pv 0) pe_int (fun _ _ => rfl)) pa_nil)) pe_int) pa_nil))) (nomark _)))))
        (pss_one (ps_ret pe_bl))
        pss_nil)
      (pss_one (ps_ret (pe_cmpR (op_eqD hr.units) (pe_lc (own := [("pole", 2), ("row", 3)]) (g := (gTup K 2 (gCons (gName 2) (gCons (gName 3) gNil)))) (tt := tYes) rfl sc__law_is_slope_right.nd (pi_tup (pe_ix (r := rIx K) ix_seq (pv 1) pe_int (fun _ _ => rfl))) (blkOk_by (own := [("pole", 2), ("row", 3)]) (N := nsLRt) (sc := defScope s__law_is_slope_right) (by decide +kernel)) (fun _ _ _ _ _ => pg_tup rfl (pgs_cons (pg_name (i := 2) sc__law_is_slope_right.nd rfl (Or.inl rfl)) (pgs_cons (pg_name (i := 3) sc__law_is_slope_right.nd rfl (Or.inl rfl)) pgs_nil))) (fun _ _ _ _ _ => pts_nil) (fun _ _ _ _ _ => (pe_tup (pa_cons (pv 2) (pa_cons (pe_op op_sub (pe_callB (call_lenK (K := K) rfl) (by rfl) T.len PySem.boot_len (pa_cons (pv 3) pa_nil)) pe_int) pa_nil))))) (pe_lc (own := [("pole", 2), ("row", 3)]) (g := (gTup K 2 (gCons (gName 2) (gCons (gName 3) gNil)))) (tt := tYes) rfl sc__law_is_slope_right.nd (pi_tup (pe_ix (r := rIx K) ix_seq (pv 0) pe_int (fun _ _ => rfl))) (blkOk_by (own := [("pole", 2), ("row", 3)]) (N := nsLRt) (sc := defScope s__law_is_slope_right) (by decide +kernel)) (fun _ _ _ _ _ => pg_tup rfl (pgs_cons (pg_name (i := 2) sc__law_is_slope_right.nd rfl (Or.inl rfl)) (pgs_cons (pg_name (i := 3) sc__law_is_slope_right.nd rfl (Or.inl rfl)) pgs_nil))) (fun _ _ _ _ _ => pts_nil) (fun _ _ _ _ _ => (pe_tup (pa_cons (pv 2) (pa_cons (pe_callB (call_lenK (K := K) rfl) (by rfl) T.len PySem.boot_len (pa_cons (pv 3) pa_nil)) pa_nil))))) (nomark _)))))), ?_⟩
    have s2z : 2 ≤ sizeLine := by rw [sizeLine_eq]; decide
    have sl1 : 1 ≤ sizeLine := by rw [sizeLine_eq]; decide
    have zq10 : QZ ok C 20 10 10 q := zq.mono (Nat.le_refl _) (by decide) (by decide) (by decide)
    have scalS : ∀ x y : Str, scal (V.str x) (V.str y) = true := fun _ _ => rfl
    refine ⟨_, rfl, u, q, C, ok, rfl, hu0, zq10, o, c1, by omega, fun s1 a1 H1 d1 cq1 es1 l1 m1 n1 t1 => ?_⟩
    refine ⟨_, rfl, _, rfl, u, q, C, ok, rfl, Dn.mono t1 _ _ hu0, zq10, o, c1, by omega, fun s2 a2 H2 d2 cq2 es2 _ _ _ t2 => ⟨s2z, fun p hp => ?_⟩⟩
    have e12 := slo_same cq1 cq2 es1 es2
    subst e12
    have t3 := t2.trans (snew (o := .tup [.ref a1, .ref a2]) hp)
    have zs : QZ ok (C + 6) 20 10 10 s1 := qz_slope zq c1 (by decide) (by decide) cq1 es1
    have gs := gw_qz o (by omega) zs
    obtain ⟨o1, o2, o3⟩ := shown_ok (gw_two gs gs) (by decide) (by decide)
    refine ⟨.ref p, .tuple [encQ s1, encQ s1], rfl, dn_two upd_same (Dn.mono t3 _ _ d1) (Dn.mono (snew hp) _ _ d2), o1, o2, o3, ?_⟩
    have t13 := t1.trans t3
    refine ⟨_, rfl, u, q, C, ok, rfl, Dn.mono t13 _ _ hu0, zq10, o, c1, by omega, tabs_same hT t13, fun s3 a3 H3 d3 cq3 es3 ex3 T3 => ⟨sl1, fun p1 hp1 => ?_⟩⟩
    have e13 := slo_same cq1 cq3 es1 es3
    subst e13
    refine ⟨p1, 2, [.ref a3], rfl, rfl, SqT.of upd_same, by simp, by decide, by decide, by show 1 ≤ 1000; decide, fun p2 hp2 => ?_⟩
    have t4 := (snew (o := .tup [.ref a3]) hp1).trans (snew (o := .tup (List.replicate (2 : Int).toNat [V.ref a3]).flatten) hp2)
    refine ⟨.ref p2, .tuple [encQ s1, encQ s1], rfl, dn_two upd_same (Dn.mono t4 _ _ d3) (Dn.mono t4 _ _ d3), o1, o2, o3, ?_⟩
    generalize (PyData.tuple [encQ s1, encQ s1]).shown = S
    refine ⟨scalS _ _, _, rfl, ?_⟩
    rw [decide_eq_true (rfl : V.str S = V.str S)]
    refine iteF ?_
    have d1X := tn_tups (((Same.tups t3).trans (ext_tups ex3)).trans (Same.tups t4)) _ _ (encQ_tn s1) d1
    have duX := tn_tups (((Same.tups t13).trans (ext_tups ex3)).trans (Same.tups t4)) _ _ (encQ_tn q) hu0
    have exX := ((Same.extN t13).trans ex3).trans (Same.extN t4)
    have TX := tabs_same T3 t4
    obtain ⟨HX, eHX⟩ : ∃ HX, upd (upd H3 p1 (.tup [V.ref a3])) p2 (.tup (List.replicate (2 : Int).toNat [V.ref a3]).flatten) = HX := ⟨_, rfl⟩
    rw [eHX] at d1X duX exX TX ⊢
    obtain ⟨b, v1, v2, eb0, eb, g1, g2⟩ := dn_pair d1X
    cases eb0
    obtain ⟨b1, ys1, rfl, f1, r1⟩ := dn_t g1
    obtain ⟨b2, ys2, rfl, f2, r2⟩ := dn_t g2
    obtain ⟨a, w1, w2, rfl, ea, h1, h2⟩ := dn_pair duX
    obtain ⟨c1', xs1, rfl, k1, j1⟩ := dn_t h1
    obtain ⟨c2', xs2, rfl, k2, j2⟩ := dn_t h2
    have ly1 : ys1.length = s1.1.length := by rw [r1.length, List.length_map]
    have ly2 : ys2.length = s1.2.length := by rw [r2.length, List.length_map]
    have lx1 : xs1.length = q.1.length := by rw [j1.length, List.length_map]
    have lx2 : xs2.length = q.2.length := by rw [j2.length, List.length_map]
    have lzt := zs.lt
    have lzq := zq.lt
    have nilE : PyData.eqv (.list []) (.list []) = true := by simp [PyData.eqv, PyData.eqvAll]
    -- no poles with a first number
    refine ⟨_, rfl, .inr (.inl ⟨a1, _, _, .ref b2, rfl, rfl, SqT.of eb, rfl, b2, rfl, ⟨_, SqT.of f2⟩, fun D hD => lc_tup (K := K) (a := b2) (xs := ys2) (fun i H' => H' D = some (.lst []) ∧ Same HX H') ⟨upd_same, snew hD⟩ (fun i H' _ s' => SqT.of (s'.2 _ _ f2)) ?_ ?_⟩)⟩
    · rintro i x H4 hx ⟨e4, t5⟩
      obtain ⟨t, ax, pv1, rv, et, rfl, hax, dr, dp⟩ := dn_rows r2 i x hx
      obtain ⟨ar, zs', rfl, har, rr⟩ := dn_t dr
      have hd := n1 t (List.mem_of_getElem? et)
      obtain ⟨t', et'⟩ : ∃ t', t.2 = [] :: t' := by
        match h : t.2, hd with
        | x :: l, hd => 
          have : x = [] := Option.some.inj hd
          exact ⟨l, by rw [this]⟩
      have e0 : t.2[0]? = some [] := by rw [et']; rfl
      obtain ⟨x0, ex0, dx0⟩ := row_at rr e0
      refine ⟨ax, _, rfl, SqT.of (t5 _ _ hax), rfl, _, _, rfl, _, _, rfl, rfl, rfl, ?_⟩
      refine ⟨_, rfl, .inr (.inl ⟨ar, zs', _, x0, rfl, rfl, SqT.of (t5 _ _ har), (show atI zs' ((0 : Nat) : Int) = _ from atI_nat ex0), Nat.zero_le _, fun z hz => ⟨encN [], .tuple [], tn_dp _ _ (encN_tn []) (Dn.mono (t5.trans (snew hz)) _ _ dx0), .tup (SqT.of upd_same) .nil, encN_shaped [], rfl, _, rfl, ?_⟩⟩)⟩
      rw [eqv_nil_d (encN_tn [])]
      refine iteF ?_
      exact ⟨snew hz _ _ e4, t5.trans (snew hz)⟩
    rintro H4 ⟨e4, t5⟩
    refine ⟨Nat.zero_le _, fun E hE => ⟨.list [], .list [], .lst (SqL.of (snew hE _ _ e4)) .nil, .lst (SqL.of upd_same) .nil, nil_shaped, nil_shaped, _, rfl, ?_⟩⟩
    rw [nilE]
    refine iteF ?_
    have t6 := t5.trans (snew (o := .lst []) hE)
    refine ⟨_, rfl, .inr (.inl ⟨a1, _, _, .ref b1, rfl, rfl, SqT.of (t6 _ _ eb), rfl, .ref b1, ys1.length, rfl, .inr ⟨ys1, SqT.of (t6 _ _ f1), rfl⟩, _, rfl, .inr (.inl ⟨a, _, _, .ref c1', rfl, rfl, SqT.of (t6 _ _ ea), rfl, .ref c1', xs1.length, rfl, .inr ⟨xs1, SqT.of (t6 _ _ k1), rfl⟩, _, _, rfl, rfl, _, _, rfl, ?_⟩)⟩)⟩
    have lens : V.int (ys1.length : Int) = V.int (if (xs1.length : Int) - 1 > 0 then (xs1.length : Int) - 1 else 0) := by
      congr 1
      split <;> omega
    refine ⟨rfl, _, rfl, iteNS lens ?_⟩
    obtain ⟨H5, eH5⟩ : ∃ H5, upd H4 E (.lst []) = H5 := ⟨_, rfl⟩
    rw [eH5] at t6 ⊢
    obtain ⟨L, eL⟩ : ∃ L : List (Pl × Int), q.2.map (fun t => (t.1, (t.2.length : Int))) = L := ⟨_, rfl⟩
    have eL1 : s1.2.map (fun t => (t.1, (t.2.length : Int) - 1)) = L := by
      have h := congrArg (List.map fun x : Pl × Nat => (x.1, (x.2 : Int) - 1)) m1
      rw [List.map_map, List.map_map] at h
      rw [← eL]
      refine Eq.trans ?_ (h.trans ?_)
      · rfl
      · refine List.map_congr_left fun t _ => ?_
        show (t.1, ((t.2.length + 1 : Nat) : Int) - 1) = (t.1, (t.2.length : Int))
        congr 1
        omega
    have same : ∀ {ns : List (Pl × Int)} {m : Nat}, ns.length = m → m = L.length → (∀ (j : Nat) x, ns[j]? = some x → L[j]? = some x) → ns = L := fun {ns m} h1 h2 h3 => by
      refine List.ext_getElem? fun j => ?_
      cases c : ns[j]? with
      | some p => exact (h3 j p c).symm
      | none =>
        rw [List.getElem?_eq_none_iff] at c
        exact (List.getElem?_eq_none (by omega)).symm
    have lL : L.length = q.2.length := by rw [← eL, List.length_map]
    have lL1 : L.length = s1.2.length := by rw [← eL1, List.length_map]
    refine ⟨_, rfl, .inr (.inl ⟨a1, _, _, .ref b2, rfl, rfl, SqT.of (t6 _ _ eb), rfl, b2, rfl, ⟨_, SqT.of (t6 _ _ f2)⟩, fun D1 hD1 => lc_enc (enc := encPi) encPi_tn (walk_tup (K := K) (a := b2) (xs := ys2)) (fun H' s' => SqT.of (s' _ _ (t6 _ _ f2))) (fun j x => L[j]? = some x) (by omega) hD1 (fun j x H6 H7 Q' hj t7 y kk => ?_) fun acc ns H6 e6 d6 ln hn t7 => ?_⟩)⟩
    · obtain ⟨rfl, hx⟩ := y
      obtain ⟨t, ax, pv1, rv, et, rfl, hax, dr, dp⟩ := dn_rows r2 j x hx
      obtain ⟨ar, zs', rfl, har, rr⟩ := dn_t dr
      have lz : zs'.length = t.2.length := by rw [rr.length, List.length_map]
      have t67 := t6.trans t7
      refine ⟨ax, _, rfl, SqT.of (t67 _ _ hax), rfl, _, _, rfl, _, _, rfl, rfl, rfl, ?_⟩
      refine ⟨_, rfl, _, rfl, .ref ar, zs'.length, rfl, .inr ⟨zs', SqT.of (t67 _ _ har), rfl⟩, _, _, rfl, rfl, s2z, fun z hz => ?_⟩
      have tz := snew (o := .tup [pv1, .int ((zs'.length : Int) - 1)]) hz
      refine kk (.ref z) (t.1, (t.2.length : Int) - 1) _ (dn_two upd_same (Dn.mono (t67.trans tz) _ _ dp) ?_) ?_ tz
      · rw [lz]; exact .int _
      · rw [← eL1, List.getElem?_map, et]; rfl
    · have ens := same ln (by omega) hn
      subst ens
      have t67 := t6.trans t7
      refine ⟨_, rfl, .inr (.inl ⟨a, _, _, .ref c2', rfl, rfl, SqT.of (t67 _ _ ea), rfl, c2', rfl, ⟨_, SqT.of (t67 _ _ k2)⟩, fun D2 hD2 => lc_enc (enc := encPi) encPi_tn (walk_tup (K := K) (a := c2') (xs := xs2)) (fun H' s' => SqT.of (s' _ _ (t67 _ _ k2))) (fun j x => ns[j]? = some x) (by omega) hD2 (fun j x H7 H8 Q' hj t8 y kk => ?_) fun acc2 ns2 H7 e7 d7 ln2 hn2 t8 => ?_⟩)⟩
      · obtain ⟨rfl, hx⟩ := y
        obtain ⟨t, ax, pv1, rv, et, rfl, hax, dr, dp⟩ := dn_rows j2 j x hx
        obtain ⟨ar, zs', rfl, har, rr⟩ := dn_t dr
        have lz : zs'.length = t.2.length := by rw [rr.length, List.length_map]
        have t68 := t67.trans t8
        refine ⟨ax, _, rfl, SqT.of (t68 _ _ hax), rfl, _, _, rfl, _, _, rfl, rfl, rfl, ?_⟩
        refine ⟨_, rfl, _, rfl, .ref ar, zs'.length, rfl, .inr ⟨zs', SqT.of (t68 _ _ har), rfl⟩, s2z, fun z hz => ?_⟩
        have tz := snew (o := .tup [pv1, .int (zs'.length : Int)]) hz
        refine kk (.ref z) (t.1, (t.2.length : Int)) _ (dn_two upd_same (Dn.mono (t68.trans tz) _ _ dp) ?_) ?_ tz
        · rw [lz]; exact .int _
        · rw [← eL, List.getElem?_map, et]; rfl
      · have ens2 := same ln2 (by omega) hn2
        subst ens2
        obtain ⟨z1, z2⟩ := list_lay (enc := encPi) encPi_shape ns2
        have sh : SeqAt.shaped (.list (ns2.map encPi)) = true := shaped_of z1 (by omega)
        refine ⟨.list (ns2.map encPi), .list (ns2.map encPi), .lst (SqL.of (t8 _ _ e6)) (tn_dpA _ _ (tn_maps encPi_tn _) (DnAll.mono t8 _ _ d6)), .lst (SqL.of e7) (tn_dpA _ _ (tn_maps encPi_tn _) d7), sh, sh, ?_⟩
        rw [SeqAt.eqv_refl _ z1]
        exact k _ (exX.trans (Same.extN (t67.trans t8))) (tabs_same TX (t67.trans t8))
end
end N3

namespace N3
open PySem PySem.Spec PyProof.Rows L2 N2 LamX
/-! ### k11: the law -/
def zeroQ : Qt := ([], [])
theorem qz_zero {ok : Int → Prop} {C W M T : Nat} : QZ ok C W M T zeroQ := ⟨⟨CR.nil, CTs.nil⟩, Nat.zero_le _, Nat.zero_le _, fun t ht => by simp [zeroQ] at ht, fun n hn => by simp [zeroQ] at hn, fun t ht => by simp [zeroQ] at ht, fun t ht => by simp [zeroQ] at ht⟩
theorem sum_comm {q r s : Qt} (h : QSum q r s) : QSum r q s := ⟨fun k d => by rw [h.1, Rat.add_comm], fun p k d => by rw [h.2, Rat.add_comm]⟩
theorem tl_nil (p : Pl) : tl [] p = [] := rfl
theorem sum_zr {ok : Int → Prop} {q s : Qt} (hq : CQ ok q) (hs : CQ ok s) (h : QSum q zeroQ s) : s = q := q_inj hs hq (fun k d => by rw [h.1]; show _ + cr [] k d = _; rw [cr_nil, Rat.add_zero]) fun p k d => by rw [h.2]; show _ + cr (tl [] p) k d = _; rw [tl_nil, cr_nil, Rat.add_zero]
theorem sum_zl {ok : Int → Prop} {q s : Qt} (hq : CQ ok q) (hs : CQ ok s) (h : QSum zeroQ q s) : s = q := q_inj hs hq (fun k d => by rw [h.1]; show cr [] k d + _ = _; rw [cr_nil, Rat.zero_add]) fun p k d => by rw [h.2]; show cr (tl [] p) k d + _ = _; rw [tl_nil, cr_nil, Rat.zero_add]
theorem slo_zero {ok : Int → Prop} {q s : Qt} (hs : CQ ok s) (h : QSlo q s) (l : q.1.length ≤ 1) (t : q.2 = []) : s = zeroQ := by
  refine q_inj hs ⟨CR.nil, CTs.nil⟩ (fun k d => ?_) fun p k d => ?_
  · rw [h.1, cr_off (by omega), Rat.mul_zero]
    exact (cr_nil k d).symm
  · show _ = cr (tl [] p) k d
    rw [tl_nil, cr_nil]
    cases k with
    | zero => exact (h.2 p d).1
    | succ k => rw [(h.2 p d).2, t, tl_nil, cr_nil, Rat.mul_zero]
def constQ : Qt := ([[(1, 7, 3)]], [])
theorem qz_const {ok : Int → Prop} (h1 : ok 1) : QZ ok 21 20 10 10 constQ := by
  have cn : CN ok [(1, 7, 3)] := ⟨fun x hx => by rw [List.mem_singleton.mp hx]; exact ⟨h1, by decide, by decide⟩, fun i x y hx hy => by
    cases i with
    | zero => cases hy
    | succ i => simp at hx⟩
  refine ⟨⟨⟨fun n hn => by rw [List.mem_singleton.mp hn]; exact cn, by simp [constQ]⟩, CTs.nil⟩, by decide, by decide, fun t ht => by simp [constQ] at ht, fun n hn => ?_, fun t ht => by simp [constQ] at ht, fun t ht => by simp [constQ] at ht⟩
  rw [List.mem_singleton.mp hn]
  intro x hx
  rw [List.mem_singleton.mp hx]
  decide
/-- what stands while a turn goes -/
structure Ft (K : PySem.W.Frag) (c dk l pm : Addr) (ms : List Int) (zz u v d : V) (q r s : Qt) (H : Hp) : Prop where
  de : Deck H dk l
  pm : H pm = some (.lst (ms.map V.int))
  z : Dn H zz (encQ zeroQ)
  u : Dn H u (encQ q)
  v : Dn H v (encQ r)
  d : Dn H d (encQ s)
  tb : Tabs (tabL c) H
section
variable {K : PySem.W.Frag} {c dk l pm : Addr} {ms : List Int} {zz u v d : V} {q r s : Qt} {H H' : Hp}
theorem Ft.ext (f : Ft K c dk l pm ms zz u v d q r s H) (e : ExtN H H') (t : Tabs (tabL c) H') : Ft K c dk l pm ms zz u v d q r s H' :=
  ⟨deck_ext f.de e, e _ _ f.pm (fun _ z => nomatch z), tn_tups (ext_tups e) _ _ (encQ_tn _) f.z, tn_tups (ext_tups e) _ _ (encQ_tn _) f.u, tn_tups (ext_tups e) _ _ (encQ_tn _) f.v, tn_tups (ext_tups e) _ _ (encQ_tn _) f.d, t⟩
theorem Ft.same (f : Ft K c dk l pm ms zz u v d q r s H) (e : Same H H') : Ft K c dk l pm ms zz u v d q r s H' := f.ext (Same.extN e) (tabs_same f.tb e)
end
theorem all_few {ok : Int → Prop} {C W M T : Nat} {q : Qt} (h : QZ ok C W M T q) (hW : W ≤ 20) (hM : M ≤ 10) (hT : T ≤ 10) : (allN q).length ≤ 1000000 := by
  have g : ∀ ts : List Tl, (∀ t ∈ ts, t.2.length ≤ M) → ((ts.map (·.2)).flatten).length ≤ ts.length * M := fun ts => by
    induction ts with
    | nil => intro _; exact Nat.zero_le _
    | cons t ts ih =>
      intro ht
      have h1 := ht t List.mem_cons_self
      have h2 := ih fun s hs => ht s (List.mem_cons_of_mem _ hs)
      rw [List.map_cons, List.flatten_cons, List.length_append, List.length_cons, Nat.succ_mul]
      omega
  have h1 := g q.2 h.lm
  have h2 : q.2.length * M ≤ 10 * 10 := Nat.mul_le_mul (by have := h.lt; omega) hM
  have h3 := h.lw
  show (q.1 ++ (q.2.map (·.2)).flatten).length ≤ _
  rw [List.length_append]
  omega
def spLaw (K : PySem.W.Frag) : Sp := fun vs H Q _ => ∃ (a : Addr) (ns : List Int), vs = [.ref a] ∧ H (tabOf K "_law_told") = some (.tbl #[]) ∧ SqL K H a (ns.map V.int) ∧ ns.length ≤ 63 ∧ ∀ H', Q (.bl true) H'
section
variable {P : Program} {w : World} {K : PySem.W.Frag} {mg : Str → Option Value} {base : Heap}
abbrev s_law : Stmt := top 71
abbrev nsLw : List Str := ["script", "deck", "menu", "zero", "turn", "one", "other", "due", "near", "far"]
theorem sc_law : FnScope nsLw ["script"] (defScope s_law) := ⟨rfl, rfl, rfl, by decide +kernel, rfl, by decide +kernel, by decide +kernel⟩
theorem ok_law {f f__law_deck f__law_roots f__law_pair f__law_plus f__law_is_slope_right f__law_is_within f__law_is_plain f__law_slope f_plus f_slope f_is_quotient f_is_equation : Addr} {fd d__law_deck d__law_roots d__law_pair d__law_plus d__law_is_slope_right d__law_is_within d__law_is_plain d__law_slope d_plus d_slope d_is_quotient d_is_equation : FuncData} {pT : Addr} (hpT : pT = tabOf K "_law_told") (sy : Sy base) (nk2_plus : Bk2 K d_plus "one" "other") (F : Fun K "law" "law" s_law f fd) (T : Bt mg) (l_deck : Kn P w K mg base 1 "_law_deck" ["script", "seed"] (spDeck K) f__law_deck d__law_deck) (l_roots : Kn P w K mg base 3 "_law_roots" ["deck"] spMenu f__law_roots d__law_roots) (l_pair : Kn P w K mg base 5 "_law_pair" ["deck", "menu"] (spPair pT) f__law_pair d__law_pair) (l_plus : Kn P w K mg base 4 "_law_plus" ["one", "other"] (spPlusL pT) f__law_plus d__law_plus) (l_is_slope_right : KnG P w K mg base 12 "_law_is_slope_right" ["quotient"] (spRight pT) f__law_is_slope_right d__law_is_slope_right) (l_is_within : Kn P w K mg base 2 "_law_is_within" ["quotient"] spWithin f__law_is_within d__law_is_within) (l_is_plain : Kn P w K mg base 2 "_law_is_plain" ["quotient"] spPlain f__law_is_plain d__law_is_plain) (l_slope : Kn P w K mg base 4 "_law_slope" ["quotient"] (spSlopeL pT) f__law_slope d__law_slope) (p_plus : Kn P w K mg base 11 "plus" ["one", "other"] spPlus f_plus d_plus) (p_slope : Kn P w K mg base 11 "slope" ["quotient"] spSlope f_slope d_slope) (p_is_quotient : Kn P w K mg base 9 "is_quotient" ["thing"] (spCk (DQ Fit)) f_is_quotient d_is_quotient) (p_is_equation : Kn P w K mg base 10 "is_equation" ["thing"] (spCk (fun d => ∃ q, d = encQ q ∧ CQ Fit q ∧ Plain q)) f_is_equation d_is_equation) : FnG P w K mg base 13 f fd ["script"] (spLaw K) := by
  refine fn_idle F sc_law (fun vs H Q E h => ?_) (fun cdv A outer s H vs Q hr hi h => ?_)
  · obtain ⟨a, ns, rfl, _⟩ := h
    rfl
  · obtain ⟨a, ns, rfl, hT, hS, hl, k⟩ := h
    subst hpT
    have hu : (A.deeper (envOfC "law" (defScope s_law) s.heap.objs.size f cdv)).units + 70 < cLine := by have := hr.un; omega
    have at0 : ∀ {X : Cx} (σ : L2.St), PassesAt CX0 X σ E0 := fun σ pins H s e s' I c => pass0 pins σ H s e s' I c
    refine ⟨_, pss_cons (ps_set (i := 1) sc_law.nd rfl (Or.inl rfl) (pe_call l_deck.ok (hr.mono (by decide)) rfl l_deck.mg l_deck.kp l_deck.bd .nil pass0 (pa_cons (pv 0) (pa_cons pe_int pa_nil))))
      (pss_cons (ps_par (i := 2) (j := 3) rfl sc_law.nd rfl rfl (by decide) rfl rfl (pa_cons (pe_call l_roots.ok (hr.mono (by decide)) rfl l_roots.mg l_roots.kp l_roots.bd .nil pass0 (pa_cons (pv 1) pa_nil)) (pa_cons (pk_tup (pka_cons (pk_tup pka_nil) (pka_cons (pk_tup pka_nil) pka_nil))) pa_nil)) (by rfl))
      (pss_cons (ps_for PassesOwn.never rfl (pi_range1 rfl T.range (pa_cons pe_int pa_nil)) (pg_name (i := 4) sc_law.nd rfl (Or.inl rfl))
        (pss_cons (ps_asg (pe_call l_pair.ok (hr.mono (by decide)) rfl l_pair.mg l_pair.kp l_pair.bd .nil pass0 (pa_cons (pv 1) (pa_cons (pv 2) pa_nil))) (pg_tup rfl (pgs_cons (pg_name (i := 5) sc_law.nd rfl (Or.inl rfl)) (pgs_cons (pg_name (i := 6) sc_law.nd rfl (Or.inl rfl)) pgs_nil))))
        (pss_cons (ps_set (i := 7) sc_law.nd rfl (Or.inl rfl) (pe_call l_plus.ok (hr.mono (by decide)) rfl l_plus.mg l_plus.kp l_plus.bd .nil pass0 (pa_cons (pv 5) (pa_cons (pv 6) pa_nil))))
        (pss_cons (ps_if (pt_cmpR op_ne (pe_callB (call_repr sy hi hu) (by rfl) T.repr (by decide +kernel) (pa_cons (pe_tup (pa_cons (pe_call p_plus.ok (hr.mono (by decide)) rfl p_plus.mg p_plus.kp p_plus.bd .nil pass0 (pa_cons (pv 5) (pa_cons (pv 6) pa_nil))) (pa_cons (pe_by2 p_plus.ok (hr.mono (by decide)) p_plus.mg p_plus.kp nk2_plus at0 (pv 5) (pv 6)) pa_nil))) pa_nil)) (pe_callB (call_repr sy hi hu) (by rfl) T.repr (by decide +kernel) (pa_cons (pe_tup (pa_cons (pv 7) (pa_cons (pv 7) pa_nil))) pa_nil)) (nomark _))
          (pss_one (ps_ret pe_bl))
          pss_nil)
        (pss_cons (ps_if (pt_cmpR op_ne (pe_callB (call_repr sy hi hu) (by rfl) T.repr (by decide +kernel) (pa_cons (pe_tup (pa_cons (pe_call p_plus.ok (hr.mono (by decide)) rfl p_plus.mg p_plus.kp p_plus.bd .nil pass0 (pa_cons (pv 5) (pa_cons (pv 3) pa_nil))) (pa_cons (pe_call p_plus.ok (hr.mono (by decide)) rfl p_plus.mg p_plus.kp p_plus.bd .nil pass0 (pa_cons (pv 3) (pa_cons (pv 6) pa_nil))) (pa_cons (pe_call p_plus.ok (hr.mono (by decide)) rfl p_plus.mg p_plus.kp p_plus.bd .nil pass0 (pa_cons (pv 3) (pa_cons (pv 3) pa_nil))) pa_nil)))) pa_nil)) (pe_callB (call_repr sy hi hu) (by rfl) T.repr (by decide +kernel) (pa_cons (pe_tup (pa_cons (pv 5) (pa_cons (pv 6) (pa_cons (pv 3) pa_nil)))) pa_nil)) (nomark _))
          (pss_one (ps_ret pe_bl))
          pss_nil)
        (pss_cons (ps_if (PW.pt (pw_or (pt_not (pt_val (pe_idle l_is_slope_right.ok (hr.mono (by decide)) hi l_is_slope_right.mg l_is_slope_right.kp l_is_slope_right.bd (pa_cons (pv 5) pa_nil)))) (pw_or1 (pt_not (pt_val (pe_idle l_is_slope_right.ok (hr.mono (by decide)) hi l_is_slope_right.mg l_is_slope_right.kp l_is_slope_right.bd (pa_cons (pv 6) pa_nil)))))))
          (pss_one (ps_ret pe_bl))
          pss_nil)
        (C8.pss_cut (ps_if (pt_val (pe_call l_is_within.ok (hr.mono (by decide)) rfl l_is_within.mg l_is_within.kp l_is_within.bd .nil pass0 (pa_cons (pv 7) pa_nil)))
          (pss_one (ps_if (PW.pt (pw_or (pt_cmpR op_ne (pe_callB (call_repr sy hi hu) (by rfl) T.repr (by decide +kernel) (pa_cons (pe_tup (pa_cons (pe_call p_is_quotient.ok (hr.mono (by decide)) rfl p_is_quotient.mg p_is_quotient.kp p_is_quotient.bd .nil pass0 (pa_cons (pv 7) pa_nil)) (pa_cons (pe_call p_is_equation.ok (hr.mono (by decide)) rfl p_is_equation.mg p_is_equation.kp p_is_equation.bd .nil pass0 (pa_cons (pv 7) pa_nil)) pa_nil))) pa_nil)) (pe_callB (call_repr sy hi hu) (by rfl) T.repr (by decide +kernel) (pa_cons (pe_tup (pa_cons pe_bl (pa_cons (pe_call l_is_plain.ok (hr.mono (by decide)) rfl l_is_plain.mg l_is_plain.kp l_is_plain.bd .nil pass0 (pa_cons (pv 7) pa_nil)) pa_nil))) pa_nil)) (nomark _)) (pw_or1 (pt_not (pt_val (pe_idle l_is_slope_right.ok (hr.mono (by decide)) hi l_is_slope_right.mg l_is_slope_right.kp l_is_slope_right.bd (pa_cons (pv 7) pa_nil)))))))
            (pss_one (ps_ret pe_bl))
            pss_nil))
          pss_nil)
        (pss_cons (ps_par (i := 8) (j := 9) rfl sc_law.nd rfl rfl (by decide) rfl rfl (pa_cons (pe_call p_slope.ok (hr.mono (by decide)) rfl p_slope.mg p_slope.kp p_slope.bd .nil pass0 (pa_cons (pv 5) pa_nil)) (pa_cons (pe_call p_slope.ok (hr.mono (by decide)) rfl p_slope.mg p_slope.kp p_slope.bd .nil pass0 (pa_cons (pv 6) pa_nil)) pa_nil)) (by rfl))
        (pss_one (ps_if (PW.pt (pw_and (pt_val (pe_call l_is_within.ok (hr.mono (by decide)) rfl l_is_within.mg l_is_within.kp l_is_within.bd .nil pass0 (pa_cons (pv 8) pa_nil))) (pw_and (pt_val (pe_call l_is_within.ok (hr.mono (by decide)) rfl l_is_within.mg l_is_within.kp l_is_within.bd .nil pass0 (pa_cons (pv 9) pa_nil))) (pw_and1 (pt_cmpR op_ne (pe_callB (call_repr sy hi hu) (by rfl) T.repr (by decide +kernel) (pa_cons (pe_call p_plus.ok (hr.mono (by decide)) rfl p_plus.mg p_plus.kp p_plus.bd .nil pass0 (pa_cons (pv 8) (pa_cons (pv 9) pa_nil))) pa_nil)) (pe_callB (call_repr sy hi hu) (by rfl) T.repr (by decide +kernel) (pa_cons (pe_call l_slope.ok (hr.mono (by decide)) rfl l_slope.mg l_slope.kp l_slope.bd .nil pass0 (pa_cons (pv 7) pa_nil)) pa_nil)) (nomark _))))))
          (pss_one (ps_ret pe_bl))
          pss_nil))))))))))
      (pss_one (ps_ret (pe_cmpR op_eq (pe_callB (call_repr sy hi hu) (by rfl) T.repr (by decide +kernel) (pa_cons (pe_tup (pa_cons (pe_call p_slope.ok (hr.mono (by decide)) rfl p_slope.mg p_slope.kp p_slope.bd .nil pass0 (pa_cons (pv 3) pa_nil)) (pa_cons (pe_call p_slope.ok (hr.mono (by decide)) rfl p_slope.mg p_slope.kp p_slope.bd .nil pass0 (pa_cons (pk_tup (pka_cons (pk_tup (pka_cons (pk_tup (pka_cons (pk_tup (pka_cons pk_int (pka_cons pk_int (pka_cons pk_int pka_nil)))) pka_nil)) pka_nil)) (pka_cons (pk_tup pka_nil) pka_nil))) pa_nil)) pa_nil))) pa_nil)) (pe_callB (call_repr sy hi hu) (by rfl) T.repr (by decide +kernel) (pa_cons (pe_tup (pa_cons (pv 3) (pa_cons (pv 3) pa_nil))) pa_nil)) (nomark _)))))), ?_⟩
    have T0 : Tabs (tabL (tabOf K "_law_told")) H := fun p hp => by
      rw [List.mem_singleton.mp hp]
      exact TabS.nil hT
    have s2z : 2 ≤ sizeLine := by rw [sizeLine_eq]; decide
    have s3z : 3 ≤ sizeLine := by rw [sizeLine_eq]; decide
    have scalS : ∀ x y : Str, scal (V.str x) (V.str y) = true := fun _ _ => rfl
    refine ⟨_, rfl, a, ns, 13730011, rfl, hS, hl, fun H1 dk l D1 s1 _ _ => ?_⟩
    refine ⟨_, rfl, dk, l, rfl, D1, fun pm pp H2 hpp hpm m1 m2 D2 k2 => ?_⟩
    intro zz H3 s3 dz
    refine ⟨_, _, rfl, ?_⟩
    have o := okM_okd hpp
    have T2 := tabs_deck D1 k2 (tabs_same T0 s1)
    have one_in : okM pp 1 := by
      show (1 : Int) ∈ menu pp
      obtain ⟨x, y, z⟩ := pp
      simp [menu, prods]
    have mne : menu pp ≠ [] := fun z => by rw [show okM pp 1 = ((1 : Int) ∈ menu pp) from rfl, z] at one_in; cases one_in
    have mlen : (menu pp).length ≤ 8 := Nat.le_of_eq (menu_ok pp hpp).2
    have dz0 : Dn H3 zz (encQ zeroQ) := dz
    refine ⟨3, rfl, by decide, by decide, for_range (lo := 0) (n := 3) (fun i σ H' => (∃ x4 x5 x6 x7 x8 x9 : Option V, σ = [some (.ref a), some (.ref dk), some (.ref pm), some zz, x4, x5, x6, x7, x8, x9]) ∧ Deck H' dk l ∧ H' pm = some (.lst ((menu pp).map V.int)) ∧ Dn H' zz (encQ zeroQ) ∧ Tabs (tabL (tabOf K "_law_told")) H')
      ⟨⟨_, _, _, _, _, _, rfl⟩, D2.same s3, s3 _ _ hpm, dz0, tabs_same T2 s3⟩ ?_ ?_⟩
    · rintro i σ H4 hi' ⟨⟨x4, x5, x6, x7, x8, x9, rfl⟩, D4, hpm4, dz4, T4⟩
      refine ⟨_, rfl, _, rfl, dk, l, pm, menu pp, okM pp, rfl, D4, hpm4, m1, m2, mne, mlen, fun m h => h, one_in, o, T4, fun p u v q r H5 hp du dv zq zr D5 k5 T5 => ?_⟩
      have hpm5 := k5 _ _ hpm4 m1 m2 (fun _ z => nomatch z)
      have dz5 := tn_tups (keepX_tups D4 k5) _ _ (encQ_tn _) dz4
      refine ⟨p, _, rfl, SqT.of hp, rfl, _, _, rfl, _, _, rfl, rfl, ?_⟩
      have zq20 : QZ (okM pp) 21 20 10 10 q := zq.mono (by decide) (by decide) (by decide) (by decide)
      have zr20 : QZ (okM pp) 21 20 10 10 r := zr.mono (by decide) (by decide) (by decide) (by decide)
      refine ⟨_, rfl, _, rfl, u, v, q, r, 21, okM pp, rfl, du, dv, zq20, zr20, o, by decide, by decide, T5, fun s0 d H6 dd cs es ex6 T6 => ?_⟩
      have zs : QZ (okM pp) 43 9 6 8 s0 := qz_sum zq zr (by decide) cs es
      have zs20 : QZ (okM pp) 43 20 10 10 s0 := zs.mono (by decide) (by decide) (by decide) (by decide)
      have f6 : Ft K (tabOf K "_law_told") dk l pm (menu pp) zz u v (.ref d) q r s0 H6 := ⟨deck_ext D5 ex6, ex6 _ _ hpm5 (fun _ z => nomatch z), tn_tups (ext_tups ex6) _ _ (encQ_tn _) dz5, tn_tups (ext_tups ex6) _ _ (encQ_tn _) du, tn_tups (ext_tups ex6) _ _ (encQ_tn _) dv, dd, T6⟩
      have gs := gw_qz o (by decide) zs20
      have gq := gw_qz o (by decide) zq20
      have gr := gw_qz o (by decide) zr20
      have gz := gw_qz o (C := 21) (by decide) (qz_zero (ok := okM pp))
      -- plus
      obtain ⟨o1, o2, o3⟩ := shown_ok (gw_two gs gs) (by decide) (by decide)
      refine ⟨_, rfl, _, rfl, u, v, q, r, 21, okM pp, rfl, f6.u, f6.v, zq20, zr20, o, by decide, by decide, fun s1' a1 H7 da1 c1 e1 t7 => ?_⟩
      have q1 := sum_same c1 cs e1 es
      subst q1
      refine ⟨_, rfl, _, rfl, v, u, r, q, 21, okM pp, rfl, (f6.same t7).v, (f6.same t7).u, zr20, zq20, o, by decide, by decide, fun s2' a2 H8 da2 c2 e2 t8 => ⟨s2z, fun p1 hp1 => ?_⟩⟩
      have q2 := sum_same c2 cs (sum_comm e2) es
      subst q2
      have t9 := snew (o := .tup [.ref a1, .ref a2]) hp1
      have f9 := f6.same (t7.trans (t8.trans t9))
      refine ⟨.ref p1, .tuple [encQ s2', encQ s2'], rfl, dn_two upd_same (Dn.mono (t8.trans t9) _ _ da1) (Dn.mono t9 _ _ da2), o1, o2, o3, _, rfl, _, rfl, s2z, fun p2 hp2 => ?_⟩
      have t10 := snew (o := .tup [.ref d, .ref d]) hp2
      have f10 := f9.same t10
      refine ⟨.ref p2, .tuple [encQ s2', encQ s2'], rfl, dn_two upd_same f10.d f10.d, o1, o2, o3, ?_⟩
      generalize (PyData.tuple [encQ s2', encQ s2']).shown = S
      refine ⟨scalS _ _, _, rfl, ?_⟩
      rw [decide_eq_true (rfl : V.str S = V.str S)]
      refine iteF ?_
      obtain ⟨HA, eHA⟩ : ∃ HA, upd (upd H8 p1 (.tup [.ref a1, .ref a2])) p2 (.tup [.ref d, .ref d]) = HA := ⟨_, rfl⟩
      rw [eHA] at f10 ⊢
      -- zero
      obtain ⟨z1, z2, z3⟩ := shown_ok (gw_three gq gr gz) (by decide) (by decide)
      refine ⟨_, rfl, _, rfl, u, zz, q, zeroQ, 21, okM pp, rfl, f10.u, f10.z, zq20, qz_zero, o, by decide, by decide, fun y1 b1 HB db1 cb1 eb1 tb1 => ?_⟩
      have q3 := sum_zr zq20.cq cb1 eb1
      subst q3
      refine ⟨_, rfl, _, rfl, zz, v, zeroQ, r, 21, okM pp, rfl, (f10.same tb1).z, (f10.same tb1).v, qz_zero, zr20, o, by decide, by decide, fun y2 b2 HC db2 cb2 eb2 tb2 => ?_⟩
      have q4 := sum_zl zr20.cq cb2 eb2
      subst q4
      have tbc := tb1.trans tb2
      refine ⟨_, rfl, _, rfl, zz, zz, zeroQ, zeroQ, 21, okM pp, rfl, (f10.same tbc).z, (f10.same tbc).z, qz_zero, qz_zero, o, by decide, by decide, fun y3 b3 HD db3 cb3 eb3 tb3 => ⟨s3z, fun p3 hp3 => ?_⟩⟩
      have q5 := sum_zr (q := zeroQ) (qz_zero (C := 21) (W := 20) (M := 10) (T := 10)).cq cb3 eb3
      subst q5
      have t11 := snew (o := .tup [.ref b1, .ref b2, .ref b3]) hp3
      have f11 := f10.same (tbc.trans (tb3.trans t11))
      refine ⟨.ref p3, .tuple [encQ y1, encQ y2, encQ zeroQ], rfl, .tup upd_same (.cons (Dn.mono (tb2.trans (tb3.trans t11)) _ _ db1) (.cons (Dn.mono (tb3.trans t11) _ _ db2) (.cons (Dn.mono t11 _ _ db3) .nil))), z1, z2, z3, _, rfl, _, rfl, _, rfl, s3z, fun p4 hp4 => ?_⟩
      have t12 := snew (o := .tup [u, v, zz]) hp4
      have f12 := f11.same t12
      refine ⟨.ref p4, .tuple [encQ y1, encQ y2, encQ zeroQ], rfl, .tup upd_same (.cons f12.u (.cons f12.v (.cons f12.z .nil))), z1, z2, z3, ?_⟩
      generalize (PyData.tuple [encQ y1, encQ y2, encQ zeroQ]).shown = S2
      refine ⟨scalS _ _, _, rfl, ?_⟩
      rw [decide_eq_true (rfl : V.str S2 = V.str S2)]
      refine iteF ?_
      obtain ⟨HE, eHE⟩ : ∃ HE, upd (upd HD p3 (.tup [.ref b1, .ref b2, .ref b3])) p4 (.tup [u, v, zz]) = HE := ⟨_, rfl⟩
      rw [eHE] at f12 ⊢
      -- slopes of both
      refine ⟨_, rfl, u, y1, 21, okM pp, rfl, f12.u, zq.mono (by decide) (by decide) (by decide) (by decide), o, by decide, by decide, f12.tb, fun HF exF TF => ⟨_, rfl, iteF ?_⟩⟩
      have f13 := f12.ext exF TF
      refine ⟨_, rfl, v, y2, 21, okM pp, rfl, f13.v, zr.mono (by decide) (by decide) (by decide) (by decide), o, by decide, by decide, f13.tb, fun HG exG TG => ⟨_, rfl, iteF ?_⟩⟩
      have f14 := f13.ext exG TG
      -- the sum
      refine ⟨fun σ' H' => σ' = [some (.ref a), some (.ref dk), some (.ref pm), some zz, some (.int (0 + (i : Int))), some u, some v, some (.ref d), x8, x9] ∧ Ft K (tabOf K "_law_told") dk l pm (menu pp) zz u v (.ref d) y1 y2 s2' H', ?_, ?_⟩
      · refine ⟨_, rfl, .ref d, s2', rfl, f14.d, all_few zs20 (by decide) (by decide) (by decide), fun bw HI _ tI => ⟨_, rfl, ?_⟩⟩
        have f15 := f14.same tI
        cases bw with
        | false =>
          refine iteF ?_
          exact ⟨rfl, f15⟩
        | true =>
        refine iteT ?_
        have gd := gd_qz o (by decide) zs20
        refine ⟨_, rfl, .ref d, _, rfl, f15.d, gd, fun c1' HJ g1 tJ => ⟨_, rfl, .ref d, _, rfl, (f15.same tJ).d, gd, fun c2' HK g2 tK => ⟨s2z, fun p5 hp5 => ?_⟩⟩⟩
        obtain rfl : c1' = true := g1.mpr ⟨s2', rfl, cq_okd o zs20.cq⟩
        have t16 := snew (o := .tup [.bl true, .bl c2']) hp5
        have tJK := tJ.trans (tK.trans t16)
        have bo : ∀ b : Bool, (PyData.tuple [.bool true, .bool b]).showable = true ∧ (PyData.tuple [.bool true, .bool b]).depth ≤ 64 ∧ (PyData.tuple [.bool true, .bool b]).shown.length ≤ sizeLine := fun b => by
          have h := okd_tup (m := 5) (n := 0) (ds := [.bool true, .bool b]) fun y hy => by
            simp only [List.mem_cons, List.not_mem_nil, or_false] at hy
            rcases hy with rfl | rfl <;> exact okd_bl _
          have sz : 100 ≤ sizeLine := by rw [sizeLine_eq]; decide
          refine ⟨h.sh, by have := h.dp; omega, ?_⟩
          have : (PyData.tuple [.bool true, .bool b]).shown.length ≤ 2 * (5 + 2) + 3 := h.ln
          omega
        obtain ⟨w1, w2, w3⟩ := bo c2'
        refine ⟨.ref p5, .tuple [.bool true, .bool c2'], rfl, .tup upd_same (.cons (.bl _) (.cons (.bl _) .nil)), w1, w2, w3, ?_⟩
        have f16 := f15.same tJK
        refine ⟨_, rfl, .ref d, s2', rfl, f16.d, all_few zs20 (by decide) (by decide) (by decide), fun c3' HL g3 tL => ⟨s2z, fun p6 hp6 => ?_⟩⟩
        obtain rfl : c2' = c3' := by
          have h : c2' = true ↔ c3' = true := g2.trans (Iff.trans ⟨fun ⟨q', e', _, pl⟩ => by rw [encQ_inj e']; exact pl, fun pl => ⟨s2', rfl, cq_okd o zs20.cq, pl⟩⟩ g3.symm)
          cases c2' <;> cases c3' <;> simp_all
        have t17 := tL.trans (snew (o := .tup [.bl true, .bl c2']) hp6)
        refine ⟨.ref p6, .tuple [.bool true, .bool c2'], rfl, .tup upd_same (.cons (.bl _) (.cons (.bl _) .nil)), w1, w2, w3, ?_⟩
        generalize (PyData.tuple [.bool true, .bool c2']).shown = S3
        refine ⟨scalS _ _, _, rfl, ?_⟩
        rw [decide_eq_true (rfl : V.str S3 = V.str S3)]
        refine iteF ?_
        have f17 := f16.same t17
        refine ⟨_, rfl, .ref d, s2', 43, okM pp, rfl, f17.d, zs.mono (by decide) (by decide) (by decide) (by decide), o, by decide, by decide, f17.tb, fun HM exM TM => ⟨_, rfl, iteF ?_⟩⟩
        exact ⟨rfl, f17.ext exM TM⟩
      · rintro σ' HH ⟨rfl, f18⟩
        refine ⟨_, rfl, u, y1, 21, okM pp, rfl, f18.u, zq20, o, by decide, by decide, fun n1 na HI dn1 cn1 en1 _ _ _ tI => ?_⟩
        refine ⟨_, rfl, v, y2, 21, okM pp, rfl, (f18.same tI).v, zr20, o, by decide, by decide, fun n2 nb HJ dn2 cn2 en2 _ _ _ tJ => ⟨_, _, rfl, ?_⟩⟩
        have zn1 : QZ (okM pp) 27 9 7 4 n1 := qz_slope zq (by decide) (by decide) (by decide) cn1 en1
        have zn2 : QZ (okM pp) 27 9 7 4 n2 := qz_slope zr (by decide) (by decide) (by decide) cn2 en2
        have zn1' : QZ (okM pp) 27 20 10 10 n1 := zn1.mono (by decide) (by decide) (by decide) (by decide)
        have zn2' : QZ (okM pp) 27 20 10 10 n2 := zn2.mono (by decide) (by decide) (by decide) (by decide)
        have f19 := f18.same (tI.trans tJ)
        have fin : ∀ {H' : Hp} {y8 y9 : Option V}, Ft K (tabOf K "_law_told") dk l pm (menu pp) zz u v (.ref d) y1 y2 s2' H' → (∃ x4 x5 x6 x7 x8 x9 : Option V, [some (.ref a), some (.ref dk), some (.ref pm), some zz, some (.int (0 + (i : Int))), some u, some v, some (.ref d), y8, y9] = [some (.ref a), some (.ref dk), some (.ref pm), some zz, x4, x5, x6, x7, x8, x9]) ∧ Deck H' dk l ∧ H' pm = some (.lst ((menu pp).map V.int)) ∧ Dn H' zz (encQ zeroQ) ∧ Tabs (tabL (tabOf K "_law_told")) H' := fun f => ⟨⟨_, _, _, _, _, _, rfl⟩, f.de, f.pm, f.z, f.tb⟩
        refine ⟨_, rfl, .ref na, n1, rfl, Dn.mono tJ _ _ dn1, all_few zn1' (by decide) (by decide) (by decide), fun b1' HK _ tK => ⟨_, rfl, ?_⟩⟩
        have f20 := f19.same tK
        cases b1' with
        | false =>
          refine iteF ?_
          exact fin f20
        | true =>
        refine iteT ?_
        refine ⟨_, rfl, .ref nb, n2, rfl, Dn.mono tK _ _ dn2, all_few zn2' (by decide) (by decide) (by decide), fun b2' HL _ tL => ⟨_, rfl, ?_⟩⟩
        have f21 := f20.same tL
        cases b2' with
        | false =>
          refine iteF ?_
          exact fin f21
        | true =>
        refine iteT ?_
        refine ⟨_, rfl, _, rfl, .ref na, .ref nb, n1, n2, 27, okM pp, rfl, Dn.mono (tJ.trans (tK.trans tL)) _ _ dn1, Dn.mono (tK.trans tL) _ _ dn2, zn1', zn2', o, by decide, by decide, fun n3 nc HM dn3 cn3 en3 tM => ?_⟩
        have zn3 : QZ (okM pp) 55 20 10 10 n3 := (qz_sum zn1 zn2 (by decide) cn3 en3).mono (by decide) (by decide) (by decide) (by decide)
        obtain ⟨v1, v2, v3⟩ := shown_ok (gw_qz o (by decide) zn3) (by decide) (by decide)
        refine ⟨.ref nc, encQ n3, rfl, dn3, v1, v2, v3, ?_⟩
        have f22 := f21.same tM
        refine ⟨_, rfl, .ref d, s2', 43, okM pp, rfl, f22.d, zs20, o, by decide, by decide, f22.tb, fun n4 nd HN dn4 cn4 en4 exN TN => ?_⟩
        have e34 : n3 = n4 := by
          obtain ⟨h1, h2⟩ := slo_sum es en1 en2 en4 en3
          exact q_inj cn3 cn4 h1 h2
        subst e34
        refine ⟨.ref nd, encQ n3, rfl, dn4, v1, v2, v3, ?_⟩
        generalize (encQ n3).shown = S4
        refine ⟨scalS _ _, _, rfl, ?_⟩
        rw [decide_eq_true (rfl : V.str S4 = V.str S4)]
        refine iteF ?_
        exact fin (f22.ext exN TN)
    · rintro σ H4 ⟨⟨x4, x5, x6, x7, x8, x9, rfl⟩, D4, hpm4, dz4, T4⟩
      refine ⟨_, rfl, zz, zeroQ, 21, okM pp, rfl, dz4, qz_zero, o, by decide, by decide, fun y1 b1 H5 d1 c1 e1 _ _ _ t1 => ?_⟩
      have q1 := slo_zero c1 e1 (Nat.zero_le _) rfl
      subst q1
      intro cc H6 t2 dc
      have dc' : Dn H6 cc (encQ constQ) := dc
      refine ⟨cc, constQ, 21, okM pp, rfl, dc', qz_const one_in, o, by decide, by decide, fun y2 b2 H7 d2 c2 e2 _ _ _ t3 => ⟨s2z, fun p1 hp1 => ?_⟩⟩
      have q2 := slo_zero c2 e2 (Nat.le_refl _) rfl
      subst q2
      have gz := gw_qz o (C := 21) (by decide) (qz_zero (ok := okM pp))
      obtain ⟨o1, o2, o3⟩ := shown_ok (gw_two gz gz) (by decide) (by decide)
      have t4 := snew (o := .tup [.ref b1, .ref b2]) hp1
      refine ⟨.ref p1, .tuple [encQ zeroQ, encQ zeroQ], rfl, dn_two upd_same (Dn.mono (t2.trans (t3.trans t4)) _ _ d1) (Dn.mono t4 _ _ d2), o1, o2, o3, _, rfl, _, rfl, s2z, fun p2 hp2 => ?_⟩
      have t5 := t1.trans (t2.trans (t3.trans (t4.trans (snew (o := .tup [zz, zz]) hp2))))
      refine ⟨.ref p2, .tuple [encQ zeroQ, encQ zeroQ], rfl, dn_two upd_same (Dn.mono t5 _ _ dz4) (Dn.mono t5 _ _ dz4), o1, o2, o3, ?_⟩
      generalize (PyData.tuple [encQ zeroQ, encQ zeroQ]).shown = S
      refine ⟨scalS _ _, ?_⟩
      rw [decide_eq_true (rfl : V.str S = V.str S)]
      exact k _
end
end N3

namespace N3
open PySem PySem.Spec PyProof.Rows L2
section
variable {K : PySem.W.Frag} {mg : Str → Option Value}
theorem df_mkT {h : Heap} (X : K.In h) (G : h.Ns mainGlobals mg) {x : Str} {st : Stmt} {ps : List Str} {f c : Addr} {oc : Value} {od an : Option Addr} {osl : Array (Option Value)} {kV doc pm cdv ct : Value}
    (a : PySem.W.nsIn K mainGlobals x = some (some (.ref f))) (l : K.lookup f = some ⟨oc, od, .func (PySem.W.fnOf x x (defArgs st) (defBody st) (defScope st) .none kV doc pm an cdv ct), osl⟩) (c0 : PySem.W.codeIn K cdv x = true) (k : PySem.W.keepIn K (.ref f) = true)
    (b : Bds x st ps) (hc : cdv = .ref c) : ∃ f fd, Df K mg x st ps f fd ∧ fd.code = .ref c := by
  refine ⟨f, _, ⟨fun_mk (st := st) l c0 k, PySem.W.mg_of X G a, (fun_mk (st := st) l c0 k).binds b⟩, hc⟩
/-- the def's code object and its table, from facts of the frame -/
theorem tab_mk {x : Str} {f c P : Addr} {oc cc : Value} {od cd : Option Addr} {osl csl : Array (Option Value)} {fd : FuncData} {vs : Array Value} (a : PySem.W.nsIn K mainGlobals x = some (some (.ref f))) (l : K.lookup f = some ⟨oc, od, .func fd, osl⟩) (hc : fd.code = .ref c)
    (lc : K.lookup c = some ⟨cc, cd, .fields vs, csl⟩) (hv : vs[11]? = some (.ref P)) : PySem.W.tabIn K x = some (c, P) := by
  unfold PySem.W.tabIn
  rw [a]
  dsimp only
  rw [l]
  dsimp only
  rw [hc]
  dsimp only
  rw [lc]
  dsimp only
  rw [hv]
theorem bk_one {x : Str} {st : Stmt} {y : Str} {f : Addr} {fd : FuncData} (F : Fun K x x st f fd) (h : ∀ (kV doc pm : Value) (an : Option Addr) (cdv ct : Value) (u : Value), bindArgs (PySem.W.fnOf x x (defArgs st) (defBody st) (defScope st) .none kV doc pm an cdv ct) ⟨[], [(y, u)]⟩ = pure [(y, u)]) : Bk K fd y := by
  obtain ⟨oc, od, kV, doc, pm, an, cdv, ct, osl, rfl, lk, hcd⟩ := F.ex
  exact fun s u X => .of_eq (h _ _ _ _ _ _ _)
end
end N3

namespace N3
open PySem PySem.Spec PyProof.Rows L2
section
variable {K : PySem.W.Frag} {mg : Str → Option Value}
theorem bk_two {x : Str} {st : Stmt} {y z : Str} {f : Addr} {fd : FuncData} (F : Fun K x x st f fd) (h : ∀ (kV doc pm : Value) (an : Option Addr) (cdv ct : Value) (u v : Value), bindArgs (PySem.W.fnOf x x (defArgs st) (defBody st) (defScope st) .none kV doc pm an cdv ct) ⟨[], [(z, v), (y, u)]⟩ = pure [(y, u), (z, v)]) : Bk2 K fd y z := by
  obtain ⟨oc, od, kV, doc, pm, an, cdv, ct, osl, rfl, lk, hcd⟩ := F.ex
  exact fun s u v X => .of_eq (h _ _ _ _ _ _ _ _)
theorem bk_slope {f : Addr} {fd : FuncData} (F : Fun K "slope" "slope" s_slope f fd) : Bk K fd "quotient" := bk_one F fun _ _ _ _ _ _ _ => by first | rfl | with_unfolding_all rfl | kernel_rfl
theorem bk_plus {f : Addr} {fd : FuncData} (F : Fun K "plus" "plus" s_plus f fd) : Bk2 K fd "one" "other" := bk_two F fun _ _ _ _ _ _ _ _ => by first | rfl | with_unfolding_all rfl | kernel_rfl
end
end N3

namespace N3
open PySem PySem.Spec PyProof.Rows L2 N2
section
variable {P : Program} {w : World} {K : PySem.W.Frag} {mg : Str → Option Value} {base : Heap}
theorem bd0 : Bds "is_integer" sInt ["thing"] := fun _ _ _ _ _ _ us hl => match us, hl with | [_], _ => rfl
theorem bd1 : Bds "is_tuple_of" sTupOf ["thing", "many"] := fun _ _ _ _ _ _ us hl => match us, hl with | [_, _], _ => rfl
theorem bd2 : Bds "all_integers" sAllInt ["things"] := fun _ _ _ _ _ _ us hl => match us, hl with | [_], _ => rfl
theorem bd3 : Bds "in_lowest_terms" sLowest ["top", "bottom"] := fun _ _ _ _ _ _ us hl => match us, hl with | [_, _], _ => rfl
theorem bd4 : Bds "square_split" sSplit ["size"] := fun _ _ _ _ _ _ us hl => match us, hl with | [_], _ => rfl
theorem bd5 : Bds "free_of_squares" sFree ["size"] := fun _ _ _ _ _ _ us hl => match us, hl with | [_], _ => rfl
theorem bd6 : Bds "lowest" sLowest2 ["top", "bottom"] := fun _ _ _ _ _ _ us hl => match us, hl with | [_, _], _ => rfl
theorem bd7 : Bds "fits_as_d" sFits ["d"] := fun _ _ _ _ _ _ us hl => match us, hl with | [_], _ => rfl
theorem bd8 : Bds "is_triple" sTriple ["thing"] := fun _ _ _ _ _ _ us hl => match us, hl with | [_], _ => rfl
theorem bd9 : Bds "is_number" sNumber ["thing"] := fun _ _ _ _ _ _ us hl => match us, hl with | [_], _ => rfl
theorem bd10 : Bds "is_fraction" sFraction ["thing"] := fun _ _ _ _ _ _ us hl => match us, hl with | [_], _ => rfl
theorem bd11 : Bds "is_pole" s_is_pole ["thing"] := fun _ _ _ _ _ _ us hl => match us, hl with | [_], _ => rfl
theorem bd12 : Bds "comes_before" s_comes_before ["one", "other"] := fun _ _ _ _ _ _ us hl => match us, hl with | [_, _], _ => rfl
theorem bd13 : Bds "is_polynomial" s_is_polynomial ["thing"] := fun _ _ _ _ _ _ us hl => match us, hl with | [_], _ => rfl
theorem bd14 : Bds "is_tail" s_is_tail ["thing"] := fun _ _ _ _ _ _ us hl => match us, hl with | [_], _ => rfl
theorem bd15 : Bds "are_tails" s_are_tails ["thing"] := fun _ _ _ _ _ _ us hl => match us, hl with | [_], _ => rfl
theorem bd16 : Bds "is_quotient" s_is_quotient ["thing"] := fun _ _ _ _ _ _ us hl => match us, hl with | [_], _ => rfl
theorem bd17 : Bds "is_equation" s_is_equation ["thing"] := fun _ _ _ _ _ _ us hl => match us, hl with | [_], _ => rfl
theorem bd18 : Bds "add_term" s_add_term ["totals", "d", "top", "bottom"] := fun _ _ _ _ _ _ us hl => match us, hl with | [_, _, _, _], _ => rfl
theorem bd19 : Bds "from_totals" s_from_totals ["totals"] := fun _ _ _ _ _ _ us hl => match us, hl with | [_], _ => rfl
theorem bd20 : Bds "weighted_sum" s_weighted_sum ["parts"] := fun _ _ _ _ _ _ us hl => match us, hl with | [_], _ => rfl
theorem bd21 : Bds "scaled" s_scaled ["number", "top", "bottom"] := fun _ _ _ _ _ _ us hl => match us, hl with | [_, _, _], _ => rfl
theorem bd22 : Bds "number_sum" s_number_sum ["one", "other"] := fun _ _ _ _ _ _ us hl => match us, hl with | [_, _], _ => rfl
theorem bd23 : Bds "trimmed" s_trimmed ["numbers"] := fun _ _ _ _ _ _ us hl => match us, hl with | [_], _ => rfl
theorem bd24 : Bds "row_sum" s_row_sum ["one", "other"] := fun _ _ _ _ _ _ us hl => match us, hl with | [_, _], _ => rfl
theorem bd25 : Bds "whole_slope" s_whole_slope ["whole"] := fun _ _ _ _ _ _ us hl => match us, hl with | [_], _ => rfl
theorem bd26 : Bds "poles_of" s_poles_of ["quotient"] := fun _ _ _ _ _ _ us hl => match us, hl with | [_], _ => rfl
theorem bd27 : Bds "all_poles" s_all_poles ["one", "other"] := fun _ _ _ _ _ _ us hl => match us, hl with | [_, _], _ => rfl
theorem bd28 : Bds "row_of_pole" s_row_of_pole ["quotient", "c"] := fun _ _ _ _ _ _ us hl => match us, hl with | [_, _], _ => rfl
theorem bd29 : Bds "from_rows" s_from_rows ["whole", "poles", "rows"] := fun _ _ _ _ _ _ us hl => match us, hl with | [_, _, _], _ => rfl
theorem bd30 : Bds "quotient_sum" s_quotient_sum ["one", "other"] := fun _ _ _ _ _ _ us hl => match us, hl with | [_, _], _ => rfl
theorem bd31 : Bds "slope_row" s_slope_row ["row"] := fun _ _ _ _ _ _ us hl => match us, hl with | [_], _ => rfl
theorem bd32 : Bds "quotient_slope" s_quotient_slope ["quotient"] := fun _ _ _ _ _ _ us hl => match us, hl with | [_], _ => rfl
theorem bd33 : Bds "check_quotient" s_check_quotient ["thing"] := fun _ _ _ _ _ _ us hl => match us, hl with | [_], _ => rfl
theorem bd34 : Bds "plus" s_plus ["one", "other"] := fun _ _ _ _ _ _ us hl => match us, hl with | [_, _], _ => rfl
theorem bd35 : Bds "slope" s_slope ["quotient"] := fun _ _ _ _ _ _ us hl => match us, hl with | [_], _ => rfl
theorem bd36 : Bds "_law_deck" sDeck ["script", "seed"] := fun _ _ _ _ _ _ us hl => match us, hl with | [_, _], _ => rfl
theorem bd37 : Bds "_law_draw" sDraw ["deck", "many"] := fun _ _ _ _ _ _ us hl => match us, hl with | [_, _], _ => rfl
theorem bd38 : Bds "_law_great" sGreat ["deck", "many"] := fun _ _ _ _ _ _ us hl => match us, hl with | [_, _], _ => rfl
theorem bd39 : Bds "_law_pick" sPick ["deck", "some"] := fun _ _ _ _ _ _ us hl => match us, hl with | [_, _], _ => rfl
theorem bd40 : Bds "_law_near" sNear ["deck", "far"] := fun _ _ _ _ _ _ us hl => match us, hl with | [_, _], _ => rfl
theorem bd41 : Bds "_law_common" sCommon ["one", "other"] := fun _ _ _ _ _ _ us hl => match us, hl with | [_, _], _ => rfl
theorem bd42 : Bds "_law_number" s__law_number ["sums"] := fun _ _ _ _ _ _ us hl => match us, hl with | [_], _ => rfl
theorem bd43 : Bds "_law_sum" s__law_sum ["some"] := fun _ _ _ _ _ _ us hl => match us, hl with | [_], _ => rfl
theorem bd44 : Bds "_law_scaled" s__law_scaled ["number", "top", "bottom"] := fun _ _ _ _ _ _ us hl => match us, hl with | [_, _, _], _ => rfl
theorem bd45 : Bds "_law_roots" s__law_roots ["deck"] := fun _ _ _ _ _ _ us hl => match us, hl with | [_], _ => rfl
theorem bd46 : Bds "_law_drawn" s__law_drawn ["deck", "menu", "many", "size"] := fun _ _ _ _ _ _ us hl => match us, hl with | [_, _, _, _], _ => rfl
theorem bd47 : Bds "_law_numbers" s__law_numbers ["quotient"] := fun _ _ _ _ _ _ us hl => match us, hl with | [_], _ => rfl
theorem bd48 : Bds "_law_is_plain" s__law_is_plain ["quotient"] := fun _ _ _ _ _ _ us hl => match us, hl with | [_], _ => rfl
theorem bd49 : Bds "_law_is_within" s__law_is_within ["quotient"] := fun _ _ _ _ _ _ us hl => match us, hl with | [_], _ => rfl
theorem bd50 : Bds "_law_shed" s__law_shed ["row"] := fun _ _ _ _ _ _ us hl => match us, hl with | [_], _ => rfl
theorem bd51 : Bds "_law_told" s__law_told ["whole", "rows"] := fun _ _ _ _ _ _ us hl => match us, hl with | [_, _], _ => rfl
theorem bd52 : Bds "_law_pole" s__law_pole ["deck"] := fun _ _ _ _ _ _ us hl => match us, hl with | [_], _ => rfl
theorem bd53 : Bds "_law_quotient" s__law_quotient ["deck", "menu", "poles", "order", "degree", "size"] := fun _ _ _ _ _ _ us hl => match us, hl with | [_, _, _, _, _, _], _ => rfl
theorem bd54 : Bds "_law_poles" s__law_poles ["deck", "most"] := fun _ _ _ _ _ _ us hl => match us, hl with | [_, _], _ => rfl
theorem bd55 : Bds "_law_plus" s__law_plus ["one", "other"] := fun _ _ _ _ _ _ us hl => match us, hl with | [_, _], _ => rfl
theorem bd56 : Bds "_law_slope" s__law_slope ["quotient"] := fun _ _ _ _ _ _ us hl => match us, hl with | [_], _ => rfl
theorem bd57 : Bds "_law_pair" s__law_pair ["deck", "menu"] := fun _ _ _ _ _ _ us hl => match us, hl with | [_, _], _ => rfl
theorem bd58 : Bds "_law_is_slope_right" s__law_is_slope_right ["quotient"] := fun _ _ _ _ _ _ us hl => match us, hl with | [_], _ => rfl
theorem all_ok { fL : Addr} { fdL : FuncData} {t_TOO_LARGE : Tok} (sy : Sy base) (T : Bt mg)
    {cT pT : Addr} (hpT : pT = L2.tabOf K "_law_told") (TB : LamX.TabB base mg cT pT)
    (i_TOO_LARGE : mg "TOO_LARGE" = some (.int 1000000000000000 t_TOO_LARGE))
    (h0 : ∃ f fd, Df K mg "is_integer" sInt ["thing"] f fd)
    (h1 : ∃ f fd, Df K mg "is_tuple_of" sTupOf ["thing", "many"] f fd)
    (h2 : ∃ f fd, Df K mg "all_integers" sAllInt ["things"] f fd)
    (h3 : ∃ f fd, Df K mg "in_lowest_terms" sLowest ["top", "bottom"] f fd)
    (h4 : ∃ f fd, Df K mg "square_split" sSplit ["size"] f fd)
    (h5 : ∃ f fd, Df K mg "free_of_squares" sFree ["size"] f fd)
    (h6 : ∃ f fd, Df K mg "lowest" sLowest2 ["top", "bottom"] f fd)
    (h7 : ∃ f fd, Df K mg "fits_as_d" sFits ["d"] f fd)
    (h8 : ∃ f fd, Df K mg "is_triple" sTriple ["thing"] f fd)
    (h9 : ∃ f fd, Df K mg "is_number" sNumber ["thing"] f fd)
    (h10 : ∃ f fd, Df K mg "is_fraction" sFraction ["thing"] f fd)
    (h11 : ∃ f fd, Df K mg "is_pole" s_is_pole ["thing"] f fd)
    (h12 : ∃ f fd, Df K mg "comes_before" s_comes_before ["one", "other"] f fd)
    (h13 : ∃ f fd, Df K mg "is_polynomial" s_is_polynomial ["thing"] f fd)
    (h14 : ∃ f fd, Df K mg "is_tail" s_is_tail ["thing"] f fd)
    (h15 : ∃ f fd, Df K mg "are_tails" s_are_tails ["thing"] f fd)
    (h16 : ∃ f fd, Df K mg "is_quotient" s_is_quotient ["thing"] f fd)
    (h17 : ∃ f fd, Df K mg "is_equation" s_is_equation ["thing"] f fd)
    (h18 : ∃ f fd, Df K mg "add_term" s_add_term ["totals", "d", "top", "bottom"] f fd)
    (h19 : ∃ f fd, Df K mg "from_totals" s_from_totals ["totals"] f fd)
    (h20 : ∃ f fd, Df K mg "weighted_sum" s_weighted_sum ["parts"] f fd)
    (h21 : ∃ f fd, Df K mg "scaled" s_scaled ["number", "top", "bottom"] f fd)
    (h22 : ∃ f fd, Df K mg "number_sum" s_number_sum ["one", "other"] f fd)
    (h23 : ∃ f fd, Df K mg "trimmed" s_trimmed ["numbers"] f fd)
    (h24 : ∃ f fd, Df K mg "row_sum" s_row_sum ["one", "other"] f fd)
    (h25 : ∃ f fd, Df K mg "whole_slope" s_whole_slope ["whole"] f fd)
    (h26 : ∃ f fd, Df K mg "poles_of" s_poles_of ["quotient"] f fd)
    (h27 : ∃ f fd, Df K mg "all_poles" s_all_poles ["one", "other"] f fd)
    (h28 : ∃ f fd, Df K mg "row_of_pole" s_row_of_pole ["quotient", "c"] f fd)
    (h29 : ∃ f fd, Df K mg "from_rows" s_from_rows ["whole", "poles", "rows"] f fd)
    (h30 : ∃ f fd, Df K mg "quotient_sum" s_quotient_sum ["one", "other"] f fd)
    (h31 : ∃ f fd, Df K mg "slope_row" s_slope_row ["row"] f fd)
    (h32 : ∃ f fd, Df K mg "quotient_slope" s_quotient_slope ["quotient"] f fd)
    (h33 : ∃ f fd, Df K mg "check_quotient" s_check_quotient ["thing"] f fd)
    (h34 : ∃ f fd, Df K mg "plus" s_plus ["one", "other"] f fd)
    (h35 : ∃ f fd, Df K mg "slope" s_slope ["quotient"] f fd)
    (h36 : ∃ f fd, Df K mg "_law_deck" sDeck ["script", "seed"] f fd)
    (h37 : ∃ f fd, Df K mg "_law_draw" sDraw ["deck", "many"] f fd)
    (h38 : ∃ f fd, Df K mg "_law_great" sGreat ["deck", "many"] f fd)
    (h39 : ∃ f fd, Df K mg "_law_pick" sPick ["deck", "some"] f fd)
    (h40 : ∃ f fd, Df K mg "_law_near" sNear ["deck", "far"] f fd)
    (h41 : ∃ f fd, Df K mg "_law_common" sCommon ["one", "other"] f fd)
    (h42 : ∃ f fd, Df K mg "_law_number" s__law_number ["sums"] f fd)
    (h43 : ∃ f fd, Df K mg "_law_sum" s__law_sum ["some"] f fd)
    (h44 : ∃ f fd, Df K mg "_law_scaled" s__law_scaled ["number", "top", "bottom"] f fd)
    (h45 : ∃ f fd, Df K mg "_law_roots" s__law_roots ["deck"] f fd)
    (h46 : ∃ f fd, Df K mg "_law_drawn" s__law_drawn ["deck", "menu", "many", "size"] f fd)
    (h47 : ∃ f fd, Df K mg "_law_numbers" s__law_numbers ["quotient"] f fd)
    (h48 : ∃ f fd, Df K mg "_law_is_plain" s__law_is_plain ["quotient"] f fd)
    (h49 : ∃ f fd, Df K mg "_law_is_within" s__law_is_within ["quotient"] f fd)
    (h50 : ∃ f fd, Df K mg "_law_shed" s__law_shed ["row"] f fd)
    (h51 : ∃ f fd, Df K mg "_law_told" s__law_told ["whole", "rows"] f fd ∧ fd.code = .ref cT)
    (h52 : ∃ f fd, Df K mg "_law_pole" s__law_pole ["deck"] f fd)
    (h53 : ∃ f fd, Df K mg "_law_quotient" s__law_quotient ["deck", "menu", "poles", "order", "degree", "size"] f fd)
    (h54 : ∃ f fd, Df K mg "_law_poles" s__law_poles ["deck", "most"] f fd)
    (h55 : ∃ f fd, Df K mg "_law_plus" s__law_plus ["one", "other"] f fd)
    (h56 : ∃ f fd, Df K mg "_law_slope" s__law_slope ["quotient"] f fd)
    (h57 : ∃ f fd, Df K mg "_law_pair" s__law_pair ["deck", "menu"] f fd)
    (h58 : ∃ f fd, Df K mg "_law_is_slope_right" s__law_is_slope_right ["quotient"] f fd)
    (FL : Fun K "law" "law" s_law fL fdL) : FnG P w K mg base 13 fL fdL ["script"] (spLaw K) := by
  obtain ⟨f_is_integer, d_is_integer, D_is_integer⟩ := h0
  obtain ⟨f_is_tuple_of, d_is_tuple_of, D_is_tuple_of⟩ := h1
  obtain ⟨f_all_integers, d_all_integers, D_all_integers⟩ := h2
  obtain ⟨f_in_lowest_terms, d_in_lowest_terms, D_in_lowest_terms⟩ := h3
  obtain ⟨f_square_split, d_square_split, D_square_split⟩ := h4
  obtain ⟨f_free_of_squares, d_free_of_squares, D_free_of_squares⟩ := h5
  obtain ⟨f_lowest, d_lowest, D_lowest⟩ := h6
  obtain ⟨f_fits_as_d, d_fits_as_d, D_fits_as_d⟩ := h7
  obtain ⟨f_is_triple, d_is_triple, D_is_triple⟩ := h8
  obtain ⟨f_is_number, d_is_number, D_is_number⟩ := h9
  obtain ⟨f_is_fraction, d_is_fraction, D_is_fraction⟩ := h10
  obtain ⟨f_is_pole, d_is_pole, D_is_pole⟩ := h11
  obtain ⟨f_comes_before, d_comes_before, D_comes_before⟩ := h12
  obtain ⟨f_is_polynomial, d_is_polynomial, D_is_polynomial⟩ := h13
  obtain ⟨f_is_tail, d_is_tail, D_is_tail⟩ := h14
  obtain ⟨f_are_tails, d_are_tails, D_are_tails⟩ := h15
  obtain ⟨f_is_quotient, d_is_quotient, D_is_quotient⟩ := h16
  obtain ⟨f_is_equation, d_is_equation, D_is_equation⟩ := h17
  obtain ⟨f_add_term, d_add_term, D_add_term⟩ := h18
  obtain ⟨f_from_totals, d_from_totals, D_from_totals⟩ := h19
  obtain ⟨f_weighted_sum, d_weighted_sum, D_weighted_sum⟩ := h20
  obtain ⟨f_scaled, d_scaled, D_scaled⟩ := h21
  obtain ⟨f_number_sum, d_number_sum, D_number_sum⟩ := h22
  obtain ⟨f_trimmed, d_trimmed, D_trimmed⟩ := h23
  obtain ⟨f_row_sum, d_row_sum, D_row_sum⟩ := h24
  obtain ⟨f_whole_slope, d_whole_slope, D_whole_slope⟩ := h25
  obtain ⟨f_poles_of, d_poles_of, D_poles_of⟩ := h26
  obtain ⟨f_all_poles, d_all_poles, D_all_poles⟩ := h27
  obtain ⟨f_row_of_pole, d_row_of_pole, D_row_of_pole⟩ := h28
  obtain ⟨f_from_rows, d_from_rows, D_from_rows⟩ := h29
  obtain ⟨f_quotient_sum, d_quotient_sum, D_quotient_sum⟩ := h30
  obtain ⟨f_slope_row, d_slope_row, D_slope_row⟩ := h31
  obtain ⟨f_quotient_slope, d_quotient_slope, D_quotient_slope⟩ := h32
  obtain ⟨f_check_quotient, d_check_quotient, D_check_quotient⟩ := h33
  obtain ⟨f_plus, d_plus, D_plus⟩ := h34
  obtain ⟨f_slope, d_slope, D_slope⟩ := h35
  obtain ⟨f__law_deck, d__law_deck, D__law_deck⟩ := h36
  obtain ⟨f__law_draw, d__law_draw, D__law_draw⟩ := h37
  obtain ⟨f__law_great, d__law_great, D__law_great⟩ := h38
  obtain ⟨f__law_pick, d__law_pick, D__law_pick⟩ := h39
  obtain ⟨f__law_near, d__law_near, D__law_near⟩ := h40
  obtain ⟨f__law_common, d__law_common, D__law_common⟩ := h41
  obtain ⟨f__law_number, d__law_number, D__law_number⟩ := h42
  obtain ⟨f__law_sum, d__law_sum, D__law_sum⟩ := h43
  obtain ⟨f__law_scaled, d__law_scaled, D__law_scaled⟩ := h44
  obtain ⟨f__law_roots, d__law_roots, D__law_roots⟩ := h45
  obtain ⟨f__law_drawn, d__law_drawn, D__law_drawn⟩ := h46
  obtain ⟨f__law_numbers, d__law_numbers, D__law_numbers⟩ := h47
  obtain ⟨f__law_is_plain, d__law_is_plain, D__law_is_plain⟩ := h48
  obtain ⟨f__law_is_within, d__law_is_within, D__law_is_within⟩ := h49
  obtain ⟨f__law_shed, d__law_shed, D__law_shed⟩ := h50
  obtain ⟨f__law_told, d__law_told, D__law_told, hcd⟩ := h51
  obtain ⟨f__law_pole, d__law_pole, D__law_pole⟩ := h52
  obtain ⟨f__law_quotient, d__law_quotient, D__law_quotient⟩ := h53
  obtain ⟨f__law_poles, d__law_poles, D__law_poles⟩ := h54
  obtain ⟨f__law_plus, d__law_plus, D__law_plus⟩ := h55
  obtain ⟨f__law_slope, d__law_slope, D__law_slope⟩ := h56
  obtain ⟨f__law_pair, d__law_pair, D__law_pair⟩ := h57
  obtain ⟨f__law_is_slope_right, d__law_is_slope_right, D__law_is_slope_right⟩ := h58
  have p_is_integer := D_is_integer.kn (P := P) (w := w) (base := base) (ok_int D_is_integer.F T)
  have p_is_tuple_of := D_is_tuple_of.kn (P := P) (w := w) (base := base) (ok_tupOf D_is_tuple_of.F T)
  have p_all_integers := D_all_integers.kn (ok_allInt D_all_integers.F T p_is_integer)
  have p_in_lowest_terms := D_in_lowest_terms.kn (P := P) (w := w) (base := base) (ok_low D_in_lowest_terms.F T)
  have iS := D_square_split.kn (P := P) (w := w) (base := base) (ok_split D_square_split.F T)
  have iF := D_free_of_squares.kn (ok_free D_free_of_squares.F iS)
  have iX := D_fits_as_d.kn (ok_fits D_fits_as_d.F T i_TOO_LARGE iF)
  have iR := D_is_triple.kn (ok_triple D_is_triple.F p_is_tuple_of p_all_integers p_in_lowest_terms iX)
  have p_is_number := D_is_number.kn (ok_number D_is_number.F T iR)
  have p_is_fraction := D_is_fraction.kn (ok_fraction D_is_fraction.F T p_is_number)
  have p_lowest := D_lowest.kn (P := P) (w := w) (base := base) (ok_lowest D_lowest.F T)
  have p_is_pole := D_is_pole.kn (P := P) (w := w) (base := base) (ok_is_pole  D_is_pole.F T p_is_tuple_of p_all_integers p_in_lowest_terms)
  have p_comes_before := D_comes_before.kn (P := P) (w := w) (base := base) (ok_comes_before  D_comes_before.F T )
  have p_is_polynomial := D_is_polynomial.kn (P := P) (w := w) (base := base) (ok_is_polynomial  D_is_polynomial.F T p_is_number)
  have p_is_tail := D_is_tail.kn (P := P) (w := w) (base := base) (ok_is_tail  D_is_tail.F T p_is_tuple_of p_is_pole p_is_polynomial)
  have p_are_tails := D_are_tails.kn (P := P) (w := w) (base := base) (ok_are_tails  D_are_tails.F T p_is_tail p_comes_before)
  have p_is_quotient := D_is_quotient.kn (P := P) (w := w) (base := base) (ok_is_quotient  D_is_quotient.F T p_is_tuple_of p_is_polynomial p_are_tails)
  have p_is_equation := D_is_equation.kn (P := P) (w := w) (base := base) (ok_is_equation  D_is_equation.F T p_is_quotient p_is_fraction)
  have p_add_term := D_add_term.kn (P := P) (w := w) (base := base) (ok_add_term  D_add_term.F T )
  have p_from_totals := D_from_totals.kn (P := P) (w := w) (base := base) (ok_from_totals  D_from_totals.F T p_lowest)
  have p_weighted_sum := D_weighted_sum.kn (P := P) (w := w) (base := base) (ok_weighted_sum  D_weighted_sum.F T p_add_term p_from_totals)
  have p_scaled := D_scaled.kn (P := P) (w := w) (base := base) (ok_scaled  D_scaled.F T p_weighted_sum)
  have p_number_sum := D_number_sum.kn (P := P) (w := w) (base := base) (ok_number_sum  D_number_sum.F T p_weighted_sum)
  have p_trimmed := D_trimmed.kn (P := P) (w := w) (base := base) (ok_trimmed  D_trimmed.F T )
  have p_row_sum := D_row_sum.kn (P := P) (w := w) (base := base) (ok_row_sum  D_row_sum.F T p_number_sum p_trimmed)
  have p_whole_slope := D_whole_slope.kn (P := P) (w := w) (base := base) (ok_whole_slope  D_whole_slope.F T p_scaled)
  have p_poles_of := D_poles_of.kn (P := P) (w := w) (base := base) (ok_poles_of  D_poles_of.F T )
  have p_all_poles := D_all_poles.kn (P := P) (w := w) (base := base) (ok_all_poles  D_all_poles.F T p_poles_of p_comes_before)
  have p_row_of_pole := D_row_of_pole.kn (P := P) (w := w) (base := base) (ok_row_of_pole  D_row_of_pole.F T )
  have p_from_rows := D_from_rows.kn (P := P) (w := w) (base := base) (ok_from_rows  D_from_rows.F T )
  have p_quotient_sum := D_quotient_sum.kn (P := P) (w := w) (base := base) (ok_quotient_sum  D_quotient_sum.F T p_all_poles p_row_of_pole p_row_sum p_from_rows)
  have p_slope_row := D_slope_row.kn (P := P) (w := w) (base := base) (ok_slope_row  D_slope_row.F T p_scaled)
  have p_quotient_slope := D_quotient_slope.kn (P := P) (w := w) (base := base) (ok_quotient_slope  D_quotient_slope.F T p_whole_slope p_slope_row)
  have p_check_quotient := D_check_quotient.kn (P := P) (w := w) (base := base) (ok_check_quotient  D_check_quotient.F T p_is_quotient)
  have p_plus := D_plus.kn (P := P) (w := w) (base := base) (ok_plus  D_plus.F T p_check_quotient p_quotient_sum)
  have p_slope := D_slope.kn (P := P) (w := w) (base := base) (ok_slope  D_slope.F T p_check_quotient p_quotient_slope)
  have l_deck := D__law_deck.kn (P := P) (w := w) (base := base) (ok_deck D__law_deck.F T)
  have l_draw := D__law_draw.kn (P := P) (w := w) (base := base) (ok_draw D__law_draw.F T)
  have l_great := D__law_great.kn (ok_great D__law_great.F T l_draw)
  have l_pick := D__law_pick.kn (ok_pick D__law_pick.F T l_draw)
  have l_near := D__law_near.kn (ok_near D__law_near.F l_draw)
  have l_common := D__law_common.kn (P := P) (w := w) (base := base) (ok_common D__law_common.F T)
  have l_number := D__law_number.kn (P := P) (w := w) (base := base) (ok__law_number  D__law_number.F T l_common)
  have l_sum := D__law_sum.kn (P := P) (w := w) (base := base) (ok__law_sum  D__law_sum.F T l_number)
  have l_scaled := D__law_scaled.kn (P := P) (w := w) (base := base) (ok__law_scaled  D__law_scaled.F T l_number)
  have l_roots := D__law_roots.kn (P := P) (w := w) (base := base) (ok__law_roots  D__law_roots.F T l_pick)
  have l_drawn := D__law_drawn.kn (P := P) (w := w) (base := base) (ok__law_drawn  D__law_drawn.F T l_draw l_great l_pick l_number)
  have l_numbers := D__law_numbers.kn (P := P) (w := w) (base := base) (ok__law_numbers  D__law_numbers.F T )
  have l_is_plain := D__law_is_plain.kn (P := P) (w := w) (base := base) (ok__law_is_plain  D__law_is_plain.F T l_numbers)
  have l_is_within := D__law_is_within.kn (P := P) (w := w) (base := base) (ok__law_is_within  D__law_is_within.F T l_numbers)
  have l_shed := D__law_shed.kn (P := P) (w := w) (base := base) (ok__law_shed  D__law_shed.F T )
  have l_told := D__law_told.kn (P := P) (w := w) (base := base) (ok__law_told hcd TB D__law_told.F T l_shed)
  have l_pole := D__law_pole.kn (P := P) (w := w) (base := base) (ok__law_pole  D__law_pole.F T l_draw l_pick l_near l_common)
  have l_poles := D__law_poles.kn (P := P) (w := w) (base := base) (ok__law_poles  D__law_poles.F T l_draw l_pole)
  have l_quotient := D__law_quotient.kn (P := P) (w := w) (base := base) (ok__law_quotient  D__law_quotient.F T l_draw l_pick l_drawn l_told)
  have l_plus := D__law_plus.kn (P := P) (w := w) (base := base) (ok__law_plus  D__law_plus.F T l_sum l_told)
  have l_slope := D__law_slope.kn (P := P) (w := w) (base := base) (ok__law_slope  D__law_slope.F T l_scaled l_told)
  have l_pair := D__law_pair.kn (P := P) (w := w) (base := base) (ok__law_pair  D__law_pair.F T l_draw l_pick l_poles l_quotient l_scaled l_told)
  have nk_slope := bk_slope D_slope.F
  have l_is_slope_right : KnG P w K mg base 12 "_law_is_slope_right" ["quotient"] (spRight pT) f__law_is_slope_right d__law_is_slope_right := ⟨ok__law_is_slope_right sy nk_slope D__law_is_slope_right.F T p_slope l_slope, D__law_is_slope_right.m, D__law_is_slope_right.F.kp, D__law_is_slope_right.b⟩
  exact ok_law hpT sy (bk_plus D_plus.F) FL T l_deck l_roots l_pair l_plus l_is_slope_right l_is_within l_is_plain l_slope p_plus p_slope p_is_quotient p_is_equation

end
theorem all_mk {l : PySem.W.OpenLaw} {w : World} {K : PySem.W.Frag} {h : Heap} {mg : Str → Option Value} {fa fL : Addr} (X : K.In h) (G : h.Ns mainGlobals mg) (hfa : mg "law" = some (.ref fa))
    {odL anL : Option Addr} {slL : Array (Option Value)} {ocL kVL dcL pmL cdL ctL : Value} {t_TOO_LARGE : Tok}
    {fT cT pT : Addr} {ocT kVT dcT pmT ctT ccT : Value} {odT anT cdT : Option Addr} {slT csT : Array (Option Value)} {vsT : Array Value} (aT : PySem.W.nsIn K mainGlobals "_law_told" = some (some (.ref fT)))
    (lT : K.lookup fT = some ⟨ocT, odT, .func (PySem.W.fnOf "_law_told" "_law_told" (defArgs s__law_told) (defBody s__law_told) (defScope s__law_told) .none kVT dcT pmT anT (.ref cT) ctT), slT⟩) (qT : PySem.W.codeIn K (.ref cT) "_law_told" = true) (kT : PySem.W.keepIn K (.ref fT) = true)
    (lcT : K.lookup cT = some ⟨ccT, cdT, .fields vsT, csT⟩) (hvT : vsT[11]? = some (.ref pT)) (tn : K.lookup pT = none)
    (n0 : PySem.W.nsIn K mainGlobals "TOO_LARGE" = some (some (.int 1000000000000000 t_TOO_LARGE)))
    (h0 : ∃ f fd, Df K mg "is_integer" sInt ["thing"] f fd)
    (h1 : ∃ f fd, Df K mg "is_tuple_of" sTupOf ["thing", "many"] f fd)
    (h2 : ∃ f fd, Df K mg "all_integers" sAllInt ["things"] f fd)
    (h3 : ∃ f fd, Df K mg "in_lowest_terms" sLowest ["top", "bottom"] f fd)
    (h4 : ∃ f fd, Df K mg "square_split" sSplit ["size"] f fd)
    (h5 : ∃ f fd, Df K mg "free_of_squares" sFree ["size"] f fd)
    (h6 : ∃ f fd, Df K mg "lowest" sLowest2 ["top", "bottom"] f fd)
    (h7 : ∃ f fd, Df K mg "fits_as_d" sFits ["d"] f fd)
    (h8 : ∃ f fd, Df K mg "is_triple" sTriple ["thing"] f fd)
    (h9 : ∃ f fd, Df K mg "is_number" sNumber ["thing"] f fd)
    (h10 : ∃ f fd, Df K mg "is_fraction" sFraction ["thing"] f fd)
    (h11 : ∃ f fd, Df K mg "is_pole" s_is_pole ["thing"] f fd)
    (h12 : ∃ f fd, Df K mg "comes_before" s_comes_before ["one", "other"] f fd)
    (h13 : ∃ f fd, Df K mg "is_polynomial" s_is_polynomial ["thing"] f fd)
    (h14 : ∃ f fd, Df K mg "is_tail" s_is_tail ["thing"] f fd)
    (h15 : ∃ f fd, Df K mg "are_tails" s_are_tails ["thing"] f fd)
    (h16 : ∃ f fd, Df K mg "is_quotient" s_is_quotient ["thing"] f fd)
    (h17 : ∃ f fd, Df K mg "is_equation" s_is_equation ["thing"] f fd)
    (h18 : ∃ f fd, Df K mg "add_term" s_add_term ["totals", "d", "top", "bottom"] f fd)
    (h19 : ∃ f fd, Df K mg "from_totals" s_from_totals ["totals"] f fd)
    (h20 : ∃ f fd, Df K mg "weighted_sum" s_weighted_sum ["parts"] f fd)
    (h21 : ∃ f fd, Df K mg "scaled" s_scaled ["number", "top", "bottom"] f fd)
    (h22 : ∃ f fd, Df K mg "number_sum" s_number_sum ["one", "other"] f fd)
    (h23 : ∃ f fd, Df K mg "trimmed" s_trimmed ["numbers"] f fd)
    (h24 : ∃ f fd, Df K mg "row_sum" s_row_sum ["one", "other"] f fd)
    (h25 : ∃ f fd, Df K mg "whole_slope" s_whole_slope ["whole"] f fd)
    (h26 : ∃ f fd, Df K mg "poles_of" s_poles_of ["quotient"] f fd)
    (h27 : ∃ f fd, Df K mg "all_poles" s_all_poles ["one", "other"] f fd)
    (h28 : ∃ f fd, Df K mg "row_of_pole" s_row_of_pole ["quotient", "c"] f fd)
    (h29 : ∃ f fd, Df K mg "from_rows" s_from_rows ["whole", "poles", "rows"] f fd)
    (h30 : ∃ f fd, Df K mg "quotient_sum" s_quotient_sum ["one", "other"] f fd)
    (h31 : ∃ f fd, Df K mg "slope_row" s_slope_row ["row"] f fd)
    (h32 : ∃ f fd, Df K mg "quotient_slope" s_quotient_slope ["quotient"] f fd)
    (h33 : ∃ f fd, Df K mg "check_quotient" s_check_quotient ["thing"] f fd)
    (h34 : ∃ f fd, Df K mg "plus" s_plus ["one", "other"] f fd)
    (h35 : ∃ f fd, Df K mg "slope" s_slope ["quotient"] f fd)
    (h36 : ∃ f fd, Df K mg "_law_deck" sDeck ["script", "seed"] f fd)
    (h37 : ∃ f fd, Df K mg "_law_draw" sDraw ["deck", "many"] f fd)
    (h38 : ∃ f fd, Df K mg "_law_great" sGreat ["deck", "many"] f fd)
    (h39 : ∃ f fd, Df K mg "_law_pick" sPick ["deck", "some"] f fd)
    (h40 : ∃ f fd, Df K mg "_law_near" sNear ["deck", "far"] f fd)
    (h41 : ∃ f fd, Df K mg "_law_common" sCommon ["one", "other"] f fd)
    (h42 : ∃ f fd, Df K mg "_law_number" s__law_number ["sums"] f fd)
    (h43 : ∃ f fd, Df K mg "_law_sum" s__law_sum ["some"] f fd)
    (h44 : ∃ f fd, Df K mg "_law_scaled" s__law_scaled ["number", "top", "bottom"] f fd)
    (h45 : ∃ f fd, Df K mg "_law_roots" s__law_roots ["deck"] f fd)
    (h46 : ∃ f fd, Df K mg "_law_drawn" s__law_drawn ["deck", "menu", "many", "size"] f fd)
    (h47 : ∃ f fd, Df K mg "_law_numbers" s__law_numbers ["quotient"] f fd)
    (h48 : ∃ f fd, Df K mg "_law_is_plain" s__law_is_plain ["quotient"] f fd)
    (h49 : ∃ f fd, Df K mg "_law_is_within" s__law_is_within ["quotient"] f fd)
    (h50 : ∃ f fd, Df K mg "_law_shed" s__law_shed ["row"] f fd)
    (h52 : ∃ f fd, Df K mg "_law_pole" s__law_pole ["deck"] f fd)
    (h53 : ∃ f fd, Df K mg "_law_quotient" s__law_quotient ["deck", "menu", "poles", "order", "degree", "size"] f fd)
    (h54 : ∃ f fd, Df K mg "_law_poles" s__law_poles ["deck", "most"] f fd)
    (h55 : ∃ f fd, Df K mg "_law_plus" s__law_plus ["one", "other"] f fd)
    (h56 : ∃ f fd, Df K mg "_law_slope" s__law_slope ["quotient"] f fd)
    (h57 : ∃ f fd, Df K mg "_law_pair" s__law_pair ["deck", "menu"] f fd)
    (h58 : ∃ f fd, Df K mg "_law_is_slope_right" s__law_is_slope_right ["quotient"] f fd)
    (z0 : PySem.W.nsIn K mainGlobals "int" = some none)
    (z1 : PySem.W.nsIn K mainGlobals "bool" = some none)
    (z2 : PySem.W.nsIn K mainGlobals "tuple" = some none)
    (z3 : PySem.W.nsIn K mainGlobals "list" = some none)
    (z4 : PySem.W.nsIn K mainGlobals "isinstance" = some none)
    (z5 : PySem.W.nsIn K mainGlobals "len" = some none)
    (z6 : PySem.W.nsIn K mainGlobals "all" = some none)
    (z7 : PySem.W.nsIn K mainGlobals "range" = some none)
    (z8 : PySem.W.nsIn K mainGlobals "abs" = some none)
    (z9 : PySem.W.nsIn K mainGlobals "repr" = some none)
    (z10 : PySem.W.nsIn K mainGlobals "zip" = some none)
    (z11 : PySem.W.nsIn K mainGlobals "max" = some none)
    (z12 : PySem.W.nsIn K mainGlobals "sorted" = some none)
    (z13 : PySem.W.nsIn K mainGlobals "str" = some none)
    (z14 : PySem.W.nsIn K mainGlobals "gcd" = some (some (.builtin "math.gcd")))
    (z15 : PySem.W.nsIn K mainGlobals "dict" = some none)
    (z16 : PySem.W.nsIn K mainGlobals "enumerate" = some none)
    (z17 : PySem.W.nsIn K mainGlobals "isqrt" = some (some (.builtin "math.isqrt")))
    (aL : PySem.W.nsIn K mainGlobals "law" = some (some (.ref fL))) (lL : K.lookup fL = some ⟨ocL, odL, .func (PySem.W.fnOf "law" "law" (defArgs s_law) (defBody s_law) (defScope s_law) .none kVL dcL pmL anL cdL ctL), slL⟩) (cL : PySem.W.codeIn K cdL "law" = true) (kL : PySem.W.keepIn K (.ref fL) = true) :
    ∃ (fd : FuncData) (c : Addr), (PySem.W.tabIn K "_law_told" = some (c, L2.tabOf K "_law_told") ∧ K.lookup (L2.tabOf K "_law_told") = none) ∧ (∀ (s : Shared) (v : Value), BindsTo s fd ⟨[v], []⟩ [("script", v)]) ∧ ∀ base : Heap, K.In base → base.Ns mainGlobals mg → Sy base → LamX.TabB base mg c (L2.tabOf K "_law_told") → FnG l.prog w K mg base 13 fa fd ["script"] (spLaw K) := by
  have tt : PySem.W.tabIn K "_law_told" = some (cT, pT) := tab_mk aT lT rfl lcT hvT
  have h51 := df_mkT (st := s__law_told) X G aT lT qT kT bd51 rfl
  have tO : L2.tabOf K "_law_told" = pT := by unfold L2.tabOf; rw [tt]; rfl
  have e := hfa.symm.trans (PySem.W.mg_of X G aL)
  cases e
  have no : ∀ {x : Str}, PySem.W.nsIn K mainGlobals x = some none → mg x = none := fun z => PySem.W.mg_none_of X G z
  have T : Bt mg := ⟨no z0, no z1, no z2, no z3, no z4, no z5, no z6, no z7, no z8, no z9, no z10, no z11, no z12, no z13, PySem.W.mg_of X G z14, no z15, no z16, PySem.W.mg_of X G z17⟩
  rw [tO]
  exact ⟨_, cT, ⟨tt, tn⟩, fun s v => .of_eq rfl, fun base _ _ sy TB => all_ok sy T tO.symm TB (PySem.W.mg_of X G n0) h0 h1 h2 h3 h4 h5 h6 h7 h8 h9 h10 h11 h12 h13 h14 h15 h16 h17 h18 h19 h20 h21 h22 h23 h24 h25 h26 h27 h28 h29 h30 h31 h32 h33 h34 h35 h36 h37 h38 h39 h40 h41 h42 h43 h44 h45 h46 h47 h48 h49 h50 h51 h52 h53 h54 h55 h56 h57 h58 (fun_mk (st := s_law) lL cL kL)⟩
end N3

open PySem PySem.W PyProof.Rows
set_option maxHeartbeats 0 in
theorem PySem.Challenge.cw_twiceslope_k11_sums_and_slopes_of_quotie_holds : PySem.Challenge.rw_twiceslope_k11_sums_and_slopes_of_quotie.Holds := by
  w_on; o_law; k_head; (case hw => w_witness2)
  k_fill
  refine L2.walk_idleT (l := PySem.Challenge.rw_twiceslope_k11_sums_and_slopes_of_quotie) (n := 63) (k := 13) (x := "script") (sp := fun w => N3.spLaw _) "_law_told" rfl (by decide) rfl (by decide +kernel) ⟨rfl, by decide, by decide⟩ (fun w h Y => PySem.W.km_in_of Y) (by decide +kernel) ?F (fun _ _ a ns hl hT hS => ⟨a, ns, rfl, hT, hS, hl, fun _ => rfl⟩)
  case F =>
    intro w mg fa h KX G hmg
    refine' N3.all_mk KX G hmg ?aT ?lT ?qT ?kT ?lcT ?hvT ?tn ?n0 ?d0 ?d1 ?d2 ?d3 ?d4 ?d5 ?d6 ?d7 ?d8 ?d9 ?d10 ?d11 ?d12 ?d13 ?d14 ?d15 ?d16 ?d17 ?d18 ?d19 ?d20 ?d21 ?d22 ?d23 ?d24 ?d25 ?d26 ?d27 ?d28 ?d29 ?d30 ?d31 ?d32 ?d33 ?d34 ?d35 ?d36 ?d37 ?d38 ?d39 ?d40 ?d41 ?d42 ?d43 ?d44 ?d45 ?d46 ?d47 ?d48 ?d49 ?d50 ?d52 ?d53 ?d54 ?d55 ?d56 ?d57 ?d58 ?z0 ?z1 ?z2 ?z3 ?z4 ?z5 ?z6 ?z7 ?z8 ?z9 ?z10 ?z11 ?z12 ?z13 ?z14 ?z15 ?z16 ?z17 ?aL ?lL ?cL ?kL
    (case aT => k_is)
    (case lT => k_is)
    (case qT => k_is)
    (case kT => k_is)
    (case lcT => k_is)
    (case hvT => first | rfl | kernel_rfl | with_unfolding_all rfl | decide)
    (case tn => first | rfl | kernel_rfl | with_unfolding_all rfl | decide)
    (case n0 => k_is)
    case d0 => (refine' N3.df_mk (st := N3.sInt) KX G ?v_a ?v_l ?v_c ?v_k N3.bd0; (case v_a => k_is); (case v_l => k_is); (case v_c => k_is); (case v_k => k_is))
    case d1 => (refine' N3.df_mk (st := N3.sTupOf) KX G ?v_a ?v_l ?v_c ?v_k N3.bd1; (case v_a => k_is); (case v_l => k_is); (case v_c => k_is); (case v_k => k_is))
    case d2 => (refine' N3.df_mk (st := N3.sAllInt) KX G ?v_a ?v_l ?v_c ?v_k N3.bd2; (case v_a => k_is); (case v_l => k_is); (case v_c => k_is); (case v_k => k_is))
    case d3 => (refine' N3.df_mk (st := N3.sLowest) KX G ?v_a ?v_l ?v_c ?v_k N3.bd3; (case v_a => k_is); (case v_l => k_is); (case v_c => k_is); (case v_k => k_is))
    case d4 => (refine' N3.df_mk (st := N3.sSplit) KX G ?v_a ?v_l ?v_c ?v_k N3.bd4; (case v_a => k_is); (case v_l => k_is); (case v_c => k_is); (case v_k => k_is))
    case d5 => (refine' N3.df_mk (st := N3.sFree) KX G ?v_a ?v_l ?v_c ?v_k N3.bd5; (case v_a => k_is); (case v_l => k_is); (case v_c => k_is); (case v_k => k_is))
    case d6 => (refine' N3.df_mk (st := N3.sLowest2) KX G ?v_a ?v_l ?v_c ?v_k N3.bd6; (case v_a => k_is); (case v_l => k_is); (case v_c => k_is); (case v_k => k_is))
    case d7 => (refine' N3.df_mk (st := N3.sFits) KX G ?v_a ?v_l ?v_c ?v_k N3.bd7; (case v_a => k_is); (case v_l => k_is); (case v_c => k_is); (case v_k => k_is))
    case d8 => (refine' N3.df_mk (st := N3.sTriple) KX G ?v_a ?v_l ?v_c ?v_k N3.bd8; (case v_a => k_is); (case v_l => k_is); (case v_c => k_is); (case v_k => k_is))
    case d9 => (refine' N3.df_mk (st := N3.sNumber) KX G ?v_a ?v_l ?v_c ?v_k N3.bd9; (case v_a => k_is); (case v_l => k_is); (case v_c => k_is); (case v_k => k_is))
    case d10 => (refine' N3.df_mk (st := N3.sFraction) KX G ?v_a ?v_l ?v_c ?v_k N3.bd10; (case v_a => k_is); (case v_l => k_is); (case v_c => k_is); (case v_k => k_is))
    case d11 => (refine' N3.df_mk (st := N3.s_is_pole) KX G ?v_a ?v_l ?v_c ?v_k N3.bd11; (case v_a => k_is); (case v_l => k_is); (case v_c => k_is); (case v_k => k_is))
    case d12 => (refine' N3.df_mk (st := N3.s_comes_before) KX G ?v_a ?v_l ?v_c ?v_k N3.bd12; (case v_a => k_is); (case v_l => k_is); (case v_c => k_is); (case v_k => k_is))
    case d13 => (refine' N3.df_mk (st := N3.s_is_polynomial) KX G ?v_a ?v_l ?v_c ?v_k N3.bd13; (case v_a => k_is); (case v_l => k_is); (case v_c => k_is); (case v_k => k_is))
    case d14 => (refine' N3.df_mk (st := N3.s_is_tail) KX G ?v_a ?v_l ?v_c ?v_k N3.bd14; (case v_a => k_is); (case v_l => k_is); (case v_c => k_is); (case v_k => k_is))
    case d15 => (refine' N3.df_mk (st := N3.s_are_tails) KX G ?v_a ?v_l ?v_c ?v_k N3.bd15; (case v_a => k_is); (case v_l => k_is); (case v_c => k_is); (case v_k => k_is))
    case d16 => (refine' N3.df_mk (st := N3.s_is_quotient) KX G ?v_a ?v_l ?v_c ?v_k N3.bd16; (case v_a => k_is); (case v_l => k_is); (case v_c => k_is); (case v_k => k_is))
    case d17 => (refine' N3.df_mk (st := N3.s_is_equation) KX G ?v_a ?v_l ?v_c ?v_k N3.bd17; (case v_a => k_is); (case v_l => k_is); (case v_c => k_is); (case v_k => k_is))
    case d18 => (refine' N3.df_mk (st := N3.s_add_term) KX G ?v_a ?v_l ?v_c ?v_k N3.bd18; (case v_a => k_is); (case v_l => k_is); (case v_c => k_is); (case v_k => k_is))
    case d19 => (refine' N3.df_mk (st := N3.s_from_totals) KX G ?v_a ?v_l ?v_c ?v_k N3.bd19; (case v_a => k_is); (case v_l => k_is); (case v_c => k_is); (case v_k => k_is))
    case d20 => (refine' N3.df_mk (st := N3.s_weighted_sum) KX G ?v_a ?v_l ?v_c ?v_k N3.bd20; (case v_a => k_is); (case v_l => k_is); (case v_c => k_is); (case v_k => k_is))
    case d21 => (refine' N3.df_mk (st := N3.s_scaled) KX G ?v_a ?v_l ?v_c ?v_k N3.bd21; (case v_a => k_is); (case v_l => k_is); (case v_c => k_is); (case v_k => k_is))
    case d22 => (refine' N3.df_mk (st := N3.s_number_sum) KX G ?v_a ?v_l ?v_c ?v_k N3.bd22; (case v_a => k_is); (case v_l => k_is); (case v_c => k_is); (case v_k => k_is))
    case d23 => (refine' N3.df_mk (st := N3.s_trimmed) KX G ?v_a ?v_l ?v_c ?v_k N3.bd23; (case v_a => k_is); (case v_l => k_is); (case v_c => k_is); (case v_k => k_is))
    case d24 => (refine' N3.df_mk (st := N3.s_row_sum) KX G ?v_a ?v_l ?v_c ?v_k N3.bd24; (case v_a => k_is); (case v_l => k_is); (case v_c => k_is); (case v_k => k_is))
    case d25 => (refine' N3.df_mk (st := N3.s_whole_slope) KX G ?v_a ?v_l ?v_c ?v_k N3.bd25; (case v_a => k_is); (case v_l => k_is); (case v_c => k_is); (case v_k => k_is))
    case d26 => (refine' N3.df_mk (st := N3.s_poles_of) KX G ?v_a ?v_l ?v_c ?v_k N3.bd26; (case v_a => k_is); (case v_l => k_is); (case v_c => k_is); (case v_k => k_is))
    case d27 => (refine' N3.df_mk (st := N3.s_all_poles) KX G ?v_a ?v_l ?v_c ?v_k N3.bd27; (case v_a => k_is); (case v_l => k_is); (case v_c => k_is); (case v_k => k_is))
    case d28 => (refine' N3.df_mk (st := N3.s_row_of_pole) KX G ?v_a ?v_l ?v_c ?v_k N3.bd28; (case v_a => k_is); (case v_l => k_is); (case v_c => k_is); (case v_k => k_is))
    case d29 => (refine' N3.df_mk (st := N3.s_from_rows) KX G ?v_a ?v_l ?v_c ?v_k N3.bd29; (case v_a => k_is); (case v_l => k_is); (case v_c => k_is); (case v_k => k_is))
    case d30 => (refine' N3.df_mk (st := N3.s_quotient_sum) KX G ?v_a ?v_l ?v_c ?v_k N3.bd30; (case v_a => k_is); (case v_l => k_is); (case v_c => k_is); (case v_k => k_is))
    case d31 => (refine' N3.df_mk (st := N3.s_slope_row) KX G ?v_a ?v_l ?v_c ?v_k N3.bd31; (case v_a => k_is); (case v_l => k_is); (case v_c => k_is); (case v_k => k_is))
    case d32 => (refine' N3.df_mk (st := N3.s_quotient_slope) KX G ?v_a ?v_l ?v_c ?v_k N3.bd32; (case v_a => k_is); (case v_l => k_is); (case v_c => k_is); (case v_k => k_is))
    case d33 => (refine' N3.df_mk (st := N3.s_check_quotient) KX G ?v_a ?v_l ?v_c ?v_k N3.bd33; (case v_a => k_is); (case v_l => k_is); (case v_c => k_is); (case v_k => k_is))
    case d34 => (refine' N3.df_mk (st := N3.s_plus) KX G ?v_a ?v_l ?v_c ?v_k N3.bd34; (case v_a => k_is); (case v_l => k_is); (case v_c => k_is); (case v_k => k_is))
    case d35 => (refine' N3.df_mk (st := N3.s_slope) KX G ?v_a ?v_l ?v_c ?v_k N3.bd35; (case v_a => k_is); (case v_l => k_is); (case v_c => k_is); (case v_k => k_is))
    case d36 => (refine' N3.df_mk (st := N3.sDeck) KX G ?v_a ?v_l ?v_c ?v_k N3.bd36; (case v_a => k_is); (case v_l => k_is); (case v_c => k_is); (case v_k => k_is))
    case d37 => (refine' N3.df_mk (st := N3.sDraw) KX G ?v_a ?v_l ?v_c ?v_k N3.bd37; (case v_a => k_is); (case v_l => k_is); (case v_c => k_is); (case v_k => k_is))
    case d38 => (refine' N3.df_mk (st := N3.sGreat) KX G ?v_a ?v_l ?v_c ?v_k N3.bd38; (case v_a => k_is); (case v_l => k_is); (case v_c => k_is); (case v_k => k_is))
    case d39 => (refine' N3.df_mk (st := N3.sPick) KX G ?v_a ?v_l ?v_c ?v_k N3.bd39; (case v_a => k_is); (case v_l => k_is); (case v_c => k_is); (case v_k => k_is))
    case d40 => (refine' N3.df_mk (st := N3.sNear) KX G ?v_a ?v_l ?v_c ?v_k N3.bd40; (case v_a => k_is); (case v_l => k_is); (case v_c => k_is); (case v_k => k_is))
    case d41 => (refine' N3.df_mk (st := N3.sCommon) KX G ?v_a ?v_l ?v_c ?v_k N3.bd41; (case v_a => k_is); (case v_l => k_is); (case v_c => k_is); (case v_k => k_is))
    case d42 => (refine' N3.df_mk (st := N3.s__law_number) KX G ?v_a ?v_l ?v_c ?v_k N3.bd42; (case v_a => k_is); (case v_l => k_is); (case v_c => k_is); (case v_k => k_is))
    case d43 => (refine' N3.df_mk (st := N3.s__law_sum) KX G ?v_a ?v_l ?v_c ?v_k N3.bd43; (case v_a => k_is); (case v_l => k_is); (case v_c => k_is); (case v_k => k_is))
    case d44 => (refine' N3.df_mk (st := N3.s__law_scaled) KX G ?v_a ?v_l ?v_c ?v_k N3.bd44; (case v_a => k_is); (case v_l => k_is); (case v_c => k_is); (case v_k => k_is))
    case d45 => (refine' N3.df_mk (st := N3.s__law_roots) KX G ?v_a ?v_l ?v_c ?v_k N3.bd45; (case v_a => k_is); (case v_l => k_is); (case v_c => k_is); (case v_k => k_is))
    case d46 => (refine' N3.df_mk (st := N3.s__law_drawn) KX G ?v_a ?v_l ?v_c ?v_k N3.bd46; (case v_a => k_is); (case v_l => k_is); (case v_c => k_is); (case v_k => k_is))
    case d47 => (refine' N3.df_mk (st := N3.s__law_numbers) KX G ?v_a ?v_l ?v_c ?v_k N3.bd47; (case v_a => k_is); (case v_l => k_is); (case v_c => k_is); (case v_k => k_is))
    case d48 => (refine' N3.df_mk (st := N3.s__law_is_plain) KX G ?v_a ?v_l ?v_c ?v_k N3.bd48; (case v_a => k_is); (case v_l => k_is); (case v_c => k_is); (case v_k => k_is))
    case d49 => (refine' N3.df_mk (st := N3.s__law_is_within) KX G ?v_a ?v_l ?v_c ?v_k N3.bd49; (case v_a => k_is); (case v_l => k_is); (case v_c => k_is); (case v_k => k_is))
    case d50 => (refine' N3.df_mk (st := N3.s__law_shed) KX G ?v_a ?v_l ?v_c ?v_k N3.bd50; (case v_a => k_is); (case v_l => k_is); (case v_c => k_is); (case v_k => k_is))
    case d52 => (refine' N3.df_mk (st := N3.s__law_pole) KX G ?v_a ?v_l ?v_c ?v_k N3.bd52; (case v_a => k_is); (case v_l => k_is); (case v_c => k_is); (case v_k => k_is))
    case d53 => (refine' N3.df_mk (st := N3.s__law_quotient) KX G ?v_a ?v_l ?v_c ?v_k N3.bd53; (case v_a => k_is); (case v_l => k_is); (case v_c => k_is); (case v_k => k_is))
    case d54 => (refine' N3.df_mk (st := N3.s__law_poles) KX G ?v_a ?v_l ?v_c ?v_k N3.bd54; (case v_a => k_is); (case v_l => k_is); (case v_c => k_is); (case v_k => k_is))
    case d55 => (refine' N3.df_mk (st := N3.s__law_plus) KX G ?v_a ?v_l ?v_c ?v_k N3.bd55; (case v_a => k_is); (case v_l => k_is); (case v_c => k_is); (case v_k => k_is))
    case d56 => (refine' N3.df_mk (st := N3.s__law_slope) KX G ?v_a ?v_l ?v_c ?v_k N3.bd56; (case v_a => k_is); (case v_l => k_is); (case v_c => k_is); (case v_k => k_is))
    case d57 => (refine' N3.df_mk (st := N3.s__law_pair) KX G ?v_a ?v_l ?v_c ?v_k N3.bd57; (case v_a => k_is); (case v_l => k_is); (case v_c => k_is); (case v_k => k_is))
    case d58 => (refine' N3.df_mk (st := N3.s__law_is_slope_right) KX G ?v_a ?v_l ?v_c ?v_k N3.bd58; (case v_a => k_is); (case v_l => k_is); (case v_c => k_is); (case v_k => k_is))
    (case z0 => k_is)
    (case z1 => k_is)
    (case z2 => k_is)
    (case z3 => k_is)
    (case z4 => k_is)
    (case z5 => k_is)
    (case z6 => k_is)
    (case z7 => k_is)
    (case z8 => k_is)
    (case z9 => k_is)
    (case z10 => k_is)
    (case z11 => k_is)
    (case z12 => k_is)
    (case z13 => k_is)
    (case z14 => k_is)
    (case z15 => k_is)
    (case z16 => k_is)
    (case z17 => k_is)
    (case aL => k_is)
    (case lL => k_is)
    (case cL => k_is)
    (case kL => k_is)
