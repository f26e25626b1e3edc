import PyProof.Rows.All
import Wide.All
import OpenK.AllK
import Wide.FinOn
import HandS.ForMost
import HandS.ForExc
import HandS.ExcSuper
import HandS.ClsMeth
import KE.KExcIs
import HandS.ExcInit
import HandS.IsInst
import HandS.HotCalls
import HandS.Defaults
import HandS.Iter
import KE.GoesEnum
import HandS.Style
import HandS.Wide
import PySem.Challenge.RW_twiceslope_k00_errors_by_position_and_by
import HandS.Codes
import HandS.Walk
set_option Elab.async false
set_option linter.all false
set_option maxRecDepth 100000
set_option maxHeartbeats 4000000
namespace PySem
namespace Sl
open PySem.W PySem.Calls PyProof.Rows PySem.HandSPX
open Builtin Builtin.ObjectAttr
/-- own classes, then Exception's line -/
abbrev xTail : List Value := [.type "Exception", .type "BaseException", .type "object"]
def refsX : List Value → Bool
  | .ref _ :: r => refsX r
  | l => l == xTail
theorem refsX_two (a b : Addr) : refsX (.ref a :: .ref b :: xTail) = true := by
  show (xTail == xTail) = true
  decide +kernel
/-- the class at C stands over SlopeError at S -/
structure SubCls (K : Frag) (C S : Addr) : Prop where
  cls : ∃ nm q N bs sn sub ab col dd k0 k1 k2 k3 k5, K.lookup C = some (excClassObj nm q C N bs (.ref S :: xTail) true sn sub ab col dd k0 k1 k2 k3 k5 "Exception.__new__")
theorem pass_sub (self : Value) (C S : Addr) : refuseLoop self "__setattr__" (.ref C :: .ref S :: xTail) = pure () := by
  rw [refuseLoop_ref, refuseLoop_ref]
  exact F.store_Exception.passes self
theorem has_sub (C S : Addr) (T : String) (hT : xTail.contains (.type T) = true) : (Value.ref C :: .ref S :: xTail).contains (.type T) = true := by
  rw [List.contains_cons, List.contains_cons, hT]
  simp
theorem tail_sub (S : Addr) (T : String) : (Value.ref S :: xTail).contains (.type T) = xTail.contains (.type T) := by
  rw [List.contains_cons]
  rfl
end Sl
end PySem
namespace PySem
namespace Sl
open PySem.W PySem.Calls PyProof.Rows PySem.HandSPX
open Builtin Builtin.ObjectAttr
section
variable {prog : Program} {w : World} {A : Around} {E : Value → Shared → Prop} {R : Result → Shared → Prop} {hp : Heap} {g : Array GenState} {d : Drawn} {t : Nat} {os : OsState}
/-- self.name = v on a fresh exception of such a class -/
theorem osa_sub {K : W.Frag} {name : Str} {tk : Tok} {v : Value} {x C S : Addr} {fv : Array Value} {cd : ClassData}
    (X : K.In hp) (hx : hp.get? x = some { cls := .ref C, data := .fields fv }) (hcd : W.clsIn K C = some cd) (hm : cd.mro = .ref C :: .ref S :: xTail) (hh : cd.hasDict = true) (ha : W.findIn K (.ref C) name = some none)
    (hq : ∀ h' tk' dx, (∀ b o, b ≠ x → hp.get? b = some o → h'.get? b = some o) → hp.objs.size ≤ dx → dx ≠ x →
      h'.get? x = some { cls := .ref C, dict := some dx, data := .fields fv } → h'.Ns1 dx (fun y => if y = name then some v else none) → R (.ok (.ret .none)) ⟨h', g, d, tk', os⟩) :
    codeAny (model prog w) A (.call (.builtin "object.__setattr__") ⟨[.ref x, .str name tk, v], []⟩) R ⟨hp, g, d, t, os⟩ := by
  have I : W.InstAt hp x { cls := .ref C, data := .fields fv } C none := ⟨hx, rfl, rfl, trivial⟩
  have far : x ≠ hp.objs.size := Nat.ne_of_lt (Heap.lt_size hx)
  have mo : W.mroIn K C (.type "object") = some true := by
    unfold W.mroIn
    rw [hcd, Option.bind_some, hm, if_neg (show ¬ (List.isEmpty (Value.ref C :: .ref S :: xTail) = true) from Bool.false_ne_true), has_sub C S "object" (by decide +kernel)]
  have lm : W.Looks (model prog w) hp (isInstance (.ref x) (.type "object")) true := I.type.andThen (W.looks_mroIn X mo)
  have lr : W.Looks (model prog w) hp (mroOf (.ref C)) cd.mro := (W.looks_clsIn X hcd).andThen .now
  have lt : W.Looks (model prog w) hp (storeTaker? none) none := .now
  have lc : W.Looks (model prog w) hp (classData C) cd := W.looks_clsIn X hcd
  have stops : refuseLoop (.ref x) "__setattr__" cd.mro = pure () := by rw [hm]; exact pass_sub _ C S
  refine codeAny_call_builtin F.store_object.slot.plain F.store_object.entry
    (@W.check_slot (model prog w) _ _ ⟨hp, g, d, t, os⟩ "object.__setattr__" "object" "__setattr__" (.ref x) [.str name tk, v] [] _ F.store_object.kind F.store_object.split lm (F.store_object.args (.ref x) (.str name tk) v) ?_)
  rw [W.osa_eq, refuse_eq]
  refine wpAny_bind (wpAny_bind (I.type.at (wpAny_bind (lr.at ?_)))); rw [stops]
  refine wpAny_pure (wpAny_bind (I.type.at (wpAny_bind ((W.looks_findIn X ha).at (wpAny_bind (lt.at ?_))))))
  show wpAny _ _ (storeInOwnDict (.ref x) (.ref C) (.str name tk) name v false) _ _ _
  obtain ⟨nm, bs, mro, ns, qn, hd, sn, sb, ab, col, del⟩ := cd
  dsimp only at hh; subst hh
  unfold storeInOwnDict ownDictForStores
  repeat (first
    | with_reducible refine HandSPX.store_in_new ?_ ?_
    | with_reducible refine wpAny_loadPart_at hx ?_
    | with_reducible refine lc.at ?_
    | wp_step)
  · exact ⟨_, #[], _, (Heap.get?_update_ne _ _ _ _ far.symm).trans (Heap.get?_push_at rfl rfl), rfl, fun e he => absurd he (by simp), fun _ => rfl⟩
  · intro h' tk' hn' hs
    have hx1 : (hp.push { cls := .type "dict", data := .dict #[] }).get? x = some { cls := .ref C, data := .fields fv } := Heap.get?_push_of_some _ hx
    refine hq h' tk' hp.objs.size (fun b o hb ho => ?_) (Nat.le_refl _) far.symm ?_ hn'
    · exact (hs.2 b (Nat.ne_of_lt (Heap.lt_size ho))).trans ((Heap.get?_update_ne _ _ _ _ hb).trans (Heap.get?_push_of_some _ ho))
    · exact (hs.2 x far).trans (Heap.get?_update_self _ hx1 rfl)
end
end Sl
end PySem

namespace PySem
namespace Sl
open PySem.W PySem.Calls PyProof.Rows PySem.HandSPX
open Builtin Builtin.ObjectAttr
section
variable {M : Model} {A : Around} {E : Value → Shared → Prop} {h : Heap} {g : Array GenState} {d : Drawn} {t : Nat} {os : OsState}
variable {nm q : Str} {C N : Addr} {bs bm : List Value} {hdct : Bool} {sn : List Str} {sub : List Value} {ab : Bool} {col : Option Bool} {dd : Option Addr} {k0 k1 k2 k3 k5 : Option Value}
abbrev xb := F.excBase_Exception
theorem check_kw (hT : ∀ T : String, bm.contains (.type T) = xTail.contains (.type T)) {rest : List Value} {kw : List (Str × Value)} {Q : Unit → Shared → Prop}
    (hC : h.get? C = some (excClassObj nm q C N bs bm hdct sn sub ab col dd k0 k1 k2 k3 k5 "Exception.__new__")) (hq : Q () ⟨h, g, d, t, os⟩) :
    wpAny M A (checkBuiltinCall "Exception.__new__" ⟨.ref C :: rest, kw⟩) Q E ⟨h, g, d, t, os⟩ := by
  have hcont : (Value.ref C :: bm).contains (.type "Exception") = true := by rw [List.contains_cons, hT, xb.hasB, Bool.or_true]
  have hstar := xb.noStar
  simp only [checkBuiltinCall, xb.newKind, xb.newSplit, xb.newRow]
  repeat (first
    | refine wpAny_loadPart_at hC ?_
    | (refine wpAny_isSubtype_exc hC ?_; rw [hcont])
    | refine wpAny_staticBase_exc hC ?_
    | refine wpAny_madeBy_exc hC ?_
    | simp only [bne_self_eq_false, Bool.false_eq_true, if_false]
    | wp_step)
  exact hq
end
section
variable {prog : Program} {w : World} {A : Around} {E : Value → Shared → Prop} {R : Result → Shared → Prop} {h : Heap} {g : Array GenState} {d : Drawn} {t : Nat} {os : OsState}
variable {nm q : Str} {C N : Addr} {bs bm : List Value} {hdct : Bool} {sn : List Str} {sub : List Value} {ab : Bool} {col : Option Bool} {dd : Option Addr} {k0 k1 k2 k3 k5 : Option Value}
theorem new_kw (hT : ∀ T : String, bm.contains (.type T) = xTail.contains (.type T)) {rest : List Value} {kw : List (Str × Value)}
    (hC : h.get? C = some (excClassObj nm q C N bs bm hdct sn sub ab col dd k0 k1 k2 k3 k5 "Exception.__new__"))
    (hq : R (.ok (.ret (.ref (h.objs.size + 1)))) ⟨(h.push (W.kdv_tup rest)).push (excO C h.objs.size), g, d, t, os⟩) (hrest : rest.length ≤ sizeLine) :
    codeAny (model prog w) A (.builtin "Exception.__new__" ⟨.ref C :: rest, kw⟩) R ⟨h, g, d, t, os⟩ := by
  have hends := xb.ends
  have hcB : (Value.ref C :: bm).contains (.type "Exception") = true := by rw [List.contains_cons, hT, xb.hasB, Bool.or_true]
  have hcA : (Value.ref C :: bm).contains (.type "AttributeError") = false := by rw [List.contains_cons, hT, xb.noAttr]; rfl
  have hcN : (Value.ref C :: bm).contains (.type "NameError") = false := by rw [List.contains_cons, hT, xb.noName]; rfl
  refine codeAny_builtinAt xb.entry ?_
  unfold Builtin.«BaseException.__new__»
  refine wpAt_bind ?_
  show wpAt _ _ _ (stack >>= _) _ _ _
  refine wpAt_bind (wpAt_stack fun p below => wpAt_of_wpAny ?_)
  wp_walk
  refine wpAt_of_wpAny ?_
  rw [xb.owner]
  repeat (first
    | with_reducible refine wpAny_madeHere_exc xb.canon hC ?_
    | with_reducible refine wpAny_loadPart_at hC ?_
    | (with_reducible refine wpAny_isSubtype_exc hC ?_; first | rw [hcB] | rw [hcA] | rw [hcN])
    | wp_step)
  show R _ _
  rw [Heap.size_push]
  exact hq
theorem call_kw (hT : ∀ T : String, bm.contains (.type T) = xTail.contains (.type T)) {rest : List Value} {kw : List (Str × Value)} {fI : Addr}
    (hC : h.get? C = some (excClassObj nm q C N bs bm hdct sn sub ab col dd k0 k1 k2 k3 k5 "Exception.__new__"))
    (hi : W.Looks (model prog w) h (typeLookup (.ref C) "__init__") (some (.ref fI))) (hb : ∀ self, W.Looks (model prog w) h (bindSpecial (.ref fI) self) (.ref fI, [self])) (hrest : rest.length ≤ sizeLine)
    (hq : codeAny (model prog w) (A.under (.builtin "type.__call__" ⟨.ref C :: rest, kw⟩)) (.call (.ref fI) ⟨.ref (h.objs.size + 1) :: rest, kw⟩) (W.InitBack (h.objs.size + 1) R)
      ⟨(h.push (W.kdv_tup rest)).push (excO C h.objs.size), g, d, t, os⟩) :
    codeAny (model prog w) A (.call (.ref C) ⟨rest, kw⟩) R ⟨h, g, d, t, os⟩ := by
  have f1 := tc_lookup
  have f2 := tc_bind (.ref C)
  have f3 := tc_sub
  have hTy : (⟨h, g, d, t, os⟩ : Shared).TypeIs (.ref C) "type" := ⟨_, hC, rfl⟩
  refine codeAny_of_tree ?_
  show wpAny _ _ (callAny (.ref C) _) _ _ _
  repeat (any_goals (first | assumption | with_reducible refine wpAny_loadPart_at hC ?_ | wp_step))
  refine ⟨rfl, ?_⟩
  refine codeAny_call_builtin_at (Code.quiet_builtin _ (by decide +kernel)) entry_typeCall ?_
  have after : wpAny (model prog w) (A.under (.builtin "type.__call__" ⟨.ref C :: rest, kw⟩)) (Builtin.«type.__call__» ⟨.ref C :: rest, kw⟩)
      (fun fin s' => match fin with | .done f => R (.ok f) s' | .again c' => c'.quiet = true ∧ codeAny (model prog w) A c' R s') (fun e s' => R (.error e) s') ⟨h, g, d, t, os⟩ := by
    repeat (first | with_reducible refine wpAny_loadPart_at hC ?_ | with_reducible refine wpAny_madeBy_exc hC ?_ | wp_step)
    refine codeAny_call_builtin_code (Code.quiet_builtin _ xb.quiet) (check_kw hT hC ?_)
    refine new_kw hT hC ?_ hrest
    show wpAny _ _ _ _ _ _
    have k : ∀ b o, h.get? b = some o → ((h.push (W.kdv_tup rest)).push (excO C h.objs.size)).get? b = some o := fun b o e => Heap.get?_push_of_some _ (Heap.get?_push_of_some _ e)
    have hC1 := k _ _ hC
    have hget : ((h.push (W.kdv_tup rest)).push (excO C h.objs.size)).get? (h.objs.size + 1) = some (excO C h.objs.size) := by heap_get
    have hcC : (Value.ref C :: bm).contains (.ref C) = true := by simp
    have i1 := hi.keeps k
    have b1 := (hb (.ref (h.objs.size + 1))).keeps k
    unfold isInstance
    repeat (first
      | with_reducible refine wpAny_loadPart_at hget ?_
      | (with_reducible refine wpAny_isSubtype_exc hC1 ?_; rw [hcC])
      | wp_step)
    show wpAny _ _ (typeLookup (.ref C) _) _ _ _
    refine i1.at ?_
    refine wpAny_holding (wpAny_bind (b1.at ?_))
    refine wpAny_bind (wpAny_call (codeAny_mono hq fun r s' z => ?_))
    rcases r with e | (v | _ | _ | _) <;> first | exact z | exact z.elim | skip
    obtain ⟨rfl, z⟩ := z
    first
      | exact wpAny_pure (wpAny_pure z)
      | (wp_walk; exact z)
  simp only [checkBuiltinCall, tc_kind, tc_split]
  repeat (any_goals (first | exact after | assumption | with_reducible refine wpAny_loadPart_at hC ?_ | with_reducible refine wpAny_onRaise ?_ | with_reducible refine wpAny_map ?_ | wp_step))
end
end Sl
end PySem

namespace L2
open PySem PySem.Spec PyProof.Rows
/-- what the written part says of an error's class at C, over SlopeError at S -/
structure SlC (K : PySem.W.Frag) (C S : Addr) : Prop where
  cls : PySem.Sl.SubCls K C S
  sa : PySem.W.findIn K (.ref C) "__setattr__" = some (some (.builtin "object.__setattr__"))
  exC : PySem.W.subIn K (.ref C) (.type "BaseException") = some true
  tyC : PySem.W.typeIn K (.ref C) = some (.type "type")
  kC : PySem.W.keepIn K (.ref C) = true
  ga : PySem.W.findIn K (.ref C) "__getattribute__" = some (some (.builtin "BaseException.__getattribute__"))
  gg : PySem.W.findIn K (.ref C) "__getattr__" = some none
  noT : PySem.W.findIn K (.ref C) "thing" = some none
  hd : PySem.W.hasDictIn K C = true
  hc : PySem.W.findIn K (.ref C) "__class__" = some (some (.builtin "object.__class__"))
  hn : PySem.W.specialIn K (.builtin "object.__class__") "__get__" = some (some (.builtin "getset_descriptor.__get__"))
  ht : PySem.W.takesIn K (.builtin "object.__class__") = some true
  hm : PySem.W.mroIn K C (.type "object") = some true
theorem SlC.clsIn {K : PySem.W.Frag} {C S : Addr} (T : SlC K C S) : ∃ cd : ClassData, PySem.W.clsIn K C = some cd ∧ cd.mro = .ref C :: .ref S :: PySem.Sl.xTail ∧ cd.hasDict = true := by
  obtain ⟨nm, q, N, bs, sn, sub, ab, col, dd, k0, k1, k2, k3, k5, hC⟩ := T.cls
  refine ⟨{ name := nm, bases := bs, mro := .ref C :: .ref S :: PySem.Sl.xTail, ns := N, qualname := q, hasDict := true, slotNames := sn, subclasses := sub, abstract := ab, collection := col, hasDel := false }, ?_, rfl, rfl⟩
  unfold PySem.W.clsIn
  rw [hC]
section
variable {X : Cx} {pins : List (Addr × Obj)} {σ : St} {H : Hp} {s : Shared} {a C S dx : Addr} {y : V} {u : Value} {A : Around} {E : Value → Shared → Prop}
/-- self.thing = y, self a fresh error -/
theorem sl_store {Q : Unit → Shared → Prop} (T : SlC X.K C S) (I : Inv X pins σ H s) (e : H a = some (exo a C none)) (ry : RelV y u)
    (h : ∀ dx s', H dx = none → dx ≠ a → Inv X pins σ (upd (upd H dx (exd dx [("thing", y)])) a (exo a C (some dx))) s' → Q () s') :
    wpAny (model X.prog X.w) A (setAttr (.ref a) "thing" u) Q E s := by
  obtain ⟨cd, hcl, hmr, hdi⟩ := T.clsIn
  obtain ⟨t1, ho⟩ := exo_at I.hok e
  obtain ⟨hp, g, d, t, os⟩ := s
  refine PySem.W.set_plain I.kIn (ox := { cls := .ref C, dict := none, data := .fields #[.ref t1, .none, .none, .none, .bool false, .none] }) (od := none) ⟨ho, rfl, rfl, trivial⟩ T.sa ?_
  refine PySem.Sl.osa_sub I.kIn ho hcl hmr hdi T.noT (fun h' tk' dx k dn dne hx hn => ?_)
  have hnd : H dx = none := I.hok.fresh dn
  have nd : ∀ {b : Addr} {o : Obj}, hp.get? b = some o → b ≠ dx := fun {b o} q => Nat.ne_of_lt (Nat.lt_of_lt_of_le (Heap.lt_size q) dn)
  have na : ∀ {b : Addr}, H b = none → b ≠ a := fun {b} n z => by rw [z, e] at n; cases n
  have U : Un X.fs [] H (upd (upd H dx (exd dx [("thing", y)])) a (exo a C (some dx))) hp h' := {
    keep := fun b o q n _ _ => k b o (na n) q
    slot := fun b o q n _ _ => ⟨o.slots, k b o (na n) q⟩
    free := fun b o q n _ => by rw [upd_ne (na n), upd_ne (nd q)]; exact n
    there := fun b o q _ => by
      by_cases hb : b = a
      · rw [hb]; exact ⟨_, hx⟩
      · exact ⟨o, k b o hb q⟩
    tups := fun b xs q => by rw [upd_ne (at_ne e q exo_tup), upd_ne (ne_of_none q hnd)]; exact q
    frzs := fun b o v q => by rw [upd_ne (at_ne e q exo_frz), upd_ne (ne_of_none q hnd)]; exact q
    tbls := fun b ps q => ⟨#[], by rw [upd_ne (at_ne e q exo_tbl), upd_ne (ne_of_none q hnd), q]; simp⟩ }
  refine h dx _ hnd dne (I.un (t' := tk') U fun b o q => ?_)
  by_cases hb : b = a
  · subst hb
    rw [upd_same] at q; cases q
    exact exo_ok hx
  · rw [upd_ne hb] at q
    by_cases hd : b = dx
    · subst hd
      rw [upd_same] at q; cases q
      exact exd_ok hn (relO_put (fs := []) ry fun g => True.intro)
    · rw [upd_ne hd] at q
      refine (I.hok b o q).stay (fun c v hc z => k c v ?_ z) (fun c hc => ?_) (fun c xs hc => ?_)
      · rcases hc with hc | hc
        · rw [hc]; exact hb
        · exact at_ne e hc exo_own
      · rw [upd_ne (at_ne e hc exo_own), upd_ne (ne_of_none hc hnd)]; exact hc
      · rw [upd_ne (at_ne e hc exo_tup), upd_ne (ne_of_none hc hnd)]; exact hc
/-- the reading of self.thing = e -/
def tSto (K : PySem.W.Frag) (to te : TE) : TS := fun D σ H => te σ H fun y H1 => to σ H1 fun x H2 => ∃ a C S : Addr, x = .ref a ∧ SlC K C S ∧ H2 a = some (exo a C none) ∧
  ∀ dx, H2 dx = none → dx ≠ a → D.nx σ (upd (upd H2 dx (exd dx [("thing", y)])) a (exo a C (some dx)))
theorem ps_sto {o e : Expr} {to te : TE} {p' pos : Pos} (ho : PE X o to) (he : PE X e te) (hs : swapsWith e (some (.Attribute o "thing" p')) pos.line X.env = pure false := by rfl) :
    PS X (.Assign [.Attribute o "thing" p'] e pos) (tSto X.K to te) := by
  refine ⟨fun pins s σ H D I h => ?_⟩
  refine plainObj_wpAny_Assign_Attribute (thn (he.run pins s σ H _ I h) fun v s1 ⟨y, H1, I1, r1, q1⟩ => thn (ho.run pins s1 σ H1 _ I1 q1) fun u s2 ⟨x, H2, I2, r2, a, C, S, ex, T, ea, q⟩ => ?_) hs
  subst ex
  obtain rfl : u = Value.ref a := r2
  exact sl_store T I2 ea r1 fun dx s' n ne J => ⟨σ, _, J, q dx n ne⟩
end
/-- the promise of both __init__: the error at a, fresh, gets its dict with the thing -/
def spSet (K : PySem.W.Frag) : Sp := fun vs H Q _ => ∃ (a C S : Addr) (y : V), vs = [.ref a, y] ∧ SlC K C S ∧ H a = some (exo a C none) ∧
  ∀ dx, H dx = none → dx ≠ a → Q .non (upd (upd H dx (exd dx [("thing", y)])) a (exo a C (some dx)))
/-- SlopeError's class at S, its __init__ at fS -/
structure SlB (K : PySem.W.Frag) (mg : Str → Option Value) (S fS : Addr) : Prop where
  mgS : mg "SlopeError" = some (.ref S)
  rd : PySem.W.readsIn K S (.type "type") = true
  ga : PySem.W.specialIn K (.ref S) "__getattribute__" = some (some (.builtin "type.__getattribute__"))
  at_ : PySem.W.findCls K (.ref S) (.type "type") "__init__" = some (.val (.ref fS))
  kf : PySem.W.keepIn K (.ref fS) = true
section
variable {X : Cx} {S fS : Addr} {k : Nat} {fd : FuncData} {sp : Sp} {E : XK} {CX : CXT} {e : Expr} {es : List Expr} {ta : TA} {p1 p2 pos : Pos} {ps : List Str}
/-- SlopeError.__init__(e, ..) -/
theorem pe_slInit {pl : Sem Bool} (B : SlB X.K X.mg S fS) (F : FnOk X.prog X.w X.K X.mg X.base CX k fS fd ps sp) (hr : Room k X.A) (hb : Binds X.K fd ps []) (hx : Passes CX X E) (hg : Gl X "SlopeError") (ha : PA X (e :: es) ta)
    (hc : eval (.Call (.Attribute (.Name "SlopeError" p1) "__init__" p2) (e :: es) [] pos) X.env = (do
      let ov ← eval (.Name "SlopeError" p1) X.env
      standAt p2.atName
      let (f, first) ← holding [ov] (getMethod ov "__init__" pl)
      callWith pos f first (backTo pos (starEach (e :: es) X.env)) (backToKw pos (keywordEach [] X.env))) := by rfl)
    (he : starEach (e :: es) X.env = (false, eval e X.env) :: starEach es X.env := by rfl) (hpl : (backTo pos (starEach es X.env)).any (·.1) = false := by rfl) :
    PE X (.Call (.Attribute (.Name "SlopeError" p1) "__init__" p2) (e :: es) [] pos) (fun σ H Q => ta σ H fun vs H1 => sp vs H1 Q E) := by
  refine ⟨fun pins s σ H Q I h => ?_⟩
  refine PySem.W.methodCall_KW (pl := pl) (ld_glob I hg B.mgS ?_ (by decide)) hc
  refine PySem.W.method_cls I.kIn B.ga (PySem.W.cls_value I.kIn B.rd B.at_ (by rfl) ?_)
  show wpAny _ _ (callWith pos (Value.ref fS) [] (backTo pos (starEach (e :: es) X.env)) []) _ _ _
  refine PySem.W.callWith_K (h₀ := X.base) I.ok.mod.kin B.kf (thn (ha.run pos pins _ σ H _ (I.tok _) h) fun us s1 ⟨vs, H1, I1, r, q⟩ => ⟨I1.kIn, ?_⟩) he hpl
  exact run_fn F hr hb .nil hx I1 r (by rw [List.append_nil]; exact q)
end
end L2

namespace L2
open PySem PySem.Spec PyProof.Rows
/-- the heap with a new error at a, its dict at dx -/
def slH (H : Hp) (a C dx : Addr) (y : V) : Hp := upd (upd H dx (exd dx [("thing", y)])) a (exo a C (some dx))
theorem slH_new {H : Hp} {a C dx : Addr} {y : V} {o : HO} : upd (upd (upd H a o) dx (exd dx [("thing", y)])) a (exo a C (some dx)) = slH H a C dx y := by
  funext b
  unfold slH
  by_cases h : b = a
  · rw [h, upd_same, upd_same]
  · rw [upd_ne h, upd_ne h]
    by_cases hd : b = dx
    · rw [hd, upd_same, upd_same]
    · rw [upd_ne hd, upd_ne hd, upd_ne h]
theorem slH_a {H : Hp} {a C dx : Addr} {y : V} : slH H a C dx y a = some (exo a C (some dx)) := upd_same
theorem slH_d {H : Hp} {a C dx : Addr} {y : V} (h : dx ≠ a) : slH H a C dx y dx = some (exd dx [("thing", y)]) := (upd_ne h).trans upd_same
theorem slH_ne {H : Hp} {a C dx b : Addr} {y : V} (h1 : b ≠ a) (h2 : b ≠ dx) : slH H a C dx y b = H b := (upd_ne h1).trans (upd_ne h2)
/-- an error's class at C: its own __init__ -/
structure SlM (K : PySem.W.Frag) (C S fI : Addr) : Prop where
  T : SlC K C S
  iC : PySem.W.findIn K (.ref C) "__init__" = some (some (.ref fI))
  tI : PySem.W.typeIn K (.ref fI) = some (.type "function")
/-- how the call of the class binds in __init__ -/
def SlBnd (K : PySem.W.Frag) (fd : FuncData) (us : List Value) (kw : List (Str × Value)) (u : Value) : Prop :=
  ∀ (s : Shared) (x : Value), K.In s.heap → BindsTo s fd ⟨x :: us, kw⟩ ((["self", "thing"] : List Str).zip [x, u])
section
variable {X : Cx} {pins : List (Addr × Obj)} {σ : St} {H : Hp} {s : Shared} {C S fI : Addr} {y : V} {u : Value} {k : Nat} {fd : FuncData} {CX : CXT} {us : List Value} {kw : List (Str × Value)}
/-- what is known behind the call of the class -/
structure SlGot (X : Cx) (pins : List (Addr × Obj)) (σ : St) (H : Hp) (s : Shared) (C a dx : Addr) (y : V) (s' : Shared) : Prop where
  new : s.heap.objs.size ≤ a
  na : H a = none
  nd : H dx = none
  ne : dx ≠ a
  mid : ∃ h1 : Heap, (∀ b o, s.heap.get? b = some o → h1.get? b = some o) ∧ Un (frs X.stack) [] (upd H a (exo a C none)) (slH H a C dx y) h1 s'.heap
  hok : HOk X.prog X.w (slH H a C dx y) s'.heap
  os : s'.os = s.os
  bare : AllBare s'.gens
  inv : Inv X pins σ (slH H a C dx y) s'
theorem sl_run {Q : Value → Shared → Prop} (M : SlM X.K C S fI) (F : FnOk X.prog X.w X.K X.mg X.base CX k fI fd ["self", "thing"] (spSet X.K)) (hr : Room (k + 1) X.A) (hx : Passes CX X E0)
    (hb : SlBnd X.K fd us kw u) (hl : us.length ≤ sizeLine) (I : Inv X pins σ H s) (ry : RelV y u) (h : ∀ a dx s', SlGot X pins σ H s C a dx y s' → Q (.ref a) s') :
    wpAny (model X.prog X.w) X.A (call (.ref C) us kw) Q X.xe s := by
  obtain ⟨nm, q, N, bs, sn, sub, ab, col, dd, k0, k1, k2, k3, k5, hC⟩ := M.T.cls
  obtain ⟨hp, g, dr, tk, os⟩ := s
  have hsz : hp.objs.size ≤ hp.objs.size + 1 := Nat.le_succ _
  have hn : H (hp.objs.size + 1) = none := I.hok.fresh hsz
  have kk : ∀ b o, hp.get? b = some o → ((hp.push (PySem.W.kdv_tup us)).push (PySem.HandSPX.excO C hp.objs.size)).get? b = some o := fun b o e => Heap.get?_push_of_some _ (Heap.get?_push_of_some _ e)
  have hget : ((hp.push (PySem.W.kdv_tup us)).push (PySem.HandSPX.excO C hp.objs.size)).get? (hp.objs.size + 1) = some (PySem.HandSPX.excO C hp.objs.size) := by heap_get
  have I2 : Inv X pins σ (upd H (hp.objs.size + 1) (exo (hp.objs.size + 1) C none)) ⟨(hp.push (PySem.W.kdv_tup us)).push (PySem.HandSPX.excO C hp.objs.size), g, dr, tk, os⟩ :=
    I.laid (t' := tk) (a := hp.objs.size + 1) (o := exo (hp.objs.size + 1) C none) (h' := (hp.push (PySem.W.kdv_tup us)).push (PySem.HandSPX.excO C hp.objs.size)) kk hsz (exo_ok hget)
  have r2 : Vals [V.ref (hp.objs.size + 1), y] [Value.ref (hp.objs.size + 1), u] := .cons rfl (.cons ry .nil)
  have room : Room k (X.A.under (.builtin "type.__call__" ⟨.ref C :: us, kw⟩)) := hr.make C us kw
  have e0 := I2.env0.make C us kw
  refine wpAny_call (PySem.Sl.call_kw (fun T => PySem.Sl.tail_sub S T) (I.kIn _ _ hC) (PySem.W.looks_findIn I.kIn M.iC) (fun self => PySem.W.bind_fn I.kIn self M.tI) hl
    (codeAny_mono (F.run _ X.stack _ _ ⟨Value.ref (hp.objs.size + 1) :: us, kw⟩ [Value.ref (hp.objs.size + 1), u] [V.ref (hp.objs.size + 1), y]
      (fun v H2 => v = .non ∧ ∃ dx, H dx = none ∧ dx ≠ hp.objs.size + 1 ∧ H2 = slH H (hp.objs.size + 1) C dx y) E0 room e0 (hb _ _ I2.kIn) r2
      ⟨hp.objs.size + 1, C, S, y, rfl, M.T, upd_same, fun dx n ne => ⟨rfl, dx, by rw [upd_ne ne] at n; exact n, ne, slH_new⟩⟩) fun r s' hq => ?_))
  cases r with
  | error er => exact hx pins σ _ _ er s' I2 hq
  | ok fl =>
    cases fl with
    | ret v0 =>
      obtain ⟨v, H2, os2, bare2, un2, hok2, rv, ev, dx, nd, ne, rfl⟩ := hq
      subst ev
      refine ⟨rv, h _ dx s' ⟨hsz, hn, nd, ne, ⟨_, kk, un2⟩, hok2, os2, bare2, ?_⟩⟩
      exact I2.call' (ch := []) os2 un2 hok2 bare2 (fun b z => absurd z (by simp))
    | next => exact False.elim hq
    | brk => exact False.elim hq
    | cont => exact False.elim hq
/-- such an error, made to be raised -/
theorem SlGot.raised {Q : XK} {a dx : Addr} {s' : Shared} (M : SlM X.K C S fI) (I : Inv X pins σ H s) (G : SlGot X pins σ H s C a dx y s')
    (q : ∀ H', H' dx = some (.xd [("thing", y)]) → H' a = none → (∀ b, b ≠ a → b ≠ dx → H' b = H b) → Q (.ref C) (some dx) H') : MkP X pins σ Q (.ref a) s' := by
  obtain ⟨h1, kk, un⟩ := G.mid
  obtain ⟨hp, g, dr, tk, os⟩ := s
  obtain ⟨h2, g2, d2, t2, os'⟩ := s'
  obtain ⟨t0, GG, J, kG, ge, hoe, na⟩ := mk_end0 (d2 := d2) (t2 := t2) (d := dx) (fs := [("thing", y)]) I G.new kk un G.hok G.os G.bare slH_a (slH_d G.ne) G.nd
  exact ⟨a, _, _, ⟨GG, g2, d2, t2, os'⟩, _, .ref C, some dx, rfl, J, kG, ge, hoe, ⟨rfl, rfl⟩, rfl, rfl, na, rfl, G.bare, raises_own M.T.exC M.T.tyC,
    q _ upd_same na fun b h1 h2 => by rw [upd_ne h2, del_ne h1, slH_ne h1 h2]⟩
end
end L2

namespace L2
open PySem PySem.Spec PyProof.Rows
/-! ### C(e), C(thing=e): the error as a value, and as what is raised -/
def rNew (C : Addr) (te : TE) : TE := fun σ H Q => te σ H fun y H1 => ∀ a dx, H1 a = none → H1 dx = none → dx ≠ a → Q (.ref a) (slH H1 a C dx y)
def rAir (C : Addr) (te : TE) : St → Hp → XK → Prop := fun σ H Q => te σ H fun y H1 => ∀ a dx H', H1 a = none → H1 dx = none → dx ≠ a →
  H' dx = some (.xd [("thing", y)]) → H' a = none → (∀ b, b ≠ a → b ≠ dx → H' b = H1 b) → Q (.ref C) (some dx) H'
section
variable {X : Cx} {C S fI : Addr} {k : Nat} {fd : FuncData} {CX : CXT} {x : Str} {e : Expr} {te : TE} {p pos kp : Pos}
theorem sl_name {Q : Value → Shared → Prop} (M : SlM X.K C S fI) (F : FnOk X.prog X.w X.K X.mg X.base CX k fI fd ["self", "thing"] (spSet X.K)) (hr : Room (k + 1) X.A) (hx : Passes CX X E0)
    (hb : ∀ u, SlBnd X.K fd [u] [] u) (hg : Gl X x) (hm : X.mg x = some (.ref C)) (he : PE X e te) {pins : List (Addr × Obj)} {σ : St} {H : Hp} {s : Shared} (I : Inv X pins σ H s) {R : V → Hp → Prop} (h : te σ H R)
    (hq : ∀ y H1 a dx s1 s', Inv X pins σ H1 s1 → R y H1 → SlGot X pins σ H1 s1 C a dx y s' → Q (.ref a) s') (hdb : (x == ("__debug__" : Str)) = false := by decide)
    (hs : starEach [e] X.env = (false, eval e X.env) :: starEach [] X.env := by rfl) : wpAny (model X.prog X.w) X.A (eval (.Call (.Name x p) [e] [] pos) X.env) Q X.xe s := by
  refine wpAny_Call_Name_kw (ld_glob I hg hm ?_ hdb)
  refine PySem.W.callWith_K (h₀ := X.base) I.ok.mod.kin M.T.kC ?_ hs (by rfl)
  rw [hs]
  show wpAny _ _ (spliced ((false, eval e X.env) :: backTo pos (starEach [] X.env))) _ _ s
  refine Calls.spliced_cons (thn (he.run pins s σ H _ I h) fun u s1 ⟨y, H1, I1, r1, q1⟩ => ?_)
  refine Calls.spliced_nil ⟨I1.kIn, ?_⟩
  show wpAny _ _ (call (.ref C) [u]) _ _ _
  exact sl_run M F hr hx (hb u) (by show 1 ≤ sizeLine; rw [sizeLine_eq]; omega) I1 r1 fun a dx s' G => hq y H1 a dx s1 s' I1 q1 G
theorem sl_kw {Q : Value → Shared → Prop} (M : SlM X.K C S fI) (F : FnOk X.prog X.w X.K X.mg X.base CX k fI fd ["self", "thing"] (spSet X.K)) (hr : Room (k + 1) X.A) (hx : Passes CX X E0)
    (hb : ∀ u, SlBnd X.K fd [] [("thing", u)] u) (hg : Gl X x) (hm : X.mg x = some (.ref C)) (he : PE X e te) {pins : List (Addr × Obj)} {σ : St} {H : Hp} {s : Shared} (I : Inv X pins σ H s) {R : V → Hp → Prop} (h : te σ H R)
    (hq : ∀ y H1 a dx s1 s', Inv X pins σ H1 s1 → R y H1 → SlGot X pins σ H1 s1 C a dx y s' → Q (.ref a) s') (hdb : (x == ("__debug__" : Str)) = false := by decide)
    (hall : (backToKw pos (keywordEach [⟨some "thing", e, kp⟩] X.env)).all (·.1.isSome) = true := by rfl) (hks : (backToKw pos (keywordEach [⟨some "thing", e, kp⟩] X.env)).filterMap (·.1) = [("thing" : Str)] := by rfl)
    (hpl : ((backTo pos (starEach [] X.env)).any (·.1) || (backToKw pos (keywordEach [⟨some "thing", e, kp⟩] X.env)).any (·.1.isNone)) = false := by rfl) :
    wpAny (model X.prog X.w) X.A (eval (.Call (.Name x p) [] [⟨some "thing", e, kp⟩] pos) X.env) Q X.xe s := by
  refine wpAny_Call_Name_kw (ld_glob I hg hm ?_ hdb)
  refine PySem.W.callWith_KW0 (h₀ := X.base) I.ok.mod.kin M.T.kC hall ?_ hpl
  have hk : PK X [⟨some "thing", e, kp⟩] (tCons te tNil) := pk_cons he pk_nil
  refine thn (hk.run pos pins s σ H (fun vs H1 => match vs with | [y] => R y H1 | _ => False) I h) fun ws s1 ⟨vs, H1, I1, rz, q1⟩ => ⟨I1.kIn, ?_⟩
  match vs, rz, q1 with
  | [y], rz, q1 =>
    obtain ⟨u, rfl, ry⟩ := vals1 rz
    rw [hks]
    show wpAny _ _ (call (.ref C) [] [("thing", u)]) _ _ _
    exact sl_run M F hr hx (hb u) (Nat.zero_le _) I1 ry fun a dx s' G => hq y H1 a dx s1 s' I1 q1 G
end
end L2
namespace L2
open PySem PySem.Spec PyProof.Rows
section
variable {X : Cx} {C S fI : Addr} {k : Nat} {fd : FuncData} {CX : CXT} {x : Str} {e : Expr} {te : TE} {p pos kp : Pos}
theorem pe_sl (M : SlM X.K C S fI) (F : FnOk X.prog X.w X.K X.mg X.base CX k fI fd ["self", "thing"] (spSet X.K)) (hr : Room (k + 1) X.A) (hx : Passes CX X E0)
    (hb : ∀ u, SlBnd X.K fd [u] [] u) (hm : X.mg x = some (.ref C)) (he : PE X e te) (hg : Gl X x := by rfl) (hdb : (x == ("__debug__" : Str)) = false := by decide)
    (hs : starEach [e] X.env = (false, eval e X.env) :: starEach [] X.env := by rfl) : PE X (.Call (.Name x p) [e] [] pos) (rNew C te) :=
  ⟨fun pins s σ H Q I h => sl_name M F hr hx hb hg hm he I h (fun y H1 a dx s1 s' I1 q G => ⟨.ref a, _, G.inv, rfl, q a dx G.na G.nd G.ne⟩) hdb hs⟩
theorem pe_slK (M : SlM X.K C S fI) (F : FnOk X.prog X.w X.K X.mg X.base CX k fI fd ["self", "thing"] (spSet X.K)) (hr : Room (k + 1) X.A) (hx : Passes CX X E0)
    (hb : ∀ u, SlBnd X.K fd [] [("thing", u)] u) (hm : X.mg x = some (.ref C)) (he : PE X e te) (hg : Gl X x := by rfl) (hdb : (x == ("__debug__" : Str)) = false := by decide)
    (hall : (backToKw pos (keywordEach [⟨some "thing", e, kp⟩] X.env)).all (·.1.isSome) = true := by rfl) (hks : (backToKw pos (keywordEach [⟨some "thing", e, kp⟩] X.env)).filterMap (·.1) = [("thing" : Str)] := by rfl)
    (hpl : ((backTo pos (starEach [] X.env)).any (·.1) || (backToKw pos (keywordEach [⟨some "thing", e, kp⟩] X.env)).any (·.1.isNone)) = false := by rfl) : PE X (.Call (.Name x p) [] [⟨some "thing", e, kp⟩] pos) (rNew C te) :=
  ⟨fun pins s σ H Q I h => sl_kw M F hr hx hb hg hm he I h (fun y H1 a dx s1 s' I1 q G => ⟨.ref a, _, G.inv, rfl, q a dx G.na G.nd G.ne⟩) hdb hall hks hpl⟩
theorem pmk_sl (M : SlM X.K C S fI) (F : FnOk X.prog X.w X.K X.mg X.base CX k fI fd ["self", "thing"] (spSet X.K)) (hr : Room (k + 1) X.A) (hx : Passes CX X E0)
    (hb : ∀ u, SlBnd X.K fd [u] [] u) (hm : X.mg x = some (.ref C)) (he : PE X e te) (hg : Gl X x := by rfl) (hdb : (x == ("__debug__" : Str)) = false := by decide)
    (hs : starEach [e] X.env = (false, eval e X.env) :: starEach [] X.env := by rfl) : PMk X (.Call (.Name x p) [e] [] pos) (rAir C te) :=
  fun pins s σ H Q I h => sl_name M F hr hx hb hg hm he I h (fun y H1 a dx s1 s' I1 q G => G.raised M I1 fun H' => q a dx H' G.na G.nd G.ne) hdb hs
theorem pmk_slK (M : SlM X.K C S fI) (F : FnOk X.prog X.w X.K X.mg X.base CX k fI fd ["self", "thing"] (spSet X.K)) (hr : Room (k + 1) X.A) (hx : Passes CX X E0)
    (hb : ∀ u, SlBnd X.K fd [] [("thing", u)] u) (hm : X.mg x = some (.ref C)) (he : PE X e te) (hg : Gl X x := by rfl) (hdb : (x == ("__debug__" : Str)) = false := by decide)
    (hall : (backToKw pos (keywordEach [⟨some "thing", e, kp⟩] X.env)).all (·.1.isSome) = true := by rfl) (hks : (backToKw pos (keywordEach [⟨some "thing", e, kp⟩] X.env)).filterMap (·.1) = [("thing" : Str)] := by rfl)
    (hpl : ((backTo pos (starEach [] X.env)).any (·.1) || (backToKw pos (keywordEach [⟨some "thing", e, kp⟩] X.env)).any (·.1.isNone)) = false := by rfl) : PMk X (.Call (.Name x p) [] [⟨some "thing", e, kp⟩] pos) (rAir C te) :=
  fun pins s σ H Q I h => sl_kw M F hr hx hb hg hm he I h (fun y H1 a dx s1 s' I1 q G => G.raised M I1 fun H' => q a dx H' G.na G.nd G.ne) hdb hall hks hpl
end
/-! ### an error that stands: tracked, or pinned with its dict tracked -/
/-- at a an error of the class at C is to be read, its thing v -/
def ErrIs (X : Cx) (H : Hp) (a C : Addr) (v : V) : Prop := ∀ (pins : List (Addr × Obj)) (σ : St) (s : Shared), Inv X pins σ H s →
  ∃ (oe od : Obj) (u : Value), PySem.W.InstAt s.heap a oe C (some od) ∧ PySem.W.lookIn "thing" od = some (some u) ∧ RelV v u
theorem thing_at {h : Heap} {dx : Addr} {v : V} {mA : Str → Option Value} (hns : h.Ns1 dx mA) (r : ∀ f, RelO (List.lookup f [(("thing" : Str), v)]) (mA f)) :
    ∃ (od : Obj) (u : Value), h.get? dx = some od ∧ PySem.W.lookIn "thing" od = some (some u) ∧ RelV v u := by
  obtain ⟨od, ho, hl⟩ := lookIn_ns hns
  have l : List.lookup ("thing" : Str) [(("thing" : Str), v)] = some v := by simp [List.lookup]
  obtain ⟨u, hu, ru⟩ := RelO.some_of (v := v) (o := mA "thing") (by rw [← l]; exact r "thing")
  exact ⟨od, u, ho, by rw [hl, hu], ru⟩
theorem ErrIs.tracked {X : Cx} {H : Hp} {a C dx : Addr} {v : V} (ha : H a = some (exo a C (some dx))) (hd : H dx = some (exd dx [("thing", v)])) : ErrIs X H a C v := fun pins σ s I => by
  obtain ⟨t1, ho⟩ := exo_at I.hok ha
  obtain ⟨mA, hns, r⟩ := exd_at I.hok hd
  obtain ⟨od, u, h1, h2, h3⟩ := thing_at hns r
  exact ⟨_, od, u, ⟨ho, rfl, rfl, h1⟩, h2, h3⟩
theorem ErrIs.pinned {X : Cx} {H : Hp} {a C dx : Addr} {v : V} {oe : Obj} (hp : (a, oe) ∈ X.pn) (hz : Zc (.ref C) (some dx) oe) (hf : ∃ vs, oe.data = .fields vs) (hd : H dx = some (.xd [("thing", v)])) : ErrIs X H a C v := fun pins σ s I => by
  obtain ⟨ho, _⟩ := I.pin (a, oe) (List.mem_append_left _ hp)
  obtain ⟨mA, hns, r⟩ := (show ObjOk X.prog X.w H s.heap dx (.xd [("thing", v)]) from I.hok dx _ hd)
  obtain ⟨od, u, h1, h2, h3⟩ := thing_at hns r
  obtain ⟨vs, hv⟩ := hf
  exact ⟨oe, od, u, ⟨ho, hz.1, by unfold PySem.W.notCls; rw [hv], by rw [hz.2]; exact h1⟩, h2, h3⟩
section
variable {X : Cx} {e : Expr} {te : TE} {pos : Pos}
theorem pe_thing (he : PE X e te) (hb : attributeBase e "thing" X.env (eval e X.env) = eval e X.env := by rfl) :
    PE X (.Attribute e "thing" pos) (fun σ H Q => te σ H fun x H1 => ∃ (a C S : Addr) (v : V), x = .ref a ∧ SlC X.K C S ∧ ErrIs X H1 a C v ∧ Q v H1) := by
  refine ⟨fun pins s σ H Q I h => ?_⟩
  refine attr_of hb (thn (he.run pins s σ H _ I h) fun u s1 ⟨x, H1, I1, rx, a, C, S, v, ex, T, er, q⟩ => ?_)
  subst ex
  obtain rfl : u = Value.ref a := rx
  obtain ⟨oe, od, u, J, hl, ru⟩ := er pins σ s1 I1
  exact HandSPX.exc_get I1.kIn J T.ga T.gg T.exC (PySem.W.findObj_own T.hd T.noT rfl hl) (handed_of ru) ⟨v, H1, I1.tok _, ru, q⟩
theorem sl_kit {a C S : Addr} {v : V} {H : Hp} {pins : List (Addr × Obj)} {σ : St} {s : Shared} (T : SlC X.K C S) (er : ErrIs X H a C v) (I : Inv X pins σ H s) :
    ∃ P : Heap → Prop, PySem.W.KitX X.K (.ref a) (.ref C) P ∧ P s.heap := by
  obtain ⟨oe, od, u, J, _, _⟩ := er pins σ s I
  obtain ⟨cd, hcl, _⟩ := T.clsIn
  exact ⟨_, PySem.W.kitx_exc (by rw [hcl]; rfl) T.ga T.gg T.exC T.hc T.hn T.ht T.hm, J⟩
/-- isinstance(error, T); isinstance(error, (T1, T2, ..)) -/
theorem call_isE1 : CallR X (.builtin "isinstance") (fun xs H Q => ∃ (a C S : Addr) (v c : V) (u : Value) (b : Bool), xs = [.ref a, c] ∧ ClsV c u ∧ SlC X.K C S ∧ ErrIs X H a C v ∧ PySem.W.kitOne X.K (.ref C) u = some b ∧ Q (.bl b) H) := by
  intro pins s σ H xs us Q I r h
  obtain ⟨a, C, S, v, c, u, b, rfl, k, T, er, e, q⟩ := h
  obtain ⟨u1, u2, rfl, r1, r2⟩ := vals2 r
  have e2 := k.eq r2
  subst e2
  cases (show u1 = Value.ref a from r1)
  obtain ⟨P, Z, p⟩ := sl_kit T er I
  exact PySem.W.kia_one Z I.kIn p e (fun z => nomatch z) fun tk => ⟨.bl b, H, I.tok tk, rfl, q⟩
theorem call_isET : CallR X (.builtin "isinstance") (fun xs H Q => ∃ (a C S tp : Addr) (v : V) (cs : List V) (us : List Value) (b : Bool), xs = [.ref a, .ref tp] ∧ H tp = some (.tup cs) ∧ Paired ClsV cs us ∧ SlC X.K C S ∧ ErrIs X H a C v ∧ PySem.W.kitAny X.K (.ref C) us = some b ∧ Q (.bl b) H) := by
  intro pins s σ H xs us Q I r h
  obtain ⟨a, C, S, tp, v, cs, ws, b, rfl, hT, k, T, er, e, q⟩ := h
  obtain ⟨u1, u2, rfl, r1, r2⟩ := vals2 r
  cases (show u1 = Value.ref a from r1)
  cases (show u2 = Value.ref tp from r2)
  obtain ⟨P, Z, p⟩ := sl_kit T er I
  obtain ⟨_, its, rv, o, h1, h2, n, h3⟩ := (show ObjOk X.prog X.w H s.heap tp (.tup cs) from I.hok tp _ hT)
  have e3 := ClsV.all k rv
  subst e3
  obtain ⟨oc, od, dt, sl⟩ := o
  simp only at h2 h3
  subst h2 h3
  exact PySem.W.kia_tup Z I.kIn p h1 e (fun z => nomatch z) fun tk => ⟨.bl b, H, I.tok tk, rfl, q⟩
end
end L2

namespace L2
open PySem PySem.Spec PyProof.Rows
/-! ### the two __init__ -/
def scpS : Scope := { kind := .function, names := [(PySem.Str.ofString "self", .local), (PySem.Str.ofString "thing", .local)], isGenerator := false, isCoroutine := false, more := [] }
def scpC : Scope := { kind := .function, names := [(PySem.Str.ofString "self", .local), (PySem.Str.ofString "thing", .local), (PySem.Str.ofString "SlopeError", .globalImplicit)], isGenerator := false, isCoroutine := false, more := [] }
def argsS (p1 p2 : Pos) (ds : List Expr) : Arguments := { posonlyargs := [], args := [{ arg := "self", annotation := none, pos := p1 }, { arg := "thing", annotation := none, pos := p2 }], vararg := none, kwonlyargs := [], kw_defaults := [], kwarg := none, defaults := ds }
def bodyS (q1 q2 q3 q4 : Pos) : List Stmt := [.Assign [.Attribute (.Name "self" q1) "thing" q2] (.Name "thing" q3) q4]
def bodyC (q1 q2 q3 q4 q5 q6 : Pos) : List Stmt := [.Expr (.Call (.Attribute (.Name "SlopeError" q1) "__init__" q2) [.Name "self" q3, .Name "thing" q4] [] q5) q6]
theorem fsS : FnScope ["self", "thing"] ["self", "thing"] scpS := ⟨rfl, rfl, rfl, by decide +kernel, rfl, by decide +kernel, by decide +kernel⟩
theorem fsC : FnScope ["self", "thing"] ["self", "thing"] scpC := ⟨rfl, rfl, rfl, by decide +kernel, rfl, by decide +kernel, by decide +kernel⟩
section
variable {P : Program} {w : World} {K : PySem.W.Frag} {mg : Str → Option Value} {base : Heap} {qual : Str} {f fS S : Addr} {fd fdS : FuncData} {p1 p2 q1 q2 q3 q4 q5 q6 : Pos} {ds : List Expr}
theorem ok_slS (F : FunD K "__init__" qual (argsS p1 p2 ds) (bodyS q1 q2 q3 q4) scpS [.non] [] f fd) : FnOk P w K mg base CX0 1 f fd ["self", "thing"] (spSet K) := by
  refine F.ok fsS (fun vs H Q E h => ?_) (fun cdv A outer s H vs Q E hr h => ?_)
  · obtain ⟨a, C, S, y, rfl, _⟩ := h
    rfl
  · obtain ⟨a, C, S, y, rfl, T, ha, k⟩ := h
    exact ⟨_, pss_one (ps_sto (pv 0) (pv 1)), _, rfl, _, rfl, a, C, S, rfl, T, ha, fun dx n ne => k dx n ne⟩
theorem bnd_slS (F : FunD K "__init__" qual (argsS p1 p2 ds) (bodyS q1 q2 q3 q4) scpS [.non] [] f fd) : Binds K fd ["self", "thing"] [] := by
  obtain ⟨es, r, b⟩ := F.binds1 (ps := ["self", "thing"]) 2 1 (by simp) rfl (fun T kV doc pm an cdv ct us its h1 h2 => by
    match us, its, h1, h2 with
    | [u, v], [d], _, _ => exact ⟨_, rfl, by rfl⟩)
  have e : es = [] := by cases r; rfl
  rw [e] at b
  exact b
theorem arm_slC {env : Env} (h : (q2.endLine == q5.line) = true) :
    eval (.Call (.Attribute (.Name "SlopeError" q1) "__init__" q2) [.Name "self" q3, .Name "thing" q4] [] q5) env = (do
      let ov ← eval (.Name "SlopeError" q1) env
      standAt q2.atName
      let (f, first) ← holding [ov] (getMethod ov "__init__" (do return (← importBound (.Name "SlopeError" q1) env).getD true))
      callWith q5 f first (backTo q5 (starEach [.Name "self" q3, .Name "thing" q4] env)) (backToKw q5 (keywordEach [] env))) := by
  show (do
    let ov ← eval (.Name "SlopeError" q1) env
    standAt q2.atName
    methodCall (.Name "SlopeError" q1) "__init__" q2 q5 env ov 2 (backTo q5 (starEach [.Name "self" q3, .Name "thing" q4] env)) (backToKw q5 (keywordEach [] env))) = _
  unfold methodCall methodCallPos
  rw [h]
  rfl
theorem ok_slC (hl : (q2.endLine == q5.line) = true) (F : FunD K "__init__" qual (argsS p1 p2 []) (bodyC q1 q2 q3 q4 q5 q6) scpC [] [] f fd) (B : SlB K mg S fS) (FS : FnOk P w K mg base CX0 1 fS fdS ["self", "thing"] (spSet K)) (bS : Binds K fdS ["self", "thing"] []) :
    FnOk P w K mg base CX0 2 f fd ["self", "thing"] (spSet K) := by
  refine F.ok fsC (fun vs H Q E h => ?_) (fun cdv A outer s H vs Q E hr h => ?_)
  · obtain ⟨a, C, S, y, rfl, _⟩ := h
    rfl
  · obtain ⟨a, C, S', y, rfl, T, ha, k⟩ := h
    refine ⟨_, pss_one (ps_expr (pe_slInit (E := E0) B FS hr bS pass0 rfl (pa_cons (pv 0) (pa_cons (pv 1) pa_nil)) (arm_slC hl))), ?_⟩
    exact ⟨_, rfl, _, rfl, a, C, S', y, rfl, T, ha, fun dx n ne => k dx n ne⟩
theorem bnd_sl1 (F : FunD K "__init__" qual (argsS p1 p2 []) (bodyC q1 q2 q3 q4 q5 q6) scpC [] [] f fd) (u : Value) : SlBnd K fd [u] [] u := by
  obtain ⟨oc, od, dV, kV, doc, pm, an, cdv, ct, osl, rfl, lk, hcd, hD, hK⟩ := F.ex
  rcases hD with ⟨_, rfl⟩ | ⟨e, _⟩
  · exact fun s x X => .of_eq (by rfl)
  · exact absurd rfl e
theorem bnd_slK (F : FunD K "__init__" qual (argsS p1 p2 []) (bodyC q1 q2 q3 q4 q5 q6) scpC [] [] f fd) (u : Value) : SlBnd K fd [] [("thing", u)] u := by
  obtain ⟨oc, od, dV, kV, doc, pm, an, cdv, ct, osl, rfl, lk, hcd, hD, hK⟩ := F.ex
  rcases hD with ⟨_, rfl⟩ | ⟨e, _⟩
  · exact fun s x X => .of_eq (by first | rfl | with_unfolding_all rfl | kernel_rfl)
  · exact absurd rfl e
end
end L2

namespace L2
open PySem PySem.Spec PyProof.Rows
/-! ### try: body, except A as n: .., except B as n: .. (one name for all clauses) -/
abbrev Suite := Addr → Value → Option Addr → TS
def endsAs (i : Nat) (D : Ends) : Ends := { nx := fun σ' H' => D.nx (σ'.set i none) H', rt := D.rt, bk := fun σ' H' => D.bk (σ'.set i none) H', ct := fun σ' H' => D.ct (σ'.set i none) H' }
def wSeq (K : PySem.W.Frag) (i : Nat) (Wout : WX) (D : Ends) : List (Value × Suite) → WX
  | [] => Wout
  | (c, ts) :: r => fun cls d σ H => ∃ b, PySem.W.exmOne K cls c = some b ∧ (b = true → ∀ a, H a = none → ts a cls d (endsAs i D) (σ.set i (some (.ref a))) H) ∧ (b = false → wSeq K i Wout D r cls d σ H)
inductive SeqOk (X : Cx) (n : Str) : List ExceptHandler → List (Value × Suite) → Prop
  | nil : SeqOk X n [] []
  | cons {x : Str} {c : Value} {ts : Suite} {b0 : Stmt} {suite : List Stmt} {np hp : Pos} {hds : List ExceptHandler} {l : List (Value × Suite)} (named : Names X x c)
      (does : ∀ (a : Addr) (oe : Obj) (cls : Value) (d : Option Addr) (pn : List (Addr × Obj)), Zc cls d oe → (∃ vs, oe.data = .fields vs) → PSs (X.suite a ((a, oe) :: pn)) (b0 :: suite) (ts a cls d)) (r : SeqOk X n hds l) :
      SeqOk X n (.ExceptHandler (some (.Name x np)) (some n) (b0 :: suite) hp :: hds) ((c, ts) :: l)
section
variable {X : Cx} {n : Str} {i : Nat} {body : List Stmt} {h0 : ExceptHandler} {hds : List ExceptHandler} {l : List (Value × Suite)} {pos : Pos} {tb : WX → TS} {Wout : WX}
theorem ps_try_seq (sta : X.stack = X.env :: X.outer) (own : X.env.frame = some X.env.locals) (nod : X.N.Nodup) (slot : X.N[i]? = some n) (loc : X.env.kindOf n = some .local) (tk : Takes X Wout)
    (hb : ∀ (W : WX) (pn : List (Addr × Obj)) (xe : Value → Shared → Prop), Takes (X.tr pn xe) W → PassesOwn (model X.prog X.w) X.A X.env xe → PSs (X.tr pn xe) body (tb W))
    (hh : SeqOk X n (h0 :: hds) l) : PS X (.Try body (h0 :: hds) [] [] pos) (fun D σ H => tb (wSeq X.K i Wout D l) D σ H) := by
  refine ⟨fun pins s σ H D I h => ?_⟩
  have fine := I.ok
  have frs0 : X.A.frames = some (X.env :: X.outer) := by rw [fine.frames, sta]
  refine wpAny_Try_except ?_
  refine wpAny_mono ((hb (wSeq X.K i Wout D l) (X.pn ++ pins) (fun e t1 => wpAny (model X.prog X.w) X.A (noteFrame e X.env) (fun _ t2 => wpAny (model X.prog X.w) X.A (setFlight e none)
    (fun _ t3 => wpAny (model X.prog X.w) X.A (handleBy e X.env (h0 :: hds)) (SP X pins D) X.xe t3) X.xe t2) X.xe t1) (fun u s' air => ?_) PassesOwn.looking).run [] s σ H D (I.toTry _) h) (fun f s1 got => ?_) (fun e s1 he => he)
  · obtain ⟨a, B, sI, pins', σ', H', cls, d, rfl, J', nb, up, sky, na, os, ag, wish⟩ := air
    have J : Inv X pins σ' H' sI := J'.ofTry fine
    have sky1 : Sky B (X.env :: X.outer) a (Zc cls d) X.env.locals s'.heap := by rw [← sta]; exact sky
    show wpAny (model X.prog X.w) X.A (noteFrame (.ref a) X.env) _ _ _
    refine Sky.land Zc.steady frs0 own sky1 fun k3 fl3 up3 => ?_
    have J3 : Inv X pins σ' H' { s' with heap := k3 } := J.landed nb fl3.1 (up.trans up3) os ag
    obtain ⟨oe3, vs3, he3, hz3, hd3⟩ := fl3.there
    have off : a ∉ frs (X.env :: X.outer) := fun hm => by
      obtain ⟨_, o', e', nof⟩ := fl3.2.2.1.mem hm
      rw [he3] at e'; cases e'
      exact nof _ hd3
    have offL : a ≠ X.env.locals := fun z => off (List.mem_filterMap.mpr ⟨X.env, List.mem_cons_self, by rw [own, z]⟩)
    have offF : a ∉ X.fs := fun hm => by
      obtain ⟨v, hv, q⟩ := List.mem_filterMap.mp hm
      exact off (List.mem_filterMap.mpr ⟨v, List.mem_cons_of_mem _ hv, q⟩)
    have S3 := J3.suite he3 hd3 na offL offF
    have walk : ∀ {hds' : List ExceptHandler} {l' : List (Value × Suite)}, SeqOk X n hds' l' → wSeq X.K i Wout D l' cls d σ' H' →
        wpAny (model X.prog X.w) X.A (handleBy (.ref a) X.env hds') (SP X pins D) X.xe { s' with heap := k3 } := by
      intro hds' l' hk
      induction hk with
      | nil =>
        intro wi
        refine wpAny_handleBy_nil ?_
        obtain ⟨z1, z2, z3, oe, vs, T, oT, ts', he, hz, hd, h1, hr⟩ := id fl3
        unfold PySem.passOn
        refine wpAny_bind (wpAny_field he hd h1 ?_); rw [if_neg (show ¬ ((Value.ref T == Value.none) = true) from by simp)]
        have fin : wpAny (model X.prog X.w) X.A (setFlight (.ref a) X.env.frame) (fun _ s4 => wpAny (model X.prog X.w) X.A (throw (.ref a) : Sem Flow) (SP X pins D) X.xe s4) X.xe { s' with heap := k3 } := by
          rw [own]
          refine HandSPX.setFlight_upZ fl3 fun k4 hk4 up4 => wpAny_throw (tk _ _ ?_)
          exact ⟨a, B, sI, pins, σ', H', cls, d, rfl, J, nb, (up.trans up3).trans up4, .inr (.inr (by rw [sta]; exact hk4)), na, os, ag, wi⟩
        first | exact wpAny_bind (wpAny_pure (wpAny_bind fin)) | exact wpAny_bind fin
      | @cons x c ts b0 suite np hp hds2 l2 named does r ih =>
        intro wi
        obtain ⟨b, eb, yes, no⟩ := wi
        refine wpAny_handleBy_cons (codeAny_handlers_test ?_) (by intro q; cases q)
        have lt : PySem.W.Looks (model X.prog X.w) k3 (typeOf (.ref a)) cls := fun A Q E s k q => wpAny_typeOf_ref (k _ _ he3) (by rw [hz3.1]; exact q)
        have lm := PySem.W.exm_one (M := model X.prog X.w) (J3.kIn) lt eb
        have names : ∀ {Q : Value → Shared → Prop} {E : Value → Shared → Prop}, Q c { s' with heap := k3 } → wpAny (model X.prog X.w) (X.A.mark (some (.ref a))) (eval (.Name x np) X.env) Q E { s' with heap := k3 } := fun {Q E} q => by
          obtain ⟨hg, nd, hm | ⟨hm, hv, hnn⟩⟩ := named
          · exact ld_glob (X := X.suite a ((a, oe3) :: (X.pn ++ pins))) S3 hg hm q nd
          · exact ld_blt (X := X.suite a ((a, oe3) :: (X.pn ++ pins))) S3 hg hm hv q hnn nd
        refine names (lm.here ?_)
        cases b with
        | true =>
          refine codeAny_handlers_suite_as ?_
          refine HandSPX.lands_againZ fl3 fun k4 fl4 up4 => ?_
          have J4 : Inv X pins σ' H' { s' with heap := k4 } := J.landed nb fl4.1 ((up.trans up3).trans up4) os ag
          obtain ⟨oe4, vs4, he4, hz4, hd4⟩ := fl4.there
          have S4 := J4.suite he4 hd4 na offL offF
          refine store_ok (X := X.suite a ((a, oe4) :: (X.pn ++ pins))) (v := .ref a) S4 nod slot (.inl loc) rfl (fun s5 S5 => ?_) (.inr loc)
          refine wpAny_mono ((does a oe4 cls d (X.pn ++ pins) hz4 ⟨_, hd4⟩).run [] s5 _ H' _ S5 (yes rfl a na)) (fun f s6 got => ?_) (fun _ _ z => False.elim z)
          have close : ∀ {σ6 : St} {H6 : Hp} {Q : Shared → Prop}, Inv (X.suite a ((a, oe4) :: (X.pn ++ pins))) [] σ6 H6 s6 → (∀ s7, Inv X pins (σ6.set i none) H6 s7 → Q s7) →
              wpAny (model X.prog X.w) X.A (do bindName X.env n .none; unbindBehindTheSuite X.env n hp) (fun _ s7 => Q s7) X.xe s6 := fun {σ6 H6 Q} S6 hq => gone_ok (S6.unsuite fine) nod slot loc hq
          cases f with
          | next => obtain ⟨σ6, H6, S6, q6⟩ := got; exact close S6 fun s7 J7 => ⟨_, _, J7, q6⟩
          | brk => obtain ⟨σ6, H6, S6, q6⟩ := got; exact close S6 fun s7 J7 => ⟨_, _, J7, q6⟩
          | cont => obtain ⟨σ6, H6, S6, q6⟩ := got; exact close S6 fun s7 J7 => ⟨_, _, J7, q6⟩
          | ret u => obtain ⟨v6, σ6, H6, S6, r6, q6⟩ := got; exact close S6 fun s7 J7 => ⟨_, _, _, J7, r6, q6⟩
        | false =>
          show wpAny _ X.A (handleBy (.ref a) X.env hds2) _ _ _
          exact ih (no rfl)
    exact walk hh wish
  · cases f with
    | next => obtain ⟨σ', H', J', q⟩ := got; exact wpAny_execs_nil ⟨σ', H', J'.ofTry fine, q⟩
    | brk => obtain ⟨σ', H', J', q⟩ := got; exact ⟨σ', H', J'.ofTry fine, q⟩
    | cont => obtain ⟨σ', H', J', q⟩ := got; exact ⟨σ', H', J'.ofTry fine, q⟩
    | ret u => obtain ⟨v, σ', H', J', r, q⟩ := got; exact ⟨v, σ', H', J'.ofTry fine, r, q⟩
end
/-! ### a def called within an except suite (nothing is raised there) -/
structure FnW (P : Program) (w : World) (K : PySem.W.Frag) (mg : Str → Option Value) (base : Heap) (k : Nat) (f : Addr) (fd : FuncData) (ps : List Str) (p : Addr × Obj) (sp : Sp) : Prop where
  len : ∀ vs H Q E, sp vs H Q E → vs.length = ps.length
  run : ∀ (A : Around) (outer : List Env) (s : Shared) (H : Hp) (args : Args) (us : List Value) (vs : List V) (Q : VK), L2H.RoomH k A → L2H.PinOk outer H s p → Env0 P w K mg base A outer s H → BindsTo s fd args (ps.zip us) → Vals vs us → sp vs H Q E0 →
    codeAny (model P w) A (.call (.ref f) args) (CR CX0 outer P w H s Q E0) s
theorem fn_warm {P : Program} {w : World} {K : PySem.W.Frag} {mg : Str → Option Value} {base : Heap} {k : Nat} {f : Addr} {name qual : Str} {st : Stmt} {fd : FuncData} {N ps : List Str} {p : Addr × Obj} {sp : Sp} (F : Fun K name qual st f fd) (S : FnScope N ps (defScope st))
    (len : ∀ vs H Q E, sp vs H Q E → vs.length = ps.length)
    (hbody : ∀ (cdv : Value) (A : Around) (outer : List Env) (s : Shared) (H : Hp) (vs : List V) (Q : VK), L2H.RoomH k (A.deeper (envOfC qual (defScope st) s.heap.objs.size f cdv)) → sp vs H Q E0 →
      ∃ t, PSs (L2H.cxH CX0 P w K mg base N qual (defScope st) f cdv A outer s H E0 p) (defBody st) t ∧ t { nx := fun _ H' => Q .non H', rt := Q } (L2.start N vs) H) :
    FnW P w K mg base (k + 1) f fd ps p sp := by
  obtain ⟨oc, od, kV, doc, pm, an, cdv, ct, osl, rfl, lk, hcd⟩ := F.ex
  refine ⟨len, fun A outer s H args us vs Q hr hpin e0 hb r hsp => ?_⟩
  have kin : K.In s.heap := e0.mod.kin.keeps fun b o e => (e0.bs b o e).1
  have lim : s.heap.NoLimit := e0.mod.nolimit.keeps fun b o e => (e0.bs b o e).1
  have kinds : ∀ y ∈ ps.zip us, (defScope st).names.lookup y.1 = some .local ∨ ((defScope st).names.lookup y.1 = some .cell ∧ ((cellsFrom (s.heap.objs.size + 1) (defScope st).names []).lookup y.1).isSome = true) := fun ⟨m, v⟩ hy =>
    (S.par m (List.of_mem_zip hy).1).elim .inl fun q => .inr ⟨q, PySem.W.cellsFrom_some _ _ _ (.inl q)⟩
  refine codeAny_call_function hr.depth (kin _ _ lk) rfl S.co S.gen rfl (PySem.W.codeRec_of kin hcd) (hb _ _ _ _ ?_)
  refine wpAny_newFunctionEnv_cells S.kind kinds fun env he s1 x => ?_
  subst he
  refine ⟨lim.keeps x.toInCall.keep, codeAny_func ?_⟩
  obtain ⟨t, ht, hq⟩ := hbody cdv A outer s H vs Q (hr.deeper _) hsp
  have I : Inv (L2H.cxH CX0 P w K mg base N qual (defScope st) f cdv A outer s H E0 p) [] (L2.start N vs) H s1 := L2H.inv_startH S hpin e0 (len _ _ _ _ hsp) r x
  refine wpAny_mono (ht.run [] s1 (L2.start N vs) H _ I hq) (fun fl s' got => ?_) fun e s' z => z
  cases fl with
  | ret u => obtain ⟨v, σ', H', J, rv, q⟩ := got; exact ⟨v, H', J.os, J.bare, J.base, J.hok, rv, q⟩
  | next => obtain ⟨σ', H', J, q⟩ := got; exact ⟨V.non, H', J.os, J.bare, J.base, J.hok, (rfl : Value.none = Value.none), q⟩
  | brk => obtain ⟨_, _, _, q⟩ := got; exact False.elim q
  | cont => obtain ⟨_, _, _, q⟩ := got; exact False.elim q
section
variable {X : Cx} {k : Nat} {f : Addr} {fd : FuncData} {ps : List Str} {sp : Sp} {x : Str} {q pos : Pos} {e : Expr} {es : List Expr} {t : TA} {p : Addr × Obj}
theorem pe_warm (F : FnW X.prog X.w X.K X.mg X.base k f fd ps p sp) (hr : L2H.RoomH k X.A) (hp : p ∈ X.pn) (hm : X.mg x = some (.ref f)) (hk : PySem.W.keepIn X.K (.ref f) = true) (hb : Binds X.K fd ps []) (ha : PA X (e :: es) t) (hg : Gl X x := by rfl)
    (hdb : (x == ("__debug__" : Str)) = false := by decide) (he : starEach (e :: es) X.env = (false, eval e X.env) :: starEach es X.env := by rfl) (hpl : (backTo pos (starEach es X.env)).any (·.1) = false := by rfl) :
    PE X (.Call (.Name x q) (e :: es) [] pos) (fun σ H Q => t σ H fun vs H1 => sp vs H1 Q E0) := by
  refine ⟨fun pins s σ H Q I h => ?_⟩
  refine wpAny_Call_Name_kw (ld_glob I hg hm ?_ hdb)
  refine PySem.W.callWith_K (h₀ := X.base) I.ok.mod.kin hk (thn (ha.run pos pins s σ H _ I h) fun us s1 ⟨vs, H1, I1, r, qq⟩ => ⟨I1.kIn, ?_⟩) he hpl
  have hl : us.length = ps.length := by rw [← r.length]; exact F.len _ _ _ _ qq
  have bb := hb s1 us I1.kIn (by rw [List.append_nil]; exact hl)
  rw [List.append_nil] at bb
  have pin := I1.pin p (List.mem_append_left _ hp)
  have pok : L2H.PinOk X.stack H1 s1 p := ⟨pin.1, pin.2.1, fun hm => (List.mem_cons.mp (I1.stkSub p.1 hm)).elim pin.2.2.1 pin.2.2.2.1, pin.2.2.2.2⟩
  refine wpAny_call (codeAny_mono (F.run X.A X.stack s1 H1 ⟨us, []⟩ us vs Q hr pok I1.env0 bb r qq) fun r s' hq => ?_)
  cases r with
  | error e => exact False.elim hq
  | ok fl =>
    cases fl with
    | ret u => exact I1.after hq
    | next => exact False.elim hq
    | brk => exact False.elim hq
    | cont => exact False.elim hq
end
end L2

namespace PySem
open Sem (wp)
/-! enumerate(v) with one argument, v by how its iterator begins -/
theorem meets_enum_one {v : Value} {o : Obj} {H : Heap → Prop} (B : Begins v o H) :
    Meets (Builtin.«enumerate.__new__» ⟨[.type "enumerate", v], []⟩) (fun _ R s => H s.heap ∧
      R (.ok (.ret (.ref (s.heap.push o).objs.size))) { s with heap := (s.heap.push o).push { cls := .type "enumerate", data := .fields #[.none, .bool false, .ref s.heap.objs.size, rawInt 0, .none, .none] } }) :=
  .of_wp fun prog w A R s h => by
    obtain ⟨hp, g, d, tk, os⟩ := s
    obtain ⟨h1, h⟩ := h
    have sub1 := sub_enumerate
    have its : ∀ {A' : Around} {E : Value → Shared → Prop} {Q : Value → Shared → Prop}, Q (.ref hp.objs.size) ⟨hp.push o, g, d, tk, os⟩ → wpAny (model prog w) A' (pyIter v) Q E ⟨hp, g, d, tk, os⟩ :=
      fun q => B.iter prog w _ _ ⟨hp, g, d, tk, os⟩ _ h1 q
    wp_walk using its
    refine wpAny_stack_any fun st => wpAny_pure ?_
    split
    · rename_i c _ _ _ _ _
      cases (c == Value.type "enumerate") <;> (wp_walk using its; exact ⟨_, rfl, h⟩)
    · wp_walk using its
      exact ⟨_, rfl, h⟩
theorem call_enum_one {prog : Program} {w : World} {A : Around} {E : Value → Shared → Prop} {s : Shared} {v : Value} {o : Obj} {H : Heap → Prop} {Q : Value → Shared → Prop} (B : Begins v o H) (h1 : H s.heap)
    (h : ∀ h', IsEnum h' (s.heap.objs.size + 1) s.heap.objs.size 0 .none → h'.get? s.heap.objs.size = some o → (∀ b u, s.heap.get? b = some u → h'.get? b = some u) → Q (.ref (s.heap.objs.size + 1)) { s with heap := h' }) :
    wpAny (model prog w) A (call (.type "enumerate") [v]) Q E s := by
  refine callType_new F.called_enumerate (by decide) (F.typeCall_enumerate_1 _) (F.newCall_enumerate_1 _) (fun obj => F.args_object_init_2 obj _) F.entry_enumerate_new (meets_enum_one B) ⟨h1, ?_⟩
  have hz : (s.heap.push o).objs.size = s.heap.objs.size + 1 := Heap.size_push ..
  show _ ∧ _
  rw [hz]
  have he : IsEnum ((s.heap.push o).push { cls := .type "enumerate", data := .fields #[.none, .bool false, .ref s.heap.objs.size, rawInt 0, .none, .none] }) (s.heap.objs.size + 1) s.heap.objs.size 0 .none := by
    have z := Heap.get?_push_size (s.heap.push o) (o := { cls := .type "enumerate", data := .fields #[.none, .bool false, .ref s.heap.objs.size, rawInt 0, .none, .none] }) rfl
    rw [hz] at z; exact z
  exact ⟨⟨_, he, rfl⟩, h _ he (Heap.get?_push_of_some _ (Heap.get?_push_size _ B.free)) fun b u x => Heap.get?_push_of_some _ (Heap.get?_push_of_some _ x)⟩
end PySem
namespace L2
open PySem PySem.Spec PyProof.Rows
/-- the tuple at a, each item in a new pair with its place -/
def ItT (K : PySem.W.Frag) (a : Addr) : It :=
  ⟨fun i H => ∃ (xs : List V) (x : V), SqT K H a xs ∧ xs[i]? = some x, fun i H v H' => ∃ T x, v = .ref T ∧ H T = none ∧ H' = upd H T (.tup [.int (i : Nat), x]) ∧ ∀ xs, SqT K H a xs → xs[i]? = some x, fun i H => ∃ xs : List V, SqT K H a xs ∧ xs.length = i⟩
theorem turn_pairs {P : Program} {w : World} {K : PySem.W.Frag} {elts : List Expr} {kk : Nat} {tpos : Pos} (a e it : Addr) (hea : e ≠ a) (hia : a ≠ it) :
    Turn P w K (.Tuple elts kk tpos) (ItT K a) [e, it] e (fun i h => (∃ old, IsEnum h e it ((i : Nat) : Int) old) ∧ h.IsTupleIter it a i ∧ e ≠ it) where
  mem := by simp
  obj := fun i h st b hb => by
    obtain ⟨⟨old, he⟩, ⟨o, ho, hc, hd⟩, _⟩ := st
    have eb : b = e ∨ b = it := by simpa using hb
    rcases eb with z | z
    · rw [z]; exact ⟨_, he, fun v q => nomatch q⟩
    · rw [z]; exact ⟨o, ho, fun v q => by rw [hd] at q; cases q⟩
  keep := fun i h h' st k => let ⟨⟨old, he⟩, ⟨o, ho, hc, hd⟩, hne⟩ := st; ⟨⟨old, k e (by simp) _ he⟩, ⟨o, k it (by simp) _ ho, hc, hd⟩, hne⟩
  item := by
    intro X hP hw hK hc i pins s σ H E I hf st hg
    subst hP hw hK
    obtain ⟨⟨old, he⟩, hit, hne⟩ := st
    obtain ⟨xs, x, hq, hx⟩ := hg
    obtain ⟨its, rv, p, hz⟩ := I.tuple hq
    obtain ⟨u, hu, ru⟩ := rv.get hx
    have hel : e < s.heap.objs.size := Heap.lt_size he
    have hil : it < s.heap.objs.size := by obtain ⟨_, q, _⟩ := hit; exact Heap.lt_size q
    have D := Draws.tuple (prog := X.prog) (w := X.w) (A := X.A.in1) (I.ok.hd hc) it a hia its.toArray
    have hlt : i < its.toArray.size := by
      have := (List.getElem?_eq_some_iff.mp hu).1
      simpa using this
    refine wpAny_pyNext_enum_itemD D he ⟨hit, p⟩ hlt hne (by simp [hne, hea]) fun x1 h' tk hx1 ho hit' hT hsz hk => ?_
    have ex : x1 = u := by
      have q : its.toArray[i]? = some x1 := hx1
      have q2 : its.toArray[i]? = some u := by simpa using hu
      rw [q] at q2
      exact Option.some.inj q2
    subst ex
    refine ⟨_, rfl, wpAny_letOwnedTupleGo_enum (s := { s with heap := h', toks := tk + 1 }) ho fun h'' he' sb => ?_⟩
    have hT2 : h''.get? s.heap.objs.size = some { cls := .type "tuple", data := .seq #[.int i tk, x1] } := (sb.2 _ (Nat.ne_of_gt hel)).trans hT
    have fresh : ObjOk X.prog X.w (upd H s.heap.objs.size (.tup [.int (i : Nat), x])) h'' s.heap.objs.size (.tup [.int (i : Nat), x]) :=
      ⟨by show 2 ≤ sizeLine; decide, [.int i tk, x1], .cons ⟨_, rfl⟩ (.cons ru .nil), ⟨_, hT2, rfl, _, rfl⟩⟩
    have I1 : Inv X pins σ (upd H s.heap.objs.size (.tup [.int (i : Nat), x])) { s with heap := h'', toks := tk + 1 } :=
      I.turnedNew (ch := [e, it]) (fun b ob hb q => (sb.2 b (fun z => hb (by simp [z]))).trans (hk b ob (fun z => hb (by simp [z])) (fun z => hb (by simp [z])) q)) hf (Nat.le_refl _) fresh
    refine ⟨.ref s.heap.objs.size, _, I1, rfl, ⟨_, x, rfl, I.hok.fresh (Nat.le_refl _), rfl, fun ys hy => by rw [I.tuple_inj hy hq]; exact hx⟩, ⟨⟨x1, ?_⟩, ?_, hne⟩, fun b hb => ?_⟩
    · have e1 : ((i + 1 : Nat) : Int) = (i : Int) + 1 := by omega
      rw [e1]; exact he'
    · obtain ⟨⟨o, ho2, hc2, hd2⟩, _⟩ := hit'
      exact ⟨o, (sb.2 it (Ne.symm hne)).trans ho2, hc2, hd2⟩
    · have hb' : b < s.heap.objs.size := by
        have eb : b = e ∨ b = it := by simpa using hb
        rcases eb with z | z
        · rw [z]; exact hel
        · rw [z]; exact hil
      rw [upd_ne (Nat.ne_of_lt hb')]
      exact (hf b hb).1
  done := by
    intro X hP hw hK hc i pins s σ H E I hf st hg
    subst hP hw hK
    obtain ⟨⟨old, he⟩, hit, hne⟩ := st
    obtain ⟨xs, hq, hx⟩ := hg
    obtain ⟨its, rv, p, hz⟩ := I.tuple hq
    obtain ⟨f0, f1, f2, f3, f4, f5⟩ := hf it (by simp)
    have D := Draws.tuple (prog := X.prog) (w := X.w) (A := X.A.in1) (I.ok.hd hc) it a hia its.toArray
    have hn : i = its.toArray.size := by
      have := rv.length
      simp only [List.size_toArray]
      omega
    subst hn
    exact wpAny_pyNext_enum_endD D he ⟨hit, p⟩ fun h' eb => ⟨rfl, I.turned (t' := s.toks) (fun b o hb q => eb b o hb q) f0 f1 f3 f4 f5⟩
  self := fun A i s Q E st h => let ⟨⟨_, he⟩, _⟩ := st; wpAny_pyIter_enum he h
/-- enumerate(e), e a list or a tuple -/
def iEnumA (K : PySem.W.Frag) (ta : TA) : TI := fun σ H R => ta σ H fun vs H1 => ∃ a xs, vs = [.ref a] ∧ ((SqL K H1 a xs ∧ R (Ite K a) H1) ∨ (SqT K H1 a xs ∧ R (ItT K a) H1))
theorem pi_enumA {X : Cx} {e : Expr} {ta : TA} {p pos tpos : Pos} {elts : List Expr} {kk : Nat} (hg : Gl X "enumerate") (hm : X.mg "enumerate" = none) (ha : PA X [e] ta) (hs : starEach [e] X.env = [(false, eval e X.env)] := by rfl) :
    PI X (.Tuple elts kk tpos) (.Call (.Name "enumerate" p) [e] [] pos) (iEnumA X.K ta) := by
  refine ⟨fun pins s σ H R I h => ?_⟩
  refine Call_ (ld_blt I hg hm boot_enumerate (PyProof.Rows.callWith_type1 (thn (ha.run pos pins s σ H _ I h) fun us s1 ⟨vs, H1, I1, r1, q1⟩ => ?_) hs rfl))
  obtain ⟨a, xs, ex, q⟩ := q1
  subst ex
  obtain ⟨u, rfl, ru⟩ := vals1 r1
  cases (show u = Value.ref a from ru)
  have place : ∀ b ∈ [s1.heap.objs.size + 1, s1.heap.objs.size], FpOk X pins H1 b → True := fun _ _ _ => trivial
  rcases q with ⟨hq, q⟩ | ⟨hq, q⟩
  · obtain ⟨its, rv, p', hz⟩ := I1.list hq
    refine call_enumerate_list p'.isList fun h' he hit hsz hk => wpAny_pyIter_enum he ?_
    have I2 : Inv X pins σ H1 { s1 with heap := h' } := I1.kept (t' := s1.toks) hk
    refine ⟨s1.heap.objs.size + 1, [s1.heap.objs.size + 1, s1.heap.objs.size], _, _, H1, rfl, I2, turn_enum a (s1.heap.objs.size + 1) s1.heap.objs.size, ⟨⟨.none, he⟩, hit, Nat.succ_ne_self _⟩, fun b hb => ?_, q⟩
    have eb : b = s1.heap.objs.size + 1 ∨ b = s1.heap.objs.size := by simpa using hb
    have hle : s1.heap.objs.size ≤ b := eb.elim (fun z => z ▸ Nat.le_add_right _ _) (fun z => z ▸ Nat.le_refl _)
    exact I1.fpOk hle (I1.hok.fresh hle)
  · obtain ⟨its, rv, p', hz⟩ := I1.tuple hq
    have hlt : a < s1.heap.objs.size := p'.lt
    refine call_enum_one (begins_tuple a its.toArray) p' fun h' he hit hk => wpAny_pyIter_enum he ?_
    have I2 : Inv X pins σ H1 { s1 with heap := h' } := I1.kept (t' := s1.toks) hk
    refine ⟨s1.heap.objs.size + 1, [s1.heap.objs.size + 1, s1.heap.objs.size], _, _, H1, rfl, I2, turn_pairs a (s1.heap.objs.size + 1) s1.heap.objs.size (Nat.ne_of_gt (Nat.lt_succ_of_lt hlt)) (Nat.ne_of_lt hlt), ⟨⟨.none, he⟩, ⟨_, hit, rfl, rfl⟩, Nat.succ_ne_self _⟩, fun b hb => ?_, q⟩
    have eb : b = s1.heap.objs.size + 1 ∨ b = s1.heap.objs.size := by simpa using hb
    have hle : s1.heap.objs.size ≤ b := eb.elim (fun z => z ▸ Nat.le_add_right _ _) (fun z => z ▸ Nat.le_refl _)
    exact I1.fpOk hle (I1.hok.fresh hle)
end L2

namespace K0
open PySem PySem.Spec PyProof.Rows L2
def top (i : Nat) : Stmt := PySem.Challenge.pw_twiceslope_k00_errors_by_position_and_by.main.body.getD i (.Pass ⟨0, 0, 0, 0⟩)
abbrev sDeck : Stmt := top 14
abbrev sDraw : Stmt := top 15
abbrev sPick : Stmt := top 16
/-- the names of built-in things that stay so -/
structure Bt (mg : Str → Option Value) : Prop where
  int : mg "int" = none
  list : mg "list" = none
  tuple : mg "tuple" = none
  max : mg "max" = none
  len : mg "len" = none
  range : mg "range" = none
  repr : mg "repr" = none
  isi : mg "isinstance" = none
  enum : mg "enumerate" = none
  dict : mg "dict" = none
def dkv (x y z : V) : List (Key × V) := [(Sum.inr "left", x), (Sum.inr "mixed", y), (Sum.inr "draws", z)]
/-- a deck stands at dk, its list at l -/
def Deck (H : Hp) (dk l : Addr) : Prop := ∃ (ns : List Int) (m j : Int), H dk = some (.dK (dkv (.ref l) (.int m) (.int j))) ∧ H l = some (.lst (ns.map V.int)) ∧ ns.length ≤ 63
def Keep (dk l : Addr) (H H' : Hp) : Prop := ∀ b o, H b = some o → b ≠ dk → b ≠ l → H' b = some o
theorem Keep.of {dk l : Addr} {H H' : Hp} (h : Same H H') : Keep dk l H H' := fun b o e _ _ => h b o e
theorem Keep.trans {dk l : Addr} {H H1 H2 : Hp} (h : Keep dk l H H1) (k : Keep dk l H1 H2) : Keep dk l H H2 := fun b o e h1 h2 => k b o (h b o e h1 h2) h1 h2
theorem Deck.same {H H' : Hp} {dk l : Addr} (D : Deck H dk l) (h : Same H H') : Deck H' dk l := by
  obtain ⟨ns, m, j, h1, h2, h3⟩ := D
  exact ⟨ns, m, j, h _ _ h1, h _ _ h2, h3⟩
theorem Deck.ne {H : Hp} {dk l : Addr} (D : Deck H dk l) : dk ≠ l := by
  obtain ⟨ns, m, j, h1, h2, h3⟩ := D
  exact ne_of h1 h2 (by intro z; cases z)
theorem map_get {ns : List Int} {i : Nat} {y : V} (h : (ns.map V.int)[i]? = some y) : ∃ z : Int, ns[i]? = some z ∧ y = .int z := by
  rw [List.getElem?_map] at h
  cases e : ns[i]? with
  | none => rw [e] at h; cases h
  | some z => rw [e] at h; exact ⟨z, rfl, (Option.some.inj h).symm⟩
theorem cut_ints (ns : List Int) (lo hi : Option Int) : ∃ ms : List Int, cutV (ns.map V.int) lo hi = ms.map V.int ∧ ms.length ≤ ns.length := by
  unfold cutV
  refine ⟨(ns.drop (HT.sIx (ns.map V.int).length 0 lo)).take (HT.sIx (ns.map V.int).length (ns.map V.int).length hi - HT.sIx (ns.map V.int).length 0 lo), ?_, ?_⟩
  · rw [List.map_take, List.map_drop]
  · rw [List.length_take, List.length_drop]; omega
theorem snew {H : Hp} {p : Addr} {o : HO} (h : H p = none) : Same H (upd H p o) := fun b u e => by rw [upd_ne (ne_of_none e h)]; exact e
theorem kLM : ¬ (("left" : Str) = "mixed") := by decide +kernel
theorem kLD : ¬ (("left" : Str) = "draws") := by decide +kernel
theorem kMD : ¬ (("mixed" : Str) = "draws") := by decide +kernel
theorem deck3 (x y z : V) : mergeK [] (dkv x y z) = dkv x y z := by
  have h1 := kLM
  have h2 := kLD
  have h3 := kMD
  simp [mergeK, putK, dkv, h1, h2, h3]
def spDeck (K : PySem.W.Frag) : Sp := fun vs H Q _ => ∃ (a : Addr) (ns : List Int) (seed : Int), vs = [.ref a, .int seed] ∧ SqL K H a (ns.map V.int) ∧ ns.length ≤ 63 ∧
  ∀ (H' : Hp) (dk l : Addr), Deck H' dk l → Same H H' → H dk = none → H l = none → Q (.ref dk) H'
section
variable {P : Program} {w : World} {K : PySem.W.Frag} {mg : Str → Option Value} {base : Heap}
theorem scDeck : FnScope ["script", "seed", "mixed", "cell"] ["script", "seed"] (defScope sDeck) := ⟨rfl, rfl, rfl, by decide +kernel, rfl, by decide +kernel, by decide +kernel⟩
theorem ok_deck {f : Addr} {fd : FuncData} (F : Fun K "_law_deck" "_law_deck" sDeck f fd) (T : Bt mg) : FnOk P w K mg base CX0 1 f fd ["script", "seed"] (spDeck K) := by
  refine F.ok scDeck (fun vs H Q E h => ?_) (fun cdv A outer s H vs Q E hr h => ?_)
  · obtain ⟨a, ns, seed, rfl, _⟩ := h
    rfl
  · obtain ⟨a, ns, seed, rfl, hS, hl, k⟩ := h
    refine ⟨_, pss_cons (ps_set (i := 2) scDeck.nd rfl (Or.inl rfl) (pv 1))
      (pss_cons (ps_for PassesOwn.never rfl (pi_list (pe_slice sl_list (pv 0) po_none (po_some pe_int))) (pg_name (i := 3) scDeck.nd rfl (Or.inl rfl))
        (pss_one (ps_set (i := 2) scDeck.nd rfl (Or.inl rfl) (pe_op op_mod (pe_callTy call_int1 (by rfl) T.int (by decide +kernel) (pa_cons
          (pe_op op_add (pe_op op_add (pe_op op_mul (pv 2) pe_int) (pe_op op_mod (pe_callTy call_int1 (by rfl) T.int (by decide +kernel) (pa_cons (pv 3) pa_nil)) pe_int)) pe_int) pa_nil)) pe_int))))
      (pss_one (ps_ret (pe_disp (pps_cons pe_str (pe_revL (pe_callTy call_list_of (by rfl) T.list (by decide +kernel) (pa_cons (pe_slice sl_list (pv 0) po_none (po_some pe_int)) pa_nil)))
        (pps_cons pe_str (pv 2) (pps_cons pe_str pe_int pps_nil))) (by rfl) (by rfl) (fun z => by cases z) (by decide))))), ?_⟩
    obtain ⟨ms, em, hm⟩ := cut_ints ns none (some 63)
    refine ⟨_, rfl, _, rfl, _, rfl, a, _, rfl, hS, fun p hp => ⟨p, rfl, ⟨_, SqL.of upd_same⟩, ?_⟩⟩
    rw [em]
    refine for_list (K := K) (a := p) (xs := ms.map V.int) (fun i σ H' => ∃ (m : Int) (v : Option V), σ = [some (.ref a), some (.int seed), some (.int m), v] ∧ H' = upd H p (.lst (ms.map V.int)))
      ⟨seed, none, rfl, rfl⟩ (fun i σ H' _ ⟨_, _, _, e⟩ => by rw [e]; exact SqL.of upd_same) ?_ ?_
    · rintro i y σ H' hi ⟨m, v, rfl, rfl⟩
      obtain ⟨z, hz, rfl⟩ := map_get hi
      refine ⟨_, rfl, _, _, rfl, rfl, .inr ⟨by decide, by decide⟩, ?_⟩
      refine ⟨_, rfl, .inl ⟨_, rfl, ?_⟩⟩
      refine ⟨_, _, rfl, rfl, (by show (0 : Int) < 2147483647; decide), ?_⟩
      refine ⟨_, _, rfl, rfl, _, _, rfl, rfl, .inl ⟨_, rfl, ?_⟩⟩
      exact ⟨_, _, rfl, rfl, (by show (0 : Int) < 2147483563; decide), _, _, rfl, rfl⟩
    · rintro σ H' ⟨m, v, rfl, rfl⟩
      have s1 : Same H (upd H p (.lst (ms.map V.int))) := snew hp
      intro d hd
      refine ⟨_, rfl, _, rfl, a, ns.map V.int, rfl, (s1.trans (snew hd)).seq hS, fun p2 hp2 => ?_⟩
      refine ⟨p2, _, rfl, .inl (SqL.of upd_same), fun p3 hp3 => ?_⟩
      refine ⟨p3, _, rfl, SqL.of upd_same, fun p4 hp4 => ?_⟩
      have f3 := (snew hp3).free hp4
      have f2 := (snew hp2).free f3
      have s4 : Same (upd (upd H p (.lst (ms.map V.int))) d (.dK [])) _ := ((snew hp2).trans (snew hp3)).trans (snew (o := .lst (cutV (ns.map V.int) none (some 63)).reverse) hp4)
      rw [em] at s4 ⊢
      have nd4 : d ≠ p4 := ne_of_none upd_same f2
      refine ⟨_, rfl, s4 _ _ upd_same, dkv (.ref p4) (.int m) (.int 0), rfl, (by show 3 ≤ 15; decide), ?_⟩
      have e4 := deck3 (.ref p4) (.int m) (.int 0)
      refine k _ d p4 ⟨ms.reverse, m, 0, ?_, ?_, ?_⟩ ?_ (s1.free hd) (s1.free ((snew hd).free f2))
      · exact upd_same.trans (congrArg (fun l => some (HO.dK l)) e4)
      · rw [upd_ne nd4.symm, List.map_reverse]; exact upd_same
      · rw [List.length_reverse]; omega
      · intro b o e
        have e1 := s1 b o e
        rw [upd_ne (ne_of_none e1 hd)]
        exact s4 _ _ (snew hd _ _ e1)
end
end K0

namespace K0
open PySem PySem.Spec PyProof.Rows L2
theorem val_left (x y z : V) : valV (dkv x y z) (Sum.inr "left" : Key) = some x := valV_pos rfl
theorem val_mixed (x y z : V) : valV (dkv x y z) (Sum.inr "mixed" : Key) = some y := by
  unfold dkv
  rw [valV_neg (by show ¬ (Sum.inr ("left" : Str) : Key) = Sum.inr ("mixed" : Str); exact fun e => kLM (Sum.inr.inj e)), valV_pos rfl]
theorem val_draws (x y z : V) : valV (dkv x y z) (Sum.inr "draws" : Key) = some z := by
  unfold dkv
  rw [valV_neg (by show ¬ (Sum.inr ("left" : Str) : Key) = Sum.inr ("draws" : Str); exact fun e => kLD (Sum.inr.inj e)),
    valV_neg (by show ¬ (Sum.inr ("mixed" : Str) : Key) = Sum.inr ("draws" : Str); exact fun e => kMD (Sum.inr.inj e)), valV_pos rfl]
theorem put_draws (x y z v : V) : putK (dkv x y z) (Sum.inr "draws" : Key) v = dkv x y v := by
  have h1 := kLD
  have h2 := kMD
  simp [putK, dkv, h1, h2]
theorem put_mixed (x y z v : V) : putK (dkv x y z) (Sum.inr "mixed" : Key) v = dkv x v z := by
  have h1 := kLM
  have h2 : ¬ (("draws" : Str) = "mixed") := fun e => kMD e.symm
  simp [putK, dkv, h1, h2]
theorem dk_get {H : Hp} {d : Addr} {x y z : V} {k : Str} {v : V} (h : H d = some (.dK (dkv x y z))) (e : valV (dkv x y z) (Sum.inr k : Key) = some v) : DGet H d (.str k) (some v) := by
  rw [← e]
  exact DGet.k (k := Sum.inr k) h
theorem dk_put {H : Hp} {d : Addr} {x y z : V} {k : Str} {v : V} {l : List (Key × V)} (h : H d = some (.dK (dkv x y z))) (e : putK (dkv x y z) (Sum.inr k : Key) v = l) : DPut H d (.str k) v (upd H d (.dK l)) := by
  rw [← e]
  exact DPut.k (k := Sum.inr k) h (by show 3 < sizeLine; rw [sizeLine_eq]; decide)
theorem ints_lay : ∀ ns : List Int, PyData.canLayAll0 (ns.map PyData.int) = true
  | [] => by simp [PyData.canLayAll0]
  | z :: zs => by simp [PyData.canLayAll0, PyData.canLay0, ints_lay zs]
theorem ints_deep : ∀ ns : List Int, PyData.depthAll (ns.map PyData.int) = 0
  | [] => by simp [PyData.depthAll]
  | z :: zs => by simp [PyData.depthAll, PyData.depth, ints_deep zs]
theorem ints_shaped (ns : List Int) : SeqAt.shaped (.list (ns.map PyData.int)) = true := by
  have h1 := ints_deep ns
  show (PyData.canLay0 (.list (ns.map PyData.int)) && decide (PyData.depth (.list (ns.map PyData.int)) ≤ 64)) = true
  rw [Bool.and_eq_true]
  exact ⟨by simp only [PyData.canLay0]; exact ints_lay ns, decide_eq_true (by simp only [PyData.depth]; omega)⟩
theorem nil_shaped : SeqAt.shaped (.list []) = true := ints_shaped []
theorem eqv_nil (ds : List PyData) : PyData.eqv (.list ds) (.list []) = ds.isEmpty := by
  cases ds <;> simp [PyData.eqv, PyData.eqvAll]
theorem ints_dp {K : PySem.W.Frag} {H : Hp} : ∀ ns : List Int, DpAll K H (ns.map V.int) (ns.map PyData.int)
  | [] => .nil
  | z :: zs => .cons (.int z) (ints_dp zs)
/-- a draw: some number below many; the deck alone changes -/
def spDraw : Sp := fun vs H Q _ => ∃ (dk l : Addr) (many : Int), vs = [.ref dk, .int many] ∧ Deck H dk l ∧ 0 < many ∧ many < 1073741824 ∧
  ∀ (r : Int) (H' : Hp), 0 ≤ r → r < many → Deck H' dk l → Keep dk l H H' → Q (.int r) H'
section
variable {P : Program} {w : World} {K : PySem.W.Frag} {mg : Str → Option Value} {base : Heap}
theorem scDraw : FnScope ["deck", "many", "cell", "figure"] ["deck", "many"] (defScope sDraw) := ⟨rfl, rfl, rfl, by decide +kernel, rfl, by decide +kernel, by decide +kernel⟩
theorem ok_draw {f : Addr} {fd : FuncData} (F : Fun K "_law_draw" "_law_draw" sDraw f fd) (T : Bt mg) : FnOk P w K mg base CX0 1 f fd ["deck", "many"] spDraw := by
  refine F.ok scDraw (fun vs H Q E h => ?_) (fun cdv A outer s H vs Q E hr h => ?_)
  · obtain ⟨dk, l, many, rfl, _⟩ := h
    rfl
  · obtain ⟨dk, l, many, rfl, D, m0, m1, k⟩ := h
    have hu := hu_of hr
    refine ⟨_, pss_cons (ps_dput hu (pv 0) pe_str (pe_op op_add (pe_dget hu (pv 0) pe_str (fun _ _ => rfl)) pe_int) rfl)
      (C8.pss_cut (ps_if (pt_cmpR (op_neD hr.units) (pe_dget hu (pv 0) pe_str (fun _ _ => rfl)) (pe_lst pa_nil) (nomark _))
        (pss_cons (ps_set (i := 2) scDraw.nd rfl (Or.inl rfl) (pe_bm0 PySem.F.plainAttrs_list PySem.F.slot_list_pop PySem.F.type_list_pop mt_pop (pe_dget hu (pv 0) pe_str (fun _ _ => rfl))))
        (pss_cons (ps_if (pt_cmpR op_ge (pv 2) (pe_op op_pow pe_int pe_int) (nomark _))
          (pss_cons (ps_expr (pe_bm PySem.F.plainAttrs_list PySem.F.slot_list_append PySem.F.type_list_append mt_append (pe_dget hu (pv 0) pe_str (fun _ _ => rfl))
            (pa_cons (pe_op op_fdiv (pv 2) (pe_callB (call_max2 rfl) (by rfl) T.max (by decide +kernel) (pa_cons pe_int (pa_cons (pv 1) pa_nil)))) pa_nil)))
          (pss_one (ps_ret (pe_op op_mod (pe_callTy call_int1 (by rfl) T.int (by decide +kernel) (pa_cons (pv 2) pa_nil)) (pv 1))))) pss_nil)
        (pss_one (ps_dput hu (pv 0) pe_str (pe_op op_mod (pe_callTy call_int1 (by rfl) T.int (by decide +kernel) (pa_cons
          (pe_op op_add (pe_op op_add (pe_op op_mul (pe_dget hu (pv 0) pe_str (fun _ _ => rfl)) pe_int) (pe_op op_mod (pe_callTy call_int1 (by rfl) T.int (by decide +kernel) (pa_cons (pv 2) pa_nil)) pe_int)) pe_int) pa_nil)) pe_int) rfl)))) pss_nil)
      (pss_cons (ps_set (i := 3) scDraw.nd rfl (Or.inl rfl) (pe_op op_mod (pe_callTy call_int1 (by rfl) T.int (by decide +kernel) (pa_cons
        (pe_op op_add (pe_dget hu (pv 0) pe_str (fun _ _ => rfl)) (pe_op op_mul pe_int (pe_dget hu (pv 0) pe_str (fun _ _ => rfl)))) pa_nil)) pe_int))
      (pss_cons (ps_set (i := 3) scDraw.nd rfl (Or.inl rfl) (pe_op op_mod (pe_callTy call_int1 (by rfl) T.int (by decide +kernel) (pa_cons
        (pe_op op_add (pe_op op_add (pe_op op_mul (pv 3) (pv 3)) (pe_op op_mul pe_int (pe_dget hu (pv 0) pe_str (fun _ _ => rfl)))) pe_int) pa_nil)) pe_int))
      (pss_cons (ps_set (i := 3) scDraw.nd rfl (Or.inl rfl) (pe_op op_mod (pe_callTy call_int1 (by rfl) T.int (by decide +kernel) (pa_cons
        (pe_op op_add (pe_op op_mul (pv 3) pe_int) pe_int) pa_nil)) pe_int))
      (pss_one (ps_ret (pe_op op_mod (pe_callTy call_int1 (by rfl) T.int (by decide +kernel) (pa_cons (pe_op op_fdiv (pv 3) pe_int) pa_nil)) (pv 1)))))))), ?_⟩
    obtain ⟨ns, m, j, h1, h2, h3⟩ := id D
    have ne := D.ne
    refine ⟨_, rfl, dk, _, rfl, dk_get h1 (val_draws _ _ _), _, _, rfl, rfl, _, rfl, dk, _, rfl, dk_put h1 (put_draws _ _ _ _), ?_⟩
    have g1 : (upd H dk (.dK (dkv (.ref l) (.int m) (.int (j + 1))))) dk = some (.dK (dkv (.ref l) (.int m) (.int (j + 1)))) := upd_same
    have g2 : (upd H dk (.dK (dkv (.ref l) (.int m) (.int (j + 1))))) l = some (.lst (ns.map V.int)) := by rw [upd_ne ne.symm]; exact h2
    have kp : Keep dk l H (upd H dk (.dK (dkv (.ref l) (.int m) (.int (j + 1))))) := fun b o e hb _ => by rw [upd_ne hb]; exact e
    refine ⟨fun σ' H' => ∃ c : Option V, σ' = [some (.ref dk), some (.int many), c, none] ∧ Deck H' dk l ∧ Keep dk l H H', ?_, ?_⟩
    · refine ⟨_, rfl, dk, _, rfl, dk_get g1 (val_left _ _ _), ?_⟩
      refine ⟨(by show 0 ≤ sizeLine; exact Nat.zero_le _), fun p hp => ⟨.list (ns.map PyData.int), .list [], .lst (SqL.of ((snew hp) _ _ g2)) (ints_dp ns), .lst (SqL.of upd_same) .nil, ints_shaped ns, nil_shaped, _, rfl, ?_⟩⟩
      rw [eqv_nil]
      have sp := snew (o := .lst []) hp
      have q1 := sp _ _ g1
      have q2 := sp _ _ g2
      have kp1 := kp.trans (Keep.of sp)
      cases ns with
      | nil =>
        refine iteF ?_
        exact ⟨none, rfl, ⟨[], m, j + 1, q1, q2, h3⟩, kp1⟩
      | cons z zs =>
        refine iteT ?_
        obtain ⟨H1, eH1⟩ : ∃ H1, upd (upd H dk (.dK (dkv (.ref l) (.int m) (.int (j + 1))))) p (.lst []) = H1 := ⟨_, rfl⟩
        rw [eH1] at q1 q2 kp1
        show (tSeq _ _) _ _ (upd (upd H dk (.dK (dkv (.ref l) (.int m) (.int (j + 1))))) p (.lst []))
        rw [eH1]
        obtain ⟨y, hy⟩ : ∃ y : Int, ((z :: zs).map V.int)[((z :: zs).map V.int).length - 1]? = some (.int y) := by
          rw [List.length_map, List.getElem?_map]
          have hlt : (z :: zs).length - 1 < (z :: zs).length := by show zs.length < zs.length + 1; omega
          exact ⟨(z :: zs)[(z :: zs).length - 1], by rw [List.getElem?_eq_getElem hlt]; rfl⟩
        have hdl : ((z :: zs).map V.int).dropLast = ((z :: zs).dropLast).map V.int := by rw [List.map_dropLast]
        have hlen : ((z :: zs).dropLast).length ≤ 62 := by rw [List.length_dropLast]; omega
        refine ⟨_, rfl, dk, _, rfl, dk_get q1 (val_left _ _ _), .inl ⟨rfl, _, .inl (.inl q2)⟩, l, _, _, rfl, rfl, q2, hy, ?_⟩
        rw [hdl]
        have n1 : (upd H1 l (.lst (((z :: zs).dropLast).map V.int))) dk = some (.dK (dkv (.ref l) (.int m) (.int (j + 1)))) := by rw [upd_ne ne]; exact q1
        have kp2 : Keep dk l H (upd H1 l (.lst (((z :: zs).dropLast).map V.int))) := fun b o e hb hl => by rw [upd_ne hl]; exact kp1 b o e hb hl
        refine ⟨_, rfl, _, _, rfl, rfl, ⟨by decide, by decide, by decide⟩, _, _, rfl, rfl, _, rfl, ite2 (fun _ => ?_) (fun _ => ?_)⟩
        · refine ⟨_, rfl, dk, _, rfl, dk_get n1 (val_left _ _ _), .inl ⟨rfl, _, .inl (.inl upd_same)⟩, ?_⟩
          refine ⟨_, rfl, _, rfl, _, _, rfl, ?_⟩
          have cd : CDiv y (if many > 2 then many else 2) := by
            by_cases c : many > 2
            · rw [if_pos c]; exact ⟨m0, m1⟩
            · rw [if_neg c]; exact ⟨by decide, by decide⟩
          obtain ⟨by_, eby⟩ : ∃ b, (if many > 2 then many else 2) = b := ⟨_, rfl⟩
          rw [eby] at cd
          refine ⟨y, by_, rfl, (by rw [← eby]), cd, l, _, _, rfl, rfl, upd_same, small1000 (by rw [List.length_map]; omega), ?_⟩
          refine ⟨_, rfl, .inl ⟨_, rfl, _, rfl, _, _, rfl, rfl, m0, ?_⟩⟩
          refine k _ _ (Int.emod_nonneg _ (by omega)) (Int.emod_lt_of_pos _ m0) ⟨(z :: zs).dropLast ++ [y / by_], m, j + 1, ?_, ?_, ?_⟩ fun b o e hb hl => ?_
          · rw [upd_ne ne]; exact n1
          · rw [upd_same, List.map_append]; rfl
          · rw [List.length_append]; show _ + 1 ≤ 63; omega
          · rw [upd_ne hl]; exact kp2 b o e hb hl
        · refine ⟨_, rfl, dk, _, rfl, dk_get n1 (val_mixed _ _ _), _, _, rfl, rfl, .inr ⟨by decide, by decide⟩, ?_⟩
          refine ⟨_, rfl, .inl ⟨_, rfl, _, _, rfl, rfl, (by show (0 : Int) < 2147483629; decide), _, _, rfl, rfl, _, _, rfl, rfl, .inl ⟨_, rfl, _, _, rfl, rfl, (by show (0 : Int) < 2147483587; decide), ?_⟩⟩⟩
          refine ⟨_, rfl, dk, _, rfl, dk_put n1 (put_mixed _ _ _ _), some (.int y), rfl, ⟨(z :: zs).dropLast, _, j + 1, upd_same, ?_, by omega⟩, fun b o e hb hl => ?_⟩
          · rw [upd_ne ne.symm]; exact upd_same
          · rw [upd_ne hb]; exact kp2 b o e hb hl
    · rintro σ' H' ⟨c, rfl, ⟨ns', m', j', e1, e2, e3⟩, kp'⟩
      refine ⟨_, rfl, dk, _, rfl, dk_get e1 (val_mixed _ _ _), _, rfl, dk, _, rfl, dk_get e1 (val_draws _ _ _), _, _, rfl, rfl, .inl ⟨by decide, by decide⟩, ?_⟩
      refine ⟨_, _, rfl, rfl, .inl ⟨_, rfl, _, _, rfl, rfl, (by show (0 : Int) < 2147483647; decide), ?_⟩⟩
      have b1 := Int.emod_nonneg (m' + 31337 * j') (show (2147483647 : Int) ≠ 0 by decide)
      have b2 := Int.emod_lt_of_pos (m' + 31337 * j') (show (0 : Int) < 2147483647 by decide)
      refine ⟨_, rfl, _, rfl, _, _, rfl, rfl, .inl ⟨by omega, by omega⟩, ?_⟩
      refine ⟨_, rfl, dk, _, rfl, dk_get e1 (val_draws _ _ _), _, _, rfl, rfl, .inl ⟨by decide, by decide⟩, _, _, rfl, rfl, _, _, rfl, rfl, .inl ⟨_, rfl, _, _, rfl, rfl, (by show (0 : Int) < 2147483629; decide), ?_⟩⟩
      refine ⟨_, rfl, _, _, rfl, rfl, .inr ⟨by decide, by decide⟩, _, _, rfl, rfl, .inl ⟨_, rfl, _, _, rfl, rfl, (by show (0 : Int) < 2147483563; decide), ?_⟩⟩
      refine ⟨_, rfl, _, _, rfl, rfl, ⟨by decide, by decide⟩, .inl ⟨_, rfl, _, rfl, _, _, rfl, rfl, m0, ?_⟩⟩
      exact k _ _ (Int.emod_nonneg _ (by omega)) (Int.emod_lt_of_pos _ m0) ⟨ns', m', j', e1, e2, e3⟩ kp'
end
end K0

namespace K0
open PySem PySem.Spec PyProof.Rows L2
/-- a def as callers know it -/
structure Kn (P : Program) (w : World) (K : PySem.W.Frag) (mg : Str → Option Value) (base : Heap) (k : Nat) (x : Str) (ps : List Str) (sp : Sp) (f : Addr) (fd : FuncData) : Prop where
  ok : FnOk P w K mg base CX0 k f fd ps sp
  mg : mg x = some (.ref f)
  kp : PySem.W.keepIn K (.ref f) = true
  bd : Binds K fd ps []
theorem keepL {K : PySem.W.Frag} {dk l p : Addr} {H H' : Hp} {xs : List V} (k : Keep dk l H H') (h1 : p ≠ dk) (h2 : p ≠ l) (h : SqL K H p xs) : SqL K H' p xs := by
  rcases h with (h | ⟨o, h⟩) | h
  · exact .inl (.inl (k _ _ h h1 h2))
  · exact .inl (.inr ⟨o, k _ _ h h1 h2⟩)
  · exact .inr h
/-- one item of a list, any -/
def spPick (K : PySem.W.Frag) : Sp := fun vs H Q _ => ∃ (dk l p : Addr) (xs : List V), vs = [.ref dk, .ref p] ∧ Deck H dk l ∧ SqL K H p xs ∧ p ≠ dk ∧ p ≠ l ∧ xs ≠ [] ∧ xs.length < 1073741824 ∧
  ∀ (x : V) (H' : Hp), x ∈ xs → Deck H' dk l → Keep dk l H H' → Q x H'
section
variable {P : Program} {w : World} {K : PySem.W.Frag} {mg : Str → Option Value} {base : Heap}
theorem scPick : FnScope ["deck", "some"] ["deck", "some"] (defScope sPick) := ⟨rfl, rfl, rfl, by decide +kernel, rfl, by decide +kernel, by decide +kernel⟩
theorem ok_pick {f fD : Addr} {fd fdD : FuncData} (F : Fun K "_law_pick" "_law_pick" sPick f fd) (T : Bt mg) (D : Kn P w K mg base 1 "_law_draw" ["deck", "many"] spDraw fD fdD) : FnOk P w K mg base CX0 2 f fd ["deck", "some"] (spPick K) := by
  refine F.ok scPick (fun vs H Q E h => ?_) (fun cdv A outer s H vs Q E hr h => ?_)
  · obtain ⟨dk, l, p, xs, rfl, _⟩ := h
    rfl
  · obtain ⟨dk, l, p, xs, rfl, De, hS, n1, n2, ne, hl, k⟩ := h
    refine ⟨_, pss_one (ps_ret (pe_ix ix_list (pv 1) (pe_call D.ok hr rfl D.mg D.kp D.bd .nil pass0 (pa_cons (pv 0) (pa_cons (pe_callB call_len_seq (by rfl) T.len PySem.boot_len (pa_cons (pv 1) pa_nil)) pa_nil))) (fun _ _ => rfl))), ?_⟩
    have hpos : 0 < xs.length := List.length_pos_iff.mpr ne
    refine ⟨_, rfl, _, rfl, _, rfl, p, _, rfl, .inl hS, dk, l, (xs.length : Int), rfl, De, by omega, by omega, fun r H' r0 r1 De' kp => ?_⟩
    obtain ⟨j, rfl⟩ : ∃ j : Nat, r = (j : Int) := ⟨r.toNat, by omega⟩
    have hj : j < xs.length := by omega
    exact ⟨p, xs, _, _, rfl, rfl, keepL kp n1 n2 hS, atI_nat (List.getElem?_eq_getElem hj), k _ H' (List.getElem_mem hj) De' kp⟩
end
/-! ### data that is drawn -/
/-- data of a depth: None, bools, ints, texts; lists, tuples and dicts of such -/
def Nice (H : Hp) : Nat → V → Prop
  | _, .non => True
  | _, .bl _ => True
  | _, .int i => i.natAbs.log2 < 1920
  | _, .str x => (PySem.reprText x).length ≤ sizeLine
  | n + 1, .ref a => (∃ vs, H a = some (.lst vs) ∧ ∀ v ∈ vs, Nice H n v) ∨ (∃ vs, H a = some (.tup vs) ∧ ∀ v ∈ vs, Nice H n v) ∨ (∃ kvs : List (Key × V), H a = some (.dK kvs) ∧ (kvs.map (·.1)).Nodup ∧ ∀ p ∈ kvs, Nice H n p.2)
  | _, _ => False
theorem Nice.mono {H H' : Hp} (h : Same H H') : ∀ {n m : Nat} {v : V}, n ≤ m → Nice H n v → Nice H' m v := by
  intro n
  induction n with
  | zero =>
    intro m v hm hv
    cases v with
    | non => cases m <;> trivial
    | bl b => cases m <;> trivial
    | int i => cases m <;> exact hv
    | str x => cases m <;> exact hv
    | _ => exact hv.elim
  | succ n ih =>
    intro m v hm hv
    cases v with
    | non => cases m <;> trivial
    | bl b => cases m <;> trivial
    | int i => cases m <;> exact hv
    | str x => cases m <;> exact hv
    | ref a =>
      cases m with
      | zero => omega
      | succ m =>
        rcases hv with ⟨vs, e, q⟩ | ⟨vs, e, q⟩ | ⟨kvs, e, nd, q⟩
        · exact .inl ⟨vs, h _ _ e, fun v hv => ih (by omega) (q v hv)⟩
        · exact .inr (.inl ⟨vs, h _ _ e, fun v hv => ih (by omega) (q v hv)⟩)
        · exact .inr (.inr ⟨kvs, h _ _ e, nd, fun v hv => ih (by omega) (q v hv)⟩)
    | _ => exact hv.elim
/-- what is new since -/
def new (H H' : Hp) : Hp := fun b => if H b = none then H' b else none
theorem new_at {H H' : Hp} {b : Addr} {o : HO} (h : H b = none) (e : H' b = some o) : new H H' b = some o := by
  unfold new
  rw [if_pos h]; exact e
theorem of_new {H H' : Hp} {b : Addr} {o : HO} (e : new H H' b = some o) : H b = none ∧ H' b = some o := by
  unfold new at e
  by_cases c : H b = none
  · rw [if_pos c] at e; exact ⟨c, e⟩
  · rw [if_neg c] at e; cases e
/-- what was there is there -/
def There (H H' : Hp) : Prop := ∀ b, H' b = none → H b = none
theorem Same.there {H H' : Hp} (h : Same H H') : There H H' := fun b e => h.free e
theorem There.trans {H H1 H2 : Hp} (h : There H H1) (k : There H1 H2) : There H H2 := fun b e => h b (k b e)
theorem Keep.there {dk l : Addr} {H H' : Hp} (k : Keep dk l H H') (D' : Deck H' dk l) : There H H' := fun b e => by
  cases q : H b with
  | none => rfl
  | some o =>
    obtain ⟨ns, m, j, h1, h2, _⟩ := D'
    by_cases c1 : b = dk
    · rw [c1, h1] at e; cases e
    · by_cases c2 : b = l
      · rw [c2, h2] at e; cases e
      · rw [k b o q c1 c2] at e; cases e
theorem new_back {H0 H H' : Hp} (t : There H0 H) : Same (new H H') (new H0 H') := fun b o e => new_at (t b (of_new e).1) (of_new e).2
theorem new_on {dk l : Addr} {H0 H H' : Hp} (k : Keep dk l H H') (h1 : H0 dk ≠ none) (h2 : H0 l ≠ none) : Same (new H0 H) (new H0 H') := fun b o e => by
  obtain ⟨e1, e2⟩ := of_new e
  exact new_at e1 (k b o e2 (fun z => h1 (z ▸ e1)) (fun z => h2 (z ▸ e1)))
theorem new_upd {H0 H : Hp} {d : Addr} {o : HO} (h : H0 d ≠ none) : Same (new H0 H) (new H0 (upd H d o)) := fun b u e => by
  obtain ⟨e1, e2⟩ := of_new e
  exact new_at e1 (by rw [upd_ne (fun z => h (by rw [← z]; exact e1))]; exact e2)
theorem new_same {H0 H H' : Hp} (h : Same H H') : Same (new H0 H) (new H0 H') := fun b o e => new_at (of_new e).1 (h _ _ (of_new e).2)
theorem Deck.some1 {H : Hp} {dk l : Addr} (D : Deck H dk l) : H dk ≠ none ∧ H l ≠ none := by
  obtain ⟨ns, m, j, h1, h2, _⟩ := D
  exact ⟨(by rw [h1]; exact fun z => nomatch z), by rw [h2]; exact fun z => nomatch z⟩
/-- any value: nice data, all of it new; the deck alone changes -/
def spAny (n : Nat) : Sp := fun vs H Q _ => ∃ (dk l : Addr), vs = [.ref dk, .int (n : Int)] ∧ Deck H dk l ∧
  ∀ (v : V) (H' : Hp), Nice (new H H') (2 * n + 2) v → Deck H' dk l → Keep dk l H H' → Q v H'
def spPrev : Nat → Sp
  | 0 => fun _ _ _ _ => False
  | n + 1 => spAny n
theorem fn_false {P : Program} {w : World} {K : PySem.W.Frag} {mg : Str → Option Value} {base : Heap} {CX : CXT} {k : Nat} {f : Addr} {fd : FuncData} {ps : List Str} : FnOk P w K mg base CX k f fd ps (fun _ _ _ _ => False) :=
  ⟨fun _ _ _ _ h => h.elim, fun _ _ _ _ _ _ _ _ _ _ _ _ _ h => h.elim⟩
theorem nice_in (H : Hp) (n : Nat) (i : Int) (h : i.natAbs.log2 < 1920) : Nice H n (.int i) := by cases n <;> exact h
theorem nice_st (H : Hp) (n : Nat) (x : Str) (h : (PySem.reprText x).length ≤ sizeLine) : Nice H n (.str x) := by cases n <;> exact h
theorem nice_bl (H : Hp) (n : Nat) (b : Bool) : Nice H n (.bl b) := by cases n <;> trivial
theorem nice_no (H : Hp) (n : Nat) : Nice H n .non := by cases n <;> trivial
end K0

namespace K0
open PySem PySem.Spec PyProof.Rows L2
abbrev sAny : Stmt := top 17
def akv (x y : V) : List (Key × V) := [(Sum.inr "key", x), (Sum.inl 1, y)]
theorem akv_merge (x y : V) : mergeK [] (akv x y) = akv x y := by simp [mergeK, putK, akv]
theorem akv_nd (x y : V) : ((akv x y).map (·.1)).Nodup := by simp [akv]
theorem nice_ints (H : Hp) (n : Nat) : ∀ x ∈ ([.int 0, .int 1, .int (-1), .int 7, .int (4 * 10 ^ (38 : Int).toNat), .int (-10 ^ (20 : Int).toNat), .int 2, .int 63] : List V), Nice H n x := by
  intro x hx
  simp only [List.mem_cons, List.not_mem_nil, or_false] at hx
  rcases hx with rfl | rfl | rfl | rfl | rfl | rfl | rfl | rfl <;> exact nice_in H n _ (by decide +kernel)
theorem nice_strs (H : Hp) (n : Nat) : ∀ x ∈ ([.str "", .str "a", .str "(0, 1)", .str "1/2", .str "x\ny", .str "~"] : List V), Nice H n x := by
  intro x hx
  simp only [List.mem_cons, List.not_mem_nil, or_false] at hx
  rcases hx with rfl | rfl | rfl | rfl | rfl | rfl <;> exact nice_st H n _ (by decide +kernel)
theorem nice_flags (H : Hp) (n : Nat) : ∀ x ∈ ([.bl true, .bl false, .non] : List V), Nice H n x := by
  intro x hx
  simp only [List.mem_cons, List.not_mem_nil, or_false] at hx
  rcases hx with rfl | rfl | rfl
  · exact nice_bl H n _
  · exact nice_bl H n _
  · exact nice_no H n
/-- a pick out of a list that was just written -/
theorem pick_new {K : PySem.W.Frag} {dk l p : Addr} {H1 : Hp} {xs : List V} {Q : VK} {E : XK} (D : Deck H1 dk l) (hp : H1 p = none) (ne : xs ≠ []) (hl : xs.length < 1073741824)
    (k : ∀ (x : V) (H' : Hp), x ∈ xs → Deck H' dk l → Keep dk l H1 H' → Q x H') : spPick K [.ref dk, .ref p] (upd H1 p (.lst xs)) Q E :=
  ⟨dk, l, p, xs, rfl, D.same (snew hp), SqL.of upd_same, (fun z => D.some1.1 (z ▸ hp)), (fun z => D.some1.2 (z ▸ hp)), ne, hl, fun x H' hx D' kp => k x H' hx D' ((Keep.of (snew hp)).trans kp)⟩
section
variable {P : Program} {w : World} {K : PySem.W.Frag} {mg : Str → Option Value} {base : Heap}
theorem scAny : FnScope ["deck", "deep", "way", "some", "turn"] ["deck", "deep"] (defScope sAny) := ⟨rfl, rfl, rfl, by decide +kernel, rfl, by decide +kernel, by decide +kernel⟩
theorem ok_any {n : Nat} {f fD fP : Addr} {fd fdD fdP : FuncData} (F : Fun K "_law_any" "_law_any" sAny f fd) (T : Bt mg) (D : Kn P w K mg base 1 "_law_draw" ["deck", "many"] spDraw fD fdD) (Pk : Kn P w K mg base 2 "_law_pick" ["deck", "some"] (spPick K) fP fdP)
    (R : Kn P w K mg base (n + 2) "_law_any" ["deck", "deep"] (spPrev n) f fd) : FnOk P w K mg base CX0 (n + 3) f fd ["deck", "deep"] (spAny n) := by
  refine F.ok scAny (fun vs H Q E h => ?_) (fun cdv A outer s H vs Q E hr h => ?_)
  · obtain ⟨dk, l, rfl, _⟩ := h
    rfl
  · obtain ⟨dk, l, rfl, De, k⟩ := h
    have hu := hu_of hr
    have hr1 : Room 1 _ := hr.mono (by omega)
    have hr2 : Room 2 _ := hr.mono (by omega)
    refine ⟨_, pss_cons (ps_set (i := 2) scAny.nd rfl (Or.inl rfl) (pe_call D.ok hr1 rfl D.mg D.kp D.bd .nil pass0 (pa_cons (pv 0) (pa_cons pe_int pa_nil))))
      (pss_cons (ps_if (pt_cmpR op_lt (pv 2) pe_int (nomark _)) (pss_one (ps_ret (pe_call Pk.ok hr2 rfl Pk.mg Pk.kp Pk.bd .nil pass0 (pa_cons (pv 0) (pa_cons
        (pe_lst (pa_cons pe_int (pa_cons pe_int (pa_cons (pe_un un_neg pe_int) (pa_cons pe_int (pa_cons (pe_op op_mul pe_int (pe_op op_pow pe_int pe_int)) (pa_cons (pe_un un_neg (pe_op op_pow pe_int pe_int)) (pa_cons pe_int (pa_cons pe_int pa_nil))))))))) pa_nil))))) pss_nil)
      (pss_cons (ps_if (pt_cmpR op_lt (pv 2) pe_int (nomark _)) (pss_one (ps_ret (pe_call Pk.ok hr2 rfl Pk.mg Pk.kp Pk.bd .nil pass0 (pa_cons (pv 0) (pa_cons
        (pe_lst (pa_cons pe_str (pa_cons pe_str (pa_cons pe_str (pa_cons pe_str (pa_cons pe_str (pa_cons pe_str pa_nil))))))) pa_nil))))) pss_nil)
      (pss_cons (ps_if (pt_cmpR op_eq (pv 2) pe_int (nomark _)) (pss_one (ps_ret (pe_call Pk.ok hr2 rfl Pk.mg Pk.kp Pk.bd .nil pass0 (pa_cons (pv 0) (pa_cons
        (pe_lst (pa_cons pe_bl (pa_cons pe_bl (pa_cons pe_non pa_nil)))) pa_nil))))) pss_nil)
      (C8.pss_cut (ps_set (i := 3) scAny.nd rfl (Or.inl rfl) (pe_ifExp (pt_cmpR op_gt (pv 1) pe_int (nomark _))
        (pe_lc (own := [("turn", 4)]) (g := gName 4) (tt := tYes) rfl scAny.nd (pi_range1 rfl T.range (pa_cons (pe_call D.ok hr1 rfl D.mg D.kp D.bd .nil pass0 (pa_cons (pv 0) (pa_cons pe_int pa_nil))) pa_nil))
          (blkOk_by (own := [("turn", 4)]) (N := ["deck", "deep", "way", "some", "turn"]) (sc := defScope sAny) (by decide +kernel)) (fun _ _ _ _ _ => pg_name (i := 4) scAny.nd rfl (Or.inl rfl)) (fun _ _ _ _ _ => pts_nil)
          (fun _ _ _ _ _ => pe_call R.ok hr rfl R.mg R.kp R.bd .nil pass0 (pa_cons (pv 0) (pa_cons (pe_op op_sub (pv 1) pe_int) pa_nil)))) (pe_lst pa_nil)))
      (pss_cons (ps_if (pt_cmpR op_eq (pv 2) pe_int (nomark _)) (pss_one (ps_ret (pv 3))) pss_nil)
      (pss_one (ps_ret (pe_ifExp (pt_cmpR op_eq (pv 2) pe_int (nomark _)) (pe_disp (pps_cons pe_str (pv 3) (pps_cons pe_int (pe_callB call_len_seq (by rfl) T.len PySem.boot_len (pa_cons (pv 3) pa_nil)) pps_nil)) (by rfl) (by rfl) (fun z => by cases z) (by decide))
        (pe_callTy call_tuple_of (by rfl) T.tuple (by decide +kernel) (pa_cons (pv 3) pa_nil)))))))))), ?_⟩
    refine ⟨_, rfl, dk, l, 10, rfl, De, by decide, by decide, fun way H1 w0 w1 D1 kp1 => ?_⟩
    refine ⟨_, rfl, _, _, rfl, rfl, _, rfl, ite2 (fun _ => ?_) (fun _ => ?_)⟩
    · refine ⟨_, rfl, _, rfl, _, _, rfl, rfl, ⟨by decide, by decide, by decide⟩, _, _, rfl, rfl, .inl ⟨by decide, by decide⟩, _, _, rfl, rfl, ⟨by decide, by decide, by decide⟩, _, rfl, (by show 8 ≤ sizeLine; rw [sizeLine_eq]; decide), fun p hp => ?_⟩
      exact pick_new (E := E0) D1 hp (by simp) (by show 8 < _; decide) fun x H' hx D' kp => k x H' (nice_ints _ _ x hx) D' (kp1.trans kp)
    refine ⟨_, rfl, _, _, rfl, rfl, _, rfl, ite2 (fun _ => ?_) (fun _ => ?_)⟩
    · refine ⟨_, rfl, (by show 6 ≤ sizeLine; rw [sizeLine_eq]; decide), fun p hp => ?_⟩
      exact pick_new (E := E0) D1 hp (by simp) (by show 6 < _; decide) fun x H' hx D' kp => k x H' (nice_strs _ _ x hx) D' (kp1.trans kp)
    refine ⟨_, rfl, rfl, _, rfl, ite2 (fun _ => ?_) (fun _ => ?_)⟩
    · refine ⟨_, rfl, (by show 3 ≤ sizeLine; rw [sizeLine_eq]; decide), fun p hp => ?_⟩
      exact pick_new (E := E0) D1 hp (by simp) (by show 3 < _; decide) fun x H' hx D' kp => k x H' (nice_flags _ _ x hx) D' (kp1.trans kp)
    have t0 : There H H1 := kp1.there D1
    refine ⟨fun σ' H' => ∃ (p : Addr) (ys : List V), σ' = [some (.ref dk), some (.int (n : Int)), some (.int way), some (.ref p), none] ∧ H' p = some (.lst ys) ∧ H p = none ∧ (∀ v ∈ ys, Nice (new H H') (2 * n) v) ∧ ys.length ≤ 3 ∧ Deck H' dk l ∧ Keep dk l H H', ?_, ?_⟩
    · refine ⟨_, rfl, _, _, rfl, rfl, _, rfl, ite2 (fun c => ?_) (fun _ => ?_)⟩
      · have c' : (0 : Int) < (n : Int) := of_decide_eq_true c
        obtain ⟨m, rfl⟩ : ∃ m, n = m + 1 := ⟨n - 1, by omega⟩
        refine ⟨_, rfl, dk, l, 4, rfl, D1, by decide, by decide, fun r H2 r0 r1 D2 kp2 => ?_⟩
        refine ⟨r, rfl, by omega, by omega, fun dd hd => ?_⟩
        have g0 : (upd H2 dd (.lst [])) dd = some (.lst []) := upd_same
        have Db : Deck (upd H2 dd (.lst [])) dk l := D2.same (snew hd)
        have tb : There H2 (upd H2 dd (.lst [])) := K0.Same.there (snew hd)
        refine lc_range (lo := 0) (n := r.toNat) (fun i H3 => ∃ acc : List V, H3 dd = some (.lst acc) ∧ acc.length = i ∧ (∀ v ∈ acc, Nice (new (upd H2 dd (.lst [])) H3) (2 * (m + 1)) v) ∧ Deck H3 dk l ∧ Keep dk l H2 H3 ∧ There (upd H2 dd (.lst [])) H3)
          ⟨[], upd_same, rfl, fun v hv => absurd hv (by simp), Db, Keep.of (snew hd), fun b e => e⟩ ?_ ?_
        · rintro i H3 hi ⟨acc, ea, la, na, D3, kp3, t3⟩
          refine ⟨rfl, ?_⟩
          refine ⟨_, rfl, _, rfl, _, _, rfl, rfl, dk, l, ?_, D3, fun v H4 nv D4 kp4 => ?_⟩
          · show [V.ref dk, V.int (((m + 1 : Nat) : Int) - 1)] = [V.ref dk, V.int (m : Int)]
            rw [show ((m + 1 : Nat) : Int) - 1 = (m : Int) by omega]
          · have n1 : dd ≠ dk := fun z => D2.some1.1 (z ▸ hd)
            have n2 : dd ≠ l := fun z => D2.some1.2 (z ▸ hd)
            have e4 := kp4 _ _ ea n1 n2
            have s4 : (upd H2 dd (.lst [])) dd ≠ none := by rw [g0]; exact fun z => nomatch z
            refine ⟨acc, e4, small1000 (by omega), acc ++ [v], upd_same, by rw [List.length_append, la]; rfl, fun u hu => ?_, ?_, fun b o e h1 h2 => ?_, fun b e => ?_⟩
            · rcases List.mem_append.mp hu with hu | hu
              · exact Nice.mono ((new_on kp4 Db.some1.1 Db.some1.2).trans (new_upd s4)) (Nat.le_refl _) (na u hu)
              · rw [List.mem_singleton.mp hu]
                exact Nice.mono ((new_back t3).trans (new_upd s4)) (by omega) nv
            · obtain ⟨ns', m', j', x1, x2, x3⟩ := D4
              exact ⟨ns', m', j', by rw [upd_ne n1.symm]; exact x1, by rw [upd_ne n2.symm]; exact x2, x3⟩
            · rw [upd_ne (ne_of_none e hd)]
              exact kp4 _ _ (kp3 _ _ e h1 h2) h1 h2
            · by_cases c : b = dd
              · rw [c, upd_same] at e; cases e
              · rw [upd_ne c] at e
                exact t3 b (kp4.there D4 b e)
        · rintro H3 ⟨acc, ea, la, na, D3, kp3, t3⟩
          have th : There H (upd H2 dd (.lst [])) := t0.trans ((kp2.there D2).trans tb)
          exact ⟨dd, acc, rfl, ea, t0 _ (kp2.there D2 _ hd), fun v hv => Nice.mono (new_back th) (Nat.le_refl _) (na v hv), by omega, D3, (kp1.trans kp2).trans kp3⟩
      · refine ⟨(by show 0 ≤ sizeLine; exact Nat.zero_le _), fun p hp => ⟨p, [], rfl, upd_same, t0 p hp, fun v hv => absurd hv (by simp), by decide, D1.same (snew hp), kp1.trans (Keep.of (snew hp))⟩⟩
    · rintro σ' H' ⟨p, ys, rfl, e, hp0, hys, hl, D', kp'⟩
      have td : There H H' := kp'.there D'
      have np : Nice (new H H') (2 * n + 1) (.ref p) := .inl ⟨ys, new_at hp0 e, hys⟩
      refine ⟨_, rfl, rfl, _, rfl, ite2 (fun _ => ?_) (fun _ => ?_)⟩
      · exact ⟨_, rfl, k _ H' (Nice.mono (Same.refl _) (by omega) np) D' kp'⟩
      refine ⟨_, rfl, rfl, _, rfl, ite2 (fun _ => ?_) (fun _ => ?_)⟩
      · intro q hq
        have sq := snew (o := .dK []) hq
        refine ⟨_, rfl, _, rfl, p, ys, rfl, .inl (SqL.of (sq _ _ e)), ?_⟩
        refine ⟨upd_same, akv (.ref p) (.int (ys.length : Int)), rfl, (by show 2 ≤ 15; decide), ?_⟩
        rw [akv_merge, upd_upd]
        have sq2 := snew (o := .dK (akv (.ref p) (.int (ys.length : Int)))) hq
        refine k _ _ (.inr (.inr ⟨_, new_at (td q hq) upd_same, akv_nd _ _, fun x hx => ?_⟩)) (D'.same sq2) (kp'.trans (Keep.of sq2))
        simp only [akv, List.mem_cons, List.not_mem_nil, or_false] at hx
        rcases hx with rfl | rfl
        · exact Nice.mono (new_same sq2) (Nat.le_refl _) np
        · refine nice_in _ _ _ ?_
          have h3 : ys.length = 0 ∨ ys.length = 1 ∨ ys.length = 2 ∨ ys.length = 3 := by omega
          rcases h3 with h | h | h | h <;> rw [h] <;> decide
      · refine ⟨_, rfl, p, ys, rfl, .inl ⟨SqL.of e, fun q hq => ?_⟩⟩
        exact k _ _ (.inr (.inl ⟨ys, new_at (td q hq) upd_same, fun v hv => Nice.mono (new_same (snew hq)) (by omega) (hys v hv)⟩)) (D'.same (snew hq)) (kp'.trans (Keep.of (snew hq)))
end
end K0

namespace K0
open PySem PySem.Spec PyProof.Rows L2
abbrev sSame : Stmt := top 18
/-- the text that repr gives of what is no container -/
inductive ReprOf : V → Str → Prop
  | non : ReprOf .non "None"
  | bl (b : Bool) : ReprOf (.bl b) (if b then "True" else "False")
  | int (i : Int) (h : i.natAbs.log2 < 1920) : ReprOf (.int i) (toString i)
  | str (x : Str) (h : (PySem.reprText x).length ≤ sizeLine) : ReprOf (.str x) (PySem.reprText x)
theorem call_repr0 {X : Cx} : CallR X (.builtin "repr") (fun xs H Q => ∃ x z, xs = [x] ∧ ReprOf x z ∧ Q (.str z) H) := by
  intro pins s σ H xs us Q I r h
  obtain ⟨x, z, rfl, e, q⟩ := h
  obtain ⟨u, rfl, ru⟩ := vals1 r
  cases e with
  | non => cases ru; exact PySem.P.repr_of_none ⟨.str _, H, I.tok _, ⟨_, rfl⟩, q⟩
  | bl b => cases ru; exact PySem.P.repr_of_bool ⟨.str _, H, I.tok _, ⟨_, rfl⟩, q⟩
  | int i hi => obtain ⟨t, rfl⟩ := ru; exact PySem.P.repr_of_int hi ⟨.str _, H, I.tok _, ⟨_, rfl⟩, q⟩
  | str y hy => obtain ⟨t, rfl⟩ := ru; exact PySem.P.repr_of_str ⟨.str _, H, I.tok _, ⟨_, rfl⟩, q⟩ hy
theorem kitLT {K : PySem.W.Frag} {T : String} {b1 b2 : Bool} (h1 : kitB T "list" = some b1) (h2 : kitB T "tuple" = some b2) : PySem.W.kitAny K (.type T) [.type "list", .type "tuple"] = some (b1 || b2) :=
  kitAny_cons (kit_ty h1) (fun e => kitAny_cons (kit_ty h2) (fun e2 => by rw [e, e2]; exact kitAny_nil) (fun e2 => by rw [e2, Bool.or_true])) (fun e => by rw [e]; rfl)
theorem kitLTD {K : PySem.W.Frag} {T : String} {b1 b2 b3 : Bool} (h1 : kitB T "list" = some b1) (h2 : kitB T "tuple" = some b2) (h3 : kitB T "dict" = some b3) : PySem.W.kitAny K (.type T) [.type "list", .type "tuple", .type "dict"] = some (b1 || (b2 || b3)) :=
  kitAny_cons (kit_ty h1) (fun e => kitAny_cons (kit_ty h2) (fun e2 => kitAny_cons (kit_ty h3) (fun e3 => by rw [e, e2, e3]; exact kitAny_nil) (fun e3 => by rw [e3, Bool.or_true, Bool.or_true])) (fun e2 => by rw [e2]; simp)) (fun e => by rw [e]; rfl)
theorem walk_pairs {K : PySem.W.Frag} {a : Addr} {xs : List V} : Walk (ItT K a) xs.length (fun H => SqT K H a xs) (YPair (fun i => some (.int (i : Nat))) (fun i => xs[i]?)) := by
  refine ⟨fun i _ hi q => ⟨xs, xs[i], q, by simp [hi]⟩, fun _ q => ⟨xs, q, rfl⟩, fun i H v H' _ q y => ?_⟩
  obtain ⟨T, x, h1, h2, h3, h4⟩ := y
  exact ⟨T, .int (i : Nat), x, h1, h2, h3, rfl, h4 xs q⟩
theorem classify {K : PySem.W.Frag} {H : Hp} {n : Nat} {v : V} (h : Nice H n v) :
    (∃ (T : String) (z : Str), (∀ H', TyX K H' v (.type T)) ∧ kitB T "list" = some false ∧ kitB T "tuple" = some false ∧ kitB T "dict" = some false ∧ ReprOf v z) ∨
    (∃ (a : Addr) (m : Nat), n = m + 1 ∧ v = .ref a ∧ ((∃ vs, H a = some (.lst vs) ∧ ∀ v ∈ vs, Nice H m v) ∨ (∃ vs, H a = some (.tup vs) ∧ ∀ v ∈ vs, Nice H m v) ∨ (∃ kvs : List (Key × V), H a = some (.dK kvs) ∧ (kvs.map (·.1)).Nodup ∧ ∀ p ∈ kvs, Nice H m p.2))) := by
  cases v with
  | non => exact .inl ⟨"NoneType", _, fun _ => .base .non, by decide +kernel, by decide +kernel, by decide +kernel, .non⟩
  | bl b => exact .inl ⟨"bool", _, fun _ => .base (.bl b), by decide +kernel, by decide +kernel, by decide +kernel, .bl b⟩
  | int i => exact .inl ⟨"int", _, fun _ => .base (.int i), by decide +kernel, by decide +kernel, by decide +kernel, .int i (by cases n <;> exact h)⟩
  | str x => exact .inl ⟨"str", _, fun _ => .base (.str x), by decide +kernel, by decide +kernel, by decide +kernel, .str x (by cases n <;> exact h)⟩
  | ref a =>
    cases n with
    | zero => exact h.elim
    | succ m => exact .inr ⟨a, m, rfl, rfl, h⟩
  | _ => cases n <;> exact h.elim
theorem val_nd : ∀ {kvs : List (Key × V)} {i : Nat} {k : Key} {v : V}, (kvs.map (·.1)).Nodup → kvs[i]? = some (k, v) → valV kvs k = some v
  | [], i, k, v, _, h => by simp at h
  | p :: r, 0, k, v, _, h => by
    have e : p = (k, v) := Option.some.inj h
    rw [e]
    exact valV_pos rfl
  | p :: r, i + 1, k, v, nd, h => by
    have nd' : (p.1 :: r.map (·.1)).Nodup := nd
    obtain ⟨n1, n2⟩ := List.nodup_cons.mp nd'
    have hr : r[i]? = some (k, v) := h
    have hm : k ∈ r.map (·.1) := List.mem_map.mpr ⟨(k, v), List.mem_of_getElem? hr, rfl⟩
    rw [valV_neg (fun e => n1 (e ▸ hm))]
    exact val_nd n2 hr
/-- the least depth -/
theorem least_nice {H : Hp} {a : Addr} {kvs : List (Key × V)} (e : H a = some (.dK kvs)) : ∀ m : Nat, (∀ p ∈ kvs, Nice H m p.2) → ∃ k, k ≤ m ∧ (∀ p ∈ kvs, Nice H k p.2) ∧ ¬ Nice H k (.ref a)
  | 0, h => ⟨0, Nat.le_refl _, h, fun z => z⟩
  | m + 1, h => by
    by_cases c : Nice H (m + 1) (.ref a)
    · rcases c with ⟨vs, e1, _⟩ | ⟨vs, e1, _⟩ | ⟨kv, e1, _, q⟩
      · rw [e] at e1; cases e1
      · rw [e] at e1; cases e1
      · rw [e] at e1; cases e1
        obtain ⟨k, h1, h2, h3⟩ := least_nice e m q
        exact ⟨k, by omega, h2, h3⟩
    · exact ⟨m + 1, Nat.le_refl _, h, c⟩
/-- what does not reach a does not see it -/
theorem nice_off {H : Hp} {a : Addr} {o : HO} : ∀ (k : Nat) (v : V), ¬ Nice H k (.ref a) → Nice H k v → Nice (upd H a o) k v := by
  intro k
  induction k with
  | zero =>
    intro v _ h
    cases v with
    | ref b => exact h.elim
    | _ => exact h
  | succ k ih =>
    intro v hn h
    have hn' : ¬ Nice H k (.ref a) := fun z => hn (Nice.mono (Same.refl _) (Nat.le_succ _) z)
    cases v with
    | ref b =>
      have hb : b ≠ a := fun z => hn (z ▸ h)
      rcases h with ⟨vs, e, q⟩ | ⟨vs, e, q⟩ | ⟨kvs, e, nd, q⟩
      · exact .inl ⟨vs, by rw [upd_ne hb]; exact e, fun v hv => ih v hn' (q v hv)⟩
      · exact .inr (.inl ⟨vs, by rw [upd_ne hb]; exact e, fun v hv => ih v hn' (q v hv)⟩)
      · exact .inr (.inr ⟨kvs, by rw [upd_ne hb]; exact e, nd, fun v hv => ih _ hn' (q v hv)⟩)
    | _ => exact h
theorem iteS {c : Prop} [Decidable c] {A B : Prop} (hc : c) (h : A) : if decide c = true then A else B := by
  rw [decide_eq_true hc]
  exact iteT h
def spSame (n : Nat) : Sp := fun vs H Q _ => ∃ v : V, vs = [v, v] ∧ Nice H n v ∧ ∀ H', Same H H' → Q (.bl true) H'
def spSameP : Nat → Sp
  | 0 => fun _ _ _ _ => False
  | n + 1 => spSame n
section
variable {P : Program} {w : World} {K : PySem.W.Frag} {mg : Str → Option Value} {base : Heap}
theorem scSame : FnScope ["near", "far", "at", "it", "key"] ["near", "far"] (defScope sSame) := ⟨rfl, rfl, rfl, by decide +kernel, rfl, by decide +kernel, by decide +kernel⟩
theorem ok_same {n : Nat} {f : Addr} {fd : FuncData} (F : Fun K "_law_is_same" "_law_is_same" sSame f fd) (T : Bt mg)
    (R : Kn P w K mg base (n + 1) "_law_is_same" ["near", "far"] (spSameP n) f fd) : FnOk P w K mg base CX0 (n + 2) f fd ["near", "far"] (spSame n) := by
  refine F.ok scSame (fun vs H Q E h => ?_) (fun cdv A outer s H vs Q E hr h => ?_)
  · obtain ⟨v, rfl, _⟩ := h
    rfl
  · obtain ⟨v, rfl, nv, k⟩ := h
    have hu := hu_of hr
    refine ⟨_, pss_cons (ps_if (pt_val (pe_callB call_isiT (by rfl) T.isi (by decide +kernel) (pa_cons (pv 0) (pa_cons (pe_tup (pa_cons (pe_bltn (v := .ty "list") (by rfl) T.list (by decide +kernel) rfl) (pa_cons (pe_bltn (v := .ty "tuple") (by rfl) T.tuple (by decide +kernel) rfl) pa_nil))) pa_nil))))
        (pss_cons (ps_if (PW.pt (pw_or (pt_not (pt_val (pe_callB call_isiT (by rfl) T.isi (by decide +kernel) (pa_cons (pv 1) (pa_cons (pe_tup (pa_cons (pe_bltn (v := .ty "list") (by rfl) T.list (by decide +kernel) rfl) (pa_cons (pe_bltn (v := .ty "tuple") (by rfl) T.tuple (by decide +kernel) rfl) pa_nil))) pa_nil)))))
          (pw_or1 (pt_cmpR op_ne (pe_callB call_isi (by rfl) T.isi (by decide +kernel) (pa_cons (pv 0) (pa_cons (pe_bltn (v := .ty "list") (by rfl) T.list (by decide +kernel) rfl) pa_nil)))
            (pe_callB call_isi (by rfl) T.isi (by decide +kernel) (pa_cons (pv 1) (pa_cons (pe_bltn (v := .ty "list") (by rfl) T.list (by decide +kernel) rfl) pa_nil))) (nomark _))))) (pss_one (ps_ret pe_bl)) pss_nil)
        (pss_one (ps_ret (pe_and (pe_cmpR op_eq (pe_callB call_len (by rfl) T.len PySem.boot_len (pa_cons (pv 0) pa_nil)) (pe_callB call_len (by rfl) T.len PySem.boot_len (pa_cons (pv 1) pa_nil)) (nomark _))
          (pe_one (pe_cmpR (op_eqD hr.units) (pe_lc (own := [("at", 2), ("it", 3)]) (g := gTup K 2 (gCons (gName 2) (gCons (gName 3) gNil))) (tt := _) rfl scSame.nd (pi_enumA (by rfl) T.enum (pa_cons (pv 0) pa_nil))
            (blkOk_by (own := [("at", 2), ("it", 3)]) (N := ["near", "far", "at", "it", "key"]) (sc := defScope sSame) (by decide +kernel)) (fun _ _ _ _ _ => pg_tup rfl (pgs_cons (pg_name (i := 2) scSame.nd rfl (Or.inl rfl)) (pgs_cons (pg_name (i := 3) scSame.nd rfl (Or.inl rfl)) pgs_nil)))
            (fun _ _ _ _ _ => pts_one (pt_not (pt_val (pe_call R.ok hr rfl R.mg R.kp R.bd .nil pass0 (pa_cons (pv 3) (pa_cons (pe_ix (r := rIx K) ix_seq (pv 1) (pv 2) (fun _ _ => rfl)) pa_nil))))))
            (fun _ _ _ _ _ => pv 2)) (pe_lst pa_nil) (nomark _))))))) pss_nil)
      (pss_cons (ps_if (pt_val (pe_callB call_isi (by rfl) T.isi (by decide +kernel) (pa_cons (pv 0) (pa_cons (pe_bltn (v := .ty "dict") (by rfl) T.dict (by decide +kernel) rfl) pa_nil))))
        (pss_cons (ps_if (PW.pt (pw_or (pt_not (pt_val (pe_callB call_isi (by rfl) T.isi (by decide +kernel) (pa_cons (pv 1) (pa_cons (pe_bltn (v := .ty "dict") (by rfl) T.dict (by decide +kernel) rfl) pa_nil)))))
          (pw_or1 (pt_cmpR op_ne (pe_callB call_lenD (by rfl) T.len PySem.boot_len (pa_cons (pv 0) pa_nil)) (pe_callB call_lenD (by rfl) T.len PySem.boot_len (pa_cons (pv 1) pa_nil)) (nomark _))))) (pss_one (ps_ret pe_bl)) pss_nil)
        (pss_one (ps_ret (pe_cmpR (op_eqD hr.units) (pe_lock (pe_lc (own := [("key", 4)]) (g := gName 4) (tt := _) rfl scSame.nd (pi_keys (pv 0))
            (blkOk_by (own := [("key", 4)]) (N := ["near", "far", "at", "it", "key"]) (sc := defScope sSame) (by decide +kernel)) (fun _ _ _ _ _ => pg_name (i := 4) scSame.nd rfl (Or.inl rfl))
            (fun _ _ _ _ _ => pts_one (PW.pt (pw_or (pt_cmp (pc_dnotin hu (pv 4) (pv 1))) (pw_or1 (pt_not (pt_val (pe_call R.ok hr rfl R.mg R.kp R.bd .nil pass0 (pa_cons (pe_dget hu (pv 0) (pv 4) (fun _ _ => rfl)) (pa_cons (pe_dget hu (pv 1) (pv 4) (fun _ _ => rfl)) pa_nil)))))))))
            (fun _ _ _ _ _ => pv 4))) (pe_lst pa_nil) (nomark _))))) pss_nil)
      (pss_one (ps_ret (pe_and (pe_not (pe_callB call_isiT (by rfl) T.isi (by decide +kernel) (pa_cons (pv 1) (pa_cons (pe_tup (pa_cons (pe_bltn (v := .ty "list") (by rfl) T.list (by decide +kernel) rfl) (pa_cons (pe_bltn (v := .ty "tuple") (by rfl) T.tuple (by decide +kernel) rfl)
          (pa_cons (pe_bltn (v := .ty "dict") (by rfl) T.dict (by decide +kernel) rfl) pa_nil)))) pa_nil))))
        (pe_one (pe_cmpR op_eq (pe_callB call_repr0 (by rfl) T.repr (by decide +kernel) (pa_cons (pv 0) pa_nil)) (pe_callB call_repr0 (by rfl) T.repr (by decide +kernel) (pa_cons (pv 1) pa_nil)) (nomark _))))))), ?_⟩
    have le2 : ([V.ty "list", V.ty "tuple"] : List V).length ≤ sizeLine := by show 2 ≤ sizeLine; rw [sizeLine_eq]; decide
    have le3 : ([V.ty "list", V.ty "tuple", V.ty "dict"] : List V).length ≤ sizeLine := by show 3 ≤ sizeLine; rw [sizeLine_eq]; decide
    rcases classify (K := K) nv with ⟨t, z, ty, b1, b2, b3, hz⟩ | ⟨a, m, rfl, rfl, nv⟩
    · refine ⟨_, rfl, le2, fun p hp => ⟨v, p, _, _, _, _, rfl, upd_same, .cons (.ty _) (.cons (.ty _) .nil), ty _, kitLT b1 b2, _, rfl, iteF ?_⟩⟩
      refine ⟨_, rfl, v, .ty "dict", _, _, _, rfl, .ty _, ty _, kit_ty b3, _, rfl, iteF ?_⟩
      refine ⟨_, rfl, le3, fun p2 hp2 => ⟨v, p2, _, _, _, _, rfl, upd_same, .cons (.ty _) (.cons (.ty _) (.cons (.ty _) .nil)), ty _, kitLTD b1 b2 b3, _, rfl, _, rfl, iteT ?_⟩⟩
      refine ⟨_, rfl, v, z, rfl, hz, _, rfl, v, z, rfl, hz, rfl, ?_⟩
      rw [decide_eq_true rfl]
      exact k _ ((snew hp).trans (snew hp2))
    · rcases nv with ⟨vs, e, nv⟩ | ⟨vs, e, nv⟩ | ⟨kvs, e, nd, nv⟩
      · refine ⟨_, rfl, le2, fun p hp => ⟨.ref a, p, _, _, _, _, rfl, upd_same, .cons (.ty _) (.cons (.ty _) .nil), .base (.lst (snew hp _ _ e)), kitLT (T := "list") (b1 := true) (b2 := false) (by decide +kernel) (by decide +kernel), _, rfl, iteT ?_⟩⟩
        refine ⟨_, rfl, le2, fun p2 hp2 => ?_⟩
        obtain ⟨H2, eH2⟩ : ∃ H2, upd (upd H p (.tup [V.ty "list", V.ty "tuple"])) p2 (.tup [V.ty "list", V.ty "tuple"]) = H2 := ⟨_, rfl⟩
        have s2 : Same H H2 := by rw [← eH2]; exact (snew hp).trans (snew hp2)
        have e2 := s2 _ _ e
        have t2 : H2 p2 = some (.tup [V.ty "list", V.ty "tuple"]) := by rw [← eH2]; exact upd_same
        rw [eH2]
        have kl : PySem.W.kitOne K (.type "list") (.type "list") = some true := kit_ty (by decide +kernel)
        refine ⟨.ref a, p2, _, _, _, _, rfl, t2, .cons (.ty _) (.cons (.ty _) .nil), .base (.lst e2), kitLT (T := "list") (b1 := true) (b2 := false) (by decide +kernel) (by decide +kernel), _, rfl, iteF ?_⟩
        refine ⟨_, rfl, V.ref a, V.ty "list", _, _, _, rfl, .ty _, .base (.lst e2), kl, _, rfl, V.ref a, V.ty "list", _, _, _, rfl, .ty _, .base (.lst e2), kl, rfl, _, rfl, iteNS rfl ?_⟩
        refine ⟨_, rfl, .ref a, vs.length, rfl, .inl ⟨vs, SqL.of e2, rfl⟩, _, rfl, .ref a, vs.length, rfl, .inl ⟨vs, SqL.of e2, rfl⟩, rfl, _, rfl, iteS rfl ?_⟩
        refine ⟨_, rfl, a, vs, rfl, .inl ⟨SqL.of e2, fun D hD => lc_it walk_enum (fun i H' => Same (upd H2 D (.lst [])) H') (Same.refl _) (fun i H' _ s' => SqL.of (s' _ _ (snew hD _ _ e2))) ?_ ?_⟩⟩
        · rintro i x H' H'' hi s' ⟨T', x1, x2, rfl, hT, rfl, e1, ex⟩
          cases (Option.some.inj e1)
          have s3 : Same H (upd H' T' (.tup [.int (i : Nat), x2])) := ((s2.trans (snew hD)).trans s').trans (snew hT)
          refine ⟨T', _, rfl, SqT.of upd_same, rfl, ?_⟩
          refine ⟨_, _, rfl, _, _, rfl, rfl, rfl, ?_⟩
          refine ⟨_, rfl, _, rfl, _, rfl, .inl ⟨a, vs, _, _, rfl, rfl, SqL.of (s3 _ _ e), atI_nat ex, x2, rfl, Nice.mono s3 (Nat.le_refl _) (nv x2 (List.mem_of_getElem? ex)), fun H3 s4 => ⟨_, rfl, iteF ?_⟩⟩⟩
          exact (s'.trans (snew hT)).trans s4
        · intro H' s'
          refine ⟨Nat.zero_le _, fun p5 hp5 => ⟨.list [], .list [], .lst (SqL.of (snew hp5 _ _ (s' _ _ upd_same))) .nil, .lst (SqL.of upd_same) .nil, nil_shaped, nil_shaped, ?_⟩⟩
          rw [eqv_nil]
          exact k _ (((s2.trans (snew hD)).trans s').trans (snew hp5))
      · refine ⟨_, rfl, le2, fun p hp => ⟨.ref a, p, _, _, _, _, rfl, upd_same, .cons (.ty _) (.cons (.ty _) .nil), .base (.tup (snew hp _ _ e)), kitLT (T := "tuple") (b1 := false) (b2 := true) (by decide +kernel) (by decide +kernel), _, rfl, iteT ?_⟩⟩
        refine ⟨_, rfl, le2, fun p2 hp2 => ?_⟩
        obtain ⟨H2, eH2⟩ : ∃ H2, upd (upd H p (.tup [V.ty "list", V.ty "tuple"])) p2 (.tup [V.ty "list", V.ty "tuple"]) = H2 := ⟨_, rfl⟩
        have s2 : Same H H2 := by rw [← eH2]; exact (snew hp).trans (snew hp2)
        have e2 := s2 _ _ e
        have t2 : H2 p2 = some (.tup [V.ty "list", V.ty "tuple"]) := by rw [← eH2]; exact upd_same
        rw [eH2]
        have kl : PySem.W.kitOne K (.type "tuple") (.type "list") = some false := kit_ty (by decide +kernel)
        refine ⟨.ref a, p2, _, _, _, _, rfl, t2, .cons (.ty _) (.cons (.ty _) .nil), .base (.tup e2), kitLT (T := "tuple") (b1 := false) (b2 := true) (by decide +kernel) (by decide +kernel), _, rfl, iteF ?_⟩
        refine ⟨_, rfl, V.ref a, V.ty "list", _, _, _, rfl, .ty _, .base (.tup e2), kl, _, rfl, V.ref a, V.ty "list", _, _, _, rfl, .ty _, .base (.tup e2), kl, rfl, _, rfl, iteNS rfl ?_⟩
        refine ⟨_, rfl, .ref a, vs.length, rfl, .inr ⟨vs, SqT.of e2, rfl⟩, _, rfl, .ref a, vs.length, rfl, .inr ⟨vs, SqT.of e2, rfl⟩, rfl, _, rfl, iteS rfl ?_⟩
        refine ⟨_, rfl, a, vs, rfl, .inr ⟨SqT.of e2, fun D hD => lc_it walk_pairs (fun i H' => Same (upd H2 D (.lst [])) H') (Same.refl _) (fun i H' _ s' => SqT.of (s' _ _ (snew hD _ _ e2))) ?_ ?_⟩⟩
        · rintro i x H' H'' hi s' ⟨T', x1, x2, rfl, hT, rfl, e1, ex⟩
          cases (Option.some.inj e1)
          have s3 : Same H (upd H' T' (.tup [.int (i : Nat), x2])) := ((s2.trans (snew hD)).trans s').trans (snew hT)
          refine ⟨T', _, rfl, SqT.of upd_same, rfl, ?_⟩
          refine ⟨_, _, rfl, _, _, rfl, rfl, rfl, ?_⟩
          refine ⟨_, rfl, _, rfl, _, rfl, .inr (.inl ⟨a, vs, _, _, rfl, rfl, SqT.of (s3 _ _ e), atI_nat ex, x2, rfl, Nice.mono s3 (Nat.le_refl _) (nv x2 (List.mem_of_getElem? ex)), fun H3 s4 => ⟨_, rfl, iteF ?_⟩⟩)⟩
          exact (s'.trans (snew hT)).trans s4
        · intro H' s'
          refine ⟨Nat.zero_le _, fun p5 hp5 => ⟨.list [], .list [], .lst (SqL.of (snew hp5 _ _ (s' _ _ upd_same))) .nil, .lst (SqL.of upd_same) .nil, nil_shaped, nil_shaped, ?_⟩⟩
          rw [eqv_nil]
          exact k _ (((s2.trans (snew hD)).trans s').trans (snew hp5))
      · refine ⟨_, rfl, le2, fun p hp => ⟨.ref a, p, _, _, _, _, rfl, upd_same, .cons (.ty _) (.cons (.ty _) .nil), .base (.dK (snew hp _ _ e)), kitLT (T := "dict") (b1 := false) (b2 := false) (by decide +kernel) (by decide +kernel), _, rfl, iteF ?_⟩⟩
        obtain ⟨H2, eH2⟩ : ∃ H2, upd H p (.tup [V.ty "list", V.ty "tuple"]) = H2 := ⟨_, rfl⟩
        have s2 : Same H H2 := by rw [← eH2]; exact snew hp
        have e2 := s2 _ _ e
        rw [eH2]
        have kl : PySem.W.kitOne K (.type "dict") (.type "dict") = some true := kit_ty (by decide +kernel)
        refine ⟨_, rfl, V.ref a, V.ty "dict", _, _, _, rfl, .ty _, .base (.dK e2), kl, _, rfl, iteT ?_⟩
        refine ⟨_, rfl, V.ref a, V.ty "dict", _, _, _, rfl, .ty _, .base (.dK e2), kl, _, rfl, iteF ?_⟩
        refine ⟨_, rfl, a, kvs, rfl, e2, _, rfl, a, kvs, rfl, e2, rfl, _, rfl, iteNS rfl ?_⟩
        obtain ⟨j, hj, nj, off⟩ := least_nice e m nv
        refine ⟨a, .dK kvs, e2, True.intro, fun od => ⟨_, rfl, a, od, rfl, .inl ⟨kvs, upd_same, fun D hD => lc_it walk_keys (fun i H' => Same (upd (upd H2 a (.frz od (.dK kvs))) D (.lst [])) H') (Same.refl _) (fun i H' _ s' => s' _ _ (snew hD _ _ upd_same)) ?_ ?_⟩⟩⟩
        · rintro i x H' H'' hi s' ⟨rfl, kk, v, ek, rfl⟩
          have ef : H'' a = some (.frz od (.dK kvs)) := s' _ _ (snew hD _ _ upd_same)
          have dg : DGet H'' a (kV kk) (some v) := .inl ⟨kvs, kk, .inr ⟨od, ef⟩, rfl, (val_nd nd ek).symm⟩
          have su : Same (upd H a (.frz od (.dK kvs))) H'' := by
            refine Same.trans (fun b o eb => ?_) ((snew hD).trans s')
            by_cases c : b = a
            · rw [c, upd_same] at eb ⊢; exact eb
            · rw [upd_ne c] at eb ⊢; exact s2 _ _ eb
          have nw : Nice H'' m v := Nice.mono su hj (nice_off j v off (nj (kk, v) (List.mem_of_getElem? ek)))
          refine ⟨rfl, ?_⟩
          refine ⟨_, rfl, _, rfl, a, some v, rfl, dg, _, rfl, iteF ?_⟩
          refine ⟨_, rfl, _, rfl, a, v, rfl, dg, _, rfl, _, rfl, a, v, rfl, dg, v, rfl, nw, fun H3 s3 => ⟨_, rfl, iteF ?_⟩⟩
          exact s'.trans s3
        · intro H' s'
          have ea : H' a = some (.frz od (.dK kvs)) := s' _ _ (snew hD _ _ upd_same)
          have eD : H' D = some (.lst []) := s' _ _ upd_same
          have nDa : D ≠ a := ne_of eD ea (by intro z; cases z)
          refine ⟨ea, ?_⟩
          refine ⟨Nat.zero_le _, fun p5 hp5 => ⟨.list [], .list [], .lst (SqL.of (snew hp5 _ _ (by rw [upd_ne nDa]; exact eD))) .nil, .lst (SqL.of upd_same) .nil, nil_shaped, nil_shaped, ?_⟩⟩
          rw [eqv_nil]
          refine k _ (Same.trans (fun b o eb => ?_) (snew hp5))
          by_cases c : b = a
          · rw [c] at eb ⊢; rw [e] at eb; rw [upd_same]; exact eb
          · rw [upd_ne c]
            refine s' _ _ (snew hD _ _ ?_)
            rw [upd_ne c]
            exact s2 _ _ eb
end
end K0

namespace K0
open PySem PySem.Spec PyProof.Rows L2
abbrev sPos : Stmt := top 19
abbrev sName : Stmt := top 20
abbrev sCarr : Stmt := top 21
abbrev sKinds : Stmt := top 22
abbrev sOwn : Stmt := top 23
abbrev sRaise : Stmt := top 24
abbrev sCaught : Stmt := top 25
abbrev sBase : Stmt := top 26
abbrev sLaw : Stmt := top 27
def nm : Nat → Str
  | 0 => "BadNumber" | 1 => "BadQuotient" | 2 => "BadEquation" | 3 => "BadPoint" | 4 => "BadAnswer" | 5 => "BadDegree"
  | 6 => "BadPlace" | 7 => "BadForm" | 8 => "BadWriting" | 9 => "BadChange" | _ => "BadFraction"
abbrev sixT : List Value := [.type "ValueError", .type "TypeError", .type "LookupError", .type "ArithmeticError", .type "RuntimeError", .type "AttributeError"]
/-- the eleven classes, by their place -/
structure Ers (P : Program) (w : World) (K : PySem.W.Frag) (mg : Str → Option Value) (base : Heap) (S : Addr) (C fI : Nat → Addr) (fd : Nat → FuncData) : Prop where
  M : ∀ i, i < 11 → SlM K (C i) S (fI i)
  ok : ∀ i, i < 11 → FnOk P w K mg base CX0 2 (fI i) (fd i) ["self", "thing"] (spSet K)
  nmg : ∀ i, i < 11 → mg (nm i) = some (.ref (C i))
  b1 : ∀ i, i < 11 → ∀ u, SlBnd K (fd i) [u] [] u
  bK : ∀ i, i < 11 → ∀ u, SlBnd K (fd i) [] [("thing", u)] u
  kit : ∀ i j, i < 11 → j < 11 → PySem.W.kitOne K (.ref (C i)) (.ref (C j)) = some (decide (i = j))
  kitS : ∀ i, i < 11 → PySem.W.kitOne K (.ref (C i)) (.ref S) = some true
  kitE : ∀ i, i < 11 → PySem.W.kitOne K (.ref (C i)) (.type "Exception") = some true
  kit6 : ∀ i, i < 11 → PySem.W.kitAny K (.ref (C i)) sixT = some false
  exm : ∀ i j, i < 11 → j < 11 → PySem.W.exmOne K (.ref (C i)) (.ref (C j)) = some (decide (i = j))
  exmS : ∀ i, i < 11 → PySem.W.exmOne K (.ref (C i)) (.ref S) = some true
  mgS : mg "SlopeError" = some (.ref S)
/-- at a an error of the class at C stands, tracked, with the thing v -/
def ErrAt (H : Hp) (v : V) (C a : Addr) : Prop := ∃ d, H a = some (exo a C (some d)) ∧ H d = some (exd d [("thing", v)])
theorem ErrAt.same {H H' : Hp} {v : V} {C a : Addr} (e : ErrAt H v C a) (s : Same H H') : ErrAt H' v C a := let ⟨d, h1, h2⟩ := e; ⟨d, s _ _ h1, s _ _ h2⟩
theorem ErrAt.is {X : Cx} {H : Hp} {v : V} {C a : Addr} (e : ErrAt H v C a) : ErrIs X H a C v := let ⟨d, h1, h2⟩ := e; ErrIs.tracked h1 h2
theorem errs_same {H H' : Hp} {v : V} {Cs as : List Addr} (s : Same H H') (e : Paired (ErrAt H v) Cs as) : Paired (ErrAt H' v) Cs as := Paired.mapP e fun _ _ z => z.same s
/-- the reading of C1(x), C2(x), .. -/
def tErrs (i : Nat) : List Addr → TA
  | [] => tNil
  | C :: r => tCons (rNew C (tVar i)) (tErrs i r)
theorem slH_same {H : Hp} {a C dx : Addr} {y : V} (h1 : H a = none) (h2 : H dx = none) : Same H (slH H a C dx y) := fun b o e => by
  rw [slH_ne (ne_of_none e h1) (ne_of_none e h2)]; exact e
theorem errs_read {i : Nat} {σ : L2.St} {v : V} (hv : σ[i]? = some (some v)) : ∀ (Cs : List Addr) (H : Hp) (Q : List V → Hp → Prop),
    (∀ (as : List Addr) (H' : Hp), Same H H' → Paired (ErrAt H' v) Cs as → Q (as.map V.ref) H') → tErrs i Cs σ H Q
  | [], H, Q, h => h [] H (Same.refl _) .nil
  | C :: r, H, Q, h => ⟨v, hv, fun a d h1 h2 ne => errs_read hv r _ _ fun as H' s p => h (a :: as) H' ((slH_same h1 h2).trans s) (.cons ⟨d, s _ _ slH_a, s _ _ (slH_d ne)⟩ p)⟩
theorem paired_app {α β : Type} {F : α → β → Prop} : ∀ {a : List α} {b : List β} {c : List α} {d : List β}, Paired F a b → Paired F c d → Paired F (a ++ c) (b ++ d)
  | _, _, _, _, .nil, h => h
  | _, _, _, _, .cons r t, h => .cons r (paired_app t h)
theorem paired_at {α β : Type} {F : α → β → Prop} : ∀ {a : List α} {b : List β} {i : Nat} {x : α}, Paired F a b → a[i]? = some x → ∃ y, b[i]? = some y ∧ F x y
  | _, _, _, _, .nil, e => by simp at e
  | _, _, 0, _, .cons r _, e => by cases (show some _ = some _ from e); exact ⟨_, rfl, r⟩
  | _, _, i + 1, x, .cons _ t, e => paired_at (i := i) t e
def cls11 (C : Nat → Addr) : List Addr := (List.range 11).map C
theorem cls11_at {C : Nat → Addr} {i : Nat} (h : i < 11) : (cls11 C)[i]? = some (C i) := by
  unfold cls11
  rw [List.getElem?_map, List.getElem?_range h]
  rfl
/-- eleven errors, one of each class -/
def spPos (C : Nat → Addr) : Sp := fun vs H Q _ => ∃ v : V, vs = [v] ∧ ∀ (p : Addr) (as : List Addr) (H' : Hp), H' p = some (.lst (as.map V.ref)) → Same H H' → Paired (ErrAt H' v) (cls11 C) as → Q (.ref p) H'
section
variable {P : Program} {w : World} {K : PySem.W.Frag} {mg : Str → Option Value} {base : Heap} {S : Addr} {C fI : Nat → Addr} {fdE : Nat → FuncData}
theorem scPos : FnScope ["it", "found"] ["it"] (defScope sPos) := ⟨rfl, rfl, rfl, by decide +kernel, rfl, by decide +kernel, by decide +kernel⟩
theorem ok_pos {f : Addr} {fd : FuncData} (F : Fun K "_law_by_position" "_law_by_position" sPos f fd) (E : Ers P w K mg base S C fI fdE) : FnOk P w K mg base CX0 4 f fd ["it"] (spPos C) := by
  refine F.ok scPos (fun vs H Q E' h => ?_) (fun cdv A outer s H vs Q E' hr h => ?_)
  · obtain ⟨v, rfl, _⟩ := h
    rfl
  · obtain ⟨v, rfl, k⟩ := h
    refine ⟨_, pss_cons (ps_set (i := 1) scPos.nd rfl (Or.inl rfl) (pe_lst
        (pa_cons (pe_sl (E.M 0 (by decide)) (E.ok 0 (by decide)) hr pass0 (E.b1 0 (by decide)) (E.nmg 0 (by decide)) (pv 0))
        (pa_cons (pe_sl (E.M 1 (by decide)) (E.ok 1 (by decide)) hr pass0 (E.b1 1 (by decide)) (E.nmg 1 (by decide)) (pv 0))
        (pa_cons (pe_sl (E.M 2 (by decide)) (E.ok 2 (by decide)) hr pass0 (E.b1 2 (by decide)) (E.nmg 2 (by decide)) (pv 0))
        (pa_cons (pe_sl (E.M 3 (by decide)) (E.ok 3 (by decide)) hr pass0 (E.b1 3 (by decide)) (E.nmg 3 (by decide)) (pv 0))
        (pa_cons (pe_sl (E.M 4 (by decide)) (E.ok 4 (by decide)) hr pass0 (E.b1 4 (by decide)) (E.nmg 4 (by decide)) (pv 0))
        (pa_cons (pe_sl (E.M 5 (by decide)) (E.ok 5 (by decide)) hr pass0 (E.b1 5 (by decide)) (E.nmg 5 (by decide)) (pv 0))
        (pa_cons (pe_sl (E.M 6 (by decide)) (E.ok 6 (by decide)) hr pass0 (E.b1 6 (by decide)) (E.nmg 6 (by decide)) (pv 0)) pa_nil)))))))))
      (pss_one (ps_ret (pe_op op_cat (pv 1) (pe_lst
        (pa_cons (pe_sl (E.M 7 (by decide)) (E.ok 7 (by decide)) hr pass0 (E.b1 7 (by decide)) (E.nmg 7 (by decide)) (pv 0))
        (pa_cons (pe_sl (E.M 8 (by decide)) (E.ok 8 (by decide)) hr pass0 (E.b1 8 (by decide)) (E.nmg 8 (by decide)) (pv 0))
        (pa_cons (pe_sl (E.M 9 (by decide)) (E.ok 9 (by decide)) hr pass0 (E.b1 9 (by decide)) (E.nmg 9 (by decide)) (pv 0))
        (pa_cons (pe_sl (E.M 10 (by decide)) (E.ok 10 (by decide)) hr pass0 (E.b1 10 (by decide)) (E.nmg 10 (by decide)) (pv 0)) pa_nil)))))))), ?_⟩
    unfold tSeq tAsg tLst
    dsimp only
    refine errs_read (i := 0) (σ := [some v, none]) (v := v) rfl [C 0, C 1, C 2, C 3, C 4, C 5, C 6] _ _ fun as H1 s1 p1 => ?_
    have l1 : as.length = 7 := p1.length.symm
    refine ⟨by rw [List.length_map, l1, sizeLine_eq]; decide, fun q hq => ?_⟩
    refine ⟨_, rfl, ?_⟩
    refine errs_read (i := 0) (σ := [some v, some (.ref q)]) (v := v) rfl [C 7, C 8, C 9, C 10] _ _ fun bs H2 s2 p2 => ?_
    have l2 : bs.length = 4 := p2.length.symm
    refine ⟨by rw [List.length_map, l2, sizeLine_eq]; decide, fun q2 hq2 => ?_⟩
    refine ⟨q, q2, _, _, rfl, rfl, snew hq2 _ _ (s2 _ _ upd_same), upd_same, by rw [List.length_map, List.length_map, l1, l2, sizeLine_eq]; decide, fun q3 hq3 => ?_⟩
    refine k q3 (as ++ bs) _ (by rw [List.map_append]; exact upd_same) ((((s1.trans (snew hq)).trans s2).trans (snew hq2)).trans (snew hq3)) ?_
    exact paired_app (a := [C 0, C 1, C 2, C 3, C 4, C 5, C 6]) (c := [C 7, C 8, C 9, C 10]) (errs_same ((((snew hq).trans s2).trans (snew hq2)).trans (snew hq3)) p1) (errs_same ((snew hq2).trans (snew hq3)) p2)
end
end K0

namespace K0
open PySem PySem.Spec PyProof.Rows L2
section
variable {P : Program} {w : World} {K : PySem.W.Frag} {mg : Str → Option Value} {base : Heap} {S : Addr} {C fI : Nat → Addr} {fdE : Nat → FuncData}
theorem scName : FnScope ["it", "found"] ["it"] (defScope sName) := ⟨rfl, rfl, rfl, by decide +kernel, rfl, by decide +kernel, by decide +kernel⟩
theorem ok_name {f : Addr} {fd : FuncData} (F : Fun K "_law_by_name" "_law_by_name" sName f fd) (E : Ers P w K mg base S C fI fdE) : FnOk P w K mg base CX0 4 f fd ["it"] (spPos C) := by
  refine F.ok scName (fun vs H Q E' h => ?_) (fun cdv A outer s H vs Q E' hr h => ?_)
  · obtain ⟨v, rfl, _⟩ := h
    rfl
  · obtain ⟨v, rfl, k⟩ := h
    refine ⟨_, pss_cons (ps_set (i := 1) scName.nd rfl (Or.inl rfl) (pe_lst
        (pa_cons (pe_slK (E.M 0 (by decide)) (E.ok 0 (by decide)) hr pass0 (E.bK 0 (by decide)) (E.nmg 0 (by decide)) (pv 0))
        (pa_cons (pe_slK (E.M 1 (by decide)) (E.ok 1 (by decide)) hr pass0 (E.bK 1 (by decide)) (E.nmg 1 (by decide)) (pv 0))
        (pa_cons (pe_slK (E.M 2 (by decide)) (E.ok 2 (by decide)) hr pass0 (E.bK 2 (by decide)) (E.nmg 2 (by decide)) (pv 0))
        (pa_cons (pe_slK (E.M 3 (by decide)) (E.ok 3 (by decide)) hr pass0 (E.bK 3 (by decide)) (E.nmg 3 (by decide)) (pv 0))
        (pa_cons (pe_slK (E.M 4 (by decide)) (E.ok 4 (by decide)) hr pass0 (E.bK 4 (by decide)) (E.nmg 4 (by decide)) (pv 0)) pa_nil)))))))
      (pss_cons (ps_set (i := 1) scName.nd rfl (Or.inl rfl) (pe_op op_cat (pv 1) (pe_lst
        (pa_cons (pe_slK (E.M 5 (by decide)) (E.ok 5 (by decide)) hr pass0 (E.bK 5 (by decide)) (E.nmg 5 (by decide)) (pv 0))
        (pa_cons (pe_slK (E.M 6 (by decide)) (E.ok 6 (by decide)) hr pass0 (E.bK 6 (by decide)) (E.nmg 6 (by decide)) (pv 0))
        (pa_cons (pe_slK (E.M 7 (by decide)) (E.ok 7 (by decide)) hr pass0 (E.bK 7 (by decide)) (E.nmg 7 (by decide)) (pv 0))
        (pa_cons (pe_slK (E.M 8 (by decide)) (E.ok 8 (by decide)) hr pass0 (E.bK 8 (by decide)) (E.nmg 8 (by decide)) (pv 0)) pa_nil)))))))
      (pss_one (ps_ret (pe_op op_cat (pv 1) (pe_lst
        (pa_cons (pe_slK (E.M 9 (by decide)) (E.ok 9 (by decide)) hr pass0 (E.bK 9 (by decide)) (E.nmg 9 (by decide)) (pv 0))
        (pa_cons (pe_slK (E.M 10 (by decide)) (E.ok 10 (by decide)) hr pass0 (E.bK 10 (by decide)) (E.nmg 10 (by decide)) (pv 0)) pa_nil))))))), ?_⟩
    unfold tSeq tAsg tLst
    dsimp only
    refine errs_read (i := 0) (σ := [some v, none]) (v := v) rfl [C 0, C 1, C 2, C 3, C 4] _ _ fun as H1 s1 p1 => ?_
    have l1 : as.length = 5 := p1.length.symm
    refine ⟨by rw [List.length_map, l1, sizeLine_eq]; decide, fun q hq => ?_⟩
    refine ⟨_, rfl, ?_⟩
    refine errs_read (i := 0) (σ := [some v, some (.ref q)]) (v := v) rfl [C 5, C 6, C 7, C 8] _ _ fun bs H2 s2 p2 => ?_
    have l2 : bs.length = 4 := p2.length.symm
    refine ⟨by rw [List.length_map, l2, sizeLine_eq]; decide, fun q2 hq2 => ?_⟩
    refine ⟨q, q2, _, _, rfl, rfl, snew hq2 _ _ (s2 _ _ upd_same), upd_same, by rw [List.length_map, List.length_map, l1, l2, sizeLine_eq]; decide, fun q3 hq3 => ?_⟩
    have s45 := (snew (o := .lst (bs.map V.ref)) hq2).trans (snew (o := .lst (as.map V.ref ++ bs.map V.ref)) hq3)
    have p3 := paired_app (a := [C 0, C 1, C 2, C 3, C 4]) (c := [C 5, C 6, C 7, C 8]) (errs_same (((snew hq).trans s2).trans s45) p1) (errs_same s45 p2)
    have s3 := (((s1.trans (snew hq)).trans s2).trans (snew hq2)).trans (snew (o := .lst (as.map V.ref ++ bs.map V.ref)) hq3)
    refine ⟨_, rfl, ?_⟩
    refine errs_read (i := 0) (σ := [some v, some (.ref q3)]) (v := v) rfl [C 9, C 10] _ _ fun cs H4 s4 p4 => ?_
    have l4 : cs.length = 2 := p4.length.symm
    refine ⟨by rw [List.length_map, l4, sizeLine_eq]; decide, fun q4 hq4 => ?_⟩
    refine ⟨q3, q4, _, _, rfl, rfl, snew hq4 _ _ (s4 _ _ upd_same), upd_same, by simp only [List.length_append, List.length_map]; rw [l1, l2, l4, sizeLine_eq]; decide, fun q5 hq5 => ?_⟩
    refine k q5 (as ++ bs ++ cs) _ (by rw [List.map_append, List.map_append]; exact upd_same) (((s3.trans s4).trans (snew hq4)).trans (snew hq5)) ?_
    exact paired_app (errs_same ((s4.trans (snew hq4)).trans (snew hq5)) p3) (errs_same ((snew hq4).trans (snew hq5)) p4)
/-- what is carried -/
def spCarr (C : Nat → Addr) : Sp := fun vs H Q _ => ∃ (v : V) (p : Addr) (as : List Addr), vs = [.ref p] ∧ H p = some (.lst (as.map V.ref)) ∧ Paired (ErrAt H v) (cls11 C) as ∧
  ∀ (q : Addr) (H' : Hp), H' q = some (.lst (List.replicate 11 v)) → Same H H' → Q (.ref q) H'
def tTh (X : Cx) (i : Nat) (n : Int) : TE := fun σ H Q => tOp (rIxL X.K) (tVar i) (tC (.int n)) σ H fun x H1 => ∃ (a C S : Addr) (v : V), x = .ref a ∧ SlC X.K C S ∧ ErrIs X H1 a C v ∧ Q v H1
def tThs (X : Cx) (i : Nat) : List Nat → TA
  | [] => tNil
  | n :: r => tCons (tTh X i (n : Int)) (tThs X i r)
theorem things_read {X : Cx} {i : Nat} {σ : L2.St} {p : Addr} {as : List Addr} {v : V} {H : Hp} (hv : σ[i]? = some (some (.ref p))) (E : Ers P w X.K mg base S C fI fdE) : ∀ (ns : List Nat), (∀ n ∈ ns, n < 11) → H p = some (.lst (as.map V.ref)) → Paired (ErrAt H v) (cls11 C) as →
    ∀ {Q : List V → Hp → Prop}, Q (ns.map fun _ => v) H → tThs X i ns σ H Q
  | [], _, _, _, _, h => h
  | n :: r, hn, hp, pr, Q, h => by
    have h11 := hn n List.mem_cons_self
    obtain ⟨a, ea, er⟩ := paired_at (i := n) pr (cls11_at h11)
    have er' : ErrIs X H a (C n) v := er.is
    refine ⟨_, hv, p, _, _, .ref a, rfl, rfl, SqL.of hp, atI_nat (by rw [List.getElem?_map, ea]; rfl), a, C n, S, v, rfl, (E.M n h11).T, er', ?_⟩
    exact things_read hv E r (fun m hm => hn m (List.mem_cons_of_mem _ hm)) hp pr (Q := fun vs H' => Q (v :: vs) H') h
theorem scCarr : FnScope ["made", "found"] ["made"] (defScope sCarr) := ⟨rfl, rfl, rfl, by decide +kernel, rfl, by decide +kernel, by decide +kernel⟩
theorem ok_carr {f : Addr} {fd : FuncData} (F : Fun K "_law_carried" "_law_carried" sCarr f fd) (E : Ers P w K mg base S C fI fdE) : FnOk P w K mg base CX0 1 f fd ["made"] (spCarr C) := by
  refine F.ok scCarr (fun vs H Q E' h => ?_) (fun cdv A outer s H vs Q E' hr h => ?_)
  · obtain ⟨v, p, as, rfl, _⟩ := h
    rfl
  · obtain ⟨v, p, as, rfl, hp, pr, k⟩ := h
    refine ⟨_, pss_cons (ps_set (i := 1) scCarr.nd rfl (Or.inl rfl) (pe_lst (pa_cons (pe_thing (pe_ix ix_list (pv 0) pe_int (fun _ _ => rfl))) (pa_cons (pe_thing (pe_ix ix_list (pv 0) pe_int (fun _ _ => rfl))) (pa_cons (pe_thing (pe_ix ix_list (pv 0) pe_int (fun _ _ => rfl))) (pa_cons (pe_thing (pe_ix ix_list (pv 0) pe_int (fun _ _ => rfl))) (pa_cons (pe_thing (pe_ix ix_list (pv 0) pe_int (fun _ _ => rfl))) (pa_cons (pe_thing (pe_ix ix_list (pv 0) pe_int (fun _ _ => rfl))) (pa_cons (pe_thing (pe_ix ix_list (pv 0) pe_int (fun _ _ => rfl))) pa_nil)))))))))
      (pss_one (ps_ret (pe_op op_cat (pv 1) (pe_lst (pa_cons (pe_thing (pe_ix ix_list (pv 0) pe_int (fun _ _ => rfl))) (pa_cons (pe_thing (pe_ix ix_list (pv 0) pe_int (fun _ _ => rfl))) (pa_cons (pe_thing (pe_ix ix_list (pv 0) pe_int (fun _ _ => rfl))) (pa_cons (pe_thing (pe_ix ix_list (pv 0) pe_int (fun _ _ => rfl))) pa_nil)))))))), ?_⟩
    unfold tSeq tAsg tLst
    dsimp only
    refine things_read (X := (cxOf CX0 P w K mg base ["made", "found"] "_law_carried" (defScope sCarr) f cdv A outer s H E').nox) (i := 0) (σ := [some (.ref p), none]) (p := p) rfl E [0, 1, 2, 3, 4, 5, 6] (by decide) hp pr ?_
    refine ⟨by show 7 ≤ sizeLine; rw [sizeLine_eq]; decide, fun q hq => ?_⟩
    have s1 := snew (o := .lst (([0, 1, 2, 3, 4, 5, 6] : List Nat).map fun _ => v)) hq
    refine ⟨_, rfl, ?_⟩
    refine things_read (X := (cxOf CX0 P w K mg base ["made", "found"] "_law_carried" (defScope sCarr) f cdv A outer s H E').nox) (i := 0) (σ := [some (.ref p), some (.ref q)]) (p := p) rfl E [7, 8, 9, 10] (by decide) (s1 _ _ hp) (errs_same s1 pr) ?_
    refine ⟨by show 4 ≤ sizeLine; rw [sizeLine_eq]; decide, fun q2 hq2 => ?_⟩
    refine ⟨q, q2, _, _, rfl, rfl, snew hq2 _ _ upd_same, upd_same, by show 11 ≤ sizeLine; rw [sizeLine_eq]; decide, fun q3 hq3 => ?_⟩
    exact k q3 _ upd_same ((s1.trans (snew hq2)).trans (snew hq3))
end
end K0

namespace K0
open PySem PySem.Spec PyProof.Rows L2
def flags (i : Nat) (js : List Nat) : List V := js.map fun j => .bl (decide (i = j))
def tIs (i : Nat) (X : Cx) (c : Addr) : TE := fun σ H Q => tCons (tVar i) (tCons (tC (.ref c)) tNil) σ H fun xs H1 =>
  ∃ (a C S : Addr) (v c : V) (u : Value) (b : Bool), xs = [.ref a, c] ∧ ClsV c u ∧ SlC X.K C S ∧ ErrIs X H1 a C v ∧ PySem.W.kitOne X.K (.ref C) u = some b ∧ Q (.bl b) H1
def tIss (i : Nat) (X : Cx) (C : Nat → Addr) : List Nat → TA
  | [] => tNil
  | n :: r => tCons (tIs i X (C n)) (tIss i X C r)
theorem kinds_read {P : Program} {w : World} {mg : Str → Option Value} {base : Heap} {S : Addr} {C fI : Nat → Addr} {fdE : Nat → FuncData} {X : Cx} {i j : Nat} {σ : L2.St} {a : Addr} {v : V} {H : Hp} (hv : σ[i]? = some (some (.ref a))) (hj : j < 11) (E : Ers P w X.K mg base S C fI fdE) (er : ErrIs X H a (C j) v) :
    ∀ (ns : List Nat), (∀ n ∈ ns, n < 11) → ∀ {Q : List V → Hp → Prop}, Q (flags j ns) H → tIss i X C ns σ H Q
  | [], _, _, h => h
  | n :: r, hn, Q, h => by
    refine ⟨.ref a, hv, a, C j, S, v, .ref (C n), .ref (C n), decide (j = n), rfl, .own _, (E.M j hj).T, er, E.kit j n hj (hn n List.mem_cons_self), ?_⟩
    exact kinds_read hv hj E er r (fun m hm => hn m (List.mem_cons_of_mem _ hm)) (Q := fun vs H' => Q (.bl (decide (j = n)) :: vs) H') h
def spKinds (C : Nat → Addr) : Sp := fun vs H Q _ => ∃ (v : V) (a : Addr) (j : Nat), vs = [.ref a] ∧ j < 11 ∧ ErrAt H v (C j) a ∧
  ∀ (q : Addr) (H' : Hp), H' q = some (.lst (flags j (List.range 11))) → Same H H' → Q (.ref q) H'
def spKindsW (C : Nat → Addr) (p : Addr × Obj) : Sp := fun vs H Q _ => ∃ (v : V) (d : Addr) (j : Nat), vs = [.ref p.1] ∧ j < 11 ∧ Zc (.ref (C j)) (some d) p.2 ∧ (∃ vs, p.2.data = .fields vs) ∧ H d = some (.xd [("thing", v)]) ∧
  ∀ (q : Addr) (H' : Hp), H' q = some (.lst (flags j (List.range 11))) → Same H H' → Q (.ref q) H'
section
variable {P : Program} {w : World} {K : PySem.W.Frag} {mg : Str → Option Value} {base : Heap} {S : Addr} {C fI : Nat → Addr} {fdE : Nat → FuncData}
theorem scKinds : FnScope ["error", "found"] ["error"] (defScope sKinds) := ⟨rfl, rfl, rfl, by decide +kernel, rfl, by decide +kernel, by decide +kernel⟩
theorem ok_kinds {f : Addr} {fd : FuncData} (F : Fun K "_law_kinds" "_law_kinds" sKinds f fd) (T : Bt mg) (E : Ers P w K mg base S C fI fdE) : FnOk P w K mg base CX0 1 f fd ["error"] (spKinds C) := by
  refine F.ok scKinds (fun vs H Q E' h => ?_) (fun cdv A outer s H vs Q E' hr h => ?_)
  · obtain ⟨v, a, j, rfl, _⟩ := h
    rfl
  · obtain ⟨v, a, j, rfl, hj, er, k⟩ := h
    have per : ∀ {H1 H2 : Hp}, Same H1 H2 → ErrAt H1 v (C j) a → ErrAt H2 v (C j) a := fun s e => e.same s
    refine ⟨_, pss_cons (ps_set (i := 1) scKinds.nd rfl (Or.inl rfl) (pe_lst
        (pa_cons (pe_callB call_isE1 (by rfl) T.isi (by decide +kernel) (pa_cons (pv 0) (pa_cons (pe_glob (v := .ref (C 0)) rfl (E.nmg 0 (by decide)) rfl) pa_nil)))
        (pa_cons (pe_callB call_isE1 (by rfl) T.isi (by decide +kernel) (pa_cons (pv 0) (pa_cons (pe_glob (v := .ref (C 1)) rfl (E.nmg 1 (by decide)) rfl) pa_nil)))
        (pa_cons (pe_callB call_isE1 (by rfl) T.isi (by decide +kernel) (pa_cons (pv 0) (pa_cons (pe_glob (v := .ref (C 2)) rfl (E.nmg 2 (by decide)) rfl) pa_nil))) pa_nil)))))
      (pss_cons (ps_set (i := 1) scKinds.nd rfl (Or.inl rfl) (pe_op op_cat (pv 1) (pe_lst
        (pa_cons (pe_callB call_isE1 (by rfl) T.isi (by decide +kernel) (pa_cons (pv 0) (pa_cons (pe_glob (v := .ref (C 3)) rfl (E.nmg 3 (by decide)) rfl) pa_nil)))
        (pa_cons (pe_callB call_isE1 (by rfl) T.isi (by decide +kernel) (pa_cons (pv 0) (pa_cons (pe_glob (v := .ref (C 4)) rfl (E.nmg 4 (by decide)) rfl) pa_nil)))
        (pa_cons (pe_callB call_isE1 (by rfl) T.isi (by decide +kernel) (pa_cons (pv 0) (pa_cons (pe_glob (v := .ref (C 5)) rfl (E.nmg 5 (by decide)) rfl) pa_nil))) pa_nil))))))
      (pss_cons (ps_set (i := 1) scKinds.nd rfl (Or.inl rfl) (pe_op op_cat (pv 1) (pe_lst
        (pa_cons (pe_callB call_isE1 (by rfl) T.isi (by decide +kernel) (pa_cons (pv 0) (pa_cons (pe_glob (v := .ref (C 6)) rfl (E.nmg 6 (by decide)) rfl) pa_nil)))
        (pa_cons (pe_callB call_isE1 (by rfl) T.isi (by decide +kernel) (pa_cons (pv 0) (pa_cons (pe_glob (v := .ref (C 7)) rfl (E.nmg 7 (by decide)) rfl) pa_nil)))
        (pa_cons (pe_callB call_isE1 (by rfl) T.isi (by decide +kernel) (pa_cons (pv 0) (pa_cons (pe_glob (v := .ref (C 8)) rfl (E.nmg 8 (by decide)) rfl) pa_nil))) pa_nil))))))
      (pss_one (ps_ret (pe_op op_cat (pv 1) (pe_lst
        (pa_cons (pe_callB call_isE1 (by rfl) T.isi (by decide +kernel) (pa_cons (pv 0) (pa_cons (pe_glob (v := .ref (C 9)) rfl (E.nmg 9 (by decide)) rfl) pa_nil)))
        (pa_cons (pe_callB call_isE1 (by rfl) T.isi (by decide +kernel) (pa_cons (pv 0) (pa_cons (pe_glob (v := .ref (C 10)) rfl (E.nmg 10 (by decide)) rfl) pa_nil))) pa_nil)))))))), ?_⟩
    unfold tSeq tAsg tLst
    dsimp only
    refine kinds_read (X := (cxOf CX0 P w K mg base ["error", "found"] "_law_kinds" (defScope sKinds) f cdv A outer s H E').nox) (i := 0) (σ := [some (.ref a), none]) (a := a) (v := v) (j := j) rfl hj E er.is [0, 1, 2] (by decide) ?_
    refine ⟨by show 3 ≤ sizeLine; rw [sizeLine_eq]; decide, fun q hq => ?_⟩
    have s1 := snew (o := .lst (flags j [0, 1, 2])) hq
    refine ⟨_, rfl, ?_⟩
    refine kinds_read (X := (cxOf CX0 P w K mg base ["error", "found"] "_law_kinds" (defScope sKinds) f cdv A outer s H E').nox) (i := 0) (σ := [some (.ref a), some (.ref q)]) (a := a) (v := v) (j := j) rfl hj E (per s1 er).is [3, 4, 5] (by decide) ?_
    refine ⟨by show 3 ≤ sizeLine; rw [sizeLine_eq]; decide, fun q2 hq2 => ?_⟩
    have s2 := s1.trans (snew (o := .lst (flags j [3, 4, 5])) hq2)
    refine ⟨q, q2, _, _, rfl, rfl, snew hq2 _ _ upd_same, upd_same, by show 6 ≤ sizeLine; rw [sizeLine_eq]; decide, fun q3 hq3 => ?_⟩
    have s3 := s2.trans (snew (o := .lst (flags j [0, 1, 2] ++ flags j [3, 4, 5])) hq3)
    refine ⟨_, rfl, ?_⟩
    refine kinds_read (X := (cxOf CX0 P w K mg base ["error", "found"] "_law_kinds" (defScope sKinds) f cdv A outer s H E').nox) (i := 0) (σ := [some (.ref a), some (.ref q3)]) (a := a) (v := v) (j := j) rfl hj E (per s3 er).is [6, 7, 8] (by decide) ?_
    refine ⟨by show 3 ≤ sizeLine; rw [sizeLine_eq]; decide, fun q4 hq4 => ?_⟩
    have s4 := s3.trans (snew (o := .lst (flags j [6, 7, 8])) hq4)
    refine ⟨q3, q4, _, _, rfl, rfl, snew hq4 _ _ upd_same, upd_same, by show 9 ≤ sizeLine; rw [sizeLine_eq]; decide, fun q5 hq5 => ?_⟩
    have s5 := s4.trans (snew (o := .lst ((flags j [0, 1, 2] ++ flags j [3, 4, 5]) ++ flags j [6, 7, 8])) hq5)
    refine ⟨_, rfl, ?_⟩
    refine kinds_read (X := (cxOf CX0 P w K mg base ["error", "found"] "_law_kinds" (defScope sKinds) f cdv A outer s H E').nox) (i := 0) (σ := [some (.ref a), some (.ref q5)]) (a := a) (v := v) (j := j) rfl hj E (per s5 er).is [9, 10] (by decide) ?_
    refine ⟨by show 2 ≤ sizeLine; rw [sizeLine_eq]; decide, fun q6 hq6 => ?_⟩
    refine ⟨q5, q6, _, _, rfl, rfl, snew hq6 _ _ upd_same, upd_same, by show 11 ≤ sizeLine; rw [sizeLine_eq]; decide, fun q7 hq7 => ?_⟩
    exact k q7 _ upd_same ((s5.trans (snew hq6)).trans (snew hq7))

theorem ok_kindsW {p : Addr × Obj} {f : Addr} {fd : FuncData} (F : Fun K "_law_kinds" "_law_kinds" sKinds f fd) (T : Bt mg) (E : Ers P w K mg base S C fI fdE) : FnW P w K mg base 1 f fd ["error"] p (spKindsW C p) := by
  refine fn_warm F scKinds (fun vs H Q E' h => ?_) (fun cdv A outer s H vs Q hr h => ?_)
  · obtain ⟨v, d, j, rfl, _⟩ := h
    rfl
  · obtain ⟨v, d, j, rfl, hj, hz, hf, hd, k⟩ := h
    obtain ⟨a, oe⟩ := p
    have per : ∀ {H1 H2 : Hp}, Same H1 H2 → H1 d = some (.xd [("thing", v)]) → H2 d = some (.xd [("thing", v)]) := fun s e => s _ _ e
    have er := hd
    have mk : ∀ {H1 : Hp}, H1 d = some (.xd [("thing", v)]) → ErrIs (L2H.cxH CX0 P w K mg base ["error", "found"] "_law_kinds" (defScope sKinds) f cdv A outer s H E0 (a, oe)) H1 a (C j) v := fun h => ErrIs.pinned (oe := oe) (by exact List.mem_singleton_self _) hz hf h
    refine ⟨_, pss_cons (ps_set (i := 1) scKinds.nd rfl (Or.inl rfl) (pe_lst
        (pa_cons (pe_callB call_isE1 (by rfl) T.isi (by decide +kernel) (pa_cons (pv 0) (pa_cons (pe_glob (v := .ref (C 0)) rfl (E.nmg 0 (by decide)) rfl) pa_nil)))
        (pa_cons (pe_callB call_isE1 (by rfl) T.isi (by decide +kernel) (pa_cons (pv 0) (pa_cons (pe_glob (v := .ref (C 1)) rfl (E.nmg 1 (by decide)) rfl) pa_nil)))
        (pa_cons (pe_callB call_isE1 (by rfl) T.isi (by decide +kernel) (pa_cons (pv 0) (pa_cons (pe_glob (v := .ref (C 2)) rfl (E.nmg 2 (by decide)) rfl) pa_nil))) pa_nil)))))
      (pss_cons (ps_set (i := 1) scKinds.nd rfl (Or.inl rfl) (pe_op op_cat (pv 1) (pe_lst
        (pa_cons (pe_callB call_isE1 (by rfl) T.isi (by decide +kernel) (pa_cons (pv 0) (pa_cons (pe_glob (v := .ref (C 3)) rfl (E.nmg 3 (by decide)) rfl) pa_nil)))
        (pa_cons (pe_callB call_isE1 (by rfl) T.isi (by decide +kernel) (pa_cons (pv 0) (pa_cons (pe_glob (v := .ref (C 4)) rfl (E.nmg 4 (by decide)) rfl) pa_nil)))
        (pa_cons (pe_callB call_isE1 (by rfl) T.isi (by decide +kernel) (pa_cons (pv 0) (pa_cons (pe_glob (v := .ref (C 5)) rfl (E.nmg 5 (by decide)) rfl) pa_nil))) pa_nil))))))
      (pss_cons (ps_set (i := 1) scKinds.nd rfl (Or.inl rfl) (pe_op op_cat (pv 1) (pe_lst
        (pa_cons (pe_callB call_isE1 (by rfl) T.isi (by decide +kernel) (pa_cons (pv 0) (pa_cons (pe_glob (v := .ref (C 6)) rfl (E.nmg 6 (by decide)) rfl) pa_nil)))
        (pa_cons (pe_callB call_isE1 (by rfl) T.isi (by decide +kernel) (pa_cons (pv 0) (pa_cons (pe_glob (v := .ref (C 7)) rfl (E.nmg 7 (by decide)) rfl) pa_nil)))
        (pa_cons (pe_callB call_isE1 (by rfl) T.isi (by decide +kernel) (pa_cons (pv 0) (pa_cons (pe_glob (v := .ref (C 8)) rfl (E.nmg 8 (by decide)) rfl) pa_nil))) pa_nil))))))
      (pss_one (ps_ret (pe_op op_cat (pv 1) (pe_lst
        (pa_cons (pe_callB call_isE1 (by rfl) T.isi (by decide +kernel) (pa_cons (pv 0) (pa_cons (pe_glob (v := .ref (C 9)) rfl (E.nmg 9 (by decide)) rfl) pa_nil)))
        (pa_cons (pe_callB call_isE1 (by rfl) T.isi (by decide +kernel) (pa_cons (pv 0) (pa_cons (pe_glob (v := .ref (C 10)) rfl (E.nmg 10 (by decide)) rfl) pa_nil))) pa_nil)))))))), ?_⟩
    unfold tSeq tAsg tLst
    dsimp only
    refine kinds_read (X := (L2H.cxH CX0 P w K mg base ["error", "found"] "_law_kinds" (defScope sKinds) f cdv A outer s H E0 (a, oe))) (i := 0) (σ := [some (.ref a), none]) (a := a) (v := v) (j := j) rfl hj E (mk er) [0, 1, 2] (by decide) ?_
    refine ⟨by show 3 ≤ sizeLine; rw [sizeLine_eq]; decide, fun q hq => ?_⟩
    have s1 := snew (o := .lst (flags j [0, 1, 2])) hq
    refine ⟨_, rfl, ?_⟩
    refine kinds_read (X := (L2H.cxH CX0 P w K mg base ["error", "found"] "_law_kinds" (defScope sKinds) f cdv A outer s H E0 (a, oe))) (i := 0) (σ := [some (.ref a), some (.ref q)]) (a := a) (v := v) (j := j) rfl hj E (mk (per s1 er)) [3, 4, 5] (by decide) ?_
    refine ⟨by show 3 ≤ sizeLine; rw [sizeLine_eq]; decide, fun q2 hq2 => ?_⟩
    have s2 := s1.trans (snew (o := .lst (flags j [3, 4, 5])) hq2)
    refine ⟨q, q2, _, _, rfl, rfl, snew hq2 _ _ upd_same, upd_same, by show 6 ≤ sizeLine; rw [sizeLine_eq]; decide, fun q3 hq3 => ?_⟩
    have s3 := s2.trans (snew (o := .lst (flags j [0, 1, 2] ++ flags j [3, 4, 5])) hq3)
    refine ⟨_, rfl, ?_⟩
    refine kinds_read (X := (L2H.cxH CX0 P w K mg base ["error", "found"] "_law_kinds" (defScope sKinds) f cdv A outer s H E0 (a, oe))) (i := 0) (σ := [some (.ref a), some (.ref q3)]) (a := a) (v := v) (j := j) rfl hj E (mk (per s3 er)) [6, 7, 8] (by decide) ?_
    refine ⟨by show 3 ≤ sizeLine; rw [sizeLine_eq]; decide, fun q4 hq4 => ?_⟩
    have s4 := s3.trans (snew (o := .lst (flags j [6, 7, 8])) hq4)
    refine ⟨q3, q4, _, _, rfl, rfl, snew hq4 _ _ upd_same, upd_same, by show 9 ≤ sizeLine; rw [sizeLine_eq]; decide, fun q5 hq5 => ?_⟩
    have s5 := s4.trans (snew (o := .lst ((flags j [0, 1, 2] ++ flags j [3, 4, 5]) ++ flags j [6, 7, 8])) hq5)
    refine ⟨_, rfl, ?_⟩
    refine kinds_read (X := (L2H.cxH CX0 P w K mg base ["error", "found"] "_law_kinds" (defScope sKinds) f cdv A outer s H E0 (a, oe))) (i := 0) (σ := [some (.ref a), some (.ref q5)]) (a := a) (v := v) (j := j) rfl hj E (mk (per s5 er)) [9, 10] (by decide) ?_
    refine ⟨by show 2 ≤ sizeLine; rw [sizeLine_eq]; decide, fun q6 hq6 => ?_⟩
    refine ⟨q5, q6, _, _, rfl, rfl, snew hq6 _ _ upd_same, upd_same, by show 11 ≤ sizeLine; rw [sizeLine_eq]; decide, fun q7 hq7 => ?_⟩
    exact k q7 _ upd_same ((s5.trans (snew hq6)).trans (snew hq7))

end
end K0

namespace K0
open PySem PySem.Spec PyProof.Rows L2
/-- the names of built-in errors that stay so -/
def Bx (mg : Str → Option Value) : Prop := mg "Exception" = none ∧ mg "ValueError" = none ∧ mg "TypeError" = none ∧ mg "LookupError" = none ∧ mg "ArithmeticError" = none ∧ mg "RuntimeError" = none ∧ mg "AttributeError" = none
theorem bls_lay : ∀ bs : List Bool, PyData.canLayAll0 (bs.map PyData.bool) = true
  | [] => by simp [PyData.canLayAll0]
  | z :: zs => by simp [PyData.canLayAll0, PyData.canLay0, bls_lay zs]
theorem bls_deep : ∀ bs : List Bool, PyData.depthAll (bs.map PyData.bool) = 0
  | [] => by simp [PyData.depthAll]
  | z :: zs => by simp [PyData.depthAll, PyData.depth, bls_deep zs]
theorem bls_shaped (bs : List Bool) : SeqAt.shaped (.list (bs.map PyData.bool)) = true := by
  have h1 := bls_deep bs
  show (PyData.canLay0 (.list (bs.map PyData.bool)) && decide (PyData.depth (.list (bs.map PyData.bool)) ≤ 64)) = true
  rw [Bool.and_eq_true]
  exact ⟨by simp only [PyData.canLay0]; exact bls_lay bs, decide_eq_true (by simp only [PyData.depth]; omega)⟩
theorem bls_all : ∀ bs : List Bool, PyData.eqvAll (bs.map PyData.bool) (bs.map PyData.bool) = true
  | [] => by simp [PyData.eqvAll]
  | z :: zs => by simp [PyData.eqvAll, PyData.eqv, bls_all zs]
theorem bls_eqv (bs : List Bool) : PyData.eqv (.list (bs.map PyData.bool)) (.list (bs.map PyData.bool)) = true := by
  simp only [PyData.eqv]; exact bls_all bs
theorem bls_dp {K : PySem.W.Frag} {H : Hp} : ∀ bs : List Bool, DpAll K H (bs.map V.bl) (bs.map PyData.bool)
  | [] => .nil
  | z :: zs => .cons (.bl z) (bls_dp zs)
def bits (i n : Nat) : List Bool := (List.range n).map fun j => decide (i = j)
theorem bits_flags (i n : Nat) : flags i (List.range n) = (bits i n).map V.bl := by
  unfold flags bits
  rw [List.map_map]; rfl
theorem bits_succ (i n : Nat) : bits i (n + 1) = bits i n ++ [decide (i = n)] := by
  unfold bits
  rw [List.range_succ, List.map_append]; rfl
theorem bits_len (i n : Nat) : (bits i n).length = n := by simp [bits]
def spOwn (C : Nat → Addr) : Sp := fun vs H Q _ => ∃ (v : V) (a : Addr) (i : Nat), vs = [.int (i : Int), .ref a] ∧ i < 11 ∧ ErrAt H v (C i) a ∧ ∀ H', Same H H' → Q (.bl true) H'
section
variable {P : Program} {w : World} {K : PySem.W.Frag} {mg : Str → Option Value} {base : Heap} {S : Addr} {C fI : Nat → Addr} {fdE : Nat → FuncData}
theorem scOwn : FnScope ["at", "error", "place"] ["at", "error"] (defScope sOwn) := ⟨rfl, rfl, rfl, by decide +kernel, rfl, by decide +kernel, by decide +kernel⟩
theorem ok_own {f fK : Addr} {fd fdK : FuncData} (F : Fun K "_law_is_own" "_law_is_own" sOwn f fd) (T : Bt mg) (B : Bx mg) (E : Ers P w K mg base S C fI fdE) (Kd : Kn P w K mg base 1 "_law_kinds" ["error"] (spKinds C) fK fdK) : FnOk P w K mg base CX0 2 f fd ["at", "error"] (spOwn C) := by
  refine F.ok scOwn (fun vs H Q E' h => ?_) (fun cdv A outer s H vs Q E' hr h => ?_)
  · obtain ⟨v, a, i, rfl, _⟩ := h
    rfl
  · obtain ⟨v, a, i, rfl, hi, er, k⟩ := h
    obtain ⟨b0, b1, b2, b3, b4, b5, b6⟩ := B
    have hu := hu_of hr
    refine ⟨_, pss_cons (ps_if (PW.pt (pw_or (pt_not (pt_val (pe_callB call_isE1 (by rfl) T.isi (by decide +kernel) (pa_cons (pv 1) (pa_cons (pe_glob (v := .ref S) rfl E.mgS rfl) pa_nil)))))
          (pw_or1 (pt_not (pt_val (pe_callB call_isE1 (by rfl) T.isi (by decide +kernel) (pa_cons (pv 1) (pa_cons (pe_bltn (v := .ty "Exception") (by rfl) b0 (by decide +kernel) rfl) pa_nil)))))))) (pss_one (ps_ret pe_bl)) pss_nil)
      (pss_cons (ps_if (pt_val (pe_callB call_isET (by rfl) T.isi (by decide +kernel) (pa_cons (pv 1) (pa_cons (pe_tup (pa_cons (pe_bltn (v := .ty "ValueError") (by rfl) b1 (by decide +kernel) rfl) (pa_cons (pe_bltn (v := .ty "TypeError") (by rfl) b2 (by decide +kernel) rfl)
          (pa_cons (pe_bltn (v := .ty "LookupError") (by rfl) b3 (by decide +kernel) rfl) (pa_cons (pe_bltn (v := .ty "ArithmeticError") (by rfl) b4 (by decide +kernel) rfl) (pa_cons (pe_bltn (v := .ty "RuntimeError") (by rfl) b5 (by decide +kernel) rfl)
          (pa_cons (pe_bltn (v := .ty "AttributeError") (by rfl) b6 (by decide +kernel) rfl) pa_nil))))))) pa_nil)))) (pss_one (ps_ret pe_bl)) pss_nil)
      (pss_one (ps_ret (pe_cmpR (op_eqD hr.units) (pe_call Kd.ok hr rfl Kd.mg Kd.kp Kd.bd .nil pass0 (pa_cons (pv 1) pa_nil))
        (pe_lc (own := [("place", 2)]) (g := gName 2) (tt := tYes) rfl scOwn.nd (pi_range1 rfl T.range (pa_cons pe_int pa_nil))
          (blkOk_by (own := [("place", 2)]) (N := ["at", "error", "place"]) (sc := defScope sOwn) (by decide +kernel)) (fun _ _ _ _ _ => pg_name (i := 2) scOwn.nd rfl (Or.inl rfl)) (fun _ _ _ _ _ => pts_nil)
          (fun _ _ _ _ _ => pe_cmpR op_eq (pv 2) (pv 0) (nomark _))) (nomark _))))), ?_⟩
    refine ⟨_, rfl, a, C i, S, v, .ref S, .ref S, true, rfl, .own _, (E.M i hi).T, er.is, E.kitS i hi, _, rfl, _, rfl, a, C i, S, v, .ty "Exception", .type "Exception", true, rfl, .ty _, (E.M i hi).T, er.is, E.kitE i hi, _, rfl, iteF ?_⟩
    refine ⟨_, rfl, by show 6 ≤ sizeLine; rw [sizeLine_eq]; decide, fun p hp => ?_⟩
    have s1 := snew (o := .tup [.ty "ValueError", .ty "TypeError", .ty "LookupError", .ty "ArithmeticError", .ty "RuntimeError", .ty "AttributeError"]) hp
    refine ⟨a, C i, S, p, v, _, sixT, false, rfl, upd_same, .cons (.ty _) (.cons (.ty _) (.cons (.ty _) (.cons (.ty _) (.cons (.ty _) (.cons (.ty _) .nil))))), (E.M i hi).T, (er.same s1).is, E.kit6 i hi, _, rfl, iteF ?_⟩
    refine ⟨_, rfl, v, a, i, rfl, hi, er.same s1, fun q H2 hq s2 => ?_⟩
    refine ⟨11, rfl, by decide, by decide, fun D hD => ?_⟩
    refine lc_range (lo := 0) (n := 11) (fun n H' => H' D = some (.lst ((bits i n).map V.bl)) ∧ Same H2 H') ⟨upd_same, snew hD⟩ ?_ ?_
    · rintro n H' hn ⟨e1, e2⟩
      refine ⟨rfl, ?_⟩
      refine ⟨_, rfl, _, rfl, rfl, _, e1, ?_, ?_, fun b o e => ?_⟩
      · rw [List.length_map, bits_len]; exact small1000 (by omega)
      · rw [bits_succ, List.map_append, upd_same]
        congr 3
        show [V.bl (decide (V.int ((0 : Int) + (n : Int)) = V.int (i : Int)))] = [V.bl (decide (i = n))]
        congr 2
        exact decide_eq_decide.mpr ⟨fun h => by have := V.int.inj h; omega, fun h => by rw [h, Int.zero_add]⟩
      · rw [upd_ne (ne_of_none e hD)]
        exact e2 _ _ e
    · rintro H' ⟨e1, e2⟩
      rw [bits_flags] at hq
      refine ⟨.list ((bits i 11).map PyData.bool), .list ((bits i 11).map PyData.bool), .lst (SqL.of (e2 _ _ hq)) (bls_dp _), .lst (SqL.of e1) (bls_dp _), bls_shaped _, bls_shaped _, ?_⟩
      rw [bls_eqv]
      exact k _ ((s1.trans s2).trans e2)
end
end K0

namespace K0
open PySem PySem.Spec PyProof.Rows L2
theorem same_air {H H' : Hp} {a d : Addr} (h1 : H a = none) (h2 : H d = none) (h : ∀ b, b ≠ a → b ≠ d → H' b = H b) : Same H H' := fun b o e => by
  rw [h b (ne_of_none e h1) (ne_of_none e h2)]; exact e
/-- way i: an error of the i-th class, its thing v -/
def spRaise (C : Nat → Addr) : Sp := fun vs H _ E => ∃ (v : V) (i : Nat), vs = [.int (i : Int), v] ∧ i < 11 ∧ ∀ (dx : Addr) (H' : Hp), H dx = none → H' dx = some (.xd [("thing", v)]) → Same H H' → E (.ref (C i)) (some dx) H'
/-- the caught error's thing -/
def tGotE (K : PySem.W.Frag) (i : Nat) (a : Addr) (cls : Value) (d : Option Addr) : TE := fun σ H Q => tVar i σ H fun x H1 => ∃ (C S dx : Addr) (v : V), x = .ref a ∧ cls = .ref C ∧ d = some dx ∧ SlC K C S ∧ H1 dx = some (.xd [("thing", v)]) ∧ Q v H1
theorem pe_thingP {X : Cx} {K : PySem.W.Frag} {a : Addr} {oe : Obj} {cls : Value} {d : Option Addr} {i : Nat} {e : Expr} {pos : Pos} (hK : X.K = K) (hp : (a, oe) ∈ X.pn) (hz : Zc cls d oe) (hf : ∃ vs, oe.data = .fields vs) (he : PE X e (tVar i))
    (hb : attributeBase e "thing" X.env (eval e X.env) = eval e X.env := by rfl) : PE X (.Attribute e "thing" pos) (tGotE K i a cls d) := by
  subst hK
  refine ⟨fun pins s σ H Q I h => (pe_thing he hb).run pins s σ H Q I ?_⟩
  obtain ⟨x, hx, C, S, dx, v, rfl, rfl, rfl, T, hd, q⟩ := h
  exact ⟨_, hx, a, C, S, v, rfl, T, ErrIs.pinned hp hz hf hd, q⟩
section
variable {X : Cx} {k : Nat} {f a : Addr} {oe : Obj} {fd : FuncData} {C : Nat → Addr} {x : Str} {q pos : Pos} {e : Expr} {cls : Value} {d : Option Addr} {i : Nat}
theorem pe_kindsP (F : FnW X.prog X.w X.K X.mg X.base k f fd ["error"] (a, oe) (spKindsW C (a, oe))) (hr : L2H.RoomH k X.A) (hp : (a, oe) ∈ X.pn) (hm : X.mg x = some (.ref f)) (hk : PySem.W.keepIn X.K (.ref f) = true) (hb : Binds X.K fd ["error"] [])
    (hz : Zc cls d oe) (hf : ∃ vs, oe.data = .fields vs) (he : PE X e (tVar i)) (hg : Gl X x := by rfl)
    (hdb : (x == ("__debug__" : Str)) = false := by decide) (hst : starEach [e] X.env = (false, eval e X.env) :: starEach [] X.env := by rfl) (hpl : (backTo pos (starEach [] X.env)).any (·.1) = false := by rfl) :
    PE X (.Call (.Name x q) [e] [] pos) (fun σ H Q => tVar i σ H fun x H1 => ∃ (v : V) (dx : Addr) (j : Nat), x = .ref a ∧ j < 11 ∧ cls = .ref (C j) ∧ d = some dx ∧ H1 dx = some (.xd [("thing", v)]) ∧
      ∀ (q : Addr) (H' : Hp), H' q = some (.lst (flags j (List.range 11))) → Same H1 H' → Q (.ref q) H') := by
  refine ⟨fun pins s σ H Q I h => (pe_warm F hr hp hm hk hb (pa_cons he pa_nil (hs := hst)) hg hdb hst hpl).run pins s σ H Q I ?_⟩
  obtain ⟨x, hx, v, dx, j, rfl, hj, rfl, rfl, hd, kk⟩ := h
  exact ⟨_, hx, v, dx, j, rfl, hj, hz, hf, hd, kk⟩
end
section
variable {P : Program} {w : World} {K : PySem.W.Frag} {mg : Str → Option Value} {base : Heap} {S : Addr} {C fI : Nat → Addr} {fdE : Nat → FuncData}
theorem scRaise : FnScope ["way", "it"] ["way", "it"] (defScope sRaise) := ⟨rfl, rfl, rfl, by decide +kernel, rfl, by decide +kernel, by decide +kernel⟩
theorem ok_raise {f : Addr} {fd : FuncData} (F : Fun K "_law_raise" "_law_raise" sRaise f fd) (E : Ers P w K mg base S C fI fdE) : FnOk P w K mg base (L2.CX P w) 4 f fd ["way", "it"] (spRaise C) := by
  refine F.okX scRaise (fun vs H Q E' h => ?_) (fun cdv A outer s H vs Q E' hr h => ?_)
  · obtain ⟨v, i, rfl, _⟩ := h
    rfl
  · obtain ⟨v, i, rfl, hi, k⟩ := h
    refine ⟨_, (pss_cons (ps_if (pt_cmpR op_eq (pv 0) pe_int (nomark _)) (pss_one (ps_raise rfl (takes_of rfl rfl rfl rfl) (pmk_sl (E.M 0 (by decide)) (E.ok 0 (by decide)) hr pass0 (E.b1 0 (by decide)) (E.nmg 0 (by decide)) (pv 1)))) pss_nil)
      (pss_cons (ps_if (pt_cmpR op_eq (pv 0) pe_int (nomark _)) (pss_one (ps_raise rfl (takes_of rfl rfl rfl rfl) (pmk_slK (E.M 1 (by decide)) (E.ok 1 (by decide)) hr pass0 (E.bK 1 (by decide)) (E.nmg 1 (by decide)) (pv 1)))) pss_nil)
      (pss_cons (ps_if (pt_cmpR op_eq (pv 0) pe_int (nomark _)) (pss_one (ps_raise rfl (takes_of rfl rfl rfl rfl) (pmk_sl (E.M 2 (by decide)) (E.ok 2 (by decide)) hr pass0 (E.b1 2 (by decide)) (E.nmg 2 (by decide)) (pv 1)))) pss_nil)
      (pss_cons (ps_if (pt_cmpR op_eq (pv 0) pe_int (nomark _)) (pss_one (ps_raise rfl (takes_of rfl rfl rfl rfl) (pmk_slK (E.M 3 (by decide)) (E.ok 3 (by decide)) hr pass0 (E.bK 3 (by decide)) (E.nmg 3 (by decide)) (pv 1)))) pss_nil)
      (pss_cons (ps_if (pt_cmpR op_eq (pv 0) pe_int (nomark _)) (pss_one (ps_raise rfl (takes_of rfl rfl rfl rfl) (pmk_sl (E.M 4 (by decide)) (E.ok 4 (by decide)) hr pass0 (E.b1 4 (by decide)) (E.nmg 4 (by decide)) (pv 1)))) pss_nil)
      (pss_cons (ps_if (pt_cmpR op_eq (pv 0) pe_int (nomark _)) (pss_one (ps_raise rfl (takes_of rfl rfl rfl rfl) (pmk_slK (E.M 5 (by decide)) (E.ok 5 (by decide)) hr pass0 (E.bK 5 (by decide)) (E.nmg 5 (by decide)) (pv 1)))) pss_nil)
      (pss_cons (ps_if (pt_cmpR op_eq (pv 0) pe_int (nomark _)) (pss_one (ps_raise rfl (takes_of rfl rfl rfl rfl) (pmk_sl (E.M 6 (by decide)) (E.ok 6 (by decide)) hr pass0 (E.b1 6 (by decide)) (E.nmg 6 (by decide)) (pv 1)))) pss_nil)
      (pss_cons (ps_if (pt_cmpR op_eq (pv 0) pe_int (nomark _)) (pss_one (ps_raise rfl (takes_of rfl rfl rfl rfl) (pmk_slK (E.M 7 (by decide)) (E.ok 7 (by decide)) hr pass0 (E.bK 7 (by decide)) (E.nmg 7 (by decide)) (pv 1)))) pss_nil)
      (pss_cons (ps_if (pt_cmpR op_eq (pv 0) pe_int (nomark _)) (pss_one (ps_raise rfl (takes_of rfl rfl rfl rfl) (pmk_sl (E.M 8 (by decide)) (E.ok 8 (by decide)) hr pass0 (E.b1 8 (by decide)) (E.nmg 8 (by decide)) (pv 1)))) pss_nil)
      (pss_cons (ps_if (pt_cmpR op_eq (pv 0) pe_int (nomark _)) (pss_one (ps_raise rfl (takes_of rfl rfl rfl rfl) (pmk_slK (E.M 9 (by decide)) (E.ok 9 (by decide)) hr pass0 (E.bK 9 (by decide)) (E.nmg 9 (by decide)) (pv 1)))) pss_nil)
      (pss_one (ps_raise rfl (takes_of rfl rfl rfl rfl) (pmk_sl (E.M 10 (by decide)) (E.ok 10 (by decide)) hr pass0 (E.b1 10 (by decide)) (E.nmg 10 (by decide)) (pv 1)))))))))))))), ?_⟩
    refine ⟨_, rfl, rfl, _, rfl, ite2 (fun c => ?_) (fun c0 => ?_)⟩
    · obtain rfl : i = 0 := by have := V.int.inj (of_decide_eq_true c); omega
      exact ⟨_, rfl, fun a d H' h1 h2 h3 h4 h5 h6 => k d H' h2 h4 (same_air h1 h2 h6)⟩
    refine ⟨_, rfl, rfl, _, rfl, ite2 (fun c => ?_) (fun c1 => ?_)⟩
    · obtain rfl : i = 1 := by have := V.int.inj (of_decide_eq_true c); omega
      exact ⟨_, rfl, fun a d H' h1 h2 h3 h4 h5 h6 => k d H' h2 h4 (same_air h1 h2 h6)⟩
    refine ⟨_, rfl, rfl, _, rfl, ite2 (fun c => ?_) (fun c2 => ?_)⟩
    · obtain rfl : i = 2 := by have := V.int.inj (of_decide_eq_true c); omega
      exact ⟨_, rfl, fun a d H' h1 h2 h3 h4 h5 h6 => k d H' h2 h4 (same_air h1 h2 h6)⟩
    refine ⟨_, rfl, rfl, _, rfl, ite2 (fun c => ?_) (fun c3 => ?_)⟩
    · obtain rfl : i = 3 := by have := V.int.inj (of_decide_eq_true c); omega
      exact ⟨_, rfl, fun a d H' h1 h2 h3 h4 h5 h6 => k d H' h2 h4 (same_air h1 h2 h6)⟩
    refine ⟨_, rfl, rfl, _, rfl, ite2 (fun c => ?_) (fun c4 => ?_)⟩
    · obtain rfl : i = 4 := by have := V.int.inj (of_decide_eq_true c); omega
      exact ⟨_, rfl, fun a d H' h1 h2 h3 h4 h5 h6 => k d H' h2 h4 (same_air h1 h2 h6)⟩
    refine ⟨_, rfl, rfl, _, rfl, ite2 (fun c => ?_) (fun c5 => ?_)⟩
    · obtain rfl : i = 5 := by have := V.int.inj (of_decide_eq_true c); omega
      exact ⟨_, rfl, fun a d H' h1 h2 h3 h4 h5 h6 => k d H' h2 h4 (same_air h1 h2 h6)⟩
    refine ⟨_, rfl, rfl, _, rfl, ite2 (fun c => ?_) (fun c6 => ?_)⟩
    · obtain rfl : i = 6 := by have := V.int.inj (of_decide_eq_true c); omega
      exact ⟨_, rfl, fun a d H' h1 h2 h3 h4 h5 h6 => k d H' h2 h4 (same_air h1 h2 h6)⟩
    refine ⟨_, rfl, rfl, _, rfl, ite2 (fun c => ?_) (fun c7 => ?_)⟩
    · obtain rfl : i = 7 := by have := V.int.inj (of_decide_eq_true c); omega
      exact ⟨_, rfl, fun a d H' h1 h2 h3 h4 h5 h6 => k d H' h2 h4 (same_air h1 h2 h6)⟩
    refine ⟨_, rfl, rfl, _, rfl, ite2 (fun c => ?_) (fun c8 => ?_)⟩
    · obtain rfl : i = 8 := by have := V.int.inj (of_decide_eq_true c); omega
      exact ⟨_, rfl, fun a d H' h1 h2 h3 h4 h5 h6 => k d H' h2 h4 (same_air h1 h2 h6)⟩
    refine ⟨_, rfl, rfl, _, rfl, ite2 (fun c => ?_) (fun c9 => ?_)⟩
    · obtain rfl : i = 9 := by have := V.int.inj (of_decide_eq_true c); omega
      exact ⟨_, rfl, fun a d H' h1 h2 h3 h4 h5 h6 => k d H' h2 h4 (same_air h1 h2 h6)⟩
    obtain rfl : i = 10 := by
      have d0 : ¬ (i = 0) := fun z => c0 (by rw [z]; exact decide_eq_true rfl)
      have d1 : ¬ (i = 1) := fun z => c1 (by rw [z]; exact decide_eq_true rfl)
      have d2 : ¬ (i = 2) := fun z => c2 (by rw [z]; exact decide_eq_true rfl)
      have d3 : ¬ (i = 3) := fun z => c3 (by rw [z]; exact decide_eq_true rfl)
      have d4 : ¬ (i = 4) := fun z => c4 (by rw [z]; exact decide_eq_true rfl)
      have d5 : ¬ (i = 5) := fun z => c5 (by rw [z]; exact decide_eq_true rfl)
      have d6 : ¬ (i = 6) := fun z => c6 (by rw [z]; exact decide_eq_true rfl)
      have d7 : ¬ (i = 7) := fun z => c7 (by rw [z]; exact decide_eq_true rfl)
      have d8 : ¬ (i = 8) := fun z => c8 (by rw [z]; exact decide_eq_true rfl)
      have d9 : ¬ (i = 9) := fun z => c9 (by rw [z]; exact decide_eq_true rfl)
      omega
    exact ⟨_, rfl, fun a d H' h1 h2 h3 h4 h5 h6 => k d H' h2 h4 (same_air h1 h2 h6)⟩
/-- the result of one catch -/
def spCaught : Sp := fun vs H Q _ => ∃ (v : V) (i : Nat), vs = [.int (i : Int), v] ∧ i < 11 ∧ ∀ (q : Addr) (H' : Hp), H' q = some (.tup [.int (i : Int), v]) → Same H H' → Q (.ref q) H'
/-- the suite of one clause -/
def tGot (K : PySem.W.Frag) (n : Nat) : Suite := fun a cls d => tRet (tTup (tCons (tC (.int (n : Int))) (tCons (tGotE K 2 a cls d) tNil)))
theorem seq_got {i dx : Nat} {v : V} {D : Ends} {σ : L2.St} {H : Hp} (E : Ers P w K mg base S C fI fdE) (hi : i < 11) (h3 : 2 < σ.length) (hd : H dx = some (.xd [("thing", v)]))
    (k : ∀ q, H q = none → D.rt (.ref q) (upd H q (.tup [.int (i : Int), v]))) : ∀ l : List Nat, (∀ j ∈ l, j < 11) → i ∈ l → wSeq K 2 (fun _ _ _ _ => False) D (l.map fun j => (Value.ref (C j), tGot K j)) (.ref (C i)) (some dx) σ H
  | [], _, h => absurd h (by simp)
  | j :: r, hl, hm => by
    refine ⟨decide (i = j), E.exm i j hi (hl j List.mem_cons_self), fun e a ha => ?_, fun e => ?_⟩
    · obtain rfl := of_decide_eq_true e
      refine ⟨.ref a, by rw [List.getElem?_set_self h3], C i, S, dx, v, rfl, rfl, rfl, (E.M i hi).T, hd, by show 2 ≤ sizeLine; rw [sizeLine_eq]; decide, fun q hq => k q hq⟩
    · have ne : i ≠ j := of_decide_eq_false e
      exact seq_got E hi h3 hd k r (fun m hm => hl m (List.mem_cons_of_mem _ hm)) ((List.mem_cons.mp hm).elim (fun z => absurd z ne) id)
theorem scCaught : FnScope ["way", "it", "e"] ["way", "it"] (defScope sCaught) := ⟨rfl, rfl, rfl, by decide +kernel, rfl, by decide +kernel, by decide +kernel⟩
theorem ok_caught {f fR : Addr} {fd fdR : FuncData} (F : Fun K "_law_caught" "_law_caught" sCaught f fd) (E : Ers P w K mg base S C fI fdE) (R : FnOk P w K mg base (L2.CX P w) 4 fR fdR ["way", "it"] (spRaise C)) (Rm : mg "_law_raise" = some (.ref fR)) (Rk : PySem.W.keepIn K (.ref fR) = true) (Rb : Binds K fdR ["way", "it"] []) : FnOk P w K mg base CX0 5 f fd ["way", "it"] spCaught := by
  refine F.ok scCaught (fun vs H Q E' h => ?_) (fun cdv A outer s H vs Q E' hr h => ?_)
  · obtain ⟨v, i, rfl, _⟩ := h
    rfl
  · obtain ⟨v, i, rfl, hi, k⟩ := h
    refine ⟨_, pss_cons (ps_try_seq (i := 2) (l := [(.ref (C 10), tGot K 10), (.ref (C 0), tGot K 0), (.ref (C 9), tGot K 9), (.ref (C 2), tGot K 2), (.ref (C 1), tGot K 1), (.ref (C 5), tGot K 5), (.ref (C 4), tGot K 4), (.ref (C 7), tGot K 7), (.ref (C 3), tGot K 3), (.ref (C 8), tGot K 8), (.ref (C 6), tGot K 6)]) (Wout := fun _ _ _ _ => False) rfl rfl scCaught.nd rfl rfl takes0
      (fun W pn xe tkW po => pss_one (ps_expr (pe_callS R hr rfl Rm Rk Rb (fun σ => passAt tkW σ) (pa_cons (pv 0) (pa_cons (pv 1) pa_nil)))))
      (SeqOk.cons (ts := tGot K 10) ⟨rfl, by decide, .inl (E.nmg 10 (by decide))⟩ (fun a oe cls d pn hz hf => pss_one (ps_ret (pe_tup (pa_cons pe_int (pa_cons (pe_thingP rfl (List.mem_cons_self ..) hz hf (pv 2)) pa_nil))))) 
      (SeqOk.cons (ts := tGot K 0) ⟨rfl, by decide, .inl (E.nmg 0 (by decide))⟩ (fun a oe cls d pn hz hf => pss_one (ps_ret (pe_tup (pa_cons pe_int (pa_cons (pe_thingP rfl (List.mem_cons_self ..) hz hf (pv 2)) pa_nil))))) 
      (SeqOk.cons (ts := tGot K 9) ⟨rfl, by decide, .inl (E.nmg 9 (by decide))⟩ (fun a oe cls d pn hz hf => pss_one (ps_ret (pe_tup (pa_cons pe_int (pa_cons (pe_thingP rfl (List.mem_cons_self ..) hz hf (pv 2)) pa_nil))))) 
      (SeqOk.cons (ts := tGot K 2) ⟨rfl, by decide, .inl (E.nmg 2 (by decide))⟩ (fun a oe cls d pn hz hf => pss_one (ps_ret (pe_tup (pa_cons pe_int (pa_cons (pe_thingP rfl (List.mem_cons_self ..) hz hf (pv 2)) pa_nil))))) 
      (SeqOk.cons (ts := tGot K 1) ⟨rfl, by decide, .inl (E.nmg 1 (by decide))⟩ (fun a oe cls d pn hz hf => pss_one (ps_ret (pe_tup (pa_cons pe_int (pa_cons (pe_thingP rfl (List.mem_cons_self ..) hz hf (pv 2)) pa_nil))))) 
      (SeqOk.cons (ts := tGot K 5) ⟨rfl, by decide, .inl (E.nmg 5 (by decide))⟩ (fun a oe cls d pn hz hf => pss_one (ps_ret (pe_tup (pa_cons pe_int (pa_cons (pe_thingP rfl (List.mem_cons_self ..) hz hf (pv 2)) pa_nil))))) 
      (SeqOk.cons (ts := tGot K 4) ⟨rfl, by decide, .inl (E.nmg 4 (by decide))⟩ (fun a oe cls d pn hz hf => pss_one (ps_ret (pe_tup (pa_cons pe_int (pa_cons (pe_thingP rfl (List.mem_cons_self ..) hz hf (pv 2)) pa_nil))))) 
      (SeqOk.cons (ts := tGot K 7) ⟨rfl, by decide, .inl (E.nmg 7 (by decide))⟩ (fun a oe cls d pn hz hf => pss_one (ps_ret (pe_tup (pa_cons pe_int (pa_cons (pe_thingP rfl (List.mem_cons_self ..) hz hf (pv 2)) pa_nil))))) 
      (SeqOk.cons (ts := tGot K 3) ⟨rfl, by decide, .inl (E.nmg 3 (by decide))⟩ (fun a oe cls d pn hz hf => pss_one (ps_ret (pe_tup (pa_cons pe_int (pa_cons (pe_thingP rfl (List.mem_cons_self ..) hz hf (pv 2)) pa_nil))))) 
      (SeqOk.cons (ts := tGot K 8) ⟨rfl, by decide, .inl (E.nmg 8 (by decide))⟩ (fun a oe cls d pn hz hf => pss_one (ps_ret (pe_tup (pa_cons pe_int (pa_cons (pe_thingP rfl (List.mem_cons_self ..) hz hf (pv 2)) pa_nil))))) 
      (SeqOk.cons (ts := tGot K 6) ⟨rfl, by decide, .inl (E.nmg 6 (by decide))⟩ (fun a oe cls d pn hz hf => pss_one (ps_ret (pe_tup (pa_cons pe_int (pa_cons (pe_thingP rfl (List.mem_cons_self ..) hz hf (pv 2)) pa_nil))))) .nil))))))))))))
      (pss_one (ps_ret (pe_tup (pa_cons pe_int (pa_cons pe_non pa_nil))))), ?_⟩
    refine ⟨_, rfl, _, rfl, v, i, rfl, hi, fun dx H' h1 h2 s1 => ?_⟩
    refine seq_got E hi (by show 2 < 3; decide) h2 (fun q hq => k q _ upd_same (s1.trans (snew hq))) [10, 0, 9, 2, 1, 5, 4, 7, 3, 8, 6] (by decide) ?_
    have z : ∀ j, j < 11 → j ∈ [10, 0, 9, 2, 1, 5, 4, 7, 3, 8, 6] := by decide
    exact z i hi
/-! caught as SlopeError -/
def tBase (C : Nat → Addr) : Suite := fun a cls d => tRet (fun σ H Q => tVar 2 σ H fun x H1 => ∃ (v : V) (dx : Addr) (j : Nat), x = .ref a ∧ j < 11 ∧ cls = .ref (C j) ∧ d = some dx ∧ H1 dx = some (.xd [("thing", v)]) ∧
  ∀ (q : Addr) (H' : Hp), H' q = some (.lst (flags j (List.range 11))) → Same H1 H' → Q (.ref q) H')
def spBase : Sp := fun vs H Q _ => ∃ (v : V) (i : Nat), vs = [.int (i : Int), v] ∧ i < 11 ∧ ∀ (q : Addr) (H' : Hp), H' q = some (.lst (flags i (List.range 11))) → Same H H' → Q (.ref q) H'
theorem scBase : FnScope ["way", "it", "e"] ["way", "it"] (defScope sBase) := ⟨rfl, rfl, rfl, by decide +kernel, rfl, by decide +kernel, by decide +kernel⟩
theorem ok_base {f fR fK : Addr} {fd fdR fdK : FuncData} (F : Fun K "_law_caught_as_base" "_law_caught_as_base" sBase f fd) (E : Ers P w K mg base S C fI fdE) (R : FnOk P w K mg base (L2.CX P w) 4 fR fdR ["way", "it"] (spRaise C)) (Rm : mg "_law_raise" = some (.ref fR)) (Rk : PySem.W.keepIn K (.ref fR) = true) (Rb : Binds K fdR ["way", "it"] [])
    (Kd : ∀ p, FnW P w K mg base 1 fK fdK ["error"] p (spKindsW C p)) (Km : mg "_law_kinds" = some (.ref fK)) (Kk : PySem.W.keepIn K (.ref fK) = true) (Kb : Binds K fdK ["error"] []) : FnOk P w K mg base CX0 5 f fd ["way", "it"] spBase := by
  refine F.ok scBase (fun vs H Q E' h => ?_) (fun cdv A outer s H vs Q E' hr h => ?_)
  · obtain ⟨v, i, rfl, _⟩ := h
    rfl
  · obtain ⟨v, i, rfl, hi, k⟩ := h
    refine ⟨_, pss_cons (ps_try_seq (i := 2) (l := [(.ref S, tBase C)]) (Wout := fun _ _ _ _ => False) rfl rfl scBase.nd rfl rfl takes0
      (fun W pn xe tkW po => pss_one (ps_expr (pe_callS R hr rfl Rm Rk Rb (fun σ => passAt tkW σ) (pa_cons (pv 0) (pa_cons (pv 1) pa_nil)))))
      (SeqOk.cons (ts := tBase C) ⟨rfl, by decide, .inl E.mgS⟩ (fun a oe cls d pn hz hf => pss_one (ps_ret (pe_kindsP (Kd (a, oe)) ⟨(hr.mono (j := 1) (by omega)).dp, (hr.mono (j := 1) (by omega)).un⟩ (List.mem_cons_self ..) Km Kk Kb hz hf (pv 2)))) .nil))
      (pss_one (ps_ret (pe_lst pa_nil))), ?_⟩
    refine ⟨_, rfl, _, rfl, v, i, rfl, hi, fun dx H' h1 h2 s1 => ?_⟩
    refine ⟨true, E.exmS i hi, fun _ a ha => ?_, fun z => by cases z⟩
    exact ⟨_, rfl, v, dx, i, rfl, hi, rfl, rfl, h2, fun q H'' hq s2 => k q H'' hq (s1.trans s2)⟩
end
end K0

namespace K0
open PySem PySem.Spec PyProof.Rows L2
def spLaw (K : PySem.W.Frag) : Sp := fun vs H Q _ => ∃ (a : Addr) (ns : List Int), vs = [.ref a] ∧ SqL K H a (ns.map V.int) ∧ ns.length ≤ 63 ∧ ∀ H', Q (.bl true) H'
section
variable {P : Program} {w : World} {K : PySem.W.Frag} {mg : Str → Option Value} {base : Heap} {C : Nat → Addr}
abbrev nsLaw : List Str := ["script", "deck", "near", "far", "some", "others", "made", "at", "error", "way", "caught", "it", "place"]
theorem scLaw : FnScope nsLaw ["script"] (defScope sLaw) := ⟨rfl, rfl, rfl, by decide +kernel, rfl, by decide +kernel, by decide +kernel⟩
theorem ok_law {f f1 f2 f4 f5 f6 f7 f8 f9 f10 : Addr} {fd d1 d2 d4 d5 d6 d7 d8 d9 d10 : FuncData} (F : Fun K "law" "law" sLaw f fd) (T : Bt mg)
    (Dk : Kn P w K mg base 1 "_law_deck" ["script", "seed"] (spDeck K) f1 d1) (A3 : Kn P w K mg base 6 "_law_any" ["deck", "deep"] (spAny 3) f2 d2) (A2 : Kn P w K mg base 5 "_law_any" ["deck", "deep"] (spAny 2) f2 d2)
    (Po : Kn P w K mg base 4 "_law_by_position" ["it"] (spPos C) f4 d4) (Nm : Kn P w K mg base 4 "_law_by_name" ["it"] (spPos C) f5 d5) (Ca : Kn P w K mg base 1 "_law_carried" ["made"] (spCarr C) f6 d6)
    (Sm : Kn P w K mg base 10 "_law_is_same" ["near", "far"] (spSame 8) f7 d7) (Ow : Kn P w K mg base 2 "_law_is_own" ["at", "error"] (spOwn C) f8 d8) (Cg : Kn P w K mg base 5 "_law_caught" ["way", "it"] spCaught f9 d9) (Cb : Kn P w K mg base 5 "_law_caught_as_base" ["way", "it"] spBase f10 d10) :
    FnOk P w K mg base CX0 11 f fd ["script"] (spLaw K) := by
  refine F.ok scLaw (fun vs H Q E' h => ?_) (fun cdv A outer s H vs Q E' hr h => ?_)
  · obtain ⟨a, ns, rfl, _⟩ := h
    rfl
  · obtain ⟨a, ns, rfl, hS, hl, k⟩ := h
    have hu := hu_of hr
    have r1 : Room 1 _ := hr.mono (by decide)
    have r2 : Room 2 _ := hr.mono (by decide)
    have r4 : Room 4 _ := hr.mono (by decide)
    have r5 : Room 5 _ := hr.mono (by decide)
    have r6 : Room 6 _ := hr.mono (by decide)
    refine ⟨_, pss_cons (ps_set (i := 1) scLaw.nd rfl (Or.inl rfl) (pe_call Dk.ok r1 rfl Dk.mg Dk.kp Dk.bd .nil pass0 (pa_cons (pv 0) (pa_cons pe_int pa_nil))))
      (pss_cons (ps_asg (pe_tup (pa_cons (pe_call A3.ok r6 rfl A3.mg A3.kp A3.bd .nil pass0 (pa_cons (pv 1) (pa_cons pe_int pa_nil))) (pa_cons (pe_tup (pa_cons (pe_call A2.ok r5 rfl A2.mg A2.kp A2.bd .nil pass0 (pa_cons (pv 1) (pa_cons pe_int pa_nil))) pa_nil)) pa_nil)))
        (pg_tup rfl (pgs_cons (pg_name (i := 2) scLaw.nd rfl (Or.inr rfl)) (pgs_cons (pg_name (i := 3) scLaw.nd rfl (Or.inr rfl)) pgs_nil))))
      (pss_cons (ps_par (i := 4) (j := 5) rfl scLaw.nd rfl rfl (by decide) rfl rfl (pa_cons (pe_call Po.ok r4 rfl Po.mg Po.kp Po.bd .nil pass0 (pa_cons (pv 2) pa_nil)) (pa_cons (pe_call Nm.ok r4 rfl Nm.mg Nm.kp Nm.bd .nil pass0 (pa_cons (pv 3) pa_nil)) pa_nil)) (by rfl))
      (pss_cons (ps_if (pt_cmpR (op_neD hr.units) (pe_lc (own := [("it", 11)]) (g := gName 11) (tt := _) rfl scLaw.nd (pi_list (pe_call Ca.ok r1 rfl Ca.mg Ca.kp Ca.bd .nil pass0 (pa_cons (pv 4) pa_nil)))
          (blkOk_by (own := [("it", 11)]) (N := nsLaw) (sc := defScope sLaw) (by decide +kernel)) (fun _ _ _ _ _ => pg_name (i := 11) scLaw.nd rfl (Or.inl rfl))
          (fun _ _ _ _ _ => pts_one (pt_not (pt_val (pe_call Sm.ok hr rfl Sm.mg Sm.kp Sm.bd .nil pass0 (pa_cons (pv 11) (pa_cons (pv 2) pa_nil)))))) (fun _ _ _ _ _ => pv 11)) (pe_lst pa_nil) (nomark _)) (pss_one (ps_ret pe_bl)) pss_nil)
      (pss_cons (ps_if (pt_cmpR (op_neD hr.units) (pe_lc (own := [("it", 11)]) (g := gName 11) (tt := _) rfl scLaw.nd (pi_list (pe_call Ca.ok r1 rfl Ca.mg Ca.kp Ca.bd .nil pass0 (pa_cons (pv 5) pa_nil)))
          (blkOk_by (own := [("it", 11)]) (N := nsLaw) (sc := defScope sLaw) (by decide +kernel)) (fun _ _ _ _ _ => pg_name (i := 11) scLaw.nd rfl (Or.inl rfl))
          (fun _ _ _ _ _ => pts_one (pt_not (pt_val (pe_call Sm.ok hr rfl Sm.mg Sm.kp Sm.bd .nil pass0 (pa_cons (pv 11) (pa_cons (pv 3) pa_nil)))))) (fun _ _ _ _ _ => pv 11)) (pe_lst pa_nil) (nomark _)) (pss_one (ps_ret pe_bl)) pss_nil)
      (pss_cons (ps_for PassesOwn.never rfl (pi_tup (pe_tup (pa_cons (pv 4) (pa_cons (pv 5) pa_nil)))) (pg_name (i := 6) scLaw.nd rfl (Or.inl rfl))
        (pss_one (ps_for PassesOwn.never rfl (pi_enumA (by rfl) T.enum (pa_cons (pv 6) pa_nil)) (pg_tup rfl (pgs_cons (pg_name (i := 7) scLaw.nd rfl (Or.inl rfl)) (pgs_cons (pg_name (i := 8) scLaw.nd rfl (Or.inl rfl)) pgs_nil)))
          (pss_one (ps_if (pt_not (pt_val (pe_call Ow.ok r2 rfl Ow.mg Ow.kp Ow.bd .nil pass0 (pa_cons (pv 7) (pa_cons (pv 8) pa_nil))))) (pss_one (ps_ret pe_bl)) pss_nil)))))
      (pss_cons (ps_for PassesOwn.never rfl (pi_range1 rfl T.range (pa_cons pe_int pa_nil)) (pg_name (i := 9) scLaw.nd rfl (Or.inr rfl))
        (pss_cons (ps_set (i := 10) scLaw.nd rfl (Or.inl rfl) (pe_call Cg.ok r5 rfl Cg.mg Cg.kp Cg.bd .nil pass0 (pa_cons (pv 9) (pa_cons (pv 2) pa_nil))))
        (pss_cons (ps_if (PW.pt (pw_or (pt_cmpR op_ne (pe_ix (r := rIx K) ix_seq (pv 10) pe_int (fun _ _ => rfl)) (pv 9) (nomark _)) (pw_or1 (pt_not (pt_val (pe_call Sm.ok hr rfl Sm.mg Sm.kp Sm.bd .nil pass0 (pa_cons (pe_ix (r := rIx K) ix_seq (pv 10) pe_int (fun _ _ => rfl)) (pa_cons (pv 2) pa_nil)))))))) (pss_one (ps_ret pe_bl)) pss_nil)
        (pss_one (ps_if (pt_cmpR (op_neD hr.units) (pe_call Cb.ok r5 rfl Cb.mg Cb.kp Cb.bd .nil pass0 (pa_cons (pv 9) (pa_cons (pv 3) pa_nil)))
          (pe_lc (own := [("place", 12)]) (g := gName 12) (tt := tYes) rfl scLaw.nd (pi_range1 rfl T.range (pa_cons pe_int pa_nil))
          (blkOk_by (own := [("place", 12)]) (N := nsLaw) (sc := defScope sLaw) (by decide +kernel)) (fun _ _ _ _ _ => pg_name (i := 12) scLaw.nd rfl (Or.inl rfl)) (fun _ _ _ _ _ => pts_nil)
          (fun _ _ _ _ _ => pe_cmpR op_eq (pv 12) (pv 9) (nomark _))) (nomark _)) (pss_one (ps_ret pe_bl)) pss_nil)))))
      (pss_one (ps_ret pe_bl)))))))), ?_⟩
    -- deck
    refine ⟨_, rfl, a, ns, 13730000, rfl, hS, hl, fun H1 dk l D1 s1 _ _ => ?_⟩
    -- near, far
    refine ⟨_, rfl, dk, l, rfl, D1, fun v H2 nv D2 kp2 => ?_⟩
    refine ⟨_, rfl, dk, l, rfl, D2, fun u H3 nu D3 kp3 => ?_⟩
    refine ⟨by show 1 ≤ sizeLine; rw [sizeLine_eq]; decide, fun p1 hp1 => ?_⟩
    refine ⟨by show 2 ≤ sizeLine; rw [sizeLine_eq]; decide, fun p2 hp2 => ?_⟩
    have sA : Same H3 (upd (upd H3 p1 (.tup [u])) p2 (.tup [v, .ref p1])) := (snew hp1).trans (snew hp2)
    have n1 : Nice (upd (upd H3 p1 (.tup [u])) p2 (.tup [v, .ref p1])) 8 v :=
      Nice.mono ((new_on kp3 D1.some1.1 D1.some1.2).trans (fun b o e => sA b o (of_new e).2)) (Nat.le_refl _) nv
    have n2 : Nice (upd (upd H3 p1 (.tup [u])) p2 (.tup [v, .ref p1])) 6 u := Nice.mono (fun b o e => sA b o (of_new e).2) (Nat.le_refl _) nu
    have n3 : Nice (upd (upd H3 p1 (.tup [u])) p2 (.tup [v, .ref p1])) 8 (.ref p1) :=
      Nice.mono (Same.refl _) (show 7 ≤ 8 by decide) (.inr (.inl ⟨[u], snew hp2 _ _ upd_same, fun x hx => by rw [List.mem_singleton.mp hx]; exact n2⟩))
    refine ⟨p2, [v, .ref p1], rfl, SqT.of upd_same, rfl, v, _, rfl, .ref p1, _, rfl, rfl, ?_⟩
    obtain ⟨H5, e5⟩ : ∃ H5, upd (upd H3 p1 (.tup [u])) p2 (.tup [v, .ref p1]) = H5 := ⟨_, rfl⟩
    rw [e5] at n1 n3
    show (tSeq _ _) _ _ (upd (upd H3 p1 (.tup [u])) p2 (.tup [v, .ref p1]))
    rw [e5]
    -- some, others
    refine ⟨_, rfl, v, rfl, fun q1 as H6 g1 s6 pr1 => ?_⟩
    refine ⟨_, rfl, .ref p1, rfl, fun q2 bs H7 g2 s7 pr2 => ?_⟩
    refine ⟨_, _, rfl, ?_⟩
    refine ⟨_, rfl, v, q1, as, rfl, (s7 _ _ g1), (errs_same s7 pr1), fun qc8 H8 gc8 s8 => ?_⟩
    refine ⟨qc8, rfl, ⟨_, SqL.of gc8⟩, fun D hD => lc_list (K := K) (a := qc8) (xs := List.replicate 11 v) (fun i H' => Same (upd H8 D (.lst [])) H') (Same.refl _) (fun i H' _ s' => SqL.of (s' _ _ (snew hD _ _ gc8))) ?_ ?_⟩
    · intro i x H' hx s'
      obtain rfl : x = v := List.eq_of_mem_replicate (List.mem_of_getElem? hx)
      refine ⟨rfl, ?_⟩
      refine ⟨_, rfl, _, rfl, _, rfl, Nice.mono (((s6.trans s7).trans s8).trans ((snew hD).trans s')) (Nat.le_refl _) n1, fun H3 s3 => ⟨_, rfl, iteF ?_⟩⟩
      exact s'.trans s3
    intro H8' t8
    refine ⟨Nat.zero_le _, fun pe8 hpe8 => ⟨.list [], .list [], .lst (SqL.of (snew hpe8 _ _ (t8 _ _ upd_same))) .nil, .lst (SqL.of upd_same) .nil, nil_shaped, nil_shaped, _, rfl, ?_⟩⟩
    rw [eqv_nil]
    refine iteF ?_
    have w8 := (s8.trans (snew hD)).trans (t8.trans (snew (o := .lst []) hpe8))
    obtain ⟨H9, e9⟩ : ∃ H9, upd H8' pe8 (.lst []) = H9 := ⟨_, rfl⟩
    rw [e9] at w8
    show (tSeq _ _) _ _ (upd H8' pe8 (.lst []))
    rw [e9]
    refine ⟨_, rfl, (.ref p1), q2, bs, rfl, (w8 _ _ g2), (errs_same w8 pr2), fun qc10 H10 gc10 s10 => ?_⟩
    refine ⟨qc10, rfl, ⟨_, SqL.of gc10⟩, fun D2 hD2 => lc_list (K := K) (a := qc10) (xs := List.replicate 11 (.ref p1)) (fun i H' => Same (upd H10 D2 (.lst [])) H') (Same.refl _) (fun i H' _ s' => SqL.of (s' _ _ (snew hD2 _ _ gc10))) ?_ ?_⟩
    · intro i x H' hx s'
      obtain rfl : x = .ref p1 := List.eq_of_mem_replicate (List.mem_of_getElem? hx)
      refine ⟨rfl, ?_⟩
      refine ⟨_, rfl, _, rfl, _, rfl, Nice.mono ((((s6.trans s7).trans w8).trans s10).trans ((snew hD2).trans s')) (Nat.le_refl _) n3, fun H3 s3 => ⟨_, rfl, iteF ?_⟩⟩
      exact s'.trans s3
    intro H10' t10
    refine ⟨Nat.zero_le _, fun pe10 hpe10 => ⟨.list [], .list [], .lst (SqL.of (snew hpe10 _ _ (t10 _ _ upd_same))) .nil, .lst (SqL.of upd_same) .nil, nil_shaped, nil_shaped, _, rfl, ?_⟩⟩
    rw [eqv_nil]
    refine iteF ?_
    have w10 := (s10.trans (snew hD2)).trans (t10.trans (snew (o := .lst []) hpe10))
    obtain ⟨H11, e11⟩ : ∃ H11, upd H10' pe10 (.lst []) = H11 := ⟨_, rfl⟩
    rw [e11] at w10
    show (tSeq _ _) _ _ (upd H10' pe10 (.lst []))
    rw [e11]
    have w11 := w8.trans w10
    have g1' := w11 _ _ (s7 _ _ g1)
    have g2' := w11 _ _ g2
    have pr1' := errs_same (s7.trans w11) pr1
    have pr2' := errs_same w11 pr2
    have n1' := Nice.mono ((s6.trans s7).trans w11) (Nat.le_refl _) n1
    have n3' := Nice.mono ((s6.trans s7).trans w11) (Nat.le_refl _) n3
    clear g1 g2 pr1 pr2 n1 n3
    -- for made in (some, others)
    refine ⟨_, rfl, _, rfl, by show 2 ≤ sizeLine; rw [sizeLine_eq]; decide, fun p6 hp6 => ?_⟩
    have s12 : Same H11 (upd H11 p6 (.tup [.ref q1, .ref q2])) := snew hp6
    refine ⟨p6, rfl, ⟨_, SqT.of upd_same⟩, for_tup (K := K) (a := p6) (xs := [.ref q1, .ref q2])
      (fun i σ H' => ∃ x6 x7 x8 : Option V, σ = [some (.ref a), some (.ref dk), some v, some (.ref p1), some (.ref q1), some (.ref q2), x6, x7, x8, none, none, none, none] ∧ Same (upd H11 p6 (.tup [.ref q1, .ref q2])) H')
      ⟨_, _, _, rfl, Same.refl _⟩ (fun i σ H' _ ⟨_, _, _, _, s'⟩ => SqT.of (s' _ _ upd_same)) ?_ ?_⟩
    · rintro i y σ H' hy ⟨x6, x7, x8, rfl, s'⟩
      obtain ⟨q, vv, cs, rfl, gq, pq⟩ : ∃ (q : Addr) (vv : V) (cs : List Addr), y = .ref q ∧ H' q = some (.lst (cs.map V.ref)) ∧ Paired (ErrAt H' vv) (cls11 C) cs := by
        have hm := List.mem_of_getElem? hy
        simp only [List.mem_cons, List.not_mem_nil, or_false] at hm
        rcases hm with rfl | rfl
        · exact ⟨q1, v, as, rfl, s' _ _ (s12 _ _ g1'), errs_same (s12.trans s') pr1'⟩
        · exact ⟨q2, _, bs, rfl, s' _ _ (s12 _ _ g2'), errs_same (s12.trans s') pr2'⟩
      have lc : cs.length = 11 := by rw [← pq.length]; simp [cls11]
      refine ⟨_, rfl, q, cs.map V.ref, rfl, .inl ⟨SqL.of gq, for_it walk_enum (fun j σ H'' => ∃ x7 x8 : Option V, σ = [some (.ref a), some (.ref dk), some v, some (.ref p1), some (.ref q1), some (.ref q2), some (.ref q), x7, x8, none, none, none, none] ∧ Same H' H'')
        ⟨_, _, rfl, Same.refl _⟩ (fun _ _ _ _ ⟨_, _, _, t⟩ => SqL.of (t _ _ gq)) ?_ ?_⟩⟩
      · rintro j x σ Ha Hb hj ⟨x7, x8, rfl, t⟩ ⟨T', y1, y2, rfl, hT, rfl, ea, ex⟩
        cases (Option.some.inj ea)
        have hj' : j < 11 := by rw [List.length_map, lc] at hj; exact hj
        obtain ⟨b, eb, er⟩ := paired_at pq (cls11_at (C := C) hj')
        obtain rfl : y2 = .ref b := by
          have ex2 : (cs.map V.ref)[j]? = some y2 := ex
          rw [List.getElem?_map, eb] at ex2
          exact (Option.some.inj ex2).symm
        refine ⟨T', _, rfl, SqT.of upd_same, rfl, ?_⟩
        refine ⟨_, _, rfl, _, _, rfl, rfl, ?_⟩
        refine ⟨_, rfl, _, rfl, vv, b, j, rfl, hj', (er.same t).same (snew hT), fun Hc tc => ⟨_, rfl, iteF ?_⟩⟩
        exact ⟨_, _, rfl, (t.trans (snew hT)).trans tc⟩
      · rintro σ Ha ⟨x7, x8, rfl, t⟩
        exact ⟨_, _, _, rfl, s'.trans t⟩
    rintro σ H12 ⟨x6, x7, x8, rfl, s13⟩
    have n1'' := Nice.mono (s12.trans s13) (Nat.le_refl _) n1'
    have n3'' := Nice.mono (s12.trans s13) (Nat.le_refl _) n3'
    -- for way in range(11)
    refine ⟨11, rfl, by decide, by decide, for_range (lo := 0) (n := 11)
      (fun i σ H' => ∃ x9 x10 : Option V, σ = [some (.ref a), some (.ref dk), some v, some (.ref p1), some (.ref q1), some (.ref q2), x6, x7, x8, x9, x10, none, none] ∧ Same H12 H') ⟨_, _, rfl, Same.refl _⟩ ?_ ?_⟩
    · rintro i σ H' hi ⟨x9, x10, rfl, s'⟩
      rw [Int.zero_add]
      refine ⟨_, rfl, _, rfl, v, i, rfl, hi, fun qd Hd gd sd => ?_⟩
      refine ⟨_, rfl, .inr (.inl ⟨qd, _, _, _, rfl, rfl, SqT.of gd, rfl, _, rfl, rfl, _, rfl, iteNS rfl ?_⟩)⟩
      refine ⟨_, rfl, .inr (.inl ⟨qd, _, _, _, rfl, rfl, SqT.of gd, rfl, _, rfl, v, rfl, Nice.mono (s'.trans sd) (Nat.le_refl _) n1'', fun He se => ⟨_, rfl, iteF ?_⟩⟩)⟩
      refine ⟨_, rfl, _, rfl, .ref p1, i, rfl, hi, fun qb Hb gb sb => ?_⟩
      refine ⟨11, rfl, by decide, by decide, fun D hD => ?_⟩
      refine lc_range (lo := 0) (n := 11) (fun n H' => H' D = some (.lst ((bits i n).map V.bl)) ∧ Same Hb H') ⟨upd_same, snew hD⟩ ?_ ?_
      · rintro n Hn hn ⟨e1, e2⟩
        refine ⟨rfl, ?_⟩
        refine ⟨_, rfl, _, rfl, rfl, _, e1, ?_, ?_, fun b o e => ?_⟩
        · rw [List.length_map, bits_len]; exact small1000 (by omega)
        · rw [bits_succ, List.map_append, upd_same]
          congr 3
          show [V.bl (decide (V.int ((0 : Int) + (n : Int)) = V.int (i : Int)))] = [V.bl (decide (i = n))]
          congr 2
          exact decide_eq_decide.mpr ⟨fun h => by have := V.int.inj h; omega, fun h => by rw [h, Int.zero_add]⟩
        · rw [upd_ne (ne_of_none e hD)]
          exact e2 _ _ e
      · rintro Hn ⟨e1, e2⟩
        rw [bits_flags] at gb
        refine ⟨.list ((bits i 11).map PyData.bool), .list ((bits i 11).map PyData.bool), .lst (SqL.of (e2 _ _ gb)) (bls_dp _), .lst (SqL.of e1) (bls_dp _), bls_shaped _, bls_shaped _, _, rfl, ?_⟩
        rw [bls_eqv]
        refine iteF ?_
        exact ⟨_, _, rfl, ((((s'.trans sd).trans se).trans sb).trans e2)⟩
    · rintro σ H' ⟨x9, x10, rfl, s'⟩
      exact k _
end
end K0

namespace K0
open PySem PySem.Spec PyProof.Rows L2
/-- what the top has written of one of the eleven classes: its name n, its own __init__ at f -/
structure ClsF (K : PySem.W.Frag) (mg : Str → Option Value) (S : Addr) (n : Str) (C f : Addr) (fd : FuncData) : Prop where
  M : SlM K C S f
  at_ : ∃ q N bs sn sub ab col dd k0 k1 k2 k3 k5, K.lookup C = some (excClassObj n q C N bs (.ref S :: PySem.Sl.xTail) true sn sub ab col dd k0 k1 k2 k3 k5 "Exception.__new__")
  gC : mg n = some (.ref C)
  F : ∃ (qual : Str) (p1 p2 q1 q2 q3 q4 q5 q6 : Pos), (q2.endLine == q5.line) = true ∧ FunD K "__init__" qual (argsS p1 p2 []) (bodyC q1 q2 q3 q4 q5 q6) scpC [] [] f fd
/-- the class of an error's data -/
def nmOf (o : Obj) : Str := match o.data with | .cls cd => cd.name | _ => ""
theorem one_name {K : PySem.W.Frag} {mg : Str → Option Value} {S : Addr} {n n' : Str} {C C' f f' : Addr} {fd fd' : FuncData} (A : ClsF K mg S n C f fd) (B : ClsF K mg S n' C' f' fd') (e : C = C') : n = n' := by
  subst e
  obtain ⟨q, N, bs, sn, sub, ab, col, dd, k0, k1, k2, k3, k5, h⟩ := A.at_
  obtain ⟨q', N', bs', sn', sub', ab', col', dd', k0', k1', k2', k3', k5', h'⟩ := B.at_
  have z := congrArg nmOf (Option.some.inj (h.symm.trans h'))
  exact z
section
variable {K : PySem.W.Frag} {mg : Str → Option Value} {S : Addr} {n : Str} {C f : Addr} {fd : FuncData}
theorem ClsF.cd (A : ClsF K mg S n C f fd) : ∃ cd : ClassData, PySem.W.clsIn K C = some cd ∧ cd.mro = .ref C :: .ref S :: PySem.Sl.xTail := by
  obtain ⟨q, N, bs, sn, sub, ab, col, dd, k0, k1, k2, k3, k5, h⟩ := A.at_
  refine ⟨{ name := n, bases := bs, mro := .ref C :: .ref S :: PySem.Sl.xTail, ns := N, qualname := q, hasDict := true, slotNames := sn, subclasses := sub, abstract := ab, collection := col, hasDel := false }, ?_, rfl⟩
  unfold PySem.W.clsIn
  rw [h]
theorem ClsF.sub (A : ClsF K mg S n C f fd) (c : Value) : PySem.W.subIn K (.ref C) c = some ((Value.ref C :: .ref S :: PySem.Sl.xTail).contains c) := by
  obtain ⟨cd, h1, h2⟩ := A.cd
  show PySem.W.mroIn K C c = _
  unfold PySem.W.mroIn
  rw [h1, Option.bind_some, h2]
  rfl
theorem ClsF.cls (A : ClsF K mg S n C f fd) : ((PySem.W.clsIn K C).isSome && PySem.W.typeIn K (.ref C) == some (.type "type")) = true := by
  obtain ⟨cd, h1, _⟩ := A.cd
  rw [h1, A.M.T.tyC]
  rfl
theorem ClsF.kit (A : ClsF K mg S n C f fd) {n' : Str} {C' f' : Addr} {fd' : FuncData} (B : ClsF K mg S n' C' f' fd') (hS : C' ≠ S) : PySem.W.kitOne K (.ref C) (.ref C') = some (decide (C = C')) ∧ PySem.W.exmOne K (.ref C) (.ref C') = some (decide (C = C')) := by
  have e1 : (Value.ref C :: .ref S :: PySem.Sl.xTail).contains (.ref C') = decide (C = C') := by
    rw [List.contains_cons, List.contains_cons]
    have a1 : (Value.ref C' == Value.ref S) = false := by
      rw [beq_eq_false_iff_ne]
      exact fun z => hS (Value.ref.inj z)
    have a2 : (PySem.Sl.xTail.contains (Value.ref C')) = false := rfl
    have a3 : (Value.ref C' == Value.ref C) = decide (C = C') := by
      by_cases h : C = C'
      · rw [h, decide_eq_true rfl]; exact beq_self_eq_true _
      · rw [decide_eq_false h, beq_eq_false_iff_ne]
        exact fun z => h (Value.ref.inj z).symm
    rw [a1, a2, a3]
    simp
  have e2 : PySem.W.kitCls K (.ref C) (.ref C') = some (decide (C = C')) := by
    show (if ((PySem.W.clsIn K C').isSome && PySem.W.typeIn K (.ref C') == some (.type "type")) = true then PySem.W.subIn K (.ref C) (.ref C') else none) = _
    rw [if_pos B.cls, A.sub, e1]
  constructor
  · unfold PySem.W.kitOne
    by_cases h : C = C'
    · rw [h, if_pos (beq_self_eq_true _), decide_eq_true rfl]
    · rw [if_neg (fun z => h (Value.ref.inj (eq_of_beq z))), e2]
  · unfold PySem.W.exmOne
    rw [if_pos (by rw [B.M.T.exC]; rfl), e2]
theorem ClsF.up (A : ClsF K mg S n C f fd) (hcS : (PySem.W.clsIn K S).isSome = true) (htS : PySem.W.typeIn K (.ref S) = some (.type "type")) (hbS : PySem.W.subIn K (.ref S) (.type "BaseException") = some true) :
    PySem.W.kitOne K (.ref C) (.ref S) = some true ∧ PySem.W.exmOne K (.ref C) (.ref S) = some true := by
  have e1 : (Value.ref C :: .ref S :: PySem.Sl.xTail).contains (.ref S) = true := by
    rw [List.contains_cons, List.contains_cons, beq_self_eq_true, Bool.true_or, Bool.or_true]
  have e2 : PySem.W.kitCls K (.ref C) (.ref S) = some true := by
    show (if ((PySem.W.clsIn K S).isSome && PySem.W.typeIn K (.ref S) == some (.type "type")) = true then PySem.W.subIn K (.ref C) (.ref S) else none) = _
    rw [if_pos (by rw [hcS, htS]; rfl), A.sub, e1]
  constructor
  · unfold PySem.W.kitOne
    by_cases h : C = S
    · rw [h, if_pos (beq_self_eq_true _)]
    · rw [if_neg (fun z => h (Value.ref.inj (eq_of_beq z))), e2]
  · unfold PySem.W.exmOne
    rw [if_pos (by rw [hbS]; rfl), e2]
theorem ClsF.ty (A : ClsF K mg S n C f fd) {T : String} {b : Bool} (hm : PySem.W.kitMeta T = true) (hb : PySem.Sl.xTail.contains (.type T) = b) : PySem.W.kitOne K (.ref C) (.type T) = some b := by
  have e1 : (Value.ref C :: .ref S :: PySem.Sl.xTail).contains (.type T) = b := by
    rw [List.contains_cons, List.contains_cons, hb]
    rfl
  show (if (Value.ref C == Value.type T) = true then some true else if PySem.W.kitMeta T = true then PySem.W.subIn K (.ref C) (.type T) else none) = _
  rw [if_neg (show ¬ ((Value.ref C == Value.type T) = true) from fun z => nomatch (eq_of_beq z)), if_pos hm, A.sub, e1]
end
theorem nm_inj : ∀ i, i < 11 → ∀ j, j < 11 → nm i = nm j → i = j := by decide +kernel
theorem nm_S : ∀ i, i < 11 → nm i ≠ "SlopeError" := by decide +kernel
theorem ers_mk {P : Program} {w : World} {K : PySem.W.Frag} {mg : Str → Option Value} {base : Heap} {S fS : Addr} {fdS : FuncData} (B : SlB K mg S fS) (FS : FnOk P w K mg base CX0 1 fS fdS ["self", "thing"] (spSet K)) (bS : Binds K fdS ["self", "thing"] [])
    {oS : Obj} (xS : K.lookup S = some oS) (nS : nmOf oS = "SlopeError") (hcS : (PySem.W.clsIn K S).isSome = true) (htS : PySem.W.typeIn K (.ref S) = some (.type "type")) (hbS : PySem.W.subIn K (.ref S) (.type "BaseException") = some true)
    {C fI : Nat → Addr} {fd : Nat → FuncData} (h : ∀ i, i < 11 → ClsF K mg S (nm i) (C i) (fI i) (fd i)) : Ers P w K mg base S C fI fd := by
  have neS : ∀ i, i < 11 → C i ≠ S := fun i hi e => by
    obtain ⟨q, N, bs, sn, sub, ab, col, dd, k0, k1, k2, k3, k5, hx⟩ := (h i hi).at_
    rw [e] at hx
    have z := congrArg nmOf (Option.some.inj (hx.symm.trans xS))
    exact nm_S i hi (show nm i = _ from (show nmOf _ = _ from z).trans nS)
  have inj : ∀ i j, i < 11 → j < 11 → (decide (C i = C j)) = decide (i = j) := fun i j hi hj =>
    decide_eq_decide.mpr ⟨fun e => nm_inj i hi j hj (one_name (h i hi) (h j hj) e), fun e => by rw [e]⟩
  exact
    { M := fun i hi => (h i hi).M
      ok := fun i hi => by
        obtain ⟨qual, p1, p2, q1, q2, q3, q4, q5, q6, hl, F⟩ := (h i hi).F
        exact ok_slC hl F B FS bS
      nmg := fun i hi => (h i hi).gC
      b1 := fun i hi u => by
        obtain ⟨qual, p1, p2, q1, q2, q3, q4, q5, q6, hl, F⟩ := (h i hi).F
        exact bnd_sl1 F u
      bK := fun i hi u => by
        obtain ⟨qual, p1, p2, q1, q2, q3, q4, q5, q6, hl, F⟩ := (h i hi).F
        exact bnd_slK F u
      kit := fun i j hi hj => by rw [((h i hi).kit (h j hj) (neS j hj)).1, inj i j hi hj]
      kitS := fun i hi => ((h i hi).up hcS htS hbS).1
      kitE := fun i hi => (h i hi).ty (by decide +kernel) (by decide +kernel)
      kit6 := fun i hi => by
        have f := fun (T : String) (a : PySem.W.kitMeta T = true) (b : PySem.Sl.xTail.contains (.type T) = false) => (h i hi).ty a b
        exact kitAny_cons (f "ValueError" (by decide +kernel) (by decide +kernel)) (fun _ => kitAny_cons (f "TypeError" (by decide +kernel) (by decide +kernel)) (fun _ => kitAny_cons (f "LookupError" (by decide +kernel) (by decide +kernel))
          (fun _ => kitAny_cons (f "ArithmeticError" (by decide +kernel) (by decide +kernel)) (fun _ => kitAny_cons (f "RuntimeError" (by decide +kernel) (by decide +kernel)) (fun _ => kitAny_cons (f "AttributeError" (by decide +kernel) (by decide +kernel)) (fun _ => kitAny_nil) (fun e => nomatch e)) (fun e => nomatch e)) (fun e => nomatch e)) (fun e => nomatch e)) (fun e => nomatch e)) (fun e => nomatch e)
      exm := fun i j hi hj => by rw [((h i hi).kit (h j hj) (neS j hj)).2, inj i j hi hj]
      exmS := fun i hi => ((h i hi).up hcS htS hbS).2
      mgS := B.mgS }
theorem cls_mk {K : PySem.W.Frag} {h : Heap} {mg : Str → Option Value} {S C f : Addr} {n q qual : Str} (X : K.In h) (G : h.Ns mainGlobals mg) {N : Addr} {bs : List Value} {sn : List Str} {sub : List Value} {ab : Bool} {col : Option Bool} {dd : Option Addr} {m0 m1 m2 m3 m5 : Option Value}
    {od an : Option Addr} {sl : Array (Option Value)} {oc dc pm cd ct : Value} {p1 p2 q1 q2 q3 q4 q5 q6 : Pos}
    (aC : PySem.W.nsIn K mainGlobals n = some (some (.ref C)))
    (xL : K.lookup C = some (excClassObj n q C N bs (.ref S :: PySem.Sl.xTail) true sn sub ab col dd m0 m1 m2 m3 m5 "Exception.__new__"))
    (sa : PySem.W.findIn K (.ref C) "__setattr__" = some (some (.builtin "object.__setattr__"))) (ga : PySem.W.findIn K (.ref C) "__getattribute__" = some (some (.builtin "BaseException.__getattribute__"))) (gg : PySem.W.findIn K (.ref C) "__getattr__" = some none) (nb : PySem.W.findIn K (.ref C) "thing" = some none)
    (hc : PySem.W.findIn K (.ref C) "__class__" = some (some (.builtin "object.__class__")))
    (a1 : PySem.W.findIn K (.ref C) "__init__" = some (some (.ref f))) (t1 : PySem.W.typeIn K (.ref f) = some (.type "function"))
    (l1 : K.lookup f = some ⟨oc, od, .func (PySem.W.fnOf "__init__" qual (argsS p1 p2 []) (bodyC q1 q2 q3 q4 q5 q6) scpC .none .none dc pm an cd ct), sl⟩) (c1 : PySem.W.codeIn K cd qual = true) (kf : PySem.W.keepIn K (.ref f) = true)
    (kC : PySem.W.keepIn K (.ref C) = true) (tC : PySem.W.typeIn K (.ref C) = some (.type "type"))
    (hn : PySem.W.specialIn K (.builtin "object.__class__") "__get__" = some (some (.builtin "getset_descriptor.__get__"))) (ht : PySem.W.takesIn K (.builtin "object.__class__") = some true)
    (hl : (q2.endLine == q5.line) = true) : ClsF K mg S n C f (PySem.W.fnOf "__init__" qual (argsS p1 p2 []) (bodyC q1 q2 q3 q4 q5 q6) scpC .none .none dc pm an cd ct) := by
  have cl : PySem.W.clsIn K C = some { name := n, bases := bs, mro := .ref C :: .ref S :: PySem.Sl.xTail, ns := N, qualname := q, hasDict := true, slotNames := sn, subclasses := sub, abstract := ab, collection := col, hasDel := false } := by
    unfold PySem.W.clsIn; rw [xL]
  have sb : ∀ T : String, PySem.Sl.xTail.contains (.type T) = true → PySem.W.mroIn K C (.type T) = some true := fun T e => by
    unfold PySem.W.mroIn
    rw [cl, Option.bind_some]
    show some ((Value.ref C :: .ref S :: PySem.Sl.xTail).contains (.type T)) = _
    rw [PySem.Sl.has_sub C S T e]
  exact
    { M := ⟨{ cls := ⟨n, q, N, bs, sn, sub, ab, col, dd, m0, m1, m2, m3, m5, xL⟩, sa := sa, exC := sb _ (by decide +kernel), tyC := tC, kC := kC, ga := ga, gg := gg, noT := nb, hd := by unfold PySem.W.hasDictIn; rw [cl]; rfl, hc := hc, hn := hn, ht := ht, hm := sb _ (by decide +kernel) }, a1, t1⟩
      at_ := ⟨q, N, bs, sn, sub, ab, col, dd, m0, m1, m2, m3, m5, xL⟩
      gC := PySem.W.mg_of X G aC
      F := ⟨qual, p1, p2, q1, q2, q3, q4, q5, q6, hl, ⟨oc, od, .none, .none, dc, pm, an, cd, ct, sl, rfl, l1, c1, .inl ⟨rfl, rfl⟩, .inl rfl⟩, kf⟩ }
end K0

namespace K0
open PySem PySem.Spec PyProof.Rows L2
section
variable {P : Program} {w : World} {K : PySem.W.Frag} {mg : Str → Option Value} {base : Heap}
theorem any_kn {f fD fP : Addr} {fd fdD fdP : FuncData} (F : Fun K "_law_any" "_law_any" sAny f fd) (T : Bt mg) (D : Kn P w K mg base 1 "_law_draw" ["deck", "many"] spDraw fD fdD) (Pk : Kn P w K mg base 2 "_law_pick" ["deck", "some"] (spPick K) fP fdP)
    (hm : mg "_law_any" = some (.ref f)) (hb : Binds K fd ["deck", "deep"] []) : ∀ n, Kn P w K mg base (n + 2) "_law_any" ["deck", "deep"] (spPrev n) f fd
  | 0 => ⟨fn_false, hm, F.kp, hb⟩
  | n + 1 => ⟨ok_any F T D Pk (any_kn F T D Pk hm hb n), hm, F.kp, hb⟩
theorem same_kn {f : Addr} {fd : FuncData} (F : Fun K "_law_is_same" "_law_is_same" sSame f fd) (T : Bt mg) (hm : mg "_law_is_same" = some (.ref f)) (hb : Binds K fd ["near", "far"] []) : ∀ n, Kn P w K mg base (n + 1) "_law_is_same" ["near", "far"] (spSameP n) f fd
  | 0 => ⟨fn_false, hm, F.kp, hb⟩
  | n + 1 => ⟨ok_same F T (same_kn F T hm hb n), hm, F.kp, hb⟩
/-- a def behind the top -/
structure Df (K : PySem.W.Frag) (mg : Str → Option Value) (x : Str) (st : Stmt) (ps : List Str) (f : Addr) (fd : FuncData) : Prop where
  F : Fun K x x st f fd
  m : mg x = some (.ref f)
  b : Binds K fd ps []
/-- how a def binds what is handed by position -/
def Bds (x : Str) (st : Stmt) (ps : List Str) : Prop := ∀ (kV doc pm : Value) (an : Option Addr) (cdv ct : Value) (us : List Value), us.length = ps.length → bindArgs (PySem.W.fnOf x x (defArgs st) (defBody st) (defScope st) .none kV doc pm an cdv ct) ⟨us, []⟩ = pure (ps.zip us)
theorem df_mk {h : Heap} (X : K.In h) (G : h.Ns mainGlobals mg) {x : Str} {st : Stmt} {ps : List Str} {f : Addr} {oc : Value} {od an : Option Addr} {osl : Array (Option Value)} {kV doc pm cdv ct : Value}
    (a : PySem.W.nsIn K mainGlobals x = some (some (.ref f))) (l : K.lookup f = some ⟨oc, od, .func (PySem.W.fnOf x x (defArgs st) (defBody st) (defScope st) .none kV doc pm an cdv ct), osl⟩) (c : PySem.W.codeIn K cdv x = true) (k : PySem.W.keepIn K (.ref f) = true)
    (b : Bds x st ps) : ∃ f fd, Df K mg x st ps f fd := ⟨f, _, fun_mk (st := st) l c k, PySem.W.mg_of X G a, (fun_mk (st := st) l c k).binds b⟩
theorem bd0 : Bds "_law_deck" sDeck ["script", "seed"] := fun _ _ _ _ _ _ us hl => match us, hl with | [_, _], _ => rfl
theorem bd1 : Bds "_law_draw" sDraw ["deck", "many"] := fun _ _ _ _ _ _ us hl => match us, hl with | [_, _], _ => rfl
theorem bd2 : Bds "_law_pick" sPick ["deck", "some"] := fun _ _ _ _ _ _ us hl => match us, hl with | [_, _], _ => rfl
theorem bd3 : Bds "_law_any" sAny ["deck", "deep"] := fun _ _ _ _ _ _ us hl => match us, hl with | [_, _], _ => rfl
theorem bd4 : Bds "_law_is_same" sSame ["near", "far"] := fun _ _ _ _ _ _ us hl => match us, hl with | [_, _], _ => rfl
theorem bd5 : Bds "_law_by_position" sPos ["it"] := fun _ _ _ _ _ _ us hl => match us, hl with | [_], _ => rfl
theorem bd6 : Bds "_law_by_name" sName ["it"] := fun _ _ _ _ _ _ us hl => match us, hl with | [_], _ => rfl
theorem bd7 : Bds "_law_carried" sCarr ["made"] := fun _ _ _ _ _ _ us hl => match us, hl with | [_], _ => rfl
theorem bd8 : Bds "_law_kinds" sKinds ["error"] := fun _ _ _ _ _ _ us hl => match us, hl with | [_], _ => rfl
theorem bd9 : Bds "_law_is_own" sOwn ["at", "error"] := fun _ _ _ _ _ _ us hl => match us, hl with | [_, _], _ => rfl
theorem bd10 : Bds "_law_raise" sRaise ["way", "it"] := fun _ _ _ _ _ _ us hl => match us, hl with | [_, _], _ => rfl
theorem bd11 : Bds "_law_caught" sCaught ["way", "it"] := fun _ _ _ _ _ _ us hl => match us, hl with | [_, _], _ => rfl
theorem bd12 : Bds "_law_caught_as_base" sBase ["way", "it"] := fun _ _ _ _ _ _ us hl => match us, hl with | [_, _], _ => rfl
theorem all_ok {S fL : Addr} {fdL : FuncData} {C fI : Nat → Addr} {fdC : Nat → FuncData} (T : Bt mg) (B : Bx mg) (E : Ers P w K mg base S C fI fdC)
    (h0 : ∃ f fd, Df K mg "_law_deck" sDeck ["script", "seed"] f fd)
    (h1 : ∃ f fd, Df K mg "_law_draw" sDraw ["deck", "many"] f fd)
    (h2 : ∃ f fd, Df K mg "_law_pick" sPick ["deck", "some"] f fd)
    (h3 : ∃ f fd, Df K mg "_law_any" sAny ["deck", "deep"] f fd)
    (h4 : ∃ f fd, Df K mg "_law_is_same" sSame ["near", "far"] f fd)
    (h5 : ∃ f fd, Df K mg "_law_by_position" sPos ["it"] f fd)
    (h6 : ∃ f fd, Df K mg "_law_by_name" sName ["it"] f fd)
    (h7 : ∃ f fd, Df K mg "_law_carried" sCarr ["made"] f fd)
    (h8 : ∃ f fd, Df K mg "_law_kinds" sKinds ["error"] f fd)
    (h9 : ∃ f fd, Df K mg "_law_is_own" sOwn ["at", "error"] f fd)
    (h10 : ∃ f fd, Df K mg "_law_raise" sRaise ["way", "it"] f fd)
    (h11 : ∃ f fd, Df K mg "_law_caught" sCaught ["way", "it"] f fd)
    (h12 : ∃ f fd, Df K mg "_law_caught_as_base" sBase ["way", "it"] f fd)
    (FL : Fun K "law" "law" sLaw fL fdL) : FnOk P w K mg base CX0 11 fL fdL ["script"] (spLaw K) := by
  obtain ⟨f0, d0, D0⟩ := h0
  obtain ⟨f1, d1, D1⟩ := h1
  obtain ⟨f2, d2, D2⟩ := h2
  obtain ⟨f3, d3, D3⟩ := h3
  obtain ⟨f4, d4, D4⟩ := h4
  obtain ⟨f5, d5, D5⟩ := h5
  obtain ⟨f6, d6, D6⟩ := h6
  obtain ⟨f7, d7, D7⟩ := h7
  obtain ⟨f8, d8, D8⟩ := h8
  obtain ⟨f9, d9, D9⟩ := h9
  obtain ⟨f10, d10, D10⟩ := h10
  obtain ⟨f11, d11, D11⟩ := h11
  obtain ⟨f12, d12, D12⟩ := h12
  have Dk : Kn P w K mg base 1 "_law_deck" ["script", "seed"] (spDeck K) f0 d0 := ⟨ok_deck D0.F T, D0.m, D0.F.kp, D0.b⟩
  have Dr : Kn P w K mg base 1 "_law_draw" ["deck", "many"] spDraw f1 d1 := ⟨ok_draw D1.F T, D1.m, D1.F.kp, D1.b⟩
  have Pk : Kn P w K mg base 2 "_law_pick" ["deck", "some"] (spPick K) f2 d2 := ⟨ok_pick D2.F T Dr, D2.m, D2.F.kp, D2.b⟩
  have An := any_kn D3.F T Dr Pk D3.m D3.b
  have Sm := same_kn (P := P) (w := w) (base := base) D4.F T D4.m D4.b
  have Po : Kn P w K mg base 4 "_law_by_position" ["it"] (spPos C) f5 d5 := ⟨ok_pos D5.F E, D5.m, D5.F.kp, D5.b⟩
  have Nm : Kn P w K mg base 4 "_law_by_name" ["it"] (spPos C) f6 d6 := ⟨ok_name D6.F E, D6.m, D6.F.kp, D6.b⟩
  have Ca : Kn P w K mg base 1 "_law_carried" ["made"] (spCarr C) f7 d7 := ⟨ok_carr D7.F E, D7.m, D7.F.kp, D7.b⟩
  have Kd : Kn P w K mg base 1 "_law_kinds" ["error"] (spKinds C) f8 d8 := ⟨ok_kinds D8.F T E, D8.m, D8.F.kp, D8.b⟩
  have Ow : Kn P w K mg base 2 "_law_is_own" ["at", "error"] (spOwn C) f9 d9 := ⟨ok_own D9.F T B E Kd, D9.m, D9.F.kp, D9.b⟩
  have Ra := ok_raise D10.F E
  have Cg : Kn P w K mg base 5 "_law_caught" ["way", "it"] spCaught f11 d11 := ⟨ok_caught D11.F E Ra D10.m D10.F.kp D10.b, D11.m, D11.F.kp, D11.b⟩
  have Cb : Kn P w K mg base 5 "_law_caught_as_base" ["way", "it"] spBase f12 d12 := ⟨ok_base D12.F E Ra D10.m D10.F.kp D10.b (fun p => ok_kindsW D8.F T E) D8.m D8.F.kp D8.b, D12.m, D12.F.kp, D12.b⟩
  exact ok_law FL T Dk (An 4) (An 3) Po Nm Ca (Sm 9) Ow Cg Cb
end
end K0

namespace K0
open PySem PySem.Spec PyProof.Rows L2
theorem all_mk {l : PySem.W.OpenLaw} {w : World} {K : PySem.W.Frag} {h : Heap} {mg : Str → Option Value} {fa S fS fL DS : Addr} (X : K.In h) (G : h.Ns mainGlobals mg) (hfa : mg "law" = some (.ref fa))
    {q qual : Str} {N : Addr} {bs : List Value} {sn : List Str} {sub : List Value} {ab : Bool} {col : Option Bool} {dd : Option Addr} {m0 m1 m2 m3 m5 : Option Value}
    {odS anS odL anL odD : Option Addr} {slS slL slD : Array (Option Value)} {ocS dcS pmS cdS ctS ocL kVL dcL pmL cdL ctL ocD : Value} {nD : Nat} {p1 p2 q1 q2 q3 q4 : Pos} {ds : List Expr}
    (aS : PySem.W.nsIn K mainGlobals "SlopeError" = some (some (.ref S)))
    (xS : K.lookup S = some (excClassObj "SlopeError" q S N bs PySem.Sl.xTail true sn sub ab col dd m0 m1 m2 m3 m5 "Exception.__new__"))
    (tS : PySem.W.typeIn K (.ref S) = some (.type "type")) (rS : PySem.W.readsIn K S (.type "type") = true) (gS : PySem.W.specialIn K (.ref S) "__getattribute__" = some (some (.builtin "type.__getattribute__")))
    (iS : PySem.W.findCls K (.ref S) (.type "type") "__init__" = some (.val (.ref fS))) (lS : K.lookup fS = some ⟨ocS, odS, .func (PySem.W.fnOf "__init__" qual (argsS p1 p2 ds) (bodyS q1 q2 q3 q4) scpS (.ref DS) .none dcS pmS anS cdS ctS), slS⟩)
    (vS : K.lookup DS = some ⟨ocD, odD, .seq #[.none] nD, slD⟩) (cS : PySem.W.codeIn K cdS qual = true) (kS : PySem.W.keepIn K (.ref fS) = true)
    (c0 : ∃ C f fd, ClsF K mg S "BadNumber" C f fd)
    (c1 : ∃ C f fd, ClsF K mg S "BadQuotient" C f fd)
    (c2 : ∃ C f fd, ClsF K mg S "BadEquation" C f fd)
    (c3 : ∃ C f fd, ClsF K mg S "BadPoint" C f fd)
    (c4 : ∃ C f fd, ClsF K mg S "BadAnswer" C f fd)
    (c5 : ∃ C f fd, ClsF K mg S "BadDegree" C f fd)
    (c6 : ∃ C f fd, ClsF K mg S "BadPlace" C f fd)
    (c7 : ∃ C f fd, ClsF K mg S "BadForm" C f fd)
    (c8 : ∃ C f fd, ClsF K mg S "BadWriting" C f fd)
    (c9 : ∃ C f fd, ClsF K mg S "BadChange" C f fd)
    (c10 : ∃ C f fd, ClsF K mg S "BadFraction" C f fd)
    (h0 : ∃ f fd, Df K mg "_law_deck" sDeck ["script", "seed"] f fd)
    (h1 : ∃ f fd, Df K mg "_law_draw" sDraw ["deck", "many"] f fd)
    (h2 : ∃ f fd, Df K mg "_law_pick" sPick ["deck", "some"] f fd)
    (h3 : ∃ f fd, Df K mg "_law_any" sAny ["deck", "deep"] f fd)
    (h4 : ∃ f fd, Df K mg "_law_is_same" sSame ["near", "far"] f fd)
    (h5 : ∃ f fd, Df K mg "_law_by_position" sPos ["it"] f fd)
    (h6 : ∃ f fd, Df K mg "_law_by_name" sName ["it"] f fd)
    (h7 : ∃ f fd, Df K mg "_law_carried" sCarr ["made"] f fd)
    (h8 : ∃ f fd, Df K mg "_law_kinds" sKinds ["error"] f fd)
    (h9 : ∃ f fd, Df K mg "_law_is_own" sOwn ["at", "error"] f fd)
    (h10 : ∃ f fd, Df K mg "_law_raise" sRaise ["way", "it"] f fd)
    (h11 : ∃ f fd, Df K mg "_law_caught" sCaught ["way", "it"] f fd)
    (h12 : ∃ f fd, Df K mg "_law_caught_as_base" sBase ["way", "it"] f fd)
    (z0 : PySem.W.nsIn K mainGlobals "int" = some none)
    (z1 : PySem.W.nsIn K mainGlobals "list" = some none)
    (z2 : PySem.W.nsIn K mainGlobals "tuple" = some none)
    (z3 : PySem.W.nsIn K mainGlobals "max" = some none)
    (z4 : PySem.W.nsIn K mainGlobals "len" = some none)
    (z5 : PySem.W.nsIn K mainGlobals "range" = some none)
    (z6 : PySem.W.nsIn K mainGlobals "repr" = some none)
    (z7 : PySem.W.nsIn K mainGlobals "isinstance" = some none)
    (z8 : PySem.W.nsIn K mainGlobals "enumerate" = some none)
    (z9 : PySem.W.nsIn K mainGlobals "dict" = some none)
    (y0 : PySem.W.nsIn K mainGlobals "Exception" = some none)
    (y1 : PySem.W.nsIn K mainGlobals "ValueError" = some none)
    (y2 : PySem.W.nsIn K mainGlobals "TypeError" = some none)
    (y3 : PySem.W.nsIn K mainGlobals "LookupError" = some none)
    (y4 : PySem.W.nsIn K mainGlobals "ArithmeticError" = some none)
    (y5 : PySem.W.nsIn K mainGlobals "RuntimeError" = some none)
    (y6 : PySem.W.nsIn K mainGlobals "AttributeError" = some none)
    (aL : PySem.W.nsIn K mainGlobals "law" = some (some (.ref fL))) (lL : K.lookup fL = some ⟨ocL, odL, .func (PySem.W.fnOf "law" "law" (defArgs sLaw) (defBody sLaw) (defScope sLaw) .none kVL dcL pmL anL cdL ctL), slL⟩) (cL : PySem.W.codeIn K cdL "law" = true) (kL : PySem.W.keepIn K (.ref fL) = true) :
    ∃ fd : FuncData, (∀ (s : Shared) (v : Value), BindsTo s fd ⟨[v], []⟩ [("script", v)]) ∧ ∀ base : Heap, K.In base → base.Ns mainGlobals mg → FnOk l.prog w K mg base CX0 11 fa fd ["script"] (spLaw K) := by
  have e := hfa.symm.trans (PySem.W.mg_of X G aL)
  cases e
  have no : ∀ {x : Str}, PySem.W.nsIn K mainGlobals x = some none → mg x = none := fun z => PySem.W.mg_none_of X G z
  have T : Bt mg := ⟨no z0, no z1, no z2, no z3, no z4, no z5, no z6, no z7, no z8, no z9⟩
  have B : Bx mg := ⟨no y0, no y1, no y2, no y3, no y4, no y5, no y6⟩
  have SB : SlB K mg S fS := ⟨PySem.W.mg_of X G aS, rS, gS, iS, kS⟩
  have SF : FunD K "__init__" qual (argsS p1 p2 ds) (bodyS q1 q2 q3 q4) scpS [.non] [] fS (PySem.W.fnOf "__init__" qual (argsS p1 p2 ds) (bodyS q1 q2 q3 q4) scpS (.ref DS) .none dcS pmS anS cdS ctS) :=
    ⟨⟨ocS, odS, .ref DS, .none, dcS, pmS, anS, cdS, ctS, slS, rfl, lS, cS, .inr ⟨by simp, DS, _, [.none], nD, rfl, vS, rfl, .cons rfl .nil⟩, .inl rfl⟩, kS⟩
  have cl : PySem.W.clsIn K S = some { name := "SlopeError", bases := bs, mro := .ref S :: PySem.Sl.xTail, ns := N, qualname := q, hasDict := true, slotNames := sn, subclasses := sub, abstract := ab, collection := col, hasDel := false } := by
    unfold PySem.W.clsIn; rw [xS]
  have sS : PySem.W.subIn K (.ref S) (.type "BaseException") = some true := by
    show PySem.W.mroIn K S (.type "BaseException") = _
    unfold PySem.W.mroIn
    rw [cl, Option.bind_some]
    show some ((Value.ref S :: PySem.Sl.xTail).contains (.type "BaseException")) = _
    rw [List.contains_cons, show PySem.Sl.xTail.contains (.type "BaseException") = true by decide +kernel, Bool.or_true]
  obtain ⟨C0, f0, d0, k0⟩ := c0
  obtain ⟨C1, f1, d1, k1⟩ := c1
  obtain ⟨C2, f2, d2, k2⟩ := c2
  obtain ⟨C3, f3, d3, k3⟩ := c3
  obtain ⟨C4, f4, d4, k4⟩ := c4
  obtain ⟨C5, f5, d5, k5⟩ := c5
  obtain ⟨C6, f6, d6, k6⟩ := c6
  obtain ⟨C7, f7, d7, k7⟩ := c7
  obtain ⟨C8, f8, d8, k8⟩ := c8
  obtain ⟨C9, f9, d9, k9⟩ := c9
  obtain ⟨C10, f10, d10, k10⟩ := c10
  let C : Nat → Addr := fun i => [C0, C1, C2, C3, C4, C5, C6, C7, C8, C9, C10].getD i 0
  let fI : Nat → Addr := fun i => [f0, f1, f2, f3, f4, f5, f6, f7, f8, f9, f10].getD i 0
  let fd : Nat → FuncData := fun i => [d0, d1, d2, d3, d4, d5, d6, d7, d8, d9, d10].getD i d0
  have hC : ∀ i, i < 11 → ClsF K mg S (nm i) (C i) (fI i) (fd i) := fun i hi => by
    match i, hi with
    | 0, _ => exact k0
    | 1, _ => exact k1
    | 2, _ => exact k2
    | 3, _ => exact k3
    | 4, _ => exact k4
    | 5, _ => exact k5
    | 6, _ => exact k6
    | 7, _ => exact k7
    | 8, _ => exact k8
    | 9, _ => exact k9
    | 10, _ => exact k10
  exact ⟨_, fun s v => .of_eq rfl, fun base _ _ => all_ok T B (ers_mk (C := C) (fI := fI) (fd := fd) SB (ok_slS SF) (bnd_slS SF) xS rfl (by rw [cl]; rfl) tS sS hC) h0 h1 h2 h3 h4 h5 h6 h7 h8 h9 h10 h11 h12 (fun_mk (st := sLaw) lL cL kL)⟩
theorem walk {l : PySem.W.OpenLaw} {q : Program} {loose : List Str} {XP : (Str → Option Value) → Heap → Prop} {YP : World → Heap → Prop} {d : DefRec} {K : Params → PySem.W.Frag} (hn : l.most = some 63) (hdf : d.params.defaults = [])
    (hY : ∀ (w : World) (h : Heap), YP w h → (K w.params).In h)
    (F : ∀ (w : World) (mg : Str → Option Value) (fa : Addr) (h : Heap), (K w.params).In h → h.Ns mainGlobals mg → mg d.name = some (.ref fa) →
      ∃ fd : FuncData, (∀ (s : Shared) (u : Value), BindsTo s fd ⟨[u], []⟩ [("script", u)]) ∧ ∀ base : Heap, (K w.params).In base → base.Ns mainGlobals mg → FnOk l.prog w (K w.params) mg base CX0 11 fa fd ["script"] (spLaw (K w.params))) :
    PySem.W.WalkO q loose XP YP l.row.toRowW d [] (fun f vs => PySem.call f vs) :=
  L2.walk_of (n := 63) (k := 11) (x := "script") (CX := fun _ => CX0) (sp := fun w => spLaw (K w.params)) hn (by decide) hdf ⟨rfl, by decide, by decide⟩ hY F (fun _ _ a ns hl _ hS => ⟨a, ns, rfl, hS, hl, fun _ => rfl⟩) fun _ _ _ _ _ z => z
end K0

open PySem PySem.W PyProof.Rows
set_option maxHeartbeats 0 in
theorem PySem.Challenge.cw_twiceslope_k00_errors_by_position_and_by_holds : PySem.Challenge.rw_twiceslope_k00_errors_by_position_and_by.Holds := by
  w_on; o_law; k_head; (case hw => w_witness2)
  k_fill
  refine K0.walk (l := PySem.Challenge.rw_twiceslope_k00_errors_by_position_and_by) rfl rfl (fun w h Y => PySem.W.kIn_of Y) ?F
  case F =>
    intro w mg fa h KX G hmg
    refine' K0.all_mk KX G hmg ?aS ?xS ?tS ?rS ?gS ?iS ?lS ?vS ?cS ?kS ?e0 ?e1 ?e2 ?e3 ?e4 ?e5 ?e6 ?e7 ?e8 ?e9 ?e10 ?d0 ?d1 ?d2 ?d3 ?d4 ?d5 ?d6 ?d7 ?d8 ?d9 ?d10 ?d11 ?d12 ?z0 ?z1 ?z2 ?z3 ?z4 ?z5 ?z6 ?z7 ?z8 ?z9 ?y0 ?y1 ?y2 ?y3 ?y4 ?y5 ?y6 ?aL ?lL ?cL ?kL
    (case aS => k_is); (case xS => k_is); (case tS => k_is); (case rS => k_is); (case gS => k_is); (case iS => k_is); (case lS => k_is); (case vS => k_is); (case cS => k_is); (case kS => k_is)
    case e0 =>
      refine' ⟨_, _, _, K0.cls_mk KX G ?u_aC ?u_xL ?u_sa ?u_ga ?u_gg ?u_nb ?u_hc ?u_a1 ?u_t1 ?u_l1 ?u_c1 ?u_kf ?u_kC ?u_tC ?u_hn ?u_ht ?u_hl⟩
      (case u_aC => k_is); (case u_xL => k_is); (case u_sa => k_is); (case u_ga => k_is); (case u_gg => k_is); (case u_nb => k_is); (case u_hc => k_is); (case u_a1 => k_is)
      (case u_t1 => k_is); (case u_l1 => k_is); (case u_c1 => k_is); (case u_kf => k_is); (case u_kC => k_is); (case u_tC => k_is); (case u_hn => k_is); (case u_ht => k_is)
      (case u_hl => rfl)
    case e1 =>
      refine' ⟨_, _, _, K0.cls_mk KX G ?u_aC ?u_xL ?u_sa ?u_ga ?u_gg ?u_nb ?u_hc ?u_a1 ?u_t1 ?u_l1 ?u_c1 ?u_kf ?u_kC ?u_tC ?u_hn ?u_ht ?u_hl⟩
      (case u_aC => k_is); (case u_xL => k_is); (case u_sa => k_is); (case u_ga => k_is); (case u_gg => k_is); (case u_nb => k_is); (case u_hc => k_is); (case u_a1 => k_is)
      (case u_t1 => k_is); (case u_l1 => k_is); (case u_c1 => k_is); (case u_kf => k_is); (case u_kC => k_is); (case u_tC => k_is); (case u_hn => k_is); (case u_ht => k_is)
      (case u_hl => rfl)
    case e2 =>
      refine' ⟨_, _, _, K0.cls_mk KX G ?u_aC ?u_xL ?u_sa ?u_ga ?u_gg ?u_nb ?u_hc ?u_a1 ?u_t1 ?u_l1 ?u_c1 ?u_kf ?u_kC ?u_tC ?u_hn ?u_ht ?u_hl⟩
      (case u_aC => k_is); (case u_xL => k_is); (case u_sa => k_is); (case u_ga => k_is); (case u_gg => k_is); (case u_nb => k_is); (case u_hc => k_is); (case u_a1 => k_is)
      (case u_t1 => k_is); (case u_l1 => k_is); (case u_c1 => k_is); (case u_kf => k_is); (case u_kC => k_is); (case u_tC => k_is); (case u_hn => k_is); (case u_ht => k_is)
      (case u_hl => rfl)
    case e3 =>
      refine' ⟨_, _, _, K0.cls_mk KX G ?u_aC ?u_xL ?u_sa ?u_ga ?u_gg ?u_nb ?u_hc ?u_a1 ?u_t1 ?u_l1 ?u_c1 ?u_kf ?u_kC ?u_tC ?u_hn ?u_ht ?u_hl⟩
      (case u_aC => k_is); (case u_xL => k_is); (case u_sa => k_is); (case u_ga => k_is); (case u_gg => k_is); (case u_nb => k_is); (case u_hc => k_is); (case u_a1 => k_is)
      (case u_t1 => k_is); (case u_l1 => k_is); (case u_c1 => k_is); (case u_kf => k_is); (case u_kC => k_is); (case u_tC => k_is); (case u_hn => k_is); (case u_ht => k_is)
      (case u_hl => rfl)
    case e4 =>
      refine' ⟨_, _, _, K0.cls_mk KX G ?u_aC ?u_xL ?u_sa ?u_ga ?u_gg ?u_nb ?u_hc ?u_a1 ?u_t1 ?u_l1 ?u_c1 ?u_kf ?u_kC ?u_tC ?u_hn ?u_ht ?u_hl⟩
      (case u_aC => k_is); (case u_xL => k_is); (case u_sa => k_is); (case u_ga => k_is); (case u_gg => k_is); (case u_nb => k_is); (case u_hc => k_is); (case u_a1 => k_is)
      (case u_t1 => k_is); (case u_l1 => k_is); (case u_c1 => k_is); (case u_kf => k_is); (case u_kC => k_is); (case u_tC => k_is); (case u_hn => k_is); (case u_ht => k_is)
      (case u_hl => rfl)
    case e5 =>
      refine' ⟨_, _, _, K0.cls_mk KX G ?u_aC ?u_xL ?u_sa ?u_ga ?u_gg ?u_nb ?u_hc ?u_a1 ?u_t1 ?u_l1 ?u_c1 ?u_kf ?u_kC ?u_tC ?u_hn ?u_ht ?u_hl⟩
      (case u_aC => k_is); (case u_xL => k_is); (case u_sa => k_is); (case u_ga => k_is); (case u_gg => k_is); (case u_nb => k_is); (case u_hc => k_is); (case u_a1 => k_is)
      (case u_t1 => k_is); (case u_l1 => k_is); (case u_c1 => k_is); (case u_kf => k_is); (case u_kC => k_is); (case u_tC => k_is); (case u_hn => k_is); (case u_ht => k_is)
      (case u_hl => rfl)
    case e6 =>
      refine' ⟨_, _, _, K0.cls_mk KX G ?u_aC ?u_xL ?u_sa ?u_ga ?u_gg ?u_nb ?u_hc ?u_a1 ?u_t1 ?u_l1 ?u_c1 ?u_kf ?u_kC ?u_tC ?u_hn ?u_ht ?u_hl⟩
      (case u_aC => k_is); (case u_xL => k_is); (case u_sa => k_is); (case u_ga => k_is); (case u_gg => k_is); (case u_nb => k_is); (case u_hc => k_is); (case u_a1 => k_is)
      (case u_t1 => k_is); (case u_l1 => k_is); (case u_c1 => k_is); (case u_kf => k_is); (case u_kC => k_is); (case u_tC => k_is); (case u_hn => k_is); (case u_ht => k_is)
      (case u_hl => rfl)
    case e7 =>
      refine' ⟨_, _, _, K0.cls_mk KX G ?u_aC ?u_xL ?u_sa ?u_ga ?u_gg ?u_nb ?u_hc ?u_a1 ?u_t1 ?u_l1 ?u_c1 ?u_kf ?u_kC ?u_tC ?u_hn ?u_ht ?u_hl⟩
      (case u_aC => k_is); (case u_xL => k_is); (case u_sa => k_is); (case u_ga => k_is); (case u_gg => k_is); (case u_nb => k_is); (case u_hc => k_is); (case u_a1 => k_is)
      (case u_t1 => k_is); (case u_l1 => k_is); (case u_c1 => k_is); (case u_kf => k_is); (case u_kC => k_is); (case u_tC => k_is); (case u_hn => k_is); (case u_ht => k_is)
      (case u_hl => rfl)
    case e8 =>
      refine' ⟨_, _, _, K0.cls_mk KX G ?u_aC ?u_xL ?u_sa ?u_ga ?u_gg ?u_nb ?u_hc ?u_a1 ?u_t1 ?u_l1 ?u_c1 ?u_kf ?u_kC ?u_tC ?u_hn ?u_ht ?u_hl⟩
      (case u_aC => k_is); (case u_xL => k_is); (case u_sa => k_is); (case u_ga => k_is); (case u_gg => k_is); (case u_nb => k_is); (case u_hc => k_is); (case u_a1 => k_is)
      (case u_t1 => k_is); (case u_l1 => k_is); (case u_c1 => k_is); (case u_kf => k_is); (case u_kC => k_is); (case u_tC => k_is); (case u_hn => k_is); (case u_ht => k_is)
      (case u_hl => rfl)
    case e9 =>
      refine' ⟨_, _, _, K0.cls_mk KX G ?u_aC ?u_xL ?u_sa ?u_ga ?u_gg ?u_nb ?u_hc ?u_a1 ?u_t1 ?u_l1 ?u_c1 ?u_kf ?u_kC ?u_tC ?u_hn ?u_ht ?u_hl⟩
      (case u_aC => k_is); (case u_xL => k_is); (case u_sa => k_is); (case u_ga => k_is); (case u_gg => k_is); (case u_nb => k_is); (case u_hc => k_is); (case u_a1 => k_is)
      (case u_t1 => k_is); (case u_l1 => k_is); (case u_c1 => k_is); (case u_kf => k_is); (case u_kC => k_is); (case u_tC => k_is); (case u_hn => k_is); (case u_ht => k_is)
      (case u_hl => rfl)
    case e10 =>
      refine' ⟨_, _, _, K0.cls_mk KX G ?u_aC ?u_xL ?u_sa ?u_ga ?u_gg ?u_nb ?u_hc ?u_a1 ?u_t1 ?u_l1 ?u_c1 ?u_kf ?u_kC ?u_tC ?u_hn ?u_ht ?u_hl⟩
      (case u_aC => k_is); (case u_xL => k_is); (case u_sa => k_is); (case u_ga => k_is); (case u_gg => k_is); (case u_nb => k_is); (case u_hc => k_is); (case u_a1 => k_is)
      (case u_t1 => k_is); (case u_l1 => k_is); (case u_c1 => k_is); (case u_kf => k_is); (case u_kC => k_is); (case u_tC => k_is); (case u_hn => k_is); (case u_ht => k_is)
      (case u_hl => rfl)
    case d0 => (refine' K0.df_mk (st := K0.sDeck) KX G ?v_a ?v_l ?v_c ?v_k K0.bd0; (case v_a => k_is); (case v_l => k_is); (case v_c => k_is); (case v_k => k_is))
    case d1 => (refine' K0.df_mk (st := K0.sDraw) KX G ?v_a ?v_l ?v_c ?v_k K0.bd1; (case v_a => k_is); (case v_l => k_is); (case v_c => k_is); (case v_k => k_is))
    case d2 => (refine' K0.df_mk (st := K0.sPick) KX G ?v_a ?v_l ?v_c ?v_k K0.bd2; (case v_a => k_is); (case v_l => k_is); (case v_c => k_is); (case v_k => k_is))
    case d3 => (refine' K0.df_mk (st := K0.sAny) KX G ?v_a ?v_l ?v_c ?v_k K0.bd3; (case v_a => k_is); (case v_l => k_is); (case v_c => k_is); (case v_k => k_is))
    case d4 => (refine' K0.df_mk (st := K0.sSame) KX G ?v_a ?v_l ?v_c ?v_k K0.bd4; (case v_a => k_is); (case v_l => k_is); (case v_c => k_is); (case v_k => k_is))
    case d5 => (refine' K0.df_mk (st := K0.sPos) KX G ?v_a ?v_l ?v_c ?v_k K0.bd5; (case v_a => k_is); (case v_l => k_is); (case v_c => k_is); (case v_k => k_is))
    case d6 => (refine' K0.df_mk (st := K0.sName) KX G ?v_a ?v_l ?v_c ?v_k K0.bd6; (case v_a => k_is); (case v_l => k_is); (case v_c => k_is); (case v_k => k_is))
    case d7 => (refine' K0.df_mk (st := K0.sCarr) KX G ?v_a ?v_l ?v_c ?v_k K0.bd7; (case v_a => k_is); (case v_l => k_is); (case v_c => k_is); (case v_k => k_is))
    case d8 => (refine' K0.df_mk (st := K0.sKinds) KX G ?v_a ?v_l ?v_c ?v_k K0.bd8; (case v_a => k_is); (case v_l => k_is); (case v_c => k_is); (case v_k => k_is))
    case d9 => (refine' K0.df_mk (st := K0.sOwn) KX G ?v_a ?v_l ?v_c ?v_k K0.bd9; (case v_a => k_is); (case v_l => k_is); (case v_c => k_is); (case v_k => k_is))
    case d10 => (refine' K0.df_mk (st := K0.sRaise) KX G ?v_a ?v_l ?v_c ?v_k K0.bd10; (case v_a => k_is); (case v_l => k_is); (case v_c => k_is); (case v_k => k_is))
    case d11 => (refine' K0.df_mk (st := K0.sCaught) KX G ?v_a ?v_l ?v_c ?v_k K0.bd11; (case v_a => k_is); (case v_l => k_is); (case v_c => k_is); (case v_k => k_is))
    case d12 => (refine' K0.df_mk (st := K0.sBase) KX G ?v_a ?v_l ?v_c ?v_k K0.bd12; (case v_a => k_is); (case v_l => k_is); (case v_c => k_is); (case v_k => k_is))
    (case z0 => k_is); (case z1 => k_is); (case z2 => k_is); (case z3 => k_is); (case z4 => k_is); (case z5 => k_is); (case z6 => k_is); (case z7 => k_is); (case z8 => k_is); (case z9 => k_is)
    (case y0 => k_is); (case y1 => k_is); (case y2 => k_is); (case y3 => k_is); (case y4 => k_is); (case y5 => k_is); (case y6 => k_is)
    (case aL => k_is); (case lL => k_is); (case cL => k_is); (case kL => k_is)

