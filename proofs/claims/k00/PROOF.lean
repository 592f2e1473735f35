import PyProof.Rows.All
import Wide.All
import OpenK.AllK
import Wide.FinOn
import PyProof.EqAt
import PyProof.EqKinds
import PyProof.TupleCall
import HandS.ForMost
import HandS.ExcInit
import HandS.IsInst
import KE.KExcIs
import HandS.Wide
import HandS.DictEq
import HandS.More
import PyProof.ReprRoads
import PyProof.StrLawsRepr
import HandS.MakeKw
import PySem.Challenge.RW_quotedback_k00_errors_hold_their_value
set_option Elab.async false
set_option linter.all false
set_option maxRecDepth 100000
set_option maxHeartbeats 8000000
namespace PySem
namespace Qb
open PySem PySem.W PySem.Calls PyProof.Rows PySem.HandSPX
section
variable {M : Model} {prog : Program} {w : World} {A : Around} {E : Value → Shared → Prop} {R : Result → Shared → Prop}
  {h : Heap} {g : Array GenState} {d : Drawn} {t : Nat} {os : OsState}
variable {nm q : Str} {C N : Addr} {bs bm bmB : List Value} {sn : List Str} {sub : List Value} {ab hdct : Bool}
  {col : Option Bool} {dd : Option Addr} {k0 k1 k2 k3 k5 : Option Value} {B newId initId : String}
/-- the maker's look at its arguments, where a keyword stands among them -/
theorem kw_check (F : ExcBaseFacts B newId initId bmB) (hT : ∀ X : String, bm.contains (.type X) = bmB.contains (.type X))
    {kx : Str} {kv : Value} {Q : Unit → Shared → Prop}
    (hC : h.get? C = some (excClassObj nm q C N bs bm hdct sn sub ab col dd k0 k1 k2 k3 k5 newId)) (hq : Q () ⟨h, g, d, t, os⟩) :
    wpAny M A (checkBuiltinCall newId ⟨[.ref C], [(kx, kv)]⟩) Q E ⟨h, g, d, t, os⟩ := by
  have own : (Value.ref C :: bm).contains (.type B) = true := by
    rw [List.contains_cons, hT, F.hasB, Bool.or_true]
  have star := F.noStar
  simp only [checkBuiltinCall, F.newKind, F.newSplit, F.newRow]
  repeat (first
    | refine wpAny_loadPart_at hC ?_
    | (refine wpAny_isSubtype_exc hC ?_; rw [own])
    | refine wpAny_staticBase_exc hC ?_
    | refine wpAny_madeBy_exc hC ?_
    | simp only [bne_self_eq_false, Bool.false_eq_true, if_false]
    | wp_step)
  all_goals first | exact hq | skip
/-- the maker itself: the keyword is passed over, the tuple of arguments is empty -/
theorem kw_new (F : ExcBaseFacts B newId initId bmB) (hT : ∀ X : String, bm.contains (.type X) = bmB.contains (.type X))
    {kx : Str} {kv : Value}
    (hC : h.get? C = some (excClassObj nm q C N bs bm hdct sn sub ab col dd k0 k1 k2 k3 k5 newId))
    (hq : R (.ok (.ret (.ref (h.objs.size + 1)))) ⟨(h.push (kdv_tup [])).push (excO C h.objs.size), g, d, t, os⟩) :
    codeAny (model prog w) A (.builtin newId ⟨[.ref C], [(kx, kv)]⟩) R ⟨h, g, d, t, os⟩ := by
  have ends := F.ends
  have cB : (Value.ref C :: bm).contains (.type B) = true := by
    rw [List.contains_cons, hT, F.hasB, Bool.or_true]
  have cA : (Value.ref C :: bm).contains (.type "AttributeError") = false := by
    rw [List.contains_cons, hT, F.noAttr]
    rfl
  have cN : (Value.ref C :: bm).contains (.type "NameError") = false := by
    rw [List.contains_cons, hT, F.noName]
    rfl
  refine codeAny_builtinAt F.entry ?_
  unfold Builtin.«BaseException.__new__»
  refine wpAt_bind ?_
  show wpAt _ _ _ (stack >>= _) _ _ _
  refine wpAt_bind (wpAt_stack fun p below => wpAt_of_wpAny ?_)
  wp_walk
  refine wpAt_of_wpAny ?_
  rw [F.owner]
  repeat (first
    | with_reducible refine wpAny_madeHere_exc F.canon hC ?_
    | with_reducible refine wpAny_loadPart_at hC ?_
    | (with_reducible refine wpAny_isSubtype_exc hC ?_; first | rw [cB] | rw [cA] | rw [cN])
    | wp_step)
  show R _ _
  rw [Heap.size_push]
  exact hq
/-- C(k = v): made, then C's own __init__ with the keyword -/
theorem kw_type_call (F : ExcBaseFacts B newId initId bmB) (hT : ∀ X : String, bm.contains (.type X) = bmB.contains (.type X))
    {kx : Str} {kv : Value} {fI : Addr} {Q : Fin → Shared → Prop}
    (hC : h.get? C = some (excClassObj nm q C N bs bm hdct sn sub ab col dd k0 k1 k2 k3 k5 newId))
    (hi : Looks (model prog w) h (typeLookup (.ref C) "__init__") (some (.ref fI)))
    (hb : ∀ self, Looks (model prog w) h (bindSpecial (.ref fI) self) (.ref fI, [self]))
    (hq : codeAny (model prog w) A (.call (.ref fI) ⟨[.ref (h.objs.size + 1)], [(kx, kv)]⟩)
      (fun r s' => match r with
        | .ok (.ret v) => v = .none ∧ Q (.done (.ret (.ref (h.objs.size + 1)))) s'
        | .ok _ => False
        | .error e => E e s')
      ⟨(h.push (kdv_tup [])).push (excO C h.objs.size), g, d, t, os⟩) :
    wpAny (model prog w) A (Builtin.«type.__call__» ⟨[.ref C], [(kx, kv)]⟩) Q E ⟨h, g, d, t, os⟩ := by
  repeat (first
    | with_reducible refine wpAny_loadPart_at hC ?_
    | with_reducible refine wpAny_madeBy_exc hC ?_
    | wp_step)
  refine codeAny_call_builtin_code (Code.quiet_builtin _ F.quiet) (kw_check F hT hC ?_)
  refine kw_new F hT hC ?_
  show wpAny _ _ _ _ _ _
  have keep : ∀ b o, h.get? b = some o → ((h.push (kdv_tup [])).push (excO C h.objs.size)).get? b = some o :=
    fun b o e => Heap.get?_push_of_some _ (Heap.get?_push_of_some _ e)
  have hC1 := keep _ _ hC
  have made : ((h.push (kdv_tup [])).push (excO C h.objs.size)).get? (h.objs.size + 1) = some (excO C h.objs.size) := by
    heap_get
  have self : (Value.ref C :: bm).contains (.ref C) = true := by simp
  have i1 := hi.keeps keep
  have b1 := (hb (.ref (h.objs.size + 1))).keeps keep
  unfold isInstance
  repeat (first
    | with_reducible refine wpAny_loadPart_at made ?_
    | (with_reducible refine wpAny_isSubtype_exc hC1 ?_; rw [self])
    | wp_step)
  show wpAny _ _ (typeLookup (.ref C) _) _ _ _
  refine i1.at ?_
  refine wpAny_holding (wpAny_bind (b1.at ?_))
  refine wpAny_bind (wpAny_call (codeAny_mono hq fun r s' z => ?_))
  cases r with
  | error e => exact z
  | ok fl =>
    cases fl with
    | ret v =>
      obtain ⟨rfl, z⟩ := z
      first
        | exact wpAny_pure (wpAny_pure z)
        | (wp_walk; first | done | exact z)
    | next => exact z.elim
    | brk => exact z.elim
    | cont => exact z.elim
theorem kw_check_call {kx : Str} {kv : Value} {Q : Unit → Shared → Prop}
    (hC : h.get? C = some (excClassObj nm q C N bs bm hdct sn sub ab col dd k0 k1 k2 k3 k5 newId)) (hq : Q () ⟨h, g, d, t, os⟩) :
    wpAny M A (checkBuiltinCall "type.__call__" ⟨[.ref C], [(kx, kv)]⟩) Q E ⟨h, g, d, t, os⟩ := by
  have f3 := tc_sub
  have ty : (⟨h, g, d, t, os⟩ : Shared).TypeIs (.ref C) "type" := ⟨_, hC, rfl⟩
  simp only [checkBuiltinCall, tc_kind, tc_split]
  repeat (any_goals (first
    | assumption
    | with_reducible refine wpAny_loadPart_at hC ?_
    | with_reducible refine wpAny_onRaise ?_
    | with_reducible refine wpAny_map ?_
    | wp_step))
theorem kw_own (F : ExcBaseFacts B newId initId bmB) (hT : ∀ X : String, bm.contains (.type X) = bmB.contains (.type X))
    {kx : Str} {kv : Value} {fI : Addr}
    (hC : h.get? C = some (excClassObj nm q C N bs bm hdct sn sub ab col dd k0 k1 k2 k3 k5 newId))
    (hi : Looks (model prog w) h (typeLookup (.ref C) "__init__") (some (.ref fI)))
    (hb : ∀ self, Looks (model prog w) h (bindSpecial (.ref fI) self) (.ref fI, [self]))
    (hq : codeAny (model prog w) (A.under (.builtin "type.__call__" ⟨[.ref C], [(kx, kv)]⟩))
      (.call (.ref fI) ⟨[.ref (h.objs.size + 1)], [(kx, kv)]⟩) (InitBack (h.objs.size + 1) R)
      ⟨(h.push (kdv_tup [])).push (excO C h.objs.size), g, d, t, os⟩) :
    codeAny (model prog w) A (.call (.ref C) ⟨[], [(kx, kv)]⟩) R ⟨h, g, d, t, os⟩ := by
  have f1 := tc_lookup
  have f2 := tc_bind (.ref C)
  have ty : (⟨h, g, d, t, os⟩ : Shared).TypeIs (.ref C) "type" := ⟨_, hC, rfl⟩
  refine codeAny_of_tree ?_
  show wpAny _ _ (callAny (.ref C) _) _ _ _
  repeat (any_goals (first
    | assumption
    | with_reducible refine wpAny_loadPart_at hC ?_
    | wp_step))
  refine ⟨rfl, ?_⟩
  refine codeAny_call_builtin_at (Code.quiet_builtin _ (by decide +kernel)) entry_typeCall
    (kw_check_call hC (kw_type_call F hT hC hi hb ?_))
  refine codeAny_mono hq fun r s' z => ?_
  rcases r with e | (v | _ | _ | _) <;> exact z
end
end Qb
end PySem
namespace PySem
namespace Qb
open PySem.W PySem.Calls PyProof.Rows L2
/-- what the written part says of one class of errors: its name x, its object at C, behind itself ms in the order of lookup; fI: the one __init__ -/
structure EC (K : Frag) (mg : Str → Option Value) (fI : Addr) (x : Str) (C : Addr) (ms : List Value) : Prop where
  gC : mg x = some (.ref C)
  cls : ∃ nm q N bs sn sub ab col dd k0 k1 k2 k3 k5,
    K.lookup C = some (excClassObj nm q C N bs ms true sn sub ab col dd k0 k1 k2 k3 k5 "ValueError.__new__")
  rv : HandSPX.refsVE ms = true
  sa : findIn K (.ref C) "__setattr__" = some (some (.builtin "object.__setattr__"))
  ga : findIn K (.ref C) "__getattribute__" = some (some (.builtin "BaseException.__getattribute__"))
  gg : findIn K (.ref C) "__getattr__" = some none
  no : findIn K (.ref C) "value" = some none
  iC : findIn K (.ref C) "__init__" = some (some (.ref fI))
  kC : keepIn K (.ref C) = true
  cc : findIn K (.ref C) "__class__" = some (some (.builtin "object.__class__"))
structure EG (K : Frag) (fI : Addr) : Prop where
  tI : typeIn K (.ref fI) = some (.type "function")
  hn : specialIn K (.builtin "object.__class__") "__get__" = some (some (.builtin "getset_descriptor.__get__"))
  ht : takesIn K (.builtin "object.__class__") = some true
section
variable {K : Frag} {mg : Str → Option Value} {fI C : Addr} {x : Str} {ms : List Value}
theorem EC.clsIs (T : EC K mg fI x C ms) : ∃ cd : ClassData, clsIn K C = some cd ∧ cd.mro = .ref C :: ms ∧ cd.hasDict = true := by
  obtain ⟨nm, q, N, bs, sn, sub, ab, col, dd, k0, k1, k2, k3, k5, hC⟩ := T.cls
  refine ⟨{ name := nm, bases := bs, mro := .ref C :: ms, ns := N, qualname := q, hasDict := true, slotNames := sn, subclasses := sub, abstract := ab, collection := col, hasDel := false }, ?_, rfl, rfl⟩
  unfold clsIn
  rw [hC] <;> rfl
theorem EC.mro (T : EC K mg fI x C ms) (b : Value) : mroIn K C b = some ((Value.ref C :: ms).contains b) := by
  obtain ⟨cd, h1, h2, _⟩ := T.clsIs
  unfold mroIn
  rw [h1, Option.bind_some, h2]
  rfl
theorem EC.below (T : EC K mg fI x C ms) (n : String) (h : HandSPX.veTail.contains (.type n) = true) : mroIn K C (.type n) = some true := by
  rw [T.mro, List.contains_cons, HandSPX.refsVE_contains n ms T.rv, h, Bool.or_true]
theorem EC.ty (T : EC K mg fI x C ms) : typeIn K (.ref C) = some (.type "type") := by
  obtain ⟨nm, q, N, bs, sn, sub, ab, col, dd, k0, k1, k2, k3, k5, hC⟩ := T.cls
  show (K.lookup C).map (·.cls) = _
  rw [hC] <;> rfl
theorem EC.oex (T : EC K mg fI x C ms) : OexC K C := by
  obtain ⟨nm, q, N, bs, sn, sub, ab, col, dd, k0, k1, k2, k3, k5, hC⟩ := T.cls
  exact { cls := ⟨nm, q, N, bs, ms, sn, sub, ab, col, dd, k0, k1, k2, k3, k5, hC, T.rv⟩, sa := T.sa, exC := T.below "BaseException" (by decide +kernel), tyC := T.ty, kC := T.kC }
theorem EC.kit (T : EC K mg fI x C ms) (G : EG K fI) {e : Addr} {oe : Obj} {od : Option Obj} : KitX K (.ref e) (.ref C) (fun h => InstAt h e oe C od) := by
  obtain ⟨cd, h1, _, _⟩ := T.clsIs
  exact kitx_exc (by rw [h1]; rfl) T.ga T.gg (T.below "BaseException" (by decide +kernel)) T.cc G.hn G.ht (T.below "object" (by decide +kernel))
/-- isinstance of an error of the class at C against another class of errors -/
theorem EC.one (T : EC K mg fI x C ms) {x' : Str} {D : Addr} {ms' : List Value} (T' : EC K mg fI x' D ms') : kitOne K (.ref C) (.ref D) = some ((Value.ref C :: ms).contains (.ref D)) := by
  unfold kitOne
  by_cases h : (Value.ref C == Value.ref D) = true
  · rw [if_pos h, List.contains_cons]
    have e : C = D := Value.ref.inj (beq_iff_eq.mp h)
    subst e
    simp
  · rw [if_neg h]
    obtain ⟨cd, h1, _, _⟩ := T'.clsIs
    show (if ((clsIn K D).isSome && typeIn K (.ref D) == some (.type "type")) = true then subIn K (.ref C) (.ref D) else none) = _
    rw [if_pos (by rw [h1, T'.ty]; rfl)]
    exact T.mro _
theorem EC.oneT (T : EC K mg fI x C ms) : kitOne K (.ref C) (.type "ValueError") = some true := by
  unfold kitOne
  rw [if_neg (fun q => Value.noConfusion (beq_iff_eq.mp q))]
  show (if kitMeta "ValueError" = true then subIn K (.ref C) (.type "ValueError") else none) = _
  rw [if_pos (by decide +kernel)]
  exact T.below "ValueError" (by decide +kernel)
end
/-- at e: an error of the class at C that holds v -/
def ErrAt (H : Hp) (e C : Addr) (v : V) : Prop := ∃ d, d ≠ e ∧ H e = some (exo e C (some d)) ∧ H d = some (exd d [(("value" : Str), v)])
theorem ErrAt.same {H H' : Hp} {e C : Addr} {v : V} (h : ErrAt H e C v) (s : Same H H') : ErrAt H' e C v := by
  obtain ⟨d, ne, h1, h2⟩ := h
  exact ⟨d, ne, s _ _ h1, s _ _ h2⟩
section
variable {X : Cx} {pins : List (Addr × Obj)} {σ : L2.St} {H : Hp} {s : Shared} {fI C e : Addr} {x : Str} {ms : List Value} {v : V}
theorem err_inst (I : Inv X pins σ H s) (h : ErrAt H e C v) : ∃ (oe od : Obj), InstAt s.heap e oe C (some od) ∧ (∃ u, lookIn "value" od = some (some u) ∧ RelV v u) := by
  obtain ⟨d, ne, h1, h2⟩ := h
  obtain ⟨t1, ho⟩ := exo_at I.hok h1
  obtain ⟨mA, hns, hr⟩ := exd_at I.hok h2
  obtain ⟨od, hd, hl⟩ := lookIn_ns hns
  have l : List.lookup ("value" : Str) [(("value" : Str), v)] = some v := by simp [List.lookup]
  obtain ⟨u, hu, ru⟩ := RelO.some_of (v := v) (o := mA "value") (by rw [← l]; exact hr "value")
  exact ⟨_, od, ⟨ho, rfl, rfl, hd⟩, u, by rw [hl, hu], ru⟩
end
/-- e.value, e an error -/
def tErrV (K : Frag) (mg : Str → Option Value) (fI : Addr) (te : TE) : TE := fun σ H Q => te σ H fun y H1 =>
  ∃ (e C : Addr) (v : V) (x : Str) (ms : List Value), y = .ref e ∧ EC K mg fI x C ms ∧ ErrAt H1 e C v ∧ Q v H1
/-- isinstance(e, c), e an error -/
def rIsErr (K : Frag) (mg : Str → Option Value) (fI : Addr) : List V → Hp → VK → Prop := fun xs H Q =>
  ∃ (e C : Addr) (v c : V) (u : Value) (b : Bool) (x : Str) (ms : List Value), xs = [.ref e, c] ∧ ClsV c u ∧ EC K mg fI x C ms ∧ ErrAt H e C v ∧ kitOne K (.ref C) u = some b ∧ Q (.bl b) H
/-- what __init__ does for an error that is being made -/
def spInit (K : Frag) : Sp := fun vs H Q _ => ∃ (a C : Addr) (v : V), vs = [.ref a, v] ∧ OexC K C ∧ findIn K (.ref C) "value" = some none ∧ H a = some (exo a C none) ∧
  ∀ dx, H dx = none → dx ≠ a → Q .non (upd (upd H dx (exd dx [(("value" : Str), v)])) a (exo a C (some dx)))
/-- C(e), C(value=e): a new error -/
def tErr (C : Addr) (t : TA) : TE := fun σ H Q => t σ H fun vs H1 => ∃ v, vs = [v] ∧
  ∀ a d, H1 a = none → H1 d = none → d ≠ a → Q (.ref a) (upd (upd H1 d (exd d [(("value" : Str), v)])) a (exo a C (some d)))
theorem upd_mid {H : Hp} {a d : Addr} {o u o' : HO} (h : d ≠ a) : upd (upd (upd H a o) d u) a o' = upd (upd H d u) a o' := by
  funext b
  unfold upd
  by_cases h1 : b = a
  · simp [h1]
  · by_cases h2 : b = d <;> simp [h1, h2]
section
variable {X : Cx} {fI C : Addr} {x : Str} {ms : List Value} {te : TE} {ta : TA} {e : Expr} {p pos : Pos}
theorem pe_errv (he : PE X e te) (hb : attributeBase e "value" X.env (eval e X.env) = eval e X.env := by rfl) :
    PE X (.Attribute e "value" pos) (tErrV X.K X.mg fI te) := by
  refine ⟨fun pins s σ H Q I h => attr_of hb (thn (he.run pins s σ H _ I h) fun u s1 hh => ?_)⟩
  obtain ⟨y, H1, I1, ry, e1, C1, v, x1, ms1, ey, T, er, q⟩ := hh
  subst ey
  obtain rfl : u = Value.ref e1 := ry
  obtain ⟨oe, od, J, u, hu, ru⟩ := err_inst I1 er
  obtain ⟨cd, h1, h2, h3⟩ := T.clsIs
  have hd : hasDictIn X.K C1 = true := by
    show (clsIn X.K C1).any (·.hasDict) = true
    rw [h1]
    exact h3
  exact HandSPX.exc_get I1.kIn J T.ga T.gg (T.below "BaseException" (by decide +kernel)) (findObj_own hd T.no rfl hu) (handed_of ru) ⟨v, H1, I1.tok _, ru, q⟩
theorem call_isErr (G : EG X.K fI) : CallR X (.builtin "isinstance") (rIsErr X.K X.mg fI) := by
  intro pins s σ H xs us Q I r h
  obtain ⟨e, C, v, c, w, b, x, ms, rfl, k, T, er, ek, q⟩ := h
  obtain ⟨u1, u2, rfl, r1, r2⟩ := vals2 r
  obtain rfl : u1 = Value.ref e := r1
  have e2 := k.eq r2
  subst e2
  obtain ⟨oe, od, J, _⟩ := err_inst I er
  exact kia_one (T.kit G) I.kIn J ek (fun z => nomatch z) fun tk => ⟨.bl b, H, I.tok tk, rfl, q⟩
end
section
variable {X : Cx} {CX : CXT} {fI C : Addr} {k : Nat} {fd : FuncData} {x : Str} {ms : List Value} {te : TE} {e : Expr} {p pos : Pos}
/-- an error is made: its object laid, then __init__ runs over it -/
theorem run_err {pins : List (Addr × Obj)} {σ : L2.St} {H : Hp} {hp : Heap} {g : Array GenState} {dr : Drawn} {tk : Nat} {os : OsState} {Q : VK} {u : Value} {v : V} {us : List Value} {kw : List (Str × Value)}
    (T : EC X.K X.mg fI x C ms) (F1 : FnOk X.prog X.w X.K X.mg X.base CX k fI fd ["self", "value"] (spInit X.K)) (hr : Room (k + 1) X.A) (hx : Passes CX X E0)
    (hb : ∀ s : Shared, X.K.In s.heap → ∀ a u, BindsTo s fd ⟨.ref a :: (if kw = [] then [u] else []), if kw = [] then [] else [(("value" : Str), u)]⟩ [(("self" : Str), .ref a), (("value" : Str), u)])
    (I : Inv X pins σ H ⟨hp, g, dr, tk, os⟩) (ru : RelV v u) (hus : us = (if kw = [] then [u] else [])) (hkw : kw = [] ∨ kw = [(("value" : Str), u)])
    (q : ∀ a d, H a = none → H d = none → d ≠ a → Q (.ref a) (upd (upd H d (exd d [(("value" : Str), v)])) a (exo a C (some d)))) :
    codeAny (model X.prog X.w) (X.A.under (.builtin "type.__call__" ⟨.ref C :: us, kw⟩)) (.call (.ref fI) ⟨.ref (hp.objs.size + 1) :: us, kw⟩)
      (InitBack (hp.objs.size + 1) (fun r s' => match r with
        | .ok (.ret y) => EP X pins σ Q y s'
        | .ok _ => False
        | .error er => X.xe er s')) ⟨(hp.push (kdv_tup us)).push (HandSPX.excO C hp.objs.size), g, dr, tk, os⟩ := by
  have sz : hp.objs.size ≤ hp.objs.size + 1 := Nat.le_succ _
  have hn : H (hp.objs.size + 1) = none := I.hok.fresh sz
  have keep : ∀ b o, hp.get? b = some o → ((hp.push (kdv_tup us)).push (HandSPX.excO C hp.objs.size)).get? b = some o :=
    fun b o z => Heap.get?_push_of_some _ (Heap.get?_push_of_some _ z)
  have made : ((hp.push (kdv_tup us)).push (HandSPX.excO C hp.objs.size)).get? (hp.objs.size + 1) = some (HandSPX.excO C hp.objs.size) := by heap_get
  have I2 : Inv X pins σ (upd H (hp.objs.size + 1) (exo (hp.objs.size + 1) C none)) ⟨(hp.push (kdv_tup us)).push (HandSPX.excO C hp.objs.size), g, dr, tk, os⟩ :=
    I.laid (t' := tk) (a := hp.objs.size + 1) (o := exo (hp.objs.size + 1) C none) (h' := (hp.push (kdv_tup us)).push (HandSPX.excO C hp.objs.size)) keep sz (exo_ok made)
  have hq : spInit X.K [.ref (hp.objs.size + 1), v] (upd H (hp.objs.size + 1) (exo (hp.objs.size + 1) C none)) (fun y H' => y = .non ∧ Q (.ref (hp.objs.size + 1)) H') E0 := by
    refine ⟨_, C, v, rfl, T.oex, T.no, upd_same, fun dx nd ne => ⟨rfl, ?_⟩⟩
    rw [upd_ne ne] at nd
    rw [upd_mid ne]
    exact q _ dx hn nd ne
  have bd : BindsTo ⟨(hp.push (kdv_tup us)).push (HandSPX.excO C hp.objs.size), g, dr, tk, os⟩ fd ⟨.ref (hp.objs.size + 1) :: us, kw⟩ ((["self", "value"] : List Str).zip [.ref (hp.objs.size + 1), u]) := by
    have z := hb ⟨(hp.push (kdv_tup us)).push (HandSPX.excO C hp.objs.size), g, dr, tk, os⟩ I2.kIn (hp.objs.size + 1) u
    rcases hkw with e | e
    · subst e
      have h1 : us = [u] := by simpa using hus
      subst h1
      simpa using z
    · subst e
      have h1 : us = [] := by simpa using hus
      subst h1
      simpa using z
  refine codeAny_mono (F1.run _ X.stack _ _ ⟨.ref (hp.objs.size + 1) :: us, kw⟩ [.ref (hp.objs.size + 1), u] [.ref (hp.objs.size + 1), v] _ E0 (hr.make C us kw) (I2.env0.make C us kw) bd (.cons rfl (.cons ru .nil)) hq) fun r s' hq' => ?_
  cases r with
  | error er => exact hx pins σ _ _ er s' I2 hq'
  | ok fl =>
    cases fl with
    | ret y =>
      obtain ⟨y', H', I3, ry, ey, q3⟩ := I2.after hq'
      subst ey
      exact ⟨ry, ⟨.ref (hp.objs.size + 1), H', I3, rfl, q3⟩⟩
    | next => exact False.elim hq'
    | brk => exact False.elim hq'
    | cont => exact False.elim hq'
/-- C(e) -/
theorem pe_err {ta : TA} (T : EC X.K X.mg fI x C ms) (G : EG X.K fI) (F1 : FnOk X.prog X.w X.K X.mg X.base CX k fI fd ["self", "value"] (spInit X.K)) (hr : Room (k + 1) X.A) (hx : Passes CX X E0)
    (hb : ∀ s : Shared, X.K.In s.heap → ∀ a u, BindsTo s fd ⟨[.ref a, u], []⟩ [(("self" : Str), .ref a), (("value" : Str), u)]) (hg : Gl X x) (ha : PA X [e] ta)
    (hdb : (x == ("__debug__" : Str)) = false := by decide) (he : starEach [e] X.env = (false, eval e X.env) :: starEach [] X.env := by rfl) (hpl : (backTo pos (starEach [] X.env)).any (·.1) = false := by rfl) :
    PE X (.Call (.Name x p) [e] [] pos) (tErr C ta) := by
  refine ⟨fun pins s σ H Q I h => wpAny_Call_Name_kw (ld_glob I hg T.gC ?_ hdb)⟩
  refine callWith_K (h₀ := X.base) I.ok.mod.kin T.kC (thn (ha.run pos pins s σ H _ I h) fun us s1 ⟨vs, H1, I1, r1, v, ev, q1⟩ => ⟨I1.kIn, ?_⟩) he hpl
  subst ev
  obtain ⟨u, rfl, ru⟩ : ∃ u, us = [u] ∧ RelV v u := by
    cases r1 with
    | cons h1 h2 =>
      cases h2
      exact ⟨_, rfl, h1⟩
  obtain ⟨hp, g, dr, tk, os⟩ := s1
  obtain ⟨nm, q, N, bs, sn, sub, ab, col, dd, k0, k1, k2, k3, k5, hC⟩ := T.cls
  exact wpAny_call (HandSPX.call_own F.excBase_ValueError (fun Y => HandSPX.refsVE_contains Y ms T.rv) (I1.kIn _ _ hC) (looks_findIn I1.kIn T.iC) (fun self => bind_fn I1.kIn self G.tI)
    (by show 1 ≤ sizeLine; rw [sizeLine_eq]; decide) (run_err (kw := []) T F1 hr hx (fun s X a u => by simpa using hb s X a u) I1 ru (by simp) (.inl rfl) q1))
/-- C(value=e) -/
theorem pe_errK {tk : TA} {kws : List Keyword} (T : EC X.K X.mg fI x C ms) (G : EG X.K fI) (F1 : FnOk X.prog X.w X.K X.mg X.base CX k fI fd ["self", "value"] (spInit X.K)) (hr : Room (k + 1) X.A) (hx : Passes CX X E0)
    (hb : ∀ s : Shared, X.K.In s.heap → ∀ a u, BindsTo s fd ⟨[.ref a], [(("value" : Str), u)]⟩ [(("self" : Str), .ref a), (("value" : Str), u)]) (hg : Gl X x) (hkw : PK X kws tk)
    (hall : (backToKw pos (keywordEach kws X.env)).all (·.1.isSome) = true := by rfl) (hks : (backToKw pos (keywordEach kws X.env)).filterMap (·.1) = [("value" : Str)] := by rfl) (hdb : (x == ("__debug__" : Str)) = false := by decide)
    (hpl : ((backTo pos (starEach [] X.env)).any (·.1) || (backToKw pos (keywordEach kws X.env)).any (·.1.isNone)) = false := by rfl) :
    PE X (.Call (.Name x p) [] kws pos) (tErr C tk) := by
  refine ⟨fun pins s σ H Q I h => wpAny_Call_Name_kw (ld_glob I hg T.gC ?_ hdb)⟩
  refine callWith_KW0 (h₀ := X.base) I.ok.mod.kin T.kC hall (thn (hkw.run pos pins s σ H _ I h) fun us s1 ⟨vs, H1, I1, r1, v, ev, q1⟩ => ⟨I1.kIn, ?_⟩) hpl
  subst ev
  obtain ⟨u, rfl, ru⟩ : ∃ u, us = [u] ∧ RelV v u := by
    cases r1 with
    | cons h1 h2 =>
      cases h2
      exact ⟨_, rfl, h1⟩
  rw [hks]
  obtain ⟨hp, g, dr, tk, os⟩ := s1
  obtain ⟨nm, q, N, bs, sn, sub, ab, col, dd, k0, k1, k2, k3, k5, hC⟩ := T.cls
  exact wpAny_call (kw_own F.excBase_ValueError (fun Y => HandSPX.refsVE_contains Y ms T.rv) (I1.kIn _ _ hC) (looks_findIn I1.kIn T.iC) (fun self => bind_fn I1.kIn self G.tI)
    (run_err (kw := [(("value" : Str), u)]) T F1 hr hx (fun s X a y => by simpa using hb s X a y) I1 ru (by simp) (.inr rfl) q1))
end
end Qb
end PySem
namespace PySem
namespace Qb
open PySem.W PySem.Calls PyProof.Rows L2
def top (i : Nat) : Stmt := PySem.Challenge.pw_quotedback_k00_errors_hold_their_value.main.body.getD i (.Pass ⟨0, 0, 0, 0⟩)
abbrev sState : Stmt := top 27
abbrev sDraw : Stmt := top 28
/-- names of the machine that the text's top leaves as they are -/
structure Blt (mg : Str → Option Value) : Prop where
  abs : mg "abs" = none
  int : mg "int" = none
  len : mg "len" = none
  str : mg "str" = none
  range : mg "range" = none
  isi : mg "isinstance" = none
  list : mg "list" = none
  repr : mg "repr" = none
  ve : mg "ValueError" = none
/-- the state of the draws: its list at S, the rests at R -/
structure StAt (H : Hp) (S R : Addr) (rs : List Int) (n : Nat) : Prop where
  at_ : H S = some (.lst [.ref R, .int n, .int 14, .int 34])
  rest : H R = some (.lst (rs.map V.int))
  full : rs ≠ []
  few : rs.length ≤ 64
  pos : ∀ r ∈ rs, 0 ≤ r
  soon : n ≤ 1000
  ne : S ≠ R
def spDraw : Sp := fun vs H Q _ => ∃ (S R : Addr) (rs : List Int) (n : Nat) (m : Int), vs = [.ref S, .int m] ∧ 0 < m ∧ m ≤ 10 ^ 30 ∧ n < 1000 ∧ StAt H S R rs n ∧
  ∀ (H' : Hp) (r : Int) (rs' : List Int), 0 ≤ r → r < m → StAt H' S R rs' (n + 1) → (∀ b, b ≠ S → b ≠ R → H' b = H b) → Q (.int r) H'
theorem scDraw : FnScope ["_law_state_here", "_law_many", "_law_at", "_law_worth_here", "_law_rests", "_law_one", "_law_two", "_law_three"] ["_law_state_here", "_law_many"] (defScope sDraw) :=
  ⟨rfl, rfl, rfl, by decide +kernel, rfl, by decide +kernel, by decide +kernel⟩
section
variable {P : Program} {w : World} {K : Frag} {mg : Str → Option Value} {base : Heap}
theorem sqH {H : Hp} {a : Addr} {xs : List V} (h : H a = some (.lst xs)) : SqL K H a xs := SqL.of h
theorem fmod_at {rs : List Int} {n : Nat} (hf : rs ≠ []) : ∃ j : Nat, j < rs.length ∧ ((n : Int).fmod (rs.length : Int)) = (j : Int) := by
  have h : 0 < rs.length := List.length_pos_iff.mpr hf
  refine ⟨n % rs.length, Nat.mod_lt _ h, ?_⟩
  rw [Int.fmod_eq_emod_of_nonneg _ (by omega)]
  simp
theorem fm0 {m : Int} (h : 0 < m) (a : Int) : 0 ≤ a.fmod m := by
  rw [Int.fmod_eq_emod_of_nonneg _ (by omega)]
  exact Int.emod_nonneg _ (by omega)
theorem fm1 {m : Int} (h : 0 < m) (a : Int) : a.fmod m < m := by
  rw [Int.fmod_eq_emod_of_nonneg _ (by omega)]
  exact Int.emod_lt_of_pos _ h
abbrev st1 (H : Hp) (S R : Addr) (n : Nat) : Hp := upd H S (.lst [V.ref R, V.int (n + 1), V.int 14, V.int 34])
theorem ixN_of {n j : Nat} (h : j < n) : ixN n (j : Int) = some j := by
  unfold ixN
  rw [if_pos (by omega), if_pos (by omega)]
  simp
theorem upd_off {H : Hp} {a b : Addr} {o : HO} (h : b ≠ a) : upd H a o b = H b := upd_ne h
theorem ok_draw {f : Addr} {fd : FuncData} (F : Fun K "_law_draw" "_law_draw" sDraw f fd) (B : Blt mg) : FnOk P w K mg base CX0 1 f fd ["_law_state_here", "_law_many"] spDraw := by
  refine F.ok scDraw (fun vs H Q E h => ?_) (fun cdv A outer s H vs Q E hr h => ?_)
  · obtain ⟨S, R, rs, n, m, rfl, _⟩ := h
    rfl
  · refine ⟨_, pss_cons (ps_set (i := 2) scDraw.nd rfl (.inl rfl) (pe_op op_modN (pe_callTy call_int1 (by rfl) B.int (by decide +kernel) (pa_cons (pe_ix ix_list (pv 0) pe_int (fun _ _ => rfl)) pa_nil))
          (pe_callB call_len (by rfl) B.len PySem.boot_len (pa_cons (pe_ix ix_list (pv 0) pe_int (fun _ _ => rfl)) pa_nil))))
      (pss_cons (ps_asg (pe_op op_add (pe_ix ix_list (pv 0) pe_int (fun _ _ => rfl)) pe_int) (pg_sub (pv 0) pe_int set_list))
      (pss_cons (ps_set (i := 3) scDraw.nd rfl (.inl rfl) (pe_ix ix_list (pe_ix ix_list (pv 0) pe_int (fun _ _ => rfl)) (pv 2) (fun _ _ => rfl)))
      (pss_cons (ps_if (pt_cmpR op_ge (pv 3) (pe_op op_pow pe_int pe_int) (nomark _))
          (pss_cons (ps_set (i := 4) scDraw.nd rfl (.inl rfl) (pe_ix ix_list (pv 0) pe_int (fun _ _ => rfl)))
          (pss_cons (ps_asg (pe_op op_fdivW (pv 3) (pv 1)) (pg_sub (pv 4) (pv 2) set_list))
          (pss_one (ps_ret (pe_op op_modN (pe_callTy call_int1 (by rfl) B.int (by decide +kernel) (pa_cons (pv 3) pa_nil)) (pv 1)))))) pss_nil)
      (pss_cons (ps_set (i := 5) scDraw.nd rfl (.inl rfl) (pe_op op_modN (pe_callTy call_int1 (by rfl) B.int (by decide +kernel)
          (pa_cons (pe_op op_add (pe_op op_add (pe_op op_mul (pv 3) pe_int) (pe_op op_mul (pe_ix ix_list (pv 0) pe_int (fun _ _ => rfl)) pe_int)) pe_int) pa_nil)) pe_int))
      (pss_cons (ps_set (i := 6) scDraw.nd rfl (.inl rfl) (pe_op op_modN (pe_callTy call_int1 (by rfl) B.int (by decide +kernel)
          (pa_cons (pe_op op_add (pe_op op_mul (pv 5) (pv 5)) (pe_op op_mul (pe_ix ix_list (pv 0) pe_int (fun _ _ => rfl)) pe_int)) pa_nil)) pe_int))
      (pss_cons (ps_set (i := 7) scDraw.nd rfl (.inl rfl) (pe_op op_modN (pe_callTy call_int1 (by rfl) B.int (by decide +kernel)
          (pa_cons (pe_op op_add (pe_op op_mul (pv 6) pe_int) (pv 5)) pa_nil)) pe_int))
      (pss_one (ps_ret (pe_op op_modN (pe_callTy call_int1 (by rfl) B.int (by decide +kernel) (pa_cons (pe_op op_fdiv (pv 7) pe_int) pa_nil)) (pv 1)))))))))), ?_⟩
    obtain ⟨S, R, rs, n, m, rfl, m0, m1, n0, T, k⟩ := h
    obtain ⟨hS, hR, hf, hl, hp, hn, hne⟩ := T
    obtain ⟨j, hj, ej⟩ : ∃ j : Nat, j < rs.length ∧ ((n : Int).fmod (rs.length : Int)) = (j : Int) := fmod_at hf
    have lm : (rs.map V.int).length = rs.length := List.length_map ..
    have ln0 : ((rs.length : Nat) : Int) ≠ 0 := by
      have : 0 < rs.length := List.length_pos_iff.mpr hf
      omega
    -- where the draw stands, and its number put on
    refine ⟨_, rfl, S, _, _, _, rfl, rfl, sqH hS, rfl, .inl ⟨_, rfl, _, rfl, S, _, _, _, rfl, rfl, sqH hS, rfl, _, rs.length, rfl, .inl ⟨_, sqH hR, lm.symm⟩, _, _, rfl, rfl, ln0, ?_⟩⟩
    refine ⟨_, rfl, S, _, _, _, rfl, rfl, sqH hS, rfl, _, _, rfl, rfl, _, rfl, S, _, _, _, rfl, rfl, hS, rfl, ?_⟩
    have hS1 : (st1 H S R n) S = some (.lst [V.ref R, V.int (n + 1), V.int 14, V.int 34]) := upd_same
    have hR1 : (st1 H S R n) R = some (.lst (rs.map V.int)) := by
      show upd _ _ _ R = _
      rw [upd_ne (Ne.symm hne)]
      exact hR
    have off1 : ∀ b, b ≠ S → b ≠ R → (st1 H S R n) b = H b := fun b h1 _ => upd_ne h1
    have hw : rs[j]? = some rs[j] := List.getElem?_eq_getElem hj
    have w0 : 0 ≤ rs[j] := hp _ (List.getElem_mem hj)
    generalize rs[j] = wv at hw w0
    have hwV : (rs.map V.int)[j]? = some (V.int wv) := by rw [List.getElem?_map, hw]; rfl
    have hat : atI (rs.map V.int) ((n : Int).fmod (rs.length : Int)) = some (V.int wv) := by
      rw [ej]
      exact atI_nat hwV
    have hix : ixN (rs.map V.int).length ((n : Int).fmod (rs.length : Int)) = some j := by
      rw [ej, lm]
      exact ixN_of hj
    have T1 : StAt (st1 H S R n) S R rs (n + 1) := ⟨hS1, hR1, hf, hl, hp, by omega, hne⟩
    refine ⟨_, rfl, S, _, _, _, rfl, rfl, sqH hS1, rfl, _, rfl, R, _, _, _, rfl, rfl, sqH hR1, hat, ?_⟩
    refine ⟨_, rfl, _, _, rfl, rfl, ⟨by decide, by decide, by decide⟩, _, _, rfl, rfl, _, rfl, ?_⟩
    refine ite2 (fun _ => ?_) (fun _ => ?_)
    · -- a great rest is divided
      refine ⟨_, rfl, S, _, _, _, rfl, rfl, sqH hS1, rfl, ?_⟩
      refine ⟨_, rfl, _, rfl, _, _, rfl, rfl, wide_div (b := 200) m0 (by omega) (by decide) (by decide), _, rfl, _, rfl, R, _, _, _, rfl, rfl, hR1, hix, ?_⟩
      refine ⟨_, rfl, .inl ⟨_, rfl, _, rfl, _, _, rfl, rfl, Int.ne_of_gt m0, ?_⟩⟩
      refine k _ _ (rs.set j (wv / m)) (fm0 m0 _) (fm1 m0 _) ⟨?_, ?_, ?_, ?_, ?_, by omega, hne⟩ (fun b h1 h2 => ?_)
      · rw [upd_ne hne]
        exact T1.at_
      · rw [List.map_set]
        exact upd_same
      · intro e
        have := congrArg List.length e
        rw [List.length_set] at this
        exact hf (List.length_eq_zero_iff.mp this)
      · rw [List.length_set]
        exact hl
      · intro r hr
        rcases List.mem_or_eq_of_mem_set hr with h | h
        · exact hp r h
        · rw [h]
          exact Int.ediv_nonneg w0 (by omega)
      · rw [upd_ne h2]
        exact off1 b h1 h2
    · -- otherwise it is mixed
      have one0 : 0 ≤ (wv * 48271 + ((n : Int) + 1) * 69621 + 17).fmod 2147483647 := fm0 (by decide) _
      have one1 : (wv * 48271 + ((n : Int) + 1) * 69621 + 17).fmod 2147483647 < 2147483647 := fm1 (by decide) _
      refine ⟨_, rfl, _, _, rfl, rfl, .inr ⟨by decide, by decide⟩, _, rfl, S, _, _, _, rfl, rfl, sqH hS1, rfl, _, _, rfl, rfl, .inr ⟨by decide, by decide⟩, _, _, rfl, rfl, _, _, rfl, rfl, .inl ⟨_, rfl, _, _, rfl, rfl, (by show (_ : Int) ≠ 0; decide), ?_⟩⟩
      refine ⟨_, rfl, _, rfl, _, _, rfl, rfl, .inl ⟨Int.lt_of_lt_of_le (by decide) one0, Int.lt_trans one1 (by decide)⟩, _, rfl, S, _, _, _, rfl, rfl, sqH hS1, rfl, _, _, rfl, rfl, .inr ⟨by decide, by decide⟩, _, _, rfl, rfl, .inl ⟨_, rfl, _, _, rfl, rfl, (by show (_ : Int) ≠ 0; decide), ?_⟩⟩
      refine ⟨_, rfl, _, _, rfl, rfl, .inr ⟨by decide, by decide⟩, _, rfl, _, _, rfl, rfl, .inl ⟨_, rfl, _, _, rfl, rfl, (by show (_ : Int) ≠ 0; decide), ?_⟩⟩
      refine ⟨_, rfl, _, _, rfl, rfl, ⟨by decide, by decide⟩, .inl ⟨_, rfl, _, rfl, _, _, rfl, rfl, Int.ne_of_gt m0, ?_⟩⟩
      exact k _ _ rs (fm0 m0 _) (fm1 m0 _) T1 off1
end
end Qb
end PySem
namespace PySem
namespace Qb
open PySem.W PySem.Calls PyProof.Rows L2
def cellOf (c : Int) : Int := 2 * (if c < 0 then -c else c) + (if decide (c < 0) = true then 1 else 0)
theorem cellOf_pos (c : Int) : 0 ≤ cellOf c := by
  unfold cellOf
  by_cases h : c < 0
  · rw [if_pos h, if_pos (decide_eq_true h)]
    omega
  · rw [if_neg h, if_neg (by simpa using h)]
    omega
def spState (K : Frag) : Sp := fun vs H Q _ => ∃ (a : Addr) (ns : List Int), vs = [.ref a] ∧ SqL K H a (ns.map V.int) ∧ ns.length ≤ 63 ∧
  ∀ (H' : Hp) (S R : Addr) (rs : List Int), StAt H' S R rs 0 → H S = none → H R = none → Same H H' → Q (.ref S) H'
theorem scState : FnScope ["_law_script", "_law_rests", "_law_cell"] ["_law_script"] (defScope sState) :=
  ⟨rfl, rfl, rfl, by decide +kernel, rfl, by decide +kernel, by decide +kernel⟩
theorem same_upd {H : Hp} {a : Addr} {o : HO} (h : H a = none) : Same H (upd H a o) := fun b u e => by
  rw [upd_ne (ne_of_none e h)]
  exact e
theorem same_upd2 {H H1 : Hp} {a : Addr} {o : HO} (s : Same H H1) (h : H a = none) : Same H (upd H1 a o) := fun b u e => by
  rw [upd_ne (ne_of_none e h)]
  exact s b u e
theorem take_snoc {α : Type} {l : List α} {i : Nat} {x : α} (h : l[i]? = some x) : l.take (i + 1) = l.take i ++ [x] := by
  rw [List.take_succ, h]
  rfl
theorem dpInts {K : Frag} {H : Hp} : ∀ ms : List Int, DpAll K H (ms.map V.int) (ms.map PyData.int)
  | [] => .nil
  | m :: ms => .cons (.int m) (dpInts ms)
section
variable {P : Program} {w : World} {K : Frag} {mg : Str → Option Value} {base : Heap}
theorem ok_state {f : Addr} {fd : FuncData} (F : Fun K "_law_state" "_law_state" sState f fd) (B : Blt mg) : FnOk P w K mg base CX0 1 f fd ["_law_script"] (spState K) := by
  refine F.ok scState (fun vs H Q E h => ?_) (fun cdv A outer s H vs Q E hr h => ?_)
  · obtain ⟨a, ns, rfl, _⟩ := h
    rfl
  · refine ⟨_, pss_cons (ps_setLc (i := 1) (own := [("_law_cell", 2)]) (g := gName 2) (tt := tYes) rfl scState.nd rfl rfl (sw_true rfl rfl rfl (by decide +kernel)) (pi_list (pv 0)) (blkOk_by (N := ["_law_script", "_law_rests", "_law_cell"]) (sc := defScope sState) (by decide +kernel))
        (fun _ _ _ _ _ => pg_name (i := 2) scState.nd rfl (Or.inl rfl)) (fun _ _ _ _ _ => pts_nil)
        (fun _ _ _ _ _ => pe_op op_add (pe_op op_mul pe_int (pe_callB call_abs (by rfl) B.abs (by decide +kernel) (pa_cons (pv 2) pa_nil)))
          (pe_callTy call_int1 (by rfl) B.int (by decide +kernel) (pa_cons (pe_cmpR op_lt (pv 2) pe_int (nomark _)) pa_nil))))
      (pss_cons (ps_if (pt_cmpR (op_eqD hr.units) (pv 1) (pe_lst pa_nil) (nomark _)) (pss_one (ps_set (i := 1) scState.nd rfl (.inl rfl) (pe_lst (pa_cons pe_int pa_nil)))) pss_nil)
      (pss_one (ps_ret (pe_lst (pa_cons (pv 1) (pa_cons pe_int (pa_cons pe_int (pa_cons pe_int pa_nil)))))))), ?_⟩
    obtain ⟨a, ns, rfl, hS, hl, k⟩ := h
    refine ⟨_, rfl, a, rfl, ⟨_, hS⟩, fun D hD => lc_list (K := K) (xs := ns.map V.int) (fun i H' => H' = upd H D (.lst (((ns.take i).map cellOf).map V.int))) (by simp) (fun i H' _ e => ?_) (fun i x H' hi e => ?_) (fun H' e => ?_)⟩
    · rw [e]
      exact (same_upd hD).seq hS
    · obtain ⟨c, hc, rfl⟩ : ∃ c, ns[i]? = some c ∧ x = V.int c := by
        rw [List.getElem?_map] at hi
        cases z : ns[i]? with
        | none => rw [z] at hi; cases hi
        | some c => rw [z] at hi; exact ⟨c, rfl, (Option.some.inj hi).symm⟩
      have hlen : ns.length ≤ 63 := hl
      subst e
      refine ⟨rfl, ?_⟩
      refine ⟨_, rfl, _, rfl, _, _, rfl, rfl, .inl ⟨by decide, by decide⟩, _, rfl, _, _, rfl, rfl, .inr ⟨_, rfl, _, _, rfl, rfl, ?_⟩⟩
      refine ⟨_, upd_same, ?_, ?_⟩
      · rw [List.length_map, List.length_map]
        have z : (ns.take i).length ≤ 63 := by
          rw [List.length_take]
          omega
        exact Nat.lt_of_le_of_lt z (by decide)
      · rw [upd_upd, take_snoc hc, List.map_append, List.map_append]
        rfl
    · subst e
      rw [List.length_map, List.take_length]
      generalize hms : ns.map cellOf = ms
      have mpos : ∀ r ∈ ms, 0 ≤ r := by
        rw [← hms]
        intro r hr
        obtain ⟨c, _, rfl⟩ := List.mem_map.mp hr
        exact cellOf_pos c
      have mlen : ms.length ≤ 63 := by
        rw [← hms, List.length_map]
        exact hl
      have sD : Same H (upd H D (.lst (ms.map V.int))) := same_upd hD
      refine ⟨_, rfl, (by decide : 0 ≤ sizeLine), fun p np => ?_⟩
      have hDp : D ≠ p := fun e => by
        rw [e, upd_same] at np
        cases np
      have np0 : H p = none := sD.free np
      refine ⟨.list (ms.map PyData.int), .list [], .lst (SqL.of (by rw [upd_ne hDp]; exact upd_same)) (dpInts ms), .lst (SqL.of upd_same) .nil, PySem.W.shaped_ints ms, by decide, _, rfl, ?_⟩
      have sp : Same H (upd (upd H D (.lst (ms.map V.int))) p (.lst [])) := same_upd2 sD np0
      cases ms with
      | nil =>
        refine ⟨(by decide : 1 ≤ sizeLine), fun R nR => ?_⟩
        refine ⟨_, rfl, (by decide : 4 ≤ sizeLine), fun S nS => ?_⟩
        have hRS : R ≠ S := fun e => by
          rw [e, upd_same] at nS
          cases nS
        have nR0 : H R = none := sp.free nR
        have sR := same_upd2 (o := .lst [V.int 0]) sp nR0
        have nS0 : H S = none := sR.free nS
        exact k _ S R [0] ⟨upd_same, by rw [upd_ne hRS]; exact upd_same, by simp, by simp, by simp, by decide, Ne.symm hRS⟩ nS0 nR0 (same_upd2 sR nS0)
      | cons m ms =>
        refine ⟨_, rfl, (by decide : 4 ≤ sizeLine), fun S nS => ?_⟩
        have hDS : D ≠ S := fun e => by
          rw [e.symm, upd_ne hDp, upd_same] at nS
          cases nS
        have nS0 : H S = none := sp.free nS
        exact k _ S D (m :: ms) ⟨upd_same, by rw [upd_ne hDS, upd_ne hDp]; exact upd_same, by simp, by omega, mpos, by decide, Ne.symm hDS⟩ nS0 hD (same_upd2 sp nS0)
end
end Qb
end PySem
namespace PySem
namespace Qb
open PySem.W PySem.Calls PyProof.Rows L2
/-- a value that can be read back and shown -/
def Wv (K : Frag) (H : Hp) (v : V) (d : PyData) : Prop :=
  (Dp K H v d ∧ SeqAt.shaped d = true ∧ d.showable = true ∧ d.hasDict = false ∧ d.shown.length ≤ sizeLine) ∨
    ∃ (a : Addr) (n : Int), v = .ref a ∧ H a = some (.dK [((Sum.inr ("a" : Str) : Key), V.int n)]) ∧ 0 ≤ n ∧ n < 10 ^ 30 ∧ d = .dict [(.str ("a" : Str), .int n)]
def rNeW (K : Frag) : R2 := fun x y H Q => x = y ∧ (∃ d, Wv K H x d) ∧ Q (.bl false) H
theorem small_log {n : Int} (h0 : 0 ≤ n) (h1 : n < 10 ^ 30) : n.natAbs.log2 < 1920 := by
  by_cases z : n.natAbs = 0
  · rw [z]
    decide
  · have y : n.natAbs < 10 ^ 30 := by omega
    exact (Nat.log2_lt z).mpr (Nat.lt_trans y (by decide +kernel))
theorem num_text {n : Int} (h0 : 0 ≤ n) (h1 : n < 10 ^ 30) : (Str.ofString (toString n)).length ≤ 30 := PyProof.Rows.toString_length_le h0 (by decide) h1
theorem dict_text {n : Int} (h0 : 0 ≤ n) (h1 : n < 10 ^ 30) : (PyData.dict [(.str ("a" : Str), .int n)]).shown.length ≤ sizeLine := by
  have e := num_text h0 h1
  have len : ∀ x : Str, (dictText [x]).length = 1 + x.length + 1 := fun x => by
    have z := join_length_add [x] (by simp)
    unfold dictText
    rw [strLen_append, strLen_append]
    have z2 : piled [x] = x.length + 2 := by simp [piled]
    have z3 : ("{" : Str).length = 1 := by decide +kernel
    have z4 : ("}" : Str).length = 1 := by decide +kernel
    omega
  show (dictText [reprText ("a" : Str) ++ ": " ++ Str.ofString (toString n)]).length ≤ sizeLine
  rw [len, strLen_append, strLen_append]
  have r : (reprText ("a" : Str)).length = 3 := by decide +kernel
  have c : (": " : Str).length = 2 := by decide +kernel
  rw [r, c, sizeLine_eq]
  omega
section
variable {X : Cx}
theorem op_neW (hu : X.A.units + 64 < cLine) : OpR X (compareOp .NotEq) (rNeW X.K) := by
  intro pins s σ H x y v u Q I rx ry h
  obtain ⟨rfl, ⟨d, hd⟩, q⟩ := h
  rcases hd with ⟨h1, h2, h3, h4, h5⟩ | ⟨a, n, rfl, ha, n0, n1, rfl⟩
  · obtain ⟨as, r1⟩ := Dp.reads I d x v h1 rx
    obtain ⟨bs, r2⟩ := Dp.reads I d x u h1 ry
    refine SeqAt.compareNe_shaped r1 r2 h2 h2 hu ?_
    rw [SeqAt.eqv_refl d (SeqAt.canLay_of_shaped h2)]
    exact ⟨.bl _, H, I, rfl, q⟩
  · obtain rfl : v = Value.ref a := rx
    obtain rfl : u = Value.ref a := ry
    obtain ⟨_, ya, va, ra, da⟩ := (show ObjOk X.prog X.w H s.heap a (.dK [((Sum.inr ("a" : Str) : Key), V.int n)]) from I.hok a _ ha)
    refine keq_ne (knd := mixKind X.prog X.w) (r := true) ya ya da da (by omega) (fun _ => ?_) ?_
    · cases ra with
      | @cons p q' ps qs hp t =>
        cases t
        obtain ⟨k', v'⟩ := q'
        obtain ⟨e1, e2⟩ := hp
        have e1' : (Sum.inr ("a" : Str) : Key) = k' := e1
        subst e1'
        have hv : valueAt [((Sum.inr ("a" : Str) : Key), v')] (Sum.inr ("a" : Str)) = some v' := by simp [valueAt]
        exact KeqHits.hit (e := true) (b := true) hv (eqAt_same e2 e2 rfl) .nil
    · simp only [beq_self_eq_true, Bool.and_self, Bool.not_true]
      exact ⟨.bl _, H, I, rfl, q⟩
/-- repr(v) -/
theorem call_reprW (hg : X.A.guards = some []) (hu : X.A.units + 100 < cLine) : CallR X (.builtin "repr") (fun xs H Q => ∃ v d, xs = [v] ∧ Wv X.K H v d ∧ Q (.str d.shown) H) := by
  intro pins s σ H xs us Q I r h
  obtain ⟨v, d, rfl, hd, q⟩ := h
  obtain ⟨u, rfl, ru⟩ := vals1 r
  have ends : ∀ (h' : Heap) (t : Tok) (tk : Nat), (∀ b o, s.heap.get? b = some o → h'.get? b = some o) → EP X pins σ Q (.str d.shown t) { s with heap := h', toks := tk } :=
    fun h' t tk k => ⟨.str d.shown, H, I.kept (t' := tk) k, ⟨t, rfl⟩, q⟩
  have at_ref : ∀ (a : Addr) (as : List Addr), u = .ref a → Reads s.heap u d as → d.showable = true → (d.hasDict = true → sysModules ∉ as) → d.depth ≤ 64 → d.shown.length ≤ sizeLine →
      wpAny (model X.prog X.w) X.A (call (.builtin "repr") [u]) (EP X pins σ Q) X.xe s := by
    intro a as e r1 h3 h4 h6 h5
    subst e
    exact repr_of_reads' r1 h3 h4 hg (by omega) (fun _ _ z => z) ends h5
  rcases hd with ⟨h1, h2, h3, h4, h5⟩ | ⟨a, n, rfl, ha, n0, n1, rfl⟩
  · obtain ⟨as, r1⟩ := Dp.reads I d v u h1 ru
    have h6 := SeqAt.depth_of_shaped h2
    have far : d.hasDict = true → sysModules ∉ as := fun z => by
      rw [h4] at z
      cases z
    cases h1 with
    | non =>
      obtain rfl : u = Value.none := ru
      exact P.repr_of_none (ends s.heap _ _ fun _ _ z => z)
    | bl b =>
      obtain rfl : u = Value.bool b := ru
      exact P.repr_of_bool (ends s.heap _ _ fun _ _ z => z)
    | int i =>
      obtain ⟨t, rfl⟩ := ru
      exact P.repr_of_int (by simpa [PyData.showable] using h3) (ends s.heap _ _ fun _ _ z => z)
    | str x =>
      obtain ⟨t, rfl⟩ := ru
      exact P.repr_of_str (ends s.heap _ _ fun _ _ z => z) h5
    | lst ha hxs => exact at_ref _ as ru r1 h3 far h6 h5
    | tup ha hxs => exact at_ref _ as ru r1 h3 far h6 h5
  · obtain rfl : u = Value.ref a := ru
    obtain ⟨_, ya, va, ra, da⟩ := (show ObjOk X.prog X.w H s.heap a (.dK [((Sum.inr ("a" : Str) : Key), V.int n)]) from I.hok a _ ha)
    obtain ⟨o, es, ep, h1, h2, h3, h4, h5, h6⟩ := da
    obtain ⟨v1, rfl, rv⟩ : ∃ v1, va = [((Sum.inr ("a" : Str) : Key), v1)] ∧ RelV (.int n) v1 := by
      cases ra with
      | @cons p q' ps qs hp t =>
        cases t
        obtain ⟨k', v'⟩ := q'
        obtain ⟨e1, e2⟩ := hp
        have e1' : (Sum.inr ("a" : Str) : Key) = k' := e1
        subst e1'
        exact ⟨_, rfl, e2⟩
    obtain ⟨t1, rfl⟩ := rv
    obtain ⟨e, he, hk, hv⟩ : ∃ e : DictEntry, es.toList = [e] ∧ keyIs (Sum.inr ("a" : Str)) e.key = true ∧ e.val = Value.int n t1 := by
      generalize es.toList = l at h5
      cases h5 with
      | cons a1 a2 a3 =>
        cases a3
        exact ⟨_, rfl, a1, a2⟩
    obtain ⟨t2, ek⟩ : ∃ t2, e.key = Value.str ("a" : Str) t2 := by
      rcases keyIs_shape hk with ⟨i, t, z, _⟩ | ⟨x, t, z, e2⟩
      · cases z
      · cases z
        exact ⟨t, e2⟩
    have r1 : Reads s.heap (.ref a) (.dict [(.str ("a" : Str), .int n)]) (a :: ([] ++ []) ++ ([] ++ [])) := by
      refine Reads.dict h1 h2.1 h3 ?_ ?_
      · rw [he]
        show ReadsAll s.heap [e.key] [.str ("a" : Str)] _
        rw [ek]
        exact .cons (.str _ _) .nil
      · rw [he]
        show ReadsAll s.heap [e.val] [.int n] _
        rw [hv]
        exact .cons (.int _ _) .nil
    have small : n.natAbs.log2 < 1920 := small_log n0 n1
    refine at_ref a _ rfl r1 ?_ (fun _ hm => ?_) (by show 1 ≤ 64; decide) ?_
    · simp [PyData.showable, PyData.showableKv, small]
    · simp at hm
      rw [hm] at ya
      simp at ya
    · exact dict_text n0 n1
end
end Qb
end PySem
namespace PySem
namespace Qb
open PySem.W PySem.Calls PyProof.Rows L2
abbrev sWorth : Stmt := top 32
/-- what was new in H', seen from H, stands in H2 -/
def New (H H' H2 : Hp) : Prop := ∀ b o, H b = none → H' b = some o → H2 b = some o
/-- the drawn value: no list, and readable as long as its own objects stand; or a list of numbers of its own -/
def WPost (K : Frag) (H H' : Hp) (v : V) : Prop :=
  (∃ d t, (∀ H2, New H H' H2 → Wv K H2 v d) ∧ (∀ H2, New H H' H2 → TyOf K H2 v t) ∧ kitOne K t (.type "list") = some false) ∨
    ∃ (l : Addr) (ms : List Int), v = .ref l ∧ H l = none ∧ H' l = some (.lst (ms.map V.int)) ∧ ms.length ≤ 64 ∧ ∀ m ∈ ms, 0 ≤ m ∧ m < 10 ^ 30
/-- all but the state's two lists stands -/
def But (S R : Addr) (H H' : Hp) : Prop := ∀ b o, b ≠ S → b ≠ R → H b = some o → H' b = some o
def Scr (K : Frag) (H : Hp) (S R a : Addr) (ns : List Int) : Prop := ∀ H2, But S R H H2 → SqL K H2 a (ns.map V.int)
def spWorth (K : Frag) : Sp := fun vs H Q _ => ∃ (S R a : Addr) (rs ns : List Int) (n : Nat), vs = [.ref S, .ref a] ∧ StAt H S R rs n ∧ n < 900 ∧ Scr K H S R a ns ∧ ns.length ≤ 63 ∧
  ∀ (H' : Hp) (rs' : List Int) (v : V), StAt H' S R rs' (n + 2) → But S R H H' → WPost K H H' v → Q v H'
theorem scWorth : FnScope ["_law_state_here", "_law_script", "_law_pick", "_law_number", "_law_cell"] ["_law_state_here", "_law_script"] (defScope sWorth) :=
  ⟨rfl, rfl, rfl, by decide +kernel, rfl, by decide +kernel, by decide +kernel⟩
theorem ne_of_none_ne {H : Hp} {a b : Addr} {o : HO} (h : H a = some o) (h' : H b = none) : b ≠ a := fun e => by
  rw [e, h] at h'
  cases h'
theorem But.of_off {S R : Addr} {H H' : Hp} (h : ∀ b, b ≠ S → b ≠ R → H' b = H b) : But S R H H' := fun b o h1 h2 e => by
  rw [h b h1 h2]
  exact e
theorem But.trans {S R : Addr} {H H1 H2 : Hp} (a : But S R H H1) (b : But S R H1 H2) : But S R H H2 := fun c o h1 h2 e => b c o h1 h2 (a c o h1 h2 e)
theorem But.upd {S R p : Addr} {H H1 : Hp} {o : HO} (a : But S R H H1) (n : H p = none) : But S R H (L2.upd H1 p o) := fun c u h1 h2 e => by
  rw [upd_ne (ne_of_none e n)]
  exact a c u h1 h2 e
theorem StAt.upd {S R p : Addr} {H : Hp} {rs : List Int} {n : Nat} {o : HO} (T : StAt H S R rs n) (h : H p = none) : StAt (L2.upd H p o) S R rs n :=
  ⟨by rw [upd_ne (ne_of_none T.at_ h)]; exact T.at_, by rw [upd_ne (ne_of_none T.rest h)]; exact T.rest, T.full, T.few, T.pos, T.soon, T.ne⟩
section
variable {P : Program} {w : World} {K : Frag} {mg : Str → Option Value} {base : Heap}
theorem dp_ok {d : PyData} (h2 : SeqAt.shaped d = true) (h3 : d.showable = true) (h4 : d.hasDict = false) (h5 : d.shown.length ≤ sizeLine) {H : Hp} {v : V} (h1 : Dp K H v d) : Wv K H v d := .inl ⟨h1, h2, h3, h4, h5⟩
theorem wv_int {n : Int} (h0 : -(10 ^ 30) < n) (h1 : n < 10 ^ 30) (H : Hp) : Wv K H (.int n) (.int n) := by
  refine dp_ok rfl ?_ rfl ?_ (.int n)
  · show decide (n.natAbs.log2 < 1920) = true
    refine decide_eq_true ?_
    by_cases z : n.natAbs = 0
    · rw [z]
      decide
    · have y : n.natAbs < 10 ^ 30 := by omega
      exact (Nat.log2_lt z).mpr (Nat.lt_trans y (by decide +kernel))
  · show (Str.ofString (toString n)).length ≤ sizeLine
    have y : n.natAbs < 10 ^ 30 := by omega
    have e := int_text_length_le10 (k := 30) (by decide) y
    rw [ofString_length, sizeLine_eq]
    omega
theorem tup_shaped (n : Int) : SeqAt.shaped (.tuple [.int n, .list [.str ("a" : Str)]]) = true := by
  have h : PyData.strOk ("a" : Str) = true := by decide +kernel
  simp [SeqAt.shaped, PyData.canLay0, PyData.canLayAll0, h, PyData.depth, PyData.depthAll]
theorem strOk_of (s : String) : PyData.strOk (Str.ofString s) = true := by
  rw [Str.ofString_eq_toList]
  unfold PyData.strOk
  rw [Array.all_eq_true]
  intro i hi
  have hi' : i < (s.toList.map Char.toNat).length := by simpa using hi
  have q : ((s.toList.map Char.toNat).toArray[i]) ∈ s.toList.map Char.toNat := by
    rw [List.getElem_toArray]
    exact List.getElem_mem hi'
  obtain ⟨c, _, e⟩ := List.mem_map.mp q
  show decide (_ < 0x110000) = true
  refine decide_eq_true ?_
  have v := c.valid
  have lt : c.toNat < 0x110000 := by
    rcases v with v | ⟨_, v⟩
    · exact Nat.lt_trans v (by decide)
    · exact v
  simp only [← e]
  exact lt
theorem strOk_x (n : Int) : PyData.strOk (("x" : Str) ++ Str.ofString (toString n)) = true := by
  have h1 := strOk_of "x"
  have h2 := strOk_of (toString n)
  show (((Str.ofString "x").cps ++ (Str.ofString (toString n)).cps).all fun c => decide (c < 0x110000)) = true
  rw [Array.all_append]
  exact Bool.and_eq_true_iff.mpr ⟨h1, h2⟩
theorem tup_text {n : Int} (h0 : 0 ≤ n) (h1 : n < 10 ^ 30) : (PyData.tuple [.int n, .list [.str ("a" : Str)]]).shown.length ≤ sizeLine := by
  have e := num_text h0 h1
  have z1 : ("(" : Str).length = 1 := by decide +kernel
  have z2 : (")" : Str).length = 1 := by decide +kernel
  have z3 : (listText [reprText ("a" : Str)]).length = 5 := by decide +kernel
  show (("(" : Str) ++ Str.join ", " [Str.ofString (toString n), listText [reprText ("a" : Str)]] ++ ")").length ≤ sizeLine
  have z := join_length_add [Str.ofString (toString n), listText [reprText ("a" : Str)]] (by simp)
  have y : piled [Str.ofString (toString n), listText [reprText ("a" : Str)]] = (Str.ofString (toString n)).length + 2 + ((listText [reprText ("a" : Str)]).length + 2) := by simp [piled]
  rw [strLen_append, strLen_append, sizeLine_eq]
  omega
theorem ok_worth {f fD : Addr} {fd fdD : FuncData} (F : Fun K "_law_worth" "_law_worth" sWorth f fd) (B : Blt mg) (FD : Fun K "_law_draw" "_law_draw" sDraw fD fdD) (gD : mg "_law_draw" = some (.ref fD)) (bD : Binds K fdD ["_law_state_here", "_law_many"] []) :
    FnOk P w K mg base CX0 2 f fd ["_law_state_here", "_law_script"] (spWorth K) := by
  have GD : FnOk P w K mg base CX0 1 fD fdD ["_law_state_here", "_law_many"] spDraw := ok_draw FD B
  refine F.ok scWorth (fun vs H Q E h => ?_) (fun cdv A outer s H vs Q E hr h => ?_)
  · obtain ⟨S, R, a, rs, ns, n, rfl, _⟩ := h
    rfl
  · refine ⟨_, pss_cons (ps_set (i := 2) scWorth.nd rfl (.inl rfl) (pe_call GD hr rfl gD FD.kp bD .nil pass0 (pa_cons (pv 0) (pa_cons pe_int pa_nil))))
      (pss_cons (ps_set (i := 3) scWorth.nd rfl (.inl rfl) (pe_call GD hr rfl gD FD.kp bD .nil pass0 (pa_cons (pv 0) (pa_cons (pe_op op_pow pe_int pe_int) pa_nil))))
      (pss_cons (ps_if (pt_cmpR op_eq (pv 2) pe_int (nomark _)) (pss_one (ps_ret (pv 3))) pss_nil)
      (pss_cons (ps_if (pt_cmpR op_eq (pv 2) pe_int (nomark _)) (pss_one (ps_ret (pe_un un_neg (pv 3)))) pss_nil)
      (pss_cons (ps_if (pt_cmpR op_eq (pv 2) pe_int (nomark _)) (pss_one (ps_ret (pe_ix ix_list (pe_lst (pa_cons pe_bl (pa_cons pe_bl (pa_cons pe_non pa_nil))))
          (pe_op op_modN (pe_callTy call_int1 (by rfl) B.int (by decide +kernel) (pa_cons (pv 3) pa_nil)) pe_int) (fun _ _ => rfl)))) pss_nil)
      (pss_cons (ps_if (pt_cmpR op_eq (pv 2) pe_int (nomark _)) (pss_one (ps_ret (pe_op op_add_str pe_str (pe_callTy call_str_int (by rfl) B.str (by decide +kernel) (pa_cons (pv 3) pa_nil))))) pss_nil)
      (pss_cons (ps_if (pt_cmpR op_eq (pv 2) pe_int (nomark _)) (pss_one (ps_ret (pe_tup (pa_cons (pv 3) (pa_cons (pe_lst (pa_cons pe_str pa_nil)) pa_nil))))) pss_nil)
      (pss_cons (ps_if (pt_cmpR op_eq (pv 2) pe_int (nomark _)) (pss_one (ps_ret (pe_disp (pps_cons pe_str (pv 3) pps_nil) rfl rfl (by simp) (by decide)))) pss_nil)
      (pss_one (ps_ret (pe_op op_cat (pe_lc (own := [("_law_cell", 4)]) (g := gName 4) (tt := tYes) rfl scWorth.nd (pi_list (pv 1)) (blkOk_by (N := ["_law_state_here", "_law_script", "_law_pick", "_law_number", "_law_cell"]) (sc := defScope sWorth) (by decide +kernel))
          (fun _ _ _ _ _ => pg_name (i := 4) scWorth.nd rfl (Or.inl rfl)) (fun _ _ _ _ _ => pts_nil)
          (fun _ _ _ _ _ => pe_op op_modN (pe_callTy call_int1 (by rfl) B.int (by decide +kernel) (pa_cons (pv 4) pa_nil)) (pe_op op_pow pe_int pe_int)))
        (pe_lst (pa_cons (pv 3) pa_nil)))))))))))), ?_⟩
    obtain ⟨S, R, a, rs, ns, n, rfl, T, hn, hsc, hl, k⟩ := h
    refine ⟨_, rfl, S, R, rs, n, 8, rfl, by decide, by decide, by omega, T, fun H1 pick rs1 p0 p1 T1 off1 => ?_⟩
    refine ⟨_, rfl, _, _, rfl, rfl, ⟨by decide, by decide, by decide⟩, S, R, rs1, n + 1, _, rfl, by decide, by decide, by omega, T1, fun H2 num rs2 n0 n1 T2 off2 => ?_⟩
    have n1' : num < 10 ^ 30 := n1
    have b2 : But S R H H2 := (But.of_off off1).trans (But.of_off off2)
    have fresh : ∀ {q : Addr}, H2 q = none → H q = none := fun {q} z => by
      have h1 : q ≠ S := ne_of_none_ne T2.at_ z
      have h2 : q ≠ R := ne_of_none_ne T2.rest z
      rw [← off1 q h1 h2, ← off2 q h1 h2]
      exact z
    refine ⟨_, rfl, rfl, _, rfl, ?_⟩
    refine ite2 (fun _ => ?_) (fun _ => ?_)
    · refine ⟨_, rfl, ?_⟩
      exact k H2 rs2 _ T2 b2 (.inl ⟨_, _, fun _ _ => wv_int (by omega) n1' _, fun _ _ => .int _, kit_ty (by decide +kernel)⟩)
    refine ⟨_, rfl, rfl, _, rfl, ite2 (fun _ => ?_) (fun _ => ?_)⟩
    · refine ⟨_, rfl, _, rfl, ?_⟩
      exact k H2 rs2 _ T2 b2 (.inl ⟨_, _, fun _ _ => wv_int (n := -num) (by omega) (by omega) _, fun _ _ => .int _, kit_ty (by decide +kernel)⟩)
    refine ⟨_, rfl, rfl, _, rfl, ite2 (fun _ => ?_) (fun _ => ?_)⟩
    · refine ⟨(by decide : 3 ≤ sizeLine), fun L nL => ⟨_, rfl, .inl ⟨_, rfl, _, _, rfl, rfl, (by show (3 : Int) ≠ 0; decide), ?_⟩⟩⟩
      have r3 : num.fmod 3 = 0 ∨ num.fmod 3 = 1 ∨ num.fmod 3 = 2 := by
        have h0 := fm0 (m := 3) (by decide) num
        have h1 := fm1 (m := 3) (by decide) num
        omega
      have go : ∀ v : V, ((∃ b, v = .bl b) ∨ v = .non) → Q v (L2.upd H2 L (.lst [V.bl true, V.bl false, V.non])) := fun v hv =>
        k _ rs2 v (T2.upd nL) (b2.upd (fresh nL)) (by
          rcases hv with ⟨b, rfl⟩ | rfl
          · exact .inl ⟨_, _, fun _ _ => dp_ok (d := .bool b) rfl rfl rfl (by cases b <;> decide +kernel) (.bl b), fun _ _ => .bl _, kit_ty (by decide +kernel)⟩
          · exact .inl ⟨_, _, fun _ _ => dp_ok (d := .none) rfl rfl rfl (by decide +kernel) .non, fun _ _ => .non, kit_ty (by decide +kernel)⟩)
      have hL : (L2.upd H2 L (.lst [V.bl true, V.bl false, V.non])) L = some (.lst [V.bl true, V.bl false, V.non]) := upd_same
      rcases r3 with z | z | z
      · exact ⟨L, _, _, _, rfl, rfl, sqH hL, (by rw [z]; rfl), go _ (.inl ⟨_, rfl⟩)⟩
      · exact ⟨L, _, _, _, rfl, rfl, sqH hL, (by rw [z]; rfl), go _ (.inl ⟨_, rfl⟩)⟩
      · exact ⟨L, _, _, _, rfl, rfl, sqH hL, (by rw [z]; rfl), go _ (.inr rfl)⟩
    refine ⟨_, rfl, rfl, _, rfl, ite2 (fun _ => ?_) (fun _ => ?_)⟩
    · have len := num_text n0 n1'
      refine ⟨_, rfl, _, rfl, small_log n0 n1', _, _, rfl, rfl, ?_, ?_⟩
      · rw [sizeLine_eq]
        have : ("x" : Str).length = 1 := by decide +kernel
        omega
      · have ok := strOk_x num
        have lx : (("x" : Str) ++ Str.ofString (toString num)).length ≤ 31 := by
          rw [strLen_append]
          have : ("x" : Str).length = 1 := by decide +kernel
          omega
        refine k H2 rs2 _ T2 b2 (.inl ⟨_, _, fun _ _ => dp_ok (d := .str (("x" : Str) ++ Str.ofString (toString num))) ?_ rfl rfl ?_ (.str _), fun _ _ => .str _, kit_ty (by decide +kernel)⟩)
        · show (PyData.strOk _ && decide (0 ≤ 64)) = true
          rw [ok]
          rfl
        · show (reprText _).length ≤ sizeLine
          have z := StrLaws.reprText_len (("x" : Str) ++ Str.ofString (toString num)) (fun c hc => by
            have y : ∀ i : Nat, ∀ h : i < (("x" : Str) ++ Str.ofString (toString num)).cps.size, (("x" : Str) ++ Str.ofString (toString num)).cps[i] < 0x110000 := by
              simpa [PyData.strOk, Array.all_eq_true] using ok
            obtain ⟨i, hi, e⟩ := List.mem_iff_getElem.mp hc
            have q := y i (by simpa using hi)
            rw [← e]
            exact Nat.lt_trans (by simpa using q) (by decide))
          rw [sizeLine_eq]
          omega
    refine ⟨_, rfl, rfl, _, rfl, ite2 (fun _ => ?_) (fun _ => ?_)⟩
    · refine ⟨_, rfl, (by decide : 1 ≤ sizeLine), fun l nl => ⟨(by decide : 2 ≤ sizeLine), fun t nt => ?_⟩⟩
      have nt2 : H2 t = none := by
        rw [upd_ne (ne_of_none_ne upd_same nt)] at nt
        exact nt
      have hl1 : (L2.upd (L2.upd H2 l (.lst [V.str "a"])) t (.tup [V.int num, V.ref l])) l = some (.lst [V.str "a"]) := by
        rw [upd_ne (Ne.symm (ne_of_none_ne upd_same nt))]
        exact upd_same
      have rd : ∀ H3, New H (L2.upd (L2.upd H2 l (.lst [V.str "a"])) t (.tup [V.int num, V.ref l])) H3 → H3 t = some (.tup [V.int num, V.ref l]) ∧ H3 l = some (.lst [V.str "a"]) :=
        fun H3 hn => ⟨hn t _ (fresh nt2) upd_same, hn l _ (fresh nl) hl1⟩
      refine k _ rs2 _ ((T2.upd nl).upd nt) ((b2.upd (fresh nl)).upd (fresh nt2)) (.inl ⟨_, _, fun H3 hn => dp_ok (d := .tuple [.int num, .list [.str ("a" : Str)]]) (tup_shaped num) ?_ rfl ?_
        (.tup (SqT.of (rd H3 hn).1) (.cons (.int _) (.cons (.lst (SqL.of (rd H3 hn).2) (.cons (.str _) .nil)) .nil))), fun H3 hn => .tup (rd H3 hn).1, kit_ty (by decide +kernel)⟩)
      · show (decide (num.natAbs.log2 < 1920) && true) = true
        rw [decide_eq_true (small_log n0 n1')]
        rfl
      · exact tup_text n0 n1'
    refine ⟨_, rfl, rfl, _, rfl, ite2 (fun _ => ?_) (fun _ => ?_)⟩
    · refine fun p np => ⟨_, rfl, upd_same, [((Sum.inr ("a" : Str) : Key), V.int num)], rfl, by simp, ?_⟩
      have hp : (L2.upd (L2.upd H2 p (.dK [])) p (.dK [((Sum.inr ("a" : Str) : Key), V.int num)])) p = some (.dK [((Sum.inr ("a" : Str) : Key), V.int num)]) := upd_same
      have e : (L2.upd (L2.upd H2 p (.dK [])) p (.dK (mergeK [] [((Sum.inr ("a" : Str) : Key), V.int num)]))) = (L2.upd (L2.upd H2 p (.dK [])) p (.dK [((Sum.inr ("a" : Str) : Key), V.int num)])) := rfl
      rw [e, upd_upd]
      rw [upd_upd] at hp
      refine k _ rs2 _ (T2.upd np) (b2.upd (fresh np)) (.inl ⟨_, _, fun H3 hn => .inr ⟨p, num, rfl, hn p _ (fresh np) hp, n0, n1', rfl⟩, fun H3 hn => .dK (hn p _ (fresh np) hp), kit_ty (by decide +kernel)⟩)
    -- the list
    refine ⟨_, rfl, a, rfl, ⟨_, hsc H2 b2⟩, fun D hD => lc_list (K := K) (xs := ns.map V.int) (fun i H' => H' = L2.upd H2 D (.lst (((ns.take i).map (fun c => Int.fmod c (10 ^ 30))).map V.int))) (by simp) (fun i H' _ e => ?_) (fun i x H' hi e => ?_) (fun H' e => ?_)⟩
    · rw [e]
      exact hsc _ (b2.upd (fresh hD))
    · obtain ⟨c, hc, rfl⟩ : ∃ c, ns[i]? = some c ∧ x = V.int c := by
        rw [List.getElem?_map] at hi
        cases z : ns[i]? with
        | none => rw [z] at hi; cases hi
        | some c => rw [z] at hi; exact ⟨c, rfl, (Option.some.inj hi).symm⟩
      subst e
      refine ⟨rfl, _, rfl, .inl ⟨_, rfl, _, _, rfl, rfl, ⟨by decide, by decide, by decide⟩, _, _, rfl, rfl, (by show (10 : Int) ^ 30 ≠ 0; decide), ?_⟩⟩
      refine ⟨_, upd_same, ?_, ?_⟩
      · rw [List.length_map, List.length_map]
        have z : (ns.take i).length ≤ 63 := by
          rw [List.length_take]
          omega
        exact Nat.lt_of_le_of_lt z (by decide)
      · rw [upd_upd, take_snoc hc, List.map_append, List.map_append]
        rfl
    · subst e
      rw [List.length_map, List.take_length]
      generalize hms : ns.map (fun c => Int.fmod c (10 ^ 30)) = ms
      have mlen : ms.length ≤ 63 := by
        rw [← hms, List.length_map]
        exact hl
      have mbd : ∀ m ∈ ms, 0 ≤ m ∧ m < 10 ^ 30 := by
        rw [← hms]
        intro m hm
        obtain ⟨c, _, rfl⟩ := List.mem_map.mp hm
        exact ⟨fm0 (by decide) c, fm1 (by decide) c⟩
      refine ⟨_, rfl, (by decide : 1 ≤ sizeLine), fun E' nE => ?_⟩
      have hDE : D ≠ E' := Ne.symm (ne_of_none_ne upd_same nE)
      have nE2 : H2 E' = none := by
        rw [upd_ne (Ne.symm hDE)] at nE
        exact nE
      refine ⟨D, E', _, _, rfl, rfl, (by rw [upd_ne hDE]; exact upd_same), upd_same, ?_, fun p np => ?_⟩
      · rw [List.length_map, sizeLine_eq]
        show ms.length + 1 ≤ _
        omega
      have npE : p ≠ E' := ne_of_none_ne upd_same np
      have npD : p ≠ D := fun z => by
        rw [z, upd_ne hDE, upd_same] at np
        cases np
      have np2 : H2 p = none := by
        rw [upd_ne npE, upd_ne npD] at np
        exact np
      refine k _ rs2 _ (((T2.upd hD).upd nE).upd np) (((b2.upd (fresh hD)).upd (fresh nE2)).upd (fresh np2)) (.inr ⟨p, ms ++ [num], rfl, fresh np2, ?_, ?_, ?_⟩)
      · rw [List.map_append]
        exact upd_same
      · rw [List.length_append]
        show ms.length + 1 ≤ 64
        omega
      · intro m hm
        rcases List.mem_append.mp hm with z | z
        · exact mbd m z
        · obtain rfl : m = num := List.mem_singleton.mp z
          exact ⟨n0, n1'⟩
end
end Qb
end PySem
namespace PySem
namespace Qb
open PySem.W PySem.Calls PyProof.Rows L2
abbrev sInit : Stmt := inClass (top 1) 0
abbrev sMade : Stmt := top 29
abbrev sNamed : Stmt := top 30
abbrev sKinds : Stmt := top 31
/-- behind each of the 24 in the order of lookup -/
abbrev tl24 (Sh : Addr) : List Value := .ref Sh :: HandSPX.veTail
structure AllE (K : Frag) (mg : Str → Option Value) (fI C0 C1 C2 C3 C4 C5 C6 C7 C8 C9 C10 C11 C12 C13 C14 C15 C16 C17 C18 C19 C20 C21 C22 C23 Sh : Addr) : Prop where
  e0 : EC K mg fI "InvalidTree" C0 (tl24 Sh)
  e1 : EC K mg fI "InvalidName" C1 (tl24 Sh)
  e2 : EC K mg fI "InvalidNumber" C2 (tl24 Sh)
  e3 : EC K mg fI "InvalidRoom" C3 (tl24 Sh)
  e4 : EC K mg fI "InvalidPattern" C4 (tl24 Sh)
  e5 : EC K mg fI "Unreadable" C5 (tl24 Sh)
  e6 : EC K mg fI "Refused" C6 (tl24 Sh)
  e7 : EC K mg fI "NoInteger" C7 (tl24 Sh)
  e8 : EC K mg fI "DividedByZero" C8 (tl24 Sh)
  e9 : EC K mg fI "TooGreat" C9 (tl24 Sh)
  e10 : EC K mg fI "Wanted" C10 (tl24 Sh)
  e11 : EC K mg fI "InvalidWorld" C11 (tl24 Sh)
  e12 : EC K mg fI "InvalidPath" C12 (tl24 Sh)
  e13 : EC K mg fI "UnknownTool" C13 (tl24 Sh)
  e14 : EC K mg fI "InvalidFilters" C14 (tl24 Sh)
  e15 : EC K mg fI "InvalidNet" C15 (tl24 Sh)
  e16 : EC K mg fI "InvalidMove" C16 (tl24 Sh)
  e17 : EC K mg fI "InvalidOrder" C17 (tl24 Sh)
  e18 : EC K mg fI "TooLong" C18 (tl24 Sh)
  e19 : EC K mg fI "Done" C19 (tl24 Sh)
  e20 : EC K mg fI "NoLine" C20 (tl24 Sh)
  e21 : EC K mg fI "NothingToUndo" C21 (tl24 Sh)
  e22 : EC K mg fI "DoubleName" C22 (tl24 Sh)
  e23 : EC K mg fI "UnknownName" C23 (tl24 Sh)
  eS : EC K mg fI "ShellError" Sh HandSPX.veTail
  nd : [C0, C1, C2, C3, C4, C5, C6, C7, C8, C9, C10, C11, C12, C13, C14, C15, C16, C17, C18, C19, C20, C21, C22, C23, Sh].Nodup
def tErrs : List Addr → TA
  | [] => tNil
  | C :: r => tCons (tErr C (tCons (tVar 0) tNil)) (tErrs r)
abbrev Errs (H : Hp) (es Cs : List Addr) (v : V) : Prop := Paired (fun e C => ErrAt H e C v) es Cs
theorem Errs.same {H H' : Hp} {es Cs : List Addr} {v : V} (h : Errs H es Cs v) (s : Same H H') : Errs H' es Cs v := Paired.mapP h fun _ _ z => z.same s
theorem Errs.app {H : Hp} {v : V} : ∀ {es Cs es' Cs' : List Addr}, Errs H es Cs v → Errs H es' Cs' v → Errs H (es ++ es') (Cs ++ Cs') v
  | _, _, _, _, .nil, q => q
  | _, _, _, _, .cons h t, q => .cons h (Errs.app t q)
theorem errs_read {σ : L2.St} {v : V} (hv : σ[0]? = some (some v)) : ∀ (Cs : List Addr) (H : Hp) (Q : List V → Hp → Prop), (∀ H' es, Same H H' → Errs H' es Cs v → Q (es.map V.ref) H') → tErrs Cs σ H Q
  | [], H, Q, k => k H [] (Same.refl H) .nil
  | C :: r, H, Q, k => ⟨v, hv, v, rfl, fun a d na nd ne => by
    have s1 : Same H (L2.upd (L2.upd H d (exd d [(("value" : Str), v)])) a (exo a C (some d))) := same_upd2 (same_upd nd) na
    have e1 : ErrAt (L2.upd (L2.upd H d (exd d [(("value" : Str), v)])) a (exo a C (some d))) a C v := ⟨d, ne, upd_same, by rw [upd_ne ne]; exact upd_same⟩
    exact errs_read hv r _ _ fun H' es s2 p2 => k H' (a :: es) (s1.trans s2) (.cons (e1.same s2) p2)⟩
theorem cat_errs {σ : L2.St} {H : Hp} {Q : VK} {v : V} {L0 : Addr} {es0 Cs0 : List Addr} {Cs : List Addr} (h0 : σ[0]? = some (some v)) (h1 : σ[1]? = some (some (.ref L0))) (hL : H L0 = some (.lst (es0.map V.ref))) (hp : Errs H es0 Cs0 v)
    (few : Cs0.length + Cs.length ≤ 100) (k : ∀ H' L es, Same H H' → H' L = some (.lst (es.map V.ref)) → Errs H' es (Cs0 ++ Cs) v → Q (.ref L) H') : tOp rCat (tVar 1) (tLst (tErrs Cs)) σ H Q := by
  refine ⟨_, h1, errs_read h0 Cs H _ fun H1 es1 s1 p1 => ?_⟩
  have l0 := Paired.length hp
  have l1 := Paired.length p1
  refine ⟨?_, fun L1 nL1 => ⟨L0, L1, _, _, rfl, rfl, same_upd nL1 _ _ (s1 _ _ hL), upd_same, ?_, fun p np => ?_⟩⟩
  · rw [List.length_map, sizeLine_eq]
    omega
  · rw [List.length_map, List.length_map, sizeLine_eq]
    omega
  · have sA := same_upd (o := .lst (es1.map V.ref)) nL1
    have sB := same_upd (o := .lst (es0.map V.ref ++ es1.map V.ref)) np
    have sC := s1.trans (sA.trans sB)
    refine k _ p (es0 ++ es1) sC (by rw [List.map_append]; exact upd_same) ((hp.same sC).app (p1.same (sA.trans sB)))
theorem seq_first {σ : L2.St} {H : Hp} {D : Ends} {v : V} {rest : TS} {Cs : List Addr} (hv : σ[0]? = some (some v)) (few : Cs.length ≤ 100)
    (k : ∀ H' L es, Same H H' → H' L = some (.lst (es.map V.ref)) → Errs H' es Cs v → rest D (σ.set 1 (some (.ref L))) H') : tSeq (tAsg (tLst (tErrs Cs)) (gName 1)) rest D σ H := by
  refine errs_read hv Cs H _ fun H1 es1 s1 p1 => ⟨?_, fun L nL => ?_⟩
  · have l1 := Paired.length p1
    rw [List.length_map, sizeLine_eq]
    omega
  · exact k _ L es1 (s1.trans (same_upd nL)) upd_same (p1.same (same_upd nL))
theorem seq_cat {σ : L2.St} {H : Hp} {D : Ends} {v : V} {rest : TS} {L0 : Addr} {es0 Cs0 : List Addr} {Cs : List Addr} (h0 : σ[0]? = some (some v)) (h1 : σ[1]? = some (some (.ref L0))) (hL : H L0 = some (.lst (es0.map V.ref))) (hp : Errs H es0 Cs0 v)
    (few : Cs0.length + Cs.length ≤ 100) (k : ∀ H' L es, Same H H' → H' L = some (.lst (es.map V.ref)) → Errs H' es (Cs0 ++ Cs) v → rest D (σ.set 1 (some (.ref L))) H') : tSeq (tAsg (tOp rCat (tVar 1) (tLst (tErrs Cs))) (gName 1)) rest D σ H :=
  cat_errs h0 h1 hL hp few k
theorem ret_cat {σ : L2.St} {H : Hp} {D : Ends} {v : V} {L0 : Addr} {es0 Cs0 : List Addr} {Cs : List Addr} (h0 : σ[0]? = some (some v)) (h1 : σ[1]? = some (some (.ref L0))) (hL : H L0 = some (.lst (es0.map V.ref))) (hp : Errs H es0 Cs0 v)
    (few : Cs0.length + Cs.length ≤ 100) (k : ∀ H' L es, Same H H' → H' L = some (.lst (es.map V.ref)) → Errs H' es (Cs0 ++ Cs) v → D.rt (.ref L) H') : tRet (tOp rCat (tVar 1) (tLst (tErrs Cs))) D σ H :=
  cat_errs h0 h1 hL hp few k
/-- what both makers promise -/
def spMade (Cs : List Addr) : Sp := fun vs H Q _ => ∃ v, vs = [v] ∧ ∀ H' L es, Same H H' → H' L = some (.lst (es.map V.ref)) → Errs H' es Cs v → Q (.ref L) H'
theorem scMade : FnScope ["_law_worth_here", "_law_one"] ["_law_worth_here"] (defScope sMade) :=
  ⟨rfl, rfl, rfl, by decide +kernel, rfl, by decide +kernel, by decide +kernel⟩
theorem scNamed : FnScope ["_law_worth_here", "_law_one"] ["_law_worth_here"] (defScope sNamed) :=
  ⟨rfl, rfl, rfl, by decide +kernel, rfl, by decide +kernel, by decide +kernel⟩
theorem scInit : FnScope ["self", "value"] ["self", "value"] (defScope sInit) :=
  ⟨rfl, rfl, rfl, by decide +kernel, rfl, by decide +kernel, by decide +kernel⟩
section
variable {P : Program} {w : World} {K : Frag} {mg : Str → Option Value} {base : Heap} {fI C0 C1 C2 C3 C4 C5 C6 C7 C8 C9 C10 C11 C12 C13 C14 C15 C16 C17 C18 C19 C20 C21 C22 C23 Sh : Addr}
theorem ok_init {fd : FuncData} (F : Fun K "__init__" "ShellError.__init__" sInit fI fd) : FnOk P w K mg base CX0 1 fI fd ["self", "value"] (spInit K) := by
  refine F.ok scInit (fun vs H Q E h => ?_) (fun cdv A outer s H vs Q E hr h => ⟨_, pss_one (ps_ost (pv 0) (pv 1)), ?_⟩)
  · obtain ⟨a, C, v, rfl, _⟩ := h
    rfl
  · obtain ⟨a, C, v, rfl, T, hno, ha, k⟩ := h
    exact ⟨_, rfl, _, rfl, a, C, rfl, T, hno, .inl ⟨ha, fun dx nd ne => k dx nd ne⟩⟩
theorem ok_made {f : Addr} {fd fdI : FuncData} (F : Fun K "_law_made" "_law_made" sMade f fd) (FF : Fun K "__init__" "ShellError.__init__" sInit fI fdI) (T : AllE K mg fI C0 C1 C2 C3 C4 C5 C6 C7 C8 C9 C10 C11 C12 C13 C14 C15 C16 C17 C18 C19 C20 C21 C22 C23 Sh) (G : EG K fI)
    (bP : ∀ s : Shared, K.In s.heap → ∀ a u, BindsTo s fdI ⟨[.ref a, u], []⟩ [(("self" : Str), .ref a), (("value" : Str), u)])
    (bK : ∀ s : Shared, K.In s.heap → ∀ a u, BindsTo s fdI ⟨[.ref a], [(("value" : Str), u)]⟩ [(("self" : Str), .ref a), (("value" : Str), u)]) :
    FnOk P w K mg base CX0 3 f fd ["_law_worth_here"] (spMade [C0, C1, C2, C3, C4, C5, C6, C7, C8, C9, C10, C11, C12, C13, C14, C15, C16, C17, C18, C19, C20, C21, C22, C23, Sh]) := by
  have FI : FnOk P w K mg base CX0 1 fI fdI ["self", "value"] (spInit K) := ok_init FF
  refine F.ok scMade (fun vs H Q E h => ?_) (fun cdv A outer s H vs Q E hr h => ?_)
  · obtain ⟨v, rfl, _⟩ := h
    rfl
  · refine ⟨_, pss_cons (ps_set (i := 1) scMade.nd rfl (.inl rfl) (pe_lst (pa_cons (pe_err T.e0 G FI hr pass0 bP rfl (pa_cons (pv 0) pa_nil)) (pa_cons (pe_err T.e1 G FI hr pass0 bP rfl (pa_cons (pv 0) pa_nil)) (pa_cons (pe_err T.e2 G FI hr pass0 bP rfl (pa_cons (pv 0) pa_nil)) (pa_cons (pe_err T.e3 G FI hr pass0 bP rfl (pa_cons (pv 0) pa_nil)) (pa_cons (pe_err T.e4 G FI hr pass0 bP rfl (pa_cons (pv 0) pa_nil)) (pa_nil))))))))
      (pss_cons (ps_set (i := 1) scMade.nd rfl (.inl rfl) (pe_op op_cat (pv 1) (pe_lst (pa_cons (pe_err T.e5 G FI hr pass0 bP rfl (pa_cons (pv 0) pa_nil)) (pa_cons (pe_err T.e6 G FI hr pass0 bP rfl (pa_cons (pv 0) pa_nil)) (pa_cons (pe_err T.e7 G FI hr pass0 bP rfl (pa_cons (pv 0) pa_nil)) (pa_cons (pe_err T.e8 G FI hr pass0 bP rfl (pa_cons (pv 0) pa_nil)) (pa_cons (pe_err T.e9 G FI hr pass0 bP rfl (pa_cons (pv 0) pa_nil)) (pa_nil)))))))))
      (pss_cons (ps_set (i := 1) scMade.nd rfl (.inl rfl) (pe_op op_cat (pv 1) (pe_lst (pa_cons (pe_err T.e10 G FI hr pass0 bP rfl (pa_cons (pv 0) pa_nil)) (pa_cons (pe_err T.e11 G FI hr pass0 bP rfl (pa_cons (pv 0) pa_nil)) (pa_cons (pe_err T.e12 G FI hr pass0 bP rfl (pa_cons (pv 0) pa_nil)) (pa_cons (pe_err T.e13 G FI hr pass0 bP rfl (pa_cons (pv 0) pa_nil)) (pa_cons (pe_err T.e14 G FI hr pass0 bP rfl (pa_cons (pv 0) pa_nil)) (pa_nil)))))))))
      (pss_cons (ps_set (i := 1) scMade.nd rfl (.inl rfl) (pe_op op_cat (pv 1) (pe_lst (pa_cons (pe_err T.e15 G FI hr pass0 bP rfl (pa_cons (pv 0) pa_nil)) (pa_cons (pe_err T.e16 G FI hr pass0 bP rfl (pa_cons (pv 0) pa_nil)) (pa_cons (pe_err T.e17 G FI hr pass0 bP rfl (pa_cons (pv 0) pa_nil)) (pa_cons (pe_err T.e18 G FI hr pass0 bP rfl (pa_cons (pv 0) pa_nil)) (pa_cons (pe_err T.e19 G FI hr pass0 bP rfl (pa_cons (pv 0) pa_nil)) (pa_nil)))))))))
      (pss_one (ps_ret (pe_op op_cat (pv 1) (pe_lst (pa_cons (pe_err T.e20 G FI hr pass0 bP rfl (pa_cons (pv 0) pa_nil)) (pa_cons (pe_err T.e21 G FI hr pass0 bP rfl (pa_cons (pv 0) pa_nil)) (pa_cons (pe_err T.e22 G FI hr pass0 bP rfl (pa_cons (pv 0) pa_nil)) (pa_cons (pe_err T.e23 G FI hr pass0 bP rfl (pa_cons (pv 0) pa_nil)) (pa_cons (pe_err T.eS G FI hr pass0 bP rfl (pa_cons (pv 0) pa_nil)) (pa_nil))))))))))))), ?_⟩
    obtain ⟨v, rfl, k⟩ := h
    refine seq_first (v := v) (Cs := [C0, C1, C2, C3, C4]) rfl (by simp) fun H0 L0 es0 s0 hL0 p0 => ?_
    have t0 := s0
    refine seq_cat (v := v) (Cs := [C5, C6, C7, C8, C9]) rfl rfl hL0 p0 (by simp) fun H1 L1 es1 s1 hL1 p1 => ?_
    have t1 := t0.trans s1
    refine seq_cat (v := v) (Cs := [C10, C11, C12, C13, C14]) rfl rfl hL1 p1 (by simp) fun H2 L2 es2 s2 hL2 p2 => ?_
    have t2 := t1.trans s2
    refine seq_cat (v := v) (Cs := [C15, C16, C17, C18, C19]) rfl rfl hL2 p2 (by simp) fun H3 L3 es3 s3 hL3 p3 => ?_
    have t3 := t2.trans s3
    refine ret_cat (v := v) (Cs := [C20, C21, C22, C23, Sh]) rfl rfl hL3 p3 (by simp) fun H4 L4 es4 s4 hL4 p4 => ?_
    have t4 := t3.trans s4
    exact k _ L4 es4 t4 hL4 p4
theorem ok_named {f : Addr} {fd fdI : FuncData} (F : Fun K "_law_named" "_law_named" sNamed f fd) (FF : Fun K "__init__" "ShellError.__init__" sInit fI fdI) (T : AllE K mg fI C0 C1 C2 C3 C4 C5 C6 C7 C8 C9 C10 C11 C12 C13 C14 C15 C16 C17 C18 C19 C20 C21 C22 C23 Sh) (G : EG K fI)
    (bP : ∀ s : Shared, K.In s.heap → ∀ a u, BindsTo s fdI ⟨[.ref a, u], []⟩ [(("self" : Str), .ref a), (("value" : Str), u)])
    (bK : ∀ s : Shared, K.In s.heap → ∀ a u, BindsTo s fdI ⟨[.ref a], [(("value" : Str), u)]⟩ [(("self" : Str), .ref a), (("value" : Str), u)]) :
    FnOk P w K mg base CX0 3 f fd ["_law_worth_here"] (spMade [C0, C1, C2, C3, C4, C5, C6, C7, C8, C9, C10, C11, C12, C13, C14, C15, C16, C17, C18, C19, C20, C21, C22, C23, Sh]) := by
  have FI : FnOk P w K mg base CX0 1 fI fdI ["self", "value"] (spInit K) := ok_init FF
  refine F.ok scNamed (fun vs H Q E h => ?_) (fun cdv A outer s H vs Q E hr h => ?_)
  · obtain ⟨v, rfl, _⟩ := h
    rfl
  · refine ⟨_, pss_cons (ps_set (i := 1) scNamed.nd rfl (.inl rfl) (pe_lst (pa_cons (pe_errK T.e0 G FI hr pass0 bK rfl (pk_cons (pv 0) pk_nil)) (pa_cons (pe_errK T.e1 G FI hr pass0 bK rfl (pk_cons (pv 0) pk_nil)) (pa_cons (pe_errK T.e2 G FI hr pass0 bK rfl (pk_cons (pv 0) pk_nil)) (pa_cons (pe_errK T.e3 G FI hr pass0 bK rfl (pk_cons (pv 0) pk_nil)) (pa_nil)))))))
      (pss_cons (ps_set (i := 1) scNamed.nd rfl (.inl rfl) (pe_op op_cat (pv 1) (pe_lst (pa_cons (pe_errK T.e4 G FI hr pass0 bK rfl (pk_cons (pv 0) pk_nil)) (pa_cons (pe_errK T.e5 G FI hr pass0 bK rfl (pk_cons (pv 0) pk_nil)) (pa_cons (pe_errK T.e6 G FI hr pass0 bK rfl (pk_cons (pv 0) pk_nil)) (pa_cons (pe_errK T.e7 G FI hr pass0 bK rfl (pk_cons (pv 0) pk_nil)) (pa_nil))))))))
      (pss_cons (ps_set (i := 1) scNamed.nd rfl (.inl rfl) (pe_op op_cat (pv 1) (pe_lst (pa_cons (pe_errK T.e8 G FI hr pass0 bK rfl (pk_cons (pv 0) pk_nil)) (pa_cons (pe_errK T.e9 G FI hr pass0 bK rfl (pk_cons (pv 0) pk_nil)) (pa_cons (pe_errK T.e10 G FI hr pass0 bK rfl (pk_cons (pv 0) pk_nil)) (pa_cons (pe_errK T.e11 G FI hr pass0 bK rfl (pk_cons (pv 0) pk_nil)) (pa_nil))))))))
      (pss_cons (ps_set (i := 1) scNamed.nd rfl (.inl rfl) (pe_op op_cat (pv 1) (pe_lst (pa_cons (pe_errK T.e12 G FI hr pass0 bK rfl (pk_cons (pv 0) pk_nil)) (pa_cons (pe_errK T.e13 G FI hr pass0 bK rfl (pk_cons (pv 0) pk_nil)) (pa_cons (pe_errK T.e14 G FI hr pass0 bK rfl (pk_cons (pv 0) pk_nil)) (pa_nil)))))))
      (pss_cons (ps_set (i := 1) scNamed.nd rfl (.inl rfl) (pe_op op_cat (pv 1) (pe_lst (pa_cons (pe_errK T.e15 G FI hr pass0 bK rfl (pk_cons (pv 0) pk_nil)) (pa_cons (pe_errK T.e16 G FI hr pass0 bK rfl (pk_cons (pv 0) pk_nil)) (pa_cons (pe_errK T.e17 G FI hr pass0 bK rfl (pk_cons (pv 0) pk_nil)) (pa_cons (pe_errK T.e18 G FI hr pass0 bK rfl (pk_cons (pv 0) pk_nil)) (pa_nil))))))))
      (pss_cons (ps_set (i := 1) scNamed.nd rfl (.inl rfl) (pe_op op_cat (pv 1) (pe_lst (pa_cons (pe_errK T.e19 G FI hr pass0 bK rfl (pk_cons (pv 0) pk_nil)) (pa_cons (pe_errK T.e20 G FI hr pass0 bK rfl (pk_cons (pv 0) pk_nil)) (pa_cons (pe_errK T.e21 G FI hr pass0 bK rfl (pk_cons (pv 0) pk_nil)) (pa_cons (pe_errK T.e22 G FI hr pass0 bK rfl (pk_cons (pv 0) pk_nil)) (pa_nil))))))))
      (pss_one (ps_ret (pe_op op_cat (pv 1) (pe_lst (pa_cons (pe_errK T.e23 G FI hr pass0 bK rfl (pk_cons (pv 0) pk_nil)) (pa_cons (pe_errK T.eS G FI hr pass0 bK rfl (pk_cons (pv 0) pk_nil)) (pa_nil)))))))))))), ?_⟩
    obtain ⟨v, rfl, k⟩ := h
    refine seq_first (v := v) (Cs := [C0, C1, C2, C3]) rfl (by simp) fun H0 L0 es0 s0 hL0 p0 => ?_
    have t0 := s0
    refine seq_cat (v := v) (Cs := [C4, C5, C6, C7]) rfl rfl hL0 p0 (by simp) fun H1 L1 es1 s1 hL1 p1 => ?_
    have t1 := t0.trans s1
    refine seq_cat (v := v) (Cs := [C8, C9, C10, C11]) rfl rfl hL1 p1 (by simp) fun H2 L2 es2 s2 hL2 p2 => ?_
    have t2 := t1.trans s2
    refine seq_cat (v := v) (Cs := [C12, C13, C14]) rfl rfl hL2 p2 (by simp) fun H3 L3 es3 s3 hL3 p3 => ?_
    have t3 := t2.trans s3
    refine seq_cat (v := v) (Cs := [C15, C16, C17, C18]) rfl rfl hL3 p3 (by simp) fun H4 L4 es4 s4 hL4 p4 => ?_
    have t4 := t3.trans s4
    refine seq_cat (v := v) (Cs := [C19, C20, C21, C22]) rfl rfl hL4 p4 (by simp) fun H5 L5 es5 s5 hL5 p5 => ?_
    have t5 := t4.trans s5
    refine ret_cat (v := v) (Cs := [C23, Sh]) rfl rfl hL5 p5 (by simp) fun H6 L6 es6 s6 hL6 p6 => ?_
    have t6 := t5.trans s6
    exact k _ L6 es6 t6 hL6 p6
end
end Qb
end PySem
namespace PySem
namespace Qb
open PySem.W PySem.Calls PyProof.Rows L2
def tKs (K : Frag) (mg : Str → Option Value) (fI : Addr) : List Addr → TA
  | [] => tNil
  | D :: r => tCons (tCB (rIsErr K mg fI) (tCons (tVar 0) (tCons (tC (.ref D)) tNil))) (tKs K mg fI r)
/-- what isinstance says of an error of the class at C, behind which ms stands, for each of some classes -/
def kinds (C : Addr) (ms : List Value) (Ds : List Addr) : List V := Ds.map fun D => V.bl ((Value.ref C :: ms).contains (.ref D))
section
variable {K : Frag} {mg : Str → Option Value} {fI e C : Addr} {v : V} {x : Str} {ms : List Value}
theorem ks_read (T : EC K mg fI x C ms) {σ : L2.St} (hv : σ[0]? = some (some (.ref e))) {H : Hp} (he : ErrAt H e C v) : ∀ (Ds : List Addr) (Q : List V → Hp → Prop), (∀ D ∈ Ds, ∃ y ns, EC K mg fI y D ns) → Q (kinds C ms Ds) H → tKs K mg fI Ds σ H Q
  | [], Q, _, k => k
  | D :: r, Q, h, k => by
    obtain ⟨y, ns, TD⟩ := h D List.mem_cons_self
    exact ⟨_, hv, e, C, v, _, _, _, x, ms, rfl, .own D, T, he, T.one TD, ks_read T hv he r _ (fun D' hm => h D' (List.mem_cons_of_mem _ hm)) k⟩
theorem kseq_first (T : EC K mg fI x C ms) {σ : L2.St} {H : Hp} {D : Ends} {rest : TS} {Ds : List Addr} (hv : σ[0]? = some (some (.ref e))) (he : ErrAt H e C v) (few : Ds.length ≤ 100) (hD : ∀ D ∈ Ds, ∃ y ns, EC K mg fI y D ns)
    (k : ∀ H' L, Same H H' → H' L = some (.lst (kinds C ms Ds)) → rest D (σ.set 1 (some (.ref L))) H') : tSeq (tAsg (tLst (tKs K mg fI Ds)) (gName 1)) rest D σ H := by
  refine ks_read T hv he Ds _ hD ⟨?_, fun L nL => k _ L (same_upd nL) upd_same⟩
  show (Ds.map _).length ≤ sizeLine
  rw [List.length_map, sizeLine_eq]
  omega
theorem kcat (T : EC K mg fI x C ms) {σ : L2.St} {H : Hp} {Q : VK} {L0 : Addr} {Ds0 Ds : List Addr} (hv : σ[0]? = some (some (.ref e))) (h1 : σ[1]? = some (some (.ref L0))) (he : ErrAt H e C v) (hL : H L0 = some (.lst (kinds C ms Ds0))) (few : Ds0.length + Ds.length ≤ 100) (hD : ∀ D ∈ Ds, ∃ y ns, EC K mg fI y D ns)
    (k : ∀ H' L, Same H H' → H' L = some (.lst (kinds C ms (Ds0 ++ Ds))) → Q (.ref L) H') : tOp rCat (tVar 1) (tLst (tKs K mg fI Ds)) σ H Q := by
  refine ⟨_, h1, ks_read T hv he Ds _ hD ⟨?_, fun L1 nL1 => ⟨L0, L1, _, _, rfl, rfl, same_upd nL1 _ _ hL, upd_same, ?_, fun p np => ?_⟩⟩⟩
  · show (Ds.map _).length ≤ sizeLine
    rw [List.length_map, sizeLine_eq]
    omega
  · show (Ds0.map _).length + (Ds.map _).length ≤ sizeLine
    rw [List.length_map, List.length_map, sizeLine_eq]
    omega
  · refine k _ p ((same_upd nL1).trans (same_upd np)) ?_
    have z : kinds C ms (Ds0 ++ Ds) = kinds C ms Ds0 ++ kinds C ms Ds := List.map_append ..
    rw [z]
    exact upd_same
theorem kseq_cat (T : EC K mg fI x C ms) {σ : L2.St} {H : Hp} {D : Ends} {rest : TS} {L0 : Addr} {Ds0 Ds : List Addr} (hv : σ[0]? = some (some (.ref e))) (h1 : σ[1]? = some (some (.ref L0))) (he : ErrAt H e C v) (hL : H L0 = some (.lst (kinds C ms Ds0))) (few : Ds0.length + Ds.length ≤ 100) (hD : ∀ D ∈ Ds, ∃ y ns, EC K mg fI y D ns)
    (k : ∀ H' L, Same H H' → H' L = some (.lst (kinds C ms (Ds0 ++ Ds))) → rest D (σ.set 1 (some (.ref L))) H') : tSeq (tAsg (tOp rCat (tVar 1) (tLst (tKs K mg fI Ds))) (gName 1)) rest D σ H := kcat T hv h1 he hL few hD k
theorem kret_cat (T : EC K mg fI x C ms) {σ : L2.St} {H : Hp} {D : Ends} {L0 : Addr} {Ds0 Ds : List Addr} (hv : σ[0]? = some (some (.ref e))) (h1 : σ[1]? = some (some (.ref L0))) (he : ErrAt H e C v) (hL : H L0 = some (.lst (kinds C ms Ds0))) (few : Ds0.length + Ds.length ≤ 100) (hD : ∀ D ∈ Ds, ∃ y ns, EC K mg fI y D ns)
    (k : ∀ H' L, Same H H' → H' L = some (.lst (kinds C ms (Ds0 ++ Ds))) → D.rt (.ref L) H') : tRet (tOp rCat (tVar 1) (tLst (tKs K mg fI Ds))) D σ H := kcat T hv h1 he hL few hD k
end
def spKinds (K : Frag) (mg : Str → Option Value) (fI : Addr) (Ds : List Addr) : Sp := fun vs H Q _ => ∃ (e C : Addr) (v : V) (x : Str) (ms : List Value), vs = [.ref e] ∧ EC K mg fI x C ms ∧ ErrAt H e C v ∧
  ∀ H' L, Same H H' → H' L = some (.lst (kinds C ms Ds)) → Q (.ref L) H'
theorem scKinds : FnScope ["_law_error", "_law_one"] ["_law_error"] (defScope sKinds) :=
  ⟨rfl, rfl, rfl, by decide +kernel, rfl, by decide +kernel, by decide +kernel⟩
section
variable {P : Program} {w : World} {K : Frag} {mg : Str → Option Value} {base : Heap} {fI C0 C1 C2 C3 C4 C5 C6 C7 C8 C9 C10 C11 C12 C13 C14 C15 C16 C17 C18 C19 C20 C21 C22 C23 Sh : Addr}
theorem ok_kinds {f : Addr} {fd : FuncData} (F : Fun K "_law_kinds" "_law_kinds" sKinds f fd) (B : Blt mg) (T : AllE K mg fI C0 C1 C2 C3 C4 C5 C6 C7 C8 C9 C10 C11 C12 C13 C14 C15 C16 C17 C18 C19 C20 C21 C22 C23 Sh) (G : EG K fI) : FnOk P w K mg base CX0 1 f fd ["_law_error"] (spKinds K mg fI [C0, C1, C2, C3, C4, C5, C6, C7, C8, C9, C10, C11, C12, C13, C14, C15, C16, C17, C18, C19, C20, C21, C22, C23]) := by
  refine F.ok scKinds (fun vs H Q E h => ?_) (fun cdv A outer s H vs Q E hr h => ?_)
  · obtain ⟨e, C, v, x, ms, rfl, _⟩ := h
    rfl
  · refine ⟨_, pss_cons (ps_set (i := 1) scKinds.nd rfl (.inl rfl) (pe_lst (pa_cons (pe_callB (call_isErr G) (by rfl) B.isi (by decide +kernel) (pa_cons (pv 0) (pa_cons (pe_glob (v := .ref C0) rfl T.e0.gC rfl) pa_nil))) (pa_cons (pe_callB (call_isErr G) (by rfl) B.isi (by decide +kernel) (pa_cons (pv 0) (pa_cons (pe_glob (v := .ref C1) rfl T.e1.gC rfl) pa_nil))) (pa_cons (pe_callB (call_isErr G) (by rfl) B.isi (by decide +kernel) (pa_cons (pv 0) (pa_cons (pe_glob (v := .ref C2) rfl T.e2.gC rfl) pa_nil))) (pa_nil))))))
      (pss_cons (ps_set (i := 1) scKinds.nd rfl (.inl rfl) (pe_op op_cat (pv 1) (pe_lst (pa_cons (pe_callB (call_isErr G) (by rfl) B.isi (by decide +kernel) (pa_cons (pv 0) (pa_cons (pe_glob (v := .ref C3) rfl T.e3.gC rfl) pa_nil))) (pa_cons (pe_callB (call_isErr G) (by rfl) B.isi (by decide +kernel) (pa_cons (pv 0) (pa_cons (pe_glob (v := .ref C4) rfl T.e4.gC rfl) pa_nil))) (pa_cons (pe_callB (call_isErr G) (by rfl) B.isi (by decide +kernel) (pa_cons (pv 0) (pa_cons (pe_glob (v := .ref C5) rfl T.e5.gC rfl) pa_nil))) (pa_nil)))))))
      (pss_cons (ps_set (i := 1) scKinds.nd rfl (.inl rfl) (pe_op op_cat (pv 1) (pe_lst (pa_cons (pe_callB (call_isErr G) (by rfl) B.isi (by decide +kernel) (pa_cons (pv 0) (pa_cons (pe_glob (v := .ref C6) rfl T.e6.gC rfl) pa_nil))) (pa_cons (pe_callB (call_isErr G) (by rfl) B.isi (by decide +kernel) (pa_cons (pv 0) (pa_cons (pe_glob (v := .ref C7) rfl T.e7.gC rfl) pa_nil))) (pa_cons (pe_callB (call_isErr G) (by rfl) B.isi (by decide +kernel) (pa_cons (pv 0) (pa_cons (pe_glob (v := .ref C8) rfl T.e8.gC rfl) pa_nil))) (pa_nil)))))))
      (pss_cons (ps_set (i := 1) scKinds.nd rfl (.inl rfl) (pe_op op_cat (pv 1) (pe_lst (pa_cons (pe_callB (call_isErr G) (by rfl) B.isi (by decide +kernel) (pa_cons (pv 0) (pa_cons (pe_glob (v := .ref C9) rfl T.e9.gC rfl) pa_nil))) (pa_cons (pe_callB (call_isErr G) (by rfl) B.isi (by decide +kernel) (pa_cons (pv 0) (pa_cons (pe_glob (v := .ref C10) rfl T.e10.gC rfl) pa_nil))) (pa_cons (pe_callB (call_isErr G) (by rfl) B.isi (by decide +kernel) (pa_cons (pv 0) (pa_cons (pe_glob (v := .ref C11) rfl T.e11.gC rfl) pa_nil))) (pa_nil)))))))
      (pss_cons (ps_set (i := 1) scKinds.nd rfl (.inl rfl) (pe_op op_cat (pv 1) (pe_lst (pa_cons (pe_callB (call_isErr G) (by rfl) B.isi (by decide +kernel) (pa_cons (pv 0) (pa_cons (pe_glob (v := .ref C12) rfl T.e12.gC rfl) pa_nil))) (pa_cons (pe_callB (call_isErr G) (by rfl) B.isi (by decide +kernel) (pa_cons (pv 0) (pa_cons (pe_glob (v := .ref C13) rfl T.e13.gC rfl) pa_nil))) (pa_cons (pe_callB (call_isErr G) (by rfl) B.isi (by decide +kernel) (pa_cons (pv 0) (pa_cons (pe_glob (v := .ref C14) rfl T.e14.gC rfl) pa_nil))) (pa_nil)))))))
      (pss_cons (ps_set (i := 1) scKinds.nd rfl (.inl rfl) (pe_op op_cat (pv 1) (pe_lst (pa_cons (pe_callB (call_isErr G) (by rfl) B.isi (by decide +kernel) (pa_cons (pv 0) (pa_cons (pe_glob (v := .ref C15) rfl T.e15.gC rfl) pa_nil))) (pa_cons (pe_callB (call_isErr G) (by rfl) B.isi (by decide +kernel) (pa_cons (pv 0) (pa_cons (pe_glob (v := .ref C16) rfl T.e16.gC rfl) pa_nil))) (pa_cons (pe_callB (call_isErr G) (by rfl) B.isi (by decide +kernel) (pa_cons (pv 0) (pa_cons (pe_glob (v := .ref C17) rfl T.e17.gC rfl) pa_nil))) (pa_nil)))))))
      (pss_cons (ps_set (i := 1) scKinds.nd rfl (.inl rfl) (pe_op op_cat (pv 1) (pe_lst (pa_cons (pe_callB (call_isErr G) (by rfl) B.isi (by decide +kernel) (pa_cons (pv 0) (pa_cons (pe_glob (v := .ref C18) rfl T.e18.gC rfl) pa_nil))) (pa_cons (pe_callB (call_isErr G) (by rfl) B.isi (by decide +kernel) (pa_cons (pv 0) (pa_cons (pe_glob (v := .ref C19) rfl T.e19.gC rfl) pa_nil))) (pa_cons (pe_callB (call_isErr G) (by rfl) B.isi (by decide +kernel) (pa_cons (pv 0) (pa_cons (pe_glob (v := .ref C20) rfl T.e20.gC rfl) pa_nil))) (pa_nil)))))))
      (pss_one (ps_ret (pe_op op_cat (pv 1) (pe_lst (pa_cons (pe_callB (call_isErr G) (by rfl) B.isi (by decide +kernel) (pa_cons (pv 0) (pa_cons (pe_glob (v := .ref C21) rfl T.e21.gC rfl) pa_nil))) (pa_cons (pe_callB (call_isErr G) (by rfl) B.isi (by decide +kernel) (pa_cons (pv 0) (pa_cons (pe_glob (v := .ref C22) rfl T.e22.gC rfl) pa_nil))) (pa_cons (pe_callB (call_isErr G) (by rfl) B.isi (by decide +kernel) (pa_cons (pv 0) (pa_cons (pe_glob (v := .ref C23) rfl T.e23.gC rfl) pa_nil))) (pa_nil)))))))))))))), ?_⟩
    obtain ⟨e, C, v, x, ms, rfl, TC, he, k⟩ := h
    refine kseq_first TC (Ds := [C0, C1, C2]) rfl he (by simp) (fun D hD => by
      rcases List.mem_cons.mp hD with rfl | hD
      · exact ⟨_, _, T.e0⟩
      rcases List.mem_cons.mp hD with rfl | hD
      · exact ⟨_, _, T.e1⟩
      obtain rfl := List.mem_singleton.mp hD
      exact ⟨_, _, T.e2⟩) fun H0 L0 s0 hL0 => ?_
    have t0 := s0
    refine kseq_cat TC (Ds := [C3, C4, C5]) rfl rfl (he.same t0) hL0 (by simp) (fun D hD => by
      rcases List.mem_cons.mp hD with rfl | hD
      · exact ⟨_, _, T.e3⟩
      rcases List.mem_cons.mp hD with rfl | hD
      · exact ⟨_, _, T.e4⟩
      obtain rfl := List.mem_singleton.mp hD
      exact ⟨_, _, T.e5⟩) fun H1 L1 s1 hL1 => ?_
    have t1 := t0.trans s1
    refine kseq_cat TC (Ds := [C6, C7, C8]) rfl rfl (he.same t1) hL1 (by simp) (fun D hD => by
      rcases List.mem_cons.mp hD with rfl | hD
      · exact ⟨_, _, T.e6⟩
      rcases List.mem_cons.mp hD with rfl | hD
      · exact ⟨_, _, T.e7⟩
      obtain rfl := List.mem_singleton.mp hD
      exact ⟨_, _, T.e8⟩) fun H2 L2 s2 hL2 => ?_
    have t2 := t1.trans s2
    refine kseq_cat TC (Ds := [C9, C10, C11]) rfl rfl (he.same t2) hL2 (by simp) (fun D hD => by
      rcases List.mem_cons.mp hD with rfl | hD
      · exact ⟨_, _, T.e9⟩
      rcases List.mem_cons.mp hD with rfl | hD
      · exact ⟨_, _, T.e10⟩
      obtain rfl := List.mem_singleton.mp hD
      exact ⟨_, _, T.e11⟩) fun H3 L3 s3 hL3 => ?_
    have t3 := t2.trans s3
    refine kseq_cat TC (Ds := [C12, C13, C14]) rfl rfl (he.same t3) hL3 (by simp) (fun D hD => by
      rcases List.mem_cons.mp hD with rfl | hD
      · exact ⟨_, _, T.e12⟩
      rcases List.mem_cons.mp hD with rfl | hD
      · exact ⟨_, _, T.e13⟩
      obtain rfl := List.mem_singleton.mp hD
      exact ⟨_, _, T.e14⟩) fun H4 L4 s4 hL4 => ?_
    have t4 := t3.trans s4
    refine kseq_cat TC (Ds := [C15, C16, C17]) rfl rfl (he.same t4) hL4 (by simp) (fun D hD => by
      rcases List.mem_cons.mp hD with rfl | hD
      · exact ⟨_, _, T.e15⟩
      rcases List.mem_cons.mp hD with rfl | hD
      · exact ⟨_, _, T.e16⟩
      obtain rfl := List.mem_singleton.mp hD
      exact ⟨_, _, T.e17⟩) fun H5 L5 s5 hL5 => ?_
    have t5 := t4.trans s5
    refine kseq_cat TC (Ds := [C18, C19, C20]) rfl rfl (he.same t5) hL5 (by simp) (fun D hD => by
      rcases List.mem_cons.mp hD with rfl | hD
      · exact ⟨_, _, T.e18⟩
      rcases List.mem_cons.mp hD with rfl | hD
      · exact ⟨_, _, T.e19⟩
      obtain rfl := List.mem_singleton.mp hD
      exact ⟨_, _, T.e20⟩) fun H6 L6 s6 hL6 => ?_
    have t6 := t5.trans s6
    refine kret_cat TC (Ds := [C21, C22, C23]) rfl rfl (he.same t6) hL6 (by simp) (fun D hD => by
      rcases List.mem_cons.mp hD with rfl | hD
      · exact ⟨_, _, T.e21⟩
      rcases List.mem_cons.mp hD with rfl | hD
      · exact ⟨_, _, T.e22⟩
      obtain rfl := List.mem_singleton.mp hD
      exact ⟨_, _, T.e23⟩) fun H7 L7 s7 hL7 => ?_
    have t7 := t6.trans s7
    exact k _ L7 t7 hL7
end
end Qb
end PySem
namespace PySem
namespace Qb
open PySem.W PySem.Calls PyProof.Rows L2
abbrev sLaw : Stmt := top 33
section
variable {K : Frag} {mg : Str → Option Value} {fI C0 C1 C2 C3 C4 C5 C6 C7 C8 C9 C10 C11 C12 C13 C14 C15 C16 C17 C18 C19 C20 C21 C22 C23 Sh : Addr}
theorem AllE.at (T : AllE K mg fI C0 C1 C2 C3 C4 C5 C6 C7 C8 C9 C10 C11 C12 C13 C14 C15 C16 C17 C18 C19 C20 C21 C22 C23 Sh) : ∀ i, i < 25 → ∃ (x : Str) (ms : List Value), EC K mg fI x ([C0, C1, C2, C3, C4, C5, C6, C7, C8, C9, C10, C11, C12, C13, C14, C15, C16, C17, C18, C19, C20, C21, C22, C23, Sh].getD i 0) ms ∧ ((i < 24 ∧ ms = tl24 Sh) ∨ (i = 24 ∧ ms = HandSPX.veTail))
  | 0, _ => ⟨_, _, T.e0, .inl ⟨by decide, rfl⟩⟩
  | 1, _ => ⟨_, _, T.e1, .inl ⟨by decide, rfl⟩⟩
  | 2, _ => ⟨_, _, T.e2, .inl ⟨by decide, rfl⟩⟩
  | 3, _ => ⟨_, _, T.e3, .inl ⟨by decide, rfl⟩⟩
  | 4, _ => ⟨_, _, T.e4, .inl ⟨by decide, rfl⟩⟩
  | 5, _ => ⟨_, _, T.e5, .inl ⟨by decide, rfl⟩⟩
  | 6, _ => ⟨_, _, T.e6, .inl ⟨by decide, rfl⟩⟩
  | 7, _ => ⟨_, _, T.e7, .inl ⟨by decide, rfl⟩⟩
  | 8, _ => ⟨_, _, T.e8, .inl ⟨by decide, rfl⟩⟩
  | 9, _ => ⟨_, _, T.e9, .inl ⟨by decide, rfl⟩⟩
  | 10, _ => ⟨_, _, T.e10, .inl ⟨by decide, rfl⟩⟩
  | 11, _ => ⟨_, _, T.e11, .inl ⟨by decide, rfl⟩⟩
  | 12, _ => ⟨_, _, T.e12, .inl ⟨by decide, rfl⟩⟩
  | 13, _ => ⟨_, _, T.e13, .inl ⟨by decide, rfl⟩⟩
  | 14, _ => ⟨_, _, T.e14, .inl ⟨by decide, rfl⟩⟩
  | 15, _ => ⟨_, _, T.e15, .inl ⟨by decide, rfl⟩⟩
  | 16, _ => ⟨_, _, T.e16, .inl ⟨by decide, rfl⟩⟩
  | 17, _ => ⟨_, _, T.e17, .inl ⟨by decide, rfl⟩⟩
  | 18, _ => ⟨_, _, T.e18, .inl ⟨by decide, rfl⟩⟩
  | 19, _ => ⟨_, _, T.e19, .inl ⟨by decide, rfl⟩⟩
  | 20, _ => ⟨_, _, T.e20, .inl ⟨by decide, rfl⟩⟩
  | 21, _ => ⟨_, _, T.e21, .inl ⟨by decide, rfl⟩⟩
  | 22, _ => ⟨_, _, T.e22, .inl ⟨by decide, rfl⟩⟩
  | 23, _ => ⟨_, _, T.e23, .inl ⟨by decide, rfl⟩⟩
  | 24, _ => ⟨_, _, T.eS, .inr ⟨rfl, rfl⟩⟩
  | n + 25, h => absurd h (by omega)
theorem nodup_at {l : List Addr} (nd : l.Nodup) {i j : Nat} (hi : i < l.length) (hj : j < l.length) (e : l[i] = l[j]) : i = j := by
  rcases Nat.lt_trichotomy i j with z | z | z
  · exact absurd e (List.pairwise_iff_getElem.mp nd i j hi hj z)
  · exact z
  · exact absurd e.symm (List.pairwise_iff_getElem.mp nd j i hj hi z)
theorem tail_no (D : Addr) : HandSPX.veTail.contains (Value.ref D) = false := by
  simp [HandSPX.veTail]
theorem kinds_eq (T : AllE K mg fI C0 C1 C2 C3 C4 C5 C6 C7 C8 C9 C10 C11 C12 C13 C14 C15 C16 C17 C18 C19 C20 C21 C22 C23 Sh) {i : Nat} (hi : i < 25) {x : Str} {ms : List Value} (hm : (i < 24 ∧ ms = tl24 Sh) ∨ (i = 24 ∧ ms = HandSPX.veTail)) :
    kinds ([C0, C1, C2, C3, C4, C5, C6, C7, C8, C9, C10, C11, C12, C13, C14, C15, C16, C17, C18, C19, C20, C21, C22, C23, Sh].getD i 0) ms [C0, C1, C2, C3, C4, C5, C6, C7, C8, C9, C10, C11, C12, C13, C14, C15, C16, C17, C18, C19, C20, C21, C22, C23] = (List.range 24).map fun (j : Nat) => V.bl (decide ((j : Int) = (i : Int))) := by
  have nd := T.nd
  have lenL : [C0, C1, C2, C3, C4, C5, C6, C7, C8, C9, C10, C11, C12, C13, C14, C15, C16, C17, C18, C19, C20, C21, C22, C23, Sh].length = 25 := rfl
  refine List.ext_getElem (by simp [kinds]) fun j h1 h2 => ?_
  have hj : j < 24 := by simpa using h2
  have e1 : [C0, C1, C2, C3, C4, C5, C6, C7, C8, C9, C10, C11, C12, C13, C14, C15, C16, C17, C18, C19, C20, C21, C22, C23, Sh].getD i 0 = [C0, C1, C2, C3, C4, C5, C6, C7, C8, C9, C10, C11, C12, C13, C14, C15, C16, C17, C18, C19, C20, C21, C22, C23, Sh][i] := by
    rw [List.getD_eq_getElem?_getD, List.getElem?_eq_getElem (by rw [lenL]; exact hi)]
    rfl
  have e2 : [C0, C1, C2, C3, C4, C5, C6, C7, C8, C9, C10, C11, C12, C13, C14, C15, C16, C17, C18, C19, C20, C21, C22, C23][j]'(by simpa using hj) = [C0, C1, C2, C3, C4, C5, C6, C7, C8, C9, C10, C11, C12, C13, C14, C15, C16, C17, C18, C19, C20, C21, C22, C23, Sh][j]'(by rw [lenL]; omega) := by
    have z : [C0, C1, C2, C3, C4, C5, C6, C7, C8, C9, C10, C11, C12, C13, C14, C15, C16, C17, C18, C19, C20, C21, C22, C23, Sh] = [C0, C1, C2, C3, C4, C5, C6, C7, C8, C9, C10, C11, C12, C13, C14, C15, C16, C17, C18, C19, C20, C21, C22, C23] ++ [Sh] := rfl
    have y : [C0, C1, C2, C3, C4, C5, C6, C7, C8, C9, C10, C11, C12, C13, C14, C15, C16, C17, C18, C19, C20, C21, C22, C23, Sh][j]? = [C0, C1, C2, C3, C4, C5, C6, C7, C8, C9, C10, C11, C12, C13, C14, C15, C16, C17, C18, C19, C20, C21, C22, C23][j]? := by
      rw [z, List.getElem?_append_left (by simpa using hj)]
    rw [List.getElem?_eq_getElem (by rw [lenL]; omega), List.getElem?_eq_getElem (by simpa using hj)] at y
    exact (Option.some.inj y).symm
  have eS : Sh = [C0, C1, C2, C3, C4, C5, C6, C7, C8, C9, C10, C11, C12, C13, C14, C15, C16, C17, C18, C19, C20, C21, C22, C23, Sh][24] := rfl
  simp only [kinds, List.getElem_map, List.getElem_range]
  rw [e1, e2]
  congr 1
  rw [List.contains_cons]
  have r2 : ms.contains (Value.ref ([C0, C1, C2, C3, C4, C5, C6, C7, C8, C9, C10, C11, C12, C13, C14, C15, C16, C17, C18, C19, C20, C21, C22, C23, Sh][j]'(by rw [lenL]; omega))) = false := by
    rcases hm with ⟨_, rfl⟩ | ⟨_, rfl⟩
    · show (tl24 Sh).contains _ = false
      unfold tl24
      rw [List.contains_cons, tail_no, Bool.or_false]
      refine beq_eq_false_iff_ne.mpr fun z => ?_
      have q : [C0, C1, C2, C3, C4, C5, C6, C7, C8, C9, C10, C11, C12, C13, C14, C15, C16, C17, C18, C19, C20, C21, C22, C23, Sh][j]'(by rw [lenL]; omega) = [C0, C1, C2, C3, C4, C5, C6, C7, C8, C9, C10, C11, C12, C13, C14, C15, C16, C17, C18, C19, C20, C21, C22, C23, Sh][24] := Value.ref.inj z
      have := nodup_at nd _ _ q
      omega
    · exact tail_no _
  rw [r2, Bool.or_false]
  by_cases z : j = i
  · subst z
    simp
  · have n1 : ¬ ((j : Int) = (i : Int)) := by omega
    rw [decide_eq_false n1]
    refine beq_eq_false_iff_ne.mpr fun q => z ?_
    have q' : [C0, C1, C2, C3, C4, C5, C6, C7, C8, C9, C10, C11, C12, C13, C14, C15, C16, C17, C18, C19, C20, C21, C22, C23, Sh][j]'(by rw [lenL]; omega) = [C0, C1, C2, C3, C4, C5, C6, C7, C8, C9, C10, C11, C12, C13, C14, C15, C16, C17, C18, C19, C20, C21, C22, C23, Sh][i]'(by rw [lenL]; exact hi) := Value.ref.inj q
    exact nodup_at nd _ _ q'
end
end Qb
end PySem
namespace PySem
namespace Qb
open PySem.W PySem.Calls PyProof.Rows L2
abbrev nLaw : List Str := ["_law_script", "_law_state_here", "_law_worth_here", "_law_other", "_law_errors", "_law_others", "_law_which", "_law_error", "_law_k"]
theorem scLaw : FnScope nLaw ["_law_script"] (defScope sLaw) := ⟨rfl, rfl, rfl, by decide +kernel, rfl, by decide +kernel, by decide +kernel⟩
theorem text_from : ∀ (ts : List Str) (k : Nat) (acc : Str) (b : Nat), (∀ t ∈ ts, t.length ≤ b) → (textFrom k acc ts).length ≤ acc.length + ts.length * (b + 2)
  | [], k, acc, b, _ => by simp [textFrom]
  | t :: ts, k, acc, b, h => by
    have ht := h t List.mem_cons_self
    have ih := text_from ts (k + 1) (acc ++ (if k > 0 then ", " else "" : String) ++ t) b fun u hu => h u (List.mem_cons_of_mem _ hu)
    have e : (acc ++ (if k > 0 then ", " else "" : String) ++ t : Str).length ≤ acc.length + 2 + t.length := by
      rw [strLen_append, strLen_append]
      have z1 : (", " : Str).length = 2 := by decide +kernel
      have z2 : ("" : Str).length = 0 := by decide +kernel
      by_cases hk : k > 0
      · rw [if_pos hk]
        omega
      · rw [if_neg hk]
        omega
    show (textFrom (k + 1) _ ts).length ≤ _
    rw [List.length_cons, Nat.succ_mul]
    omega
theorem list_small {ds : List PyData} (hl : ds.length ≤ 70) (h : ∀ d ∈ ds, d.shown.length ≤ 40) : (PyData.list ds).shown.length ≤ sizeLine := by
  have e : ∀ l : List PyData, PyData.shownAll l = l.map PyData.shown := by
    intro l
    induction l with
    | nil => rfl
    | cons a l ih => simp [PyData.shownAll, ih]
  show (listText (PyData.shownAll ds)).length ≤ sizeLine
  rw [e]
  unfold listText
  rw [strLen_append]
  have z := text_from (ds.map PyData.shown) 0 "[" 40 (fun t ht => by
    obtain ⟨d, hd, rfl⟩ := List.mem_map.mp ht
    exact h d hd)
  have z1 : ("[" : Str).length = 1 := by decide +kernel
  have z2 : ("]" : Str).length = 1 := by decide +kernel
  rw [List.length_map] at z
  have : ds.length * (40 + 2) ≤ 70 * 42 := Nat.mul_le_mul_right _ hl
  rw [sizeLine_eq]
  omega
/-- lists of small numbers, a text perhaps behind them, can be read and shown -/
theorem list_wv {K : Frag} {ms : List Int} (hl : ms.length ≤ 64) (hb : ∀ m ∈ ms, 0 ≤ m ∧ m < 10 ^ 30) (more : List (V × PyData)) (hm : more = [] ∨ more = [(V.str "later", PyData.str "later")]) {H : Hp} {l : Addr} (h : H l = some (.lst (ms.map V.int ++ more.map (·.1)))) :
    Wv K H (.ref l) (.list (ms.map PyData.int ++ more.map (·.2))) := by
  have all1 : ∀ d ∈ ms.map PyData.int ++ more.map (·.2), d.canLay0 = true ∧ d.showable = true ∧ d.hasDict = false ∧ d.shown.length ≤ 40 ∧ d.depth = 0 := by
    intro d hd
    rcases List.mem_append.mp hd with z | z
    · obtain ⟨m, hm, rfl⟩ := List.mem_map.mp z
      obtain ⟨m0, m1⟩ := hb m hm
      refine ⟨rfl, ?_, rfl, ?_, rfl⟩
      · show decide (m.natAbs.log2 < 1920) = true
        exact decide_eq_true (small_log m0 m1)
      · have := num_text m0 m1
        show (Str.ofString (toString m)).length ≤ 40
        omega
    · rcases hm with rfl | rfl
      · cases z
      · obtain rfl : d = PyData.str "later" := by simpa using z
        exact ⟨by decide +kernel, rfl, rfl, by decide +kernel, rfl⟩
  have go : ∀ ds : List PyData, (∀ d ∈ ds, d.canLay0 = true ∧ d.showable = true ∧ d.hasDict = false ∧ d.shown.length ≤ 40 ∧ d.depth = 0) → PyData.canLayAll0 ds = true ∧ PyData.showableAll ds = true ∧ PyData.hasDictAll ds = false ∧ PyData.depthAll ds = 0 := by
    intro ds
    induction ds with
    | nil => intro _; exact ⟨rfl, rfl, rfl, rfl⟩
    | cons d ds ih =>
      intro z
      obtain ⟨a1, a2, a3, a4⟩ := ih fun u hu => z u (List.mem_cons_of_mem _ hu)
      obtain ⟨b1, b2, b3, _, b5⟩ := z d List.mem_cons_self
      refine ⟨?_, ?_, ?_, ?_⟩
      · show (d.canLay0 && PyData.canLayAll0 ds) = true
        rw [b1, a1]
        rfl
      · show (d.showable && PyData.showableAll ds) = true
        rw [b2, a2]
        rfl
      · show (d.hasDict || PyData.hasDictAll ds) = false
        rw [b3, a3]
        rfl
      · show max d.depth (PyData.depthAll ds) = 0
        rw [b5, a4]
        rfl
  obtain ⟨c1, c2, c3, c4⟩ := go _ all1
  refine dp_ok (d := .list (ms.map PyData.int ++ more.map (·.2))) ?_ c2 c3 (list_small ?_ fun d hd => (all1 d hd).2.2.2.1) (.lst (SqL.of h) ?_)
  · show (PyData.canLayAll0 _ && decide (PyData.depthAll _ + 1 ≤ 64)) = true
    rw [c1, c4]
    rfl
  · rw [List.length_append, List.length_map, List.length_map]
    rcases hm with rfl | rfl
    · show ms.length + 0 ≤ 70
      omega
    · show ms.length + 1 ≤ 70
      omega
  · rcases hm with rfl | rfl
    · have z := dpInts (K := K) (H := H) ms
      simpa using z
    · have z : ∀ ns : List Int, DpAll K H (ns.map V.int ++ [V.str "later"]) (ns.map PyData.int ++ [PyData.str "later"]) := by
        intro ns
        induction ns with
        | nil => exact .cons (.str _) .nil
        | cons n ns ih => exact .cons (.int n) ih
      exact z ms
theorem dpBools {K : Frag} {H : Hp} : ∀ bs : List Bool, DpAll K H (bs.map V.bl) (bs.map PyData.bool)
  | [] => .nil
  | b :: bs => .cons (.bl b) (dpBools bs)
theorem bools_shaped (bs : List Bool) : SeqAt.shaped (.list (bs.map PyData.bool)) = true := by
  have go : ∀ l : List Bool, PyData.canLayAll0 (l.map PyData.bool) = true ∧ PyData.depthAll (l.map PyData.bool) = 0 := by
    intro l
    induction l with
    | nil => exact ⟨rfl, rfl⟩
    | cons b l ih => exact ⟨by show (true && PyData.canLayAll0 _) = true; rw [ih.1]; rfl, by show max 0 (PyData.depthAll _) = 0; rw [ih.2]; rfl⟩
  obtain ⟨g1, g2⟩ := go bs
  show (PyData.canLayAll0 _ && decide (PyData.depthAll _ + 1 ≤ 64)) = true
  rw [g1, g2]
  rfl
end Qb
end PySem
namespace PySem
namespace Qb
open PySem.W PySem.Calls PyProof.Rows L2
/-- all that the loops need -/
structure Fin2 (K : Frag) (H : Hp) (L1 L2a : Addr) (es1 es2 Cl : List Addr) (v1 v2 : V) : Prop where
  l1 : H L1 = some (.lst (es1.map V.ref))
  l2 : H L2a = some (.lst (es2.map V.ref))
  p1 : Errs H es1 Cl v1
  p2 : Errs H es2 Cl v2
  r1 : ∃ d, Wv K H v1 d
  r2 : ∃ d, Wv K H v2 d
theorem sqT_same {K : Frag} {H H' : Hp} {a : Addr} {xs : List V} (s : Same H H') (h : SqT K H a xs) : SqT K H' a xs := by
  rcases h with (h | ⟨o, h⟩) | h
  · exact .inl (.inl (s _ _ h))
  · exact .inl (.inr ⟨o, s _ _ h⟩)
  · exact .inr h
theorem Dp.same {K : Frag} {H H' : Hp} (s : Same H H') : ∀ {d : PyData} {v : V}, Dp K H v d → Dp K H' v d := by
  intro d v h
  exact Dp.rec (motive_1 := fun v d _ => Dp K H' v d) (motive_2 := fun vs ds _ => DpAll K H' vs ds) .non .bl .int .str (fun h1 _ ih => .lst (s.seq h1) ih) (fun h1 _ ih => .tup (sqT_same s h1) ih) .nil (fun _ _ a b => .cons a b) h
theorem Wv.same {K : Frag} {H H' : Hp} (s : Same H H') {v : V} {d : PyData} (h : Wv K H v d) : Wv K H' v d := by
  rcases h with ⟨h1, h2⟩ | ⟨a, n, e, ha, r⟩
  · exact .inl ⟨Dp.same s h1, h2⟩
  · exact .inr ⟨a, n, e, s _ _ ha, r⟩
theorem Fin2.same {K : Frag} {H H' : Hp} {L1 L2a : Addr} {es1 es2 Cl : List Addr} {v1 v2 : V} (h : Fin2 K H L1 L2a es1 es2 Cl v1 v2) (s : Same H H') : Fin2 K H' L1 L2a es1 es2 Cl v1 v2 :=
  ⟨s _ _ h.l1, s _ _ h.l2, h.p1.same s, h.p2.same s, let ⟨d, z⟩ := h.r1; ⟨d, z.same s⟩, let ⟨d, z⟩ := h.r2; ⟨d, z.same s⟩⟩
theorem errs_at {H : Hp} {v : V} : ∀ {es Cl : List Addr}, Errs H es Cl v → ∀ i, i < Cl.length → ∃ e, es[i]? = some e ∧ ErrAt H e (Cl.getD i 0) v
  | _, _, .nil, i, h => absurd h (Nat.not_lt_zero _)
  | _, _, .cons h t, 0, _ => ⟨_, rfl, h⟩
  | _, _, .cons h t, i + 1, hi => by
    obtain ⟨e, h1, h2⟩ := errs_at t i (Nat.lt_of_succ_lt_succ hi)
    exact ⟨e, h1, h2⟩
end Qb
end PySem
namespace PySem
namespace Qb
open PySem.W PySem.Calls PyProof.Rows L2
def spLaw (K : Frag) : Sp := fun vs H Q _ => ∃ (a : Addr) (ns : List Int), vs = [.ref a] ∧ SqL K H a (ns.map V.int) ∧ ns.length ≤ 63 ∧ ∀ H', Q (.bl true) H'
section
variable {P : Program} {w : World} {K : Frag} {mg : Str → Option Value} {base : Heap} {fI C0 C1 C2 C3 C4 C5 C6 C7 C8 C9 C10 C11 C12 C13 C14 C15 C16 C17 C18 C19 C20 C21 C22 C23 Sh : Addr}
/-- the promises of what the law calls, and where they stand -/
structure Callees (P : Program) (w : World) (K : Frag) (mg : Str → Option Value) (base : Heap) (fI C0 C1 C2 C3 C4 C5 C6 C7 C8 C9 C10 C11 C12 C13 C14 C15 C16 C17 C18 C19 C20 C21 C22 C23 Sh f1 f2 f3 f4 f5 : Addr) (d1 d2 d3 d4 d5 : FuncData) : Prop where
  o1 : FnOk P w K mg base CX0 1 f1 d1 ["_law_script"] (spState K)
  o2 : FnOk P w K mg base CX0 2 f2 d2 ["_law_state_here", "_law_script"] (spWorth K)
  o3 : FnOk P w K mg base CX0 3 f3 d3 ["_law_worth_here"] (spMade [C0, C1, C2, C3, C4, C5, C6, C7, C8, C9, C10, C11, C12, C13, C14, C15, C16, C17, C18, C19, C20, C21, C22, C23, Sh])
  o4 : FnOk P w K mg base CX0 3 f4 d4 ["_law_worth_here"] (spMade [C0, C1, C2, C3, C4, C5, C6, C7, C8, C9, C10, C11, C12, C13, C14, C15, C16, C17, C18, C19, C20, C21, C22, C23, Sh])
  o5 : FnOk P w K mg base CX0 1 f5 d5 ["_law_error"] (spKinds K mg fI [C0, C1, C2, C3, C4, C5, C6, C7, C8, C9, C10, C11, C12, C13, C14, C15, C16, C17, C18, C19, C20, C21, C22, C23])
  g1 : mg "_law_state" = some (.ref f1)
  g2 : mg "_law_worth" = some (.ref f2)
  g3 : mg "_law_made" = some (.ref f3)
  g4 : mg "_law_named" = some (.ref f4)
  g5 : mg "_law_kinds" = some (.ref f5)
  k1 : keepIn K (.ref f1) = true
  k2 : keepIn K (.ref f2) = true
  k3 : keepIn K (.ref f3) = true
  k4 : keepIn K (.ref f4) = true
  k5 : keepIn K (.ref f5) = true
  b1 : Binds K d1 ["_law_script"] []
  b2 : Binds K d2 ["_law_state_here", "_law_script"] []
  b3 : Binds K d3 ["_law_worth_here"] []
  b4 : Binds K d4 ["_law_worth_here"] []
  b5 : Binds K d5 ["_law_error"] []
theorem scr_of {H H1 : Hp} {S R a : Addr} {ns : List Int} (h : SqL K H a (ns.map V.int)) (s : Same H H1) (nS : H S = none) (nR : H R = none) : Scr K H1 S R a ns := by
  intro H2 b
  rcases h with (h | ⟨o, h⟩) | h
  · exact .inl (.inl (b _ _ (ne_of_none h nS) (ne_of_none h nR) (s _ _ h)))
  · exact .inl (.inr ⟨o, b _ _ (ne_of_none h nS) (ne_of_none h nR) (s _ _ h)⟩)
  · exact .inr h
theorem if_no {c : Bool} {A B : Prop} (h : c = false) (b : B) : if c = true then A else B := by
  rw [h, if_neg Bool.false_ne_true]
  exact b
theorem if_yes {c : Bool} {A B : Prop} (h : c = true) (a : A) : if c = true then A else B := by
  rw [if_pos h]
  exact a
theorem law_tail {f f5 : Addr} {d5 : FuncData} (B : Blt mg) (T : AllE K mg fI C0 C1 C2 C3 C4 C5 C6 C7 C8 C9 C10 C11 C12 C13 C14 C15 C16 C17 C18 C19 C20 C21 C22 C23 Sh) (G : EG K fI)
    (o5 : FnOk P w K mg base CX0 1 f5 d5 ["_law_error"] (spKinds K mg fI [C0, C1, C2, C3, C4, C5, C6, C7, C8, C9, C10, C11, C12, C13, C14, C15, C16, C17, C18, C19, C20, C21, C22, C23])) (g5 : mg "_law_kinds" = some (.ref f5)) (k5 : keepIn K (.ref f5) = true) (b5 : Binds K d5 ["_law_error"] [])
    (cdv : Value) (A : Around) (outer : List Env) (s : Shared) (H : Hp) (Q : VK) (E : XK) (hr : Room 3 (A.deeper (envOfC "law" (defScope sLaw) s.heap.objs.size f cdv))) (hg : A.guards = some []) (k : ∀ H', Q (.bl true) H') :
    ∃ t, PSs (cxOf CX0 P w K mg base nLaw "law" (defScope sLaw) f cdv A outer s H E).nox ((defBody sLaw).drop 6) t ∧
      ∀ (H6 : Hp) (x0 x1 : Option V) (v1 v2 : V) (L1 L2a : Addr) (es1 es2 : List Addr), Fin2 K H6 L1 L2a es1 es2 [C0, C1, C2, C3, C4, C5, C6, C7, C8, C9, C10, C11, C12, C13, C14, C15, C16, C17, C18, C19, C20, C21, C22, C23, Sh] v1 v2 →
        t { nx := fun _ H' => Q .non H', rt := Q } [x0, x1, some v1, some v2, some (.ref L1), some (.ref L2a), none, none, none] H6 := by
  have un := hr.un
  have hr1 : Room 1 (A.deeper (envOfC "law" (defScope sLaw) s.heap.objs.size f cdv)) := hr.mono (by decide)
  have hgd : (A.deeper (envOfC "law" (defScope sLaw) s.heap.objs.size f cdv)).guards = some [] := hg
  have hu64 : (A.deeper (envOfC "law" (defScope sLaw) s.heap.objs.size f cdv)).units + 64 < cLine := by omega
  have hu100 : (A.deeper (envOfC "law" (defScope sLaw) s.heap.objs.size f cdv)).units + 100 < cLine := by omega
  refine ⟨_, pss_cons (ps_for PassesOwn.never rfl (pi_range1 rfl B.range (pa_cons pe_int pa_nil)) (pg_name (i := 6) scLaw.nd rfl (Or.inr rfl))
      (pss_cons (ps_for PassesOwn.never rfl (pi_list (pe_lst (pa_cons (pe_ix ix_list (pv 4) (pv 6) (fun _ _ => rfl)) (pa_cons (pe_ix ix_list (pv 5) (pv 6) (fun _ _ => rfl)) pa_nil)))) (pg_name (i := 7) scLaw.nd rfl (Or.inl rfl))
        (pss_cons (ps_if (pt_cmpR (op_neD hu64) (pe_call o5 hr1 rfl g5 k5 b5 .nil pass0 (pa_cons (pv 7) pa_nil))
            (pe_lc (own := [("_law_k", 8)]) (g := gName 8) (tt := tYes) rfl scLaw.nd (pi_range1 rfl B.range (pa_cons pe_int pa_nil)) (blkOk_by (N := nLaw) (sc := defScope sLaw) (by decide +kernel))
              (fun _ _ _ _ _ => pg_name (i := 8) scLaw.nd rfl (Or.inl rfl)) (fun _ _ _ _ _ => pts_nil) (fun _ _ _ _ _ => pe_cmpR op_eq (pv 8) (pv 6) (nomark _))) (nomark _))
          (pss_one (ps_ret pe_bl)) pss_nil)
        (pss_one (ps_if (PW.pt (pw_or (pt_not (pt_val (pe_callB (call_isErr G) (by rfl) B.isi (by decide +kernel) (pa_cons (pv 7) (pa_cons (pe_glob (v := .ref Sh) rfl T.eS.gC rfl) pa_nil)))))
            (pw_or1 (pt_not (pt_val (pe_callB (call_isErr G) (by rfl) B.isi (by decide +kernel) (pa_cons (pv 7) (pa_cons (pe_bltn (v := .ty "ValueError") (by rfl) B.ve (by decide +kernel) rfl) pa_nil))))))))
          (pss_one (ps_ret pe_bl)) pss_nil))))
      (pss_cons (ps_if (PW.pt (pw_or (pt_cmpR (op_neW hu64) (pe_errv (fI := fI) (pe_ix ix_list (pv 4) (pv 6) (fun _ _ => rfl))) (pv 2) (nomark _))
            (pw_or1 (pt_cmpR op_ne (pe_callB (call_reprW hgd hu100) (by rfl) B.repr (by decide +kernel) (pa_cons (pe_errv (fI := fI) (pe_ix ix_list (pv 4) (pv 6) (fun _ _ => rfl))) pa_nil))
              (pe_callB (call_reprW hgd hu100) (by rfl) B.repr (by decide +kernel) (pa_cons (pv 2) pa_nil)) (nomark _)))))
          (pss_one (ps_ret pe_bl)) pss_nil)
      (pss_one (ps_if (PW.pt (pw_or (pt_cmpR (op_neW hu64) (pe_errv (fI := fI) (pe_ix ix_list (pv 5) (pv 6) (fun _ _ => rfl))) (pv 3) (nomark _))
            (pw_or1 (pt_cmpR op_ne (pe_callB (call_reprW hgd hu100) (by rfl) B.repr (by decide +kernel) (pa_cons (pe_errv (fI := fI) (pe_ix ix_list (pv 5) (pv 6) (fun _ _ => rfl))) pa_nil))
              (pe_callB (call_reprW hgd hu100) (by rfl) B.repr (by decide +kernel) (pa_cons (pv 3) pa_nil)) (nomark _)))))
          (pss_one (ps_ret pe_bl)) pss_nil))))) (pss_one (ps_ret pe_bl)), ?_⟩
  intro H6 x0 x1 v1 v2 L1 L2a es1 es2 F6
  refine ⟨25, rfl, by decide, by decide, for_range (lo := 0) (n := 25) (fun i σ H' => ∃ x6 x7 x8, σ = [x0, x1, some v1, some v2, some (.ref L1), some (.ref L2a), x6, x7, x8] ∧ Fin2 K H' L1 L2a es1 es2 [C0, C1, C2, C3, C4, C5, C6, C7, C8, C9, C10, C11, C12, C13, C14, C15, C16, C17, C18, C19, C20, C21, C22, C23, Sh] v1 v2) ⟨none, none, none, rfl, F6⟩ ?_ ?_⟩
  · rintro i σ H' hi ⟨x6, x7, x8, rfl, F7⟩
    obtain ⟨e1, he1, er1⟩ := errs_at F7.p1 i hi
    obtain ⟨e2, he2, er2⟩ := errs_at F7.p2 i hi
    obtain ⟨cx, ms, TC, hms⟩ := T.at i hi
    have at1 : atI (es1.map V.ref) (0 + (i : Int)) = some (.ref e1) := by
      rw [Int.zero_add]
      exact atI_nat (by rw [List.getElem?_map, he1]; rfl)
    have at2 : atI (es2.map V.ref) (0 + (i : Int)) = some (.ref e2) := by
      rw [Int.zero_add]
      exact atI_nat (by rw [List.getElem?_map, he2]; rfl)
    refine ⟨_, rfl, _, rfl, L1, _, _, _, rfl, rfl, sqH F7.l1, at1, _, rfl, _, rfl, L2a, _, _, _, rfl, rfl, sqH F7.l2, at2, (by decide : 2 ≤ sizeLine), fun Lx nLx => ?_⟩
    have s8 := same_upd (o := .lst [V.ref e1, V.ref e2]) nLx
    refine ⟨Lx, rfl, ⟨_, sqH upd_same⟩, for_list (K := K) (a := Lx) (xs := [V.ref e1, V.ref e2]) (fun j σ H' => (∃ x7 x8, σ = [x0, x1, some v1, some v2, some (.ref L1), some (.ref L2a), some (.int (0 + (i : Int))), x7, x8]) ∧ Fin2 K H' L1 L2a es1 es2 [C0, C1, C2, C3, C4, C5, C6, C7, C8, C9, C10, C11, C12, C13, C14, C15, C16, C17, C18, C19, C20, C21, C22, C23, Sh] v1 v2 ∧ H' Lx = some (.lst [V.ref e1, V.ref e2]) ∧ ErrAt H' e1 ([C0, C1, C2, C3, C4, C5, C6, C7, C8, C9, C10, C11, C12, C13, C14, C15, C16, C17, C18, C19, C20, C21, C22, C23, Sh].getD i 0) v1 ∧ ErrAt H' e2 ([C0, C1, C2, C3, C4, C5, C6, C7, C8, C9, C10, C11, C12, C13, C14, C15, C16, C17, C18, C19, C20, C21, C22, C23, Sh].getD i 0) v2)
      ⟨⟨x7, x8, rfl⟩, F7.same s8, upd_same, er1.same s8, er2.same s8⟩ (fun j σ H' _ z => sqH z.2.2.1) ?_ ?_⟩
    · rintro j y σ H' hj ⟨⟨x7, x8, rfl⟩, F9, hLx, ea1, ea2⟩
      obtain ⟨e, v, rfl, er⟩ : ∃ e v, y = .ref e ∧ ErrAt H' e ([C0, C1, C2, C3, C4, C5, C6, C7, C8, C9, C10, C11, C12, C13, C14, C15, C16, C17, C18, C19, C20, C21, C22, C23, Sh].getD i 0) v := by
        match j, hj with
        | 0, hj => exact ⟨e1, v1, (Option.some.inj hj).symm, ea1⟩
        | 1, hj => exact ⟨e2, v2, (Option.some.inj hj).symm, ea2⟩
        | n + 2, hj => exact absurd hj (by simp)
      have shell : kitOne K (.ref ([C0, C1, C2, C3, C4, C5, C6, C7, C8, C9, C10, C11, C12, C13, C14, C15, C16, C17, C18, C19, C20, C21, C22, C23, Sh].getD i 0)) (.ref Sh) = some true := by
        rw [TC.one T.eS]
        rcases hms with ⟨_, rfl⟩ | ⟨rfl, rfl⟩
        · simp [tl24]
        · simp
      -- its kinds
      refine ⟨_, rfl, e, _, v, cx, ms, rfl, TC, er, fun H10 L10 s10 hL10 => ?_⟩
      rw [kinds_eq (x := cx) T hi hms] at hL10
      generalize hbs : (List.range 24).map (fun (j : Nat) => decide ((j : Int) = (i : Int))) = bs
      have eb : (List.range 24).map (fun (j : Nat) => V.bl (decide ((j : Int) = (i : Int)))) = bs.map V.bl := by
        rw [← hbs, List.map_map]
        rfl
      rw [eb] at hL10
      refine ⟨24, rfl, by decide, by decide, fun D hD => lc_range (lo := 0) (n := 24) (fun m H' => H' = L2.upd H10 D (.lst ((List.range m).map fun (j : Nat) => V.bl (decide ((j : Int) = (i : Int)))))) (by simp) (fun m H' hm eH => ?_) (fun H' eH => ?_)⟩
      · subst eH
        refine ⟨rfl, _, rfl, _, rfl, rfl, _, upd_same, ?_, ?_⟩
        · rw [List.length_map, List.length_range]
          exact Nat.lt_trans hm (by decide)
        · rw [upd_upd, List.range_succ, List.map_append]
          have z : (V.int (0 + (m : Int)) = V.int (0 + (i : Int))) ↔ ((m : Int) = (i : Int)) := by simp
          simp only [z, List.map_cons, List.map_nil]
      · subst eH
        have s11 := same_upd (o := .lst ((List.range 24).map fun (j : Nat) => V.bl (decide ((j : Int) = (i : Int))))) hD
        have hD2 : (L2.upd H10 D (.lst ((List.range 24).map fun (j : Nat) => V.bl (decide ((j : Int) = (i : Int)))))) D = some (.lst (bs.map V.bl)) := by
          rw [upd_same, eb]
        have all := s10.trans s11
        have er' := er.same all
        refine ⟨.list (bs.map PyData.bool), .list (bs.map PyData.bool), .lst (SqL.of (s11 _ _ hL10)) (dpBools bs), .lst (SqL.of hD2) (dpBools bs), bools_shaped bs, bools_shaped bs, _, rfl, if_no ?_ ?_⟩
        · rw [SeqAt.eqv_refl _ (SeqAt.canLay_of_shaped (bools_shaped bs))]
          rfl
        -- and what it is below
        refine ⟨_, rfl, e, _, v, .ref Sh, _, true, cx, ms, rfl, .own Sh, TC, er', shell, true, rfl, if_no rfl ?_⟩
        refine ⟨_, rfl, e, _, v, .ty "ValueError", _, true, cx, ms, rfl, .ty _, TC, er', TC.oneT, true, rfl, if_no rfl ?_⟩
        exact ⟨⟨_, _, rfl⟩, F9.same all, all _ _ hLx, ea1.same all, ea2.same all⟩
    · rintro σ H' ⟨⟨x7, x8, rfl⟩, F9, hLx, ea1, ea2⟩
      obtain ⟨da, wa⟩ := F9.r1
      obtain ⟨db, wb⟩ := F9.r2
      refine ⟨_, rfl, _, rfl, L1, _, _, _, rfl, rfl, sqH F9.l1, at1, e1, _, v1, cx, ms, rfl, TC, ea1, _, rfl, rfl, ⟨da, wa⟩, _, rfl, if_no rfl ?_⟩
      refine ⟨_, rfl, _, rfl, L1, _, _, _, rfl, rfl, sqH F9.l1, at1, e1, _, v1, cx, ms, rfl, TC, ea1, v1, da, rfl, wa, _, rfl, v1, da, rfl, wa, rfl, _, rfl, if_no (by simp) ?_⟩
      refine ⟨_, rfl, _, rfl, L2a, _, _, _, rfl, rfl, sqH F9.l2, at2, e2, _, v2, cx, ms, rfl, TC, ea2, _, rfl, rfl, ⟨db, wb⟩, _, rfl, if_no rfl ?_⟩
      refine ⟨_, rfl, _, rfl, L2a, _, _, _, rfl, rfl, sqH F9.l2, at2, e2, _, v2, cx, ms, rfl, TC, ea2, v2, db, rfl, wb, _, rfl, v2, db, rfl, wb, rfl, _, rfl, if_no (by simp) ?_⟩
      exact ⟨_, _, _, rfl, F9⟩
  · rintro σ H' ⟨x6, x7, x8, rfl, F7⟩
    exact k H'
theorem law_body {f f1 f2 f3 f4 f5 : Addr} {d1 d2 d3 d4 d5 : FuncData} (B : Blt mg) (T : AllE K mg fI C0 C1 C2 C3 C4 C5 C6 C7 C8 C9 C10 C11 C12 C13 C14 C15 C16 C17 C18 C19 C20 C21 C22 C23 Sh) (G : EG K fI) (Z : Callees P w K mg base fI C0 C1 C2 C3 C4 C5 C6 C7 C8 C9 C10 C11 C12 C13 C14 C15 C16 C17 C18 C19 C20 C21 C22 C23 Sh f1 f2 f3 f4 f5 d1 d2 d3 d4 d5)
    (cdv : Value) (A : Around) (outer : List Env) (s : Shared) (H : Hp) (vs : List V) (Q : VK) (E : XK) (hr : Room 3 (A.deeper (envOfC "law" (defScope sLaw) s.heap.objs.size f cdv))) (hg : A.guards = some []) (h : spLaw K vs H Q E) :
    ∃ t, PSs (cxOf CX0 P w K mg base nLaw "law" (defScope sLaw) f cdv A outer s H E).nox (defBody sLaw) t ∧ t { nx := fun _ H' => Q .non H', rt := Q } (L2.start nLaw vs) H := by
  have un := hr.un
  have hr1 : Room 1 (A.deeper (envOfC "law" (defScope sLaw) s.heap.objs.size f cdv)) := hr.mono (by decide)
  have hr2 : Room 2 (A.deeper (envOfC "law" (defScope sLaw) s.heap.objs.size f cdv)) := hr.mono (by decide)
  have hgd : (A.deeper (envOfC "law" (defScope sLaw) s.heap.objs.size f cdv)).guards = some [] := hg
  have hu64 : (A.deeper (envOfC "law" (defScope sLaw) s.heap.objs.size f cdv)).units + 64 < cLine := by omega
  have hu100 : (A.deeper (envOfC "law" (defScope sLaw) s.heap.objs.size f cdv)).units + 100 < cLine := by omega
  obtain ⟨a, ns, rfl, hS, hl, k⟩ := h
  obtain ⟨t7, ht7, rd7⟩ := law_tail (P := P) (w := w) (base := base) (f := f) B T G Z.o5 Z.g5 Z.k5 Z.b5 cdv A outer s H Q E hr hg k
  refine ⟨_, pss_cons (ps_set (i := 1) scLaw.nd rfl (.inl rfl) (pe_call Z.o1 hr1 rfl Z.g1 Z.k1 Z.b1 .nil pass0 (pa_cons (pv 0) pa_nil)))
    (pss_cons (ps_set (i := 2) scLaw.nd rfl (.inl rfl) (pe_call Z.o2 hr2 rfl Z.g2 Z.k2 Z.b2 .nil pass0 (pa_cons (pv 1) (pa_cons (pv 0) pa_nil))))
    (pss_cons (ps_set (i := 3) scLaw.nd rfl (.inl rfl) (pe_call Z.o2 hr2 rfl Z.g2 Z.k2 Z.b2 .nil pass0 (pa_cons (pv 1) (pa_cons (pv 0) pa_nil))))
    (pss_cons (ps_set (i := 4) scLaw.nd rfl (.inl rfl) (pe_call Z.o3 hr rfl Z.g3 Z.k3 Z.b3 .nil pass0 (pa_cons (pv 2) pa_nil)))
    (pss_cons (ps_set (i := 5) scLaw.nd rfl (.inl rfl) (pe_call Z.o4 hr rfl Z.g4 Z.k4 Z.b4 .nil pass0 (pa_cons (pv 3) pa_nil)))
    (pss_cons (ps_if (pt_val (pe_callB call_isi (by rfl) B.isi (by decide +kernel) (pa_cons (pv 2) (pa_cons (pe_bltn (v := .ty "list") (by rfl) B.list (by decide +kernel) rfl) pa_nil))))
        (pss_one (ps_expr (pe_bm PySem.F.plainAttrs_list PySem.F.slot_list_append PySem.F.type_list_append mt_append (pv 2) (pa_cons pe_str pa_nil)))) pss_nil)
    ht7))))), ?_⟩
  refine ⟨_, rfl, a, ns, rfl, hS, hl, fun H1 S R rs T1 nS nR s1 => ?_⟩
  have sc1 := scr_of (K := K) hS s1 nS nR
  refine ⟨_, rfl, _, rfl, S, R, a, rs, ns, 0, rfl, T1, by decide, sc1, hl, fun H2 rs2 v1 T2 b2 w1 => ?_⟩
  have sc2 : Scr K H2 S R a ns := fun H' b => sc1 H' (b2.trans b)
  refine ⟨_, rfl, _, rfl, S, R, a, rs2, ns, 2, rfl, T2, by decide, sc2, hl, fun H3 rs3 v2 T3 b3 w2 => ?_⟩
  refine ⟨_, rfl, v1, rfl, fun H4 L1 es1 s4 hL1 p1 => ?_⟩
  refine ⟨_, rfl, v2, rfl, fun H5 L2a es2 s5 hL2 p2 => ?_⟩
  have n12 : ∀ H', Same H5 H' → New H1 H2 H' := fun H' s b o nb hb => by
    have h1 : b ≠ S := ne_of_none_ne T1.at_ nb
    have h2 : b ≠ R := ne_of_none_ne T1.rest nb
    exact s _ _ (s5 _ _ (s4 _ _ (b3 b o h1 h2 hb)))
  have n23 : ∀ H', Same H5 H' → New H2 H3 H' := fun H' s b o nb hb => s _ _ (s5 _ _ (s4 _ _ hb))
  have rd2 : ∃ d, Wv K H5 v2 d := by
    rcases w2 with ⟨d, t, hw, _, _⟩ | ⟨l, ms, rfl, nl, hl3, hm, hb⟩
    · exact ⟨d, hw H5 (n23 H5 (Same.refl H5))⟩
    · exact ⟨_, list_wv hm hb [] (.inl rfl) (by rw [s5 _ _ (s4 _ _ hl3)]; simp)⟩
  have p1' : Errs H5 es1 [C0, C1, C2, C3, C4, C5, C6, C7, C8, C9, C10, C11, C12, C13, C14, C15, C16, C17, C18, C19, C20, C21, C22, C23, Sh] v1 := p1.same s5
  rcases w1 with ⟨d, t, hw, ht, hk⟩ | ⟨l, ms, rfl, nl, hl2, hm, hb⟩
  · -- no list: nothing is put behind it
    refine ⟨_, rfl, v1, .ty "list", t, _, false, rfl, .ty "list", .base (ht H5 (n12 H5 (Same.refl H5))), hk, false, rfl, if_no rfl ?_⟩
    exact rd7 H5 _ _ v1 v2 L1 L2a es1 es2 ⟨s5 _ _ hL1, hL2, p1', p2, ⟨d, hw H5 (n12 H5 (Same.refl H5))⟩, rd2⟩
  · -- a list: a text is put behind it
    have hl5 : H5 l = some (.lst (ms.map V.int)) := n12 H5 (Same.refl H5) l _ nl hl2
    refine ⟨_, rfl, .ref l, .ty "list", _, _, true, rfl, .ty "list", .base (.lst hl5), kit_ty (by decide +kernel), true, rfl, if_yes rfl ?_⟩
    refine ⟨_, rfl, .inl ⟨rfl, _, sqH hl5⟩, l, _, _, rfl, rfl, hl5, ?_, ?_⟩
    · rw [List.length_map, sizeLine_eq]
      omega
    · have off : ∀ b o, b ≠ l → H5 b = some o → (L2.upd H5 l (.lst (ms.map V.int ++ [V.str "later"]))) b = some o := fun b o hbl z => by
        rw [upd_ne hbl]
        exact z
      have unlike : ∀ (L : Addr) (es : List Addr) (v : V), H5 L = some (.lst (es.map V.ref)) → Errs H5 es [C0, C1, C2, C3, C4, C5, C6, C7, C8, C9, C10, C11, C12, C13, C14, C15, C16, C17, C18, C19, C20, C21, C22, C23, Sh] v → L ≠ l := fun L es v h p z => by
        rw [z, hl5] at h
        have e := HO.lst.inj (Option.some.inj h)
        have len := Paired.length p
        cases es with
        | nil => cases len
        | cons e0 es =>
          cases ms with
          | nil => cases e
          | cons m ms => cases e
      have errs : ∀ (es : List Addr) (v : V), Errs H5 es [C0, C1, C2, C3, C4, C5, C6, C7, C8, C9, C10, C11, C12, C13, C14, C15, C16, C17, C18, C19, C20, C21, C22, C23, Sh] v → Errs (L2.upd H5 l (.lst (ms.map V.int ++ [V.str "later"]))) es [C0, C1, C2, C3, C4, C5, C6, C7, C8, C9, C10, C11, C12, C13, C14, C15, C16, C17, C18, C19, C20, C21, C22, C23, Sh] v := fun es v p => Paired.mapP p fun e C ⟨d, ne, h1, h2⟩ =>
        ⟨d, ne, off _ _ (fun z => by rw [z, hl5] at h1; cases h1) h1, off _ _ (fun z => by rw [z, hl5] at h2; cases h2) h2⟩
      refine rd7 _ _ _ (.ref l) v2 L1 L2a es1 es2 ⟨off _ _ (unlike L1 es1 _ (s5 _ _ hL1) p1') (s5 _ _ hL1), off _ _ (unlike L2a es2 _ hL2 p2) hL2, errs _ _ p1', errs _ _ p2, ⟨_, list_wv hm hb [(V.str "later", PyData.str "later")] (.inr rfl) upd_same⟩, ?_⟩
      -- the other value has objects of its own
      have n23' : New H2 H3 (L2.upd H5 l (.lst (ms.map V.int ++ [V.str "later"]))) := fun b o nb hb' => off b o (ne_of_none_ne hl2 nb) (s5 _ _ (s4 _ _ hb'))
      rcases w2 with ⟨d, t, hw, _, _⟩ | ⟨l', ms', rfl, nl', hl3', hm', hb''⟩
      · exact ⟨d, hw _ n23'⟩
      · exact ⟨_, list_wv hm' hb'' [] (.inl rfl) (by rw [n23' _ _ nl' hl3']; simp)⟩
end
end Qb
end PySem
namespace PySem
namespace Qb
open PySem.W PySem.Calls PyProof.Rows L2
/-- a def of the text called from one place that is known: its body need hold there alone -/
theorem run_at {P : Program} {w : World} {K : Frag} {mg : Str → Option Value} {base : Heap} {k : Nat} {x qual : Str} {st : Stmt} {f : Addr} {fd : FuncData} {N ps : List Str} {A : Around} {outer : List Env} {s : Shared} {H : Hp} {args : Args} {us : List Value} {vs : List V} {Q : VK}
    (F : Fun K x qual st f fd) (S : FnScope N ps (defScope st)) (hr : Room (k + 1) A) (e0 : Env0 P w K mg base A outer s H) (hb : BindsTo s fd args (ps.zip us)) (r : Vals vs us) (hl : vs.length = ps.length)
    (body : ∀ cdv, ∃ t, PSs (cxOf CX0 P w K mg base N qual (defScope st) f cdv A outer s H E0).nox (defBody st) t ∧ t { nx := fun _ H' => Q .non H', rt := Q } (L2.start N vs) H) :
    codeAny (model P w) A (.call (.ref f) args) (CR CX0 outer P w H s Q E0) s := by
  obtain ⟨oc, od, kV, doc, pm, an, cdv, ct, osl, rfl, lk, hcd⟩ := F.ex
  have here : K.In s.heap := e0.mod.kin.keeps fun b o z => (e0.bs b o z).1
  have room : s.heap.NoLimit := e0.mod.nolimit.keeps fun b o z => (e0.bs b o z).1
  refine codeAny_call_function hr.depth (here _ _ lk) rfl S.co S.gen rfl (codeRec_of here hcd) (hb _ _ _ _ ?_)
  refine wpAny_newFunctionEnv_cells S.kind (fun y hy => ?_) fun env he s1 hin => ?_
  · obtain ⟨n, v⟩ := y
    rcases S.par n (List.of_mem_zip hy).1 with z | z
    · exact .inl z
    · exact .inr ⟨z, cellsFrom_some _ _ _ (.inl z)⟩
  · subst he
    obtain ⟨t, ht, rd⟩ := body cdv
    have I : Inv (cxOf CX0 P w K mg base N qual (defScope st) f cdv A outer s H E0) [] (L2.start N vs) H s1 := inv_start S hr.hd e0 hl r hin
    refine ⟨room.keeps hin.toInCall.keep, codeAny_func (wpAny_mono (ht.nox.run [] s1 _ H _ I rd) (fun fl s2 hs => ?_) fun e s2 hs => hs)⟩
    have fin : ∀ {σ2 : L2.St} {H2 : Hp} {v : V} {u : Value}, Inv (cxOf CX0 P w K mg base N qual (defScope st) f cdv A outer s H E0) [] σ2 H2 s2 → RelV v u → Q v H2 → CE outer P w H s Q u s2 :=
      fun J rv q => ⟨_, _, J.os, J.bare, J.base, J.hok, rv, q⟩
    cases fl with
    | ret u =>
      obtain ⟨v, σ2, H2, J, rv, q⟩ := hs
      exact fin J rv q
    | next =>
      obtain ⟨σ2, H2, J, q⟩ := hs
      exact fin (v := .non) (u := .none) J rfl q
    | brk =>
      obtain ⟨_, _, _, z⟩ := hs
      exact (z : False).elim
    | cont =>
      obtain ⟨_, _, _, z⟩ := hs
      exact (z : False).elim
/-- the law is called over the script: what the body needs is laid out -/
theorem law_at {P : Program} {w : World} {K : Frag} {mg mb : Str → Option Value} {fa a : Addr} {s : Shared} {vs : List Value} {ns : List Int}
    (KX : K.In s.heap) (hns : s.heap.Ns mainGlobals mg) (hb : s.heap.Ns builtinsNs mb) (hbb : ∀ x : Str, x ≠ "__name__" → mb x = bootBuiltins x) (lim : s.heap.NoLimit) (hg : s.gens = #[])
    (ha : s.heap.get? a = some { cls := .type "list", data := .seq vs.toArray }) (hi : IntsAre vs ns) (hl : ns.length ≤ sizeLine)
    (run : ∀ (base : Heap) (H : Hp), K.In base → base.Ns mainGlobals mg → Env0 P w K mg base callerA [] s H → SqL K H a (ns.map V.int) →
      codeAny (model P w) callerA (.call (.ref fa) ⟨[.ref a], []⟩) (CR CX0 [] P w H s (fun v _ => v = .bl true) E0) s) :
    codeAny (model P w) callerA (.call (.ref fa) ⟨[.ref a], []⟩) (fun r s' => r = .ok (.ret (.bool true)) ∧ OldK s.heap s'.heap ∧ s'.os = s.os ∧ AllBare s'.gens) s := by
  have rel := vals_ints hi
  have many := hi.length
  -- the script is tracked, as a thing that is known, where it is none of the module's own
  obtain ⟨H, hH⟩ : ∃ H : Hp, ∀ b, H b = if b = a ∧ K.lookup a = none then some (.frz { cls := .type "list", data := .seq vs.toArray } (.lst (ns.map V.int))) else none := ⟨_, fun _ => rfl⟩
  have only : ∀ b u, H b = some u → b = a ∧ K.lookup a = none ∧ u = .frz { cls := .type "list", data := .seq vs.toArray } (.lst (ns.map V.int)) := fun b u z => by
    rw [hH] at z
    by_cases c : b = a ∧ K.lookup a = none
    · rw [if_pos c] at z
      exact ⟨c.1, c.2, (Option.some.inj z).symm⟩
    · rw [if_neg c] at z
      cases z
  have sq : SqL K H a (ns.map V.int) := by
    cases hk : K.lookup a with
    | none => exact .inl (.inr ⟨_, by rw [hH]; exact if_pos ⟨rfl, hk⟩⟩)
    | some o =>
      have e := KX a o hk
      rw [ha] at e
      cases e
      exact .inr ⟨_, vs.toArray, _, hk, rfl, rfl, rfl, by rw [List.size_toArray, many]; exact hl, by simpa using rel⟩
  have ok : HOk P w H s.heap := fun b u z => by
    obtain ⟨rfl, _, rfl⟩ := only b u z
    exact ⟨ha, by rw [List.length_map]; exact hl, vs, _, rel, ha⟩
  have kept : ∀ b o, s.heap.get? b = some o → H b = none → (hidT s.heap H).get? b = some o := fun b o z n => hidT_get z n
  have baseK : K.In (hidT s.heap H) := fun b o z => kept b o (KX b o z) (by
    cases q : H b with
    | none => rfl
    | some u =>
      obtain ⟨rfl, n, _⟩ := only b u q
      rw [n] at z
      cases z)
  have baseN : ∀ (b : Addr) (m : Str → Option Value), s.heap.Ns b m → (hidT s.heap H).Ns b m := fun b m ⟨o, es, ep, z, d, r⟩ => ⟨o, es, ep, kept b o z (by
    cases q : H b with
    | none => rfl
    | some u =>
      obtain ⟨rfl, _, _⟩ := only b u q
      rw [ha] at z
      cases z
      cases d), d, r⟩
  have env : Env0 P w K mg (hidT s.heap H) callerA [] s H := {
    frames := rfl
    mod := ⟨baseK, baseN _ _ hns, ⟨mb, baseN _ _ hb, hbb⟩, let ⟨m, z1, z2⟩ := lim; ⟨m, baseN _ _ z1, z2⟩⟩
    bs := fun b o z => of_hidT z
    bsz := Nat.le_of_eq (hidT_size _ _)
    funs := trivial
    frf := fun b z => nomatch z
    hok := ok
    bare := .of_eq hg }
  refine codeAny_mono (run _ H baseK (baseN _ _ hns) env sq) fun r s' z => ?_
  cases r with
  | error e => exact z.elim
  | ok fl =>
    cases fl with
    | ret u =>
      obtain ⟨v, H', h1, h2, h3, h4, h5, h6⟩ := z
      obtain rfl : v = .bl true := h6
      obtain rfl : u = Value.bool true := h5
      refine ⟨rfl, OldK.of_keep fun b o y => ?_, h1, h2⟩
      cases q : H b with
      | none => exact h3.keep b o y q (fun z => nomatch z) (fun z => nomatch z)
      | some t =>
        obtain ⟨rfl, _, rfl⟩ := only b t q
        have q2 := h3.frzs _ _ _ q
        obtain ⟨g1, _⟩ := h4 _ _ q2
        rw [ha] at y
        cases y
        exact g1
    | next => exact z.elim
    | brk => exact z.elim
    | cont => exact z.elim
end Qb
end PySem
namespace PySem
namespace Qb
open PySem.W PySem.Calls PyProof.Rows L2
/-- a class of errors, from what is found in the written part -/
theorem ec_mk {K : Frag} {mg : Str → Option Value} {h : Heap} {fI C N : Addr} {x nm q : Str} {ms bs : List Value} {sn : List Str} {sub : List Value} {ab : Bool} {col : Option Bool} {dd : Option Addr} {k0 k1 k2 k3 k5 : Option Value}
    (X : K.In h) (G : h.Ns mainGlobals mg) (a : nsIn K mainGlobals x = some (some (.ref C))) (l : K.lookup C = some (excClassObj nm q C N bs ms true sn sub ab col dd k0 k1 k2 k3 k5 "ValueError.__new__")) (rv : HandSPX.refsVE ms = true)
    (sa : findIn K (.ref C) "__setattr__" = some (some (.builtin "object.__setattr__"))) (ga : findIn K (.ref C) "__getattribute__" = some (some (.builtin "BaseException.__getattribute__"))) (gg : findIn K (.ref C) "__getattr__" = some none)
    (no : findIn K (.ref C) "value" = some none) (iC : findIn K (.ref C) "__init__" = some (some (.ref fI))) (kC : keepIn K (.ref C) = true) (cc : findIn K (.ref C) "__class__" = some (some (.builtin "object.__class__"))) : EC K mg fI x C ms :=
  ⟨mg_of X G a, ⟨nm, q, N, bs, sn, sub, ab, col, dd, k0, k1, k2, k3, k5, l⟩, rv, sa, ga, gg, no, iC, kC, cc⟩
theorem fun_of {K : Frag} {x qual : Str} {st : Stmt} {f : Addr} {oc : Value} {od an : Option Addr} {osl : Array (Option Value)} {kV doc pm cdv ct : Value} (l : K.lookup f = some ⟨oc, od, .func (fnOf x qual (defArgs st) (defBody st) (defScope st) .none kV doc pm an cdv ct), osl⟩)
    (c : codeIn K cdv qual = true) (k : keepIn K (.ref f) = true) : ∃ fd, fd = fnOf x qual (defArgs st) (defBody st) (defScope st) .none kV doc pm an cdv ct ∧ Fun K x qual st f fd := ⟨_, rfl, fun_mk l c k⟩
/-- the law holds, by what the text's top has left -/
theorem law_holds {P : Program} {w : World} {K : Frag} {mg mb : Str → Option Value} {s : Shared} {fa a : Addr} {vs : List Value} {ns : List Int} {fI C0 C1 C2 C3 C4 C5 C6 C7 C8 C9 C10 C11 C12 C13 C14 C15 C16 C17 C18 C19 C20 C21 C22 C23 Sh f1 f2 f3 f4 f5 f6 f7 : Addr} {dI d1 d2 d3 d4 d5 d6 d7 : FuncData}
    (KX : K.In s.heap) (hns : s.heap.Ns mainGlobals mg) (hb : s.heap.Ns builtinsNs mb) (hbb : ∀ x : Str, x ≠ "__name__" → mb x = bootBuiltins x) (lim : s.heap.NoLimit) (hg : s.gens = #[])
    (ha : s.heap.get? a = some { cls := .type "list", data := .seq vs.toArray }) (hi : IntsAre vs ns) (hl : ns.length ≤ 63)
    (B : Blt mg) (G : EG K fI) (T : AllE K mg fI C0 C1 C2 C3 C4 C5 C6 C7 C8 C9 C10 C11 C12 C13 C14 C15 C16 C17 C18 C19 C20 C21 C22 C23 Sh) (FI : Fun K "__init__" "ShellError.__init__" sInit fI dI)
    (F1 : Fun K "_law_state" "_law_state" sState f1 d1) (g1 : mg "_law_state" = some (.ref f1))
    (F2 : Fun K "_law_worth" "_law_worth" sWorth f2 d2) (g2 : mg "_law_worth" = some (.ref f2))
    (F3 : Fun K "_law_made" "_law_made" sMade f3 d3) (g3 : mg "_law_made" = some (.ref f3))
    (F4 : Fun K "_law_named" "_law_named" sNamed f4 d4) (g4 : mg "_law_named" = some (.ref f4))
    (F5 : Fun K "_law_kinds" "_law_kinds" sKinds f5 d5) (g5 : mg "_law_kinds" = some (.ref f5))
    (F6 : Fun K "_law_draw" "_law_draw" sDraw f6 d6) (g6 : mg "_law_draw" = some (.ref f6))
    (F7 : Fun K "law" "law" sLaw f7 d7) (g7 : mg "law" = some (.ref f7))
    (hfa : mg "law" = some (.ref fa)) : codeAny (model P w) callerA (.call (.ref fa) ⟨[.ref a], []⟩) (fun r s' => r = .ok (.ret (.bool true)) ∧ OldK s.heap s'.heap ∧ s'.os = s.os ∧ AllBare s'.gens) s := by
  have e := hfa.symm.trans g7
  cases e
  have b1 := F1.binds (ps := ["_law_script"]) fun _ _ _ _ _ _ us hl => match us, hl with | [_], _ => rfl
  have b2 := F2.binds (ps := ["_law_state_here", "_law_script"]) fun _ _ _ _ _ _ us hl => match us, hl with | [_, _], _ => rfl
  have b3 := F3.binds (ps := ["_law_worth_here"]) fun _ _ _ _ _ _ us hl => match us, hl with | [_], _ => rfl
  have b4 := F4.binds (ps := ["_law_worth_here"]) fun _ _ _ _ _ _ us hl => match us, hl with | [_], _ => rfl
  have b5 := F5.binds (ps := ["_law_error"]) fun _ _ _ _ _ _ us hl => match us, hl with | [_], _ => rfl
  have b6 := F6.binds (ps := ["_law_state_here", "_law_many"]) fun _ _ _ _ _ _ us hl => match us, hl with | [_, _], _ => rfl
  have bP : ∀ s : Shared, K.In s.heap → ∀ a u, BindsTo s dI ⟨[.ref a, u], []⟩ [(("self" : Str), .ref a), (("value" : Str), u)] := by
    obtain ⟨oc, od, kV, doc, pm, an, cdv, ct, osl, rfl, lk, hcd⟩ := FI.ex
    exact fun s _ a u => .of_eq rfl
  have bK : ∀ s : Shared, K.In s.heap → ∀ a u, BindsTo s dI ⟨[.ref a], [(("value" : Str), u)]⟩ [(("self" : Str), .ref a), (("value" : Str), u)] := by
    obtain ⟨oc, od, kV, doc, pm, an, cdv, ct, osl, rfl, lk, hcd⟩ := FI.ex
    exact fun s _ a u => .of_eq rfl
  have b7 : ∀ (s : Shared) (u : Value), BindsTo s d7 ⟨[u], []⟩ ((["_law_script"] : List Str).zip [u]) := by
    obtain ⟨oc, od, kV, doc, pm, an, cdv, ct, osl, rfl, lk, hcd⟩ := F7.ex
    exact fun s u => .of_eq rfl
  refine law_at KX hns hb hbb lim hg ha hi (Nat.le_trans hl (by decide)) fun base H hK hN env sq => ?_
  have Z : Callees P w K mg base fI C0 C1 C2 C3 C4 C5 C6 C7 C8 C9 C10 C11 C12 C13 C14 C15 C16 C17 C18 C19 C20 C21 C22 C23 Sh f1 f2 f3 f4 f5 d1 d2 d3 d4 d5 := {
    o1 := ok_state F1 B
    o2 := ok_worth F2 B F6 g6 b6
    o3 := ok_made F3 FI T G bP bK
    o4 := ok_named F4 FI T G bP bK
    o5 := ok_kinds F5 B T G
    g1 := g1
    g2 := g2
    g3 := g3
    g4 := g4
    g5 := g5
    k1 := F1.kp
    k2 := F2.kp
    k3 := F3.kp
    k4 := F4.kp
    k5 := F5.kp
    b1 := b1
    b2 := b2
    b3 := b3
    b4 := b4
    b5 := b5 }
  have hr : Room 4 callerA := ⟨rfl, by decide, by decide⟩
  exact run_at (us := [.ref a]) (vs := [.ref a]) F7 scLaw hr env (b7 s (.ref a)) (.cons rfl .nil) rfl fun cdv => law_body B T G Z cdv callerA [] s H [.ref a] (fun v _ => v = V.bl true) E0 (hr.deeper _) rfl ⟨a, ns, rfl, sq, hl, fun _ => rfl⟩
end Qb
end PySem
open PySem PySem.W PyProof.Rows
set_option maxRecDepth 100000 in
set_option maxHeartbeats 0 in
theorem PySem.Challenge.cw_quotedback_k00_errors_hold_their_value_holds : PySem.Challenge.rw_quotedback_k00_errors_hold_their_value.Holds := by
  w_on; o_law; k_head; (case hw => w_witness2)
  k_fill
  refine Att.attach_call (l := PySem.Challenge.rw_quotedback_k00_errors_hold_their_value) (n := 63) rfl rfl ?F
  case F =>
    intro w s₀ s₁ mg mb fa o pm cd doc a vs ns G Y ho hd hcd hmg hobj hints hlen hg
    have KX := kIn_of Y
    refine' PySem.Qb.law_holds KX G.T.g G.T.b G.T.builtins G.T.nolimit hg hobj hints hlen
      ⟨mg_none_of KX G.T.g ?z0, mg_none_of KX G.T.g ?z1, mg_none_of KX G.T.g ?z2, mg_none_of KX G.T.g ?z3, mg_none_of KX G.T.g ?z4, mg_none_of KX G.T.g ?z5, mg_none_of KX G.T.g ?z6, mg_none_of KX G.T.g ?z7, mg_none_of KX G.T.g ?z8⟩
      ⟨?tI, ?hn, ?ht⟩
      ⟨PySem.Qb.ec_mk KX G.T.g ?a0 ?l0 ?r0 ?sa0 ?ga0 ?gg0 ?no0 ?iC0 ?kC0 ?cc0,
       PySem.Qb.ec_mk KX G.T.g ?a1 ?l1 ?r1 ?sa1 ?ga1 ?gg1 ?no1 ?iC1 ?kC1 ?cc1,
       PySem.Qb.ec_mk KX G.T.g ?a2 ?l2 ?r2 ?sa2 ?ga2 ?gg2 ?no2 ?iC2 ?kC2 ?cc2,
       PySem.Qb.ec_mk KX G.T.g ?a3 ?l3 ?r3 ?sa3 ?ga3 ?gg3 ?no3 ?iC3 ?kC3 ?cc3,
       PySem.Qb.ec_mk KX G.T.g ?a4 ?l4 ?r4 ?sa4 ?ga4 ?gg4 ?no4 ?iC4 ?kC4 ?cc4,
       PySem.Qb.ec_mk KX G.T.g ?a5 ?l5 ?r5 ?sa5 ?ga5 ?gg5 ?no5 ?iC5 ?kC5 ?cc5,
       PySem.Qb.ec_mk KX G.T.g ?a6 ?l6 ?r6 ?sa6 ?ga6 ?gg6 ?no6 ?iC6 ?kC6 ?cc6,
       PySem.Qb.ec_mk KX G.T.g ?a7 ?l7 ?r7 ?sa7 ?ga7 ?gg7 ?no7 ?iC7 ?kC7 ?cc7,
       PySem.Qb.ec_mk KX G.T.g ?a8 ?l8 ?r8 ?sa8 ?ga8 ?gg8 ?no8 ?iC8 ?kC8 ?cc8,
       PySem.Qb.ec_mk KX G.T.g ?a9 ?l9 ?r9 ?sa9 ?ga9 ?gg9 ?no9 ?iC9 ?kC9 ?cc9,
       PySem.Qb.ec_mk KX G.T.g ?a10 ?l10 ?r10 ?sa10 ?ga10 ?gg10 ?no10 ?iC10 ?kC10 ?cc10,
       PySem.Qb.ec_mk KX G.T.g ?a11 ?l11 ?r11 ?sa11 ?ga11 ?gg11 ?no11 ?iC11 ?kC11 ?cc11,
       PySem.Qb.ec_mk KX G.T.g ?a12 ?l12 ?r12 ?sa12 ?ga12 ?gg12 ?no12 ?iC12 ?kC12 ?cc12,
       PySem.Qb.ec_mk KX G.T.g ?a13 ?l13 ?r13 ?sa13 ?ga13 ?gg13 ?no13 ?iC13 ?kC13 ?cc13,
       PySem.Qb.ec_mk KX G.T.g ?a14 ?l14 ?r14 ?sa14 ?ga14 ?gg14 ?no14 ?iC14 ?kC14 ?cc14,
       PySem.Qb.ec_mk KX G.T.g ?a15 ?l15 ?r15 ?sa15 ?ga15 ?gg15 ?no15 ?iC15 ?kC15 ?cc15,
       PySem.Qb.ec_mk KX G.T.g ?a16 ?l16 ?r16 ?sa16 ?ga16 ?gg16 ?no16 ?iC16 ?kC16 ?cc16,
       PySem.Qb.ec_mk KX G.T.g ?a17 ?l17 ?r17 ?sa17 ?ga17 ?gg17 ?no17 ?iC17 ?kC17 ?cc17,
       PySem.Qb.ec_mk KX G.T.g ?a18 ?l18 ?r18 ?sa18 ?ga18 ?gg18 ?no18 ?iC18 ?kC18 ?cc18,
       PySem.Qb.ec_mk KX G.T.g ?a19 ?l19 ?r19 ?sa19 ?ga19 ?gg19 ?no19 ?iC19 ?kC19 ?cc19,
       PySem.Qb.ec_mk KX G.T.g ?a20 ?l20 ?r20 ?sa20 ?ga20 ?gg20 ?no20 ?iC20 ?kC20 ?cc20,
       PySem.Qb.ec_mk KX G.T.g ?a21 ?l21 ?r21 ?sa21 ?ga21 ?gg21 ?no21 ?iC21 ?kC21 ?cc21,
       PySem.Qb.ec_mk KX G.T.g ?a22 ?l22 ?r22 ?sa22 ?ga22 ?gg22 ?no22 ?iC22 ?kC22 ?cc22,
       PySem.Qb.ec_mk KX G.T.g ?a23 ?l23 ?r23 ?sa23 ?ga23 ?gg23 ?no23 ?iC23 ?kC23 ?cc23,
       PySem.Qb.ec_mk KX G.T.g ?a24 ?l24 ?r24 ?sa24 ?ga24 ?gg24 ?no24 ?iC24 ?kC24 ?cc24,
       ?nd⟩
      (L2.fun_mk ?lI ?cI ?kI)
      (L2.fun_mk ?lf1 ?cf1 ?kf1) (mg_of KX G.T.g ?af1)
      (L2.fun_mk ?lf2 ?cf2 ?kf2) (mg_of KX G.T.g ?af2)
      (L2.fun_mk ?lf3 ?cf3 ?kf3) (mg_of KX G.T.g ?af3)
      (L2.fun_mk ?lf4 ?cf4 ?kf4) (mg_of KX G.T.g ?af4)
      (L2.fun_mk ?lf5 ?cf5 ?kf5) (mg_of KX G.T.g ?af5)
      (L2.fun_mk ?lf6 ?cf6 ?kf6) (mg_of KX G.T.g ?af6)
      (L2.fun_mk ?lf7 ?cf7 ?kf7) (mg_of KX G.T.g ?af7) hmg
    (case a24 => k_is)
    (case l24 => k_is)
    (case r24 => first | rfl | decide +kernel)
    (case sa24 => k_is)
    (case ga24 => k_is)
    (case gg24 => k_is)
    (case no24 => k_is)
    (case iC24 => k_is)
    (case kC24 => k_is)
    (case cc24 => k_is)
    (case a0 => k_is)
    (case l0 => k_is)
    (case r0 => first | rfl | decide +kernel)
    (case sa0 => k_is)
    (case ga0 => k_is)
    (case gg0 => k_is)
    (case no0 => k_is)
    (case iC0 => k_is)
    (case kC0 => k_is)
    (case cc0 => k_is)
    (case a1 => k_is)
    (case l1 => k_is)
    (case r1 => first | rfl | decide +kernel)
    (case sa1 => k_is)
    (case ga1 => k_is)
    (case gg1 => k_is)
    (case no1 => k_is)
    (case iC1 => k_is)
    (case kC1 => k_is)
    (case cc1 => k_is)
    (case a2 => k_is)
    (case l2 => k_is)
    (case r2 => first | rfl | decide +kernel)
    (case sa2 => k_is)
    (case ga2 => k_is)
    (case gg2 => k_is)
    (case no2 => k_is)
    (case iC2 => k_is)
    (case kC2 => k_is)
    (case cc2 => k_is)
    (case a3 => k_is)
    (case l3 => k_is)
    (case r3 => first | rfl | decide +kernel)
    (case sa3 => k_is)
    (case ga3 => k_is)
    (case gg3 => k_is)
    (case no3 => k_is)
    (case iC3 => k_is)
    (case kC3 => k_is)
    (case cc3 => k_is)
    (case a4 => k_is)
    (case l4 => k_is)
    (case r4 => first | rfl | decide +kernel)
    (case sa4 => k_is)
    (case ga4 => k_is)
    (case gg4 => k_is)
    (case no4 => k_is)
    (case iC4 => k_is)
    (case kC4 => k_is)
    (case cc4 => k_is)
    (case a5 => k_is)
    (case l5 => k_is)
    (case r5 => first | rfl | decide +kernel)
    (case sa5 => k_is)
    (case ga5 => k_is)
    (case gg5 => k_is)
    (case no5 => k_is)
    (case iC5 => k_is)
    (case kC5 => k_is)
    (case cc5 => k_is)
    (case a6 => k_is)
    (case l6 => k_is)
    (case r6 => first | rfl | decide +kernel)
    (case sa6 => k_is)
    (case ga6 => k_is)
    (case gg6 => k_is)
    (case no6 => k_is)
    (case iC6 => k_is)
    (case kC6 => k_is)
    (case cc6 => k_is)
    (case a7 => k_is)
    (case l7 => k_is)
    (case r7 => first | rfl | decide +kernel)
    (case sa7 => k_is)
    (case ga7 => k_is)
    (case gg7 => k_is)
    (case no7 => k_is)
    (case iC7 => k_is)
    (case kC7 => k_is)
    (case cc7 => k_is)
    (case a8 => k_is)
    (case l8 => k_is)
    (case r8 => first | rfl | decide +kernel)
    (case sa8 => k_is)
    (case ga8 => k_is)
    (case gg8 => k_is)
    (case no8 => k_is)
    (case iC8 => k_is)
    (case kC8 => k_is)
    (case cc8 => k_is)
    (case a9 => k_is)
    (case l9 => k_is)
    (case r9 => first | rfl | decide +kernel)
    (case sa9 => k_is)
    (case ga9 => k_is)
    (case gg9 => k_is)
    (case no9 => k_is)
    (case iC9 => k_is)
    (case kC9 => k_is)
    (case cc9 => k_is)
    (case a10 => k_is)
    (case l10 => k_is)
    (case r10 => first | rfl | decide +kernel)
    (case sa10 => k_is)
    (case ga10 => k_is)
    (case gg10 => k_is)
    (case no10 => k_is)
    (case iC10 => k_is)
    (case kC10 => k_is)
    (case cc10 => k_is)
    (case a11 => k_is)
    (case l11 => k_is)
    (case r11 => first | rfl | decide +kernel)
    (case sa11 => k_is)
    (case ga11 => k_is)
    (case gg11 => k_is)
    (case no11 => k_is)
    (case iC11 => k_is)
    (case kC11 => k_is)
    (case cc11 => k_is)
    (case a12 => k_is)
    (case l12 => k_is)
    (case r12 => first | rfl | decide +kernel)
    (case sa12 => k_is)
    (case ga12 => k_is)
    (case gg12 => k_is)
    (case no12 => k_is)
    (case iC12 => k_is)
    (case kC12 => k_is)
    (case cc12 => k_is)
    (case a13 => k_is)
    (case l13 => k_is)
    (case r13 => first | rfl | decide +kernel)
    (case sa13 => k_is)
    (case ga13 => k_is)
    (case gg13 => k_is)
    (case no13 => k_is)
    (case iC13 => k_is)
    (case kC13 => k_is)
    (case cc13 => k_is)
    (case a14 => k_is)
    (case l14 => k_is)
    (case r14 => first | rfl | decide +kernel)
    (case sa14 => k_is)
    (case ga14 => k_is)
    (case gg14 => k_is)
    (case no14 => k_is)
    (case iC14 => k_is)
    (case kC14 => k_is)
    (case cc14 => k_is)
    (case a15 => k_is)
    (case l15 => k_is)
    (case r15 => first | rfl | decide +kernel)
    (case sa15 => k_is)
    (case ga15 => k_is)
    (case gg15 => k_is)
    (case no15 => k_is)
    (case iC15 => k_is)
    (case kC15 => k_is)
    (case cc15 => k_is)
    (case a16 => k_is)
    (case l16 => k_is)
    (case r16 => first | rfl | decide +kernel)
    (case sa16 => k_is)
    (case ga16 => k_is)
    (case gg16 => k_is)
    (case no16 => k_is)
    (case iC16 => k_is)
    (case kC16 => k_is)
    (case cc16 => k_is)
    (case a17 => k_is)
    (case l17 => k_is)
    (case r17 => first | rfl | decide +kernel)
    (case sa17 => k_is)
    (case ga17 => k_is)
    (case gg17 => k_is)
    (case no17 => k_is)
    (case iC17 => k_is)
    (case kC17 => k_is)
    (case cc17 => k_is)
    (case a18 => k_is)
    (case l18 => k_is)
    (case r18 => first | rfl | decide +kernel)
    (case sa18 => k_is)
    (case ga18 => k_is)
    (case gg18 => k_is)
    (case no18 => k_is)
    (case iC18 => k_is)
    (case kC18 => k_is)
    (case cc18 => k_is)
    (case a19 => k_is)
    (case l19 => k_is)
    (case r19 => first | rfl | decide +kernel)
    (case sa19 => k_is)
    (case ga19 => k_is)
    (case gg19 => k_is)
    (case no19 => k_is)
    (case iC19 => k_is)
    (case kC19 => k_is)
    (case cc19 => k_is)
    (case a20 => k_is)
    (case l20 => k_is)
    (case r20 => first | rfl | decide +kernel)
    (case sa20 => k_is)
    (case ga20 => k_is)
    (case gg20 => k_is)
    (case no20 => k_is)
    (case iC20 => k_is)
    (case kC20 => k_is)
    (case cc20 => k_is)
    (case a21 => k_is)
    (case l21 => k_is)
    (case r21 => first | rfl | decide +kernel)
    (case sa21 => k_is)
    (case ga21 => k_is)
    (case gg21 => k_is)
    (case no21 => k_is)
    (case iC21 => k_is)
    (case kC21 => k_is)
    (case cc21 => k_is)
    (case a22 => k_is)
    (case l22 => k_is)
    (case r22 => first | rfl | decide +kernel)
    (case sa22 => k_is)
    (case ga22 => k_is)
    (case gg22 => k_is)
    (case no22 => k_is)
    (case iC22 => k_is)
    (case kC22 => k_is)
    (case cc22 => k_is)
    (case a23 => k_is)
    (case l23 => k_is)
    (case r23 => first | rfl | decide +kernel)
    (case sa23 => k_is)
    (case ga23 => k_is)
    (case gg23 => k_is)
    (case no23 => k_is)
    (case iC23 => k_is)
    (case kC23 => k_is)
    (case cc23 => k_is)
    (case nd => decide)
    (case z0 => k_is)
    (case z1 => k_is)
    (case z2 => k_is)
    (case z3 => k_is)
    (case z4 => k_is)
    (case z5 => k_is)
    (case z6 => k_is)
    (case z7 => k_is)
    (case z8 => k_is)
    (case tI => k_is)
    (case hn => k_is)
    (case ht => k_is)
    (case lI => k_is)
    (case cI => k_is)
    (case kI => k_is)
    (case af1 => k_is)
    (case lf1 => k_is)
    (case cf1 => k_is)
    (case kf1 => k_is)
    (case af2 => k_is)
    (case lf2 => k_is)
    (case cf2 => k_is)
    (case kf2 => k_is)
    (case af3 => k_is)
    (case lf3 => k_is)
    (case cf3 => k_is)
    (case kf3 => k_is)
    (case af4 => k_is)
    (case lf4 => k_is)
    (case cf4 => k_is)
    (case kf4 => k_is)
    (case af5 => k_is)
    (case lf5 => k_is)
    (case cf5 => k_is)
    (case kf5 => k_is)
    (case af6 => k_is)
    (case lf6 => k_is)
    (case cf6 => k_is)
    (case kf6 => k_is)
    (case af7 => k_is)
    (case lf7 => k_is)
    (case cf7 => k_is)
    (case kf7 => k_is)
