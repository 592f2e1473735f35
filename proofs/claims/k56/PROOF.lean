import PyProof.Rows.All
import Wide.All
import OpenK.AllK
import Wide.FinOn
import PyProof.EqAt
import PyProof.EqKinds
import PyProof.TupleCall
import PyProof.RulesMatchSeq
import PyProof.Rows.MatchSeqLen
import HandS.ForMost
import HandS.Walk
import HandS.Iter
import HandS.Text
import HandS.IsInst
import PyProof.RulesMatchSingle
import HandS.Wide
import HandS.Style
import HandS.WideBits
import PyProof.Rows.StrRev
import PyProof.EnumMake
import PyProof.Draws
import HandS.More
import HandS.TupLe
import HandS.Replace
import HandS.StrMore
import HandS.SetTxt0
import HandS.Set
import HandS.SetFor
import PyProof.Rows.SetFrom
import HandS.Strs
import PyProof.StrWalks
import PyProof.SetRoads
import KE.GoesEnumKw
import PyProof.Rows.CallKwBuiltin
import PyProof.Rows.Exc
import HandS.Call
import HandS.SortInts
import PyProof.Rows.SortStr
import PyProof.Rows.StrMeet
import PyProof.WalkInts
import PyProof.FString5
import PyProof.StrOps
import PyProof.StrLawsJoin
import PyProof.StrLawsOcc
import PyProof.StrLawsLast
import HandS.Flow
import HandS.Dict
import PyProof.ReprRoads
import PyProof.StrLawsRepr
import PySem.Challenge.RW_quotedback_k56_each_filter_by_its_lines
set_option Elab.async false
set_option linter.all false
set_option maxRecDepth 100000
set_option maxHeartbeats 8000000
namespace PySem
namespace Qb
open PySem.W PySem.Calls PyProof.Rows L2
/-! # match over tuples, texts and names -/
/-- what a pattern asks: the values of its names in their order, or that it does not fit -/
abbrev PatR := V → Hp → (Option (List V) → Prop) → Prop
def PatE (X : Cx) (pins : List (Addr × Obj)) (σ : L2.St) (H : Hp) (ns : List Str) (Q : Option (List V) → Prop) (res : Option (List (Str × Value))) (s : Shared) : Prop :=
  Inv X pins σ H s ∧ match res with
    | none => Q none
    | some bs => bs.map (·.1) = ns ∧ ∃ vs, Vals vs (bs.map (·.2)) ∧ Q (some vs)
structure PPt (X : Cx) (pat : Pattern) (ns : List Str) (r : PatR) : Prop where
  run : ∀ (pins : List (Addr × Obj)) (s : Shared) (σ : L2.St) (H : Hp) (v : V) (u : Value) (Q : Option (List V) → Prop), Inv X pins σ H s → RelV v u → r v H Q →
    wpAny (model X.prog X.w) X.A (matchPattern pat X.env u) (fun res s1 => PatE X pins σ H ns Q res s1) X.xe s
def rEach : List PatR → List V → Hp → (Option (List V) → Prop) → Prop
  | r :: rs, x :: xs, H, Q => r x H fun o => match o with
    | none => Q none
    | some vs => rEach rs xs H fun o' => match o' with
      | none => Q none
      | some more => Q (some (vs ++ more))
  | _, _, _, Q => Q (some [])
structure PPs (X : Cx) (pats : List Pattern) (ns : List Str) (rs : List PatR) : Prop where
  len : rs.length = pats.length
  run : ∀ (pins : List (Addr × Obj)) (s : Shared) (σ : L2.St) (H : Hp) (vs : List V) (us : List Value) (Q : Option (List V) → Prop), Inv X pins σ H s → Vals vs us → vs.length = pats.length → rEach rs vs H Q →
    wpAny (model X.prog X.w) X.A (matchEach pats X.env us) (fun res s1 => PatE X pins σ H ns Q res s1) X.xe s
theorem ext_keeps {h h2 : Heap} (ex : Heap.ExtBut h.objs.size h h2) (b : Addr) (o : Obj) (z : h.get? b = some o) : h2.get? b = some o := by
  exact ex b o (Nat.ne_of_lt (Heap.lt_size z)) z
section
variable {X : Cx} {pos pos' : Pos}
def rLit (c : Str) : PatR := fun v _ Q => ∃ y, v = .str y ∧ Q (if y = c then some [] else none)
theorem pp_lit {c : Str} {j : Nat} : PPt X (.MatchValue (.Constant (.str c) j pos) pos') [] (rLit c) := by
  refine ⟨fun pins s σ H v u Q I r h => wpAny_matchPattern_Value ?_⟩
  obtain ⟨y, rfl, q⟩ := h
  refine thn (pe_str.run pins s σ H (fun z H1 => z = .str c ∧ H1 = H) I ⟨rfl, rfl⟩) fun x s1 ⟨z, H1, I1, rz, ez, eH⟩ => ?_
  subst ez
  subst eH
  refine thn (op_eq pins s1 σ H1 (.str y) (.str c) u x (fun w H2 => w = .bl (decide (V.str y = V.str c)) ∧ H2 = H1) I1 r rz ⟨rfl, rfl, rfl⟩) fun b s2 ⟨w, H2, I2, rw2, ew, eH⟩ => ?_
  subst ew
  subst eH
  obtain rfl : b = Value.bool (decide (V.str y = V.str c)) := rw2
  show wpAny _ _ (truthy (.bool _)) _ _ _
  refine wpAny_pure ?_
  by_cases e : y = c
  · rw [if_pos e] at q
    rw [if_pos (by simpa using e)]
    exact ⟨I2, rfl, [], .nil, q⟩
  · rw [if_neg e] at q
    rw [if_neg (by simpa using e)]
    exact ⟨I2, q⟩
def rCap : PatR := fun v _ Q => Q (some [v])
theorem pp_cap {n : Str} : PPt X (.MatchAs none (some n) pos) [n] rCap :=
  ⟨fun pins s σ H v u Q I r h => wpAny_matchPattern_Capture ⟨I, rfl, [v], .cons r .nil, h⟩⟩
def rAny1 : PatR := fun _ _ Q => Q (some [])
theorem pp_any : PPt X (.MatchAs none none pos) [] rAny1 :=
  ⟨fun pins s σ H v u Q I r h => wpAny_matchPattern_Capture ⟨I, rfl, [], .nil, h⟩⟩
theorem pps_nil : PPs X [] [] [] :=
  ⟨rfl, fun pins s σ H vs us Q I r hl h => by
    cases r with
    | nil => exact wpAny_matchEach_nil ⟨I, rfl, [], .nil, h⟩
    | cons _ _ => cases hl⟩
theorem pps_cons {p : Pattern} {ps : List Pattern} {ns ms : List Str} {r : PatR} {rs : List PatR} (h1 : PPt X p ns r) (h2 : PPs X ps ms rs) (hp : p.isStar = false := by rfl) : PPs X (p :: ps) (ns ++ ms) (r :: rs) := by
  refine ⟨congrArg Nat.succ h2.len, fun pins s σ H vs us Q I rv hl h => ?_⟩
  cases rv with
  | nil => cases hl
  | @cons x u xs us rx rt =>
    refine wpAny_matchEach_cons (thn (h1.run pins s σ H x u _ I rx h) fun res s1 ⟨I1, z⟩ => ?_) hp
    cases res with
    | none => exact ⟨I1, z⟩
    | some bs =>
      obtain ⟨e1, vs1, r1, q1⟩ := z
      refine thn (h2.run pins s1 σ H xs us _ I1 rt (Nat.succ.inj hl) q1) fun res2 s2 ⟨I2, z2⟩ => ?_
      cases res2 with
      | none => exact ⟨I2, z2⟩
      | some more =>
        obtain ⟨e2, vs2, r2, q2⟩ := z2
        exact ⟨I2, by rw [List.map_append, e1, e2], vs1 ++ vs2, by rw [List.map_append]; exact r1.append r2, q2⟩
def rSeq (K : Frag) (n : Nat) (rs : List PatR) : PatR := fun v H Q => ∃ a xs, v = .ref a ∧ SqT K H a xs ∧ (xs.length ≠ n → Q none) ∧ (xs.length = n → rEach rs xs H Q)
theorem pp_seq {ps : List Pattern} {ns : List Str} {rs : List PatR} {n : Nat} (hc : X.calm = true) (h : PPs X ps ns rs) (hn : ps.length = n := by rfl) (hstar : ps.findIdx? (·.isStar) = none := by rfl)
    (hwild : (ps.all fun p => p.isWildcard || (p.isStar && p.names.isEmpty)) = false := by rfl) : PPt X (.MatchSequence ps pos) ns (rSeq X.K n rs) := by
  refine ⟨fun pins s σ H v u Q I r h' => ?_⟩
  obtain ⟨a, xs, rfl, sq, qn, qy⟩ := h'
  obtain rfl : u = Value.ref a := r
  obtain ⟨its, rv, ht, hz⟩ := I.tuple sq
  have hfit : ((its.toArray.size : Nat) : Int) < 2 ^ 63 := by
    have e := rv.length
    rw [List.size_toArray, ← e]
    rw [sizeLine_eq] at hz
    omega
  have e := rv.length
  by_cases c : xs.length = n
  · refine matchSeq_tuple_hit ht hfit (by rw [List.size_toArray, ← e, c, hn]) ?_ hstar hwild
    have sz : ps.length = its.toArray.size := by rw [List.size_toArray, ← e, c, hn]
    rw [sz]
    refine unpackItems_tuple (I.ok.hd hc) ht fun h2 ex => ?_
    have J : Inv X pins σ H { s with heap := h2, toks := s.toks + 1 + 1 } := I.kept (t' := s.toks + 1 + 1) fun b o z => ext_keeps ex b o z
    refine h.run pins _ σ H xs _ Q J (by simpa using rv) (by rw [c, hn]) (qy c)
  · exact matchSeq_tuple_miss ht hfit (by rw [List.size_toArray, ← e, hn]; exact c) ⟨I.tok _, qn c⟩ hstar hwild
/-- one of some patterns without names -/
def rOr : List PatR → PatR
  | [] => fun _ _ Q => Q none
  | r :: rs => fun v H Q => r v H fun o => match o with
    | some vs => Q (some vs)
    | none => rOr rs v H Q
structure PFirst (X : Cx) (pats : List Pattern) (rs : List PatR) : Prop where
  run : ∀ (pins : List (Addr × Obj)) (s : Shared) (σ : L2.St) (H : Hp) (v : V) (u : Value) (Q : Option (List V) → Prop), Inv X pins σ H s → RelV v u → rOr rs v H Q →
    wpAny (model X.prog X.w) X.A (matchFirst pats X.env u) (fun res s1 => PatE X pins σ H [] Q res s1) X.xe s
theorem pf_nil : PFirst X [] [] := ⟨fun pins s σ H v u Q I r h => wpAny_matchFirst_nil ⟨I, h⟩⟩
theorem pf_cons {p : Pattern} {ps : List Pattern} {r : PatR} {rs : List PatR} (h1 : PPt X p [] r) (h2 : PFirst X ps rs) : PFirst X (p :: ps) (r :: rs) := by
  refine ⟨fun pins s σ H v u Q I rv h => wpAny_matchFirst_cons (thn (h1.run pins s σ H v u _ I rv h) fun res s1 ⟨I1, z⟩ => ?_)⟩
  cases res with
  | none => exact h2.run pins s1 σ H v u Q I1 rv z
  | some bs => exact ⟨I1, z⟩
theorem pp_or {ps : List Pattern} {rs : List PatR} (h : PFirst X ps rs) (hno : namesOfAll (ps.take 1) = [] := by rfl) : PPt X (.MatchOr ps pos) [] (rOr rs) := by
  refine ⟨fun pins s σ H v u Q I r h' => wpAny_matchPattern_Or (thn (h.run pins s σ H v u Q I r h') fun res s1 ⟨I1, z⟩ => ?_)⟩
  cases res with
  | none => exact ⟨I1, z⟩
  | some bs =>
    obtain ⟨e, vs, rv, q⟩ := z
    have e0 : bs = [] := List.map_eq_nil_iff.mp e
    subst e0
    cases rv
    rw [hno]
    exact ⟨I1, rfl, [], .nil, q⟩
/-- names stored in their slots, from the left -/
def setAll : L2.St → List Nat → List V → L2.St
  | σ, i :: is, v :: vs => setAll (σ.set i (some v)) is vs
  | σ, _, _ => σ
def SlotsOk (X : Cx) (ns : List Str) (is : List Nat) : Prop := Paired (fun n i => X.N[i]? = some n ∧ L2.Loc X.env.scope n ∧ (X.fn n = true ∨ X.env.scope.names.lookup n = some .local)) ns is
theorem store_all (hN : X.N.Nodup) {pins : List (Addr × Obj)} {H : Hp} {Q : Unit → Shared → Prop} : ∀ {ns : List Str} {is : List Nat} {bs : List (Str × Value)} {vs : List V} {σ : L2.St} {s : Shared}, SlotsOk X ns is → bs.map (·.1) = ns → Vals vs (bs.map (·.2)) → Inv X pins σ H s →
    (∀ s', Inv X pins (setAll σ is vs) H s' → Q () s') → wpAny (model X.prog X.w) X.A (assignInOrder (bs.map fun (n, _) => bindName X.env n) (bs.map (·.2))) Q X.xe s
  | _, _, [], _, _, _, ok, e, rv, I, q => by
    subst e
    cases rv
    cases ok
    exact wpAny_assignInOrder_none (q _ I)
  | _, _, (n, u) :: bs, _, _, _, ok, e, rv, I, q => by
    subst e
    cases rv with
    | cons r1 r2 =>
      cases ok with
      | cons o1 o2 =>
        refine wpAny_assignInOrder_more (wpAny_bindName (store_ok I hN o1.1 o1.2.1 r1 (fun s' I' => store_all hN o2 rfl r2 I' q) o1.2.2))
def tCases : List (List Nat × PatR × TS) → V → TS
  | [], _ => fun D σ H => D.nx σ H
  | (is, r, t) :: rest, v => fun D σ H => r v H fun o => match o with
    | none => tCases rest v D σ H
    | some vs => t D (setAll σ is vs) H
structure PCs (X : Cx) (cases : List MatchCase) (cs : List (List Nat × PatR × TS)) : Prop where
  run : ∀ (pins : List (Addr × Obj)) (s : Shared) (σ : L2.St) (H : Hp) (D : Ends) (v : V) (u : Value) (first : Bool), Inv X pins σ H s → RelV v u → tCases cs v D σ H →
    wpAny (model X.prog X.w) X.A (matchCases cases X.env u first) (SP X pins D) X.xe s
theorem pcs_nil : PCs X [] [] := ⟨fun pins s σ H D v u first I r h => wpAny_matchCases_nil ⟨σ, H, I, h⟩⟩
theorem pcs_cons {p : Pattern} {body : List Stmt} {cases : List MatchCase} {ns : List Str} {is : List Nat} {r : PatR} {t : TS} {cs : List (List Nat × PatR × TS)} (hN : X.N.Nodup) (h1 : PPt X p ns r) (hs : SlotsOk X ns is) (hb : PSs X body t) (h2 : PCs X cases cs) :
    PCs X (⟨p, none, body⟩ :: cases) ((is, r, t) :: cs) := by
  refine ⟨fun pins s σ H D v u first I rv h => wpAny_matchCases_cons (thn (h1.run pins s σ H v u _ I rv h) fun res s1 ⟨I1, z⟩ => ?_)⟩
  cases res with
  | none => exact h2.run pins s1 σ H D v u false I1 rv z
  | some bs =>
    obtain ⟨e, vs, r2, q⟩ := z
    exact store_all hN hs e r2 I1 fun s2 I2 => hb.run pins s2 _ H D I2 q
def tMatch (te : TE) (cs : List (List Nat × PatR × TS)) : TS := fun D σ H => te σ H fun v H1 => tCases cs v D σ H1
theorem ps_match {e : Expr} {cases : List MatchCase} {te : TE} {cs : List (List Nat × PatR × TS)} (he : PE X e te) (hc : PCs X cases cs) : PS X (.Match e cases pos) (tMatch te cs) :=
  ⟨fun pins s σ H D I h => wpAny_Match (thn (he.run pins s σ H _ I h) fun u s1 ⟨v, H1, I1, rv, q⟩ => hc.run pins s1 σ H1 D v u true I1 rv q)⟩
end
/-! # heaps -/
theorem same_upd {H : Hp} {a : Addr} {o : HO} (h : H a = none) : Same H (upd H a o) := fun b u e => by
  rw [upd_ne (ne_of_none e h)]
  exact e
theorem same_upd2 {H H1 : Hp} {a : Addr} {o : HO} (s : Same H H1) (h : H a = none) : Same H (upd H1 a o) := fun b u e => by
  rw [upd_ne (ne_of_none e h)]
  exact s b u e
theorem take_snoc {α : Type} {l : List α} {i : Nat} {x : α} (h : l[i]? = some x) : l.take (i + 1) = l.take i ++ [x] := by
  rw [List.take_succ, h]
  rfl
theorem if_no {c : Bool} {A B : Prop} (h : c = false) (b : B) : if c = true then A else B := by
  rw [h, if_neg Bool.false_ne_true]
  exact b
theorem if_yes {c : Bool} {A B : Prop} (h : c = true) (a : A) : if c = true then A else B := by
  rw [if_pos h]
  exact a
theorem if_by {c : Bool} {A B : Prop} (a : c = true → A) (b : c = false → B) : if c = true then A else B := by
  cases c with
  | true => exact a rfl
  | false => exact b rfl
abbrev cs (x : Str) : List Nat := x.cps.toList
theorem glob_str {X : Cx} {x : Str} {c : Str} {pos : Pos} (hg : Gl X x) (hm : ∃ t, X.mg x = some (.str c t)) (hd : (x == ("__debug__" : Str)) = false := by decide) : PE X (.Name x pos) (tC (.str c)) := by
  obtain ⟨t, e⟩ := hm
  exact pe_glob hg e ⟨t, rfl⟩ hd
theorem pe_never {X : Cx} {e : Expr} : PE X e (fun _ _ _ => False) := ⟨fun _ _ _ _ _ _ h => h.elim⟩
theorem pt_never {X : Cx} {e : Expr} : PT X e (fun _ _ _ => False) := ⟨fun _ _ _ _ _ _ h => h.elim⟩
theorem sqT_same {K : Frag} {H H' : Hp} {a : Addr} {xs : List V} (s : Same H H') (h : SqT K H a xs) : SqT K H' a xs := by
  rcases h with (h | ⟨o, h⟩) | h
  · exact .inl (.inl (s _ _ h))
  · exact .inl (.inr ⟨o, s _ _ h⟩)
  · exact .inr h
theorem dp_same {K : Frag} {H H' : Hp} (s : Same H H') : ∀ {d : PyData} {v : V}, Dp K H v d → Dp K H' v d := by
  intro d v h
  exact Dp.rec (motive_1 := fun v d _ => Dp K H' v d) (motive_2 := fun vs ds _ => DpAll K H' vs ds) .non .bl .int .str (fun h1 _ ih => .lst (s.seq h1) ih) (fun h1 _ ih => .tup (sqT_same s h1) ih) .nil (fun _ _ a b => .cons a b) h
theorem dpAll_same {K : Frag} {H H' : Hp} (s : Same H H') : ∀ {ds : List PyData} {vs : List V}, DpAll K H vs ds → DpAll K H' vs ds
  | [], _, .nil => .nil
  | _ :: _, _, .cons h t => .cons (dp_same s h) (dpAll_same s t)
theorem dpLen {K : Frag} {H : Hp} : ∀ {vs : List V} {ds : List PyData}, DpAll K H vs ds → vs.length = ds.length
  | _, _, .nil => rfl
  | _, _, .cons _ t => congrArg Nat.succ (dpLen t)
theorem dpAt {K : Frag} {H : Hp} : ∀ {vs : List V} {ds : List PyData} {i : Nat} {d : PyData}, DpAll K H vs ds → ds[i]? = some d → ∃ v, vs[i]? = some v ∧ Dp K H v d
  | _, _, _, _, .nil, e => by cases e
  | _, _, 0, _, .cons h _, e => by
    obtain rfl := Option.some.inj e
    exact ⟨_, rfl, h⟩
  | _, _, i + 1, _, .cons _ t, e => dpAt (i := i) t e
theorem dpAt' {K : Frag} {H : Hp} : ∀ {vs : List V} {ds : List PyData} {i : Nat} {v : V}, DpAll K H vs ds → vs[i]? = some v → ∃ d, ds[i]? = some d ∧ Dp K H v d
  | _, _, _, _, .nil, e => by cases e
  | _, _, 0, _, .cons h _, e => by
    obtain rfl := Option.some.inj e
    exact ⟨_, rfl, h⟩
  | _, _, i + 1, _, .cons _ t, e => dpAt' (i := i) t e
theorem dpApp {K : Frag} {H : Hp} : ∀ {vs ws : List V} {ds es : List PyData}, DpAll K H vs ds → DpAll K H ws es → DpAll K H (vs ++ ws) (ds ++ es)
  | _, _, _, _, .nil, h => h
  | _, _, _, _, .cons h t, h' => .cons h (dpApp t h')
theorem dpDrop {K : Frag} {H : Hp} : ∀ (n : Nat) {vs : List V} {ds : List PyData}, DpAll K H vs ds → DpAll K H (vs.drop n) (ds.drop n)
  | 0, _, _, h => h
  | n + 1, _, _, .nil => .nil
  | n + 1, _, _, .cons _ t => dpDrop n t
theorem dpTake {K : Frag} {H : Hp} : ∀ (n : Nat) {vs : List V} {ds : List PyData}, DpAll K H vs ds → DpAll K H (vs.take n) (ds.take n)
  | 0, _, _, _ => .nil
  | n + 1, _, _, .nil => .nil
  | n + 1, _, _, .cons h t => .cons h (dpTake n t)
theorem dp_tup {K : Frag} {H : Hp} {v : V} {ds : List PyData} (h : Dp K H v (.tuple ds)) : ∃ a xs, v = .ref a ∧ SqT K H a xs ∧ DpAll K H xs ds := by
  cases h with
  | tup h1 h2 => exact ⟨_, _, rfl, h1, h2⟩
theorem dp_lst {K : Frag} {H : Hp} {v : V} {ds : List PyData} (h : Dp K H v (.list ds)) : ∃ a xs, v = .ref a ∧ SqL K H a xs ∧ DpAll K H xs ds := by
  cases h with
  | lst h1 h2 => exact ⟨_, _, rfl, h1, h2⟩
theorem dp_str {K : Frag} {H : Hp} {v : V} {x : Str} (h : Dp K H v (.str x)) : v = .str x := by
  cases h
  rfl
theorem dp_two {K : Frag} {H : Hp} {v : V} {x y : Str} (h : Dp K H v (.tuple [.str x, .str y])) : ∃ a, v = .ref a ∧ SqT K H a [.str x, .str y] := by
  obtain ⟨a, xs, rfl, q, all⟩ := dp_tup h
  cases all with
  | cons h1 t =>
    cases t with
    | cons h2 t =>
      cases t
      obtain rfl := dp_str h1
      obtain rfl := dp_str h2
      exact ⟨a, rfl, q⟩
/-! # a def's place and promise -/
def Has (P : Program) (w : World) (K : Frag) (mg : Str → Option Value) (base : Heap) (k : Nat) (x : Str) (ps : List Str) (sp : Sp) : Prop :=
  ∃ (f : Addr) (fd : FuncData), mg x = some (.ref f) ∧ PySem.W.keepIn K (.ref f) = true ∧ Binds K fd ps [] ∧ FnOk P w K mg base CX0 k f fd ps sp
/-- the same, its one argument told by its name -/
def HasK (P : Program) (w : World) (K : Frag) (mg : Str → Option Value) (base : Heap) (k : Nat) (x : Str) (ps : List Str) (sp : Sp) : Prop :=
  ∃ (f : Addr) (fd : FuncData), mg x = some (.ref f) ∧ PySem.W.keepIn K (.ref f) = true ∧ Binds K fd ps [] ∧ KBinds K fd ps ps (fun us ws => us ++ ws) (fun vs zs => vs ++ zs) ∧ FnOk P w K mg base CX0 k f fd ps sp
theorem HasK.has {P : Program} {w : World} {K : Frag} {mg : Str → Option Value} {base : Heap} {k : Nat} {x : Str} {ps : List Str} {sp : Sp} (h : HasK P w K mg base k x ps sp) : Has P w K mg base k x ps sp := by
  obtain ⟨f, fd, a, b, c, _, d⟩ := h
  exact ⟨f, fd, a, b, c, d⟩
theorem has_of {P : Program} {w : World} {K : Frag} {mg : Str → Option Value} {base : Heap} {k : Nat} {x qual : Str} {st : Stmt} {f : Addr} {fd : FuncData} {ps : List Str} {sp : Sp} (F : Fun K x qual st f fd) (g : mg x = some (.ref f)) (b : Binds K fd ps []) (o : FnOk P w K mg base CX0 k f fd ps sp) : Has P w K mg base k x ps sp := ⟨f, fd, g, F.kp, b, o⟩
theorem hasK_of {P : Program} {w : World} {K : Frag} {mg : Str → Option Value} {base : Heap} {k : Nat} {x qual : Str} {st : Stmt} {f : Addr} {fd : FuncData} {ps : List Str} {sp : Sp} (F : Fun K x qual st f fd) (g : mg x = some (.ref f)) (b : Binds K fd ps []) (c : KBinds K fd ps ps (fun us ws => us ++ ws) (fun vs zs => vs ++ zs)) (o : FnOk P w K mg base CX0 k f fd ps sp) : HasK P w K mg base k x ps sp := ⟨f, fd, g, F.kp, b, c, o⟩
section
variable {X : Cx} {CX : CXT} {k : Nat} {f : Addr} {fd : FuncData} {ps ks : List Str} {sp : Sp} {x : Str} {p pos : Pos} {E : XK} {kws : List Keyword} {tk : TA} {g : List Value → List Value → List Value} {gV : List V → List V → List V}
def tCallKw (sp : Sp) (gV : List V → List V → List V) (E : XK) (tk : TA) : TE := fun σ H Q => tk σ H fun zs H2 => sp (gV [] zs) H2 Q E
theorem pe_callKw (F : FnOk X.prog X.w X.K X.mg X.base CX k f fd ps sp) (hr : Room k X.A) (hg : Gl X x) (hm : X.mg x = some (.ref f)) (hk : PySem.W.keepIn X.K (.ref f) = true) (hb : KBinds X.K fd ps ks g gV) (hx : Passes CX X E)
    (hkw : PK X kws tk) (hall : (backToKw pos (keywordEach kws X.env)).all (·.1.isSome) = true := by rfl) (hks : (backToKw pos (keywordEach kws X.env)).filterMap (·.1) = ks := by rfl)
    (hdb : (x == ("__debug__" : Str)) = false := by decide)
    (hpl : ((backTo pos (starEach [] X.env)).any (·.1) || (backToKw pos (keywordEach kws X.env)).any (·.1.isNone)) = false := by rfl) :
    PE X (.Call (.Name x p) [] kws pos) (tCallKw sp gV E tk) := by
  refine ⟨fun pins s σ H Q I h => ?_⟩
  refine wpAny_Call_Name_kw (ld_glob I hg hm ?_ hdb)
  refine PySem.W.callWith_KW0 (h₀ := X.base) I.ok.mod.kin hk hall (thn (hkw.run pos pins s σ H _ I h) fun ws s2 ⟨zs, H2, I2, rz, q2⟩ => ⟨I2.kIn, ?_⟩) hpl
  rw [hks]
  exact run_fnk F hr hb hx I2 .nil rz q2
end
theorem len_cs (x : Str) : x.length = (cs x).length := by
  show x.cps.size = _
  simp
theorem ixN_of {n j : Nat} (h : j < n) : ixN n (j : Int) = some j := by
  unfold ixN
  rw [if_pos (by omega), if_pos (by omega)]
  simp
theorem fm0 {m : Int} (h : 0 < m) (a : Int) : 0 ≤ a.fmod m := by
  rw [Int.fmod_eq_emod_of_nonneg _ (by omega)]
  exact Int.emod_nonneg _ (by omega)
theorem fm1 {m : Int} (h : 0 < m) (a : Int) : a.fmod m < m := by
  rw [Int.fmod_eq_emod_of_nonneg _ (by omega)]
  exact Int.emod_lt_of_pos _ h
/-- a while's word over a natural number -/
theorem while_n {c : TT} {tb : TS} {D : Ends} {σ : L2.St} {H : Hp} (Pv : Nat → L2.St → Hp → Prop) (m : Nat) (h0 : Pv m σ H)
    (hs : ∀ m σ H, Pv m σ H → c σ H fun b H1 => if b = true then ∃ N : L2.St → Hp → Prop, (∀ σ' H', N σ' H' → ∃ m', m' < m ∧ Pv m' σ' H') ∧ tb { D with nx := N, ct := N, bk := D.nx } σ H1 else D.nx σ H1) : tWhile c tb D σ H :=
  ⟨Pv, ⟨m, h0⟩, hs⟩
/-! # cases -/
def tNoE : TE := fun _ _ _ => False
theorem pe_no {X : Cx} {e : Expr} : PE X e tNoE := ⟨fun _ _ _ _ _ _ h => h.elim⟩
/-- True, False as a pattern -/
def rBool (c : Bool) : PatR := fun v _ Q => ∃ b, v = .bl b ∧ Q (if b = c then some [] else none)
theorem pp_bool {X : Cx} {pos : Pos} {c : Bool} : PPt X (.MatchSingleton (.bool c) pos) [] (rBool c) := by
  refine ⟨fun pins s σ H v u Q I r h => ?_⟩
  obtain ⟨b, rfl, q⟩ := h
  obtain rfl : u = Value.bool b := r
  refine wpAny_matchPattern_Singleton_bool ?_
  cases b <;> cases c
  · exact ⟨I, rfl, [], .nil, q⟩
  · exact ⟨I, q⟩
  · exact ⟨I, q⟩
  · exact ⟨I, rfl, [], .nil, q⟩
theorem either_bool {b : Bool} {H : Hp} {Q : Option (List V) → Prop} (h : Q (some [])) : rOr [rBool true, rBool false] (.bl b) H Q := by
  cases b
  · exact ⟨false, rfl, ⟨false, rfl, h⟩⟩
  · exact ⟨true, rfl, h⟩
def rNo : PatR := fun _ _ _ => False
theorem pcs_never {X : Cx} {cases : List MatchCase} : PCs X cases [([], rNo, fun _ _ _ => False)] := ⟨fun _ _ _ _ _ _ _ _ _ _ h => h.elim⟩
def Hit (r : PatR) (y : Str) : Prop := ∀ H Q, Q (some []) → r (.str y) H Q
def Miss (r : PatR) (y : Str) : Prop := ∀ H Q, Q none → r (.str y) H Q
theorem hit_lit {c : Str} : Hit (rLit c) c := fun H Q h => ⟨c, rfl, by rw [if_pos rfl]; exact h⟩
theorem miss_lit {c y : Str} (ne : y ≠ c) : Miss (rLit c) y := fun H Q h => ⟨y, rfl, by rw [if_neg ne]; exact h⟩
theorem hit_or {r : PatR} {rs : List PatR} {y : Str} (h : Hit r y) : Hit (rOr (r :: rs)) y := fun H Q q => h H _ q
theorem hit_or2 {r : PatR} {rs : List PatR} {y : Str} (m : Miss r y) (h : Hit (rOr rs) y) : Hit (rOr (r :: rs)) y := fun H Q q => m H _ (h H Q q)
theorem miss_or {r : PatR} {rs : List PatR} {y : Str} (m : Miss r y) (h : Miss (rOr rs) y) : Miss (rOr (r :: rs)) y := fun H Q q => m H _ (h H Q q)
theorem miss_or0 {y : Str} : Miss (rOr []) y := fun H Q q => q
theorem each_caps {H : Hp} : ∀ {ys : List V} {Q : Option (List V) → Prop}, Q (some ys) → rEach (List.replicate ys.length rCap) ys H Q
  | [], _, h => h
  | y :: ys, Q, h => by
    show rEach (List.replicate ys.length rCap) ys H _
    exact each_caps (ys := ys) (Q := fun o' => match o' with | none => Q none | some more => Q (some ([y] ++ more))) h
theorem case_hit {K : Frag} {n : Nat} {r : PatR} {rs : List PatR} {is : List Nat} {t : TS} {rest : List (List Nat × PatR × TS)} {a : Addr} {c : Str} {ys : List V} {D : Ends} {σ : L2.St} {H : Hp} (hq : SqT K H a (.str c :: ys)) (hh : Hit r c) (h : t D (setAll σ is ys) H)
    (hr : rs = List.replicate ys.length rCap := by rfl) (hn : n = ys.length + 1 := by rfl) : tCases ((is, rSeq K n (r :: rs), t) :: rest) (.ref a) D σ H := by
  subst hr
  subst hn
  refine ⟨a, _, rfl, hq, fun ne => absurd rfl ne, fun _ => ?_⟩
  refine hh H _ ?_
  exact each_caps (Q := fun o' => match o' with | none => tCases rest (.ref a) D σ H | some more => t D (setAll σ is ([] ++ more)) H) h
theorem case_miss {K : Frag} {n : Nat} {r : PatR} {rs : List PatR} {is : List Nat} {t : TS} {rest : List (List Nat × PatR × TS)} {a : Addr} {c : Str} {ys : List V} {D : Ends} {σ : L2.St} {H : Hp} (hq : SqT K H a (.str c :: ys)) (hh : Miss r c ∨ ys.length + 1 ≠ n) (h : tCases rest (.ref a) D σ H) :
    tCases ((is, rSeq K n (r :: rs), t) :: rest) (.ref a) D σ H := by
  rcases hh with hh | ne
  · exact ⟨a, _, rfl, hq, fun _ => h, fun _ => hh H _ h⟩
  · exact ⟨a, _, rfl, hq, fun _ => h, fun e => absurd e ne⟩
theorem ml {c y : Str} {n m : Nat} (ne : y ≠ c := by decide +kernel) : Miss (rLit c) y ∨ n ≠ m := .inl (miss_lit ne)
/-- what a piece's tuple holds -/
theorem pc_two {K : Frag} {H : Hp} {v : V} {k : Str} {d : PyData} (h : Dp K H v (.tuple [.str k, d])) : ∃ a x, v = .ref a ∧ SqT K H a [.str k, x] ∧ Dp K H x d := by
  obtain ⟨a, xs, rfl, hq, all⟩ := dp_tup h
  cases all with
  | cons h1 t1 =>
    obtain rfl := dp_str h1
    cases t1 with
    | cons h2 t2 =>
      cases t2
      exact ⟨a, _, rfl, hq, h2⟩
theorem pc_three {K : Frag} {H : Hp} {v : V} {k : Str} {d e : PyData} (h : Dp K H v (.tuple [.str k, d, e])) : ∃ a x y, v = .ref a ∧ SqT K H a [.str k, x, y] ∧ Dp K H x d ∧ Dp K H y e := by
  obtain ⟨a, xs, rfl, hq, all⟩ := dp_tup h
  cases all with
  | cons h1 t1 =>
    obtain rfl := dp_str h1
    cases t1 with
    | cons h2 t2 =>
      cases t2 with
      | cons h3 t3 =>
        cases t3
        exact ⟨a, _, _, rfl, hq, h2, h3⟩
/-- data that can be laid, no deeper than n -/
def Sh (n : Nat) (d : PyData) : Prop := d.canLay0 = true ∧ d.depth ≤ n
theorem sh_all {n : Nat} : ∀ {ds : List PyData}, (∀ d ∈ ds, Sh n d) → PyData.canLayAll0 ds = true ∧ PyData.depthAll ds ≤ n
  | [], _ => ⟨PyData.canLayAll0.eq_1, by rw [PyData.depthAll.eq_1]; exact Nat.zero_le _⟩
  | d :: ds, h => by
    have h1 := h d (.head _)
    have h2 := sh_all (n := n) (ds := ds) fun e m => h e (.tail _ m)
    exact ⟨by rw [PyData.canLayAll0.eq_2, h1.1, h2.1]; rfl, by rw [PyData.depthAll.eq_2]; exact Nat.max_le.mpr ⟨h1.2, h2.2⟩⟩
theorem sh_lst {n : Nat} {ds : List PyData} (h : ∀ d ∈ ds, Sh n d) : Sh (n + 1) (.list ds) := by
  have z := sh_all h
  exact ⟨by rw [PyData.canLay0.eq_5]; exact z.1, by rw [PyData.depth.eq_1]; omega⟩
theorem sh_tup {n : Nat} {ds : List PyData} (h : ∀ d ∈ ds, Sh n d) : Sh (n + 1) (.tuple ds) := by
  have z := sh_all h
  exact ⟨by rw [PyData.canLay0.eq_6]; exact z.1, by rw [PyData.depth.eq_2]; omega⟩
theorem sh_str {x : Str} (h : PyData.strOk x = true) : Sh 0 (.str x) := ⟨by rw [PyData.canLay0.eq_4]; exact h, Nat.le_of_eq rfl⟩
theorem sh_mono {n m : Nat} {d : PyData} (h : Sh n d) (l : n ≤ m) : Sh m d := ⟨h.1, Nat.le_trans h.2 l⟩
theorem sh_ok {n : Nat} {d : PyData} (h : Sh n d) (l : n ≤ 64 := by decide) : SeqAt.shaped d = true := by
  unfold SeqAt.shaped
  rw [h.1, decide_eq_true (Nat.le_trans h.2 l)]
  rfl
theorem eqv_nil (ds : List PyData) : PyData.eqv (.list ds) (.list []) = ds.isEmpty := by
  cases ds <;> rfl
/-- all of the answers of a walk -/
theorem lc_all {K : Frag} {a D : Addr} {xs : List V} {bs : List Bool} {H : Hp} {σ : L2.St} {vs : List Nat} {g : TG} {te : TE} {Qd : Hp → Prop} (hq : SqL K H a xs) (hD : H D = none) (hb : bs.length = xs.length) (hl : xs.length ≤ 1000)
    (turn : ∀ (i : Nat) (x : V) (b : Bool) (H' : Hp) (Q : VK), xs[i]? = some x → bs[i]? = some b → Same H H' → (∀ H4, Same H' H4 → Q (.bl b) H4) → g x (wipe σ vs) H' fun σ2 H2 => wipe σ2 vs = wipe σ vs ∧ te σ2 H2 Q)
    (hd : ∀ H', Same H H' → SqL K H' D (bs.map V.bl) → Qd H') :
    ∃ W : Nat → Nat → Hp → Prop, (∃ m, W 0 m (L2.upd H D (.lst []))) ∧ ∀ i m H, W i m H →
      ((Itl K a).stop i H ∧ Qd H) ∨ ((Itl K a).go i H ∧ ∃ Nx : Hp → Prop, (∀ H', Nx H' → ∃ m', m' < m ∧ W (i + 1) m' H') ∧ ∀ x H', (Itl K a).yld i H x H' → g x (wipe σ vs) H' fun σ2 H2 => wipe σ2 vs = wipe σ vs ∧ tYes σ2 H2 fun b H3 =>
        if b = true then te σ2 H3 fun y H4 => ∃ acc, H4 D = some (.lst acc) ∧ acc.length < sizeLine ∧ Nx (L2.upd H4 D (.lst (acc ++ [y]))) else Nx H3) := by
  refine lc_it (walk_list (xs := xs)) (fun i H' => Same H H' ∧ H' D = some (.lst ((bs.take i).map V.bl))) ⟨same_upd hD, upd_same⟩ (fun i H' _ e => e.1.seq hq) (fun i x H' H2 hi e y => ?_) (fun H' e => ?_)
  · obtain ⟨rfl, hx⟩ := y
    obtain ⟨s1, h1⟩ := e
    obtain ⟨b, hbi⟩ : ∃ b, bs[i]? = some b := ⟨_, List.getElem?_eq_getElem (by omega)⟩
    refine turn i x b H2 _ hx hbi s1 fun H4 s4 => ⟨_, s4 _ _ h1, ?_, same_upd2 (s1.trans s4) hD, ?_⟩
    · rw [List.length_map, List.length_take, sizeLine_eq]
      omega
    · rw [upd_same, take_snoc hbi, List.map_append]
      rfl
  · obtain ⟨s1, h1⟩ := e
    rw [← hb, List.take_length] at h1
    exact hd H' s1 (SqL.of h1)
def hide (H : Hp) (W : Addr) : Hp := fun b => if b = W then none else H b
theorem hide_same {H : Hp} {W : Addr} : Same (hide H W) H := fun b o h => by
  unfold hide at h
  by_cases e : b = W
  · rw [if_pos e] at h; cases h
  · rw [if_neg e] at h; exact h
theorem hide_upd {H : Hp} {W : Addr} {o : HO} : Same (hide H W) (hide (L2.upd H W o) W) := fun b u h => by
  unfold hide at h ⊢
  by_cases e : b = W
  · rw [if_pos e] at h; cases h
  · rw [if_neg e] at h ⊢
    rw [upd_ne e]
    exact h
theorem hide_ne {H : Hp} {W b : Addr} {o : HO} (h : H b = some o) (ne : b ≠ W) : hide H W b = some o := by
  unfold hide
  rw [if_neg ne]
  exact h
theorem hide_mono {H H' : Hp} {W : Addr} (s : Same H H') : Same (hide H W) (hide H' W) := fun b u h => by
  unfold hide at h ⊢
  by_cases e : b = W
  · rw [if_pos e] at h; cases h
  · rw [if_neg e] at h ⊢
    exact s b u h
/-- what was there before W came -/
theorem hide_of {H H' : Hp} {W : Addr} (s : Same H H') (h : H W = none) : Same H (hide H' W) := fun b u e => by
  unfold hide
  rw [if_neg (ne_of_none e h)]
  exact s b u e
end Qb
end PySem
namespace PySem
namespace Qb
open PySem.W PySem.Calls PyProof.Rows L2
/-! # |= and &=, of names and of fields -/
section
variable {X : Cx}
theorem ip_or : PIp X .BitOr (ipI fun i j => Builtin.bitOr i j) := by
  intro pins s σ H x y v u Q I r1 r2 h
  obtain ⟨i, j, e1, e2, q⟩ := h
  subst e1; subst e2
  obtain ⟨t, rfl⟩ := r1
  obtain ⟨t', rfl⟩ := r2
  exact ior_int ⟨.int _, H, I.tok _, ⟨_, rfl⟩, q⟩
theorem ip_and : PIp X .BitAnd (ipI fun i j => Builtin.bitAnd i j) := by
  intro pins s σ H x y v u Q I r1 r2 h
  obtain ⟨i, j, e1, e2, q⟩ := h
  subst e1; subst e2
  obtain ⟨t, rfl⟩ := r1
  obtain ⟨t', rfl⟩ := r2
  exact iand_int ⟨.int _, H, I.tok _, ⟨_, rfl⟩, q⟩
def rOrI : V → V → Hp → VK → Prop := fun x y H Q => ∃ i j, x = .int i ∧ y = .int j ∧ Q (.int (Builtin.bitOr i j)) H
theorem in_or : InOp X .BitOr rOrI := by
  rintro pins s σ H x y u v Q I rx ry ⟨i, j, rfl, rfl, q⟩
  obtain ⟨t, rfl⟩ := (show ∃ t, u = Value.int i t from rx)
  obtain ⟨t', rfl⟩ := (show ∃ t', v = Value.int j t' from ry)
  exact ior_int ⟨.int _, H, I.tok _, ⟨_, rfl⟩, q⟩
end
/-! # x[::-1] of a text -/
def revS (x : Str) : Str := ⟨x.cps.reverse⟩
theorem rev_slice (x : Str) (u : Tok) : Txt.sliceBy x none none (-1, u) = revS x := by
  have e : (Txt.sliceBy x none none (-1, u)).cps.toList = (revS x).cps.toList := by
    rw [step_rev_list]
    show _ = x.cps.reverse.toList
    rw [Array.toList_reverse]
    refine List.ext_getElem (by simp [Str.length]) fun i h1 h2 => ?_
    have hi : i < x.cps.size := by simpa [Str.length] using h1
    rw [List.getElem_map, List.getElem_range, List.getElem_reverse]
    have : x.length - 1 - i < x.cps.size := by show x.cps.size - 1 - i < _; omega
    simp [Array.getD, this]
    rfl
  have := Array.toList_inj.mp e
  cases h : Txt.sliceBy x none none (-1, u)
  rw [h] at this
  rw [show revS x = ⟨(revS x).cps⟩ from rfl, ← this]
def tRevS (te : TE) : TE := fun σ H Q => te σ H fun v H1 => ∃ x, v = .str x ∧ x.length ≤ sizeLine ∧ Q (.str (revS x)) H1
theorem pe_revS {X : Cx} {e : Expr} {te : TE} {k : Nat} {p1 p2 p3 pos : Pos} (he : PE X e te) : PE X (.Subscript e (.Slice none none (some (.UnaryOp .USub (.Constant (.int 1) k p1) p2)) p3) pos) (tRevS te) := by
  refine ⟨fun pins s σ H Q I h => ?_⟩
  refine Subscript_ (thn (he.run pins s σ H _ I h) fun v s1 ⟨y, H1, I1, r1, q1⟩ => ?_)
  obtain ⟨x, ex, hx, q⟩ := q1
  subst ex
  obtain ⟨t0, rfl⟩ := r1
  have hst : PO X (some (.UnaryOp .USub (.Constant (.int 1) k p1) p2)) (tPart (tUn (rU fun i => .int (-i)) (tC (.int 1)))) := po_some (pe_un un_neg pe_int)
  refine wpAny_Slice (thn (po_none.run pins s1 σ H1 (fun o H2 => o = none ∧ H2 = H1) I1 ⟨rfl, rfl⟩) fun vl s2 ⟨l, H2, I2, pl, el, e2⟩ => ?_)
  subst el e2
  refine thn (po_none.run pins s2 σ H2 (fun o H3 => o = none ∧ H3 = H2) I2 ⟨rfl, rfl⟩) fun vu s3 ⟨u, H3, I3, pu, eu, e3⟩ => ?_
  subst eu e3
  refine thn (hst.run pins s3 σ H3 (fun o H4 => o = some (-1) ∧ H4 = H3) I3 ⟨1, rfl, -1, rfl, rfl, rfl⟩) fun vs s4 ⟨o, H4, I4, ps, eo, e4⟩ => ?_
  subst eo e4
  have I5 : Inv X pins σ H4 { s4 with heap := s4.heap.push { cls := .type "slice", data := .fields #[vl, vu, vs] } } := I4.kept (t' := s4.toks) fun b ob q => Heap.get?_push_of_some _ q
  obtain ⟨l, e1, e2⟩ := IsPart.raw pl
  obtain ⟨u, e3, e4⟩ := IsPart.raw pu
  obtain ⟨st, e5, e6⟩ := IsPart.raw ps
  subst e1 e3 e5
  cases l with
  | some l => cases e2
  | none =>
  cases u with
  | some u => cases e4
  | none =>
  cases st with
  | none => cases e6
  | some st =>
  obtain ⟨i, ti⟩ := st
  obtain rfl : i = -1 := Option.some.inj e6
  show wpAny (model X.prog X.w) X.A (subscriptTail e (.Slice none none (some (.UnaryOp .USub (.Constant (.int 1) k p1) p2)) p3) (.str x t0) (.ref s4.heap.objs.size)) (EP X pins σ Q) X.xe { s4 with heap := s4.heap.push { cls := .type "slice", data := .fields #[_, _, _] } }
  refine tail_any (ops := [.str x t0, .ref s4.heap.objs.size]) (typeIs_str _ _ _) (F.slot_str_getitem.lookup) ?_ (by with_unfolding_all rfl)
  refine wpAny_getItem_str_slice (l := none) (u := none) (st := some (-1, ti)) (Heap.IsSliceOf.new _ _ _ _) rfl ?_
  have hl : (Txt.sliceBy x none none (-1, ti)).length ≤ sizeLine := by
    rw [rev_slice]
    show x.cps.reverse.size ≤ _
    rw [Array.size_reverse]
    exact hx
  rw [← rev_slice x ti] at q
  unfold Txt.sliceBy at q hl
  show Made.post (if (((-1 : Int) == 1) && (slicePicked x none none (some (-1, ti))).length == x.length) = true then Made.val (.str x t0) else Made.str ⟨((slicePicked x none none (some (-1, ti))).filterMap (x.cps[·]?)).toArray⟩) (EP X pins σ Q) _
  rw [if_neg (by simp)]
  rw [if_neg (by simp)] at q hl
  exact ⟨hl, .str _, H4, I5.tok _, ⟨_, rfl⟩, q⟩
/-! # enumerate of a text -/
def Ites (x : Str) : It :=
  ⟨fun i _ => i < x.cps.size, fun i H v H' => ∃ T c, v = .ref T ∧ H T = none ∧ x.cps[i]? = some c ∧ H' = L2.upd H T (.tup [.int (i : Nat), .str ⟨#[c]⟩]), fun i _ => i = x.cps.size⟩
theorem turn_enumS {P : Program} {w : World} {K : PySem.W.Frag} {elts : List Expr} {kk : Nat} {tpos : Pos} (x : Str) (t : Tok) (ty : String) (hty : ty = "str_ascii_iterator" ∨ ty = "str_iterator") (e it : Addr) :
    Turn P w K (.Tuple elts kk tpos) (Ites x) [e, it] e (fun i h => (∃ old, IsEnum h e it ((i : Nat) : Int) old) ∧ h.IsStrIter it ty x t i ∧ e ≠ it) where
  mem := by simp
  obj := fun i h st b hb => by
    obtain ⟨⟨old, he⟩, ⟨o, ho, hc, hd⟩, _⟩ := st
    have e' : b = e ∨ b = it := by simpa using hb
    rcases e' with z | z
    · rw [z]; exact ⟨_, he, fun v q => nomatch q⟩
    · rw [z]; exact ⟨o, ho, fun v q => by rw [hd] at q; cases q⟩
  keep := fun i h h' st k => let ⟨⟨old, he⟩, ⟨o, ho, r⟩, hne⟩ := st; ⟨⟨old, k e (by simp) _ he⟩, ⟨o, k it (by simp) o ho, r⟩, hne⟩
  item := by
    intro X hP hw hK hc i pins s σ H E I hf st hg
    subst hP hw hK
    obtain ⟨⟨old, he⟩, hit, hne⟩ := st
    have D : Draws X.prog X.w X.A.in1 it [it] x.cps.size (fun i v => ∃ c u, x.cps[i]? = some c ∧ v = .str ⟨#[c]⟩ u) (fun i h => h.IsStrIter it ty x t i) := by
      rcases hty with e | e
      · rw [e]; exact Draws.strAscii (A := X.A.in1) (show X.A.in1.handled = none from I.ok.hd hc) it x t
      · rw [e]; exact Draws.strWide (A := X.A.in1) (show X.A.in1.handled = none from I.ok.hd hc) it x t
    have hel : e < s.heap.objs.size := Heap.lt_size he
    have hil : it < s.heap.objs.size := by obtain ⟨_, q, _⟩ := hit; exact Heap.lt_size q
    refine wpAny_pyNext_enum_itemD D he hit hg hne (by simpa using hne) fun u h' tk hP ho hit' hT hsz hk => ?_
    obtain ⟨c, tu, hcx, rfl⟩ := hP
    refine ⟨_, rfl, wpAny_letOwnedTupleGo_enum (s := { s with heap := h', toks := tk + 1 }) ho fun h'' he' sb => ?_⟩
    have hT2 : h''.get? s.heap.objs.size = some { cls := .type "tuple", data := .seq #[.int i tk, .str ⟨#[c]⟩ tu] } := (sb.2 _ (Nat.ne_of_gt hel)).trans hT
    have new : ObjOk X.prog X.w (L2.upd H s.heap.objs.size (.tup [.int (i : Nat), .str ⟨#[c]⟩])) h'' s.heap.objs.size (.tup [.int (i : Nat), .str ⟨#[c]⟩]) :=
      ⟨by show 2 ≤ sizeLine; decide, [.int i tk, .str ⟨#[c]⟩ tu], .cons ⟨_, rfl⟩ (.cons ⟨_, rfl⟩ .nil), ⟨_, hT2, rfl, _, rfl⟩⟩
    have I1 : Inv X pins σ (L2.upd H s.heap.objs.size (.tup [.int (i : Nat), .str ⟨#[c]⟩])) { s with heap := h'', toks := tk + 1 } :=
      I.turnedNew (ch := [e, it]) (fun b ob hb q => (sb.2 b (fun z => hb (by simp [z]))).trans (hk b ob (fun z => hb (by simp [z])) (fun z => hb (by simp [z])) q)) hf (Nat.le_refl _) new
    refine ⟨.ref s.heap.objs.size, _, I1, rfl, ⟨_, c, rfl, I.hok.fresh (Nat.le_refl _), hcx, rfl⟩, ⟨⟨.str ⟨#[c]⟩ tu, ?_⟩, ?_, hne⟩, fun b hb => ?_⟩
    · have e1 : ((i + 1 : Nat) : Int) = (i : Int) + 1 := by omega
      rw [e1]; exact he'
    · obtain ⟨o, q, r⟩ := hit'
      exact ⟨o, (sb.2 it (Ne.symm hne)).trans q, r⟩
    · have hb' : b < s.heap.objs.size := by
        have e' : b = e ∨ b = it := by simpa using hb
        rcases e' with z | z
        · rw [z]; exact hel
        · rw [z]; exact hil
      rw [upd_ne (Nat.ne_of_lt hb')]
      exact (hf b hb).1
  done := by
    intro X hP hw hK hc i pins s σ H E I hf st hg
    subst hP hw hK
    obtain ⟨⟨old, he⟩, hit, hne⟩ := st
    have D : Draws X.prog X.w X.A.in1 it [it] x.cps.size (fun i v => ∃ c u, x.cps[i]? = some c ∧ v = .str ⟨#[c]⟩ u) (fun i h => h.IsStrIter it ty x t i) := by
      rcases hty with e | e
      · rw [e]; exact Draws.strAscii (A := X.A.in1) (show X.A.in1.handled = none from I.ok.hd hc) it x t
      · rw [e]; exact Draws.strWide (A := X.A.in1) (show X.A.in1.handled = none from I.ok.hd hc) it x t
    obtain rfl : i = x.cps.size := hg
    obtain ⟨f0, f1, f2, f3, f4, f5⟩ := hf it (by simp)
    exact wpAny_pyNext_enum_endD D he hit fun h' eb => ⟨rfl, I.turned (t' := s.toks) (fun b o hb q => eb b o hb q) f0 f1 f3 f4 f5⟩
  self := fun A i s Q E st h => let ⟨⟨_, he⟩, _⟩ := st; wpAny_pyIter_enum he h
def iEnumS (ta : TA) : TI := fun σ H R => ta σ H fun vs H1 => ∃ x, vs = [.str x] ∧ R (Ites x) H1
theorem pi_enumS {X : Cx} {e : Expr} {ta : TA} {p pos tpos : Pos} {elts : List Expr} {kk : Nat} (hg : Gl X "enumerate") (hm : X.mg "enumerate" = none) (ha : PA X [e] ta) (hs : starEach [e] X.env = [(false, eval e X.env)] := by rfl) :
    PI X (.Tuple elts kk tpos) (.Call (.Name "enumerate" p) [e] [] pos) (iEnumS ta) := by
  refine ⟨fun pins s σ H R I h => ?_⟩
  refine Call_ (ld_blt I hg hm boot_enumerate (PyProof.Rows.callWith_type1 (thn (ha.run pos pins s σ H _ I h) fun us s1 ⟨vs, H1, I1, r1, q1⟩ => ?_) hs rfl))
  obtain ⟨x, ex, q⟩ := q1
  subst ex
  cases r1 with
  | cons r rr =>
    cases rr
    obtain ⟨t, rfl⟩ := r
    refine call_enumerate_str fun h' he hit hsz hk => wpAny_pyIter_enum he ?_
    have I2 : Inv X pins σ H1 { s1 with heap := h' } := I1.kept (t' := s1.toks) hk
    have hty : strIterType x = "str_ascii_iterator" ∨ strIterType x = "str_iterator" := by
      unfold strIterType
      split
      · first | exact .inl rfl | exact .inr rfl
      · first | exact .inr rfl | exact .inl rfl
    refine ⟨s1.heap.objs.size + 1, [s1.heap.objs.size + 1, s1.heap.objs.size], _, _, H1, rfl, I2, turn_enumS x t (strIterType x) hty (s1.heap.objs.size + 1) s1.heap.objs.size, ⟨⟨.none, he⟩, hit, Nat.succ_ne_self _⟩, fun b hb => ?_, q⟩
    have e' : b = s1.heap.objs.size + 1 ∨ b = s1.heap.objs.size := by simpa using hb
    have hle : s1.heap.objs.size ≤ b := by
      rcases e' with z | z
      · rw [z]; exact Nat.le_add_right _ _
      · rw [z]; exact Nat.le_refl _
    exact I1.fpOk hle (I1.hok.fresh hle)
theorem walk_enumS {z : Str} : L2.Walk (Ites z) z.cps.size (fun _ => True) (fun i H v H' => ∃ T c, v = .ref T ∧ H T = none ∧ z.cps[i]? = some c ∧ H' = L2.upd H T (.tup [.int (i : Nat), .str ⟨#[c]⟩])) :=
  ⟨fun _ _ hi _ => hi, fun _ _ => rfl, fun _ _ _ _ _ _ y => y⟩
end Qb
end PySem
namespace PySem
namespace Qb
open PySem.W PySem.Calls PyProof.Rows L2
def signsS : Str := "\n !\"#$&'()*+,-./0123456789:;<=>?@ABCDEFGHIJKLMNOPQRSTUVWXYZ[\\]^_`abcdefghijklmnopqrstuvwxyz{|}~"
abbrev sg (c : Nat) : Str := ⟨#[c]⟩
def rgD (r : Nat × Nat) : PyData := .tuple [.str (sg r.1), .str (sg r.2)]
inductive Pt where
  | one (c : Nat)
  | any
  | lot
  | of (no : Bool) (rs : List (Nat × Nat))
def Pt.d : Pt → PyData
  | .one c => .tuple [.str "one", .str (sg c)]
  | .any => .tuple [.str "any"]
  | .lot => .tuple [.str "lot"]
  | .of no rs => .tuple [.str "of", .bool no, .list (rs.map rgD)]
def Pt.good : Pt → Prop
  | .one c => c ∈ cs signsS
  | .of _ rs => rs ≠ [] ∧ ∀ r ∈ rs, r.1 ∈ cs signsS ∧ r.2 ∈ cs signsS ∧ r.1 ≤ r.2
  | _ => True
def Pt.few : Pt → Prop
  | .of _ rs => rs.length ≤ 300
  | _ => True
def Pt.takes : Pt → Nat → Bool
  | .one c, x => c == x
  | .of no rs, x => (rs.any fun r => decide (r.1 ≤ x) && decide (x ≤ r.2)) != no
  | _, _ => true
def Pt.isLot : Pt → Bool
  | .lot => true
  | _ => false
/-- a row of pieces lets a row of signs by -/
def M : List Pt → List Nat → Prop
  | [], w => w = []
  | p :: ps, w => if p.isLot = true then ∃ k, k ≤ w.length ∧ M ps (w.drop k) else ∃ c v, w = c :: v ∧ p.takes c = true ∧ M ps v
theorem M_nil {w : List Nat} : M [] w ↔ w = [] := Iff.rfl
theorem M_lot {ps : List Pt} {w : List Nat} : M (.lot :: ps) w ↔ ∃ k, k ≤ w.length ∧ M ps (w.drop k) := by
  show (if _ then _ else _) ↔ _
  rw [if_pos (show Pt.lot.isLot = true from rfl)]
theorem M_one {p : Pt} {ps : List Pt} {w : List Nat} (h : p.isLot = false) : M (p :: ps) w ↔ ∃ c v, w = c :: v ∧ p.takes c = true ∧ M ps v := by
  show (if _ then _ else _) ↔ _
  rw [h, if_neg (by decide)]
theorem isLot_eq {p : Pt} (h : p.isLot = true) : p = .lot := by
  cases p <;> first | rfl | cases h
theorem M_append : ∀ {ps qs : List Pt} {w : List Nat}, M (ps ++ qs) w ↔ ∃ k, k ≤ w.length ∧ M ps (w.take k) ∧ M qs (w.drop k)
  | [], qs, w => by
    constructor
    · intro h
      exact ⟨0, Nat.zero_le _, rfl, h⟩
    · rintro ⟨k, hk, h1, h2⟩
      have h1 : w.take k = [] := h1
      have : k = 0 ∨ w = [] := by
        cases k with
        | zero => exact .inl rfl
        | succ k => cases w with
          | nil => exact .inr rfl
          | cons _ _ => cases h1
      rcases this with rfl | rfl
      · exact h2
      · simpa using h2
  | p :: ps, qs, w => by
    cases hp : p.isLot with
    | true =>
      obtain rfl := isLot_eq hp
      rw [List.cons_append, M_lot]
      constructor
      · rintro ⟨j, hj, h⟩
        obtain ⟨k, hk, h1, h2⟩ := M_append.mp h
        rw [List.length_drop] at hk
        refine ⟨j + k, by omega, M_lot.mpr ⟨j, by rw [List.length_take]; omega, ?_⟩, by rw [List.drop_drop] at h2; exact h2⟩
        rw [List.drop_take, show j + k - j = k by omega]
        exact h1
      · rintro ⟨k, hk, h1, h2⟩
        obtain ⟨j, hj, h1⟩ := M_lot.mp h1
        rw [List.length_take] at hj
        refine ⟨j, by omega, M_append.mpr ⟨k - j, by rw [List.length_drop]; omega, by rw [List.drop_take] at h1; exact h1, ?_⟩⟩
        rw [List.drop_drop, show j + (k - j) = k by omega]
        exact h2
    | false =>
      rw [List.cons_append, M_one hp]
      constructor
      · rintro ⟨c, v, rfl, ht, h⟩
        obtain ⟨k, hk, h1, h2⟩ := M_append.mp h
        exact ⟨k + 1, Nat.succ_le_succ hk, (M_one hp).mpr ⟨c, v.take k, rfl, ht, h1⟩, h2⟩
      · rintro ⟨k, hk, h1, h2⟩
        obtain ⟨c, v, e, ht, h⟩ := (M_one hp).mp h1
        cases w with
        | nil => simp at e
        | cons d u =>
          cases k with
          | zero => cases e
          | succ k =>
            obtain ⟨rfl, rfl⟩ := List.cons.inj e
            exact ⟨d, u, rfl, ht, M_append.mpr ⟨k, Nat.le_of_succ_le_succ hk, h, h2⟩⟩
theorem M_congr {a b b' : List Pt} (h : ∀ w, M b w ↔ M b' w) (w : List Nat) : M (a ++ b) w ↔ M (a ++ b') w := by
  rw [M_append, M_append]
  constructor
  · rintro ⟨k, hk, h1, h2⟩; exact ⟨k, hk, h1, (h _).mp h2⟩
  · rintro ⟨k, hk, h1, h2⟩; exact ⟨k, hk, h1, (h _).mpr h2⟩
theorem M_lot_lot {ps : List Pt} (w : List Nat) : M (.lot :: .lot :: ps) w ↔ M (.lot :: ps) w := by
  rw [M_lot, M_lot]
  constructor
  · rintro ⟨k, hk, h⟩
    obtain ⟨j, hj, h⟩ := M_lot.mp h
    rw [List.length_drop] at hj
    rw [List.drop_drop] at h
    exact ⟨k + j, by omega, h⟩
  · rintro ⟨k, hk, h⟩
    exact ⟨0, Nat.zero_le _, M_lot.mpr ⟨k, hk, h⟩⟩
theorem drop_cons {w : List Nat} {k : Nat} (h : k < w.length) : w.drop k = w[k] :: w.drop (k + 1) := List.drop_eq_getElem_cons h
theorem M_lot_any {ps : List Pt} (w : List Nat) : M (.lot :: .any :: ps) w ↔ M (.any :: .lot :: ps) w := by
  rw [M_lot, M_one (p := .any) rfl]
  constructor
  · rintro ⟨k, hk, h⟩
    obtain ⟨c, v, e, _, hv⟩ := (M_one (p := .any) rfl).mp h
    cases w with
    | nil => simp at e
    | cons d u =>
      refine ⟨d, u, rfl, rfl, M_lot.mpr ⟨k, ?_, ?_⟩⟩
      · have : k < (d :: u).length := by
          rcases Nat.lt_or_ge k (d :: u).length with z | z
          · exact z
          · rw [List.drop_eq_nil_of_le z] at e; cases e
        simpa [Nat.lt_succ_iff] using this
      · have : u.drop k = v := by
          have e2 := congrArg List.tail e
          rw [List.tail_drop] at e2
          exact e2
        rw [this]
        exact hv
  · rintro ⟨c, v, rfl, _, h⟩
    obtain ⟨k, hk, h⟩ := M_lot.mp h
    have e : (c :: v).drop k = (c :: v)[k]'(by simp; omega) :: v.drop k := drop_cons (w := c :: v) (by simp; omega)
    exact ⟨k, by simp; omega, (M_one (p := .any) rfl).mpr ⟨_, _, e, rfl, h⟩⟩
/-! ## the rows that a machine reads -/
def lotAt (R : List Pt) (q : Nat) : Bool := match R[q]? with
  | some p => p.isLot
  | none => false
theorem lotAt_lt {R : List Pt} {q : Nat} (h : lotAt R q = true) : q < R.length := by
  unfold lotAt at h
  rcases Nat.lt_or_ge q R.length with z | z
  · exact z
  · rw [List.getElem?_eq_none z] at h; cases h
theorem drop_lot {R : List Pt} {q : Nat} (h : lotAt R q = true) : R.drop q = .lot :: R.drop (q + 1) := by
  have l := lotAt_lt h
  unfold lotAt at h
  rw [List.getElem?_eq_getElem l] at h
  rw [List.drop_eq_getElem_cons l, isLot_eq h]
theorem drop_non {R : List Pt} {q : Nat} (l : q < R.length) (h : lotAt R q = false) : R.drop q = R[q] :: R.drop (q + 1) ∧ R[q].isLot = false := by
  unfold lotAt at h
  rw [List.getElem?_eq_getElem l] at h
  exact ⟨List.drop_eq_getElem_cons l, h⟩
/-- no two lots side by side -/
def Sep (R : List Pt) : Prop := ∀ q, lotAt R q = true → lotAt R (q + 1) = false
def Acc (R : List Pt) (s : Nat) (w : List Nat) : Prop := ∃ q, s.testBit q = true ∧ M (R.drop q) w
def In (R : List Pt) (s : Nat) : Prop := ∀ q, s.testBit q = true → q ≤ R.length
def Cl (R : List Pt) (s : Nat) : Prop := ∀ q, s.testBit q = true → lotAt R q = true → s.testBit (q + 1) = true
/-- what is behind a lot is behind it from any place ahead -/
theorem M_drop_lot {R : List Pt} {w : List Nat} {k : Nat} (hk : lotAt R k = true) : ∀ {n q : Nat}, q + n = k → M (R.drop q) w → M (R.drop k) w
  | 0, q, e, h => by
    obtain rfl : q = k := by omega
    exact h
  | n + 1, q, e, h => by
    have l := lotAt_lt hk
    have lk := drop_lot hk
    have ex : ∃ v j, j ≤ w.length ∧ v = w.drop j ∧ M (R.drop (q + 1)) v := by
      cases hq : lotAt R q with
      | true =>
        rw [drop_lot hq, M_lot] at h
        obtain ⟨j, hj, h⟩ := h
        exact ⟨_, j, hj, rfl, h⟩
      | false =>
        obtain ⟨e1, e2⟩ := drop_non (by omega) hq
        rw [e1, M_one e2] at h
        obtain ⟨c, v, rfl, _, h⟩ := h
        exact ⟨v, 1, by simp, rfl, h⟩
    obtain ⟨v, j, hj, rfl, hv⟩ := ex
    have z := M_drop_lot hk (n := n) (q := q + 1) (by omega) hv
    rw [lk, M_lot] at z ⊢
    obtain ⟨i, hi, z⟩ := z
    rw [List.length_drop] at hi
    rw [List.drop_drop] at z
    exact ⟨j + i, by omega, z⟩
/-- bits below k taken away -/
def clr (s k : Nat) : Nat := s / 2 ^ k * 2 ^ k
theorem clr_bit (s k q : Nat) : (clr s k).testBit q = (decide (k ≤ q) && s.testBit q) := by
  unfold clr
  rw [Nat.testBit_mul_two_pow]
  by_cases h : k ≤ q
  · rw [decide_eq_true h, Nat.testBit_div_two_pow, Nat.sub_add_cancel h]
  · rw [decide_eq_false h]
    rfl
theorem clr_int (s k : Nat) : Builtin.bitAnd (s : Int) (Builtin.bitNot ((2 : Int) ^ k - 1)) = ((clr s k : Nat) : Int) := by
  rw [bitAnd_not, Bits.bitAnd_mask k (Int.natCast_nonneg _)]
  have e : ((s : Int) % 2 ^ k) = ((s % 2 ^ k : Nat) : Int) := by
    rw [Int.natCast_emod, PySem.W.kbt_cast]
  rw [e]
  have := Nat.div_add_mod s (2 ^ k)
  unfold clr
  have h2 : s / 2 ^ k * 2 ^ k = 2 ^ k * (s / 2 ^ k) := Nat.mul_comm _ _
  omega
theorem and_int (a b : Nat) : Builtin.bitAnd (a : Int) (b : Int) = ((a &&& b : Nat) : Int) := by
  rw [bitAnd_pp (Int.natCast_nonneg _) (Int.natCast_nonneg _)]
  rfl
theorem or_int' (a b : Nat) : Builtin.bitOr (a : Int) (b : Int) = ((a ||| b : Nat) : Int) := by
  rw [bitOr_nn (Int.natCast_nonneg _) (Int.natCast_nonneg _)]
  rfl
theorem clr_ok {R : List Pt} {s k : Nat} (hs : Sep R) (hi : In R s) (hc : Cl R s) (hk : lotAt R k = true) (hb : s.testBit k = true) : In R (clr s k) ∧ Cl R (clr s k) ∧ ∀ w, Acc R (clr s k) w ↔ Acc R s w := by
  refine ⟨fun q h => ?_, fun q h hl => ?_, fun w => ⟨?_, ?_⟩⟩
  · rw [clr_bit, Bool.and_eq_true] at h
    exact hi q h.2
  · rw [clr_bit, Bool.and_eq_true] at h ⊢
    exact ⟨decide_eq_true (by have := of_decide_eq_true h.1; omega), hc q h.2 hl⟩
  · rintro ⟨q, h, m⟩
    rw [clr_bit, Bool.and_eq_true] at h
    exact ⟨q, h.2, m⟩
  · rintro ⟨q, h, m⟩
    by_cases e : k ≤ q
    · exact ⟨q, by rw [clr_bit, decide_eq_true e, h]; rfl, m⟩
    · exact ⟨k, by rw [clr_bit, decide_eq_true (Nat.le_refl _), hb]; rfl, M_drop_lot hk (n := k - q) (by omega) m⟩
/-- the bits of a row's lots -/
def Lots (R : List Pt) (l : Nat) : Prop := ∀ q, l.testBit q = lotAt R q
def cl1 (s l : Nat) : Nat := s ||| ((s &&& l) * 2)
theorem dbl_bit (s q : Nat) : (s * 2).testBit q = (decide (1 ≤ q) && s.testBit (q - 1)) := by
  have := Nat.testBit_mul_two_pow s q 1
  rw [Nat.pow_one] at this
  exact this
theorem cl1_ok {R : List Pt} {s l : Nat} (hs : Sep R) (hL : Lots R l) (hi : In R s) : In R (cl1 s l) ∧ Cl R (cl1 s l) ∧ ∀ w, Acc R (cl1 s l) w ↔ Acc R s w := by
  have bit : ∀ q, (cl1 s l).testBit q = true ↔ s.testBit q = true ∨ ∃ p, q = p + 1 ∧ s.testBit p = true ∧ lotAt R p = true := by
    intro q
    unfold cl1
    rw [Nat.testBit_or, dbl_bit, Nat.testBit_and, Bool.or_eq_true, Bool.and_eq_true, Bool.and_eq_true, hL]
    constructor
    · rintro (h | ⟨h1, h2, h3⟩)
      · exact .inl h
      · have := of_decide_eq_true h1
        exact .inr ⟨q - 1, by omega, h2, h3⟩
    · rintro (h | ⟨p, rfl, h2, h3⟩)
      · exact .inl h
      · exact .inr ⟨decide_eq_true (by omega), by rw [Nat.add_sub_cancel]; exact h2, by rw [Nat.add_sub_cancel]; exact h3⟩
  refine ⟨fun q h => ?_, fun q h hl => ?_, fun w => ⟨?_, ?_⟩⟩
  · rcases (bit q).mp h with h | ⟨p, rfl, h1, h2⟩
    · exact hi q h
    · exact lotAt_lt h2
  · rcases (bit q).mp h with h | ⟨p, rfl, h1, h2⟩
    · exact (bit _).mpr (.inr ⟨q, rfl, h, hl⟩)
    · rw [hs p h2] at hl
      cases hl
  · rintro ⟨q, h, m⟩
    rcases (bit q).mp h with h | ⟨p, rfl, h1, h2⟩
    · exact ⟨q, h, m⟩
    · exact ⟨p, h1, by rw [drop_lot h2, M_lot]; exact ⟨0, Nat.zero_le _, m⟩⟩
  · rintro ⟨q, h, m⟩
    exact ⟨q, (bit q).mpr (.inl h), m⟩
/-- the bits of the pieces that take a sign -/
def Mask (R : List Pt) (c k : Nat) : Prop := ∀ q, k.testBit q = true ↔ ∃ p, R[q]? = some p ∧ p.isLot = false ∧ p.takes c = true
def stp (s k l : Nat) : Nat := ((s &&& k) * 2) ||| (s &&& l)
theorem stp_ok {R : List Pt} {s l k c : Nat} (hs : Sep R) (hL : Lots R l) (hM : Mask R c k) (hi : In R s) (hc : Cl R s) : In R (stp s k l) ∧ ∀ w, Acc R (stp s k l) w ↔ Acc R s (c :: w) := by
  have bit : ∀ q, (stp s k l).testBit q = true ↔ (∃ p x, q = p + 1 ∧ s.testBit p = true ∧ R[p]? = some x ∧ x.isLot = false ∧ x.takes c = true) ∨ (s.testBit q = true ∧ lotAt R q = true) := by
    intro q
    unfold stp
    rw [Nat.testBit_or, dbl_bit, Nat.testBit_and, Nat.testBit_and, Bool.or_eq_true, Bool.and_eq_true, Bool.and_eq_true, Bool.and_eq_true, hL]
    constructor
    · rintro (⟨h1, h2, h3⟩ | h)
      · have := of_decide_eq_true h1
        obtain ⟨x, e⟩ := (hM _).mp h3
        exact .inl ⟨q - 1, x, by omega, h2, e⟩
      · exact .inr h
    · rintro (⟨p, x, rfl, h2, h3⟩ | h)
      · exact .inl ⟨decide_eq_true (by omega), by rw [Nat.add_sub_cancel]; exact h2, by rw [Nat.add_sub_cancel]; exact (hM _).mpr ⟨x, h3⟩⟩
      · exact .inr h
  have lt : ∀ {p : Nat} {x : Pt}, R[p]? = some x → ∃ h : p < R.length, R[p] = x := fun e => List.getElem?_eq_some_iff.mp e
  refine ⟨fun q h => ?_, fun w => ⟨?_, ?_⟩⟩
  · rcases (bit q).mp h with ⟨p, x, rfl, h1, h2, _⟩ | ⟨h, _⟩
    · exact (lt h2).1
    · exact hi q h
  · rintro ⟨q, h, m⟩
    rcases (bit q).mp h with ⟨p, x, rfl, h1, h2, h3, h4⟩ | ⟨h, hl⟩
    · obtain ⟨l', rfl⟩ := lt h2
      exact ⟨p, h1, by rw [List.drop_eq_getElem_cons l']; exact (M_one h3).mpr ⟨c, w, rfl, h4, m⟩⟩
    · rw [drop_lot hl, M_lot] at m
      obtain ⟨j, hj, m⟩ := m
      exact ⟨q, h, by rw [drop_lot hl, M_lot]; exact ⟨j + 1, Nat.succ_le_succ hj, m⟩⟩
  · rintro ⟨q, h, m⟩
    have one : ∀ p, s.testBit p = true → lotAt R p = false → M (R.drop p) (c :: w) → Acc R (stp s k l) w := by
      intro p hp hl m
      have lp : p < R.length := by
        rcases Nat.lt_or_ge p R.length with z | z
        · exact z
        · rw [List.drop_eq_nil_of_le z] at m; cases m
      obtain ⟨e1, e2⟩ := drop_non lp hl
      rw [e1, M_one e2] at m
      obtain ⟨c', v, e, ht, m⟩ := m
      obtain ⟨rfl, rfl⟩ := List.cons.inj e
      exact ⟨p + 1, (bit _).mpr (.inl ⟨p, R[p], rfl, hp, List.getElem?_eq_getElem lp, e2, ht⟩), m⟩
    cases hl : lotAt R q with
    | false => exact one q h hl m
    | true =>
      rw [drop_lot hl, M_lot] at m
      obtain ⟨j, hj, m⟩ := m
      cases j with
      | zero => exact one (q + 1) (hc q h hl) (hs q hl) m
      | succ j => exact ⟨q, (bit q).mpr (.inr ⟨h, hl⟩), by rw [drop_lot hl, M_lot]; exact ⟨j, Nat.le_of_succ_le_succ hj, m⟩⟩
theorem acc_end {R : List Pt} {s : Nat} (hs : Sep R) (hi : In R s) (hc : Cl R s) : s.testBit R.length = true ↔ Acc R s [] := by
  constructor
  · intro h
    exact ⟨_, h, by rw [List.drop_length]; rfl⟩
  · rintro ⟨q, h, m⟩
    have one : ∀ p, s.testBit p = true → lotAt R p = false → M (R.drop p) [] → s.testBit R.length = true := by
      intro p hp hl m
      rcases Nat.lt_or_ge p R.length with z | z
      · obtain ⟨e1, e2⟩ := drop_non z hl
        rw [e1, M_one e2] at m
        obtain ⟨c, v, e, _⟩ := m
        cases e
      · have := hi p hp
        rw [show R.length = p by omega]
        exact hp
    cases hl : lotAt R q with
    | false => exact one q h hl m
    | true =>
      rw [drop_lot hl, M_lot] at m
      obtain ⟨j, hj, m⟩ := m
      obtain rfl : j = 0 := by simpa using hj
      exact one (q + 1) (hc q h hl) (hs q hl) m
/-- a standing that is closed, and what it lets by -/
structure Std (R : List Pt) (s : Nat) (f : List Nat → Prop) : Prop where
  ins : In R s
  cl : Cl R s
  acc : ∀ w, Acc R s w ↔ f w
theorem in_lt {R : List Pt} {s : Nat} (h : In R s) : s < 2 ^ (R.length + 1) := by
  rcases Nat.lt_or_ge s (2 ^ (R.length + 1)) with z | z
  · exact z
  · obtain ⟨i, hi, hb⟩ := Nat.exists_ge_and_testBit_of_ge_two_pow z
    have := h i hb
    omega
end Qb
end PySem
namespace PySem
namespace Qb
open PySem.W PySem.Calls PyProof.Rows L2
theorem lotAt_snoc (T : List Pt) (x : Pt) (q : Nat) : lotAt (T ++ [x]) q = if q < T.length then lotAt T q else if q = T.length then x.isLot else false := by
  unfold lotAt
  by_cases h : q < T.length
  · rw [if_pos h, List.getElem?_append_left h]
  · rw [if_neg h, List.getElem?_append_right (by omega)]
    by_cases e : q = T.length
    · subst e
      rw [if_pos rfl, Nat.sub_self]
      rfl
    · rw [if_neg e, List.getElem?_eq_none (by simp; omega)]
theorem lotAt_big {T : List Pt} {q : Nat} (h : T.length ≤ q) : lotAt T q = false := by
  unfold lotAt
  rw [List.getElem?_eq_none h]
theorem Lots.nil : Lots [] 0 := fun q => by rw [Nat.zero_testBit]; rfl
theorem Lots.snoc {T : List Pt} {l : Nat} (h : Lots T l) (x : Pt) : Lots (T ++ [x]) (if x.isLot = true then l ||| 2 ^ T.length else l) := fun q => by
  rw [lotAt_snoc]
  by_cases hx : x.isLot = true
  · rw [if_pos hx, Nat.testBit_or, Nat.testBit_two_pow, h q]
    by_cases h1 : q < T.length
    · rw [if_pos h1, decide_eq_false (by omega), Bool.or_false]
    · rw [if_neg h1, lotAt_big (by omega), Bool.false_or]
      by_cases h2 : q = T.length
      · rw [if_pos h2, hx, decide_eq_true h2.symm]
      · rw [if_neg h2, decide_eq_false (Ne.symm h2)]
  · rw [if_neg hx, h q]
    by_cases h1 : q < T.length
    · rw [if_pos h1]
    · rw [if_neg h1, lotAt_big (by omega)]
      split
      · simpa using hx
      · rfl
structure RT (ps : List Pt) (i : Nat) (T : List Pt) (b : Bool) : Prop where
  sep : Sep T
  last : ∀ q, lotAt T q = true → q + 1 < T.length
  len : T.length + b.toNat ≤ i
  mem : ∀ p ∈ T, p ∈ ps ∨ p = .lot
  eq : ∀ rest w, M (ps.take i ++ rest) w ↔ M (T ++ ((if b = true then [Pt.lot] else []) ++ rest)) w
theorem RT.zero (ps : List Pt) : RT ps 0 [] false := ⟨fun q h => (by simp [lotAt] at h), fun q h => (by simp [lotAt] at h), Nat.le_refl _, (by simp), fun _ _ => Iff.rfl⟩
theorem take_mid {ps : List Pt} {i : Nat} {p : Pt} (h : ps[i]? = some p) (rest : List Pt) : ps.take (i + 1) ++ rest = ps.take i ++ (p :: rest) := by
  rw [List.take_succ, h]
  simp
theorem RT.lot {ps T : List Pt} {i : Nat} {b : Bool} (h : RT ps i T b) (e : ps[i]? = some .lot) : RT ps (i + 1) T true := by
  refine ⟨h.sep, h.last, ?_, h.mem, fun rest w => ?_⟩
  · have := h.len
    cases b <;> simp at this ⊢ <;> omega
  · rw [take_mid e, h.eq]
    refine M_congr (fun u => ?_) w
    cases b with
    | false => exact Iff.rfl
    | true => exact M_lot_lot u
theorem sep_snoc {T : List Pt} {x : Pt} (hs : Sep T) (hl : ∀ q, lotAt T q = true → q + 1 < T.length) (hx : x.isLot = false) : Sep (T ++ [x]) ∧ ∀ q, lotAt (T ++ [x]) q = true → q + 1 < (T ++ [x]).length := by
  refine ⟨fun q h => ?_, fun q h => ?_⟩
  · rw [lotAt_snoc] at h ⊢
    by_cases c : q < T.length
    · rw [if_pos c] at h
      rw [if_pos (hl q h), hs q h]
    · rw [if_neg c] at h
      split at h
      · rw [hx] at h; cases h
      · cases h
  · rw [lotAt_snoc] at h
    by_cases c : q < T.length
    · rw [if_pos c] at h
      have := hl q h
      rw [List.length_append]
      omega
    · rw [if_neg c] at h
      split at h
      · rw [hx] at h; cases h
      · cases h
theorem sep_lot {T : List Pt} (hs : Sep T) (hl : ∀ q, lotAt T q = true → q + 1 < T.length) : Sep (T ++ [.lot]) := fun q h => by
  rw [lotAt_snoc] at h ⊢
  by_cases c : q < T.length
  · rw [if_pos c] at h
    rw [if_pos (hl q h), hs q h]
  · rw [if_neg c] at h
    rw [if_neg (by omega)]
    split at h
    · rw [if_neg (by omega)]
    · cases h
theorem sep_lot_x {T : List Pt} {x : Pt} (hs : Sep T) (hl : ∀ q, lotAt T q = true → q + 1 < T.length) (hx : x.isLot = false) : Sep (T ++ [Pt.lot] ++ [x]) ∧ ∀ q, lotAt (T ++ [Pt.lot] ++ [x]) q = true → q + 1 < (T ++ [Pt.lot] ++ [x]).length := by
  have s1 := sep_lot hs hl
  have ln : (T ++ [Pt.lot]).length = T.length + 1 := by rw [List.length_append]; rfl
  refine ⟨fun q h => ?_, fun q h => ?_⟩
  · rw [lotAt_snoc] at h ⊢
    by_cases c : q < (T ++ [Pt.lot]).length
    · rw [if_pos c] at h
      by_cases c2 : q + 1 < (T ++ [Pt.lot]).length
      · rw [if_pos c2, s1 q h]
      · rw [if_neg c2, if_pos (by omega), hx]
    · rw [if_neg c] at h
      split at h
      · rw [hx] at h; cases h
      · cases h
  · rw [lotAt_snoc] at h
    by_cases c : q < (T ++ [Pt.lot]).length
    · rw [List.length_append, List.length_singleton]; omega
    · rw [if_neg c] at h
      split at h
      · rw [hx] at h; cases h
      · cases h
theorem RT.any {ps T : List Pt} {i : Nat} {b : Bool} (h : RT ps i T b) (e : ps[i]? = some .any) : RT ps (i + 1) (T ++ [.any]) b := by
  obtain ⟨s1, s2⟩ := sep_snoc (x := .any) h.sep h.last rfl
  refine ⟨s1, s2, ?_, fun p m => ?_, fun rest w => ?_⟩
  · have := h.len
    rw [List.length_append, List.length_singleton]
    omega
  · rcases List.mem_append.mp m with m | m
    · exact h.mem p m
    · rcases List.mem_singleton.mp m with rfl
      exact .inl (List.mem_of_getElem? e)
  · rw [take_mid e, h.eq, List.append_assoc]
    refine M_congr (fun u => ?_) w
    cases b with
    | false => exact Iff.rfl
    | true => exact M_lot_any u
theorem RT.non {ps T : List Pt} {i : Nat} {b : Bool} {p : Pt} (h : RT ps i T b) (e : ps[i]? = some p) (hp : p.isLot = false) : RT ps (i + 1) ((if b = true then T ++ [.lot] else T) ++ [p]) false := by
  have mp : p ∈ ps := List.mem_of_getElem? e
  cases b with
  | false =>
    rw [if_neg (by decide)]
    obtain ⟨s1, s2⟩ := sep_snoc (x := p) h.sep h.last hp
    refine ⟨s1, s2, ?_, fun x m => ?_, fun rest w => ?_⟩
    · have := h.len
      rw [List.length_append, List.length_singleton]
      simp at this ⊢
      omega
    · rcases List.mem_append.mp m with m | m
      · exact h.mem x m
      · rcases List.mem_singleton.mp m with rfl
        exact .inl mp
    · rw [take_mid e, h.eq, List.append_assoc]
      exact Iff.rfl
  | true =>
    rw [if_pos rfl]
    obtain ⟨s1, s2⟩ := sep_lot_x (x := p) h.sep h.last hp
    refine ⟨s1, s2, ?_, fun x m => ?_, fun rest w => ?_⟩
    · have := h.len
      rw [List.length_append, List.length_append, List.length_singleton, List.length_singleton]
      simp at this ⊢
      omega
    · rcases List.mem_append.mp m with m | m
      · rcases List.mem_append.mp m with m | m
        · exact h.mem x m
        · exact .inr (List.mem_singleton.mp m)
      · rcases List.mem_singleton.mp m with rfl
        exact .inl mp
    · rw [take_mid e, h.eq, List.append_assoc, List.append_assoc]
      exact Iff.rfl
/-- a row that a machine reads for a pattern -/
structure Norm (ps R : List Pt) : Prop where
  sep : Sep R
  len : R.length ≤ ps.length
  mem : ∀ p ∈ R, p ∈ ps ∨ p = .lot
  eq : ∀ w, M ps w ↔ M R w
theorem RT.done {ps T : List Pt} {b : Bool} (h : RT ps ps.length T b) : Norm ps (if b = true then T ++ [.lot] else T) := by
  have z := h.eq []
  rw [List.take_length, List.append_nil, List.append_nil] at z
  cases b with
  | false =>
    refine ⟨h.sep, by have := h.len; simp at this; exact this, h.mem, fun w => ?_⟩
    rw [z w, if_neg (by decide), if_neg (by decide), List.append_nil]
  | true =>
    refine ⟨sep_lot h.sep h.last, by have := h.len; rw [if_pos rfl, List.length_append]; simpa using this, fun p m => ?_, fun w => z w⟩
    rcases List.mem_append.mp m with m | m
    · exact h.mem p m
    · exact .inr (List.mem_singleton.mp m)
/-! # rows of places -/
abbrev Asc (E : List Nat) : Prop := E.Pairwise (· < ·)
theorem asc_ext : ∀ {E F : List Nat}, Asc E → Asc F → (∀ x, x ∈ E ↔ x ∈ F) → E = F
  | [], [], _, _, _ => rfl
  | [], f :: F, _, _, h => by have := (h f).mpr (.head _); cases this
  | e :: E, [], _, _, h => by have := (h e).mp (.head _); cases this
  | e :: E, f :: F, hE, hF, h => by
    obtain ⟨hE1, hE2⟩ := List.pairwise_cons.mp hE
    obtain ⟨hF1, hF2⟩ := List.pairwise_cons.mp hF
    have ef : e = f := by
      rcases List.mem_cons.mp ((h e).mp (.head _)) with z | z
      · exact z
      · rcases List.mem_cons.mp ((h f).mpr (.head _)) with y | y
        · exact y.symm
        · have a := hF1 e z
          have b := hE1 f y
          omega
    subst ef
    congr 1
    refine asc_ext hE2 hF2 fun x => ⟨fun m => ?_, fun m => ?_⟩
    · rcases List.mem_cons.mp ((h x).mp (.tail _ m)) with z | z
      · have := hE1 x m
        omega
      · exact z
    · rcases List.mem_cons.mp ((h x).mpr (.tail _ m)) with z | z
      · have := hF1 x m
        omega
      · exact z
def EndsAt (ps : List Pt) (w : List Nat) (E : List Nat) : Prop := Asc E ∧ ∀ a, a ∈ E ↔ a ≤ w.length ∧ M ps (w.take a)
theorem EndsAt.uniq {ps qs : List Pt} {w E F : List Nat} (h1 : EndsAt ps w E) (h2 : EndsAt qs w F) (h : ∀ u, M ps u ↔ M qs u) : E = F :=
  asc_ext h1.1 h2.1 fun a => by rw [h1.2, h2.2, h]
theorem EndsAt.nil (w : List Nat) : EndsAt [] w [0] := ⟨by simp, fun a => by
  rw [List.mem_singleton, M_nil]
  constructor
  · rintro rfl
    exact ⟨Nat.zero_le _, rfl⟩
  · rintro ⟨h1, h2⟩
    rcases List.take_eq_nil_iff.mp h2 with z | z
    · exact z
    · subst z
      simpa using h1⟩
def lotOf (E : List Nat) (a : Nat) : Bool := match E with
  | [] => false
  | e :: _ => decide (e ≤ a)
theorem lotOf_iff {E : List Nat} (hE : Asc E) (a : Nat) : lotOf E a = true ↔ ∃ e ∈ E, e ≤ a := by
  cases E with
  | nil => simp [lotOf]
  | cons e E =>
    show decide (e ≤ a) = true ↔ _
    constructor
    · intro h
      exact ⟨e, .head _, of_decide_eq_true h⟩
    · rintro ⟨x, m, h⟩
      refine decide_eq_true ?_
      rcases List.mem_cons.mp m with rfl | m
      · exact h
      · have := (List.pairwise_cons.mp hE).1 x m
        omega
theorem EndsAt.lot {ps : List Pt} {w E : List Nat} (h : EndsAt ps w E) : EndsAt (ps ++ [.lot]) w ((List.range (w.length + 1)).filter (lotOf E)) := by
  refine ⟨List.Pairwise.filter _ (by simpa using List.pairwise_lt_range), fun a => ?_⟩
  rw [List.mem_filter, List.mem_range, lotOf_iff h.1, M_append]
  constructor
  · rintro ⟨h1, e, m, h2⟩
    obtain ⟨h3, h4⟩ := (h.2 e).mp m
    refine ⟨by omega, e, by rw [List.length_take]; omega, by rw [List.take_take, Nat.min_eq_left h2]; exact h4, M_lot.mpr ⟨((w.take a).drop e).length, Nat.le_refl _, ?_⟩⟩
    rw [List.drop_length]
    rfl
  · rintro ⟨h1, k, hk, h2, _⟩
    rw [List.length_take] at hk
    rw [List.take_take, Nat.min_eq_left (by omega)] at h2
    exact ⟨by omega, k, (h.2 k).mpr ⟨by omega, h2⟩, by omega⟩
def tk (p : Pt) (w : List Nat) (a : Nat) : Bool := match w[a]? with
  | some c => p.takes c
  | none => false
theorem EndsAt.one {ps : List Pt} {w E : List Nat} {p : Pt} (h : EndsAt ps w E) (hp : p.isLot = false) : EndsAt (ps ++ [p]) w ((E.filter (tk p w)).map (· + 1)) := by
  refine ⟨?_, fun a => ?_⟩
  · show (List.map (· + 1) (E.filter (tk p w))).Pairwise (· < ·)
    rw [List.pairwise_map]
    exact (List.Pairwise.filter _ h.1).imp fun z => by omega
  · rw [List.mem_map]
    constructor
    · rintro ⟨b, m, rfl⟩
      obtain ⟨m, ht⟩ := List.mem_filter.mp m
      obtain ⟨h1, h2⟩ := (h.2 b).mp m
      unfold tk at ht
      rcases Nat.lt_or_ge b w.length with z | z
      · rw [List.getElem?_eq_getElem z] at ht
        refine ⟨z, M_append.mpr ⟨b, by rw [List.length_take]; omega, by rw [List.take_take, Nat.min_eq_left (by omega)]; exact h2, (M_one hp).mpr ⟨w[b], [], ?_, ht, rfl⟩⟩⟩
        rw [List.drop_take, List.drop_eq_getElem_cons z, show b + 1 - b = 1 by omega]
        rfl
      · rw [List.getElem?_eq_none z] at ht
        cases ht
    · rintro ⟨h1, h2⟩
      obtain ⟨k, hk, h3, h4⟩ := M_append.mp h2
      obtain ⟨c, v, e, ht, h5⟩ := (M_one hp).mp h4
      obtain rfl : v = [] := h5
      have el := congrArg List.length e
      rw [List.length_drop, List.length_take] at el
      simp at el
      have hk2 : k < w.length := by rw [List.length_take] at hk; omega
      have ea : a = k + 1 := by omega
      subst ea
      rw [List.take_take, Nat.min_eq_left (by omega)] at h3
      refine ⟨k, List.mem_filter.mpr ⟨(h.2 k).mpr ⟨by omega, h3⟩, ?_⟩, rfl⟩
      unfold tk
      rw [List.getElem?_eq_getElem hk2]
      rw [List.drop_take, List.drop_eq_getElem_cons hk2, show k + 1 - k = 1 by omega] at e
      obtain rfl := (List.cons.inj e).1
      exact ht
/-- what is found so far by a machine -/
def Found (ps : List Pt) (w : List Nat) (i : Nat) (E : List Nat) : Prop := Asc E ∧ ∀ a, a ∈ E ↔ a ≤ i ∧ M ps (w.take a)
theorem Found.next {ps : List Pt} {w E : List Nat} {i : Nat} (h : Found ps w i E) (b : Bool) (hb : b = true ↔ M ps (w.take (i + 1))) : Found ps w (i + 1) (if b = true then E ++ [i + 1] else E) := by
  cases b with
  | true =>
    rw [if_pos rfl]
    refine ⟨List.pairwise_append.mpr ⟨h.1, by simp, fun a m c mc => ?_⟩, fun a => ?_⟩
    · have := (h.2 a).mp m
      rcases List.mem_singleton.mp mc with rfl
      omega
    · rw [List.mem_append, List.mem_singleton, h.2]
      constructor
      · rintro (⟨h1, h2⟩ | rfl)
        · exact ⟨by omega, h2⟩
        · exact ⟨Nat.le_refl _, hb.mp rfl⟩
      · rintro ⟨h1, h2⟩
        by_cases e : a = i + 1
        · exact .inr e
        · exact .inl ⟨by omega, h2⟩
  | false =>
    rw [if_neg (by decide)]
    refine ⟨h.1, fun a => ?_⟩
    rw [h.2]
    constructor
    · rintro ⟨h1, h2⟩
      exact ⟨by omega, h2⟩
    · rintro ⟨h1, h2⟩
      by_cases e : a = i + 1
      · subst e
        have := hb.mpr h2
        cases this
      · exact ⟨by omega, h2⟩
end Qb
end PySem
namespace PySem
namespace Qb
open PySem.W PySem.Calls PyProof.Rows L2
def top (i : Nat) : Stmt := PySem.Challenge.pw_quotedback_k56_each_filter_by_its_lines.main.body.getD i (.Pass ⟨0, 0, 0, 0⟩)
/-- names of the machine that the text's top leaves as they are -/
structure Blt (mg : Str → Option Value) : Prop where
  abs : mg "abs" = none
  int : mg "int" = none
  len : mg "len" = none
  range : mg "range" = none
  isi : mg "isinstance" = none
  all : mg "all" = none
  max : mg "max" = none
  min : mg "min" = none
  list : mg "list" = none
  tuple : mg "tuple" = none
  str : mg "str" = none
  bool : mg "bool" = none
  sum : mg "sum" = none
  enumerate : mg "enumerate" = none
/-- what the text's top says of its written things -/
structure Wrt (mg : Str → Option Value) : Prop where
  signs : ∃ t, mg "SIGNS" = some (.str signsS t)
  all : ∃ t, mg "ALL_SIGNS" = some (.int (((2 ^ 95 - 1 : Nat)) : Int) t)
theorem glob_int {X : Cx} {x : Str} {c : Int} {pos : Pos} (hg : Gl X x) (hm : ∃ t, X.mg x = some (.int c t)) (hd : (x == ("__debug__" : Str)) = false := by decide) : PE X (.Name x pos) (tC (.int c)) := by
  obtain ⟨t, e⟩ := hm
  exact pe_glob hg e ⟨t, rfl⟩ hd
theorem eq_sg {c d : Nat} {x : Str} (hx : x = sg d) : decide (V.str (sg c) = V.str x) = (c == d) := by
  subst hx
  by_cases h : c = d
  · subst h; simp
  · rw [decide_eq_false, beq_eq_false_iff_ne.mpr h]
    intro z
    injection z with z
    have := congrArg cs z
    exact h (List.cons.inj this).1
theorem lt_sg (a b : Nat) : decide ((sg a).cps.toList < (sg b).cps.toList) = decide (a < b) := by
  have e : ((sg a).cps.toList < (sg b).cps.toList) ↔ a < b := by
    show ([a] : List Nat) < [b] ↔ a < b
    constructor
    · intro z
      cases z with
      | rel h => exact h
      | cons h => cases h
    · exact fun h => .rel h
  by_cases h : a < b
  · rw [decide_eq_true h, decide_eq_true (e.mpr h)]
  · rw [decide_eq_false h, decide_eq_false (fun z => h (e.mp z))]
theorem sg_len (c : Nat) : (sg c).length = 1 := rfl
theorem ty_lst {K : Frag} {H : Hp} {a : Addr} {xs : List V} (h : SqL K H a xs) : TyX K H (.ref a) (.type "list") := by
  rcases h with (h | ⟨o, h⟩) | ⟨o, its, n, h, c, _⟩
  · exact .base (.lst h)
  · exact .base (.frz h)
  · exact .kList h c
theorem ty_tup {K : Frag} {H : Hp} {a : Addr} {xs : List V} (h : SqT K H a xs) : TyX K H (.ref a) (.type "tuple") := by
  rcases h with (h | ⟨o, h⟩) | ⟨o, its, n, h, c, _⟩
  · exact .base (.tup h)
  · exact .fTuple h
  · exact .kTuple h c
theorem small_line {n : Nat} (h : n ≤ 1000000) : n ≤ sizeLine := by
  rw [sizeLine_eq]
  omega
def spSg : Sp := fun vs H Q _ => ∃ c, vs = [.str (sg c)] ∧ c ∈ cs signsS ∧ ∀ H', Same H H' → Q (.bl true) H'
def spRg (K : Frag) : Sp := fun vs H Q _ => ∃ v r, vs = [v] ∧ Dp K H v (rgD r) ∧ (r.1 ∈ cs signsS ∧ r.2 ∈ cs signsS ∧ r.1 ≤ r.2) ∧ ∀ H', Same H H' → Q (.bl true) H'
def spPp (K : Frag) : Sp := fun vs H Q _ => ∃ v p, vs = [v] ∧ Dp K H v (Pt.d p) ∧ p.good ∧ p.few ∧ ∀ H', Same H H' → Q (.bl true) H'
def spPa (K : Frag) : Sp := fun vs H Q _ => ∃ (v : V) (ps : List Pt), vs = [v] ∧ Dp K H v (.list (ps.map Pt.d)) ∧ ps.length ≤ 1000 ∧ (∀ p ∈ ps, p.good ∧ p.few) ∧ ∀ H', Same H H' → Q (.bl true) H'
def spCp (K : Frag) : Sp := fun vs H Q _ => ∃ (a : Addr) (x : V) (ps : List Pt), vs = [.ref a] ∧ SqL K H a [x] ∧ Dp K H x (.list (ps.map Pt.d)) ∧ ps.length ≤ 1000 ∧ (∀ p ∈ ps, p.good ∧ p.few) ∧ ∀ H', Same H H' → Q .non H'
section
variable {P : Program} {w : World} {K : Frag} {mg : Str → Option Value} {base : Heap}
abbrev sSg : Stmt := top 9
abbrev nSg : List Str := ["text"]
theorem scSg : FnScope nSg ["text"] (defScope sSg) := ⟨rfl, rfl, rfl, by decide +kernel, rfl, by decide +kernel, by decide +kernel⟩
theorem has_Sg {f : Addr} {fd : FuncData} (F : Fun K "is_sign" "is_sign" sSg f fd) (g : mg "is_sign" = some (.ref f)) (B : Blt mg) (W : Wrt mg) :
    Has P w K mg base 1 "is_sign" ["text"] spSg := by
  refine has_of F g (F.binds (ps := ["text"]) fun _ _ _ _ _ _ us hl => match us, hl with | [_], _ => rfl) (F.ok scSg (fun vs H Q E h => ?_) (fun cdv A outer s H vs Q E hr h => ?_))
  · obtain ⟨x, rfl, _⟩ := h
    rfl
  · refine ⟨_, (pss_one (ps_ret (pe_and (pe_callB call_isi (by rfl) B.isi (by decide +kernel) (pa_cons (pv 0) (pa_cons (pe_bltn (v := .ty "str") (by rfl) B.str (by decide +kernel) rfl) pa_nil))) (pe_and (pe_cmpR op_eq (pe_callB call_len (by rfl) B.len PySem.boot_len (pa_cons (pv 0) pa_nil)) pe_int (nomark _)) (pe_one (pe_cmpR op_in_sign (pv 0) (glob_str (by rfl) W.signs) (by rfl))))))), ?_⟩
    obtain ⟨c, rfl, hc, k⟩ := h
    refine ⟨_, rfl, .str (sg c), .ty "str", .type "str", .type "str", true, rfl, .ty _, .base (.str (sg c)), kit_ty (by decide +kernel), _, rfl, if_yes rfl ⟨_, rfl, .str (sg c), 1, rfl, ⟨small_line (by rw [sg_len]; decide), rfl⟩, rfl, _, rfl, if_yes (by simp) ⟨_, rfl, c, signsS, rfl, rfl, ?_⟩⟩⟩
    rw [decide_eq_true hc]
    exact k H (Same.refl H)
abbrev sRg : Stmt := top 17
abbrev nRg : List Str := ["told", "first", "last"]
theorem scRg : FnScope nRg ["told"] (defScope sRg) := ⟨rfl, rfl, rfl, by decide +kernel, rfl, by decide +kernel, by decide +kernel⟩
theorem has_Rg {f : Addr} {fd : FuncData} (F : Fun K "is_range" "is_range" sRg f fd) (g : mg "is_range" = some (.ref f)) (B : Blt mg) (hSg : Has P w K mg base 1 "is_sign" ["text"] spSg) :
    Has P w K mg base 2 "is_range" ["told"] (spRg K) := by
  obtain ⟨fSg, dSg, gSg, kSg, bSg, GSg⟩ := hSg
  refine has_of F g (F.binds (ps := ["told"]) fun _ _ _ _ _ _ us hl => match us, hl with | [_], _ => rfl) (F.ok scRg (fun vs H Q E h => ?_) (fun cdv A outer s H vs Q E hr h => ?_))
  · obtain ⟨v, r, rfl, _⟩ := h
    rfl
  · refine ⟨_, (pss_cons (ps_match (pv 0)
        (pcs_cons (is := [1, 2]) scRg.nd (pp_seq rfl (pps_cons pp_cap (pps_cons pp_cap pps_nil))) (.cons ⟨rfl, .inl rfl, .inr rfl⟩ (.cons ⟨rfl, .inl rfl, .inr rfl⟩ .nil))
          (pss_one (ps_ret (pe_and (pe_call GSg hr rfl gSg kSg bSg .nil pass0 (pa_cons (pv 1) pa_nil)) (pe_and (pe_call GSg hr rfl gSg kSg bSg .nil pass0 (pa_cons (pv 2) pa_nil)) (pe_one (pe_cmpR op_le_str (pv 1) (pv 2) (nomark _))))))) pcs_nil))
        (pss_one (ps_ret pe_bl))), ?_⟩
    obtain ⟨v, r, rfl, hd, ⟨h1, h2, h3⟩, k⟩ := h
    obtain ⟨a, rfl, hq⟩ := dp_two hd
    refine ⟨_, rfl, a, _, rfl, hq, fun z => (z rfl).elim, fun _ => ?_⟩
    refine ⟨_, rfl, r.1, rfl, h1, fun H1 s1 => ⟨_, rfl, if_yes rfl ⟨_, rfl, r.2, rfl, h2, fun H2 s2 => ⟨_, rfl, if_yes rfl ⟨_, rfl, _, rfl, _, _, rfl, rfl, ?_⟩⟩⟩⟩⟩
    rw [lt_sg, decide_eq_false (by omega)]
    exact k _ (s1.trans s2)
theorem str_ok_sg {c : Nat} (h : c ∈ cs signsS) : PyData.strOk (sg c) = true := by
  have : ∀ c ∈ cs signsS, PyData.strOk (sg c) = true := by decide +kernel
  exact this c h
theorem sh_one {x : Str} (h : PyData.strOk x = true) : Sh 1 (.str x) := sh_mono (sh_str h) (by decide)
theorem sh_rg {r : Nat × Nat} (h1 : r.1 ∈ cs signsS) (h2 : r.2 ∈ cs signsS) : Sh 1 (rgD r) := sh_tup fun d m => by
  rcases List.mem_cons.mp m with rfl | m
  · exact sh_str (str_ok_sg h1)
  · rcases List.mem_singleton.mp m with rfl
    exact sh_str (str_ok_sg h2)
theorem sh_rgs {rs : List (Nat × Nat)} (h : ∀ r ∈ rs, r.1 ∈ cs signsS ∧ r.2 ∈ cs signsS ∧ r.1 ≤ r.2) : Sh 2 (.list (rs.map rgD)) := sh_lst fun d m => by
  obtain ⟨r, mr, rfl⟩ := List.mem_map.mp m
  exact sh_rg (h r mr).1 (h r mr).2.1
abbrev sPp : Stmt := top 16
abbrev nPp : List Str := ["piece", "sign", "ranges", "told"]
theorem scPp : FnScope nPp ["piece"] (defScope sPp) := ⟨rfl, rfl, rfl, by decide +kernel, rfl, by decide +kernel, by decide +kernel⟩
theorem has_Pp {f : Addr} {fd : FuncData} (F : Fun K "is_pattern_piece" "is_pattern_piece" sPp f fd) (g : mg "is_pattern_piece" = some (.ref f)) (B : Blt mg) (hSg : Has P w K mg base 1 "is_sign" ["text"] spSg) (hRg : Has P w K mg base 2 "is_range" ["told"] (spRg K)) :
    Has P w K mg base 3 "is_pattern_piece" ["piece"] (spPp K) := by
  obtain ⟨fSg, dSg, gSg, kSg, bSg, GSg⟩ := hSg
  obtain ⟨fRg, dRg, gRg, kRg, bRg, GRg⟩ := hRg
  refine has_of F g (F.binds (ps := ["piece"]) fun _ _ _ _ _ _ us hl => match us, hl with | [_], _ => rfl) (F.ok scPp (fun vs H Q E h => ?_) (fun cdv A outer s H vs Q E hr h => ?_))
  · obtain ⟨v, p, rfl, _⟩ := h
    rfl
  · refine ⟨_, (pss_cons (ps_match (pv 0)
        (pcs_cons (is := []) scPp.nd (pp_or (pf_cons (pp_seq rfl (pps_cons pp_lit pps_nil)) (pf_cons (pp_seq rfl (pps_cons pp_lit pps_nil)) pf_nil))) .nil
          (pss_one (ps_ret pe_bl))
        (pcs_cons (is := [1]) scPp.nd (pp_seq rfl (pps_cons pp_lit (pps_cons pp_cap pps_nil))) (.cons ⟨rfl, .inl rfl, .inr rfl⟩ .nil)
          (pss_one (ps_ret (pe_call GSg (hr.mono (by decide)) rfl gSg kSg bSg .nil pass0 (pa_cons (pv 1) pa_nil))))
        (pcs_cons (is := [2]) scPp.nd (pp_seq rfl (pps_cons pp_lit (pps_cons (pp_or (pf_cons pp_bool (pf_cons pp_bool pf_nil))) (pps_cons pp_cap pps_nil)))) (.cons ⟨rfl, .inl rfl, .inr rfl⟩ .nil)
          (pss_one (ps_ret (pe_and (pe_callB call_isi (by rfl) B.isi (by decide +kernel) (pa_cons (pv 2) (pa_cons (pe_bltn (v := .ty "list") (by rfl) B.list (by decide +kernel) rfl) pa_nil))) (pe_and (pe_cmpR (op_neD hr.units) (pv 2) (pe_lst pa_nil) (nomark _)) (pe_one (pe_callB (cr_all rfl) (by rfl) B.all (by decide +kernel) (pa_cons (pe_lc (own := [("told", 3)]) (g := gName 3) (tt := tYes) rfl scPp.nd (pi_list (pv 2)) (blkOk_by (N := nPp) (sc := defScope sPp) (by decide +kernel)) (fun _ _ _ _ _ => pg_name (i := 3) scPp.nd rfl (.inl rfl)) (fun _ _ _ _ _ => pts_nil) (fun _ _ _ _ _ => (pe_call GRg hr rfl gRg kRg bRg .nil pass0 (pa_cons (pv 3) pa_nil)))) pa_nil))))))) pcs_nil))))
        (pss_one (ps_ret pe_bl))), ?_⟩
    obtain ⟨v, p, rfl, hd, hg, hf, k⟩ := h
    have oth : ∀ {a xs} {n : Nat} {is : List Nat} {t : TS} {D : Ends} {σ : L2.St} {rest : List (List Nat × PatR × TS)}, SqT K H a xs → xs.length ≠ 1 → tCases rest (.ref a) D σ H → tCases ((is, rOr [rSeq K 1 [rLit "any"], rSeq K 1 [rLit "lot"]], t) :: rest) (.ref a) D σ H := fun hq ne q =>
      ⟨_, _, rfl, hq, fun _ => ⟨_, _, rfl, hq, fun _ => q, fun z => (ne z).elim⟩, fun z => (ne z).elim⟩
    cases p with
    | one c =>
      obtain ⟨a, rfl, hq⟩ := dp_two hd
      refine ⟨_, rfl, oth (n := 0) hq (by simp) (case_hit hq hit_lit ⟨_, rfl, c, rfl, hg, k⟩)⟩
    | any =>
      obtain ⟨a, xs, rfl, hq, all⟩ := dp_tup hd
      obtain ⟨rfl⟩ : xs = [.str "any"] := by
        cases all with
        | cons h1 t => cases t; obtain rfl := dp_str h1; rfl
      exact ⟨_, rfl, a, _, rfl, hq, fun z => (z rfl).elim, fun _ => ⟨"any", rfl, k H (Same.refl H)⟩⟩
    | lot =>
      obtain ⟨a, xs, rfl, hq, all⟩ := dp_tup hd
      obtain ⟨rfl⟩ : xs = [.str "lot"] := by
        cases all with
        | cons h1 t => cases t; obtain rfl := dp_str h1; rfl
      exact ⟨_, rfl, a, _, rfl, hq, fun z => (z rfl).elim, fun _ => ⟨"lot", rfl, a, _, rfl, hq, fun z => (z rfl).elim, fun _ => ⟨"lot", rfl, k H (Same.refl H)⟩⟩⟩
    | of no rs =>
      obtain ⟨a, x, y, rfl, hq, hx, hy⟩ := pc_three hd
      obtain ⟨b, ys, rfl, hb, all⟩ := dp_lst hy
      have ly := dpLen all
      rw [List.length_map] at ly
      have hl : rs.length ≤ 300 := hf
      refine ⟨_, rfl, oth (n := 0) hq (by simp) (case_miss hq (.inr (by simp)) ⟨a, _, rfl, hq, fun z => (z rfl).elim, fun _ => ⟨"of", rfl, ?_⟩⟩)⟩
      cases hx
      refine either_bool ?_
      refine ⟨_, rfl, .ref b, .ty "list", .type "list", .type "list", true, rfl, .ty _, ty_lst hb, kit_ty (by decide +kernel), _, rfl, if_yes rfl ?_⟩
      refine ⟨_, rfl, (by decide : 0 ≤ sizeLine), fun e ne => ?_⟩
      have s1 := same_upd (o := .lst []) ne
      refine ⟨.list (rs.map rgD), .list [], dp_same s1 hy, .lst (SqL.of upd_same) .nil, sh_ok (sh_rgs hg.2), by decide, _, rfl, ?_⟩
      rw [eqv_nil]
      refine if_yes (by cases rs with | nil => exact (hg.1 rfl).elim | cons r rs => rfl) ?_
      refine ⟨_, rfl, b, rfl, ⟨_, s1.seq hb⟩, fun D hD => lc_all (bs := rs.map fun _ => true) (s1.seq hb) hD (by rw [List.length_map, ly]) (by rw [ly]; omega) (fun i x b' H' Q' hx hb' s2 q => ?_) (fun H1 s2 q1 => ?_)⟩
      · obtain ⟨d, hdi, dp⟩ := dpAt' all hx
        rw [List.getElem?_map] at hdi hb'
        cases ep : rs[i]? with
        | none => rw [ep] at hdi; cases hdi
        | some r =>
          rw [ep] at hdi hb'
          obtain rfl := Option.some.inj hdi
          obtain rfl := Option.some.inj hb'
          exact ⟨rfl, _, rfl, _, r, rfl, dp_same (s1.trans s2) dp, hg.2 r (List.mem_of_getElem? ep), q⟩
      · refine ⟨D, _, rfl, q1, ?_⟩
        have z := k _ (s1.trans s2)
        rw [show (rs.map fun _ => true).all id = true by rw [List.all_eq_true]; intro x m; obtain ⟨r, _, rfl⟩ := List.mem_map.mp m; rfl]
        exact z
abbrev sPa : Stmt := top 15
abbrev nPa : List Str := ["pattern", "piece"]
theorem scPa : FnScope nPa ["pattern"] (defScope sPa) := ⟨rfl, rfl, rfl, by decide +kernel, rfl, by decide +kernel, by decide +kernel⟩
theorem has_Pa {f : Addr} {fd : FuncData} (F : Fun K "is_pattern" "is_pattern" sPa f fd) (g : mg "is_pattern" = some (.ref f)) (B : Blt mg) (hPp : Has P w K mg base 3 "is_pattern_piece" ["piece"] (spPp K)) :
    FnOk P w K mg base CX0 4 f fd ["pattern"] (spPa K) := by
  obtain ⟨fPp, dPp, gPp, kPp, bPp, GPp⟩ := hPp
  refine (F.ok scPa (fun vs H Q E h => ?_) (fun cdv A outer s H vs Q E hr h => ?_))
  · obtain ⟨v, ps, rfl, _⟩ := h
    rfl
  · refine ⟨_, (pss_one (ps_ret (pe_callB (cr_all rfl) (by rfl) B.all (by decide +kernel) (pa_cons (pe_lc (own := [("piece", 1)]) (g := gName 1) (tt := tYes) rfl scPa.nd (pi_list (pv 0)) (blkOk_by (N := nPa) (sc := defScope sPa) (by decide +kernel)) (fun _ _ _ _ _ => pg_name (i := 1) scPa.nd rfl (.inl rfl)) (fun _ _ _ _ _ => pts_nil) (fun _ _ _ _ _ => (pe_call GPp hr rfl gPp kPp bPp .nil pass0 (pa_cons (pv 1) pa_nil)))) pa_nil)))), ?_⟩
    obtain ⟨v, ps, rfl, hd, hl, hg, k⟩ := h
    obtain ⟨a, xs, rfl, hq, all⟩ := dp_lst hd
    have lx := dpLen all
    rw [List.length_map] at lx
    refine ⟨_, rfl, a, rfl, ⟨_, hq⟩, fun D hD => lc_all (bs := ps.map fun _ => true) hq hD (by rw [List.length_map, lx]) (by rw [lx]; exact hl) (fun i x b H' Q' hx hb s1 q => ?_) (fun H1 s1 q1 => ?_)⟩
    · obtain ⟨d, hdi, dp⟩ := dpAt' all hx
      rw [List.getElem?_map] at hdi hb
      cases ep : ps[i]? with
      | none => rw [ep] at hdi; cases hdi
      | some p =>
        rw [ep] at hdi hb
        obtain rfl := Option.some.inj hdi
        obtain rfl := Option.some.inj hb
        have z := hg p (List.mem_of_getElem? ep)
        exact ⟨rfl, _, rfl, _, p, rfl, dp_same s1 dp, z.1, z.2, q⟩
    · refine ⟨D, _, rfl, q1, ?_⟩
      rw [show (ps.map fun _ => true).all id = true by rw [List.all_eq_true]; intro x m; obtain ⟨r, _, rfl⟩ := List.mem_map.mp m; rfl]
      exact k _ s1
end
end Qb
end PySem
namespace PySem
namespace Qb
open PySem.W PySem.Calls PyProof.Rows L2
def ixS (c : Nat) : Nat := (cs signsS).findIdx (· == c)
theorem ixS_lt : ∀ c ∈ cs signsS, ixS c < 95 := by decide +kernel
theorem ix_eq : ∀ c ∈ cs signsS, ixS c = (if c = 10 then 0 else if c < 37 then c - 31 else c - 32) ∧ (c = 10 ∨ (32 ≤ c ∧ c < 37) ∨ (38 ≤ c ∧ c ≤ 126)) := by decide +kernel
theorem occ_head : ∀ c ∈ cs signsS, (Builtin.Str.occurrences signsS (sg c) 0 signsS.length 1).head? = some (ixS c) := by decide +kernel
theorem occS {c : Nat} (h : c ∈ cs signsS) : ∃ rest, Builtin.Str.occurrences signsS (sg c) 0 signsS.length 1 = ixS c :: rest := by
  have z := occ_head c h
  cases e : Builtin.Str.occurrences signsS (sg c) 0 signsS.length 1 with
  | nil => rw [e] at z; cases z
  | cons i r => rw [e] at z; obtain rfl := Option.some.inj z; exact ⟨r, rfl⟩
theorem ix_le {a b : Nat} (ha : a ∈ cs signsS) (hb : b ∈ cs signsS) : ixS a ≤ ixS b ↔ a ≤ b := by
  obtain ⟨e1, h1⟩ := ix_eq a ha
  obtain ⟨e2, h2⟩ := ix_eq b hb
  rw [e1, e2]
  (repeat' split) <;> omega
theorem ix_inj {a b : Nat} (ha : a ∈ cs signsS) (hb : b ∈ cs signsS) : ixS a = ixS b ↔ a = b := by
  have h1 := ix_le ha hb
  have h2 := ix_le hb ha
  omega
def rgN (r : Nat × Nat) : Nat := 2 ^ (ixS r.2 + 1) - 2 ^ (ixS r.1)
def orS (rs : List (Nat × Nat)) : Nat := rs.foldl (fun n r => n ||| rgN r) 0
def setN : Pt → Nat
  | .one c => 2 ^ ixS c
  | .of no rs => if no = true then (2 ^ 95 - 1) ^^^ orS rs else orS rs
  | _ => 2 ^ 95 - 1
theorem rg_bit {r : Nat × Nat} (h : ixS r.1 ≤ ixS r.2) (q : Nat) : (rgN r).testBit q = (decide (ixS r.1 ≤ q) && decide (q ≤ ixS r.2)) := by
  have e : rgN r = (2 ^ (ixS r.2 + 1 - ixS r.1) - 1) * 2 ^ ixS r.1 := by
    unfold rgN
    rw [Nat.sub_mul, ← Nat.pow_add, Nat.sub_add_cancel (by omega), Nat.one_mul]
  rw [e, Nat.testBit_mul_two_pow, Nat.testBit_two_pow_sub_one]
  by_cases h1 : ixS r.1 ≤ q
  · rw [decide_eq_true h1, Bool.true_and, Bool.true_and]
    by_cases h2 : q ≤ ixS r.2
    · rw [decide_eq_true h2, decide_eq_true (by omega)]
    · rw [decide_eq_false h2, decide_eq_false (by omega)]
  · rw [decide_eq_false h1]
    rfl
theorem or_bit {q : Nat} : ∀ (rs : List (Nat × Nat)) (n : Nat), (rs.foldl (fun n r => n ||| rgN r) n).testBit q = (n.testBit q || rs.any fun r => (rgN r).testBit q)
  | [], n => by simp
  | r :: rs, n => by
    rw [List.foldl_cons, or_bit rs, Nat.testBit_or, List.any_cons, Bool.or_assoc]
theorem any_congr {α : Type} {p q : α → Bool} : ∀ {l : List α}, (∀ x ∈ l, p x = q x) → l.any p = l.any q
  | [], _ => rfl
  | x :: l, h => by rw [List.any_cons, List.any_cons, h x (.head _), any_congr fun y m => h y (.tail _ m)]
theorem set_bit {p : Pt} {c : Nat} (hg : p.good) (hp : p.isLot = false) (hc : c ∈ cs signsS) : (setN p).testBit (ixS c) = p.takes c := by
  have all : (2 ^ 95 - 1 : Nat).testBit (ixS c) = true := by
    rw [Nat.testBit_two_pow_sub_one]
    exact decide_eq_true (ixS_lt c hc)
  cases p with
  | one d =>
    show (2 ^ ixS d).testBit (ixS c) = (d == c)
    rw [Nat.testBit_two_pow]
    by_cases e : d = c
    · subst e; simp
    · rw [decide_eq_false (fun z => e ((ix_inj hg hc).mp z)), beq_eq_false_iff_ne.mpr e]
  | any => exact all
  | lot => cases hp
  | of no rs =>
    have o : (orS rs).testBit (ixS c) = rs.any fun r => decide (r.1 ≤ c) && decide (c ≤ r.2) := by
      unfold orS
      rw [or_bit, Nat.zero_testBit, Bool.false_or]
      refine any_congr fun r m => ?_
      obtain ⟨h1, h2, h3⟩ := hg.2 r m
      rw [rg_bit ((ix_le h1 h2).mpr h3)]
      congr 1
      · exact decide_eq_decide.mpr (ix_le h1 hc)
      · exact decide_eq_decide.mpr (ix_le hc h2)
    show (if no = true then (2 ^ 95 - 1) ^^^ orS rs else orS rs).testBit (ixS c) = ((rs.any fun r => decide (r.1 ≤ c) && decide (c ≤ r.2)) != no)
    cases no with
    | true => rw [if_pos rfl, Nat.testBit_xor, all, o, Bool.true_xor]; cases (rs.any fun r => decide (r.1 ≤ c) && decide (c ≤ r.2)) <;> rfl
    | false => rw [if_neg (by decide), o]; cases (rs.any fun r => decide (r.1 ≤ c) && decide (c ≤ r.2)) <;> rfl
theorem rg_int {r : Nat × Nat} (h : ixS r.1 ≤ ixS r.2) : (2 : Int) * 2 ^ ((ixS r.2 : Nat) : Int).toNat - 1 * 2 ^ ((ixS r.1 : Nat) : Int).toNat = ((rgN r : Nat) : Int) := by
  unfold rgN
  rw [Int.toNat_natCast, Int.toNat_natCast, Int.one_mul, Int.ofNat_sub (Nat.pow_le_pow_right (by decide) (by omega)), PySem.W.kbt_cast, PySem.W.kbt_cast, Int.pow_succ, Int.mul_comm]
theorem pow_int (k : Nat) : (1 : Int) * 2 ^ ((k : Nat) : Int).toNat = ((2 ^ k : Nat) : Int) := by
  rw [Int.toNat_natCast, Int.one_mul, PySem.W.kbt_cast]
def spSo (K : Frag) : Sp := fun vs H Q _ => ∃ (v : V) (p : Pt), vs = [v] ∧ Dp K H v p.d ∧ p.good ∧ ∀ H', Same H H' → Q (.int ((setN p : Nat) : Int)) H'
section
variable {P : Program} {w : World} {K : Frag} {mg : Str → Option Value} {base : Heap}
abbrev sSo : Stmt := top 10
abbrev nSo : List Str := ["piece", "sign", "no", "ranges", "found", "first", "last"]
theorem scSo : FnScope nSo ["piece"] (defScope sSo) := ⟨rfl, rfl, rfl, by decide +kernel, rfl, by decide +kernel, by decide +kernel⟩
theorem has_So {f : Addr} {fd : FuncData} (F : Fun K "set_of" "set_of" sSo f fd) (g : mg "set_of" = some (.ref f)) (B : Blt mg) (W : Wrt mg) :
    Has P w K mg base 1 "set_of" ["piece"] (spSo K) := by
  refine has_of F g (F.binds (ps := ["piece"]) fun _ _ _ _ _ _ us hl => match us, hl with | [_], _ => rfl) (F.ok scSo (fun vs H Q E h => ?_) (fun cdv A outer s H vs Q E hr h => ?_))
  · obtain ⟨v, p, rfl, _⟩ := h
    rfl
  · refine ⟨_, (pss_cons (ps_match (pv 0)
        (pcs_cons (is := [1]) scSo.nd (pp_seq rfl (pps_cons pp_lit (pps_cons pp_cap pps_nil))) (.cons ⟨rfl, .inl rfl, .inr rfl⟩ .nil)
          (pss_one (ps_ret (pe_op op_shl pe_int (pe_bm PySem.F.plainAttrs_str PySem.F.slot_str_index PySem.F.type_str_index mt_sindex (glob_str (by rfl) W.signs) (pa_cons (pv 1) pa_nil)))))
        (pcs_cons (is := [2, 3]) scSo.nd (pp_seq rfl (pps_cons pp_lit (pps_cons pp_cap (pps_cons pp_cap pps_nil)))) (.cons ⟨rfl, .inl rfl, .inr rfl⟩ (.cons ⟨rfl, .inl rfl, .inr rfl⟩ .nil))
          (pss_cons (ps_set (i := 4) scSo.nd rfl (.inl rfl) pe_int)
          (pss_cons (ps_for PassesOwn.never rfl (pi_list (pv 3)) (pg_tup rfl (pgs_cons (pg_name (i := 5) scSo.nd rfl (.inl rfl)) (pgs_cons (pg_name (i := 6) scSo.nd rfl (.inl rfl)) pgs_nil)))
            (pss_one (ps_aug (i := 4) scSo.nd rfl (.inl rfl) (pe_op op_sub (pe_op op_shl pe_int (pe_bm PySem.F.plainAttrs_str PySem.F.slot_str_index PySem.F.type_str_index mt_sindex (glob_str (by rfl) W.signs) (pa_cons (pv 6) pa_nil))) (pe_op op_shl pe_int (pe_bm PySem.F.plainAttrs_str PySem.F.slot_str_index PySem.F.type_str_index mt_sindex (glob_str (by rfl) W.signs) (pa_cons (pv 5) pa_nil)))) ip_or)))
          (pss_one (ps_ret (pe_ifExp (pt_val (pv 2)) (pe_op op_xor (glob_int (by rfl) W.all) (pv 4)) (pv 4)))))) pcs_nil)))
        (pss_one (ps_ret (glob_int (by rfl) W.all)))), ?_⟩
    obtain ⟨v, p, rfl, hd, hg, k⟩ := h
    cases p with
    | one c =>
      obtain ⟨a, rfl, hq⟩ := dp_two hd
      obtain ⟨rest, ho⟩ := occS hg
      have hl := ixS_lt c hg
      refine ⟨_, rfl, case_hit hq hit_lit ⟨rfl, _, rfl, signsS, sg c, ixS c, rest, rfl, rfl, ho, _, _, rfl, rfl, ⟨by omega, by omega, by decide⟩, ?_⟩⟩
      show Q (.int (1 * 2 ^ ((ixS c : Nat) : Int).toNat)) H
      rw [pow_int]
      exact k H (Same.refl H)
    | any =>
      obtain ⟨a, xs, rfl, hq, all⟩ := dp_tup hd
      obtain ⟨rfl⟩ : xs = [.str "any"] := by
        cases all with
        | cons h1 t => cases t; obtain rfl := dp_str h1; rfl
      exact ⟨_, rfl, case_miss hq (.inr (by simp)) (case_miss hq (.inr (by simp)) (k H (Same.refl H)))⟩
    | lot =>
      obtain ⟨a, xs, rfl, hq, all⟩ := dp_tup hd
      obtain ⟨rfl⟩ : xs = [.str "lot"] := by
        cases all with
        | cons h1 t => cases t; obtain rfl := dp_str h1; rfl
      exact ⟨_, rfl, case_miss hq (.inr (by simp)) (case_miss hq (.inr (by simp)) (k H (Same.refl H)))⟩
    | of no rs =>
      obtain ⟨a, x, y, rfl, hq, hno, hy⟩ := pc_three hd
      obtain ⟨b, ys, rfl, hb, all⟩ := dp_lst hy
      have ly := dpLen all
      rw [List.length_map] at ly
      obtain rfl : x = .bl no := by cases hno; rfl
      clear hno
      refine ⟨_, rfl, case_miss hq (.inr (by simp)) (case_hit hq hit_lit ?_)⟩
      refine ⟨_, rfl, b, rfl, ⟨_, hb⟩, for_list (xs := ys) (fun i σ H' => H' = H ∧ ∃ x1 x5 x6, σ = [some (.ref a), x1, some (.bl no), some (.ref b), some (.int ((orS (rs.take i) : Nat) : Int)), x5, x6]) ⟨rfl, _, _, _, rfl⟩ (fun i σ H' _ e => by rw [e.1]; exact hb) (fun i x σ H' hx e => ?_) (fun σ H' e => ?_)⟩
      · obtain ⟨rfl, x1, x5, x6, rfl⟩ := e
        obtain ⟨d, hdi, dp⟩ := dpAt' all hx
        rw [List.getElem?_map] at hdi
        obtain ⟨r, hr', rfl⟩ : ∃ r, rs[i]? = some r ∧ rgD r = d := by
          cases z : rs[i]? with
          | none => rw [z] at hdi; cases hdi
          | some r => rw [z] at hdi; exact ⟨r, rfl, Option.some.inj hdi⟩
        obtain ⟨h1, h2, h3⟩ := hg.2 r (List.mem_of_getElem? hr')
        obtain ⟨t, rfl, ht⟩ := dp_two dp
        obtain ⟨r1, o1⟩ := occS h1
        obtain ⟨r2, o2⟩ := occS h2
        have l1 := ixS_lt _ h1
        have l2 := ixS_lt _ h2
        refine ⟨t, _, rfl, ht, rfl, _, _, rfl, _, _, rfl, rfl, ?_⟩
        refine ⟨_, rfl, rfl, _, rfl, signsS, sg r.2, ixS r.2, r2, rfl, rfl, o2, _, _, rfl, rfl, ⟨by omega, by omega, by decide⟩, rfl, _, rfl, signsS, sg r.1, ixS r.1, r1, rfl, rfl, o1, _, _, rfl, rfl, ⟨by omega, by omega, by decide⟩, _, _, rfl, rfl, _, _, rfl, rfl, ?_⟩
        dsimp only
        refine ⟨rfl, x1, some (.str (sg r.1)), some (.str (sg r.2)), ?_⟩
        rw [rg_int ((ix_le h1 h2).mpr h3), or_int', show orS (rs.take (i + 1)) = orS (rs.take i) ||| rgN r by unfold orS; rw [take_snoc hr', List.foldl_append]; rfl]
        rfl
      · obtain ⟨rfl, x1, x5, x6, rfl⟩ := e
        rw [ly, List.take_length]
        have z := k H' (Same.refl H')
        cases no with
        | true =>
          refine ⟨_, rfl, _, rfl, if_yes rfl ⟨_, rfl, _, _, rfl, rfl, ?_⟩⟩
          dsimp only
          rw [Bits.bitXor_pp (Int.natCast_nonneg _) (Int.natCast_nonneg _), Int.toNat_natCast, Int.toNat_natCast]
          exact z
        | false => exact ⟨_, rfl, _, rfl, if_no rfl ⟨_, rfl, z⟩⟩
end
end Qb
end PySem
namespace PySem
namespace Qb
open PySem.W PySem.Calls PyProof.Rows L2
/-! # a list that is being made, and its things -/
def Bld (K : Frag) (H H' : Hp) (R : Addr) (ds : List PyData) : Prop := H R = none ∧ Same H (hide H' R) ∧ ∃ ys, H' R = some (.lst ys) ∧ DpAll K (hide H' R) ys ds
theorem hide_none {H : Hp} {R : Addr} : hide H R R = none := by
  unfold hide
  rw [if_pos rfl]
theorem Bld.new {K : Frag} {H : Hp} {R : Addr} (n : H R = none) : Bld K H (L2.upd H R (.lst [])) R [] := ⟨n, hide_of (same_upd n) n, [], upd_same, .nil⟩
theorem Bld.new2 {K : Frag} {H H1 : Hp} {R : Addr} (s : Same H H1) (n : H1 R = none) : Bld K H (L2.upd H1 R (.lst [])) R [] := ⟨s.free n, hide_of (s.trans (same_upd n)) (s.free n), [], upd_same, .nil⟩
theorem Bld.same {K : Frag} {H H1 H2 : Hp} {R : Addr} {ds : List PyData} (b : Bld K H H1 R ds) (s : Same H1 H2) : Bld K H H2 R ds := by
  obtain ⟨n, s0, ys, h, a⟩ := b
  exact ⟨n, s0.trans (hide_mono s), ys, s _ _ h, dpAll_same (hide_mono s) a⟩
theorem Bld.put {K : Frag} {H H1 : Hp} {R : Addr} {ds : List PyData} (b : Bld K H H1 R ds) : ∃ ys, H1 R = some (.lst ys) ∧ ys.length = ds.length ∧ ∀ v d, Dp K (hide H1 R) v d → Bld K H (L2.upd H1 R (.lst (ys ++ [v]))) R (ds ++ [d]) := by
  obtain ⟨n, s0, ys, h, a⟩ := b
  exact ⟨ys, h, dpLen a, fun v d hd => ⟨n, s0.trans hide_upd, _, upd_same, dpApp (dpAll_same hide_upd a) (.cons (dp_same hide_upd hd) .nil)⟩⟩
theorem Bld.base {K : Frag} {H H1 : Hp} {R : Addr} {ds : List PyData} (b : Bld K H H1 R ds) : Same H H1 := b.2.1.trans hide_same
theorem Bld.dp {K : Frag} {H H1 : Hp} {R : Addr} {ds : List PyData} (b : Bld K H H1 R ds) : Dp K H1 (.ref R) (.list ds) := by
  obtain ⟨n, s0, ys, h, a⟩ := b
  exact .lst (SqL.of h) (dpAll_same hide_same a)
theorem Bld.ne {K : Frag} {H H1 : Hp} {R T : Addr} {ds : List PyData} (b : Bld K H H1 R ds) (n : H1 T = none) : T ≠ R := by
  obtain ⟨_, s0, ys, h, a⟩ := b
  intro e
  rw [e, h] at n
  cases n
theorem sh_bool (b : Bool) : Sh 0 (.bool b) := ⟨by rw [PyData.canLay0.eq_2], Nat.le_of_eq rfl⟩
theorem sh_pt {p : Pt} (hg : p.good) : Sh 3 p.d := by
  have one : ∀ x : Str, PyData.strOk x = true → Sh 2 (.str x) := fun x h => sh_mono (sh_str h) (by decide)
  cases p with
  | one c =>
    refine sh_tup fun d m => ?_
    rcases List.mem_cons.mp m with rfl | m
    · exact one _ (by decide +kernel)
    · rcases List.mem_singleton.mp m with rfl
      exact one _ (str_ok_sg hg)
  | any =>
    refine sh_tup fun d m => ?_
    rcases List.mem_singleton.mp m with rfl
    exact one _ (by decide +kernel)
  | lot =>
    refine sh_tup fun d m => ?_
    rcases List.mem_singleton.mp m with rfl
    exact one _ (by decide +kernel)
  | of no rs =>
    refine sh_tup fun d m => ?_
    rcases List.mem_cons.mp m with rfl | m
    · exact one _ (by decide +kernel)
    · rcases List.mem_cons.mp m with rfl | m
      · exact sh_mono (sh_bool no) (by decide)
      · rcases List.mem_singleton.mp m with rfl
        exact sh_rgs hg.2
def Pt.isAny : Pt → Bool
  | .any => true
  | _ => false
theorem eqv_lot (p : Pt) : PyData.eqv p.d (.tuple [.str "lot"]) = p.isLot := by cases p <;> rfl
theorem eqv_any (p : Pt) : PyData.eqv p.d (.tuple [.str "any"]) = p.isAny := by cases p <;> rfl
theorem isAny_eq {p : Pt} (h : p.isAny = true) : p = .any := by
  cases p <;> first | rfl | cases h
def spRt (K : Frag) : Sp := fun vs H Q _ => ∃ (v : V) (ps : List Pt), vs = [v] ∧ Dp K H v (.list (ps.map Pt.d)) ∧ ps.length ≤ 300 ∧ (∀ p ∈ ps, p.good) ∧ ∀ H' L R, Bld K H H' L (R.map Pt.d) → Norm ps R → Q (.ref L) H'
section
variable {P : Program} {w : World} {K : Frag} {mg : Str → Option Value} {base : Heap}
theorem pt_at {H : Hp} {xs : List V} {ps : List Pt} {i : Nat} {x : V} (all : DpAll K H xs (ps.map Pt.d)) (hx : xs[i]? = some x) : ∃ p, ps[i]? = some p ∧ Dp K H x p.d := by
  obtain ⟨d, hdi, dp⟩ := dpAt' all hx
  rw [List.getElem?_map] at hdi
  cases z : ps[i]? with
  | none => rw [z] at hdi; cases hdi
  | some p =>
    rw [z] at hdi
    obtain rfl := Option.some.inj hdi
    exact ⟨p, rfl, dp⟩
abbrev sRt : Stmt := top 13
abbrev nRt : List Str := ["pieces", "told", "has_lot", "piece"]
theorem scRt : FnScope nRt ["pieces"] (defScope sRt) := ⟨rfl, rfl, rfl, by decide +kernel, rfl, by decide +kernel, by decide +kernel⟩
theorem has_Rt {f : Addr} {fd : FuncData} (F : Fun K "rows_told" "rows_told" sRt f fd) (g : mg "rows_told" = some (.ref f)) (B : Blt mg)  :
    Has P w K mg base 1 "rows_told" ["pieces"] (spRt K) := by
  refine has_of F g (F.binds (ps := ["pieces"]) fun _ _ _ _ _ _ us hl => match us, hl with | [_], _ => rfl) (F.ok scRt (fun vs H Q E h => ?_) (fun cdv A outer s H vs Q E hr h => ?_))
  · obtain ⟨v, ps, rfl, _⟩ := h
    rfl
  · refine ⟨_, (pss_cons (ps_set (i := 1) scRt.nd rfl (.inl rfl) (pe_lst pa_nil))
        (pss_cons (ps_set (i := 2) scRt.nd rfl (.inl rfl) pe_bl)
        (pss_cons (ps_for PassesOwn.never rfl (pi_list (pv 0)) (pg_name (i := 3) scRt.nd rfl (.inl rfl))
          (pss_one (ps_if (pt_cmpR (op_eqD hr.units) (pv 3) (pe_tup (pa_cons pe_str pa_nil)) (nomark _)) (pss_one (ps_set (i := 2) scRt.nd rfl (.inl rfl) pe_bl)) (pss_one (ps_if (pt_cmpR (op_eqD hr.units) (pv 3) (pe_tup (pa_cons pe_str pa_nil)) (nomark _)) (pss_one (ps_expr (pe_bm PySem.F.plainAttrs_list PySem.F.slot_list_append PySem.F.type_list_append mt_append (pv 1) (pa_cons (pv 3) pa_nil)))) (pss_cons (ps_if (pt_val (pv 2)) (pss_one (ps_expr (pe_bm PySem.F.plainAttrs_list PySem.F.slot_list_append PySem.F.type_list_append mt_append (pv 1) (pa_cons (pe_tup (pa_cons pe_str pa_nil)) pa_nil)))) pss_nil)
              (pss_cons (ps_set (i := 2) scRt.nd rfl (.inl rfl) pe_bl)
              (pss_one (ps_expr (pe_bm PySem.F.plainAttrs_list PySem.F.slot_list_append PySem.F.type_list_append mt_append (pv 1) (pa_cons (pv 3) pa_nil)))))))))))
        (pss_cons (ps_if (pt_val (pv 2)) (pss_one (ps_expr (pe_bm PySem.F.plainAttrs_list PySem.F.slot_list_append PySem.F.type_list_append mt_append (pv 1) (pa_cons (pe_tup (pa_cons pe_str pa_nil)) pa_nil)))) pss_nil)
        (pss_one (ps_ret (pv 1))))))), ?_⟩
    obtain ⟨v, ps, rfl, hd, hl, hg, k⟩ := h
    obtain ⟨a, xs, rfl, hq, all⟩ := dp_lst hd
    have lx := dpLen all
    rw [List.length_map] at lx
    refine ⟨(by decide : 0 ≤ sizeLine), fun L nL => ?_⟩
    have low : ∀ {H1 : Hp} {T : List Pt} (b : Bld K H H1 L (T.map Pt.d)) {t : Addr}, H1 t = none → Dp K (hide (L2.upd H1 t (.tup [.str "lot"])) L) (.ref t) Pt.lot.d := by
      intro H1 T b t nt
      exact .tup (SqT.of (hide_ne upd_same (b.ne nt))) (.cons (.str _) .nil)
    refine ⟨_, rfl, a, rfl, ⟨_, (same_upd nL).seq hq⟩, for_list (xs := xs) (fun i σ H' => ∃ T b, (∃ x3, σ = [some (.ref a), some (.ref L), some (.bl b), x3]) ∧ Bld K H H' L (T.map Pt.d) ∧ RT ps i T b) ⟨[], false, ⟨_, rfl⟩, Bld.new nL, RT.zero ps⟩ (fun i σ H' _ e => ?_) (fun i x σ H' hx e => ?_) (fun σ H' e => ?_)⟩
    · obtain ⟨T, b, _, bl, _⟩ := e
      exact bl.base.seq hq
    · obtain ⟨T, b, ⟨x3, rfl⟩, bl, rt⟩ := e
      obtain ⟨p, hp, dp⟩ := pt_at all hx
      have gp := hg p (List.mem_of_getElem? hp)
      have lT : T.length ≤ 300 := by
        have h1 := rt.len
        have h2 := (List.getElem?_eq_some_iff.mp hp).1
        omega
      refine ⟨_, rfl, (by decide : 1 ≤ sizeLine), fun t1 n1 => ?_⟩
      have b1 := bl.same (same_upd (o := .tup [.str "lot"]) n1)
      refine ⟨_, _, dp_same b1.base dp, .tup (SqT.of upd_same) (.cons (.str _) .nil), sh_ok (sh_pt gp), by decide +kernel, _, rfl, ?_⟩
      rw [eqv_lot]
      refine if_by (fun e1 => ?_) (fun e1 => ?_)
      · rw [isLot_eq e1] at hp
        exact ⟨T, true, ⟨_, rfl⟩, b1, rt.lot hp⟩
      refine ⟨_, rfl, (by decide : 1 ≤ sizeLine), fun t2 n2 => ?_⟩
      have b2 := b1.same (same_upd (o := .tup [.str "any"]) n2)
      refine ⟨_, _, dp_same b2.base dp, .tup (SqT.of upd_same) (.cons (.str _) .nil), sh_ok (sh_pt gp), by decide +kernel, _, rfl, ?_⟩
      rw [eqv_any]
      have pin : ∀ {H1 : Hp} {T : List Pt}, Bld K H H1 L (T.map Pt.d) → Dp K (hide H1 L) x p.d := fun b => dp_same b.2.1 dp
      refine if_by (fun e2 => ?_) (fun e2 => ?_)
      · have ep := isAny_eq e2
        subst ep
        obtain ⟨ys, hy, ly, put⟩ := b2.put
        rw [List.length_map] at ly
        refine ⟨_, rfl, .inl ⟨rfl, _, SqL.of hy⟩, _, rfl, L, ys, _, rfl, rfl, hy, by rw [ly, sizeLine_eq]; omega, T ++ [.any], b, ⟨_, rfl⟩, ?_, rt.any hp⟩
        rw [List.map_append]
        exact put _ _ (pin b2)
      · refine ⟨_, rfl, _, rfl, ?_⟩
        have fin : ∀ {H1 : Hp} {T' : List Pt}, Bld K H H1 L (T'.map Pt.d) → T'.length ≤ 400 → T' = (if b = true then T ++ [.lot] else T) → ∃ ys, H1 L = some (.lst ys) ∧ ys.length < sizeLine ∧ ∃ T b', (∃ y3, [some (V.ref a), some (.ref L), some (.bl false), some x] = [some (.ref a), some (.ref L), some (.bl b'), y3]) ∧ Bld K H (L2.upd H1 L (.lst (ys ++ [x]))) L (T.map Pt.d) ∧ RT ps (i + 1) T b' := by
          intro H1 T' b3 l3 e3
          obtain ⟨ys, hy, ly, put⟩ := b3.put
          rw [List.length_map] at ly
          refine ⟨ys, hy, by rw [ly, sizeLine_eq]; omega, T' ++ [p], false, ⟨_, rfl⟩, ?_, by rw [e3]; exact rt.non hp e1⟩
          rw [List.map_append]
          exact put _ _ (pin b3)
        refine if_by (fun e3 => ?_) (fun e3 => ?_)
        · obtain ⟨ys0, hy0, ly0, put0⟩ := b2.put
          refine ⟨_, rfl, .inl ⟨rfl, _, SqL.of hy0⟩, (by decide : 1 ≤ sizeLine), fun t3 n3 => ?_⟩
          obtain ⟨ys, hy, ly, put⟩ := (b2.same (same_upd (o := .tup [.str "lot"]) n3)).put
          rw [List.length_map] at ly
          refine ⟨L, ys, _, rfl, rfl, hy, by rw [ly, sizeLine_eq]; omega, ?_⟩
          have b4 := put (.ref t3) Pt.lot.d (low b2 n3)
          rw [show T.map Pt.d ++ [Pt.lot.d] = (T ++ [Pt.lot]).map Pt.d by rw [List.map_append]; rfl] at b4
          obtain ⟨zs, hz, lz, fn⟩ := fin b4 (by rw [List.length_append, List.length_singleton]; omega) (by rw [e3, if_pos rfl])
          exact ⟨_, rfl, .inl ⟨rfl, _, SqL.of hz⟩, _, rfl, L, zs, _, rfl, rfl, hz, lz, fn⟩
        · obtain ⟨zs, hz, lz, fn⟩ := fin b2 (by omega) (by rw [e3, if_neg (by decide)])
          exact ⟨_, rfl, .inl ⟨rfl, _, SqL.of hz⟩, _, rfl, L, zs, _, rfl, rfl, hz, lz, fn⟩
    · obtain ⟨T, b, ⟨x3, rfl⟩, bl, rt⟩ := e
      rw [lx] at rt
      have dn := rt.done
      have h1 := rt.len
      refine ⟨_, rfl, _, rfl, if_by (fun e3 => ?_) (fun e3 => ?_)⟩
      · obtain ⟨ys0, hy0, ly0, put0⟩ := bl.put
        refine ⟨_, rfl, .inl ⟨rfl, _, SqL.of hy0⟩, (by decide : 1 ≤ sizeLine), fun t3 n3 => ?_⟩
        obtain ⟨ys, hy, ly, put⟩ := (bl.same (same_upd (o := .tup [.str "lot"]) n3)).put
        rw [List.length_map] at ly
        refine ⟨L, ys, _, rfl, rfl, hy, by rw [ly, sizeLine_eq]; omega, _, rfl, k _ _ (T ++ [.lot]) ?_ ?_⟩
        · rw [List.map_append]
          exact put _ _ (low bl n3)
        · rw [e3, if_pos rfl] at dn
          exact dn
      · refine ⟨_, rfl, k _ _ T bl ?_⟩
        rw [e3, if_neg (by decide)] at dn
        exact dn
end
end Qb
end PySem
namespace PySem
namespace Qb
open PySem.W PySem.Calls PyProof.Rows L2
/-! # the machine -/
structure Txt (K : PySem.W.Frag) (mg : Str → Option Value) (C : Addr) : Prop where
  cl : Cls K C
  nS : NoAttr K C "sets"
  nL : NoAttr K C "lots"
  nE : NoAttr K C "ends"
  nB : NoAttr K C "below"
  nT : NoAttr K C "start"
  nM : NoAttr K C "masks"
  mgC : mg "Machine" = some (.ref C)
def HasM (P : Program) (w : World) (K : Frag) (mg : Str → Option Value) (base : Heap) (C : Addr) (k : Nat) (x : Str) (ps : List Str) (sp : Sp) : Prop :=
  ∃ (f : Addr) (fd : FuncData), Meth K C x f ∧ Binds K fd ps [] ∧ FnOk P w K mg base CX0 k f fd ps sp
def belD (k : Nat) : HO := .tup [.int ((2 ^ k : Nat) : Int), .int ((2 : Int) ^ k - 1)]
def Bel (H : Hp) (R : List Pt) (bs : List V) : Prop := ∀ x ∈ bs, ∃ t k, x = V.ref t ∧ H t = some (belD k) ∧ lotAt R k = true
theorem Bel.same {H H' : Hp} {R : List Pt} {bs : List V} (b : Bel H R bs) (s : Same H H') : Bel H' R bs := fun x m => by
  obtain ⟨t, k, e, h, l⟩ := b x m
  exact ⟨t, k, e, s _ _ h, l⟩
/-- what is read of a machine while it moves -/
structure MA (C : Addr) (H : Hp) (p B : Addr) (l : Nat) (R : List Pt) : Prop where
  ob : ∃ dx fs, H p = some (.ins C dx fs) ∧ fs.lookup ("lots" : Str) = some (V.int (l : Nat)) ∧ fs.lookup ("below" : Str) = some (V.ref B) ∧ fs.lookup ("closed" : Str) = none
  bel : ∃ bs, H B = some (.lst bs) ∧ Bel H R bs
  lots : Lots R l
  sep : Sep R
  len : R.length ≤ 60
theorem MA.same {C : Addr} {H H' : Hp} {p B : Addr} {l : Nat} {R : List Pt} (m : MA C H p B l R) (s : Same H H') : MA C H' p B l R := by
  obtain ⟨⟨dx, fs, h1, r⟩, ⟨bs, h2, h3⟩, a, b, c⟩ := m
  exact ⟨⟨dx, fs, s _ _ h1, r⟩, ⟨bs, s _ _ h2, h3.same s⟩, a, b, c⟩
def spCl (C : Addr) : Sp := fun vs H Q _ => ∃ (p B : Addr) (l s : Nat) (R : List Pt), vs = [.ref p, .int (s : Nat)] ∧ MA C H p B l R ∧ In R s ∧
  ∀ (t : Nat), In R t → Cl R t → (∀ w, Acc R t w ↔ Acc R s w) → Q (.int (t : Nat)) H
def spSd (C : Addr) : Sp := fun vs H Q _ => ∃ (p B : Addr) (l s k c : Nat) (R : List Pt), vs = [.ref p, .int (s : Nat), .int (k : Nat)] ∧ MA C H p B l R ∧ In R s ∧ Cl R s ∧ Mask R c k ∧
  ∀ (t : Nat), In R t → Cl R t → (∀ w, Acc R t w ↔ Acc R s (c :: w)) → Q (.int (t : Nat)) H
theorem small_in {R : List Pt} {s : Nat} (h : In R s) (l : R.length ≤ 60) : ((s : Nat) : Int).natAbs < 2 ^ 64 := by
  have h1 := in_lt h
  have h2 : 2 ^ (R.length + 1) ≤ 2 ^ 61 := Nat.pow_le_pow_right (by decide) (by omega)
  have h3 : (2 : Nat) ^ 61 < 2 ^ 64 := by decide
  rw [Int.natAbs_natCast]
  omega
theorem and_in {R : List Pt} {s l : Nat} (h : In R s) : In R (s &&& l) := fun q b => by
  rw [Nat.testBit_and, Bool.and_eq_true] at b
  exact h q b.1
theorem dbl_int (a : Nat) : ((a : Nat) : Int) * 2 ^ ((1 : Int)).toNat = ((a * 2 : Nat) : Int) := by
  rw [show (1 : Int).toNat = 1 from rfl, Int.pow_one]
  rfl
theorem and_pow (t q : Nat) : ((t &&& 2 ^ q : Nat) : Int) ≠ 0 ↔ t.testBit q = true := by
  have e : (t &&& 2 ^ q) ≠ 0 ↔ t.testBit q = true := by
    constructor
    · intro h
      cases b : t.testBit q with
      | true => rfl
      | false =>
        refine (h (Nat.eq_of_testBit_eq fun i => ?_)).elim
        rw [Nat.testBit_and, Nat.testBit_two_pow, Nat.zero_testBit]
        by_cases z : q = i
        · subst z; rw [b]; rfl
        · rw [decide_eq_false z, Bool.and_false]
    · intro b h
      have z := congrArg (fun n => n.testBit q) h
      simp only [Nat.testBit_and, Nat.testBit_two_pow, Nat.zero_testBit, b, decide_true, Bool.and_true] at z
      cases z
  rw [← e]
  exact ⟨fun h z => h (by rw [z]; rfl), fun h z => h (by exact_mod_cast z)⟩
section
variable {P : Program} {w : World} {K : Frag} {mg : Str → Option Value} {base : Heap}
abbrev sCl : Stmt := inClass (top 12) 2
abbrev nCl : List Str := ["self", "standing", "found", "bit", "needless"]
theorem scCl : FnScope nCl ["self", "standing"] (defScope sCl) := ⟨rfl, rfl, rfl, by decide +kernel, rfl, by decide +kernel, by decide +kernel⟩
theorem has_Cl {f C : Addr} {fd : FuncData} (F : Fun K "closed" "Machine.closed" sCl f fd) (m : Meth K C "closed" f) (B : Blt mg) (T : Txt K mg C) :
    HasM P w K mg base C 1 "closed" ["self", "standing"] (spCl C) := by
  refine ⟨f, fd, m, F.binds (ps := ["self", "standing"]) (fun _ _ _ _ _ _ us hl => match us, hl with | [_, _], _ => rfl), F.ok scCl (fun vs H Q E h => ?_) (fun cdv A outer s H vs Q E hr h => ?_)⟩
  · obtain ⟨p, b, l, s, R, rfl, _⟩ := h
    rfl
  · refine ⟨_, (pss_cons (ps_set (i := 2) scCl.nd rfl (.inl rfl) (pe_op op_or (pv 1) (pe_op op_shl (pe_op op_and (pv 1) (pe_fld (pv 0) rfl)) pe_int)))
        (pss_cons (ps_for PassesOwn.never rfl (pi_list (pe_fld (pv 0) rfl)) (pg_tup rfl (pgs_cons (pg_name (i := 3) scCl.nd rfl (.inl rfl)) (pgs_cons (pg_name (i := 4) scCl.nd rfl (.inl rfl)) pgs_nil)))
          (pss_one (ps_if (pt_truth (pe_op op_and (pv 2) (pv 3)) (by intro _; rfl)) (pss_one (ps_aug (i := 2) scCl.nd rfl (.inl rfl) (pe_un un_inv (pv 4)) ip_and)) pss_nil)))
        (pss_one (ps_ret (pv 2))))), ?_⟩
    obtain ⟨p, b, l, s, R, rfl, ma, hi, k⟩ := h
    obtain ⟨⟨dx, fs, hp, fl, fb, fc⟩, ⟨bs, hb, bel⟩, hL, hS, hl⟩ := id ma
    refine ⟨_, rfl, _, rfl, _, rfl, p, C, dx, _, _, rfl, hp, T.cl, T.nL, fl, _, _, rfl, rfl, _, _, rfl, rfl, ⟨by decide, by decide, ?_⟩, _, _, rfl, rfl, ?_⟩
    · rw [and_int]
      exact small_in (and_in hi) hl
    dsimp only
    rw [and_int, dbl_int, or_int']
    obtain ⟨i1, c1, a1⟩ := cl1_ok hS hL hi
    refine ⟨_, rfl, p, C, dx, _, _, rfl, hp, T.cl, T.nB, fb, b, rfl, ⟨_, SqL.of hb⟩, for_list (xs := bs) (fun i σ H' => H' = H ∧ ∃ (t : Nat) (x3 x4 : Option V), σ = [some (.ref p), some (.int (s : Nat)), some (.int (t : Nat)), x3, x4] ∧ In R t ∧ Cl R t ∧ ∀ w, Acc R t w ↔ Acc R s w) ⟨rfl, _, _, _, rfl, i1, c1, a1⟩ (fun i σ H' _ e => by rw [e.1]; exact SqL.of hb) (fun i x σ H' hx e => ?_) (fun σ H' e => ?_)⟩
    · obtain ⟨rfl, t, x3, x4, rfl, i2, c2, a2⟩ := e
      obtain ⟨u, q, rfl, hu, hq⟩ := bel x (List.mem_of_getElem? hx)
      refine ⟨u, _, rfl, SqT.of hu, rfl, _, _, rfl, _, _, rfl, rfl, ?_⟩
      refine ⟨_, rfl, _, rfl, _, _, rfl, rfl, ?_⟩
      dsimp only
      rw [and_int]
      refine ⟨_, rfl, ?_⟩
      refine if_by (fun e => ?_) (fun e => ?_)
      · have tb : t.testBit q = true := (and_pow t q).mp (by simpa using e)
        obtain ⟨i3, c3, a3⟩ := clr_ok hS i2 c2 hq tb
        refine ⟨_, rfl, _, rfl, _, rfl, _, _, rfl, rfl, ?_⟩
        refine ⟨rfl, clr t q, some (.int ((2 ^ q : Nat) : Int)), some (.int ((2 : Int) ^ q - 1)), ?_, i3, c3, fun w => (a3 w).trans (a2 w)⟩
        have z := clr_int t q
        dsimp only
        rw [z]
        rfl
      · exact ⟨rfl, t, _, _, rfl, i2, c2, a2⟩
    · obtain ⟨rfl, t, x3, x4, rfl, i2, c2, a2⟩ := e
      exact ⟨_, rfl, k t i2 c2 a2⟩
abbrev sSd : Stmt := inClass (top 12) 3
abbrev nSd : List Str := ["self", "standing", "mask"]
theorem scSd : FnScope nSd ["self", "standing", "mask"] (defScope sSd) := ⟨rfl, rfl, rfl, by decide +kernel, rfl, by decide +kernel, by decide +kernel⟩
theorem has_Sd {f C : Addr} {fd : FuncData} (F : Fun K "stepped" "Machine.stepped" sSd f fd) (m : Meth K C "stepped" f) (B : Blt mg) (T : Txt K mg C) (hCl : HasM P w K mg base C 1 "closed" ["self", "standing"] (spCl C)) :
    HasM P w K mg base C 2 "stepped" ["self", "standing", "mask"] (spSd C) := by
  obtain ⟨fCl, dCl, mCl, bCl, GCl⟩ := hCl
  refine ⟨f, fd, m, F.binds (ps := ["self", "standing", "mask"]) (fun _ _ _ _ _ _ us hl => match us, hl with | [_, _, _], _ => rfl), F.ok scSd (fun vs H Q E h => ?_) (fun cdv A outer s H vs Q E hr h => ?_)⟩
  · obtain ⟨p, b, l, s, k, c, R, rfl, _⟩ := h
    rfl
  · refine ⟨_, (pss_one (ps_ret (pe_meth (pv 0) T.cl mCl GCl hr bCl .nil pass0 (pa_cons (pe_op op_or (pe_op op_shl (pe_op op_and (pv 1) (pv 2)) pe_int) (pe_op op_and (pv 1) (pe_fld (pv 0) rfl))) pa_nil)))), ?_⟩
    obtain ⟨p, b, l, s, m, c, R, rfl, ma, hi, hc, hM, k⟩ := h
    obtain ⟨⟨dx, fs, hp, fl, fb, fc⟩, ⟨bs, hb, bel⟩, hL, hS, hl⟩ := id ma
    refine ⟨_, rfl, p, dx, _, rfl, hp, fc, _, rfl, _, rfl, _, _, rfl, rfl, _, _, rfl, rfl, ⟨by decide, by decide, ?_⟩, _, rfl, _, rfl, p, C, dx, _, _, rfl, hp, T.cl, T.nL, fl, _, _, rfl, rfl, _, _, rfl, rfl, ?_⟩
    · rw [and_int]
      exact small_in (and_in hi) hl
    dsimp only
    rw [and_int, and_int, dbl_int, or_int']
    obtain ⟨i1, a1⟩ := stp_ok hS hL hM hi hc
    exact ⟨p, b, l, stp s m l, R, rfl, ma, i1, fun t i2 c2 a2 => k t i2 c2 fun w => (a2 w).trans (a1 w)⟩
end
end Qb
end PySem
namespace PySem
namespace Qb
open PySem.W PySem.Calls PyProof.Rows L2
def fl (S E B D : Addr) (l st : Nat) : List (Str × V) := [("sets", .ref S), ("lots", .int (l : Nat)), ("ends", .ref E), ("below", .ref B), ("start", .int (st : Nat)), ("masks", .ref D)]
theorem lk_ne {f g : Str} {v : V} {fs : List (Str × V)} (h : ¬ g = f) : List.lookup g ((f, v) :: fs) = List.lookup g fs := by
  rw [List.lookup_cons]
  rw [show (g == f) = false from beq_eq_false_iff_ne.mpr h]
theorem lk_eq {g : Str} {v : V} {fs : List (Str × V)} : List.lookup g ((g, v) :: fs) = some v := by
  rw [List.lookup_cons]
  rw [show (g == g) = true from beq_self_eq_true g]
section
variable {S E B D : Addr} {l st : Nat}
theorem fl_S : (fl S E B D l st).lookup ("sets" : Str) = some (.ref S) := by unfold fl; ((repeat (first | exact lk_eq | refine Eq.trans (lk_ne (by decide +kernel)) ?_)) <;> rfl)
theorem fl_L : (fl S E B D l st).lookup ("lots" : Str) = some (.int (l : Nat)) := by unfold fl; ((repeat (first | exact lk_eq | refine Eq.trans (lk_ne (by decide +kernel)) ?_)) <;> rfl)
theorem fl_E : (fl S E B D l st).lookup ("ends" : Str) = some (.ref E) := by unfold fl; ((repeat (first | exact lk_eq | refine Eq.trans (lk_ne (by decide +kernel)) ?_)) <;> rfl)
theorem fl_B : (fl S E B D l st).lookup ("below" : Str) = some (.ref B) := by unfold fl; ((repeat (first | exact lk_eq | refine Eq.trans (lk_ne (by decide +kernel)) ?_)) <;> rfl)
theorem fl_T : (fl S E B D l st).lookup ("start" : Str) = some (.int (st : Nat)) := by unfold fl; ((repeat (first | exact lk_eq | refine Eq.trans (lk_ne (by decide +kernel)) ?_)) <;> rfl)
theorem fl_M : (fl S E B D l st).lookup ("masks" : Str) = some (.ref D) := by unfold fl; ((repeat (first | exact lk_eq | refine Eq.trans (lk_ne (by decide +kernel)) ?_)) <;> rfl)
theorem fl_closed : (fl S E B D l st).lookup ("closed" : Str) = none := by unfold fl; ((repeat (first | exact lk_eq | refine Eq.trans (lk_ne (by decide +kernel)) ?_)) <;> rfl)
theorem fl_stepped : (fl S E B D l st).lookup ("stepped" : Str) = none := by unfold fl; ((repeat (first | exact lk_eq | refine Eq.trans (lk_ne (by decide +kernel)) ?_)) <;> rfl)
theorem fl_mask_of : (fl S E B D l st).lookup ("mask_of" : Str) = none := by unfold fl; ((repeat (first | exact lk_eq | refine Eq.trans (lk_ne (by decide +kernel)) ?_)) <;> rfl)
theorem fl_lets : (fl S E B D l st).lookup ("lets" : Str) = none := by unfold fl; ((repeat (first | exact lk_eq | refine Eq.trans (lk_ne (by decide +kernel)) ?_)) <;> rfl)
theorem fl_lets_by : (fl S E B D l st).lookup ("lets_by" : Str) = none := by unfold fl; ((repeat (first | exact lk_eq | refine Eq.trans (lk_ne (by decide +kernel)) ?_)) <;> rfl)
end
def tTruK (K : PySem.W.Frag) (ta : TE) : TT := fun σ H Q => ta σ H fun x H' => ∃ k, TruV K x H' k ∧ Q k H'
def setAt (p : Pt) : Nat := if p.isLot = true then 0 else setN p
def setL (R : List Pt) : List Nat := R.map setAt ++ [0]
def intV (ns : List Nat) : List V := ns.map fun n => V.int ((n : Nat) : Int)
structure Mach (C : Addr) (H : Hp) (p S E B D : Addr) (l st : Nat) (R : List Pt) (n : Nat) : Prop where
  ob : ∃ dx, H p = some (.ins C dx (fl S E B D l st))
  hs : H S = some (.lst (intV (setL R)))
  he : H E = some (.lst [.int ((2 ^ R.length : Nat) : Int)])
  bel : ∃ bs, H B = some (.lst bs) ∧ Bel H R bs
  hd : ∃ kvs : List (Key × V), H D = some (.dK kvs) ∧ kvs.length ≤ n ∧ ∀ c ∈ cs signsS, ∀ v, valV kvs (Sum.inr (sg c)) = some v → ∃ k : Nat, v = .int (k : Nat) ∧ Mask R c k
  lots : Lots R l
  sep : Sep R
  len : R.length ≤ 60
  good : ∀ p ∈ R, p.good
theorem Mach.ma {C : Addr} {H : Hp} {p S E B D : Addr} {l st : Nat} {R : List Pt} {n : Nat} (m : Mach C H p S E B D l st R n) : MA C H p B l R := by
  obtain ⟨dx, h⟩ := m.ob
  exact ⟨⟨dx, _, h, fl_L, fl_B, fl_closed⟩, m.bel, m.lots, m.sep, m.len⟩
/-- other things come or change -/
theorem Mach.keep {C : Addr} {H H' : Hp} {p S E B D : Addr} {l st : Nat} {R : List Pt} {n : Nat} (m : Mach C H p S E B D l st R n) {F : Addr} (h : ∀ b o, H b = some o → b ≠ F → H' b = some o) (hF : (∃ xs, H F = some (.lst xs)) ∨ H F = none) (h1 : F ≠ S) (h2 : F ≠ E) (h3 : F ≠ B) : Mach C H' p S E B D l st R n := by
  obtain ⟨⟨dx, ob⟩, hs, he, ⟨bs, hb, bel⟩, ⟨kvs, hd, r⟩, a1, a2, a3, a4⟩ := m
  have ne : ∀ {b : Addr} {o : HO}, H b = some o → (∀ xs, o ≠ .lst xs) → b ≠ F := by
    intro b o e no z
    subst z
    rcases hF with ⟨xs, hF⟩ | hF
    · rw [e] at hF; exact no xs (Option.some.inj hF)
    · rw [e] at hF; cases hF
  refine ⟨⟨dx, h _ _ ob (ne ob fun _ z => by cases z)⟩, h _ _ hs (Ne.symm h1), h _ _ he (Ne.symm h2), ⟨bs, h _ _ hb (Ne.symm h3), fun x mx => ?_⟩, ⟨kvs, h _ _ hd (ne hd fun _ z => by cases z), r⟩, a1, a2, a3, a4⟩
  obtain ⟨t, k, e, ht, hl⟩ := bel x mx
  exact ⟨t, k, e, h _ _ ht (ne ht fun _ z => by cases z), hl⟩
theorem Mach.up {C : Addr} {H : Hp} {p S E B D : Addr} {l st : Nat} {R : List Pt} {n n' : Nat} (m : Mach C H p S E B D l st R n) (h : n ≤ n') : Mach C H p S E B D l st R n' := by
  obtain ⟨ob, hs, he, hb, ⟨kvs, hd, r1, r2⟩, a1, a2, a3, a4⟩ := m
  exact ⟨ob, hs, he, hb, ⟨kvs, hd, by omega, r2⟩, a1, a2, a3, a4⟩
theorem Mach.same {C : Addr} {H H' : Hp} {p S E B D : Addr} {l st : Nat} {R : List Pt} {n : Nat} (m : Mach C H p S E B D l st R n) (s : Same H H') : Mach C H' p S E B D l st R n := by
  obtain ⟨⟨dx, ob⟩, hs, he, ⟨bs, hb, bel⟩, ⟨kvs, hd, r⟩, a1, a2, a3, a4⟩ := m
  exact ⟨⟨dx, s _ _ ob⟩, s _ _ hs, s _ _ he, ⟨bs, s _ _ hb, bel.same s⟩, ⟨kvs, s _ _ hd, r⟩, a1, a2, a3, a4⟩
def spMo (C : Addr) : Sp := fun vs H Q _ => ∃ (p S E B D : Addr) (l st : Nat) (R : List Pt) (n c : Nat), vs = [.ref p, .str (sg c)] ∧ c ∈ cs signsS ∧ n ≤ 10000 ∧ Mach C H p S E B D l st R n ∧
  ∀ (k : Nat) (H' : Hp), Mask R c k → Mach C H' p S E B D l st R (n + 1) → (∀ b o, H b = some o → b ≠ D → H' b = some o) → Q (.int (k : Nat)) H'
def spLe (C : Addr) : Sp := fun vs H Q _ => ∃ (p S E B D : Addr) (l st : Nat) (R : List Pt) (n s : Nat), vs = [.ref p, .int (s : Nat), .int 0] ∧ Mach C H p S E B D l st R n ∧ Q (.bl (s.testBit R.length)) H
def bitAt (R : List Pt) (c q : Nat) : Bool := match R[q]? with
  | some p => !p.isLot && p.takes c
  | none => false
theorem bitAt_iff {R : List Pt} {c q : Nat} : bitAt R c q = true ↔ ∃ p, R[q]? = some p ∧ p.isLot = false ∧ p.takes c = true := by
  unfold bitAt
  cases e : R[q]? with
  | none => simp
  | some p => simp
theorem setL_at {R : List Pt} (hg : ∀ p ∈ R, p.good) {c q n : Nat} (hc : c ∈ cs signsS) (h : (setL R)[q]? = some n) : n.testBit (ixS c) = bitAt R c q := by
  unfold setL at h
  unfold bitAt
  rcases Nat.lt_or_ge q R.length with z | z
  · rw [List.getElem?_append_left (by rw [List.length_map]; exact z), List.getElem?_map, List.getElem?_eq_getElem z] at h
    obtain rfl := Option.some.inj h
    rw [List.getElem?_eq_getElem z]
    show (setAt R[q]).testBit (ixS c) = (!R[q].isLot && R[q].takes c)
    unfold setAt
    cases hl : R[q].isLot with
    | true => rw [if_pos rfl, Nat.zero_testBit]; rfl
    | false => rw [if_neg (by decide), set_bit (hg _ (List.getElem_mem z)) hl hc]; rfl
  · rw [List.getElem?_append_right (by rw [List.length_map]; exact z)] at h
    rw [List.getElem?_eq_none z]
    have : n = 0 := by
      rw [List.length_map] at h
      cases hq : q - R.length with
      | zero => rw [hq] at h; exact (Option.some.inj h).symm
      | succ j => rw [hq] at h; cases h
    rw [this, Nat.zero_testBit]
theorem add_bit {m i q : Nat} (h : m < 2 ^ i) : (m + 2 ^ i).testBit q = (decide (i = q) || m.testBit q) := by
  have e := Nat.two_pow_add_eq_or_of_lt h 1
  rw [Nat.mul_one] at e
  rw [Nat.add_comm, e, Nat.testBit_or, Nat.testBit_two_pow]
/-- what is summed so far -/
def Sm (R : List Pt) (c i : Nat) (L : List Int) : Prop := ∃ m : Nat, L.length ≤ i ∧ L.sum = ((m : Nat) : Int) ∧ m < 2 ^ i ∧ ∀ q, m.testBit q = true ↔ q < i ∧ bitAt R c q = true
theorem Sm.zero (R : List Pt) (c : Nat) : Sm R c 0 [] := ⟨0, Nat.le_refl _, rfl, by decide, fun q => by rw [Nat.zero_testBit]; simp⟩
theorem Sm.yes {R : List Pt} {c i : Nat} {L : List Int} (h : Sm R c i L) (hb : bitAt R c i = true) : Sm R c (i + 1) (L ++ [((2 ^ i : Nat) : Int)]) := by
  obtain ⟨m, h1, h2, h3, h4⟩ := h
  refine ⟨m + 2 ^ i, by rw [List.length_append]; simp; omega, ?_, by rw [Nat.pow_succ]; omega, fun q => ?_⟩
  · rw [List.sum_append, h2]
    simp
  · rw [add_bit h3, Bool.or_eq_true, h4]
    constructor
    · rintro (z | ⟨z1, z2⟩)
      · have := of_decide_eq_true z
        subst this
        exact ⟨by omega, hb⟩
      · exact ⟨by omega, z2⟩
    · rintro ⟨z1, z2⟩
      by_cases e : i = q
      · exact .inl (decide_eq_true e)
      · exact .inr ⟨by omega, z2⟩
theorem Sm.no {R : List Pt} {c i : Nat} {L : List Int} (h : Sm R c i L) (hb : bitAt R c i = false) : Sm R c (i + 1) L := by
  obtain ⟨m, h1, h2, h3, h4⟩ := h
  refine ⟨m, by omega, h2, by rw [Nat.pow_succ]; omega, fun q => ?_⟩
  rw [h4]
  constructor
  · rintro ⟨z1, z2⟩
    exact ⟨by omega, z2⟩
  · rintro ⟨z1, z2⟩
    by_cases e : q = i
    · subst e; rw [hb] at z2; cases z2
    · exact ⟨by omega, z2⟩
section
variable {P : Program} {w : World} {K : Frag} {mg : Str → Option Value} {base : Heap}
abbrev sLe : Stmt := inClass (top 12) 5
abbrev nLe : List Str := ["self", "standing", "index"]
theorem scLe : FnScope nLe ["self", "standing", "index"] (defScope sLe) := ⟨rfl, rfl, rfl, by decide +kernel, rfl, by decide +kernel, by decide +kernel⟩
theorem has_Le {f C : Addr} {fd : FuncData} (F : Fun K "lets" "Machine.lets" sLe f fd) (m : Meth K C "lets" f) (B : Blt mg) (T : Txt K mg C) :
    HasM P w K mg base C 1 "lets" ["self", "standing", "index"] (spLe C) := by
  refine ⟨f, fd, m, F.binds (ps := ["self", "standing", "index"]) (fun _ _ _ _ _ _ us hl => match us, hl with | [_, _, _], _ => rfl), F.ok scLe (fun vs H Q E h => ?_) (fun cdv A outer s H vs Q E hr h => ?_)⟩
  · obtain ⟨p, S, E1, B1, D, l, st, R, n, s, rfl, _⟩ := h
    rfl
  · refine ⟨_, (pss_one (ps_ret (pe_cmpR op_ne (pe_op op_and (pv 1) (pe_ix ix_list (pe_fld (pv 0) rfl) (pv 2) (fun _ _ => rfl))) pe_int (nomark _)))), ?_⟩
    obtain ⟨p, S, E1, B1, D, l, st, R, n, s, rfl, ma, k⟩ := h
    obtain ⟨dx, hp⟩ := ma.ob
    refine ⟨_, rfl, _, rfl, p, C, dx, _, _, rfl, hp, T.cl, T.nE, fl_E, _, rfl, E1, [V.int ((2 ^ R.length : Nat) : Int)], 0, .int ((2 ^ R.length : Nat) : Int), rfl, rfl, SqL.of ma.he, rfl, _, _, rfl, rfl, rfl, ?_⟩
    have z : (!decide (V.int (Builtin.bitAnd ((s : Nat) : Int) ((2 ^ R.length : Nat) : Int)) = V.int 0)) = s.testBit R.length := by
      have e := and_pow s R.length
      rw [← and_int] at e
      cases b : s.testBit R.length with
      | true =>
        have := e.mpr b
        rw [decide_eq_false (fun z => this (by injection z))]
        rfl
      | false =>
        rw [decide_eq_true]
        · rfl
        · congr 1
          rcases Decidable.em (Builtin.bitAnd ((s : Nat) : Int) ((2 ^ R.length : Nat) : Int) = 0) with h | h
          · exact h
          · rw [e.mp h] at b; cases b
    rw [← z] at k
    exact k
abbrev sMo : Stmt := inClass (top 12) 4
abbrev nMo : List Str := ["self", "sign", "bit", "at", "signs"]
theorem scMo : FnScope nMo ["self", "sign"] (defScope sMo) := ⟨rfl, rfl, rfl, by decide +kernel, rfl, by decide +kernel, by decide +kernel⟩
theorem has_Mo {f C : Addr} {fd : FuncData} (F : Fun K "mask_of" "Machine.mask_of" sMo f fd) (m : Meth K C "mask_of" f) (B : Blt mg) (W : Wrt mg) (T : Txt K mg C) :
    HasM P w K mg base C 1 "mask_of" ["self", "sign"] (spMo C) := by
  refine ⟨f, fd, m, F.binds (ps := ["self", "sign"]) (fun _ _ _ _ _ _ us hl => match us, hl with | [_, _], _ => rfl), F.ok scMo (fun vs H Q E h => ?_) (fun cdv A outer s H vs Q E hr h => ?_)⟩
  · obtain ⟨p, S, E1, B1, D, l, st, R, n, c, rfl, _⟩ := h
    rfl
  · have hu := hu_of hr
    refine ⟨_, (pss_cons (ps_if (pt_cmp (pc_dnotin hu (pv 1) (pe_fld (pv 0) rfl))) (pss_cons (ps_set (i := 2) scMo.nd rfl (.inr rfl) (pe_op op_shl pe_int (pe_bm PySem.F.plainAttrs_str PySem.F.slot_str_index PySem.F.type_str_index mt_sindex (glob_str (by rfl) W.signs) (pa_cons (pv 1) pa_nil))))
          (pss_one (ps_dput hu (pe_fld (pv 0) rfl) (pv 1) (pe_callB (cr_sum rfl) (by rfl) B.sum (by decide +kernel) (pa_cons (pe_lc (own := [("at", 3), ("signs", 4)]) (te := tOp (rI CPow fun i j => .int (i * 2 ^ j.toNat)) (tC (.int 1)) (tVar 3)) (tt := tTruK K (tOp (rI0 fun i j => .int (Builtin.bitAnd i j)) (tVar 4) (tVar 2))) (g := gTup K 2 (gCons (gName 3) (gCons (gName 4) gNil))) rfl scMo.nd (pi_enum (by rfl) B.enumerate (pa_cons (pe_fld (pv 0) rfl) pa_nil)) (blkOk_by (N := nMo) (sc := defScope sMo) (by decide +kernel)) (fun _ _ _ _ _ => pg_tup rfl (pgs_cons (pg_name (i := 3) scMo.nd rfl (.inl rfl)) (pgs_cons (pg_name (i := 4) scMo.nd rfl (.inl rfl)) pgs_nil))) (fun _ _ _ _ _ => pts_one (pt_truth (pe_op op_and (pv 4) (pv 2)) (by intro _; rfl))) (fun _ _ _ _ _ => (pe_op op_shl pe_int (pv 3)))) pa_nil)) rfl))) pss_nil)
        (pss_one (ps_ret (pe_dget hu (pe_fld (pv 0) rfl) (pv 1) (fun _ _ => rfl))))), ?_⟩
    obtain ⟨p, S, E1, B1, D, l, st, R, n, c, rfl, hc, hn, ma, k⟩ := h
    obtain ⟨dx, hp⟩ := ma.ob
    obtain ⟨kvs, hd, hk, hv⟩ := ma.hd
    obtain ⟨rest, ho⟩ := occS hc
    have hx := ixS_lt c hc
    refine ⟨_, rfl, _, rfl, p, C, dx, _, _, rfl, hp, T.cl, T.nM, fl_M, D, _, rfl, DGet.k (k := Sum.inr (sg c)) hd, _, rfl, ?_⟩
    cases e : valV kvs (Sum.inr (sg c) : Key) with
    | some v =>
      obtain ⟨k', rfl, hM⟩ := hv c hc v e
      refine if_no rfl ⟨_, rfl, p, C, dx, _, _, rfl, hp, T.cl, T.nM, fl_M, _, rfl, D, _, rfl, ?_, k k' H hM (ma.up (by omega)) (fun b o h _ => h)⟩
      rw [← e]
      exact DGet.k (k := Sum.inr (sg c)) hd
    | none =>
      refine if_yes rfl ⟨rfl, _, rfl, signsS, sg c, ixS c, rest, rfl, rfl, ho, _, _, rfl, rfl, ⟨by omega, by omega, by decide⟩, ?_⟩
      dsimp only
      rw [pow_int]
      have hS : SqL K H S (intV (setL R)) := SqL.of ma.hs
      refine ⟨_, rfl, p, C, dx, _, _, rfl, hp, T.cl, T.nS, fl_S, S, _, rfl, hS, fun D2 hD2 => lc_it (walk_enum (xs := intV (setL R))) (fun i H' => Same H H' ∧ ∃ L : List Int, H' D2 = some (.lst (L.map V.int)) ∧ Sm R c i L) ⟨same_upd hD2, [], upd_same, Sm.zero R c⟩ (fun i H' _ e => e.1.seq hS) (fun i x H' H2 hi e y => ?_) (fun H' e => ?_)⟩
      · obtain ⟨s1, L, hL, sm⟩ := e
        obtain ⟨T1, x1, x2, rfl, nT, rfl, e1, e2⟩ := y
        obtain rfl := Option.some.inj e1
        obtain ⟨z, hz, rfl⟩ : ∃ z, (setL R)[i]? = some z ∧ V.int ((z : Nat) : Int) = x2 := by
          unfold intV at e2
          dsimp only at e2
          rw [List.getElem?_map] at e2
          cases hz : (setL R)[i]? with
          | none => rw [hz] at e2; cases e2
          | some z => rw [hz] at e2; exact ⟨z, rfl, Option.some.inj e2⟩
        have hi2 : i < 61 := by
          have h1 := (List.getElem?_eq_some_iff.mp hz).1
          have h2 := ma.len
          unfold setL at h1
          rw [List.length_append, List.length_map, List.length_singleton] at h1
          omega
        have bt := setL_at ma.good hc hz
        have s2 := s1.trans (same_upd (o := .tup [.int (i : Nat), .int ((z : Nat) : Int)]) nT)
        have hL2 : (L2.upd H' T1 (.tup [.int (i : Nat), .int ((z : Nat) : Int)])) D2 = some (.lst (L.map V.int)) := by rw [upd_ne (ne_of_none hL nT)]; exact hL
        refine ⟨T1, _, rfl, SqT.of upd_same, rfl, _, _, rfl, _, _, rfl, rfl, rfl, ?_⟩
        refine ⟨_, rfl, _, rfl, _, _, rfl, rfl, _, rfl, ?_⟩
        rw [and_int]
        have lL : L.length ≤ i := by obtain ⟨_, h1, _⟩ := sm; exact h1
        refine if_by (fun e => ?_) (fun e => ?_)
        · have tb := (and_pow z (ixS c)).mp (by simpa using e)
          refine ⟨_, rfl, _, _, rfl, rfl, ⟨by omega, by omega, by decide⟩, _, hL2, by rw [List.length_map, sizeLine_eq]; omega, same_upd2 s2 hD2, L ++ [((2 ^ i : Nat) : Int)], ?_, sm.yes (by rw [← bt]; exact tb)⟩
          rw [upd_same, List.map_append]
          dsimp only
          rw [pow_int]
          rfl
        · refine ⟨s2, L, hL2, sm.no ?_⟩
          rw [← bt]
          cases b : z.testBit (ixS c) with
          | false => rfl
          | true => exact absurd ((and_pow z (ixS c)).mpr b) (by simpa using e)
      · obtain ⟨s1, L, hL, m', _, hsum, _, hbit⟩ := e
        have lx : (intV (setL R)).length = R.length + 1 := by
          unfold intV setL
          rw [List.length_map, List.length_append, List.length_map]
          rfl
        rw [lx] at hbit
        have hM : Mask R c m' := fun q => by
          rw [hbit, bitAt_iff]
          constructor
          · exact fun h => h.2
          · rintro ⟨x, h1, h2⟩
            exact ⟨by have := (List.getElem?_eq_some_iff.mp h1).1; omega, x, h1, h2⟩
        have hd1 := s1 _ _ hd
        have hp1 := s1 _ _ hp
        refine ⟨D2, L, rfl, SqL.of hL, _, rfl, p, C, dx, _, _, rfl, hp1, T.cl, T.nM, fl_M, _, rfl, D, _, rfl, DPut.k (k := Sum.inr (sg c)) hd1 (by rw [sizeLine_eq]; omega), ?_⟩
        rw [hsum]
        have npd : p ≠ D := ne_of hp1 hd1 (by intro z; cases z)
        have hp2 : (L2.upd H' D (.dK (putK kvs (Sum.inr (sg c)) (.int ((m' : Nat) : Int))))) p = some (.ins C dx (fl S E1 B1 D l st)) := by rw [upd_ne npd]; exact hp1
        refine ⟨_, rfl, p, C, dx, _, _, rfl, hp2, T.cl, T.nM, fl_M, _, rfl, D, .int ((m' : Nat) : Int), rfl, ?_, k m' _ hM ?_ (fun b o h ne => by rw [upd_ne ne]; exact s1 _ _ h)⟩
        · have z := DGet.k (k := Sum.inr (sg c)) (kvs := putK kvs (Sum.inr (sg c)) (.int ((m' : Nat) : Int))) (a := D) (H := L2.upd H' D (.dK (putK kvs (Sum.inr (sg c)) (.int ((m' : Nat) : Int))))) upd_same
          rw [valV_put, if_pos rfl] at z
          exact z
        · have keep : ∀ {b : Addr} {o : HO}, H b = some o → (∀ kv, o ≠ .dK kv) → (L2.upd H' D (.dK (putK kvs (Sum.inr (sg c)) (.int ((m' : Nat) : Int))))) b = some o := fun {b o} h no => by
            rw [upd_ne (fun z => by subst z; rw [hd] at h; exact no _ (Option.some.inj h).symm)]
            exact s1 _ _ h
          obtain ⟨bs, hb, bel⟩ := ma.bel
          refine ⟨⟨dx, hp2⟩, keep ma.hs (fun _ z => by cases z), keep ma.he (fun _ z => by cases z), ⟨bs, keep hb (fun _ z => by cases z), fun x mx => ?_⟩, ⟨_, upd_same, ?_, fun c' hc' v h => ?_⟩, ma.lots, ma.sep, ma.len, ma.good⟩
          · obtain ⟨t, q, ex, ht, hq⟩ := bel x mx
            exact ⟨t, q, ex, keep ht (fun _ z => by cases z), hq⟩
          · have := length_putK kvs (Sum.inr (sg c) : Key) (.int ((m' : Nat) : Int))
            omega
          · rw [valV_put] at h
            by_cases ec : (Sum.inr (sg c') : Key) = Sum.inr (sg c)
            · rw [if_pos ec] at h
              obtain rfl := Option.some.inj h
              have : c' = c := by
                have := congrArg cs (Sum.inr.inj ec)
                exact (List.cons.inj this).1
              subst this
              exact ⟨m', rfl, hM⟩
            · rw [if_neg ec] at h
              exact hv c' hc' v h
end
end Qb
end PySem
namespace PySem
namespace Qb
open PySem.W PySem.Calls PyProof.Rows L2
theorem pf_ne {f g : Str} {v x : V} {fs : List (Str × V)} (h : ¬ g = f) : putF f v ((g, x) :: fs) = (g, x) :: putF f v fs := by
  show (if g = f then _ else _) = _
  rw [if_neg h]
theorem pf_eq {f : Str} {v x : V} {fs : List (Str × V)} : putF f v ((f, x) :: fs) = (f, v) :: fs := by
  show (if f = f then _ else _) = _
  rw [if_pos rfl]
theorem putF_nil {f : Str} {v : V} : putF f v [] = [(f, v)] := rfl
def fl5 (S E B : Addr) (l st : Nat) : List (Str × V) := [("sets", .ref S), ("lots", .int (l : Nat)), ("ends", .ref E), ("below", .ref B), ("start", .int (st : Nat))]
section
variable {S E B D : Addr} {l l' st st' : Nat}
theorem f5_S : (fl5 S E B l st).lookup ("sets" : Str) = some (.ref S) := by unfold fl5; ((repeat (first | exact lk_eq | refine Eq.trans (lk_ne (by decide +kernel)) ?_)) <;> rfl)
theorem f5_L : (fl5 S E B l st).lookup ("lots" : Str) = some (.int (l : Nat)) := by unfold fl5; ((repeat (first | exact lk_eq | refine Eq.trans (lk_ne (by decide +kernel)) ?_)) <;> rfl)
theorem f5_E : (fl5 S E B l st).lookup ("ends" : Str) = some (.ref E) := by unfold fl5; ((repeat (first | exact lk_eq | refine Eq.trans (lk_ne (by decide +kernel)) ?_)) <;> rfl)
theorem f5_B : (fl5 S E B l st).lookup ("below" : Str) = some (.ref B) := by unfold fl5; ((repeat (first | exact lk_eq | refine Eq.trans (lk_ne (by decide +kernel)) ?_)) <;> rfl)
theorem f5_T : (fl5 S E B l st).lookup ("start" : Str) = some (.int (st : Nat)) := by unfold fl5; ((repeat (first | exact lk_eq | refine Eq.trans (lk_ne (by decide +kernel)) ?_)) <;> rfl)
theorem f5_add : (fl5 S E B l st).lookup ("add_row" : Str) = none := by unfold fl5; ((repeat (first | exact lk_eq | refine Eq.trans (lk_ne (by decide +kernel)) ?_)) <;> rfl)
theorem f5_closed : (fl5 S E B l st).lookup ("closed" : Str) = none := by unfold fl5; ((repeat (first | exact lk_eq | refine Eq.trans (lk_ne (by decide +kernel)) ?_)) <;> rfl)
theorem f5_pL : putF ("lots" : Str) (.int (l' : Nat)) (fl5 S E B l st) = fl5 S E B l' st := by
  unfold fl5
  rw [pf_ne (by decide +kernel), pf_eq]
theorem f5_pT : putF ("start" : Str) (.int (st' : Nat)) (fl5 S E B l st) = fl5 S E B l st' := by
  unfold fl5
  rw [pf_ne (by decide +kernel), pf_ne (by decide +kernel), pf_ne (by decide +kernel), pf_ne (by decide +kernel), pf_eq]
theorem f5_pM : putF ("masks" : Str) (.ref D) (fl5 S E B l st) = fl S E B D l st := by
  unfold fl5 fl
  rw [pf_ne (by decide +kernel), pf_ne (by decide +kernel), pf_ne (by decide +kernel), pf_ne (by decide +kernel), pf_ne (by decide +kernel), putF_nil]
theorem f5_mk : putF ("start" : Str) (.int 0) (putF "below" (.ref B) (putF "ends" (.ref E) (putF "lots" (.int 0) (putF "sets" (.ref S) [])))) = fl5 S E B 0 0 := by
  have e1 : putF ("lots" : Str) (.int 0) [(("sets" : Str), V.ref S)] = [(("sets" : Str), V.ref S), ("lots", .int 0)] := by rw [pf_ne (by decide +kernel), putF_nil]
  have e2 : putF ("ends" : Str) (.ref E) [(("sets" : Str), V.ref S), ("lots", .int 0)] = [(("sets" : Str), V.ref S), ("lots", .int 0), ("ends", .ref E)] := by rw [pf_ne (by decide +kernel), pf_ne (by decide +kernel), putF_nil]
  have e3 : putF ("below" : Str) (.ref B) [(("sets" : Str), V.ref S), ("lots", .int 0), ("ends", .ref E)] = [(("sets" : Str), V.ref S), ("lots", .int 0), ("ends", .ref E), ("below", .ref B)] := by rw [pf_ne (by decide +kernel), pf_ne (by decide +kernel), pf_ne (by decide +kernel), putF_nil]
  have e4 : putF ("start" : Str) (.int 0) [(("sets" : Str), V.ref S), ("lots", .int 0), ("ends", .ref E), ("below", .ref B)] = [(("sets" : Str), V.ref S), ("lots", .int 0), ("ends", .ref E), ("below", .ref B), ("start", .int 0)] := by rw [pf_ne (by decide +kernel), pf_ne (by decide +kernel), pf_ne (by decide +kernel), pf_ne (by decide +kernel), putF_nil]
  rw [putF_nil, e1, e2, e3, e4]
  rfl
end
/-! ## pieces do not stand on what is empty, or an instance -/
def Off (o : HO) : Prop := o = .lst [] ∨ ∃ C dx fs, o = .ins C dx fs
theorem sqT_hide {K : Frag} {H : Hp} {F a : Addr} {o : HO} {xs : List V} (e : H F = some o) (ho : Off o) (h : SqT K H a xs) : SqT K (hide H F) a xs := by
  have ne : ∀ {u : HO}, H a = some u → (∀ p, u ≠ .lst p) → (∀ C dx fs, u ≠ .ins C dx fs) → hide H F a = some u := fun {u} h1 h2 h3 => hide_ne h1 (fun z => by
    subst z
    rw [e] at h1
    obtain rfl := Option.some.inj h1
    rcases ho with z | ⟨C, dx, fs, z⟩
    · exact h2 _ z
    · exact h3 _ _ _ z)
  rcases h with (h | ⟨o, h⟩) | h
  · exact .inl (.inl (ne h (fun _ z => by cases z) (fun _ _ _ z => by cases z)))
  · exact .inl (.inr ⟨o, ne h (fun _ z => by cases z) (fun _ _ _ z => by cases z)⟩)
  · exact .inr h
theorem sqL_hide {K : Frag} {H : Hp} {F a : Addr} {o : HO} {xs : List V} (e : H F = some o) (ho : Off o) (hx : xs ≠ []) (h : SqL K H a xs) : SqL K (hide H F) a xs := by
  have ne : ∀ {u : HO}, H a = some u → u ≠ .lst [] → (∀ C dx fs, u ≠ .ins C dx fs) → hide H F a = some u := fun {u} h1 h2 h3 => hide_ne h1 (fun z => by
    subst z
    rw [e] at h1
    obtain rfl := Option.some.inj h1
    rcases ho with z | ⟨C, dx, fs, z⟩
    · exact h2 z
    · exact h3 _ _ _ z)
  rcases h with (h | ⟨o, h⟩) | h
  · exact .inl (.inl (ne h (fun z => by injection z with z; exact hx z) (fun _ _ _ z => by cases z)))
  · exact .inl (.inr ⟨o, ne h (fun z => by cases z) (fun _ _ _ z => by cases z)⟩)
  · exact .inr h
theorem dp_hide {K : Frag} {H : Hp} {F : Addr} {o : HO} (e : H F = some o) (ho : ∃ C dx fs, o = .ins C dx fs) : ∀ {d : PyData} {v : V}, Dp K H v d → Dp K (hide H F) v d := by
  intro d v h
  have ne : ∀ {a : Addr} {u : HO}, H a = some u → (∀ C dx fs, u ≠ .ins C dx fs) → hide H F a = some u := fun {a u} h1 h3 => hide_ne h1 (fun z => by
    subst z
    rw [e] at h1
    obtain rfl := Option.some.inj h1
    obtain ⟨C, dx, fs, z⟩ := ho
    exact h3 _ _ _ z)
  refine Dp.rec (motive_1 := fun v d _ => Dp K (hide H F) v d) (motive_2 := fun vs ds _ => DpAll K (hide H F) vs ds) .non .bl .int .str (fun h1 _ ih => .lst ?_ ih) (fun h1 _ ih => .tup (sqT_hide e (.inr ho) h1) ih) .nil (fun _ _ a b => .cons a b) h
  rcases h1 with (h | ⟨o, h⟩) | h
  · exact .inl (.inl (ne h (fun _ _ _ z => by cases z)))
  · exact .inl (.inr ⟨o, ne h (fun _ _ _ z => by cases z)⟩)
  · exact .inr h
theorem strs_hide {K : Frag} {H : Hp} {F : Addr} {xs : List V} : ∀ {ds : List PyData}, (∀ d ∈ ds, ∃ x, d = .str x) → DpAll K H xs ds → DpAll K (hide H F) xs ds := by
  intro ds h all
  induction ds generalizing xs with
  | nil => cases all; exact .nil
  | cons d ds ih =>
    cases all with
    | cons h1 h2 =>
      obtain ⟨x, rfl⟩ := h d (.head _)
      cases h1
      exact .cons (.str _) (ih (fun e m => h e (.tail _ m)) h2)
theorem rg_hide {K : Frag} {H : Hp} {F : Addr} {o : HO} (e : H F = some o) (ho : Off o) {xs : List V} : ∀ {rs : List (Nat × Nat)}, DpAll K H xs (rs.map rgD) → DpAll K (hide H F) xs (rs.map rgD) := by
  intro rs all
  induction rs generalizing xs with
  | nil => cases all; exact .nil
  | cons r rs ih =>
    cases all with
    | cons h1 h2 =>
      obtain ⟨a, ys, rfl, q, al⟩ := dp_tup h1
      refine .cons (.tup (sqT_hide e ho q) (strs_hide (fun d m => ?_) al)) (ih h2)
      rcases List.mem_cons.mp m with rfl | m
      · exact ⟨_, rfl⟩
      · rcases List.mem_singleton.mp m with rfl
        exact ⟨_, rfl⟩
theorem pt_hide {K : Frag} {H : Hp} {F : Addr} {o : HO} (e : H F = some o) (ho : Off o) {p : Pt} {x : V} (hg : p.good) (h : Dp K H x p.d) : Dp K (hide H F) x p.d := by
  obtain ⟨a, ys, rfl, q, all⟩ := dp_tup (ds := match p with | .one c => [.str "one", .str (sg c)] | .any => [.str "any"] | .lot => [.str "lot"] | .of no rs => [.str "of", .bool no, .list (rs.map rgD)]) (by cases p <;> exact h)
  have q' := sqT_hide e ho q
  cases p with
  | one c =>
    refine .tup q' (strs_hide (fun d m => ?_) all)
    rcases List.mem_cons.mp m with rfl | m
    · exact ⟨_, rfl⟩
    · rcases List.mem_singleton.mp m with rfl
      exact ⟨_, rfl⟩
  | any => exact .tup q' (strs_hide (fun d m => by rcases List.mem_singleton.mp m with rfl; exact ⟨_, rfl⟩) all)
  | lot => exact .tup q' (strs_hide (fun d m => by rcases List.mem_singleton.mp m with rfl; exact ⟨_, rfl⟩) all)
  | of no rs =>
    cases all with
    | cons h1 t1 =>
      cases t1 with
      | cons h2 t2 =>
        cases t2 with
        | cons h3 t3 =>
          cases t3
          obtain ⟨b, zs, rfl, qb, al⟩ := dp_lst h3
          have lz := dpLen al
          rw [List.length_map] at lz
          have nz : zs ≠ [] := fun z => by
            rw [z] at lz
            exact hg.1 (List.eq_nil_of_length_eq_zero lz.symm)
          refine .tup q' (.cons ?_ (.cons ?_ (.cons (.lst (sqL_hide e ho nz qb) (rg_hide e ho al)) .nil)))
          · cases h1; exact .str _
          · cases h2; exact .bl _
theorem pts_hide {K : Frag} {H : Hp} {F : Addr} {o : HO} (e : H F = some o) (ho : Off o) {xs : List V} : ∀ {R : List Pt}, (∀ p ∈ R, p.good) → DpAll K H xs (R.map Pt.d) → DpAll K (hide H F) xs (R.map Pt.d) := by
  intro R hg all
  induction R generalizing xs with
  | nil => cases all; exact .nil
  | cons p R ih =>
    cases all with
    | cons h1 h2 => exact .cons (pt_hide e ho (hg p (.head _)) h1) (ih (fun q m => hg q (.tail _ m)) h2)
end Qb
end PySem
namespace PySem
namespace Qb
open PySem.W PySem.Calls PyProof.Rows L2
def hid4 (H : Hp) (p S E B : Addr) : Hp := hide (hide (hide (hide H p) S) E) B
theorem hid4_at {H : Hp} {p S E B b : Addr} {o : HO} (h : H b = some o) (h1 : b ≠ p) (h2 : b ≠ S) (h3 : b ≠ E) (h4 : b ≠ B) : hid4 H p S E B b = some o :=
  hide_ne (hide_ne (hide_ne (hide_ne h h1) h2) h3) h4
theorem hid4_back {H : Hp} {p S E B b : Addr} {o : HO} (h : hid4 H p S E B b = some o) : H b = some o ∧ b ≠ p ∧ b ≠ S ∧ b ≠ E ∧ b ≠ B := by
  unfold hid4 hide at h
  split at h
  · cases h
  · rename_i h4
    split at h
    · cases h
    · rename_i h3
      split at h
      · cases h
      · rename_i h2
        split at h
        · cases h
        · rename_i h1
          exact ⟨h, h1, h2, h3, h4⟩
theorem hid4_upd {H H' : Hp} {p S E B F : Addr} {o : HO} (s : Same (hid4 H p S E B) H') (hF : F = p ∨ F = S ∨ F = E ∨ F = B) : Same (hid4 H p S E B) (L2.upd H' F o) := fun b u h => by
  obtain ⟨_, h1, h2, h3, h4⟩ := hid4_back h
  rw [upd_ne (fun z => by
    rcases hF with e | e | e | e
    · exact h1 (z.trans e)
    · exact h2 (z.trans e)
    · exact h3 (z.trans e)
    · exact h4 (z.trans e))]
  exact s _ _ h
def spAr (C : Addr) (K : Frag) : Sp := fun vs H Q _ => ∃ (p L S E B dx : Addr) (R : List Pt) (xs : List V), vs = [.ref p, .ref L] ∧ H p = some (.ins C dx (fl5 S E B 0 0)) ∧ H S = some (.lst []) ∧ H E = some (.lst []) ∧ H B = some (.lst []) ∧ S ≠ E ∧ S ≠ B ∧ E ≠ B ∧
  H L = some (.lst xs) ∧ L ≠ S ∧ L ≠ E ∧ L ≠ B ∧ DpAll K H xs (R.map Pt.d) ∧ (∀ q ∈ R, q.good) ∧ R.length ≤ 60 ∧
  ∀ (H' : Hp) (l : Nat), Same (hid4 H p S E B) H' → (∃ dx', H' p = some (.ins C dx' (fl5 S E B l 1))) → H' S = some (.lst (intV (setL R))) → H' E = some (.lst [.int ((2 ^ R.length : Nat) : Int)]) → (∃ bs, H' B = some (.lst bs) ∧ Bel H' R bs) → Lots R l → Q .non H'
theorem intV_snoc (ns : List Nat) (n : Nat) : intV (ns ++ [n]) = intV ns ++ [V.int ((n : Nat) : Int)] := by
  unfold intV
  rw [List.map_append]
  rfl
theorem or_pow (a k : Nat) : Builtin.bitOr ((a : Nat) : Int) (1 * 2 ^ ((k : Nat) : Int).toNat) = ((a ||| 2 ^ k : Nat) : Int) := by
  rw [pow_int, or_int']
theorem lotAt_at {R : List Pt} {i : Nat} {p : Pt} (h : R[i]? = some p) : lotAt R i = p.isLot := by
  unfold lotAt
  rw [h]
section
variable {P : Program} {w : World} {K : Frag} {mg : Str → Option Value} {base : Heap}
abbrev sAr : Stmt := inClass (top 12) 1
abbrev nAr : List Str := ["self", "pattern", "first", "piece", "bit"]
theorem scAr : FnScope nAr ["self", "pattern"] (defScope sAr) := ⟨rfl, rfl, rfl, by decide +kernel, rfl, by decide +kernel, by decide +kernel⟩
theorem has_Ar {f C : Addr} {fd : FuncData} (F : Fun K "add_row" "Machine.add_row" sAr f fd) (m : Meth K C "add_row" f) (B : Blt mg) (T : Txt K mg C) (hSo : Has P w K mg base 1 "set_of" ["piece"] (spSo K)) :
    HasM P w K mg base C 2 "add_row" ["self", "pattern"] (spAr C K) := by
  obtain ⟨fSo, dSo, gSo, kSo, bSo, GSo⟩ := hSo
  refine ⟨f, fd, m, F.binds (ps := ["self", "pattern"]) (fun _ _ _ _ _ _ us hl => match us, hl with | [_, _], _ => rfl), F.ok scAr (fun vs H Q E h => ?_) (fun cdv A outer s H vs Q E hr h => ?_)⟩
  · obtain ⟨p, L, S, E1, B1, dx, R, xs, rfl, _⟩ := h
    rfl
  · refine ⟨_, (pss_cons (ps_set (i := 2) scAr.nd rfl (.inl rfl) (pe_callB call_len_seq (by rfl) B.len PySem.boot_len (pa_cons (pe_fld (pv 0) rfl) pa_nil)))
        (pss_cons (ps_fldaug (pv 0) (pe_op op_shl pe_int (pv 2)) in_or)
        (pss_cons (ps_for PassesOwn.never rfl (pi_list (pv 1)) (pg_name (i := 3) scAr.nd rfl (.inl rfl))
          (pss_cons (ps_set (i := 4) scAr.nd rfl (.inl rfl) (pe_op op_shl pe_int (pe_callB call_len_seq (by rfl) B.len PySem.boot_len (pa_cons (pe_fld (pv 0) rfl) pa_nil))))
          (pss_cons (ps_if (pt_cmpR (op_eqD hr.units) (pv 3) (pe_tup (pa_cons pe_str pa_nil)) (nomark _)) (pss_cons (ps_fldaug (pv 0) (pv 4) in_or)
            (pss_one (ps_expr (pe_bm PySem.F.plainAttrs_list PySem.F.slot_list_append PySem.F.type_list_append mt_append (pe_fld (pv 0) rfl) (pa_cons (pe_tup (pa_cons (pv 4) (pa_cons (pe_op op_sub (pv 4) (pe_op op_shl pe_int (pv 2))) pa_nil))) pa_nil))))) pss_nil)
          (pss_one (ps_expr (pe_bm PySem.F.plainAttrs_list PySem.F.slot_list_append PySem.F.type_list_append mt_append (pe_fld (pv 0) rfl) (pa_cons (pe_ifExp (pt_cmpR (op_eqD hr.units) (pv 3) (pe_tup (pa_cons pe_str pa_nil)) (nomark _)) pe_int (pe_call GSo hr rfl gSo kSo bSo .nil pass0 (pa_cons (pv 3) pa_nil))) pa_nil)))))))
        (pss_cons (ps_expr (pe_bm PySem.F.plainAttrs_list PySem.F.slot_list_append PySem.F.type_list_append mt_append (pe_fld (pv 0) rfl) (pa_cons (pe_op op_shl pe_int (pe_callB call_len_seq (by rfl) B.len PySem.boot_len (pa_cons (pe_fld (pv 0) rfl) pa_nil))) pa_nil)))
        (pss_one (ps_expr (pe_bm PySem.F.plainAttrs_list PySem.F.slot_list_append PySem.F.type_list_append mt_append (pe_fld (pv 0) rfl) (pa_cons pe_int pa_nil)))))))), ?_⟩
    obtain ⟨p, L, S, E1, B1, dx, R, xs, rfl, hp, hS, hE, hB, nSE, nSB, nEB, hL, nLS, nLE, nLB, all, hg, hl, k⟩ := h
    have npS : p ≠ S := ne_of hp hS (by intro z; cases z)
    have npE : p ≠ E1 := ne_of hp hE (by intro z; cases z)
    have npB : p ≠ B1 := ne_of hp hB (by intro z; cases z)
    have npL : p ≠ L := ne_of hp hL (by intro z; cases z)
    have lx := dpLen all
    rw [List.length_map] at lx
    -- what is hidden
    have all4 : DpAll K (hid4 H p S E1 B1) xs (R.map Pt.d) := by
      have a1 := pts_hide hp (.inr ⟨_, _, _, rfl⟩) hg all
      have a2 := pts_hide (hide_ne hS (Ne.symm npS)) (.inl rfl) hg a1
      have a3 := pts_hide (hide_ne (hide_ne hE (Ne.symm npE)) (Ne.symm nSE)) (.inl rfl) hg a2
      exact pts_hide (hide_ne (hide_ne (hide_ne hB (Ne.symm npB)) (Ne.symm nSB)) (Ne.symm nEB)) (.inl rfl) hg a3
    have hL4 : hid4 H p S E1 B1 L = some (.lst xs) := hid4_at hL (Ne.symm npL) nLS nLE nLB
    have s0 : Same (hid4 H p S E1 B1) H := fun b o h => (hid4_back h).1
    refine ⟨_, rfl, p, C, dx, _, _, rfl, hp, T.cl, T.nS, f5_S, S, _, rfl, .inl (SqL.of hS), _, rfl, p, C, dx, _, _, rfl, hp, T.cl, T.nT, f5_T, _, rfl, _, _, rfl, rfl, ⟨by decide, by decide, by decide⟩, _, _, rfl, rfl, dx, _, hp, (by show 5 < 1000; decide), ?_⟩
    have e0 : putF ("start" : Str) (.int (Builtin.bitOr ((0 : Nat) : Int) (1 * 2 ^ (((0 : Nat)) : Int).toNat))) (fl5 S E1 B1 0 0) = fl5 S E1 B1 0 1 := by
      rw [or_pow]
      exact f5_pT
    refine ⟨_, rfl, L, rfl, ⟨xs, ?_⟩, for_list (xs := xs) (fun i σ H' => (∃ x3 x4, σ = [some (.ref p), some (.ref L), some (.int 0), x3, x4]) ∧ Same (hid4 H p S E1 B1) H' ∧ ∃ (dx' : Addr) (l : Nat) (bs : List V), H' p = some (.ins C dx' (fl5 S E1 B1 l 1)) ∧ H' S = some (.lst (intV ((R.take i).map setAt))) ∧ H' E1 = some (.lst []) ∧ H' B1 = some (.lst bs) ∧ bs.length ≤ i ∧ Bel H' R bs ∧ Lots (R.take i) l) ?_ (fun i σ H' _ e => SqL.of (e.2.1 _ _ hL4)) (fun i x σ H' hx e => ?_) (fun σ H' e => ?_)⟩
    · exact SqL.of (by rw [upd_ne (Ne.symm npL)]; exact hL)
    · refine ⟨⟨none, none, rfl⟩, hid4_upd s0 (.inl rfl), dx, 0, [], ?_, ?_, ?_, ?_, Nat.le_refl _, (fun x mx => by cases mx), Lots.nil⟩
      · rw [upd_same]
        exact congrArg (fun f => some (HO.ins C dx f)) e0
      · rw [upd_ne (Ne.symm npS)]; exact hS
      · rw [upd_ne (Ne.symm npE)]; exact hE
      · rw [upd_ne (Ne.symm npB)]; exact hB
    · obtain ⟨⟨x3, x4, rfl⟩, s1, dx', l, bs, hp1, hS1, hE1, hB1, lb, bel, lo⟩ := e
      obtain ⟨q, hq, dq⟩ := pt_at all4 hx
      have gq := hg q (List.mem_of_getElem? hq)
      have hi : i < R.length := (List.getElem?_eq_some_iff.mp hq).1
      have lS : (intV ((R.take i).map setAt)).length = i := by
        unfold intV
        rw [List.length_map, List.length_map, List.length_take]
        omega
      have tk := take_snoc hq
      refine ⟨_, rfl, p, C, dx', _, _, rfl, hp1, T.cl, T.nS, f5_S, S, _, rfl, .inl (SqL.of hS1), _, _, rfl, rfl, ⟨by omega, by rw [lS]; omega, by decide⟩, ?_⟩
      have dsimp_bit : (fun i j : Int => V.int (i * 2 ^ j.toNat)) 1 (((intV ((R.take i).map setAt)).length : Nat) : Int) = .int ((2 ^ i : Nat) : Int) := by
        rw [lS]
        exact congrArg V.int (pow_int i)
      rw [dsimp_bit]
      have last : ∀ (H6 : Hp) (l' : Nat) (bs' : List V), Same (hid4 H p S E1 B1) H6 → H6 p = some (.ins C dx' (fl5 S E1 B1 l' 1)) → H6 S = some (.lst (intV ((R.take i).map setAt))) → H6 E1 = some (.lst []) → H6 B1 = some (.lst bs') → bs'.length ≤ i + 1 → Bel H6 R bs' → Lots (R.take (i + 1)) l' →
          Same (hid4 H p S E1 B1) (L2.upd H6 S (.lst (intV ((R.take i).map setAt) ++ [V.int ((setAt q : Nat) : Int)]))) ∧ ∃ (dx' : Addr) (l : Nat) (bs : List V), (L2.upd H6 S (.lst (intV ((R.take i).map setAt) ++ [V.int ((setAt q : Nat) : Int)]))) p = some (.ins C dx' (fl5 S E1 B1 l 1)) ∧ (L2.upd H6 S (.lst (intV ((R.take i).map setAt) ++ [V.int ((setAt q : Nat) : Int)]))) S = some (.lst (intV ((R.take (i + 1)).map setAt))) ∧ (L2.upd H6 S (.lst (intV ((R.take i).map setAt) ++ [V.int ((setAt q : Nat) : Int)]))) E1 = some (.lst []) ∧ (L2.upd H6 S (.lst (intV ((R.take i).map setAt) ++ [V.int ((setAt q : Nat) : Int)]))) B1 = some (.lst bs) ∧ bs.length ≤ i + 1 ∧ Bel (L2.upd H6 S (.lst (intV ((R.take i).map setAt) ++ [V.int ((setAt q : Nat) : Int)]))) R bs ∧ Lots (R.take (i + 1)) l := by
        intro H6 l' bs' s6 p6 S6 E6 B6 lb6 be6 lo6
        refine ⟨hid4_upd s6 (.inr (.inl rfl)), dx', l', bs', by rw [upd_ne npS]; exact p6, ?_, by rw [upd_ne (Ne.symm nSE)]; exact E6, by rw [upd_ne (Ne.symm nSB)]; exact B6, lb6, fun y my => ?_, lo6⟩
        · rw [upd_same, tk, List.map_append, show [q].map setAt = [setAt q] from rfl, intV_snoc]
        · obtain ⟨t, k', e, ht, hk⟩ := be6 y my
          refine ⟨t, k', e, ?_, hk⟩
          rw [upd_ne (ne_of ht S6 (by intro z; cases z))]
          exact ht
      refine ⟨_, rfl, (by decide : 1 ≤ sizeLine), fun t1 n1 => ?_⟩
      have s2 := s1.trans (same_upd (o := .tup [.str "lot"]) n1)
      have u2 : Same H' (L2.upd H' t1 (.tup [.str "lot"])) := same_upd n1
      refine ⟨_, _, dp_same s2 dq, .tup (SqT.of upd_same) (.cons (.str _) .nil), sh_ok (sh_pt gq), by decide +kernel, _, rfl, ?_⟩
      rw [eqv_lot]
      have lo' := lo.snoc q
      rw [← tk, List.length_take, Nat.min_eq_left (by omega)] at lo'
      refine if_by (fun e1 => ?_) (fun e1 => ?_)
      · have hp2 := u2 _ _ hp1
        refine ⟨_, rfl, p, C, dx', _, _, rfl, hp2, T.cl, T.nL, f5_L, _, rfl, _, _, rfl, rfl, dx', _, hp2, (by show 5 < 1000; decide), ?_⟩
        have e5 : putF ("lots" : Str) (.int (Builtin.bitOr ((l : Nat) : Int) ((2 ^ i : Nat) : Int))) (fl5 S E1 B1 l 1) = fl5 S E1 B1 (l ||| 2 ^ i) 1 := by
          rw [or_int']
          exact f5_pL
        rw [e5]
        rw [if_pos e1] at lo'
        have s3 := hid4_upd (F := p) (o := .ins C dx' (fl5 S E1 B1 (l ||| 2 ^ i) 1)) s2 (.inl rfl)
        have hp3 : (L2.upd (L2.upd H' t1 (.tup [.str "lot"])) p (.ins C dx' (fl5 S E1 B1 (l ||| 2 ^ i) 1))) p = some (.ins C dx' (fl5 S E1 B1 (l ||| 2 ^ i) 1)) := upd_same
        have hS3 : (L2.upd (L2.upd H' t1 (.tup [.str "lot"])) p (.ins C dx' (fl5 S E1 B1 (l ||| 2 ^ i) 1))) S = some (.lst (intV ((R.take i).map setAt))) := by rw [upd_ne (Ne.symm npS)]; exact u2 _ _ hS1
        have hE3 : (L2.upd (L2.upd H' t1 (.tup [.str "lot"])) p (.ins C dx' (fl5 S E1 B1 (l ||| 2 ^ i) 1))) E1 = some (.lst []) := by rw [upd_ne (Ne.symm npE)]; exact u2 _ _ hE1
        have hB3 : (L2.upd (L2.upd H' t1 (.tup [.str "lot"])) p (.ins C dx' (fl5 S E1 B1 (l ||| 2 ^ i) 1))) B1 = some (.lst bs) := by rw [upd_ne (Ne.symm npB)]; exact u2 _ _ hB1
        have be3 : Bel (L2.upd (L2.upd H' t1 (.tup [.str "lot"])) p (.ins C dx' (fl5 S E1 B1 (l ||| 2 ^ i) 1))) R bs := fun y my => by
          obtain ⟨t, k', e, ht, hk⟩ := bel y my
          refine ⟨t, k', e, ?_, hk⟩
          have ht2 := u2 _ _ ht
          rw [upd_ne (ne_of ht2 hp2 (by intro z; cases z))]
          exact ht2
        generalize L2.upd (L2.upd H' t1 (.tup [.str "lot"])) p (.ins C dx' (fl5 S E1 B1 (l ||| 2 ^ i) 1)) = H3 at s3 hp3 hS3 hE3 hB3 be3 ⊢
        refine ⟨_, rfl, p, C, dx', _, _, rfl, hp3, T.cl, T.nB, f5_B, .inl ⟨rfl, _, SqL.of hB3⟩, _, rfl, _, rfl, _, rfl, _, _, rfl, rfl, ⟨by decide, by decide, by decide⟩, _, _, rfl, rfl, (by decide : 2 ≤ sizeLine), fun t2 n2 => ?_⟩
        have u4 : Same H3 (L2.upd H3 t2 (belD i)) := same_upd n2
        have eb : (HO.tup [V.int ((2 ^ i : Nat) : Int), V.int (((2 ^ i : Nat) : Int) - 1 * 2 ^ ((0 : Int)).toNat)]) = belD i := by
          unfold belD
          rw [show (1 : Int) * 2 ^ ((0 : Int)).toNat = 1 from rfl, PySem.W.kbt_cast]
        dsimp only
        rw [eb]
        have n2B : t2 ≠ B1 := fun z => by rw [z, hB3] at n2; cases n2
        refine ⟨B1, bs, _, rfl, rfl, u4 _ _ hB3, by rw [sizeLine_eq]; omega, ?_⟩
        have s4 := hid4_upd (F := B1) (o := .lst (bs ++ [V.ref t2])) (s3.trans u4) (.inr (.inr (.inr rfl)))
        have hp4 : (L2.upd (L2.upd H3 t2 (belD i)) B1 (.lst (bs ++ [V.ref t2]))) p = some (.ins C dx' (fl5 S E1 B1 (l ||| 2 ^ i) 1)) := by rw [upd_ne npB]; exact u4 _ _ hp3
        have hS4 : (L2.upd (L2.upd H3 t2 (belD i)) B1 (.lst (bs ++ [V.ref t2]))) S = some (.lst (intV ((R.take i).map setAt))) := by rw [upd_ne nSB]; exact u4 _ _ hS3
        have hE4 : (L2.upd (L2.upd H3 t2 (belD i)) B1 (.lst (bs ++ [V.ref t2]))) E1 = some (.lst []) := by rw [upd_ne nEB]; exact u4 _ _ hE3
        have hB4 : (L2.upd (L2.upd H3 t2 (belD i)) B1 (.lst (bs ++ [V.ref t2]))) B1 = some (.lst (bs ++ [V.ref t2])) := upd_same
        have lb4 : (bs ++ [V.ref t2]).length ≤ i + 1 := by rw [List.length_append, List.length_singleton]; omega
        have be4 : Bel (L2.upd (L2.upd H3 t2 (belD i)) B1 (.lst (bs ++ [V.ref t2]))) R (bs ++ [V.ref t2]) := fun y my => by
          rcases List.mem_append.mp my with my | my
          · obtain ⟨t, k', e, ht, hk⟩ := be3 y my
            refine ⟨t, k', e, ?_, hk⟩
            rw [upd_ne (ne_of ht hB3 (by intro z; cases z))]
            exact u4 _ _ ht
          · rcases List.mem_singleton.mp my with rfl
            exact ⟨t2, i, rfl, by rw [upd_ne n2B, upd_same], by rw [lotAt_at hq]; exact e1⟩
        generalize L2.upd (L2.upd H3 t2 (belD i)) B1 (.lst (bs ++ [V.ref t2])) = H4 at s4 hp4 hS4 hE4 hB4 be4 ⊢
        refine ⟨_, rfl, p, C, dx', _, _, rfl, hp4, T.cl, T.nS, f5_S, .inl ⟨rfl, _, SqL.of hS4⟩, _, rfl, (by decide : 1 ≤ sizeLine), fun t3 n3 => ?_⟩
        have u5 : Same H4 (L2.upd H4 t3 (.tup [.str "lot"])) := same_upd n3
        refine ⟨_, _, dp_same (s4.trans u5) dq, .tup (SqT.of upd_same) (.cons (.str _) .nil), sh_ok (sh_pt gq), by decide +kernel, _, rfl, ?_⟩
        rw [eqv_lot]
        refine if_yes e1 ⟨S, _, _, rfl, rfl, u5 _ _ hS4, by rw [lS, sizeLine_eq]; omega, ⟨_, _, rfl⟩, ?_⟩
        have z := last _ _ _ (s4.trans u5) (u5 _ _ hp4) (u5 _ _ hS4) (u5 _ _ hE4) (u5 _ _ hB4) lb4 (be4.same u5) lo'
        rw [show setAt q = 0 by unfold setAt; rw [if_pos e1]] at z
        exact z
      · rw [e1, if_neg (by decide)] at lo'
        refine ⟨_, rfl, p, C, dx', _, _, rfl, u2 _ _ hp1, T.cl, T.nS, f5_S, .inl ⟨rfl, _, SqL.of (u2 _ _ hS1)⟩, _, rfl, (by decide : 1 ≤ sizeLine), fun t3 n3 => ?_⟩
        have u5 := u2.trans (same_upd (o := .tup [.str "lot"]) n3)
        refine ⟨_, _, dp_same (s1.trans u5) dq, .tup (SqT.of upd_same) (.cons (.str _) .nil), sh_ok (sh_pt gq), by decide +kernel, _, rfl, ?_⟩
        rw [eqv_lot]
        refine if_no e1 ⟨_, rfl, x, q, rfl, dp_same (s1.trans u5) dq, gq, fun H6 s6 => ?_⟩
        have u6 := u5.trans s6
        refine ⟨S, _, _, rfl, rfl, u6 _ _ hS1, by rw [lS, sizeLine_eq]; omega, ⟨_, _, rfl⟩, ?_⟩
        have z := last _ _ _ (s1.trans u6) (u6 _ _ hp1) (u6 _ _ hS1) (u6 _ _ hE1) (u6 _ _ hB1) (by omega) (bel.same u6) lo'
        rw [show setAt q = setN q by unfold setAt; rw [e1, if_neg (by decide)]] at z
        exact z
    · obtain ⟨⟨x3, x4, rfl⟩, s1, dx', l, bs, hp1, hS1, hE1, hB1, lb, bel, lo⟩ := e
      rw [lx, List.take_length] at hS1 lo
      have lS : (intV (R.map setAt)).length = R.length := by
        unfold intV
        rw [List.length_map, List.length_map]
      refine ⟨_, rfl, p, C, dx', _, _, rfl, hp1, T.cl, T.nE, f5_E, .inl ⟨rfl, _, SqL.of hE1⟩, _, rfl, p, C, dx', _, _, rfl, hp1, T.cl, T.nS, f5_S, S, _, rfl, .inl (SqL.of hS1), _, _, rfl, rfl, ⟨by omega, by rw [lS]; omega, by decide⟩, E1, [], _, rfl, rfl, hE1, by decide, ?_⟩
      have dsimp_bit : (fun i j : Int => V.int (i * 2 ^ j.toNat)) 1 (((intV (R.map setAt)).length : Nat) : Int) = .int ((2 ^ R.length : Nat) : Int) := by
        rw [lS]
        exact congrArg V.int (pow_int R.length)
      rw [dsimp_bit]
      have hp2 : (L2.upd H' E1 (.lst ([] ++ [V.int ((2 ^ R.length : Nat) : Int)]))) p = some (.ins C dx' (fl5 S E1 B1 l 1)) := by rw [upd_ne npE]; exact hp1
      have hS2 : (L2.upd H' E1 (.lst ([] ++ [V.int ((2 ^ R.length : Nat) : Int)]))) S = some (.lst (intV (R.map setAt))) := by rw [upd_ne nSE]; exact hS1
      refine ⟨_, rfl, p, C, dx', _, _, rfl, hp2, T.cl, T.nS, f5_S, .inl ⟨rfl, _, SqL.of hS2⟩, S, _, _, rfl, rfl, hS2, by rw [lS, sizeLine_eq]; omega, ?_⟩
      refine k _ l (hid4_upd (hid4_upd s1 (.inr (.inr (.inl rfl)))) (.inr (.inl rfl))) ⟨dx', by rw [upd_ne npS]; exact hp2⟩ ?_ (by rw [upd_ne (Ne.symm nSE), upd_same]; rfl) ⟨bs, by rw [upd_ne (Ne.symm nSB), upd_ne (Ne.symm nEB)]; exact hB1, fun y my => ?_⟩ lo
      · rw [upd_same]
        unfold setL
        rw [intV_snoc]
        rfl
      · obtain ⟨t, k', e, ht, hk⟩ := bel y my
        refine ⟨t, k', e, ?_, hk⟩
        rw [upd_ne (ne_of ht hS1 (by intro z; cases z)), upd_ne (ne_of ht hE1 (by intro z; cases z))]
        exact ht
end
end Qb
end PySem
namespace PySem
namespace Qb
open PySem.W PySem.Calls PyProof.Rows L2
theorem few1 {f : Str} {v : V} : ∀ {fs : List (Str × V)} {n : Nat}, fs.length ≤ n → (putF f v fs).length ≤ n + 1
  | [], n, h => by show 1 ≤ n + 1; omega
  | (g, x) :: r, n, h => by
    show (if g = f then (g, v) :: r else (g, x) :: putF f v r).length ≤ n + 1
    split
    · simp at h ⊢; omega
    · cases n with
      | zero => simp at h
      | succ n =>
        have := few1 (f := f) (v := v) (fs := r) (n := n) (by simpa using h)
        simp
        exact this
theorem hid1_upd {H H' : Hp} {p : Addr} {o : HO} (s : Same (hide H p) H') : Same (hide H p) (L2.upd H' p o) := fun b u h => by
  have ne : b ≠ p := fun z => by
    unfold hide at h
    rw [if_pos z] at h
    cases h
  rw [upd_ne ne]
  exact s _ _ h
theorem hid1_new {H H' : Hp} {p : Addr} (s : Same (hide H p) H') {o : HO} (hp : H' p = some o) {b : Addr} (n : H' b = none) : H b = none ∧ b ≠ p := by
  have ne : b ≠ p := fun z => by rw [z, hp] at n; cases n
  refine ⟨?_, ne⟩
  cases e : H b with
  | none => rfl
  | some o =>
    rw [s b o (hide_ne e ne)] at n
    cases n
def spIn (C : Addr) (K : Frag) : Sp := fun vs H Q _ => ∃ (p a dx : Addr) (x : V) (ps : List Pt), vs = [.ref p, .ref a] ∧ H p = some (.ins C dx []) ∧ SqL K H a [x] ∧ Dp K H x (.list (ps.map Pt.d)) ∧ ps.length ≤ 60 ∧ (∀ q ∈ ps, q.good) ∧
  ∀ (H' : Hp) (S E B D : Addr) (l st : Nat) (R : List Pt), Mach C H' p S E B D l st R 0 → In R st → Cl R st → (∀ w, Acc R st w ↔ M ps w) → Same (hide H p) H' → H S = none → H E = none → H B = none → H D = none → Q .non H'
section
variable {P : Program} {w : World} {K : Frag} {mg : Str → Option Value} {base : Heap}
abbrev sIn : Stmt := inClass (top 12) 0
abbrev nIn : List Str := ["self", "patterns", "pattern"]
theorem scIn : FnScope nIn ["self", "patterns"] (defScope sIn) := ⟨rfl, rfl, rfl, by decide +kernel, rfl, by decide +kernel, by decide +kernel⟩
theorem ok_In {f C : Addr} {fd : FuncData} (F : Fun K "__init__" "Machine.__init__" sIn f fd) (B : Blt mg) (T : Txt K mg C) (hAr : HasM P w K mg base C 2 "add_row" ["self", "pattern"] (spAr C K)) (hRt : Has P w K mg base 1 "rows_told" ["pieces"] (spRt K)) (hCl : HasM P w K mg base C 1 "closed" ["self", "standing"] (spCl C)) :
    FnOk P w K mg base CX0 3 f fd ["self", "patterns"] (spIn C K) := by
  obtain ⟨fAr, dAr, mAr, bAr, GAr⟩ := hAr
  obtain ⟨fRt, dRt, gRt, kRt, bRt, GRt⟩ := hRt
  obtain ⟨fCl, dCl, mCl, bCl, GCl⟩ := hCl
  refine F.ok scIn (fun vs H Q E h => ?_) (fun cdv A outer s H vs Q E hr h => ?_)
  · obtain ⟨p, a, dx, x, ps, rfl, _⟩ := h
    rfl
  · refine ⟨_, (pss_cons (ps_fld (pv 0) (pe_lst pa_nil) rfl)
        (pss_cons (ps_fld (pv 0) pe_int rfl)
        (pss_cons (ps_fld (pv 0) (pe_lst pa_nil) rfl)
        (pss_cons (ps_fld (pv 0) (pe_lst pa_nil) rfl)
        (pss_cons (ps_fld (pv 0) pe_int rfl)
        (pss_cons (ps_for PassesOwn.never rfl (pi_list (pv 1)) (pg_name (i := 2) scIn.nd rfl (.inl rfl))
          (pss_one (ps_expr (pe_meth (pv 0) T.cl mAr GAr hr bAr .nil pass0 (pa_cons (pe_call GRt (hr.mono (by decide)) rfl gRt kRt bRt .nil pass0 (pa_cons (pv 2) pa_nil)) pa_nil)))))
        (pss_cons (ps_fld (pv 0) (pe_meth (pv 0) T.cl mCl GCl (hr.mono (by decide)) bCl .nil pass0 (pa_cons (pe_fld (pv 0) rfl) pa_nil)) rfl)
        (pss_one (ps_fld (pv 0) pe_dnewK rfl))))))))), ?_⟩
    obtain ⟨p, a, dx, x, ps, rfl, hp, hq, hd, hl, hg, k⟩ := h
    have hd0 : Dp K (hide H p) x (.list (ps.map Pt.d)) := dp_hide hp ⟨_, _, _, rfl⟩ hd
    have hq0 : SqL K (hide H p) a [x] := sqL_hide hp (.inr ⟨_, _, _, rfl⟩) (by simp) hq
    have l0 : ([] : List (Str × V)).length ≤ 0 := Nat.le_refl _
    have t0 : Same (hide H p) H := hide_same
    -- self.sets = []
    refine ⟨(by decide : 0 ≤ sizeLine), fun S nS => ?_⟩
    have nSp : S ≠ p := fun z => by rw [z, hp] at nS; cases nS
    refine ⟨_, rfl, p, C, dx, [], rfl, (by rw [upd_ne (Ne.symm nSp)]; exact hp), T.cl, T.nS, (by show 0 < 1000; decide), ?_⟩
    have t1 : Same (hide H p) (L2.upd (L2.upd H S (.lst [])) p (.ins C dx (putF "sets" (.ref S) []))) := hid1_upd (t0.trans (same_upd nS))
    have p1 : (L2.upd (L2.upd H S (.lst [])) p (.ins C dx (putF "sets" (.ref S) []))) p = some (.ins C dx (putF "sets" (.ref S) [])) := upd_same
    have S1 : (L2.upd (L2.upd H S (.lst [])) p (.ins C dx (putF "sets" (.ref S) []))) S = some (.lst []) := by rw [upd_ne nSp, upd_same]
    have l1 := few1 (f := "sets") (v := .ref S) l0
    generalize L2.upd (L2.upd H S (.lst [])) p (.ins C dx (putF "sets" (.ref S) [])) = H1 at t1 p1 S1 ⊢
    -- self.lots = 0
    refine ⟨_, rfl, p, C, dx, _, rfl, p1, T.cl, T.nL, Nat.lt_of_le_of_lt l1 (by decide), ?_⟩
    have l2 := few1 (f := "lots") (v := .int 0) l1
    have t2 : Same (hide H p) (L2.upd H1 p (.ins C dx (putF "lots" (.int 0) (putF "sets" (.ref S) [])))) := hid1_upd t1
    have p2 : (L2.upd H1 p (.ins C dx (putF "lots" (.int 0) (putF "sets" (.ref S) [])))) p = some (.ins C dx (putF "lots" (.int 0) (putF "sets" (.ref S) []))) := upd_same
    have S2 : (L2.upd H1 p (.ins C dx (putF "lots" (.int 0) (putF "sets" (.ref S) [])))) S = some (.lst []) := by rw [upd_ne nSp]; exact S1
    generalize L2.upd H1 p (.ins C dx (putF "lots" (.int 0) (putF "sets" (.ref S) []))) = H2 at t2 p2 S2 ⊢
    -- self.ends = []
    refine ⟨(by decide : 0 ≤ sizeLine), fun E1 nE => ?_⟩
    obtain ⟨zE, nEp⟩ := hid1_new t2 p2 nE
    have nES : E1 ≠ S := fun z => by rw [z, S2] at nE; cases nE
    refine ⟨_, rfl, p, C, dx, _, rfl, (by rw [upd_ne (Ne.symm nEp)]; exact p2), T.cl, T.nE, Nat.lt_of_le_of_lt l2 (by decide), ?_⟩
    have l3 := few1 (f := "ends") (v := .ref E1) l2
    have t3 : Same (hide H p) (L2.upd (L2.upd H2 E1 (.lst [])) p (.ins C dx (putF "ends" (.ref E1) (putF "lots" (.int 0) (putF "sets" (.ref S) []))))) := hid1_upd (t2.trans (same_upd nE))
    have p3 : (L2.upd (L2.upd H2 E1 (.lst [])) p (.ins C dx (putF "ends" (.ref E1) (putF "lots" (.int 0) (putF "sets" (.ref S) []))))) p = some (.ins C dx (putF "ends" (.ref E1) (putF "lots" (.int 0) (putF "sets" (.ref S) [])))) := upd_same
    have S3 : (L2.upd (L2.upd H2 E1 (.lst [])) p (.ins C dx (putF "ends" (.ref E1) (putF "lots" (.int 0) (putF "sets" (.ref S) []))))) S = some (.lst []) := by rw [upd_ne nSp, upd_ne (Ne.symm nES)]; exact S2
    have E3 : (L2.upd (L2.upd H2 E1 (.lst [])) p (.ins C dx (putF "ends" (.ref E1) (putF "lots" (.int 0) (putF "sets" (.ref S) []))))) E1 = some (.lst []) := by rw [upd_ne nEp, upd_same]
    generalize L2.upd (L2.upd H2 E1 (.lst [])) p (.ins C dx (putF "ends" (.ref E1) (putF "lots" (.int 0) (putF "sets" (.ref S) [])))) = H3 at t3 p3 S3 E3 ⊢
    -- self.below = []
    refine ⟨(by decide : 0 ≤ sizeLine), fun B1 nB => ?_⟩
    obtain ⟨zB, nBp⟩ := hid1_new t3 p3 nB
    have nBS : B1 ≠ S := fun z => by rw [z, S3] at nB; cases nB
    have nBE : B1 ≠ E1 := fun z => by rw [z, E3] at nB; cases nB
    refine ⟨_, rfl, p, C, dx, _, rfl, (by rw [upd_ne (Ne.symm nBp)]; exact p3), T.cl, T.nB, Nat.lt_of_le_of_lt l3 (by decide), ?_⟩
    have l4 := few1 (f := "below") (v := .ref B1) l3
    have t4 : Same (hide H p) (L2.upd (L2.upd H3 B1 (.lst [])) p (.ins C dx (putF "below" (.ref B1) (putF "ends" (.ref E1) (putF "lots" (.int 0) (putF "sets" (.ref S) [])))))) := hid1_upd (t3.trans (same_upd nB))
    have p4 : (L2.upd (L2.upd H3 B1 (.lst [])) p (.ins C dx (putF "below" (.ref B1) (putF "ends" (.ref E1) (putF "lots" (.int 0) (putF "sets" (.ref S) [])))))) p = some (.ins C dx (putF "below" (.ref B1) (putF "ends" (.ref E1) (putF "lots" (.int 0) (putF "sets" (.ref S) []))))) := upd_same
    have S4 : (L2.upd (L2.upd H3 B1 (.lst [])) p (.ins C dx (putF "below" (.ref B1) (putF "ends" (.ref E1) (putF "lots" (.int 0) (putF "sets" (.ref S) [])))))) S = some (.lst []) := by rw [upd_ne nSp, upd_ne (Ne.symm nBS)]; exact S3
    have E4 : (L2.upd (L2.upd H3 B1 (.lst [])) p (.ins C dx (putF "below" (.ref B1) (putF "ends" (.ref E1) (putF "lots" (.int 0) (putF "sets" (.ref S) [])))))) E1 = some (.lst []) := by rw [upd_ne nEp, upd_ne (Ne.symm nBE)]; exact E3
    have B4 : (L2.upd (L2.upd H3 B1 (.lst [])) p (.ins C dx (putF "below" (.ref B1) (putF "ends" (.ref E1) (putF "lots" (.int 0) (putF "sets" (.ref S) [])))))) B1 = some (.lst []) := by rw [upd_ne nBp, upd_same]
    generalize L2.upd (L2.upd H3 B1 (.lst [])) p (.ins C dx (putF "below" (.ref B1) (putF "ends" (.ref E1) (putF "lots" (.int 0) (putF "sets" (.ref S) []))))) = H4 at t4 p4 S4 E4 B4 ⊢
    -- self.start = 0
    refine ⟨_, rfl, p, C, dx, _, rfl, p4, T.cl, T.nT, Nat.lt_of_le_of_lt l4 (by decide), ?_⟩
    rw [f5_mk]
    have t5 : Same (hide H p) (L2.upd H4 p (.ins C dx (fl5 S E1 B1 0 0))) := hid1_upd t4
    have p5 : (L2.upd H4 p (.ins C dx (fl5 S E1 B1 0 0))) p = some (.ins C dx (fl5 S E1 B1 0 0)) := upd_same
    have S5 : (L2.upd H4 p (.ins C dx (fl5 S E1 B1 0 0))) S = some (.lst []) := by rw [upd_ne nSp]; exact S4
    have E5 : (L2.upd H4 p (.ins C dx (fl5 S E1 B1 0 0))) E1 = some (.lst []) := by rw [upd_ne nEp]; exact E4
    have B5 : (L2.upd H4 p (.ins C dx (fl5 S E1 B1 0 0))) B1 = some (.lst []) := by rw [upd_ne nBp]; exact B4
    generalize L2.upd H4 p (.ins C dx (fl5 S E1 B1 0 0)) = H5 at t5 p5 S5 E5 B5 ⊢
    -- the one pattern
    refine ⟨_, rfl, a, rfl, ⟨_, t5.seq hq0⟩, for_list (xs := [x]) (fun i σ H' => (∃ y, σ = [some (.ref p), some (.ref a), y]) ∧ Same (hide H p) H' ∧ (i = 0 → H' = H5) ∧ (i = 1 → ∃ (R : List Pt) (l : Nat), Norm ps R ∧ (∃ dx', H' p = some (.ins C dx' (fl5 S E1 B1 l 1))) ∧ H' S = some (.lst (intV (setL R))) ∧ H' E1 = some (.lst [.int ((2 ^ R.length : Nat) : Int)]) ∧ (∃ bs, H' B1 = some (.lst bs) ∧ Bel H' R bs) ∧ Lots R l)) ⟨⟨_, rfl⟩, t5, fun _ => rfl, fun z => by cases z⟩ (fun i σ H' _ e => e.2.1.seq hq0) (fun i x' σ H' hx e => ?_) (fun σ H' e => ?_)⟩
    · obtain ⟨⟨y, rfl⟩, s6, e6, _⟩ := e
      have ei : i = 0 := by have := (List.getElem?_eq_some_iff.mp hx).1; simp at this; exact this
      subst ei
      obtain rfl := Option.some.inj hx
      obtain rfl := e6 rfl
      refine ⟨_, rfl, p, dx, _, rfl, p5, f5_add, _, rfl, x, ps, rfl, dp_same t5 hd0, by omega, hg, fun H7 L R b7 nm => ?_⟩
      obtain ⟨nL, sL, ys, hL, aL⟩ := b7
      have s7 : Same H' H7 := sL.trans hide_same
      have gR : ∀ q ∈ R, q.good := fun q m => by
        rcases nm.mem q m with z | z
        · exact hg q z
        · subst z; trivial
      have nLx : ∀ {b : Addr} {o : HO}, H' b = some o → L ≠ b := fun h z => by rw [z, h] at nL; cases nL
      refine ⟨p, L, S, E1, B1, dx, R, ys, rfl, s7 _ _ p5, s7 _ _ S5, s7 _ _ E5, s7 _ _ B5, Ne.symm nES, Ne.symm nBS, Ne.symm nBE, hL, nLx S5, nLx E5, nLx B5, dpAll_same hide_same aL, gR, by have := nm.len; omega, fun H8 l s8 p8 S8 E8 B8 lo => ?_⟩
      refine ⟨⟨_, rfl⟩, fun b o h => ?_, (fun z => by cases z), fun _ => ⟨R, l, nm, p8, S8, E8, B8, lo⟩⟩
      have gone : ∀ {c : Addr}, H c = none → b ≠ c := fun {c} e z => by
        subst z
        have h' := hide_same _ _ h
        rw [e] at h'
        cases h'
      have nbp : b ≠ p := fun z => by
        unfold hide at h
        rw [if_pos z] at h
        cases h
      exact s8 _ _ (hid4_at (s7 _ _ (s6 _ _ h)) nbp (gone nS) (gone zE) (gone zB))
    · obtain ⟨⟨y, rfl⟩, s6, _, e6⟩ := e
      obtain ⟨R, l, nm, ⟨dx', p8⟩, S8, E8, B8, lo⟩ := e6 rfl
      have ma : MA C H' p B1 l R := ⟨⟨dx', _, p8, f5_L, f5_B, f5_closed⟩, B8, lo, nm.sep, by have := nm.len; omega⟩
      have i0 : In R 1 := fun q h => by
        have : q = 0 := by
          cases q with
          | zero => rfl
          | succ q => rw [Nat.testBit_succ] at h; simp at h
        omega
      have a0 : ∀ w, Acc R 1 w ↔ M R w := fun w => by
        constructor
        · rintro ⟨q, h, m⟩
          have : q = 0 := by
            cases q with
            | zero => rfl
            | succ q => rw [Nat.testBit_succ] at h; simp at h
          subst this
          exact m
        · intro m
          exact ⟨0, by decide, m⟩
      refine ⟨_, rfl, p, dx', _, rfl, p8, f5_closed, _, rfl, p, C, dx', _, _, rfl, p8, T.cl, T.nT, f5_T, p, B1, l, 1, R, rfl, ma, i0, fun t i1 c1 a1 => ?_⟩
      refine ⟨_, rfl, p, C, dx', _, rfl, p8, T.cl, T.nT, by show 5 < 1000; decide, ?_⟩
      rw [f5_pT]
      have t9 := hid1_upd (o := .ins C dx' (fl5 S E1 B1 l t)) s6
      have p9 : (L2.upd H' p (.ins C dx' (fl5 S E1 B1 l t))) p = some (.ins C dx' (fl5 S E1 B1 l t)) := upd_same
      have S9 : (L2.upd H' p (.ins C dx' (fl5 S E1 B1 l t))) S = some (.lst (intV (setL R))) := by rw [upd_ne nSp]; exact S8
      have E9 : (L2.upd H' p (.ins C dx' (fl5 S E1 B1 l t))) E1 = some (.lst [.int ((2 ^ R.length : Nat) : Int)]) := by rw [upd_ne nEp]; exact E8
      obtain ⟨bs, B8, bel⟩ := B8
      have B9 : (L2.upd H' p (.ins C dx' (fl5 S E1 B1 l t))) B1 = some (.lst bs) := by rw [upd_ne nBp]; exact B8
      have bel9 : Bel (L2.upd H' p (.ins C dx' (fl5 S E1 B1 l t))) R bs := fun y my => by
        obtain ⟨u, k', e, hu, hk⟩ := bel y my
        refine ⟨u, k', e, ?_, hk⟩
        rw [upd_ne (ne_of hu p8 (by intro z; cases z))]
        exact hu
      generalize L2.upd H' p (.ins C dx' (fl5 S E1 B1 l t)) = H9 at t9 p9 S9 E9 B9 bel9 ⊢
      intro D nD
      obtain ⟨zD, nDp⟩ := hid1_new t9 p9 nD
      have u9 : Same H9 (L2.upd H9 D (.dK [])) := same_upd nD
      refine ⟨_, rfl, p, C, dx', _, rfl, u9 _ _ p9, T.cl, T.nM, by show 5 < 1000; decide, ?_⟩
      rw [f5_pM]
      refine k _ S E1 B1 D l t R ⟨⟨dx', upd_same⟩, by rw [upd_ne nSp]; exact u9 _ _ S9, by rw [upd_ne nEp]; exact u9 _ _ E9, ⟨bs, by rw [upd_ne nBp]; exact u9 _ _ B9, fun y my => ?_⟩, ⟨[], by rw [upd_ne nDp, upd_same], Nat.le_refl _, fun c _ v h => by cases h⟩, lo, nm.sep, by have := nm.len; omega, fun q m => ?_⟩ i1 c1 (fun w => ((a1 w).trans (a0 w)).trans (nm.eq w).symm) (hid1_upd (t9.trans u9)) nS zE zB zD
      · obtain ⟨u, k', e, hu, hk⟩ := bel9 y my
        refine ⟨u, k', e, ?_, hk⟩
        rw [upd_ne (ne_of (u9 _ _ hu) (u9 _ _ p9) (by intro z; cases z))]
        exact u9 _ _ hu
      · rcases nm.mem q m with z | z
        · exact hg q z
        · subst z; trivial
end
end Qb
end PySem
namespace PySem
namespace Qb
open PySem.W PySem.Calls PyProof.Rows L2
theorem cps_at {z : Str} {i c : Nat} : z.cps[i]? = some c ↔ (cs z)[i]? = some c := by
  show _ ↔ z.cps.toList[i]? = some c
  rw [Array.getElem?_toList]
theorem cps_len (z : Str) : z.cps.size = (cs z).length := by
  show _ = z.cps.toList.length
  rw [Array.length_toList]
theorem take_app {w : List Nat} {i c : Nat} (h : w[i]? = some c) (v : List Nat) : w.take i ++ c :: v = w.take (i + 1) ++ v := by
  rw [take_snoc h]
  simp
/-- a machine's standing behind some signs -/
structure At (R ps : List Pt) (w : List Nat) (i s : Nat) : Prop where
  ins : In R s
  cl : Cl R s
  acc : ∀ v, Acc R s v ↔ M ps (w.take i ++ v)
theorem At.step {R ps : List Pt} {w : List Nat} {i s t c : Nat} (a : At R ps w i s) (h : w[i]? = some c) (i1 : In R t) (c1 : Cl R t) (e : ∀ v, Acc R t v ↔ Acc R s (c :: v)) : At R ps w (i + 1) t :=
  ⟨i1, c1, fun v => by rw [e, a.acc, take_app h]⟩
theorem At.lets {R ps : List Pt} {w : List Nat} {i s : Nat} (a : At R ps w i s) (hs : Sep R) : s.testBit R.length = true ↔ M ps (w.take i) := by
  rw [acc_end hs a.ins a.cl, a.acc, List.append_nil]
def spLb (C : Addr) : Sp := fun vs H Q _ => ∃ (p S E B D : Addr) (l st : Nat) (R ps : List Pt) (z : Str) (n : Nat), vs = [.ref p, .str z] ∧ n ≤ 9000 ∧ Mach C H p S E B D l st R n ∧ In R st ∧ Cl R st ∧ (∀ w, Acc R st w ↔ M ps w) ∧ (∀ c ∈ cs z, c ∈ cs signsS) ∧ (cs z).length ≤ 1000 ∧
  ∀ (H' : Hp) (b : Bool), (∀ a o, H a = some o → a ≠ D → H' a = some o) → Mach C H' p S E B D l st R (n + (cs z).length) → (b = true ↔ M ps (cs z)) → Q (.bl b) H'
structure Inp (K : Frag) (H : Hp) (v : V) (ps : List Pt) (z : Str) : Prop where
  dp : Dp K H v (.list (ps.map Pt.d))
  len : ps.length ≤ 60
  good : ∀ q ∈ ps, q.good
  few : ∀ q ∈ ps, q.few
  signs : ∀ c ∈ cs z, c ∈ cs signsS
  line : (cs z).length ≤ 1000
def spLg (K : Frag) : Sp := fun vs H Q _ => ∃ (v : V) (ps : List Pt) (z : Str), vs = [v, .str z] ∧ Inp K H v ps z ∧ ∀ (H' : Hp) (F : Addr) (E : List Nat), Same H H' → H F = none → H' F = some (.lst (intV E)) → E.length ≤ 1001 → EndsAt ps (cs z) E → Q (.ref F) H'
def spTa (K : Frag) : Sp := fun vs H Q _ => ∃ (v : V) (ps : List Pt) (z : Str), vs = [v, .str z] ∧ Inp K H v ps z ∧ ∀ (H' : Hp) (F : Addr) (E : List Nat), Same H H' → H F = none → H' F = some (.lst (intV E)) → E.length ≤ 1001 → EndsAt ps.reverse (cs z).reverse E → Q (.ref F) H'
def spMe (K : Frag) : Sp := fun vs H Q _ => ∃ (v : V) (ps : List Pt) (z : Str), vs = [v, .str z] ∧ Inp K H v ps z ∧ ∀ (H' : Hp) (b : Bool), Same H H' → (b = true ↔ M ps (cs z)) → Q (.bl b) H'
theorem dpRev {K : Frag} {H : Hp} : ∀ {ds : List PyData} {vs : List V}, DpAll K H vs ds → DpAll K H vs.reverse ds.reverse
  | [], _, .nil => .nil
  | d :: ds, _, .cons h t => by
    rw [List.reverse_cons, List.reverse_cons]
    exact dpApp (dpRev t) (.cons h .nil)
theorem same_new {H : Hp} {a dx x : Addr} {C : Addr} {o : HO} (na : H a = none) (nx : (L2.upd H a o) x = none) (ndx : (L2.upd H a o) dx = none) : Same H (hide (L2.upd (L2.upd (L2.upd H a o) dx (.own x)) x (.ins C dx [])) x) := fun b u h => by
  have h1 := same_upd (o := o) na _ _ h
  have bx : b ≠ x := ne_of_none h1 nx
  refine hide_ne ?_ bx
  rw [upd_ne bx, upd_ne (ne_of_none h1 ndx)]
  exact h1
section
variable {P : Program} {w : World} {K : Frag} {mg : Str → Option Value} {base : Heap}
abbrev sLb : Stmt := inClass (top 12) 6
abbrev nLb : List Str := ["self", "text", "standing", "sign"]
theorem scLb : FnScope nLb ["self", "text"] (defScope sLb) := ⟨rfl, rfl, rfl, by decide +kernel, rfl, by decide +kernel, by decide +kernel⟩
theorem has_Lb {f C : Addr} {fd : FuncData} (F : Fun K "lets_by" "Machine.lets_by" sLb f fd) (m : Meth K C "lets_by" f) (B : Blt mg) (T : Txt K mg C) (hSd : HasM P w K mg base C 2 "stepped" ["self", "standing", "mask"] (spSd C)) (hMo : HasM P w K mg base C 1 "mask_of" ["self", "sign"] (spMo C)) (hLe : HasM P w K mg base C 1 "lets" ["self", "standing", "index"] (spLe C)) :
    HasM P w K mg base C 3 "lets_by" ["self", "text"] (spLb C) := by
  obtain ⟨fSd, dSd, mSd, bSd, GSd⟩ := hSd
  obtain ⟨fMo, dMo, mMo, bMo, GMo⟩ := hMo
  obtain ⟨fLe, dLe, mLe, bLe, GLe⟩ := hLe
  refine ⟨f, fd, m, F.binds (ps := ["self", "text"]) (fun _ _ _ _ _ _ us hl => match us, hl with | [_, _], _ => rfl), F.ok scLb (fun vs H Q E h => ?_) (fun cdv A outer s H vs Q E hr h => ?_)⟩
  · obtain ⟨p, S, E1, B1, D, l, st, R, ps, z, n, rfl, _⟩ := h
    rfl
  · refine ⟨_, (pss_cons (ps_set (i := 2) scLb.nd rfl (.inl rfl) (pe_fld (pv 0) rfl))
        (pss_cons (ps_for PassesOwn.never rfl (pi_str (pv 1)) (pg_name (i := 3) scLb.nd rfl (.inl rfl))
          (pss_one (ps_set (i := 2) scLb.nd rfl (.inl rfl) (pe_meth (pv 0) T.cl mSd GSd hr bSd .nil pass0 (pa_cons (pv 2) (pa_cons (pe_meth (pv 0) T.cl mMo GMo (hr.mono (by decide)) bMo .nil pass0 (pa_cons (pv 3) pa_nil)) pa_nil))))))
        (pss_one (ps_ret (pe_meth (pv 0) T.cl mLe GLe (hr.mono (by decide)) bLe .nil pass0 (pa_cons (pv 2) (pa_cons pe_int pa_nil))))))), ?_⟩
    obtain ⟨p, S, E1, B1, D, l, st, R, ps, z, n, rfl, ln, ma, hi, hc, ha, hz, hl, k⟩ := h
    obtain ⟨dx, hp⟩ := ma.ob
    refine ⟨_, rfl, p, C, dx, _, _, rfl, hp, T.cl, T.nT, fl_T, _, rfl, z, rfl, for_it walk_str (fun i σ H' => (∃ (s : Nat) (x3 : Option V), σ = [some (.ref p), some (.str z), some (.int (s : Nat)), x3] ∧ At R ps (cs z) i s) ∧ Mach C H' p S E1 B1 D l st R (n + i) ∧ ∀ a o, H a = some o → a ≠ D → H' a = some o) ⟨⟨st, _, rfl, hi, hc, ha⟩, ma, fun a o h _ => h⟩ (fun _ _ _ _ _ => trivial) (fun i x σ H' H2 hi' e y => ?_) (fun σ H' e => ?_)⟩
    · obtain ⟨⟨s, x3, rfl, at_⟩, ma1, fr⟩ := e
      obtain ⟨rfl, c, hcx, rfl⟩ := y
      have hcx' := cps_at.mp hcx
      obtain ⟨dx', hp'⟩ := ma1.ob
      rw [cps_len] at hi'
      refine ⟨_, rfl, p, dx', _, rfl, hp', fl_stepped, _, rfl, _, rfl, p, dx', _, rfl, hp', fl_mask_of, _, rfl, p, S, E1, B1, D, l, st, R, n + i, c, rfl, hz c (List.mem_of_getElem? hcx'), by omega, ma1, fun k2 H3 hM ma2 fr2 => ?_⟩
      exact ⟨p, B1, l, s, k2, c, R, rfl, ma2.ma, at_.ins, at_.cl, hM, fun t i1 c1 a1 => ⟨⟨t, _, rfl, at_.step hcx' i1 c1 a1⟩, ma2, fun a o h ne => fr2 a o (fr a o h ne) ne⟩⟩
    · obtain ⟨⟨s, x3, rfl, at_⟩, ma1, fr⟩ := e
      obtain ⟨dx', hp'⟩ := ma1.ob
      have e1 := at_.lets ma1.sep
      rw [cps_len, List.take_length] at e1
      have ma3 := ma1
      rw [cps_len] at ma3
      exact ⟨_, rfl, p, dx', _, rfl, hp', fl_lets, _, rfl, p, S, E1, B1, D, l, st, R, _, s, rfl, ma1, k _ _ fr ma3 e1⟩
end
end Qb
end PySem
namespace PySem
namespace Qb
open PySem.Calls PyProof.Rows L2
/-- what a walk over a set wants of its table -/
def Walkable (w : World) (t : SetTable) : Prop := Ris t.place.toList ∧ (w.params.followText "set-order" = true ∨ t.led = true)
section
variable {P : Program} {w : World} {A : Around} {E : Value → Shared → Prop} {s : Shared}
theorem walk_plain {t : SetTable} (h : Walkable w t) : Walkable w (if t.plain = true then { t with plain := false } else t) := by
  split <;> exact h
theorem walk_lay {t : SetTable} (es : Array (Int × Value)) (k : Int) (v : Value) (h : Walkable w t) : Walkable w (layNew t es k v).2.1 :=
  ⟨layNew_ris t es k v h.1, by rw [layNew_led]; exact h.2⟩
theorem walk_tail {t : SetTable} (ep : Nat) (es : Array (Int × Value)) (d : Bool) (h : Walkable w t) : Walkable w (Froz.tailTx ep es t d).2.2 := by
  unfold Froz.tailTx
  split
  · exact ⟨relayAll_ris t es _, by rw [relayAll_led]; exact h.2⟩
  · exact h
theorem walk_add {D : Froz.SD} (k : Int) (v : Value) (h : Walkable w D.2.2) : Walkable w (Froz.addTx k v D).2.2 :=
  walk_tail _ _ _ (walk_plain (walk_lay D.1 k v h))
/-- the set at a holds the texts l, in some order -/
def TxSet (P : Program) (w : World) (h : Heap) (a : Addr) (l : List Str) : Prop :=
  ∃ D : Froz.SD, h.get? a = some (Froz.sObj "set" D) ∧ Froz.TxOk P w D l ∧ Walkable w D.2.2 ∧ l.Nodup
theorem TxSet.at {h h' : Heap} {a : Addr} {l : List Str} (R : TxSet P w h a l) (k : ∀ o, h.get? a = some o → h'.get? a = some o) : TxSet P w h' a l := by
  obtain ⟨D, e, r⟩ := R
  exact ⟨D, k _ e, r⟩
theorem tx_new {h : Heap} {a : Addr} (e : h.get? a = some ⟨.type "set", none, .set #[] 0 (.fresh 0 0 (!w.params.followText "set-order")), #[]⟩) : TxSet P w h a [] :=
  ⟨(#[], 0, .fresh 0 0 (!w.params.followText "set-order")), e, Froz.TxOk.nil rfl, ⟨List.Pairwise.nil, by
    show _ ∨ (!w.params.followText "set-order") = true
    cases w.params.followText "set-order"
    · exact .inr rfl
    · exact .inl rfl⟩, List.nodup_nil⟩
/-- one text is added -/
def withTx (l : List Str) (k : Str) : List Str := if k ∈ l then l else k :: l
theorem tx_add {a : Addr} {l : List Str} {k : Str} {u : Tok} {Q : Bool → Shared → Prop} (R : TxSet P w s.heap a l) (hb : l.length + 1 < scanBound)
    (fin : ∀ (b : Bool) (h' : Heap), (∀ c, c ≠ a → h'.get? c = s.heap.get? c) → TxSet P w h' a (withTx l k) → Q b { s with heap := h' }) :
    wpAny (model P w) A (setAddHashed a (.str k u) (hashStr w k)) Q E s := by
  obtain ⟨D, e, F, W, nd⟩ := R
  by_cases m : k ∈ l
  · have stay := fin false s.heap (fun _ _ => rfl) (by rw [withTx, if_pos m]; exact ⟨D, e, F, W, nd⟩)
    obtain ⟨es, ep, t⟩ := D
    have fs : t.fits es.size = true := F.fit
    have el : ElemsOf (strKind P w) es.toList := F.el
    have few : es.size < scanBound := by
      have z : es.size = l.length := F.sz
      omega
    unfold setAddHashed setAddHashedIn
    refine wpAny_holding (wpAny_bind (wpAny_setState_of e (show (Froz.sObj "set" (es, ep, t)).data = .set es ep t from rfl) fs ?_))
    dsimp only
    rw [byScan_of rfl few el]
    simp only [↓reduceIte]
    unfold setAddByScan
    refine wpAny_bind (wpAny_bind (wpAny_rule (wpAny_bind (wpAny_setScan_of (knd := strKind P w) (Froz.is_str k u) e rfl fs el ?_))))
    obtain ⟨x, mx, kx⟩ := (F.mem k).mp m
    cases f : List.findIdx? (fun e => (strKind P w).is k e.2) es.toList with
    | none =>
      have z := List.findIdx?_eq_none_iff.mp f x mx
      rw [kx] at z
      cases z
    | some j =>
      dsimp only
      exact wpAny_pure (wpAny_pure stay)
  · refine Froz.add_x e F m hb (fin true _ (fun c ne => Heap.get?_update_other _ _ ne.symm) ?_)
    rw [withTx, if_neg m]
    exact ⟨_, Froz.get_upd _ e rfl, Froz.add_ok u F, walk_add _ _ W, List.nodup_cons.mpr ⟨m, nd⟩⟩
end
end Qb
end PySem
namespace PySem
namespace Qb
open PySem.W PySem.Calls PyProof.Rows L2
/-- texts, one by one -/
def withAll : List Str → List Str → List Str
  | l, [] => l
  | l, k :: r => withAll (withTx l k) r
theorem withTx_len (l : List Str) (k : Str) : (withTx l k).length ≤ l.length + 1 := by
  unfold withTx
  split
  · exact Nat.le_succ _
  · exact Nat.le_refl _
theorem withTx_mem (l : List Str) (k x : Str) : x ∈ withTx l k ↔ x ∈ l ∨ x = k := by
  unfold withTx
  split
  · next m => exact ⟨.inl, fun h => h.elim id fun e => e ▸ m⟩
  · rw [List.mem_cons]
    exact Or.comm
theorem withAll_mem : ∀ (l r : List Str) (x : Str), x ∈ withAll l r ↔ x ∈ l ∨ x ∈ r
  | l, [], x => by simp [withAll]
  | l, k :: r, x => by
    rw [withAll, withAll_mem, withTx_mem, List.mem_cons, or_assoc]
theorem withAll_len : ∀ (l r : List Str), (withAll l r).length ≤ l.length + r.length
  | l, [] => Nat.le_refl _
  | l, k :: r => by
    have h1 := withAll_len (withTx l k) r
    have h2 := withTx_len l k
    rw [withAll, List.length_cons]
    omega
section
variable {P : Program} {w : World} {A : Around} {E : Value → Shared → Prop} {s : Shared}
theorem tx_loop {I : Addr} {fp wr : List Addr} {G : Array GenState → Array GenState → Prop} {n : Nat} {Pv : Nat → Value → Prop} {St : Nat → Shared → Prop} {R : Result → Shared → Prop}
    (W : WalksS P w A.in1 I fp wr G n Pv St) (S : Addr) (off : S ∉ fp) (ks : List Str) (hn : n = ks.length) (val : ∀ i v, Pv i v → ∃ t, ∃ h : i < ks.length, v = .str ks[i] t) :
    ∀ (r : List Str) (i : Nat) (l : List Str) (s : Shared), ks.drop i = r → i ≤ n → St i s → l.length + r.length + 1 < scanBound → TxSet P w s.heap S l →
      (∀ s', Moved (S :: wr) G s s' → TxSet P w s'.heap S (withAll l r) → R (.ok (.ret .none)) s') →
      codeAny (model P w) A (.builtin "set.update.loop" ⟨[.ref S, .ref I], []⟩) R s := by
  have offw : S ∉ wr := fun h => off (W.sub _ h)
  have more : ∀ b ∈ wr, b ∈ S :: wr := fun b hb => .tail _ hb
  intro r
  induction r with
  | nil =>
    intro i l s er hi st room hS fin
    have end_ : i = n := by
      have := congrArg List.length er
      rw [List.length_drop] at this
      simp at this
      omega
    subst end_
    refine codeAny_builtin F.entry_set_update_loop ?_
    rw [Around.under_plainId F.plain_set_update_loop _]
    refine wpAny_bind (W.done s _ _ st fun s1 mv => wpAny_pure (fin s1 (mv.mono more) (hS.at fun o e => mv.heap S o offw e)))
  | cons k r ih =>
    intro i l s er hi st room hS fin
    have lt : i < ks.length := by
      have := congrArg List.length er
      rw [List.length_drop, List.length_cons] at this
      omega
    rw [List.drop_eq_getElem_cons lt] at er
    injection er with ek er
    refine codeAny_builtin F.entry_set_update_loop ?_
    rw [Around.under_plainId F.plain_set_update_loop _]
    refine wpAny_bind (W.item i s _ _ (hn ▸ lt) st fun v s1 pv st1 mv => ?_)
    obtain ⟨t, _, rfl⟩ := val i v pv
    rw [ek]
    have hS1 : TxSet P w s1.heap S l := hS.at fun o e => mv.heap S o offw e
    show wpAny _ A.in1 (holding [Value.str k t] (setAdd S (.str k t)) >>= _) _ _ s1
    refine wpAny_bind (wpAny_holding ?_)
    unfold setAdd
    refine wpAny_holding (wpAny_bind ((strKind P w).pyHash (k := k) (Froz.is_str k t) ?_))
    rw [List.length_cons] at room
    refine tx_add (s := { s1 with toks := s1.toks + 1 }) hS1 (by omega) fun b h2 same hS2 => ?_
    refine wpAny_pure ⟨plainId_quiet F.plain_set_update_loop _, ih (i + 1) _ _ er (hn ▸ lt) (W.frame _ s1 _ _ st1 (Nat.le_succ _) fun b mb o e => ?_) (by have := withTx_len l k; omega) hS2 fun s3 mv3 hS3 => ?_⟩
    · exact (same b fun z => off (z ▸ mb)).trans e
    · refine fin s3 (Moved.trans W.gtrans ((mv.mono more).then_heap (Nat.le_succ _) fun b o nb e => ?_) mv3) hS3
      exact (same b fun z => nb (z ▸ .head _)).trans e
end
end Qb
end PySem
namespace PySem
namespace Qb
open PySem.W PySem.Calls PyProof.Rows L2
/-- values that are texts -/
def TxsAre (us : List Value) (ks : List Str) : Prop := us.length = ks.length ∧ ∀ (i : Nat) (h : i < ks.length) (v : Value), us[i]? = some v → ∃ t, v = .str ks[i] t
theorem TxsAre.at {us : List Value} {ks : List Str} (h : TxsAre us ks) {i : Nat} (hi : i < ks.length) {v : Value} (e : us[i]? = some v) : ∃ t, v = .str ks[i] t := h.2 i hi v e
section
variable {P : Program} {w : World} {A : Around} {E : Value → Shared → Prop} {s : Shared}
/-- a new set's object -/
abbrev newSet (w : World) : Obj := ⟨.type "set", none, .set #[] 0 (.fresh 0 0 (!w.params.followText "set-order")), #[]⟩
/-- a new set takes the numbers of a list -/
theorem init_txs {S l : Addr} {us : Array Value} (ks : List Str) {Q : Fin → Shared → Prop} (hh : A.handled = none) (hS : s.heap.get? S = some (newSet w)) (hl : s.heap.IsList l us) (hn : TxsAre us.toList ks) (hb : ks.length + 1 < scanBound)
    (fin : ∀ (h1 : Heap) (tk : Nat), TxSet P w h1 S (withAll [] ks) → (∀ b o, b ≠ S → s.heap.get? b = some o → h1.get? b = some o) → Q (.done (.ret .none)) { s with heap := h1, toks := tk }) :
    wpAny (model P w) A (Builtin.«set.__init__» ⟨[.ref S, .ref l], []⟩) Q E s := by
  have hT : Shared.TypeIs s (.ref S) "set" := ⟨_, hS, rfl⟩
  obtain ⟨ob, e1, e2, k, e3⟩ := id hl
  obtain ⟨cl, dd, da, sl⟩ := ob
  dsimp only at e2 e3
  subst e2 e3
  have hs1 := F.sub_list_set
  have hs2 := F.sub_list_frozenset
  have nd : (Value.type "list" == Value.type "dict") = false := by decide
  unfold Builtin.«set.__init__» noKeywords Builtin.Frozenset.updateFrom
  generalize hPI : pyIter = PI
  wp_walk
  subst hPI
  have lt : ∀ {b : Addr} {o : Obj}, s.heap.get? b = some o → b < s.heap.objs.size := fun h => Heap.lt_size h
  have many : us.size = ks.length := by rw [← Array.length_toList]; exact hn.1
  refine wpAny_pyIter_list hl (wpAny_bind (wpAny_runValue ?_))
  obtain ⟨h0, eh⟩ : ∃ h0 : Heap, h0 = s.heap.push { cls := .type "list_iterator", data := .fields #[.ref l, .int 0 0] } := ⟨_, rfl⟩
  rw [← eh]
  have up : ∀ b o, s.heap.get? b = some o → h0.get? b = some o := fun b o h => by rw [eh]; exact Heap.get?_push_of_some _ h
  have nI : S ∉ [s.heap.objs.size, l] := fun m => by
    rcases List.mem_cons.mp m with z | m
    · exact Nat.lt_irrefl _ (z ▸ lt hS)
    · rw [List.mem_singleton.mp m, e1] at hS
      have z := congrArg Obj.cls (Option.some.inj hS)
      injection z with z
      exact absurd z (by decide)
  have it : h0.IsListIter s.heap.objs.size l 0 := by rw [eh]; exact ⟨_, Heap.get?_push_size _ rfl, rfl, rfl⟩
  refine tx_loop ((Walks.list (A := A.in1) (by simp [hh]) s.heap.objs.size l (Nat.ne_of_lt (lt e1)) us).toS) S nI ks many (fun i v hv => ?_) ks 0 [] _ rfl (Nat.zero_le _) ⟨it, hl.imp fun o z => ⟨up _ _ z.1, z.2⟩⟩ (by simpa using hb) (tx_new (up _ _ hS)) fun s1 mv hR => ?_
  · obtain ⟨h, e⟩ := Array.getElem?_eq_some_iff.mp hv
    have hi : i < ks.length := many ▸ h
    obtain ⟨t, z⟩ := hn.at hi (v := v) (by rw [Array.getElem?_toList]; exact hv)
    exact ⟨t, hi, z⟩
  · obtain ⟨h1, g1, d1, tk1, o1⟩ := s1
    obtain rfl : g1 = s.gens := mv.gens
    obtain rfl : d1 = s.drawn := mv.drawn
    obtain rfl : o1 = s.os := mv.os
    refine wpAny_pure (wpAny_pure (fin h1 tk1 hR fun b o nb hb => mv.heap b o (fun m => ?_) (up b o hb)))
    rcases List.mem_cons.mp m with z | m
    · exact nb z
    · exact Nat.lt_irrefl _ (List.mem_singleton.mp m ▸ lt hb)
theorem call_set_txs {l : Addr} {us : Array Value} (ks : List Str) {Q : Value → Shared → Prop} (hh : A.handled = none) (hl : s.heap.IsList l us) (hn : TxsAre us.toList ks) (hb : ks.length + 1 < scanBound)
    (fin : ∀ (h1 : Heap) (tk : Nat), TxSet P w h1 s.heap.objs.size (withAll [] ks) → (∀ b o, s.heap.get? b = some o → h1.get? b = some o) → Q (.ref s.heap.objs.size) { s with heap := h1, toks := tk }) :
    wpAny (model P w) A (call (.type "set") [.ref l]) Q E s := by
  obtain ⟨c, tl, hmro⟩ := F.called_set.mro
  have h1 := F.called_set.made
  have h2 := F.called_set.sub
  have h3 := F.called_set.notType
  have h4 := F.called_set.canCreate
  have h5 := F.typeCall_set_1 (.ref l)
  refine wpAny_call (codeAny_of_tree (wpAny_pure ⟨Code.quiet_builtin _ (by decide +kernel), codeAny_builtin F.entry_type_call ?_⟩))
  rw [Around.under_plain (weight_type_call_type "set" [.ref l] []) rfl]
  repeat (any_goals (first | assumption | wp_step))
  refine codeAny_mono (code_set_led1 (.ref l) (E := E) (Q₁ := fun u s1 => u = .ref s.heap.objs.size ∧ s1 = { s with heap := s.heap.push (newSet w) }) ⟨rfl, rfl⟩) fun r s1 hr => ?_
  match r, hr with
  | .error e, hr => exact hr
  | .ok .next, hr => exact hr.elim
  | .ok .brk, hr => exact hr.elim
  | .ok .cont, hr => exact hr.elim
  | .ok (.ret u), hr =>
    obtain ⟨rfl, rfl⟩ := hr
    have hS : (s.heap.push (newSet w)).get? s.heap.objs.size = some (newSet w) := Heap.get?_push_size _ rfl
    have hT : Shared.TypeIs { s with heap := s.heap.push (newSet w) } (.ref s.heap.objs.size) "set" := ⟨_, hS, rfl⟩
    have h6 := F.called_set.init.lookup
    have h7 := F.called_set.init.bind (.ref s.heap.objs.size)
    repeat (any_goals (first | assumption | wp_step))
    refine codeAny_call_builtin F.called_set.init.plain F.entry_set_init (check_set_init_1 hT (init_txs ks (by simp [hh]) hS (hl.push _) hn hb fun h1 tk hR kp => ?_))
    exact wpAny_pure (wpAny_pure (fin h1 tk hR fun b o hb => kp b o (Nat.ne_of_lt (Heap.lt_size hb)) (Heap.get?_push_of_some _ hb)))
end
end Qb
end PySem
namespace PySem
namespace Qb
open PySem.W PySem.Calls PyProof.Rows L2
def TxO (P : Program) (w : World) (a : Addr) (l : List Str) : HO := .ext fun h => TxSet P w h a l
theorem txO_new {w : World} {P : Program} {H : Hp} {h : Heap} {a : Addr} {l : List Str} (R : TxSet P w h a l) : ObjOk P w H h a (TxO P w a l) :=
  ⟨R, R.elim fun _ z => ⟨_, z.1⟩, fun _ _ p k => TxSet.at p k⟩
theorem txO_get {X : Cx} {pins : List (Addr × Obj)} {σ : L2.St} {H : Hp} {s : Shared} {a : Addr} {l : List Str} (I : Inv X pins σ H s) (e : H a = some (TxO X.prog X.w a l)) : TxSet X.prog X.w s.heap a l :=
  (I.hok a _ e).1
theorem txs_of : ∀ {us : List Value} {ks : List Str}, StrsAre us ks → TxsAre us ks
  | _, _, .nil => ⟨rfl, fun i h => absurd h (Nat.not_lt_zero i)⟩
  | _, _, .cons k t r => by
    obtain ⟨h1, h2⟩ := txs_of r
    refine ⟨congrArg (· + 1) h1, fun i h v e => ?_⟩
    match i with
    | 0 => exact ⟨t, (Option.some.inj e).symm⟩
    | i + 1 => exact h2 i (Nat.lt_of_succ_lt_succ h) v e
/-- set(xs) of a list of texts -/
def rSetTx (K : PySem.W.Frag) (P : Program) (w : World) : List V → Hp → VK → Prop := fun xs H Q => ∃ (l : Addr) (ks : List Str), xs = [V.ref l] ∧ SqL K H l (ks.map V.str) ∧ ks.length ≤ 1000 ∧
  ∀ a : Addr, H a = none → Q (.ref a) (L2.upd H a (TxO P w a (withAll [] ks)))
theorem cr_setTx {X : Cx} (hc : X.calm = true) : CallR X (.type "set") (rSetTx X.K X.prog X.w) := by
  intro pins s σ H xs us Q I r h
  obtain ⟨l, ks, rfl, hq, hl, q⟩ := h
  rw [Vals.ref1 r]
  obtain ⟨its, rv, pl, hz⟩ := I.list hq
  refine call_set_txs ks (I.ok.hd hc) pl.isList (by simpa using txs_of rv.strs) (by unfold scanBound; omega) fun h1 tk hR hk => ?_
  exact ⟨.ref _, L2.upd H s.heap.objs.size _, I.laid (t' := tk) hk (Nat.le_refl _) (txO_new hR), rfl, q _ (I.hok.fresh (Nat.le_refl _))⟩
theorem perm_of : ∀ {l m : List Str}, l.Nodup → (∀ x ∈ l, x ∈ m) → m.length ≤ l.length → m.Perm l
  | [], m, _, _, h => by
    rw [List.eq_nil_of_length_eq_zero (Nat.le_zero.mp h)]
  | x :: l, m, nd, sub, h => by
    obtain ⟨nx, nd⟩ := List.nodup_cons.mp nd
    have mx := sub x (.head _)
    refine (List.perm_cons_erase mx).trans ((perm_of nd (fun y my => ?_) ?_).cons x)
    · exact (List.mem_erase_of_ne fun e => nx (by rw [← e]; exact my)).mpr (sub y (.tail _ my))
    · rw [List.length_erase_of_mem mx]
      rw [List.length_cons] at h
      omega
theorem els_txs {P : Program} {w : World} : ∀ {es : List (Int × Value)}, ElemsOf (strKind P w) es → ∀ {us : List Value}, (∀ u ∈ us, u ∈ es.map (·.2)) → ∃ xs : List Str, StrsAre us xs
  | es, el, [], _ => ⟨[], .nil⟩
  | es, el, u :: us, h => by
    obtain ⟨xs, hx⟩ := els_txs el (us := us) fun v mv => h v (.tail _ mv)
    obtain ⟨e, me, rfl⟩ := List.mem_map.mp (h u (.head _))
    obtain ⟨⟨k, k1, _⟩, _⟩ := el e me
    obtain ⟨t, z⟩ := Value.isStrOf_shape (x := k) (v := e.2) k1
    rw [z]
    exact ⟨k :: xs, .cons _ _ hx⟩
theorem strs_mem {x : Str} : ∀ {us : List Value} {xs : List Str}, StrsAre us xs → (∃ t, Value.str x t ∈ us) → x ∈ xs
  | _, _, .nil, ⟨_, m⟩ => nomatch m
  | _, _, .cons y u r, ⟨t, m⟩ => by
    rcases List.mem_cons.mp m with e | m
    · injection e with e _
      rw [e]
      exact .head _
    · exact .tail _ (strs_mem r ⟨t, m⟩)
/-- sorted(a set of texts) -/
def rSortTx (P : Program) (w : World) : List V → Hp → VK → Prop := fun vs H Q => ∃ (a : Addr) (l : List Str), vs = [V.ref a] ∧ H a = some (TxO P w a l) ∧ l.length < 64 ∧
  ∀ (ys : List Str) (p : Addr), ys.Perm l → sortedS ys = true → H p = none → Q (.ref p) (L2.upd H p (.lst (ys.map V.str)))
theorem cr_sortTx {X : Cx} (hc : X.calm = true) : CallR X (.builtin "sorted") (rSortTx X.prog X.w) := by
  intro pins s σ H vs us Q I r h
  obtain ⟨a, l, rfl, ha, few, q⟩ := h
  obtain ⟨D, e, F, W, nd⟩ := txO_get I ha
  rw [Vals.ref1 r]
  have sz : D.1.size = l.length := F.sz
  have sb : D.1.size < scanBound := by unfold scanBound; omega
  refine Calls.call_function_entry kind_sorted plain_sorted entry_sorted (args_sorted1 _) ?_
  unfold Builtin.«sorted»
  refine wpAny_bind (m := checkCount "sorted" 1 1 _) (wpAny_pure (wpAny_bind (collect_set (A := X.A.in1) (I.ok.hd hc) ⟨_, e, rfl, rfl⟩ F.fit sb W.1 W.2 fun s1 out k1 big g1 o1 pm => ?_)))
  obtain ⟨xs, hS⟩ := els_txs F.el (us := out) fun u m => pm.mem_iff.mp m
  have lo : out.length = l.length := by rw [pm.length_eq, List.length_map, Array.length_toList, sz]
  have px : xs.Perm l := perm_of nd (fun x m => by
    obtain ⟨y, my, z⟩ := (F.mem x).mp m
    obtain ⟨t, z⟩ := Value.isStrOf_shape (x := x) (v := y.2) z
    exact strs_mem hS ⟨t, pm.mem_iff.mpr (z ▸ List.mem_map_of_mem my)⟩) (by rw [← hS.len_eq, lo]; exact Nat.le_refl _)
  refine wpAny_bind (wpAny_newList ?_ (by rw [lo, sizeLine_eq]; omega))
  have new : (s1.heap.push (seqObj "list" out.toArray 0)).get? s1.heap.objs.size = some (seqObj "list" out.toArray 0) := Heap.get?_push_size _ rfl
  refine wpAny_bind (wpAny_holding (wpAny_call_entry slot_list_sort ⟨_, new, rfl⟩ entry_list_sort
    (list_sort_treeK strKind_oneLt new hS.keysOf (fun v₁ v₂ rest e => keyKind_strs (by rw [← e]; exact hS)) (by rw [lo]; exact few) fun st hp hs => ⟨_, rfl, ?_⟩) (args_list_sort _)))
  obtain ⟨ys, y1, y2, y3⟩ := sorted_out_str hS hp hs
  obtain ⟨ep, at1⟩ := sortedHeap_at (vs := out) (out := (arrOf st).map (·.2)) new
  have py := y2.trans px
  have fits : (ys.map V.str).length ≤ sizeLine := by rw [List.length_map, py.length_eq, sizeLine_eq]; omega
  obtain ⟨h1, gg, dd, tt, oo⟩ := s1
  obtain rfl : gg = s.gens := g1
  obtain rfl : oo = s.os := o1
  have keep : ∀ b u, s.heap.get? b = some u → (sortedHeap (h1.push (seqObj "list" out.toArray 0)) h1.objs.size out ((arrOf st).map (·.2))).get? b = some u := fun b u z => by
    have old := k1 b u z
    have lt := Heap.lt_size old
    rw [sortedHeap_old (Nat.ne_of_lt lt) (by rw [size_push']; exact Nat.lt_succ_of_lt lt)]
    exact Heap.get?_push_of_some _ old
  have fr : H h1.objs.size = none := I.hok.fresh big
  have J : Inv X pins σ (L2.upd H h1.objs.size (.lst (ys.map V.str))) { s with heap := sortedHeap (h1.push (seqObj "list" out.toArray 0)) h1.objs.size out ((arrOf st).map (·.2)), gens := s.gens, drawn := dd, toks := tt } :=
    I.call (ch := []) (Un.laid keep big fr) (I.hok.laid keep big ⟨fits, ((arrOf st).map (·.2)).toList, ep, vals_of_strs y1, by rw [Array.toArray_toList]; exact at1⟩) I.bare (fun _ z => nomatch z)
  exact wpAny_pure ⟨_, rfl, .ref _, _, J, rfl, q ys _ py y3 fr⟩
end Qb
end PySem
namespace PySem
namespace Qb
open PySem.W PySem.Calls PyProof.Rows L2
/-! # set(x) of a text, len of a set of texts -/
def chs (x : Str) : List Str := (cs x).map fun c => (⟨#[c]⟩ : Str)
section
variable {P : Program} {w : World} {A : Around} {E : Value → Shared → Prop} {s : Shared}
/-- a new set takes the signs of a text -/
theorem init_str {S : Addr} {x : Str} {u : Tok} {Q : Fin → Shared → Prop} (hh : A.handled = none) (hS : s.heap.get? S = some (newSet w)) (hb : (chs x).length + 1 < scanBound)
    (fin : ∀ (h1 : Heap) (tk : Nat), TxSet P w h1 S (withAll [] (chs x)) → (∀ b o, b ≠ S → s.heap.get? b = some o → h1.get? b = some o) → Q (.done (.ret .none)) { s with heap := h1, toks := tk }) :
    wpAny (model P w) A (Builtin.«set.__init__» ⟨[.ref S, .str x u], []⟩) Q E s := by
  have hT : Shared.TypeIs s (.ref S) "set" := ⟨_, hS, rfl⟩
  have hs1 : isSubtype (.type "str") (.type "set") = pure false := by rw [isSubtype_type]; kernel_rfl
  have hs2 : isSubtype (.type "str") (.type "frozenset") = pure false := by rw [isSubtype_type]; kernel_rfl
  have nd : (Value.type "str" == Value.type "dict") = false := by decide
  unfold Builtin.«set.__init__» noKeywords Builtin.Frozenset.updateFrom
  generalize hPI : pyIter = PI
  wp_walk
  subst hPI
  have lt : ∀ {b : Addr} {o : Obj}, s.heap.get? b = some o → b < s.heap.objs.size := fun h => Heap.lt_size h
  have many : x.cps.size = (chs x).length := by rw [chs, List.length_map]; exact (Array.length_toList (xs := x.cps)).symm
  refine wpAny_pyIter_str fun o St W st0 => wpAny_bind (wpAny_runValue ?_)
  obtain ⟨h0, eh⟩ : ∃ h0 : Heap, h0 = s.heap.push o := ⟨_, rfl⟩
  rw [← eh] at st0 ⊢
  have up : ∀ b o, s.heap.get? b = some o → h0.get? b = some o := fun b o h => by rw [eh]; exact Heap.get?_push_of_some _ h
  have nI : S ∉ [s.heap.objs.size] := fun m => by
    rw [List.mem_singleton.mp m] at hS
    exact Nat.lt_irrefl _ (lt hS)
  refine tx_loop (W A.in1 (by simp [hh])).toS S nI (chs x) many (fun i v hv => ?_) (chs x) 0 [] _ rfl (Nat.zero_le _) st0 (by simpa using hb) (tx_new (up _ _ hS)) fun s1 mv hR => ?_
  · obtain ⟨c, u', e, rfl⟩ := hv
    have e : (cs x)[i]? = some c := by
      show x.cps.toList[i]? = some c
      rw [Array.getElem?_toList]
      exact e
    obtain ⟨h, e⟩ := List.getElem?_eq_some_iff.mp e
    refine ⟨u', by rw [chs, List.length_map]; exact h, ?_⟩
    unfold chs
    rw [List.getElem_map, e]
  · obtain ⟨h1, g1, d1, tk1, o1⟩ := s1
    obtain rfl : g1 = s.gens := mv.gens
    obtain rfl : d1 = s.drawn := mv.drawn
    obtain rfl : o1 = s.os := mv.os
    refine wpAny_pure (wpAny_pure (fin h1 tk1 hR fun b o nb hb => mv.heap b o (fun m => ?_) (up b o hb)))
    rcases List.mem_cons.mp m with z | m
    · exact nb z
    · exact Nat.lt_irrefl _ (List.mem_singleton.mp m ▸ lt hb)
theorem call_set_str {x : Str} {u : Tok} {Q : Value → Shared → Prop} (hh : A.handled = none) (hb : (chs x).length + 1 < scanBound)
    (fin : ∀ (h1 : Heap) (tk : Nat), TxSet P w h1 s.heap.objs.size (withAll [] (chs x)) → (∀ b o, s.heap.get? b = some o → h1.get? b = some o) → Q (.ref s.heap.objs.size) { s with heap := h1, toks := tk }) :
    wpAny (model P w) A (call (.type "set") [.str x u]) Q E s := by
  obtain ⟨c, tl, hmro⟩ := F.called_set.mro
  have h1 := F.called_set.made
  have h2 := F.called_set.sub
  have h3 := F.called_set.notType
  have h4 := F.called_set.canCreate
  have h5 := F.typeCall_set_1 (.str x u)
  refine wpAny_call (codeAny_of_tree (wpAny_pure ⟨Code.quiet_builtin _ (by decide +kernel), codeAny_builtin F.entry_type_call ?_⟩))
  rw [Around.under_plain (weight_type_call_type "set" [.str x u] []) rfl]
  repeat (any_goals (first | assumption | wp_step))
  refine codeAny_mono (code_set_led1 (.str x u) (E := E) (Q₁ := fun u s1 => u = .ref s.heap.objs.size ∧ s1 = { s with heap := s.heap.push (newSet w) }) ⟨rfl, rfl⟩) fun r s1 hr => ?_
  match r, hr with
  | .error e, hr => exact hr
  | .ok .next, hr => exact hr.elim
  | .ok .brk, hr => exact hr.elim
  | .ok .cont, hr => exact hr.elim
  | .ok (.ret u), hr =>
    obtain ⟨rfl, rfl⟩ := hr
    have hS : (s.heap.push (newSet w)).get? s.heap.objs.size = some (newSet w) := Heap.get?_push_size _ rfl
    have hT : Shared.TypeIs { s with heap := s.heap.push (newSet w) } (.ref s.heap.objs.size) "set" := ⟨_, hS, rfl⟩
    have h6 := F.called_set.init.lookup
    have h7 := F.called_set.init.bind (.ref s.heap.objs.size)
    repeat (any_goals (first | assumption | wp_step))
    refine codeAny_call_builtin F.called_set.init.plain F.entry_set_init (check_set_init_1 hT (init_str (by simp [hh]) hS hb fun h1 tk hR kp => ?_))
    exact wpAny_pure (wpAny_pure (fin h1 tk hR fun b o hb => kp b o (Nat.ne_of_lt (Heap.lt_size hb)) (Heap.get?_push_of_some _ hb)))
end
def rSetStr (P : Program) (w : World) : List V → Hp → VK → Prop := fun xs H Q => ∃ x : Str, xs = [.str x] ∧ (cs x).length ≤ 1000 ∧ ∀ a : Addr, H a = none → Q (.ref a) (L2.upd H a (TxO P w a (withAll [] (chs x))))
theorem cr_setStr {X : Cx} (hc : X.calm = true) : CallR X (.type "set") (rSetStr X.prog X.w) := by
  intro pins s σ H xs us Q I r h
  obtain ⟨x, rfl, hl, q⟩ := h
  obtain ⟨u, rfl⟩ : ∃ u, us = [Value.str x u] := by
    cases r with
    | cons r rr =>
      cases rr
      obtain ⟨u, rfl⟩ := r
      exact ⟨u, rfl⟩
  refine call_set_str (I.ok.hd hc) (by rw [chs, List.length_map]; unfold scanBound; omega) fun h1 tk hR hk => ?_
  exact ⟨.ref _, L2.upd H s.heap.objs.size _, I.laid (t' := tk) hk (Nat.le_refl _) (txO_new hR), rfl, q _ (I.hok.fresh (Nat.le_refl _))⟩
def rLenTx (P : Program) (w : World) : List V → Hp → VK → Prop := fun xs H Q => ∃ (a : Addr) (l : List Str), xs = [.ref a] ∧ H a = some (TxO P w a l) ∧ l.length ≤ 100000 ∧ Q (.int l.length) H
theorem cr_lenTx {X : Cx} : CallR X (.builtin "len") (rLenTx X.prog X.w) := by
  intro pins s σ H vs us Q I r h
  obtain ⟨a, l, rfl, ha, few, q⟩ := h
  obtain ⟨D, e, F, W, nd⟩ := txO_get I ha
  rw [Vals.ref1 r]
  have sz : D.1.size = l.length := F.sz
  obtain ⟨es, ep, t⟩ := D
  exact call_len_set e ⟨rfl, rfl, rfl⟩ rfl F.fit (by have sz : es.size = l.length := sz; show ((es.size : Nat) : Int) < 2 ^ 63; rw [sz]; omega) ⟨.int l.length, H, I.tok _, ⟨_, by rw [← sz]⟩, q⟩
end Qb
end PySem
namespace PySem
namespace Qb
open PySem.W PySem.Calls PyProof.Rows L2
/-! # enumerate(xs, start=1) -/
def Ite1 (K : PySem.W.Frag) (a : Addr) : It :=
  ⟨fun i H => ∃ (xs : List V) (x : V), SqL K H a xs ∧ xs[i]? = some x, fun i H v H' => ∃ T x, v = .ref T ∧ H T = none ∧ H' = L2.upd H T (.tup [.int ((i + 1 : Nat) : Int), x]) ∧ ∀ xs, SqL K H a xs → xs[i]? = some x, fun i H => ∃ xs : List V, SqL K H a xs ∧ xs.length = i⟩
theorem turn_enum1 {P : Program} {w : World} {K : PySem.W.Frag} {elts : List Expr} {kk : Nat} {tpos : Pos} (a e it : Addr) :
    Turn P w K (.Tuple elts kk tpos) (Ite1 K a) [e, it] e (fun i h => (∃ old, IsEnum h e it ((i + 1 : Nat) : Int) old) ∧ h.IsListIter it a i ∧ e ≠ it ∧ a ≠ e ∧ a ≠ it) where
  mem := by simp
  obj := fun i h st b hb => by
    obtain ⟨⟨old, he⟩, ⟨o, ho, hc, hd⟩, _⟩ := st
    have e' : b = e ∨ b = it := by simpa using hb
    rcases e' with z | z
    · rw [z]; exact ⟨_, he, fun v q => nomatch q⟩
    · rw [z]; exact ⟨o, ho, fun v q => by rw [hd] at q; cases q⟩
  keep := fun i h h' st k => let ⟨⟨old, he⟩, hi, hne⟩ := st; ⟨⟨old, k e (by simp) _ he⟩, hi.at fun o q => k it (by simp) o q, hne⟩
  item := by
    intro X hP hw hK hc i pins s σ H E I hf st hg
    subst hP hw hK
    obtain ⟨⟨old, he⟩, hit, hne, nae, nai⟩ := st
    obtain ⟨xs, x, hq, hx⟩ := hg
    obtain ⟨its, rv, p, hz⟩ := I.list hq
    obtain ⟨u, hu, ru⟩ := rv.get hx
    have hel : e < s.heap.objs.size := Heap.lt_size he
    have hil : it < s.heap.objs.size := by obtain ⟨_, q, _⟩ := hit; exact Heap.lt_size q
    have lt : i < its.toArray.size := by
      obtain ⟨z, _⟩ := List.getElem?_eq_some_iff.mp hu
      simpa using z
    have D : Draws X.prog X.w X.A.in1 it [it, a] its.toArray.size _ _ := Draws.list (A := X.A.in1) (I.ok.hd hc) it a nai its.toArray
    refine wpAny_pyNext_enum_itemC D he ⟨hit, p.isList⟩ lt hne (by simp [hne, Ne.symm nae]) fun x' h' tk hx' ho hit' hT hsz hk => ?_
    have ex : x' = u := by
      have : its.toArray[i]? = some u := by simpa using hu
      rw [this] at hx'
      exact (Option.some.inj hx').symm
    subst ex
    refine ⟨_, rfl, wpAny_letOwnedTupleGo_enum (s := { s with heap := h', toks := tk + 1 }) ho fun h'' he' sb => ?_⟩
    have hT2 : h''.get? s.heap.objs.size = some { cls := .type "tuple", data := .seq #[.int ((i + 1 : Nat) : Int) tk, x'] } := (sb.2 _ (Nat.ne_of_gt hel)).trans hT
    have new : ObjOk X.prog X.w (L2.upd H s.heap.objs.size (.tup [.int ((i + 1 : Nat) : Int), x])) h'' s.heap.objs.size (.tup [.int ((i + 1 : Nat) : Int), x]) :=
      ⟨by show 2 ≤ sizeLine; decide, [.int ((i + 1 : Nat) : Int) tk, x'], .cons ⟨_, rfl⟩ (.cons ru .nil), ⟨_, hT2, rfl, _, rfl⟩⟩
    have I1 : Inv X pins σ (L2.upd H s.heap.objs.size (.tup [.int ((i + 1 : Nat) : Int), x])) { s with heap := h'', toks := tk + 1 } :=
      I.turnedNew (ch := [e, it]) (fun b ob hb q => (sb.2 b (fun z => hb (by simp [z]))).trans (hk b ob (fun z => hb (by simp [z])) (fun z => hb (by simp [z])) q)) hf (Nat.le_refl _) new
    refine ⟨.ref s.heap.objs.size, _, I1, rfl, ⟨_, x, rfl, I.hok.fresh (Nat.le_refl _), rfl, fun ys hy => by rw [I.list_inj hy hq]; exact hx⟩, ⟨⟨x', ?_⟩, hit'.1.at fun o q => (sb.2 it (Ne.symm hne)).trans q, hne, nae, nai⟩, fun b hb => ?_⟩
    · have e1 : ((i + 1 + 1 : Nat) : Int) = ((i + 1 : Nat) : Int) + 1 := by omega
      rw [e1]; exact he'
    · have hb' : b < s.heap.objs.size := by
        have e' : b = e ∨ b = it := by simpa using hb
        rcases e' with z | z
        · rw [z]; exact hel
        · rw [z]; exact hil
      rw [upd_ne (Nat.ne_of_lt hb')]
      exact (hf b hb).1
  done := by
    intro X hP hw hK hc i pins s σ H E I hf st hg
    subst hP hw hK
    obtain ⟨⟨old, he⟩, hit, hne, nae, nai⟩ := st
    obtain ⟨xs, hq, hx⟩ := hg
    obtain ⟨its, rv, p, hz⟩ := I.list hq
    obtain ⟨f0, f1, f2, f3, f4, f5⟩ := hf it (by simp)
    have hl := rv.length
    have D : Draws X.prog X.w X.A.in1 it [it, a] its.toArray.size _ _ := Draws.list (A := X.A.in1) (I.ok.hd hc) it a nai its.toArray
    have ei : i = its.toArray.size := by simp; omega
    exact wpAny_pyNext_enum_endD D he (by rw [← ei]; exact ⟨hit, p.isList⟩) fun h' eb => ⟨rfl, I.turned (t' := s.toks) (fun b o hb q => eb b o hb q) f0 f1 f3 f4 f5⟩
  self := fun A i s Q E st h => let ⟨⟨_, he⟩, _⟩ := st; wpAny_pyIter_enum he h
theorem callWith_typeK {M : Model} {A : Around} {E : Value → Shared → Prop} {s : Shared} {env : Env} {pos : Pos} {T : String} {e : Expr} {rest : List Expr} {kws : List Keyword} {Q : Value → Shared → Prop}
    (h : wpAny M A (spliced (backTo pos (starEach (e :: rest) env))) (fun vs s₁ => wpAny M A (evalAll ((backToKw pos (keywordEach kws env)).map (·.2)))
      (fun kvs s₂ => wpAny M A (call (.type T) vs (((backToKw pos (keywordEach kws env)).filterMap (·.1)).zip kvs)) Q E s₂) E s₁) E s)
    (he : backTo pos (starEach (e :: rest) env) = (false, eval e env) :: backTo pos (starEach rest env) := by rfl)
    (hplain : (backTo pos (starEach (e :: rest) env)).any (·.1) = false := by rfl)
    (hall : (backToKw pos (keywordEach kws env)).all (·.1.isSome) = true := by rfl)
    (hkw : (backToKw pos (keywordEach kws env)).any (·.1.isNone) = false := by rfl) :
    wpAny M A (callWith pos (.type T) [] (backTo pos (starEach (e :: rest) env)) (backToKw pos (keywordEach kws env))) Q E s := by
  have key : wpAny M A (evalArgs (.type T) true (backTo pos (starEach (e :: rest) env)) (backToKw pos (keywordEach kws env))) (fun a s₁ => wpAny M A (call (.type T) ([] ++ a.pos) a.kw) Q E s₁) E s := by
    rw [he] at h ⊢
    exact evalArgs_kwB hall h
  unfold callWith
  refine wpAny_bind (wpAny_holding (wpAny_mono key (fun a s₁ h₁ => wpAny_bind (wpAny_standAt ?_)) fun _ _ x => x))
  simp only [hplain, hkw, Bool.or_false]
  refine wpAny_bind (wpAny_pure ?_)
  exact wpAny_bind (wpAny_mono h₁ (fun r s₂ hr => wpAny_bind (wpAny_holding (wpAny_point (wpAny_pure hr)))) fun _ _ x => x)
def iEnum1 (K : PySem.W.Frag) (ta : TA) (tk : TA) : TI := fun σ H R => ta σ H fun vs H1 => tk σ H1 fun ks H2 => ∃ a xs, vs = [.ref a] ∧ ks = [.int 1] ∧ SqL K H2 a xs ∧ R (Ite1 K a) H2
theorem pi_enum1 {X : Cx} {e : Expr} {kws : List Keyword} {ta tk : TA} {p pos tpos : Pos} {elts : List Expr} {kk : Nat} (hg : Gl X "enumerate") (hm : X.mg "enumerate" = none) (ha : PA X [e] ta) (hkw : PK X kws tk)
    (hks : (backToKw pos (keywordEach kws X.env)).filterMap (·.1) = ([("start" : Str)] : List Str) := by rfl) (hall : (backToKw pos (keywordEach kws X.env)).all (·.1.isSome) = true := by rfl)
    (hkn : (backToKw pos (keywordEach kws X.env)).any (·.1.isNone) = false := by rfl) (he : backTo pos (starEach [e] X.env) = (false, eval e X.env) :: backTo pos (starEach [] X.env) := by rfl) (hpl : (backTo pos (starEach [e] X.env)).any (·.1) = false := by rfl) :
    PI X (.Tuple elts kk tpos) (.Call (.Name "enumerate" p) [e] kws pos) (iEnum1 X.K ta tk) := by
  refine ⟨fun pins s σ H R I h => ?_⟩
  refine wpAny_Call_Name_kw (ld_blt I hg hm boot_enumerate (callWith_typeK (T := "enumerate") (thn (ha.run pos pins s σ H _ I h) fun us s1 ⟨vs, H1, I1, r1, q1⟩ => thn (hkw.run pos pins s1 σ H1 _ I1 q1) fun ws s2 ⟨ks, H2, I2, r2, q2⟩ => ?_) he hpl hall hkn))
  obtain ⟨a, xs, ex, ek, hq, q⟩ := q2
  subst ex ek
  rw [hks]
  cases r1 with
  | cons r rr =>
    cases rr
    cases r
    cases r2 with
    | cons r2 rr2 =>
      cases rr2
      obtain ⟨t, rfl⟩ := r2
      obtain ⟨its, rv, p', hz⟩ := I2.list hq
      refine enum_begins_start (k := 1) (t := t) (begins_list a its.toArray) p'.isList (by decide) (by decide) fun h' he hit hsz hk => wpAny_pyIter_enum he ?_
      have I3 : Inv X pins σ H2 { s2 with heap := h' } := I2.kept (t' := s2.toks) hk
      have la : a < s2.heap.objs.size := p'.lt
      refine ⟨s2.heap.objs.size + 1, [s2.heap.objs.size + 1, s2.heap.objs.size], _, _, H2, rfl, I3, turn_enum1 a (s2.heap.objs.size + 1) s2.heap.objs.size, ⟨⟨.none, he⟩, ⟨_, hit, rfl, rfl⟩, Nat.succ_ne_self _, Nat.ne_of_lt (Nat.lt_succ_of_lt la), Nat.ne_of_lt la⟩, fun b hb => ?_, q⟩
      have e' : b = s2.heap.objs.size + 1 ∨ b = s2.heap.objs.size := by simpa using hb
      have hle : s2.heap.objs.size ≤ b := by
        rcases e' with z | z
        · rw [z]; exact Nat.le_add_right _ _
        · rw [z]; exact Nat.le_refl _
      exact I2.fpOk hle (I2.hok.fresh hle)
theorem walk_enum1 {K : PySem.W.Frag} {a : Addr} {xs : List V} : Walk (Ite1 K a) xs.length (fun H => SqL K H a xs) (YPair (fun i => some (.int ((i + 1 : Nat) : Int))) (fun i => xs[i]?)) := by
  refine ⟨fun i _ hi q => ⟨xs, xs[i], q, by simp [hi]⟩, fun _ q => ⟨xs, q, rfl⟩, fun i H v H' _ q y => ?_⟩
  obtain ⟨T, x, h1, h2, h3, h4⟩ := y
  exact ⟨T, .int ((i + 1 : Nat) : Int), x, h1, h2, h3, rfl, h4 xs q⟩
end Qb
end PySem
namespace PySem
namespace Qb
open PySem.W PySem.Calls PyProof.Rows L2
/-! # sorted(xs): texts, any number of them -/
section
variable {prog : Program} {w : World} {A : Around} {E : Value → Shared → Prop} {s : Shared}
def ltSv (v u : Value) : Bool := decide ((strOf v).cps.toList < (strOf u).cps.toList)
theorem swo_str : SrtO.Swo ltSv := by
  refine ⟨fun x y h => ?_, fun x y z h1 h2 => ?_⟩
  · have a := of_decide_eq_true (p := (strOf x).cps.toList < (strOf y).cps.toList) h
    exact decide_eq_false fun b => List.lt_irrefl _ (List.lt_trans a b)
  · have a := of_decide_eq_false (p := (strOf y).cps.toList < (strOf x).cps.toList) h1
    have b := of_decide_eq_false (p := (strOf z).cps.toList < (strOf y).cps.toList) h2
    exact decide_eq_false (List.not_lt.mpr (List.le_trans (List.not_lt.mp a) (List.not_lt.mp b)))
theorem str_cmp {vs : List Value} {ks : List Str} (hS : StrsAre vs ks) : SrtO.Cmp prog w A s oneType' (fun p => p.1 ∈ vs) (SrtO.lt2 ltSv) := by
  intro p q hm hm'
  obtain ⟨a, t, e⟩ := hS.all _ hm
  obtain ⟨b, u, e'⟩ := hS.all _ hm'
  show wpAny (model prog w) A (keyLt' oneType' p.1 q.1) (fun r s' => s' = s ∧ r = ltSv p.1 q.1) (fun _ _ => False) s
  rw [e, e', keyLt'_oneType]
  exact oneLt_str ⟨rfl, rfl⟩
theorem str_sortable {a : Addr} {vs : List Value} {ks : List Str} (hS : StrsAre vs ks) (h2 : 2 ≤ vs.length) : SrtO.SortableO prog w A s a vs ltSv := by
  intro h' _
  refine ⟨oneType', fun Q E hq => ?_, str_cmp hS⟩
  match vs, hS, h2 with
  | v1 :: v2 :: rest, hS, _ =>
    rw [keyKind_strs hS]
    exact wpAny_pure hq
  | [], _, h => exact absurd h (by decide)
  | [v], _, h => exact absurd h (by simp)
theorem str_out {vs out : List Value} {ks : List Str} (hS : StrsAre vs ks) (hs : SrtO.Srtd ltSv out) (hb : SrtO.Stb ltSv out vs) : StrsAre out (out.map strOf) ∧ (out.map strOf).Perm ks ∧ sortedS (out.map strOf) = true := by
  refine ⟨strsAre_map out fun v hv => hS.all v (hb.perm.mem_iff.mp hv), ?_, ?_⟩
  · have q := hb.perm.map strOf
    rw [hS.strs] at q
    exact q
  · refine sortedS_of_pairwise _ (List.pairwise_map.mpr (hs.imp fun {x y} h => ?_))
    rw [ltCps_eq]
    exact h
end
def rSortedTx (K : PySem.W.Frag) : List V → Hp → VK → Prop := fun vs H Q => ∃ (a : Addr) (ks : List Str), vs = [V.ref a] ∧ SqL K H a (ks.map V.str) ∧
  ∀ (ys : List Str) (p : Addr), ys.Perm ks → sortedS ys = true → H p = none → Q (.ref p) (L2.upd H p (.lst (ys.map V.str)))
theorem cr_sortedTx {X : Cx} : CallR X (.builtin "sorted") (rSortedTx X.K) := by
  intro pins s σ H vs us Q I r h
  obtain ⟨a, ks, rfl, hs, q⟩ := h
  obtain ⟨its, rv, hl, hz⟩ := I.list hs
  rw [Vals.ref1 r]
  have hi := rv.strs
  refine SrtO.sorted_ord swo_str hl.isList (by rw [← rv.length]; exact hz) (fun h2 h₁ a' _ _ => str_sortable hi h2) fun out h1 h2 => ?_
  obtain ⟨k1, k2, k3⟩ := str_out hi h1 h2
  obtain ⟨ep, he'⟩ := PyProof.Rows.sortedAll_at s.heap its out.toArray
  have hlen : ((out.map strOf).map V.str).length ≤ sizeLine := by
    rw [List.length_map, k2.length_eq]
    rw [List.length_map] at hz
    exact hz
  exact ⟨.ref _, L2.upd H (s.heap.objs.size + 1) (.lst ((out.map strOf).map V.str)), I.laid (t' := s.toks) (fun _ _ => PyProof.Rows.sortedAll_old) (Nat.le_succ _) ⟨hlen, out, ep, vals_of_strs k1, he'⟩, rfl, q _ _ k2 k3 (I.hok.fresh (Nat.le_succ _))⟩
end Qb
end PySem
namespace PySem
namespace Qb
open PySem.W PySem.Calls PyProof.Rows L2
/-! # min and max of two texts -/
section
variable {prog : Program} {w : World} {A : Around} {E : Value → Shared → Prop} {s : Shared}
theorem cmp_strs_gt {P : Nat → Value → Prop} (val : Nat → Str) (hval : ∀ i v, P i v → ∃ t, v = .str (val i) t) : CmpOf prog w A .Gt P (fun i j => decide ((val j).cps.toList < (val i).cps.toList)) := fun i j vi vj s Q E hi hj h => by
  obtain ⟨t, rfl⟩ := hval i vi hi
  obtain ⟨u, rfl⟩ := hval j vj hj
  exact richCompare_gives (op := .Gt) (typeIs_str s _ t) (typeIs_str s _ u) F.slot_str_gt F.entry_str_gt (F.args_str_gt_2 _ _) (gives_str_gt _ _ t u) (fun x => nomatch x) h
theorem cmp_strs_lt {P : Nat → Value → Prop} (val : Nat → Str) (hval : ∀ i v, P i v → ∃ t, v = .str (val i) t) : CmpOf prog w A .Lt P (fun i j => decide ((val i).cps.toList < (val j).cps.toList)) := fun i j vi vj s Q E hi hj h => by
  obtain ⟨t, rfl⟩ := hval i vi hi
  obtain ⟨u, rfl⟩ := hval j vj hj
  exact richCompare_gives (op := .Lt) (typeIs_str s _ t) (typeIs_str s _ u) F.slot_str_lt F.entry_str_lt (F.args_str_lt_2 _ _) (gives_str_lt _ _ t u) (fun x => nomatch x) h
def twoS (a b : Str) (i : Nat) : Str := if i = 0 then a else b
theorem two_at {a b : Str} {t u : Tok} {i : Nat} {v : Value} (h : (#[Value.str a t, Value.str b u] : Array Value)[i]? = some v) : ∃ t, v = .str (twoS a b i) t := by
  match i, h with
  | 0, h => exact ⟨t, (Option.some.inj h).symm⟩
  | 1, h => exact ⟨u, (Option.some.inj h).symm⟩
  | i + 2, h => exact absurd h (by simp)
theorem max_two_str {a b : Str} {t u : Tok} {Q : Value → Shared → Prop} (hh : A.handled = none)
    (h : ∀ h' tk, (∀ c o, s.heap.get? c = some o → h'.get? c = some o) → Q (if decide (a.cps.toList < b.cps.toList) = true then .str b u else .str a t) { s with heap := h', toks := tk }) :
    wpAny (model prog w) A (call (.builtin "max") [.str a t, .str b u]) Q E s := by
  have hT : (s.heap.push { cls := .type "tuple", data := .seq #[.str a t, .str b u] }).IsTuple s.heap.objs.size #[.str a t, .str b u] := ⟨_, Heap.get?_push_size _ rfl, rfl, 0, rfl⟩
  refine call_max_two (wpAny_pyIter_tuple hT ?_)
  have hsz : (s.heap.push { cls := .type "tuple", data := .seq #[.str a t, .str b u] }).objs.size = s.heap.objs.size + 1 := Heap.size_push ..
  refine ⟨_, [_, s.heap.objs.size], [_], _, _, _, _, rfl, Walks.tuple (A := A.in1) hh _ s.heap.objs.size (by rw [hsz]; exact Nat.ne_of_lt (Nat.lt_succ_self _)) #[.str a t, .str b u],
    ⟨⟨_, Heap.get?_push_size _ rfl, rfl, rfl⟩, hT.push _⟩, fun c hc => ?_, by simp, cmp_strs_gt (twoS a b) (fun _ _ => two_at), fun v h' tk hP hk => ?_⟩
  · show c < ((s.heap.push _).push _).objs.size
    rw [Heap.size_push, hsz]
    rcases List.mem_cons.mp hc with rfl | hc
    · rw [hsz]; exact Nat.lt_succ_self _
    · rcases List.mem_cons.mp hc with rfl | hc
      · exact Nat.lt_succ_of_lt (Nat.lt_succ_self _)
      · cases hc
  · have hold : ∀ c o, s.heap.get? c = some o → h'.get? c = some o := fun c o e => by
      refine hk c o (fun hm => ?_) (Heap.get?_push_of_some _ (Heap.get?_push_of_some _ e))
      rcases List.mem_cons.mp hm with e1 | hm
      · have := Heap.lt_size e; rw [e1, hsz] at this; exact Nat.lt_irrefl _ (Nat.lt_of_succ_lt this)
      · cases hm
    have := h h' tk hold
    have hP' : (#[Value.str a t, Value.str b u] : Array Value)[argBest (fun i j => decide ((twoS a b j).cps.toList < (twoS a b i).cps.toList)) 1]? = some v := hP
    have e0 : argBest (fun i j => decide ((twoS a b j).cps.toList < (twoS a b i).cps.toList)) 1 = if decide (a.cps.toList < b.cps.toList) = true then 1 else 0 := rfl
    rw [e0] at hP'
    by_cases hba : decide (a.cps.toList < b.cps.toList) = true
    · rw [if_pos hba] at hP' this
      rw [← Option.some.inj (show some (Value.str b u) = some v from hP')]
      exact this
    · rw [if_neg hba] at hP' this
      rw [← Option.some.inj (show some (Value.str a t) = some v from hP')]
      exact this
theorem min_two_str {a b : Str} {t u : Tok} {Q : Value → Shared → Prop} (hh : A.handled = none)
    (h : ∀ h' tk, (∀ c o, s.heap.get? c = some o → h'.get? c = some o) → Q (if decide (b.cps.toList < a.cps.toList) = true then .str b u else .str a t) { s with heap := h', toks := tk }) :
    wpAny (model prog w) A (call (.builtin "min") [.str a t, .str b u]) Q E s := by
  have hT : (s.heap.push { cls := .type "tuple", data := .seq #[.str a t, .str b u] }).IsTuple s.heap.objs.size #[.str a t, .str b u] := ⟨_, Heap.get?_push_size _ rfl, rfl, 0, rfl⟩
  refine call_min_two (wpAny_pyIter_tuple hT ?_)
  have hsz : (s.heap.push { cls := .type "tuple", data := .seq #[.str a t, .str b u] }).objs.size = s.heap.objs.size + 1 := Heap.size_push ..
  refine ⟨_, [_, s.heap.objs.size], [_], _, _, _, _, rfl, Walks.tuple (A := A.in1) hh _ s.heap.objs.size (by rw [hsz]; exact Nat.ne_of_lt (Nat.lt_succ_self _)) #[.str a t, .str b u],
    ⟨⟨_, Heap.get?_push_size _ rfl, rfl, rfl⟩, hT.push _⟩, fun c hc => ?_, by simp, cmp_strs_lt (twoS a b) (fun _ _ => two_at), fun v h' tk hP hk => ?_⟩
  · show c < ((s.heap.push _).push _).objs.size
    rw [Heap.size_push, hsz]
    rcases List.mem_cons.mp hc with rfl | hc
    · rw [hsz]; exact Nat.lt_succ_self _
    · rcases List.mem_cons.mp hc with rfl | hc
      · exact Nat.lt_succ_of_lt (Nat.lt_succ_self _)
      · cases hc
  · have hold : ∀ c o, s.heap.get? c = some o → h'.get? c = some o := fun c o e => by
      refine hk c o (fun hm => ?_) (Heap.get?_push_of_some _ (Heap.get?_push_of_some _ e))
      rcases List.mem_cons.mp hm with e1 | hm
      · have := Heap.lt_size e; rw [e1, hsz] at this; exact Nat.lt_irrefl _ (Nat.lt_of_succ_lt this)
      · cases hm
    have := h h' tk hold
    have hP' : (#[Value.str a t, Value.str b u] : Array Value)[argBest (fun i j => decide ((twoS a b i).cps.toList < (twoS a b j).cps.toList)) 1]? = some v := hP
    have e0 : argBest (fun i j => decide ((twoS a b i).cps.toList < (twoS a b j).cps.toList)) 1 = if decide (b.cps.toList < a.cps.toList) = true then 1 else 0 := rfl
    rw [e0] at hP'
    by_cases hba : decide (b.cps.toList < a.cps.toList) = true
    · rw [if_pos hba] at hP' this
      rw [← Option.some.inj (show some (Value.str b u) = some v from hP')]
      exact this
    · rw [if_neg hba] at hP' this
      rw [← Option.some.inj (show some (Value.str a t) = some v from hP')]
      exact this
end
theorem call_max2S {X : Cx} (hc : X.calm = true) : CallR X (.builtin "max") (fun xs H Q => ∃ a b : Str, xs = [.str a, .str b] ∧ Q (.str (if decide (a.cps.toList < b.cps.toList) = true then b else a)) H) := by
  intro pins s σ H xs us Q I r h
  obtain ⟨a, b, rfl, q⟩ := h
  obtain ⟨u, w', rfl, ⟨t, rfl⟩, ⟨t', rfl⟩⟩ := vals2 r
  refine max_two_str (I.ok.hd hc) fun h' tk k => ⟨_, H, I.kept k, ?_, q⟩
  split
  · exact ⟨t', rfl⟩
  · exact ⟨t, rfl⟩
theorem call_min2S {X : Cx} (hc : X.calm = true) : CallR X (.builtin "min") (fun xs H Q => ∃ a b : Str, xs = [.str a, .str b] ∧ Q (.str (if decide (b.cps.toList < a.cps.toList) = true then b else a)) H) := by
  intro pins s σ H xs us Q I r h
  obtain ⟨a, b, rfl, q⟩ := h
  obtain ⟨u, w', rfl, ⟨t, rfl⟩, ⟨t', rfl⟩⟩ := vals2 r
  refine min_two_str (I.ok.hd hc) fun h' tk k => ⟨_, H, I.kept k, ?_, q⟩
  split
  · exact ⟨t', rfl⟩
  · exact ⟨t, rfl⟩
end Qb
end PySem
namespace PySem
namespace Qb
open PySem.W PySem.Calls PyProof.Rows L2
/-! # lines -/
theorem str_ext {x y : Str} (h : cs x = cs y) : x = y := by
  cases x; cases y
  simp only [cs] at h
  congr 1
  exact Array.toList_inj.mp h
theorem cs_app (x y : Str) : cs (x ++ y) = cs x ++ cs y := TL.tl_append x y
def glue : List (List Nat) → List Nat
  | [] => []
  | [a] => a
  | a :: b :: r => a ++ 10 :: glue (b :: r)
theorem glue_cons (a : List Nat) {r : List (List Nat)} (h : r ≠ []) : glue (a :: r) = a ++ 10 :: glue r := by
  cases r with
  | nil => exact absurd rfl h
  | cons b r => rfl
theorem joinL_glue : ∀ l : List (List Nat), TL.joinL [10] l = glue l
  | [] => rfl
  | [a] => rfl
  | a :: b :: r => by
    show a ++ ([10] ++ TL.joinL [10] (b :: r)) = _
    rw [joinL_glue (b :: r)]
    rfl
def jn (ps : List Str) : Str := Txt.join "\n" ps
theorem jn_cs (ps : List Str) : cs (jn ps) = glue (ps.map cs) := by
  unfold jn
  rw [TL.join_eq]
  have e : cs (Str.join "\n" ps) = TL.joinL (TL.tl "\n") (ps.map TL.tl) := TL.tl_join "\n" ps
  rw [e, show TL.tl "\n" = [10] by decide +kernel, joinL_glue]
/-- no slash in it -/
def Fr (p : Str) : Prop := ¬ 10 ∈ cs p
theorem cut_at {a b c d : List Nat} (ha : ¬ 10 ∈ a) (hb : ¬ 10 ∈ b) (h : a ++ 10 :: c = b ++ 10 :: d) : a = b ∧ c = d := by
  induction a generalizing b with
  | nil =>
    cases b with
    | nil => exact ⟨rfl, (List.cons.inj h).2⟩
    | cons y b =>
      have := (List.cons.inj h).1
      exact absurd (by rw [← this]; exact .head _) hb
  | cons x a ih =>
    cases b with
    | nil =>
      have := (List.cons.inj h).1
      exact absurd (by rw [this]; exact .head _) ha
    | cons y b =>
      obtain ⟨e, h⟩ := List.cons.inj h
      obtain ⟨e1, e2⟩ := ih (fun m => ha (.tail _ m)) (fun m => hb (.tail _ m)) h
      exact ⟨by rw [e, e1], e2⟩
theorem glue_inj : ∀ {l m : List (List Nat)}, l ≠ [] → m ≠ [] → (∀ a ∈ l, ¬ 10 ∈ a) → (∀ a ∈ m, ¬ 10 ∈ a) → glue l = glue m → l = m
  | [], _, h, _, _, _, _ => absurd rfl h
  | _, [], _, h, _, _, _ => absurd rfl h
  | [a], [b], _, _, _, _, e => by
    show [a] = [b]
    rw [show a = b from e]
  | [a], b :: c :: r, _, _, ha, _, e => by
    have e : a = b ++ 10 :: glue (c :: r) := e
    exact absurd (by rw [e]; exact List.mem_append_right _ (.head _)) (ha a (.head _))
  | a :: c :: r, [b], _, _, _, hb, e => by
    have e : a ++ 10 :: glue (c :: r) = b := e
    exact absurd (by rw [← e]; exact List.mem_append_right _ (.head _)) (hb b (.head _))
  | a :: c :: r, b :: d :: s, _, _, ha, hb, e => by
    obtain ⟨e1, e2⟩ := cut_at (ha a (.head _)) (hb b (.head _)) e
    rw [e1, glue_inj (by simp) (by simp) (fun x m => ha x (.tail _ m)) (fun x m => hb x (.tail _ m)) e2]
def sp (x : Str) : List Str := Txt.split x "\n"
theorem nl_eq : ("\n" : Str) = { cps := #[10] } := by decide +kernel
theorem sp_fr (x : Str) : ∀ p ∈ sp x, Fr p := fun p m => by
  unfold sp at m
  rw [nl_eq] at m
  exact StrLaws.split_free x 10 p m
theorem sp_jn (x : Str) : jn (sp x) = x := by
  unfold jn sp
  rw [TL.join_eq]
  exact StrLaws.join_split x "\n"
theorem sp_ne (x : Str) : sp x ≠ [] := fun e => by
  have h := sp_jn x
  rw [e] at h
  have : x = "" := by rw [← h]; decide +kernel
  rw [this] at e
  exact absurd e (by decide +kernel)
theorem map_cs_inj : ∀ {l m : List Str}, l.map cs = m.map cs → l = m
  | [], [], _ => rfl
  | [], _ :: _, h => by cases h
  | _ :: _, [], h => by cases h
  | a :: l, b :: m, h => by
    obtain ⟨e1, e2⟩ := List.cons.inj h
    rw [str_ext e1, map_cs_inj e2]
theorem jn_inj {l m : List Str} (hl : l ≠ []) (hm : m ≠ []) (fl : ∀ p ∈ l, Fr p) (fm : ∀ p ∈ m, Fr p) (e : jn l = jn m) : l = m := by
  have h : glue (l.map cs) = glue (m.map cs) := by rw [← jn_cs, ← jn_cs, e]
  refine map_cs_inj (glue_inj (fun z => hl (List.map_eq_nil_iff.mp z)) (fun z => hm (List.map_eq_nil_iff.mp z)) (fun a ma => ?_) (fun a ma => ?_) h)
  · obtain ⟨p, mp, rfl⟩ := List.mem_map.mp ma
    exact fl p mp
  · obtain ⟨p, mp, rfl⟩ := List.mem_map.mp ma
    exact fm p mp
theorem sp_of {ps : List Str} (h : ps ≠ []) (f : ∀ p ∈ ps, Fr p) : sp (jn ps) = ps := jn_inj (sp_ne _) h (sp_fr _) f (sp_jn _)
theorem glue_app : ∀ {l m : List (List Nat)}, l ≠ [] → m ≠ [] → glue (l ++ m) = glue l ++ 10 :: glue m
  | [], _, h, _ => absurd rfl h
  | [a], m, _, h => glue_cons a h
  | a :: b :: r, m, _, h => by
    show glue (a :: ((b :: r) ++ m)) = (a ++ 10 :: glue (b :: r)) ++ 10 :: glue m
    rw [glue_cons a (by simp), glue_app (by simp) h, List.append_assoc]
    rfl
theorem cs_nl : cs ("\n" : Str) = [10] := by decide +kernel
theorem jn_app {l m : List Str} (hl : l ≠ []) (hm : m ≠ []) : jn (l ++ m) = jn l ++ "\n" ++ jn m := by
  refine str_ext ?_
  rw [cs_app, cs_app, jn_cs, jn_cs, jn_cs, List.map_append, glue_app (fun z => hl (List.map_eq_nil_iff.mp z)) (fun z => hm (List.map_eq_nil_iff.mp z)), cs_nl, List.append_assoc]
  rfl
theorem sp_app (x y : Str) : sp (x ++ "\n" ++ y) = sp x ++ sp y := by
  refine jn_inj (sp_ne _) (fun z => sp_ne x (List.append_eq_nil_iff.mp z).1) (sp_fr _) (fun p m => (List.mem_append.mp m).elim (sp_fr x p) (sp_fr y p)) ?_
  rw [sp_jn, jn_app (sp_ne x) (sp_ne y), sp_jn, sp_jn]
abbrev nS : Str := ""
theorem sp_nil : sp nS = [nS] := by decide +kernel
theorem app_nil (x : Str) : nS ++ x = x := by
  refine str_ext ?_
  rw [cs_app]
  rfl
theorem app_assoc (x y z : Str) : x ++ y ++ z = x ++ (y ++ z) := by
  refine str_ext ?_
  rw [cs_app, cs_app, cs_app, cs_app, List.append_assoc]
theorem glue_len : ∀ (l : List (List Nat)), l.length ≤ (glue l).length + 1 ∧ ∀ a ∈ l, a.length ≤ (glue l).length
  | [] => ⟨Nat.zero_le _, fun a m => by cases m⟩
  | [a] => ⟨by show 1 ≤ a.length + 1; omega, fun b m => by rw [List.mem_singleton.mp m]; exact Nat.le_refl _⟩
  | a :: b :: r => by
    obtain ⟨h1, h2⟩ := glue_len (b :: r)
    have e : (glue (a :: b :: r)).length = a.length + ((glue (b :: r)).length + 1) := by
      show (a ++ 10 :: glue (b :: r)).length = _
      rw [List.length_append, List.length_cons]
    have e2 : (a :: b :: r).length = (b :: r).length + 1 := rfl
    refine ⟨by omega, fun c m => ?_⟩
    rcases List.mem_cons.mp m with rfl | m
    · omega
    · have := h2 c m
      omega
theorem jn_len (ps : List Str) : ps.length ≤ (jn ps).length + 1 ∧ ∀ p ∈ ps, p.length ≤ (jn ps).length := by
  obtain ⟨h1, h2⟩ := glue_len (ps.map cs)
  rw [len_cs (jn ps), jn_cs]
  refine ⟨by simpa using h1, fun p m => ?_⟩
  have z := h2 (cs p) (List.mem_map.mpr ⟨p, m, rfl⟩)
  rw [len_cs p]
  exact z
theorem sp_len (x : Str) : (sp x).length ≤ x.length + 1 ∧ ∀ p ∈ sp x, p.length ≤ x.length := by
  have h := jn_len (sp x)
  rw [sp_jn] at h
  exact h
theorem sum_le {l : List Nat} {m : Nat} (h : ∀ x ∈ l, x ≤ m) : l.sum ≤ l.length * m := by
  induction l with
  | nil => exact Nat.zero_le _
  | cons x l ih =>
    rw [List.sum_cons, List.length_cons, Nat.add_mul]
    have := h x (.head _)
    have := ih fun y m => h y (.tail _ m)
    omega
theorem join_fits {ps : List Str} {n m : Nat} (h1 : ps.length ≤ n) (h2 : ∀ p ∈ ps, p.length ≤ m) (h3 : n * m + n ≤ 16777216) : (ps.map (·.length)).sum + ps.length * ("\n" : Str).length ≤ 16777216 := by
  have z := sum_le (l := ps.map (·.length)) (m := m) fun x hx => by
    obtain ⟨p, mp, rfl⟩ := List.mem_map.mp hx
    exact h2 p mp
  rw [List.length_map] at z
  have e : ("\n" : Str).length = 1 := by decide +kernel
  rw [e]
  have := Nat.mul_le_mul_right m h1
  omega
theorem glue_le : ∀ (l : List (List Nat)), (glue l).length ≤ (l.map (·.length)).sum + l.length
  | [] => Nat.zero_le _
  | [a] => by show a.length ≤ (a.length + 0) + 1; omega
  | a :: b :: r => by
    have h := glue_le (b :: r)
    have e : (glue (a :: b :: r)).length = a.length + ((glue (b :: r)).length + 1) := by
      show (a ++ 10 :: glue (b :: r)).length = _
      rw [List.length_append, List.length_cons]
    rw [e, List.map_cons, List.sum_cons, List.length_cons]
    omega
theorem jn_le {ps : List Str} {n m : Nat} (h1 : ps.length ≤ n) (h2 : ∀ p ∈ ps, p.length ≤ m) : (jn ps).length ≤ n * m + n := by
  have z := glue_le (ps.map cs)
  rw [← jn_cs, ← len_cs, List.length_map, List.map_map] at z
  have y := sum_le (l := ps.map ((·.length) ∘ cs)) (m := m) fun x hx => by
    obtain ⟨p, mp, rfl⟩ := List.mem_map.mp hx
    have := h2 p mp
    rw [len_cs] at this
    exact this
  rw [List.length_map] at y
  have := Nat.mul_le_mul_right m h1
  omega
/-- each line and its end -/
def tx (zs : List Str) : Str := jn (zs ++ [nS])
theorem glue_end : ∀ l : List (List Nat), glue (l ++ [[]]) = (l.map (· ++ [10])).flatten
  | [] => rfl
  | a :: l => by
    rw [List.cons_append, glue_cons a (by simp), glue_end l, List.map_cons, List.flatten_cons, List.append_assoc]
    rfl
theorem tx_cs (zs : List Str) : cs (tx zs) = (zs.map fun z => cs z ++ [10]).flatten := by
  unfold tx
  rw [jn_cs, List.map_append]
  have e : ([nS].map cs) = [[]] := rfl
  rw [e, glue_end, List.map_map]
  rfl
theorem joinE_cs : ∀ l : List (List Nat), TL.joinL [] l = l.flatten
  | [] => rfl
  | [a] => by
    show a = a ++ []
    rw [List.append_nil]
  | a :: b :: r => by
    show a ++ ([] ++ TL.joinL [] (b :: r)) = _
    rw [joinE_cs (b :: r)]
    rfl
theorem join_cs (l : List Str) : cs (Txt.join "" l) = (l.map cs).flatten := by
  rw [TL.join_eq]
  have e : cs (Str.join "" l) = TL.joinL (TL.tl "") (l.map TL.tl) := TL.tl_join "" l
  rw [e, show TL.tl "" = [] by decide +kernel, joinE_cs]
  try rfl
theorem tx_join (zs : List Str) : Txt.join "" (zs.map (· ++ "\n")) = tx zs := by
  refine str_ext ?_
  rw [join_cs, tx_cs, List.map_map]
  congr 1
  refine List.map_congr_left fun z _ => ?_
  show cs (z ++ "\n") = _
  rw [cs_app, cs_nl]
/-- the lines that a text tells -/
def TxOf (x : Str) (zs : List Str) : Prop := (∀ p ∈ zs, Fr p) ∧ (x = tx zs ∨ (x = jn zs ∧ zs ≠ [] ∧ zs.getLast? ≠ some nS))
theorem fr_nS : Fr nS := fun m => nomatch m
theorem lines_tx {x : Str} {zs : List Str} (h : TxOf x zs) : (if (sp x).getLast? = some nS then (sp x).dropLast else sp x) = zs := by
  obtain ⟨f, rfl | ⟨rfl, ne, nl⟩⟩ := h
  · unfold tx
    rw [sp_of (by simp) fun p m => (List.mem_append.mp m).elim (f p) fun m => by rw [List.mem_singleton.mp m]; exact fr_nS]
    rw [if_pos (by simp), List.dropLast_concat]
  · rw [sp_of ne f, if_neg nl]
end Qb
end PySem
namespace PySem
namespace Qb
open PySem.W PySem.Calls PyProof.Rows L2
/-! # comprehensions of flat values -/
section
variable {J : It} {n : Nat} {G : Hp → Prop} {Y : Nat → Hp → V → Hp → Prop}
theorem lc_vals (wk : Walk J n G Y) {g : TG} {te : TE} {vs : List Nat} {σ : L2.St} {H : Hp} {D : Addr} {Qd : Hp → Prop} (val : Nat → V) (hD : H D = none) (hn : n ≤ 1000000) (hG : ∀ H', Same H H' → G H') (hY : ∀ i x H1 H', i < n → Y i H1 x H' → Same H1 H')
    (turn : ∀ (i : Nat) (x : V) (H1 H' : Hp) (Q : VK), i < n → Same H H1 → Y i H1 x H' → (∀ H4, Same H' H4 → Q (val i) H4) → g x (wipe σ vs) H' fun σ2 H2 => wipe σ2 vs = wipe σ vs ∧ te σ2 H2 Q)
    (hd : ∀ H', Same H H' → H' D = some (.lst ((List.range n).map val)) → Qd H') :
    ∃ W : Nat → Nat → Hp → Prop, (∃ m, W 0 m (L2.upd H D (.lst []))) ∧ ∀ i m H, W i m H →
      (J.stop i H ∧ Qd H) ∨ (J.go i H ∧ ∃ Nx : Hp → Prop, (∀ H', Nx H' → ∃ m', m' < m ∧ W (i + 1) m' H') ∧ ∀ x H', J.yld i H x H' → g x (wipe σ vs) H' fun σ2 H2 => wipe σ2 vs = wipe σ vs ∧ tYes σ2 H2 fun b H3 =>
        if b = true then te σ2 H3 fun y H4 => ∃ acc, H4 D = some (.lst acc) ∧ acc.length < sizeLine ∧ Nx (L2.upd H4 D (.lst (acc ++ [y]))) else Nx H3) := by
  refine lc_it wk (fun i H' => Same H H' ∧ H' D = some (.lst ((List.range i).map val))) ⟨same_upd hD, upd_same⟩ (fun i H' _ e => hG _ e.1) (fun i x H' H2 hi e y => ?_) (fun H' e => hd H' e.1 e.2)
  obtain ⟨s1, h1⟩ := e
  have sY := hY i x H' H2 hi y
  refine turn i x H' H2 _ hi s1 y fun H4 s4 => ⟨_, s4 _ _ (sY _ _ h1), ?_, same_upd2 ((s1.trans sY).trans s4) hD, ?_⟩
  · rw [List.length_map, List.length_range, sizeLine_eq]
    omega
  · rw [upd_same, List.range_succ, List.map_append]
    rfl
theorem lc_sel (wk : Walk J n G Y) {g : TG} {tt : TT} {te : TE} {vs : List Nat} {σ : L2.St} {H : Hp} {D : Addr} {Qd : Hp → Prop} (val : Nat → V) (keep : Nat → Bool) (hD : H D = none) (hn : n ≤ 1000000) (hG : ∀ H', Same H H' → G H') (hY : ∀ i x H1 H', i < n → Y i H1 x H' → Same H1 H')
    (turn : ∀ (i : Nat) (x : V) (H1 H' : Hp) (Q : VK) (Qn : Hp → Prop), i < n → Same H H1 → Y i H1 x H' → (∀ H4, Same H' H4 → keep i = true → Q (val i) H4) → (∀ H4, Same H' H4 → keep i = false → Qn H4) →
      g x (wipe σ vs) H' fun σ2 H2 => wipe σ2 vs = wipe σ vs ∧ tt σ2 H2 fun b H3 => if b = true then te σ2 H3 Q else Qn H3)
    (hd : ∀ H', Same H H' → H' D = some (.lst (((List.range n).filter keep).map val)) → Qd H') :
    ∃ W : Nat → Nat → Hp → Prop, (∃ m, W 0 m (L2.upd H D (.lst []))) ∧ ∀ i m H, W i m H →
      (J.stop i H ∧ Qd H) ∨ (J.go i H ∧ ∃ Nx : Hp → Prop, (∀ H', Nx H' → ∃ m', m' < m ∧ W (i + 1) m' H') ∧ ∀ x H', J.yld i H x H' → g x (wipe σ vs) H' fun σ2 H2 => wipe σ2 vs = wipe σ vs ∧ tt σ2 H2 fun b H3 =>
        if b = true then te σ2 H3 fun y H4 => ∃ acc, H4 D = some (.lst acc) ∧ acc.length < sizeLine ∧ Nx (L2.upd H4 D (.lst (acc ++ [y]))) else Nx H3) := by
  refine lc_it wk (fun i H' => Same H H' ∧ H' D = some (.lst (((List.range i).filter keep).map val))) ⟨same_upd hD, upd_same⟩ (fun i H' _ e => hG _ e.1) (fun i x H' H2 hi e y => ?_) (fun H' e => hd H' e.1 e.2)
  obtain ⟨s1, h1⟩ := e
  have sY := hY i x H' H2 hi y
  refine turn i x H' H2 _ _ hi s1 y (fun H4 s4 e => ⟨_, s4 _ _ (sY _ _ h1), ?_, same_upd2 ((s1.trans sY).trans s4) hD, ?_⟩) (fun H4 s4 e => ⟨(s1.trans sY).trans s4, ?_⟩)
  · have := List.length_filter_le keep (List.range i)
    rw [List.length_range] at this
    rw [List.length_map, sizeLine_eq]
    omega
  · rw [upd_same, List.range_succ, List.filter_append, List.map_append, List.filter_cons_of_pos e]
    rfl
  · rw [s4 _ _ (sY _ _ h1), List.range_succ, List.filter_append, List.map_append, List.filter_cons_of_neg (by rw [e]; decide)]
    simp
end
/-! # the ends of a part joined -/
def tWeak (t : TS) : TS := fun D σ H => ∃ G : L2.St → Hp → Prop, (∀ σ' H', G σ' H' → D.nx σ' H') ∧ t { D with nx := G } σ H
theorem ps_weak {X : Cx} {st : Stmt} {t : TS} (h : PS X st t) : PS X st (tWeak t) := by
  refine ⟨fun pins s σ H D I ⟨G, hG, q⟩ => wpAny_mono (h.run pins s σ H { D with nx := G } I q) (fun fl s1 hs => ?_) fun _ _ y => y⟩
  cases fl with
  | next =>
    obtain ⟨σ1, H1, J, z⟩ := hs
    exact ⟨σ1, H1, J, hG _ _ z⟩
  | brk => exact hs
  | cont => exact hs
  | ret u => exact hs
def tWeakE (t : TE) : TE := fun σ H Q => ∃ G : V → Hp → Prop, (∀ v H', G v H' → Q v H') ∧ t σ H G
theorem pe_weak {X : Cx} {e : Expr} {t : TE} (h : PE X e t) : PE X e (tWeakE t) :=
  ⟨fun pins s σ H Q I ⟨G, hG, q⟩ => thn (h.run pins s σ H G I q) fun u s1 ⟨v, H1, I1, r, z⟩ => ⟨v, H1, I1, r, hG _ _ z⟩⟩
def tWeakT (t : TT) : TT := fun σ H Q => ∃ (b : Bool) (G : Hp → Prop), (∀ H', G H' → Q b H') ∧ t σ H fun c H' => c = b ∧ G H'
theorem pt_weak {X : Cx} {e : Expr} {t : TT} (h : PT X e t) : PT X e (tWeakT t) :=
  ⟨fun pins s σ H Q I ⟨b, G, hG, q⟩ => thn (h.run pins s σ H _ I q) fun c s1 ⟨H1, I1, z⟩ => ⟨H1, I1, by rw [z.1]; exact hG _ z.2⟩⟩
/-- what a thing at d holds is not written to from here on -/
def tFrz (t : TS) : TS := fun D σ H => ∃ d u, H d = some u ∧ Mut (some u) ∧ ∀ od, t D σ (L2.upd H d (.frz od u))
theorem ps_frz {X : Cx} {st : Stmt} {t : TS} (h : PS X st t) : PS X st (tFrz t) := by
  refine ⟨fun pins s σ H D I hw => ?_⟩
  obtain ⟨d, u, hd, mu, hw⟩ := hw
  obtain ⟨od, I1⟩ := I.lock hd mu
  exact h.run pins s σ _ D I1 (hw od)
theorem none_of {H H' : Hp} {a : Addr} (s : Same H H') (h : H' a = none) : H a = none := by
  cases e : H a with
  | none => rfl
  | some o =>
    rw [s _ _ e] at h
    cases h
theorem ne_new {H : Hp} {a b : Addr} {o : HO} (h : H a = some o) (n : H b = none) : a ≠ b := fun z => by
  rw [z, n] at h
  cases h
theorem cutV_last (xs : List V) : cutV xs none (some (-1)) = xs.dropLast := by
  unfold cutV
  have h0 : HT.sIx xs.length 0 none = 0 := rfl
  have h1 : HT.sIx xs.length xs.length (some (-1)) = xs.length - 1 := by
    unfold HT.sIx
    simp
    omega
  rw [h0, h1, List.drop_zero, Nat.sub_zero, List.dropLast_eq_take]
theorem str_at {l : List Str} {i : Nat} {v : V} (h : (l.map V.str)[i]? = some v) : ∃ x, l[i]? = some x ∧ v = .str x := by
  rw [List.getElem?_map] at h
  obtain ⟨z, e1, e2⟩ := Option.map_eq_some_iff.mp h
  exact ⟨z, e1, e2.symm⟩
theorem range_at {α β : Type} {l : List α} {f : α → β} {val : Nat → β} (h : ∀ i x, l[i]? = some x → val i = f x) : (List.range l.length).map val = l.map f := by
  refine List.ext_getElem? fun i => ?_
  rw [List.getElem?_map, List.getElem?_map]
  by_cases hi : i < l.length
  · rw [List.getElem?_range hi, List.getElem?_eq_getElem hi]
    exact congrArg some (h i _ (List.getElem?_eq_getElem hi))
  · rw [List.getElem?_eq_none (by simpa using hi), List.getElem?_eq_none (by omega)]
    rfl
theorem range_filter {α β : Type} {l : List α} {f : α → β} {p : α → Bool} {val : Nat → β} {keep : Nat → Bool} (h : ∀ i x, l[i]? = some x → val i = f x ∧ keep i = p x) : ((List.range l.length).filter keep).map val = (l.filter p).map f := by
  have key : ∀ k, k ≤ l.length → ((List.range k).filter keep).map val = ((l.take k).filter p).map f := by
    intro k
    induction k with
    | zero => intro _; rfl
    | succ k ih =>
      intro hk
      have ex : l[k]? = some l[k] := List.getElem?_eq_getElem (by omega)
      obtain ⟨e1, e2⟩ := h k _ ex
      rw [List.range_succ, take_snoc ex, List.filter_append, List.filter_append, List.map_append, List.map_append, ih (by omega)]
      congr 1
      by_cases q : p l[k] = true
      · rw [List.filter_cons_of_pos (by rw [e2]; exact q), List.filter_cons_of_pos q]
        show [val k] = [f l[k]]
        rw [e1]
      · rw [List.filter_cons_of_neg (by rw [e2]; exact q), List.filter_cons_of_neg q]
        rfl
  have z := key l.length (Nat.le_refl _)
  rw [List.take_length] at z
  exact z
end Qb
end PySem
namespace PySem
namespace Qb
open PySem.W PySem.Calls PyProof.Rows L2
/-! # lines, signs put as others -/
structure BltZ (mg : Str → Option Value) : Prop where
  set : mg "set" = none
  sorted : mg "sorted" = none
  dict : mg "dict" = none
abbrev L := List Nat
def st (l : L) : Str := ⟨l.toArray⟩
theorem cs_st (l : L) : cs (st l) = l := by simp [st, cs]
theorem st_cs (x : Str) : st (cs x) = x := by
  obtain ⟨a⟩ := x
  show (⟨a.toList.toArray⟩ : Str) = ⟨a⟩
  rw [Array.toArray_toList]
theorem len_st (l : L) : (st l).length = l.length := by rw [len_cs, cs_st]
theorem dec_str (x y : Str) : decide (V.str x = V.str y) = decide (x = y) := by
  by_cases h : x = y
  · rw [decide_eq_true h, decide_eq_true (congrArg V.str h)]
  · rw [decide_eq_false h, decide_eq_false fun z => h (V.str.inj z)]
theorem la_str (a b : Str) : (a ++ b).length = a.length + b.length := by rw [len_cs, cs_app, List.length_append, ← len_cs, ← len_cs]
def nlS : Str := "\n"
theorem nl_len : nlS.length = 1 := by decide +kernel
theorem last_of {α : Type} : ∀ (l : List α), l ≠ [] → ∃ i z, l = i ++ [z] := fun l n => ⟨l.dropLast, l.getLast n, (List.dropLast_concat_getLast n).symm⟩
theorem line_small {n : Nat} (h : n ≤ 1000000) : n ≤ sizeLine := by
  rw [sizeLine_eq]
  omega
theorem strs_all {K : Frag} {H : Hp} : ∀ l : List Str, DpAll K H (l.map V.str) (l.map PyData.str)
  | [] => .nil
  | x :: l => .cons (.str x) (strs_all l)
theorem cutV_to (xs : List V) (i : Nat) : cutV xs none (some ((i : Nat) : Int)) = xs.take i := by
  unfold cutV
  rw [HT.sIx_nat, show HT.sIx xs.length 0 none = 0 by rfl, List.drop_zero, Nat.sub_zero]
  by_cases h : i ≤ xs.length
  · rw [Nat.min_eq_left h]
  · rw [Nat.min_eq_right (by omega), List.take_of_length_le (Nat.le_refl _), List.take_of_length_le (by omega)]
theorem cutV_from (xs : List V) (i : Nat) : cutV xs (some ((i : Nat) : Int)) none = xs.drop i := by
  unfold cutV
  rw [HT.sIx_nat, show HT.sIx xs.length xs.length none = xs.length by rfl]
  by_cases h : i ≤ xs.length
  · rw [Nat.min_eq_left h, List.take_of_length_le (by rw [List.length_drop]; exact Nat.le_refl _)]
  · rw [Nat.min_eq_right (by omega), List.drop_eq_nil_of_le (Nat.le_refl _), List.drop_eq_nil_of_le (by omega)]
    simp
def swC (ms : List (Nat × Nat)) (c : Nat) : Nat := ((ms.find? fun p => decide (p.1 = c)).map (·.2)).getD c
def swF (ms : List (Nat × Nat)) (x : Str) : Str := st ((cs x).map (swC ms))
def kvS (ms : List (Nat × Nat)) : List (Key × V) := ms.map fun p => (.inr (⟨#[p.1]⟩ : Str), .str ⟨#[p.2]⟩)
theorem valS (ms : List (Nat × Nat)) (c : Nat) : valV (kvS ms) (.inr (⟨#[c]⟩ : Str)) = (ms.find? fun p => decide (p.1 = c)).map fun p => V.str ⟨#[p.2]⟩ := by
  unfold valV kvS
  rw [List.find?_map, Option.map_map]
  have : ((fun p : Key × V => decide (p.1 = .inr (⟨#[c]⟩ : Str))) ∘ fun p : Nat × Nat => ((.inr (⟨#[p.1]⟩ : Str), .str ⟨#[p.2]⟩) : Key × V)) = fun p => decide (p.1 = c) := by
    funext p
    refine decide_eq_decide.mpr ⟨fun h => ?_, fun h => by show (Sum.inr _ : Key) = _; rw [h]⟩
    have h := Sum.inr.inj h
    have := congrArg cs h
    exact (List.cons.inj this).1
  rw [this]
  rfl
def spLf : Sp := fun vs H Q _ => ∃ (x : Str) (zs : List Str), vs = [.str x] ∧ TxOf x zs ∧ x.length ≤ 100000 ∧ ∀ H' p, Same H H' → H p = none → H' p = some (.lst (zs.map V.str)) → Q (.ref p) H'
def spTf (K : Frag) : Sp := fun vs H Q _ => ∃ (a : Addr) (zs : List Str), vs = [.ref a] ∧ SqL K H a (zs.map V.str) ∧ zs.length ≤ 1000 ∧ (∀ z ∈ zs, z.length ≤ 1000) ∧ ∀ H', Same H H' → Q (.str (tx zs)) H'
def spSw : Sp := fun vs H Q _ => ∃ (x : Str) (d : Addr) (ms : List (Nat × Nat)), vs = [.str x, .ref d] ∧ x.length ≤ 100000 ∧ H d = some (.dK (kvS ms)) ∧ ∀ H', Same H H' → Q (.str (swF ms x)) H'
theorem out_sum {zs : List Str} (l : zs.length ≤ 1000) (h : ∀ z ∈ zs, z.length ≤ 1000) : ((zs.map (· ++ nlS)).map (·.length)).sum ≤ 1001000 := by
  have z := sum_le (l := (zs.map (· ++ nlS)).map (·.length)) (m := 1001) fun x hx => by
    obtain ⟨y, my, rfl⟩ := List.mem_map.mp hx
    obtain ⟨u, mu, rfl⟩ := List.mem_map.mp my
    have := h u mu
    show (u ++ nlS).length ≤ 1001
    rw [la_str, nl_len]
    omega
  rw [List.length_map, List.length_map] at z
  have := Nat.mul_le_mul_right 1001 l
  omega
section
variable {P : Program} {w : World} {K : Frag} {mg : Str → Option Value} {base : Heap}
abbrev sLf : Stmt := top 19
abbrev nLf : List Str := ["text", "lines"]
theorem scLf : FnScope nLf ["text"] (defScope sLf) := ⟨rfl, rfl, rfl, by decide +kernel, rfl, by decide +kernel, by decide +kernel⟩
theorem has_Lf {f : Addr} {fd : FuncData}  (F : Fun K "lines_of" "lines_of" sLf f fd) (g : mg "lines_of" = some (.ref f)) (B : Blt mg)  :
    Has P w K mg base 1 "lines_of" ["text"] (spLf) := by
  refine has_of F g (F.binds (ps := ["text"]) fun _ _ _ _ _ _ us hl => match us, hl with | [_], _ => rfl) (F.ok scLf (fun vs H Q E h => ?_) (fun cdv A outer s H vs Q E hr h => ?_))
  · obtain ⟨x, zs, rfl, _⟩ := h
    rfl
  · refine ⟨_, (pss_cons (ps_set (i := 1) scLf.nd rfl (.inl rfl) (pe_bm PySem.F.plainAttrs_str PySem.F.slot_str_split PySem.F.type_str_split mt_split (pv 0) (pa_cons pe_str pa_nil)))
        (pss_one (ps_ret (pe_ifExp (pt_cmpR op_eq (pe_ix ix_list (pv 1) (pe_un un_neg pe_int) (fun _ _ => rfl)) pe_str (nomark _)) (pe_slice sl_list (pv 1) po_none (po_some (pe_un un_neg pe_int))) (pv 1))))), ?_⟩
    obtain ⟨x, zs, rfl, tz, lx, k⟩ := h
    have ez := lines_tx tz
    have en := sp_ne x
    refine ⟨_, rfl, rfl, x, "\n", rfl, rfl, by decide +kernel, by rw [sizeLine_eq]; omega, fun q nq => ?_⟩
    rw [show Txt.split x "\n" = sp x from rfl]
    have sq := same_upd (o := .lst ((sp x).map V.str)) nq
    have hq : (L2.upd H q (.lst ((sp x).map V.str))) q = some (.lst ((sp x).map V.str)) := upd_same
    generalize L2.upd H q (.lst ((sp x).map V.str)) = H1 at sq hq ⊢
    obtain ⟨ps, z, ep⟩ := last_of (sp x) en
    have la : atI ((sp x).map V.str) (-1) = some (V.str z) := by
      rw [ep, List.map_append]
      exact atI_last _ _
    rw [ep, List.getLast?_concat, List.dropLast_concat] at ez
    refine ⟨_, rfl, 1, rfl, q, _, -1, _, rfl, rfl, SqL.of hq, la, rfl, _, rfl, ?_⟩
    by_cases zn : z = ""
    · rw [if_pos (by rw [zn] <;> rfl)] at ez
      refine if_yes (by rw [zn]; decide +kernel) ⟨_, rfl, _, rfl, _, rfl, q, _, rfl, SqL.of hq, fun p np => ?_⟩
      have ec : cutV ((sp x).map V.str) none (some (-1)) = zs.map V.str := by
        rw [cutV_last, ep, List.map_append, ← ez]
        exact List.dropLast_concat ..
      rw [ec]
      exact k _ p (sq.trans (same_upd np)) (none_of sq np) upd_same
    · rw [if_neg (fun h => zn (Option.some.inj h))] at ez
      refine if_no (decide_eq_false fun h => zn (V.str.inj h)) ⟨_, rfl, k H1 q sq nq ?_⟩
      rw [hq, ep, ez]
abbrev sTf : Stmt := top 20
abbrev nTf : List Str := ["lines", "line"]
theorem scTf : FnScope nTf ["lines"] (defScope sTf) := ⟨rfl, rfl, rfl, by decide +kernel, rfl, by decide +kernel, by decide +kernel⟩
theorem has_Tf {f : Addr} {fd : FuncData}  (F : Fun K "text_of" "text_of" sTf f fd) (g : mg "text_of" = some (.ref f)) (B : Blt mg)  :
    Has P w K mg base 1 "text_of" ["lines"] (spTf K) := by
  refine has_of F g (F.binds (ps := ["lines"]) fun _ _ _ _ _ _ us hl => match us, hl with | [_], _ => rfl) (F.ok scTf (fun vs H Q E h => ?_) (fun cdv A outer s H vs Q E hr h => ?_))
  · obtain ⟨a, zs, rfl, _⟩ := h
    rfl
  · refine ⟨_, (pss_one (ps_ret (pe_join pe_str (pe_lc (own := [("line", 1)]) (g := gName 1) (tt := tYes) rfl scTf.nd (pi_list (pv 0)) (blkOk_by (N := nTf) (sc := defScope sTf) (by decide +kernel)) (fun _ _ _ _ _ => pg_name (i := 1) scTf.nd rfl (.inl rfl)) (fun _ _ _ _ _ => pts_nil) (fun _ _ _ _ _ => (pe_op op_add_str (pv 1) pe_str)))))), ?_⟩
    obtain ⟨a, zs, rfl, hq, hl, hz, k⟩ := h
    have lz : (zs.map V.str).length = zs.length := List.length_map ..
    refine ⟨⟨_, rfl⟩, _, rfl, a, rfl, ⟨_, hq⟩, fun D hD => ?_⟩
    refine lc_it (walk_list (xs := zs.map V.str)) (fun i H' => Same H H' ∧ H' D = some (.lst (((zs.map (· ++ nlS)).take i).map V.str))) ⟨same_upd hD, upd_same⟩ (fun i H' _ e => e.1.seq hq) (fun i x H1 H' hi e yy => ?_) (fun H' e => ?_)
    · obtain ⟨s1, hd1⟩ := e
      obtain ⟨rfl, hx⟩ := yy
      rw [List.getElem?_map] at hx
      obtain ⟨z, hz1, rfl⟩ := Option.map_eq_some_iff.mp hx
      have zl := hz z (List.mem_of_getElem? hz1)
      refine ⟨rfl, _, rfl, _, _, rfl, rfl, by rw [sizeLine_eq, show (("\n" : Str)).length = 1 from nl_len]; omega, _, hd1, ?_, same_upd2 s1 hD, ?_⟩
      · rw [List.length_map, List.length_take, List.length_map, sizeLine_eq]
        omega
      · rw [upd_same, take_snoc (x := z ++ nlS) (by rw [List.getElem?_map, hz1]; rfl), List.map_append]
        rfl
    · obtain ⟨s1, hd1⟩ := e
      rw [lz, List.take_of_length_le (by rw [List.length_map]; exact Nat.le_refl _)] at hd1
      refine ⟨"", D, zs.map (· ++ nlS), rfl, rfl, .inl (SqL.of hd1), ?_, (by have e := tx_join zs; rw [show (zs.map (· ++ nlS)) = zs.map (fun x => x ++ ("\n" : Str)) from rfl, e]; exact k H' s1)⟩
      have := out_sum hl hz
      rw [show ("" : Str).length = 0 from by decide +kernel]
      omega
abbrev sSw : Stmt := top 22
abbrev nSw : List Str := ["line", "table", "sign"]
theorem scSw : FnScope nSw ["line", "table"] (defScope sSw) := ⟨rfl, rfl, rfl, by decide +kernel, rfl, by decide +kernel, by decide +kernel⟩
theorem has_Sw {f : Addr} {fd : FuncData}  (F : Fun K "swapped" "swapped" sSw f fd) (g : mg "swapped" = some (.ref f)) (B : Blt mg)  :
    Has P w K mg base 1 "swapped" ["line", "table"] (spSw) := by
  refine has_of F g (F.binds (ps := ["line", "table"]) fun _ _ _ _ _ _ us hl => match us, hl with | [_, _], _ => rfl) (F.ok scSw (fun vs H Q E h => ?_) (fun cdv A outer s H vs Q E hr h => ?_))
  · obtain ⟨x, d, ms, rfl, _⟩ := h
    rfl
  · have hu := hu_of hr
    refine ⟨_, (pss_one (ps_ret (pe_join pe_str (pe_lc (own := [("sign", 2)]) (g := gName 2) (tt := tYes) rfl scSw.nd (pi_str (pv 0)) (blkOk_by (N := nSw) (sc := defScope sSw) (by decide +kernel)) (fun _ _ _ _ _ => pg_name (i := 2) scSw.nd rfl (.inl rfl)) (fun _ _ _ _ _ => pts_nil) (fun _ _ _ _ _ => (pe_dget2 hu (pv 1) (pv 2) (pv 2) ⟨rfl, rfl, rfl, rfl⟩)))))), ?_⟩
    obtain ⟨x, d, ms, rfl, lx, hd, k⟩ := h
    refine ⟨⟨_, rfl⟩, _, rfl, x, rfl, fun D hD => ?_⟩
    refine lc_it walk_str (fun i H1 => Same H H1 ∧ H1 D = some (.lst (((cs x).take i).map fun c => V.str ⟨#[swC ms c]⟩))) ⟨same_upd hD, upd_same⟩ (fun _ _ _ _ => trivial) (fun i v H1 H2 hi e yy => ?_) (fun H1 e => ?_)
    · obtain ⟨rfl, c, hc, rfl⟩ := yy
      obtain ⟨s1, h1⟩ := e
      have hc' : (cs x)[i]? = some c := by simpa using hc
      have hd1 := s1 _ _ hd
      have key : valV (kvS ms) (.inr (⟨#[c]⟩ : Str)) = (ms.find? fun p => decide (p.1 = c)).map fun p => V.str ⟨#[p.2]⟩ := valS ms c
      refine ⟨rfl, _, rfl, d, rfl, .inl ⟨_, .inl hd1⟩, _, rfl, _, rfl, _, DGet.k (k := .inr (⟨#[c]⟩ : Str)) hd1, ?_⟩
      rw [key]
      have fin : ((ms.find? fun p => decide (p.1 = c)).map fun p => V.str ⟨#[p.2]⟩).getD (.str ⟨#[c]⟩) = V.str ⟨#[swC ms c]⟩ := by
        unfold swC
        cases ms.find? fun p => decide (p.1 = c) <;> rfl
      rw [fin]
      refine ⟨_, h1, ?_, same_upd2 s1 hD, ?_⟩
      · rw [List.length_map, List.length_take, sizeLine_eq]
        have := len_cs x
        omega
      · rw [upd_same, take_snoc hc', List.map_append]
        rfl
    · obtain ⟨s1, h1⟩ := e
      have e2 : (cs x).take x.cps.size = cs x := List.take_of_length_le (by simp)
      rw [e2] at h1
      refine ⟨"", D, (cs x).map fun c => (⟨#[swC ms c]⟩ : Str), rfl, rfl, .inl (SqL.of (by rw [h1, List.map_map]; rfl)), ?_, ?_⟩
      · have z := sum_le (l := ((cs x).map fun c => (⟨#[swC ms c]⟩ : Str)).map (·.length)) (m := 1) fun n hn => by
          obtain ⟨y, my, rfl⟩ := List.mem_map.mp hn
          obtain ⟨c, _, rfl⟩ := List.mem_map.mp my
          exact Nat.le_refl _
        rw [List.length_map, List.length_map] at z
        have := len_cs x
        rw [show ("" : Str).length = 0 from by decide +kernel]
        omega
      · have e : Txt.join "" ((cs x).map fun c => (⟨#[swC ms c]⟩ : Str)) = swF ms x := by
          refine str_ext ?_
          rw [join_cs, List.map_map]
          unfold swF
          rw [cs_st]
          show ((cs x).map fun c => [swC ms c]).flatten = (cs x).map (swC ms)
          induction cs x with
          | nil => rfl
          | cons c r ih => rw [List.map_cons, List.flatten_cons, ih]; rfl
        rw [e]
        exact k H1 s1
end
end Qb
end PySem
namespace PySem
namespace Qb
open PySem.W PySem.Calls PyProof.Rows L2
/-! # the lines that a filter makes of some lines -/
noncomputable def mB (ps : List Pt) (z : Str) : Bool := @decide (M ps (cs z)) (Classical.propDecidable _)
theorem mB_iff (ps : List Pt) (z : Str) : mB ps z = true ↔ M ps (cs z) := by
  unfold mB
  exact @decide_eq_true_iff _ (Classical.propDecidable _)
def natS (n : Nat) : Str := toString ((n : Nat) : Int)
def isNew (xs : List Str) (i : Nat) : Bool := decide (i = 0) || !decide (xs.getD (i - 1) "" = xs.getD i "")
def onceT (xs : List Str) : Nat → List Str
  | 0 => []
  | i + 1 => onceT xs i ++ (if isNew xs i = true then [xs.getD i ""] else [])
def numT' (xs : List Str) : Nat → List Str
  | 0 => []
  | i + 1 => numT' xs i ++ [natS (i + 1) ++ " " ++ xs.getD i ""]
theorem log_few {n : Nat} (h : n ≤ 1000) : (((n : Nat) : Int)).natAbs.log2 < 1920 := by
  rw [Int.natAbs_natCast]
  exact Nat.lt_of_le_of_lt (Nat.log2_le_self _) (by omega)
theorem onceT_len (xs : List Str) : ∀ i, (onceT xs i).length ≤ i
  | 0 => Nat.le_refl _
  | i + 1 => by
    have ih := onceT_len xs i
    rw [onceT, List.length_append]
    split
    · rw [List.length_singleton]
      omega
    · rw [List.length_nil]
      omega
theorem numT_len (xs : List Str) : ∀ i, (numT' xs i).length = i
  | 0 => rfl
  | i + 1 => by rw [numT', List.length_append, numT_len xs i]; rfl
theorem natS_cs (n : Nat) : cs (natS n) = TL.numL n := TL.tl_num n
theorem natS_len {n : Nat} (h : n < 100000) : (natS n).length ≤ 5 := by
  rw [len_cs, natS_cs]
  exact TL.numL_len (by decide) h
theorem pair_map {α β γ : Type} {F : α → β → Prop} {G : α → γ → Prop} {f : β → γ} : ∀ {l : List α} {r : List β}, Paired F l r → (∀ a b, F a b → G a (f b)) → Paired G l (r.map f)
  | _, _, .nil, _ => .nil
  | _, _, .cons z t, h => .cons (h _ _ z) (pair_map t h)
def rDictP (K : Frag) : List V → Hp → VK → Prop := fun xs H Q => ∃ (a : Addr) (ps : List Addr) (kvs : List (Key × V)), xs = [.ref a] ∧ SqL K H a (ps.map V.ref) ∧ Paired (fun p kv => SqT K H p [kV kv.1, kv.2]) ps kvs ∧
    ∀ p, H p = none → Q (.ref p) (L2.upd H p (.dK (mergeK [] kvs)))
theorem litcap1 {c m : Str} {v : V} {H : Hp} {Q : Option (List V) → Prop} (h : m = c → Q (some [v])) (n : ¬ m = c → Q none) : rEach [rLit c, rCap] [.str m, v] H Q := by
  refine ⟨m, rfl, ?_⟩
  by_cases e1 : m = c
  · rw [if_pos e1]
    exact h e1
  rw [if_neg e1]
  exact n e1
theorem lit1 {c m : Str} {H : Hp} {Q : Option (List V) → Prop} (h : m = c → Q (some [])) (n : ¬ m = c → Q none) : rEach [rLit c] [.str m] H Q := by
  refine ⟨m, rfl, ?_⟩
  by_cases e1 : m = c
  · rw [if_pos e1]
    exact h e1
  rw [if_neg e1]
  exact n e1
def patW (b : Bool) : Str := if b then "keep" else "drop"
def numW (b : Bool) : Str := if b then "first" else "last"
def isWord (x : Str) : Prop := x = "order" ∨ x = "once" ∨ x = "count" ∨ x = "number"
theorem or2cap {c d m : Str} {v : V} {H : Hp} {Q : Option (List V) → Prop} (h : m = c ∨ m = d → Q (some [v])) (n : ¬ (m = c ∨ m = d) → Q none) : rEach [rOr [rLit c, rLit d], rCap] [.str m, v] H Q := by
  refine ⟨m, rfl, ?_⟩
  by_cases e1 : m = c
  · rw [if_pos e1]
    exact h (.inl e1)
  rw [if_neg e1]
  refine ⟨m, rfl, ?_⟩
  by_cases e2 : m = d
  · rw [if_pos e2]
    exact h (.inr e2)
  rw [if_neg e2]
  exact n (by rintro (z | z) <;> contradiction)
theorem pair_snoc {α β : Type} {F : α → β → Prop} : ∀ {l : List α} {r : List β} {a : α} {b : β}, Paired F l r → F a b → Paired F (l ++ [a]) (r ++ [b])
  | _, _, _, _, .nil, h => .cons h .nil
  | _, _, _, _, .cons z t, h => .cons z (pair_snoc t h)
instance (x : Str) : Decidable (isWord x) := by unfold isWord; infer_instance
def prV (p : Nat × Nat) : List V := [.str ⟨#[p.1]⟩, .str ⟨#[p.2]⟩]
def prD (p : Nat × Nat) : PyData := .tuple [.str ⟨#[p.1]⟩, .str ⟨#[p.2]⟩]
inductive Flt where
  | pat (b : Bool) (ps : List Pt)
  | swap (ms : List (Nat × Nat))
  | num (b : Bool) (n : Nat)
  | word (x : Str)
def Flt.d : Flt → PyData
  | .pat b ps => .tuple [.str (patW b), .list (ps.map Pt.d)]
  | .swap ms => .tuple [.str "swap", .list (ms.map prD)]
  | .num b n => .tuple [.str (numW b), .int (n : Nat)]
  | .word x => .tuple [.str x]
def FltAt (K : Frag) (H : Hp) : V → Flt → Prop
  | v, .pat b ps => ∃ t r, v = .ref t ∧ SqT K H t [.str (patW b), .ref r] ∧ Dp K H (.ref r) (.list (ps.map Pt.d))
  | v, .num b n => ∃ t, v = .ref t ∧ SqT K H t [.str (numW b), .int (n : Nat)]
  | v, .word x => ∃ t, v = .ref t ∧ SqT K H t [.str x]
  | v, .swap ms => ∃ t r ts, v = .ref t ∧ SqT K H t [.str "swap", .ref r] ∧ SqL K H r (ts.map V.ref) ∧ Paired (fun (t : Addr) (q : Nat × Nat) => SqT K H t (prV q)) ts ms
theorem prs_at {K : Frag} {H : Hp} : ∀ {ms : List (Nat × Nat)} {ys : List V}, DpAll K H ys (ms.map prD) → ∃ ts : List Addr, ys = ts.map V.ref ∧ Paired (fun (t : Addr) (q : Nat × Nat) => SqT K H t (prV q)) ts ms
  | [], _, .nil => ⟨[], rfl, .nil⟩
  | m :: ms, _, .cons h t => by
    obtain ⟨a, rfl, ha⟩ := dp_two h
    obtain ⟨ts, rfl, pr⟩ := prs_at t
    exact ⟨a :: ts, rfl, .cons ha pr⟩
theorem FltAt.of {K : Frag} {H : Hp} {v : V} {f : Flt} (h : Dp K H v f.d) : FltAt K H v f := by
  cases f with
  | pat b ps =>
    obtain ⟨a, ys, rfl, q, all⟩ := dp_tup h
    cases all with
    | cons h1 t =>
      cases t with
      | cons h2 t2 =>
        cases t2
        obtain ⟨r, xs, rfl, h3, h4⟩ := dp_lst h2
        cases h1
        exact ⟨a, r, rfl, q, .lst h3 h4⟩
  | num b n =>
    obtain ⟨a, ys, rfl, q, all⟩ := dp_tup h
    cases all with
    | cons h1 t =>
      cases t with
      | cons h2 t2 =>
        cases t2
        cases h1
        cases h2
        exact ⟨a, rfl, q⟩
  | word x =>
    obtain ⟨a, ys, rfl, q, all⟩ := dp_tup h
    cases all with
    | cons h1 t =>
      cases t
      cases h1
      exact ⟨a, rfl, q⟩
  | swap ms =>
    obtain ⟨a, ys, rfl, q, all⟩ := dp_tup h
    cases all with
    | cons h1 t =>
      cases t with
      | cons h2 t2 =>
        cases t2
        obtain ⟨r, xs, rfl, h3, h4⟩ := dp_lst h2
        obtain ⟨ts, rfl, pr⟩ := prs_at h4
        cases h1
        exact ⟨a, r, ts, rfl, q, h3, pr⟩
noncomputable def FltR (xs zs : List Str) : Flt → Prop
  | .pat b ps => zs = xs.filter fun z => mB ps z == b
  | .swap ms => zs = xs.map (swF ms)
  | .num b n => zs = if b = true then xs.take n else xs.drop (xs.length - n)
  | .word w => if w = "order" then zs.Perm xs ∧ sortedS zs = true else if w = "once" then zs = onceT xs xs.length else if w = "count" then zs = [natS xs.length] else zs = numT' xs xs.length
def lineC (c : Nat) : Prop := c ∈ cs signsS ∧ c ≠ 10
def FltOk : Flt → Prop
  | .pat _ ps => ps.length ≤ 60 ∧ ∀ q ∈ ps, q.good ∧ q.few
  | .swap ms => (ms.map (·.1)).Nodup ∧ ms ≠ [] ∧ ms.length ≤ 100 ∧ ∀ m ∈ ms, lineC m.1 ∧ lineC m.2
  | .num _ n => n ≤ 2000000000
  | .word w => isWord w
def LiOk (xs : List Str) : Prop := (xs.map (·.length)).sum ≤ 5000 ∧ xs.length ≤ 500 ∧ ∀ x ∈ xs, x.length ≤ 500 ∧ ∀ c ∈ cs x, c ∈ cs signsS
def spFl (K : Frag) : Sp := fun vs H Q _ => ∃ (v : V) (f : Flt) (a : Addr) (xs : List Str), vs = [v, .ref a] ∧ Dp K H v f.d ∧ FltOk f ∧ SqL K H a (xs.map V.str) ∧ LiOk xs ∧ ∀ H' p zs, Same H H' → H p = none → H' p = some (.lst (zs.map V.str)) → FltR xs zs f → Q (.ref p) H'
theorem kv_put : ∀ (more acc : List (Nat × Nat)), ((acc ++ more).map (·.1)).Nodup → mergeK (kvS acc) (kvS more) = kvS (acc ++ more)
  | [], acc, _ => by rw [List.append_nil]; rfl
  | m :: more, acc, nd => by
    have e : acc ++ m :: more = (acc ++ [m]) ++ more := by rw [List.append_assoc]; rfl
    have nx : ¬ m.1 ∈ acc.map (·.1) := by
      intro z
      rw [List.map_append, List.nodup_append] at nd
      exact nd.2.2 _ z _ (by simp) rfl
    have ih := kv_put more (acc ++ [m]) (by rw [← e]; exact nd)
    rw [e, ← ih]
    show mergeK (putK (kvS acc) (.inr ⟨#[m.1]⟩) (.str ⟨#[m.2]⟩)) (kvS more) = _
    have : putK (kvS acc) (.inr (⟨#[m.1]⟩ : Str)) (.str ⟨#[m.2]⟩) = kvS (acc ++ [m]) := by
      unfold putK
      have : ((kvS acc).any fun kv => decide (kv.1 = .inr (⟨#[m.1]⟩ : Str))) = false := by
        rw [List.any_eq_false]
        intro kv mk
        obtain ⟨q, mq, rfl⟩ := List.mem_map.mp mk
        rw [decide_eq_true_iff]
        intro z
        have z := congrArg cs (Sum.inr.inj z)
        exact nx (by rw [← (List.cons.inj z).1]; exact List.mem_map_of_mem mq)
      rw [this, if_neg Bool.false_ne_true]
      unfold kvS
      rw [List.map_append]
      rfl
    rw [this]
theorem merge_kvS {ms : List (Nat × Nat)} (nd : (ms.map (·.1)).Nodup) : mergeK [] (kvS ms) = kvS ms := kv_put ms [] nd
section
variable {P : Program} {w : World} {K : Frag} {mg : Str → Option Value} {base : Heap}
abbrev sFl : Stmt := top 21
abbrev nFl : List Str := ["one", "lines", "pattern", "machine", "line", "pairs", "number", "at"]
theorem scFl : FnScope nFl ["one", "lines"] (defScope sFl) := ⟨rfl, rfl, rfl, by decide +kernel, rfl, by decide +kernel, by decide +kernel⟩
theorem has_Fl {f C fIn : Addr} {fd dIn : FuncData} (F : Fun K "filter_lines" "filter_lines" sFl f fd) (g : mg "filter_lines" = some (.ref f)) (B : Blt mg) (Z : BltZ mg) (T : Txt K mg C) (MIn : Mk K C fIn) (bIn : Binds K dIn ["self", "patterns"] []) (GIn : FnOk P w K mg base CX0 3 fIn dIn ["self", "patterns"] (spIn C K)) (hLb : HasM P w K mg base C 3 "lets_by" ["self", "text"] (spLb C)) (hSw : Has P w K mg base 1 "swapped" ["line", "table"] (spSw)) :
    Has P w K mg base 5 "filter_lines" ["one", "lines"] (spFl K) := by
  obtain ⟨fLb, dLb, mLb, bLb, GLb⟩ := hLb
  obtain ⟨fSw, dSw, gSw, kSw, bSw, GSw⟩ := hSw
  refine has_of F g (F.binds (ps := ["one", "lines"]) fun _ _ _ _ _ _ us hl => match us, hl with | [_, _], _ => rfl) (F.ok scFl (fun vs H Q E h => ?_) (fun cdv A outer s H vs Q E hr h => ?_))
  · obtain ⟨v, f, a, xs, rfl, _⟩ := h
    rfl
  · refine ⟨_, (pss_one (ps_match (pv 0)
        (pcs_cons (is := [2]) scFl.nd (pp_seq rfl (pps_cons (pp_or (pf_cons pp_lit (pf_cons pp_lit pf_nil))) (pps_cons pp_cap pps_nil))) (.cons ⟨rfl, .inl rfl, .inr rfl⟩ .nil)
          (pss_cons (ps_set (i := 3) scFl.nd rfl (.inr rfl) (pe_make MIn GIn hr (by rfl) T.mgC bIn .nil pass0 (pa_cons (pe_lst (pa_cons (pv 2) pa_nil)) pa_nil)))
          (pss_one (ps_ret (pe_lc (own := [("line", 4)]) (g := gName 4) rfl scFl.nd (pi_list (pv 1)) (blkOk_by (N := nFl) (sc := defScope sFl) (by decide +kernel)) (fun _ _ _ _ _ => pg_name (i := 4) scFl.nd rfl (.inl rfl)) (fun _ _ _ _ _ => pts_one (pt_cmpR op_eq (pe_meth (pv 3) T.cl mLb GLb (hr.mono (by decide)) bLb .nil pass0 (pa_cons (pv 4) pa_nil)) (pe_cmpR op_eq (pe_ix (show IxR _ (rIxT K) from ix_tup) (pv 0) pe_int (fun _ _ => rfl)) pe_str (nomark _)) (nomark _))) (fun _ _ _ _ _ => (pv 4))))))
        (pcs_cons (is := [5]) scFl.nd (pp_seq rfl (pps_cons pp_lit (pps_cons pp_cap pps_nil))) (.cons ⟨rfl, .inr rfl, .inl rfl⟩ .nil)
          (pss_one (ps_ret (pe_lc (own := [("line", 4)]) (g := gName 4) (tt := tYes) rfl scFl.nd (pi_list (pv 1)) (blkOk_by (N := nFl) (sc := defScope sFl) (by decide +kernel)) (fun _ _ _ _ _ => pg_name (i := 4) scFl.nd rfl (.inl rfl)) (fun _ _ _ _ _ => pts_nil) (fun _ _ _ _ _ => (pe_call GSw (hr.mono (by decide)) rfl gSw kSw bSw .nil pass0 (pa_cons (pv 4) (pa_cons (pe_callTy (T := "dict") (show CallR _ (.type "dict") (rDictP K) from call_dictP rfl) (by rfl) Z.dict (by decide +kernel) (pa_cons (pv 5) pa_nil)) pa_nil)))))))
        (pcs_cons (is := [6]) scFl.nd (pp_seq rfl (pps_cons pp_lit (pps_cons pp_cap pps_nil))) (.cons ⟨rfl, .inl rfl, .inr rfl⟩ .nil)
          (pss_one (ps_ret (pe_slice sl_list (pv 1) po_none (po_some (pv 6)))))
        (pcs_cons (is := [6]) scFl.nd (pp_seq rfl (pps_cons pp_lit (pps_cons pp_cap pps_nil))) (.cons ⟨rfl, .inl rfl, .inr rfl⟩ .nil)
          (pss_one (ps_ret (pe_slice sl_list (pv 1) (po_some (pe_callB (call_max2 rfl) (by rfl) B.max (by decide +kernel) (pa_cons pe_int (pa_cons (pe_op op_sub (pe_callB call_len_seq (by rfl) B.len PySem.boot_len (pa_cons (pv 1) pa_nil)) (pv 6)) pa_nil)))) po_none)))
        (pcs_cons (is := []) scFl.nd (pp_seq rfl (pps_cons pp_lit pps_nil)) .nil
          (pss_one (ps_ret (pe_callB cr_sortedTx (by rfl) Z.sorted (by decide +kernel) (pa_cons (pv 1) pa_nil))))
        (pcs_cons (is := []) scFl.nd (pp_seq rfl (pps_cons pp_lit pps_nil)) .nil
          (pss_one (ps_ret (pe_lc (own := [("at", 7), ("line", 4)]) (g := gTup K 2 (gCons (gName 7) (gCons (gName 4) gNil))) rfl scFl.nd (pi_enum (by rfl) B.enumerate (pa_cons (pv 1) pa_nil)) (blkOk_by (N := nFl) (sc := defScope sFl) (by decide +kernel)) (fun _ _ _ _ _ => pg_tup rfl (pgs_cons (pg_name (i := 7) scFl.nd rfl (.inl rfl)) (pgs_cons (pg_name (i := 4) scFl.nd rfl (.inl rfl)) pgs_nil))) (fun _ _ _ _ _ => pts_one (PW.pt (pw_or (pt_cmpR op_eq (pv 7) pe_int (nomark _)) (pw_or1 (pt_cmpR op_ne (pe_ix (show IxR _ (rIxL K) from ix_list) (pv 1) (pe_op op_sub (pv 7) pe_int) (fun _ _ => rfl)) (pv 4) (nomark _)))))) (fun _ _ _ _ _ => (pv 4)))))
        (pcs_cons (is := []) scFl.nd (pp_seq rfl (pps_cons pp_lit pps_nil)) .nil
          (pss_one (ps_ret (pe_lst (pa_cons (pe_callTy call_str_int (by rfl) B.str (by decide +kernel) (pa_cons (pe_callB call_len_seq (by rfl) B.len PySem.boot_len (pa_cons (pv 1) pa_nil)) pa_nil)) pa_nil))))
        (pcs_cons (is := []) scFl.nd (pp_seq rfl (pps_cons pp_lit pps_nil)) .nil
          (pss_one (ps_ret (pe_lc (own := [("at", 7), ("line", 4)]) (g := gTup K 2 (gCons (gName 7) (gCons (gName 4) gNil))) (tt := tYes) rfl scFl.nd (pi_enum1 (by rfl) B.enumerate (pa_cons (pv 1) pa_nil) (pk_cons pe_int pk_nil)) (blkOk_by (N := nFl) (sc := defScope sFl) (by decide +kernel)) (fun _ _ _ _ _ => pg_tup rfl (pgs_cons (pg_name (i := 7) scFl.nd rfl (.inl rfl)) (pgs_cons (pg_name (i := 4) scFl.nd rfl (.inl rfl)) pgs_nil))) (fun _ _ _ _ _ => pts_nil) (fun _ _ _ _ _ => (pe_op op_add_str (pe_op op_add_str (pe_callTy call_str_int (by rfl) B.str (by decide +kernel) (pa_cons (pv 7) pa_nil)) pe_str) (pv 4)))))) pcs_nil)))))))))), ?_⟩
    obtain ⟨v, f, a, xs, rfl, hd, ok, hl, lk, k⟩ := h
    have hf := FltAt.of hd
    refine ⟨_, rfl, ?_⟩
    cases f with
    | pat b ps =>
      obtain ⟨t, r, rfl, ht, hp⟩ := hf
      refine ⟨t, _, rfl, ht, fun z => absurd rfl z, fun _ => or2cap (fun e => ?_) (fun e => absurd (by cases b <;> simp [patW] : patW b = "keep" ∨ patW b = "drop") e)⟩
      obtain ⟨lps, gps⟩ := ok
      refine ⟨_, rfl, (by decide : 1 ≤ sizeLine), fun L nL x0 dx nx ndx ne => ?_⟩
      have s1 := same_upd (o := .lst [V.ref r]) nL
      have sm := same_new (C := C) nL nx ndx
      have ax : L ≠ x0 := fun e => by subst e; rw [upd_same] at nx; cases nx
      have adx : L ≠ dx := fun e => by subst e; rw [upd_same] at ndx; cases ndx
      refine ⟨x0, L, dx, .ref r, ps, rfl, upd_same, SqL.of (by rw [upd_ne ax, upd_ne adx, upd_same]), dp_same (sm.trans hide_same) hp, lps, fun q m => (gps q m).1, fun H1 S E1 B1 D l st R ma hi hc ha sf nS nE nB nD => ⟨rfl, ?_⟩⟩
      have s2 := sm.trans sf
      have fr : ∀ {b : Addr}, (L2.upd (L2.upd (L2.upd H L (.lst [V.ref r])) dx (.own x0)) x0 (.ins C dx [])) b = none → H b = none := fun h => (sm.trans hide_same).free h
      refine ⟨_, rfl, a, rfl, ⟨_, s2.seq hl⟩, fun D0 hD0 => ?_⟩
      have n0S : D0 ≠ S := fun z => by rw [z, ma.hs] at hD0; cases hD0
      have n0E : D0 ≠ E1 := fun z => by rw [z, ma.he] at hD0; cases hD0
      have n0B : D0 ≠ B1 := fun z => by obtain ⟨bs, hb, _⟩ := ma.bel; rw [z, hb] at hD0; cases hD0
      have n0D : D0 ≠ D := fun z => by obtain ⟨kvs, hd, _⟩ := ma.hd; rw [z, hd] at hD0; cases hD0
      have n0H : H D0 = none := s2.free hD0
      refine lc_it (walk_list (xs := xs.map V.str)) (fun i H' => Mach C H' x0 S E1 B1 D l st R ((xs.take i).map (·.length)).sum ∧ Same H H' ∧ H' D0 = some (.lst (((xs.take i).filter fun z => mB (ps) z == b).map V.str))) ⟨ma.same (same_upd hD0), s2.trans (same_upd hD0), upd_same⟩ (fun i H' _ e => e.2.1.seq hl) (fun i y H' H2 hi' e yy => ?_) (fun H' e => ?_)
      · obtain ⟨ma1, s1', hd0⟩ := e
        obtain ⟨rfl, hx⟩ := yy
        rw [List.getElem?_map] at hx
        obtain ⟨z, hz, rfl⟩ := Option.map_eq_some_iff.mp hx
        obtain ⟨lz, gz⟩ := lk.2.2 z (List.mem_of_getElem? hz)
        have lzc := len_cs z
        have bud : ((xs.take i).map (·.length)).sum ≤ 5000 := by
          have e1 : (xs.map (·.length)).sum = ((xs.take i).map (·.length)).sum + ((xs.drop i).map (·.length)).sum := by
            conv => lhs; rw [← List.take_append_drop i xs, List.map_append, List.sum_append]
          have := lk.1
          omega
        obtain ⟨dx', hp'⟩ := ma1.ob
        refine ⟨rfl, _, rfl, x0, dx', _, rfl, hp', fl_lets_by, _, rfl, x0, S, E1, B1, D, l, st, R, ps, z, _, rfl, by omega, ma1, hi, hc, ha, gz, by omega, fun H3 c fr3 ma3 hc3 => ?_⟩
        have sH3 : Same H H3 := fun q o h => fr3 _ _ (s1' _ _ h) (ne_of_none h (fr nD))
        have hd3 := fr3 _ _ hd0 n0D
        have ec : c = mB (ps) z := Bool.eq_iff_iff.mpr (hc3.trans (mB_iff _ _).symm)
        have tk : xs.take (i + 1) = xs.take i ++ [z] := take_snoc hz
        have sum1 : ((xs.take (i + 1)).map (·.length)).sum = ((xs.take i).map (·.length)).sum + (cs z).length := by
          rw [tk, List.map_append, List.sum_append]
          show _ + (z.length + 0) = _
          rw [Nat.add_zero, lzc]
        have eb : decide (V.bl c = V.bl (decide (V.str (patW b) = V.str "keep"))) = (mB (ps) z == b) := by
          rw [ec]
          have : decide (V.str (patW b) = V.str "keep") = b := by cases b <;> decide +kernel
          rw [this]
          cases mB (ps) z <;> cases b <;> decide
        refine ⟨_, rfl, t, _, 0, _, rfl, rfl, sqT_same sH3 ht, rfl, rfl, rfl, _, rfl, ?_⟩
        rw [eb]
        refine if_by (fun e1 => ?_) (fun e1 => ?_)
        · refine ⟨_, rfl, _, hd3, ?_, ?_, same_upd2 sH3 n0H, ?_⟩
          · have l1 := List.length_filter_le (fun z => mB (ps) z == b) (xs.take i)
            have l2 := List.length_take_le' i xs
            have := lk.2.1
            rw [List.length_map, sizeLine_eq]
            omega
          · rw [sum1]
            exact ma3.keep (F := D0) (fun q o h ne => by rw [upd_ne ne]; exact h) (.inl ⟨_, hd3⟩) n0S n0E n0B
          · rw [upd_same, tk, List.filter_append, List.map_append]
            simp [e1]
        · refine ⟨?_, sH3, ?_⟩
          · rw [sum1]
            exact ma3
          · rw [hd3, tk, List.filter_append, List.map_append]
            simp [e1]
      · obtain ⟨_, s1', hd0⟩ := e
        rw [List.length_map, List.take_length] at hd0
        exact k _ D0 _ s1' n0H hd0 rfl
    | swap ms =>
      obtain ⟨t, r, ts, rfl, ht, hr1, pr⟩ := hf
      refine ⟨t, _, rfl, ht, fun z => absurd rfl z, fun _ => or2cap (fun e => absurd e (by decide +kernel)) (fun _ => ⟨t, _, rfl, ht, fun z => absurd rfl z, fun _ => litcap1 (fun _ => ?_) (fun e => absurd rfl e)⟩)⟩
      obtain ⟨nd, _⟩ := ok
      refine ⟨_, rfl, a, rfl, ⟨_, hl⟩, fun D hD => ?_⟩
      refine lc_it (walk_list (xs := xs.map V.str)) (fun i H' => Same H H' ∧ H' D = some (.lst (((xs.take i).map (swF (ms))).map V.str))) ⟨same_upd hD, upd_same⟩ (fun i H' _ e => e.1.seq hl) (fun i v H1 H' hi' e yy => ?_) (fun H' e => ?_)
      · obtain ⟨s1, hd1⟩ := e
        obtain ⟨rfl, hx⟩ := yy
        rw [List.getElem?_map] at hx
        obtain ⟨z, hz, rfl⟩ := Option.map_eq_some_iff.mp hx
        obtain ⟨lz, gz⟩ := lk.2.2 z (List.mem_of_getElem? hz)
        refine ⟨rfl, _, rfl, _, rfl, r, ts, kvS (ms), rfl, s1.seq hr1, ?_, fun p np => ?_⟩
        · exact pair_map pr fun t' q h' => sqT_same s1 h'
        · have sp : Same H' (L2.upd H' p (.dK (mergeK [] (kvS (ms))))) := same_upd np
          have nD : p ≠ D := by
            intro w1
            rw [w1, hd1] at np
            cases np
          refine ⟨z, p, ms, rfl, by omega, ?_, fun H3 s3 => ⟨_, s3 _ _ (sp _ _ hd1), ?_, same_upd2 ((s1.trans sp).trans s3) hD, ?_⟩⟩
          · rw [upd_same, merge_kvS nd]
          · have := lk.2.1
            have l2 := List.length_take_le' i xs
            rw [List.length_map, List.length_map, sizeLine_eq]
            omega
          · rw [upd_same, take_snoc hz, List.map_append, List.map_append]
            rfl
      · obtain ⟨s1, hd1⟩ := e
        rw [List.length_map, List.take_length] at hd1
        exact k _ D _ s1 hD hd1 rfl
    | num b n =>
      obtain ⟨t, rfl, ht⟩ := hf
      refine ⟨t, _, rfl, ht, fun z => absurd rfl z, fun _ => or2cap (fun e => absurd e (by cases b <;> decide +kernel)) (fun _ => ⟨t, _, rfl, ht, fun z => absurd rfl z, fun _ => litcap1 (fun e => absurd e (by cases b <;> decide +kernel)) (fun _ => ?_)⟩)⟩
      cases b with
      | true =>
        refine ⟨t, _, rfl, ht, fun z => absurd rfl z, fun _ => litcap1 (fun _ => ?_) (fun e => absurd rfl e)⟩
        refine ⟨_, rfl, _, rfl, _, rfl, a, _, rfl, hl, fun p np => ?_⟩
        refine k _ p (xs.take (n)) (same_upd np) np ?_ rfl
        rw [upd_same, cutV_to, List.map_take]
      | false =>
        refine ⟨t, _, rfl, ht, fun z => absurd rfl z, fun _ => litcap1 (fun e => absurd e (by decide +kernel)) (fun _ => ⟨t, _, rfl, ht, fun z => absurd rfl z, fun _ => litcap1 (fun _ => ?_) (fun e => absurd rfl e)⟩)⟩
        refine ⟨_, rfl, _, rfl, a, _, rfl, .inl hl, _, rfl, _, _, rfl, rfl, _, _, rfl, _, rfl, a, _, rfl, hl, fun p np => ?_⟩
        refine k _ p (xs.drop (xs.length - n)) (same_upd np) np ?_ rfl
        rw [upd_same, List.length_map, show (if ((xs.length : Nat) : Int) - ((n : Nat) : Int) > 0 then ((xs.length : Nat) : Int) - ((n : Nat) : Int) else 0) = (((xs.length - n : Nat) : Nat) : Int) from by split <;> omega, cutV_from, List.map_drop]
    | word x =>
      obtain ⟨t, rfl, ht⟩ := hf
      refine ⟨t, _, rfl, ht, fun _ => ⟨t, _, rfl, ht, fun _ => ⟨t, _, rfl, ht, fun _ => ⟨t, _, rfl, ht, fun _ => ?_, fun z => absurd z (by simp)⟩, fun z => absurd z (by simp)⟩, fun z => absurd z (by simp)⟩, fun z => absurd z (by simp)⟩
      refine ⟨t, _, rfl, ht, fun z => absurd rfl z, fun _ => lit1 (fun e1 => ?_) (fun n1 => ?_)⟩
      · refine ⟨_, rfl, a, xs, rfl, hl, fun ys p h1 h2 np => k _ p ys (same_upd np) np upd_same ?_⟩
        show if _ then _ else _
        rw [if_pos e1]
        exact ⟨h1, h2⟩
      refine ⟨t, _, rfl, ht, fun z => absurd rfl z, fun _ => lit1 (fun e2 => ?_) (fun n2 => ?_)⟩
      · refine ⟨_, rfl, a, _, rfl, hl, fun D hD => ?_⟩
        refine lc_it (walk_enum (xs := xs.map V.str)) (fun i H' => Same H H' ∧ H' D = some (.lst ((onceT xs i).map V.str))) ⟨same_upd hD, upd_same⟩ (fun i H' _ e => e.1.seq hl) (fun i x H1 H2 hi e yy => ?_) (fun H' e => ?_)
        · obtain ⟨s1, hd1⟩ := e
          obtain ⟨T1, x1, x2, rfl, nT, rfl, h1, hx⟩ := yy
          obtain rfl := Option.some.inj h1
          have hx : (xs.map V.str)[i]? = some x2 := hx
          rw [List.getElem?_map] at hx
          obtain ⟨y, hy, rfl⟩ := Option.map_eq_some_iff.mp hx
          have nD : T1 ≠ D := by
            intro z
            rw [z, hd1] at nT
            cases nT
          have sT := same_upd (o := .tup [V.int (i : Nat), V.str y]) nT
          have hd2 := sT _ _ hd1
          have yd : xs.getD i "" = y := by rw [List.getD_eq_getElem?_getD, hy]; rfl
          have il : i < xs.length := (List.getElem?_eq_some_iff.mp hy).1
          have lo := onceT_len xs i
          have one : isNew xs i = true → ∃ acc, (L2.upd H1 T1 (.tup [V.int (i : Nat), V.str y])) D = some (HO.lst acc) ∧ acc.length < sizeLine ∧ Same H (L2.upd (L2.upd H1 T1 (.tup [V.int (i : Nat), V.str y])) D (HO.lst (acc ++ [V.str y]))) ∧ (L2.upd (L2.upd H1 T1 (.tup [V.int (i : Nat), V.str y])) D (HO.lst (acc ++ [V.str y]))) D = some (HO.lst ((onceT xs (i + 1)).map V.str)) := fun e => by
            refine ⟨_, hd2, ?_, same_upd2 (s1.trans sT) hD, ?_⟩
            · rw [List.length_map, sizeLine_eq]
              have := lk.2.1
              omega
            · rw [upd_same, onceT, if_pos e, yd, List.map_append]
              rfl
          refine ⟨T1, _, rfl, SqT.of upd_same, rfl, _, _, rfl, _, _, rfl, rfl, rfl, ?_⟩
          refine ⟨_, rfl, rfl, _, rfl, if_by (fun e0 => ?_) (fun e0 => ?_)⟩
          · refine if_yes rfl ⟨_, rfl, one ?_⟩
            unfold isNew
            have : i = 0 := by simpa using e0
            rw [this]
            rfl
          · have i0 : i ≠ 0 := by simpa using e0
            have hp : xs[i - 1]? = some (xs.getD (i - 1) "") := by
              rw [List.getD_eq_getElem?_getD, List.getElem?_eq_getElem (by omega)]
              rfl
            refine ⟨_, rfl, _, rfl, _, _, rfl, rfl, a, _, _, V.str (xs.getD (i - 1) ""), rfl, rfl, sT.seq (s1.seq hl), ?_, _, rfl, rfl, _, rfl, ?_⟩
            · rw [show ((i : Nat) : Int) - 1 = (((i - 1 : Nat) : Nat) : Int) by omega]
              refine atI_nat ?_
              rw [List.getElem?_map, hp]
              rfl
            · rw [dec_str, ← yd]
              have en : isNew xs i = !decide (xs.getD (i - 1) "" = xs.getD i "") := by
                unfold isNew
                rw [decide_eq_false i0, Bool.false_or]
              refine if_by (fun e1 => ?_) (fun e1 => ?_)
              · rw [yd]
                exact ⟨_, rfl, one (en.trans e1)⟩
              · refine ⟨s1.trans (by rw [yd]; exact sT), ?_⟩
                rw [yd, hd2, onceT, if_neg (by rw [en]; simpa using e1), List.append_nil]
        · obtain ⟨s1, hd1⟩ := e
          rw [List.length_map] at hd1
          refine k _ D _ s1 hD hd1 ?_
          show if _ then _ else _
          rw [if_neg n1, if_pos e2]
      refine ⟨t, _, rfl, ht, fun z => absurd rfl z, fun _ => lit1 (fun e3 => ?_) (fun n3 => ?_)⟩
      · refine ⟨_, rfl, a, _, rfl, .inl hl, _, rfl, ?_⟩
        refine ⟨log_few (by rw [List.length_map]; have := lk.2.1; omega), line_small (by simp), fun p np => k _ p [natS xs.length] (same_upd np) np ?_ ?_⟩
        · rw [upd_same, List.length_map]
          rfl
        · show if _ then _ else _
          rw [if_neg n1, if_neg n2, if_pos e3]
      refine ⟨t, _, rfl, ht, fun z => absurd rfl z, fun _ => lit1 (fun e4 => ?_) (fun n4 => ?_)⟩
      · refine ⟨_, rfl, a, _, rfl, rfl, hl, fun D hD => ?_⟩
        refine lc_it (walk_enum1 (xs := xs.map V.str)) (fun i H' => Same H H' ∧ H' D = some (.lst ((numT' xs i).map V.str))) ⟨same_upd hD, upd_same⟩ (fun i H' _ e => e.1.seq hl) (fun i x H1 H2 hi e yy => ?_) (fun H' e => ?_)
        · obtain ⟨s1, hd1⟩ := e
          obtain ⟨T1, x1, x2, rfl, nT, rfl, h1, hx⟩ := yy
          obtain rfl := Option.some.inj h1
          have hx : (xs.map V.str)[i]? = some x2 := hx
          rw [List.getElem?_map] at hx
          obtain ⟨y, hy, rfl⟩ := Option.map_eq_some_iff.mp hx
          have nD : T1 ≠ D := by
            intro z
            rw [z, hd1] at nT
            cases nT
          have sT := same_upd (o := .tup [V.int ((i + 1 : Nat) : Int), V.str y]) nT
          have hd2 := sT _ _ hd1
          have yd : xs.getD i "" = y := by rw [List.getD_eq_getElem?_getD, hy]; rfl
          have il : i < xs.length := (List.getElem?_eq_some_iff.mp hy).1
          have ly := (lk.2.2 y (List.mem_of_getElem? hy)).1
          have ll := lk.2.1
          have lo := numT_len xs i
          refine ⟨T1, _, rfl, SqT.of upd_same, rfl, _, _, rfl, _, _, rfl, rfl, rfl, ?_⟩
          refine ⟨_, rfl, _, rfl, log_few (n := i + 1) (by omega), _, _, rfl, rfl, ?_, _, rfl, _, _, rfl, rfl, ?_, _, hd2, ?_, same_upd2 (s1.trans sT) hD, ?_⟩
          · have e1 := natS_len (n := i + 1) (by omega)
            unfold natS at e1
            rw [sizeLine_eq, show ((" " : Str)).length = 1 from by decide +kernel]
            omega
          · have e1 := natS_len (n := i + 1) (by omega)
            unfold natS at e1
            rw [sizeLine_eq, la_str, show ((" " : Str)).length = 1 from by decide +kernel]
            omega
          · rw [List.length_map, lo, sizeLine_eq]
            omega
          · rw [upd_same, numT', yd, List.map_append]
            rfl
        · obtain ⟨s1, hd1⟩ := e
          rw [List.length_map] at hd1
          refine k _ D _ s1 hD hd1 ?_
          show if _ then _ else _
          rw [if_neg n1, if_neg n2, if_neg n3]
      · have ok : isWord x := ok
        unfold isWord at ok
        rcases ok with z | z | z | z <;> contradiction
end
end Qb
end PySem
namespace PySem
namespace Qb
open PySem.W PySem.Calls PyProof.Rows L2
/-! # rows of filters, and what they make of a text -/
theorem pr_dps {K : Frag} {H : Hp} : ∀ {ts : List Addr} {ms : List (Nat × Nat)}, Paired (fun (t : Addr) (q : Nat × Nat) => SqT K H t (prV q)) ts ms → DpAll K H (ts.map V.ref) (ms.map prD)
  | _, _, .nil => .nil
  | _, _, .cons z t => .cons (.tup z (.cons (.str _) (.cons (.str _) .nil))) (pr_dps t)
theorem getD_fit {xs : List Str} (h : ∀ x ∈ xs, x.length ≤ 500) (i : Nat) : (xs.getD i "").length ≤ 500 := by
  rw [List.getD_eq_getElem?_getD]
  cases e : xs[i]? with
  | none => decide +kernel
  | some y => exact h y (List.mem_of_getElem? e)
theorem once_fit {xs : List Str} (h : ∀ x ∈ xs, x.length ≤ 500) : ∀ i, ∀ z ∈ onceT xs i, z.length ≤ 500
  | 0, z, m => by cases m
  | i + 1, z, m => by
    rw [onceT] at m
    rcases List.mem_append.mp m with m | m
    · exact once_fit h i z m
    · split at m
      · rw [List.mem_singleton.mp m]
        exact getD_fit h i
      · cases m
theorem numT_fit {xs : List Str} (h : ∀ x ∈ xs, x.length ≤ 500) : ∀ i, i ≤ 1000 → ∀ z ∈ numT' xs i, z.length ≤ 506
  | 0, _, z, m => by cases m
  | i + 1, hi, z, m => by
    rw [numT'] at m
    rcases List.mem_append.mp m with m | m
    · exact numT_fit h i (by omega) z m
    · rw [List.mem_singleton.mp m, la_str, la_str, show ((" " : Str)).length = 1 from by decide +kernel]
      have := natS_len (n := i + 1) (by omega)
      have := getD_fit h i
      omega
theorem swF_len (ms : List (Nat × Nat)) (x : Str) : (swF ms x).length = x.length := by
  unfold swF
  rw [len_st, List.length_map, len_cs]
theorem rd_nenil {K : Frag} {σ : L2.St} {H : Hp} {Q : VK} {i : Nat} {v : V} {ds : List PyData} (hv : σ[i]? = some (some v)) (hd : Dp K H v (.list ds)) (hs : SeqAt.shaped (.list ds) = true) (k : ∀ H1, Same H H1 → Q (.bl (!ds.isEmpty)) H1) :
    tOp (rNeD K) (tVar i) (tLst tNil) σ H Q := by
  refine ⟨v, hv, (by decide : 0 ≤ sizeLine), fun p np => ?_⟩
  have s1 := same_upd (o := .lst []) np
  refine ⟨.list ds, .list [], dp_same s1 hd, .lst (SqL.of upd_same) .nil, hs, by decide, ?_⟩
  rw [eqv_nil]
  exact k _ s1
theorem fltR_fit {xs zs : List Str} {f : Flt} (h : LiOk xs) (r : FltR xs zs f) : zs.length ≤ 501 ∧ ∀ z ∈ zs, z.length ≤ 506 := by
  obtain ⟨_, h1, h2⟩ := h
  have h3 : ∀ x ∈ xs, x.length ≤ 500 := fun x m => (h2 x m).1
  cases f with
  | pat b ps =>
    have r : zs = _ := r
    subst r
    exact ⟨Nat.le_trans (List.length_filter_le _ _) (by omega), fun z m => by have := h3 z (List.mem_filter.mp m).1; omega⟩
  | swap ms =>
    have r : zs = _ := r
    subst r
    refine ⟨by rw [List.length_map]; omega, fun z m => ?_⟩
    obtain ⟨u, mu, rfl⟩ := List.mem_map.mp m
    rw [swF_len]
    have := h3 u mu
    omega
  | num b n =>
    have r : zs = _ := r
    subst r
    cases b
    · rw [if_neg (by decide)]
      exact ⟨by rw [List.length_drop]; omega, fun z m => by have := h3 z (List.mem_of_mem_drop m); omega⟩
    · rw [if_pos rfl]
      exact ⟨by rw [List.length_take]; omega, fun z m => by have := h3 z (List.mem_of_mem_take m); omega⟩
  | word w =>
    have r : (if _ then _ else _) := r
    split at r
    · exact ⟨by rw [r.1.length_eq]; omega, fun z m => by have := h3 z (r.1.mem_iff.mp m); omega⟩
    · split at r
      · subst r
        exact ⟨by have := onceT_len xs xs.length; omega, fun z m => by have := once_fit h3 _ z m; omega⟩
      · split at r
        · subst r
          refine ⟨by simp, fun z m => ?_⟩
          rw [List.mem_singleton.mp m]
          have := natS_len (n := xs.length) (by omega)
          omega
        · subst r
          exact ⟨by rw [numT_len]; omega, fun z m => numT_fit h3 _ (by omega) z m⟩
theorem withAll_count : ∀ (l r : List Str), r.Nodup → (∀ x ∈ r, x ∉ l) → (withAll l r).length = l.length + r.length
  | l, [], _, _ => by simp [withAll]
  | l, k :: r, nd, h => by
    have hk := List.length_cons (a := k) (as := r)
    have m : ¬ k ∈ l := h k (.head _)
    have e : withTx l k = k :: l := by rw [withTx, if_neg m]
    rw [List.nodup_cons] at nd
    rw [withAll, e, withAll_count (k :: l) r nd.2 (fun x mx ml => by
      rcases List.mem_cons.mp ml with rfl | ml
      · exact nd.1 mx
      · exact h x (.tail _ mx) ml), List.length_cons, hk]
    omega
theorem sh_prs {ms : List (Nat × Nat)} (h : ∀ m ∈ ms, lineC m.1 ∧ lineC m.2) : Sh 2 (.list (ms.map prD)) := sh_lst fun d m => by
  obtain ⟨r, mr, rfl⟩ := List.mem_map.mp m
  exact sh_rg (r := r) (h r mr).1.1 (h r mr).2.1
theorem all_trues {α : Type} (l : List α) : (l.map fun _ => true).all id = true := by
  rw [List.all_eq_true]
  intro x m
  obtain ⟨r, _, rfl⟩ := List.mem_map.mp m
  rfl
def spLs : Sp := fun vs H Q _ => ∃ c, vs = [.str (sg c)] ∧ lineC c ∧ ∀ H', Same H H' → Q (.bl true) H'
def spIpr (K : Frag) : Sp := fun vs H Q _ => ∃ (v : V) (p : Nat × Nat), vs = [v] ∧ Dp K H v (prD p) ∧ lineC p.1 ∧ lineC p.2 ∧ ∀ H', Same H H' → Q (.bl true) H'
def spAu (K : Frag) : Sp := fun vs H Q _ => ∃ (a : Addr) (xs : List Str), vs = [.ref a] ∧ SqL K H a (xs.map V.str) ∧ xs.Nodup ∧ xs.length ≤ 100 ∧ ∀ H', Same H H' → Q (.bl true) H'
def spAp (K : Frag) : Sp := fun vs H Q _ => ∃ (v : V) (ms : List (Nat × Nat)), vs = [v] ∧ Dp K H v (.list (ms.map prD)) ∧ FltOk (.swap ms) ∧ ∀ H', Same H H' → Q (.bl true) H'
def spIf (K : Frag) : Sp := fun vs H Q _ => ∃ (v : V) (f : Flt), vs = [v] ∧ Dp K H v f.d ∧ FltOk f ∧ ∀ H', Same H H' → Q (.bl true) H'
def spIr (K : Frag) : Sp := fun vs H Q _ => ∃ (v : V) (fs : List Flt), vs = [v] ∧ Dp K H v (.list (fs.map Flt.d)) ∧ (∀ f ∈ fs, FltOk f) ∧ fs.length ≤ 10 ∧ ∀ H', Same H H' → Q (.bl true) H'
def RowR (zs ys : List Str) : List Flt → Prop
  | [] => ys = zs
  | [f] => FltR zs ys f
  | _ => False
def spFi (K : Frag) : Sp := fun vs H Q _ => ∃ (v : V) (fs : List Flt) (x : Str) (zs : List Str), vs = [v, .str x] ∧ Dp K H v (.list (fs.map Flt.d)) ∧ (∀ f ∈ fs, FltOk f) ∧ fs.length ≤ 1 ∧ TxOf x zs ∧ x.length ≤ 100000 ∧ LiOk zs ∧
  ∀ H' ys, Same H H' → RowR zs ys fs → Q (.str (tx ys)) H'
section
variable {P : Program} {w : World} {K : Frag} {mg : Str → Option Value} {base : Heap}
abbrev sLs : Stmt := top 28
abbrev nLs : List Str := ["text"]
theorem scLs : FnScope nLs ["text"] (defScope sLs) := ⟨rfl, rfl, rfl, by decide +kernel, rfl, by decide +kernel, by decide +kernel⟩
theorem has_Ls {f : Addr} {fd : FuncData}  (F : Fun K "is_line_sign" "is_line_sign" sLs f fd) (g : mg "is_line_sign" = some (.ref f)) (B : Blt mg) (hSg : Has P w K mg base 1 "is_sign" ["text"] (spSg)) :
    Has P w K mg base 2 "is_line_sign" ["text"] (spLs) := by
  obtain ⟨fSg, dSg, gSg, kSg, bSg, GSg⟩ := hSg
  refine has_of F g (F.binds (ps := ["text"]) fun _ _ _ _ _ _ us hl => match us, hl with | [_], _ => rfl) (F.ok scLs (fun vs H Q E h => ?_) (fun cdv A outer s H vs Q E hr h => ?_))
  · obtain ⟨c, rfl, _⟩ := h
    rfl
  · refine ⟨_, (pss_one (ps_ret (pe_and (pe_call GSg hr rfl gSg kSg bSg .nil pass0 (pa_cons (pv 0) pa_nil)) (pe_one (pe_cmpR op_ne (pv 0) pe_str (nomark _)))))), ?_⟩
    obtain ⟨c, rfl, hc, k⟩ := h
    refine ⟨_, rfl, c, rfl, hc.1, fun H1 s1 => ⟨_, rfl, if_yes rfl ⟨_, rfl, rfl, ?_⟩⟩⟩
    have e : decide (V.str (sg c) = V.str "\n") = false := decide_eq_false fun z => hc.2 (by
      have := congrArg cs (V.str.inj z)
      rw [show cs ("\n" : Str) = [10] from cs_nl] at this
      exact (List.cons.inj this).1)
    rw [e]
    exact k H1 s1
abbrev sIpr : Stmt := top 27
abbrev nIpr : List Str := ["pair", "sign", "other"]
theorem scIpr : FnScope nIpr ["pair"] (defScope sIpr) := ⟨rfl, rfl, rfl, by decide +kernel, rfl, by decide +kernel, by decide +kernel⟩
theorem has_Ipr {f : Addr} {fd : FuncData}  (F : Fun K "is_pair" "is_pair" sIpr f fd) (g : mg "is_pair" = some (.ref f)) (B : Blt mg) (hLs : Has P w K mg base 2 "is_line_sign" ["text"] (spLs)) :
    Has P w K mg base 3 "is_pair" ["pair"] (spIpr K) := by
  obtain ⟨fLs, dLs, gLs, kLs, bLs, GLs⟩ := hLs
  refine has_of F g (F.binds (ps := ["pair"]) fun _ _ _ _ _ _ us hl => match us, hl with | [_], _ => rfl) (F.ok scIpr (fun vs H Q E h => ?_) (fun cdv A outer s H vs Q E hr h => ?_))
  · obtain ⟨v, p, rfl, _⟩ := h
    rfl
  · refine ⟨_, (pss_cons (ps_match (pv 0)
        (pcs_cons (is := [1, 2]) scIpr.nd (pp_seq rfl (pps_cons pp_cap (pps_cons pp_cap pps_nil))) (.cons ⟨rfl, .inl rfl, .inr rfl⟩ (.cons ⟨rfl, .inl rfl, .inr rfl⟩ .nil))
          (pss_one (ps_ret (pe_and (pe_call GLs hr rfl gLs kLs bLs .nil pass0 (pa_cons (pv 1) pa_nil)) (pe_one (pe_call GLs hr rfl gLs kLs bLs .nil pass0 (pa_cons (pv 2) pa_nil)))))) pcs_nil))
        (pss_one (ps_ret pe_bl))), ?_⟩
    obtain ⟨v, p, rfl, hd, h1, h2, k⟩ := h
    obtain ⟨a, rfl, hq⟩ := dp_two hd
    refine ⟨_, rfl, a, _, rfl, hq, fun z => (z rfl).elim, fun _ => ?_⟩
    exact ⟨_, rfl, p.1, rfl, h1, fun H1 s1 => ⟨_, rfl, if_yes rfl ⟨_, rfl, p.2, rfl, h2, fun H2 s2 => k H2 (s1.trans s2)⟩⟩⟩
abbrev sAu : Stmt := top 29
abbrev nAu : List Str := ["texts"]
theorem scAu : FnScope nAu ["texts"] (defScope sAu) := ⟨rfl, rfl, rfl, by decide +kernel, rfl, by decide +kernel, by decide +kernel⟩
theorem has_Au {f : Addr} {fd : FuncData}  (F : Fun K "are_unlike" "are_unlike" sAu f fd) (g : mg "are_unlike" = some (.ref f)) (B : Blt mg) (Z : BltZ mg)  :
    Has P w K mg base 1 "are_unlike" ["texts"] (spAu K) := by
  refine has_of F g (F.binds (ps := ["texts"]) fun _ _ _ _ _ _ us hl => match us, hl with | [_], _ => rfl) (F.ok scAu (fun vs H Q E h => ?_) (fun cdv A outer s H vs Q E hr h => ?_))
  · obtain ⟨a, xs, rfl, _⟩ := h
    rfl
  · refine ⟨_, (pss_one (ps_ret (pe_cmpR op_eq (pe_callB call_len_seq (by rfl) B.len PySem.boot_len (pa_cons (pv 0) pa_nil)) (pe_callB cr_lenTx (by rfl) B.len PySem.boot_len (pa_cons (pe_callTy (cr_setTx rfl) (by rfl) Z.set (by decide +kernel) (pa_cons (pv 0) pa_nil)) pa_nil)) (nomark _)))), ?_⟩
    obtain ⟨a, xs, rfl, hl, nd, lx, k⟩ := h
    refine ⟨_, rfl, a, _, rfl, .inl hl, _, rfl, a, xs, rfl, hl, by omega, fun S nS => ⟨S, _, rfl, upd_same, ?_, rfl, ?_⟩⟩
    · have := withAll_len [] xs
      rw [List.length_nil] at this
      omega
    · rw [List.length_map, withAll_count [] xs nd (fun _ _ => by simp), List.length_nil, Nat.zero_add, decide_eq_true rfl]
      exact k _ (same_upd nS)
abbrev sAp : Stmt := top 26
abbrev nAp : List Str := ["pairs", "pair"]
theorem scAp : FnScope nAp ["pairs"] (defScope sAp) := ⟨rfl, rfl, rfl, by decide +kernel, rfl, by decide +kernel, by decide +kernel⟩
theorem has_Ap {f : Addr} {fd : FuncData}  (F : Fun K "are_pairs" "are_pairs" sAp f fd) (g : mg "are_pairs" = some (.ref f)) (B : Blt mg) (hAu : Has P w K mg base 1 "are_unlike" ["texts"] (spAu K)) (hIpr : Has P w K mg base 3 "is_pair" ["pair"] (spIpr K)) :
    Has P w K mg base 5 "are_pairs" ["pairs"] (spAp K) := by
  obtain ⟨fAu, dAu, gAu, kAu, bAu, GAu⟩ := hAu
  obtain ⟨fIpr, dIpr, gIpr, kIpr, bIpr, GIpr⟩ := hIpr
  refine has_of F g (F.binds (ps := ["pairs"]) fun _ _ _ _ _ _ us hl => match us, hl with | [_], _ => rfl) (F.ok scAp (fun vs H Q E h => ?_) (fun cdv A outer s H vs Q E hr h => ?_))
  · obtain ⟨v, ps, rfl, _⟩ := h
    rfl
  · refine ⟨_, (pss_one (ps_ret (pe_and (pe_cmpR (op_neD hr.units) (pv 0) (pe_lst pa_nil) (nomark _)) (pe_and (pe_callB (cr_all rfl) (by rfl) B.all (by decide +kernel) (pa_cons (pe_lc (own := [("pair", 1)]) (g := gName 1) (tt := tYes) rfl scAp.nd (pi_list (pv 0)) (blkOk_by (N := nAp) (sc := defScope sAp) (by decide +kernel)) (fun _ _ _ _ _ => pg_name (i := 1) scAp.nd rfl (.inl rfl)) (fun _ _ _ _ _ => pts_nil) (fun _ _ _ _ _ => (pe_call GIpr (hr.mono (by decide)) rfl gIpr kIpr bIpr .nil pass0 (pa_cons (pv 1) pa_nil)))) pa_nil)) (pe_one (pe_call GAu (hr.mono (by decide)) rfl gAu kAu bAu .nil pass0 (pa_cons (pe_lc (own := [("pair", 1)]) (g := gName 1) (tt := tYes) rfl scAp.nd (pi_list (pv 0)) (blkOk_by (N := nAp) (sc := defScope sAp) (by decide +kernel)) (fun _ _ _ _ _ => pg_name (i := 1) scAp.nd rfl (.inl rfl)) (fun _ _ _ _ _ => pts_nil) (fun _ _ _ _ _ => (pe_ix (show IxR _ (rIxT K) from ix_tup) (pv 1) pe_int (fun _ _ => rfl)))) pa_nil))))))), ?_⟩
    obtain ⟨v, ms, rfl, hd, ⟨nd, ne, lm, hm⟩, k⟩ := h
    obtain ⟨b, ys, rfl, hb, all⟩ := dp_lst hd
    have ly := dpLen all
    rw [List.length_map] at ly
    refine rd_nenil (ds := ms.map prD) rfl hd (sh_ok (sh_prs hm)) fun H1 s1 => ⟨_, rfl, ?_⟩
    refine if_yes (by cases ms with | nil => exact (ne rfl).elim | cons r rs => rfl) ?_
    refine ⟨_, rfl, b, rfl, ⟨_, s1.seq hb⟩, fun D hD => lc_all (bs := ms.map fun _ => true) (s1.seq hb) hD (by rw [List.length_map, ly]) (by rw [ly]; omega) (fun i x b' H' Q' hx hb' s2 q => ?_) (fun H2 s2 q1 => ?_)⟩
    · obtain ⟨d, hdi, dp⟩ := dpAt' all hx
      rw [List.getElem?_map] at hdi hb'
      cases ep : ms[i]? with
      | none => rw [ep] at hdi; cases hdi
      | some r =>
        rw [ep] at hdi hb'
        obtain rfl := Option.some.inj hdi
        obtain rfl := Option.some.inj hb'
        have z := hm r (List.mem_of_getElem? ep)
        exact ⟨rfl, _, rfl, _, r, rfl, dp_same (s1.trans s2) dp, z.1, z.2, q⟩
    · refine ⟨D, _, rfl, q1, ?_⟩
      rw [all_trues]
      have s12 := s1.trans s2
      refine ⟨_, rfl, if_yes rfl ⟨_, rfl, b, rfl, ⟨_, s12.seq hb⟩, fun D2 hD2 => ?_⟩⟩
      refine lc_it (walk_list (xs := ys)) (fun i H' => Same H H' ∧ H' D2 = some (.lst (((ms.take i).map fun m => sg m.1).map V.str))) ⟨s12.trans (same_upd hD2), upd_same⟩ (fun i H' _ e => e.1.seq hb) (fun i x H3 H' hi e yy => ?_) (fun H' e => ?_)
      · obtain ⟨s3, h3⟩ := e
        obtain ⟨rfl, hx⟩ := yy
        obtain ⟨d, hdi, dp⟩ := dpAt' all hx
        rw [List.getElem?_map] at hdi
        obtain ⟨r, er, rfl⟩ := Option.map_eq_some_iff.mp hdi
        obtain ⟨t, rfl, ht⟩ := dp_two dp
        refine ⟨rfl, _, rfl, t, _, 0, _, rfl, rfl, sqT_same s3 ht, rfl, _, h3, ?_, ?_, ?_⟩
        · have l2 := List.length_take_le' i ms
          rw [List.length_map, List.length_map, sizeLine_eq]
          omega
        · exact same_upd2 s3 (s12.free hD2)
        · rw [upd_same, take_snoc er, List.map_append, List.map_append]
          rfl
      · obtain ⟨s3, h3⟩ := e
        rw [ly, List.take_length] at h3
        refine ⟨D2, ms.map fun m => sg m.1, rfl, SqL.of h3, ?_, by rw [List.length_map]; exact lm, fun H4 s4 => k H4 (s3.trans s4)⟩
        show List.Pairwise _ _
        rw [List.pairwise_map]
        have nd' : List.Pairwise (fun a b : Nat × Nat => a.1 ≠ b.1) ms := List.pairwise_map.mp nd
        exact nd'.imp fun {a b} n z => n (List.cons.inj (congrArg cs z)).1
abbrev sIf : Stmt := top 25
abbrev nIf : List Str := ["one", "pattern", "pairs", "number"]
theorem scIf : FnScope nIf ["one"] (defScope sIf) := ⟨rfl, rfl, rfl, by decide +kernel, rfl, by decide +kernel, by decide +kernel⟩
theorem has_If {f : Addr} {fd : FuncData}  (F : Fun K "is_filter" "is_filter" sIf f fd) (g : mg "is_filter" = some (.ref f)) (B : Blt mg) (hPa : Has P w K mg base 4 "is_pattern" ["pattern"] (spPa K)) (hAp : Has P w K mg base 5 "are_pairs" ["pairs"] (spAp K)) :
    Has P w K mg base 7 "is_filter" ["one"] (spIf K) := by
  obtain ⟨fPa, dPa, gPa, kPa, bPa, GPa⟩ := hPa
  obtain ⟨fAp, dAp, gAp, kAp, bAp, GAp⟩ := hAp
  refine has_of F g (F.binds (ps := ["one"]) fun _ _ _ _ _ _ us hl => match us, hl with | [_], _ => rfl) (F.ok scIf (fun vs H Q E h => ?_) (fun cdv A outer s H vs Q E hr h => ?_))
  · obtain ⟨v, f, rfl, _⟩ := h
    rfl
  · refine ⟨_, (pss_cons (ps_match (pv 0)
        (pcs_cons (is := [1]) scIf.nd (pp_seq rfl (pps_cons (pp_or (pf_cons pp_lit (pf_cons pp_lit pf_nil))) (pps_cons pp_cap pps_nil))) (.cons ⟨rfl, .inl rfl, .inr rfl⟩ .nil)
          (pss_one (ps_ret (pe_and (pe_callB call_isi (by rfl) B.isi (by decide +kernel) (pa_cons (pv 1) (pa_cons (pe_bltn (v := .ty "list") (by rfl) B.list (by decide +kernel) rfl) pa_nil))) (pe_one (pe_call GPa (hr.mono (by decide)) rfl gPa kPa bPa .nil pass0 (pa_cons (pv 1) pa_nil))))))
        (pcs_cons (is := [2]) scIf.nd (pp_seq rfl (pps_cons pp_lit (pps_cons pp_cap pps_nil))) (.cons ⟨rfl, .inl rfl, .inr rfl⟩ .nil)
          (pss_one (ps_ret (pe_and (pe_callB call_isi (by rfl) B.isi (by decide +kernel) (pa_cons (pv 2) (pa_cons (pe_bltn (v := .ty "list") (by rfl) B.list (by decide +kernel) rfl) pa_nil))) (pe_one (pe_call GAp (hr.mono (by decide)) rfl gAp kAp bAp .nil pass0 (pa_cons (pv 2) pa_nil))))))
        (pcs_cons (is := [3]) scIf.nd (pp_seq rfl (pps_cons (pp_or (pf_cons pp_lit (pf_cons pp_lit pf_nil))) (pps_cons pp_cap pps_nil))) (.cons ⟨rfl, .inl rfl, .inr rfl⟩ .nil)
          (pss_one (ps_ret (pe_and (pe_callB call_isi (by rfl) B.isi (by decide +kernel) (pa_cons (pv 3) (pa_cons (pe_bltn (v := .ty "int") (by rfl) B.int (by decide +kernel) rfl) pa_nil))) (pe_one (pe_cmpR op_ge (pv 3) pe_int (nomark _))))))
        (pcs_cons (is := []) scIf.nd (pp_or (pf_cons (pp_seq rfl (pps_cons pp_lit pps_nil)) (pf_cons (pp_seq rfl (pps_cons pp_lit pps_nil)) (pf_cons (pp_seq rfl (pps_cons pp_lit pps_nil)) (pf_cons (pp_seq rfl (pps_cons pp_lit pps_nil)) pf_nil))))) .nil
          (pss_one (ps_ret pe_bl)) pcs_nil)))))
        (pss_one (ps_ret pe_bl))), ?_⟩
    obtain ⟨v, f, rfl, hd, ok, k⟩ := h
    have hf := FltAt.of hd
    refine ⟨_, rfl, ?_⟩
    cases f with
    | pat b ps =>
      obtain ⟨t, r, rfl, ht, hp⟩ := hf
      obtain ⟨r', xs, e, hr1, _⟩ := dp_lst hp
      obtain rfl := V.ref.inj e
      refine ⟨t, _, rfl, ht, fun z => absurd rfl z, fun _ => or2cap (fun e => ?_) (fun e => absurd (by cases b <;> simp [patW] : patW b = "keep" ∨ patW b = "drop") e)⟩
      refine ⟨_, rfl, .ref r, .ty "list", .type "list", .type "list", true, rfl, .ty _, ty_lst hr1, kit_ty (by decide +kernel), _, rfl, if_yes rfl ?_⟩
      exact ⟨_, rfl, _, ps, rfl, hp, by have := ok.1; omega, ok.2, k⟩
    | swap ms =>
      obtain ⟨t, r, ts, rfl, ht, hr1, pr⟩ := hf
      refine ⟨t, _, rfl, ht, fun z => absurd rfl z, fun _ => or2cap (fun e => absurd e (by decide +kernel)) (fun _ => ⟨t, _, rfl, ht, fun z => absurd rfl z, fun _ => litcap1 (fun _ => ?_) (fun e => absurd rfl e)⟩)⟩
      refine ⟨_, rfl, .ref r, .ty "list", .type "list", .type "list", true, rfl, .ty _, ty_lst hr1, kit_ty (by decide +kernel), _, rfl, if_yes rfl ?_⟩
      exact ⟨_, rfl, _, ms, rfl, .lst hr1 (pr_dps pr), ok, k⟩
    | num b n =>
      obtain ⟨t, rfl, ht⟩ := hf
      refine ⟨t, _, rfl, ht, fun z => absurd rfl z, fun _ => or2cap (fun e => absurd e (by cases b <;> decide +kernel)) (fun _ => ⟨t, _, rfl, ht, fun z => absurd rfl z, fun _ => litcap1 (fun e => absurd e (by cases b <;> decide +kernel)) (fun _ => ?_)⟩)⟩
      refine ⟨t, _, rfl, ht, fun z => absurd rfl z, fun _ => or2cap (fun _ => ?_) (fun e => absurd (by cases b <;> simp [numW] : numW b = "first" ∨ numW b = "last") e)⟩
      refine ⟨_, rfl, .int n, .ty "int", .type "int", .type "int", true, rfl, .ty _, .base (.int n), kit_ty (by decide +kernel), _, rfl, if_yes rfl ⟨_, rfl, _, _, rfl, rfl, ?_⟩⟩
      have := k H (Same.refl H)
      have e : decide (((n : Nat) : Int) ≥ 0) = true := decide_eq_true (by omega)
      rw [← e] at this
      exact this
    | word x =>
      obtain ⟨t, rfl, ht⟩ := hf
      refine ⟨t, _, rfl, ht, fun _ => ⟨t, _, rfl, ht, fun _ => ⟨t, _, rfl, ht, fun _ => ?_, fun z => absurd z (by simp)⟩, fun z => absurd z (by simp)⟩, fun z => absurd z (by simp)⟩
      have fin := k H (Same.refl H)
      refine ⟨t, _, rfl, ht, fun z => absurd rfl z, fun _ => lit1 (fun e1 => fin) (fun n1 => ?_)⟩
      refine ⟨t, _, rfl, ht, fun z => absurd rfl z, fun _ => lit1 (fun e2 => fin) (fun n2 => ?_)⟩
      refine ⟨t, _, rfl, ht, fun z => absurd rfl z, fun _ => lit1 (fun e3 => fin) (fun n3 => ?_)⟩
      refine ⟨t, _, rfl, ht, fun z => absurd rfl z, fun _ => lit1 (fun e4 => fin) (fun n4 => ?_)⟩
      have ok : isWord x := ok
      unfold isWord at ok
      rcases ok with z | z | z | z <;> contradiction
abbrev sIr : Stmt := top 24
abbrev nIr : List Str := ["row", "one"]
theorem scIr : FnScope nIr ["row"] (defScope sIr) := ⟨rfl, rfl, rfl, by decide +kernel, rfl, by decide +kernel, by decide +kernel⟩
theorem has_Ir {f : Addr} {fd : FuncData}  (F : Fun K "is_row" "is_row" sIr f fd) (g : mg "is_row" = some (.ref f)) (B : Blt mg) (hIf : Has P w K mg base 7 "is_filter" ["one"] (spIf K)) :
    Has P w K mg base 8 "is_row" ["row"] (spIr K) := by
  obtain ⟨fIf, dIf, gIf, kIf, bIf, GIf⟩ := hIf
  refine has_of F g (F.binds (ps := ["row"]) fun _ _ _ _ _ _ us hl => match us, hl with | [_], _ => rfl) (F.ok scIr (fun vs H Q E h => ?_) (fun cdv A outer s H vs Q E hr h => ?_))
  · obtain ⟨v, fs, rfl, _⟩ := h
    rfl
  · refine ⟨_, (pss_one (ps_ret (pe_callB (cr_all rfl) (by rfl) B.all (by decide +kernel) (pa_cons (pe_lc (own := [("one", 1)]) (g := gName 1) (tt := tYes) rfl scIr.nd (pi_list (pv 0)) (blkOk_by (N := nIr) (sc := defScope sIr) (by decide +kernel)) (fun _ _ _ _ _ => pg_name (i := 1) scIr.nd rfl (.inl rfl)) (fun _ _ _ _ _ => pts_nil) (fun _ _ _ _ _ => (pe_call GIf hr rfl gIf kIf bIf .nil pass0 (pa_cons (pv 1) pa_nil)))) pa_nil)))), ?_⟩
    obtain ⟨v, fs, rfl, hd, ok, lf, k⟩ := h
    obtain ⟨b, ys, rfl, hb, all⟩ := dp_lst hd
    have ly := dpLen all
    rw [List.length_map] at ly
    refine ⟨_, rfl, b, rfl, ⟨_, hb⟩, fun D hD => lc_all (bs := fs.map fun _ => true) hb hD (by rw [List.length_map, ly]) (by rw [ly]; omega) (fun i x b' H' Q' hx hb' s2 q => ?_) (fun H2 s2 q1 => ?_)⟩
    · obtain ⟨d, hdi, dp⟩ := dpAt' all hx
      rw [List.getElem?_map] at hdi hb'
      cases ep : fs[i]? with
      | none => rw [ep] at hdi; cases hdi
      | some r =>
        rw [ep] at hdi hb'
        obtain rfl := Option.some.inj hdi
        obtain rfl := Option.some.inj hb'
        exact ⟨rfl, _, rfl, _, r, rfl, dp_same s2 dp, ok r (List.mem_of_getElem? ep), q⟩
    · refine ⟨D, _, rfl, q1, ?_⟩
      rw [all_trues]
      exact k _ s2
abbrev sFi : Stmt := top 30
abbrev nFi : List Str := ["row", "text", "lines", "one"]
theorem scFi : FnScope nFi ["row", "text"] (defScope sFi) := ⟨rfl, rfl, rfl, by decide +kernel, rfl, by decide +kernel, by decide +kernel⟩
theorem ok_Fi {f : Addr} {fd : FuncData} (F : Fun K "filtered" "filtered" sFi f fd) (B : Blt mg) (hIr : Has P w K mg base 8 "is_row" ["row"] (spIr K)) (hLf : Has P w K mg base 1 "lines_of" ["text"] (spLf)) (hFl : Has P w K mg base 5 "filter_lines" ["one", "lines"] (spFl K)) (hTf : Has P w K mg base 1 "text_of" ["lines"] (spTf K)) :
    FnOk P w K mg base CX0 9 f fd ["row", "text"] (spFi K) := by
  obtain ⟨fIr, dIr, gIr, kIr, bIr, GIr⟩ := hIr
  obtain ⟨fLf, dLf, gLf, kLf, bLf, GLf⟩ := hLf
  obtain ⟨fFl, dFl, gFl, kFl, bFl, GFl⟩ := hFl
  obtain ⟨fTf, dTf, gTf, kTf, bTf, GTf⟩ := hTf
  refine F.ok scFi (fun vs H Q E h => ?_) (fun cdv A outer s H vs Q E hr h => ?_)
  · obtain ⟨v, fs, x, zs, rfl, _⟩ := h
    rfl
  · refine ⟨_, (pss_cons (ps_if (pt_not (pt_val (pe_call GIr hr rfl gIr kIr bIr .nil pass0 (pa_cons (pv 0) pa_nil)))) pss_never pss_nil)
        (pss_cons (ps_set (i := 2) scFi.nd rfl (.inl rfl) (pe_call GLf (hr.mono (by decide)) rfl gLf kLf bLf .nil pass0 (pa_cons (pv 1) pa_nil)))
        (pss_cons (ps_for PassesOwn.never rfl (pi_list (pv 0)) (pg_name (i := 3) scFi.nd rfl (.inl rfl))
          (pss_one (ps_set (i := 2) scFi.nd rfl (.inl rfl) (pe_call GFl (hr.mono (by decide)) rfl gFl kFl bFl .nil pass0 (pa_cons (pv 3) (pa_cons (pv 2) pa_nil))))))
        (pss_one (ps_ret (pe_call GTf (hr.mono (by decide)) rfl gTf kTf bTf .nil pass0 (pa_cons (pv 2) pa_nil))))))), ?_⟩
    obtain ⟨v, fs, x, zs, rfl, hd, ok, lf, tz, lx, li, k⟩ := h
    refine ⟨_, rfl, v, fs, rfl, hd, ok, by omega, fun H1 s1 => ⟨_, rfl, if_no rfl ?_⟩⟩
    refine ⟨_, rfl, x, zs, rfl, tz, lx, fun H2 L s2 nL hL => ?_⟩
    obtain ⟨b, ys, rfl, hb, all⟩ := dp_lst hd
    have ly := dpLen all
    rw [List.length_map] at ly
    have s12 := s1.trans s2
    have lz : ∀ z ∈ zs, z.length ≤ 1000 := fun z m => by
      have := (li.2.2 z m).1
      omega
    refine ⟨_, rfl, b, rfl, ⟨_, s12.seq hb⟩, for_it (walk_list (K := K) (a := b) (xs := ys)) (fun i σ H' => ∃ (v3 : Option V) (L' : Addr) (us : List Str), σ = [some (.ref b), some (.str x), some (.ref L'), v3] ∧ Same H H' ∧ H' L' = some (.lst (us.map V.str)) ∧ RowR zs us (fs.take i) ∧ us.length ≤ 1000 ∧ ∀ u ∈ us, u.length ≤ 1000) ⟨none, L, zs, rfl, s12, hL, rfl, by have := li.2.1; omega, lz⟩ (fun i σ H' _ ⟨_, _, _, _, s', _⟩ => s'.seq hb) (fun i u σ H3 H' hi e yy => ?_) (fun σ H' e => ?_)⟩
    · obtain ⟨v3, L', us, rfl, s', hL', rr, _, _⟩ := e
      obtain ⟨rfl, hx⟩ := yy
      have i0 : i = 0 := by omega
      subst i0
      obtain ⟨d, hdi, dp⟩ := dpAt' all hx
      rw [List.getElem?_map] at hdi
      obtain ⟨r, er, rfl⟩ := Option.map_eq_some_iff.mp hdi
      have rr : us = zs := rr
      subst rr
      refine ⟨_, rfl, _, rfl, u, r, L', us, rfl, dp_same s' dp, ok r (List.mem_of_getElem? er), SqL.of hL', li, fun H4 p ws s4 np hp fr => ?_⟩
      have ft := fltR_fit li fr
      refine ⟨_, p, ws, rfl, s'.trans s4, hp, ?_, by omega, fun u m => by have := ft.2 u m; omega⟩
      match fs, er, lf with
      | [g], er, _ =>
        obtain rfl := Option.some.inj er
        exact fr
    · obtain ⟨v3, L', us, rfl, s', hL', rr, l1, l2⟩ := e
      rw [ly, List.take_length] at rr
      exact ⟨_, rfl, L', us, rfl, SqL.of hL', l1, l2, fun H4 s4 => k H4 us (s'.trans s4) rr⟩
end
end Qb
end PySem
namespace PySem
namespace Qb
open PySem.W PySem.Calls PyProof.Rows L2
/-! # what the law draws -/
abbrev SB (S : Addr) (H H' : Hp) : Prop := Same (hide H S) (hide H' S)
theorem SB.refl (S : Addr) (H : Hp) : SB S H H := Same.refl _
theorem SB.of {S : Addr} {H H' : Hp} (s : Same H H') : SB S H H' := hide_mono s
theorem SB.put {S : Addr} {H : Hp} {o : HO} : SB S H (L2.upd H S o) := hide_upd
theorem SB.at {S : Addr} {H H' : Hp} (s : SB S H H') {b : Addr} {o : HO} (h : H b = some o) (ne : b ≠ S) : H' b = some o := hide_same _ _ (s _ _ (hide_ne h ne))
theorem joinL_sg : ∀ l : List Nat, TL.joinL [] ((l.map sg).map TL.tl) = l
  | [] => rfl
  | [c] => rfl
  | c :: d :: r => by
    have ih := joinL_sg (d :: r)
    show [c] ++ ([] ++ TL.joinL [] (((d :: r).map sg).map TL.tl)) = _
    rw [ih]
    rfl
theorem join_sg (l : List Nat) : Txt.join "" (l.map sg) = (⟨l.toArray⟩ : Str) := by
  refine str_ext ?_
  rw [TL.join_eq]
  have e : cs (Str.join "" (l.map sg)) = TL.joinL [] ((l.map sg).map TL.tl) := TL.tl_join "" (l.map sg)
  rw [e, joinL_sg]
theorem sum_sg : ∀ l : List Nat, ((l.map sg).map (·.length)).sum = l.length
  | [] => rfl
  | c :: l => by
    rw [List.map_cons, List.map_cons, List.sum_cons, sum_sg l, List.length_cons]
    show 1 + l.length = _
    omega
theorem SB.put_new {S p : Addr} {H H' : Hp} {o : HO} (s : SB S H H') (np : H p = none) : SB S H (L2.upd H' p o) := fun b u e => by
  have nb : b ≠ p := fun z => by
    have e2 := hide_same _ _ e
    rw [z, np] at e2
    cases e2
  have nS : b ≠ S := fun z => by
    rw [z] at e
    unfold hide at e
    rw [if_pos rfl] at e
    cases e
  refine hide_ne ?_ nS
  rw [upd_ne nb]
  exact hide_same _ _ (s b u e)
theorem SB.none {S p : Addr} {H H' : Hp} (s : SB S H H') (h : H' p = none) (ne : p ≠ S) : H p = none := by
  cases e : H p with
  | none => rfl
  | some o =>
    have := s.at e ne
    rw [h] at this
    cases this
theorem SB.all {S : Addr} {H H' : Hp} (s : SB S H H') (n : H S = .none) : Same H H' := fun b u e => hide_same _ _ (s _ _ (hide_ne e (fun z => by rw [z, n] at e; cases e)))
/-- a hand that has been taken from n times at most -/
def HdAt (H : Hp) (p : Addr) (n : Nat) : Prop := ∃ (a k c : Int) (b : Bool), H p = some (.lst [.int a, .int k, .bl b, .int c]) ∧ 0 ≤ k ∧ k ≤ n ∧ 0 ≤ a ∧ 0 ≤ c ∧ c < 2 ^ 62 ∧ (b = false → a < 2 ^ 62)
theorem HdAt.up {H : Hp} {p : Addr} {n m : Nat} (h : HdAt H p n) (l : n ≤ m) : HdAt H p m := by
  obtain ⟨a, k, c, b, h1, h2, h3, r⟩ := h
  exact ⟨a, k, c, b, h1, h2, by omega, r⟩
theorem HdAt.same {H H' : Hp} {p : Addr} {n : Nat} (h : HdAt H p n) (s : Same H H') : HdAt H' p n := by
  obtain ⟨a, k, c, b, h1, r⟩ := h
  exact ⟨a, k, c, b, s _ _ h1, r⟩
def alS : Str := " !\"#$&'()*+,-./0123456789:;<=>?@ABCDEFGHIJKLMNOPQRSTUVWXYZ[\\]^_`" ++ "abcdefghijklmnopqrstuvwxyz{|}~"
theorem al_line : ∀ c ∈ cs alS, lineC c := by unfold lineC; decide +kernel
theorem al_len : (cs alS).length = 94 := by decide +kernel
theorem al_nd : (cs alS).Nodup := by decide +kernel
theorem al_at {i : Nat} (h : i < 94) : ∃ c, (cs alS)[i]? = some c ∧ lineC c := ⟨(cs alS)[i]'(by rw [al_len]; exact h), List.getElem?_eq_getElem _, al_line _ (List.getElem_mem _)⟩
/-- a row of twelve letters -/
def LtOk (x : Str) : Prop := (cs x).length = 12 ∧ ∀ c ∈ cs x, lineC c
def spAl : Sp := fun vs H Q _ => vs = [] ∧ Q (.str alS) H
def spCe (K : Frag) : Sp := fun vs H Q _ => ∃ (a : Addr) (ns : List Int) (i : Nat), vs = [.ref a, .int (i : Nat)] ∧ SqL K H a (ns.map V.int) ∧ Q (.int (ns.getD i 0)) H
def spHa : Sp := fun vs H Q _ => ∃ (i : Int), vs = [.int i] ∧ ∀ H' p, Same H H' → H p = none → HdAt H' p 0 → Q (.ref p) H'
def spTk : Sp := fun vs H Q _ => ∃ (p : Addr) (m n : Nat), vs = [.ref p, .int (m : Nat)] ∧ 1 ≤ m ∧ m ≤ 100000 ∧ n ≤ 1000000 ∧ HdAt H p n ∧ ∀ H' (r : Nat), SB p H H' → HdAt H' p (n + 1) → r < m → Q (.int (r : Nat)) H'
def spLe2 : Sp := fun vs H Q _ => ∃ (p : Addr) (n : Nat), vs = [.ref p] ∧ n ≤ 100000 ∧ HdAt H p n ∧ ∀ H' x, SB p H H' → HdAt H' p (n + 2) → LtOk x → Q (.str x) H'
def spSi : Sp := fun vs H Q _ => ∃ (p : Addr) (n : Nat) (x : Str), vs = [.ref p, .str x] ∧ n ≤ 100000 ∧ HdAt H p n ∧ LtOk x ∧ ∀ H' c, SB p H H' → HdAt H' p (n + 2) → lineC c → Q (.str (sg c)) H'
section
variable {P : Program} {w : World} {K : Frag} {mg : Str → Option Value} {base : Heap}
abbrev sAl : Stmt := top 32
abbrev nAl : List Str := ["_law_signs_here"]
theorem scAl : FnScope nAl [] (defScope sAl) := ⟨rfl, rfl, rfl, by decide +kernel, rfl, by decide +kernel, by decide +kernel⟩
theorem has_Al {f : Addr} {fd : FuncData}  (F : Fun K "_law_signs" "_law_signs" sAl f fd) (g : mg "_law_signs" = some (.ref f)) (B : Blt mg)  :
    Has P w K mg base 1 "_law_signs" [] (spAl) := by
  refine has_of F g (F.binds (ps := []) fun _ _ _ _ _ _ us hl => match us, hl with | [], _ => rfl) (F.ok scAl (fun vs H Q E h => ?_) (fun cdv A outer s H vs Q E hr h => ?_))
  · obtain ⟨rfl, _⟩ := h
    rfl
  · refine ⟨_, (pss_cons (ps_set (i := 0) scAl.nd rfl (.inl rfl) pe_str)
        (pss_one (ps_ret (pe_op op_add_str (pv 0) pe_str)))), ?_⟩
    obtain ⟨rfl, k⟩ := h
    exact ⟨_, rfl, _, _, rfl, rfl, by decide +kernel, k⟩
abbrev sCe : Stmt := top 33
abbrev nCe : List Str := ["_law_script", "_law_k"]
theorem scCe : FnScope nCe ["_law_script", "_law_k"] (defScope sCe) := ⟨rfl, rfl, rfl, by decide +kernel, rfl, by decide +kernel, by decide +kernel⟩
theorem has_Ce {f : Addr} {fd : FuncData}  (F : Fun K "_law_cell" "_law_cell" sCe f fd) (g : mg "_law_cell" = some (.ref f)) (B : Blt mg)  :
    Has P w K mg base 1 "_law_cell" ["_law_script", "_law_k"] (spCe K) := by
  refine has_of F g (F.binds (ps := ["_law_script", "_law_k"]) fun _ _ _ _ _ _ us hl => match us, hl with | [_, _], _ => rfl) (F.ok scCe (fun vs H Q E h => ?_) (fun cdv A outer s H vs Q E hr h => ?_))
  · obtain ⟨a, ns, i, rfl, _⟩ := h
    rfl
  · refine ⟨_, (pss_cons (ps_if (pt_cmpR op_lt (pv 1) (pe_callB call_len_seq (by rfl) B.len PySem.boot_len (pa_cons (pv 0) pa_nil)) (nomark _)) (pss_one (ps_ret (pe_ix ix_list (pv 0) (pv 1) (fun _ _ => rfl)))) pss_nil)
        (pss_one (ps_ret pe_int))), ?_⟩
    obtain ⟨a, ns, i, rfl, hl, k⟩ := h
    refine ⟨_, rfl, _, rfl, a, _, rfl, .inl hl, _, _, rfl, rfl, _, rfl, ?_⟩
    rw [List.length_map]
    refine if_by (fun e => ?_) (fun e => ?_)
    · have e := of_decide_eq_true e
      have il : i < ns.length := by omega
      refine ⟨_, rfl, _, rfl, a, _, _, .int (ns.getD i 0), rfl, rfl, hl, atI_nat ?_, k⟩
      rw [List.getElem?_map, List.getElem?_eq_getElem il, List.getD_eq_getElem?_getD, List.getElem?_eq_getElem il]
      rfl
    · have e := of_decide_eq_false e
      rw [List.getD_eq_getElem?_getD, List.getElem?_eq_none (by omega)] at k
      exact k
abbrev sHa : Stmt := top 34
abbrev nHa : List Str := ["_law_cell_here"]
theorem scHa : FnScope nHa ["_law_cell_here"] (defScope sHa) := ⟨rfl, rfl, rfl, by decide +kernel, rfl, by decide +kernel, by decide +kernel⟩
theorem has_Ha {f : Addr} {fd : FuncData}  (F : Fun K "_law_hand" "_law_hand" sHa f fd) (g : mg "_law_hand" = some (.ref f)) (B : Blt mg)  :
    Has P w K mg base 1 "_law_hand" ["_law_cell_here"] (spHa) := by
  refine has_of F g (F.binds (ps := ["_law_cell_here"]) fun _ _ _ _ _ _ us hl => match us, hl with | [_], _ => rfl) (F.ok scHa (fun vs H Q E h => ?_) (fun cdv A outer s H vs Q E hr h => ?_))
  · obtain ⟨i, rfl, _⟩ := h
    rfl
  · refine ⟨_, (pss_cons (ps_if (pt_cmpR op_ge (pv 0) (pe_op op_pow pe_int pe_int) (nomark _)) (pss_one (ps_ret (pe_lst (pa_cons (pv 0) (pa_cons pe_int (pa_cons pe_bl (pa_cons (pe_op op_modN (pe_callTy call_int1 (by rfl) B.int (by decide +kernel) (pa_cons (pv 0) pa_nil)) pe_int) pa_nil))))))) pss_nil)
        (pss_one (ps_ret (pe_lst (pa_cons (pe_op op_modN (pe_callTy call_int1 (by rfl) B.int (by decide +kernel) (pa_cons (pv 0) pa_nil)) (pe_op op_pow pe_int pe_int)) (pa_cons pe_int (pa_cons pe_bl (pa_cons pe_int pa_nil)))))))), ?_⟩
    obtain ⟨i, rfl, k⟩ := h
    have p18 : (10 : Int) ^ (18 : Int).toNat = 1000000000000000000 := by decide
    refine ⟨_, rfl, _, _, rfl, rfl, ⟨by decide, by decide, by decide⟩, _, _, rfl, rfl, _, rfl, if_by (fun e => ?_) (fun e => ?_)⟩
    · have e := of_decide_eq_true e
      rw [p18] at e
      refine ⟨_, rfl, _, rfl, .inl ⟨_, rfl, _, _, rfl, rfl, (by show (2147483647 : Int) ≠ 0; decide), (by decide : 4 ≤ sizeLine), fun p np => k _ p (same_upd np) np ?_⟩⟩
      have e1 := Int.fmod_nonneg_of_pos i (b := 2147483647) (by decide)
      have e2 := Int.fmod_lt_of_pos i (b := 2147483647) (by decide)
      exact ⟨i, 0, _, true, upd_same, by omega, by omega, by omega, e1, by omega, fun z => by cases z⟩
    · refine ⟨_, rfl, .inl ⟨_, rfl, _, _, rfl, rfl, ⟨by decide, by decide, by decide⟩, _, _, rfl, rfl, (by show ((10 : Int) ^ (18 : Int).toNat) ≠ 0; rw [p18]; decide), (by decide : 4 ≤ sizeLine), fun p np => k _ p (same_upd np) np ?_⟩⟩
      rw [p18]
      have e1 := Int.fmod_nonneg_of_pos i (b := 1000000000000000000) (by decide)
      have e2 := Int.fmod_lt_of_pos i (b := 1000000000000000000) (by decide)
      exact ⟨_, 0, 0, false, upd_same, by omega, by omega, e1, by omega, by omega, fun _ => by omega⟩
abbrev sTk : Stmt := top 35
abbrev nTk : List Str := ["_law_hand_here", "_law_many", "_law_found", "_law_k", "_law_mixed"]
theorem scTk : FnScope nTk ["_law_hand_here", "_law_many"] (defScope sTk) := ⟨rfl, rfl, rfl, by decide +kernel, rfl, by decide +kernel, by decide +kernel⟩
theorem has_Tk {f : Addr} {fd : FuncData}  (F : Fun K "_law_take" "_law_take" sTk f fd) (g : mg "_law_take" = some (.ref f)) (B : Blt mg)  :
    Has P w K mg base 1 "_law_take" ["_law_hand_here", "_law_many"] (spTk) := by
  refine has_of F g (F.binds (ps := ["_law_hand_here", "_law_many"]) fun _ _ _ _ _ _ us hl => match us, hl with | [_, _], _ => rfl) (F.ok scTk (fun vs H Q E h => ?_) (fun cdv A outer s H vs Q E hr h => ?_))
  · obtain ⟨p, m, n, rfl, _⟩ := h
    rfl
  · refine ⟨_, (pss_cons (ps_weak (ps_if (PW.pt (pw_and (pt_val (pe_ix ix_list (pv 0) pe_int (fun _ _ => rfl))) (pw_and1 (pt_cmpR op_gt (pe_ix ix_list (pv 0) pe_int (fun _ _ => rfl)) pe_int (nomark _))))) (pss_cons (ps_set (i := 2) scTk.nd rfl (.inl rfl) (pe_op op_modN (pe_callTy call_int1 (by rfl) B.int (by decide +kernel) (pa_cons (pe_ix ix_list (pv 0) pe_int (fun _ _ => rfl)) pa_nil)) (pv 1)))
          (pss_cons (ps_asg (pe_op op_fdivW (pe_ix ix_list (pv 0) pe_int (fun _ _ => rfl)) (pv 1)) (pg_sub (pv 0) pe_int set_list))
          (pss_one (ps_ret (pv 2))))) pss_nil))
        (pss_cons (ps_weak (ps_if (pt_val (pe_ix ix_list (pv 0) pe_int (fun _ _ => rfl))) (pss_cons (ps_asg (pe_ix ix_list (pv 0) pe_int (fun _ _ => rfl)) (pg_sub (pv 0) pe_int set_list))
          (pss_one (ps_asg pe_bl (pg_sub (pv 0) pe_int set_list)))) pss_nil))
        (pss_cons (ps_asg (pe_op op_add (pe_ix ix_list (pv 0) pe_int (fun _ _ => rfl)) pe_int) (pg_sub (pv 0) pe_int set_list))
        (pss_cons (ps_set (i := 3) scTk.nd rfl (.inl rfl) (pe_ix ix_list (pv 0) pe_int (fun _ _ => rfl)))
        (pss_cons (ps_set (i := 4) scTk.nd rfl (.inl rfl) (pe_op op_modN (pe_callTy call_int1 (by rfl) B.int (by decide +kernel) (pa_cons (pe_op op_add (pe_op op_add (pe_op op_add (pe_op op_mul (pe_op op_add (pe_ix ix_list (pv 0) pe_int (fun _ _ => rfl)) pe_int) (pe_op op_add (pe_ix ix_list (pv 0) pe_int (fun _ _ => rfl)) (pe_op op_mul pe_int (pv 3)))) (pe_op op_mul (pe_op op_mul (pe_op op_mul pe_int (pv 3)) (pv 3)) (pv 3))) (pe_op op_mul pe_int (pe_ix ix_list (pv 0) pe_int (fun _ _ => rfl)))) (pv 3)) pa_nil)) pe_int))
        (pss_cons (ps_set (i := 4) scTk.nd rfl (.inl rfl) (pe_op op_modN (pe_callTy call_int1 (by rfl) B.int (by decide +kernel) (pa_cons (pe_op op_add (pe_op op_add (pe_op op_mul (pv 4) (pv 4)) (pe_op op_mul (pe_op op_mul pe_int (pv 3)) (pv 3))) (pv 4)) pa_nil)) pe_int))
        (pss_one (ps_ret (pe_op op_modN (pe_callTy call_int1 (by rfl) B.int (by decide +kernel) (pa_cons (pe_op op_fdivW (pv 4) pe_int) pa_nil)) (pv 1)))))))))), ?_⟩
    obtain ⟨p, m, n, rfl, m1, m2, n1, hh, k⟩ := h
    obtain ⟨a, k0, c, b, h1, k1, k2, a1, c1, c2, ab⟩ := hh
    have hl : SqL K H p [V.int a, V.int k0, V.bl b, V.int c] := SqL.of h1
    have mi : (0 : Int) < (m : Nat) := by omega
    have mne : ((m : Nat) : Int) ≠ 0 := by omega
    have fin : ∀ (H0 H1 : Hp) (y : Int), SB p H0 H1 → H0 = H → HdAt H1 p (n + 1) → Q (.int (y.fmod (m : Nat))) H1 := fun H0 H1 y s e h => by
      subst e
      have e1 := Int.fmod_nonneg_of_pos y mi
      have e2 := Int.fmod_lt_of_pos y mi
      have := k H1 (y.fmod (m : Nat)).toNat s h (by omega)
      rw [show (((y.fmod (m : Nat)).toNat : Nat) : Int) = y.fmod (m : Nat) from Int.toNat_of_nonneg e1] at this
      exact this
    refine ⟨fun σ' H' => σ' = [some (.ref p), some (.int (m : Nat)), none, none, none] ∧ H' = H ∧ (b = true → a = 0), fun σ' H' e => ?_, ?_⟩
    · obtain ⟨rfl, rfl, ba⟩ := e
      refine ⟨fun σ' H1 => σ' = [some (.ref p), some (.int (m : Nat)), none, none, none] ∧ SB p H' H1 ∧ ∃ a' : Int, H1 p = some (.lst [.int a', .int k0, .bl false, .int c]) ∧ 0 ≤ a' ∧ a' < 2 ^ 62, fun σ' H1 e => ?_, ?_⟩
      · obtain ⟨rfl, s1, a', h2, a2, a3⟩ := e
        refine ⟨_, rfl, p, _, 1, _, rfl, rfl, SqL.of h2, rfl, _, _, rfl, rfl, _, rfl, p, _, _, 1, rfl, rfl, h2, rfl, ?_⟩
        have h3 : (L2.upd H1 p (.lst [.int a', .int (k0 + 1), .bl false, .int c])) p = some (.lst [.int a', .int (k0 + 1), .bl false, .int c]) := upd_same
        have s2 : SB p H' (L2.upd H1 p (.lst [.int a', .int (k0 + 1), .bl false, .int c])) := s1.trans SB.put
        have hL3 : SqL K (L2.upd H1 p (.lst [.int a', .int (k0 + 1), .bl false, .int c])) p [V.int a', V.int (k0 + 1), V.bl false, V.int c] := SqL.of h3
        have kb : -(2 ^ 64) < k0 + 1 ∧ k0 + 1 < 2 ^ 64 := ⟨by omega, by omega⟩
        have ha3 : -(2 ^ 64) < a' + 3 ∧ a' + 3 < 2 ^ 64 := ⟨by omega, by omega⟩
        refine ⟨_, rfl, p, _, 1, _, rfl, rfl, hL3, rfl, ?_⟩
        refine ⟨_, rfl, p, _, 0, _, rfl, rfl, hL3, rfl, _, _, rfl, rfl, _, rfl, p, _, 0, _, rfl, rfl, hL3, rfl, _, rfl, _, _, rfl, rfl, .inl ⟨by decide, by decide⟩, _, _, rfl, rfl, _, _, rfl, rfl, .inl ha3, ?_⟩
        refine ⟨_, rfl, _, _, rfl, rfl, .inl ⟨by decide, by decide⟩, _, rfl, _, _, rfl, rfl, .inr kb, _, rfl, _, _, rfl, rfl, .inr kb, _, _, rfl, rfl, ?_⟩
        refine ⟨_, rfl, p, _, 0, _, rfl, rfl, hL3, rfl, _, _, rfl, rfl, .inl ⟨by decide, by decide⟩, _, _, rfl, rfl, _, rfl, _, _, rfl, rfl, .inl ⟨_, rfl, _, _, rfl, rfl, (by show (2147483629 : Int) ≠ 0; decide), ?_⟩⟩
        generalize hx : ((a' + 3) * (a' + 7 * (k0 + 1)) + 104729 * (k0 + 1) * (k0 + 1) * (k0 + 1) + 31 * a' + (k0 + 1) : Int) = x
        have x1 := Int.fmod_nonneg_of_pos x (b := 2147483629) (by decide)
        have x2 := Int.fmod_lt_of_pos x (b := 2147483629) (by decide)
        have xb : -(2 ^ 64) < x.fmod 2147483629 ∧ x.fmod 2147483629 < 2 ^ 64 := ⟨by omega, by omega⟩
        refine ⟨_, rfl, _, rfl, _, _, rfl, rfl, .inl xb, _, rfl, _, _, rfl, rfl, .inl ⟨by decide, by decide⟩, _, rfl, _, _, rfl, rfl, .inr kb, _, _, rfl, rfl, _, rfl, _, _, rfl, rfl, .inl ⟨_, rfl, _, _, rfl, rfl, (by show (2147483587 : Int) ≠ 0; decide), ?_⟩⟩
        refine ⟨_, rfl, _, _, rfl, rfl, ⟨by decide, by decide⟩, .inl ⟨_, rfl, _, rfl, _, _, rfl, rfl, mne, ?_⟩⟩
        exact fin _ _ _ s2 rfl ⟨a', k0 + 1, c, false, h3, by omega, by omega, a2, c1, c2, fun _ => a3⟩
      · refine ⟨_, rfl, p, _, 2, _, rfl, rfl, hl, rfl, b, rfl, ?_⟩
        cases b with
        | true =>
          have a0 : a = 0 := ba rfl
          refine if_yes rfl ⟨_, rfl, p, _, 3, _, rfl, rfl, hl, rfl, _, rfl, p, _, _, 0, rfl, rfl, h1, rfl, _, rfl, p, _, _, 2, rfl, rfl, upd_same, rfl, rfl, SB.put.trans SB.put, c, ?_, c1, c2⟩
          exact upd_same
        | false => exact if_no rfl ⟨rfl, SB.refl _ _, a, h1, a1, ab rfl⟩
    · refine ⟨_, rfl, p, _, 2, _, rfl, rfl, hl, rfl, b, rfl, ?_⟩
      cases b with
      | false => exact if_no rfl (if_no rfl ⟨rfl, rfl, fun z => by cases z⟩)
      | true =>
        refine if_yes rfl ⟨_, rfl, p, _, 0, _, rfl, rfl, hl, rfl, _, _, rfl, rfl, _, rfl, if_by (fun e => ?_) (fun e => ?_)⟩
        · refine ⟨_, rfl, p, _, 0, _, rfl, rfl, hl, rfl, .inl ⟨_, rfl, _, rfl, _, _, rfl, rfl, mne, ?_⟩⟩
          refine ⟨_, rfl, p, _, 0, _, rfl, rfl, hl, rfl, _, rfl, _, _, rfl, rfl, wide_div (b := 200) mi (by have : m < 2 ^ 200 := Nat.lt_of_le_of_lt m2 (by decide); omega) (by decide) (by decide), _, rfl, p, _, _, 0, rfl, rfl, h1, rfl, ?_⟩
          refine ⟨_, rfl, fin H _ a SB.put rfl ⟨a / (m : Nat), k0, c, true, upd_same, k1, by omega, Int.ediv_nonneg a1 (by omega), c1, c2, fun z => by cases z⟩⟩
        · have e := of_decide_eq_false e
          exact ⟨rfl, rfl, fun _ => by omega⟩
abbrev sLe2 : Stmt := top 36
abbrev nLe2 : List Str := ["_law_hand_here", "_law_start", "_law_step", "_law_k"]
theorem scLe2 : FnScope nLe2 ["_law_hand_here"] (defScope sLe2) := ⟨rfl, rfl, rfl, by decide +kernel, rfl, by decide +kernel, by decide +kernel⟩
theorem has_Le2 {f : Addr} {fd : FuncData}  (F : Fun K "_law_letters" "_law_letters" sLe2 f fd) (g : mg "_law_letters" = some (.ref f)) (B : Blt mg) (hTk : Has P w K mg base 1 "_law_take" ["_law_hand_here", "_law_many"] (spTk)) (hAl : Has P w K mg base 1 "_law_signs" [] (spAl)) :
    Has P w K mg base 2 "_law_letters" ["_law_hand_here"] (spLe2) := by
  obtain ⟨fTk, dTk, gTk, kTk, bTk, GTk⟩ := hTk
  obtain ⟨fAl, dAl, gAl, kAl, bAl, GAl⟩ := hAl
  refine has_of F g (F.binds (ps := ["_law_hand_here"]) fun _ _ _ _ _ _ us hl => match us, hl with | [_], _ => rfl) (F.ok scLe2 (fun vs H Q E h => ?_) (fun cdv A outer s H vs Q E hr h => ?_))
  · obtain ⟨p, n, rfl, _⟩ := h
    rfl
  · refine ⟨_, (pss_cons (ps_set (i := 1) scLe2.nd rfl (.inr rfl) (pe_call GTk hr rfl gTk kTk bTk .nil pass0 (pa_cons (pv 0) (pa_cons pe_int pa_nil))))
        (pss_cons (ps_set (i := 2) scLe2.nd rfl (.inr rfl) (pe_op op_add pe_int (pe_call GTk hr rfl gTk kTk bTk .nil pass0 (pa_cons (pv 0) (pa_cons pe_int pa_nil)))))
        (pss_one (ps_ret (pe_join pe_str (pe_lc (own := [("_law_k", 3)]) (g := gName 3) (tt := tYes) rfl scLe2.nd (pi_range1 (by rfl) B.range (pa_cons pe_int pa_nil)) (blkOk_by (N := nLe2) (sc := defScope sLe2) (by decide +kernel)) (fun _ _ _ _ _ => pg_name (i := 3) scLe2.nd rfl (.inl rfl)) (fun _ _ _ _ _ => pts_nil) (fun _ _ _ _ _ => (pe_ix ix_str (pe_call0 GAl hr rfl gAl kAl bAl .nil pass0) (pe_op op_modN (pe_callTy call_int1 (by rfl) B.int (by decide +kernel) (pa_cons (pe_op op_add (pv 1) (pe_op op_mul (pv 3) (pv 2))) pa_nil)) pe_int) (fun _ _ => rfl))))))))), ?_⟩
    obtain ⟨p, n, rfl, n1, hh, k⟩ := h
    refine ⟨_, rfl, p, 94, n, rfl, by omega, by omega, by omega, hh, fun H1 r1 s1 h1 l1 => ?_⟩
    refine ⟨_, rfl, p, 5, n + 1, rfl, by omega, by omega, by omega, h1, fun H2 r2 s2 h2 l2 => ⟨_, _, rfl, rfl, ?_⟩⟩
    refine ⟨⟨_, rfl⟩, _, rfl, by decide, by decide, fun D hD => ?_⟩
    refine lc_it (walk_range (lo := 0) (n := 12)) (fun i H' => Same H2 H' ∧ ∃ l : List Nat, l.length = i ∧ (∀ c ∈ l, lineC c) ∧ H' D = some (.lst ((l.map sg).map V.str))) ⟨same_upd hD, [], rfl, (fun c m => nomatch m), upd_same⟩ (fun _ _ _ _ => trivial) (fun i v H3 H' hi e yy => ?_) (fun H' e => ?_)
    · obtain ⟨s3, l, ll, lc, hd⟩ := e
      obtain ⟨rfl, rfl⟩ := yy
      refine ⟨rfl, rfl, _, rfl, _, rfl, _, rfl, _, _, rfl, rfl, .inl ⟨by omega, by omega⟩, _, _, rfl, rfl, .inl ⟨_, rfl, _, _, rfl, rfl, (by show (94 : Int) ≠ 0; decide), ?_⟩⟩
      generalize hx : ((r1 : Nat) : Int) + (0 + ((i : Nat) : Int)) * (1 + ((r2 : Nat) : Int)) = x
      have x1 := Int.fmod_nonneg_of_pos x (b := 94) (by decide)
      have x2 := Int.fmod_lt_of_pos x (b := 94) (by decide)
      obtain ⟨c, hc, lnc⟩ := al_at (i := (x.fmod 94).toNat) (by omega)
      refine ⟨_, _, c, rfl, rfl, by decide +kernel, ?_, _, hd, ?_, same_upd2 s3 hD, l ++ [c], by rw [List.length_append, ll]; rfl, fun d m => ?_, ?_⟩
      · rw [show x.fmod 94 = (((x.fmod 94).toNat : Nat) : Int) by omega]
        exact atI_nat hc
      · rw [List.length_map, List.length_map, ll, sizeLine_eq]
        omega
      · rcases List.mem_append.mp m with m | m
        · exact lc d m
        · rw [List.mem_singleton.mp m]
          exact lnc
      · rw [upd_same, List.map_append, List.map_append]
        rfl
    · obtain ⟨s3, l, ll, lc, hd⟩ := e
      refine ⟨"", D, l.map sg, rfl, rfl, .inl (SqL.of hd), ?_, ?_⟩
      · rw [sum_sg, ll, show ("" : Str).length = 0 from by decide +kernel]
        omega
      · rw [join_sg]
        refine k H' _ ((s1.trans s2).trans (SB.of s3)) (h2.same s3) ⟨?_, fun c m => lc c m⟩
        exact ll
abbrev sSi : Stmt := top 37
abbrev nSi : List Str := ["_law_hand_here", "_law_letters_here", "_law_k"]
theorem scSi : FnScope nSi ["_law_hand_here", "_law_letters_here"] (defScope sSi) := ⟨rfl, rfl, rfl, by decide +kernel, rfl, by decide +kernel, by decide +kernel⟩
theorem has_Si {f : Addr} {fd : FuncData}  (F : Fun K "_law_sign" "_law_sign" sSi f fd) (g : mg "_law_sign" = some (.ref f)) (B : Blt mg) (hTk : Has P w K mg base 1 "_law_take" ["_law_hand_here", "_law_many"] (spTk)) (hAl : Has P w K mg base 1 "_law_signs" [] (spAl)) :
    Has P w K mg base 2 "_law_sign" ["_law_hand_here", "_law_letters_here"] (spSi) := by
  obtain ⟨fTk, dTk, gTk, kTk, bTk, GTk⟩ := hTk
  obtain ⟨fAl, dAl, gAl, kAl, bAl, GAl⟩ := hAl
  refine has_of F g (F.binds (ps := ["_law_hand_here", "_law_letters_here"]) fun _ _ _ _ _ _ us hl => match us, hl with | [_, _], _ => rfl) (F.ok scSi (fun vs H Q E h => ?_) (fun cdv A outer s H vs Q E hr h => ?_))
  · obtain ⟨p, n, x, rfl, _⟩ := h
    rfl
  · refine ⟨_, (pss_cons (ps_set (i := 2) scSi.nd rfl (.inl rfl) (pe_call GTk hr rfl gTk kTk bTk .nil pass0 (pa_cons (pv 0) (pa_cons pe_int pa_nil))))
        (pss_cons (ps_if (pt_cmpR op_lt (pv 2) pe_int (nomark _)) (pss_one (ps_ret (pe_ix ix_str (pv 1) (pe_op op_modN (pe_callTy call_int1 (by rfl) B.int (by decide +kernel) (pa_cons (pv 2) pa_nil)) pe_int) (fun _ _ => rfl)))) pss_nil)
        (pss_cons (ps_if (pt_cmpR op_eq (pv 2) pe_int (nomark _)) (pss_one (ps_ret (pe_ix ix_str (pv 1) (pe_call GTk hr rfl gTk kTk bTk .nil pass0 (pa_cons (pv 0) (pa_cons pe_int pa_nil))) (fun _ _ => rfl)))) pss_nil)
        (pss_one (ps_ret (pe_ix ix_str (pe_call0 GAl hr rfl gAl kAl bAl .nil pass0) (pe_call GTk hr rfl gTk kTk bTk .nil pass0 (pa_cons (pv 0) (pa_cons pe_int pa_nil))) (fun _ _ => rfl))))))), ?_⟩
    obtain ⟨p, n, x, rfl, n1, hh, ⟨lx, gx⟩, k⟩ := h
    have zx : x.length ≤ sizeLine := line_small (by rw [len_cs]; omega)
    have at_ : ∀ i : Nat, i < 12 → ∃ c, (cs x)[i]? = some c ∧ lineC c := fun i h => ⟨(cs x)[i], List.getElem?_eq_getElem (by omega), gx _ (List.getElem_mem _)⟩
    refine ⟨_, rfl, p, 8, n, rfl, by omega, by omega, by omega, hh, fun H1 r1 s1 h1 l1 => ?_⟩
    refine ⟨_, rfl, _, _, rfl, rfl, _, rfl, if_by (fun e => ?_) (fun e => ?_)⟩
    · have e := of_decide_eq_true e
      obtain ⟨c, hc, lnc⟩ := at_ (r1 % 3) (by omega)
      refine ⟨_, rfl, _, rfl, .inl ⟨_, rfl, _, _, rfl, rfl, (by show (3 : Int) ≠ 0; decide), _, _, c, rfl, rfl, zx, ?_, k H1 c s1 (h1.up (by omega)) lnc⟩⟩
      rw [show ((r1 : Nat) : Int).fmod 3 = ((r1 % 3 : Nat) : Int) by rw [Int.fmod_eq_emod_of_nonneg _ (by decide)]; omega]
      exact atI_nat hc
    · refine ⟨_, rfl, rfl, _, rfl, if_by (fun e => ?_) (fun e => ?_)⟩
      · refine ⟨_, rfl, _, rfl, p, 12, n + 1, rfl, by omega, by omega, by omega, h1, fun H2 r2 s2 h2 l2 => ?_⟩
        obtain ⟨c, hc, lnc⟩ := at_ r2 l2
        exact ⟨_, _, c, rfl, rfl, zx, atI_nat hc, k H2 c (s1.trans s2) h2 lnc⟩
      · refine ⟨rfl, _, rfl, p, 94, n + 1, rfl, by omega, by omega, by omega, h1, fun H2 r2 s2 h2 l2 => ?_⟩
        obtain ⟨c, hc, lnc⟩ := al_at (i := r2) l2
        exact ⟨_, _, c, rfl, rfl, by decide +kernel, atI_nat hc, k H2 c (s1.trans s2) h2 lnc⟩
end
end Qb
end PySem
namespace PySem
namespace Qb
open PySem.W PySem.Calls PyProof.Rows L2
/-! # what the law draws: patterns, pairs, numbers -/
def newOf (H H' : Hp) : Hp := fun b => match H b with
  | none => H' b
  | some _ => none
theorem newOf_at {H H' : Hp} {b : Addr} {o : HO} (n : H b = none) (h : H' b = some o) : newOf H H' b = some o := by
  unfold newOf
  rw [n]
  exact h
theorem newOf_get {H H' : Hp} {b : Addr} {o : HO} (h : newOf H H' b = some o) : H b = none ∧ H' b = some o := by
  unfold newOf at h
  cases e : H b with
  | none => rw [e] at h; exact ⟨rfl, h⟩
  | some u => rw [e] at h; cases h
theorem newOf_same {H H' : Hp} : Same (newOf H H') H' := fun b o h => (newOf_get h).2
theorem HdAt.some {H : Hp} {p : Addr} {n : Nat} (h : HdAt H p n) : ∃ o, H p = some o := by
  obtain ⟨a, k, c, b, h, _⟩ := h
  exact ⟨_, h⟩
theorem free_sb {p : Addr} {H H' : Hp} {n : Nat} (s : SB p H H') (h : HdAt H' p n) {b : Addr} (e : H' b = none) : H b = none := by
  obtain ⟨o, ho⟩ := h.some
  have ne : b ≠ p := fun z => by rw [z, ho] at e; cases e
  cases q : H b with
  | none => rfl
  | some u =>
    rw [s.at q ne] at e
    cases e
theorem nw_up {p : Addr} {H H1 H2 : Hp} {n : Nat} (s : SB p H H1) (h : HdAt H1 p n) : Same (newOf H1 H2) (newOf H H2) := fun b o q => newOf_at (free_sb s h (newOf_get q).1) (newOf_get q).2
theorem nw_mono {p : Addr} {H H1 H2 : Hp} {n : Nat} (h : HdAt H p n) (s : SB p H1 H2) : Same (newOf H H1) (newOf H H2) := fun b o q => by
  obtain ⟨q1, q2⟩ := newOf_get q
  obtain ⟨u, hu⟩ := h.some
  have ne : b ≠ p := fun z => by rw [z, hu] at q1; cases q1
  exact newOf_at q1 (s.at q2 ne)
/-- a list that is being drawn -/
def DrawL (K : Frag) (p : Addr) (H H' : Hp) (D : Addr) (ds : List PyData) : Prop := H D = none ∧ D ≠ p ∧ SB p H H' ∧ ∃ ys, H' D = some (.lst ys) ∧ DpAll K (hide (newOf H H') D) ys ds
theorem DrawL.start {K : Frag} {p D : Addr} {H : Hp} (n : H D = none) (ne : D ≠ p) : DrawL K p H (L2.upd H D (.lst [])) D [] := ⟨n, ne, SB.of (same_upd n), [], upd_same, .nil⟩
theorem DrawL.add {K : Frag} {p D : Addr} {H H1 H2 : Hp} {ds : List PyData} {n m : Nat} (b : DrawL K p H H1 D ds) (h : HdAt H p n) (h1 : HdAt H1 p m) (s : SB p H1 H2) {v : V} {d : PyData} (dv : Dp K (newOf H1 H2) v d) :
    ∃ ys, H2 D = some (.lst ys) ∧ ys.length = ds.length ∧ DrawL K p H (L2.upd H2 D (.lst (ys ++ [v]))) D (ds ++ [d]) := by
  obtain ⟨b1, b2, b3, ys, b4, b5⟩ := b
  have e : H2 D = some (.lst ys) := s.at b4 b2
  refine ⟨ys, e, dpLen b5, b1, b2, SB.put_new (b3.trans s) b1, _, upd_same, ?_⟩
  have k1 : Same (hide (newOf H H1) D) (hide (newOf H (L2.upd H2 D (.lst (ys ++ [v])))) D) := fun c o q => by
    by_cases z : c = D
    · subst z
      unfold hide at q
      rw [if_pos rfl] at q
      cases q
    · unfold hide at q
      rw [if_neg z] at q
      obtain ⟨q1, q2⟩ := newOf_get q
      obtain ⟨u, hu⟩ := h.some
      have ne : c ≠ p := fun z => by rw [z, hu] at q1; cases q1
      exact hide_ne (newOf_at q1 (by rw [upd_ne z]; exact s.at q2 ne)) z
  have k2 : Same (newOf H1 H2) (hide (newOf H (L2.upd H2 D (.lst (ys ++ [v])))) D) := fun c o q => by
    obtain ⟨q1, q2⟩ := newOf_get q
    have z : c ≠ D := fun z => by rw [z, b4] at q1; cases q1
    exact hide_ne (newOf_at (free_sb b3 h1 q1) (by rw [upd_ne z]; exact q2)) z
  exact dpApp (dpAll_same k1 b5) (.cons (dp_same k2 dv) .nil)
theorem DrawL.done {K : Frag} {p D : Addr} {H H' : Hp} {ds : List PyData} (b : DrawL K p H H' D ds) : Dp K (newOf H H') (.ref D) (.list ds) := by
  obtain ⟨b1, b2, b3, ys, b4, b5⟩ := b
  exact .lst (SqL.of (newOf_at b1 b4)) (dpAll_same hide_same b5)
def RgOk (r : Nat × Nat) : Prop := r.1 ∈ cs signsS ∧ r.2 ∈ cs signsS ∧ r.1 ≤ r.2
def spRa (K : Frag) : Sp := fun vs H Q _ => ∃ (p : Addr) (n : Nat) (x : Str), vs = [.ref p, .str x] ∧ n ≤ 50000 ∧ HdAt H p n ∧ LtOk x ∧ ∀ H' v r, SB p H H' → HdAt H' p (n + 5) → Dp K (newOf H H') v (rgD r) → RgOk r → Q v H'
def spEn (K : Frag) : Sp := fun vs H Q _ => ∃ (p : Addr) (n : Nat) (x : Str), vs = [.ref p, .str x] ∧ n ≤ 40000 ∧ HdAt H p n ∧ LtOk x ∧ ∀ H' v q, SB p H H' → HdAt H' p (n + 40) → Dp K (newOf H H') v (Pt.d q) → q.good ∧ q.few → Q v H'
def spPt (K : Frag) : Sp := fun vs H Q _ => ∃ (p : Addr) (n m : Nat) (x : Str), vs = [.ref p, .str x, .int (m : Nat)] ∧ m ≤ 20 ∧ n ≤ 20000 ∧ HdAt H p n ∧ LtOk x ∧ ∀ H' v (ps : List Pt), SB p H H' → HdAt H' p (n + 1 + 40 * m) → Dp K (newOf H H') v (.list (ps.map Pt.d)) → ps.length ≤ m → (∀ q ∈ ps, q.good ∧ q.few) → Q v H'
def spNu : Sp := fun vs H Q _ => ∃ (p : Addr) (n : Nat), vs = [.ref p] ∧ n ≤ 50000 ∧ HdAt H p n ∧ ∀ H' (m : Nat), SB p H H' → HdAt H' p (n + 2) → m ≤ 2000000000 → Q (.int (m : Nat)) H'
theorem ten_sign : 10 ∈ cs signsS := by decide +kernel
section
variable {P : Program} {w : World} {K : Frag} {mg : Str → Option Value} {base : Heap}
abbrev sRa : Stmt := top 38
abbrev nRa : List Str := ["_law_hand_here", "_law_letters_here", "_law_one", "_law_other"]
theorem scRa : FnScope nRa ["_law_hand_here", "_law_letters_here"] (defScope sRa) := ⟨rfl, rfl, rfl, by decide +kernel, rfl, by decide +kernel, by decide +kernel⟩
theorem has_Ra {f : Addr} {fd : FuncData}  (F : Fun K "_law_range" "_law_range" sRa f fd) (g : mg "_law_range" = some (.ref f)) (B : Blt mg) (hSi : Has P w K mg base 2 "_law_sign" ["_law_hand_here", "_law_letters_here"] (spSi)) (hTk : Has P w K mg base 1 "_law_take" ["_law_hand_here", "_law_many"] (spTk)) :
    Has P w K mg base 3 "_law_range" ["_law_hand_here", "_law_letters_here"] (spRa K) := by
  obtain ⟨fSi, dSi, gSi, kSi, bSi, GSi⟩ := hSi
  obtain ⟨fTk, dTk, gTk, kTk, bTk, GTk⟩ := hTk
  refine has_of F g (F.binds (ps := ["_law_hand_here", "_law_letters_here"]) fun _ _ _ _ _ _ us hl => match us, hl with | [_, _], _ => rfl) (F.ok scRa (fun vs H Q E h => ?_) (fun cdv A outer s H vs Q E hr h => ?_))
  · obtain ⟨p, n, x, rfl, _⟩ := h
    rfl
  · refine ⟨_, (pss_cons (ps_set (i := 2) scRa.nd rfl (.inl rfl) (pe_call GSi hr rfl gSi kSi bSi .nil pass0 (pa_cons (pv 0) (pa_cons (pv 1) pa_nil))))
        (pss_cons (ps_set (i := 3) scRa.nd rfl (.inl rfl) (pe_call GSi hr rfl gSi kSi bSi .nil pass0 (pa_cons (pv 0) (pa_cons (pv 1) pa_nil))))
        (pss_cons (ps_weak (ps_if (pt_cmpR op_eq (pe_call GTk (hr.mono (by decide)) rfl gTk kTk bTk .nil pass0 (pa_cons (pv 0) (pa_cons pe_int pa_nil))) pe_int (nomark _)) (pss_one (ps_set (i := 2) scRa.nd rfl (.inl rfl) pe_str)) pss_nil))
        (pss_one (ps_ret (pe_tup (pa_cons (pe_callB (call_min2S rfl) (by rfl) B.min (by decide +kernel) (pa_cons (pv 2) (pa_cons (pv 3) pa_nil))) (pa_cons (pe_callB (call_max2S rfl) (by rfl) B.max (by decide +kernel) (pa_cons (pv 2) (pa_cons (pv 3) pa_nil))) pa_nil)))))))), ?_⟩
    obtain ⟨p, n, x, rfl, n1, hh, lt, k⟩ := h
    refine ⟨_, rfl, _, rfl, p, n, x, rfl, by omega, hh, lt, fun H1 c1 s1 h1 l1 => ?_⟩
    refine ⟨_, rfl, _, rfl, p, n + 2, x, rfl, by omega, h1, lt, fun H2 c2 s2 h2 l2 => ?_⟩
    refine ⟨fun σ' H' => ∃ d, d ∈ cs signsS ∧ σ' = [some (.ref p), some (.str x), some (.str (sg d)), some (.str (sg c2))] ∧ SB p H H' ∧ HdAt H' p (n + 5), fun σ' H' e => ?_, ?_⟩
    · obtain ⟨d, hd, rfl, s3, h3⟩ := e
      have fin : ∀ (T : Addr) (r : Nat × Nat), H' T = none → RgOk r → Q (.ref T) (L2.upd H' T (.tup [.str (sg r.1), .str (sg r.2)])) := fun T r nT ok => by
        have sT := same_upd (o := .tup [V.str (sg r.1), V.str (sg r.2)]) nT
        refine k _ (.ref T) r (s3.trans (SB.of sT)) (h3.same sT) ?_ ok
        exact .tup (SqT.of (newOf_at (free_sb s3 h3 nT) upd_same)) (.cons (.str _) (.cons (.str _) .nil))
      refine ⟨_, rfl, _, rfl, sg d, sg c2, rfl, _, rfl, _, rfl, sg d, sg c2, rfl, (by decide : 2 ≤ sizeLine), fun T nT => ?_⟩
      rw [lt_sg, lt_sg]
      by_cases z : d < c2
      · rw [if_neg (by rw [decide_eq_true_iff]; omega), if_pos (decide_eq_true z)]
        exact fin T (d, c2) nT ⟨hd, l2.1, by show d ≤ c2; omega⟩
      · rw [if_neg (c := decide (d < c2) = true) (by rw [decide_eq_true_iff]; exact z)]
        by_cases y : c2 < d
        · rw [if_pos (decide_eq_true y)]
          exact fin T (c2, d) nT ⟨l2.1, hd, by show c2 ≤ d; omega⟩
        · rw [if_neg (by rw [decide_eq_true_iff]; exact y)]
          exact fin T (d, d) nT ⟨hd, hd, Nat.le_refl _⟩
    · refine ⟨_, rfl, p, 16, n + 4, rfl, by omega, by omega, by omega, h2, fun H3 r3 s3 h3 l3 => ⟨rfl, _, rfl, if_by (fun e => ?_) (fun e => ?_)⟩⟩
      · exact ⟨10, ten_sign, rfl, (s1.trans s2).trans s3, h3⟩
      · exact ⟨c1, l1.1, rfl, (s1.trans s2).trans s3, h3⟩
abbrev sNu : Stmt := top 49
abbrev nNu : List Str := ["_law_hand_here", "_law_kind"]
theorem scNu : FnScope nNu ["_law_hand_here"] (defScope sNu) := ⟨rfl, rfl, rfl, by decide +kernel, rfl, by decide +kernel, by decide +kernel⟩
theorem has_Nu {f : Addr} {fd : FuncData}  (F : Fun K "_law_number" "_law_number" sNu f fd) (g : mg "_law_number" = some (.ref f)) (B : Blt mg) (hTk : Has P w K mg base 1 "_law_take" ["_law_hand_here", "_law_many"] (spTk)) :
    Has P w K mg base 2 "_law_number" ["_law_hand_here"] (spNu) := by
  obtain ⟨fTk, dTk, gTk, kTk, bTk, GTk⟩ := hTk
  refine has_of F g (F.binds (ps := ["_law_hand_here"]) fun _ _ _ _ _ _ us hl => match us, hl with | [_], _ => rfl) (F.ok scNu (fun vs H Q E h => ?_) (fun cdv A outer s H vs Q E hr h => ?_))
  · obtain ⟨p, n, rfl, _⟩ := h
    rfl
  · refine ⟨_, (pss_cons (ps_set (i := 1) scNu.nd rfl (.inl rfl) (pe_call GTk hr rfl gTk kTk bTk .nil pass0 (pa_cons (pv 0) (pa_cons pe_int pa_nil))))
        (pss_cons (ps_if (pt_cmpR op_eq (pv 1) pe_int (nomark _)) (pss_one (ps_ret (pe_op op_add (pe_op op_pow pe_int pe_int) (pe_call GTk hr rfl gTk kTk bTk .nil pass0 (pa_cons (pv 0) (pa_cons pe_int pa_nil)))))) pss_nil)
        (pss_cons (ps_if (pt_cmpR op_eq (pv 1) pe_int (nomark _)) (pss_one (ps_ret (pe_call GTk hr rfl gTk kTk bTk .nil pass0 (pa_cons (pv 0) (pa_cons pe_int pa_nil))))) pss_nil)
        (pss_one (ps_ret (pe_call GTk hr rfl gTk kTk bTk .nil pass0 (pa_cons (pv 0) (pa_cons pe_int pa_nil)))))))), ?_⟩
    obtain ⟨p, n, rfl, n1, hh, k⟩ := h
    refine ⟨_, rfl, p, 6, n, rfl, by omega, by omega, by omega, hh, fun H1 r1 s1 h1 l1 => ?_⟩
    refine ⟨_, rfl, rfl, _, rfl, if_by (fun e => ?_) (fun e => ?_)⟩
    · refine ⟨_, _, rfl, rfl, ⟨by decide, by decide, by decide⟩, _, rfl, p, 1000, n + 1, rfl, by omega, by omega, by omega, h1, fun H2 r2 s2 h2 l2 => ⟨_, _, rfl, rfl, ?_⟩⟩
      have := k H2 (10 ^ 9 + r2) (s1.trans s2) h2 (by omega)
      rw [show ((10 ^ 9 + r2 : Nat) : Int) = (10 : Int) ^ (9 : Int).toNat + ((r2 : Nat) : Int) from by
        show _ = (10 : Int) ^ 9 + _
        omega] at this
      exact this
    · refine ⟨_, rfl, rfl, _, rfl, if_by (fun e => ?_) (fun e => ?_)⟩
      · exact ⟨_, rfl, p, 70, n + 1, rfl, by omega, by omega, by omega, h1, fun H2 r2 s2 h2 l2 => k H2 r2 (s1.trans s2) h2 (by omega)⟩
      · exact ⟨_, rfl, p, 5, n + 1, rfl, by omega, by omega, by omega, h1, fun H2 r2 s2 h2 l2 => k H2 r2 (s1.trans s2) h2 (by omega)⟩
end
end Qb
end PySem
namespace PySem
namespace Qb
open PySem.W PySem.Calls PyProof.Rows L2
/-! # what the law draws: entries, patterns, lines -/
/-- a line -/
def LineOk (x : Str) : Prop := x.length ≤ 17 ∧ ∀ c ∈ cs x, lineC c
def spLi : Sp := fun vs H Q _ => ∃ (p : Addr) (n : Nat) (x : Str), vs = [.ref p, .str x] ∧ n ≤ 50000 ∧ HdAt H p n ∧ LtOk x ∧ ∀ H' z, SB p H H' → HdAt H' p (n + 40) → LineOk z → Q (.str z) H'
theorem DrawL.put {K : Frag} {p D : Addr} {H H1 : Hp} {ds : List PyData} (b : DrawL K p H H1 D ds) : ∃ ys, H1 D = some (.lst ys) ∧ ys.length = ds.length := by
  obtain ⟨b1, b2, b3, ys, b4, b5⟩ := b
  exact ⟨ys, b4, dpLen b5⟩
theorem hd_ne {H : Hp} {p D : Addr} {n : Nat} (h : HdAt H p n) (e : H D = none) : D ≠ p := fun z => by
  obtain ⟨o, ho⟩ := h.some
  rw [z, ho] at e
  cases e
theorem HdAt.off {H : Hp} {p D : Addr} {n : Nat} {o : HO} (h : HdAt H p n) (ne : D ≠ p) : HdAt (L2.upd H D o) p n := by
  obtain ⟨a, k, c, b, h1, r⟩ := h
  exact ⟨a, k, c, b, by rw [upd_ne (Ne.symm ne)]; exact h1, r⟩
section
variable {P : Program} {w : World} {K : Frag} {mg : Str → Option Value} {base : Heap}
abbrev sEn : Stmt := top 39
abbrev nEn : List Str := ["_law_hand_here", "_law_letters_here", "_law_kind", "_law_many", "_law_k"]
theorem scEn : FnScope nEn ["_law_hand_here", "_law_letters_here"] (defScope sEn) := ⟨rfl, rfl, rfl, by decide +kernel, rfl, by decide +kernel, by decide +kernel⟩
theorem has_En {f : Addr} {fd : FuncData}  (F : Fun K "_law_entry" "_law_entry" sEn f fd) (g : mg "_law_entry" = some (.ref f)) (B : Blt mg) (hTk : Has P w K mg base 1 "_law_take" ["_law_hand_here", "_law_many"] (spTk)) (hSi : Has P w K mg base 2 "_law_sign" ["_law_hand_here", "_law_letters_here"] (spSi)) (hRa : Has P w K mg base 3 "_law_range" ["_law_hand_here", "_law_letters_here"] (spRa K)) :
    Has P w K mg base 4 "_law_entry" ["_law_hand_here", "_law_letters_here"] (spEn K) := by
  obtain ⟨fTk, dTk, gTk, kTk, bTk, GTk⟩ := hTk
  obtain ⟨fSi, dSi, gSi, kSi, bSi, GSi⟩ := hSi
  obtain ⟨fRa, dRa, gRa, kRa, bRa, GRa⟩ := hRa
  refine has_of F g (F.binds (ps := ["_law_hand_here", "_law_letters_here"]) fun _ _ _ _ _ _ us hl => match us, hl with | [_, _], _ => rfl) (F.ok scEn (fun vs H Q E h => ?_) (fun cdv A outer s H vs Q E hr h => ?_))
  · obtain ⟨p, n, x, rfl, _⟩ := h
    rfl
  · refine ⟨_, (pss_cons (ps_set (i := 2) scEn.nd rfl (.inl rfl) (pe_call GTk (hr.mono (by decide)) rfl gTk kTk bTk .nil pass0 (pa_cons (pv 0) (pa_cons pe_int pa_nil))))
        (pss_cons (ps_if (pt_cmpR op_lt (pv 2) pe_int (nomark _)) (pss_one (ps_ret (pe_tup (pa_cons pe_str (pa_cons (pe_call GSi (hr.mono (by decide)) rfl gSi kSi bSi .nil pass0 (pa_cons (pv 0) (pa_cons (pv 1) pa_nil))) pa_nil))))) pss_nil)
        (pss_cons (ps_if (pt_cmpR op_eq (pv 2) pe_int (nomark _)) (pss_one (ps_ret (pe_tup (pa_cons pe_str pa_nil)))) pss_nil)
        (pss_cons (ps_if (pt_cmpR op_lt (pv 2) pe_int (nomark _)) (pss_one (ps_ret (pe_tup (pa_cons pe_str pa_nil)))) pss_nil)
        (pss_cons (ps_set (i := 3) scEn.nd rfl (.inl rfl) (pe_op op_add pe_int (pe_call GTk (hr.mono (by decide)) rfl gTk kTk bTk .nil pass0 (pa_cons (pv 0) (pa_cons pe_int pa_nil)))))
        (pss_cons (ps_weak (ps_if (pt_cmpR op_eq (pe_call GTk (hr.mono (by decide)) rfl gTk kTk bTk .nil pass0 (pa_cons (pv 0) (pa_cons pe_int pa_nil))) pe_int (nomark _)) (pss_one (ps_set (i := 3) scEn.nd rfl (.inl rfl) (pe_op op_add (pe_op op_add (pv 3) pe_int) (pe_call GTk (hr.mono (by decide)) rfl gTk kTk bTk .nil pass0 (pa_cons (pv 0) (pa_cons pe_int pa_nil)))))) pss_nil))
        (pss_one (ps_ret (pe_tup (pa_cons pe_str (pa_cons (pe_cmpR op_eq (pv 2) pe_int (nomark _)) (pa_cons (pe_lc (own := [("_law_k", 4)]) (g := gName 4) (tt := tYes) rfl scEn.nd (pi_range1 (by rfl) B.range (pa_cons (pv 3) pa_nil)) (blkOk_by (N := nEn) (sc := defScope sEn) (by decide +kernel)) (fun _ _ _ _ _ => pg_name (i := 4) scEn.nd rfl (.inl rfl)) (fun _ _ _ _ _ => pts_nil) (fun _ _ _ _ _ => (pe_call GRa hr rfl gRa kRa bRa .nil pass0 (pa_cons (pv 0) (pa_cons (pv 1) pa_nil))))) pa_nil)))))))))))), ?_⟩
    obtain ⟨p, n, x, rfl, n1, hh, lt, k⟩ := h
    refine ⟨_, rfl, p, 8, n, rfl, by omega, by omega, by omega, hh, fun H1 r1 s1 h1 l1 => ?_⟩
    refine ⟨_, rfl, _, _, rfl, rfl, _, rfl, if_by (fun e => ?_) (fun e => ?_)⟩
    · refine ⟨_, rfl, _, rfl, p, n + 1, x, rfl, by omega, h1, lt, fun H2 c s2 h2 lc => ⟨(by decide : 2 ≤ sizeLine), fun T nT => ?_⟩⟩
      have sT := same_upd (o := .tup [V.str "one", V.str (sg c)]) nT
      refine k _ (.ref T) (.one c) ((s1.trans s2).trans (SB.of sT)) ((h2.same sT).up (by omega)) ?_ ⟨lc.1, trivial⟩
      exact .tup (SqT.of (newOf_at (free_sb (s1.trans s2) h2 nT) upd_same)) (.cons (.str _) (.cons (.str _) .nil))
    refine ⟨_, rfl, rfl, _, rfl, if_by (fun e => ?_) (fun e => ?_)⟩
    · refine ⟨(by decide : 1 ≤ sizeLine), fun T nT => ?_⟩
      have sT := same_upd (o := .tup [V.str "any"]) nT
      refine k _ (.ref T) .any (s1.trans (SB.of sT)) ((h1.same sT).up (by omega)) ?_ ⟨trivial, trivial⟩
      exact .tup (SqT.of (newOf_at (free_sb s1 h1 nT) upd_same)) (.cons (.str _) .nil)
    refine ⟨_, rfl, _, _, rfl, rfl, _, rfl, if_by (fun e => ?_) (fun e => ?_)⟩
    · refine ⟨(by decide : 1 ≤ sizeLine), fun T nT => ?_⟩
      have sT := same_upd (o := .tup [V.str "lot"]) nT
      refine k _ (.ref T) .lot (s1.trans (SB.of sT)) ((h1.same sT).up (by omega)) ?_ ⟨trivial, trivial⟩
      exact .tup (SqT.of (newOf_at (free_sb s1 h1 nT) upd_same)) (.cons (.str _) .nil)
    refine ⟨_, rfl, p, 2, n + 1, rfl, by omega, by omega, by omega, h1, fun H2 r2 s2 h2 l2 => ⟨_, _, rfl, rfl, ?_⟩⟩
    refine ⟨fun σ' H' => ∃ m : Nat, 1 ≤ m ∧ m ≤ 6 ∧ σ' = [some (.ref p), some (.str x), some (.int (r1 : Nat)), some (.int (m : Nat)), none] ∧ SB p H H' ∧ HdAt H' p (n + 4), fun σ' H' e => ?_, ?_⟩
    · obtain ⟨m, m1, m2, rfl, s3, h3⟩ := e
      refine ⟨_, rfl, rfl, _, rfl, _, rfl, by omega, by omega, fun D hD => ?_⟩
      have nD := hd_ne h3 hD
      refine lc_it (walk_range (lo := 0) (n := m)) (fun i G => ∃ rs : List (Nat × Nat), rs.length = i ∧ (∀ r ∈ rs, RgOk r) ∧ DrawL K p H' G D (rs.map rgD) ∧ HdAt G p (n + 4 + 5 * i)) ⟨[], rfl, (fun r m => nomatch m), DrawL.start hD nD, h3.off nD⟩ (fun _ _ _ _ => trivial) (fun i v H4 H5 hi e yy => ?_) (fun G e => ?_)
      · obtain ⟨rs, rl, rg, dl, h4⟩ := e
        obtain ⟨rfl, rfl⟩ := yy
        refine ⟨rfl, _, rfl, _, rfl, p, n + 4 + 5 * i, x, rfl, by omega, h4, lt, fun H6 v r s6 h6 dv ok => ?_⟩
        obtain ⟨ys, hy, yl, dl'⟩ := dl.add h3 h4 s6 dv
        refine ⟨ys, hy, ?_, rs ++ [r], by rw [List.length_append, rl]; rfl, fun q mq => ?_, ?_, (h6.off nD).up (by omega)⟩
        · rw [yl, List.length_map, rl, sizeLine_eq]
          omega
        · rcases List.mem_append.mp mq with mq | mq
          · exact rg q mq
          · rw [List.mem_singleton.mp mq]
            exact ok
        · rw [List.map_append]
          exact dl'
      · obtain ⟨rs, rl, rg, dl, h4⟩ := e
        refine ⟨(by decide : 3 ≤ sizeLine), fun T nT => ?_⟩
        have dd := dl.done
        have s4 := dl.2.2.1
        have sT := same_upd (o := .tup [V.str "of", V.bl (decide (V.int ((r1 : Nat) : Int) = V.int 7)), V.ref D]) nT
        refine k _ (.ref T) (.of (decide (V.int ((r1 : Nat) : Int) = V.int 7)) rs) ((s3.trans s4).trans (SB.of sT)) ((h4.same sT).up (by omega)) ?_ ⟨⟨fun z => by rw [z] at rl; simp at rl; omega, rg⟩, by show rs.length ≤ 300; omega⟩
        have up : Same (newOf H' G) (newOf H (L2.upd G T (.tup [V.str "of", V.bl (decide (V.int ((r1 : Nat) : Int) = V.int 7)), V.ref D]))) := (nw_up s3 h3).trans (nw_mono hh (SB.of sT))
        exact .tup (SqT.of (newOf_at (free_sb (s3.trans s4) h4 nT) upd_same)) (.cons (.str _) (.cons (.bl _) (.cons (dp_same up dd) .nil)))
    · refine ⟨_, rfl, p, 4, n + 2, rfl, by omega, by omega, by omega, h2, fun H3 r3 s3 h3 l3 => ⟨rfl, _, rfl, if_by (fun e => ?_) (fun e => ?_)⟩⟩
      · refine ⟨_, rfl, _, _, rfl, rfl, _, rfl, p, 4, n + 3, rfl, by omega, by omega, by omega, h3, fun H4 r4 s4 h4 l4 => ⟨_, _, rfl, rfl, 1 + r2 + 1 + r4, by omega, by omega, ?_, ((s1.trans s2).trans s3).trans s4, h4⟩⟩
        show _ = [_, _, _, some (V.int (((1 + r2 + 1 + r4 : Nat) : Nat) : Int)), _]
        rw [show (((1 + r2 + 1 + r4 : Nat) : Nat) : Int) = 1 + ((r2 : Nat) : Int) + 1 + ((r4 : Nat) : Int) by omega]
        rfl
      · refine ⟨1 + r2, by omega, by omega, ?_, (s1.trans s2).trans s3, h3.up (by omega)⟩
        rw [show (((1 + r2 : Nat) : Nat) : Int) = 1 + ((r2 : Nat) : Int) by omega]
        rfl
abbrev sPt : Stmt := top 40
abbrev nPt : List Str := ["_law_hand_here", "_law_letters_here", "_law_most", "_law_many", "_law_k"]
theorem scPt : FnScope nPt ["_law_hand_here", "_law_letters_here", "_law_most"] (defScope sPt) := ⟨rfl, rfl, rfl, by decide +kernel, rfl, by decide +kernel, by decide +kernel⟩
theorem has_Pt {f : Addr} {fd : FuncData}  (F : Fun K "_law_pattern" "_law_pattern" sPt f fd) (g : mg "_law_pattern" = some (.ref f)) (B : Blt mg) (hTk : Has P w K mg base 1 "_law_take" ["_law_hand_here", "_law_many"] (spTk)) (hEn : Has P w K mg base 4 "_law_entry" ["_law_hand_here", "_law_letters_here"] (spEn K)) :
    Has P w K mg base 5 "_law_pattern" ["_law_hand_here", "_law_letters_here", "_law_most"] (spPt K) := by
  obtain ⟨fTk, dTk, gTk, kTk, bTk, GTk⟩ := hTk
  obtain ⟨fEn, dEn, gEn, kEn, bEn, GEn⟩ := hEn
  refine has_of F g (F.binds (ps := ["_law_hand_here", "_law_letters_here", "_law_most"]) fun _ _ _ _ _ _ us hl => match us, hl with | [_, _, _], _ => rfl) (F.ok scPt (fun vs H Q E h => ?_) (fun cdv A outer s H vs Q E hr h => ?_))
  · obtain ⟨p, n, m, x, rfl, _⟩ := h
    rfl
  · refine ⟨_, (pss_cons (ps_set (i := 3) scPt.nd rfl (.inl rfl) (pe_call GTk (hr.mono (by decide)) rfl gTk kTk bTk .nil pass0 (pa_cons (pv 0) (pa_cons (pe_op op_add (pv 2) pe_int) pa_nil))))
        (pss_one (ps_ret (pe_lc (own := [("_law_k", 4)]) (g := gName 4) (tt := tYes) rfl scPt.nd (pi_range1 (by rfl) B.range (pa_cons (pv 3) pa_nil)) (blkOk_by (N := nPt) (sc := defScope sPt) (by decide +kernel)) (fun _ _ _ _ _ => pg_name (i := 4) scPt.nd rfl (.inl rfl)) (fun _ _ _ _ _ => pts_nil) (fun _ _ _ _ _ => (pe_call GEn hr rfl gEn kEn bEn .nil pass0 (pa_cons (pv 0) (pa_cons (pv 1) pa_nil)))))))), ?_⟩
    obtain ⟨p, n, m, x, rfl, m1, n1, hh, lt, k⟩ := h
    refine ⟨_, rfl, _, rfl, _, _, rfl, rfl, p, m + 1, n, rfl, by omega, by omega, by omega, hh, fun H1 r1 s1 h1 l1 => ?_⟩
    refine ⟨_, rfl, _, rfl, by omega, by omega, fun D hD => ?_⟩
    have nD := hd_ne h1 hD
    refine lc_it (walk_range (lo := 0) (n := r1)) (fun i G => ∃ rs : List Pt, rs.length = i ∧ (∀ r ∈ rs, r.good ∧ r.few) ∧ DrawL K p H1 G D (rs.map Pt.d) ∧ HdAt G p (n + 1 + 40 * i)) ⟨[], rfl, (fun r m => nomatch m), DrawL.start hD nD, h1.off nD⟩ (fun _ _ _ _ => trivial) (fun i v H4 H5 hi e yy => ?_) (fun G e => ?_)
    · obtain ⟨rs, rl, rg, dl, h4⟩ := e
      obtain ⟨rfl, rfl⟩ := yy
      refine ⟨rfl, _, rfl, _, rfl, p, n + 1 + 40 * i, x, rfl, by omega, h4, lt, fun H6 v r s6 h6 dv ok => ?_⟩
      obtain ⟨ys, hy, yl, dl'⟩ := dl.add h1 h4 s6 dv
      refine ⟨ys, hy, ?_, rs ++ [r], by rw [List.length_append, rl]; rfl, fun q mq => ?_, ?_, (h6.off nD).up (by omega)⟩
      · rw [yl, List.length_map, rl, sizeLine_eq]
        omega
      · rcases List.mem_append.mp mq with mq | mq
        · exact rg q mq
        · rw [List.mem_singleton.mp mq]
          exact ok
      · rw [List.map_append]
        exact dl'
    · obtain ⟨rs, rl, rg, dl, h4⟩ := e
      have dd := dl.done
      have s4 := dl.2.2.1
      refine k _ (.ref D) rs (s1.trans s4) (h4.up ?_) (dp_same (nw_up s1 h1) dd) (by omega) rg
      have := Nat.mul_le_mul_left 40 (show r1 ≤ m by omega)
      omega
abbrev sLi : Stmt := top 47
abbrev nLi : List Str := ["_law_hand_here", "_law_letters_here", "_law_many", "_law_k"]
theorem scLi : FnScope nLi ["_law_hand_here", "_law_letters_here"] (defScope sLi) := ⟨rfl, rfl, rfl, by decide +kernel, rfl, by decide +kernel, by decide +kernel⟩
theorem has_Li {f : Addr} {fd : FuncData}  (F : Fun K "_law_line" "_law_line" sLi f fd) (g : mg "_law_line" = some (.ref f)) (B : Blt mg) (hTk : Has P w K mg base 1 "_law_take" ["_law_hand_here", "_law_many"] (spTk)) (hSi : Has P w K mg base 2 "_law_sign" ["_law_hand_here", "_law_letters_here"] (spSi)) :
    Has P w K mg base 3 "_law_line" ["_law_hand_here", "_law_letters_here"] (spLi) := by
  obtain ⟨fTk, dTk, gTk, kTk, bTk, GTk⟩ := hTk
  obtain ⟨fSi, dSi, gSi, kSi, bSi, GSi⟩ := hSi
  refine has_of F g (F.binds (ps := ["_law_hand_here", "_law_letters_here"]) fun _ _ _ _ _ _ us hl => match us, hl with | [_, _], _ => rfl) (F.ok scLi (fun vs H Q E h => ?_) (fun cdv A outer s H vs Q E hr h => ?_))
  · obtain ⟨p, n, x, rfl, _⟩ := h
    rfl
  · refine ⟨_, (pss_cons (ps_set (i := 2) scLi.nd rfl (.inl rfl) (pe_call GTk (hr.mono (by decide)) rfl gTk kTk bTk .nil pass0 (pa_cons (pv 0) (pa_cons pe_int pa_nil))))
        (pss_cons (ps_weak (ps_if (pt_cmpR op_eq (pe_call GTk (hr.mono (by decide)) rfl gTk kTk bTk .nil pass0 (pa_cons (pv 0) (pa_cons pe_int pa_nil))) pe_int (nomark _)) (pss_one (ps_set (i := 2) scLi.nd rfl (.inl rfl) (pe_op op_add (pe_op op_add (pv 2) pe_int) (pe_call GTk (hr.mono (by decide)) rfl gTk kTk bTk .nil pass0 (pa_cons (pv 0) (pa_cons pe_int pa_nil)))))) pss_nil))
        (pss_one (ps_ret (pe_join pe_str (pe_lc (own := [("_law_k", 3)]) (g := gName 3) (tt := tYes) rfl scLi.nd (pi_range1 (by rfl) B.range (pa_cons (pv 2) pa_nil)) (blkOk_by (N := nLi) (sc := defScope sLi) (by decide +kernel)) (fun _ _ _ _ _ => pg_name (i := 3) scLi.nd rfl (.inl rfl)) (fun _ _ _ _ _ => pts_nil) (fun _ _ _ _ _ => (pe_call GSi hr rfl gSi kSi bSi .nil pass0 (pa_cons (pv 0) (pa_cons (pv 1) pa_nil)))))))))), ?_⟩
    obtain ⟨p, n, x, rfl, n1, hh, lt, k⟩ := h
    refine ⟨_, rfl, p, 5, n, rfl, by omega, by omega, by omega, hh, fun H1 r1 s1 h1 l1 => ?_⟩
    refine ⟨fun σ' H' => ∃ m : Nat, m ≤ 17 ∧ σ' = [some (.ref p), some (.str x), some (.int (m : Nat)), none] ∧ SB p H H' ∧ HdAt H' p (n + 3), fun σ' H' e => ?_, ?_⟩
    · obtain ⟨m, m2, rfl, s3, h3⟩ := e
      refine ⟨⟨_, rfl⟩, _, rfl, _, rfl, by omega, by omega, fun D hD => ?_⟩
      have nD := hd_ne h3 hD
      refine lc_it (walk_range (lo := 0) (n := m)) (fun i G => ∃ l : List Nat, l.length = i ∧ (∀ c ∈ l, lineC c) ∧ SB p H' G ∧ G D = some (.lst ((l.map sg).map V.str)) ∧ HdAt G p (n + 3 + 2 * i)) ⟨[], rfl, (fun r m => nomatch m), SB.of (same_upd hD), upd_same, h3.off nD⟩ (fun _ _ _ _ => trivial) (fun i v H4 H5 hi e yy => ?_) (fun G e => ?_)
      · obtain ⟨l, ll, lc, s4, hd, h4⟩ := e
        obtain ⟨rfl, rfl⟩ := yy
        refine ⟨rfl, _, rfl, _, rfl, p, n + 3 + 2 * i, x, rfl, by omega, h4, lt, fun H6 c s6 h6 lnc => ?_⟩
        refine ⟨_, s6.at hd nD, ?_, l ++ [c], by rw [List.length_append, ll]; rfl, fun d m => ?_, SB.put_new (s4.trans s6) hD, ?_, (h6.off nD).up (by omega)⟩
        · rw [List.length_map, List.length_map, ll, sizeLine_eq]
          omega
        · rcases List.mem_append.mp m with m | m
          · exact lc d m
          · rw [List.mem_singleton.mp m]
            exact lnc
        · rw [upd_same, List.map_append, List.map_append]
          rfl
      · obtain ⟨l, ll, lc, s4, hd, h4⟩ := e
        refine ⟨"", D, l.map sg, rfl, rfl, .inl (SqL.of hd), ?_, ?_⟩
        · rw [sum_sg, ll, show ("" : Str).length = 0 from by decide +kernel]
          omega
        · rw [join_sg]
          refine k _ _ (s3.trans s4) (h4.up (by omega)) ⟨?_, fun c m => lc c m⟩
          rw [len_cs]
          show l.length ≤ 17
          omega
    · refine ⟨_, rfl, p, 9, n + 1, rfl, by omega, by omega, by omega, h1, fun H3 r3 s3 h3 l3 => ⟨rfl, _, rfl, if_by (fun e => ?_) (fun e => ?_)⟩⟩
      · refine ⟨_, rfl, _, _, rfl, rfl, _, rfl, p, 12, n + 2, rfl, by omega, by omega, by omega, h3, fun H4 r4 s4 h4 l4 => ⟨_, _, rfl, rfl, r1 + 1 + r4, by omega, ?_, (s1.trans s3).trans s4, h4⟩⟩
        rw [show (((r1 + 1 + r4 : Nat) : Nat) : Int) = ((r1 : Nat) : Int) + 1 + ((r4 : Nat) : Int) by omega]
        rfl
      · exact ⟨r1, by omega, rfl, s1.trans s3, h3.up (by omega)⟩
end
end Qb
end PySem
namespace PySem
namespace Qb
open PySem.W PySem.Calls PyProof.Rows L2
/-! # what the law draws: pairs, filters -/
theorem DrawL.draws {K : Frag} {p D : Addr} {H H1 H2 : Hp} {ds : List PyData} {n : Nat} (b : DrawL K p H H1 D ds) (h : HdAt H p n) (s : SB p H1 H2) : DrawL K p H H2 D ds := by
  obtain ⟨b1, b2, b3, ys, b4, b5⟩ := b
  refine ⟨b1, b2, b3.trans s, ys, s.at b4 b2, dpAll_same (fun c o q => ?_) b5⟩
  by_cases z : c = D
  · subst z
    unfold hide at q
    rw [if_pos rfl] at q
    cases q
  · unfold hide at q
    rw [if_neg z] at q
    exact hide_ne (nw_mono h s _ _ q) z
def alAt (i : Nat) : Nat := (cs alS).getD i 0
theorem alAt_line {i : Nat} (h : i < 94) : (cs alS)[i]? = some (alAt i) ∧ lineC (alAt i) := by
  obtain ⟨c, hc, lc⟩ := al_at h
  have : alAt i = c := by
    unfold alAt
    rw [List.getD_eq_getElem?_getD, hc]
    rfl
  rw [this]
  exact ⟨hc, lc⟩
theorem alAt_inj {i j : Nat} (hi : i < 94) (hj : j < 94) (e : alAt i = alAt j) : i = j := by
  have l := al_len
  have a : ∀ {i : Nat} (h : i < 94), alAt i = (cs alS)[i]'(by rw [l]; exact h) := fun {i} h => by
    unfold alAt
    rw [List.getD_eq_getElem?_getD, List.getElem?_eq_getElem (by rw [l]; exact h)]
    rfl
  have pw := List.pairwise_iff_getElem.mp al_nd
  rcases Nat.lt_trichotomy i j with z | z | z
  · rw [a hi, a hj] at e
    exact absurd e (pw i j _ _ z)
  · exact z
  · rw [a hi, a hj] at e
    exact absurd e.symm (pw j i _ _ z)
theorem row_nd (r : Nat) : ((List.range 26).map fun j => alAt ((r + j) % 94)).Nodup := by
  show List.Pairwise _ _
  rw [List.pairwise_map]
  refine List.Pairwise.imp_of_mem (fun {a b} ha hb lt e => ?_) List.pairwise_lt_range
  have ha := List.mem_range.mp ha
  have hb := List.mem_range.mp hb
  have := alAt_inj (Nat.mod_lt _ (by decide)) (Nat.mod_lt _ (by decide)) e
  omega
def spPrs (K : Frag) : Sp := fun vs H Q _ => ∃ (p : Addr) (n : Nat) (x : Str), vs = [.ref p, .str x] ∧ n ≤ 20000 ∧ HdAt H p n ∧ LtOk x ∧ ∀ H' v (ms : List (Nat × Nat)), SB p H H' → HdAt H' p (n + 100) → Dp K (newOf H H') v (.list (ms.map prD)) → FltOk (.swap ms) → Q v H'
def spFr (K : Frag) : Sp := fun vs H Q _ => ∃ (p : Addr) (n i : Nat) (x : Str), vs = [.ref p, .str x, .int (i : Nat)] ∧ i < 9 ∧ n ≤ 10000 ∧ HdAt H p n ∧ LtOk x ∧ ∀ H' v (f : Flt), SB p H H' → HdAt H' p (n + 300) → Dp K (newOf H H') v f.d → FltOk f → Q v H'
theorem flat_strs (l : List Str) : (l.map V.str).all flatV = true := by
  rw [List.all_eq_true]
  intro v m
  obtain ⟨x, _, rfl⟩ := List.mem_map.mp m
  rfl
theorem inV_iff (x : Str) (ws : List Str) : inV (.str x) (ws.map V.str) = decide (x ∈ ws) := by
  induction ws with
  | nil => rfl
  | cons w ws ih =>
    have e : inV (.str x) ((w :: ws).map V.str) = ((w == x) || inV (.str x) (ws.map V.str)) := rfl
    rw [e, ih]
    by_cases h : x = w
    · subst h
      simp
    · rw [beq_eq_false_iff_ne.mpr (Ne.symm h), Bool.false_or]
      exact decide_eq_decide.mpr ⟨fun m => .tail _ m, fun m => by
        rcases List.mem_cons.mp m with rfl | m
        · exact (h rfl).elim
        · exact m⟩
section
variable {P : Program} {w : World} {K : Frag} {mg : Str → Option Value} {base : Heap}
abbrev sPrs : Stmt := top 41
abbrev nPrs : List Str := ["_law_hand_here", "_law_letters_here", "_law_pairs_here", "_law_many", "_law_wide", "_law_start", "_law_k", "_law_sign_here", "_law_pair"]
theorem scPrs : FnScope nPrs ["_law_hand_here", "_law_letters_here"] (defScope sPrs) := ⟨rfl, rfl, rfl, by decide +kernel, rfl, by decide +kernel, by decide +kernel⟩
theorem has_Prs {f : Addr} {fd : FuncData}  (F : Fun K "_law_pairs" "_law_pairs" sPrs f fd) (g : mg "_law_pairs" = some (.ref f)) (B : Blt mg) (hTk : Has P w K mg base 1 "_law_take" ["_law_hand_here", "_law_many"] (spTk)) (hSi : Has P w K mg base 2 "_law_sign" ["_law_hand_here", "_law_letters_here"] (spSi)) (hAl : Has P w K mg base 1 "_law_signs" [] (spAl)) :
    Has P w K mg base 3 "_law_pairs" ["_law_hand_here", "_law_letters_here"] (spPrs K) := by
  obtain ⟨fTk, dTk, gTk, kTk, bTk, GTk⟩ := hTk
  obtain ⟨fSi, dSi, gSi, kSi, bSi, GSi⟩ := hSi
  obtain ⟨fAl, dAl, gAl, kAl, bAl, GAl⟩ := hAl
  refine has_of F g (F.binds (ps := ["_law_hand_here", "_law_letters_here"]) fun _ _ _ _ _ _ us hl => match us, hl with | [_, _], _ => rfl) (F.ok scPrs (fun vs H Q E h => ?_) (fun cdv A outer s H vs Q E hr h => ?_))
  · obtain ⟨p, n, x, rfl, _⟩ := h
    rfl
  · refine ⟨_, (pss_cons (ps_set (i := 2) scPrs.nd rfl (.inl rfl) (pe_lst pa_nil))
        (pss_cons (ps_set (i := 3) scPrs.nd rfl (.inl rfl) (pe_op op_add pe_int (pe_call GTk (hr.mono (by decide)) rfl gTk kTk bTk .nil pass0 (pa_cons (pv 0) (pa_cons pe_int pa_nil)))))
        (pss_cons (ps_set (i := 4) scPrs.nd rfl (.inl rfl) (pe_call GTk (hr.mono (by decide)) rfl gTk kTk bTk .nil pass0 (pa_cons (pv 0) (pa_cons pe_int pa_nil))))
        (pss_cons (ps_if (pt_cmpR op_eq (pv 4) pe_int (nomark _)) (pss_cons (ps_set (i := 5) scPrs.nd rfl (.inr rfl) (pe_call GTk (hr.mono (by decide)) rfl gTk kTk bTk .nil pass0 (pa_cons (pv 0) (pa_cons pe_int pa_nil))))
          (pss_one (ps_ret (pe_lc (own := [("_law_k", 6)]) (g := gName 6) (tt := tYes) rfl scPrs.nd (pi_range1 (by rfl) B.range (pa_cons pe_int pa_nil)) (blkOk_by (N := nPrs) (sc := defScope sPrs) (by decide +kernel)) (fun _ _ _ _ _ => pg_name (i := 6) scPrs.nd rfl (.inl rfl)) (fun _ _ _ _ _ => pts_nil) (fun _ _ _ _ _ => (pe_tup (pa_cons (pe_ix ix_str (pe_call0 GAl (hr.mono (by decide)) rfl gAl kAl bAl .nil pass0) (pe_op op_modN (pe_callTy call_int1 (by rfl) B.int (by decide +kernel) (pa_cons (pe_op op_add (pv 5) (pv 6)) pa_nil)) pe_int) (fun _ _ => rfl)) (pa_cons (pe_call GSi hr rfl gSi kSi bSi .nil pass0 (pa_cons (pv 0) (pa_cons (pv 1) pa_nil))) pa_nil)))))))) pss_nil)
        (pss_cons (ps_weak (ps_if (pt_cmpR op_gt (pv 4) pe_int (nomark _)) (pss_one (ps_set (i := 3) scPrs.nd rfl (.inl rfl) pe_int)) pss_nil))
        (pss_cons (ps_for PassesOwn.never rfl (pi_range1 (by rfl) B.range (pa_cons (pv 3) pa_nil)) (pg_name (i := 6) scPrs.nd rfl (.inl rfl))
          (pss_cons (ps_set (i := 7) scPrs.nd rfl (.inl rfl) (pe_call GSi hr rfl gSi kSi bSi .nil pass0 (pa_cons (pv 0) (pa_cons (pv 1) pa_nil))))
          (pss_cons (ps_weak (ps_if (pt_cmpR op_eq (pv 3) pe_int (nomark _)) (pss_one (ps_set (i := 7) scPrs.nd rfl (.inl rfl) (pe_ix ix_str (pv 1) (pe_call GTk (hr.mono (by decide)) rfl gTk kTk bTk .nil pass0 (pa_cons (pv 0) (pa_cons pe_int pa_nil))) (fun _ _ => rfl)))) pss_nil))
          (pss_one (ps_if (pt_cmpR op_notIn_seq (pv 7) (pe_lc (own := [("_law_pair", 8)]) (g := gName 8) (tt := tYes) rfl scPrs.nd (pi_list (pv 2)) (blkOk_by (N := nPrs) (sc := defScope sPrs) (by decide +kernel)) (fun _ _ _ _ _ => pg_name (i := 8) scPrs.nd rfl (.inl rfl)) (fun _ _ _ _ _ => pts_nil) (fun _ _ _ _ _ => (pe_ix (show IxR _ (rIxT K) from ix_tup) (pv 8) pe_int (fun _ _ => rfl)))) (by rfl)) (pss_one (ps_expr (pe_bm PySem.F.plainAttrs_list PySem.F.slot_list_append PySem.F.type_list_append mt_append (pv 2) (pa_cons (pe_tup (pa_cons (pv 7) (pa_cons (pe_call GSi hr rfl gSi kSi bSi .nil pass0 (pa_cons (pv 0) (pa_cons (pv 1) pa_nil))) pa_nil))) pa_nil)))) pss_nil)))))
        (pss_one (ps_ret (pv 2))))))))), ?_⟩
    obtain ⟨p, n, x, rfl, n1, hh, lt, k⟩ := h
    obtain ⟨lx, gx⟩ := id lt
    have zx : x.length ≤ sizeLine := line_small (by rw [len_cs]; omega)
    refine ⟨(by decide : 0 ≤ sizeLine), fun D hD => ?_⟩
    have nD := hd_ne hh hD
    have dl0 : DrawL K p H (L2.upd H D (.lst [])) D (([] : List (Nat × Nat)).map prD) := DrawL.start hD nD
    have h0 : HdAt (L2.upd H D (.lst [])) p n := hh.off nD
    generalize L2.upd H D (.lst []) = H0 at dl0 h0 ⊢
    refine ⟨_, rfl, p, 3, n, rfl, by omega, by omega, by omega, h0, fun H1 r1 s1 h1 l1 => ⟨_, _, rfl, rfl, ?_⟩⟩
    refine ⟨_, rfl, p, 12, n + 1, rfl, by omega, by omega, by omega, h1, fun H2 r2 s2 h2 l2 => ?_⟩
    have dl2 := dl0.draws hh (s1.trans s2)
    have sH2 := dl2.2.2.1
    refine ⟨_, rfl, rfl, _, rfl, if_by (fun e => ?_) (fun e => ?_)⟩
    · refine ⟨_, rfl, p, 94, n + 2, rfl, by omega, by omega, by omega, h2, fun H3 r3 s3 h3 l3 => ?_⟩
      refine ⟨_, rfl, by decide, by decide, fun D2 hD2 => ?_⟩
      have nD2 := hd_ne h3 hD2
      refine lc_it (walk_range (lo := 0) (n := 26)) (fun i G => ∃ ms : List (Nat × Nat), ms.length = i ∧ ms.map (·.1) = (List.range i).map (fun j => alAt ((r3 + j) % 94)) ∧ (∀ m ∈ ms, lineC m.1 ∧ lineC m.2) ∧ DrawL K p H3 G D2 (ms.map prD) ∧ HdAt G p (n + 3 + 2 * i)) ⟨[], rfl, rfl, (fun r m => nomatch m), DrawL.start hD2 nD2, h3.off nD2⟩ (fun _ _ _ _ => trivial) (fun i v H4 H5 hi e yy => ?_) (fun G e => ?_)
      · obtain ⟨ms, ml, mf, mg', dl, h4⟩ := e
        obtain ⟨rfl, rfl⟩ := yy
        have il : (r3 + i) % 94 < 94 := Nat.mod_lt _ (by decide)
        obtain ⟨hc, lc⟩ := alAt_line il
        refine ⟨rfl, rfl, _, rfl, _, rfl, _, _, rfl, rfl, .inl ⟨_, rfl, _, _, rfl, rfl, (by show (94 : Int) ≠ 0; decide), ?_⟩⟩
        refine ⟨_, _, alAt ((r3 + i) % 94), rfl, rfl, by decide +kernel, ?_, _, rfl, _, rfl, p, n + 3 + 2 * i, x, rfl, by omega, h4, lt, fun H6 c s6 h6 lnc => ⟨(by decide : 2 ≤ sizeLine), fun T nT => ?_⟩⟩
        · rw [show (((r3 : Nat) : Int) + (0 + ((i : Nat) : Int))).fmod 94 = (((r3 + i) % 94 : Nat) : Int) by rw [Int.fmod_eq_emod_of_nonneg _ (by decide)]; omega]
          exact atI_nat hc
        have sT := same_upd (o := .tup [V.str (sg (alAt ((r3 + i) % 94))), V.str (sg c)]) nT
        have s7 := s6.trans (SB.of sT)
        have dv : Dp K (newOf H5 (L2.upd H6 T (.tup [V.str (sg (alAt ((r3 + i) % 94))), V.str (sg c)]))) (.ref T) (prD (alAt ((r3 + i) % 94), c)) := .tup (SqT.of (newOf_at (free_sb s6 h6 nT) upd_same)) (.cons (.str _) (.cons (.str _) .nil))
        obtain ⟨ys, hy, yl, dl'⟩ := dl.add h3 h4 s7 dv
        refine ⟨ys, hy, ?_, ms ++ [(alAt ((r3 + i) % 94), c)], by rw [List.length_append, ml]; rfl, ?_, fun q mq => ?_, ?_, ((h6.same sT).off nD2).up (by omega)⟩
        · rw [yl, List.length_map, ml, sizeLine_eq]
          omega
        · rw [List.map_append, mf, List.range_succ, List.map_append]
          rfl
        · rcases List.mem_append.mp mq with mq | mq
          · exact mg' q mq
          · rw [List.mem_singleton.mp mq]
            exact ⟨lc, lnc⟩
        · rw [List.map_append]
          exact dl'
      · obtain ⟨ms, ml, mf, mg', dl, h4⟩ := e
        have dd := dl.done
        have s4 := dl.2.2.1
        refine k _ (.ref D2) ms ((sH2.trans s3).trans s4) (h4.up (by omega)) (dp_same (nw_up (sH2.trans s3) h3) dd) ⟨?_, fun z => ?_, by omega, mg'⟩
        · rw [mf]
          exact row_nd r3
        · rw [z] at ml
          cases ml
    refine ⟨fun σ' H' => ∃ m : Nat, 1 ≤ m ∧ m ≤ 16 ∧ σ' = [some (.ref p), some (.str x), some (.ref D), some (.int (m : Nat)), some (.int (r2 : Nat)), none, none, none, none] ∧ H' = H2, fun σ' H' e => ?_, ?_⟩
    · obtain ⟨m, m1, m2, rfl, rfl⟩ := e
      refine ⟨_, rfl, _, rfl, by omega, by omega, for_it (walk_range (lo := 0) (n := m)) (fun i σ G => ∃ (ms : List (Nat × Nat)) (v6 v7 : Option V), σ = [some (.ref p), some (.str x), some (.ref D), some (.int (m : Nat)), some (.int (r2 : Nat)), none, v6, v7, none] ∧ ms.length ≤ i ∧ (1 ≤ i → ms ≠ []) ∧ (ms.map (·.1)).Nodup ∧ (∀ q ∈ ms, lineC q.1 ∧ lineC q.2) ∧ DrawL K p H G D (ms.map prD) ∧ HdAt G p (n + 2 + 5 * i)) ⟨[], none, none, rfl, Nat.le_refl _, fun z => by omega, List.nodup_nil, (fun r m => nomatch m), dl2, h2⟩ (fun _ _ _ _ _ => trivial) (fun i v σ H4 H5 hi e yy => ?_) (fun σ G e => ?_)⟩
      · obtain ⟨ms, v6, v7, rfl, ml, mn, nd, mg', dl, h4⟩ := e
        obtain ⟨rfl, rfl⟩ := yy
        refine ⟨_, rfl, _, rfl, p, n + 2 + 5 * i, x, rfl, by omega, h4, lt, fun H6 c1 s6 h6 lc1 => ?_⟩
        refine ⟨fun σ' H' => ∃ c, lineC c ∧ σ' = [some (.ref p), some (.str x), some (.ref D), some (.int (m : Nat)), some (.int (r2 : Nat)), none, some (.int (0 + (i : Nat))), some (.str (sg c)), none] ∧ SB p H5 H' ∧ HdAt H' p (n + 2 + 5 * i + 3), fun σ' H' e => ?_, ?_⟩
        · obtain ⟨c, lc, rfl, s7, h7⟩ := e
          have dl7 := dl.draws hh s7
          obtain ⟨_, _, sG, ys, hys, yall⟩ := id dl7
          have ylen := dpLen yall
          rw [List.length_map] at ylen
          have sub : Same (hide (newOf H H') D) H' := hide_same.trans newOf_same
          refine ⟨_, rfl, _, rfl, D, rfl, ⟨_, SqL.of hys⟩, fun D2 hD2 => ?_⟩
          have nD2 := hd_ne h7 hD2
          refine lc_it (walk_list (K := K) (a := D) (xs := ys)) (fun j G => Same H' G ∧ G D2 = some (.lst (((ms.take j).map fun q => sg q.1).map V.str))) ⟨same_upd hD2, upd_same⟩ (fun j G _ e => e.1.seq (SqL.of hys)) (fun j y H8 H9 hj e yy => ?_) (fun G e => ?_)
          · obtain ⟨s8, hd8⟩ := e
            obtain ⟨rfl, hx⟩ := yy
            obtain ⟨d, hdi, dp⟩ := dpAt' yall hx
            rw [List.getElem?_map] at hdi
            obtain ⟨q, hq, rfl⟩ := Option.map_eq_some_iff.mp hdi
            obtain ⟨t, rfl, ht⟩ := dp_two dp
            refine ⟨rfl, _, rfl, t, _, 0, _, rfl, rfl, sqT_same s8 (sqT_same sub ht), rfl, _, hd8, ?_, same_upd2 s8 hD2, ?_⟩
            · rw [List.length_map, List.length_map, List.length_take, sizeLine_eq]
              omega
            · rw [upd_same, take_snoc hq, List.map_append, List.map_append]
              rfl
          · obtain ⟨s8, hd8⟩ := e
            rw [ylen, List.take_length] at hd8
            refine ⟨D2, _, rfl, .inl (SqL.of hd8), rfl, flat_strs _, ?_⟩
            rw [if_pos rfl, inV_iff]
            have sg_inj : ∀ {a b : Nat}, sg a = sg b → a = b := fun {a b} z => (List.cons.inj (congrArg cs z)).1
            have em : decide (sg c ∈ ms.map fun q => sg q.1) = decide (c ∈ ms.map (·.1)) := by
              refine decide_eq_decide.mpr ⟨fun z => ?_, fun z => ?_⟩
              · obtain ⟨q, mq, e⟩ := List.mem_map.mp z
                rw [← sg_inj e]
                exact List.mem_map_of_mem mq
              · obtain ⟨q, mq, e⟩ := List.mem_map.mp z
                rw [← e]
                exact List.mem_map_of_mem (f := fun q : Nat × Nat => sg q.1) mq
            rw [em]
            have dl8 := dl7.draws hh (SB.of s8)
            have h8 := h7.same s8
            refine ⟨_, rfl, if_by (fun e2 => ?_) (fun e2 => ?_)⟩
            · have nm : ¬ c ∈ ms.map (·.1) := by simpa using e2
              obtain ⟨_, _, _, ys8, hys8, yall8⟩ := id dl8
              have yl8 := dpLen yall8
              refine ⟨_, rfl, .inl ⟨rfl, _, SqL.of hys8⟩, _, rfl, _, rfl, _, rfl, p, n + 2 + 5 * i + 3, x, rfl, by omega, h8, lt, fun H10 c2 s10 h10 lc2 => ⟨(by decide : 2 ≤ sizeLine), fun T nT => ?_⟩⟩
              have sT := same_upd (o := .tup [V.str (sg c), V.str (sg c2)]) nT
              have s11 := s10.trans (SB.of sT)
              have dv : Dp K (newOf G (L2.upd H10 T (.tup [V.str (sg c), V.str (sg c2)]))) (.ref T) (prD (c, c2)) := .tup (SqT.of (newOf_at (free_sb s10 h10 nT) upd_same)) (.cons (.str _) (.cons (.str _) .nil))
              obtain ⟨ys', hy', yl', dl'⟩ := dl8.add hh h8 s11 dv
              refine ⟨D, _, _, rfl, rfl, hy', ?_, ms ++ [(c, c2)], _, _, rfl, by rw [List.length_append]; simp; omega, (fun _ z => by simp at z), ?_, fun q mq => ?_, ?_, ((h10.same sT).off nD).up (by omega)⟩
              · rw [yl', List.length_map, sizeLine_eq]
                omega
              · rw [List.map_append]
                refine List.nodup_append.mpr ⟨nd, by simp, fun a ha b hb e => ?_⟩
                rw [List.mem_singleton.mp hb] at e
                exact nm (by have e : a = c := e; rw [← e]; exact ha)
              · rcases List.mem_append.mp mq with mq | mq
                · exact mg' q mq
                · rw [List.mem_singleton.mp mq]
                  exact ⟨lc, lc2⟩
              · rw [List.map_append]
                exact dl'
            · have nm : c ∈ ms.map (·.1) := by simpa using e2
              exact ⟨ms, _, _, rfl, by omega, (fun _ z => by rw [z] at nm; cases nm), nd, mg', dl8, h8.up (by omega)⟩
        · refine ⟨_, rfl, rfl, _, rfl, if_by (fun e => ?_) (fun e => ?_)⟩
          · refine ⟨_, rfl, _, rfl, p, 12, n + 2 + 5 * i + 2, rfl, by omega, by omega, by omega, h6, fun H7 r7 s7 h7 l7 => ?_⟩
            exact ⟨_, _, (cs x)[r7]'(by rw [lx]; exact l7), rfl, rfl, zx, atI_nat (List.getElem?_eq_getElem (by rw [lx]; exact l7)), _, gx _ (List.getElem_mem _), rfl, s6.trans s7, h7⟩
          · exact ⟨c1, lc1, rfl, s6, h6.up (by omega)⟩
      · obtain ⟨ms, v6, v7, rfl, ml, mn, nd, mg', dl, h4⟩ := e
        exact ⟨_, rfl, k _ (.ref D) ms dl.2.2.1 (h4.up (by omega)) dl.done ⟨nd, mn m1, by omega, mg'⟩⟩
    · refine ⟨_, rfl, _, _, rfl, rfl, _, rfl, if_by (fun e => ?_) (fun e => ?_)⟩
      · exact ⟨16, by omega, by omega, rfl, rfl⟩
      · refine ⟨1 + r1, by omega, by omega, ?_, rfl⟩
        rw [show (((1 + r1 : Nat) : Nat) : Int) = 1 + ((r1 : Nat) : Int) by omega]
        rfl
end
end Qb
end PySem
namespace PySem
namespace Qb
open PySem.W PySem.Calls PyProof.Rows L2
/-! # what the law draws: filters, rows of lines -/
def spLns (K : Frag) : Sp := fun vs H Q _ => ∃ (a : Addr) (ns : List Int) (x : Str), vs = [.ref a, .int 1, .int 12, .str x] ∧ SqL K H a (ns.map V.int) ∧ ns.length ≤ 63 ∧ LtOk x ∧ ∀ H' p (zs : List Str), Same H H' → H p = none → H' p = some (.lst (zs.map V.str)) → zs.length ≤ 80 → (∀ z ∈ zs, LineOk z) → Q (.ref p) H'
theorem cut_ints (ns : List Int) (lo hi : Option Int) : ∃ ks : List Int, cutV (ns.map V.int) lo hi = ks.map V.int ∧ ks.length ≤ ns.length := by
  unfold cutV
  rw [List.length_map, ← List.map_drop, ← List.map_take]
  exact ⟨_, rfl, by rw [List.length_take, List.length_drop]; omega⟩
abbrev lnStep (K : Frag) : TS := tIfS
      (tAnd
        (fun σ H_1 Q => tVar 4 σ H_1 fun x H' => ∃ k, TruV K x H' k ∧ Q k H')
        (tTest (tOp rEq (tCall spTk [] E0 (tCons (tVar 5) (tCons (tC (V.int 4)) tNil))) (tC (V.int 3)))))
      (tDrop (tBM K "list" rAppend (tVar 4) (tCons (tOp (rIxL K) (tVar 4) (tUn (rU fun i => V.int (-i)) (tC (V.int 1)))) tNil)))
      (tDrop (tBM K "list" rAppend (tVar 4) (tCons (tCall spLi [] E0 (tCons (tVar 5) (tCons (tVar 3) tNil))) tNil)))
theorem ln_step {K : Frag} {p D : Addr} {x : Str} {zs : List Str} {n : Nat} {σ : L2.St} {G : Hp} {E : Ends} (e4 : σ[4]? = some (some (.ref D))) (e5 : σ[5]? = some (some (.ref p))) (e3 : σ[3]? = some (some (.str x))) (hD : G D = some (.lst (zs.map V.str))) (ne : D ≠ p) (hh : HdAt G p n) (n1 : n ≤ 40000) (lt : LtOk x) (lz : zs.length ≤ 100) (zo : ∀ z ∈ zs, LineOk z)
    (k : ∀ G' z, LineOk z → (∀ H, Same H G → H D = none → H p = none → Same H G') → G' D = some (.lst ((zs ++ [z]).map V.str)) → HdAt G' p (n + 41) → E.nx σ G') : lnStep K E σ G := by
  have fin : ∀ (G1 : Hp) (z : Str) (m : Nat), SB p G G1 → HdAt G1 p m → m ≤ n + 41 → LineOk z → G1 D = some (.lst (zs.map V.str)) → E.nx σ (L2.upd G1 D (.lst (zs.map V.str ++ [V.str z]))) := fun G1 z m s h l o d => by
    refine k _ z o (fun H s0 nD np b u q => ?_) (by rw [upd_same, List.map_append]; rfl) ((h.off ne).up l)
    have b1 : b ≠ D := fun w => by rw [w, nD] at q; cases q
    have b2 : b ≠ p := fun w => by rw [w, np] at q; cases q
    rw [upd_ne b1]
    exact s.at (s0 _ _ q) b2
  have sz : (zs.map V.str).length < sizeLine := by rw [List.length_map, sizeLine_eq]; omega
  refine ⟨_, e4, !(zs.map V.str).isEmpty, .inl ⟨_, SqL.of hD, rfl⟩, ?_⟩
  have line : ∀ (G1 : Hp) (m : Nat), SB p G G1 → HdAt G1 p m → m ≤ n + 1 → G1 D = some (.lst (zs.map V.str)) → (tDrop (tBM K "list" rAppend (tVar 4) (tCons (tCall spLi [] E0 (tCons (tVar 5) (tCons (tVar 3) tNil))) tNil))) E σ G1 := fun G1 m s h l d => by
    refine ⟨_, e4, .inl ⟨rfl, _, SqL.of d⟩, _, e5, _, e3, p, m, x, rfl, by omega, h, lt, fun G2 z s2 h2 o => ⟨D, _, _, rfl, rfl, s2.at d ne, sz, ?_⟩⟩
    exact fin G2 z _ (s.trans s2) h2 (by omega) o (s2.at d ne)
  refine if_by (fun e => ?_) (fun e => ?_)
  · refine ⟨_, e5, p, 4, n, rfl, by omega, by omega, by omega, hh, fun G1 r s1 h1 l1 => ⟨rfl, _, rfl, if_by (fun _ => ?_) (fun _ => ?_)⟩⟩
    · have d1 := s1.at hD ne
      have nz : zs ≠ [] := fun w => by rw [w] at e; cases e
      obtain ⟨ys, y, rfl⟩ := last_of zs nz
      have la : atI ((ys ++ [y]).map V.str) (-1) = some (V.str y) := by
        rw [List.map_append]
        exact atI_last _ _
      refine ⟨_, e4, .inl ⟨rfl, _, SqL.of d1⟩, _, e4, 1, rfl, D, _, -1, _, rfl, rfl, SqL.of d1, la, D, _, _, rfl, rfl, d1, sz, ?_⟩
      exact fin G1 y _ s1 h1 (by omega) (zo y (by simp)) d1
    · exact line G1 _ s1 h1 (Nat.le_refl _) (s1.at hD ne)
  · exact if_no rfl (line G n (SB.refl _ _) hh (by omega) hD)
section
variable {P : Program} {w : World} {K : Frag} {mg : Str → Option Value} {base : Heap}
abbrev sFr : Stmt := top 50
abbrev nFr : List Str := ["_law_hand_here", "_law_letters_here", "_law_kind"]
theorem scFr : FnScope nFr ["_law_hand_here", "_law_letters_here", "_law_kind"] (defScope sFr) := ⟨rfl, rfl, rfl, by decide +kernel, rfl, by decide +kernel, by decide +kernel⟩
theorem has_Fr {f : Addr} {fd : FuncData}  (F : Fun K "_law_filter" "_law_filter" sFr f fd) (g : mg "_law_filter" = some (.ref f)) (B : Blt mg) (hPt : Has P w K mg base 5 "_law_pattern" ["_law_hand_here", "_law_letters_here", "_law_most"] (spPt K)) (hPrs : Has P w K mg base 3 "_law_pairs" ["_law_hand_here", "_law_letters_here"] (spPrs K)) (hNu : Has P w K mg base 2 "_law_number" ["_law_hand_here"] (spNu)) :
    Has P w K mg base 6 "_law_filter" ["_law_hand_here", "_law_letters_here", "_law_kind"] (spFr K) := by
  obtain ⟨fPt, dPt, gPt, kPt, bPt, GPt⟩ := hPt
  obtain ⟨fPrs, dPrs, gPrs, kPrs, bPrs, GPrs⟩ := hPrs
  obtain ⟨fNu, dNu, gNu, kNu, bNu, GNu⟩ := hNu
  refine has_of F g (F.binds (ps := ["_law_hand_here", "_law_letters_here", "_law_kind"]) fun _ _ _ _ _ _ us hl => match us, hl with | [_, _, _], _ => rfl) (F.ok scFr (fun vs H Q E h => ?_) (fun cdv A outer s H vs Q E hr h => ?_))
  · obtain ⟨p, n, i, x, rfl, _⟩ := h
    rfl
  · refine ⟨_, (pss_cons (ps_if (pt_cmpR op_lt (pv 2) pe_int (nomark _)) (pss_one (ps_ret (pe_tup (pa_cons (pe_ix ix_list (pe_lst (pa_cons pe_str (pa_cons pe_str pa_nil))) (pv 2) (fun _ _ => rfl)) (pa_cons (pe_call GPt hr rfl gPt kPt bPt .nil pass0 (pa_cons (pv 0) (pa_cons (pv 1) (pa_cons pe_int pa_nil)))) pa_nil))))) pss_nil)
        (pss_cons (ps_if (pt_cmpR op_eq (pv 2) pe_int (nomark _)) (pss_one (ps_ret (pe_tup (pa_cons pe_str (pa_cons (pe_call GPrs (hr.mono (by decide)) rfl gPrs kPrs bPrs .nil pass0 (pa_cons (pv 0) (pa_cons (pv 1) pa_nil))) pa_nil))))) pss_nil)
        (pss_cons (ps_if (pt_cmpR op_lt (pv 2) pe_int (nomark _)) (pss_one (ps_ret (pe_tup (pa_cons (pe_ix ix_list (pe_lst (pa_cons pe_str (pa_cons pe_str pa_nil))) (pe_op op_sub (pv 2) pe_int) (fun _ _ => rfl)) (pa_cons (pe_call GNu (hr.mono (by decide)) rfl gNu kNu bNu .nil pass0 (pa_cons (pv 0) pa_nil)) pa_nil))))) pss_nil)
        (pss_one (ps_ret (pe_tup (pa_cons (pe_ix ix_list (pe_lst (pa_cons pe_str (pa_cons pe_str (pa_cons pe_str (pa_cons pe_str pa_nil))))) (pe_op op_sub (pv 2) pe_int) (fun _ _ => rfl)) pa_nil))))))), ?_⟩
    obtain ⟨p, n, i, x, rfl, i9, n1, hh, lt, k⟩ := h
    have two : ∀ (b : Bool) (u w : Str) (j : Nat), j < 2 → (b = decide (j = 0)) → atI ([V.str u, V.str w]) ((j : Nat) : Int) = some (V.str (if b = true then u else w)) := fun b u w j hj e => by
      subst e
      rcases (by omega : j = 0 ∨ j = 1) with rfl | rfl <;> rfl
    refine ⟨_, rfl, _, _, rfl, rfl, _, rfl, if_by (fun e => ?_) (fun e => ?_)⟩
    · have e := of_decide_eq_true e
      refine ⟨(by decide : 2 ≤ sizeLine), fun L nL => ?_⟩
      have sL := same_upd (o := .lst [V.str "keep", V.str "drop"]) nL
      refine ⟨_, rfl, L, _, _, _, rfl, rfl, SqL.of upd_same, two (decide (i = 0)) "keep" "drop" i (by omega) rfl, _, rfl, _, rfl, p, n, 6, x, rfl, by omega, by omega, hh.same sL, lt, fun H2 v ps s2 h2 dv pl pg => ⟨(by decide : 2 ≤ sizeLine), fun T nT => ?_⟩⟩
      have sT := same_upd (o := .tup [V.str (patW (decide (i = 0))), v]) nT
      have s02 := (SB.of sL).trans s2
      refine k _ (.ref T) (.pat (decide (i = 0)) ps) (s02.trans (SB.of sT)) ((h2.same sT).up (by omega)) ?_ ⟨by omega, pg⟩
      have up : Same (newOf (L2.upd H L (.lst [V.str "keep", V.str "drop"])) H2) (newOf H (L2.upd H2 T (.tup [V.str (patW (decide (i = 0))), v]))) := (nw_up (SB.of sL) (hh.same sL)).trans (nw_mono hh (SB.of sT))
      exact .tup (SqT.of (newOf_at (free_sb s02 h2 nT) upd_same)) (.cons (.str _) (.cons (dp_same up dv) .nil))
    have e2 : 2 ≤ i := by
      have e := of_decide_eq_false e
      omega
    refine ⟨_, rfl, rfl, _, rfl, if_by (fun e => ?_) (fun e => ?_)⟩
    · refine ⟨_, rfl, _, rfl, p, n, x, rfl, by omega, hh, lt, fun H2 v ms s2 h2 dv ok => ⟨(by decide : 2 ≤ sizeLine), fun T nT => ?_⟩⟩
      have sT := same_upd (o := .tup [V.str "swap", v]) nT
      refine k _ (.ref T) (.swap ms) (s2.trans (SB.of sT)) ((h2.same sT).up (by omega)) ?_ ok
      have up := nw_mono (H1 := H2) hh (SB.of sT)
      exact .tup (SqT.of (newOf_at (free_sb s2 h2 nT) upd_same)) (.cons (.str _) (.cons (dp_same up dv) .nil))
    have e3 : 3 ≤ i := by
      have e : ¬ i = 2 := fun z => by
        have y := of_decide_eq_false e
        exact y (by rw [z]; rfl)
      omega
    refine ⟨_, rfl, _, _, rfl, rfl, _, rfl, if_by (fun e => ?_) (fun e => ?_)⟩
    · have e := of_decide_eq_true e
      refine ⟨(by decide : 2 ≤ sizeLine), fun L nL => ?_⟩
      have sL := same_upd (o := .lst [V.str "first", V.str "last"]) nL
      refine ⟨_, rfl, _, _, rfl, rfl, L, _, _, _, rfl, rfl, SqL.of upd_same, (by rw [show ((i : Nat) : Int) - 3 = (((i - 3 : Nat) : Nat) : Int) by omega]; exact two (decide (i - 3 = 0)) "first" "last" (i - 3) (by omega) rfl), _, rfl, p, n, rfl, by omega, hh.same sL, fun H2 m s2 h2 mb => ⟨(by decide : 2 ≤ sizeLine), fun T nT => ?_⟩⟩
      have sT := same_upd (o := .tup [V.str (numW (decide (i - 3 = 0))), V.int (m : Nat)]) nT
      have s02 := (SB.of sL).trans s2
      refine k _ (.ref T) (.num (decide (i - 3 = 0)) m) (s02.trans (SB.of sT)) ((h2.same sT).up (by omega)) ?_ mb
      exact .tup (SqT.of (newOf_at (free_sb s02 h2 nT) upd_same)) (.cons (.str _) (.cons (.int _) .nil))
    · have e := of_decide_eq_false e
      refine ⟨(by decide : 4 ≤ sizeLine), fun L nL => ?_⟩
      have sL := same_upd (o := .lst [V.str "order", V.str "once", V.str "count", V.str "number"]) nL
      have four : ∃ w, isWord w ∧ atI [V.str "order", V.str "once", V.str "count", V.str "number"] (((i : Nat) : Int) - 5) = some (V.str w) := by
        rcases (by omega : i = 5 ∨ i = 6 ∨ i = 7 ∨ i = 8) with rfl | rfl | rfl | rfl
        · exact ⟨_, .inl rfl, rfl⟩
        · exact ⟨_, .inr (.inl rfl), rfl⟩
        · exact ⟨_, .inr (.inr (.inl rfl)), rfl⟩
        · exact ⟨_, .inr (.inr (.inr rfl)), rfl⟩
      obtain ⟨w, hw, hat⟩ := four
      refine ⟨_, rfl, _, _, rfl, rfl, L, _, _, _, rfl, rfl, SqL.of upd_same, hat, (by decide : 1 ≤ sizeLine), fun T nT => ?_⟩
      have sT := same_upd (o := .tup [V.str w]) nT
      refine k _ (.ref T) (.word w) ((SB.of sL).trans (SB.of sT)) (((hh.same sL).same sT).up (by omega)) ?_ hw
      exact .tup (SqT.of (newOf_at (free_sb (SB.of sL) (hh.same sL) nT) upd_same)) (.cons (.str _) .nil)
abbrev sLns : Stmt := top 48
abbrev nLns : List Str := ["_law_script", "_law_start", "_law_most", "_law_letters_here", "_law_lines_here", "_law_hand_here", "_law_k", "_law_cell_here"]
theorem scLns : FnScope nLns ["_law_script", "_law_start", "_law_most", "_law_letters_here"] (defScope sLns) := ⟨rfl, rfl, rfl, by decide +kernel, rfl, by decide +kernel, by decide +kernel⟩
theorem has_Lns {f : Addr} {fd : FuncData}  (F : Fun K "_law_lines" "_law_lines" sLns f fd) (g : mg "_law_lines" = some (.ref f)) (B : Blt mg) (hHa : Has P w K mg base 1 "_law_hand" ["_law_cell_here"] (spHa)) (hCe : Has P w K mg base 1 "_law_cell" ["_law_script", "_law_k"] (spCe K)) (hTk : Has P w K mg base 1 "_law_take" ["_law_hand_here", "_law_many"] (spTk)) (hLi : Has P w K mg base 3 "_law_line" ["_law_hand_here", "_law_letters_here"] (spLi)) :
    Has P w K mg base 4 "_law_lines" ["_law_script", "_law_start", "_law_most", "_law_letters_here"] (spLns K) := by
  obtain ⟨fHa, dHa, gHa, kHa, bHa, GHa⟩ := hHa
  obtain ⟨fCe, dCe, gCe, kCe, bCe, GCe⟩ := hCe
  obtain ⟨fTk, dTk, gTk, kTk, bTk, GTk⟩ := hTk
  obtain ⟨fLi, dLi, gLi, kLi, bLi, GLi⟩ := hLi
  refine has_of F g (F.binds (ps := ["_law_script", "_law_start", "_law_most", "_law_letters_here"]) fun _ _ _ _ _ _ us hl => match us, hl with | [_, _, _, _], _ => rfl) (F.ok scLns (fun vs H Q E h => ?_) (fun cdv A outer s H vs Q E hr h => ?_))
  · obtain ⟨a, ns, x, rfl, _⟩ := h
    rfl
  · refine ⟨_, (pss_cons (ps_set (i := 4) scLns.nd rfl (.inl rfl) (pe_lst pa_nil))
        (pss_cons (ps_set (i := 5) scLns.nd rfl (.inl rfl) (pe_call GHa (hr.mono (by decide)) rfl gHa kHa bHa .nil pass0 (pa_cons (pe_call GCe (hr.mono (by decide)) rfl gCe kCe bCe .nil pass0 (pa_cons (pv 0) (pa_cons (pv 1) pa_nil))) pa_nil)))
        (pss_cons (ps_for PassesOwn.never rfl (pi_range1 (by rfl) B.range (pa_cons (pe_call GTk (hr.mono (by decide)) rfl gTk kTk bTk .nil pass0 (pa_cons (pv 5) (pa_cons (pv 2) pa_nil))) pa_nil)) (pg_name (i := 6) scLns.nd rfl (.inl rfl))
          (pss_one (ps_if (PW.pt (pw_and (pt_truth (pv 4) (by intro _; rfl)) (pw_and1 (pt_cmpR op_eq (pe_call GTk (hr.mono (by decide)) rfl gTk kTk bTk .nil pass0 (pa_cons (pv 5) (pa_cons pe_int pa_nil))) pe_int (nomark _))))) (pss_one (ps_expr (pe_bm PySem.F.plainAttrs_list PySem.F.slot_list_append PySem.F.type_list_append mt_append (pv 4) (pa_cons (pe_ix ix_list (pv 4) (pe_un un_neg pe_int) (fun _ _ => rfl)) pa_nil)))) (pss_one (ps_expr (pe_bm PySem.F.plainAttrs_list PySem.F.slot_list_append PySem.F.type_list_append mt_append (pv 4) (pa_cons (pe_call GLi hr rfl gLi kLi bLi .nil pass0 (pa_cons (pv 5) (pa_cons (pv 3) pa_nil))) pa_nil)))))))
        (pss_cons (ps_for PassesOwn.never rfl (pi_list (pe_slice sl_list (pv 0) (po_some (pe_op op_add (pv 1) pe_int)) (po_some pe_int))) (pg_name (i := 7) scLns.nd rfl (.inl rfl))
          (pss_cons (ps_set (i := 5) scLns.nd rfl (.inl rfl) (pe_call GHa (hr.mono (by decide)) rfl gHa kHa bHa .nil pass0 (pa_cons (pv 7) pa_nil)))
          (pss_one (ps_if (PW.pt (pw_and (pt_truth (pv 4) (by intro _; rfl)) (pw_and1 (pt_cmpR op_eq (pe_call GTk (hr.mono (by decide)) rfl gTk kTk bTk .nil pass0 (pa_cons (pv 5) (pa_cons pe_int pa_nil))) pe_int (nomark _))))) (pss_one (ps_expr (pe_bm PySem.F.plainAttrs_list PySem.F.slot_list_append PySem.F.type_list_append mt_append (pv 4) (pa_cons (pe_ix ix_list (pv 4) (pe_un un_neg pe_int) (fun _ _ => rfl)) pa_nil)))) (pss_one (ps_expr (pe_bm PySem.F.plainAttrs_list PySem.F.slot_list_append PySem.F.type_list_append mt_append (pv 4) (pa_cons (pe_call GLi hr rfl gLi kLi bLi .nil pass0 (pa_cons (pv 5) (pa_cons (pv 3) pa_nil))) pa_nil))))))))
        (pss_one (ps_ret (pv 4))))))), ?_⟩
    obtain ⟨a, ns, x, rfl, hl, ln, lt, k⟩ := h
    refine ⟨(by decide : 0 ≤ sizeLine), fun D hD => ?_⟩
    have sD := same_upd (o := .lst []) hD
    have hD0 : (L2.upd H D (.lst [])) D = some (.lst (([] : List Str).map V.str)) := upd_same
    generalize L2.upd H D (.lst []) = H0 at sD hD0 ⊢
    refine ⟨_, rfl, _, rfl, a, ns, 1, rfl, sD.seq hl, _, rfl, fun H1 p s1 np h1 => ?_⟩
    have pD : p ≠ D := fun z => by rw [z, hD0] at np; cases np
    refine ⟨_, rfl, _, rfl, p, 12, 0, rfl, by omega, by omega, by omega, h1, fun H2 r2 s2 h2 l2 => ?_⟩
    have np0 : H p = none := sD.free np
    have sH2 : Same H H2 := sD.trans (SB.all ((SB.of s1).trans s2) np)
    have hD2 : H2 D = some (.lst (([] : List Str).map V.str)) := s2.at (s1 _ _ hD0) pD.symm
    refine ⟨_, rfl, by omega, by omega, for_it (walk_range (lo := 0) (n := r2)) (fun i σ G => ∃ (zs : List Str) (v6 : Option V), σ = [some (.ref a), some (.int 1), some (.int 12), some (.str x), some (.ref D), some (.ref p), v6, none] ∧ Same H G ∧ G D = some (.lst (zs.map V.str)) ∧ zs.length = i ∧ (∀ z ∈ zs, LineOk z) ∧ HdAt G p (1 + 41 * i)) ⟨[], none, rfl, sH2, hD2, rfl, (fun r m => nomatch m), h2.up (by omega)⟩ (fun _ _ _ _ _ => trivial) (fun i v σ H4 H5 hi e yy => ?_) (fun σ G e => ?_)⟩
    · obtain ⟨zs, v6, rfl, s4, h4, zl, zo, hd4⟩ := e
      obtain ⟨rfl, rfl⟩ := yy
      have nD0 : H D = none := hD
      exact ln_step (K := K) (zs := zs) rfl rfl rfl h4 pD.symm hd4 (by omega) lt (by omega) zo fun G' z o s' d' h' => ⟨zs ++ [z], _, rfl, s' H s4 hD np0, d', by rw [List.length_append, zl]; rfl, fun q mq => by
        rcases List.mem_append.mp mq with mq | mq
        · exact zo q mq
        · rw [List.mem_singleton.mp mq]
          exact o, h'.up (by omega)⟩
    · obtain ⟨zs, v6, rfl, s4, h4, zl, zo, hd4⟩ := e
      obtain ⟨ks, ek, kl⟩ := cut_ints ns (some (1 + 1)) (some 63)
      refine ⟨_, rfl, _, rfl, _, _, rfl, rfl, _, rfl, _, rfl, a, _, rfl, s4.seq hl, fun q nq => ?_⟩
      have sq := same_upd (o := .lst (cutV (ns.map V.int) (some (1 + 1)) (some 63))) nq
      have hq : (L2.upd G q (.lst (cutV (ns.map V.int) (some (1 + 1)) (some 63)))) q = some (.lst (ks.map V.int)) := by rw [upd_same, ek]
      have h5 := sq _ _ h4
      generalize L2.upd G q (.lst (cutV (ns.map V.int) (some (1 + 1)) (some 63))) = G1 at sq hq h5 ⊢
      have qD : q ≠ D := fun z => by rw [z, h4] at nq; cases nq
      have nq0 : H q = none := s4.free nq
      refine ⟨q, rfl, ⟨_, SqL.of hq⟩, for_it (walk_list (K := K) (a := q) (xs := ks.map V.int)) (fun i σ G => ∃ (zs : List Str) (v5 v6 v7 : Option V), σ = [some (.ref a), some (.int 1), some (.int 12), some (.str x), some (.ref D), v5, v6, v7] ∧ Same H G ∧ G q = some (.lst (ks.map V.int)) ∧ G D = some (.lst (zs.map V.str)) ∧ zs.length ≤ 12 + i ∧ ∀ z ∈ zs, LineOk z) ⟨zs, _, _, _, rfl, s4.trans sq, hq, h5, by omega, zo⟩ (fun i σ G _ ⟨_, _, _, _, _, _, h, _⟩ => SqL.of h) (fun i v σ H4 H5 hi e yy => ?_) (fun σ G e => ?_)⟩
      · obtain ⟨zs, v5, v6, v7, rfl, s6, hq6, h6, zl, zo⟩ := e
        obtain ⟨rfl, hx⟩ := yy
        rw [List.getElem?_map] at hx
        obtain ⟨c, hc, rfl⟩ := Option.map_eq_some_iff.mp hx
        rw [List.length_map] at hi
        refine ⟨_, rfl, c, rfl, fun H7 p7 s7 np7 h7 => ?_⟩
        have p7D : D ≠ p7 := fun z => by rw [← z, h6] at np7; cases np7
        have p7q : q ≠ p7 := fun z => by rw [← z, hq6] at np7; cases np7
        refine ln_step (K := K) (zs := zs) rfl rfl rfl (s7 _ _ h6) p7D h7 (by omega) lt (by omega) zo fun G' z o s' d' h' => ⟨zs ++ [z], _, _, _, rfl, s' H (s6.trans s7) hD (s6.free np7), ?_, d', by rw [List.length_append, List.length_singleton]; omega, fun w mw => ?_⟩
        · have e0 : Same (fun b => if b = q then some (HO.lst (ks.map V.int)) else none) H7 := fun b u z => by
            by_cases w : b = q
            · have z : (if b = q then some (HO.lst (ks.map V.int)) else none) = some u := z
              rw [if_pos w] at z
              rw [← z, w]
              exact s7 _ _ hq6
            · have z : (if b = q then some (HO.lst (ks.map V.int)) else none) = some u := z
              rw [if_neg w] at z
              cases z
          exact s' _ e0 (if_neg qD.symm) (if_neg p7q.symm) q _ (if_pos rfl)
        · rcases List.mem_append.mp mw with mw | mw
          · exact zo w mw
          · rw [List.mem_singleton.mp mw]
            exact o
      · obtain ⟨zs, v5, v6, v7, rfl, s6, hq6, h6, zl, zo⟩ := e
        rw [List.length_map] at zl
        exact ⟨_, rfl, k _ D zs s6 hD h6 (by omega) zo⟩
end
end Qb
end PySem
namespace PySem
namespace Qb
open PySem.W PySem.Calls PyProof.Rows L2
/-! # what the law works out: signs that fit, signs put as others -/
def fitB (q : Pt) (c : Nat) : Bool := match q with
  | .one d => decide (d = c)
  | .of no rs => (rs.any fun r => decide (r.1 ≤ c) && decide (c ≤ r.2)) != no
  | _ => true
theorem fit_takes (q : Pt) (c : Nat) : fitB q c = q.takes c := by
  cases q with
  | one d =>
    show decide (d = c) = (d == c)
    by_cases h : d = c
    · rw [decide_eq_true h, h, beq_self_eq_true]
    · rw [decide_eq_false h, beq_eq_false_iff_ne.mpr h]
  | _ => rfl
def spFt (K : Frag) : Sp := fun vs H Q _ => ∃ (v : V) (q : Pt) (c : Nat), vs = [v, .str (sg c)] ∧ Dp K H v q.d ∧ q.few ∧ ∀ H', Same H H' → Q (.bl (q.takes c)) H'
def spSd2 (K : Frag) : Sp := fun vs H Q _ => ∃ (z : Str) (v : V) (ms : List (Nat × Nat)), vs = [.str z, v] ∧ z.length ≤ 1000 ∧ Dp K H v (.list (ms.map prD)) ∧ ms.length ≤ 100 ∧ (ms.map (·.1)).Nodup ∧ ∀ H', Same H H' → Q (.str (swF ms z)) H'
theorem head_sw (ms : List (Nat × Nat)) (c : Nat) : atI (((ms.filter fun m => decide (m.1 = c)).map fun m => V.str (sg m.2)) ++ [V.str (sg c)]) 0 = some (V.str (sg (swC ms c))) := by
  refine atI_nat (j := 0) ?_
  unfold swC
  rw [← List.head?_filter]
  cases ms.filter fun m => decide (m.1 = c) with
  | nil => rfl
  | cons m r => rfl
section
variable {P : Program} {w : World} {K : Frag} {mg : Str → Option Value} {base : Heap}
abbrev sFt : Stmt := top 42
abbrev nFt : List Str := ["_law_entry_here", "_law_sign_here", "_law_part"]
theorem scFt : FnScope nFt ["_law_entry_here", "_law_sign_here"] (defScope sFt) := ⟨rfl, rfl, rfl, by decide +kernel, rfl, by decide +kernel, by decide +kernel⟩
theorem has_Ft {f : Addr} {fd : FuncData}  (F : Fun K "_law_fits" "_law_fits" sFt f fd) (g : mg "_law_fits" = some (.ref f)) (B : Blt mg) (An : mg "any" = none)  :
    Has P w K mg base 1 "_law_fits" ["_law_entry_here", "_law_sign_here"] (spFt K) := by
  refine has_of F g (F.binds (ps := ["_law_entry_here", "_law_sign_here"]) fun _ _ _ _ _ _ us hl => match us, hl with | [_, _], _ => rfl) (F.ok scFt (fun vs H Q E h => ?_) (fun cdv A outer s H vs Q E hr h => ?_))
  · obtain ⟨v, q, c, rfl, _⟩ := h
    rfl
  · refine ⟨_, (pss_cons (ps_if (pt_cmpR op_eq (pe_ix ix_tup (pv 0) pe_int (fun _ _ => rfl)) pe_str (nomark _)) (pss_one (ps_ret (pe_cmpR op_eq (pe_ix ix_tup (pv 0) pe_int (fun _ _ => rfl)) (pv 1) (nomark _)))) pss_nil)
        (pss_cons (ps_if (pt_cmpR op_eq (pe_ix ix_tup (pv 0) pe_int (fun _ _ => rfl)) pe_str (nomark _)) (pss_one (ps_ret (pe_cmpR op_ne (pe_callB (cr_any rfl) (by rfl) An (by decide +kernel) (pa_cons (pe_lc (own := [("_law_part", 2)]) (g := gName 2) (tt := tYes) rfl scFt.nd (pi_list (pe_ix ix_tup (pv 0) pe_int (fun _ _ => rfl))) (blkOk_by (N := nFt) (sc := defScope sFt) (by decide +kernel)) (fun _ _ _ _ _ => pg_name (i := 2) scFt.nd rfl (.inl rfl)) (fun _ _ _ _ _ => pts_nil) (fun _ _ _ _ _ => (pe_and (pe_cmpR op_le_str (pe_ix (show IxR _ (rIxT K) from ix_tup) (pv 2) pe_int (fun _ _ => rfl)) (pv 1) (nomark _)) (pe_one (pe_cmpR op_le_str (pv 1) (pe_ix (show IxR _ (rIxT K) from ix_tup) (pv 2) pe_int (fun _ _ => rfl)) (nomark _)))))) pa_nil)) (pe_ix ix_tup (pv 0) pe_int (fun _ _ => rfl)) (nomark _)))) pss_nil)
        (pss_one (ps_ret pe_bl)))), ?_⟩
    obtain ⟨v, q, c, rfl, hd, hf, k⟩ := h
    have w1 : decide (V.str "one" = V.str "one") = true := decide_eq_true rfl
    have w2 : decide (V.str "any" = V.str "one") = false := by decide +kernel
    have w3 : decide (V.str "lot" = V.str "one") = false := by decide +kernel
    have w4 : decide (V.str "of" = V.str "one") = false := by decide +kernel
    have w5 : decide (V.str "any" = V.str "of") = false := by decide +kernel
    have w6 : decide (V.str "lot" = V.str "of") = false := by decide +kernel
    cases q with
    | one d =>
      obtain ⟨a, rfl, hq⟩ := dp_two hd
      refine ⟨_, rfl, a, _, 0, _, rfl, rfl, hq, rfl, rfl, _, rfl, if_yes w1 ⟨_, rfl, a, _, 1, _, rfl, rfl, hq, rfl, _, rfl, rfl, ?_⟩⟩
      have := k H (Same.refl H)
      rw [← fit_takes] at this
      have e : decide (V.str (sg d) = V.str (sg c)) = decide (d = c) := decide_eq_decide.mpr ⟨fun z => (List.cons.inj (congrArg cs (V.str.inj z))).1, fun z => by rw [z]⟩
      rw [e]
      exact this
    | any =>
      obtain ⟨a, xs, rfl, hq, all⟩ := dp_tup hd
      obtain ⟨rfl⟩ : xs = [.str "any"] := by
        cases all with
        | cons h1 t => cases t; obtain rfl := dp_str h1; rfl
      refine ⟨_, rfl, a, _, 0, _, rfl, rfl, hq, rfl, rfl, _, rfl, if_no w2 ⟨_, rfl, a, _, 0, _, rfl, rfl, hq, rfl, rfl, _, rfl, if_no w5 (k H (Same.refl H))⟩⟩
    | lot =>
      obtain ⟨a, xs, rfl, hq, all⟩ := dp_tup hd
      obtain ⟨rfl⟩ : xs = [.str "lot"] := by
        cases all with
        | cons h1 t => cases t; obtain rfl := dp_str h1; rfl
      refine ⟨_, rfl, a, _, 0, _, rfl, rfl, hq, rfl, rfl, _, rfl, if_no w3 ⟨_, rfl, a, _, 0, _, rfl, rfl, hq, rfl, rfl, _, rfl, if_no w6 (k H (Same.refl H))⟩⟩
    | of no rs =>
      obtain ⟨a, x, y, rfl, hq, hx, hy⟩ := pc_three hd
      obtain ⟨b, ys, rfl, hb, all⟩ := dp_lst hy
      have ly := dpLen all
      rw [List.length_map] at ly
      have hl : rs.length ≤ 300 := hf
      cases hx
      refine ⟨_, rfl, a, _, 0, _, rfl, rfl, hq, rfl, rfl, _, rfl, if_no w4 ⟨_, rfl, a, _, 0, _, rfl, rfl, hq, rfl, rfl, _, rfl, if_yes (decide_eq_true rfl) ?_⟩⟩
      refine ⟨_, rfl, a, _, 2, _, rfl, rfl, hq, rfl, b, rfl, ⟨_, hb⟩, fun D hD => lc_all (bs := rs.map fun r => decide (r.1 ≤ c) && decide (c ≤ r.2)) hb hD (by rw [List.length_map, ly]) (by rw [ly]; omega) (fun i x b' H' Q' hx hb' s2 q => ?_) (fun H1 s2 q1 => ?_)⟩
      · obtain ⟨d, hdi, dp⟩ := dpAt' all hx
        rw [List.getElem?_map] at hdi hb'
        cases ep : rs[i]? with
        | none => rw [ep] at hdi; cases hdi
        | some r =>
          rw [ep] at hdi hb'
          obtain rfl := Option.some.inj hdi
          obtain rfl := Option.some.inj hb'
          obtain ⟨t, rfl, ht⟩ := dp_two dp
          have ht2 := sqT_same s2 ht
          have le1 : ∀ i j : Nat, (!decide ((sg j).cps.toList < (sg i).cps.toList)) = decide (i ≤ j) := fun i j => by
            rw [lt_sg]
            by_cases z : i ≤ j
            · rw [decide_eq_true z, decide_eq_false (by omega)]; rfl
            · rw [decide_eq_false z, decide_eq_true (by omega)]; rfl
          have q : ∀ H4, Same H' H4 → Q' (V.bl (decide (r.1 ≤ c) && decide (c ≤ r.2))) H4 := q
          refine ⟨rfl, _, rfl, t, _, 0, _, rfl, rfl, ht2, rfl, _, rfl, _, _, rfl, rfl, ?_⟩
          rw [le1]
          cases z1 : decide (r.1 ≤ c) with
          | false =>
            rw [z1, Bool.false_and] at q
            exact ⟨_, rfl, if_no rfl (q _ (Same.refl _))⟩
          | true =>
            rw [z1, Bool.true_and] at q
            refine ⟨_, rfl, if_yes rfl ⟨_, rfl, _, rfl, t, _, 1, _, rfl, rfl, ht2, rfl, _, _, rfl, rfl, ?_⟩⟩
            rw [le1]
            exact q _ (Same.refl _)
      · refine ⟨D, _, rfl, q1, _, rfl, a, _, 1, _, rfl, rfl, sqT_same s2 hq, rfl, rfl, ?_⟩
        have := k H1 s2
        rw [← fit_takes] at this
        have e : (rs.map fun r => decide (r.1 ≤ c) && decide (c ≤ r.2)).any id = rs.any fun r => decide (r.1 ≤ c) && decide (c ≤ r.2) := by
          rw [List.any_map]
          rfl
        rw [e]
        have e2 : ∀ x y : Bool, (!decide (V.bl x = V.bl y)) = (x != y) := by decide
        rw [e2]
        exact this
abbrev sSd2 : Stmt := top 44
abbrev nSd2 : List Str := ["_law_line_here", "_law_pairs_here", "_law_found", "_law_sign_here", "_law_others", "_law_pair"]
theorem scSd2 : FnScope nSd2 ["_law_line_here", "_law_pairs_here"] (defScope sSd2) := ⟨rfl, rfl, rfl, by decide +kernel, rfl, by decide +kernel, by decide +kernel⟩
theorem has_Sd2 {f : Addr} {fd : FuncData}  (F : Fun K "_law_swapped" "_law_swapped" sSd2 f fd) (g : mg "_law_swapped" = some (.ref f)) (B : Blt mg)  :
    Has P w K mg base 1 "_law_swapped" ["_law_line_here", "_law_pairs_here"] (spSd2 K) := by
  refine has_of F g (F.binds (ps := ["_law_line_here", "_law_pairs_here"]) fun _ _ _ _ _ _ us hl => match us, hl with | [_, _], _ => rfl) (F.ok scSd2 (fun vs H Q E h => ?_) (fun cdv A outer s H vs Q E hr h => ?_))
  · obtain ⟨z, v, ms, rfl, _⟩ := h
    rfl
  · refine ⟨_, (pss_cons (ps_set (i := 2) scSd2.nd rfl (.inl rfl) pe_str)
        (pss_cons (ps_for PassesOwn.never rfl (pi_str (pv 0)) (pg_name (i := 3) scSd2.nd rfl (.inr rfl))
          (pss_cons (ps_setLc (i := 4) (own := [("_law_pair", 5)]) (g := gName 5) rfl scSd2.nd rfl rfl (sw_true rfl rfl rfl (by decide +kernel)) (pi_list (pv 1)) (blkOk_by (N := nSd2) (sc := defScope sSd2) (by decide +kernel)) (fun _ _ _ _ _ => pg_name (i := 5) scSd2.nd rfl (.inl rfl)) (fun _ _ _ _ _ => pts_one (pt_cmpR op_eq (pe_ix (show IxR _ (rIxT K) from ix_tup) (pv 5) pe_int (fun _ _ => rfl)) (pv 3) (nomark _))) (fun _ _ _ _ _ => (pe_ix (show IxR _ (rIxT K) from ix_tup) (pv 5) pe_int (fun _ _ => rfl))))
          (pss_one (ps_set (i := 2) scSd2.nd rfl (.inl rfl) (pe_op op_add_str (pv 2) (pe_ix ix_list (pe_op op_cat (pv 4) (pe_lst (pa_cons (pv 3) pa_nil))) pe_int (fun _ _ => rfl)))))))
        (pss_one (ps_ret (pv 2))))), ?_⟩
    obtain ⟨z, v, ms, rfl, lz, hd, lm, nd, k⟩ := h
    obtain ⟨b, ys, rfl, hb, all⟩ := dp_lst hd
    have ly := dpLen all
    rw [List.length_map] at ly
    refine ⟨_, rfl, z, rfl, for_it walk_str (fun i σ H' => (∃ s3 s4 : Option V, σ = [some (.str z), some (.ref b), some (.str (st (((cs z).take i).map (swC ms)))), s3, s4, none]) ∧ Same H H') ⟨⟨none, none, rfl⟩, Same.refl H⟩ (fun _ _ _ _ _ => trivial) (fun i v σ H1 H2 hi e yy => ?_) (fun σ H1 e => ?_)⟩
    · obtain ⟨⟨s3, s4, rfl⟩, s1⟩ := e
      obtain ⟨rfl, c, hc, rfl⟩ := yy
      have hc' : (cs z)[i]? = some c := by simpa using hc
      refine ⟨_, rfl, b, rfl, ⟨_, s1.seq hb⟩, fun D hD => ?_⟩
      refine lc_it (walk_list (K := K) (a := b) (xs := ys)) (fun j G => Same H2 G ∧ G D = some (.lst (((ms.take j).filter fun m => decide (m.1 = c)).map fun m => V.str (sg m.2)))) ⟨same_upd hD, upd_same⟩ (fun j G _ e => e.1.seq (s1.seq hb)) (fun j y H3 H4 hj e yy => ?_) (fun G e => ?_)
      · obtain ⟨s3', h3⟩ := e
        obtain ⟨rfl, hx⟩ := yy
        obtain ⟨d, hdi, dp⟩ := dpAt' all hx
        rw [List.getElem?_map] at hdi
        obtain ⟨r, er, rfl⟩ := Option.map_eq_some_iff.mp hdi
        obtain ⟨t, rfl, ht⟩ := dp_two dp
        have ht2 := sqT_same (s1.trans s3') ht
        refine ⟨rfl, _, rfl, t, _, 0, _, rfl, rfl, ht2, rfl, _, rfl, rfl, _, rfl, ?_⟩
        have e : decide (V.str (sg r.1) = V.str (sg c)) = decide (r.1 = c) := decide_eq_decide.mpr ⟨fun z => (List.cons.inj (congrArg cs (V.str.inj z))).1, fun z => by rw [z]⟩
        rw [e]
        refine if_by (fun e1 => ?_) (fun e1 => ?_)
        · refine ⟨_, rfl, t, _, 1, _, rfl, rfl, ht2, rfl, _, h3, ?_, same_upd2 s3' hD, ?_⟩
          · have l1 := List.length_filter_le (fun m : Nat × Nat => decide (m.1 = c)) (ms.take j)
            have l2 := List.length_take_le' j ms
            rw [List.length_map, sizeLine_eq]
            omega
          · rw [upd_same, take_snoc er, List.filter_append, List.map_append]
            simp [e1]
        · refine ⟨s3', ?_⟩
          rw [h3, take_snoc er, List.filter_append, List.map_append]
          simp [e1]
      · obtain ⟨s3', h3⟩ := e
        rw [ly, List.take_length] at h3
        refine ⟨_, rfl, _, rfl, _, rfl, (by decide : 1 ≤ sizeLine), fun L nL => ?_⟩
        have sL := same_upd (o := .lst [V.str (sg c)]) nL
        refine ⟨D, L, _, _, rfl, rfl, sL _ _ h3, upd_same, ?_, fun T nT => ?_⟩
        · have l1 := List.length_filter_le (fun m : Nat × Nat => decide (m.1 = c)) ms
          rw [List.length_map, List.length_singleton, sizeLine_eq]
          omega
        · refine ⟨T, _, _, _, rfl, rfl, SqL.of upd_same, head_sw ms c, _, _, rfl, rfl, ?_, ⟨some (.str (sg c)), some (.ref D), ?_⟩, ((s1.trans s3').trans sL).trans (same_upd nT)⟩
          · rw [len_st, List.length_map, List.length_take, sizeLine_eq, show (sg (swC ms c)).length = 1 from rfl]
            have := len_cs z
            omega
          · rw [take_snoc hc', List.map_append]
            have e : st (((cs z).take i).map (swC ms)) ++ sg (swC ms c) = st (((cs z).take i).map (swC ms) ++ [swC ms c]) := by
              refine str_ext ?_
              rw [cs_app, cs_st, cs_st]
            rw [e]
            rfl
    · obtain ⟨⟨s3, s4, rfl⟩, s1⟩ := e
      have e2 : (cs z).take z.cps.size = cs z := List.take_of_length_le (by simp)
      rw [e2]
      exact ⟨_, rfl, k H1 s1⟩
end
end Qb
end PySem
namespace PySem
namespace Qb
open PySem.W PySem.Calls PyProof.Rows L2
/-! # places of a pattern behind some signs -/
theorem M_snoc_lot {P : List Pt} {w : List Nat} : M (P ++ [.lot]) w ↔ ∃ j, j ≤ w.length ∧ M P (w.take j) := by
  rw [M_append]
  refine ⟨fun ⟨j, h1, h2, _⟩ => ⟨j, h1, h2⟩, fun ⟨j, h1, h2⟩ => ⟨j, h1, h2, ?_⟩⟩
  rw [M_lot]
  refine ⟨(w.drop j).length, Nat.le_refl _, ?_⟩
  rw [List.drop_length]
  rfl
theorem M_snoc_one {P : List Pt} {p : Pt} {w : List Nat} (h : p.isLot = false) : M (P ++ [p]) w ↔ ∃ c u, w = u ++ [c] ∧ p.takes c = true ∧ M P u := by
  rw [M_append]
  constructor
  · rintro ⟨k, h1, h2, h3⟩
    rw [M_one h] at h3
    obtain ⟨c, v, e, t, m⟩ := h3
    have m : v = [] := m
    subst m
    refine ⟨c, w.take k, ?_, t, h2⟩
    rw [← e, List.take_append_drop]
  · rintro ⟨c, u, rfl, t, m⟩
    refine ⟨u.length, by simp, ?_, ?_⟩
    · rw [List.take_left']
      · exact m
      · rfl
    · rw [List.drop_left' rfl, M_one h]
      exact ⟨c, [], rfl, t, rfl⟩
/-- the part of a pattern ahead of a place -/
def ahead (ps : List Pt) (q : Nat) : Nat := if lotAt ps q = true then q + 1 else q
def Bq (ps : List Pt) (w : List Nat) (k q : Nat) : Prop := M (ps.take (ahead ps q)) (w.take k)
theorem take_lot {ps : List Pt} {q : Nat} (h : lotAt ps q = true) : ps.take (q + 1) = ps.take q ++ [.lot] := by
  have l := lotAt_lt h
  rw [List.take_succ, List.getElem?_eq_getElem l]
  unfold lotAt at h
  rw [List.getElem?_eq_getElem l] at h
  rw [isLot_eq h]
  rfl
theorem take_one {ps : List Pt} {q : Nat} (l : q < ps.length) (h : lotAt ps q = false) : ps.take (q + 1) = ps.take q ++ [ps[q]] ∧ ps[q].isLot = false := by
  unfold lotAt at h
  rw [List.getElem?_eq_getElem l] at h
  refine ⟨?_, h⟩
  rw [List.take_succ, List.getElem?_eq_getElem l]
  rfl
theorem snoc_take {w : List Nat} {k : Nat} (h : k < w.length) {u : List Nat} {c : Nat} : w.take (k + 1) = u ++ [c] ↔ u = w.take k ∧ c = w[k] := by
  rw [List.take_succ, List.getElem?_eq_getElem h]
  constructor
  · intro e
    have e : w.take k ++ [w[k]] = u ++ [c] := e
    have := List.append_inj' e rfl
    exact ⟨this.1.symm, (List.cons.inj this.2).1.symm⟩
  · rintro ⟨rfl, rfl⟩
    rfl
/-- M of what stands ahead of place q, one piece back -/
theorem M_take {ps : List Pt} {w : List Nat} {k q : Nat} (hk : k ≤ w.length) (hq : q ≤ ps.length) : M (ps.take q) (w.take k) ↔ (q = 0 ∧ k = 0) ∨ (∃ r, q = r + 1 ∧ lotAt ps r = true ∧ Bq ps w k r) ∨ (∃ r j, q = r + 1 ∧ k = j + 1 ∧ lotAt ps r = false ∧ (∃ h : r < ps.length, ∃ h2 : j < w.length, ps[r].takes w[j] = true) ∧ Bq ps w j r) := by
  cases q with
  | zero =>
    rw [List.take_zero, M_nil]
    constructor
    · intro h
      refine .inl ⟨rfl, ?_⟩
      have := congrArg List.length h
      rw [List.length_take, List.length_nil] at this
      omega
    · rintro (⟨_, rfl⟩ | ⟨r, e, _⟩ | ⟨r, j, e, _⟩)
      · exact List.take_zero
      · omega
      · omega
  | succ r =>
    have l : r < ps.length := by omega
    cases e : lotAt ps r with
    | true =>
      have eb : Bq ps w k r ↔ M (ps.take (r + 1)) (w.take k) := by
        unfold Bq ahead
        rw [e, if_pos rfl]
      rw [← eb]
      constructor
      · exact fun h => .inr (.inl ⟨r, rfl, e, h⟩)
      · rintro (⟨z, _⟩ | ⟨r', z, _, h⟩ | ⟨r', j, z, _, e', _⟩)
        · cases z
        · obtain rfl : r = r' := by omega
          exact h
        · obtain rfl : r = r' := by omega
          rw [e] at e'
          cases e'
    | false =>
      obtain ⟨t1, t2⟩ := take_one l e
      rw [t1, M_snoc_one t2]
      constructor
      · rintro ⟨c, u, e2, t, m⟩
        cases k with
        | zero =>
          rw [List.take_zero] at e2
          exact absurd e2 (by simp)
        | succ j =>
          have lj : j < w.length := by omega
          obtain ⟨rfl, rfl⟩ := (snoc_take lj).mp e2
          refine .inr (.inr ⟨r, j, rfl, rfl, e, ⟨l, lj, t⟩, ?_⟩)
          unfold Bq ahead
          rw [e, if_neg (by decide)]
          exact m
      · rintro (⟨z, _⟩ | ⟨r', z, e', _⟩ | ⟨r', j, z, rfl, _, ⟨h1, h2, t⟩, h⟩)
        · cases z
        · obtain rfl : r = r' := by omega
          rw [e] at e'
          cases e'
        · obtain rfl : r = r' := by omega
          refine ⟨w[j], w.take j, (snoc_take h2).mpr ⟨rfl, rfl⟩, t, ?_⟩
          unfold Bq ahead at h
          rw [e, if_neg (by decide)] at h
          exact h
/-- the places that stand before the signs' closure is taken -/
def Plq (ps : List Pt) (w : List Nat) (k q : Nat) : Prop := (q = 0 ∧ k = 0) ∨ (∃ r j, q = r + 1 ∧ k = j + 1 ∧ lotAt ps r = false ∧ (∃ h : r < ps.length, ∃ h2 : j < w.length, ps[r].takes w[j] = true) ∧ Bq ps w j r) ∨ (∃ j, k = j + 1 ∧ lotAt ps q = true ∧ Bq ps w j q)
theorem B_rec {ps : List Pt} {w : List Nat} {k q : Nat} (hk : k ≤ w.length) (hq : q ≤ ps.length) : Bq ps w k q ↔ Plq ps w k q ∨ ∃ r, q = r + 1 ∧ lotAt ps r = true ∧ Bq ps w k r := by
  have m := M_take (ps := ps) (w := w) hk hq
  cases e : lotAt ps q with
  | false =>
    have eb : Bq ps w k q ↔ M (ps.take q) (w.take k) := by
      unfold Bq ahead
      rw [e, if_neg (by decide)]
    rw [eb, m]
    unfold Plq
    constructor
    · rintro (h | h | h)
      · exact .inl (.inl h)
      · exact .inr h
      · exact .inl (.inr (.inl h))
    · rintro ((h | h | ⟨j, _, z, _⟩) | h)
      · exact .inl h
      · exact .inr (.inr h)
      · rw [e] at z
        cases z
      · exact .inr (.inl h)
  | true =>
    have eb : ∀ j, Bq ps w j q ↔ ∃ i, i ≤ (w.take j).length ∧ M (ps.take q) ((w.take j).take i) := fun j => by
      unfold Bq ahead
      rw [e, if_pos rfl, take_lot e, M_snoc_lot]
    constructor
    · intro hB
      obtain ⟨i, hi, hm⟩ := (eb k).mp hB
      rw [List.length_take] at hi
      rw [List.take_take, Nat.min_eq_left (by omega)] at hm
      by_cases z : i = k
      · rw [z] at hm
        rcases m.mp hm with h | h | h
        · exact .inl (.inl h)
        · exact .inr h
        · exact .inl (.inr (.inl h))
      · cases k with
        | zero => omega
        | succ j =>
          refine .inl (.inr (.inr ⟨j, rfl, e, (eb j).mpr ⟨i, by rw [List.length_take]; omega, ?_⟩⟩))
          rw [List.take_take, Nat.min_eq_left (by omega)]
          exact hm
    · have self : M (ps.take q) (w.take k) → Bq ps w k q := fun h => (eb k).mpr ⟨(w.take k).length, Nat.le_refl _, by rw [List.take_length]; exact h⟩
      rintro ((h | h | ⟨j, rfl, _, h⟩) | h)
      · exact self (m.mpr (.inl h))
      · exact self (m.mpr (.inr (.inr h)))
      · obtain ⟨i, hi, h⟩ := (eb j).mp h
        rw [List.length_take] at hi
        refine (eb (j + 1)).mpr ⟨i, by rw [List.length_take]; omega, ?_⟩
        rw [List.take_take, Nat.min_eq_left (by omega)] at h ⊢
        exact h
      · exact self (m.mpr (.inr (.inl h)))
theorem B_end {ps : List Pt} {w : List Nat} : Bq ps w w.length ps.length ↔ M ps w := by
  unfold Bq ahead
  have e : lotAt ps ps.length = false := by
    cases z : lotAt ps ps.length with
    | false => rfl
    | true =>
      have := lotAt_lt z
      omega
  rw [e, if_neg (by decide), List.take_length, List.take_length]
end Qb
end PySem
namespace PySem
namespace Qb
open PySem.W PySem.Calls PyProof.Rows L2
/-! # does a pattern meet a line -/
abbrev iv (n : Nat) : V := .int (n : Nat)
theorem inV_nat (q : Nat) (ns : List Nat) : inV (iv q) (ns.map iv) = decide (q ∈ ns) := by
  induction ns with
  | nil => rfl
  | cons w ws ih =>
    have e : inV (iv q) ((w :: ws).map iv) = ((((w : Nat) : Int) == ((q : Nat) : Int)) || inV (iv q) (ws.map iv)) := rfl
    rw [e, ih]
    by_cases h : q = w
    · subst h
      simp
    · rw [beq_eq_false_iff_ne.mpr (fun z => h (by omega)), Bool.false_or]
      exact decide_eq_decide.mpr ⟨fun m => .tail _ m, fun m => by
        rcases List.mem_cons.mp m with rfl | m
        · exact (h rfl).elim
        · exact m⟩
theorem flat_iv (l : List Nat) : (l.map iv).all flatV = true := by
  rw [List.all_eq_true]
  intro v m
  obtain ⟨x, _, rfl⟩ := List.mem_map.mp m
  rfl
def ptW : Pt → Str
  | .one _ => "one"
  | .any => "any"
  | .lot => "lot"
  | .of _ _ => "of"
theorem pt_top {K : Frag} {H : Hp} {v : V} {q : Pt} (h : Dp K H v q.d) : ∃ t r, v = .ref t ∧ SqT K H t (V.str (ptW q) :: r) := by
  cases q with
  | one c =>
    obtain ⟨a, rfl, hq⟩ := dp_two h
    exact ⟨a, _, rfl, hq⟩
  | any =>
    obtain ⟨a, xs, rfl, hq, all⟩ := dp_tup h
    cases all with
    | cons h1 t => cases t; obtain rfl := dp_str h1; exact ⟨a, _, rfl, hq⟩
  | lot =>
    obtain ⟨a, xs, rfl, hq, all⟩ := dp_tup h
    cases all with
    | cons h1 t => cases t; obtain rfl := dp_str h1; exact ⟨a, _, rfl, hq⟩
  | of no rs =>
    obtain ⟨a, x, y, rfl, hq, _⟩ := pc_three h
    exact ⟨a, _, rfl, hq⟩
theorem pt_lot (q : Pt) : decide (V.str (ptW q) = V.str "lot") = q.isLot := by
  have w1 : decide (("one" : Str) = "lot") = false := by decide +kernel
  have w2 : decide (("any" : Str) = "lot") = false := by decide +kernel
  have w3 : decide (("of" : Str) = "lot") = false := by decide +kernel
  rw [dec_str]
  cases q with
  | one c => exact w1
  | any => exact w2
  | lot => exact decide_eq_true rfl
  | of no rs => exact w3
theorem lot_get {ps : List Pt} {q : Nat} {p : Pt} (h : ps[q]? = some p) : lotAt ps q = p.isLot := by
  unfold lotAt
  rw [h]
def spLm (K : Frag) : Sp := fun vs H Q _ => ∃ (v : V) (ps : List Pt) (z : Str), vs = [v, .str z] ∧ Dp K H v (.list (ps.map Pt.d)) ∧ ps.length ≤ 60 ∧ (∀ q ∈ ps, q.few) ∧ z.length ≤ 1000 ∧ ∀ H' b, Same H H' → (b = true ↔ M ps (cs z)) → Q (.bl b) H'
section
variable {P : Program} {w : World} {K : Frag} {mg : Str → Option Value} {base : Heap}
abbrev sMe : Stmt := top 43
abbrev nMe : List Str := ["_law_pattern_here", "_law_text", "_law_size", "_law_places", "_law_k", "_law_reached", "_law_place"]
theorem scMe : FnScope nMe ["_law_pattern_here", "_law_text"] (defScope sMe) := ⟨rfl, rfl, rfl, by decide +kernel, rfl, by decide +kernel, by decide +kernel⟩
theorem has_Me {f : Addr} {fd : FuncData}  (F : Fun K "_law_meets" "_law_meets" sMe f fd) (g : mg "_law_meets" = some (.ref f)) (B : Blt mg) (hFt : Has P w K mg base 1 "_law_fits" ["_law_entry_here", "_law_sign_here"] (spFt K)) :
    Has P w K mg base 2 "_law_meets" ["_law_pattern_here", "_law_text"] (spLm K) := by
  obtain ⟨fFt, dFt, gFt, kFt, bFt, GFt⟩ := hFt
  refine has_of F g (F.binds (ps := ["_law_pattern_here", "_law_text"]) fun _ _ _ _ _ _ us hl => match us, hl with | [_, _], _ => rfl) (F.ok scMe (fun vs H Q E h => ?_) (fun cdv A outer s H vs Q E hr h => ?_))
  · obtain ⟨v, ps, z, rfl, _⟩ := h
    rfl
  · refine ⟨_, (pss_cons (ps_set (i := 2) scMe.nd rfl (.inr rfl) (pe_callB call_len_seq (by rfl) B.len PySem.boot_len (pa_cons (pv 0) pa_nil)))
        (pss_cons (ps_set (i := 3) scMe.nd rfl (.inl rfl) (pe_lst (pa_cons pe_int pa_nil)))
        (pss_cons (ps_for PassesOwn.never rfl (pi_range1 (by rfl) B.range (pa_cons (pe_op op_add (pe_callB call_len_str (by rfl) B.len PySem.boot_len (pa_cons (pv 1) pa_nil)) pe_int) pa_nil)) (pg_name (i := 4) scMe.nd rfl (.inr rfl))
          (pss_cons (ps_set (i := 5) scMe.nd rfl (.inl rfl) (pe_lst pa_nil))
          (pss_cons (ps_for PassesOwn.never rfl (pi_range1 (by rfl) B.range (pa_cons (pe_op op_add (pv 2) pe_int) pa_nil)) (pg_name (i := 6) scMe.nd rfl (.inl rfl))
            (pss_one (ps_if (PW.pt (pw_or (pt_cmpR op_in_seq (pv 6) (pv 3) (by rfl)) (pw_or1 (PW.pt (pw_and (pt_cmpR op_gt (pv 6) pe_int (nomark _)) (pw_and (pt_cmpR op_in_seq (pe_op op_sub (pv 6) pe_int) (pv 5) (by rfl)) (pw_and1 (pt_cmpR op_eq (pe_ix (show IxR _ (rIxT K) from ix_tup) (pe_ix (show IxR _ (rIxL K) from ix_list) (pv 0) (pe_op op_sub (pv 6) pe_int) (fun _ _ => rfl)) pe_int (fun _ _ => rfl)) pe_str (nomark _))))))))) (pss_one (ps_expr (pe_bm PySem.F.plainAttrs_list PySem.F.slot_list_append PySem.F.type_list_append mt_append (pv 5) (pa_cons (pv 6) pa_nil)))) pss_nil)))
          (pss_cons (ps_if (pt_cmpR op_eq (pv 4) (pe_callB call_len_str (by rfl) B.len PySem.boot_len (pa_cons (pv 1) pa_nil)) (nomark _)) (pss_one (ps_ret (pe_cmpR op_in_seq (pv 2) (pv 5) (by rfl)))) pss_nil)
          (pss_cons (ps_setLc (i := 3) (own := [("_law_place", 6)]) (g := gName 6) rfl scMe.nd rfl rfl (sw_true rfl rfl rfl (by decide +kernel)) (pi_list (pv 5)) (blkOk_by (N := nMe) (sc := defScope sMe) (by decide +kernel)) (fun _ _ _ _ _ => pg_name (i := 6) scMe.nd rfl (.inl rfl)) (fun _ _ _ _ _ => pts_one (PW.pt (pw_and (pt_cmpR op_lt (pv 6) (pv 2) (nomark _)) (pw_and1 (pt_cmpR op_ne (pe_ix (show IxR _ (rIxT K) from ix_tup) (pe_ix (show IxR _ (rIxL K) from ix_list) (pv 0) (pv 6) (fun _ _ => rfl)) pe_int (fun _ _ => rfl)) pe_str (nomark _)))))) (fun _ _ _ _ _ => (pe_op op_add (pv 6) pe_int)))
          (pss_cons (ps_setLc (i := 3) (own := [("_law_place", 6)]) (g := gName 6) rfl scMe.nd rfl rfl (sw_true rfl rfl rfl (by decide +kernel)) (pi_list (pv 3)) (blkOk_by (N := nMe) (sc := defScope sMe) (by decide +kernel)) (fun _ _ _ _ _ => pg_name (i := 6) scMe.nd rfl (.inl rfl)) (fun _ _ _ _ _ => pts_one (pt_val (pe_call GFt hr rfl gFt kFt bFt .nil pass0 (pa_cons (pe_ix (show IxR _ (rIxL K) from ix_list) (pv 0) (pe_op op_sub (pv 6) pe_int) (fun _ _ => rfl)) (pa_cons (pe_ix ix_str (pv 1) (pv 4) (fun _ _ => rfl)) pa_nil))))) (fun _ _ _ _ _ => (pv 6)))
          (pss_one (ps_set (i := 3) scMe.nd rfl (.inl rfl) (pe_op op_cat (pv 3) (pe_lc (own := [("_law_place", 6)]) (g := gName 6) rfl scMe.nd (pi_list (pv 5)) (blkOk_by (N := nMe) (sc := defScope sMe) (by decide +kernel)) (fun _ _ _ _ _ => pg_name (i := 6) scMe.nd rfl (.inl rfl)) (fun _ _ _ _ _ => pts_one (PW.pt (pw_and (pt_cmpR op_lt (pv 6) (pv 2) (nomark _)) (pw_and1 (pt_cmpR op_eq (pe_ix (show IxR _ (rIxT K) from ix_tup) (pe_ix (show IxR _ (rIxL K) from ix_list) (pv 0) (pv 6) (fun _ _ => rfl)) pe_int (fun _ _ => rfl)) pe_str (nomark _)))))) (fun _ _ _ _ _ => (pv 6))))))))))))
        (pss_one (ps_ret pe_bl))))), ?_⟩
    obtain ⟨v, ps, z, rfl, hd, lp, few, lz, k⟩ := h
    obtain ⟨b, ys, rfl, hb, all⟩ := dp_lst hd
    have ly := dpLen all
    rw [List.length_map] at ly
    have lzc := len_cs z
    refine ⟨_, rfl, b, _, rfl, .inl hb, ?_⟩
    rw [ly]
    refine ⟨(by decide : 1 ≤ sizeLine), fun A0 nA => ?_⟩
    have s0 := same_upd (o := .lst [V.int 0]) nA
    have hA0 : (L2.upd H A0 (.lst [V.int 0])) A0 = some (.lst ([0].map iv)) := upd_same
    generalize L2.upd H A0 (.lst [V.int 0]) = H0 at s0 hA0 ⊢
    refine ⟨_, rfl, z, rfl, line_small (by omega), _, _, rfl, rfl, _, rfl, by omega, by omega, for_it (walk_range (lo := 0) (n := z.length + 1)) (fun i σ G => ∃ (A : Addr) (pl : List Nat) (v4 v5 v6 : Option V), σ = [some (.ref b), some (.str z), some (iv ps.length), some (.ref A), v4, v5, v6] ∧ Same H G ∧ G A = some (.lst (pl.map iv)) ∧ pl.length ≤ 200 ∧ (∀ q ∈ pl, q ≤ ps.length) ∧ (∀ q, q ≤ ps.length → (q ∈ pl ↔ Plq ps (cs z) i q)) ∧ i ≤ (cs z).length) ⟨A0, [0], none, none, none, rfl, s0, hA0, by decide, fun q m => by rw [List.mem_singleton.mp m]; omega, fun q hq => ?_, Nat.zero_le _⟩ (fun _ _ _ _ _ => trivial) (fun i v σ H1 H2 hi e yy => ?_) (fun σ G e => ?_)⟩
    · rw [List.mem_singleton]
      constructor
      · exact fun h => .inl ⟨h, rfl⟩
      · rintro (h | ⟨_, _, _, h, _⟩ | ⟨_, h, _⟩)
        · exact h.1
        · cases h
        · cases h
    · obtain ⟨A, pl, v4, v5, v6, rfl, s1, hA, pl1, pl2, pl3, il⟩ := e
      obtain ⟨rfl, ev⟩ := yy
      have ev : v = iv i := by
        rw [ev]
        show V.int (0 + _) = _
        rw [Int.zero_add]
      subst ev
      refine ⟨(by decide : 0 ≤ sizeLine), fun R nR => ?_⟩
      have sR := same_upd (o := .lst []) nR
      have hR0 : (L2.upd H2 R (.lst [])) R = some (.lst (([] : List Nat).map iv)) := upd_same
      have hA1 := sR _ _ hA
      have sHR := s1.trans sR
      have nRH := s1.free nR
      generalize L2.upd H2 R (.lst []) = H3 at sR hR0 hA1 sHR ⊢
      have AR : A ≠ R := fun w => by rw [w, nR] at hA; cases hA
      refine ⟨_, rfl, _, _, rfl, rfl, _, rfl, by omega, by omega, for_it (walk_range (lo := 0) (n := ps.length + 1)) (fun j σ G => ∃ (rs : List Nat) (v6 : Option V), σ = [some (.ref b), some (.str z), some (iv ps.length), some (.ref A), some (iv i), some (.ref R), v6] ∧ Same H G ∧ G A = some (.lst (pl.map iv)) ∧ G R = some (.lst (rs.map iv)) ∧ rs.length ≤ j ∧ (∀ q, q ∈ rs ↔ q < j ∧ Bq ps (cs z) i q)) ⟨[], v6, rfl, sHR, hA1, hR0, Nat.le_refl _, fun q => ⟨(fun m => nomatch m), fun h => by omega⟩⟩ (fun _ _ _ _ _ => trivial) (fun j v σ H4 H5 hj e yy => ?_) (fun σ G e => ?_)⟩
      · obtain ⟨rs, v6, rfl, s4, hA4, hR4, rl, rm⟩ := e
        obtain ⟨rfl, ev⟩ := yy
        have ev : v = iv j := by
          rw [ev]
          show V.int (0 + _) = _
          rw [Int.zero_add]
        subst ev
        have jq : j ≤ ps.length := by omega
        have brec := B_rec (ps := ps) (w := cs z) (k := i) (q := j) il jq
        have put : Bq ps (cs z) i j → ∃ (rs' : List Nat) (v6 : Option V), [some (V.ref b), some (.str z), some (iv ps.length), some (.ref A), some (iv i), some (.ref R), some (iv j)] = [some (V.ref b), some (.str z), some (iv ps.length), some (.ref A), some (iv i), some (.ref R), v6] ∧ Same H (L2.upd H5 R (.lst (rs.map iv ++ [iv j]))) ∧ (L2.upd H5 R (.lst (rs.map iv ++ [iv j]))) A = some (.lst (pl.map iv)) ∧ (L2.upd H5 R (.lst (rs.map iv ++ [iv j]))) R = some (.lst (rs'.map iv)) ∧ rs'.length ≤ j + 1 ∧ (∀ q, q ∈ rs' ↔ q < j + 1 ∧ Bq ps (cs z) i q) := fun hB => by
          refine ⟨rs ++ [j], _, rfl, same_upd2 s4 nRH, by rw [upd_ne AR]; exact hA4, ?_, by rw [List.length_append, List.length_singleton]; omega, fun q => ?_⟩
          · rw [upd_same, List.map_append]
            rfl
          · rw [List.mem_append, List.mem_singleton, rm]
            constructor
            · rintro (h | rfl)
              · exact ⟨by omega, h.2⟩
              · exact ⟨by omega, hB⟩
            · rintro ⟨h1, h2⟩
              by_cases w : q = j
              · exact .inr w
              · exact .inl ⟨by omega, h2⟩
        have keep : ¬ Bq ps (cs z) i j → ∃ (rs' : List Nat) (v6 : Option V), [some (V.ref b), some (.str z), some (iv ps.length), some (.ref A), some (iv i), some (.ref R), some (iv j)] = [some (V.ref b), some (.str z), some (iv ps.length), some (.ref A), some (iv i), some (.ref R), v6] ∧ Same H H5 ∧ H5 A = some (.lst (pl.map iv)) ∧ H5 R = some (.lst (rs'.map iv)) ∧ rs'.length ≤ j + 1 ∧ (∀ q, q ∈ rs' ↔ q < j + 1 ∧ Bq ps (cs z) i q) := fun hB => by
          refine ⟨rs, _, rfl, s4, hA4, hR4, by omega, fun q => ?_⟩
          rw [rm]
          constructor
          · exact fun h => ⟨by omega, h.2⟩
          · rintro ⟨h1, h2⟩
            by_cases w : q = j
            · rw [w] at h2
              exact absurd h2 hB
            · exact ⟨by omega, h2⟩
        have sz : (rs.map iv).length < sizeLine := by rw [List.length_map, sizeLine_eq]; omega
        refine ⟨_, rfl, _, rfl, A, _, rfl, .inl (SqL.of hA4), rfl, flat_iv _, ?_⟩
        rw [if_neg (by decide : ¬ false = true), inV_nat]
        refine ⟨_, rfl, if_by (fun e1 => ?_) (fun e1 => ?_)⟩
        · have hB := brec.mpr (.inl ((pl3 j jq).mp (of_decide_eq_true e1)))
          exact if_yes rfl ⟨_, rfl, .inl ⟨rfl, _, SqL.of hR4⟩, _, rfl, R, _, _, rfl, rfl, hR4, sz, put hB⟩
        · have np := of_decide_eq_false e1
          refine ⟨_, rfl, _, _, rfl, rfl, _, rfl, if_by (fun e2 => ?_) (fun e2 => ?_)⟩
          · have j0 : 0 < j := by
              have := of_decide_eq_true e2
              omega
            have ej : ((j : Nat) : Int) - 1 = (((j - 1 : Nat) : Nat) : Int) := by omega
            refine ⟨_, rfl, _, _, rfl, rfl, _, rfl, R, _, rfl, .inl (SqL.of hR4), rfl, flat_iv _, ?_⟩
            have iq : inV (V.int (((j : Nat) : Int) - 1)) (rs.map iv) = decide (j - 1 ∈ rs) := by
              rw [ej]
              exact inV_nat _ _
            refine ⟨_, rfl, if_by (fun e3 => ?_) (fun e3 => ?_)⟩
            · have e3 : inV (V.int (((j : Nat) : Int) - 1)) (rs.map iv) = true := e3
              rw [iq] at e3
              have m3 := (rm (j - 1)).mp (of_decide_eq_true e3)
              have jl : j - 1 < ps.length := by omega
              obtain ⟨y, hy⟩ : ∃ y, ys[j - 1]? = some y := ⟨_, List.getElem?_eq_getElem (by omega)⟩
              obtain ⟨d, hdi, dp⟩ := dpAt' all hy
              rw [List.getElem?_map] at hdi
              obtain ⟨p, ep, rfl⟩ := Option.map_eq_some_iff.mp hdi
              obtain ⟨t, r, rfl, ht⟩ := pt_top dp
              refine ⟨_, rfl, _, rfl, _, _, rfl, rfl, b, _, _, _, rfl, rfl, s4.seq hb, (by show atI ys (((j : Nat) : Int) - 1) = _; rw [ej]; exact atI_nat hy), t, _, 0, _, rfl, rfl, sqT_same s4 ht, atI_nat (j := 0) rfl, rfl, _, rfl, ?_⟩
              rw [pt_lot, ← lot_get ep]
              refine if_by (fun e4 => ?_) (fun e4 => ?_)
              · have hB := brec.mpr (.inr ⟨j - 1, by omega, e4, m3.2⟩)
                exact ⟨_, rfl, .inl ⟨rfl, _, SqL.of hR4⟩, _, rfl, R, _, _, rfl, rfl, hR4, sz, put hB⟩
              · refine keep fun hB => ?_
                rcases brec.mp hB with h | ⟨r', e5, h5, _⟩
                · exact np ((pl3 j jq).mpr h)
                · rw [show r' = j - 1 by omega, e4] at h5
                  cases h5
            · have e3 : inV (V.int (((j : Nat) : Int) - 1)) (rs.map iv) = false := e3
              rw [iq] at e3
              have n3 := of_decide_eq_false e3
              refine if_no rfl (keep fun hB => ?_)
              rcases brec.mp hB with h | ⟨r', e5, h5, h6⟩
              · exact np ((pl3 j jq).mpr h)
              · exact n3 ((rm (j - 1)).mpr ⟨by omega, by rw [show j - 1 = r' by omega]; exact h6⟩)
          · have j0 : j = 0 := by
              have := of_decide_eq_false e2
              omega
            refine if_no rfl (keep fun hB => ?_)
            rcases brec.mp hB with h | ⟨r', e5, _⟩
            · exact np ((pl3 j jq).mpr h)
            · omega
      · obtain ⟨rs, v6, rfl, s4, hA4, hR4, rl, rm⟩ := e
        have lrs : rs.length ≤ 61 := by omega
        refine ⟨_, rfl, _, rfl, z, rfl, line_small (by omega), rfl, _, rfl, if_by (fun e1 => ?_) (fun e1 => ?_)⟩
        · have ei : i = (cs z).length := by
            have := V.int.inj (of_decide_eq_true e1)
            omega
          refine ⟨_, rfl, _, rfl, R, _, rfl, .inl (SqL.of hR4), rfl, flat_iv _, ?_⟩
          rw [if_neg (by decide : ¬ false = true), inV_nat]
          refine k G _ s4 ?_
          rw [decide_eq_true_iff, rm, ei, B_end]
          exact ⟨fun h => h.2, fun h => ⟨by omega, h⟩⟩
        · have ne : i ≠ (cs z).length := fun w => by
            have := of_decide_eq_false e1
            exact this (by rw [w, lzc])
          have il' : i < (cs z).length := by omega
          have hRq := fun (G1 : Hp) (s : Same G G1) => s _ _ hR4
          have at_ : ∀ (G1 : Hp), Same G G1 → ∀ q, q < ps.length → ∃ (t : Addr) (r : List V) (p : Pt), ps[q]? = some p ∧ atI ys ((q : Nat) : Int) = some (V.ref t) ∧ SqT K G1 t (V.str (ptW p) :: r) ∧ Dp K G1 (.ref t) p.d := fun G1 s q hq => by
            obtain ⟨y, hy⟩ : ∃ y, ys[q]? = some y := ⟨_, List.getElem?_eq_getElem (by omega)⟩
            obtain ⟨d, hdi, dp⟩ := dpAt' all hy
            rw [List.getElem?_map] at hdi
            obtain ⟨p, ep, rfl⟩ := Option.map_eq_some_iff.mp hdi
            obtain ⟨t, r, rfl, ht⟩ := pt_top dp
            exact ⟨t, r, p, ep, atI_nat hy, sqT_same (s4.trans s) ht, dp_same (s4.trans s) dp⟩
          have small : ∀ (l : List Nat), l.length ≤ 200 → (l.map iv).length < sizeLine := fun l h => by rw [List.length_map, sizeLine_eq]; omega
          refine ⟨_, rfl, R, rfl, ⟨_, SqL.of hR4⟩, fun D1 hD1 => ?_⟩
          refine lc_it (walk_list (K := K) (a := R) (xs := rs.map iv)) (fun j G1 => Same G G1 ∧ G1 D1 = some (.lst ((((rs.take j).filter fun q => decide (q < ps.length) && !lotAt ps q).map (· + 1)).map iv))) ⟨same_upd hD1, upd_same⟩ (fun j G1 _ e => SqL.of (e.1 _ _ hR4)) (fun j y H6 H7 hj e yy => ?_) (fun G1 e => ?_)
          · obtain ⟨s6, h6⟩ := e
            obtain ⟨rfl, hx⟩ := yy
            rw [List.getElem?_map] at hx
            obtain ⟨q, hq, rfl⟩ := Option.map_eq_some_iff.mp hx
            have no : (decide (q < ps.length) && !lotAt ps q) = false → Same G H7 ∧ H7 D1 = some (.lst ((((rs.take (j + 1)).filter fun q => decide (q < ps.length) && !lotAt ps q).map (· + 1)).map iv)) := fun w => by
              refine ⟨s6, ?_⟩
              rw [h6, take_snoc hq, List.filter_append]
              simp [w]
            refine ⟨rfl, _, rfl, _, rfl, _, _, rfl, rfl, _, rfl, if_by (fun e2 => ?_) (fun e2 => ?_)⟩
            · have ql : q < ps.length := by
                have := of_decide_eq_true e2
                omega
              obtain ⟨t, r, p, ep, ha, ht, _⟩ := at_ H7 s6 q ql
              refine ⟨_, rfl, _, rfl, b, _, _, _, rfl, rfl, s6.seq (s4.seq hb), ha, t, _, 0, _, rfl, rfl, ht, atI_nat (j := 0) rfl, rfl, _, rfl, ?_⟩
              rw [pt_lot, ← lot_get ep]
              refine if_by (fun e3 => ?_) (fun e3 => ?_)
              · refine ⟨_, rfl, _, _, rfl, rfl, _, h6, small _ ?_, same_upd2 s6 hD1, ?_⟩
                · rw [List.length_map]
                  have l1 := List.length_filter_le (fun q => decide (q < ps.length) && !lotAt ps q) (rs.take j)
                  have l2 := List.length_take_le' j rs
                  omega
                · rw [upd_same, take_snoc hq, List.filter_append, List.map_append, List.map_append]
                  have w : (decide (q < ps.length) && !lotAt ps q) = true := by rw [decide_eq_true ql, e3]; rfl
                  rw [show [q].filter (fun q => decide (q < ps.length) && !lotAt ps q) = [q] from by simp [w]]
                  rfl
              · exact no (by rw [e3, Bool.and_false])
            · refine if_no rfl (no ?_)
              have : ¬ q < ps.length := by
                have := of_decide_eq_false e2
                omega
              rw [decide_eq_false this, Bool.false_and]
          · obtain ⟨s6, h6⟩ := e
            rw [List.length_map, List.take_length] at h6
            have pm1 : ∀ q, q ∈ ((rs.filter fun q => decide (q < ps.length) && !lotAt ps q).map (· + 1)) ↔ ∃ r, q = r + 1 ∧ r < ps.length ∧ lotAt ps r = false ∧ Bq ps (cs z) i r := fun q => by
              rw [List.mem_map]
              constructor
              · rintro ⟨r, mr, rfl⟩
                obtain ⟨m1, m2⟩ := List.mem_filter.mp mr
                rw [Bool.and_eq_true, decide_eq_true_iff] at m2
                exact ⟨r, rfl, m2.1, by simpa using m2.2, ((rm r).mp m1).2⟩
              · rintro ⟨r, rfl, h1, h2, h3⟩
                exact ⟨r, List.mem_filter.mpr ⟨(rm r).mpr ⟨by omega, h3⟩, by rw [decide_eq_true h1, h2]; rfl⟩, rfl⟩
            have lp1 : ((rs.filter fun q => decide (q < ps.length) && !lotAt ps q).map (· + 1)).length ≤ 61 := by
              rw [List.length_map]
              have := List.length_filter_le (fun q => decide (q < ps.length) && !lotAt ps q) rs
              omega
            generalize (rs.filter fun q => decide (q < ps.length) && !lotAt ps q).map (· + 1) = p1 at h6 pm1 lp1
            have hc : (cs z)[i]? = some (cs z)[i] := List.getElem?_eq_getElem il'
            generalize hcc : (cs z)[i] = c at hc
            refine ⟨_, rfl, D1, rfl, ⟨_, SqL.of h6⟩, fun D2 hD2 => ?_⟩
            refine lc_it (walk_list (K := K) (a := D1) (xs := p1.map iv)) (fun j G2 => Same G1 G2 ∧ G2 D2 = some (.lst (((p1.take j).filter fun q => ((ps[q - 1]?).map fun p => p.takes c).getD false).map iv))) ⟨same_upd hD2, upd_same⟩ (fun j G2 _ e => SqL.of (e.1 _ _ h6)) (fun j y H6 H7 hj e yy => ?_) (fun G2 e => ?_)
            · obtain ⟨s7, h7⟩ := e
              obtain ⟨rfl, hx⟩ := yy
              rw [List.getElem?_map] at hx
              obtain ⟨q, hq, rfl⟩ := Option.map_eq_some_iff.mp hx
              obtain ⟨r, rq, rl', _, _⟩ := (pm1 q).mp (List.mem_of_getElem? hq)
              obtain ⟨t, r2, p, ep, ha, ht, dp⟩ := at_ H7 (s6.trans s7) r rl'
              have eq1 : (((q : Nat) : Int)) - 1 = ((r : Nat) : Int) := by omega
              have g2 : ((ps[q - 1]?).map fun p => p.takes c).getD false = p.takes c := by
                rw [show q - 1 = r by omega, ep]
                rfl
              refine ⟨rfl, _, rfl, _, rfl, _, _, rfl, rfl, b, _, _, _, rfl, rfl, s7.seq (s6.seq (s4.seq hb)), (by show atI ys (((q : Nat) : Int) - 1) = _; rw [eq1]; exact ha), _, rfl, _, rfl, z, _, c, rfl, rfl, line_small (by omega), atI_nat hc, .ref t, p, c, rfl, dp, few p (List.mem_of_getElem? ep), fun H8 s8 => ⟨_, rfl, if_by (fun e2 => ?_) (fun e2 => ?_)⟩⟩
              · refine ⟨_, rfl, _, s8 _ _ h7, small _ ?_, same_upd2 (s7.trans s8) hD2, ?_⟩
                · have l1 := List.length_filter_le (fun q => ((ps[q - 1]?).map fun p => p.takes c).getD false) (p1.take j)
                  have l2 := List.length_take_le' j p1
                  omega
                · rw [upd_same, take_snoc hq, List.filter_append, List.map_append]
                  rw [show [q].filter (fun q => ((ps[q - 1]?).map fun p => p.takes c).getD false) = [q] from by simp [g2, e2]]
                  rfl
              · refine ⟨s7.trans s8, ?_⟩
                rw [s8 _ _ h7, take_snoc hq, List.filter_append, List.map_append]
                rw [show [q].filter (fun q => ((ps[q - 1]?).map fun p => p.takes c).getD false) = [] from by simp [g2, e2]]
                rw [List.map_nil, List.append_nil]
            · obtain ⟨s7, h7⟩ := e
              rw [List.length_map, List.take_length] at h7
              have pm2 : ∀ q, q ∈ p1.filter (fun q => ((ps[q - 1]?).map fun p => p.takes c).getD false) ↔ ∃ r, q = r + 1 ∧ lotAt ps r = false ∧ (∃ h : r < ps.length, ∃ h2 : i < (cs z).length, ps[r].takes (cs z)[i] = true) ∧ Bq ps (cs z) i r := fun q => by
                rw [List.mem_filter, pm1]
                constructor
                · rintro ⟨⟨r, rfl, h1, h2, h3⟩, h4⟩
                  refine ⟨r, rfl, h2, ⟨h1, il', ?_⟩, h3⟩
                  rw [Nat.add_sub_cancel, List.getElem?_eq_getElem h1] at h4
                  rw [hcc]
                  exact h4
                · rintro ⟨r, rfl, h2, ⟨h1, _, h4⟩, h3⟩
                  refine ⟨⟨r, rfl, h1, h2, h3⟩, ?_⟩
                  rw [Nat.add_sub_cancel, List.getElem?_eq_getElem h1]
                  rw [hcc] at h4
                  exact h4
              have lp2 : (p1.filter fun q => ((ps[q - 1]?).map fun p => p.takes c).getD false).length ≤ 61 := Nat.le_trans (List.length_filter_le _ _) lp1
              generalize p1.filter (fun q => ((ps[q - 1]?).map fun p => p.takes c).getD false) = p2 at h7 pm2 lp2
              refine ⟨_, rfl, _, rfl, R, rfl, ⟨_, SqL.of (s7 _ _ (s6 _ _ hR4))⟩, fun D3 hD3 => ?_⟩
              refine lc_it (walk_list (K := K) (a := R) (xs := rs.map iv)) (fun j G3 => Same G2 G3 ∧ G3 D3 = some (.lst (((rs.take j).filter fun q => lotAt ps q).map iv))) ⟨same_upd hD3, upd_same⟩ (fun j G3 _ e => SqL.of (e.1 _ _ (s7 _ _ (s6 _ _ hR4)))) (fun j y H6 H7 hj e yy => ?_) (fun G3 e => ?_)
              · obtain ⟨s8, h8⟩ := e
                obtain ⟨rfl, hx⟩ := yy
                rw [List.getElem?_map] at hx
                obtain ⟨q, hq, rfl⟩ := Option.map_eq_some_iff.mp hx
                have no : lotAt ps q = false → Same G2 H7 ∧ H7 D3 = some (.lst (((rs.take (j + 1)).filter fun q => lotAt ps q).map iv)) := fun w => by
                  refine ⟨s8, ?_⟩
                  rw [h8, take_snoc hq, List.filter_append]
                  simp [w]
                refine ⟨rfl, _, rfl, _, rfl, _, _, rfl, rfl, _, rfl, if_by (fun e2 => ?_) (fun e2 => ?_)⟩
                · have ql : q < ps.length := by
                    have := of_decide_eq_true e2
                    omega
                  obtain ⟨t, r, p, ep, ha, ht, _⟩ := at_ H7 ((s6.trans s7).trans s8) q ql
                  refine ⟨_, rfl, _, rfl, b, _, _, _, rfl, rfl, s8.seq (s7.seq (s6.seq (s4.seq hb))), ha, t, _, 0, _, rfl, rfl, ht, atI_nat (j := 0) rfl, rfl, _, rfl, ?_⟩
                  rw [pt_lot, ← lot_get ep]
                  refine if_by (fun e3 => ?_) (fun e3 => no e3)
                  refine ⟨_, rfl, _, h8, small _ ?_, same_upd2 s8 hD3, ?_⟩
                  · have l1 := List.length_filter_le (fun q => lotAt ps q) (rs.take j)
                    have l2 := List.length_take_le' j rs
                    omega
                  · rw [upd_same, take_snoc hq, List.filter_append, List.map_append]
                    rw [show [q].filter (fun q => lotAt ps q) = [q] from by simp [e3]]
                    rfl
                · refine if_no rfl (no ?_)
                  cases w : lotAt ps q with
                  | false => rfl
                  | true =>
                    have := lotAt_lt w
                    have := of_decide_eq_false e2
                    omega
              · obtain ⟨s8, h8⟩ := e
                rw [List.length_map, List.take_length] at h8
                have l3 := List.length_filter_le (fun q => lotAt ps q) rs
                refine ⟨D2, D3, _, _, rfl, rfl, s8 _ _ h7, h8, by rw [List.length_map, List.length_map, sizeLine_eq]; omega, fun T nT => ?_⟩
                have sG := (((s4.trans s6).trans s7).trans s8).trans (same_upd (o := .lst (p2.map iv ++ (rs.filter fun q => lotAt ps q).map iv)) nT)
                refine ⟨T, p2 ++ rs.filter (fun q => lotAt ps q), _, _, _, rfl, sG, by rw [upd_same, List.map_append], by rw [List.length_append]; omega, fun q m => ?_, fun q hq => ?_, by omega⟩
                · rcases List.mem_append.mp m with m | m
                  · obtain ⟨r, rfl, _, ⟨h1, _⟩, _⟩ := (pm2 q).mp m
                    omega
                  · have := lotAt_lt (List.mem_filter.mp m).2
                    omega
                · rw [List.mem_append, pm2, List.mem_filter, rm]
                  unfold Plq
                  constructor
                  · rintro (⟨r, e1, e2, e3, e4⟩ | ⟨⟨_, h1⟩, h2⟩)
                    · exact .inr (.inl ⟨r, i, e1, rfl, e2, e3, e4⟩)
                    · exact .inr (.inr ⟨i, rfl, h2, h1⟩)
                  · rintro (⟨_, h⟩ | ⟨r, j, e1, e2, e3, e4, e5⟩ | ⟨j, e1, e2, e3⟩)
                    · cases h
                    · obtain rfl : i = j := by omega
                      exact .inl ⟨r, e1, e3, e4, e5⟩
                    · obtain rfl : i = j := by omega
                      exact .inr ⟨⟨by omega, e3⟩, e2⟩
    · obtain ⟨_, _, _, _, _, _, _, _, _, _, _, il⟩ := e
      omega
end
end Qb
end PySem
namespace PySem
namespace Qb
open PySem.W PySem.Calls PyProof.Rows L2
/-! # what a filter writes, as the law works it out -/
def fltW : Flt → Str
  | .pat b _ => patW b
  | .num b _ => numW b
  | .word x => x
  | .swap _ => "swap"
noncomputable def fnd (xs : List Str) : Flt → Nat → List Str
  | .pat b ps, i => (xs.take i).filter fun z => mB ps z == b
  | .swap ms, i => (xs.take i).map (swF ms)
  | .num true n, i => xs.take (min i n)
  | .num false n, i => (xs.take i).drop (xs.length - n)
  | .word w, i => if w = "number" then numT' xs i else if w = "once" then onceT xs i else xs.take i
theorem fnd_len (xs : List Str) (f : Flt) (i : Nat) : (fnd xs f i).length ≤ i := by
  cases f with
  | pat b ps =>
    have l1 := List.length_filter_le (fun z => mB ps z == b) (xs.take i)
    have l2 := List.length_take_le i xs
    exact Nat.le_trans l1 l2
  | swap ms =>
    show ((xs.take i).map (swF ms)).length ≤ i
    rw [List.length_map]
    exact List.length_take_le i xs
  | num b n =>
    cases b
    · show ((xs.take i).drop (xs.length - n)).length ≤ i
      have l2 := List.length_take_le i xs
      rw [List.length_drop]
      omega
    · show (xs.take (min i n)).length ≤ i
      have l2 := List.length_take_le (min i n) xs
      omega
  | word w =>
    show (if _ then _ else if _ then _ else _ : List Str).length ≤ i
    split
    · rw [numT_len]
      omega
    · split
      · exact onceT_len xs i
      · exact List.length_take_le i xs
theorem ne_str {a b : Str} (h : decide (a = b) = false) : decide (V.str a = V.str b) = false := by
  rw [dec_str]
  exact h
theorem ne_not {a b : Str} (h : decide (a = b) = false) : (!decide (V.str a = V.str b)) = true := by
  rw [ne_str h]
  rfl
theorem fnd_word (xs : List Str) (w : Str) (i : Nat) : fnd xs (.word w) i = if w = "number" then numT' xs i else if w = "once" then onceT xs i else xs.take i := rfl
theorem fnd_order (xs : List Str) (i : Nat) : fnd xs (.word "order") i = xs.take i := by rw [fnd_word, if_neg (by decide +kernel), if_neg (by decide +kernel)]
theorem fnd_count (xs : List Str) (i : Nat) : fnd xs (.word "count") i = xs.take i := by rw [fnd_word, if_neg (by decide +kernel), if_neg (by decide +kernel)]
theorem fnd_once (xs : List Str) (i : Nat) : fnd xs (.word "once") i = onceT xs i := by rw [fnd_word, if_neg (by decide +kernel), if_pos rfl]
theorem fnd_number (xs : List Str) (i : Nat) : fnd xs (.word "number") i = numT' xs i := by rw [fnd_word, if_pos rfl]
theorem fltR_word (xs zs : List Str) (w : Str) : FltR xs zs (.word w) = (if w = "order" then zs.Perm xs ∧ sortedS zs = true else if w = "once" then zs = onceT xs xs.length else if w = "count" then zs = [natS xs.length] else zs = numT' xs xs.length) := rfl
theorem eq_str (a : Str) : decide (V.str a = V.str a) = true := decide_eq_true rfl
theorem fltTop {K : Frag} {H : Hp} : ∀ {f : Flt} {v : V}, FltAt K H v f → ∃ t r, v = .ref t ∧ SqT K H t (V.str (fltW f) :: r)
  | .pat b x, v, ⟨t, r, e, h, _⟩ => ⟨t, _, e, h⟩
  | .num b x, v, ⟨t, e, h⟩ => ⟨t, _, e, h⟩
  | .word x, v, ⟨t, e, h⟩ => ⟨t, _, e, h⟩
  | .swap x, v, ⟨t, r, ts, e, h, _⟩ => ⟨t, _, e, h⟩
def spPd (K : Frag) : Sp := spFl K
def spWr (K : Frag) : Sp := fun vs H Q _ => ∃ (v : V) (fs : List Flt) (a : Addr) (xs : List Str), vs = [v, .ref a] ∧ Dp K H v (.list (fs.map Flt.d)) ∧ (∀ f ∈ fs, FltOk f) ∧ fs.length ≤ 1 ∧ SqL K H a (xs.map V.str) ∧ LiOk xs ∧ ∀ H' p zs, Same H H' → SqL K H' p (zs.map V.str) → RowR xs zs fs → zs.length ≤ 501 → (∀ z ∈ zs, z.length ≤ 506) → Q (.ref p) H'
section
variable {P : Program} {w : World} {K : Frag} {mg : Str → Option Value} {base : Heap}
abbrev sPd : Stmt := top 45
abbrev nPd : List Str := ["_law_entry_here", "_law_lines_here", "_law_kind", "_law_found", "_law_k", "_law_line_here"]
theorem scPd : FnScope nPd ["_law_entry_here", "_law_lines_here"] (defScope sPd) := ⟨rfl, rfl, rfl, by decide +kernel, rfl, by decide +kernel, by decide +kernel⟩
theorem has_Pd {f : Addr} {fd : FuncData}  (F : Fun K "_law_passed" "_law_passed" sPd f fd) (g : mg "_law_passed" = some (.ref f)) (B : Blt mg) (Z : BltZ mg) (hSd2 : Has P w K mg base 1 "_law_swapped" ["_law_line_here", "_law_pairs_here"] (spSd2 K)) (hMe : Has P w K mg base 2 "_law_meets" ["_law_pattern_here", "_law_text"] (spLm K)) :
    Has P w K mg base 3 "_law_passed" ["_law_entry_here", "_law_lines_here"] (spPd K) := by
  obtain ⟨fSd2, dSd2, gSd2, kSd2, bSd2, GSd2⟩ := hSd2
  obtain ⟨fMe, dMe, gMe, kMe, bMe, GMe⟩ := hMe
  refine has_of F g (F.binds (ps := ["_law_entry_here", "_law_lines_here"]) fun _ _ _ _ _ _ us hl => match us, hl with | [_, _], _ => rfl) (F.ok scPd (fun vs H Q E h => ?_) (fun cdv A outer s H vs Q E hr h => ?_))
  · obtain ⟨v, f, a, xs, rfl, _⟩ := h
    rfl
  · refine ⟨_, (pss_cons (ps_set (i := 2) scPd.nd rfl (.inl rfl) (pe_ix ix_tup (pv 0) pe_int (fun _ _ => rfl)))
        (pss_cons (ps_set (i := 3) scPd.nd rfl (.inl rfl) (pe_lst pa_nil))
        (pss_cons (ps_for PassesOwn.never rfl (pi_range1 (by rfl) B.range (pa_cons (pe_callB call_len_seq (by rfl) B.len PySem.boot_len (pa_cons (pv 1) pa_nil)) pa_nil)) (pg_name (i := 4) scPd.nd rfl (.inl rfl))
          (pss_cons (ps_set (i := 5) scPd.nd rfl (.inl rfl) (pe_ix ix_list (pv 1) (pv 4) (fun _ _ => rfl)))
          (pss_one (ps_if (pt_cmpR op_eq (pv 2) pe_str (nomark _)) (pss_one (ps_expr (pe_bm PySem.F.plainAttrs_list PySem.F.slot_list_append PySem.F.type_list_append mt_append (pv 3) (pa_cons (pe_call GSd2 (hr.mono (by decide)) rfl gSd2 kSd2 bSd2 .nil pass0 (pa_cons (pv 5) (pa_cons (pe_ix ix_tup (pv 0) pe_int (fun _ _ => rfl)) pa_nil))) pa_nil)))) (pss_one (ps_if (pt_cmpR op_eq (pv 2) pe_str (nomark _)) (pss_one (ps_expr (pe_bm PySem.F.plainAttrs_list PySem.F.slot_list_append PySem.F.type_list_append mt_append (pv 3) (pa_cons (pe_op op_add_str (pe_op op_add_str (pe_callTy call_str_int (by rfl) B.str (by decide +kernel) (pa_cons (pe_op op_add (pv 4) pe_int) pa_nil)) pe_str) (pv 5)) pa_nil)))) (pss_one (ps_if (PW.pt (pw_or (pt_cmpR op_eq (pv 2) pe_str (nomark _)) (pw_or1 (pt_cmpR op_eq (pv 2) pe_str (nomark _))))) (pss_one (ps_if (pt_cmpR op_eq (pe_call GMe hr rfl gMe kMe bMe .nil pass0 (pa_cons (pe_ix ix_tup (pv 0) pe_int (fun _ _ => rfl)) (pa_cons (pv 5) pa_nil))) (pe_cmpR op_eq (pv 2) pe_str (nomark _)) (nomark _)) (pss_one (ps_expr (pe_bm PySem.F.plainAttrs_list PySem.F.slot_list_append PySem.F.type_list_append mt_append (pv 3) (pa_cons (pv 5) pa_nil)))) pss_nil)) (pss_one (ps_if (pt_cmpR op_eq (pv 2) pe_str (nomark _)) (pss_one (ps_if (pt_cmpR op_lt (pv 4) (pe_ix ix_tup (pv 0) pe_int (fun _ _ => rfl)) (nomark _)) (pss_one (ps_expr (pe_bm PySem.F.plainAttrs_list PySem.F.slot_list_append PySem.F.type_list_append mt_append (pv 3) (pa_cons (pv 5) pa_nil)))) pss_nil)) (pss_one (ps_if (pt_cmpR op_eq (pv 2) pe_str (nomark _)) (pss_one (ps_if (pt_cmpR op_ge (pv 4) (pe_op op_sub (pe_callB call_len_seq (by rfl) B.len PySem.boot_len (pa_cons (pv 1) pa_nil)) (pe_ix ix_tup (pv 0) pe_int (fun _ _ => rfl))) (nomark _)) (pss_one (ps_expr (pe_bm PySem.F.plainAttrs_list PySem.F.slot_list_append PySem.F.type_list_append mt_append (pv 3) (pa_cons (pv 5) pa_nil)))) pss_nil)) (pss_one (ps_if (PW.pt (pw_or (pt_cmpR op_ne (pv 2) pe_str (nomark _)) (pw_or (pt_cmpR op_eq (pv 4) pe_int (nomark _)) (pw_or1 (pt_cmpR op_ne (pe_ix ix_list (pv 1) (pe_op op_sub (pv 4) pe_int) (fun _ _ => rfl)) (pv 5) (nomark _)))))) (pss_one (ps_expr (pe_bm PySem.F.plainAttrs_list PySem.F.slot_list_append PySem.F.type_list_append mt_append (pv 3) (pa_cons (pv 5) pa_nil)))) pss_nil))))))))))))))
        (pss_cons (ps_if (pt_cmpR op_eq (pv 2) pe_str (nomark _)) (pss_one (ps_ret (pe_callB cr_sortedTx (by rfl) Z.sorted (by decide +kernel) (pa_cons (pv 3) pa_nil)))) pss_nil)
        (pss_cons (ps_if (pt_cmpR op_eq (pv 2) pe_str (nomark _)) (pss_one (ps_ret (pe_lst (pa_cons (pe_callTy call_str_int (by rfl) B.str (by decide +kernel) (pa_cons (pe_callB call_len_seq (by rfl) B.len PySem.boot_len (pa_cons (pv 1) pa_nil)) pa_nil)) pa_nil)))) pss_nil)
        (pss_one (ps_ret (pv 3)))))))), ?_⟩
    obtain ⟨v, f, a, xs, rfl, hd, ok, hl, lk, k⟩ := h
    have hf := FltAt.of hd
    obtain ⟨t, r, rfl, ht⟩ := fltTop hf
    have lx := lk.2.1
    refine ⟨_, rfl, t, _, 0, _, rfl, rfl, ht, atI_nat (j := 0) rfl, ?_⟩
    refine ⟨(by decide : 0 ≤ sizeLine), fun R nR => ?_⟩
    have sR := same_upd (o := .lst []) nR
    have hR0 : (L2.upd H R (.lst [])) R = some (.lst ((fnd xs f 0).map V.str)) := by
      rw [upd_same]
      cases f with
      | num b n => cases b <;> simp [fnd]
      | word w =>
        show _ = some (HO.lst (List.map V.str (if _ then _ else if _ then _ else _)))
        split
        · rfl
        · split <;> rfl
      | _ => rfl
    generalize L2.upd H R (.lst []) = H0 at sR hR0 ⊢
    refine ⟨_, rfl, a, _, rfl, .inl (sR.seq hl), ?_⟩
    rw [List.length_map]
    refine ⟨_, rfl, by omega, by omega, for_it (walk_range (lo := 0) (n := xs.length)) (fun i σ G => (∃ v4 v5, σ = [some (.ref t), some (.ref a), some (.str (fltW f)), some (.ref R), v4, v5]) ∧ Same H G ∧ G R = some (.lst ((fnd xs f i).map V.str))) ⟨⟨none, none, rfl⟩, sR, hR0⟩ (fun _ _ _ _ _ => trivial) (fun i v σ H1 H2 hi e yy => ?_) (fun σ G e => ?_)⟩
    · obtain ⟨⟨v4, v5, rfl⟩, s1, hR⟩ := e
      obtain ⟨rfl, ev⟩ := yy
      have ev : v = iv i := by
        rw [ev]
        show V.int (0 + _) = _
        rw [Int.zero_add]
      subst ev
      have hx : xs[i]? = some xs[i] := List.getElem?_eq_getElem hi
      have gx : xs.getD i "" = xs[i] := by rw [List.getD_eq_getElem?_getD, hx]; rfl
      have okx := lk.2.2 xs[i] (List.getElem_mem _)
      have tk : xs.take (i + 1) = xs.take i ++ [xs[i]] := take_snoc hx
      generalize xs[i] = x at hx gx okx tk
      have at_ : atI (xs.map V.str) ((i : Nat) : Int) = some (V.str x) := atI_nat (by rw [List.getElem?_map, hx]; rfl)
      have fl := fnd_len xs f i
      have sz : ((fnd xs f i).map V.str).length < sizeLine := by rw [List.length_map, sizeLine_eq]; omega
      have ht1 := sqT_same s1 ht
      have hl1 := s1.seq hl
      have hd1 := dp_same s1 hd
      refine ⟨_, rfl, _, rfl, a, _, _, _, rfl, rfl, hl1, at_, ?_⟩
      have put : ∀ (G : Hp) (y : Str), Same H2 G → fnd xs f (i + 1) = fnd xs f i ++ [y] → (∃ v4 v5, [some (V.ref t), some (.ref a), some (.str (fltW f)), some (.ref R), some (iv i), some (V.str x)] = [some (V.ref t), some (.ref a), some (.str (fltW f)), some (.ref R), v4, v5]) ∧ Same H (L2.upd G R (.lst ((fnd xs f i).map V.str ++ [.str y]))) ∧ (L2.upd G R (.lst ((fnd xs f i).map V.str ++ [.str y]))) R = some (.lst ((fnd xs f (i + 1)).map V.str)) := fun G y s e =>
        ⟨⟨_, _, rfl⟩, same_upd2 (s1.trans s) nR, by rw [upd_same, e, List.map_append]; rfl⟩
      have keep : ∀ G, Same H2 G → fnd xs f (i + 1) = fnd xs f i → (∃ v4 v5, [some (V.ref t), some (.ref a), some (.str (fltW f)), some (.ref R), some (iv i), some (V.str x)] = [some (V.ref t), some (.ref a), some (.str (fltW f)), some (.ref R), v4, v5]) ∧ Same H G ∧ G R = some (.lst ((fnd xs f (i + 1)).map V.str)) := fun G s e =>
        ⟨⟨_, _, rfl⟩, s1.trans s, by rw [e]; exact s _ _ hR⟩
      have hf1 := FltAt.of hd1
      clear hd hf hd1
      cases f with
      | swap ms =>
        obtain ⟨t', r', ts, e, ht', hr', pr⟩ := hf1
        obtain rfl := V.ref.inj e
        refine ⟨_, rfl, rfl, _, rfl, if_yes (eq_str "swap") ⟨_, rfl, .inl ⟨rfl, _, SqL.of hR⟩, _, rfl, _, rfl, t, _, 1, _, rfl, rfl, ht', rfl, x, .ref r', ms, rfl, by omega, .lst hr' (pr_dps pr), ok.2.2.1, ok.1, fun H5 s5 => ⟨R, _, _, rfl, rfl, s5 _ _ hR, sz, put H5 _ s5 ?_⟩⟩⟩
        show (xs.take (i + 1)).map (swF ms) = (xs.take i).map (swF ms) ++ [swF ms x]
        rw [tk, List.map_append]
        rfl
      | pat b ps =>
        obtain ⟨t', r', e, ht', hp⟩ := hf1
        obtain rfl := V.ref.inj e
        have pre : decide (V.str (patW b) = V.str "swap") = false ∧ decide (V.str (patW b) = V.str "number") = false := by
          cases b
          · exact ⟨ne_str (a := "drop") (by decide +kernel), ne_str (a := "drop") (by decide +kernel)⟩
          · exact ⟨ne_str (a := "keep") (by decide +kernel), ne_str (a := "keep") (by decide +kernel)⟩
        have ek : decide (V.str (patW b) = V.str "keep") = b := by
          cases b
          · exact ne_str (a := "drop") (by decide +kernel)
          · exact eq_str "keep"
        have test : ∀ H5 bb, Same H2 H5 → (bb = true ↔ M ps (cs x)) → decide (V.bl bb = V.bl (decide (V.str (patW b) = V.str "keep"))) = (mB ps x == b) := fun H5 bb _ h => by
          have e1 : bb = mB ps x := Bool.eq_iff_iff.mpr (h.trans (mB_iff _ _).symm)
          rw [ek, e1]
          cases mB ps x <;> cases b <;> decide
        have yes : (mB ps x == b) = true → fnd xs (.pat b ps) (i + 1) = fnd xs (.pat b ps) i ++ [x] := fun w => by
          show (xs.take (i + 1)).filter _ = (xs.take i).filter _ ++ [x]
          rw [tk, List.filter_append]
          simp [w]
        have no : (mB ps x == b) = false → fnd xs (.pat b ps) (i + 1) = fnd xs (.pat b ps) i := fun w => by
          show (xs.take (i + 1)).filter _ = (xs.take i).filter _
          rw [tk, List.filter_append]
          simp [w]
        refine ⟨_, rfl, rfl, _, rfl, if_no pre.1 ⟨_, rfl, rfl, _, rfl, if_no pre.2 ⟨_, rfl, rfl, _, rfl, ?_⟩⟩⟩
        cases b with
        | true =>
          refine if_yes ek (if_yes rfl ?_)
          refine ⟨_, rfl, t, _, 1, _, rfl, rfl, ht', rfl, _, rfl, .ref r', ps, x, rfl, hp, by have := ok.1; omega, fun q m => (ok.2 q m).2, by omega, fun H5 bb s5 hbb => ⟨_, rfl, rfl, rfl, _, rfl, ?_⟩⟩
          refine if_by (fun w => ?_) (fun w => ?_)
          · exact ⟨_, rfl, .inl ⟨rfl, _, SqL.of (s5 _ _ hR)⟩, _, rfl, R, _, _, rfl, rfl, s5 _ _ hR, sz, put H5 x s5 (yes (by rw [← test H5 bb s5 hbb]; exact w))⟩
          · exact keep H5 s5 (no (by rw [← test H5 bb s5 hbb]; exact w))
        | false =>
          refine if_no ek ⟨_, rfl, rfl, _, rfl, if_yes (eq_str "drop") ?_⟩
          refine ⟨_, rfl, t, _, 1, _, rfl, rfl, ht', rfl, _, rfl, .ref r', ps, x, rfl, hp, by have := ok.1; omega, fun q m => (ok.2 q m).2, by omega, fun H5 bb s5 hbb => ⟨_, rfl, rfl, rfl, _, rfl, ?_⟩⟩
          refine if_by (fun w => ?_) (fun w => ?_)
          · exact ⟨_, rfl, .inl ⟨rfl, _, SqL.of (s5 _ _ hR)⟩, _, rfl, R, _, _, rfl, rfl, s5 _ _ hR, sz, put H5 x s5 (yes (by rw [← test H5 bb s5 hbb]; exact w))⟩
          · exact keep H5 s5 (no (by rw [← test H5 bb s5 hbb]; exact w))
      | num b n =>
        obtain ⟨t', e, ht'⟩ := hf1
        obtain rfl := V.ref.inj e
        cases b with
        | true =>
          refine ⟨_, rfl, rfl, _, rfl, if_no (ne_str (a := "first") (by decide +kernel)) ⟨_, rfl, rfl, _, rfl, if_no (ne_str (a := "first") (by decide +kernel)) ⟨_, rfl, rfl, _, rfl, if_no (ne_str (a := "first") (by decide +kernel)) ⟨_, rfl, rfl, _, rfl, if_no (ne_str (a := "first") (by decide +kernel)) ⟨_, rfl, rfl, _, rfl, if_yes (eq_str "first") ?_⟩⟩⟩⟩⟩
          refine ⟨_, rfl, _, rfl, t, _, 1, _, rfl, rfl, ht', rfl, _, _, rfl, rfl, _, rfl, if_by (fun w => ?_) (fun w => ?_)⟩
          · have w := of_decide_eq_true w
            refine ⟨_, rfl, .inl ⟨rfl, _, SqL.of hR⟩, _, rfl, R, _, _, rfl, rfl, hR, sz, put H2 x (Same.refl _) ?_⟩
            show xs.take (min (i + 1) n) = xs.take (min i n) ++ [x]
            rw [show min (i + 1) n = i + 1 by omega, show min i n = i by omega, tk]
          · have w := of_decide_eq_false w
            refine keep H2 (Same.refl _) ?_
            show xs.take (min (i + 1) n) = xs.take (min i n)
            rw [show min (i + 1) n = min i n by omega]
        | false =>
          refine ⟨_, rfl, rfl, _, rfl, if_no (ne_str (a := "last") (by decide +kernel)) ⟨_, rfl, rfl, _, rfl, if_no (ne_str (a := "last") (by decide +kernel)) ⟨_, rfl, rfl, _, rfl, if_no (ne_str (a := "last") (by decide +kernel)) ⟨_, rfl, rfl, _, rfl, if_no (ne_str (a := "last") (by decide +kernel)) ⟨_, rfl, rfl, _, rfl, if_no (ne_str (a := "last") (by decide +kernel)) ⟨_, rfl, rfl, _, rfl, if_yes (eq_str "last") ?_⟩⟩⟩⟩⟩⟩
          refine ⟨_, rfl, _, rfl, a, _, rfl, .inl hl1, _, rfl, t, _, 1, _, rfl, rfl, ht', rfl, _, _, rfl, rfl, _, _, rfl, rfl, _, rfl, ?_⟩
          rw [List.length_map]
          refine if_by (fun w => ?_) (fun w => ?_)
          · have w := of_decide_eq_true w
            refine ⟨_, rfl, .inl ⟨rfl, _, SqL.of hR⟩, _, rfl, R, _, _, rfl, rfl, hR, sz, put H2 x (Same.refl _) ?_⟩
            show (xs.take (i + 1)).drop (xs.length - n) = (xs.take i).drop (xs.length - n) ++ [x]
            rw [tk, List.drop_append_of_le_length (by rw [List.length_take]; omega)]
          · have w := of_decide_eq_false w
            refine keep H2 (Same.refl _) ?_
            show (xs.take (i + 1)).drop (xs.length - n) = (xs.take i).drop (xs.length - n)
            rw [List.drop_of_length_le (by rw [List.length_take]; omega), List.drop_of_length_le (by rw [List.length_take]; omega)]
      | word w =>
        have ok : isWord w := ok
        unfold isWord at ok
        rcases ok with rfl | rfl | rfl | rfl
        · refine ⟨_, rfl, rfl, _, rfl, if_no (ne_str (a := "order") (by decide +kernel)) ⟨_, rfl, rfl, _, rfl, if_no (ne_str (a := "order") (by decide +kernel)) ⟨_, rfl, rfl, _, rfl, if_no (ne_str (a := "order") (by decide +kernel)) ⟨_, rfl, rfl, _, rfl, if_no (ne_str (a := "order") (by decide +kernel)) ⟨_, rfl, rfl, _, rfl, if_no (ne_str (a := "order") (by decide +kernel)) ⟨_, rfl, rfl, _, rfl, if_no (ne_str (a := "order") (by decide +kernel)) ?_⟩⟩⟩⟩⟩⟩
          refine ⟨_, rfl, rfl, _, rfl, if_yes (ne_not (a := "order") (by decide +kernel)) (if_yes rfl ?_)⟩
          refine ⟨_, rfl, .inl ⟨rfl, _, SqL.of hR⟩, _, rfl, R, _, _, rfl, rfl, hR, sz, put H2 x (Same.refl _) ?_⟩
          rw [fnd_order, fnd_order, tk]
        · have yes : isNew xs i = true → fnd xs (.word "once") (i + 1) = fnd xs (.word "once") i ++ [x] := fun w => by
            rw [fnd_once, fnd_once, onceT, if_pos w, gx]
          have no : isNew xs i = false → fnd xs (.word "once") (i + 1) = fnd xs (.word "once") i := fun w => by
            rw [fnd_once, fnd_once, onceT, if_neg (by rw [w]; decide), List.append_nil]
          refine ⟨_, rfl, rfl, _, rfl, if_no (ne_str (a := "once") (by decide +kernel)) ⟨_, rfl, rfl, _, rfl, if_no (ne_str (a := "once") (by decide +kernel)) ⟨_, rfl, rfl, _, rfl, if_no (ne_str (a := "once") (by decide +kernel)) ⟨_, rfl, rfl, _, rfl, if_no (ne_str (a := "once") (by decide +kernel)) ⟨_, rfl, rfl, _, rfl, if_no (ne_str (a := "once") (by decide +kernel)) ⟨_, rfl, rfl, _, rfl, if_no (ne_str (a := "once") (by decide +kernel)) ?_⟩⟩⟩⟩⟩⟩
          refine ⟨_, rfl, rfl, _, rfl, if_no (by show (!decide (V.str ("once" : Str) = V.str "once")) = false; rw [eq_str]; rfl) ⟨_, rfl, rfl, _, rfl, if_by (fun w => ?_) (fun w => ?_)⟩⟩
          · have i0 : i = 0 := by
              have := V.int.inj (of_decide_eq_true w)
              omega
            refine if_yes rfl ⟨_, rfl, .inl ⟨rfl, _, SqL.of hR⟩, _, rfl, R, _, _, rfl, rfl, hR, sz, put H2 x (Same.refl _) (yes ?_)⟩
            unfold isNew
            rw [i0]
            rfl
          · have i0 : i ≠ 0 := fun z => by
              have y := of_decide_eq_false w
              exact y (by rw [z]; rfl)
            have hp : xs[i - 1]? = some (xs.getD (i - 1) "") := by
              rw [List.getD_eq_getElem?_getD, List.getElem?_eq_getElem (by omega)]
              rfl
            refine ⟨_, rfl, _, rfl, _, _, rfl, rfl, a, _, _, V.str (xs.getD (i - 1) ""), rfl, rfl, hl1, ?_, _, rfl, rfl, _, rfl, ?_⟩
            · show atI (xs.map V.str) (((i : Nat) : Int) - 1) = _
              rw [show ((i : Nat) : Int) - 1 = (((i - 1 : Nat) : Nat) : Int) by omega]
              refine atI_nat ?_
              rw [List.getElem?_map, hp]
              rfl
            · have en : isNew xs i = !decide (V.str (xs.getD (i - 1) "") = V.str x) := by
                unfold isNew
                rw [decide_eq_false i0, Bool.false_or, dec_str, gx]
              rw [← en]
              exact if_by (fun e1 => ⟨_, rfl, .inl ⟨rfl, _, SqL.of hR⟩, _, rfl, R, _, _, rfl, rfl, hR, sz, put H2 x (Same.refl _) (yes e1)⟩) (fun e1 => keep H2 (Same.refl _) (no e1))
        · refine ⟨_, rfl, rfl, _, rfl, if_no (ne_str (a := "count") (by decide +kernel)) ⟨_, rfl, rfl, _, rfl, if_no (ne_str (a := "count") (by decide +kernel)) ⟨_, rfl, rfl, _, rfl, if_no (ne_str (a := "count") (by decide +kernel)) ⟨_, rfl, rfl, _, rfl, if_no (ne_str (a := "count") (by decide +kernel)) ⟨_, rfl, rfl, _, rfl, if_no (ne_str (a := "count") (by decide +kernel)) ⟨_, rfl, rfl, _, rfl, if_no (ne_str (a := "count") (by decide +kernel)) ?_⟩⟩⟩⟩⟩⟩
          refine ⟨_, rfl, rfl, _, rfl, if_yes (ne_not (a := "count") (by decide +kernel)) (if_yes rfl ?_)⟩
          refine ⟨_, rfl, .inl ⟨rfl, _, SqL.of hR⟩, _, rfl, R, _, _, rfl, rfl, hR, sz, put H2 x (Same.refl _) ?_⟩
          rw [fnd_count, fnd_count, tk]
        · refine ⟨_, rfl, rfl, _, rfl, if_no (ne_str (a := "number") (by decide +kernel)) ⟨_, rfl, rfl, _, rfl, if_yes (eq_str "number") ?_⟩⟩
          have e1 : (Str.ofString (toString (((i : Nat) : Int) + 1))).length ≤ 5 := by
            have := natS_len (n := i + 1) (by omega)
            unfold natS at this
            rw [show (((i + 1 : Nat) : Nat) : Int) = ((i : Nat) : Int) + 1 by omega] at this
            exact this
          refine ⟨_, rfl, .inl ⟨rfl, _, SqL.of hR⟩, _, rfl, _, _, rfl, rfl, _, rfl, log_few (n := i + 1) (by omega), _, _, rfl, rfl, ?_, _, rfl, _, _, rfl, rfl, ?_, R, _, _, rfl, rfl, hR, sz, put H2 (natS (i + 1) ++ " " ++ x) (Same.refl _) ?_⟩
          · rw [sizeLine_eq, show ((" " : Str)).length = 1 from by decide +kernel]
            omega
          · rw [sizeLine_eq, la_str, show ((" " : Str)).length = 1 from by decide +kernel]
            omega
          · rw [fnd_number, fnd_number, numT', gx]
    · obtain ⟨⟨v4, v5, rfl⟩, s1, hR⟩ := e
      cases f with
      | pat b ps =>
        have w1 : decide (V.str (patW b) = V.str "order") = false ∧ decide (V.str (patW b) = V.str "count") = false := by
          cases b
          · exact ⟨ne_str (a := "drop") (by decide +kernel), ne_str (a := "drop") (by decide +kernel)⟩
          · exact ⟨ne_str (a := "keep") (by decide +kernel), ne_str (a := "keep") (by decide +kernel)⟩
        refine ⟨_, rfl, rfl, _, rfl, if_no w1.1 ⟨_, rfl, rfl, _, rfl, if_no w1.2 ⟨_, rfl, k G R _ s1 nR hR ?_⟩⟩⟩
        show (xs.take xs.length).filter _ = xs.filter _
        rw [List.take_length]
      | swap ms =>
        refine ⟨_, rfl, rfl, _, rfl, if_no (ne_str (a := "swap") (by decide +kernel)) ⟨_, rfl, rfl, _, rfl, if_no (ne_str (a := "swap") (by decide +kernel)) ⟨_, rfl, k G R _ s1 nR hR ?_⟩⟩⟩
        show (xs.take xs.length).map _ = xs.map _
        rw [List.take_length]
      | num b n =>
        cases b with
        | true =>
          refine ⟨_, rfl, rfl, _, rfl, if_no (ne_str (a := "first") (by decide +kernel)) ⟨_, rfl, rfl, _, rfl, if_no (ne_str (a := "first") (by decide +kernel)) ⟨_, rfl, k G R _ s1 nR hR ?_⟩⟩⟩
          show xs.take (min xs.length n) = if true = true then xs.take n else _
          rw [if_pos rfl]
          by_cases z : n ≤ xs.length
          · rw [show min xs.length n = n by omega]
          · rw [show min xs.length n = xs.length by omega, List.take_of_length_le (Nat.le_refl _), List.take_of_length_le (by omega)]
        | false =>
          refine ⟨_, rfl, rfl, _, rfl, if_no (ne_str (a := "last") (by decide +kernel)) ⟨_, rfl, rfl, _, rfl, if_no (ne_str (a := "last") (by decide +kernel)) ⟨_, rfl, k G R _ s1 nR hR ?_⟩⟩⟩
          show (xs.take xs.length).drop (xs.length - n) = if false = true then _ else xs.drop (xs.length - n)
          rw [List.take_length, if_neg (by decide)]
      | word w =>
        have ok : isWord w := ok
        unfold isWord at ok
        rcases ok with rfl | rfl | rfl | rfl
        · rw [fnd_order, List.take_length] at hR
          refine ⟨_, rfl, rfl, _, rfl, if_yes (eq_str "order") ⟨_, rfl, R, xs, rfl, SqL.of hR, fun ys p h1 h2 np => k _ p ys (s1.trans (same_upd np)) (s1.free np) upd_same ?_⟩⟩
          rw [fltR_word, if_pos rfl]
          exact ⟨h1, h2⟩
        · refine ⟨_, rfl, rfl, _, rfl, if_no (ne_str (a := "once") (by decide +kernel)) ⟨_, rfl, rfl, _, rfl, if_no (ne_str (a := "once") (by decide +kernel)) ⟨_, rfl, k G R _ s1 nR hR ?_⟩⟩⟩
          rw [fltR_word, if_neg (by decide +kernel), if_pos rfl, fnd_once]
        · refine ⟨_, rfl, rfl, _, rfl, if_no (ne_str (a := "count") (by decide +kernel)) ⟨_, rfl, rfl, _, rfl, if_yes (eq_str "count") ⟨_, rfl, a, _, rfl, .inl (s1.seq hl), _, rfl, ?_⟩⟩⟩
          refine ⟨log_few (by rw [List.length_map]; omega), line_small (by simp), fun p np => k _ p [natS xs.length] (s1.trans (same_upd np)) (s1.free np) ?_ ?_⟩
          · rw [upd_same, List.length_map]
            rfl
          · rw [fltR_word, if_neg (by decide +kernel), if_neg (by decide +kernel), if_pos rfl]
        · refine ⟨_, rfl, rfl, _, rfl, if_no (ne_str (a := "number") (by decide +kernel)) ⟨_, rfl, rfl, _, rfl, if_no (ne_str (a := "number") (by decide +kernel)) ⟨_, rfl, k G R _ s1 nR hR ?_⟩⟩⟩
          rw [fltR_word, if_neg (by decide +kernel), if_neg (by decide +kernel), if_neg (by decide +kernel), fnd_number]
abbrev sWr : Stmt := top 46
abbrev nWr : List Str := ["_law_row", "_law_lines_here", "_law_entry_here"]
theorem scWr : FnScope nWr ["_law_row", "_law_lines_here"] (defScope sWr) := ⟨rfl, rfl, rfl, by decide +kernel, rfl, by decide +kernel, by decide +kernel⟩
theorem has_Wr {f : Addr} {fd : FuncData}  (F : Fun K "_law_written" "_law_written" sWr f fd) (g : mg "_law_written" = some (.ref f)) (B : Blt mg) (hPd : Has P w K mg base 3 "_law_passed" ["_law_entry_here", "_law_lines_here"] (spPd K)) :
    Has P w K mg base 4 "_law_written" ["_law_row", "_law_lines_here"] (spWr K) := by
  obtain ⟨fPd, dPd, gPd, kPd, bPd, GPd⟩ := hPd
  refine has_of F g (F.binds (ps := ["_law_row", "_law_lines_here"]) fun _ _ _ _ _ _ us hl => match us, hl with | [_, _], _ => rfl) (F.ok scWr (fun vs H Q E h => ?_) (fun cdv A outer s H vs Q E hr h => ?_))
  · obtain ⟨v, fs, a, xs, rfl, _⟩ := h
    rfl
  · refine ⟨_, (pss_cons (ps_for PassesOwn.never rfl (pi_list (pv 0)) (pg_name (i := 2) scWr.nd rfl (.inl rfl))
          (pss_one (ps_set (i := 1) scWr.nd rfl (.inl rfl) (pe_call GPd hr rfl gPd kPd bPd .nil pass0 (pa_cons (pv 2) (pa_cons (pv 1) pa_nil))))))
        (pss_one (ps_ret (pv 1)))), ?_⟩
    obtain ⟨v, fs, a, xs, rfl, hd, ok, lf, hl, li, k⟩ := h
    obtain ⟨b, ys, rfl, hb, all⟩ := dp_lst hd
    have ly := dpLen all
    rw [List.length_map] at ly
    refine ⟨_, rfl, b, rfl, ⟨_, hb⟩, for_it (walk_list (K := K) (a := b) (xs := ys)) (fun i σ H' => ∃ (v2 : Option V) (L : Addr) (us : List Str), σ = [some (.ref b), some (.ref L), v2] ∧ Same H H' ∧ SqL K H' L (us.map V.str) ∧ RowR xs us (fs.take i) ∧ us.length ≤ 501 ∧ ∀ u ∈ us, u.length ≤ 506) ⟨none, a, xs, rfl, Same.refl H, hl, rfl, by have := li.2.1; omega, fun u m => by have := (li.2.2 u m).1; omega⟩ (fun i σ H' _ ⟨_, _, _, _, s', _⟩ => s'.seq hb) (fun i u σ H3 H' hi e yy => ?_) (fun σ H' e => ?_)⟩
    · obtain ⟨v2, L, us, rfl, s', hL, rr, _, _⟩ := e
      obtain ⟨rfl, hx⟩ := yy
      have i0 : i = 0 := by omega
      subst i0
      obtain ⟨d, hdi, dp⟩ := dpAt' all hx
      rw [List.getElem?_map] at hdi
      obtain ⟨r, er, rfl⟩ := Option.map_eq_some_iff.mp hdi
      have rr : us = xs := rr
      subst rr
      refine ⟨_, rfl, _, rfl, u, r, L, us, rfl, dp_same s' dp, ok r (List.mem_of_getElem? er), hL, li, fun H4 p ws s4 np hp fr => ?_⟩
      have ft := fltR_fit li fr
      refine ⟨_, p, ws, rfl, s'.trans s4, SqL.of hp, ?_, ft.1, ft.2⟩
      match fs, er, lf with
      | [g], er, _ =>
        obtain rfl := Option.some.inj er
        exact fr
    · obtain ⟨v2, L, us, rfl, s', hL, rr, l1, l2⟩ := e
      rw [ly, List.take_length] at rr
      exact ⟨_, rfl, k H' L us s' hL rr l1 l2⟩
end
end Qb
end PySem
namespace PySem
namespace Qb
open PySem.W PySem.Calls PyProof.Rows L2
/-! # repr of rows; the law's body where it is called -/
theorem run_at {P : Program} {w : World} {K : Frag} {mg : Str → Option Value} {base : Heap} {k : Nat} {x qual : Str} {st : Stmt} {f : Addr} {fd : FuncData} {N ps : List Str} {A : Around} {outer : List Env} {s : Shared} {H : Hp} {args : Args} {us : List Value} {vs : List V} {Q : VK}
    (F : Fun K x qual st f fd) (S : FnScope N ps (defScope st)) (hr : Room (k + 1) A) (e0 : Env0 P w K mg base A outer s H) (hb : BindsTo s fd args (ps.zip us)) (r : Vals vs us) (hl : vs.length = ps.length)
    (body : ∀ cdv, ∃ t, PSs (cxOf CX0 P w K mg base N qual (defScope st) f cdv A outer s H E0).nox (defBody st) t ∧ t { nx := fun _ H' => Q .non H', rt := Q } (L2.start N vs) H) :
    codeAny (model P w) A (.call (.ref f) args) (CR CX0 outer P w H s Q E0) s := by
  obtain ⟨oc, od, kV, doc, pm, an, cdv, ct, osl, rfl, lk, hcd⟩ := F.ex
  have here : K.In s.heap := e0.mod.kin.keeps fun b o z => (e0.bs b o z).1
  have room : s.heap.NoLimit := e0.mod.nolimit.keeps fun b o z => (e0.bs b o z).1
  refine codeAny_call_function hr.depth (here _ _ lk) rfl S.co S.gen rfl (codeRec_of here hcd) (hb _ _ _ _ ?_)
  refine wpAny_newFunctionEnv_cells S.kind (fun y hy => ?_) fun env he s1 hin => ?_
  · obtain ⟨n, v⟩ := y
    rcases S.par n (List.of_mem_zip hy).1 with z | z
    · exact .inl z
    · exact .inr ⟨z, cellsFrom_some _ _ _ (.inl z)⟩
  · subst he
    obtain ⟨t, ht, rd⟩ := body cdv
    have I : Inv (cxOf CX0 P w K mg base N qual (defScope st) f cdv A outer s H E0) [] (L2.start N vs) H s1 := inv_start S hr.hd e0 hl r hin
    refine ⟨room.keeps hin.toInCall.keep, codeAny_func (wpAny_mono (ht.nox.run [] s1 _ H _ I rd) (fun fl s2 hs => ?_) fun e s2 hs => hs)⟩
    have fin : ∀ {σ2 : L2.St} {H2 : Hp} {v : V} {u : Value}, Inv (cxOf CX0 P w K mg base N qual (defScope st) f cdv A outer s H E0) [] σ2 H2 s2 → RelV v u → Q v H2 → CE outer P w H s Q u s2 :=
      fun J rv q => ⟨_, _, J.os, J.bare, J.base, J.hok, rv, q⟩
    cases fl with
    | ret u =>
      obtain ⟨v, σ2, H2, J, rv, q⟩ := hs
      exact fin J rv q
    | next =>
      obtain ⟨σ2, H2, J, q⟩ := hs
      exact fin (v := .non) (u := .none) J rfl q
    | brk =>
      obtain ⟨_, _, _, z⟩ := hs
      exact (z : False).elim
    | cont =>
      obtain ⟨_, _, _, z⟩ := hs
      exact (z : False).elim
theorem law_at {P : Program} {w : World} {K : Frag} {mg mb : Str → Option Value} {fa a : Addr} {s : Shared} {vs : List Value} {ns : List Int}
    (KX : K.In s.heap) (hns : s.heap.Ns mainGlobals mg) (hb : s.heap.Ns builtinsNs mb) (hbb : ∀ x : Str, x ≠ "__name__" → mb x = bootBuiltins x) (lim : s.heap.NoLimit) (hg : s.gens = #[])
    (ha : s.heap.get? a = some { cls := .type "list", data := .seq vs.toArray }) (hi : IntsAre vs ns) (hl : ns.length ≤ sizeLine)
    (run : ∀ (base : Heap) (H : Hp), K.In base → base.Ns mainGlobals mg → Env0 P w K mg base callerA [] s H → SqL K H a (ns.map V.int) →
      codeAny (model P w) callerA (.call (.ref fa) ⟨[.ref a], []⟩) (CR CX0 [] P w H s (fun v _ => v = .bl true) E0) s) :
    codeAny (model P w) callerA (.call (.ref fa) ⟨[.ref a], []⟩) (fun r s' => r = .ok (.ret (.bool true)) ∧ OldK s.heap s'.heap ∧ s'.os = s.os ∧ AllBare s'.gens) s := by
  have rel := vals_ints hi
  have many := hi.length
  -- the script is tracked, as a thing that is known, where it is none of the module's own
  obtain ⟨H, hH⟩ : ∃ H : Hp, ∀ b, H b = if b = a ∧ K.lookup a = none then some (.frz { cls := .type "list", data := .seq vs.toArray } (.lst (ns.map V.int))) else none := ⟨_, fun _ => rfl⟩
  have only : ∀ b u, H b = some u → b = a ∧ K.lookup a = none ∧ u = .frz { cls := .type "list", data := .seq vs.toArray } (.lst (ns.map V.int)) := fun b u z => by
    rw [hH] at z
    by_cases c : b = a ∧ K.lookup a = none
    · rw [if_pos c] at z
      exact ⟨c.1, c.2, (Option.some.inj z).symm⟩
    · rw [if_neg c] at z
      cases z
  have sq : SqL K H a (ns.map V.int) := by
    cases hk : K.lookup a with
    | none => exact .inl (.inr ⟨_, by rw [hH]; exact if_pos ⟨rfl, hk⟩⟩)
    | some o =>
      have e := KX a o hk
      rw [ha] at e
      cases e
      exact .inr ⟨_, vs.toArray, _, hk, rfl, rfl, rfl, by rw [List.size_toArray, many]; exact hl, by simpa using rel⟩
  have ok : HOk P w H s.heap := fun b u z => by
    obtain ⟨rfl, _, rfl⟩ := only b u z
    exact ⟨ha, by rw [List.length_map]; exact hl, vs, _, rel, ha⟩
  have kept : ∀ b o, s.heap.get? b = some o → H b = none → (hidT s.heap H).get? b = some o := fun b o z n => hidT_get z n
  have baseK : K.In (hidT s.heap H) := fun b o z => kept b o (KX b o z) (by
    cases q : H b with
    | none => rfl
    | some u =>
      obtain ⟨rfl, n, _⟩ := only b u q
      rw [n] at z
      cases z)
  have baseN : ∀ (b : Addr) (m : Str → Option Value), s.heap.Ns b m → (hidT s.heap H).Ns b m := fun b m ⟨o, es, ep, z, d, r⟩ => ⟨o, es, ep, kept b o z (by
    cases q : H b with
    | none => rfl
    | some u =>
      obtain ⟨rfl, _, _⟩ := only b u q
      rw [ha] at z
      cases z
      cases d), d, r⟩
  have env : Env0 P w K mg (hidT s.heap H) callerA [] s H := {
    frames := rfl
    mod := ⟨baseK, baseN _ _ hns, ⟨mb, baseN _ _ hb, hbb⟩, let ⟨m, z1, z2⟩ := lim; ⟨m, baseN _ _ z1, z2⟩⟩
    bs := fun b o z => of_hidT z
    bsz := Nat.le_of_eq (hidT_size _ _)
    funs := trivial
    frf := fun b z => nomatch z
    hok := ok
    bare := .of_eq hg }
  refine codeAny_mono (run _ H baseK (baseN _ _ hns) env sq) fun r s' z => ?_
  cases r with
  | error e => exact z.elim
  | ok fl =>
    cases fl with
    | ret u =>
      obtain ⟨v, H', h1, h2, h3, h4, h5, h6⟩ := z
      obtain rfl : v = .bl true := h6
      obtain rfl : u = Value.bool true := h5
      refine ⟨rfl, OldK.of_keep fun b o y => ?_, h1, h2⟩
      cases q : H b with
      | none => exact h3.keep b o y q (fun z => nomatch z) (fun z => nomatch z)
      | some t =>
        obtain ⟨rfl, _, rfl⟩ := only b t q
        have q2 := h3.frzs _ _ _ q
        obtain ⟨g1, _⟩ := h4 _ _ q2
        rw [ha] at y
        cases y
        exact g1
    | next => exact z.elim
    | brk => exact z.elim
    | cont => exact z.elim
def Wd (K : Frag) (H : Hp) (v : V) (d : PyData) : Prop := Dp K H v d ∧ SeqAt.shaped d = true ∧ d.showable = true ∧ d.hasDict = false ∧ d.shown.length ≤ sizeLine
theorem call_reprD {X : Cx} (hg : X.A.guards = some []) (hu : X.A.units + 100 < cLine) : CallR X (.builtin "repr") (fun xs H Q => ∃ v d, xs = [v] ∧ Wd X.K H v d ∧ Q (.str d.shown) H) := by
  intro pins s σ H xs us Q I r h
  obtain ⟨v, d, rfl, hd, q⟩ := h
  obtain ⟨u, rfl, ru⟩ := vals1 r
  have ends : ∀ (h' : Heap) (t : Tok) (tk : Nat), (∀ b o, s.heap.get? b = some o → h'.get? b = some o) → EP X pins σ Q (.str d.shown t) { s with heap := h', toks := tk } :=
    fun h' t tk k => ⟨.str d.shown, H, I.kept (t' := tk) k, ⟨t, rfl⟩, q⟩
  have at_ref : ∀ (a : Addr) (as : List Addr), u = .ref a → Reads s.heap u d as → d.showable = true → (d.hasDict = true → sysModules ∉ as) → d.depth ≤ 64 → d.shown.length ≤ sizeLine →
      wpAny (model X.prog X.w) X.A (call (.builtin "repr") [u]) (EP X pins σ Q) X.xe s := by
    intro a as e r1 h3 h4 h6 h5
    subst e
    exact repr_of_reads' r1 h3 h4 hg (by omega) (fun _ _ z => z) ends h5
  obtain ⟨h1, h2, h3, h4, h5⟩ := hd
  obtain ⟨as, r1⟩ := Dp.reads I d v u h1 ru
  have h6 := SeqAt.depth_of_shaped h2
  have far : d.hasDict = true → sysModules ∉ as := fun z => by
    rw [h4] at z
    cases z
  cases h1 with
  | non =>
    obtain rfl : u = Value.none := ru
    exact P.repr_of_none (ends s.heap _ _ fun _ _ z => z)
  | bl b =>
    obtain rfl : u = Value.bool b := ru
    exact P.repr_of_bool (ends s.heap _ _ fun _ _ z => z)
  | int i =>
    obtain ⟨t, rfl⟩ := ru
    exact P.repr_of_int (by simpa [PyData.showable] using h3) (ends s.heap _ _ fun _ _ z => z)
  | str x =>
    obtain ⟨t, rfl⟩ := ru
    exact P.repr_of_str (ends s.heap _ _ fun _ _ z => z) h5
  | lst ha hxs => exact at_ref _ as ru r1 h3 far h6 h5
  | tup ha hxs => exact at_ref _ as ru r1 h3 far h6 h5
structure Rp (n m : Nat) (d : PyData) : Prop where
  sh : Sh n d
  sw : d.showable = true
  nd : d.hasDict = false
  len : (cs d.shown).length ≤ m
theorem Rp.mono {n m n' m' : Nat} {d : PyData} (h : Rp n m d) (a : n ≤ n') (b : m ≤ m') : Rp n' m' d := ⟨sh_mono h.sh a, h.sw, h.nd, Nat.le_trans h.len b⟩
theorem joinL_le (S : List Nat) (m : Nat) : ∀ (ps : List (List Nat)), (∀ p ∈ ps, p.length ≤ m) → (TL.joinL S ps).length ≤ ps.length * (m + S.length)
  | [], _ => Nat.zero_le _
  | [p], h => by
    show p.length ≤ 1 * (m + S.length)
    have := h p (.head _)
    omega
  | p :: q :: r, h => by
    show (p ++ (S ++ TL.joinL S (q :: r))).length ≤ _
    have ih := joinL_le S m (q :: r) fun x mm => h x (.tail _ mm)
    have h1 := h p (.head _)
    rw [List.length_append, List.length_append, List.length_cons (as := q :: r), Nat.add_mul]
    omega
theorem shownAll_map : ∀ ds : List PyData, PyData.shownAll ds = ds.map PyData.shown
  | [] => by rw [PyData.shownAll.eq_1]; rfl
  | d :: ds => by rw [PyData.shownAll.eq_2, shownAll_map ds]; rfl
theorem showableAll_all : ∀ ds : List PyData, (∀ d ∈ ds, d.showable = true) → PyData.showableAll ds = true
  | [], _ => PyData.showableAll.eq_1
  | d :: ds, h => by rw [PyData.showableAll.eq_2, h d (.head _), showableAll_all ds fun e m => h e (.tail _ m)]; rfl
theorem join_le {ds : List PyData} {m : Nat} (h : ∀ d ∈ ds, (cs d.shown).length ≤ m) : (cs ((Str.ofString ", ").join (PyData.shownAll ds))).length ≤ ds.length * (m + 2) := by
  have e4 : cs ((Str.ofString ", ").join (PyData.shownAll ds)) = TL.joinL (TL.tl (Str.ofString ", ")) ((PyData.shownAll ds).map TL.tl) := TL.tl_join _ _
  have e5 : (TL.tl (Str.ofString ", ")).length = 2 := by decide +kernel
  rw [e4]
  have z := joinL_le (TL.tl (Str.ofString ", ")) m ((PyData.shownAll ds).map TL.tl) fun p mm => by
    rw [shownAll_map, List.map_map] at mm
    obtain ⟨d, md, rfl⟩ := List.mem_map.mp mm
    exact h d md
  rw [e5, List.length_map, shownAll_map, List.length_map] at z
  rw [shownAll_map]
  exact z
theorem tup_cs : ∀ (a b : Str) (r : List Str), cs (tupleText (a :: b :: r)) = 40 :: (TL.joinL [44, 32] ((a :: b :: r).map TL.tl) ++ [41]) := by
  intro a b r
  unfold tupleText
  rw [cs_app, cs_app]
  have e1 : cs (Str.ofString "(") = [40] := by decide +kernel
  have e2 : cs (Str.ofString ")") = [41] := by decide +kernel
  have e3 : ((a :: b :: r).length == 1) = false := by simp
  have e4 : cs ((Str.ofString ", ").join (a :: b :: r)) = TL.joinL (TL.tl (Str.ofString ", ")) ((a :: b :: r).map TL.tl) := TL.tl_join _ _
  have e5 : TL.tl (Str.ofString ", ") = [44, 32] := by decide +kernel
  rw [e3, if_neg (by decide), e1, e2, e4, e5]
  simp
theorem rp_two {n m1 m2 : Nat} {d e : PyData} (a : Rp n m1 d) (b : Rp n m2 e) : Rp (n + 1) (m1 + m2 + 4) (.tuple [d, e]) := by
  refine ⟨sh_tup fun x m => ?_, ?_, ?_, ?_⟩
  · rcases List.mem_cons.mp m with rfl | m
    · exact a.sh
    · rw [List.mem_singleton.mp m]; exact b.sh
  · rw [PyData.showable.eq_6, PyData.showableAll.eq_2, PyData.showableAll.eq_2, PyData.showableAll.eq_1, a.sw, b.sw]
    rfl
  · show (d.hasDict || (e.hasDict || false)) = false
    rw [a.nd, b.nd]
    rfl
  · rw [PyData.shown.eq_6, PyData.shownAll.eq_2, PyData.shownAll.eq_2, PyData.shownAll.eq_1, tup_cs]
    have h1 : (TL.tl d.shown).length ≤ m1 := a.len
    have h2 : (TL.tl e.shown).length ≤ m2 := b.len
    show (40 :: ((TL.tl d.shown ++ ([44, 32] ++ TL.tl e.shown)) ++ [41])).length ≤ _
    simp only [List.length_cons, List.length_append, List.length_nil]
    omega
theorem rp_three {n m1 m2 m3 : Nat} {d e f : PyData} (a : Rp n m1 d) (b : Rp n m2 e) (c : Rp n m3 f) : Rp (n + 1) (m1 + m2 + m3 + 6) (.tuple [d, e, f]) := by
  refine ⟨sh_tup fun x m => ?_, ?_, ?_, ?_⟩
  · rcases List.mem_cons.mp m with rfl | m
    · exact a.sh
    rcases List.mem_cons.mp m with rfl | m
    · exact b.sh
    · rw [List.mem_singleton.mp m]; exact c.sh
  · rw [PyData.showable.eq_6, PyData.showableAll.eq_2, PyData.showableAll.eq_2, PyData.showableAll.eq_2, PyData.showableAll.eq_1, a.sw, b.sw, c.sw]
    rfl
  · show (d.hasDict || (e.hasDict || (f.hasDict || false))) = false
    rw [a.nd, b.nd, c.nd]
    rfl
  · rw [PyData.shown.eq_6, PyData.shownAll.eq_2, PyData.shownAll.eq_2, PyData.shownAll.eq_2, PyData.shownAll.eq_1, tup_cs]
    have h1 : (TL.tl d.shown).length ≤ m1 := a.len
    have h2 : (TL.tl e.shown).length ≤ m2 := b.len
    have h3 : (TL.tl f.shown).length ≤ m3 := c.len
    show (40 :: ((TL.tl d.shown ++ ([44, 32] ++ (TL.tl e.shown ++ ([44, 32] ++ TL.tl f.shown)))) ++ [41])).length ≤ _
    simp only [List.length_cons, List.length_append, List.length_nil]
    omega
theorem rp_lst {n m : Nat} {ds : List PyData} (h : ∀ d ∈ ds, Rp n m d) : Rp (n + 1) (2 + ds.length * (m + 2)) (.list ds) := by
  refine ⟨sh_lst fun d mm => (h d mm).sh, ?_, ?_, ?_⟩
  · rw [PyData.showable.eq_5]
    exact showableAll_all ds fun d mm => (h d mm).sw
  · show PyData.hasDictAll ds = false
    induction ds with
    | nil => rfl
    | cons d ds ih =>
      show (d.hasDict || PyData.hasDictAll ds) = false
      rw [(h d (.head _)).nd, ih fun e mm => h e (.tail _ mm)]
      rfl
  · rw [PyData.shown.eq_5, ← len_cs]
    unfold listText
    have z := textFrom_len_le (PyData.shownAll ds) 0 "["
    have e1 : ("[" : Str).length = 1 := by decide +kernel
    have e2 : ("]" : Str).length = 1 := by decide +kernel
    have e3 : (textFrom 0 "[" (PyData.shownAll ds) ++ ("]" : Str)).length = (textFrom 0 "[" (PyData.shownAll ds)).length + 1 := by
      rw [len_cs, cs_app, List.length_append, ← len_cs, ← len_cs, e2]
    have e4 : ∀ l : List PyData, (∀ d ∈ l, (cs d.shown).length ≤ m) → ((PyData.shownAll l).map (·.length)).sum ≤ l.length * m := by
      intro l
      induction l with
      | nil => intro _; rw [PyData.shownAll.eq_1]; exact Nat.zero_le _
      | cons d l ih =>
        intro hl
        have i := ih fun e mm => hl e (.tail _ mm)
        have j := hl d (.head _)
        rw [← len_cs] at j
        rw [PyData.shownAll.eq_2, List.map_cons, List.sum_cons, List.length_cons, Nat.add_mul]
        omega
    have z2 := e4 ds fun d mm => (h d mm).len
    have z3 : (PyData.shownAll ds).length = ds.length := by rw [shownAll_map, List.length_map]
    rw [e3, Nat.mul_add]
    omega
theorem len_str_int {n : Nat} {k : Nat} (h : n < 10 ^ k) (hk : 1 ≤ k) : (toString (n : Int)).length ≤ k := by
  show (toString n).length ≤ k
  show (Nat.repr n).length ≤ k
  exact (Nat.length_repr_le_iff (by omega)).mpr h
theorem sh_bl {b : Bool} : Sh 0 (.bool b) := ⟨by first | rfl | rw [PyData.canLay0.eq_2] | simp [PyData.canLay0], Nat.le_of_eq rfl⟩
theorem sh_int (n : Int) : Sh 0 (.int n) := ⟨PyData.canLay0.eq_3 n, Nat.le_of_eq rfl⟩
theorem int_log {i : Int} (h0 : 0 ≤ i) (h : i < 10 ^ 80) : i.natAbs.log2 < 1920 := by
  obtain ⟨n, rfl⟩ : ∃ n : Nat, i = n := ⟨i.toNat, (Int.toNat_of_nonneg h0).symm⟩
  rw [Int.natAbs_natCast]
  have h' : n < 10 ^ 80 := by exact_mod_cast h
  by_cases z : n = 0
  · subst z; decide
  · exact (Nat.log2_lt z).mpr (Nat.lt_trans h' (by decide +kernel))
theorem rp_int {i : Int} (h0 : 0 ≤ i) (h : i ≤ 10 ^ 18) : Rp 0 19 (.int i) := by
  refine ⟨sh_int i, by rw [PyData.showable.eq_4]; exact decide_eq_true (int_log h0 (Int.lt_of_le_of_lt h (by decide))), rfl, ?_⟩
  obtain ⟨k, rfl⟩ : ∃ k : Nat, i = k := ⟨i.toNat, (Int.toNat_of_nonneg h0).symm⟩
  have := len_str_int (n := k) (k := 19) (by have : (k : Int) < 10 ^ 19 := Int.lt_of_le_of_lt h (by decide); exact_mod_cast this) (by decide)
  have e : (Str.ofString (toString (k : Int))).length = (toString (k : Int)).length := PyProof.Rows.ofString_length _
  rw [PyData.shown.eq_3, ← len_cs, e]
  exact this
theorem rp_k {x : Str} {m : Nat} (h : PyData.strOk x = true ∧ (cs (reprText x)).length ≤ m) {n : Nat} : Rp n m (.str x) := ⟨sh_mono (sh_str h.1) (Nat.zero_le _), PyData.showable.eq_3 x, rfl, by rw [PyData.shown.eq_4]; exact h.2⟩
end Qb
end PySem
namespace PySem
namespace Qb
open PySem.W PySem.Calls PyProof.Rows L2
/-! # rows are shown; what a row writes is one thing -/
theorem rp_sg {c : Nat} (h : c ∈ cs signsS) {n : Nat} : Rp n 6 (.str (sg c)) := rp_k ((by decide +kernel : ∀ c ∈ cs signsS, PyData.strOk (sg c) = true ∧ (cs (reprText (sg c))).length ≤ 6) c h)
theorem rp_w {x : Str} (h : x ∈ (["keep", "drop", "swap", "first", "last", "one", "of"] : List Str)) {n : Nat} : Rp n 8 (.str x) := rp_k ((by decide +kernel : ∀ x ∈ (["keep", "drop", "swap", "first", "last", "one", "of"] : List Str), PyData.strOk x = true ∧ (cs (reprText x)).length ≤ 8) x h)
theorem rp_bl (b : Bool) : Rp 0 8 (.bool b) := ⟨sh_bl, PyData.showable.eq_2 b, rfl, by rw [PyData.shown.eq_2]; cases b <;> decide +kernel⟩
theorem rp_rg {r : Nat × Nat} (h1 : r.1 ∈ cs signsS) (h2 : r.2 ∈ cs signsS) : Rp 1 20 (rgD r) := (rp_two (n := 0) (rp_sg h1) (rp_sg h2)).mono (Nat.le_refl _) (by decide)
theorem rp_one (x : Str) (h : PyData.strOk x = true ∧ (PyData.tuple [.str x]).showable = true ∧ (cs (PyData.tuple [.str x]).shown).length ≤ 20) : Rp 1 20 (.tuple [.str x]) :=
  ⟨sh_tup (n := 0) (ds := [.str x]) (fun d m => by rw [List.mem_singleton.mp m]; exact sh_str h.1), h.2.1, rfl, h.2.2⟩
theorem rp_pt {q : Pt} (h : q.good) (f : q.few) : Rp 3 7000 q.d := by
  cases q with
  | one c => exact (rp_two (n := 0) (rp_w (by decide +kernel)) (rp_sg h)).mono (by decide) (by decide)
  | any => exact (rp_one "any" (by decide +kernel)).mono (by decide) (by decide)
  | lot => exact (rp_one "lot" (by decide +kernel)).mono (by decide) (by decide)
  | of no rs =>
    have l : rs.length ≤ 300 := f
    have e : Rp 2 6602 (.list (rs.map rgD)) := (rp_lst (n := 1) (m := 20) fun d m => by
      obtain ⟨r, mr, rfl⟩ := List.mem_map.mp m
      exact rp_rg (h.2 r mr).1 (h.2 r mr).2.1).mono (Nat.le_refl _) (by
        rw [List.length_map]
        have := Nat.mul_le_mul_right 22 l
        omega)
    exact (rp_three (n := 2) (rp_w (by decide +kernel)) ((rp_bl no).mono (by decide) (Nat.le_refl _)) e).mono (Nat.le_refl _) (by decide)
theorem rp_flt {f : Flt} (ok : FltOk f) : Rp 5 500000 f.d := by
  cases f with
  | pat b ps =>
    have e : Rp 4 420200 (.list (ps.map Pt.d)) := (rp_lst (n := 3) (m := 7000) fun d m => by
      obtain ⟨r, mr, rfl⟩ := List.mem_map.mp m
      exact rp_pt (ok.2 r mr).1 (ok.2 r mr).2).mono (Nat.le_refl _) (by
        rw [List.length_map]
        have := Nat.mul_le_mul_right 7002 ok.1
        omega)
    have k : Rp 4 8 (.str (patW b)) := by
      cases b
      · exact rp_w (x := "drop") (by decide +kernel)
      · exact rp_w (x := "keep") (by decide +kernel)
    exact (rp_two k e).mono (Nat.le_refl _) (by decide)
  | swap ms =>
    have e : Rp 4 2202 (.list (ms.map prD)) := (rp_lst (n := 1) (m := 20) fun d m => by
      obtain ⟨r, mr, rfl⟩ := List.mem_map.mp m
      exact rp_rg (r := r) (ok.2.2.2 r mr).1.1 (ok.2.2.2 r mr).2.1).mono (by decide) (by
        rw [List.length_map]
        have := Nat.mul_le_mul_right 22 ok.2.2.1
        omega)
    exact (rp_two (rp_w (by decide +kernel)) e).mono (Nat.le_refl _) (by decide)
  | num b n =>
    have n1 : n ≤ 2000000000 := ok
    have k : Rp 0 8 (.str (numW b)) := by
      cases b
      · exact rp_w (x := "last") (by decide +kernel)
      · exact rp_w (x := "first") (by decide +kernel)
    exact (rp_two k (rp_int (i := (n : Nat)) (by omega) (by omega))).mono (by decide) (by decide)
  | word x =>
    have ok : isWord x := ok
    unfold isWord at ok
    rcases ok with rfl | rfl | rfl | rfl
    · exact (rp_one "order" (by decide +kernel)).mono (by decide) (by decide)
    · exact (rp_one "once" (by decide +kernel)).mono (by decide) (by decide)
    · exact (rp_one "count" (by decide +kernel)).mono (by decide) (by decide)
    · exact (rp_one "number" (by decide +kernel)).mono (by decide) (by decide)
theorem wd_row {K : Frag} {H : Hp} {v : V} {fs : List Flt} (d : Dp K H v (.list (fs.map Flt.d))) (ok : ∀ f ∈ fs, FltOk f) (l : fs.length ≤ 1) : Wd K H v (.list (fs.map Flt.d)) := by
  have e : Rp 6 600000 (.list (fs.map Flt.d)) := (rp_lst (n := 5) (m := 500000) fun d m => by
    obtain ⟨r, mr, rfl⟩ := List.mem_map.mp m
    exact rp_flt (ok r mr)).mono (Nat.le_refl _) (by
      rw [List.length_map]
      have := Nat.mul_le_mul_right 500002 l
      omega)
  exact ⟨d, sh_ok e.sh, e.sw, e.nd, by rw [len_cs, sizeLine_eq]; have := e.len; omega⟩
theorem rising_pw : ∀ (l : List Str) (p : Str), risingS p l = true → (p :: l).Pairwise (fun a b => cs a ≤ cs b)
  | [], p, _ => List.pairwise_singleton _ _
  | x :: r, p, h => by
    rw [risingS, Bool.and_eq_true, ltCps_eq] at h
    have ih := rising_pw r x h.2
    have le : cs p ≤ cs x := List.not_lt.mp (by simpa using h.1)
    refine List.pairwise_cons.mpr ⟨fun y m => ?_, ih⟩
    rcases List.mem_cons.mp m with rfl | m
    · exact le
    · exact List.le_trans le ((List.pairwise_cons.mp ih).1 y m)
theorem sorted_pw : ∀ (l : List Str), sortedS l = true → l.Pairwise (fun a b => cs a ≤ cs b)
  | [], _ => .nil
  | x :: r, h => rising_pw r x h
theorem sorted_one {l m : List Str} (p : l.Perm m) (h1 : sortedS l = true) (h2 : sortedS m = true) : l = m :=
  List.Perm.eq_of_pairwise (fun a b _ _ h h' => str_ext (List.le_antisymm h h')) (sorted_pw l h1) (sorted_pw m h2) p
theorem fltR_one {xs zs ys : List Str} {f : Flt} (h1 : FltR xs zs f) (h2 : FltR xs ys f) : zs = ys := by
  cases f with
  | pat b ps => exact (show zs = _ from h1).trans (show ys = _ from h2).symm
  | swap ms => exact (show zs = _ from h1).trans (show ys = _ from h2).symm
  | num b n => exact (show zs = _ from h1).trans (show ys = _ from h2).symm
  | word w =>
    rw [fltR_word] at h1 h2
    split at h1
    · next e =>
      rw [if_pos e] at h2
      exact sorted_one (h1.1.trans h2.1.symm) h1.2 h2.2
    · next n1 =>
      rw [if_neg n1] at h2
      split at h1
      · next e =>
        rw [if_pos e] at h2
        exact h1.trans h2.symm
      · next n2 =>
        rw [if_neg n2] at h2
        split at h1
        · next e =>
          rw [if_pos e] at h2
          exact h1.trans h2.symm
        · next n3 =>
          rw [if_neg n3] at h2
          exact h1.trans h2.symm
theorem rowR_one {xs zs ys : List Str} {fs : List Flt} (h1 : RowR xs zs fs) (h2 : RowR xs ys fs) : zs = ys := by
  match fs, h1, h2 with
  | [], h1, h2 => exact (show zs = xs from h1).trans (show ys = xs from h2).symm
  | [f], h1, h2 => exact fltR_one h1 h2
/-- lines as the law draws them are lines as the filters want them -/
theorem line_li {zs : List Str} (l : zs.length ≤ 23) (h : ∀ z ∈ zs, LineOk z) : LiOk zs := by
  have s := sum_le (l := zs.map (·.length)) (m := 17) fun x hx => by
    obtain ⟨y, my, rfl⟩ := List.mem_map.mp hx
    exact (h y my).1
  rw [List.length_map] at s
  have := Nat.mul_le_mul_right 17 l
  exact ⟨by omega, by omega, fun x m => ⟨by have := (h x m).1; omega, fun c mc => ((h x m).2 c mc).1⟩⟩
theorem line_fr {z : Str} (h : LineOk z) : Fr z := fun m => (h.2 10 m).2 rfl
end Qb
end PySem
namespace PySem
namespace Qb
open PySem.W PySem.Calls PyProof.Rows L2
/-! # the law -/
theorem tx_end (zs : List Str) (h : zs ≠ []) : tx zs = jn zs ++ "\n" := by
  unfold tx
  rw [jn_app h (by simp)]
  have : jn [nS] = "" := by decide +kernel
  rw [this]
  refine str_ext ?_
  rw [cs_app]
  show _ ++ [] = _
  rw [List.append_nil]
theorem cutS_last (x : Str) : cs (cutS x none (some (-1))) = (cs x).dropLast := by
  unfold cutS
  show (x.cps.toList.drop (HT.sIx x.length 0 none)).take (HT.sIx x.length x.length (some (-1)) - HT.sIx x.length 0 none) = _
  have e := len_cs x
  rw [show HT.sIx x.length 0 none = 0 by rfl, List.drop_zero, Nat.sub_zero]
  have : HT.sIx x.length x.length (some (-1)) = x.length - 1 := by
    unfold HT.sIx
    simp
    omega
  rw [this, List.dropLast_eq_take, e]
theorem tx_len {zs : List Str} (l : zs.length ≤ 23) (h : ∀ z ∈ zs, LineOk z) : (tx zs).length ≤ 10000 := by
  have := jn_le (ps := zs ++ [nS]) (n := 24) (m := 17) (by rw [List.length_append]; show zs.length + 1 ≤ 24; omega) (fun p m => by
    rcases List.mem_append.mp m with m | m
    · exact (h p m).1
    · rw [List.mem_singleton.mp m]
      exact Nat.zero_le _)
  unfold tx
  omega
def HasR (P : Program) (w : World) (K : Frag) (mg : Str → Option Value) (base : Heap) (k : Nat) (x : Str) (ps ks : List Str) (sp : Sp) : Prop :=
  ∃ (f : Addr) (fd : FuncData), mg x = some (.ref f) ∧ PySem.W.keepIn K (.ref f) = true ∧ Binds K fd ps [] ∧ KBinds K fd ps ks (fun us ws => us ++ ws.reverse) (fun vs zs => vs ++ zs.reverse) ∧ FnOk P w K mg base CX0 k f fd ps sp
def spLw (K : Frag) : Sp := fun vs H Q _ => ∃ (a : Addr) (ns : List Int), vs = [.ref a] ∧ SqL K H a (ns.map V.int) ∧ ns.length ≤ 63 ∧ ∀ H', Q (.bl true) H'
section
variable {P : Program} {w : World} {K : Frag} {mg : Str → Option Value} {base : Heap}
abbrev sLw : Stmt := top 51
abbrev nLw : List Str := ["_law_script", "_law_hand_here", "_law_kind", "_law_letters_here", "_law_row", "_law_lines_here", "_law_text", "_law_line_here", "_law_kept", "_law_actual", "_law_due"]
theorem scLw : FnScope nLw ["_law_script"] (defScope sLw) := ⟨rfl, rfl, rfl, by decide +kernel, rfl, by decide +kernel, by decide +kernel⟩
theorem ok_Lw {f : Addr} {fd : FuncData}  (F : Fun K "law" "law" sLw f fd) (B : Blt mg) (Rp : mg "repr" = none) (hHa : Has P w K mg base 1 "_law_hand" ["_law_cell_here"] (spHa)) (hCe : Has P w K mg base 1 "_law_cell" ["_law_script", "_law_k"] (spCe K)) (hTk : Has P w K mg base 1 "_law_take" ["_law_hand_here", "_law_many"] (spTk)) (hLe2 : Has P w K mg base 2 "_law_letters" ["_law_hand_here"] (spLe2)) (hFr : Has P w K mg base 6 "_law_filter" ["_law_hand_here", "_law_letters_here", "_law_kind"] (spFr K)) (hLns : Has P w K mg base 4 "_law_lines" ["_law_script", "_law_start", "_law_most", "_law_letters_here"] (spLns K)) (hFi : HasR P w K mg base 9 "filtered" ["row", "text"] ["text", "row"] (spFi K)) (hWr : Has P w K mg base 4 "_law_written" ["_law_row", "_law_lines_here"] (spWr K))
    {A : Around} {outer : List Env} {s : Shared} {H : Hp} {args : Args} {us : List Value} {vs : List V} {Q : VK} (hgd0 : A.guards = some []) (hr0 : Room 10 A) (e0 : Env0 P w K mg base A outer s H) (hb : BindsTo s fd args ((["_law_script"] : List Str).zip us)) (r : Vals vs us) (h : spLw K vs H Q E0) :
    codeAny (model P w) A (.call (.ref f) args) (CR CX0 outer P w H s Q E0) s := by
  obtain ⟨fHa, dHa, gHa, kHa, bHa, GHa⟩ := hHa
  obtain ⟨fCe, dCe, gCe, kCe, bCe, GCe⟩ := hCe
  obtain ⟨fTk, dTk, gTk, kTk, bTk, GTk⟩ := hTk
  obtain ⟨fLe2, dLe2, gLe2, kLe2, bLe2, GLe2⟩ := hLe2
  obtain ⟨fFr, dFr, gFr, kFr, bFr, GFr⟩ := hFr
  obtain ⟨fLns, dLns, gLns, kLns, bLns, GLns⟩ := hLns
  obtain ⟨fFi, dFi, gFi, kFi, bFi, cFi, GFi⟩ := hFi
  obtain ⟨fWr, dWr, gWr, kWr, bWr, GWr⟩ := hWr
  refine run_at (k := 9) F scLw hr0 e0 hb r (by obtain ⟨a, ns, rfl, _⟩ := h; rfl) fun cdv => ?_
  have hr : Room 9 (A.deeper (envOfC "law" (defScope sLw) s.heap.objs.size f cdv)) := hr0.deeper _
  have hgd : (A.deeper (envOfC "law" (defScope sLw) s.heap.objs.size f cdv)).guards = some [] := hgd0
  have un := hr.un
  have hu100 : (A.deeper (envOfC "law" (defScope sLw) s.heap.objs.size f cdv)).units + 100 < cLine := by omega
  · refine ⟨_, (pss_cons (ps_set (i := 1) scLw.nd rfl (.inl rfl) (pe_call GHa (hr.mono (by decide)) rfl gHa kHa bHa .nil pass0 (pa_cons (pe_call GCe (hr.mono (by decide)) rfl gCe kCe bCe .nil pass0 (pa_cons (pv 0) (pa_cons pe_int pa_nil))) pa_nil)))
        (pss_cons (ps_set (i := 2) scLw.nd rfl (.inl rfl) (pe_call GTk (hr.mono (by decide)) rfl gTk kTk bTk .nil pass0 (pa_cons (pv 1) (pa_cons pe_int pa_nil))))
        (pss_cons (ps_set (i := 3) scLw.nd rfl (.inl rfl) (pe_call GLe2 (hr.mono (by decide)) rfl gLe2 kLe2 bLe2 .nil pass0 (pa_cons (pv 1) pa_nil)))
        (pss_cons (ps_set (i := 4) scLw.nd rfl (.inl rfl) (pe_lst pa_nil))
        (pss_cons (ps_weak (ps_if (pt_cmpR op_lt (pv 2) pe_int (nomark _)) (pss_one (ps_expr (pe_bm PySem.F.plainAttrs_list PySem.F.slot_list_append PySem.F.type_list_append mt_append (pv 4) (pa_cons (pe_call GFr (hr.mono (by decide)) rfl gFr kFr bFr .nil pass0 (pa_cons (pv 1) (pa_cons (pv 3) (pa_cons (pv 2) pa_nil)))) pa_nil)))) pss_nil))
        (pss_cons (ps_set (i := 5) scLw.nd rfl (.inl rfl) (pe_slice sl_list (pe_call GLns (hr.mono (by decide)) rfl gLns kLns bLns .nil pass0 (pa_cons (pv 0) (pa_cons pe_int (pa_cons pe_int (pa_cons (pv 3) pa_nil))))) po_none (po_some pe_int)))
        (pss_cons (ps_set (i := 6) scLw.nd rfl (.inl rfl) (pe_join pe_str (pe_lc (own := [("_law_line_here", 7)]) (g := gName 7) (tt := tYes) rfl scLw.nd (pi_list (pv 5)) (blkOk_by (N := nLw) (sc := defScope sLw) (by decide +kernel)) (fun _ _ _ _ _ => pg_name (i := 7) scLw.nd rfl (.inl rfl)) (fun _ _ _ _ _ => pts_nil) (fun _ _ _ _ _ => (pe_op op_add_str (pv 7) pe_str)))))
        (pss_cons (ps_weak (ps_if (PW.pt (pw_and (pt_truth (pv 5) (by intro _; rfl)) (pw_and (pt_cmpR op_ne (pe_ix ix_list (pv 5) (pe_un un_neg pe_int) (fun _ _ => rfl)) pe_str (nomark _)) (pw_and1 (pt_cmpR op_eq (pe_call GTk (hr.mono (by decide)) rfl gTk kTk bTk .nil pass0 (pa_cons (pv 1) (pa_cons pe_int pa_nil))) pe_int (nomark _)))))) (pss_one (ps_set (i := 6) scLw.nd rfl (.inl rfl) (pe_slice sl_str (pv 6) po_none (po_some (pe_un un_neg pe_int))))) pss_nil))
        (pss_cons (ps_set (i := 8) scLw.nd rfl (.inl rfl) (pe_callB (call_reprD hgd hu100) (by rfl) Rp (by decide +kernel) (pa_cons (pv 4) pa_nil)))
        (pss_cons (ps_set (i := 9) scLw.nd rfl (.inl rfl) (pe_call GFi hr rfl gFi kFi bFi .nil pass0 (pa_cons (pv 4) (pa_cons (pv 6) pa_nil))))
        (pss_cons (ps_set (i := 10) scLw.nd rfl (.inl rfl) (pe_call GWr (hr.mono (by decide)) rfl gWr kWr bWr .nil pass0 (pa_cons (pv 4) (pa_cons (pv 5) pa_nil))))
        (pss_cons (ps_if (PW.pt (pw_or (pt_not (pt_val (pe_callB call_isi (by rfl) B.isi (by decide +kernel) (pa_cons (pv 9) (pa_cons (pe_bltn (v := .ty "str") (by rfl) B.str (by decide +kernel) rfl) pa_nil))))) (pw_or1 (pt_cmpR op_ne (pv 9) (pe_join pe_str (pe_lc (own := [("_law_line_here", 7)]) (g := gName 7) (tt := tYes) rfl scLw.nd (pi_list (pv 10)) (blkOk_by (N := nLw) (sc := defScope sLw) (by decide +kernel)) (fun _ _ _ _ _ => pg_name (i := 7) scLw.nd rfl (.inl rfl)) (fun _ _ _ _ _ => pts_nil) (fun _ _ _ _ _ => (pe_op op_add_str (pv 7) pe_str)))) (nomark _))))) (pss_one (ps_ret pe_bl)) pss_nil)
        (pss_one (ps_ret (pe_and (pe_cmpR op_eq (pe_callKw GFi hr rfl gFi kFi cFi pass0 (pk_cons (pv 6) (pk_cons (pv 4) pk_nil))) (pv 9) (nomark _)) (pe_one (pe_cmpR op_eq (pe_callB (call_reprD hgd hu100) (by rfl) Rp (by decide +kernel) (pa_cons (pv 4) pa_nil)) (pv 8) (nomark _)))))))))))))))))), ?_⟩
    obtain ⟨a, ns, rfl, hl, ln, k⟩ := h
    refine ⟨_, rfl, a, ns, 0, rfl, hl, _, rfl, fun H1 p s1 np h1 => ?_⟩
    refine ⟨_, rfl, p, 10, 0, rfl, by omega, by omega, by omega, h1, fun H2 r2 s2 h2 l2 => ?_⟩
    refine ⟨_, rfl, p, 1, rfl, by omega, h2, fun H3 x s3 h3 lt => ?_⟩
    have sH3 : Same H H3 := SB.all (((SB.of s1).trans s2).trans s3) np
    refine ⟨(by decide : 0 ≤ sizeLine), fun R nR => ?_⟩
    have nRp := hd_ne h3 nR
    have dl0 : DrawL K p H3 (L2.upd H3 R (.lst [])) R (([] : List Flt).map Flt.d) := DrawL.start nR nRp
    have h30 : HdAt (L2.upd H3 R (.lst [])) p 3 := h3.off nRp
    generalize L2.upd H3 R (.lst []) = H4 at dl0 h30 ⊢
    refine ⟨fun σ' H' => σ' = [some (.ref a), some (.ref p), some (.int (r2 : Nat)), some (.str x), some (.ref R), none, none, none, none, none, none] ∧ ∃ fs : List Flt, (∀ f ∈ fs, FltOk f) ∧ fs.length ≤ 1 ∧ DrawL K p H3 H' R (fs.map Flt.d) ∧ HdAt H' p 400, fun σ' H5 e => ?_, ?_⟩
    · obtain ⟨rfl, fs, ok, lf, dl, h5⟩ := e
      have sb5 := dl.2.2.1
      have sH5 : Same H H5 := SB.all ((SB.of sH3).trans sb5) np
      have drow : Dp K H5 (.ref R) (.list (fs.map Flt.d)) := dp_same newOf_same dl.done
      refine ⟨_, rfl, _, rfl, a, ns, x, rfl, sH5.seq hl, ln, lt, fun H6 L zs s6 nL hL zl zo => ?_⟩
      refine ⟨_, rfl, L, _, rfl, SqL.of hL, fun q nq => ?_⟩
      have ec : cutV (zs.map V.str) none (some 23) = (zs.take 23).map V.str := by
        have := cutV_to (zs.map V.str) 23
        rw [List.map_take]
        exact this
      rw [ec]
      have xl : (zs.take 23).length ≤ 23 := List.length_take_le 23 zs
      have xo : ∀ z ∈ zs.take 23, LineOk z := fun z m => zo z (List.mem_of_mem_take m)
      generalize zs.take 23 = xs at xl xo ⊢
      have s7 := same_upd (o := .lst (xs.map V.str)) nq
      have hq : (L2.upd H6 q (.lst (xs.map V.str))) q = some (.lst (xs.map V.str)) := upd_same
      have qp0 : q ≠ p := hd_ne (h5.same s6) nq
      generalize L2.upd H6 q (.lst (xs.map V.str)) = H7 at s7 hq ⊢
      have li := line_li xl xo
      have x1000 : ∀ z ∈ xs, z.length ≤ 1000 := fun z m => by have := (xo z m).1; omega
      refine ⟨⟨_, rfl⟩, _, rfl, q, rfl, ⟨_, SqL.of hq⟩, fun D hD => ?_⟩
      refine lc_it (walk_list (K := K) (xs := xs.map V.str)) (fun i H' => Same H7 H' ∧ H' D = some (.lst (((xs.map (· ++ nlS)).take i).map V.str))) ⟨same_upd hD, upd_same⟩ (fun i H' _ e => e.1.seq (SqL.of hq)) (fun i y HA H' hi e yy => ?_) (fun H' e => ?_)
      · obtain ⟨s1, hd1⟩ := e
        obtain ⟨rfl, hx⟩ := yy
        rw [List.getElem?_map] at hx
        obtain ⟨z, hz1, rfl⟩ := Option.map_eq_some_iff.mp hx
        have zl := x1000 z (List.mem_of_getElem? hz1)
        refine ⟨rfl, _, rfl, _, _, rfl, rfl, by rw [sizeLine_eq, show (("\n" : Str)).length = 1 from nl_len]; omega, _, hd1, ?_, same_upd2 s1 hD, ?_⟩
        · rw [List.length_map, List.length_take, List.length_map, sizeLine_eq]
          omega
        · rw [upd_same, take_snoc (x := z ++ nlS) (by rw [List.getElem?_map, hz1]; rfl), List.map_append]
          rfl
      · obtain ⟨s1, hd1⟩ := e
        rw [List.length_map, List.take_of_length_le (by rw [List.length_map]; exact Nat.le_refl _)] at hd1
        refine ⟨"", D, xs.map (· ++ nlS), rfl, rfl, .inl (SqL.of hd1), ?_, ?_⟩
        · have := out_sum (zs := xs) (by omega) x1000
          rw [show ("" : Str).length = 0 from by decide +kernel]
          omega
        · have ej := tx_join xs
          rw [show (xs.map (· ++ nlS)) = xs.map (fun x => x ++ ("\n" : Str)) from rfl, ej]
          have s8 := s7.trans s1
          have h8 : HdAt H' p 400 := ((h5.same s6).same s7).same s1
          have hq8 := s1.seq (SqL.of (K := K) hq)
          have qp : q ≠ p := qp0
          refine ⟨fun σ' H9 => ∃ y, σ' = [some (.ref a), some (.ref p), some (.int (r2 : Nat)), some (.str x), some (.ref R), some (.ref q), some (.str y), none, none, none, none] ∧ SB p H' H9 ∧ TxOf y xs ∧ y.length ≤ 10000, fun σ' H9 e => ?_, ?_⟩
          · obtain ⟨y, rfl, s9, ty, ly⟩ := e
            have sb59 : SB p H5 H9 := (SB.of (s6.trans (s7.trans s1))).trans s9
            have d9 : Dp K H9 (.ref R) (.list (fs.map Flt.d)) := dp_same ((nw_mono h3 sb59).trans newOf_same) dl.done
            have hq9 : H9 q = some (.lst (xs.map V.str)) := s9.at (s1 _ _ hq) qp
            refine ⟨_, rfl, .ref R, .list (fs.map Flt.d), rfl, wd_row d9 ok lf, ?_⟩
            refine ⟨_, rfl, _, rfl, .ref R, fs, y, xs, rfl, d9, ok, lf, ty, by omega, li, fun H10 ys s10 rr => ?_⟩
            refine ⟨_, rfl, _, rfl, .ref R, fs, q, xs, rfl, dp_same s10 d9, ok, lf, SqL.of (s10 _ _ hq9), li, fun H11 p2 zs2 s11 hz2 rr2 zl2 zo2 => ?_⟩
            have ez := rowR_one rr rr2
            subst ez
            have zo3 : ∀ z ∈ ys, z.length ≤ 1000 := fun z m => by have := zo2 z m; omega
            refine ⟨_, rfl, .str (tx ys), .ty "str", .type "str", .type "str", true, rfl, .ty _, .base (.str _), kit_ty (by decide +kernel), _, rfl, if_no rfl ⟨_, rfl, ⟨_, rfl⟩, _, rfl, p2, rfl, ⟨_, hz2⟩, fun D hD => ?_⟩⟩
            refine lc_it (walk_list (K := K) (xs := ys.map V.str)) (fun i H' => Same H11 H' ∧ H' D = some (.lst (((ys.map (· ++ nlS)).take i).map V.str))) ⟨same_upd hD, upd_same⟩ (fun i H' _ e => e.1.seq hz2) (fun i y HA H' hi e yy => ?_) (fun H' e => ?_)
            · obtain ⟨s1, hd1⟩ := e
              obtain ⟨rfl, hx⟩ := yy
              rw [List.getElem?_map] at hx
              obtain ⟨z, hz1, rfl⟩ := Option.map_eq_some_iff.mp hx
              have zl := zo3 z (List.mem_of_getElem? hz1)
              refine ⟨rfl, _, rfl, _, _, rfl, rfl, by rw [sizeLine_eq, show (("\n" : Str)).length = 1 from nl_len]; omega, _, hd1, ?_, same_upd2 s1 hD, ?_⟩
              · rw [List.length_map, List.length_take, List.length_map, sizeLine_eq]
                omega
              · rw [upd_same, take_snoc (x := z ++ nlS) (by rw [List.getElem?_map, hz1]; rfl), List.map_append]
                rfl
            · obtain ⟨s1, hd1⟩ := e
              rw [List.length_map, List.take_of_length_le (by rw [List.length_map]; exact Nat.le_refl _)] at hd1
              refine ⟨"", D, ys.map (· ++ nlS), rfl, rfl, .inl (SqL.of hd1), ?_, ?_⟩
              · have := out_sum (zs := ys) (by omega) zo3
                rw [show ("" : Str).length = 0 from by decide +kernel]
                omega
              · have ej := tx_join ys
                rw [show (ys.map (· ++ nlS)) = ys.map (fun x => x ++ ("\n" : Str)) from rfl, ej]
                refine ⟨rfl, _, rfl, if_no (by rw [decide_eq_true rfl]; rfl) ?_⟩
                have s12 := s10.trans (s11.trans s1)
                have d12 := dp_same s12 d9
                refine ⟨_, rfl, _, rfl, .ref R, fs, y, xs, rfl, d12, ok, lf, ty, by omega, li, fun H13 ys2 s13 rr3 => ⟨_, rfl, rfl, _, rfl, ?_⟩⟩
                have e3 := rowR_one rr3 rr
                refine if_yes (by rw [e3]; exact decide_eq_true rfl) ⟨_, rfl, .ref R, .list (fs.map Flt.d), rfl, wd_row (dp_same s13 d12) ok lf, _, rfl, rfl, ?_⟩
                rw [decide_eq_true rfl]
                exact k _
          
          · have keepG : ∀ H9, SB p H' H9 → ∃ y, [some (V.ref a), some (.ref p), some (.int (r2 : Nat)), some (.str x), some (.ref R), some (.ref q), some (.str (tx xs)), none, none, none, none] = [some (.ref a), some (.ref p), some (.int (r2 : Nat)), some (.str x), some (.ref R), some (.ref q), some (.str y), none, none, none, none] ∧ SB p H' H9 ∧ TxOf y xs ∧ y.length ≤ 10000 := fun H9 s9 => ⟨tx xs, rfl, s9, ⟨fun z m => line_fr (xo z m), .inl rfl⟩, tx_len xl xo⟩
            refine ⟨_, rfl, !(xs.map V.str).isEmpty, .inl ⟨_, hq8, rfl⟩, if_by (fun e1 => ?_) (fun e1 => ?_)⟩
            · have nz : xs ≠ [] := fun w => by rw [w] at e1; cases e1
              obtain ⟨ps, z, ez⟩ := last_of xs nz
              have la : atI (xs.map V.str) (-1) = some (V.str z) := by
                rw [ez, List.map_append]
                exact atI_last _ _
              refine ⟨_, rfl, 1, rfl, q, _, -1, _, rfl, rfl, hq8, la, rfl, _, rfl, if_by (fun e2 => ?_) (fun e2 => ?_)⟩
              · refine ⟨_, rfl, p, 3, 400, rfl, by omega, by omega, by omega, h8, fun H9 r9 s9 h9 l9 => ⟨rfl, _, rfl, if_by (fun _ => ?_) (fun _ => keepG H9 s9)⟩⟩
                refine ⟨_, rfl, _, rfl, _, rfl, tx xs, rfl, line_small (by have := tx_len xl xo; omega), cutS (tx xs) none (some (-1)), rfl, s9, ?_, Nat.le_trans (cutS_length _ _ _) (tx_len xl xo)⟩
                have zn : z ≠ "" := fun w => by
                  rw [w, eq_str] at e2
                  cases e2
                have ec : cutS (tx xs) none (some (-1)) = jn xs := by
                  refine str_ext ?_
                  rw [cutS_last, tx_end xs nz, cs_app, cs_nl, List.dropLast_concat]
                rw [ec]
                refine ⟨fun z m => line_fr (xo z m), .inr ⟨rfl, nz, fun w => zn ?_⟩⟩
                rw [ez, List.getLast?_concat] at w
                exact Option.some.inj w
              · exact if_no rfl (keepG H' (SB.refl _ _))
            · exact if_no rfl (keepG H' (SB.refl _ _))
    · refine ⟨_, rfl, _, _, rfl, rfl, _, rfl, if_by (fun e => ?_) (fun e => ?_)⟩
      · have e := of_decide_eq_true e
        obtain ⟨_, _, _, ys, hys, yall⟩ := id dl0
        refine ⟨_, rfl, .inl ⟨rfl, _, SqL.of hys⟩, _, rfl, _, rfl, _, rfl, p, 3, r2, x, rfl, by omega, by omega, h30, lt, fun H5 v f s5 h5 dv ok => ?_⟩
        obtain ⟨ys', hy', yl', dl'⟩ := dl0.add h3 h30 s5 dv
        refine ⟨R, _, _, rfl, rfl, hy', by rw [yl', sizeLine_eq]; decide, rfl, [f], fun g m => by rw [List.mem_singleton.mp m]; exact ok, Nat.le_refl 1, dl', (h5.off nRp).up (by omega)⟩
      · exact ⟨rfl, [], (fun g m => nomatch m), by decide, dl0, h30.up (by omega)⟩
end
end Qb
end PySem
namespace PySem
namespace Qb
open PySem.W PySem.Calls PyProof.Rows L2
/-- the law is called over the script -/
theorem glob_mk {K : Frag} {mg : Str → Option Value} {h : Heap} {x c d : Str} {t : Tok} (X : K.In h) (G : h.Ns mainGlobals mg) (a : nsIn K mainGlobals x = some (some (.str c t))) (e : c = d) : ∃ t, mg x = some (.str d t) := ⟨t, e ▸ mg_of X G a⟩
theorem glob_mkI {K : Frag} {mg : Str → Option Value} {h : Heap} {x : Str} {c d : Int} {t : Tok} (X : K.In h) (G : h.Ns mainGlobals mg) (a : nsIn K mainGlobals x = some (some (.int c t))) (e : c = d) : ∃ t, mg x = some (.int d t) := ⟨t, e ▸ mg_of X G a⟩
theorem two_lists {us ws : List Value} (h : us.length + ws.length = 2) : (us = [] ∧ ∃ u v, ws = [u, v]) ∨ (∃ u v, us = [u] ∧ ws = [v]) ∨ (∃ u v, us = [u, v] ∧ ws = []) := by
  match us, ws with
  | [], [u, v] => exact .inl ⟨rfl, u, v, rfl⟩
  | [u], [v] => exact .inr (.inl ⟨u, v, rfl, rfl⟩)
  | [u, v], [] => exact .inr (.inr ⟨u, v, rfl, rfl⟩)
  | [], [] => simp at h
  | [], [_] => simp at h
  | [], _ :: _ :: _ :: _ => simp at h
  | [_], [] => simp at h
  | [_], _ :: _ :: _ => simp at h <;> omega
  | [_, _], _ :: _ => simp at h <;> omega
  | _ :: _ :: _ :: _, _ => simp at h <;> omega
theorem vals_rev {zs : List V} {ws : List Value} (r : Vals zs ws) : Vals zs.reverse ws.reverse := by
  induction r with
  | nil => exact .nil
  | cons h t ih =>
    rw [List.reverse_cons, List.reverse_cons]
    exact ih.append (.cons h .nil)
/-- the law holds, by what the text's top has left -/
theorem law_holds {P : Program} {w : World} {K : Frag} {mg mb : Str → Option Value} {s : Shared} {fa a C : Addr} {vs : List Value} {ns : List Int} {f0 f1 f2 f3 f4 f5 f6 f7 f8 f9 f10 f11 f12 f13 f14 f15 f16 f17 f18 f19 f20 f21 f22 f23 f24 f25 f26 f27 f28 f29 f30 f31 f32 f33 f34 f35 f36 f37 f38 f39 f40 f41 f42 f43 : Addr} {d0 d1 d2 d3 d4 d5 d6 d7 d8 d9 d10 d11 d12 d13 d14 d15 d16 d17 d18 d19 d20 d21 d22 d23 d24 d25 d26 d27 d28 d29 d30 d31 d32 d33 d34 d35 d36 d37 d38 d39 d40 d41 d42 d43 : FuncData}
    (KX : K.In s.heap) (hns : s.heap.Ns mainGlobals mg) (hb : s.heap.Ns builtinsNs mb) (hbb : ∀ x : Str, x ≠ "__name__" → mb x = bootBuiltins x) (lim : s.heap.NoLimit) (hg : s.gens = #[])
    (ha : s.heap.get? a = some { cls := .type "list", data := .seq vs.toArray }) (hi : IntsAre vs ns) (hl : ns.length ≤ 63)
    (W : Wrt mg) (B : Blt mg) (Z : BltZ mg) (An : mg "any" = none) (Rp : mg "repr" = none) (T : Txt K mg C)
    (F0 : Fun K "is_sign" "is_sign" sSg f0 d0) (g0 : mg "is_sign" = some (.ref f0))
    (F1 : Fun K "is_range" "is_range" sRg f1 d1) (g1 : mg "is_range" = some (.ref f1))
    (F2 : Fun K "is_pattern_piece" "is_pattern_piece" sPp f2 d2) (g2 : mg "is_pattern_piece" = some (.ref f2))
    (F3 : Fun K "is_pattern" "is_pattern" sPa f3 d3) (g3 : mg "is_pattern" = some (.ref f3))
    (F4 : Fun K "set_of" "set_of" sSo f4 d4) (g4 : mg "set_of" = some (.ref f4))
    (F5 : Fun K "rows_told" "rows_told" sRt f5 d5) (g5 : mg "rows_told" = some (.ref f5))
    (F6 : Fun K "closed" "Machine.closed" sCl f6 d6) (m6 : Meth K C "closed" f6)
    (F7 : Fun K "stepped" "Machine.stepped" sSd f7 d7) (m7 : Meth K C "stepped" f7)
    (F8 : Fun K "lets" "Machine.lets" sLe f8 d8) (m8 : Meth K C "lets" f8)
    (F9 : Fun K "mask_of" "Machine.mask_of" sMo f9 d9) (m9 : Meth K C "mask_of" f9)
    (F10 : Fun K "add_row" "Machine.add_row" sAr f10 d10) (m10 : Meth K C "add_row" f10)
    (F11 : Fun K "__init__" "Machine.__init__" sIn f11 d11) (MIn : Mk K C f11)
    (F12 : Fun K "lets_by" "Machine.lets_by" sLb f12 d12) (m12 : Meth K C "lets_by" f12)
    (F13 : Fun K "lines_of" "lines_of" sLf f13 d13) (g13 : mg "lines_of" = some (.ref f13))
    (F14 : Fun K "text_of" "text_of" sTf f14 d14) (g14 : mg "text_of" = some (.ref f14))
    (F15 : Fun K "swapped" "swapped" sSw f15 d15) (g15 : mg "swapped" = some (.ref f15))
    (F16 : Fun K "filter_lines" "filter_lines" sFl f16 d16) (g16 : mg "filter_lines" = some (.ref f16))
    (F17 : Fun K "is_line_sign" "is_line_sign" sLs f17 d17) (g17 : mg "is_line_sign" = some (.ref f17))
    (F18 : Fun K "is_pair" "is_pair" sIpr f18 d18) (g18 : mg "is_pair" = some (.ref f18))
    (F19 : Fun K "are_unlike" "are_unlike" sAu f19 d19) (g19 : mg "are_unlike" = some (.ref f19))
    (F20 : Fun K "are_pairs" "are_pairs" sAp f20 d20) (g20 : mg "are_pairs" = some (.ref f20))
    (F21 : Fun K "is_filter" "is_filter" sIf f21 d21) (g21 : mg "is_filter" = some (.ref f21))
    (F22 : Fun K "is_row" "is_row" sIr f22 d22) (g22 : mg "is_row" = some (.ref f22))
    (F23 : Fun K "filtered" "filtered" sFi f23 d23) (g23 : mg "filtered" = some (.ref f23))
    (F24 : Fun K "_law_signs" "_law_signs" sAl f24 d24) (g24 : mg "_law_signs" = some (.ref f24))
    (F25 : Fun K "_law_cell" "_law_cell" sCe f25 d25) (g25 : mg "_law_cell" = some (.ref f25))
    (F26 : Fun K "_law_hand" "_law_hand" sHa f26 d26) (g26 : mg "_law_hand" = some (.ref f26))
    (F27 : Fun K "_law_take" "_law_take" sTk f27 d27) (g27 : mg "_law_take" = some (.ref f27))
    (F28 : Fun K "_law_letters" "_law_letters" sLe2 f28 d28) (g28 : mg "_law_letters" = some (.ref f28))
    (F29 : Fun K "_law_sign" "_law_sign" sSi f29 d29) (g29 : mg "_law_sign" = some (.ref f29))
    (F30 : Fun K "_law_range" "_law_range" sRa f30 d30) (g30 : mg "_law_range" = some (.ref f30))
    (F31 : Fun K "_law_number" "_law_number" sNu f31 d31) (g31 : mg "_law_number" = some (.ref f31))
    (F32 : Fun K "_law_entry" "_law_entry" sEn f32 d32) (g32 : mg "_law_entry" = some (.ref f32))
    (F33 : Fun K "_law_pattern" "_law_pattern" sPt f33 d33) (g33 : mg "_law_pattern" = some (.ref f33))
    (F34 : Fun K "_law_line" "_law_line" sLi f34 d34) (g34 : mg "_law_line" = some (.ref f34))
    (F35 : Fun K "_law_pairs" "_law_pairs" sPrs f35 d35) (g35 : mg "_law_pairs" = some (.ref f35))
    (F36 : Fun K "_law_filter" "_law_filter" sFr f36 d36) (g36 : mg "_law_filter" = some (.ref f36))
    (F37 : Fun K "_law_lines" "_law_lines" sLns f37 d37) (g37 : mg "_law_lines" = some (.ref f37))
    (F38 : Fun K "_law_fits" "_law_fits" sFt f38 d38) (g38 : mg "_law_fits" = some (.ref f38))
    (F39 : Fun K "_law_swapped" "_law_swapped" sSd2 f39 d39) (g39 : mg "_law_swapped" = some (.ref f39))
    (F40 : Fun K "_law_meets" "_law_meets" sMe f40 d40) (g40 : mg "_law_meets" = some (.ref f40))
    (F41 : Fun K "_law_passed" "_law_passed" sPd f41 d41) (g41 : mg "_law_passed" = some (.ref f41))
    (F42 : Fun K "_law_written" "_law_written" sWr f42 d42) (g42 : mg "_law_written" = some (.ref f42))
    (F43 : Fun K "law" "law" sLw f43 d43) (g43 : mg "law" = some (.ref f43))
    (hfa : mg "law" = some (.ref fa)) : codeAny (model P w) callerA (.call (.ref fa) ⟨[.ref a], []⟩) (fun r s' => r = .ok (.ret (.bool true)) ∧ OldK s.heap s'.heap ∧ s'.os = s.os ∧ AllBare s'.gens) s := by
  have e := hfa.symm.trans g43
  cases e
  have b0 := F0.binds (ps := ["text"]) fun _ _ _ _ _ _ us hl => match us, hl with | [_], _ => rfl
  have b1 := F1.binds (ps := ["told"]) fun _ _ _ _ _ _ us hl => match us, hl with | [_], _ => rfl
  have b2 := F2.binds (ps := ["piece"]) fun _ _ _ _ _ _ us hl => match us, hl with | [_], _ => rfl
  have b3 := F3.binds (ps := ["pattern"]) fun _ _ _ _ _ _ us hl => match us, hl with | [_], _ => rfl
  have b4 := F4.binds (ps := ["piece"]) fun _ _ _ _ _ _ us hl => match us, hl with | [_], _ => rfl
  have b5 := F5.binds (ps := ["pieces"]) fun _ _ _ _ _ _ us hl => match us, hl with | [_], _ => rfl
  have b6 := F6.binds (ps := ["self", "standing"]) fun _ _ _ _ _ _ us hl => match us, hl with | [_, _], _ => rfl
  have b7 := F7.binds (ps := ["self", "standing", "mask"]) fun _ _ _ _ _ _ us hl => match us, hl with | [_, _, _], _ => rfl
  have b8 := F8.binds (ps := ["self", "standing", "index"]) fun _ _ _ _ _ _ us hl => match us, hl with | [_, _, _], _ => rfl
  have b9 := F9.binds (ps := ["self", "sign"]) fun _ _ _ _ _ _ us hl => match us, hl with | [_, _], _ => rfl
  have b10 := F10.binds (ps := ["self", "pattern"]) fun _ _ _ _ _ _ us hl => match us, hl with | [_, _], _ => rfl
  have b11 := F11.binds (ps := ["self", "patterns"]) fun _ _ _ _ _ _ us hl => match us, hl with | [_, _], _ => rfl
  have b12 := F12.binds (ps := ["self", "text"]) fun _ _ _ _ _ _ us hl => match us, hl with | [_, _], _ => rfl
  have b13 := F13.binds (ps := ["text"]) fun _ _ _ _ _ _ us hl => match us, hl with | [_], _ => rfl
  have b14 := F14.binds (ps := ["lines"]) fun _ _ _ _ _ _ us hl => match us, hl with | [_], _ => rfl
  have b15 := F15.binds (ps := ["line", "table"]) fun _ _ _ _ _ _ us hl => match us, hl with | [_, _], _ => rfl
  have b16 := F16.binds (ps := ["one", "lines"]) fun _ _ _ _ _ _ us hl => match us, hl with | [_, _], _ => rfl
  have b17 := F17.binds (ps := ["text"]) fun _ _ _ _ _ _ us hl => match us, hl with | [_], _ => rfl
  have b18 := F18.binds (ps := ["pair"]) fun _ _ _ _ _ _ us hl => match us, hl with | [_], _ => rfl
  have b19 := F19.binds (ps := ["texts"]) fun _ _ _ _ _ _ us hl => match us, hl with | [_], _ => rfl
  have b20 := F20.binds (ps := ["pairs"]) fun _ _ _ _ _ _ us hl => match us, hl with | [_], _ => rfl
  have b21 := F21.binds (ps := ["one"]) fun _ _ _ _ _ _ us hl => match us, hl with | [_], _ => rfl
  have b22 := F22.binds (ps := ["row"]) fun _ _ _ _ _ _ us hl => match us, hl with | [_], _ => rfl
  have b23 := F23.binds (ps := ["row", "text"]) fun _ _ _ _ _ _ us hl => match us, hl with | [_, _], _ => rfl
  have b24 := F24.binds (ps := []) fun _ _ _ _ _ _ us hl => match us, hl with | [], _ => rfl
  have b25 := F25.binds (ps := ["_law_script", "_law_k"]) fun _ _ _ _ _ _ us hl => match us, hl with | [_, _], _ => rfl
  have b26 := F26.binds (ps := ["_law_cell_here"]) fun _ _ _ _ _ _ us hl => match us, hl with | [_], _ => rfl
  have b27 := F27.binds (ps := ["_law_hand_here", "_law_many"]) fun _ _ _ _ _ _ us hl => match us, hl with | [_, _], _ => rfl
  have b28 := F28.binds (ps := ["_law_hand_here"]) fun _ _ _ _ _ _ us hl => match us, hl with | [_], _ => rfl
  have b29 := F29.binds (ps := ["_law_hand_here", "_law_letters_here"]) fun _ _ _ _ _ _ us hl => match us, hl with | [_, _], _ => rfl
  have b30 := F30.binds (ps := ["_law_hand_here", "_law_letters_here"]) fun _ _ _ _ _ _ us hl => match us, hl with | [_, _], _ => rfl
  have b31 := F31.binds (ps := ["_law_hand_here"]) fun _ _ _ _ _ _ us hl => match us, hl with | [_], _ => rfl
  have b32 := F32.binds (ps := ["_law_hand_here", "_law_letters_here"]) fun _ _ _ _ _ _ us hl => match us, hl with | [_, _], _ => rfl
  have b33 := F33.binds (ps := ["_law_hand_here", "_law_letters_here", "_law_most"]) fun _ _ _ _ _ _ us hl => match us, hl with | [_, _, _], _ => rfl
  have b34 := F34.binds (ps := ["_law_hand_here", "_law_letters_here"]) fun _ _ _ _ _ _ us hl => match us, hl with | [_, _], _ => rfl
  have b35 := F35.binds (ps := ["_law_hand_here", "_law_letters_here"]) fun _ _ _ _ _ _ us hl => match us, hl with | [_, _], _ => rfl
  have b36 := F36.binds (ps := ["_law_hand_here", "_law_letters_here", "_law_kind"]) fun _ _ _ _ _ _ us hl => match us, hl with | [_, _, _], _ => rfl
  have b37 := F37.binds (ps := ["_law_script", "_law_start", "_law_most", "_law_letters_here"]) fun _ _ _ _ _ _ us hl => match us, hl with | [_, _, _, _], _ => rfl
  have b38 := F38.binds (ps := ["_law_entry_here", "_law_sign_here"]) fun _ _ _ _ _ _ us hl => match us, hl with | [_, _], _ => rfl
  have b39 := F39.binds (ps := ["_law_line_here", "_law_pairs_here"]) fun _ _ _ _ _ _ us hl => match us, hl with | [_, _], _ => rfl
  have b40 := F40.binds (ps := ["_law_pattern_here", "_law_text"]) fun _ _ _ _ _ _ us hl => match us, hl with | [_, _], _ => rfl
  have b41 := F41.binds (ps := ["_law_entry_here", "_law_lines_here"]) fun _ _ _ _ _ _ us hl => match us, hl with | [_, _], _ => rfl
  have b42 := F42.binds (ps := ["_law_row", "_law_lines_here"]) fun _ _ _ _ _ _ us hl => match us, hl with | [_, _], _ => rfl
  have kb23 : KBinds K d23 ["row", "text"] ["text", "row"] (fun us ws => us ++ ws.reverse) (fun vs zs => vs ++ zs.reverse) := by
    obtain ⟨oc, od, kV, doc, pm, an, cdv, ct, osl, rfl, lk, hcd⟩ := F23.ex
    refine ⟨fun s us ws _ hl => ?_, fun r rz => r.append (vals_rev rz)⟩
    rw [List.length_append, List.length_reverse] at hl
    rcases two_lists hl with ⟨rfl, u, v, rfl⟩ | ⟨u, v, rfl, rfl⟩ | ⟨u, v, rfl, rfl⟩
    · exact .of_eq rfl
    · exact .of_eq rfl
    · exact .of_eq rfl
  have bL : ∀ (s : Shared) (u : Value), BindsTo s d43 ⟨[u], []⟩ ((["_law_script"] : List Str).zip [u]) := by
    obtain ⟨oc, od, kV, doc, pm, an, cdv, ct, osl, rfl, lk, hcd⟩ := F43.ex
    exact fun s u => .of_eq rfl
  refine law_at KX hns hb hbb lim hg ha hi (Nat.le_trans hl (by decide)) fun base H hK hN env sq => ?_
  have oSg := has_Sg (P := P) (w := w) (base := base) F0 g0 B W
  have oRg := has_Rg (P := P) (w := w) (base := base) F1 g1 B oSg
  have oPp := has_Pp (P := P) (w := w) (base := base) F2 g2 B oSg oRg
  have oPa := has_of F3 g3 b3 (has_Pa (P := P) (w := w) (base := base) F3 g3 B oPp)
  have oSo := has_So (P := P) (w := w) (base := base) F4 g4 B W
  have oRt := has_Rt (P := P) (w := w) (base := base) F5 g5 B
  have oCl := has_Cl (P := P) (w := w) (base := base) F6 m6 B T
  have oSd := has_Sd (P := P) (w := w) (base := base) F7 m7 B T oCl
  have oLe := has_Le (P := P) (w := w) (base := base) F8 m8 B T
  have oMo := has_Mo (P := P) (w := w) (base := base) F9 m9 B W T
  have oAr := has_Ar (P := P) (w := w) (base := base) F10 m10 B T oSo
  have GIn := ok_In (P := P) (w := w) (base := base) F11 B T oAr oRt oCl
  have oLb := has_Lb (P := P) (w := w) (base := base) F12 m12 B T oSd oMo oLe
  have oLf := has_Lf (P := P) (w := w) (base := base) F13 g13 B
  have oTf := has_Tf (P := P) (w := w) (base := base) F14 g14 B
  have oSw := has_Sw (P := P) (w := w) (base := base) F15 g15 B
  have oFl := has_Fl (P := P) (w := w) (base := base) F16 g16 B Z T MIn b11 GIn oLb oSw
  have oLs := has_Ls (P := P) (w := w) (base := base) F17 g17 B oSg
  have oIpr := has_Ipr (P := P) (w := w) (base := base) F18 g18 B oLs
  have oAu := has_Au (P := P) (w := w) (base := base) F19 g19 B Z
  have oAp := has_Ap (P := P) (w := w) (base := base) F20 g20 B oAu oIpr
  have oIf := has_If (P := P) (w := w) (base := base) F21 g21 B oPa oAp
  have oIr := has_Ir (P := P) (w := w) (base := base) F22 g22 B oIf
  have oFi : HasR P w K mg base _ "filtered" _ ["text", "row"] _ := ⟨_, _, g23, F23.kp, b23, kb23, ok_Fi (P := P) (w := w) (base := base) F23 B oIr oLf oFl oTf⟩
  have oAl := has_Al (P := P) (w := w) (base := base) F24 g24 B
  have oCe := has_Ce (P := P) (w := w) (base := base) F25 g25 B
  have oHa := has_Ha (P := P) (w := w) (base := base) F26 g26 B
  have oTk := has_Tk (P := P) (w := w) (base := base) F27 g27 B
  have oLe2 := has_Le2 (P := P) (w := w) (base := base) F28 g28 B oTk oAl
  have oSi := has_Si (P := P) (w := w) (base := base) F29 g29 B oTk oAl
  have oRa := has_Ra (P := P) (w := w) (base := base) F30 g30 B oSi oTk
  have oNu := has_Nu (P := P) (w := w) (base := base) F31 g31 B oTk
  have oEn := has_En (P := P) (w := w) (base := base) F32 g32 B oTk oSi oRa
  have oPt := has_Pt (P := P) (w := w) (base := base) F33 g33 B oTk oEn
  have oLi := has_Li (P := P) (w := w) (base := base) F34 g34 B oTk oSi
  have oPrs := has_Prs (P := P) (w := w) (base := base) F35 g35 B oTk oSi oAl
  have oFr := has_Fr (P := P) (w := w) (base := base) F36 g36 B oPt oPrs oNu
  have oLns := has_Lns (P := P) (w := w) (base := base) F37 g37 B oHa oCe oTk oLi
  have oFt := has_Ft (P := P) (w := w) (base := base) F38 g38 B An
  have oSd2 := has_Sd2 (P := P) (w := w) (base := base) F39 g39 B
  have oMe := has_Me (P := P) (w := w) (base := base) F40 g40 B oFt
  have oPd := has_Pd (P := P) (w := w) (base := base) F41 g41 B Z oSd2 oMe
  have oWr := has_Wr (P := P) (w := w) (base := base) F42 g42 B oPd
  have hr : Room 10 callerA := ⟨rfl, by decide, by decide⟩
  exact ok_Lw (vs := [.ref a]) F43 B Rp oHa oCe oTk oLe2 oFr oLns oFi oWr (A := callerA) rfl hr env (bL s (.ref a)) (.cons rfl .nil) ⟨a, ns, rfl, sq, hl, fun _ => rfl⟩
end Qb
end PySem
open PySem PySem.W PyProof.Rows
set_option maxRecDepth 100000 in
set_option maxHeartbeats 0 in
theorem PySem.Challenge.cw_quotedback_k56_each_filter_by_its_lines_holds : PySem.Challenge.rw_quotedback_k56_each_filter_by_its_lines.Holds := by
  w_on; o_law; k_head; (case hw => w_witness2)
  k_fill
  refine Att.attach_call (l := PySem.Challenge.rw_quotedback_k56_each_filter_by_its_lines) (n := 63) rfl rfl ?F
  case F =>
    intro w s₀ s₁ mg mb fa o pm cd doc a vs ns G Y ho hd hcd hmg hobj hints hlen hg
    have KX := kIn_of Y
    refine' PySem.Qb.law_holds KX G.T.g G.T.b G.T.builtins G.T.nolimit hg hobj hints hlen
      ⟨PySem.Qb.glob_mk KX G.T.g ?s0 ?e0, PySem.Qb.glob_mkI KX G.T.g ?s1 ?e1⟩
      ⟨mg_none_of KX G.T.g ?y0, mg_none_of KX G.T.g ?y1, mg_none_of KX G.T.g ?y2, mg_none_of KX G.T.g ?y3, mg_none_of KX G.T.g ?y4, mg_none_of KX G.T.g ?y5, mg_none_of KX G.T.g ?y6, mg_none_of KX G.T.g ?y7, mg_none_of KX G.T.g ?y8, mg_none_of KX G.T.g ?y9, mg_none_of KX G.T.g ?y10, mg_none_of KX G.T.g ?y11, mg_none_of KX G.T.g ?y12, mg_none_of KX G.T.g ?y13⟩
      ⟨mg_none_of KX G.T.g ?z0, mg_none_of KX G.T.g ?z1, mg_none_of KX G.T.g ?z2⟩ (mg_none_of KX G.T.g ?z3) (mg_none_of KX G.T.g ?z4)
      ⟨⟨?pg, ?hdC, ?po, ?sa⟩, ?n0, ?n1, ?n2, ?n3, ?n4, ?n5, mg_of KX G.T.g ?aC⟩
      (L2.fun_mk ?lf0 ?cf0 ?kf0) (mg_of KX G.T.g ?af0)
      (L2.fun_mk ?lf1 ?cf1 ?kf1) (mg_of KX G.T.g ?af1)
      (L2.fun_mk ?lf2 ?cf2 ?kf2) (mg_of KX G.T.g ?af2)
      (L2.fun_mk ?lf3 ?cf3 ?kf3) (mg_of KX G.T.g ?af3)
      (L2.fun_mk ?lf4 ?cf4 ?kf4) (mg_of KX G.T.g ?af4)
      (L2.fun_mk ?lf5 ?cf5 ?kf5) (mg_of KX G.T.g ?af5)
      (L2.fun_mk ?lf6 ?cf6 ?kf6) ⟨?ai6, ?ii6, ?ki6⟩
      (L2.fun_mk ?lf7 ?cf7 ?kf7) ⟨?ai7, ?ii7, ?ki7⟩
      (L2.fun_mk ?lf8 ?cf8 ?kf8) ⟨?ai8, ?ii8, ?ki8⟩
      (L2.fun_mk ?lf9 ?cf9 ?kf9) ⟨?ai9, ?ii9, ?ki9⟩
      (L2.fun_mk ?lf10 ?cf10 ?kf10) ⟨?ai10, ?ii10, ?ki10⟩
      (L2.fun_mk ?lf11 ?cf11 ?kf11) ⟨?mk, ?ai11, ?ii11, ?kc⟩
      (L2.fun_mk ?lf12 ?cf12 ?kf12) ⟨?ai12, ?ii12, ?ki12⟩
      (L2.fun_mk ?lf13 ?cf13 ?kf13) (mg_of KX G.T.g ?af13)
      (L2.fun_mk ?lf14 ?cf14 ?kf14) (mg_of KX G.T.g ?af14)
      (L2.fun_mk ?lf15 ?cf15 ?kf15) (mg_of KX G.T.g ?af15)
      (L2.fun_mk ?lf16 ?cf16 ?kf16) (mg_of KX G.T.g ?af16)
      (L2.fun_mk ?lf17 ?cf17 ?kf17) (mg_of KX G.T.g ?af17)
      (L2.fun_mk ?lf18 ?cf18 ?kf18) (mg_of KX G.T.g ?af18)
      (L2.fun_mk ?lf19 ?cf19 ?kf19) (mg_of KX G.T.g ?af19)
      (L2.fun_mk ?lf20 ?cf20 ?kf20) (mg_of KX G.T.g ?af20)
      (L2.fun_mk ?lf21 ?cf21 ?kf21) (mg_of KX G.T.g ?af21)
      (L2.fun_mk ?lf22 ?cf22 ?kf22) (mg_of KX G.T.g ?af22)
      (L2.fun_mk ?lf23 ?cf23 ?kf23) (mg_of KX G.T.g ?af23)
      (L2.fun_mk ?lf24 ?cf24 ?kf24) (mg_of KX G.T.g ?af24)
      (L2.fun_mk ?lf25 ?cf25 ?kf25) (mg_of KX G.T.g ?af25)
      (L2.fun_mk ?lf26 ?cf26 ?kf26) (mg_of KX G.T.g ?af26)
      (L2.fun_mk ?lf27 ?cf27 ?kf27) (mg_of KX G.T.g ?af27)
      (L2.fun_mk ?lf28 ?cf28 ?kf28) (mg_of KX G.T.g ?af28)
      (L2.fun_mk ?lf29 ?cf29 ?kf29) (mg_of KX G.T.g ?af29)
      (L2.fun_mk ?lf30 ?cf30 ?kf30) (mg_of KX G.T.g ?af30)
      (L2.fun_mk ?lf31 ?cf31 ?kf31) (mg_of KX G.T.g ?af31)
      (L2.fun_mk ?lf32 ?cf32 ?kf32) (mg_of KX G.T.g ?af32)
      (L2.fun_mk ?lf33 ?cf33 ?kf33) (mg_of KX G.T.g ?af33)
      (L2.fun_mk ?lf34 ?cf34 ?kf34) (mg_of KX G.T.g ?af34)
      (L2.fun_mk ?lf35 ?cf35 ?kf35) (mg_of KX G.T.g ?af35)
      (L2.fun_mk ?lf36 ?cf36 ?kf36) (mg_of KX G.T.g ?af36)
      (L2.fun_mk ?lf37 ?cf37 ?kf37) (mg_of KX G.T.g ?af37)
      (L2.fun_mk ?lf38 ?cf38 ?kf38) (mg_of KX G.T.g ?af38)
      (L2.fun_mk ?lf39 ?cf39 ?kf39) (mg_of KX G.T.g ?af39)
      (L2.fun_mk ?lf40 ?cf40 ?kf40) (mg_of KX G.T.g ?af40)
      (L2.fun_mk ?lf41 ?cf41 ?kf41) (mg_of KX G.T.g ?af41)
      (L2.fun_mk ?lf42 ?cf42 ?kf42) (mg_of KX G.T.g ?af42)
      (L2.fun_mk ?lf43 ?cf43 ?kf43) (mg_of KX G.T.g ?af43) hmg
    (case s0 => k_is)
    (case s1 => k_is)
    (case z0 => k_is)
    (case z1 => k_is)
    (case z2 => k_is)
    (case z3 => k_is)
    (case z4 => k_is)
    (case y0 => k_is)
    (case y1 => k_is)
    (case y2 => k_is)
    (case y3 => k_is)
    (case y4 => k_is)
    (case y5 => k_is)
    (case y6 => k_is)
    (case y7 => k_is)
    (case y8 => k_is)
    (case y9 => k_is)
    (case y10 => k_is)
    (case y11 => k_is)
    (case y12 => k_is)
    (case y13 => k_is)
    (case aC => k_is)
    (case pg => k_is)
    (case hdC => k_is)
    (case po => k_is)
    (case sa => k_is)
    (case n0 => unfold L2.NoAttr; k_is)
    (case n1 => unfold L2.NoAttr; k_is)
    (case n2 => unfold L2.NoAttr; k_is)
    (case n3 => unfold L2.NoAttr; k_is)
    (case n4 => unfold L2.NoAttr; k_is)
    (case n5 => unfold L2.NoAttr; k_is)
    (case af0 => k_is)
    (case lf0 => k_is)
    (case cf0 => k_is)
    (case kf0 => k_is)
    (case af1 => k_is)
    (case lf1 => k_is)
    (case cf1 => k_is)
    (case kf1 => k_is)
    (case af2 => k_is)
    (case lf2 => k_is)
    (case cf2 => k_is)
    (case kf2 => k_is)
    (case af3 => k_is)
    (case lf3 => k_is)
    (case cf3 => k_is)
    (case kf3 => k_is)
    (case af4 => k_is)
    (case lf4 => k_is)
    (case cf4 => k_is)
    (case kf4 => k_is)
    (case af5 => k_is)
    (case lf5 => k_is)
    (case cf5 => k_is)
    (case kf5 => k_is)
    (case ai6 => k_is)
    (case ii6 => k_is)
    (case ki6 => k_is)
    (case lf6 => k_is)
    (case cf6 => k_is)
    (case kf6 => k_is)
    (case ai7 => k_is)
    (case ii7 => k_is)
    (case ki7 => k_is)
    (case lf7 => k_is)
    (case cf7 => k_is)
    (case kf7 => k_is)
    (case ai8 => k_is)
    (case ii8 => k_is)
    (case ki8 => k_is)
    (case lf8 => k_is)
    (case cf8 => k_is)
    (case kf8 => k_is)
    (case ai9 => k_is)
    (case ii9 => k_is)
    (case ki9 => k_is)
    (case lf9 => k_is)
    (case cf9 => k_is)
    (case kf9 => k_is)
    (case ai10 => k_is)
    (case ii10 => k_is)
    (case ki10 => k_is)
    (case lf10 => k_is)
    (case cf10 => k_is)
    (case kf10 => k_is)
    (case mk => k_is)
    (case ai11 => k_is)
    (case ii11 => k_is)
    (case kc => k_is)
    (case lf11 => k_is)
    (case cf11 => k_is)
    (case kf11 => k_is)
    (case ai12 => k_is)
    (case ii12 => k_is)
    (case ki12 => k_is)
    (case lf12 => k_is)
    (case cf12 => k_is)
    (case kf12 => k_is)
    (case af13 => k_is)
    (case lf13 => k_is)
    (case cf13 => k_is)
    (case kf13 => k_is)
    (case af14 => k_is)
    (case lf14 => k_is)
    (case cf14 => k_is)
    (case kf14 => k_is)
    (case af15 => k_is)
    (case lf15 => k_is)
    (case cf15 => k_is)
    (case kf15 => k_is)
    (case af16 => k_is)
    (case lf16 => k_is)
    (case cf16 => k_is)
    (case kf16 => k_is)
    (case af17 => k_is)
    (case lf17 => k_is)
    (case cf17 => k_is)
    (case kf17 => k_is)
    (case af18 => k_is)
    (case lf18 => k_is)
    (case cf18 => k_is)
    (case kf18 => k_is)
    (case af19 => k_is)
    (case lf19 => k_is)
    (case cf19 => k_is)
    (case kf19 => k_is)
    (case af20 => k_is)
    (case lf20 => k_is)
    (case cf20 => k_is)
    (case kf20 => k_is)
    (case af21 => k_is)
    (case lf21 => k_is)
    (case cf21 => k_is)
    (case kf21 => k_is)
    (case af22 => k_is)
    (case lf22 => k_is)
    (case cf22 => k_is)
    (case kf22 => k_is)
    (case af23 => k_is)
    (case lf23 => k_is)
    (case cf23 => k_is)
    (case kf23 => k_is)
    (case af24 => k_is)
    (case lf24 => k_is)
    (case cf24 => k_is)
    (case kf24 => k_is)
    (case af25 => k_is)
    (case lf25 => k_is)
    (case cf25 => k_is)
    (case kf25 => k_is)
    (case af26 => k_is)
    (case lf26 => k_is)
    (case cf26 => k_is)
    (case kf26 => k_is)
    (case af27 => k_is)
    (case lf27 => k_is)
    (case cf27 => k_is)
    (case kf27 => k_is)
    (case af28 => k_is)
    (case lf28 => k_is)
    (case cf28 => k_is)
    (case kf28 => k_is)
    (case af29 => k_is)
    (case lf29 => k_is)
    (case cf29 => k_is)
    (case kf29 => k_is)
    (case af30 => k_is)
    (case lf30 => k_is)
    (case cf30 => k_is)
    (case kf30 => k_is)
    (case af31 => k_is)
    (case lf31 => k_is)
    (case cf31 => k_is)
    (case kf31 => k_is)
    (case af32 => k_is)
    (case lf32 => k_is)
    (case cf32 => k_is)
    (case kf32 => k_is)
    (case af33 => k_is)
    (case lf33 => k_is)
    (case cf33 => k_is)
    (case kf33 => k_is)
    (case af34 => k_is)
    (case lf34 => k_is)
    (case cf34 => k_is)
    (case kf34 => k_is)
    (case af35 => k_is)
    (case lf35 => k_is)
    (case cf35 => k_is)
    (case kf35 => k_is)
    (case af36 => k_is)
    (case lf36 => k_is)
    (case cf36 => k_is)
    (case kf36 => k_is)
    (case af37 => k_is)
    (case lf37 => k_is)
    (case cf37 => k_is)
    (case kf37 => k_is)
    (case af38 => k_is)
    (case lf38 => k_is)
    (case cf38 => k_is)
    (case kf38 => k_is)
    (case af39 => k_is)
    (case lf39 => k_is)
    (case cf39 => k_is)
    (case kf39 => k_is)
    (case af40 => k_is)
    (case lf40 => k_is)
    (case cf40 => k_is)
    (case kf40 => k_is)
    (case af41 => k_is)
    (case lf41 => k_is)
    (case cf41 => k_is)
    (case kf41 => k_is)
    (case af42 => k_is)
    (case lf42 => k_is)
    (case cf42 => k_is)
    (case kf42 => k_is)
    (case af43 => k_is)
    (case lf43 => k_is)
    (case cf43 => k_is)
    (case kf43 => k_is)
    (case e0 => first | rfl | decide +kernel)
    (case e1 => first | rfl | decide +kernel)
